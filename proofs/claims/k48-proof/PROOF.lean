import PyProof.Rows.All
import Wide.All
import OpenK.AllK
import Wide.FinOn
import Lean
import PyProof.EqAt
import PyProof.EqKinds
import PyProof.TupleCall
import PySem.Challenge.RW_twomarks_k48_double_papers
set_option Elab.async false
set_option linter.all false
set_option maxRecDepth 100000
set_option maxHeartbeats 0
noncomputable abbrev My.vw : PySem.Program := PySem.W.view
 PySem.Challenge.rw_twomarks_k48_double_papers.row.prog [1, 2, 4, 5, 7, 8, 9, 11, 12, 13, 14, 15, 16, 17, 18, 19, 20, 21, 22, 23, 24, 25, 27, 28, 29, 30, 31, 32, 33, 34, 35, 36, 37, 38, 39, 40, 41, 43, 44, 45, 46, 47, 48, 49, 50, 51, 52, 53, 54, 55, 56, 57, 58, 59, 60, 61, 62, 63, 64, 65]
open PySem PySem.W in
theorem My.hd_s {p:Program} {N:Nat} {α β:Type} {S:Shared->α×β} {G:α×β} (a:∀ w,(openEnds treeTable p w N).map (λs=>(S s).1)=some G.1) (b:∀ w,(openEnds treeTable p w N).map (λs=>(S s).2)=some G.2):∀ w,(openEnds treeTable p w N).map S=some G:=λw=>by
 have h:=a w
 have g:=b w
 cases e:openEnds treeTable p w N with
 | none=>rw [e] at h;exact nomatch h
 | some s=>rw [e,Option.map_some] at h g;rw [Option.map_some];exact congrArg some (Prod.ext (Option.some.inj h) (Option.some.inj g))
open PySem PySem.W in
theorem My.hd_l {p q:Program} {loose:List Str} {Xt:Shared->Bool} {α:Type} {Yf:Shared->α} {Ya:World->α} {N:Nat} (a:∀ w,(openEnds treeTable p w N).map (λs=>openSeen q loose (importedModules p.main.body) Xt true s)=some (openGood q loose)) (b:∀ w,(openEnds treeTable p w N).map Yf=some (Ya w)):LeftO p q loose Xt Yf Ya N:=λw=>by
 have h:=a w
 have g:=b w
 cases e:openEnds treeTable p w N with
 | none=>rw [e] at h;exact nomatch h
 | some s=>rw [e,Option.map_some] at h g;rw [Option.map_some,Option.some.inj h,Option.some.inj g]
theorem My.hd_b {A B C H:Prop} (f:A->B->C->H) (p:A∧B∧C):H:=f p.1 p.2.1 p.2.2
local macro_rules
 | `(tactic| o_head $H:term) => `(tactic| (
  refine My.hd_b (λa b c => PySem.W.holds_open (q := My.vw) (loose := [])
   (Xt := λs => PySem.W.xlAt My.vw [] s && PySem.W.recOk
    (PySem.W.RowW.records PySem.Challenge.rw_twomarks_k48_double_papers.row.toRowW) s)
   (XP := PySem.W.XL My.vw []) (Yf := ($H).obs)
   (Ya := ($H).val) (YP := ($H).says) (N := 20000) (My.hd_l a b)
   ($H).of ($H).keeps (λs e => PySem.W.xl_of s
    (Bool.and_eq_true_iff.mp e).1) PySem.W.XL.keeps
   (by rfl) (by rfl) (by rfl)
   (λs e => PySem.W.recFacts_of
    (Bool.and_eq_true_iff.mp e).2)
   (by rfl) ?k1 (by decide +kernel)
   ⟨rfl, rfl, rfl, rfl, rfl, by decide +kernel⟩ ?hw c) ?hc
  (case k1 => assumption)))
open_top My.hd_0 for PySem.Challenge.rw_twomarks_k48_double_papers
noncomputable def My.hd_n:=λx0 x1 x2 x3 b c=>My.hd_0 ⟨(My.hd_s x0 (My.hd_s x1 (My.hd_s x2 x3))),b,c⟩
noncomputable def My.hd_n0:=λx1 x2 x3 b c=>My.hd_n (λw=>by kernel_rfl) x1 x2 x3 b c
noncomputable def My.hd_n1:=λx2 x3 b c=>My.hd_n0 (λw=>by kernel_rfl) x2 x3 b c
noncomputable def My.hd_n2:=λx3 b c=>My.hd_n1 (λw=>by kernel_rfl) x3 b c
noncomputable def My.hd_n3:=λb c=>My.hd_n2 (λw=>by kernel_rfl) b c
noncomputable def My.hd_1:=My.hd_n3
noncomputable def My.hd:=λc=>My.hd_1 (λw=>by kernel_rfl) c
set_option maxHeartbeats 4000000
open PySem PySem.Spec PyProof.Rows
def v9:=@PySem.Heap.get?_push_of_some
def As:=@List.getElem?_eq_getElem
def At:=@List.length_map
def Au:=@List.length_cons
def Av:=@List.length_append
def Aw:=@Nat.le_refl
def Ax:=@List.map_cons
def Ay:=@List.getElem?_eq_some_iff
def Az:=@List.mem_cons_of_mem
def AA:=@List.mem_append_right
def AB:=@List.mem_cons_self
def AC:=@PySem.Heap.get?_push_size
def AD:=@Nat.lt_of_lt_of_le
def AE:=@List.length_nil
def AF:=@Bool.not_true
def AG:=@List.size_toArray
def AH:=@List.length_drop
def AI:=@Bool.not_false
def AJ:=@List.length_take
def AK:=@PySem.Heap.lt_size
def AL:=@Nat.le_trans
def AM:=@List.getElem?_map
def AN:=@List.getElem?_set_ne
def AO:=@List.mem_cons
def AQ:=@Bool.false_ne_true
def AR:=@Nat.ne_of_lt
def AS:=@List.map_map
def AT:=@List.getElem?_set_self
def AU:=@Bool.and_eq_true
def AV:=@List.mem_map
def AW:=@List.getElem?_append_left
def AX:=@List.getElem_mem
def AY:=@Nat.lt_irrefl
def AZ:=@List.drop_eq_getElem_cons
def A0:=@Int.toNat_natCast
def A1:=@List.zip_cons_cons
def A2:=@List.length_set
def A3:=@Bool.and_eq_true_iff
def A4:=@List.append_nil
def A5:=@List.getElem?_append_right
def A6:=@Nat.ne_of_gt
def A7:=@List.getElem?_cons_succ
def A8:=@List.lookup_cons
def A9:=@Option.some.inj
def Ba:=@PySem.PassesOwn.never
def Bb:=@List.getElem?_replicate
def Bc:=@Bool.false_and
def Be:=@List.replicate_succ
def Bf:=@List.mem_append_left
def Bg:=@Nat.zero_le
def Bh:=@List.append_assoc
def Bi:=@List.mem_append
def Bj:=@List.mem_of_getElem?
def Bk:=@PySem.Heap.size_push
def Bl:=@Bool.false_eq_true
def Bm:=@List.all_eq_true
def Bn:=@PySem.Heap.get?_update_other
def Bo:=@PySem.Around.under_plainId
def Bp:=@Nat.zero_add
def Bq:=@Bool.true_and
def Br:=@List.drop_length
def Bs:=@Option.map_eq_some_iff
def Bt:=@PySem.W.kia_one
def Bu:=@List.map_append
def Bv:=@List.length_reverse
def Bw:=@List.mem_range
def Bx:=@PyProof.Rows.callWith_type1
def By:=@Nat.lt_of_le_of_lt
def Bz:=@List.length_zip
def BA:=@List.find?_cons
def BB:=@List.mem_of_mem_drop
def BC:=@PySem.mem_of_lookup
def BD:=@List.map_congr_left
def BE:=@List.flatten_cons
def BF:=@Int.mul_left_comm
def BG:=@List.all_cons
def BH:=@Int.natAbs_mul
def BI:=@Int.mul_comm
def BJ:=@List.mem_iff_getElem
def BK:=@PySem.Heap.get?_update_self
def BL:=@Int.mul_assoc
def BM:=@Int.eq_ofNat_of_zero_le
def BN:=@PySem.Obj.data_mapFields
def BO:=@List.map_nil
def BP:=@List.drop_zero
def BQ:=@List.nodup_cons
def BR:=@List.foldl_cons
def BS:=@List.drop_eq_nil_of_le
def BU:=@List.not_mem_nil
def BV:=@Nat.succ.inj
def BW:=@Nat.pos_of_ne_zero
def BX:=@List.sum_cons
def BY:=@PySem.Heap.SameBut.update
def BZ:=@List.getElem?_zip_eq_some
def B0:=@Int.le_refl
def B1:=@Int.eq_of_mul_eq_mul_left
def B2:=@PyProof.Rows.slot_tuple_getitem
def B3:=@Nat.lt_succ_of_lt
def B4:=@List.length_range
def B5:=@Bool.eq_iff_iff
def B6:=@Nat.le_of_lt
def B7:=@Int.mul_zero
def B8:=@List.map_eq_nil_iff
def B9:=@List.filterMap_cons
def Ca:=@Array.length_toList
def Cb:=@Nat.le_of_not_lt
def Cc:=@Nat.mul_le_mul
def Cd:=@List.take_of_length_le
def Ce:=@List.mem_singleton
def Cf:=@List.nil_append
def Cg:=@PySem.F.plain_min_loop
def Ch:=@Nat.le_of_succ_le
def Ci:=@List.isEmpty_cons
def Cj:=@List.any_cons
def Ck:=@Bool.and_true
def Cm:=@Nat.min_eq_right
def Cn:=@List.getElem_of_mem
def Co:=@List.getElem?_range
def Cp:=@Nat.succ_mul
def Cq:=@Int.mul_fdiv_cancel_left
def Cr:=@PySem.F.slot_tuple_iterator_next
def Cs:=@PySem.F.plainAttrs_list
def Ct:=@Nat.min_eq_left
def Cu:=@List.of_mem_zip
def Cv:=@Int.emod_lt_of_pos
def Cw:=@PySem.PyData.hasDict_of_canLay
def Cy:=@Nat.lt_of_succ_lt_succ
def Cz:=@Nat.Coprime.dvd_of_dvd_mul_left
def CA:=@List.reverse_cons
def CB:=@Int.mul_pos
def CC:=@Int.mul_add
def CD:=@Bool.and_false
def CF:=@List.length_replicate
def CG:=@List.length_filter_le
def CH:=@List.getElem?_reverse
def CI:=@List.getElem?_eq_none
def CJ:=@Option.bind_some
def CK:=@List.take_length
def CL:=@PySem.SeqAt.canLay_of_shaped
def CM:=@PySem.Obj.isFreed_of_fields
def CN:=@List.take_succ_cons
def CO:=@List.mem_filter
def CP:=@Int.emod_nonneg
def CQ:=@Int.fmod_eq_emod_of_nonneg
def CS:=@Nat.gcd_comm
def CT:=@Int.sub_zero
def CU:=@PySem.W.kitx_dict
def CV:=@PySem.F.type_list_append
def CW:=@PySem.F.slot_list_append
def CY:=@PySem.F.args_tuple_add_2
def CZ:=@Bool.not_eq_true'
def C0:=@PySem.F.entry_tuple_add
def C1:=@PySem.F.slot_tuple_add
def C2:=@List.forIn_cons
def C3:=@Int.zero_add
def C4:=@Int.natAbs_dvd_natAbs
def C5:=@PySem.F.plain_list_iadd
def C6:=@PySem.Paired.length
def C7:=@Nat.pow_le_pow_right
def C8:=@Nat.log2_lt
def C9:=@Nat.le_succ
def Da:=@List.drop_succ_cons
def Db:=@Int.mul_one
def Dc:=@Option.isSome_some
def Dd:=@List.pairwise_cons
def De:=@List.mem_filterMap
def Df:=@Int.lt_irrefl
def Dg:=@Int.dvd_trans
def Dh:=@PySem.F.slot_zip_next
def Di:=@Bool.or_false
def Dj:=@List.zip_nil_left
def Dk:=@List.take_add_one
def Dl:=@List.pairwise_map
def Dm:=@List.nodup_append
def Do:=@List.foldl_append
def Dp:=@List.flatMap_cons
def Dq:=@List.ext_getElem?
def Ds:=@PySem.F.args_object_init_2
def Dt:=@Nat.sub_zero
def Du:=@Nat.sub_self
def Dv:=@Nat.le_total
def Dw:=@Nat.min_le_right
def Dx:=@List.isEmpty_iff
def Dy:=@List.filter_cons
def Dz:=@List.cons_append
def DA:=@List.any_eq_true
def DB:=@Array.getElem?_eq_some_iff
def DC:=@PySem.Obj.cls_mapFields
def DD:=@List.nodup_nil
def DE:=@List.mem_or_eq_of_mem_set
def DF:=@List.getElem?_eq_none_iff
def DG:=@List.forIn_nil
def DH:=@Int.mul_nonneg
def DI:=@Lean.Omega.Int.ofNat_min
def DJ:=@PySem.F.args_tuple_lt_2
def DK:=@Option.bind_eq_some_iff
def DL:=@List.getElem?_cons_zero
def DM:=@List.drop_nil
def DN:=@PySem.F.entry_min_loop
abbrev DO:=PySem.W.Frag
abbrev DW:=PyData->PyData->Option PyData
abbrev DX:=Value->Shared->Prop
abbrev DY:=List PyData
abbrev DZ:=List Int
abbrev D1:=List Value
abbrev D2:=List Str
abbrev D4:=Str->Option Value
local macro_rules | `(tactic| trivial) => `(tactic| first | decide +kernel | exact ⟨rfl,rfl,rfl,by decide +kernel,rfl,by decide +kernel,by decide +kernel⟩ | exact ⟨rfl,by decide +kernel,by decide +kernel,by decide +kernel,by decide +kernel⟩ | fail "x")
namespace L2
noncomputable abbrev aL:=Sum Int Str
noncomputable def jW:aL->Value->Bool
 | .inl k,v=>Value.isInt k v
 | .inr x,v=>Value.isStrOf x v
noncomputable def Zkh (w:World):aL->Int
 | .inl k=>hashInt k
 | .inr x=>hashStr w x
theorem gT:∀ {k:aL} {v:Value},jW k v=true->(∃ i t,k=Sum.inl i/\v=Value.int i t)\/(∃ x t,k=Sum.inr x/\v=Value.str x t)
 | .inl i,v,h=>by
  obtain ⟨t,e⟩:=Value.isInt_shape (k:=i) (v:=v) h
  exact .inl ⟨i,t,rfl,e⟩
 | .inr x,v,h=>by
  obtain ⟨t,e⟩:=Value.isStrOf_shape (x:=x) (v:=v) h
  exact .inr ⟨x,t,rfl,e⟩
theorem Zkg (i:Int) (t:Tok):jW (.inl i) (.int i t)=true:=by simp [jW,Value.isInt]
theorem Zkf (x:Str) (t:Tok):jW (.inr x) (.str x t)=true:=by simp [jW,Value.isStrOf]
theorem Zke (a b:Int):decide ((Sum.inl a:aL)=Sum.inl b)=(a == b):=by
 by_cases e:a=b
 ·subst e; simp
 ·have h:¬ (Sum.inl a:aL)=Sum.inl b:=λq=>e (Sum.inl.inj q)
  rw [decide_eq_false h]
  exact (beq_eq_false_iff_ne.mpr e).symm
theorem Zkb (a b:Str):decide ((Sum.inr a:aL)=Sum.inr b)=decide (a=b):=by
 by_cases e:a=b
 ·subst e; simp
 ·have h:¬ (Sum.inr a:aL)=Sum.inr b:=λq=>e (Sum.inr.inj q)
  rw [decide_eq_false h,decide_eq_false e]
theorem Zkd (a:Int) (b:Str):decide ((Sum.inl a:aL)=Sum.inr b)=false:=decide_eq_false (λq=>nomatch q)
theorem Zkc (a:Str) (b:Int):decide ((Sum.inr a:aL)=Sum.inl b)=false:=decide_eq_false (λq=>nomatch q)
noncomputable def bP (prog:Program) (w:World):PySem.KeyKind prog w aL where
 is:=jW
 hash:=Zkh w
 inj:=λv a b ha hb=>by
  rcases gT ha with ⟨i,t,rfl,rfl⟩ | ⟨x,t,rfl,rfl⟩
  ·rcases gT hb with ⟨j,u,rfl,e⟩ | ⟨y,u,rfl,e⟩
   ·injection e with e1 _; rw [e1]
   ·exact nomatch e
  ·rcases gT hb with ⟨j,u,rfl,e⟩ | ⟨y,u,rfl,e⟩
   ·exact nomatch e
   ·injection e with e1 _; rw [e1]
 byValue:=λk v h=>by
  rcases gT h with ⟨i,t,rfl,rfl⟩ | ⟨x,t,rfl,rfl⟩ <;> rfl
 pyHash:=λhv h=>by
  rcases gT hv with ⟨i,t,rfl,rfl⟩ | ⟨x,t,rfl,rfl⟩
  ·exact wpAny_pyHash_int h
  ·exact wpAny_pyHash_str h
 eqBool:=λhu hv h=>by
  rcases gT hu with ⟨i,t,rfl,rfl⟩ | ⟨x,t,rfl,rfl⟩
  ·rcases gT hv with ⟨j,u,rfl,rfl⟩ | ⟨y,u,rfl,rfl⟩
   ·rw [Zke] at h; exact wpAny_eqBool_int h
   ·rw [Zkd] at h; exact SeqAt.EqAt.int_str i t y u _ _ _ _ h
  ·rcases gT hv with ⟨j,u,rfl,rfl⟩ | ⟨y,u,rfl,rfl⟩
   ·rw [Zkc] at h; exact SeqAt.EqAt.str_int x t j u _ _ _ _ h
   ·rw [Zkb] at h; exact wpAny_eqBool_str h
 «strs»:=λk x t v h=>by
  rcases gT h with ⟨i,u,rfl,e⟩ | ⟨y,u,rfl,e⟩
  ·exact nomatch e
  ·injection e with e1 _
   subst e1
   cases v <;> rfl
theorem ZjB (prog:Program) (w:World) (i:Int) (t:Tok):(bP prog w).is (.inl i) (.int i t)=true:=Zkg i t
theorem ZjA (prog:Program) (w:World) (x:Str) (t:Tok):(bP prog w).is (.inr x) (.str x t)=true:=Zkf x t
inductive V where
 | non | bl (b:Bool) | int (i:Int) | str (x:Str) | byt (b:Array UInt8) | flt (b:UInt64) | ref (a:Addr) | ty (n:String)
 deriving DecidableEq
abbrev D3:=List V
noncomputable def RelV:V->Value->Prop
 | .non,u=>u=Value.none
 | .bl b,u=>u=Value.bool b
 | .int i,u=>∃ t,u=Value.int i t
 | .str x,u=>∃ t,u=Value.str x t
 | .byt b,u=>∃ t,u=Value.bytes b t
 | .flt b,u=>∃ t,u=Value.float b t
 | .ref a,u=>u=Value.ref a
 | .ty n,u=>u=Value.type n
noncomputable abbrev Vals:List V->List Value->Prop:=Paired RelV
theorem Vals.length {xs:D3} {us:D1} (r:Vals xs us):xs.length=us.length:=C6 r
theorem Vals.get {xs:D3} {us:D1} {i:Nat} {x:V} (h:Vals xs us) (e:xs[i]?=some x):∃ u,us[i]?=some u/\RelV x u:=by
 induction h generalizing i with
 | nil=>cases e
 | cons r t ih=>cases i with | zero=>cases e; exact ⟨_,rfl,r⟩ | succ i=>exact ih (i:=i) e
theorem Vals.set {x:V} {u:Value} (r:RelV x u) {xs:D3} {us:D1} (i:Nat) (h:Vals xs us):Vals (xs.set i x) (us.set i u):=by
 induction h generalizing i with
 | nil=>exact .nil
 | cons q t ih=>cases i with | zero=>exact .cons r t | succ i=>exact .cons q (ih i)
theorem Vals.append {xs ys:D3} {us ws:D1} (h:Vals xs us) (s:Vals ys ws):Vals (xs++ys) (us++ws):=by
 induction h with
 | nil=>exact s
 | cons r t ih=>exact .cons r ih
theorem Vals.take {xs:D3} {us:D1} (n:Nat) (h:Vals xs us):Vals (xs.take n) (us.take n):=by
 induction h generalizing n with
 | nil=>rw [List.take_nil,List.take_nil]; exact .nil
 | cons r t ih=>cases n with | zero=>exact .nil | succ n=>exact .cons r (ih n)
theorem Vals.drop {xs:D3} {us:D1} (n:Nat) (h:Vals xs us):Vals (xs.drop n) (us.drop n):=by
 induction h generalizing n with
 | nil=>rw [DM,DM]; exact .nil
 | cons r t ih=>cases n with | zero=>exact .cons r t | succ n=>exact ih n
theorem Vals.none_of:∀ {xs:D3} {us:D1} {i:Nat},Vals xs us->xs[i]?=none->us[i]?=none:=λ{xs us i} r e=>by
 have h1:=r.length
 have h2:xs.length<=i:=DF.mp e
 exact DF.mpr (by omega)
noncomputable def RelO:Option V->Option Value->Prop
 | some v,some u=>RelV v u
 | none,none=>True
 | _,_=>False
noncomputable def KV {κ:Type}:List (κ×V)->List (κ×Value)->Prop:=Paired λ(p:κ×V) (q:κ×Value)=>p.1=q.1/\RelV p.2 q.2
noncomputable def kV:aL->V
 | .inl i=>.int i
 | .inr x=>.str x
inductive HO where
 /-- a list -/
 | lst (xs:D3)
 /-- a tuple (never changes) -/
 | tup (xs:D3)
 /-- a dict whose keys are ints and texts; one whose keys are tuples of ints and texts (the empty one is both) -/
 | dK (kvs:List (aL×V)) | dT (kvs:List (List aL×V))
 /-- a set of ints: its members,its size -/
 | set (S:Int->Bool) (n:Nat)
 /-- an instance of the class at C,its dict at dx,its attributes -/
 | ins (C dx:Addr) (fs:List (Str×V))
 /-- the dict of the instance at x -/
 | own (x:Addr)
 /-- the dict of an exception -/
 | xd (fs:List (Str×V))
 /-- a bound method,f of x -/
 | met (f x:Addr)
 /-- a range object lo,lo+1,.. below hi -/
 | rng (lo hi:Int)
 /-- a thing that is known to the object (the script; a dict while a loop walks it): read,never written while it is so -/
 | frz (o:Obj) (u:HO)
 /-- a code object's table -/
 | tbl (ps:Array Value)
 /-- any other thing,by what is true of its one object (a def of one's own: SetO a S n:=HO.ext λh=>..) -/
 | ext (φ:Heap->Prop)
 | cod (ps:Array Value)
noncomputable abbrev Hp:=Addr->Option HO
noncomputable def upd (H:Hp) (a:Addr) (o:HO):Hp:=λb=>if b=a then some o else H b
theorem bY {H:Hp} {a:Addr} {o:HO}:upd H a o a=some o:=by unfold upd; rw [if_pos rfl]
theorem aM {H:Hp} {a b:Addr} {o:HO} (h:b≠a):upd H a o b=H b:=by unfold upd; rw [if_neg h]
theorem Zgp {H:Hp} {a:Addr} {o u:HO}:upd (upd H a o) a u=upd H a u:=by
 funext b; unfold upd; split <;> rfl
theorem Zju {H:Hp} {a b:Addr} {o u:HO} (h:H a=some o) (h':H b=some u) (d:o≠u):a≠b:=by
 intro e; subst e; rw [h] at h'; exact d (A9 h')
theorem dm {H:Hp} {a b:Addr} {o:HO} (h:H a=some o) (h':H b=none):a≠b:=by
 intro e; subst e; rw [h] at h'; cases h'
section
variable (P:Program) (w:World)
noncomputable def ObjOk (H:Hp) (h:Heap) (a:Addr):HO->Prop
 | .lst xs=>xs.length<=sizeLine/\∃ (its:D1) (n:Nat),Vals xs its/\h.get? a=some { cls:=.type "list",data:=.seq its.toArray n }
 | .tup xs=>xs.length<=sizeLine/\∃ its:D1,Vals xs its/\IsTup h a its.toArray
 | .dK kvs=>kvs.length<=sizeLine/\(a == sysModules)=false/\∃ vs,KV kvs vs/\h.DictOf (bP P w) a vs
 | .dT kvs=>kvs.length<=sizeLine/\(a == sysModules)=false/\∃ xs:List (List aL×Addr×Value),
   Paired (λ(p:List aL×V) (q:List aL×Addr×Value)=>p.1=q.1/\H q.2.1=some (.tup (p.1.map kV))/\RelV p.2 q.2.2) kvs xs /\
   ∃ o es ep,h.get? a=some o/\o.ExactDict/\o.data=.dict es ep/\es.toList=xs.map (entryOfKey (tupleKind (bP P w)))/\(xs.map (·.1)).Nodup
 | .set S n=>h.SetOf (intKind P w) a S n
 | .ins C dx fs=>H dx=some (.own a)/\fs.length<=1000/\dx≠a/\h.get? a=some (PySem.W.instObj C dx) /\
   ∃ mA,h.Ns1 dx mA/\(∀ f,RelO (fs.lookup f) (mA f))/\PySem.Within mA (fs.map (·.1))
 | .own _=>∃ o,h.get? a=some o
 | .xd fs=>∃ mA,h.Ns1 a mA/\∀ f,RelO (fs.lookup f) (mA f)
 | .rng lo hi=>∃ t u v,h.get? a=some { cls:=.type "range",data:=.fields #[.int lo t,.int hi u,.int 1 v] }
 | .frz o u=>h.get? a=some o/\ObjOk H h a u
 | .tbl ps=>h.get? a=some { cls:=.none,data:=.fields ps }
 | .met f x=>h.get? a=some (PySem.W.methodObj (.ref f) (.ref x))
 | .ext φ=>φ h/\(∃ o,h.get? a=some o)/\∀ h1 h2:Heap,φ h1->(∀ o,h1.get? a=some o->h2.get? a=some o)->φ h2
 | .cod ps=>∃ more:Array Value,h.get? a=some { cls:=.none,data:=.fields (ps++more) }/\PySem.TriplesOk (ps++more).toList/\∀ (po:Pos) (v:Value),codeAmong po (ps++more).toList=some v->∃ (c:Addr) (ob:Obj) (vs:Array Value) (q:Str) (t:Tok),v=.ref c/\H c=some (.frz ob (.own 0))/\ob.data=.fields vs/\vs[1]?=some (.str q t)
def HOk (H:Hp) (h:Heap):Prop:=∀ a o,H a=some o->ObjOk P w H h a o
end
section
variable {P:Program} {w:World} {H H':Hp} {h h':Heap} {a:Addr} {o:HO}
theorem ObjOk.lt (x:ObjOk P w H h a o):a < h.objs.size:=by
 cases o with
 | lst xs=>obtain ⟨_,_,_,_,e⟩:=x; exact AK e
 | tup xs=>obtain ⟨_,_,_,p⟩:=x; exact p.lt
 | dK kvs=>obtain ⟨_,_,_,_,o,_,_,e,_⟩:=x; exact AK e
 | dT kvs=>obtain ⟨_,_,_,_,o,_,_,e,_⟩:=x; exact AK e
 | set S n=>obtain ⟨o,_,_,_,e,_⟩:=x; exact AK e
 | ins C dx fs=>obtain ⟨_,_,_,e,_⟩:=x; exact AK e
 | own y=>obtain ⟨_,e⟩:=x; exact AK e
 | xd fs=>obtain ⟨_,⟨_,_,_,e,_⟩,_⟩:=x; exact AK e
 | rng lo hi=>obtain ⟨_,_,_,e⟩:=x; exact AK e
 | frz ob u=>obtain ⟨e,_⟩:=x; exact AK e
 | tbl ps=>exact AK (show h.get? a=some _ from x)
 | met f y=>exact AK (show h.get? a=some _ from x)
 | ext φ=>obtain ⟨_,⟨_,e⟩,_⟩:=x; exact AK e
 | cod ps=>obtain ⟨_,e,_⟩:=x; exact AK e
theorem Paired.mapP {α β:Type} {F G:α->β->Prop} {l₁:List α} {l₂:List β} (h:Paired F l₁ l₂) (f:∀ a b,F a b->G a b):Paired G l₁ l₂:=by
 induction h with
 | nil=>exact .nil
 | cons r t ih=>exact .cons (f _ _ r) ih
theorem ObjOk.stay (x:ObjOk P w H h a o) (k:∀ b u,(b=a\/H b=some (.own a))->h.get? b=some u->h'.get? b=some u)
  (ho:∀ b,H b=some (.own a)->H' b=some (.own a)) (ht:∀ b xs,H b=some (.tup xs)->H' b=some (.tup xs)) (hf:∀ b ob u vs,H b=some (.frz ob u)->ob.data=.fields vs->H' b=some (.frz ob u)):ObjOk P w H' h' a o:=by
 induction o with
 | lst xs=>obtain ⟨z,its,n,r,e⟩:=x; exact ⟨z,its,n,r,k _ _ (.inl rfl) e⟩
 | tup xs=>obtain ⟨z,its,r,ob,e,c⟩:=x; exact ⟨z,its,r,ob,k _ _ (.inl rfl) e,c⟩
 | dK kvs=>obtain ⟨z,y,vs,r,ob,es,ep,e,c⟩:=x; exact ⟨z,y,vs,r,ob,es,ep,k _ _ (.inl rfl) e,c⟩
 | dT kvs =>
  obtain ⟨z,y,xs,r,ob,es,ep,e,c⟩:=x
  exact ⟨z,y,xs,Paired.mapP r λp q z=>⟨z.1,ht _ _ z.2.1,z.2.2⟩,ob,es,ep,k _ _ (.inl rfl) e,c⟩
 | set S n=>obtain ⟨ob,es,ep,t,e,c⟩:=x; exact ⟨ob,es,ep,t,k _ _ (.inl rfl) e,c⟩
 | ins C dx fs =>
  obtain ⟨d,z,ne,e,mA,⟨od,es,ep,e2,c⟩,r⟩:=x
  exact ⟨ho _ d,z,ne,k _ _ (.inl rfl) e,mA,⟨od,es,ep,k _ _ (.inr d) e2,c⟩,r⟩
 | own y=>obtain ⟨ob,e⟩:=x; exact ⟨ob,k _ _ (.inl rfl) e⟩
 | xd fs=>obtain ⟨mA,⟨od,es,ep,e,c⟩,r⟩:=x; exact ⟨mA,⟨od,es,ep,k _ _ (.inl rfl) e,c⟩,r⟩
 | rng lo hi=>obtain ⟨t,u,v,e⟩:=x; exact ⟨t,u,v,k _ _ (.inl rfl) e⟩
 | frz ob u ih=>obtain ⟨e,q⟩:=x; exact ⟨k _ _ (.inl rfl) e,ih q⟩
 | tbl ps =>
  have e:h.get? a=some { cls:=.none,data:=.fields ps }:=x
  show h'.get? a=some { cls:=.none,data:=.fields ps }
  exact k a _ (.inl rfl) e
 | met f y =>
  have e:h.get? a=some (PySem.W.methodObj (.ref f) (.ref y)):=x
  show h'.get? a=some (PySem.W.methodObj (.ref f) (.ref y))
  exact k a _ (.inl rfl) e
 | ext φ=>obtain ⟨p,⟨o,e⟩,st⟩:=x; exact ⟨st _ _ p λo q=>k _ _ (.inl rfl) q,⟨o,k _ _ (.inl rfl) e⟩,st⟩
 | cod ps =>
  obtain ⟨more,e,tr,al⟩:=x
  refine ⟨more,k _ _ (.inl rfl) e,tr,λpo v hv=>?_⟩
  obtain ⟨c,ob,vs,q,t,r1,r2,r3⟩:=al po v hv
  exact ⟨c,ob,vs,q,t,r1,hf _ _ _ _ r2 r3.1,r3⟩
theorem HOk.lt (x:HOk P w H h) (e:H a=some o):a < h.objs.size:=(x a o e).lt
theorem HOk.fresh (x:HOk P w H h) (e:h.objs.size<=a):H a=none:=by
 cases q:H a with
 | none=>rfl
 | some u=>exact absurd (AD (x.lt q) e) (AY _)
theorem HOk.kept (x:HOk P w H h) (k:∀ b u,h.get? b=some u->h'.get? b=some u):HOk P w H h':=λa o e =>
 (x a o e).stay (λb u _ q=>k b u q) (λ_ q=>q) (λ_ _ q=>q) λ_ _ _ _ q _=>q
theorem HOk.laid (x:HOk P w H h) (k:∀ b u,h.get? b=some u->h'.get? b=some u) (hp:h.objs.size<=a) (new:ObjOk P w (upd H a o) h' a o):HOk P w (upd H a o) h':=λb u e=>by
 have hn:=x.fresh hp
 by_cases hb:b=a
 ·subst hb; rw [bY] at e; cases e; exact new
 ·rw [aM hb] at e
  exact (x b u e).stay (λc v _ q=>k c v q) (λc q=>by rw [aM (dm q hn)]; exact q) (λc xs q=>by rw [aM (dm q hn)]; exact q) λc ob xs _ q _=>by rw [aM (dm q hn)]; exact q
end
def Rd (H:Hp) (a:Addr) (u:HO):Prop:=H a=some u\/∃ o,H a=some (.frz o u)
theorem Rd.ok {P:Program} {w:World} {H:Hp} {h:Heap} {a:Addr} {u:HO} (r:Rd H a u) (x:HOk P w H h):ObjOk P w H h a u:=by
 rcases r with r | ⟨o,r⟩
 ·exact x a u r
 ·obtain ⟨_,q⟩:=x a _ r
  exact q
noncomputable def n6:Option HO->Prop
 | some (.lst _)=>True
 | some (.dK _)=>True
 | some (.dT _)=>True
 | some (.set _ _)=>True
 | some (.ins _ _ _)=>True
 | some (.ext _)=>True
 | _=>False
section
variable {P:Program} {w:World} {H:Hp} {h h':Heap} {x e:Addr} {o':HO}
theorem HOk.write (ok:HOk P w H h) (mu:n6 (H x)) (he:e=x\/H e=some (.own x)) (k:∀ b u,b≠e->h.get? b=some u->h'.get? b=some u) (heo:∃ u,h'.get? e=some u)
  (new:ObjOk P w (upd H x o') h' x o'):HOk P w (upd H x o') h':=λb u q=>by
 have nown:∀ c y,H c=some (.own y)->c≠x:=λc y r z=>by subst z; rw [r] at mu; exact mu
 have ntup:∀ c xs,H c=some (.tup xs)->c≠x:=λc xs r z=>by subst z; rw [r] at mu; exact mu
 have nfrz:∀ c ob u,H c=some (.frz ob u)->c≠x:=λc ob u r z=>by subst z; rw [r] at mu; exact mu
 by_cases hb:b=x
 ·subst hb; rw [bY] at q; cases q; exact new
 ·rw [aM hb] at q
  by_cases hbe:b=e
  ·have q':H b=some (.own x):=by
    rcases he with z | z
    ·exact absurd (hbe.trans z) hb
    ·rw [hbe]; exact z
   rw [q] at q'; cases q'
   obtain ⟨v,hv⟩:=heo
   exact ⟨v,by rw [hbe]; exact hv⟩
  ·refine (ok b u q).stay (λc v hc r=>k c v ?_ r) (λc r=>by rw [aM (nown c b r)]; exact r) (λc xs r=>by rw [aM (ntup c xs r)]; exact r) λc ob xs _ r _=>by rw [aM (nfrz c ob xs r)]; exact r
   rcases hc with rfl | hc
   ·exact hbe
   ·rintro rfl
    rcases he with z | z
    ·exact nown c b hc z
    ·rw [hc] at z; cases z; exact hb rfl
end
structure Un (fs ex:List Addr) (H H':Hp) (h h':Heap):Prop where
 keep:∀ b o,h.get? b=some o->H b=none->b ∉ fs->b ∉ ex->h'.get? b=some o
 slot:∀ b o,h.get? b=some o->H b=none->b∈fs->b ∉ ex->∃ sl,h'.get? b=some { o with slots:=sl }
 free:∀ b o,h.get? b=some o->H b=none->b ∉ ex->H' b=none
 there:∀ b o,h.get? b=some o->b ∉ ex->∃ o',h'.get? b=some o'
 tups:∀ b xs,H b=some (.tup xs)->H' b=some (.tup xs)
 frzs:∀ b o u,H b=some (.frz o u)->H' b=some (.frz o u)
 tbls:∀ b ps,H b=some (.tbl ps)->∃ more,H' b=some (.tbl (ps++more))
section
variable {fs fs' ex ex':List Addr} {H H1 H2:Hp} {h h1 h2 h':Heap} {a x e:Addr} {o:HO}
theorem Un.any (u:Un fs ex H H1 h h1) {b:Addr} {ob:Obj} (q:h.get? b=some ob) (n:H b=none) (hx:b ∉ ex):∃ sl,h1.get? b=some { ob with slots:=sl }:=by
 by_cases hb:b∈fs
 ·exact u.slot b ob q n hb hx
 ·exact ⟨ob.slots,u.keep b ob q n hb hx⟩
theorem Un.kept (k:∀ b u,h.get? b=some u->h'.get? b=some u):Un fs ex H H h h' :=
 ⟨λb ob q _ _ _=>k b ob q,λb ob q _ _ _=>⟨ob.slots,k b ob q⟩,λ_ _ _ n _=>n,λb ob q _=>⟨ob,k b ob q⟩,λ_ _ q=>q,λ_ _ _ q=>q,λ_ ps q=>⟨#[],by rw [q]; simp⟩⟩
theorem Un.refl:Un fs ex H H h h:=Un.kept λ_ _ q=>q
theorem Un.laid (k:∀ b u,h.get? b=some u->h'.get? b=some u) (hp:h.objs.size<=a) (hn:H a=none):Un fs ex H (upd H a o) h h' where
 keep:=λb u q _ _ _=>k b u q
 slot:=λb u q _ _ _=>⟨u.slots,k b u q⟩
 free:=λb u q n _=>by rw [aM (AR (AD (AK q) hp))]; exact n
 there:=λb u q _=>⟨u,k b u q⟩
 tups:=λb xs q=>by rw [aM (dm q hn)]; exact q
 frzs:=λb u xs q=>by rw [aM (dm q hn)]; exact q
 tbls:=λb ps q=>⟨#[],by rw [aM (dm q hn),q]; simp⟩
theorem Un.write (mu:n6 (H x)) (he:e=x\/H e=some (.own x)) (k:∀ b u,b≠e->h.get? b=some u->h'.get? b=some u) (heo:∃ u,h'.get? e=some u):Un fs ex H (upd H x o) h h':=by
 have hx:∀ b,H b=none->b≠x:=λb n z=>by subst z; rw [n] at mu; exact mu
 have hb:∀ b,H b=none->b≠e:=λb n z=>by
  subst z
  rcases he with r | r
  ·exact hx b n r
  ·rw [n] at r; cases r
 have hm:∀ b u,H b=some u->¬ n6 (some u)->b≠x:=λb u q nm z=>by subst z; rw [q] at mu; exact nm mu
 refine ⟨λb u q n _ _=>k b u (hb b n) q,λb u q n _ _=>⟨u.slots,k b u (hb b n) q⟩,λb u q n _=>by rw [aM (hx b n)]; exact n,λb u q _=>?_,
  λb xs q=>by rw [aM (hm b _ q λz=>z)]; exact q,λb u xs q=>by rw [aM (hm b _ q λz=>z)]; exact q,λb ps q=>⟨#[],by rw [aM (hm b _ q λz=>z),q]; simp⟩⟩
 by_cases hbe:b=e
 ·subst hbe; exact heo
 ·exact ⟨u,k b u hbe q⟩
end
noncomputable def trk (h:Heap) (H:Hp):List Addr:=(List.range h.objs.size).filter λa=>(H a).isSome
noncomputable def iz (h:Heap) (H:Hp):Heap:=PySem.W.hideAll h (trk h H)
theorem Zkz (h:Heap) (H:Hp):(iz h H).objs.size=h.objs.size:=PySem.W.hideAll_size _ _
theorem ZkA {h:Heap} {H:Hp} {b:Addr} {o:Obj} (e:h.get? b=some o) (n:H b=none):(iz h H).get? b=some o :=
 PySem.W.hideAll_get _ e λhm=>by
  have q:(H b).isSome=true:=(CO.mp hm).2
  rw [n] at q; simp at q
theorem Zjl {h:Heap} {H:Hp} {b:Addr} {o:Obj} (e:(iz h H).get? b=some o):h.get? b=some o/\H b=none:=by
 have e':h.get? b=some o:=PySem.W.of_hideAll (trk h H) e
 refine ⟨e',?_⟩
 cases q:H b with
 | none=>rfl
 | some x =>
  have hm:b∈trk h H:=CO.mpr ⟨Bw.mpr (AK e'),by simp [q]⟩
  have z:(iz h H).get? b=none:=PySem.W.hideAll_none (trk h H) hm
  rw [z] at e; cases e
noncomputable def ZnE (g h:Heap) (L:Addr):List (Addr×Obj):=(List.range h.objs.size).filterMap λa=>if a=L\/(g.get? a).isSome=true then none else (h.get? a).map λo=>(a,o)
noncomputable def rest (g h:Heap) (L d:Addr):List (Addr×Obj):=(ZnE g h L).filter λp=>decide (p.1≠d)
structure Mod (K:DO) (mg:D4) (base:Heap):Prop where
 kin:K.In base
 glob:base.Ns mainGlobals mg
 blt:∃ mb,base.Ns builtinsNs mb/\∀ x:Str,x≠"__name__"->mb x=bootBuiltins x
 nolimit:base.NoLimit
 nodig:base.NoDigits
structure Cx where
 prog:Program
 w:World
 K:DO
 mg:D4
 base:Heap
 A:Around
 N:D2
 s₀:Shared
 H₀:Hp
 env:Env
 outer:List Env
 stack:List Env
 ex:List Addr
 fn:Str->Bool
 calm:Bool
 pn:List (Addr×Obj)
 xe:DX
noncomputable def frs (l:List Env):List Addr:=l.filterMap (·.frame)
noncomputable abbrev Cx.fs (X:Cx):List Addr:=frs X.outer
def vZ (sc:Scope) (x:Str):Prop:=sc.names.lookup x=some .local\/sc.names.lookup x=some .cell\/sc.names.lookup x=some .free
def n8 (sc:Scope) (x:Str):Prop:=sc.names.lookup x=some .local\/sc.names.lookup x=some .cell
noncomputable def Zop (env:Env) (h:Heap) (m:D4) (x:Str) (u:Value):Prop :=
 (env.kindOf x=some .local/\m x=some u)\/((env.kindOf x=some .cell\/env.kindOf x=some .free)/\∃ c,env.cells.lookup x=some c/\h.IsCell c (some u))
structure Cx.Ok (X:Cx):Prop where
 mod:Mod X.K X.mg X.base
 kind:X.env.scope.kind=.function
 glob:X.env.globals=mainGlobals
 blt:X.env.builtins=builtinsNs
 above:X.s₀.heap.objs.size<=X.env.locals
 inj:∀ x y c,X.env.cells.lookup x=some c->X.env.cells.lookup y=some c->x=y
 has:∀ x,(X.env.kindOf x=some .cell\/X.env.kindOf x=some .free)->∃ c,X.env.cells.lookup x=some c
 cab:∀ x c,X.fn x=true->X.env.cells.lookup x=some c->X.s₀.heap.objs.size<=c
 hd:X.calm=true->X.A.handled=none
 frames:X.A.frames=some X.stack
 stk:X.stack=X.outer\/(X.stack=X.env::X.outer/\X.env.frame=some X.env.locals)
 exf:∀ b∈X.ex,b≠X.env.locals/\∀ x c,X.env.cells.lookup x=some c->c≠b
 bs:∀ b o,X.base.get? b=some o->X.s₀.heap.get? b=some o/\X.H₀ b=none
 bsz:X.base.objs.size<=X.s₀.heap.objs.size
 noex:∀ b o,X.base.get? b=some o->b ∉ X.ex
 exfs:∀ b∈X.ex,b ∉ X.fs
 funs:X.s₀.heap.FunFrames X.base X.outer
 frf:∀ b∈X.fs,X.H₀ b=none
structure Inv (X:Cx) (pins:List (Addr×Obj)) (σ:List (Option V)) (H:Hp) (s:Shared):Prop where
 ok:X.Ok
 os:s.os=X.s₀.os
 bare:AllBare s.gens
 base:Un X.fs X.ex X.H₀ H X.s₀.heap s.heap
 loc:∃ m,s.heap.Ns X.env.locals m/\∀ (i:Nat) (x:Str) (v:V),X.N[i]?=some x->σ[i]?=some (some v)->vZ X.env.scope x->∃ u,RelV v u/\Zop X.env s.heap m x u
 cell:∀ x c,X.env.cells.lookup x=some c->∃ v,s.heap.IsCell c v
 free:H X.env.locals=none
 freeC:∀ x c,X.env.cells.lookup x=some c->H c=none
 pin:∀ p∈X.pn++pins,s.heap.get? p.1=some p.2/\H p.1=none/\p.1≠X.env.locals/\p.1 ∉ X.fs/\∀ v,p.2.data≠.cell v
 hok:HOk X.prog X.w H s.heap
 len:σ.length=X.N.length
section
variable {X:Cx} {pins:List (Addr×Obj)} {σ:List (Option V)} {H H':Hp} {s:Shared} {h':Heap}
theorem Cx.Ok.nofr (ok:X.Ok) {b:Addr} {o:Obj} (e:X.base.get? b=some o):b ∉ X.fs:=λhb=>by
 have:=(ok.funs.mem hb).1
 rw [e] at this; cases this
theorem Inv.bs (I:Inv X pins σ H s):∀ b o,X.base.get? b=some o->s.heap.get? b=some o/\H b=none:=λb o e =>
 ⟨I.base.keep b o (I.ok.bs b o e).1 (I.ok.bs b o e).2 (I.ok.nofr e) (I.ok.noex b o e),I.base.free b o (I.ok.bs b o e).1 (I.ok.bs b o e).2 (I.ok.noex b o e)⟩
theorem Inv.bk (I:Inv X pins σ H s):∀ b o,X.base.get? b=some o->s.heap.get? b=some o:=λb o e=>(I.bs b o e).1
theorem Inv.mod (I:Inv X pins σ H s):Mod X.K X.mg X.base:=I.ok.mod
theorem Inv.kIn (I:Inv X pins σ H s):X.K.In s.heap:=I.ok.mod.kin.keeps I.bk
theorem Inv.lt (I:Inv X pins σ H s):X.env.locals < s.heap.objs.size:=let ⟨_,hn,_⟩:=I.loc; hn.lt
theorem Inv.sz (I:Inv X pins σ H s):X.s₀.heap.objs.size<=s.heap.objs.size:=AL I.ok.above (B6 I.lt)
theorem Inv.nofs (I:Inv X pins σ H s) {a:Addr} (h:s.heap.objs.size<=a):a ∉ X.fs:=λhb=>by
 obtain ⟨_,o,ho,_⟩:=I.ok.funs.mem hb
 exact absurd (AD (AK ho) (AL I.sz h)) (AY _)
theorem Inv.cne (I:Inv X pins σ H s):∀ x c,X.env.cells.lookup x=some c->c≠X.env.locals:=λx c e z=>by
 obtain ⟨v,o,ho,hd⟩:=I.cell x c e
 obtain ⟨m,⟨o',es,ep,ho',hd',_⟩,_⟩:=I.loc
 rw [z,ho'] at ho; cases ho; rw [hd'] at hd; cases hd
theorem Inv.funs (I:Inv X pins σ H s):s.heap.FunFrames X.base X.outer:=by
 have all:∀ (l:List Env),(∀ b∈frs l,b∈X.fs)->X.s₀.heap.FunFrames X.base l->s.heap.FunFrames X.base l:=by
  intro l
  induction l with
  | nil=>intro _ _; trivial
  | cons env r ih =>
   intro hs hl
   obtain ⟨hk,⟨L,o,hf,hn,ho,hd⟩,hr⟩:=hl
   have hL:L∈X.fs:=hs L (by unfold frs; rw [B9,hf]; exact AB)
   obtain ⟨sl,e⟩:=I.base.slot L o ho (I.ok.frf L hL) hL λz=>I.ok.exfs L z hL
   exact ⟨hk,⟨L,_,hf,hn,e,hd⟩,ih (λb hb=>hs b (by unfold frs; rw [B9,hf]; exact Az _ hb)) hr⟩
 exact all X.outer (λ_ hb=>hb) I.ok.funs
theorem Inv.stack (I:Inv X pins σ H s):s.heap.FunFrames X.base X.stack:=by
 rcases I.ok.stk with e | ⟨e,hf⟩
 ·rw [e]; exact I.funs
 ·rw [e]
  obtain ⟨m,hn,_⟩:=I.loc
  refine .cons (by rw [I.ok.kind]; decide) hf hn ?_ I.funs
  exact Heap.get?_none_of_le (AL I.ok.bsz I.ok.above)
theorem Inv.stkSub (I:Inv X pins σ H s):∀ b∈frs X.stack,b∈X.env.locals::X.fs:=λb hb=>by
 rcases I.ok.stk with e | ⟨e,hf⟩
 ·rw [e] at hb; exact Az _ hb
 ·rw [e] at hb
  unfold frs at hb
  rw [B9,hf] at hb
  exact hb
theorem Inv.stkFree (I:Inv X pins σ H s):∀ b∈frs X.stack,H b=none:=λb hb=>by
 rcases AO.mp (I.stkSub b hb) with e | hb
 ·rw [e]; exact I.free
 ·obtain ⟨_,o,ho,_⟩:=I.ok.funs.mem hb
  exact I.base.free b o ho (I.ok.frf b hb) λz=>I.ok.exfs b z hb
theorem Inv.step {g':Array GenState} {t':Nat} {d':Drawn} {ch:List Addr} (I:Inv X pins σ H s)
  (hch:∀ b∈ch,(b∈X.ex\/X.s₀.heap.objs.size<=b)/\b≠X.env.locals/\(∀ x c,X.env.cells.lookup x=some c->c≠b)/\∀ p∈X.pn++pins,p.1≠b)
  (keep:∀ b o,b≠X.env.locals->b ∉ X.fs->b ∉ ch->s.heap.get? b=some o->H b=none->h'.get? b=some o)
  (slot:∀ b o,b≠X.env.locals->b∈X.fs->b ∉ ch->s.heap.get? b=some o->H b=none->∃ sl,h'.get? b=some { o with slots:=sl }) (free:∀ b o,b ∉ ch->s.heap.get? b=some o->H b=none->H' b=none)
  (there:∀ b o,b ∉ ch->s.heap.get? b=some o->∃ o',h'.get? b=some o')
  (tups:∀ b xs,H b=some (.tup xs)->H' b=some (.tup xs)) (frzs:∀ b o u,H b=some (.frz o u)->H' b=some (.frz o u)) (tbls:∀ b ps,H b=some (.tbl ps)->∃ more,H' b=some (.tbl (ps++more)))
  (ns:∀ m,s.heap.Ns X.env.locals m->h'.Ns X.env.locals m) (hok:HOk X.prog X.w H' h') (hg:AllBare g') :
  Inv X pins σ H' { s with heap:=h',gens:=g',drawn:=d',toks:=t' }:=by
 have neL:∀ b o,X.s₀.heap.get? b=some o->b≠X.env.locals:=λb o e=>AR (AD (AK e) I.ok.above)
 have neC:∀ b o,X.s₀.heap.get? b=some o->b ∉ X.ex->b ∉ ch:=λb o e hx hb=>by
  rcases (hch b hb).1 with z | z
  ·exact hx z
  ·exact absurd (AD (AK e) z) (AY _)
 have cellK:∀ x c,X.env.cells.lookup x=some c->∀ v,s.heap.IsCell c v->h'.IsCell c v:=λx c e v hz0=>by
  obtain ⟨o,ho,hd⟩:=hz0
  have nch:c ∉ ch:=λz=>(hch c z).2.2.1 x c e rfl
  by_cases hc:c∈X.fs
  ·obtain ⟨sl,q⟩:=slot c o (I.cne x c e) hc nch ho (I.freeC x c e)
   exact ⟨_,q,hd⟩
  ·exact ⟨o,keep c o (I.cne x c e) hc nch ho (I.freeC x c e),hd⟩
 refine ⟨I.ok,I.os,hg,⟨λb o e n hb hx=>?_,λb o e n hb hx=>?_,λb o e n hx=>?_,λb o e hx=>?_,λb xs e=>tups b xs (I.base.tups b xs e),λb o xs e=>frzs b o xs (I.base.frzs b o xs e),λb ps e=>?_⟩,?_,λx c e=>?_,?_,λx c e=>?_,λp hp=>?_,hok,I.len⟩
 ·exact keep b o (neL b o e) hb (neC b o e hx) (I.base.keep b o e n hb hx) (I.base.free b o e n hx)
 ·obtain ⟨sl,e1⟩:=I.base.slot b o e n hb hx
  obtain ⟨sl',e2⟩:=slot b _ (neL b o e) hb (neC b o e hx) e1 (I.base.free b o e n hx)
  exact ⟨sl',e2⟩
 ·obtain ⟨o',e1⟩:=I.base.there b o e hx
  exact free b o' (neC b o e hx) e1 (I.base.free b o e n hx)
 ·obtain ⟨o',e1⟩:=I.base.there b o e hx
  exact there b o' (neC b o e hx) e1
 ·obtain ⟨m1,e1⟩:=I.base.tbls b ps e
  obtain ⟨m2,e2⟩:=tbls b _ e1
  exact ⟨m1++m2,by rw [e2,Array.append_assoc]⟩
 ·obtain ⟨m,hn,hl⟩:=I.loc
  refine ⟨m,ns m hn,λi x v e1 e2 e3=>?_⟩
  obtain ⟨u,r,l⟩:=hl i x v e1 e2 e3
  refine ⟨u,r,?_⟩
  rcases l with l | ⟨k,c,e,z⟩
  ·exact .inl l
  ·exact .inr ⟨k,c,e,cellK x c e _ z⟩
 ·obtain ⟨v,z⟩:=I.cell x c e
  exact ⟨v,cellK x c e v z⟩
 ·obtain ⟨m,⟨o,_,_,ho,_⟩,_⟩:=I.loc
  exact free _ o (λz=>(hch _ z).2.1 rfl) ho I.free
 ·obtain ⟨v,o,ho,hd⟩:=I.cell x c e
  exact free c o (λz=>(hch c z).2.2.1 x c e rfl) ho (I.freeC x c e)
 ·obtain ⟨e,n,ne,nf,d⟩:=I.pin p hp
  have nch:p.1 ∉ ch:=λz=>(hch p.1 z).2.2.2 p hp rfl
  exact ⟨keep p.1 p.2 ne nf nch e n,free p.1 p.2 nch e n,ne,nf,d⟩
theorem Inv.un {t':Nat} (I:Inv X pins σ H s) (u:Un X.fs [] H H' s.heap h') (hok:HOk X.prog X.w H' h'):Inv X pins σ H' { s with heap:=h',toks:=t' }:=by
 obtain ⟨m,⟨o,es,ep,ho,r⟩,_⟩:=id I.loc
 obtain ⟨sl,hL⟩:=u.any ho I.free (by simp)
 exact I.step (g':=s.gens) (d':=s.drawn) (ch:=[]) (λ_ z=>nomatch z) (λb o _ hb _ e n=>u.keep b o e n hb (by simp)) (λb o _ hb _ e n=>u.slot b o e n hb (by simp)) (λb o _ e n=>u.free b o e n (by simp)) (λb o _ e=>u.there b o e (by simp)) u.tups u.frzs u.tbls (λm' hm=>by
  obtain ⟨o',es',ep',ho',r'⟩:=hm
  rw [ho] at ho'; cases ho'
  exact ⟨_,es',ep',hL,r'⟩) hok I.bare
theorem Inv.call {g':Array GenState} {t':Nat} {d':Drawn} {ch:List Addr} (I:Inv X pins σ H s) (u:Un (frs X.stack) ch H H' s.heap h') (hok:HOk X.prog X.w H' h') (hg:AllBare g')
  (hch:∀ b∈ch,(b∈X.ex\/X.s₀.heap.objs.size<=b)/\b≠X.env.locals/\(∀ x c,X.env.cells.lookup x=some c->c≠b)/\∀ p∈X.pn++pins,p.1≠b) :
  Inv X pins σ H' { s with heap:=h',gens:=g',drawn:=d',toks:=t' }:=by
 obtain ⟨m,⟨o,es,ep,ho,r⟩,_⟩:=id I.loc
 obtain ⟨sl,hL⟩:=u.any ho I.free λz=>(hch _ z).2.1 rfl
 exact I.step (ch:=ch) hch (λb o hL hb hc e n=>u.keep b o e n (λz=>(AO.mp (I.stkSub b z)).elim hL hb) hc) (λb o _ _ hc e n=>u.any e n hc) (λb o hc e n=>u.free b o e n hc) (λb o hc e=>u.there b o e hc) u.tups u.frzs u.tbls (λm' hm=>by
  obtain ⟨o',es',ep',ho',r'⟩:=hm
  rw [ho] at ho'; cases ho'
  exact ⟨_,es',ep',hL,r'⟩) hok hg
theorem Inv.turned {t':Nat} {it:Addr} (I:Inv X pins σ H s) (k:∀ b o,b≠it->s.heap.get? b=some o->h'.get? b=some o) (hn:H it=none) (hL:it≠X.env.locals)
  (h1:it∈X.ex\/X.s₀.heap.objs.size<=it) (h2:∀ x c,X.env.cells.lookup x=some c->c≠it) (h3:∀ p∈X.pn++pins,p.1≠it):Inv X pins σ H { s with heap:=h',toks:=t' }:=by
 have nit:∀ b u,H b=some u->b≠it:=λb u e z=>by rw [z,hn] at e; cases e
 refine I.step (g':=s.gens) (d':=s.drawn) (ch:=[it]) (λb hb=>?_) (λb o _ _ hc e _=>k b o (λz=>hc (by simp [z])) e) (λb o _ _ hc e _=>⟨o.slots,k b o (λz=>hc (by simp [z])) e⟩) (λ_ _ _ _ n=>n)
  (λb o hc e=>⟨o,k b o (λz=>hc (by simp [z])) e⟩) (λ_ _ e=>e) (λ_ _ _ e=>e) (λb ps e=>⟨#[],by rw [e]; simp⟩) (λm hm=>?_) (λb u e=>?_) I.bare
 ·have e:b=it:=by simpa using hb
  subst e
  exact ⟨h1,hL,h2,h3⟩
 ·obtain ⟨o,es,ep,ho,r⟩:=hm
  exact ⟨o,es,ep,k _ o (Ne.symm hL) ho,r⟩
 ·refine (I.hok b u e).stay (λc v hc q=>k c v ?_ q) (λ_ q=>q) (λ_ _ q=>q) λ_ _ _ _ q _=>q
  rcases hc with z | z
  ·rw [z]; exact nit b u e
  ·exact nit c _ z
theorem Inv.tok (I:Inv X pins σ H s) (t:Nat):Inv X pins σ H { s with toks:=t }:=I.un (h':=s.heap) (t':=t) Un.refl I.hok
theorem Inv.kept {t':Nat} (I:Inv X pins σ H s) (k:∀ b u,s.heap.get? b=some u->h'.get? b=some u):Inv X pins σ H { s with heap:=h',toks:=t' }:=I.un (Un.kept k) (I.hok.kept k)
theorem Inv.laid {a:Addr} {o:HO} {t':Nat} (I:Inv X pins σ H s) (k:∀ b u,s.heap.get? b=some u->h'.get? b=some u) (hp:s.heap.objs.size<=a) (new:ObjOk X.prog X.w (upd H a o) h' a o) :
  Inv X pins σ (upd H a o) { s with heap:=h',toks:=t' }:=I.un (Un.laid k hp (I.hok.fresh hp)) (I.hok.laid k hp new)
theorem Inv.write {x e:Addr} {o:HO} {t':Nat} (I:Inv X pins σ H s) (mu:n6 (H x)) (he:e=x\/H e=some (.own x)) (k:∀ b u,b≠e->s.heap.get? b=some u->h'.get? b=some u) (heo:∃ u,h'.get? e=some u)
  (new:ObjOk X.prog X.w (upd H x o) h' x o):Inv X pins σ (upd H x o) { s with heap:=h',toks:=t' }:=I.un (Un.write mu he k heo) (I.hok.write mu he k heo new)
theorem Inv.pins_of {pins':List (Addr×Obj)} (I:Inv X pins σ H s) (h:∀ p∈pins',s.heap.get? p.1=some p.2/\H p.1=none/\p.1≠X.env.locals/\p.1 ∉ X.fs/\∀ v,p.2.data≠.cell v):Inv X pins' σ H s :=
 ⟨I.ok,I.os,I.bare,I.base,I.loc,I.cell,I.free,I.freeC,λp hp=>(Bi.mp hp).elim (λz=>I.pin p (Bf _ z)) (h p),I.hok,I.len⟩
theorem Zc0 {N:D2} (hN:N.Nodup) {i j:Nat} {x:Str} (a:N[i]?=some x) (b:N[j]?=some x):i=j:=by
 obtain ⟨h1,e1⟩:=Ay.mp a
 obtain ⟨h2,e2⟩:=Ay.mp b
 exact (List.getElem_inj hN).mp (e1.trans e2.symm)
theorem oz {M:Model} {A:Around} {E:DX} {i:Nat} {x:Str} {v:V} {u:Value} {Q:Unit->Shared->Prop} (I:Inv X pins σ H s) (hN:X.N.Nodup) (hi:X.N[i]?=some x) (hx:n8 X.env.scope x) (r:RelV v u)
  (h:∀ s',Inv X pins (σ.set i (some v)) H s'->(∃ a,Heap.SameBut a s.heap s'.heap/\(a=X.env.locals\/X.env.cells.lookup x=some a))->Q () s') (hf:X.fn x=true\/X.env.scope.names.lookup x=some .local:=by first | exact .inl rfl | exact .inr rfl | assumption):wpAny M A (storeName X.env x u) Q E s:=by
 obtain ⟨m,hn,hl⟩:=id I.loc
 have hcls:(X.env.scope.kind == .class || (X.env.scope.kind == .module && X.env.locals != X.env.globals))=false:=by rw [I.ok.kind]; rfl
 have hiσ:i < σ.length:=by rw [I.len]; exact (Ay.mp hi).1
 have cne:=I.cne
 have tracked:∀ {a:Addr} {h':Heap},(∃ o,s.heap.get? a=some o/\H a=none)->Heap.SameBut a s.heap h'->HOk X.prog X.w H h':=λ{a h'} ha hs b ob e=>by
  obtain ⟨_,_,hfree⟩:=ha
  refine (I.hok b ob e).stay (λc w' hc q=>(hs.2 c ?_).trans q) (λ_ q=>q) (λ_ _ q=>q) λ_ _ _ _ q _=>q
  rintro rfl
  rcases hc with rfl | hc
  ·rw [hfree] at e; cases e
  ·rw [hfree] at hc; cases hc
 rcases hx with hk | hk
 ·refine wpAny_storeName_local hk hn (λh' hn' hs=>?_) hcls
  obtain ⟨oL,_,_,hoL,_⟩:=id hn
  refine h _ ⟨I.ok,I.os,I.bare,⟨λb o e n hb hx=>?_,λb o e n hb hx=>?_,I.base.free,λb o e hx=>?_,I.base.tups,I.base.frzs,I.base.tbls⟩,⟨_,hn',λj y v' e1 e2 e3=>?_⟩,λy c e=>?_,I.free,I.freeC,λp hp=>?_,tracked ⟨oL,hoL,I.free⟩ hs,by simpa using I.len⟩ ⟨_,hs,.inl rfl⟩
  ·exact (hs.2 b (AR (AD (AK e) I.ok.above))).trans (I.base.keep b o e n hb hx)
  ·obtain ⟨sl,e1⟩:=I.base.slot b o e n hb hx
   exact ⟨sl,(hs.2 b (AR (AD (AK e) I.ok.above))).trans e1⟩
  ·obtain ⟨o',e1⟩:=I.base.there b o e hx
   exact ⟨o',(hs.2 b (AR (AD (AK e) I.ok.above))).trans e1⟩
  ·by_cases hj:j=i
   ·subst hj
    rw [hi] at e1; cases e1
    rw [AT hiσ] at e2
    cases e2
    exact ⟨u,r,.inl ⟨hk,by simp⟩⟩
   ·rw [AN (Ne.symm hj)] at e2
    obtain ⟨u',r',q⟩:=hl j y v' e1 e2 e3
    refine ⟨u',r',?_⟩
    rcases q with ⟨k,e⟩ | ⟨k,c,e,z⟩
    ·refine .inl ⟨k,?_⟩
     have:y≠x:=λe=>hj (Zc0 hN e1 (e ▸ hi))
     simp [this,e]
    ·exact .inr ⟨k,c,e,z.sameBut hs (cne y c e)⟩
  ·obtain ⟨w',z⟩:=I.cell y c e
   exact ⟨w',z.sameBut hs (cne y c e)⟩
  ·obtain ⟨e,n,ne,nf,d⟩:=I.pin p hp
   exact ⟨(hs.2 p.1 ne).trans e,n,ne,nf,d⟩
 ·have hfn:X.fn x=true:=by
   rcases hf with z | z
   ·exact z
   ·rw [z] at hk; cases hk
  obtain ⟨c,hc⟩:=I.ok.has x (.inl hk)
  obtain ⟨w',z⟩:=I.cell x c hc
  refine wpAny_storeName_cell I.ok.kind hk hc z (λh' hc' hs=>?_)
  obtain ⟨oc,hoc,hocd⟩:=id z
  refine h { s with heap:=h' } ⟨I.ok,I.os,I.bare,⟨λb o e n hb hx=>?_,λb o e n hb hx=>?_,I.base.free,λb o e hx=>?_,I.base.tups,I.base.frzs,I.base.tbls⟩,⟨m,hn.sameBut hs (Ne.symm (cne x c hc)),λj y v' e1 e2 e3=>?_⟩,λy c' e=>?_,I.free,I.freeC,λp hp=>?_,tracked ⟨oc,hoc,I.freeC x c hc⟩ hs,by simpa using I.len⟩ ⟨c,hs,.inr hc⟩
  ·exact (hs.2 b (AR (AD (AK e) (I.ok.cab x c hfn hc)))).trans (I.base.keep b o e n hb hx)
  ·obtain ⟨sl,e1⟩:=I.base.slot b o e n hb hx
   exact ⟨sl,(hs.2 b (AR (AD (AK e) (I.ok.cab x c hfn hc)))).trans e1⟩
  ·obtain ⟨o',e1⟩:=I.base.there b o e hx
   exact ⟨o',(hs.2 b (AR (AD (AK e) (I.ok.cab x c hfn hc)))).trans e1⟩
  ·by_cases hj:j=i
   ·subst hj
    rw [hi] at e1; cases e1
    rw [AT hiσ] at e2
    cases e2
    exact ⟨u,r,.inr ⟨.inl hk,c,hc,hc'⟩⟩
   ·rw [AN (Ne.symm hj)] at e2
    obtain ⟨u',r',q⟩:=hl j y v' e1 e2 e3
    refine ⟨u',r',?_⟩
    rcases q with q | ⟨k,c',e,z'⟩
    ·exact .inl q
    ·refine .inr ⟨k,c',e,z'.sameBut hs ?_⟩
     rintro rfl
     exact hj (Zc0 hN e1 (I.ok.inj _ _ _ e hc ▸ hi))
  ·by_cases hcc:c'=c
   ·subst hcc; exact ⟨_,hc'⟩
   ·obtain ⟨w2,z2⟩:=I.cell y c' e
    exact ⟨w2,z2.sameBut hs hcc⟩
  ·obtain ⟨e,n,ne,nf,d⟩:=I.pin p hp
   refine ⟨(hs.2 p.1 ?_).trans e,n,ne,nf,d⟩
   intro q
   rw [q,hoc] at e
   have q':oc=p.2:=A9 e
   exact d w' (by rw [<- q']; exact hocd)
theorem l9 {M:Model} {A:Around} {E:DX} {i:Nat} {x:Str} {v:V} {u:Value} {Q:Unit->Shared->Prop} (I:Inv X pins σ H s) (hN:X.N.Nodup) (hi:X.N[i]?=some x) (hx:n8 X.env.scope x) (r:RelV v u)
  (h:∀ s',Inv X pins (σ.set i (some v)) H s'->Q () s') (hf:X.fn x=true\/X.env.scope.names.lookup x=some .local:=by first | exact .inl rfl | exact .inr rfl | assumption):wpAny M A (storeName X.env x u) Q E s :=
 oz I hN hi hx r (λs' I' _=>h s' I') hf
theorem Inv.call' {s':Shared} {ch:List Addr} (I:Inv X pins σ H s) (ho:s'.os=s.os) (u:Un (frs X.stack) ch H H' s.heap s'.heap) (hok:HOk X.prog X.w H' s'.heap) (hg:AllBare s'.gens)
  (hch:∀ b∈ch,(b∈X.ex\/X.s₀.heap.objs.size<=b)/\b≠X.env.locals/\(∀ x c,X.env.cells.lookup x=some c->c≠b)/\∀ p∈X.pn++pins,p.1≠b):Inv X pins σ H' s':=by
 obtain ⟨h',g',d',t',o'⟩:=s'
 have e:o'=s.os:=ho
 subst e
 exact I.call (g':=g') (t':=t') (d':=d') u hok hg hch
end
noncomputable abbrev XK:=Value->Option Addr->Hp->Prop
noncomputable abbrev St:=List (Option V)
noncomputable abbrev VK:=V->Hp->Prop
noncomputable abbrev TE:=St->Hp->VK->Prop
noncomputable abbrev TT:=St->Hp->(Bool->Hp->Prop)->Prop
noncomputable abbrev TA:=St->Hp->(List V->Hp->Prop)->Prop
structure Ends where
 nx:St->Hp->Prop
 rt:VK
 bk:St->Hp->Prop:=λ_ _=>False
 ct:St->Hp->Prop:=λ_ _=>False
noncomputable abbrev TS:=Ends->St->Hp->Prop
def EP (X:Cx) (pins:List (Addr×Obj)) (σ:St) (Q:VK) (u:Value) (s':Shared):Prop:=∃ v H',Inv X pins σ H' s'/\RelV v u/\Q v H'
def TP (X:Cx) (pins:List (Addr×Obj)) (σ:St) (Q:Bool->Hp->Prop) (b:Bool) (s':Shared):Prop:=∃ H',Inv X pins σ H' s'/\Q b H'
def AP (X:Cx) (pins:List (Addr×Obj)) (σ:St) (Q:List V->Hp->Prop) (us:D1) (s':Shared):Prop:=∃ vs H',Inv X pins σ H' s'/\Vals vs us/\Q vs H'
noncomputable def SP (X:Cx) (pins:List (Addr×Obj)) (D:Ends) (f:Flow) (s':Shared):Prop :=
 match f with
 | .next=>∃ σ' H',Inv X pins σ' H' s'/\D.nx σ' H'
 | .brk=>∃ σ' H',Inv X pins σ' H' s'/\D.bk σ' H'
 | .cont=>∃ σ' H',Inv X pins σ' H' s'/\D.ct σ' H'
 | .ret u=>∃ v σ' H',Inv X pins σ' H' s'/\RelV v u/\D.rt v H'
noncomputable def PE (X:Cx) (e:Expr) (t:TE):Prop :=
 ∀ (pins:List (Addr×Obj)) (s:Shared) (σ:St) (H:Hp) (Q:VK),Inv X pins σ H s->t σ H Q->wpAny (model X.prog X.w) X.A (eval e X.env) (EP X pins σ Q) X.xe s
noncomputable def PT (X:Cx) (e:Expr) (t:TT):Prop :=
 ∀ (pins:List (Addr×Obj)) (s:Shared) (σ:St) (H:Hp) (Q:Bool->Hp->Prop),Inv X pins σ H s->t σ H Q->wpAny (model X.prog X.w) X.A (isTrue e X.env (eval e X.env)) (TP X pins σ Q) X.xe s
noncomputable def PW (X:Cx) (e:Expr) (t:TT):Prop :=
 ∀ (whole:Sem Value) (pins:List (Addr×Obj)) (s:Shared) (σ:St) (H:Hp) (Q:Bool->Hp->Prop),Inv X pins σ H s->t σ H Q->wpAny (model X.prog X.w) X.A (isTrue e X.env whole) (TP X pins σ Q) X.xe s
theorem PW.pt {X:Cx} {e:Expr} {t:TT} (h:PW X e t):PT X e t:=h _
noncomputable def PA (X:Cx) (es:List Expr) (t:TA):Prop :=
 ∀ (pos:Pos) (pins:List (Addr×Obj)) (s:Shared) (σ:St) (H:Hp) (Q:List V->Hp->Prop),Inv X pins σ H s->t σ H Q->wpAny (model X.prog X.w) X.A (spliced (backTo pos (starEach es X.env))) (AP X pins σ Q) X.xe s
noncomputable def PS (X:Cx) (st:Stmt) (t:TS):Prop :=
 ∀ (pins:List (Addr×Obj)) (s:Shared) (σ:St) (H:Hp) (D:Ends),Inv X pins σ H s->t D σ H->wpAny (model X.prog X.w) X.A (exec st X.env) (SP X pins D) X.xe s
noncomputable def PSs (X:Cx) (st:List Stmt) (t:TS):Prop :=
 ∀ (pins:List (Addr×Obj)) (s:Shared) (σ:St) (H:Hp) (D:Ends),Inv X pins σ H s->t D σ H->wpAny (model X.prog X.w) X.A (execs st X.env) (SP X pins D) X.xe s
theorem thn {α:Type} {t:Sem α} {Q Q':α->Shared->Prop} {M:Model} {A:Around} {E:DX} {s:Shared} (h:wpAny M A t Q E s) (hQ:∀ a s,Q a s->Q' a s):wpAny M A t Q' E s:=wpAny_mono h hQ λ_ _ x=>x
section
variable {X:Cx}
def gI (i:Nat):TE:=λσ H Q=>∃ v,σ[i]?=some (some v)/\Q v H
def tC (v:V):TE:=λ_ H Q=>Q v H
theorem ZiK {i:Nat} {x:Str} {pos:Pos} (hN:X.N[i]?=some x) (hv:vZ X.env.scope x) (hd:(x == ("__debug__":Str))=false:=by decide) (hcd:(x == ("__classdict__":Str))=false:=by decide):PE X (.Name x pos) (gI i):=by
 intro pins s σ H Q I h
 obtain ⟨v,e,h⟩:=h
 obtain ⟨m,hn,hl⟩:=I.loc
 obtain ⟨u,r,l⟩:=hl i x v hN e hv
 have fin:EP X pins σ Q u s:=⟨v,H,I,r,h⟩
 rcases l with ⟨hk,hm⟩ | ⟨hk,c,hc,hcell⟩
 ·exact wpAny_Name (wpAny_loadName_local I.ok.kind hk hn hm fin) hd
 ·rcases hk with hk | hk
  ·exact wpAny_Name (wpAny_loadName_cell I.ok.kind hk hc hcell fin) hd
  ·exact wpAny_Name (wpAny_loadName_free I.ok.kind hk hc hcell fin hcd) hd
theorem cq {i j pos}:PE X (.Constant (.int i) j pos) (tC (.int i)):=λ_ _ _ H _ I h=>wpAny_Constant_int ⟨.int i,H,I.tok _,⟨_,rfl⟩,h⟩
theorem ZiZ {b j pos}:PE X (.Constant (.bool b) j pos) (tC (.bl b)):=λ_ _ _ H _ I h=>Constant_bool ⟨.bl b,H,I,rfl,h⟩
theorem ZiQ {j pos}:PE X (.Constant .none j pos) (tC .non):=λ_ _ _ H _ I h=>Constant_none ⟨.non,H,I,rfl,h⟩
theorem ZiN {x j pos}:PE X (.Constant (.str x) j pos) (tC (.str x)):=λ_ _ _ H _ I h=>Calls.Constant_str ⟨.str x,H,I.tok _,⟨_,rfl⟩,h⟩
def Gl (X:Cx) (x:Str):Prop:=X.env.kindOf x=some .globalImplicit
theorem Zdr {E:DX} {pins:List (Addr×Obj)} {s:Shared} {σ:St} {H:Hp} {x:Str} {u:Value} {pos:Pos} {Q:DX} (I:Inv X pins σ H s) (hg:Gl X x) (hm:X.mg x=some u) (h:Q u s)
  (hd:(x == ("__debug__":Str))=false:=by decide):wpAny (model X.prog X.w) X.A (eval (.Name x pos) X.env) Q E s :=
 Calls.Name_function_global I.ok.kind hg (Calls.loadGlobal_global (by rw [I.ok.glob]; exact I.mod.glob.keeps I.bk) hm h) hd
theorem je {E:DX} {pins:List (Addr×Obj)} {s:Shared} {σ:St} {H:Hp} {x:Str} {u:Value} {pos:Pos} {Q:DX} (I:Inv X pins σ H s) (hg:Gl X x) (hm:X.mg x=none) (hv:bootBuiltins x=some u) (h:Q u s)
  (hn:x≠"__name__":=by decide) (hd:(x == ("__debug__":Str))=false:=by decide):wpAny (model X.prog X.w) X.A (eval (.Name x pos) X.env) Q E s:=by
 obtain ⟨mb,h1,h2⟩:=I.mod.blt
 exact Calls.Name_function_global I.ok.kind hg (Calls.loadGlobal_builtin (by rw [I.ok.glob]; exact I.mod.glob.keeps I.bk) hm (by rw [I.ok.blt]; exact h1.keeps I.bk) ((h2 x hn).trans hv) h) hd
theorem ZiS {x:Str} {v:V} {u:Value} {pos:Pos} (hg:Gl X x) (hm:X.mg x=some u) (r:RelV v u) (hd:(x == ("__debug__":Str))=false:=by decide):PE X (.Name x pos) (tC v) :=
 λ_ _ _ H _ I h=>Zdr I hg hm ⟨v,H,I,r,h⟩ hd
theorem fv {x:Str} {v:V} {u:Value} {pos:Pos} (hg:Gl X x) (hm:X.mg x=none) (hv:bootBuiltins x=some u) (r:RelV v u) (hn:x≠"__name__":=by decide) (hd:(x == ("__debug__":Str))=false:=by decide):PE X (.Name x pos) (tC v) :=
 λ_ _ _ H _ I h=>je I hg hm hv ⟨v,H,I,r,h⟩ hn hd
variable {a b:Expr} {ta tb:TE} {pos:Pos}
variable {tA tB':TT} {rest:List Expr}
def Zg3 (t u:TT):TT:=λσ H Q=>t σ H λc H1=>if c=true then u σ H1 Q else Q false H1
def tOr (t u:TT):TT:=λσ H Q=>t σ H λc H1=>if c=true then Q true H1 else u σ H1 Q
def ZgS (t:TT):TT:=λσ H Q=>t σ H λc H1=>Q (!c) H1
theorem Zcx (ha:PT X a tA):PW X (.BoolOp .And [a] pos) tA:=by
 intro wh pins s σ H Q I h
 refine isTrue_and (thn (ha pins s σ H Q I h) λc s1 e=>?_)
 cases c with
 | true=>exact isTrue_and_nil e
 | false=>exact e
theorem Zin (ha:PT X a tA):PW X (.BoolOp .Or [a] pos) tA:=by
 intro wh pins s σ H Q I h
 refine isTrue_or (thn (ha pins s σ H Q I h) λc s1 e=>?_)
 cases c with
 | false=>exact isTrue_or_nil e
 | true=>exact e
theorem Zcy (ha:PT X a tA) (hb:PW X (.BoolOp .And (b::rest) pos) tB'):PW X (.BoolOp .And (a::b::rest) pos) (Zg3 tA tB'):=by
 intro wh pins s σ H Q I h
 refine isTrue_and (thn (ha pins s σ H _ I h) λc s1 hz0=>?_)
 obtain ⟨H1,I1,q1⟩:=hz0
 cases c with
 | true=>exact hb wh pins s1 σ H1 Q I1 q1
 | false=>exact ⟨H1,I1,q1⟩
theorem Zio (ha:PT X a tA) (hb:PW X (.BoolOp .Or (b::rest) pos) tB'):PW X (.BoolOp .Or (a::b::rest) pos) (tOr tA tB'):=by
 intro wh pins s σ H Q I h
 refine isTrue_or (thn (ha pins s σ H _ I h) λc s1 hz0=>?_)
 obtain ⟨H1,I1,q1⟩:=hz0
 cases c with
 | true=>exact ⟨H1,I1,q1⟩
 | false=>exact hb wh pins s1 σ H1 Q I1 q1
theorem Zir (ha:PT X a tA):PT X (.UnaryOp .Not a pos) (ZgS tA):=by
 intro pins s σ H Q I h
 exact isTrue_not (ha pins s σ H (λc H1=>Q (!c) H1) I h)
def Zg2 (ta tb:TE):TE:=λσ H Q=>ta σ H λx H1=>∃ c,x=.bl c/\if c=true then tb σ H1 Q else Q (.bl false) H1
def ZgR (ta:TE):TE:=λσ H Q=>ta σ H λx H1=>∃ c,x=.bl c/\Q (.bl (!c)) H1
theorem ZiO {op} {t:TE} (h:PE X a t):PE X (.BoolOp op [a] pos) t:=λpins s σ H Q I hw=>BoolOp_one (h pins s σ H Q I hw)
theorem Zi0 (ha:PE X a ta) (hb:PE X (.BoolOp .And (b::rest) pos) tb):PE X (.BoolOp .And (a::b::rest) pos) (Zg2 ta tb):=by
 intro pins s σ H Q I h
 refine BoolOp_and (thn (ha pins s σ H _ I h) λv s1 hz0=>?_)
 obtain ⟨x,H1,I1,r1,q1⟩:=hz0
 obtain ⟨c,rfl,q1⟩:=q1
 cases r1
 refine wpAny_truthy_bool ?_
 cases c with
 | true=>exact hb pins s1 σ H1 Q I1 q1
 | false=>exact ⟨.bl false,H1,I1,rfl,q1⟩
theorem ZiP (ha:PE X a ta):PE X (.UnaryOp .Not a pos) (ZgR ta):=by
 intro pins s σ H Q I h
 refine UnaryOp_ (thn (ha pins s σ H _ I h) λv s1 hz0=>?_)
 obtain ⟨x,H1,I1,r1,q1⟩:=hz0
 obtain ⟨c,rfl,q1⟩:=q1
 cases r1
 exact not_of (wpAny_truthy_bool ⟨.bl (!c),H1,I1,rfl,q1⟩)
def tIf (t:TT) (ta tb:TE):TE:=λσ H Q=>t σ H λc H1=>if c=true then ta σ H1 Q else tb σ H1 Q
theorem ZiR {c:Expr} (hc:PT X c tA) (ha:PE X a ta) (hb:PE X b tb):PE X (.IfExp c a b pos) (tIf tA ta tb):=by
 intro pins s σ H Q I h
 refine wpAny_IfExp (thn (hc pins s σ H _ I h) λd s1 hz0=>?_)
 obtain ⟨H1,I1,q1⟩:=hz0
 cases d with
 | true=>exact ha pins s1 σ H1 Q I1 q1
 | false=>exact hb pins s1 σ H1 Q I1 q1
end
noncomputable def SqL (K:DO) (H:Hp) (a:Addr) (xs:D3):Prop :=
 Rd H a (.lst xs) \/
  ∃ (o:Obj) (its:Array Value) (n:Nat),K.lookup a=some o/\o.cls=.type "list"/\o.dict=none/\o.data=.seq its n/\its.size<=sizeLine/\Vals xs its.toList
noncomputable def SqT (K:DO) (H:Hp) (a:Addr) (xs:D3):Prop :=
 Rd H a (.tup xs) \/
  ∃ (o:Obj) (its:Array Value) (n:Nat),K.lookup a=some o/\o.cls=.type "tuple"/\o.data=.seq its n/\its.size<=sizeLine/\Vals xs its.toList
noncomputable def ZnM:Value->Option V
 | .none=>some .non
 | .bool b=>some (.bl b)
 | .int i _=>some (.int i)
 | .str x _=>some (.str x)
 | .bytes b _=>some (.byt b)
 | .float b _=>some (.flt b)
 | .ref a=>some (.ref a)
 | .type n=>some (.ty n)
 | _=>none
theorem RelV.abs {x:V} {u:Value} (r:RelV x u):ZnM u=some x:=by
 cases x with
 | non=>cases r; rfl
 | bl _=>cases r; rfl
 | int _=>obtain ⟨t,rfl⟩:=r; rfl
 | str _=>obtain ⟨t,rfl⟩:=r; rfl
 | byt _=>obtain ⟨t,rfl⟩:=r; rfl
 | flt _=>obtain ⟨t,rfl⟩:=r; rfl
 | ref _=>cases r; rfl
 | ty _=>cases r; rfl
theorem RelV.inj {x y:V} {u:Value} (r:RelV x u) (q:RelV y u):x=y:=A9 (r.abs.symm.trans q.abs)
theorem Vals.inj {xs ys:D3} {us:D1} (h:Vals xs us) (h':Vals ys us):xs=ys:=by
 induction h generalizing ys with
 | nil=>cases h'; rfl
 | cons r t ih=>cases h' with | cons r' t'=>rw [r.inj r',ih t']
section
variable {X:Cx} {pins:List (Addr×Obj)} {σ:St} {H:Hp} {s:Shared} {a:Addr} {xs ys:D3}
theorem SqL.of {K:DO} (h:H a=some (.lst xs)):SqL K H a xs:=.inl (.inl h)
theorem SqT.of {K:DO} (h:H a=some (.tup xs)):SqT K H a xs:=.inl (.inl h)
theorem Inv.list (I:Inv X pins σ H s) (h:SqL X.K H a xs):∃ its:D1,Vals xs its/\PlainL s.heap a its.toArray/\xs.length<=sizeLine:=by
 rcases h with h | ⟨o,its,n,hk,hc,hd,hs,hz,r⟩
 ·obtain ⟨z,its,n,r,e⟩:=h.ok I.hok
  exact ⟨its,r,⟨_,n,e,rfl,rfl,rfl⟩,z⟩
 ·refine ⟨its.toList,r,⟨o,n,I.kIn a o hk,hc,hd,by simpa using hs⟩,?_⟩
  have e:=r.length
  simp only [Ca] at e
  omega
theorem Inv.tuple (I:Inv X pins σ H s) (h:SqT X.K H a xs):∃ its:D1,Vals xs its/\IsTup s.heap a its.toArray/\xs.length<=sizeLine:=by
 rcases h with h | ⟨o,its,n,hk,hc,hs,hz,r⟩
 ·obtain ⟨z,its,r,p⟩:=h.ok I.hok
  exact ⟨its,r,p,z⟩
 ·refine ⟨its.toList,r,⟨o,I.kIn a o hk,hc,n,by simpa using hs⟩,?_⟩
  have e:=r.length
  simp only [Ca] at e
  omega
theorem Inv.list_inj (I:Inv X pins σ H s) (h:SqL X.K H a xs) (h':SqL X.K H a ys):xs=ys:=by
 obtain ⟨its,r,⟨o,n,e,_,_,d⟩,_⟩:=I.list h
 obtain ⟨its',r',⟨o',n',e',_,_,d'⟩,_⟩:=I.list h'
 rw [e] at e'; cases e'
 rw [d] at d'
 injection d' with d1 _
 have:its=its':=by simpa using congrArg Array.toList d1
 subst this
 exact r.inj r'
theorem Inv.tuple_inj (I:Inv X pins σ H s) (h:SqT X.K H a xs) (h':SqT X.K H a ys):xs=ys:=by
 obtain ⟨its,r,⟨o,e,_,n,d⟩,_⟩:=I.tuple h
 obtain ⟨its',r',⟨o',e',_,n',d'⟩,_⟩:=I.tuple h'
 rw [e] at e'; cases e'
 rw [d] at d'
 injection d' with d1 _
 have:its=its':=by simpa using congrArg Array.toList d1
 subst this
 exact r.inj r'
end
noncomputable abbrev Cx.wish (X:Cx) (E:DX):Cx:={ X with xe:=E }
noncomputable abbrev Cx.nox (X:Cx):Cx:=X.wish λ_ _=>False
theorem Cx.Ok.wish {X:Cx} (ok:X.Ok) (E:DX):(X.wish E).Ok :=
 ⟨ok.mod,ok.kind,ok.glob,ok.blt,ok.above,ok.inj,ok.has,ok.cab,ok.hd,ok.frames,ok.stk,ok.exf,ok.bs,ok.bsz,ok.noex,ok.exfs,ok.funs,ok.frf⟩
theorem Cx.Ok.unwish {X:Cx} {E:DX} (ok:(X.wish E).Ok):X.Ok :=
 ⟨ok.mod,ok.kind,ok.glob,ok.blt,ok.above,ok.inj,ok.has,ok.cab,ok.hd,ok.frames,ok.stk,ok.exf,ok.bs,ok.bsz,ok.noex,ok.exfs,ok.funs,ok.frf⟩
section
variable {X:Cx} {pins:List (Addr×Obj)} {σ:St} {H:Hp} {s:Shared} {E:DX}
theorem Inv.wish (I:Inv X pins σ H s) (E:DX):Inv (X.wish E) pins σ H s:=⟨I.ok.wish E,I.os,I.bare,I.base,I.loc,I.cell,I.free,I.freeC,I.pin,I.hok,I.len⟩
theorem Inv.unwish (I:Inv (X.wish E) pins σ H s):Inv X pins σ H s:=⟨I.ok.unwish,I.os,I.bare,I.base,I.loc,I.cell,I.free,I.freeC,I.pin,I.hok,I.len⟩
theorem SP.unwish {D:Ends} {f:Flow} {s':Shared} (h:SP (X.wish E) pins D f s'):SP X pins D f s':=by
 cases f with
 | next=>obtain ⟨σ',H',I,q⟩:=h; exact ⟨σ',H',I.unwish,q⟩
 | brk=>obtain ⟨σ',H',I,q⟩:=h; exact ⟨σ',H',I.unwish,q⟩
 | cont=>obtain ⟨σ',H',I,q⟩:=h; exact ⟨σ',H',I.unwish,q⟩
 | ret u=>obtain ⟨v,σ',H',I,r,q⟩:=h; exact ⟨v,σ',H',I.unwish,r,q⟩
theorem PSs.nox {st:List Stmt} {t:TS} (h:PSs X.nox st t):PSs X st t:=λpins s σ H D I hw =>
 wpAny_mono (h pins s σ H D (I.wish _) hw) (λ_ _ q=>q.unwish) λ_ _ z=>False.elim z
end
section
variable {X:Cx} {st:Stmt} {rest:List Stmt} {t u:TS} {e:Expr} {te:TE} {pos:Pos}
def ZgU:TS:=λD σ H=>D.nx σ H
def ZaA (t u:TS):TS:=λD σ H=>t { D with nx:=u D } σ H
theorem pf:PSs X [] ZgU:=λ_ _ σ H _ I h=>wpAny_execs_nil ⟨σ,H,I,h⟩
theorem fr (h1:PS X st t) (h2:PSs X rest u):PSs X (st::rest) (ZaA t u):=by
 intro pins s σ H D I h
 refine wpAny_execs_cons (thn (h1 pins s σ H { D with nx:=u D } I h) λf s1 q=>?_)
 cases f with
 | next =>
  obtain ⟨σ',H',I',q⟩:=q
  exact h2 pins s1 σ' H' D I' q
 | ret v=>exact q
 | brk=>exact q
 | cont=>exact q
theorem kE (h1:PS X st t):PSs X [st] t:=by
 intro pins s σ H D I h
 refine wpAny_execs_cons (thn (h1 pins s σ H D I h) λf s1 q=>?_)
 cases f with
 | next=>exact wpAny_execs_nil q
 | ret v=>exact q
 | brk=>exact q
 | cont=>exact q
theorem Inv.quiet {pins:List (Addr×Obj)} {σ:St} {H:Hp} {s:Shared} (I:Inv X pins σ H s):interactive X.env=false:=by simp [interactive,I.ok.kind]
def wP (te:TE):TS:=λD σ H=>te σ H λ_ H1=>D.nx σ H1
theorem pq (he:PE X e te) (hs:swapsWith e none pos.line X.env=pure false:=by rfl):PS X (.Expr e pos) (wP te):=by
 intro pins s σ H D I h
 exact wpAny_Expr_any (thn (he pins s σ H _ I h) λv s1 ⟨x,H1,I1,r1,q1⟩=>⟨σ,H1,I1,q1⟩) I.quiet hs
def ZgO (te:TE):TS:=λD σ H=>te σ H D.rt
theorem iX (he:PE X e te):PS X (.Return (some e) pos) (ZgO te):=by
 intro pins s σ H D I h
 exact wpAny_Return_some (thn (he pins s σ H _ I h) λv s1 ⟨x,H1,I1,r1,q1⟩=>⟨x,σ,H1,I1,r1,q1⟩)
def ZgY (c:TT) (t u:TS):TS:=λD σ H=>c σ H λb H1=>if b=true then t D σ H1 else u D σ H1
theorem pj {c:Expr} {a b:List Stmt} {tc:TT} (hc:PT X c tc) (ha:PSs X a t) (hb:PSs X b u):PS X (.If c a b pos) (ZgY tc t u):=by
 intro pins s σ H D I h
 refine wpAny_If (thn (hc pins s σ H _ I h) λd s1 hz0=>?_)
 obtain ⟨H1,I1,q1⟩:=hz0
 cases d with
 | true=>exact ha pins s1 σ H1 D I1 q1
 | false=>exact hb pins s1 σ H1 D I1 q1
end
noncomputable abbrev TG:=V->St->Hp->(St->Hp->Prop)->Prop
noncomputable abbrev gG:=List V->St->Hp->(St->Hp->Prop)->Prop
noncomputable def PG (X:Cx) (target:Expr) (t:TG):Prop :=
 ∀ (pins:List (Addr×Obj)) (s:Shared) (σ:St) (H:Hp) (v:V) (u:Value) (Q:St->Hp->Prop),Inv X pins σ H s->RelV v u->t v σ H Q ->
  wpAny (model X.prog X.w) X.A (assign target X.env u) (λ_ s'=>∃ σ' H',Inv X pins σ' H' s'/\Q σ' H') X.xe s
noncomputable def PGs (X:Cx) (ts:List Expr) (t:gG):Prop :=
 ∀ (pins:List (Addr×Obj)) (s:Shared) (σ:St) (H:Hp) (vs:D3) (us:D1) (Q:St->Hp->Prop),Inv X pins σ H s->Vals vs us->t vs σ H Q ->
  wpAny (model X.prog X.w) X.A (assignInOrder ((assignEach ts X.env).map (·.2)) us) (λ_ s'=>∃ σ' H',Inv X pins σ' H' s'/\Q σ' H') X.xe s
noncomputable abbrev Ag:=V->V->V->Hp->(Hp->Prop)->Prop
noncomputable def Zf4 (X:Cx) (t:Ag):Prop :=
 ∀ (pins:List (Addr×Obj)) (s:Shared) (σ:St) (H:Hp) (o i v:V) (ov iv u:Value) (Q:Hp->Prop),Inv X pins σ H s->RelV o ov->RelV i iv->RelV v u->t o i v H Q ->
  wpAny (model X.prog X.w) X.A (setItem ov iv u) (λ_ s'=>∃ H',Inv X pins σ H' s'/\Q H') X.xe s
noncomputable abbrev Ah:=V->V->Hp->VK->Prop
noncomputable def PIp (X:Cx) (op:Operator) (t:Ah):Prop :=
 ∀ (pins:List (Addr×Obj)) (s:Shared) (σ:St) (H:Hp) (x y:V) (v u:Value) (Q:VK),Inv X pins σ H s->RelV x v->RelV y u->t x y H Q ->
  wpAny (model X.prog X.w) X.A (inplaceOp op v u) (EP X pins σ Q) X.xe s
section
variable {X:Cx} {pos:Pos}
def dZ (i:Nat):TG:=λv σ H Q=>Q (σ.set i (some v)) H
theorem aT {i:Nat} {x:Str} (hN:X.N.Nodup) (hi:X.N[i]?=some x) (hx:n8 X.env.scope x) (hf:X.fn x=true\/X.env.scope.names.lookup x=some .local:=by first | exact .inl rfl | exact .inr rfl | assumption):PG X (.Name x pos) (dZ i):=by
 intro pins s σ H v u Q I r h
 exact wpAny_assign_Name (l9 I hN hi hx r (λs' I'=>⟨_,H,I',h⟩) hf)
noncomputable def ZkU:gG:=λvs σ H Q=>vs=[]/\Q σ H
noncomputable def ZkW (t:TG) (u:gG):gG:=λvs σ H Q=>∃ v r,vs=v::r/\t v σ H λσ' H'=>u r σ' H' Q
theorem ZiG:PGs X [] ZkU:=by
 intro pins s σ H vs us Q I r h
 obtain ⟨e,h⟩:=h
 subst e
 cases r
 exact assignInOrder_nil ⟨σ,H,I,h⟩
theorem ZiH {e:Expr} {es:List Expr} {t:TG} {u:gG} (h1:PG X e t) (h2:PGs X es u)
  (hs:(assignEach (e::es) X.env).map (·.2)=assign e X.env::(assignEach es X.env).map (·.2):=by rfl):PGs X (e::es) (ZkW t u):=by
 intro pins s σ H vs us Q I r h
 obtain ⟨v,vr,e1,h⟩:=h
 subst e1
 cases r with
 | cons r rr =>
  rw [hs]
  refine assignInOrder_cons (thn (h1 pins s σ H _ _ _ I r h) λ_ s1 hz0=>?_)
  obtain ⟨σ1,H1,I1,q1⟩:=hz0
  exact h2 pins s1 σ1 H1 _ _ Q I1 rr q1
def ZkT (K:DO) (n:Nat) (t:gG):TG:=λv σ H Q=>∃ a xs,v=.ref a/\SqT K H a xs/\xs.length=n/\t xs σ H Q
theorem ZiI {es:List Expr} {k:Nat} {t:gG} {n:Nat} (hc:X.calm=true) (h:PGs X es t)
  (hn:(assignEach es X.env).length=n:=by rfl) (hst:(assignEach es X.env).findIdx? (·.1)=none:=by rfl):PG X (.Tuple es k pos) (ZkT X.K n t):=by
 intro pins s σ H v u Q I r hw
 obtain ⟨a,xs,e1,hq,hl,hw⟩:=hw
 subst e1
 cases r
 obtain ⟨its,rv,ht,hz⟩:=I.tuple hq
 refine assign_Tuple_tuple (I.ok.hd hc) ht (by simp [hn,<- hl,rv.length]) hst λh' hx=>?_
 have I1:Inv X pins σ H { s with heap:=h' }:=I.kept (t':=s.toks) λb o e=>hx b o (AR (AK e)) e
 exact h pins _ σ H xs _ Q I1 (by simpa using rv) hw
def yQ (to ti:TE) (t:Ag):TG:=λv σ H Q=>to σ H λo H1=>ti σ H1 λi H2=>t o i v H2 λH3=>Q σ H3
theorem mB {o i:Expr} {to ti:TE} {t:Ag} (ho:PE X o to) (hi:PE X i ti) (hs:Zf4 X t)
  (ha:∀ v,assign (.Subscript o i pos) X.env v=(do
   let ov <- holding [v] (eval o X.env)
   let iv <- holding [v,ov] (eval i X.env)
   standAt pos
   holding [v,ov,iv] (setItem ov iv v)
   release [v,ov,iv] []):=by intro _; rfl):PG X (.Subscript o i pos) (yQ to ti t):=by
 intro pins s σ H v u Q I r h
 rw [ha]
 refine wpAny_bind (wpAny_holding (thn (ho pins s σ H _ I h) λov s1 hz0=>?_))
 obtain ⟨x,H1,I1,r1,q1⟩:=hz0
 refine wpAny_bind (wpAny_holding (thn (hi pins s1 σ H1 _ I1 q1) λiv s2 hz0=>?_))
 obtain ⟨y,H2,I2,r2,q2⟩:=hz0
 refine wpAny_bind (wpAny_standAt (wpAny_bind (wpAny_holding (thn (hs pins s2 σ H2 x y v ov iv u _ I2 r1 r2 r q2) λ_ s3 hz0=>?_))))
 obtain ⟨H3,I3,q3⟩:=hz0
 exact wpAny_release ⟨σ,H3,I3,q3⟩
def dM (te:TE) (g:TG):TS:=λD σ H=>te σ H λx H1=>g x σ H1 D.nx
theorem fu {tg e:Expr} {te:TE} {g:TG} (he:PE X e te) (hg:PG X tg g) (hs:swapsWithSole [tg] e pos.line X.env=pure false:=by rfl) (hw:swappedStores [tg] e X.env=pure none:=by rfl)
  (h1:(assignEach [tg] X.env).map (·.2)=[assign tg X.env]:=by rfl):PS X (.Assign [tg] e pos) (dM te g):=by
 intro pins s σ H D I h
 refine wpAny_Assign_stores (thn (he pins s σ H _ I h) λv s1 hz0=>?_) hs hw
 obtain ⟨x,H1,I1,r1,q1⟩:=hz0
 rw [h1]
 exact thn (hg pins s1 σ H1 x v _ I1 r1 q1) λ_ s2 q=>q
theorem ba {i:Nat} {x:Str} {e:Expr} {te:TE} {pos':Pos} (hN:X.N.Nodup) (hi:X.N[i]?=some x) (hx:n8 X.env.scope x) (he:PE X e te) (hs:swapsWith e (some (.Name x pos')) pos.line X.env=pure false:=by rfl) (hf:X.fn x=true\/X.env.scope.names.lookup x=some .local:=by first | exact .inl rfl | exact .inr rfl | assumption) :
  PS X (.Assign [.Name x pos'] e pos) (dM te (dZ i)):=by
 intro pins s σ H D I h
 refine wpAny_Assign_Name (thn (he pins s σ H _ I h) λv s1 hz0=>?_) hs
 obtain ⟨y,H1,I1,r1,q1⟩:=hz0
 exact l9 I1 hN hi hx r1 (λs2 I2=>⟨_,H1,I2,q1⟩) hf
def ZaB (i j:Nat) (ta:TA):TS:=λD σ H=>ta σ H λvs H1=>∃ v w,vs=[v,w]/\D.nx ((σ.set i (some v)).set j (some w)) H1
theorem ph {i j:Nat} {x y:Str} {a b:Expr} {ta:TA} {px py pt:Pos} {kt k2 pt2} (hc:X.calm=true) (hN:X.N.Nodup) (hi:X.N[i]?=some x) (hj:X.N[j]?=some y) (hij:i≠j)
  (hx:X.env.scope.names.lookup x=some .local) (hy:X.env.scope.names.lookup y=some .local) (ha:PA X [a,b] ta)
  (hw:swappedStores [.Tuple [.Name x px,.Name y py] kt pt] (.Tuple [a,b] k2 pt2) X.env=pure (some [x,y]))
  (hs:swapsWithSole [.Tuple [.Name x px,.Name y py] kt pt] (.Tuple [a,b] k2 pt2) pos.line X.env=pure false:=by rfl) :
  PS X (.Assign [.Tuple [.Name x px,.Name y py] kt pt] (.Tuple [a,b] k2 pt2) pos) (ZaB i j ta):=by
 intro pins s σ H D I h
 rw [exec_Assign_arm]
 refine wpAny_bind (wpAny_standAt ?_)
 rw [hs]
 refine wpAny_bind (wpAny_pure ?_)
 rw [if_neg (by decide)]
 refine wpAny_bind (Tuple_ (thn (ha _ pins s σ H _ I h) λus s1 hz0=>?_))
 obtain ⟨vs,H1,I1,r1,q1⟩:=hz0
 obtain ⟨v,w,e1,q1⟩:=q1
 subst e1
 obtain ⟨u1,u2,rfl,rv,rw'⟩:∃ u1 u2,us=[u1,u2]/\RelV v u1/\RelV w u2:=by
  cases r1 with
  | cons p q =>
   cases q with
   | cons p' q' =>
    cases q'
    exact ⟨_,_,rfl,p,p'⟩
 refine wpAny_newObj_type ?_ (by show 2<=sizeLine; decide)
 have I2:Inv X pins σ H1 { s1 with heap:=s1.heap.push { cls:=.type "tuple",data:=.seq [u1,u2].toArray } }:=I1.kept (t':=s1.toks) λb o e=>v9 _ e
 rw [hw]
 refine wpAny_bind (wpAny_pure ?_)
 show wpAny (model X.prog X.w) X.A (do rule "assign.swapped-stores"; let items <- unpackItems (.ref s1.heap.objs.size) 2 none; assignInOrder [λv=>bindName X.env y v,λv=>bindName X.env x v] items.reverse; pure Flow.next) _ _ _
 refine wpAny_bind (wpAny_rule (wpAny_bind (unpackItems_tuple (items:=#[u1,u2]) (I.ok.hd hc) (IsTup.new s1.heap _) λh' hx'=>?_)))
 have I3:=I2.kept (h':=h') (t':=s1.toks) λb o e=>hx' b o (AR (AK e)) e
 show wpAny _ _ (assignInOrder [λv=>bindName X.env y v,λv=>bindName X.env x v] [u2,u1] >>= λ_=>pure Flow.next) _ _ _
 refine wpAny_bind (assignInOrder_cons (wpAny_bindName (l9 I3 hN hj (.inl hy) rw' (λs2 I4=>?_) (.inr hy))))
 refine assignInOrder_cons (wpAny_bindName (l9 I4 hN hi (.inl hx) rv (λs3 I5=>assignInOrder_nil (wpAny_pure ?_)) (.inr hx)))
 rw [List.set_comm _ _ (Ne.symm hij)] at I5
 exact ⟨_,H1,I5,q1⟩
def ZaI (i:Nat) (te:TE) (ti:Ah):TS:=λD σ H=>∃ x,σ[i]?=some (some x)/\te σ H λy H1=>ti x y H1 λz H2=>D.nx (σ.set i (some z)) H2
theorem xZ {i:Nat} {x:Str} {e:Expr} {te:TE} {op:Operator} {ti:Ah} {pos':Pos} (hN:X.N.Nodup) (hi:X.N[i]?=some x) (hx:n8 X.env.scope x) (he:PE X e te) (ho:PIp X op ti) (hf:X.fn x=true\/X.env.scope.names.lookup x=some .local:=by first | exact .inl rfl | exact .inr rfl | assumption) :
  PS X (.AugAssign (.Name x pos') op e pos) (ZaI i te ti):=by
 intro pins s σ H D I h
 obtain ⟨v,e1,h⟩:=h
 obtain ⟨m,hn,hl⟩:=I.loc
 have vis:vZ X.env.scope x:=by rcases hx with k | k; exact .inl k; exact .inr (.inl k)
 obtain ⟨u,r,l⟩:=hl i x v hi e1 vis
 refine wpAny_AugAssign_Name ?_
 have go:wpAny (model X.prog X.w) X.A (eval e X.env) (λw s₂=>wpAny (model X.prog X.w) X.A (inplaceOp op u w) (λr s₃=>wpAny (model X.prog X.w) X.A (storeName X.env x r) (λ_=>SP X pins D .next) X.xe s₃) X.xe s₂) X.xe s:=by
  refine thn (he pins s σ H _ I h) λw s1 hz0=>?_
  obtain ⟨y,H1,I1,r1,q1⟩:=hz0
  refine thn (ho pins s1 σ H1 v y u w _ I1 r r1 q1) λz s2 hz0=>?_
  obtain ⟨zv,H2,I2,r2,q2⟩:=hz0
  exact l9 I2 hN hi hx r2 (λs3 I3=>⟨_,H2,I3,q2⟩) hf
 rcases l with ⟨hk,hm⟩ | ⟨hk,c,hc,hcell⟩
 ·exact wpAny_loadName_local I.ok.kind hk hn hm go
 ·rcases hk with hk | hk
  ·exact wpAny_loadName_cell I.ok.kind hk hc hcell go
  ·rcases hx with k | k
   ·have:X.env.scope.names.lookup x=some .free:=hk
    rw [k] at this; cases this
   ·have:X.env.scope.names.lookup x=some .free:=hk
    rw [k] at this; cases this
end
section
variable {X:Cx} {pos:Pos}
def ZgG (c:TT) (tb:TS):TS:=λD σ H=>∃ W:Nat->St->Hp->Prop,(∃ m,W m σ H)/\∀ m σ H,W m σ H ->
 c σ H λb H1=>if b=true then ∃ N:St->Hp->Prop,(∀ σ' H',N σ' H'->∃ m',m' < m/\W m' σ' H')/\tb { D with nx:=N,ct:=N,bk:=D.nx } σ H1 else D.nx σ H1
theorem Zit {c:Expr} {body:List Stmt} {tc:TT} {tb:TS} (hp:PassesOwn (model X.prog X.w) X.A X.env X.xe) (hc:PT X c tc) (hb:PSs X body tb):PS X (.While c body [] pos) (ZgG tc tb):=by
 intro pins s σ H D I h
 obtain ⟨W,⟨m0,w0⟩,turn⟩:=h
 refine wpAny_While (codeAny_whileLoop (λn s'=>∃ σ' H',Inv X pins σ' H' s'/\W n σ' H') ?_ m0 ⟨σ,H,I,w0⟩)
 rintro n s1 ⟨σ1,H1,I1,w1⟩
 refine wpAny_passesOwn hp (thn (hc pins s1 σ1 H1 _ I1 (turn n σ1 H1 w1)) λb s2 hz0=>?_)
 obtain ⟨H2,I2,q2⟩:=hz0
 cases b with
 | true =>
  obtain ⟨N,hN,q2⟩:=q2
  rw [if_pos rfl]
  refine wpAny_passesOwn hp (thn (hb pins s2 σ1 H2 _ I2 q2) λf s3 q3=>?_)
  cases f with
  | next =>
   obtain ⟨σ3,H3,I3,n3⟩:=q3
   obtain ⟨m',hm,w3⟩:=hN σ3 H3 n3
   exact ⟨m',hm,σ3,H3,I3,w3⟩
  | cont =>
   obtain ⟨σ3,H3,I3,n3⟩:=q3
   obtain ⟨m',hm,w3⟩:=hN σ3 H3 n3
   exact ⟨m',hm,σ3,H3,I3,w3⟩
  | brk=>exact q3
  | ret v=>exact q3
 | false =>
  rw [if_neg AQ]
  exact wpAny_execs_nil ⟨σ1,H2,I2,q2⟩
end
structure It where
 go:Nat->Hp->Prop
 yld:Nat->Hp->V->Hp->Prop
 stop:Nat->Hp->Prop
noncomputable def fL (X:Cx) (pins:List (Addr×Obj)) (H:Hp) (b:Addr):Prop :=
 H b=none/\b≠X.env.locals/\b ∉ X.fs/\(b∈X.ex\/X.s₀.heap.objs.size<=b)/\(∀ x c,X.env.cells.lookup x=some c->c≠b)/\∀ p∈X.pn++pins,p.1≠b
theorem Inv.fpOk {X:Cx} {pins:List (Addr×Obj)} {σ:St} {H H':Hp} {s:Shared} {b:Addr} (I:Inv X pins σ H s) (hb:s.heap.objs.size<=b) (hn:H' b=none):fL X pins H' b:=by
 refine ⟨hn,A6 (AD I.lt hb),I.nofs hb,.inr (AL I.sz hb),λx c e z=>?_,λp hp z=>?_⟩
 ·obtain ⟨v,q⟩:=I.cell x c e
  exact absurd (AD q.lt (by rw [z]; exact hb)) (AY _)
 ·exact absurd (AD (AK (I.pin p hp).1) (by rw [z]; exact hb)) (AY _)
structure Turn (P:Program) (w:World) (K:DO) (tg:Expr) (J:It) (fp:List Addr) (it:Addr) (tn:Nat->Heap->Prop):Prop where
 mem:it∈fp
 obj:∀ i h,tn i h->∀ b∈fp,∃ o,h.get? b=some o/\∀ v,o.data≠.cell v
 keep:∀ i h h',tn i h->(∀ b∈fp,∀ o,h.get? b=some o->h'.get? b=some o)->tn i h'
 item:∀ (X:Cx),X.prog=P->X.w=w->X.K=K->X.calm=true->∀ (i:Nat) (pins:List (Addr×Obj)) (s:Shared) (σ:St) (H:Hp) (E:DX),Inv X pins σ H s->(∀ b∈fp,fL X pins H b)->tn i s.heap->J.go i H ->
  wpAny (model P w) X.A (pyNext (.ref it)) (λr s1=>∃ u,r=some u /\
   wpAny (model P w) X.A (letOwnedTupleGo tg (.ref it) u) (λ_ s2=>∃ x H',Inv X pins σ H' s2/\RelV x u/\J.yld i H x H'/\tn (i+1) s2.heap/\∀ b∈fp,H' b=none) E s1) E s
 done:∀ (X:Cx),X.prog=P->X.w=w->X.K=K->X.calm=true->∀ (i:Nat) (pins:List (Addr×Obj)) (s:Shared) (σ:St) (H:Hp) (E:DX),Inv X pins σ H s->(∀ b∈fp,fL X pins H b)->tn i s.heap->J.stop i H ->
  wpAny (model P w) X.A (pyNext (.ref it)) (λr s1=>r=none/\Inv X pins σ H s1) E s
 self:∀ (A:Around) (i:Nat) (s:Shared) (Q:DX) (E:DX),tn i s.heap->Q (.ref it) s->wpAny (model P w) A (pyIter (.ref it)) Q E s
noncomputable abbrev TI:=St->Hp->(It->Hp->Prop)->Prop
noncomputable def lV (X:Cx) (pins:List (Addr×Obj)) (σ:St) (tg:Expr) (R:It->Hp->Prop) (itv:Value) (s2:Shared):Prop :=
 ∃ (it:Addr) (fp:List Addr) (tn:Nat->Heap->Prop) (J:It) (H':Hp),itv=.ref it/\Inv X pins σ H' s2/\Turn X.prog X.w X.K tg J fp it tn/\tn 0 s2.heap/\(∀ b∈fp,fL X pins H' b)/\R J H'
noncomputable def PI (X:Cx) (tg iter:Expr) (wi:TI):Prop :=
 ∀ (pins:List (Addr×Obj)) (s:Shared) (σ:St) (H:Hp) (R:It->Hp->Prop),Inv X pins σ H s->wi σ H R ->
  wpAny (model X.prog X.w) X.A (eval iter X.env) (λv s1=>wpAny (model X.prog X.w) X.A (pyIter v) (lV X pins σ tg R) X.xe s1) X.xe s
theorem ni {M:Model} {A:Around} {E:DX} {s:Shared} {tg:Expr} {it:Addr} {u:Value} {o:Obj} {n:String} {vs:Array Value} {Q:Unit->Shared->Prop} (ho:s.heap.get? it=some o) (hc:o.cls=.type n) (hd:o.data=.fields vs)
  (hn:["enumerate","zip","dict_itemiterator","dict_reverseitemiterator","odict_iterator","itertools.zip_longest","itertools.pairwise"].contains n=false) (hQ:Q () s):wpAny M A (letOwnedTupleGo tg (.ref it) u) Q E s:=by
 unfold letOwnedTupleGo
 cases tg <;> first
  | exact wpAny_pure hQ
  | (cases u <;> first
    | exact wpAny_pure hQ
    | (refine wpAny_bind (wpAny_load ho ?_)
       rw [hc,hd]
       show wpAny M A (if (["enumerate","zip","dict_itemiterator","dict_reverseitemiterator","odict_iterator","itertools.zip_longest","itertools.pairwise"].contains n && vs[0]? == some (rawInt _))=true then _ else _) Q E s
       rw [if_neg (by intro h; rw [hn,Bc] at h; cases h)]
       exact wpAny_pure hQ))
noncomputable def Ap (K:DO) (a:Addr):It :=
 ⟨λi H=>∃ xs x,SqL K H a xs/\xs[i]?=some x,λi H x H'=>H'=H/\∀ xs,SqL K H a xs->xs[i]?=some x,λi H=>∃ xs,SqL K H a xs/\xs.length<=i⟩
noncomputable def Ao (K:DO) (a:Addr):It :=
 ⟨λi H=>∃ xs x,SqT K H a xs/\xs[i]?=some x,λi H x H'=>H'=H/\∀ xs,SqT K H a xs->xs[i]?=some x,λi H=>∃ xs,SqT K H a xs/\xs.length<=i⟩
noncomputable def kh (lo:Int) (n:Nat):It:=⟨λi _=>i < n,λi H x H'=>H'=H/\x=.int (lo+i),λi _=>n<=i⟩
theorem Zgy {P:Program} {w:World} {K:DO} {tg:Expr} (a it:Addr):Turn P w K tg (Ap K a) [it] it (λi h=>h.IsListIter it a i) where
 mem:=by simp
 obj:=λi h st b hb=>by
  have e:b=it:=by simpa using hb
  subst e
  obtain ⟨o,e,c,d⟩:=st
  exact ⟨o,e,λv z=>by rw [d] at z; cases z⟩
 keep:=λi h h' st k=>st.at λo e=>k it (by simp) o e
 item:=by
  intro X hP hw hK hc i pins s σ H E I hf st hg
  subst hP hw hK
  obtain ⟨xs,x,hq,hx⟩:=hg
  obtain ⟨its,rv,p,hz⟩:=I.list hq
  obtain ⟨u,hu,ru⟩:=rv.get hx
  obtain ⟨f0,f1,f2,f3,f4,f5⟩:=hf it (by simp)
  refine wpAny_pyNext_list_item st p.isList (x:=u) (by simpa using hu) λh' st' sb=>?_
  have I1:Inv X pins σ H { s with heap:=h' }:=I.turned (t':=s.toks) (λb o hb e=>(sb.2 b hb).trans e) f0 f1 f3 f4 f5
  obtain ⟨o,e,c,d⟩:=id st'
  exact ⟨u,rfl,ni (s:={ s with heap:=h' }) e c d (by decide) ⟨x,H,I1,ru,⟨rfl,λys hy=>by rw [I.list_inj hy hq]; exact hx⟩,st',λb hb=>(hf b hb).1⟩⟩
 done:=by
  intro X hP hw hK hc i pins s σ H E I hf st hg
  subst hP hw hK
  obtain ⟨xs,hq,hx⟩:=hg
  obtain ⟨its,rv,p,hz⟩:=I.list hq
  obtain ⟨f0,f1,f2,f3,f4,f5⟩:=hf it (by simp)
  have hl:=rv.length
  exact wpAny_pyNext_list_end (I.ok.hd hc) st p.isList (by simp; omega) λh' eb=>⟨rfl,I.turned (t':=s.toks) (λb o hb e=>eb b o hb e) f0 f1 f3 f4 f5⟩
 self:=λ_ _ _ _ _ st h=>wpAny_pyIter_listiter st h
theorem Zgv {P:Program} {w:World} {K:DO} {tg:Expr} (a it:Addr):Turn P w K tg (Ao K a) [it] it (λi h=>h.IsTupleIter it a i) where
 mem:=by simp
 obj:=λi h st b hb=>by
  have e:b=it:=by simpa using hb
  subst e
  obtain ⟨o,e,c,d⟩:=st
  exact ⟨o,e,λv z=>by rw [d] at z; cases z⟩
 keep:=λi h h' st k=>st.at λo e=>k it (by simp) o e
 item:=by
  intro X hP hw hK hc i pins s σ H E I hf st hg
  subst hP hw hK
  obtain ⟨xs,x,hq,hx⟩:=hg
  obtain ⟨its,rv,p,hz⟩:=I.tuple hq
  obtain ⟨u,hu,ru⟩:=rv.get hx
  obtain ⟨f0,f1,f2,f3,f4,f5⟩:=hf it (by simp)
  refine wpAny_pyNext_tuple_item st (show s.heap.IsTuple a its.toArray from p) (x:=u) (by simpa using hu) λh' st' sb=>?_
  have I1:Inv X pins σ H { s with heap:=h' }:=I.turned (t':=s.toks) (λb o hb e=>(sb.2 b hb).trans e) f0 f1 f3 f4 f5
  obtain ⟨o,e,c,d⟩:=id st'
  exact ⟨u,rfl,ni (s:={ s with heap:=h' }) e c d (by decide) ⟨x,H,I1,ru,⟨rfl,λys hy=>by rw [I.tuple_inj hy hq]; exact hx⟩,st',λb hb=>(hf b hb).1⟩⟩
 done:=by
  intro X hP hw hK hc i pins s σ H E I hf st hg
  subst hP hw hK
  obtain ⟨xs,hq,hx⟩:=hg
  obtain ⟨its,rv,p,hz⟩:=I.tuple hq
  obtain ⟨f0,f1,f2,f3,f4,f5⟩:=hf it (by simp)
  have hl:=rv.length
  exact wpAny_pyNext_tuple_end (I.ok.hd hc) st (show s.heap.IsTuple a its.toArray from p) (by simp; omega) λh' eb=>⟨rfl,I.turned (t':=s.toks) (λb o hb e=>eb b o hb e) f0 f1 f3 f4 f5⟩
 self:=λ_ _ _ _ _ st h=>wpAny_pyIter_tupleiter st h
theorem Zgx {P:Program} {w:World} {K:DO} {tg:Expr} (it:Addr) (lo:Int) (n:Nat):Turn P w K tg (kh lo n) [it] it (λi h=>IsRangeIter h it (lo+(i:Nat) * 1) ((n:Int) - (i:Nat)) 1) where
 mem:=by simp
 obj:=λi h st b hb=>by
  have e:b=it:=by simpa using hb
  subst e
  exact ⟨_,st,λv z=>by
   have z':Data.fields _=Data.cell v:=z
   cases z'⟩
 keep:=λi h h' st k=>k it (by simp) _ st
 item:=by
  intro X hP hw hK hc i pins s σ H E I hf st hg
  subst hP hw hK
  obtain ⟨f0,f1,f2,f3,f4,f5⟩:=hf it (by simp)
  have W:=Walks.range (prog:=X.prog) (w:=X.w) (I.ok.hd hc) it lo 1 n
  refine W.item i s _ _ hg st λv h' tk hv st' kk=>?_
  obtain ⟨t,rfl⟩:=hv
  have I1:Inv X pins σ H { s with heap:=h',toks:=tk }:=I.turned (λb o hb e=>kk b o (by simpa using hb) e) f0 f1 f3 f4 f5
  refine ⟨_,rfl,ni (s:={ s with heap:=h',toks:=tk }) (n:="range_iterator") st' rfl rfl (by decide) ⟨.int (lo+i),H,I1,⟨t,?_⟩,⟨rfl,rfl⟩,st',λb hb=>(hf b hb).1⟩⟩
  rw [Db]
 done:=by
  intro X hP hw hK hc i pins s σ H E I hf st hg
  subst hP hw hK
  obtain ⟨f0,f1,f2,f3,f4,f5⟩:=hf it (by simp)
  exact wpAny_pyNext_range_end (I.ok.hd hc) st (by have:n<=i:=hg; omega) λh' eb=>⟨rfl,I.turned (t':=s.toks) (λb o hb e=>eb b o hb e) f0 f1 f3 f4 f5⟩
 self:=λ_ _ _ _ _ st h=>wpAny_pyIter_rangeiter st h
section
variable {X:Cx} {tg:Expr}
theorem ZbZ {pins:List (Addr×Obj)} {σ:St} {H:Hp} {s:Shared} {R:It->Hp->Prop} {E:DX} {lo hi:Int} {t u v:Tok} {tk:Nat} (I:Inv X pins σ H s) (h1:-(2 ^ 62)<=lo) (h2:lo < 2 ^ 62) (h3:-(2 ^ 62)<=hi) (h4:hi < 2 ^ 62)
  (q:R (kh lo (hi - lo).toNat) H):wpAny (model X.prog X.w) X.A (pyIter (.ref s.heap.objs.size)) (lV X pins σ tg R) E { s with heap:=s.heap.push { cls:=.type "range",data:=.fields #[.int lo t,.int hi u,.int 1 v] },toks:=tk }:=by
 refine wpAny_pyIter_range (IsRange.new ..) (small_one h1 h2 h3 h4) ?_
 have I1:Inv X pins σ H { s with heap:=s.heap.push { cls:=.type "range",data:=.fields #[.int lo t,.int hi u,.int 1 v] },toks:=tk }:=I.kept λb o e=>v9 _ e
 refine ⟨(s.heap.push { cls:=.type "range",data:=.fields #[.int lo t,.int hi u,.int 1 v] }).objs.size,[(s.heap.push { cls:=.type "range",data:=.fields #[.int lo t,.int hi u,.int 1 v] }).objs.size],_,_,H,rfl,
  I1.kept (t':=tk) λb o e=>v9 _ e,Zgx _ lo (hi - lo).toNat,?_,λb hb=>?_,q⟩
 ·have e1:lo+((0:Nat):Int) * 1=lo:=by simp
  have e2:(((hi - lo).toNat:Nat):Int) - ((0:Nat):Int)=Builtin.Range.rangeSize lo hi 1:=by rw [rangeSize_one]; split <;> omega
  show IsRangeIter _ _ (lo+((0:Nat):Int) * 1) ((((hi - lo).toNat:Nat):Int) - ((0:Nat):Int)) 1
  rw [e1,e2]
  exact AC _ rfl
 ·have e:b=(s.heap.push { cls:=.type "range",data:=.fields #[.int lo t,.int hi u,.int 1 v] }).objs.size:=by simpa using hb
  subst e
  exact I1.fpOk (Aw _) (I1.hok.fresh (Aw _))
def Zd1 (ta:TA):TI:=λσ H R=>ta σ H λvs H1=>∃ j:Int,vs=[.int j]/\-(2 ^ 62)<=j/\j < 2 ^ 62/\R (kh 0 j.toNat) H1
def Zd0 (ta:TA):TI:=λσ H R=>ta σ H λvs H1=>∃ i j:Int,vs=[.int i,.int j]/\(-(2 ^ 62)<=i/\i < 2 ^ 62/\-(2 ^ 62)<=j/\j < 2 ^ 62)/\R (kh i (j - i).toNat) H1
theorem gO {a:Expr} {ta:TA} {p pos:Pos} (hg:Gl X "range") (hm:X.mg "range"=none) (ha:PA X [a] ta) (hs:starEach [a] X.env=[(false,eval a X.env)]:=by rfl):PI X tg (.Call (.Name "range" p) [a] [] pos) (Zd1 ta):=by
 intro pins s σ H R I h
 refine Call_ (je I hg hm boot_range (Bx (thn (ha pos pins s σ H _ I h) λus s1 hz0=>?_) hs rfl))
 obtain ⟨vs,H1,I1,r1,q1⟩:=hz0
 obtain ⟨j,e,q1,q2,q⟩:=q1
 subst e
 cases r1 with
 | cons r rr =>
  cases rr
  obtain ⟨t,rfl⟩:=r
  exact call_range_1 (ZbZ I1 (by omega) (by omega) q1 q2 (by simpa using q))
theorem ZcI {a b:Expr} {ta:TA} {p pos:Pos} (hg:Gl X "range") (hm:X.mg "range"=none) (ha:PA X [a,b] ta) (hs:starEach [a,b] X.env=[(false,eval a X.env),(false,eval b X.env)]:=by rfl) (hs2:starEach [b] X.env=[(false,eval b X.env)]:=by rfl) :
  PI X tg (.Call (.Name "range" p) [a,b] [] pos) (Zd0 ta):=by
 intro pins s σ H R I h
 refine Call_ (je I hg hm boot_range (Bx (thn (ha pos pins s σ H _ I h) λus s1 hz0=>?_) (by rw [hs,hs2]) (by rw [hs2]; rfl)))
 obtain ⟨vs,H1,I1,r1,q1⟩:=hz0
 obtain ⟨i,j,e,⟨q1,q2,q3,q4⟩,q⟩:=q1
 subst e
 cases r1 with
 | cons r rr =>
  cases rr with
  | cons r' rr =>
   cases rr
   obtain ⟨t,rfl⟩:=r
   obtain ⟨t',rfl⟩:=r'
   exact call_range_2 (ZbZ I1 q1 q2 q3 q4 q)
def Zg0 (wi:TI) (g:TG) (tb:TS):TS:=λD σ H=>wi σ H λJ H1=>∃ W:Nat->Nat->St->Hp->Prop,(∃ m,W 0 m σ H1)/\∀ i m σ H,W i m σ H ->
 (J.stop i H/\D.nx σ H)\/(J.go i H/\∃ N:St->Hp->Prop,(∀ σ' H',N σ' H'->∃ m',m' < m/\W (i+1) m' σ' H')/\∀ x H',J.yld i H x H'->g x σ H' λσ2 H2=>tb { D with nx:=N,ct:=N,bk:=D.nx } σ2 H2)
noncomputable def fQ (fp:List Addr) (h:Heap):List (Addr×Obj):=fp.filterMap λb=>(h.get? b).map λo=>(b,o)
theorem fy {fp:List Addr} {h:Heap} {b:Addr} {o:Obj} (hb:b∈fp) (e:h.get? b=some o):(b,o)∈fQ fp h:=De.mpr ⟨b,hb,by rw [e]; rfl⟩
theorem Zjk {fp:List Addr} {h:Heap} {p:Addr×Obj} (hp:p∈fQ fp h):p.1∈fp/\h.get? p.1=some p.2:=by
 obtain ⟨b,hb,e⟩:=De.mp hp
 cases q:h.get? b with
 | none=>rw [q] at e; cases e
 | some o =>
  rw [q] at e
  have e':(b,o)=p:=A9 e
  subst e'
  exact ⟨hb,q⟩
theorem Inv.pinned {pins:List (Addr×Obj)} {σ:St} {H:Hp} {s:Shared} {fp:List Addr} (I:Inv X pins σ H s) (hf:∀ b∈fp,fL X pins H b) (ho:∀ b∈fp,∃ o,s.heap.get? b=some o/\∀ v,o.data≠.cell v):Inv X (pins++fQ fp s.heap) σ H s :=
 I.pins_of λp hp=>(Bi.mp hp).elim (λz=>I.pin p (AA _ z)) λz=>by
  obtain ⟨hb,e⟩:=Zjk z
  obtain ⟨f0,f1,f2,_⟩:=hf p.1 hb
  obtain ⟨o,e',d⟩:=ho p.1 hb
  rw [e] at e'; cases e'
  exact ⟨e,f0,f1,f2,d⟩
theorem Inv.unpinned {pins pl:List (Addr×Obj)} {σ:St} {H:Hp} {s:Shared} (I:Inv X (pins++pl) σ H s):Inv X pins σ H s:=I.pins_of λp hp=>I.pin p (AA _ (Bf _ hp))
theorem Ziv {iter:Expr} {body:List Stmt} {wi:TI} {g:TG} {tb:TS} {pos:Pos} (hp:PassesOwn (model X.prog X.w) X.A X.env X.xe) (hc:X.calm=true) (hi:PI X tg iter wi) (hg:PG X tg g) (hb:PSs X body tb)
  (hs:∀ x,foldedSetIterable iter X.env x=pure x:=by intro _; rfl):PS X (.For tg iter body [] pos) (Zg0 wi g tb):=by
 intro pins s σ H D I h
 refine wpAny_For (thn (hi pins s σ H _ I h) λv s1 h1=>thn h1 λitv s2 h2=>?_) hs
 obtain ⟨it,fp,tn,J,H2,e,I2,T,st2,f2,W,⟨m0,w0⟩,turn⟩:=h2
 subst e
 -- what stays true of the iterator's objects through the loop
 have stat:∀ {H':Hp},(∀ b∈fp,H' b=none)->∀ b∈fp,fL X pins H' b:=λhn b hb=>⟨hn b hb,(f2 b hb).2⟩
 refine codeAny_forLoop_any (λn s'=>∃ i σ' H',Inv X pins σ' H' s'/\tn i s'.heap/\(∀ b∈fp,H' b=none)/\W i n σ' H') ?_ m0 ⟨0,σ,H2,I2,st2,λb hb=>(f2 b hb).1,w0⟩
 rintro n s3 ⟨i,σ3,H3,I3,st3,fr3,w3⟩
 rcases turn i n σ3 H3 w3 with ⟨stop,qn⟩ | ⟨go,N,hN,step⟩
 ·refine wpAny_passesOwn hp (thn (T.done X rfl rfl rfl hc i pins s3 σ3 H3 X.xe I3 (stat fr3) st3 stop) λr s4 hz0=>?_)
  obtain ⟨hr,I4⟩:=hz0
  subst hr
  exact wpAny_execs_nil ⟨σ3,H3,I4,qn⟩
 ·refine wpAny_passesOwn hp (thn (T.item X rfl rfl rfl hc i pins s3 σ3 H3 X.xe I3 (stat fr3) st3 go) λr s4 hz0=>?_)
  obtain ⟨u,hr,h4⟩:=hz0
  subst hr
  refine wpAny_passesOwn hp (thn h4 λ_ s5 hz0=>?_)
  obtain ⟨x,H5,I5,r5,y5,st5,fr5⟩:=hz0
  have I5':=I5.pinned (stat fr5) (T.obj _ _ st5)
  refine wpAny_passesOwn hp (thn (hg _ s5 σ3 H5 x u _ I5' r5 (step x H5 y5)) λ_ s6 hz0=>?_)
  obtain ⟨σ6,H6,I6,q6⟩:=hz0
  refine wpAny_passesOwn hp (thn (hb _ s6 σ6 H6 _ I6 q6) λf s7 q7=>?_)
  have again:∀ {σ7:St} {H7:Hp},Inv X (pins++fQ fp s5.heap) σ7 H7 s7->N σ7 H7->∃ m,m < n/\∃ i σ' H',Inv X pins σ' H' s7/\tn i s7.heap/\(∀ b∈fp,H' b=none)/\W i m σ' H':=λ{σ7 H7} I7 n7=>by
   obtain ⟨m',hm,w7⟩:=hN σ7 H7 n7
   refine ⟨m',hm,i+1,σ7,H7,I7.unpinned,T.keep _ _ _ st5 λb hb o e=>(I7.pin (b,o) (AA _ (AA _ (fy hb e)))).1,λb hb=>?_,w7⟩
   obtain ⟨o,e,d⟩:=T.obj _ _ st5 b hb
   exact (I7.pin (b,o) (AA _ (AA _ (fy hb e)))).2.1
  cases f with
  | next=>obtain ⟨σ7,H7,I7,n7⟩:=q7; exact again I7 n7
  | cont=>obtain ⟨σ7,H7,I7,n7⟩:=q7; exact again I7 n7
  | brk=>obtain ⟨σ7,H7,I7,q7⟩:=q7; exact ⟨σ7,H7,I7.unpinned,q7⟩
  | ret v=>obtain ⟨x7,σ7,H7,I7,r7,q7⟩:=q7; exact ⟨x7,σ7,H7,I7.unpinned,r7,q7⟩
end
noncomputable abbrev R2:=V->V->Hp->VK->Prop
noncomputable def OpR (X:Cx) (f:Value->Value->Sem Value) (r:R2):Prop :=
 ∀ (pins:List (Addr×Obj)) (s:Shared) (σ:St) (H:Hp) (x y:V) (v u:Value) (Q:VK),Inv X pins σ H s->RelV x v->RelV y u->r x y H Q ->
  wpAny (model X.prog X.w) X.A (f v u) (EP X pins σ Q) X.xe s
noncomputable def Af (X:Cx) (f:Value->Sem Value) (r:V->Hp->VK->Prop):Prop :=
 ∀ (pins:List (Addr×Obj)) (s:Shared) (σ:St) (H:Hp) (x:V) (v:Value) (Q:VK),Inv X pins σ H s->RelV x v->r x H Q ->
  wpAny (model X.prog X.w) X.A (f v) (EP X pins σ Q) X.xe s
noncomputable def dL (X:Cx) (f:Value) (r:List V->Hp->VK->Prop):Prop :=
 ∀ (pins:List (Addr×Obj)) (s:Shared) (σ:St) (H:Hp) (xs:D3) (us:D1) (Q:VK),Inv X pins σ H s->Vals xs us->r xs H Q ->
  wpAny (model X.prog X.w) X.A (call f us) (EP X pins σ Q) X.xe s
noncomputable def ZnS (X:Cx) (r:V->Hp->(Bool->Hp->Prop)->Prop):Prop :=
 ∀ (pins:List (Addr×Obj)) (s:Shared) (σ:St) (H:Hp) (x:V) (v:Value) (Q:Bool->Hp->Prop),Inv X pins σ H s->RelV x v->r x H Q ->
  wpAny (model X.prog X.w) X.A (truthy v) (TP X pins σ Q) X.xe s
def kr (r:R2) (ta tb:TE):TE:=λσ H Q=>ta σ H λx H1=>tb σ H1 λy H2=>r x y H2 Q
def tUn (r:V->Hp->VK->Prop) (ta:TE):TE:=λσ H Q=>ta σ H λx H1=>r x H1 Q
noncomputable def rI (C:Int->Int->Prop) (g:Int->Int->V):R2:=λx y H Q=>∃ i j,x=.int i/\y=.int j/\C i j/\Q (g i j) H
noncomputable def fP (g:Int->Int->V):R2:=λx y H Q=>∃ i j,x=.int i/\y=.int j/\Q (g i j) H
noncomputable def rU (g:Int->V):V->Hp->VK->Prop:=λx H Q=>∃ i,x=.int i/\Q (g i) H
section
variable {X:Cx} {a b c:Expr} {ta tb tc:TE} {pos:Pos}
theorem zL (ha:PE X a ta) (hb:PE X b tb) {pins:List (Addr×Obj)} {s:Shared} {σ:St} {H:Hp} {R:V->V->Hp->Prop} (I:Inv X pins σ H s)
  (h:ta σ H λx H1=>tb σ H1 λy H2=>R x y H2) {Q:DX} {f:Value->Value->Sem Value}
  (hf:∀ v u s2 x y H2,Inv X pins σ H2 s2->RelV x v->RelV y u->R x y H2->wpAny (model X.prog X.w) X.A (f v u) Q X.xe s2) :
  wpAny (model X.prog X.w) X.A (eval a X.env) (λv s₁=>wpAny (model X.prog X.w) X.A (eval b X.env) (λu s₂=>wpAny (model X.prog X.w) X.A (f v u) Q X.xe s₂) X.xe s₁) X.xe s:=by
 refine thn (ha pins s σ H _ I h) λv s1 hz0=>?_
 obtain ⟨x,H1,I1,r1,q1⟩:=hz0
 refine thn (hb pins s1 σ H1 _ I1 q1) λu s2 hz0=>?_
 obtain ⟨y,H2,I2,r2,q2⟩:=hz0
 exact hf v u s2 x y H2 I2 r1 r2 q2
theorem c8 {op:Operator} {r:R2} (ho:OpR X (binaryOp op) r) (ha:PE X a ta) (hb:PE X b tb):PE X (.BinOp a op b pos) (kr r ta tb):=by
 intro pins s σ H Q I h
 exact wpAny_BinOp (zL ha hb I h λv u s2 x y H2 I2 rx ry q=>ho pins s2 σ H2 x y v u Q I2 rx ry q)
theorem ZiL {op:UnaryOp} {r:V->Hp->VK->Prop} (ho:Af X (unaryOp op) r) (ha:PE X a ta):PE X (.UnaryOp op a pos) (tUn r ta):=by
 intro pins s σ H Q I h
 exact UnaryOp_ (thn (ha pins s σ H _ I h) λv s1 ⟨x,H1,I1,r1,q1⟩=>ho pins s1 σ H1 x v Q I1 r1 q1)
theorem i5 {f:Value->Value->Sem Value} {C:Int->Int->Prop} {g:Int->Int->Int}
  (rule:∀ (i j:Int) (t u:Tok) (s:Shared) (Q:DX) (E:DX),C i j->Q (.int (g i j) s.toks) { s with toks:=s.toks+1 }->wpAny (model X.prog X.w) X.A (f (.int i t) (.int j u)) Q E s) :
  OpR X f (rI C λi j=>.int (g i j)):=by
 intro pins s σ H x y v u Q I rx ry h
 obtain ⟨i,j,rfl,rfl,hc,q⟩:=h
 obtain ⟨t,rfl⟩:=rx
 obtain ⟨t',rfl⟩:=ry
 exact rule i j t t' s _ _ hc ⟨.int (g i j),H,I.tok _,⟨_,rfl⟩,q⟩
theorem x9 {f:Value->Value->Sem Value} {g:Int->Int->Int}
  (rule:∀ (i j:Int) (t u:Tok) (s:Shared) (Q:DX) (E:DX),Q (.int (g i j) s.toks) { s with toks:=s.toks+1 }->wpAny (model X.prog X.w) X.A (f (.int i t) (.int j u)) Q E s) :
  OpR X f (fP λi j=>.int (g i j)):=by
 intro pins s σ H x y v u Q I rx ry h
 obtain ⟨i,j,rfl,rfl,q⟩:=h
 obtain ⟨t,rfl⟩:=rx
 obtain ⟨t',rfl⟩:=ry
 exact rule i j t t' s _ _ ⟨.int (g i j),H,I.tok _,⟨_,rfl⟩,q⟩
theorem pH {f:Value->Value->Sem Value} {g:Int->Int->Bool}
  (rule:∀ (i j:Int) (t u:Tok) (s:Shared) (Q:DX) (E:DX),Q (.bool (g i j)) s->wpAny (model X.prog X.w) X.A (f (.int i t) (.int j u)) Q E s) :
  OpR X f (fP λi j=>.bl (g i j)):=by
 intro pins s σ H x y v u Q I rx ry h
 obtain ⟨i,j,rfl,rfl,q⟩:=h
 obtain ⟨t,rfl⟩:=rx
 obtain ⟨t',rfl⟩:=ry
 exact rule i j t t' s _ _ ⟨.bl (g i j),H,I,rfl,q⟩
def Zor (i j:Int):Prop:=0 < j/\j < 1073741824
def Zoq (i j:Int):Prop:=0<=j/\j<=1000000/\i.natAbs < 2 ^ 64
def CMul (i j:Int):Prop:=(-(2 ^ 64) < i/\i < 2 ^ 64)\/(-(2 ^ 64) < j/\j < 2 ^ 64)
theorem CMul.ok {i j:Int} (h:CMul i j):IntMulOk i j:=by
 rcases h with ⟨h1,h2⟩ | ⟨h1,h2⟩
 ·exact .of_left (intBits_le_64 h1 h2)
 ·exact .of_right (intBits_le_64 h1 h2)
theorem jN:OpR X (binaryOp .Add) (fP λi j=>.int (i+j)):=x9 λ_ _ _ _ _ _ _ q=>add_int q
theorem dW:OpR X (binaryOp .Sub) (fP λi j=>.int (i - j)):=x9 λ_ _ _ _ _ _ _ q=>sub_int q
theorem x5:OpR X (binaryOp .Mult) (rI CMul λi j=>.int (i * j)):=i5 λ_ _ _ _ _ _ _ hc q=>mul_int q hc.ok
theorem x8:OpR X (binaryOp .FloorDiv) (rI Zor λi j=>.int (i / j)):=i5 λi j _ _ _ _ _ hc q=>by
 have h1:(0:Int) < j:=hc.1
 have h2:j < 1073741824:=hc.2
 exact floordiv_int (by omega) (by rw [Int.fdiv_eq_ediv_of_nonneg i (by omega)]; exact q) (.inl (PyProof.noPylong_small (by omega)))
theorem iZ:OpR X (binaryOp .Mod) (rI (λ_ j=>0 < j) λi j=>.int (i % j)):=i5 λi j _ _ _ _ _ hc q=>by
 have h1:(0:Int) < j:=hc
 exact mod_int' (by omega) (by rw [CQ i (by omega)]; exact q)
theorem x6:OpR X (binaryOp .Mod) (rI (λ_ j=>j≠0) λi j=>.int (i.fmod j)):=i5 λ_ _ _ _ _ _ _ hc q=>mod_int' hc q
theorem ZcU:OpR X (binaryOp .Pow) (rI Zoq λi j=>.int (i ^ j.toNat)):=i5 λ_ _ _ _ _ _ _ hc q=>pow_int_small hc.1 hc.2.1 hc.2.2 q
theorem Zku:OpR X (inplaceOp .Add) (fP λi j=>.int (i+j)):=x9 λ_ _ _ _ _ _ _ q=>iadd_int q
theorem unI {f:Value->Sem Value} {g:Int->Int}
  (rule:∀ (i:Int) (t:Tok) (s:Shared) (Q:DX) (E:DX),Q (.int (g i) s.toks) { s with toks:=s.toks+1 }->wpAny (model X.prog X.w) X.A (f (.int i t)) Q E s) :
  Af X f (rU λi=>.int (g i)):=by
 intro pins s σ H x v Q I rx h
 obtain ⟨i,rfl,q⟩:=h
 obtain ⟨t,rfl⟩:=rx
 exact rule i t s _ _ ⟨.int (g i),H,I.tok _,⟨_,rfl⟩,q⟩
theorem Zgr:Af X (unaryOp .USub) (rU λi=>.int (-i)):=unI λ_ _ _ _ _ q=>neg_int q
end
noncomputable def scal:V->V->Bool
 | .non,.non=>true | .non,.int _=>true | .int _,.non=>true | .non,.bl _=>true | .bl _,.non=>true | .non,.str _=>true | .str _,.non=>true
 | .int _,.int _=>true | .bl _,.bl _=>true | .str _,.str _=>true | .byt _,.byt _=>true
 | .int _,.str _=>true | .str _,.int _=>true | .bl _,.str _=>true | .str _,.bl _=>true
 | _,_=>false
noncomputable def rEq:R2:=λx y H Q=>scal x y=true/\Q (.bl (decide (x=y))) H
noncomputable def rNe:R2:=λx y H Q=>scal x y=true/\Q (.bl (!decide (x=y))) H
theorem ZeP {i j:Int}:decide (V.int i=V.int j)=(i == j):=by
 rw [B5]
 simp
theorem ZeR {i j:Bool}:decide (V.bl i=V.bl j)=(i == j):=by
 rw [B5]
 simp
theorem vC {i j:Str}:decide (V.str i=V.str j)=(i == j):=by
 rw [B5]
 simp
theorem ZeQ {i j:Array UInt8}:decide (V.byt i=V.byt j)=(i.toList == j.toList):=by
 rw [B5]
 cases i
 cases j
 simp
section
variable {X:Cx} {a b c:Expr} {ta tb tc:TE} {pos:Pos}
theorem cr {pins:List (Addr×Obj)} {σ:St} {H:Hp} {s:Shared} {Q:VK} {k k':Bool} (I:Inv X pins σ H s) (q:Q (.bl k) H) (e:k=k'):EP X pins σ Q (.bool k') s:=by
 subst e
 exact ⟨.bl k,H,I,rfl,q⟩
theorem Zjd:OpR X (compareOp .Eq) rEq:=by
 intro pins s σ H x y v u Q I rx ry h
 obtain ⟨hs,q⟩:=h
 cases x with
 | non =>
  cases rx
  cases y with
  | non=>cases ry; exact PySem.EqNone.eq_none_none (cr I q (by simp))
  | bl j=>cases ry; exact PySem.EqNone.eq_none_bool (cr I q (by simp))
  | int j=>obtain ⟨t',rfl⟩:=ry; exact PySem.EqNone.eq_none_int (cr I q (by simp))
  | str j=>obtain ⟨t',rfl⟩:=ry; exact PySem.EqNone.eq_none_str (cr I q (by simp))
  | _=>exact absurd (show false=true from hs) AQ
 | bl i =>
  cases rx
  cases y with
  | non=>cases ry; exact PySem.EqNone.eq_bool_none (cr I q (by simp))
  | bl j=>cases ry; exact eq_bool (cr I q ZeR)
  | str j=>obtain ⟨t',rfl⟩:=ry; exact PySem.EqMixed.eq_bool_str (cr I q (by simp))
  | _=>exact absurd (show false=true from hs) AQ
 | int i =>
  obtain ⟨t,rfl⟩:=rx
  cases y with
  | non=>cases ry; exact PySem.EqNone.eq_int_none (cr I q (by simp))
  | int j=>obtain ⟨t',rfl⟩:=ry; exact eq_int (cr I q ZeP)
  | str j=>obtain ⟨t',rfl⟩:=ry; exact PySem.EqMixed.eq_int_str (cr I q (by simp))
  | _=>exact absurd (show false=true from hs) AQ
 | str i =>
  obtain ⟨t,rfl⟩:=rx
  cases y with
  | non=>cases ry; exact PySem.EqNone.eq_str_none (cr I q (by simp))
  | bl j=>cases ry; exact PySem.EqMixed.eq_str_bool (cr I q (by simp))
  | int j=>obtain ⟨t',rfl⟩:=ry; exact PySem.EqMixed.eq_str_int (cr I q (by simp))
  | str j=>obtain ⟨t',rfl⟩:=ry; exact eq_str (cr I q vC)
  | _=>exact absurd (show false=true from hs) AQ
 | byt i =>
  obtain ⟨t,rfl⟩:=rx
  cases y with
  | byt j=>obtain ⟨t',rfl⟩:=ry; exact PySem.W.eq_bytes (cr I q ZeQ)
  | _=>exact absurd (show false=true from hs) AQ
 | _=>cases y <;> exact absurd (show false=true from hs) AQ
theorem Zi8:OpR X (compareOp .NotEq) rNe:=by
 intro pins s σ H x y v u Q I rx ry h
 obtain ⟨hs,q⟩:=h
 cases x with
 | non =>
  cases rx
  cases y with
  | non=>cases ry; exact PySem.EqNone.ne_none_none (cr I q (by simp))
  | bl j=>cases ry; exact PySem.EqNone.ne_none_bool (cr I q (by simp))
  | int j=>obtain ⟨t',rfl⟩:=ry; exact PySem.EqNone.ne_none_int (cr I q (by simp))
  | str j=>obtain ⟨t',rfl⟩:=ry; exact PySem.EqNone.ne_none_str (cr I q (by simp))
  | _=>exact absurd (show false=true from hs) AQ
 | bl i =>
  cases rx
  cases y with
  | non=>cases ry; exact PySem.EqNone.ne_bool_none (cr I q (by simp))
  | bl j=>cases ry; exact ne_bool (cr I q (congrArg not ZeR))
  | str j=>obtain ⟨t',rfl⟩:=ry; exact PySem.EqMixed.ne_bool_str (cr I q (by simp))
  | _=>exact absurd (show false=true from hs) AQ
 | int i =>
  obtain ⟨t,rfl⟩:=rx
  cases y with
  | non=>cases ry; exact PySem.EqNone.ne_int_none (cr I q (by simp))
  | int j=>obtain ⟨t',rfl⟩:=ry; exact ne_int (cr I q (congrArg not ZeP))
  | str j=>obtain ⟨t',rfl⟩:=ry; exact PySem.EqMixed.ne_int_str (cr I q (by simp))
  | _=>exact absurd (show false=true from hs) AQ
 | str i =>
  obtain ⟨t,rfl⟩:=rx
  cases y with
  | non=>cases ry; exact PySem.EqNone.ne_str_none (cr I q (by simp))
  | bl j=>cases ry; exact PySem.EqMixed.ne_str_bool (cr I q (by simp))
  | int j=>obtain ⟨t',rfl⟩:=ry; exact PySem.EqMixed.ne_str_int (cr I q (by simp))
  | str j=>obtain ⟨t',rfl⟩:=ry; exact ne_str (cr I q (congrArg not vC))
  | _=>exact absurd (show false=true from hs) AQ
 | byt i =>
  obtain ⟨t,rfl⟩:=rx
  cases y with
  | byt j=>obtain ⟨t',rfl⟩:=ry; exact PySem.W.ne_bytes (cr I q (congrArg not ZeQ))
  | _=>exact absurd (show false=true from hs) AQ
 | _=>cases y <;> exact absurd (show false=true from hs) AQ
theorem gQ:OpR X (compareOp .Lt) (fP λi j=>.bl (decide (i < j))):=pH λ_ _ _ _ _ _ _ q=>lt_int q
theorem jM:OpR X (compareOp .LtE) (fP λi j=>.bl (decide (i<=j))):=pH λ_ _ _ _ _ _ _ q=>le_int q
theorem kJ:OpR X (compareOp .Gt) (fP λi j=>.bl (decide (j < i))):=pH λ_ _ _ _ _ _ _ q=>gt_int q
theorem mF:OpR X (compareOp .GtE) (fP λi j=>.bl (decide (j<=i))):=pH λ_ _ _ _ _ _ _ q=>ge_int q
theorem Zjb:OpR X (compareOp .Is) (λx y H Q=>y=.non/\Q (.bl (decide (x=.non))) H):=by
 intro pins s σ H x y v u Q I rx ry h
 obtain ⟨rfl,q⟩:=h
 cases ry
 refine is_none_gen (cr I q ?_)
 cases x <;> first
  | (cases rx; rfl)
  | (obtain ⟨t,rfl⟩:=rx; rfl)
theorem OpR.or {f:Value->Value->Sem Value} {r r':R2} (h:OpR X f r) (h':OpR X f r'):OpR X f (λx y H Q=>r x y H Q\/r' x y H Q):=by
 intro pins s σ H x y v u Q I rx ry q
 rcases q with q | q
 ·exact h pins s σ H x y v u Q I rx ry q
 ·exact h' pins s σ H x y v u Q I rx ry q
theorem nomark (b:Expr) {op:CmpOp} (h:op≠.In:=by decide) (h2:op≠.NotIn:=by decide):behindInMarks op b=false:=by
 have e1:(op == CmpOp.In)=false:=by cases op <;> first | rfl | exact absurd rfl h
 have e2:(op == CmpOp.NotIn)=false:=by cases op <;> first | rfl | exact absurd rfl h2
 cases b <;> first | rfl | (show (_ && (op == CmpOp.In || op == CmpOp.NotIn) && _)=false; rw [e1,e2,Di,CD,Bc])
theorem ZiV {op:CmpOp} {r:R2} (ho:OpR X (compareOp op) r) (ha:PE X a ta) (hb:PE X b tb) (hm:behindInMarks op b=false):PE X (.Compare a [op] [b] pos) (kr r ta tb):=by
 intro pins s σ H Q I h
 exact wpAny_Compare1 (zL ha hb I h λv u s2 x y H2 I2 rx ry q=>ho pins s2 σ H2 x y v u Q I2 rx ry q) hm
def ow (t:TE):TT:=λσ H Q=>t σ H λx H'=>∃ k,x=.bl k/\Q k H'
theorem mx {op:CmpOp} {r:R2} (ho:OpR X (compareOp op) r) (ha:PE X a ta) (hb:PE X b tb) (hm:behindInMarks op b=false):PT X (.Compare a [op] [b] pos) (ow (kr r ta tb)):=by
 intro pins s σ H Q I h
 refine wpAny_isTrue_Compare1 (thn (ha pins s σ H _ I h) λv s1 ⟨x,H1,I1,r1,q1⟩=>thn (hb pins s1 σ H1 _ I1 q1) λu s2 ⟨y,H2,I2,r2,q2⟩ =>
  thn (ho pins s2 σ H2 x y v u _ I2 r1 r2 q2) λc s3 ⟨z,H3,I3,r3,k,e,q3⟩=>?_) hm
 subst e
 cases r3
 exact wpAny_truthy_bool ⟨H3,I3,q3⟩
def ZaE (r r':R2) (ta tb tc:TE):TE:=λσ H Q=>ta σ H λx H1=>tb σ H1 λy H2=>r x y H2 λz H3=>∃ k,z=.bl k /\
 (if k=true then tc σ H3 λw' H4=>r' y w' H4 Q else Q (.bl false) H3)
theorem ZiW {op op':CmpOp} {r r':R2} (ho:OpR X (compareOp op) r) (ho':OpR X (compareOp op') r') (ha:PE X a ta) (hb:PE X b tb) (hc:PE X c tc)
  (hm:lastMarks [op,op'] [b,c]=false:=by with_unfolding_all rfl):PE X (.Compare a [op,op'] [b,c] pos) (ZaE r r' ta tb tc):=by
 intro pins s σ H Q I h
 refine Compare_chain (thn (ha pins s σ H _ I h) λv s1 ⟨x,H1,I1,r1,q1⟩=>chain_link (thn (hb pins s1 σ H1 _ I1 q1) λu s2 ⟨y,H2,I2,r2,q2⟩ =>
  thn (ho pins s2 σ H2 x y v u _ I2 r1 r2 q2) λd s3 ⟨z,H3,I3,r3,k,e,q3⟩=>?_)) hm
 subst e
 cases r3
 refine wpAny_truthy_bool ?_
 cases k with
 | false=>exact ite_ff ⟨.bl false,H3,I3,rfl,q3⟩
 | true=>exact ite_tt (chain_last (thn (hc pins s3 σ H3 _ I3 q3) λw' s4 ⟨z',H4,I4,r4,q4⟩=>ho' pins s4 σ H4 y z' u w' Q I4 r2 r4 q4))
noncomputable def Zf2 (K:DO) (x:V) (H:Hp) (k:Bool):Prop :=
 match x with
 | .non=>k=false
 | .bl b=>k=b
 | .int i=>k=(i != 0)
 | .str y=>y.length<=sizeLine/\k=((y.length:Int) != 0)
 | .byt y=>y.size<=sizeLine/\k=((y.size:Int) != 0)
 | .ref p=>(∃ xs,SqL K H p xs/\k=!xs.isEmpty)\/(∃ xs,SqT K H p xs/\k=!xs.isEmpty)\/∃ kvs,H p=some (.dK kvs)/\k=!kvs.isEmpty
 | _=>False
theorem Zkt {κ:Type} {kvs:List (κ×V)} {vs:List (κ×Value)} (r:KV kvs vs):(!vs.isEmpty)=!kvs.isEmpty:=by
 cases r <;> rfl
theorem ZdU {xs:D3} {its:D1} (r:Vals xs its):(!its.toArray.isEmpty)=!xs.isEmpty:=by
 cases r <;> simp
theorem jV:(sizeLine:Nat) < 2 ^ 63:=by rw [sizeLine_eq]; decide
theorem ZgD:ZnS X (λx H Q=>∃ k,Zf2 X.K x H k/\Q k H):=by
 intro pins s σ H x v Q I rx h
 obtain ⟨k,e,q⟩:=h
 have hl:=jV
 have hs:sizeLine=16777216:=sizeLine_eq
 cases x with
 | non =>
  cases rx
  have e':k=false:=e
  subst e'
  exact truthy_none ⟨H,I,q⟩
 | bl b =>
  cases rx
  have e':k=b:=e
  subst e'
  exact wpAny_truthy_bool ⟨H,I,q⟩
 | int i =>
  obtain ⟨t,rfl⟩:=rx
  have e':k=(i != 0):=e
  subst e'
  exact PySem.P.truthy_int ⟨H,I,q⟩
 | str y =>
  obtain ⟨t,rfl⟩:=rx
  obtain ⟨hy,e'⟩:y.length<=sizeLine/\k=((y.length:Int) != 0):=e
  subst e'
  exact PySem.P.truthy_str (by omega) ⟨H,I.tok _,q⟩
 | byt y =>
  obtain ⟨t,rfl⟩:=rx
  obtain ⟨hy,e'⟩:y.size<=sizeLine/\k=((y.size:Int) != 0):=e
  subst e'
  exact PySem.W.truthy_bytes (by omega) ⟨H,I.tok _,q⟩
 | ref p =>
  cases rx
  have e':(∃ xs,SqL X.K H p xs/\k=!xs.isEmpty)\/(∃ xs,SqT X.K H p xs/\k=!xs.isEmpty)\/∃ kvs,H p=some (.dK kvs)/\k=!kvs.isEmpty:=e
  rcases e' with ⟨xs,hx,e'⟩ | ⟨xs,hx,e'⟩ | ⟨kvs,hx,e'⟩
  ·subst e'
   obtain ⟨its,r,pl,hz⟩:=I.list hx
   have hlen:=r.length
   exact wpAny_truthy_list pl.isList (by simp only [AG]; omega) ⟨H,I.tok _,by rw [ZdU r]; exact q⟩
  ·subst e'
   obtain ⟨its,r,pl,hz⟩:=I.tuple hx
   have hlen:=r.length
   exact truthy_tuple pl (by simp only [AG]; omega) ⟨H,I.tok _,by rw [ZdU r]; exact q⟩
  ·subst e'
   obtain ⟨hz,hS,vs,r,m⟩:kvs.length<=sizeLine/\(p == sysModules)=false/\∃ vs,KV kvs vs/\s.heap.DictOf (bP X.prog X.w) p vs:=I.hok p _ hx
   have hlen:kvs.length=vs.length:=C6 r
   exact wpAny_truthy_dict hS m (by omega) ⟨H,I.tok _,by rw [Zkt r]; exact q⟩
 | _=>exact (show False from e).elim
theorem Ziq (ha:PE X a ta) (he:∀ whole,isTrue a X.env whole=(do let v <- whole; standAt a.pos; holding [v] (truthy v))) :
  PT X a (λσ H Q=>ta σ H λx H'=>∃ k,Zf2 X.K x H' k/\Q k H'):=by
 intro pins s σ H Q I h
 exact isTrue_plain (thn (ha pins s σ H _ I h) λv s1 ⟨x,H1,I1,r1,q1⟩=>ZgD pins s1 σ H1 x v Q I1 r1 q1) (he _)
theorem eB {x:V} {us:D1} (r:Vals [x] us):∃ u,us=[u]/\RelV x u:=by
 cases r with
 | cons r1 r2=>cases r2; exact ⟨_,rfl,r1⟩
theorem wF {x y:V} {us:D1} (r:Vals [x,y] us):∃ u w',us=[u,w']/\RelV x u/\RelV y w':=by
 cases r with
 | cons r1 r2 =>
  cases r2 with
  | cons r3 r4=>cases r4; exact ⟨_,_,rfl,r1,r3⟩
theorem lE:dL X (.builtin "abs") (λxs H Q=>∃ i,xs=[.int i]/\Q (.int (if i < 0 then -i else i)) H):=by
 intro pins s σ H xs us Q I r h
 obtain ⟨i,rfl,q⟩:=h
 obtain ⟨u,rfl,t,rfl⟩:=eB r
 exact call_abs_int λu tk=>⟨.int (if i < 0 then -i else i),H,I.tok _,⟨_,rfl⟩,q⟩
theorem lD (hc:X.calm=true):dL X (.builtin "max") (λxs H Q=>∃ i j,xs=[.int i,.int j]/\Q (.int (if j > i then j else i)) H):=by
 intro pins s σ H xs us Q I r h
 obtain ⟨i,j,rfl,q⟩:=h
 obtain ⟨u,w',rfl,⟨t,rfl⟩,⟨t',rfl⟩⟩:=wF r
 refine max_two_ints (I.ok.hd hc) λh' tk k=>⟨_,H,I.kept k,?_,q⟩
 by_cases hj:j > i
 ·rw [if_pos hj,if_pos hj]; exact ⟨_,rfl⟩
 ·rw [if_neg hj,if_neg hj]; exact ⟨_,rfl⟩
theorem ZmW:dL X (.type "int") (λxs H Q=>(∃ i,xs=[.int i]/\Q (.int i) H)\/∃ k,xs=[.bl k]/\Q (.int (if k then 1 else 0)) H):=by
 intro pins s σ H xs us Q I r h
 rcases h with ⟨i,rfl,q⟩ | ⟨k,rfl,q⟩
 ·obtain ⟨u,rfl,t,rfl⟩:=eB r
  exact call_int_int ⟨.int i,H,I,⟨_,rfl⟩,q⟩
 ·obtain ⟨u,rfl,r1⟩:=eB r
  cases r1
  exact call_int_bool ⟨.int (if k then 1 else 0),H,I.tok _,⟨_,rfl⟩,q⟩
theorem Ze6:dL X (.type "str") (λxs H Q=>∃ i,xs=[.int i]/\i.natAbs.log2 < 1920/\Q (.str (toString i)) H):=by
 intro pins s σ H xs us Q I r h
 obtain ⟨i,rfl,hz,q⟩:=h
 obtain ⟨u,rfl,t,rfl⟩:=eB r
 exact PySem.P.str_of_int hz ⟨.str _,H,I.tok _,⟨_,rfl⟩,q⟩
end
structure ObjM (h:Heap) (x dx C:Addr) (mA:D4):Prop where
 obj:h.get? x=some (PySem.W.instObj C dx)
 ns:h.Ns1 dx mA
 ne:dx≠x
theorem ZjQ {h:Heap} {dx:Addr} {mA:D4} (n:h.Ns1 dx mA):∃ od,h.get? dx=some od/\∀ name,PySem.W.lookIn name od=some (mA name):=by
 obtain ⟨o,es,ep,ho,hd,hk,_,hm⟩:=n
 refine ⟨o,ho,λname=>?_⟩
 have e:=hm name
 unfold nsFind findBy at e
 rw [<- Array.find?_toList] at e
 unfold PySem.W.lookIn
 rw [hd]
 dsimp only
 split
 ·rename_i y q
  rw [q] at e
  exact congrArg some e
 ·rename_i q
  rw [q] at e
  have a:es.toList.any (·.refKey)=false:=by
   rw [List.any_eq_false]
   intro y hy
   obtain ⟨z,t,hkey⟩:=hk y (Array.mem_toList_iff.mp hy)
   simp [DictEntry.refKey,hkey]
  have a':¬ es.toList.any (·.refKey)=true:=by rw [a]; exact AQ
  rw [if_neg a']
  exact congrArg some e
theorem ObjM.look {h:Heap} {x dx C:Addr} {mA:D4} (I:ObjM h x dx C mA):∃ od,PySem.W.InstAt h x (PySem.W.instObj C dx) C (some od)/\∀ name,PySem.W.lookIn name od=some (mA name) :=
 let ⟨od,ho,hl⟩:=ZjQ I.ns
 ⟨od,⟨I.obj,rfl,rfl,ho⟩,hl⟩
section
variable {prog:Program} {w:World} {A:Around} {E:DX} {s:Shared} {K:DO} {x dx C f:Addr} {mA:D4} {name:Str} {v:Value}
end
theorem RelO.some_of {v:V} {o:Option Value} (r:RelO (some v) o):∃ u,o=some u/\RelV v u:=by
 cases o with
 | none=>exact (show False from r).elim
 | some u=>exact ⟨u,rfl,r⟩
section
variable {P:Program} {w:World} {H H':Hp} {h h':Heap} {a C dx:Addr} {fs fs':List (Str×V)}
theorem Zkx (hok:HOk P w H h) (e:H a=some (.ins C dx fs)):∃ mA,ObjM h a dx C mA/\(∀ f,RelO (fs.lookup f) (mA f))/\PySem.Within mA (fs.map (·.1))/\fs.length<=1000/\H dx=some (.own a):=by
 obtain ⟨d,z,ne,ob,mA,n,r,q⟩:=(show ObjOk P w H h a (.ins C dx fs) from hok a _ e)
 exact ⟨mA,⟨ob,n,ne⟩,r,q,z,d⟩
end
structure Cls (K:DO) (C:Addr):Prop where
 pg:PySem.W.plainGet K C Str.empty=true
 hd:PySem.W.hasDictIn K C=true
 po:PySem.W.plainOver K C=true
 sa:PySem.W.findIn K (.ref C) "__setattr__"=some (some (.builtin "object.__setattr__"))
theorem Cls.get {K:DO} {C:Addr} (c:Cls K C) (f:Str):PySem.W.plainGet K C f=true:=c.pg
section
variable {X:Cx} {pins:List (Addr×Obj)} {σ:St} {H:Hp} {s:Shared} {a C dx:Addr} {fs:List (Str×V)} {f:Str} {v:V} {A:Around} {E:DX}
end
section
variable {X:Cx} {o e value:Expr} {f:Str} {pos pos' tpos:Pos} {ta tv:TE}
end
section
variable {X:Cx} {pins:List (Addr×Obj)} {σ:St} {H:Hp} {s:Shared} {A:Around} {E:DX} {Q:DX} {c:Value} {b:Bool}
inductive TyOf (K:DO) (H:Hp):V->Value->Prop where
 | non:TyOf K H .non (.type "NoneType")
 | bl (x:Bool):TyOf K H (.bl x) (.type "bool")
 | int (i:Int):TyOf K H (.int i) (.type "int")
 | str (x:Str):TyOf K H (.str x) (.type "str")
 | flt (x:UInt64):TyOf K H (.flt x) (.type "float")
 | lst {a:Addr} {xs:D3} (e:H a=some (.lst xs)):TyOf K H (.ref a) (.type "list")
 | frz {a:Addr} {o:Obj} {xs:D3} (e:H a=some (.frz o (.lst xs))):TyOf K H (.ref a) (.type "list")
 | tup {a:Addr} {xs:D3} (e:H a=some (.tup xs)):TyOf K H (.ref a) (.type "tuple")
 | dK {a:Addr} {kvs:List (aL×V)} (e:H a=some (.dK kvs)):TyOf K H (.ref a) (.type "dict")
 | dT {a:Addr} {kvs:List (List aL×V)} (e:H a=some (.dT kvs)):TyOf K H (.ref a) (.type "dict")
 | frzD {a:Addr} {o:Obj} {kvs:List (aL×V)} (e:H a=some (.frz o (.dK kvs))):TyOf K H (.ref a) (.type "dict")
 | frzE {a:Addr} {o:Obj} {kvs:List (List aL×V)} (e:H a=some (.frz o (.dT kvs))):TyOf K H (.ref a) (.type "dict")
 | ins {a C dx:Addr} {fs:List (Str×V)} (e:H a=some (.ins C dx fs)) (cl:Cls K C) (ha:PySem.W.findIn K (.ref C) "__class__"=some (some (.builtin "object.__class__")))
   (hn:PySem.W.specialIn K (.builtin "object.__class__") "__get__"=some (some (.builtin "getset_descriptor.__get__"))) (htk:PySem.W.takesIn K (.builtin "object.__class__")=some true)
   (hm:PySem.W.mroIn K C (.type "object")=some true):TyOf K H (.ref a) (.ref C)
theorem Zks {x:V} {u t:Value} (I:Inv X pins σ H s) (rx:RelV x u) (ty:TyOf X.K H x t) (e:PySem.W.kitOne X.K t c=some b) (h:∀ tk,Q (.bool b) { s with toks:=tk }) :
  wpAny (model X.prog X.w) A (call (.builtin "isinstance") [u,c]) Q E s:=by
 cases ty with
 | non=>cases (show u=Value.none from rx); exact Bt PySem.W.kitx_none I.kIn True.intro e (λz=>nomatch z) h
 | bl y=>cases (show u=Value.bool y from rx); exact Bt PySem.W.kitx_bool I.kIn True.intro e (λz=>nomatch z) h
 | int i=>obtain ⟨t,q⟩:=(show ∃ t,u=Value.int i t from rx); cases q; exact Bt PySem.W.kitx_int I.kIn True.intro e (λz=>nomatch z) h
 | str y=>obtain ⟨t,q⟩:=(show ∃ t,u=Value.str y t from rx); cases q; exact Bt PySem.W.kitx_str I.kIn True.intro e (λz=>nomatch z) h
 | flt y=>obtain ⟨t,q⟩:=(show ∃ t,u=Value.float y t from rx); cases q; exact Bt PySem.W.kitx_float I.kIn True.intro e (λz=>nomatch z) h
 | @lst a xs ea =>
  cases (show u=Value.ref a from rx)
  obtain ⟨_,_,n,_,h1⟩:=(show ObjOk X.prog X.w H s.heap a (.lst xs) from I.hok a _ ea)
  exact Bt PySem.W.kitx_list I.kIn ⟨_,h1,rfl⟩ e (λz=>nomatch z) h
 | @frz a ob xs ea =>
  cases (show u=Value.ref a from rx)
  obtain ⟨_,_,_,n,_,h1⟩:=(show ObjOk X.prog X.w H s.heap a (.frz ob (.lst xs)) from I.hok a _ ea)
  exact Bt PySem.W.kitx_list I.kIn ⟨_,h1,rfl⟩ e (λz=>nomatch z) h
 | @tup a xs ea =>
  cases (show u=Value.ref a from rx)
  obtain ⟨_,_,_,p⟩:=(show ObjOk X.prog X.w H s.heap a (.tup xs) from I.hok a _ ea)
  obtain ⟨o,h1,h2,_⟩:=p
  exact Bt PySem.W.kitx_tuple I.kIn ⟨o,h1,h2⟩ e (λz=>nomatch z) h
 | @dK a kvs ea =>
  cases (show u=Value.ref a from rx)
  obtain ⟨_,_,vs,_,p⟩:=(show ObjOk X.prog X.w H s.heap a (.dK kvs) from I.hok a _ ea)
  obtain ⟨o,es,ep,h1,h2,_⟩:=p
  exact Bt CU I.kIn ⟨o,h1,h2.1⟩ e (λz=>nomatch z) h
 | @frzD a ob kvs ea =>
  cases (show u=Value.ref a from rx)
  obtain ⟨_,_,_,vs,_,p⟩:=(show ObjOk X.prog X.w H s.heap a (.frz ob (.dK kvs)) from I.hok a _ ea)
  obtain ⟨o,es,ep,h1,h2,_⟩:=p
  exact Bt CU I.kIn ⟨o,h1,h2.1⟩ e (λz=>nomatch z) h
 | @frzE a ob kvs ea =>
  cases (show u=Value.ref a from rx)
  obtain ⟨_,_,_,xs,_,o,es,ep,h1,h2,_⟩:=(show ObjOk X.prog X.w H s.heap a (.frz ob (.dT kvs)) from I.hok a _ ea)
  exact Bt CU I.kIn ⟨o,h1,h2.1⟩ e (λz=>nomatch z) h
 | @dT a kvs ea =>
  cases (show u=Value.ref a from rx)
  obtain ⟨_,_,xs,_,o,es,ep,h1,h2,_⟩:=(show ObjOk X.prog X.w H s.heap a (.dT kvs) from I.hok a _ ea)
  exact Bt CU I.kIn ⟨o,h1,h2.1⟩ e (λz=>nomatch z) h
 | @ins a C dx fs ea cl ha hn htk hm =>
  cases (show u=Value.ref a from rx)
  obtain ⟨mA,O,_⟩:=Zkx I.hok ea
  obtain ⟨od,J,_⟩:=O.look
  exact Bt (PySem.W.kitx_own (cl.get _) cl.hd ha hn htk hm) I.kIn J e (λz=>nomatch z) h
end
structure Room (k:Nat) (A:Around):Prop where
 hd:A.handled=none
 dp:A.depth+3 * k+5 < recursionLimit
 un:A.units+16 * k+200 < cLine
 gd:A.guards=some []
theorem Room.mono {j k:Nat} {A:Around} (r:Room k A) (h:j<=k):Room j A:=⟨r.hd,by have:=r.dp; omega,by have:=r.un; omega,r.gd⟩
theorem Room.deeper {k:Nat} {A:Around} (r:Room (k+1) A) (env:Env):Room k (A.deeper env) :=
 ⟨r.hd,by have:=r.dp; show A.depth+1+3 * k+5 < _; omega,by have:=r.un; show A.units+3+16 * k+200 < _; omega,r.gd⟩
theorem Room.depth {k:Nat} {A:Around} (r:Room k A):A.depth < recursionLimit:=by have:=r.dp; omega
theorem Room.units {k:Nat} {A:Around} (r:Room k A):A.units+64 < cLine:=by have:=r.un; omega
theorem Room.units0 {k:Nat} {A:Around} (r:Room k A):A.units < cLine:=by have:=r.un; omega
def aS:TA:=λ_ H Q=>Q [] H
def fM (ta:TE) (tr:TA):TA:=λσ H Q=>ta σ H λx H1=>tr σ H1 λxs H2=>Q (x::xs) H2
section
variable {X:Cx} {e:Expr} {es:List Expr} {te:TE} {t:TA} {pos:Pos}
theorem cf:PA X [] aS:=λ_ _ _ _ H Q I h=>Calls.spliced_nil ⟨[],H,I,.nil,h⟩
theorem bx (ha:PE X e te) (hr:PA X es t) (hs:starEach (e::es) X.env=(false,eval e X.env)::starEach es X.env:=by rfl):PA X (e::es) (fM te t):=by
 intro pos pins s σ H Q I h
 rw [hs]
 show wpAny _ _ (spliced ((false,eval e X.env)::backTo pos (starEach es X.env))) _ _ s
 refine Calls.spliced_cons (thn (ha pins s σ H _ I h) λu s1 hz0=>?_)
 obtain ⟨x,H1,I1,r1,q1⟩:=hz0
 exact thn (hr pos pins s1 σ H1 _ I1 q1) λus s2 hz0=>by
  obtain ⟨xs,H2,I2,r2,q2⟩:=hz0
  exact ⟨x::xs,H2,I2,.cons r1 r2,q2⟩
def ZgI (t:TA):TE:=λσ H Q=>t σ H λxs H1=>xs.length<=sizeLine/\∀ p,H1 p=none->Q (.ref p) (upd H1 p (.tup xs))
def ZgV (t:TA):TE:=λσ H Q=>t σ H λxs H1=>xs.length<=sizeLine/\∀ p,H1 p=none->Q (.ref p) (upd H1 p (.lst xs))
theorem ZiM {x1} (h:PA X es t):PE X (.Tuple es x1 pos) (ZgI t):=by
 intro pins s σ H Q I hq
 refine wpAny_Tuple_spliced (thn (h pos pins s σ H _ I hq) λus s1 ⟨xs,H1,I1,r,z,q⟩=>⟨by rw [<- r.length]; exact z,?_⟩)
 have hf:H1 s1.heap.objs.size=none:=I1.hok.fresh (Aw _)
 refine ⟨.ref s1.heap.objs.size,upd H1 s1.heap.objs.size (.tup xs),I1.laid (t':=s1.toks) (λb u e=>v9 _ e) (Aw _) ?_,rfl,q _ hf⟩
 exact ⟨z,us,r,⟨_,AC _ rfl,rfl,_,rfl⟩⟩
theorem ZcL (h:PA X es t):PE X (.List es pos) (ZgV t):=by
 intro pins s σ H Q I hq
 refine wpAny_List_spliced (thn (h pos pins s σ H _ I hq) λus s1 ⟨xs,H1,I1,r,z,q⟩=>⟨by rw [<- r.length]; exact z,?_⟩)
 have hf:H1 s1.heap.objs.size=none:=I1.hok.fresh (Aw _)
 refine ⟨.ref s1.heap.objs.size,upd H1 s1.heap.objs.size (.lst xs),I1.laid (t':=s1.toks) (λb u e=>v9 _ e) (Aw _) ?_,rfl,q _ hf⟩
 exact ⟨z,us,0,r,AC _ rfl⟩
end
noncomputable abbrev Sp:=List V->Hp->VK->XK->Prop
noncomputable abbrev f8:=List Env->Hp->Shared->XK->Value->Shared->Prop
structure Env0 (P:Program) (w:World) (K:DO) (mg:D4) (base:Heap) (A:Around) (outer:List Env) (s:Shared) (H:Hp):Prop where
 frames:A.frames=some outer
 mod:Mod K mg base
 bs:∀ b o,base.get? b=some o->s.heap.get? b=some o/\H b=none
 bsz:base.objs.size<=s.heap.objs.size
 funs:s.heap.FunFrames base outer
 frf:∀ b∈frs outer,H b=none
 hok:HOk P w H s.heap
 bare:AllBare s.gens
noncomputable def CE (outer:List Env) (P:Program) (w:World) (H:Hp) (s:Shared) (Q:VK) (u:Value) (s':Shared):Prop :=
 ∃ v H',s'.os=s.os/\AllBare s'.gens/\Un (frs outer) [] H H' s.heap s'.heap/\HOk P w H' s'.heap/\RelV v u/\Q v H'
noncomputable def CR (CX:f8) (outer:List Env) (P:Program) (w:World) (H:Hp) (s:Shared) (Q:VK) (E:XK) (r:Result) (s':Shared):Prop :=
 match r with
 | .ok (.ret u)=>CE outer P w H s Q u s'
 | .ok _=>False
 | .error e=>CX outer H s E e s'
structure FnOk (P:Program) (w:World) (K:DO) (mg:D4) (base:Heap) (CX:f8) (k:Nat) (f:Addr) (fd:FuncData) (ps:D2) (sp:Sp):Prop where
 len:∀ vs H Q E,sp vs H Q E->vs.length=ps.length
 run:∀ (A:Around) (outer:List Env) (s:Shared) (H:Hp) (args:Args) (us:D1) (vs:D3) (Q:VK) (E:XK),Room k A->Env0 P w K mg base A outer s H->BindsTo s fd args (ps.zip us)->Vals vs us->sp vs H Q E ->
  codeAny (model P w) A (.call (.ref f) args) (CR CX outer P w H s Q E) s
theorem FnOk.imp {P:Program} {w:World} {K:DO} {mg:D4} {base:Heap} {CX:f8} {k:Nat} {f:Addr} {fd:FuncData} {ps:D2} {sp sp':Sp} (F:FnOk P w K mg base CX k f fd ps sp)
  (h:∀ vs H Q E,sp' vs H Q E->sp vs H Q E):FnOk P w K mg base CX k f fd ps sp' :=
 ⟨λvs H Q E q=>F.len vs H Q E (h _ _ _ _ q),λA outer s H args us vs Q E hr he hb hv hs=>F.run A outer s H args us vs Q E hr he hb hv (h _ _ _ _ hs)⟩
section
variable {X:Cx} {pins:List (Addr×Obj)} {σ:St} {H:Hp} {s s':Shared}
theorem Inv.env0 (I:Inv X pins σ H s):Env0 X.prog X.w X.K X.mg X.base X.A X.stack s H :=
 ⟨I.ok.frames,I.ok.mod,I.bs,AL I.ok.bsz I.sz,I.stack,I.stkFree,I.hok,I.bare⟩
theorem Inv.after {Q:VK} {u:Value} (I:Inv X pins σ H s) (h:CE X.stack X.prog X.w H s Q u s'):EP X pins σ Q u s':=by
 obtain ⟨v,H',os,bare,un,hok,r,q⟩:=h
 obtain ⟨hh,g,d,t,os'⟩:=s'
 obtain rfl:os'=s.os:=os
 exact ⟨v,H',I.call (h':=hh) (g':=g) (d':=d) (t':=t) (ch:=[]) un hok bare (λb z=>absurd z (by simp)),r,q⟩
end
def ZaF (sp:Sp) (dvs:D3) (E:XK) (t:TA):TE:=λσ H Q=>t σ H λvs H1=>sp (vs++dvs) H1 Q E
noncomputable def Binds (K:DO) (fd:FuncData) (ps:D2) (ds:D1):Prop :=
 ∀ (s:Shared) (us:D1),K.In s.heap->(us++ds).length=ps.length->BindsTo s fd ⟨us,[]⟩ (ps.zip (us++ds))
theorem Binds.all {K:DO} {fd:FuncData} {ps:D2} (h:∀ us:D1,us.length=ps.length->bindArgs fd ⟨us,[]⟩=pure (ps.zip us)):Binds K fd ps []:=λs us _ hl=>by
 rw [A4] at hl ⊢
 exact .of_eq (h us hl)
def Am (CX:f8) (X:Cx) (E:XK):Prop:=∀ (pins:List (Addr×Obj)) (σ:St) (H:Hp) (s:Shared) (e:Value) (s':Shared),Inv X pins σ H s->CX X.stack H s E e s'->X.xe e s'
section
variable {X:Cx} {CX:f8} {k:Nat} {f C:Addr} {fd:FuncData} {ps:D2} {sp:Sp} {dvs:D3} {ds:D1} {E:XK} {x m:Str} {p pos apos:Pos} {e o:Expr} {es:List Expr} {ta:TE} {t:TA}
theorem ZhU {pins:List (Addr×Obj)} {σ:St} {H:Hp} {s:Shared} {Q:VK} {us:D1} {vs:D3} (F:FnOk X.prog X.w X.K X.mg X.base CX k f fd ps sp) (hr:Room k X.A) (hb:Binds X.K fd ps ds) (hd:Vals dvs ds) (hx:Am CX X E)
  (I:Inv X pins σ H s) (r:Vals vs us) (h:sp (vs++dvs) H Q E):wpAny (model X.prog X.w) X.A (call (.ref f) us) (EP X pins σ Q) X.xe s:=by
 have r2:Vals (vs++dvs) (us++ds):=r.append hd
 have hl:(us++ds).length=ps.length:=by rw [<- r2.length]; exact F.len _ _ _ _ h
 refine wpAny_call (codeAny_mono (F.run X.A X.stack s H ⟨us,[]⟩ (us++ds) (vs++dvs) Q E hr I.env0 (hb s us I.kIn hl) r2 h) λr s' hq=>?_)
 cases r with
 | error e=>exact hx pins σ H s e s' I hq
 | ok fl =>
  cases fl with
  | ret u=>exact I.after hq
  | next=>exact False.elim hq
  | brk=>exact False.elim hq
  | cont=>exact False.elim hq
theorem ZiX (F:FnOk X.prog X.w X.K X.mg X.base CX k f fd ps sp) (hr:Room k X.A) (hg:Gl X x) (hm:X.mg x=some (.ref f)) (hk:PySem.W.keepIn X.K (.ref f)=true) (hb:Binds X.K fd ps ds) (hd:Vals dvs ds) (hx:Am CX X E)
  (ha:PA X (e::es) t) (hdb:(x == ("__debug__":Str))=false:=by decide) (he:starEach (e::es) X.env=(false,eval e X.env)::starEach es X.env:=by rfl) (hpl:(backTo pos (starEach es X.env)).any (·.1)=false:=by rfl) :
  PE X (.Call (.Name x p) (e::es) [] pos) (ZaF sp dvs E t):=by
 intro pins s σ H Q I h
 refine wpAny_Call_Name_kw (Zdr I hg hm ?_ hdb)
 refine PySem.W.callWith_K (h₀:=X.base) I.ok.mod.kin hk (thn (ha pos pins s σ H _ I h) λus s1 ⟨vs,H1,I1,r,q⟩=>⟨I1.kIn,?_⟩) he hpl
 exact ZhU F hr hb hd hx I1 r q
end
noncomputable def PK (X:Cx) (kws:List Keyword) (t:TA):Prop :=
 ∀ (pos:Pos) (pins:List (Addr×Obj)) (s:Shared) (σ:St) (H:Hp) (Q:List V->Hp->Prop),Inv X pins σ H s->t σ H Q->wpAny (model X.prog X.w) X.A (evalAll ((backToKw pos (keywordEach kws X.env)).map (·.2))) (AP X pins σ Q) X.xe s
section
variable {X:Cx} {CX:f8} {k:Nat} {f C:Addr} {fd:FuncData} {ps ks:D2} {sp:Sp} {E:XK} {x m:Str} {p pos apos kpos:Pos} {e o:Expr} {es:List Expr} {kws:List Keyword} {te ta:TE} {t tk:TA} {nm:Option Str}
variable {g:List Value->List Value->List Value} {gV:List V->List V->List V}
end
structure FnScope (N P:D2) (sc:Scope):Prop where
 kind:sc.kind=.function
 co:sc.isCoroutine=false
 gen:sc.isGenerator=false
 nd:N.Nodup
 pre:N.take P.length=P
 par:∀ x∈P,sc.names.lookup x=some .local\/sc.names.lookup x=some .cell
 nofree:∀ y∈sc.names,y.2≠.free
theorem Zfr {kindOf:Str->Option NameKind} {x:Str}:∀ {binds:List (Str×Value)} {m:D4},(∀ v,(x,v) ∉ binds)->bindL kindOf binds m x=m x
 | [],_,_=>rfl
 | (n,v)::r,m,h=>by
  unfold bindL
  rw [Zfr λw hw=>h w (Az _ hw)]
  split
  ·have:x≠n:=by rintro rfl; exact h v AB
   simp [this]
  ·rfl
theorem Zft {kindOf:Str->Option NameKind} {x:Str}:∀ {binds:List (Str×Value)} {m:D4},(∀ v,(x,v) ∉ binds)->bindC kindOf binds m x=m x
 | [],_,_=>rfl
 | (n,v)::r,m,h=>by
  unfold bindC
  rw [Zft λw hw=>h w (Az _ hw)]
  split
  ·rfl
  ·have:x≠n:=by rintro rfl; exact h v AB
   simp [this]
theorem Zfs {kindOf:Str->Option NameKind} {x:Str} {v:Value}:∀ {P:D2} {vs:D1} {i:Nat} {m:D4},P.Nodup->P[i]?=some x->vs[i]?=some v->kindOf x=some .local ->
  bindL kindOf (P.zip vs) m x=some v
 | [],_,_,_,_,h,_,_=>by simp at h
 | _::_,[],_,_,_,_,h,_=>by simp at h
 | p::P,w::vs,0,m,nd,h1,h2,hk=>by
  simp at h1 h2; subst h1; subst h2
  show bindL kindOf ((p,w)::P.zip vs) m p=_
  unfold bindL
  rw [Zfr λv hv=>(BQ.mp nd).1 (Cu hv).1,if_pos hk]
  simp
 | p::P,w::vs,i+1,m,nd,h1,h2,hk=>by
  show bindL kindOf ((p,w)::P.zip vs) m x=_
  unfold bindL
  exact Zfs (i:=i) (BQ.mp nd).2 (by simpa using h1) (by simpa using h2) hk
theorem Zfu {kindOf:Str->Option NameKind} {x:Str} {v:Value}:∀ {P:D2} {vs:D1} {i:Nat} {m:D4},P.Nodup->P[i]?=some x->vs[i]?=some v->kindOf x≠some .local ->
  bindC kindOf (P.zip vs) m x=some v
 | [],_,_,_,_,h,_,_=>by simp at h
 | _::_,[],_,_,_,_,h,_=>by simp at h
 | p::P,w::vs,0,m,nd,h1,h2,hk=>by
  simp at h1 h2; subst h1; subst h2
  show bindC kindOf ((p,w)::P.zip vs) m p=_
  unfold bindC
  rw [Zft λv hv=>(BQ.mp nd).1 (Cu hv).1,if_neg hk]
  simp
 | p::P,w::vs,i+1,m,nd,h1,h2,hk=>by
  show bindC kindOf ((p,w)::P.zip vs) m x=_
  unfold bindC
  exact Zfu (i:=i) (BQ.mp nd).2 (by simpa using h1) (by simpa using h2) hk
noncomputable def start (N:D2) (vs:D3):St:=vs.map some++List.replicate (N.length - vs.length) none
noncomputable def jp (CX:f8) (P:Program) (w:World) (K:DO) (mg:D4) (base:Heap) (N:D2) (qual:Str) (scope:Scope) (f:Addr) (cd:Value) (A:Around) (outer:List Env) (s:Shared) (H:Hp) (E:XK):Cx where
 prog:=P
 w:=w
 K:=K
 mg:=mg
 base:=base
 A:=A.deeper (envOfC qual scope s.heap.objs.size f cd)
 N:=N
 s₀:=s
 H₀:=H
 env:=envOfC qual scope s.heap.objs.size f cd
 outer:=outer
 stack:=envOfC qual scope s.heap.objs.size f cd::outer
 ex:=[]
 calm:=true
 fn:=λ_=>true
 pn:=[]
 xe:=λe s'=>wpAny (model P w) (A.deeper (envOfC qual scope s.heap.objs.size f cd)) (leaving (envOfC qual scope s.heap.objs.size f cd) e) (λ_ s''=>CX outer H s E e s'') (λe' s''=>CX outer H s E e' s'') s'
theorem Ze5 {sc:Scope} {n:Nat} {x:Str} (h:sc.names.lookup x=some .cell):∃ c,(cellsFrom n sc.names []).lookup x=some c:=by
 have q:=PySem.W.cellsFrom_some sc.names n [] (.inl h)
 exact Option.isSome_iff_exists.mp q
theorem Zkv {CX:f8} {P:Program} {w:World} {K:DO} {mg:D4} {base:Heap} {N ps:D2} {qual:Str} {scope:Scope} {f:Addr} {cd:Value} {A:Around} {outer:List Env} {s s1:Shared} {H:Hp} {E:XK} {us:D1} {vs:D3}
  (S:FnScope N ps scope) (hd:A.handled=none) (e0:Env0 P w K mg base A outer s H) (hl:vs.length=ps.length) (r:Vals vs us)
  (x:InCallC s s.heap.objs.size (bindL (envOfC qual scope s.heap.objs.size f cd).kindOf (ps.zip us) λ_=>none) (cellsFrom (s.heap.objs.size+1) scope.names []) (bindC (envOfC qual scope s.heap.objs.size f cd).kindOf (ps.zip us) λ_=>none) s1) :
  Inv (jp CX P w K mg base N qual scope f cd A outer s H E) [] (start N vs) H s1:=by
 have hpl:ps.length<=N.length:=by have:=congrArg List.length S.pre; rw [AJ] at this; omega
 obtain ⟨h1,tk,rfl,hk⟩:=x.done
 have noA:∀ b:Addr,b ∉ (jp CX P w K mg base N qual scope f cd A outer s H E).ex:=λb z=>absurd (show b∈([]:List Addr) from z) (by simp)
 refine ⟨⟨e0.mod,S.kind,rfl,rfl,Aw _,λy z c h1 h2=>?_,λy hy=>?_,λy c _ h=>?_,λ_=>hd,Around.frames_deeper e0.frames,.inr ⟨rfl,rfl⟩,λb z=>absurd z (noA b),e0.bs,e0.bsz,λb _ _=>noA b,λb z=>absurd z (noA b),e0.funs,e0.frf⟩,
  rfl,e0.bare,Un.kept hk,⟨_,x.toInCall.ns,λi y v h1 h2 h3=>?_⟩,λy c h=>⟨_,x.cell y c h⟩,e0.hok.fresh (Aw _),λy c h=>?_,λp hp=>absurd (show p∈([]:List (Addr×Obj)) from hp) (by simp),e0.hok.kept hk,?_⟩
 ·exact name_of_addr x.apart (BC h1) (BC h2)
 ·have hy:scope.names.lookup y=some .cell\/scope.names.lookup y=some .free:=hy
  rcases hy with hy | hy
  ·exact Ze5 hy
  ·exact absurd rfl (S.nofree _ (BC hy))
 ·exact B6 (x.above y c (BC h))
 ·have hi:i < vs.length:=by
   unfold start at h2
   by_cases hi:i < vs.length
   ·exact hi
   ·rw [A5 (by simpa using hi)] at h2
    rw [Bb] at h2
    split at h2 <;> cases h2
  have ha:vs[i]?=some v:=by
   unfold start at h2
   rw [AW (by simpa using hi),AM] at h2
   cases e:vs[i]? with
   | none=>rw [e] at h2; cases h2
   | some a=>rw [e] at h2; cases h2; rfl
  obtain ⟨u,hu,rv⟩:=r.get ha
  have hp:ps[i]?=some y:=by
   rw [<- S.pre,List.getElem?_take_of_lt (by omega)]; exact h1
  have ndP:ps.Nodup:=by rw [<- S.pre]; exact S.nd.sublist (List.take_sublist _ _)
  refine ⟨u,rv,?_⟩
  rcases S.par y (Bj hp) with k | k
  ·exact .inl ⟨k,Zfs ndP hp hu k⟩
  ·obtain ⟨c,e⟩:=Ze5 (n:=s.heap.objs.size+1) k
   refine .inr ⟨.inl k,c,e,?_⟩
   have q:=x.cell y c e
   rw [Zfu ndP hp hu (by show scope.names.lookup y≠_; rw [k]; decide)] at q
   exact q
 ·exact e0.hok.fresh (B6 (x.above y c (BC h)))
 ·unfold start
  show _=N.length
  rw [Av,At,CF]
  omega
theorem Zk1 {CX:f8} {P:Program} {w:World} {K:DO} {mg:D4} {base:Heap} {k:Nat} {f:Addr} {name qual:Str} {params:Arguments} {body:List Stmt} {scope:Scope} {dV kV doc pm cdv ct oc:Value} {an od:Option Addr}
  {osl:Array (Option Value)} {N ps:D2} {sp:Sp} (lk:K.lookup f=some ⟨oc,od,.func (PySem.W.fnOf name qual params body scope dV kV doc pm an cdv ct),osl⟩) (hcd:PySem.W.codeIn K cdv qual=true) (S:FnScope N ps scope)
  (len:∀ vs H Q E,sp vs H Q E->vs.length=ps.length)
  (hbody:∀ (A:Around) (outer:List Env) (s:Shared) (H:Hp) (vs:D3) (Q:VK) (E:XK),Room k (A.deeper (envOfC qual scope s.heap.objs.size f cdv))->sp vs H Q E ->
   ∃ t,PSs (jp CX P w K mg base N qual scope f cdv A outer s H E) body t/\t { nx:=λ_ H'=>Q .non H',rt:=Q } (start N vs) H) :
  FnOk P w K mg base CX (k+1) f (PySem.W.fnOf name qual params body scope dV kV doc pm an cdv ct) ps sp:=by
 refine ⟨len,λA outer s H args us vs Q E hr e0 hb r hsp=>?_⟩
 have hl:=len _ _ _ _ hsp
 have KX:K.In s.heap:=e0.mod.kin.keeps λb o e=>(e0.bs b o e).1
 have lim:s.heap.NoLimit:=e0.mod.nolimit.keeps λb o e=>(e0.bs b o e).1
 have hkind:∀ y∈ps.zip us,scope.names.lookup y.1=some .local\/(scope.names.lookup y.1=some .cell/\((cellsFrom (s.heap.objs.size+1) scope.names []).lookup y.1).isSome=true):=λ⟨n,v⟩ hy=>by
  rcases S.par n (Cu hy).1 with q | q
  ·exact .inl q
  ·exact .inr ⟨q,PySem.W.cellsFrom_some _ _ _ (.inl q)⟩
 refine codeAny_call_function hr.depth (KX _ _ lk) rfl S.co S.gen rfl (PySem.W.codeRec_of KX hcd) (hb _ _ _ _ ?_)
 refine wpAny_newFunctionEnv_cells S.kind hkind λenv he s1 x=>?_
 subst he
 refine ⟨lim.keeps x.toInCall.keep,codeAny_func ?_⟩
 obtain ⟨t,ht,hq⟩:=hbody A outer s H vs Q E (hr.deeper _) hsp
 have I:Inv (jp CX P w K mg base N qual scope f cdv A outer s H E) [] (start N vs) H s1:=Zkv S hr.hd e0 hl r x
 refine wpAny_mono (ht [] s1 (start N vs) H _ I hq) (λfl s' hs=>?_) λe s' hs=>hs
 have fin:∀ {σ':St} {H':Hp} {v:V} {u:Value},Inv (jp CX P w K mg base N qual scope f cdv A outer s H E) [] σ' H' s'->RelV v u->Q v H'->CE outer P w H s Q u s' :=
  λ{σ' H' v u} J rv q=>⟨v,H',J.os,J.bare,J.base,J.hok,rv,q⟩
 cases fl with
 | ret u =>
  obtain ⟨v,σ',H',J,rv,q⟩:=hs
  exact fin J rv q
 | next =>
  obtain ⟨σ',H',J,q⟩:=hs
  exact fin (v:=V.non) (u:=Value.none) J rfl q
 | brk =>
  obtain ⟨_,_,_,q⟩:=hs
  exact False.elim q
 | cont =>
  obtain ⟨_,_,_,q⟩:=hs
  exact False.elim q
section
variable {X:Cx} {x:Str} {p pos:Pos} {e:Expr} {es:List Expr} {t:TA} {id T:String} {r:List V->Hp->VK->Prop}
def fN (r:List V->Hp->VK->Prop) (t:TA):TE:=λσ H Q=>t σ H λvs H1=>r vs H1 Q
theorem aX (hc:dL X (.builtin id) r) (hg:Gl X x) (hm:X.mg x=none) (hv:bootBuiltins x=some (.builtin id)) (ha:PA X (e::es) t) (hn:x≠"__name__":=by decide) (hdb:(x == ("__debug__":Str))=false:=by decide)
  (he:starEach (e::es) X.env=(false,eval e X.env)::starEach es X.env:=by rfl) (hpl:(backTo pos (starEach es X.env)).any (·.1)=false:=by rfl):PE X (.Call (.Name x p) (e::es) [] pos) (fN r t):=by
 intro pins s σ H Q I h
 refine wpAny_Call_Name_kw (je I hg hm hv ?_ hn hdb)
 exact PyProof.Rows.callWith_builtin1 (thn (ha pos pins s σ H _ I h) λus s1 ⟨vs,H1,I1,r1,q1⟩=>hc pins s1 σ H1 vs us Q I1 r1 q1) he hpl
theorem da (hc:dL X (.type T) r) (hg:Gl X x) (hm:X.mg x=none) (hv:bootBuiltins x=some (.type T)) (ha:PA X (e::es) t) (hn:x≠"__name__":=by decide) (hdb:(x == ("__debug__":Str))=false:=by decide)
  (he:starEach (e::es) X.env=(false,eval e X.env)::starEach es X.env:=by rfl) (hpl:(backTo pos (starEach es X.env)).any (·.1)=false:=by rfl):PE X (.Call (.Name x p) (e::es) [] pos) (fN r t):=by
 intro pins s σ H Q I h
 refine wpAny_Call_Name_kw (je I hg hm hv ?_ hn hdb)
 exact Bx (thn (ha pos pins s σ H _ I h) λus s1 ⟨vs,H1,I1,r1,q1⟩=>hc pins s1 σ H1 vs us Q I1 r1 q1) he hpl
end
end L2
namespace HT
noncomputable def eN:List Int->List Int->Bool
 | [],[]=>false
 | [],_::_=>true
 | _::_,[]=>false
 | x::xs,y::ys=>if x=y then eN xs ys else decide (x < y)
theorem Zdm (x y:Int) (xs ys:DZ):eN (x::xs) (y::ys)=if x=y then eN xs ys else decide (x < y):=rfl
theorem ZjS:eN [] []=false:=rfl
theorem ZjT (y:Int) (ys:DZ):eN [] (y::ys)=true:=rfl
theorem ZjU (x:Int) (xs:DZ):eN (x::xs) []=false:=rfl
theorem Zep (A:Around) (s:Shared) (a:Int) (t:Tok) (c:Int) (u:Tok):∃ e,SeqAt.EqAt A s (.int a t) (.int c u) e/\(e=true ↔ a=c) :=
 ⟨(a == c),SeqAt.EqAt.int_int a t c u,by simp⟩
theorem ZbY (A:Around) (s:Shared) (a:Int) (t:Tok) (c:Int) (u:Tok) (prog:Program) (w:World) (E:DX) (Q:DX) (h:Q (.bool (decide (a < c))) s) :
  wpAny (model prog w) A (richCompare .Lt (.int a t) (.int c u)) Q E s :=
 (PyProof.Rows.lt_int h:wpAny (model prog w) A (compareOp .Lt (.int a t) (.int c u)) Q E s)
section
open PySem.SeqAt
open PySem.AutoSeq1 (wpAny_loadPart')
open PySem.MeetsSeq PySem.MeetsSeq2 PySem.MeetsSeq3
theorem ZgC (l b:Addr) (items items2:Array Value) (n n2:Nat) (dd dd2:Option Addr) (sl eJ:Array (Option Value)) (ns ms:DZ) (hi:IntsAre items.toList ns) (hj:IntsAre items2.toList ms) :
  Meets (Builtin.«tuple.__lt__» ⟨[.ref l,.ref b],[]⟩)
   (λ_ R s=>s.heap.get? l=some { cls:=.type "tuple",dict:=dd,data:=.seq items n,slots:=sl }/\s.heap.get? b=some { cls:=.type "tuple",dict:=dd2,data:=.seq items2 n2,slots:=eJ } /\
    R (.ok (.ret (.bool (eN ns ms)))) s) :=
 .of_wp λprog w A R s h=>by
  obtain ⟨hp,g,d,tk,os⟩:=s; obtain ⟨hl,hb,h⟩:=h
  have f2:=AutoSeq1.sub_tuple_tuple
  have z1:items.size=ns.length:=by rw [<- hi.length]; simp
  have z2:items2.size=ms.length:=by rw [<- hj.length]; simp
  wp_walk using wpAny_loadPart' hl,wpAny_loadPart' hb,wpAny_forIn_list _ (λrest b s'=>b.1=none/\s'=⟨hp,g,d,tk,os⟩/\∃ (vs ws:D1) (ns' ms':DZ),rest=vs.zip ws /\
   IntsAre vs ns'/\IntsAre ws ms'/\ns'.length+items2.size=ms'.length+items.size/\R (.ok (.ret (.bool (eN ns' ms')))) ⟨hp,g,d,tk,os⟩) _
  case turn =>
   rintro ⟨y,x⟩ rest b s' ⟨hb',rfl,vs,ws,ns',ms',hz,hvi,hwi,hlen,hR⟩
   cases hvi with
   | nil=>rw [Dj] at hz; cases hz
   | cons a t hvi' =>
    cases hwi with
    | nil=>rw [List.zip_nil_right] at hz; cases hz
    | cons c u hwi' =>
     rw [A1] at hz
     injection hz with hyx hrest
     injection hyx with hy hx
     subst hy hx
     rw [Zdm] at hR
     simp only [Au] at hlen
     obtain ⟨e,he,hiff⟩:=Zep A.in1 ⟨hp,g,d,tk,os⟩ a t c u
     refine wpAny_bind (he prog w _ _ ?_)
     cases e with
     | true =>
      rw [if_pos (hiff.mp rfl)] at hR
      wp_walk
      exact ⟨rfl,rfl,_,_,_,_,hrest,hvi',hwi',by omega,hR⟩
     | false =>
      rw [if_neg (λq=>absurd (hiff.mpr q) AQ)] at hR
      have hri:=ZbY A.in1 ⟨hp,g,d,tk,os⟩ a t c u prog w
      wp_walk using hri
      exact ⟨_,rfl,by simpa using hR⟩
  case fin =>
   rintro ⟨b1,b2⟩ s' ⟨hb',rfl,vs,ws,ns',ms',hz,hvi,hwi,hlen,hR⟩
   simp only at hb'
   subst hb'
   have hv:eN ns' ms'=decide (items.size < items2.size):=by
    cases hvi with
    | nil =>
     cases hwi with
     | nil =>
      simp only [AE] at hlen
      rw [ZjS]
      exact (decide_eq_false (by omega)).symm
     | cons c u hw =>
      simp only [AE,Au] at hlen
      rw [ZjT]
      exact (decide_eq_true (by omega)).symm
    | cons a t hv =>
     cases hwi with
     | nil =>
      simp only [AE,Au] at hlen
      rw [ZjU]
      exact (decide_eq_false (by omega)).symm
     | cons c u hw =>
      rw [A1] at hz
      cases hz
   rw [hv] at hR
   wp_walk
   exact ⟨_,rfl,by simpa [Builtin.Tuple.tupleCompareSizes] using hR⟩
  case h =>
   exact ⟨rfl,rfl,items.toList,items2.toList,ns,ms,rfl,hi,hj,by omega,h⟩
end
section
variable {prog:Program} {w:World} {A:Around} {E:DX} {s:Shared}
theorem ZjK {l b:Addr} {items items2:Array Value} {ns ms:DZ} {Q:DX} (hl:IsTup s.heap l items) (hb:IsTup s.heap b items2) (hi:IntsAre items.toList ns) (hj:IntsAre items2.toList ms)
  (hu:A.units < cLine) (h:Q (.bool (eN ns ms)) s):wpAny (model prog w) A (compareOp .Lt (.ref l) (.ref b)) Q E s:=by
 obtain ⟨⟨cls,dd,data,sl⟩,ho,hc,n,hd⟩:=id hl
 obtain ⟨⟨cls2,dd2,data2,eJ⟩,ho2,hc2,n2,hd2⟩:=id hb
 simp only at hc hd hc2 hd2
 subst hc hd hc2 hd2
 exact richCompare_meets_room (op:=.Lt) ⟨_,ho,rfl⟩ ⟨_,ho2,rfl⟩ PySem.F.slot_tuple_lt PySem.F.entry_tuple_lt (DJ _ _) (ZgC l b items items2 n n2 dd dd2 sl eJ ns ms hi hj)
  ⟨ho,ho2,show Value.bool (eN ns ms)≠Value.notImplemented/\Q (.bool (eN ns ms)) s from ⟨(λx=>nomatch x),h⟩⟩ hu
theorem ZmM {t b:Addr} {vs ws:D1} {Q:DX} (ht:IsTup s.heap t vs.toArray) (hb:IsTup s.heap b ws.toArray) (hv:vs≠[])
  (h1:ws=[]->Q (.ref t) s) (h2:ws≠[]->Q (.ref s.heap.objs.size) { s with heap:=s.heap.push { cls:=.type "tuple",data:=.seq (vs++ws).toArray } })
  (hsz:vs.length+ws.length<=sizeLine):wpAny (model prog w) A (binaryOp .Add (.ref t) (.ref b)) Q E s:=by
 obtain ⟨⟨cls,dd,data,sl⟩,ho,hc,n,hd⟩:=id ht
 obtain ⟨⟨cls2,dd2,data2,eJ⟩,ho2,hc2,n2,hd2⟩:=id hb
 simp only at hc hd hc2 hd2
 subst hc hd hc2 hd2
 have e:vs.toArray++ws.toArray=(vs++ws).toArray:=by simp
 by_cases hw:ws=[]
 ·exact concat_meets ⟨_,ho,rfl⟩ ⟨_,ho2,rfl⟩ noFill_tuple_add seq_tuple_add C1 C0 (CY _ _)
   (tuple_addW1 t b vs.toArray ws.toArray n n2 dd dd2 sl eJ (by simpa using hv) (by simp [hw])) ⟨ho,ho2,h1 hw⟩
 ·refine concat_meets ⟨_,ho,rfl⟩ ⟨_,ho2,rfl⟩ noFill_tuple_add seq_tuple_add C1 C0 (CY _ _)
   (tuple_addW2 t b vs.toArray ws.toArray n n2 dd dd2 sl eJ (by simpa using hv) (by simpa using hw) (by rw [AG,AG]; exact hsz)) ⟨ho,ho2,?_⟩
  rw [e]
  exact h2 hw
noncomputable def aR (n d:Nat):Option Int->Nat
 | none=>d
 | some v=>if v < 0 then (v+(n:Int)).toNat else min v.toNat n
theorem ZhR (n d k:Nat):aR n d (some (k:Int))=min k n:=by
 show (if (k:Int) < 0 then ((k:Int)+(n:Int)).toNat else min (k:Int).toNat n)=min k n
 rw [if_neg (by omega),A0]
theorem ZhS (n d:Nat) (hd:d<=n) (o:Option Int):aR n d o<=n:=by
 cases o with
 | none=>exact hd
 | some v =>
  show (if v < 0 then (v+(n:Int)).toNat else min v.toNat n)<=n
  by_cases hv:v < 0
  ·rw [if_pos hv]; omega
  ·rw [if_neg hv]; exact Dw _ _
theorem Ze1 (v:Int) (n d:Nat):(if v < 0 then max (v+(n:Int)) 0 else min v (n:Int))=((aR n d (some v):Nat):Int):=by
 show (if v < 0 then max (v+(n:Int)) 0 else min v (n:Int))=(((if v < 0 then (v+(n:Int)).toNat else min v.toNat n):Nat):Int)
 by_cases hv:v < 0
 ·rw [if_pos hv,if_pos hv,Int.ofNat_toNat]
 ·rw [if_neg hv,if_neg hv]
  obtain ⟨k,rfl⟩:=BM (Int.not_lt.mp hv)
  rw [A0,<- DI]
theorem ZnL (lo hi:Option Int) (n:Nat):Builtin.Slice.sliceAdjust lo hi 1 (n:Int)=(((aR n 0 lo:Nat):Int),((aR n n hi:Nat):Int)):=by
 have h1:¬ ((1:Int) < 0):=by omega
 unfold Builtin.Slice.sliceAdjust
 simp only [h1,if_false]
 refine Prod.ext ?_ ?_
 ·cases lo with
  | none=>rfl
  | some v=>exact Ze1 v n 0
 ·cases hi with
  | none=>rfl
  | some v=>exact Ze1 v n n
theorem Ziz (i j:Nat):Builtin.Slice.slicePlaces (i:Int) (j:Int) 1=j - i:=by
 unfold Builtin.Slice.slicePlaces
 have h1:(1:Int) > 0:=by omega
 simp only [h1,if_true,Int.ediv_one]
 split <;> omega
theorem ZaS {v:Value} {o:Option Int} {Q:Option Int->Shared->Prop} (p:IsPart v o) (h:Q o s):wpAny (model prog w) A (Builtin.Slice.slicePartIndex v) Q E s:=by
 cases p with
 | none=>exact slicePart_none h
 | int i t=>exact slicePart_int h
theorem ZaU {sl:Addr} {vl vu:Value} {lo hi:Option Int} {n:Nat} {Q:Int×Int×Nat->Shared->Prop} (hs:s.heap.IsSliceOf sl vl vu .none) (pl:IsPart vl lo) (pu:IsPart vu hi)
  (h:Q (((aR n 0 lo:Nat):Int),1,aR n n hi - aR n 0 lo) s):wpAny (model prog w) A (Builtin.Slice.sliceApplied (.ref sl) (pure (n:Int))) Q E s:=by
 obtain ⟨os,hos,hcs,hds⟩:=id hs
 unfold Builtin.Slice.sliceApplied Builtin.Slice.sliceFields
 refine wpAny_bind (wpAny_bind (wpAny_field hos hds (x:=vl) rfl (wpAny_bind (wpAny_field hos hds (x:=vu) rfl (wpAny_bind (wpAny_field hos hds (x:=.none) rfl (wpAny_pure ?_)))))))
 refine wpAny_bind (slicePart_none ?_)
 show wpAny _ _ (if ((1:Int) == 0)=true then _ else _) _ _ s
 rw [if_neg (by decide)]
 refine wpAny_bind (ZaS pl (wpAny_bind (ZaS pu (wpAny_bind (wpAny_pure ?_)))))
 show wpAny _ _ (match Builtin.Slice.sliceAdjust lo hi 1 (n:Int) with | (lo,hi)=>pure (lo,(1:Int),Builtin.Slice.slicePlaces lo hi 1)) _ _ s
 rw [ZnL lo hi n]
 show wpAny _ _ (pure (((aR n 0 lo:Nat):Int),(1:Int),Builtin.Slice.slicePlaces ((aR n 0 lo:Nat):Int) ((aR n n hi:Nat):Int) 1)) _ _ s
 rw [Ziz]
 exact wpAny_pure h
theorem ZiE (xs:Array Value) (i k:Nat):((List.range k).filterMap λ(m:Nat)=>xs[((i:Int)+(m:Int) * 1).toNat]?).toArray=((xs.toList.drop i).take k).toArray:=by
 have e:(λ(m:Nat)=>xs[((i:Int)+(m:Int) * 1).toNat]?)=λm=>xs[i+m]?:=by
  funext m
  have:((i:Int)+(m:Int) * 1).toNat=i+m:=by omega
  rw [this]
 rw [e]
 have:=pick_run xs i k
 rw [List.filterMap_map] at this
 have e2:((λx=>xs[x]?) ∘ λx=>i+x)=λm=>xs[i+m]?:=rfl
 rw [e2] at this
 rw [this]
theorem ZkD {t sl:Addr} {items:Array Value} {vl vu:Value} {lo hi:Option Int} {Q:DX} (ht:IsTup s.heap t items) (hs:s.heap.IsSliceOf sl vl vu .none) (pl:IsPart vl lo) (pu:IsPart vu hi)
  (hw:¬ (aR items.size 0 lo=0/\aR items.size items.size hi=items.size))
  (h:Q (.ref s.heap.objs.size) { s with heap:=s.heap.push { cls:=.type "tuple",data:=.seq ((items.toList.drop (aR items.size 0 lo)).take (aR items.size items.size hi - aR items.size 0 lo)).toArray } })
  (hsz:items.size<=sizeLine):wpAny (model prog w) A (getItem (.ref t) (.ref sl)) Q E s:=by
 have htake:sizeOk (.seq ((items.toList.drop (aR items.size 0 lo)).take (aR items.size items.size hi - aR items.size 0 lo)).toArray):=by
  show ((items.toList.drop (aR items.size 0 lo)).take (aR items.size items.size hi - aR items.size 0 lo)).toArray.size<=sizeLine
  rw [AG,AJ,AH,Ca]
  exact AL (Dw _ _) (AL (Nat.sub_le _ _) hsz)
 have hj:aR items.size items.size hi<=items.size:=ZhS _ _ (Aw _) hi
 obtain ⟨os,hos,hcs,hds⟩:=id hs
 have hTs:s.TypeIs (.ref sl) "slice":=⟨os,hos,hcs⟩
 unfold getItem
 try with_reducible refine wpAny_holding ?_
 first | refine wpAny_bind (wpAny_pure ?_) | skip
 refine wpAny_bind (wpAny_sequenceKey ht.typeIs (by decide) ?_)
 refine wpAny_bind (wpAny_callSpecial?_slot (name:=Str.ofString "__getitem__") ht.typeIs B2
  (wpAny_call_entry B2 ht.typeIs entry_tuple_getitem ?_ (args_tuple_getitem _ _)))
 show wpAny _ _ (Builtin.Tuple.tupleItemsOf (.ref t) >>= _) _ _ s
 refine wpAny_bind (tupleItemsOf_ ht ?_)
 refine wpAny_bind (wpAny_typeOf hTs ?_)
 rw [if_pos (by decide)]
 refine wpAny_bind (ZaU hs pl pu ?_)
 have hno:¬ ((((aR items.size 0 lo:Nat):Int) == 0 && (1:Int) == 1 && (aR items.size items.size hi - aR items.size 0 lo) == items.size)=true):=by
  intro q
  rw [AU,AU] at q
  have q1:((aR items.size 0 lo:Nat):Int)=0:=eq_of_beq q.1.1
  have q2:aR items.size items.size hi - aR items.size 0 lo=items.size:=eq_of_beq q.2
  exact hw ⟨by omega,by omega⟩
 show wpAny _ _ (if (((aR items.size 0 lo:Nat):Int) == 0 && (1:Int) == 1 && (aR items.size items.size hi - aR items.size 0 lo) == items.size)=true then _ else _) _ _ s
 rw [if_neg hno,ZiE]
 first
  | exact wpAny_bind (m:=Builtin.Tuple.tupleExact _) (wpAny_newObj_type (wpAny_pure ⟨_,rfl,wpAny_pure h⟩) htake)
  | exact wpAny_bind (m:=Builtin.Tuple.tupleExact _) (wpAny_newObj_type (wpAny_bind (wpAny_pure (wpAny_pure ⟨_,rfl,wpAny_pure h⟩))) htake)
  | exact wpAny_bind (wpAny_bind (m:=Builtin.Tuple.tupleExact _) (wpAny_newObj_type (wpAny_pure (wpAny_pure ⟨_,rfl,wpAny_pure h⟩)) htake))
  | exact wpAny_bind (wpAny_bind (m:=Builtin.Tuple.tupleExact _) (wpAny_newObj_type (wpAny_pure ⟨_,rfl,wpAny_pure h⟩) htake))
end
end HT
namespace L2
noncomputable abbrev TO:=St->Hp->(Option Int->Hp->Prop)->Prop
noncomputable def PO (X:Cx) (e:Option Expr) (t:TO):Prop :=
 ∀ (pins:List (Addr×Obj)) (s:Shared) (σ:St) (H:Hp) (Q:Option Int->Hp->Prop),Inv X pins σ H s->t σ H Q ->
  wpAny (model X.prog X.w) X.A (evalPart e X.env) (λu s'=>∃ o H',Inv X pins σ H' s'/\IsPart u o/\Q o H') X.xe s
noncomputable def ZgT:TO:=λ_ H Q=>Q none H
noncomputable def ZgP (t:TE):TO:=λσ H Q=>t σ H λx H1=>∃ i,x=.int i/\Q (some i) H1
theorem yF {ns:DZ}:∀ {us:D1},Vals (ns.map V.int) us->IntsAre us ns:=by
 induction ns with
 | nil=>intro us r; rw [BO] at r; cases r; exact .nil
 | cons n ns ih =>
  intro us r
  rw [Ax] at r
  cases r with
  | cons r1 r2 =>
   obtain ⟨t,e⟩:=r1
   subst e
   exact .cons n t (ih r2)
section
variable {X:Cx} {e:Expr} {te:TE} {lo hi:Option Expr} {tl th:TO} {pos p2:Pos}
theorem ZcF:PO X none ZgT:=by
 intro pins s σ H Q I h
 rw [evalPart_none]
 exact wpAny_pure ⟨none,H,I,.none,h⟩
theorem ZcE (h:PE X e te):PO X (some e) (ZgP te):=by
 intro pins s σ H Q I hw
 rw [evalPart_some]
 refine thn (h pins s σ H _ I hw) λu s1 hz0=>?_
 obtain ⟨x,H1,I1,r1,q1⟩:=hz0
 obtain ⟨i,rfl,q⟩:=q1
 obtain ⟨t,rfl⟩:=r1
 exact ⟨some i,H1,I1,.int i t,q⟩
noncomputable def SlR (X:Cx) (r:V->Option Int->Option Int->Hp->VK->Prop):Prop :=
 ∀ (pins:List (Addr×Obj)) (s:Shared) (σ:St) (H:Hp) (x:V) (v vl vu:Value) (lo hi:Option Int) (sl:Addr) (Q:VK),Inv X pins σ H s->RelV x v->s.heap.IsSliceOf sl vl vu .none->IsPart vl lo->IsPart vu hi->r x lo hi H Q ->
  ∃ T id,typeLookup (.type T) "__getitem__"=pure (some (.builtin id))/\s.TypeIs v T/\wpAny (model X.prog X.w) X.A (getItem v (.ref sl)) (EP X pins σ Q) X.xe s
theorem SlR.or {r r':V->Option Int->Option Int->Hp->VK->Prop} (h:SlR X r) (h':SlR X r'):SlR X (λx lo hi H Q=>r x lo hi H Q\/r' x lo hi H Q):=by
 intro pins s σ H x v vl vu lo hi sl Q I rx hs pl pu q
 rcases q with q | q
 ·exact h pins s σ H x v vl vu lo hi sl Q I rx hs pl pu q
 ·exact h' pins s σ H x v vl vu lo hi sl Q I rx hs pl pu q
def tSl (r:V->Option Int->Option Int->Hp->VK->Prop) (te:TE) (tl th:TO):TE:=λσ H Q=>te σ H λx H1=>tl σ H1 λl H2=>th σ H2 λu H3=>r x l u H3 Q
theorem ZcK {r:V->Option Int->Option Int->Hp->VK->Prop} (hr:SlR X r) (he:PE X e te) (hl:PO X lo tl) (hu:PO X hi th):PE X (.Subscript e (.Slice lo hi none p2) pos) (tSl r te tl th):=by
 intro pins s σ H Q I h
 refine Subscript_ (thn (he pins s σ H _ I h) λv s1 hz0=>?_)
 obtain ⟨x,H1,I1,r1,q1⟩:=hz0
 refine wpAny_Slice (thn (hl pins s1 σ H1 _ I1 q1) λvl s2 ⟨l,H2,I2,pl,q2⟩=>thn (hu pins s2 σ H2 _ I2 q2) λvu s3 hz0=>?_)
 obtain ⟨u,H3,I3,pu,q3⟩:=hz0
 rw [evalPart_none]
 refine wpAny_pure ?_
 have I4:Inv X pins σ H3 { s3 with heap:=s3.heap.push { cls:=.type "slice",data:=.fields #[vl,vu,.none] } }:=I3.kept (t':=s3.toks) λb ob q=>v9 _ q
 obtain ⟨T,id,hT,ht,hg⟩:=hr pins { s3 with heap:=s3.heap.push { cls:=.type "slice",data:=.fields #[vl,vu,.none] } } σ H3 x v vl vu l u s3.heap.objs.size Q I4 r1 (Heap.IsSliceOf.new ..) pl pu q3
 show wpAny (model X.prog X.w) X.A (subscriptTail e (.Slice lo hi none p2) v (.ref s3.heap.objs.size)) (EP X pins σ Q) X.xe { s3 with heap:=s3.heap.push { cls:=.type "slice",data:=.fields #[vl,vu,.none] } }
 exact tail_any (ops:=[.ref s3.heap.objs.size,v]) ht hT hg (by with_unfolding_all rfl)
noncomputable def gk (xs:D3) (lo hi:Option Int):D3:=(xs.drop (HT.aR xs.length 0 lo)).take (HT.aR xs.length xs.length hi - HT.aR xs.length 0 lo)
theorem ZeZ (xs:D3) (lo hi:Option Int):(gk xs lo hi).length<=xs.length:=by
 unfold gk
 rw [AJ,AH]
 exact AL (Dw _ _) (Nat.sub_le _ _)
noncomputable def Zb6 (K:DO):V->Option Int->Option Int->Hp->VK->Prop:=λx lo hi H Q=>∃ a xs,x=.ref a/\SqT K H a xs /\
 ¬ (HT.aR xs.length 0 lo=0/\HT.aR xs.length xs.length hi=xs.length)/\∀ p,H p=none->Q (.ref p) (upd H p (.tup (gk xs lo hi)))
theorem Zhk:SlR X (Zb6 X.K):=by
 intro pins s σ H x v vl vu lo hi sl Q I rx hs pl pu h
 obtain ⟨a,xs,rfl,hx,hw,q⟩:=h
 cases rx
 obtain ⟨its,r,ht,hz⟩:=I.tuple hx
 have hlen:its.toArray.size=xs.length:=by rw [AG]; exact r.length.symm
 refine ⟨"tuple",_,PyProof.Rows.slot_tuple_getitem.lookup,ht.typeIs,?_⟩
 refine HT.ZkD ht hs pl pu (by rw [hlen]; exact hw) ?_ (by rw [hlen]; exact hz)
 rw [hlen]
 refine ⟨.ref s.heap.objs.size,_,I.laid (t':=s.toks) (o:=.tup (gk xs lo hi)) (λb ob q=>v9 _ q) (Aw _) ?_,rfl,q _ (I.hok.fresh (Aw _))⟩
 exact ⟨AL (ZeZ xs lo hi) hz,_,(r.drop (HT.aR xs.length 0 lo)).take (HT.aR xs.length xs.length hi - HT.aR xs.length 0 lo),IsTup.new _ _⟩
noncomputable def Zcn (K:DO):R2:=λx y H Q=>∃ a b xs ys,x=.ref a/\y=.ref b/\SqT K H a xs/\SqT K H b ys/\xs≠[]/\xs.length+ys.length<=sizeLine /\
 (ys=[]->Q (.ref a) H)/\(ys≠[]->∀ p,H p=none->Q (.ref p) (upd H p (.tup (xs++ys))))
theorem Vals.nil_iff {xs:D3} {us:D1} (r:Vals xs us):us=[] ↔ xs=[]:=by
 cases r with
 | nil=>simp
 | cons _ _=>simp
theorem Zje:OpR X (binaryOp .Add) (Zcn X.K):=by
 intro pins s σ H x y v u Q I rx ry h
 obtain ⟨a,b,xs,ys,rfl,rfl,ha,hb,hx,hz,q1,q2⟩:=h
 cases rx
 cases ry
 obtain ⟨its,r1,p1,_⟩:=I.tuple ha
 obtain ⟨its2,r2,p2,_⟩:=I.tuple hb
 refine HT.ZmM p1 p2 (λz=>hx (r1.nil_iff.mp z)) (λz=>⟨.ref a,H,I,rfl,q1 (r2.nil_iff.mp z)⟩) (λz=>?_) (by rw [<- r1.length,<- r2.length]; exact hz)
 refine ⟨.ref s.heap.objs.size,_,I.laid (t':=s.toks) (o:=.tup (xs++ys)) (λb ob q=>v9 _ q) (Aw _) ?_,rfl,q2 (λw=>z (r2.nil_iff.mpr w)) _ (I.hok.fresh (Aw _))⟩
 exact ⟨by rw [Av]; exact hz,_,r1.append r2,IsTup.new _ _⟩
end
noncomputable def cy (n:Nat) (i:Int):Option Nat:=if 0<=i then (if i < n then some i.toNat else none) else if -(n:Int)<=i then some (i+n).toNat else none
noncomputable def bG {α:Type} (xs:List α) (i:Int):Option α:=(cy xs.length i).bind λj=>xs[j]?
theorem qr {n:Nat} {i:Int} {j:Nat} (h:cy n i=some j):seqIndex? i n=some j/\j < n/\-(n:Int)<=i/\i < n:=by
 unfold cy at h
 by_cases h0:0<=i
 ·rw [if_pos h0] at h
  by_cases h1:i < n
  ·rw [if_pos h1] at h
   have e:i.toNat=j:=A9 h
   exact ⟨by rw [seqIndex_of h0 h1,e],by omega,by omega,h1⟩
  ·rw [if_neg h1] at h; cases h
 ·rw [if_neg h0] at h
  by_cases h1:-(n:Int)<=i
  ·rw [if_pos h1] at h
   have e:(i+n).toNat=j:=A9 h
   exact ⟨by rw [seqIndex_neg (by omega) h1,e],by omega,h1,by omega⟩
  ·rw [if_neg h1] at h; cases h
theorem zN {α:Type} {xs:List α} {i:Int} {v:α} (h:bG xs i=some v):∃ j,seqIndex? i xs.length=some j/\xs[j]?=some v/\j < xs.length/\-(xs.length:Int)<=i/\i < xs.length:=by
 unfold bG at h
 cases e:cy xs.length i with
 | none=>rw [e] at h; cases h
 | some j =>
  rw [e] at h
  obtain ⟨h1,h2,h3,h4⟩:=qr e
  exact ⟨j,h1,h,h2,h3,h4⟩
theorem gC {α:Type} {xs:List α} {j:Nat} {v:α} (h:xs[j]?=some v):bG xs (j:Int)=some v:=by
 have hj:j < xs.length:=(Ay.mp h).1
 have e:cy xs.length (j:Int)=some j:=by
  unfold cy
  rw [if_pos (by omega),if_pos (by omega)]; simp
 unfold bG; rw [e]; exact h
def Zf3 (b:Expr):Prop:=∀ o i,subscripted b false o i=operate [o,i] (getItem o i)
noncomputable def IxR (X:Cx) (r:R2):Prop :=
 ∀ (value slice:Expr) (pins:List (Addr×Obj)) (s:Shared) (σ:St) (H:Hp) (x y:V) (v u:Value) (Q:VK),Inv X pins σ H s->RelV x v->RelV y u->r x y H Q ->
  subscripted slice false v u=operate [v,u] (getItem v u)->wpAny (model X.prog X.w) X.A (subscriptTail value slice v u) (EP X pins σ Q) X.xe s
noncomputable def MtR (X:Cx) (id:String) (r:V->List V->Hp->VK->Prop):Prop :=
 ∀ (pins:List (Addr×Obj)) (s:Shared) (σ:St) (H:Hp) (x:V) (xs:D3) (v:Value) (us:D1) (Q:VK),Inv X pins σ H s->RelV x v->Vals xs us->r x xs H Q ->
  wpAny (model X.prog X.w) X.A (call (.builtin id) (v::us)) (EP X pins σ Q) X.xe s
section
variable {X:Cx} {a b:Expr} {ta tb:TE} {pos:Pos}
theorem IxR.or {r r':R2} (h:IxR X r) (h':IxR X r'):IxR X (λx y H Q=>r x y H Q\/r' x y H Q):=by
 intro value slice pins s σ H x y v u Q I rx ry q hs
 rcases q with q | q
 ·exact h value slice pins s σ H x y v u Q I rx ry q hs
 ·exact h' value slice pins s σ H x y v u Q I rx ry q hs
theorem gv {r:R2} (hr:IxR X r) (ha:PE X a ta) (hb:PE X b tb) (hs:Zf3 b):PE X (.Subscript a b pos) (kr r ta tb):=by
 intro pins s σ H Q I h
 exact Subscript_ (zL ha hb I h λv u s2 x y H2 I2 rx ry q=>hr a b pins s2 σ H2 x y v u Q I2 rx ry q (hs _ _))
noncomputable def xG (K:DO):R2:=λx y H Q=>∃ p xs i v,x=.ref p/\y=.int i/\SqL K H p xs/\bG xs i=some v/\Q v H
noncomputable def Zch (K:DO):R2:=λx y H Q=>∃ p xs i v,x=.ref p/\y=.int i/\SqT K H p xs/\bG xs i=some v/\Q v H
noncomputable def Zci:R2:=λx y H Q=>∃ z i c,x=.str z/\y=.int i/\z.length<=sizeLine/\bG z.cps.toList i=some c/\Q (.str ⟨#[c]⟩) H
theorem gy:IxR X (xG X.K):=by
 intro value slice pins s σ H x y v u Q I rx ry h hs
 obtain ⟨p,xs,i,z,rfl,rfl,hq,he,q⟩:=h
 cases rx
 obtain ⟨t,rfl⟩:=ry
 obtain ⟨its,r,pl,hz⟩:=I.list hq
 obtain ⟨j,h1,h2,h3,h4,h5⟩:=zN he
 obtain ⟨w,ew,rw'⟩:=r.get h2
 have hl:=r.length
 have hn:=jV
 have fin:EP X pins σ Q w s:=⟨z,H,I,rw',q⟩
 by_cases h0:0<=i
 ·have hj:i.toNat=j:=by
   rw [seqIndex_of h0 h5] at h1
   exact A9 h1
  exact item_listR pl.isList h0 (by omega) (by rw [hj]; simpa using ew) fin hs
 ·have hj:(i+(its.toArray.size:Int)).toNat=j:=by
   rw [seqIndex_neg (by omega) h4] at h1
   rw [AG,<- hl]
   exact A9 h1
  exact subscriptTail_builtinR (x:=w) pl.isList.typeIs slot_list_getitem.lookup
   (wpAny_getItem_list_neg (Q:=λr s'=>r=w/\EP X pins σ Q r s') pl.isList (by omega) (by rw [AG] <;> omega) (by omega) (by rw [hj]; simpa using ew) ⟨rfl,fin⟩) hs
theorem Zko:IxR X (Zch X.K):=by
 intro value slice pins s σ H x y v u Q I rx ry h hs
 obtain ⟨p,xs,i,z,rfl,rfl,hq,he,q⟩:=h
 cases rx
 obtain ⟨t,rfl⟩:=ry
 obtain ⟨its,r,pl,hz⟩:=I.tuple hq
 obtain ⟨j,h1,h2,h3,h4,h5⟩:=zN he
 obtain ⟨w,ew,rw'⟩:=r.get h2
 have hl:=r.length
 have hn:=jV
 have fin:EP X pins σ Q w s:=⟨z,H,I,rw',q⟩
 exact subscriptTail_builtinR (x:=w) pl.typeIs slot_tuple_getitem.lookup
  (getItem_tuple (j:=j) (Q:=λr s'=>r=w/\EP X pins σ Q r s') pl (by omega) (by omega) (by rw [AG,<- hl]; exact h1) (by simpa using ew) ⟨rfl,fin⟩) hs
theorem Zkp:IxR X Zci:=by
 intro value slice pins s σ H x y v u Q I rx ry h hs
 obtain ⟨z,i,c,rfl,rfl,hz,he,q⟩:=h
 obtain ⟨t,rfl⟩:=rx
 obtain ⟨t',rfl⟩:=ry
 obtain ⟨j,h1,h2,h3,h4,h5⟩:=zN he
 have hl:z.cps.toList.length=z.length:=by simp [Str.length]
 rw [hl] at h1 h4 h5
 have hn:=jV
 exact tail_any (typeIs_str s z t) slot_str_getitem.lookup (getItem_str (c:=c) (by
  have e1:decide (i < -(2 ^ 63:Int))=false:=decide_eq_false (by omega)
  have e2:decide (i ≥ 2 ^ 63)=false:=decide_eq_false (by omega)
  rw [e1,e2,Di]) (by rw [h1]; simpa using h2) ⟨.str ⟨#[c]⟩,H,I.tok _,⟨_,rfl⟩,q⟩) hs
noncomputable def rIx (K:DO):R2:=λx y H Q=>xG K x y H Q\/Zch K x y H Q\/Zci x y H Q
theorem az:IxR X (rIx X.K):=gy.or (Zko.or Zkp)
theorem ZjJ (its:D1) (n j:Nat) (u:Value):Obj.mapSeq (·.setIfInBounds j u) { cls:=.type "list",data:=.seq its.toArray n }={ cls:=.type "list",data:=.seq (its.set j u).toArray n }:=by
 simp [Obj.mapSeq]
theorem Inv.lst {pins:List (Addr×Obj)} {σ:St} {H:Hp} {s:Shared} {p:Addr} {xs:D3} (I:Inv X pins σ H s) (h:H p=some (.lst xs)) :
  ∃ (its:D1) (n:Nat),Vals xs its/\s.heap.get? p=some { cls:=.type "list",data:=.seq its.toArray n }/\xs.length<=sizeLine:=by
 obtain ⟨z,its,n,r,e⟩:=I.hok p _ h
 exact ⟨its,n,r,e,z⟩
theorem Inv.lstUpd {pins:List (Addr×Obj)} {σ:St} {H:Hp} {s:Shared} {p:Addr} {xs ys:D3} {its its':D1} {n n':Nat} {f:Obj->Obj} (I:Inv X pins σ H s) (h:H p=some (.lst xs))
  (ho:s.heap.get? p=some { cls:=.type "list",data:=.seq its.toArray n }) (hf:f { cls:=.type "list",data:=.seq its.toArray n }={ cls:=.type "list",data:=.seq its'.toArray n' }) (r:Vals ys its') (hz:ys.length<=sizeLine) (t:Nat) :
  Inv X pins σ (upd H p (.lst ys)) { s with heap:=s.heap.update p f,toks:=t }:=by
 have e:(s.heap.update p f).get? p=some { cls:=.type "list",data:=.seq its'.toArray n' }:=by
  rw [BK f ho (by rw [hf] <;> rfl),hf]
 refine I.write (x:=p) (e:=p) (by rw [h]; trivial) (.inl rfl) (λb u hb q=>(Bn _ _ (Ne.symm hb)).trans q) ⟨_,e⟩ ?_
 exact ⟨hz,its',n',r,e⟩
noncomputable def xE:V->V->V->Hp->(Hp->Prop)->Prop:=λo i v H Q=>∃ p xs k j,o=.ref p/\i=.int k/\H p=some (.lst xs)/\cy xs.length k=some j/\Q (upd H p (.lst (xs.set j v)))
theorem me:Zf4 X xE:=by
 intro pins s σ H o i v ov iv u Q I ro ri rv h
 obtain ⟨p,xs,k,j,rfl,rfl,hp,hj,q⟩:=h
 cases ro
 obtain ⟨t,rfl⟩:=ri
 obtain ⟨its,n,r,ho,hz⟩:=I.lst hp
 obtain ⟨h1,h2,h3,h4⟩:=qr hj
 have hl:=r.length
 have hn:=jV
 have I':Inv X pins σ (upd H p (.lst (xs.set j v))) { s with heap:=s.heap.update p (Obj.mapSeq (·.setIfInBounds j u)) } :=
  I.lstUpd hp ho (ZjJ its n j u) (r.set rv j) (by rw [A2]; exact hz) s.toks
 by_cases h0:0<=k
 ·have hk:k.toNat=j:=by
   rw [seqIndex_of h0 h4] at h1
   exact A9 h1
  exact PySem.W.ki_setAt ho h0 (by omega) (by rw [AG,<- hl]; exact h4) (by rw [hk]; exact ⟨_,I',q⟩)
 ·have hk:(k+(its.toArray.size:Int)).toNat=j:=by
   rw [seqIndex_neg (by omega) h3] at h1
   rw [AG,<- hl]
   exact A9 h1
  exact PySem.W.ki_setBack ho (by omega) (by rw [AG,<- hl]; exact h3) (by omega) (by rw [hk]; exact ⟨_,I',q⟩)
theorem ZeX {n:Nat} {i:Int} (h:i < 0):max 0 (min (i+(n:Int)) n)=(((i+n).toNat:Nat):Int):=by
 rw [Int.min_eq_left (by omega),Int.ofNat_toNat,Int.max_comm]
theorem ZeY {n:Nat} {i:Int} (h:¬ i < 0):max 0 (min i (n:Int))=((min i.toNat n:Nat):Int):=by
 obtain ⟨k,rfl⟩:=BM (Int.not_lt.mp h)
 rw [A0,<- DI]
 exact Int.max_eq_right (Int.natCast_nonneg _)
theorem Zhh (lo hi:Option Int) (n:Nat):(sliceBounds lo hi none n).1=((HT.aR n 0 lo:Nat):Int)/\(sliceBounds lo hi none n).2.1=((HT.aR n n hi:Nat):Int)/\(sliceBounds lo hi none n).2.2=1:=by
 refine ⟨?_,?_,rfl⟩
 ·cases lo with
  | none=>simp [sliceBounds,HT.aR]
  | some i =>
   simp only [sliceBounds,HT.aR,Option.getD_none,show (1:Int) > 0 by decide,if_true]
   by_cases h:i < 0
   ·simp only [h,if_true]
    exact ZeX h
   ·simp only [h,if_false]
    exact ZeY h
 ·cases hi with
  | none=>simp [sliceBounds,HT.aR]
  | some i =>
   simp only [sliceBounds,HT.aR,Option.getD_none,show (1:Int) > 0 by decide,if_true]
   by_cases h:i < 0
   ·simp only [h,if_true]
    exact ZeX h
   ·simp only [h,if_false]
    exact ZeY h
theorem Zhi (its:D1) (lo hi:Option Int):slicePick its.toArray lo hi none=((its.drop (HT.aR its.length 0 lo)).take (HT.aR its.length its.length hi - HT.aR its.length 0 lo)).toArray:=by
 obtain ⟨h1,h2,h3⟩:=Zhh lo hi its.toArray.size
 unfold slicePick
 rw [h1,h2,h3]
 simp only [sliceRange_one,pick_run,AG] <;> rfl
noncomputable def Zb7 (K:DO):V->Option Int->Option Int->Hp->VK->Prop:=λx lo hi H Q=>∃ a xs,x=.ref a/\SqL K H a xs/\∀ p,H p=none->Q (.ref p) (upd H p (.lst (gk xs lo hi)))
theorem ZaV:SlR X (Zb7 X.K):=by
 intro pins s σ H x v vl vu lo hi sl Q I rx hs pl pu h
 obtain ⟨a,xs,rfl,hx,q⟩:=h
 cases rx
 obtain ⟨its,r,ht,hz⟩:=I.list hx
 have hlen:=r.length
 refine ⟨"list",_,slot_list_getitem.lookup,ht.isList.typeIs,?_⟩
 refine wpAny_getItem_list_slice ht.isList hs pl pu .none (by simp) ?_ (by rw [AG] <;> omega)
 rw [Zhi,<- hlen]
 refine ⟨.ref s.heap.objs.size,_,I.laid (t':=s.toks) (o:=.lst (gk xs lo hi)) (λb ob q=>v9 _ q) (Aw _) ?_,rfl,q _ (I.hok.fresh (Aw _))⟩
 exact ⟨AL (ZeZ xs lo hi) hz,_,0,(r.drop (HT.aR xs.length 0 lo)).take (HT.aR xs.length xs.length hi - HT.aR xs.length 0 lo),AC _ rfl⟩
theorem cI:dL X (.builtin "len") (λxs H Q=>∃ p ys,xs=[.ref p]/\(SqL X.K H p ys\/SqT X.K H p ys)/\Q (.int ys.length) H):=by
 intro pins s σ H xs us Q I r h
 obtain ⟨p,ys,rfl,hq,q⟩:=h
 obtain ⟨u,rfl,rx⟩:=eB r
 cases rx
 have hn:=jV
 rcases hq with hq | hq
 ·obtain ⟨its,r',pl,hz⟩:=I.list hq
  have hlen:=r'.length
  exact Calls.call_len_list pl.isList (by simp only [AG] <;> omega) ⟨.int ys.length,H,I.tok _,⟨s.toks+1,by rw [AG,hlen]⟩,q⟩
 ·obtain ⟨its,r',pl,hz⟩:=I.tuple hq
  have hlen:=r'.length
  exact len_tuple pl (by simp only [AG] <;> omega) ⟨.int ys.length,H,I.tok _,⟨s.toks+1,by rw [AG,hlen]⟩,q⟩
theorem vJ:dL X (.type "list") (λxs H Q=>∃ p ys,xs=[.ref p]/\(SqL X.K H p ys\/SqT X.K H p ys)/\∀ l,H l=none->Q (.ref l) (upd H l (.lst ys))):=by
 intro pins s σ H xs us Q I r h
 obtain ⟨p,ys,rfl,hq,q⟩:=h
 obtain ⟨u,rfl,rx⟩:=eB r
 cases rx
 have fin:∀ (its:D1),Vals ys its->ys.length<=sizeLine->∀ (h':Heap) (c':Nat),(∀ b o',s.heap.get? b=some o'->h'.get? b=some o') ->
   h'.get? s.heap.objs.size=some { cls:=.type "list",dict:=none,data:=.seq its.toArray c',slots:=#[] }->EP X pins σ Q (.ref s.heap.objs.size) { s with heap:=h' }:=λits r' hz h' c' kp e =>
  ⟨.ref s.heap.objs.size,_,I.laid (t':=s.toks) kp (Aw _) (show ObjOk X.prog X.w _ h' _ (.lst ys) from ⟨hz,its,c',r',e⟩),rfl,q _ (I.hok.fresh (Aw _))⟩
 rcases hq with hq | hq
 ·obtain ⟨its,r',pl,hz⟩:=I.list hq
  have hlen:=r'.length
  obtain ⟨o,ho,hc,n,hd⟩:=pl.isList
  exact call_list_seq p (.inl rfl) ho hc hd (λh' c' kp e=>fin its r' hz h' c' kp e) (by simp only [AG] <;> omega)
 ·obtain ⟨its,r',pl,hz⟩:=I.tuple hq
  have hlen:=r'.length
  obtain ⟨o,ho,hc,n,hd⟩:=pl
  exact call_list_seq p (.inr rfl) ho hc hd (λh' c' kp e=>fin its r' hz h' c' kp e) (by simp only [AG] <;> omega)
theorem jq:dL X (.type "tuple") (λxs H Q=>∃ p ys,xs=[.ref p]/\((SqL X.K H p ys/\∀ l,H l=none->Q (.ref l) (upd H l (.tup ys)))\/(SqT X.K H p ys/\Q (.ref p) H))):=by
 intro pins s σ H xs us Q I r h
 obtain ⟨p,ys,rfl,h⟩:=h
 obtain ⟨u,rfl,rx⟩:=eB r
 cases rx
 rcases h with ⟨hq,q⟩ | ⟨hq,q⟩
 ·obtain ⟨its,r',pl,hz⟩:=I.list hq
  have hlen:=r'.length
  refine call_tuple_list pl.isList (λh' kp=>?_) (by simp only [AG] <;> omega)
  have I1:Inv X pins σ H { s with heap:=h' }:=I.kept (t':=s.toks) kp
  have I2:Inv X pins σ (upd H h'.objs.size (.tup ys)) { s with heap:=h'.push { cls:=.type "tuple",data:=.seq its.toArray } } :=
   I1.laid (t':=s.toks) (λb o e=>v9 _ e) (Aw _) (show ObjOk X.prog X.w _ _ _ (.tup ys) from ⟨hz,its,r',IsTup.new _ _⟩)
  exact ⟨.ref h'.objs.size,_,I2,rfl,q _ (I1.hok.fresh (Aw _))⟩
 ·obtain ⟨its,r',pl,hz⟩:=I.tuple hq
  exact call_tuple_same pl ⟨.ref p,H,I,rfl,q⟩
def wH (K:DO) (T:String) (x:V) (H:Hp):Prop:=match x with
 | .str _=>T="str"
 | .int _=>T="int"
 | .ref p=>(T="list"/\∃ xs,SqL K H p xs)\/(T="tuple"/\∃ o,K.lookup p=some o/\o.cls=.type "tuple"/\o.dict=none) \/
   (T="dict"/\((∃ kvs,H p=some (.dK kvs))\/∃ kvs,H p=some (.dT kvs)))\/(T="set"/\∃ S n,H p=some (.set S n))
 | _=>False
theorem Zaq {pins:List (Addr×Obj)} {σ:St} {H:Hp} {s:Shared} {T:String} {x:V} {v:Value} (I:Inv X pins σ H s) (r:RelV x v) (ty:wH X.K T x H) :
  s.TypeIs v T/\∀ a,v=.ref a->∃ ob,s.heap.get? a=some ob/\ob.dict=none:=by
 cases x with
 | str z =>
  obtain ⟨t,rfl⟩:=r
  cases (show T="str" from ty)
  exact ⟨typeIs_str s z t,λ_ e=>nomatch e⟩
 | int i =>
  obtain ⟨t,rfl⟩:=r
  cases (show T="int" from ty)
  exact ⟨typeIs_int s i t,λ_ e=>nomatch e⟩
 | ref p =>
  cases r
  rcases ty with ⟨rfl,xs,hq⟩ | ⟨rfl,o,hk,hc,hd⟩ | ⟨rfl,hk⟩ | ⟨rfl,S,n,hk⟩
  ·obtain ⟨its,_,pl,_⟩:=I.list hq
   refine ⟨pl.isList.typeIs,λa e=>?_⟩
   cases e
   obtain ⟨o,n,e,c,hd,_⟩:=pl
   exact ⟨o,e,hd⟩
  ·refine ⟨⟨o,I.kIn p o hk,hc⟩,λa e=>?_⟩
   cases e
   exact ⟨o,I.kIn _ o hk,hd⟩
  ·have z:∃ o,s.heap.get? p=some o/\o.ExactDict:=by
    rcases hk with ⟨kvs,hk⟩ | ⟨kvs,hk⟩
    ·obtain ⟨_,_,_,_,o,_,_,e,ex,_⟩:=I.hok p _ hk
     exact ⟨o,e,ex⟩
    ·obtain ⟨_,_,_,_,o,_,_,e,ex,_⟩:=I.hok p _ hk
     exact ⟨o,e,ex⟩
   obtain ⟨o,e,ex⟩:=z
   refine ⟨⟨o,e,ex.1⟩,λa e2=>?_⟩
   cases e2
   exact ⟨o,e,ex.2.1⟩
  ·obtain ⟨o,_,_,_,e,ex,_⟩:=I.hok p _ hk
   refine ⟨⟨o,e,ex.1⟩,λa e2=>?_⟩
   cases e2
   exact ⟨o,e,ex.2.1⟩
 | _=>exact False.elim ty
def ZaG (K:DO) (T:String) (r:V->List V->Hp->VK->Prop) (to:TE):TE:=λσ H Q=>to σ H λx H1=>wH K T x H1/\r x [] H1 Q
def tBM (K:DO) (T:String) (r:V->List V->Hp->VK->Prop) (to:TE) (t:TA):TE:=λσ H Q=>to σ H λx H1=>wH K T x H1/\t σ H1 λxs H2=>r x xs H2 Q
variable {o e:Expr} {es:List Expr} {to:TE} {t:TA} {name:Str} {apos cpos:Pos} {T id:String} {r:V->List V->Hp->VK->Prop}
theorem ZiY (pa:PlainAttrs T) (slot:Slot T name id) (hty:typeOf (.builtin id)=pure (.type "method_descriptor")) (hm:MtR X id r) (ho:PE X o to)
  (hbase:attributeBase o name X.env (eval o X.env)=eval o X.env:=by rfl) (hline:(apos.endLine == cpos.line)=true:=by rfl):PE X (.Call (.Attribute o name apos) [] [] cpos) (ZaG X.K T r to):=by
 intro pins s σ H Q I h
 refine wpAny_Call_method0_late hbase hline (thn (ho pins s σ H _ I h) λv s1 hz0=>?_)
 obtain ⟨x,H1,I1,r1,ty,q1⟩:=hz0
 obtain ⟨h1,h2⟩:=Zaq I1 r1 ty
 exact ⟨T,id,pa,slot,hty,h1,h2,Calls.callWith_builtin rfl (PySem.evalArgs_none (hm pins s1 σ H1 x [] v [] Q I1 r1 .nil q1))⟩
theorem x3 (pa:PlainAttrs T) (slot:Slot T name id) (hty:typeOf (.builtin id)=pure (.type "method_descriptor")) (hm:MtR X id r) (ho:PE X o to) (ha:PA X (e::es) t)
  (hbase:attributeBase o name X.env (eval o X.env)=eval o X.env:=by rfl)
  (hfew:((backTo cpos (starEach (e::es) X.env)).all (λx=>!x.1) && (backToKw cpos (keywordEach [] X.env)).all (λx=>x.1.isSome)
   && decide ((e::es).length+([]:List Keyword).length+(if ([]:List Keyword).isEmpty then 0 else 1) < 30))=true:=by rfl)
  (hline:(apos.endLine == cpos.line)=true:=by rfl) (hs:starEach (e::es) X.env=(false,eval e X.env)::starEach es X.env:=by rfl) (hplain:(backTo cpos (starEach es X.env)).any (·.1)=false:=by rfl) :
  PE X (.Call (.Attribute o name apos) (e::es) [] cpos) (tBM X.K T r to t):=by
 intro pins s σ H Q I h
 refine wpAny_Call_method_late hbase hfew hline rfl (thn (ho pins s σ H _ I h) λv s1 hz0=>?_)
 obtain ⟨x,H1,I1,r1,ty,q1⟩:=hz0
 obtain ⟨h1,h2⟩:=Zaq I1 r1 ty
 refine ⟨T,id,pa,slot,hty,h1,h2,?_⟩
 have hA:=ha cpos pins s1 σ H1 _ I1 q1
 rw [hs] at hA ⊢
 refine Calls.callWith_builtin (by show (false || (backTo cpos (starEach es X.env)).any (·.1))=false; rw [hplain] <;> rfl) (Calls.evalArgs_plain ?_)
 exact thn hA λus s2 hz0=>by
  obtain ⟨vs,H2,I2,r2,q2⟩:=hz0
  exact hm pins s2 σ H2 x vs v us Q I2 r1 r2 q2
end
noncomputable def MtM (X:Cx) (id:String) (r:V->List V->Hp->VK->Prop):Prop :=
 ∀ (pins:List (Addr×Obj)) (s:Shared) (σ:St) (H:Hp) (x:V) (xs:D3) (v:Value) (us:D1) (Q:VK),Inv X pins σ H s->RelV x v->Vals xs us->r x xs H Q ->
  wpAny (model X.prog X.w) X.A (call (.builtin id) (v::us)) (EP X pins σ Q) X.xe s
theorem Vals.one {x:V} {us:D1} (h:Vals [x] us):∃ u,us=[u]/\RelV x u:=by
 cases h with
 | cons r t=>cases t; exact ⟨_,rfl,r⟩
theorem Vals.two:∀ {x y:V} {us:D1},Vals [x,y] us->∃ u v,us=[u,v]/\RelV x u/\RelV y v
 | _,_,_,.cons r (.cons q .nil)=>⟨_,_,rfl,r,q⟩
theorem Vals.zero:∀ {us:D1},Vals [] us->us=[]
 | _,.nil=>rfl
theorem Vals.reverse {xs:D3} {us:D1} (h:Vals xs us):Vals xs.reverse us.reverse:=by
 induction h with
 | nil=>exact .nil
 | cons r t ih=>rw [CA,CA]; exact Vals.append ih (.cons r .nil)
theorem Vals.rep {xs:D3} {us:D1} (h:Vals xs us):∀ k:Nat,Vals (List.replicate k xs).flatten (List.replicate k us).flatten
 | 0=>.nil
 | k+1=>by
  rw [Be,Be,BE,BE]
  exact Vals.append h (Vals.rep h k)
theorem Zef (its:D1):∀ (k:Nat) (acc:D1),
  List.foldl (λx1 x2=>x1++x2) acc.toArray (List.replicate k its.toArray)=(acc++(List.replicate k its).flatten).toArray
 | 0,acc=>by simp
 | k+1,acc=>by
  have e:acc.toArray++its.toArray=(acc++its).toArray:=by simp
  have e2:(acc++its)++(List.replicate k its).flatten=acc++(List.replicate (k+1) its).flatten:=by
   rw [Be,BE,Bh]
  rw [<- e2,<- Zef its k (acc++its),<- e,Be,BR]
section
variable {X:Cx} {pins:List (Addr×Obj)} {σ:St} {H:Hp} {s:Shared} {l b:Addr} {xs ys zs:D3}
theorem Inv.lset {its its':D1} {n:Nat} {f:Array Value->Array Value} {t':Nat} (I:Inv X pins σ H s) (hH:H l=some (.lst xs))
  (e:s.heap.get? l=some { cls:=.type "list",data:=.seq its.toArray n }) (hf:f its.toArray=its'.toArray) (hv:Vals ys its') (hz:ys.length<=sizeLine) :
  Inv X pins σ (upd H l (.lst ys)) { s with heap:=s.heap.update l (Obj.mapSeq f),toks:=t' }:=by
 have q:=PySem.IsL.update e f
 rw [hf] at q
 refine I.write (x:=l) (e:=l) (by rw [hH]; exact trivial) (.inl rfl) (λb' u hb hu=>(Bn s.heap (Obj.mapSeq f) (Ne.symm hb)).trans hu) ⟨_,q⟩ ?_
 exact ⟨hz,its',_,hv,q⟩
theorem Inv.lnew {its:D1} {t':Nat} (I:Inv X pins σ H s) (hv:Vals ys its) (hz:ys.length<=sizeLine) :
  Inv X pins σ (upd H s.heap.objs.size (.lst ys)) { s with heap:=s.heap.push { cls:=.type "list",data:=.seq its.toArray },toks:=t' } :=
 I.laid (λ_ _ q=>v9 _ q) (Aw _) ⟨hz,its,0,hv,AC _ rfl⟩
theorem Inv.fresh (I:Inv X pins σ H s):H s.heap.objs.size=none:=I.hok.fresh (Aw _)
theorem Inv.lstM (I:Inv X pins σ H s) (hH:H l=some (.lst xs)):xs.length<=sizeLine/\∃ (its:D1) (n:Nat),Vals xs its/\xs.length=its.length/\s.heap.get? l=some { cls:=.type "list",data:=.seq its.toArray n }:=by
 obtain ⟨z,its,n,r,e⟩:=I.hok l _ hH
 exact ⟨z,its,n,r,r.length,e⟩
theorem Zjp {n:Nat} (h:n<=sizeLine):Builtin.List.listTooLong n=false:=by
 unfold Builtin.List.listTooLong
 exact decide_eq_false (by omega)
end
section
variable {X:Cx}
noncomputable def Zcq:V->List V->Hp->VK->Prop:=λx vs H Q=>∃ l xs y,x=.ref l/\vs=[y]/\H l=some (.lst xs)/\xs.length < sizeLine/\Q .non (upd H l (.lst (xs++[y])))
theorem yj:MtM X "list.append" Zcq:=by
 intro pins s σ H x vs v us Q I rx rv h
 obtain ⟨l,xs,y,rfl,rfl,hH,hz,q⟩:=h
 cases rx
 obtain ⟨u,rfl,ru⟩:=rv.one
 obtain ⟨z,its,n,r,hl,e⟩:=I.lstM hH
 refine call_meets F.slot_list_append ⟨_,e,rfl⟩ F.entry_list_append (F.args_list_append_2 _ _) (PySem.list_append l its.toArray n u (by rw [AG]; omega)) ⟨e,?_⟩
 refine ⟨.non,_,I.lset (its':=its++[u]) hH e (by simp) (r.append (.cons ru .nil)) ?_,rfl,q⟩
 rw [Av,List.length_singleton]
 omega
noncomputable def Zb8:V->List V->Hp->VK->Prop:=λx vs H Q=>∃ l xs,x=.ref l/\vs=[]/\H l=some (.lst xs)/\Q .non (upd H l (.lst xs.reverse))
theorem Zjz:MtM X "list.reverse" Zb8:=by
 intro pins s σ H x vs v us Q I rx rv h
 obtain ⟨l,xs,rfl,rfl,hH,q⟩:=h
 cases rx
 have hus:=rv.zero
 subst hus
 obtain ⟨z,its,n,r,hl,e⟩:=I.lstM hH
 refine call_meets F.slot_list_reverse ⟨_,e,rfl⟩ F.entry_list_reverse (F.args_list_reverse_1 _) (AutoSeq1.list_reverse_list_0 l its.toArray n (by rw [AG]; omega)) ⟨e,?_⟩
 refine ⟨.non,_,I.lset (its':=its.reverse) hH e (by simp) r.reverse ?_,rfl,q⟩
 rw [Bv]
 omega
noncomputable def Zcp:R2:=λx y H Q=>∃ l b xs zs,x=.ref l/\y=.ref b/\H l=some (.lst xs)/\H b=some (.lst zs)/\xs.length+zs.length<=sizeLine/\∀ p,H p=none->Q (.ref p) (upd H p (.lst (xs++zs)))
theorem Zjg:OpR X (binaryOp .Add) Zcp:=by
 intro pins s σ H x y v u Q I rx ry h
 obtain ⟨l,b,xs,zs,rfl,rfl,hH,hB,hz,q⟩:=h
 cases rx
 cases ry
 obtain ⟨z,its,n,r,hl,e⟩:=I.lstM hH
 obtain ⟨z2,its2,n2,r2,hl2,e2⟩:=I.lstM hB
 refine PySem.P.add_list e e2 ?_ (by rw [AG,AG]; omega)
 have ea:its.toArray++its2.toArray=(its++its2).toArray:=by simp
 rw [ea]
 exact ⟨.ref _,_,I.lnew (t':=s.toks) (r.append r2) (by rw [Av]; omega),rfl,q _ I.fresh⟩
noncomputable def Zcb:R2:=λx y H Q=>∃ l k xs,x=.ref l/\y=.int k/\H l=some (.lst xs)/\-(2 ^ 63)<=k/\k < 2 ^ 63/\xs.length * k.toNat<=sizeLine /\
 ∀ p,H p=none->Q (.ref p) (upd H p (.lst (List.replicate k.toNat xs).flatten))
theorem ZjW {α:Type} (xs:List α) (k:Nat):(List.replicate k xs).flatten.length=k * xs.length:=by
 induction k with
 | zero=>simp
 | succ k ih=>rw [Be,BE,Av,ih,Cp,Nat.add_comm]
theorem Zi6:OpR X (binaryOp .Mult) Zcb:=by
 intro pins s σ H x y v u Q I rx ry h
 obtain ⟨l,k,xs,rfl,rfl,hH,h1,h2,hz,q⟩:=h
 cases rx
 obtain ⟨t,rfl⟩:=ry
 obtain ⟨z,its,n,r,hl,e⟩:=I.lstM hH
 have hlen:its.toArray.size * k.toNat<=sizeLine:=by rw [AG,<- hl]; exact hz
 have hcap:¬ its.toArray.size * k.toNat > (2 ^ 63 - 1) / 8:=by
  have:(sizeLine:Nat)<=(2 ^ 63 - 1) / 8:=by decide
  omega
 have hfit:¬ (!Builtin.List.listFitsIndex k)=true:=by
  rw [fitsIndex_both h1 h2]
  exact AQ
 have hlong:¬ Builtin.List.listTooLong (its.toArray.size * k.toNat)=true:=by
  rw [Zjp hlen]
  exact AQ
 have hnew:List.foldl (λx1 x2=>x1++x2) #[] (List.replicate (if its.toArray.isEmpty=true then 0 else k.toNat) its.toArray)=(List.replicate k.toNat its).flatten.toArray:=by
  have f0:∀ m:Nat,List.foldl (λx1 x2=>x1++x2) #[] (List.replicate m its.toArray)=(List.replicate m its).flatten.toArray:=λm=>by
   have:=Zef its m []
   rw [Cf] at this
   exact this
  rw [f0]
  cases its with
  | nil=>simp
  | cons a r'=>rw [if_neg (by simp)]
 refine wpAny_binaryOp_repeat_ref (T:="list") (U:="int") (by decide) ⟨_,e,rfl⟩ (λs'=>typeIs_int s' k t) noFill_list_mul F.fills_int_mul F.slot_int_rmul repeat_list F.slot_int_index.lookup
  (call_meets F.slot_int_rmul (typeIs_int s k t) F.entry_int_rmul (F.args_int_rmul_2 _ _) (int___rmul___int_list k t l its.toArray n)
   ⟨e,rfl,⟨_,e,rfl⟩,call_meets F.slot_list_mul ⟨_,e,rfl⟩ F.entry_list_mul (F.args_list_mul_2 _ _) (AutoListH.list___mul___list_int_3 l its.toArray n k t hfit hcap hlong) ⟨e,?_⟩⟩)
 rw [hnew]
 exact ⟨.ref _,_,I.lnew (t':=s.toks) (r.rep k.toNat) (by rw [ZjW,Nat.mul_comm]; exact hz),rfl,q _ I.fresh⟩
end
section
variable {prog:Program} {w:World} {A:Around} {E:DX} {s:Shared}
end
section
variable {X:Cx}
end
section
variable {κ:Type} [DecidableEq κ]
noncomputable def gr (kvs:List (κ×V)) (k:κ):Option V:=(kvs.find? λkv=>decide (kv.1=k)).map (·.2)
noncomputable def cZ (kvs:List (κ×V)) (k:κ) (v:V):List (κ×V) :=
 if (kvs.any λkv=>decide (kv.1=k))=true then kvs.map (λkv=>if kv.1=k then (kv.1,v) else kv) else kvs++[(k,v)]
theorem om {p:κ×V} {r:List (κ×V)} {k:κ} (e:p.1=k):gr (p::r) k=some p.2:=by simp [gr,BA,e]
theorem on {p:κ×V} {r:List (κ×V)} {k:κ} (e:¬ p.1=k):gr (p::r) k=gr r k:=by simp [gr,BA,e]
theorem Zan (k:κ):∀ kvs:List (κ×V),(kvs.any λkv=>decide (kv.1=k))=(gr kvs k).isSome
 | []=>rfl
 | p::r=>by
  rw [Cj]
  by_cases e:p.1=k
  ·simp only [om e,decide_eq_true e,Bool.true_or,Dc]
  ·rw [on e,decide_eq_false e,Bool.false_or]; exact Zan k r
theorem qm (kvs:List (κ×V)) (k:κ) (v:V):(cZ kvs k v).length<=kvs.length+1:=by
 unfold cZ
 split
 ·rw [At]; omega
 ·rw [Av,Au,AE]; omega
theorem RelO.isSome_eq {o:Option V} {u:Option Value} (r:RelO o u):o.isSome=u.isSome:=by
 cases o with
 | none=>cases u with
  | none=>rfl
  | some _=>exact (show False from r).elim
 | some _=>cases u with
  | none=>exact (show False from r).elim
  | some _=>rfl
theorem KV.val {kvs:List (κ×V)} {vs:List (κ×Value)} (r:KV kvs vs) (k:κ):RelO (gr kvs k) (valueAt vs k):=by
 unfold KV at r
 induction r with
 | nil=>exact True.intro
 | @cons p q ps qs h t ih =>
  obtain ⟨h1,h2⟩:=h
  by_cases e:p.1=k
  ·have e':q.1=k:=h1.symm.trans e
   have b:valueAt (q::qs) k=some q.2:=by simp [valueAt,BA,e']
   rw [om e,b]; exact h2
  ·have e':¬ q.1=k:=λz=>e (h1.trans z)
   have b:valueAt (q::qs) k=valueAt qs k:=by simp [valueAt,BA,e']
   rw [on e,b]; exact ih
theorem KV.any {kvs:List (κ×V)} {vs:List (κ×Value)} (r:KV kvs vs) (k:κ):(kvs.any λkv=>decide (kv.1=k))=vs.any λkv=>decide (kv.1=k):=by
 unfold KV at r
 induction r with
 | nil=>rfl
 | cons h t ih=>rw [Cj,Cj,ih,h.1]
theorem KV.repl {kvs:List (κ×V)} {vs:List (κ×Value)} (r:KV kvs vs) (k:κ) {y:V} {u:Value} (ry:RelV y u) :
  KV (kvs.map λkv=>if kv.1=k then (kv.1,y) else kv) (vs.map λkv=>if kv.1=k then (kv.1,u) else kv):=by
 unfold KV at r ⊢
 induction r with
 | nil=>exact .nil
 | @cons p q ps qs h t ih =>
  rw [Ax,Ax]
  refine .cons ?_ ih
  obtain ⟨h1,h2⟩:=h
  by_cases e:p.1=k
  ·rw [if_pos e,if_pos (h1.symm.trans e)]; exact ⟨h1,ry⟩
  ·rw [if_neg e,if_neg (λz=>e (h1.trans z))]; exact ⟨h1,h2⟩
theorem KV.put {kvs:List (κ×V)} {vs:List (κ×Value)} (r:KV kvs vs) (k:κ) {y:V} {u:Value} (ry:RelV y u):KV (cZ kvs k y) (stored vs k u):=by
 unfold cZ stored
 rw [r.any k]
 by_cases e:(vs.any λkv=>decide (kv.1=k))=true
 ·rw [if_pos e,if_pos e]; exact r.repl k ry
 ·rw [if_neg e,if_neg e]; exact Paired.snoc r ⟨rfl,ry⟩
theorem KV.length {kvs:List (κ×V)} {vs:List (κ×Value)} (r:KV kvs vs):kvs.length=vs.length:=C6 r
end
theorem yD {P:Program} {w:World} {k:aL} {u:Value} (r:RelV (kV k) u):(bP P w).is k u=true:=by
 cases k with
 | inl i=>obtain ⟨t,e⟩:=(show ∃ t,u=Value.int i t from r); subst e; exact ZjB P w i t
 | inr x=>obtain ⟨t,e⟩:=(show ∃ t,u=Value.str x t from r); subst e; exact ZjA P w x t
theorem ZdO {P:Program} {w:World}:∀ {ks:List aL} {us:D1},Vals (ks.map kV) us->ItemsAre (bP P w) ks us
 | [],_,r=>by rw [BO] at r; cases r; exact .nil
 | k::ks,_,r=>by
  rw [Ax] at r
  cases r with
  | cons h t=>exact .cons (yD h) (ZdO t)
noncomputable abbrev KT (H:Hp):List (List aL×V)->List (List aL×Addr×Value)->Prop:=Paired λp q=>p.1=q.1/\H q.2.1=some (.tup (p.1.map kV))/\RelV p.2 q.2.2
theorem KT.val {H:Hp} {kvs:List (List aL×V)} {xs:List (List aL×Addr×Value)} (r:KT H kvs xs) (k:List aL):RelO (gr kvs k) ((atKey xs k).map (·.2)):=by
 induction r with
 | nil=>exact True.intro
 | @cons p q ps qs h t ih =>
  obtain ⟨h1,_,h2⟩:=h
  by_cases e:p.1=k
  ·have e':q.1=k:=h1.symm.trans e
   have b:atKey (q::qs) k=some q.2:=by simp [atKey,BA,e']
   rw [om e,b]; exact h2
  ·have e':¬ q.1=k:=λz=>e (h1.trans z)
   have b:atKey (q::qs) k=atKey qs k:=by simp [atKey,BA,e']
   rw [on e,b]; exact ih
theorem KT.repl {H:Hp} {kvs:List (List aL×V)} {xs:List (List aL×Addr×Value)} (r:KT H kvs xs) (k:List aL) {y:V} {u:Value} (ry:RelV y u) :
  KT H (kvs.map λkv=>if kv.1=k then (kv.1,y) else kv) (xs.map (putAt k u)):=by
 induction r with
 | nil=>exact .nil
 | @cons p q ps qs h t ih =>
  rw [Ax,Ax]
  refine .cons ?_ ih
  obtain ⟨h1,h2,h3⟩:=h
  unfold putAt
  by_cases e:p.1=k
  ·rw [if_pos e,if_pos (h1.symm.trans e)]; exact ⟨h1,h2,ry⟩
  ·rw [if_neg e,if_neg (λz=>e (h1.trans z))]; exact ⟨h1,h2,h3⟩
theorem KT.put {H:Hp} {kvs:List (List aL×V)} {xs:List (List aL×Addr×Value)} (r:KT H kvs xs) (k:List aL) {b:Addr} {y:V} {u:Value} (hb:H b=some (.tup (k.map kV))) (ry:RelV y u) :
  KT H (cZ kvs k y) (storedH xs k b u):=by
 have e:(kvs.any λkv=>decide (kv.1=k))=(atKey xs k).isSome:=by
  rw [Zan,(r.val k).isSome_eq,Option.isSome_map]
 unfold cZ storedH
 rw [e]
 by_cases q:(atKey xs k).isSome=true
 ·rw [if_pos q,if_pos q]; exact r.repl k ry
 ·rw [if_neg q,if_neg q]; exact Paired.snoc r ⟨rfl,hb,ry⟩
theorem KT.keeps {H H':Hp} {kvs:List (List aL×V)} {xs:List (List aL×Addr×Value)} (r:KT H kvs xs) (ht:∀ b ys,H b=some (.tup ys)->H' b=some (.tup ys)):KT H' kvs xs :=
 Paired.mapP r λ_ _ z=>⟨z.1,ht _ _ z.2.1,z.2.2⟩
section
variable {P:Program} {w:World} {H:Hp} {h:Heap} {a:Addr}
theorem ZbX {u:HO} (ok:HOk P w H h) (e:Rd H a u):ObjOk P w H h a u:=e.ok ok
theorem zg {kvs:List (aL×V)} (ok:HOk P w H h) (e:Rd H a (.dK kvs)):kvs.length<=sizeLine/\(a == sysModules)=false/\∃ vs,KV kvs vs/\h.DictOf (bP P w) a vs :=
 show ObjOk P w H h a (.dK kvs) from ZbX ok e
theorem ZlA {kvs:List (aL×V)} (ok:HOk P w H h) (e:H a=some (.dK kvs)):kvs.length<=sizeLine/\(a == sysModules)=false/\∃ vs,KV kvs vs/\h.DictOf (bP P w) a vs:=zg ok (.inl e)
theorem lg {ks:List aL} (ok:HOk P w H h) (e:H a=some (.tup (ks.map kV))):(tupleKind (bP P w)).is h ks a:=by
 obtain ⟨_,its,r,o,h1,h2,n,h3⟩:=(show ObjOk P w H h a (.tup (ks.map kV)) from ok a _ e)
 exact ⟨o,its.toArray,n,h1,h2,h3,by simpa using ZdO r⟩
theorem zd {kvs:List (List aL×V)} (ok:HOk P w H h) (e:Rd H a (.dT kvs)):kvs.length<=sizeLine/\(a == sysModules)=false /\
  ∃ xs,KT H kvs xs/\h.DictOfH (tupleKind (bP P w)) a xs:=by
 obtain ⟨z,y,xs,r,o,es,ep,h1,h2,h3,h4,h5⟩:=(show ObjOk P w H h a (.dT kvs) from ZbX ok e)
 refine ⟨z,y,xs,r,o,es,ep,h1,h2,h3,h4,λx hx=>?_,h5⟩
 have all:∀ {l:List (List aL×V)} {m:List (List aL×Addr×Value)},KT H l m->∀ x∈m,(tupleKind (bP P w)).is h x.1 x.2.1:=by
  intro l m q
  induction q with
  | nil=>intro x hx; exact nomatch hx
  | @cons p q ps qs hq t ih =>
   intro x hx
   rcases AO.mp hx with e | hx
   ·subst e
    exact lg ok (by rw [<- hq.1]; exact hq.2.1)
   ·exact ih x hx
 exact all r x hx
theorem Zlw {kvs:List (List aL×V)} (ok:HOk P w H h) (e:H a=some (.dT kvs)):kvs.length<=sizeLine/\(a == sysModules)=false /\
  ∃ xs,KT H kvs xs/\h.DictOfH (tupleKind (bP P w)) a xs:=zd ok (.inl e)
end
noncomputable def Aq (H:Hp) (a:Addr) (y:V) (r:Option V):Prop :=
 (∃ kvs k,Rd H a (.dK kvs)/\y=kV k/\r=gr kvs k)\/∃ kvs k b,Rd H a (.dT kvs)/\y=.ref b/\H b=some (.tup (k.map kV))/\r=gr kvs k
noncomputable def DPut (H:Hp) (a:Addr) (y v:V) (H':Hp):Prop :=
 (∃ kvs k,H a=some (.dK kvs)/\y=kV k/\kvs.length < sizeLine/\H'=upd H a (.dK (cZ kvs k v))) \/
 ∃ kvs k b,H a=some (.dT kvs)/\y=.ref b/\H b=some (.tup (k.map kV))/\kvs.length < sizeLine/\H'=upd H a (.dT (cZ kvs k v))
theorem DPut.t {H:Hp} {a b:Addr} {kvs:List (List aL×V)} {k:List aL} {v:V} (e:H a=some (.dT kvs)) (eb:H b=some (.tup (k.map kV))) (hl:kvs.length < sizeLine) :
  DPut H a (.ref b) v (upd H a (.dT (cZ kvs k v))):=.inr ⟨kvs,k,b,e,rfl,eb,hl,rfl⟩
section
variable {X:Cx} {pins:List (Addr×Obj)} {σ:St} {H:Hp} {s:Shared} {a:Addr} {y v:V} {u r:Value} {o:Option V} {A:Around} {E:DX}
theorem Inv.big (I:Inv X pins σ H s):sysModules < s.heap.objs.size:=by
 have h:mainGlobals < s.heap.objs.size:=(I.mod.glob.keeps I.bk).lt
 exact Nat.lt_trans (by decide) h
theorem Zl2 {Q:DX} (hu:A.units+1 < cLine) (I:Inv X pins σ H s) (g:Aq H a y (some v)) (ry:RelV y u) (h:∀ w' s',Inv X pins σ H s'->RelV v w'->Q w' s') :
  wpAny (model X.prog X.w) A (getItem (.ref a) u) Q E s:=by
 rcases g with ⟨kvs,k,e,ey,l⟩ | ⟨kvs,k,b,e,ey,eb,l⟩
 ·subst ey
  obtain ⟨z,hd,vs,rel,dd⟩:=zg I.hok e
  obtain ⟨w',hw,rw'⟩:=RelO.some_of (v:=v) (o:=valueAt vs k) (by rw [l]; exact rel.val k)
  exact wpAny_getItem_of (yD ry) dd.mapOf hw (h w' _ (I.tok _) rw')
 ·subst ey
  cases (show u=Value.ref b from ry)
  obtain ⟨z,hd,xs,rel,dd⟩:=zd I.hok e
  obtain ⟨w',hw,rw'⟩:=RelO.some_of (v:=v) (o:=(atKey xs k).map (·.2)) (by rw [l]; exact rel.val k)
  obtain ⟨p,hp,hp2⟩:=Bs.mp hw
  refine wpAny_getItem_heap (tupleKind_room_in1 hu) (lg I.hok eb) dd hp ?_
  rw [hp2]
  exact h w' _ (I.tok _) rw'
theorem ZeW {h':Heap} {t':Nat} {ob:HO} (I:Inv X pins σ H s) (mu:n6 (H a)) (hs:Heap.SameBut a s.heap h') (he:∃ q,h'.get? a=some q) (new:ObjOk X.prog X.w (upd H a ob) h' a ob) :
  Inv X pins σ (upd H a ob) { s with heap:=h',toks:=t' } :=
 I.write (x:=a) (e:=a) mu (.inl rfl) (λb q hb z=>(hs.2 b hb).trans z) he new
theorem ZlB {P:Program} {w:World} {H':Hp} {h':Heap} {kvs:List (aL×V)} {vs:List (aL×Value)} (z:kvs.length<=sizeLine) (hd:(a == sysModules)=false) (rel:KV kvs vs) (dd:h'.DictOf (bP P w) a vs) :
  ObjOk P w H' h' a (.dK kvs):=⟨z,hd,vs,rel,dd⟩
theorem ZlM {H':Hp} {Q:Unit->Shared->Prop} (hu:A.units+1 < cLine) (I:Inv X pins σ H s) (g:DPut H a y v H') (ry:RelV y u) (rv:RelV v r) (h:∀ s',Inv X pins σ H' s'->Q () s') :
  wpAny (model X.prog X.w) A (setItem (.ref a) u r) Q E s:=by
 rcases g with ⟨kvs,k,e,ey,l,eH⟩ | ⟨kvs,k,b,e,ey,eb,l,eH⟩
 ·subst ey eH
  obtain ⟨z,hd,vs,rel,dd⟩:=ZlA I.hok e
  have hz:vs.length<=sizeLine:=by rw [<- rel.length]; exact z
  have hl:(cZ kvs k v).length<=sizeLine:=by have:=qm kvs k v; omega
  refine wpAny_setItem_pairs (hsz:=hz) (yD ry) dd λh' dd' hs=>h _ ?_
  have he:∃ q,h'.get? a=some q:=let ⟨q,_,_,hq,_⟩:=dd'; ⟨q,hq⟩
  exact ZeW I (by rw [e]; exact True.intro) hs he (ZlB hl hd (rel.put k rv) dd')
 ·subst ey eH
  cases (show u=Value.ref b from ry)
  obtain ⟨z,hd,xs,rel,dd⟩:=Zlw I.hok e
  have hz:xs.length<=sizeLine:=by rw [<- C6 rel]; exact z
  have hl:(cZ kvs k v).length<=sizeLine:=by have:=qm kvs k v; omega
  refine wpAny_setItem_heap (hsz:=hz) (tupleKind_room_in1 hu) (lg I.hok eb) dd λh' dd' hs=>h _ ?_
  obtain ⟨q,es,ep,hq,h2,h3,h4,_,h5⟩:=dd'
  refine ZeW I (by rw [e]; exact True.intro) hs ⟨q,hq⟩ ⟨hl,hd,_,(rel.put k eb rv).keeps λc ys ec=>?_,q,es,ep,hq,h2,h3,h4,h5⟩
  rw [aM (Zju ec e (λz=>nomatch z))]
  exact ec
end
section
variable {X:Cx} {pins:List (Addr×Obj)} {σ:St} {H:Hp} {s:Shared} {a:Addr} {kvs:List (aL×V)} {k:aL} {u:Value} {A:Around} {E:DX}
end
def Zf6 (i:Expr):Prop:=∀ ov iv,subscripted i false ov iv=operate [ov,iv] (getItem ov iv)
theorem Zg6 {prog:Program} {w:World} {A:Around} {E:DX} {s:Shared} {env:Env} {value slice:Expr} {pos:Pos} {T id:String} {Q:DX}
  (hl:typeLookup (.type T) "__getitem__"=pure (some (.builtin id))) (hs:Zf6 slice)
  (h:wpAny (model prog w) A (eval value env) (λo s₁=>wpAny (model prog w) A (eval slice env) (λi s₂=>s₂.TypeIs o T/\wpAny (model prog w) A (getItem o i) Q E s₂) E s₁) E s) :
  wpAny (model prog w) A (eval (.Subscript value slice pos) env) Q E s:=by
 refine Subscript_ (wpAny_mono h (λo s₁ h₁=>wpAny_mono h₁ (λi s₂ h₂=>?_) λ_ _ x=>x) λ_ _ x=>x)
 obtain ⟨hT,h₂⟩:=h₂
 unfold subscriptTail
 refine wpAny_bind ?_
 rw [getitemInPython_of_ne hT.not_modules]
 refine wpAny_bind (wpAny_specialOf hT hl ?_)
 have fin:wpAny (model prog w) A (subscripted slice false o i) (λr s₃=>wpAny (model prog w) A (letTemporaryGo value o r >>= λ_=>pure r) Q E s₃) E s₂:=by
  rw [hs o i]
  exact wpAny_operating (wpAny_mono h₂ (λr s₃ h₃=>wpAny_bind (wpAny_letTemporaryGo (wpAny_pure h₃))) λ_ _ x=>x)
 first
  | exact wpAny_pure (wpAny_bind fin)
  | exact wpAny_bind (wpAny_pure (wpAny_bind fin))
  | exact wpAny_bind fin
theorem ZlD {X:Cx} {pins:List (Addr×Obj)} {σ:St} {H:Hp} {s:Shared} {a:Addr} {y:V} {o:Option V} (I:Inv X pins σ H s) (g:Aq H a y o):s.TypeIs (.ref a) "dict":=by
 rcases g with ⟨kvs,k,e,_,_⟩ | ⟨kvs,k,b,e,_,_,_⟩
 ·obtain ⟨_,_,vs,_,dd⟩:=zg I.hok e
  exact dd.typeIs
 ·obtain ⟨_,_,xs,_,dd⟩:=zd I.hok e
  exact dd.typeIs
def ZaD (td ty:TE):TE:=λσ H Q=>td σ H λx H1=>ty σ H1 λy H2=>∃ a v,x=.ref a/\Aq H2 a y (some v)/\Q v H2
def Zbz (td ty tv:TE):TS:=λD σ H=>tv σ H λv H1=>td σ H1 λx H2=>ty σ H2 λy H3=>∃ a H4,x=.ref a/\DPut H3 a y v H4/\D.nx σ H4
section
variable {X:Cx} {o i e value:Expr} {pos pos' tpos:Pos} {td ty tv:TE}
theorem iY (hu:X.A.units+1 < cLine) (ho:PE X o td) (hi:PE X i ty) (hs:Zf6 i):PE X (.Subscript o i pos) (ZaD td ty):=by
 intro pins s σ H Q I h
 refine Zg6 PySem.F.slot_dict_getitem.lookup hs (thn (ho pins s σ H _ I h) λu s1 ⟨x,H1,I1,rx,q1⟩=>thn (hi pins s1 σ H1 _ I1 q1) λiv s2 hz0=>?_)
 obtain ⟨y,H2,I2,ry,a,v,ex,g,q2⟩:=hz0
 subst ex
 obtain rfl:u=Value.ref a:=rx
 exact ⟨ZlD I2 g,Zl2 hu I2 g ry λw' s3 I3 rw'=>⟨v,H2,I3,rw',q2⟩⟩
theorem ZcB (hu:X.A.units+1 < cLine) (ho:PE X o td) (hi:PE X i ty) (hv:PE X value tv) (hs:swapsWith value (some (.Subscript o i pos')) pos.line X.env=pure false) :
  PS X (.Assign [.Subscript o i pos'] value pos) (Zbz td ty tv):=by
 intro pins s σ H D I h
 refine wpAny_Assign_Subscript (thn (hv pins s σ H _ I h) λr s1 ⟨v,H1,I1,rv,q1⟩=>thn (ho pins s1 σ H1 _ I1 q1) λu s2 ⟨x,H2,I2,rx,q2⟩=>thn (hi pins s2 σ H2 _ I2 q2) λiv s3 hz0=>?_) hs
 obtain ⟨y,H3,I3,ry,a,H4,ex,g,q3⟩:=hz0
 subst ex
 obtain rfl:u=Value.ref a:=rx
 exact ZlM hu I3 g ry rv λs4 I4=>⟨σ,H4,I4,q3⟩
end
theorem ZlC {P:Program} {w:World} {H:Hp} (h:Heap) (hb:sysModules < h.objs.size):ObjOk P w H (h.push { cls:=.type "dict",data:=.dict #[] }) h.objs.size (.dK []) :=
 ⟨Bg _,beq_eq_false_iff_ne.mpr (Ne.symm (AR hb)),[],.nil,Heap.DictOf.new h⟩
theorem Zlx {P:Program} {w:World} {H:Hp} (h:Heap) (hb:sysModules < h.objs.size):ObjOk P w H (h.push { cls:=.type "dict",data:=.dict #[] }) h.objs.size (.dT []) :=
 ⟨Bg _,beq_eq_false_iff_ne.mpr (Ne.symm (AR hb)),[],.nil,_,#[],0,AC _ rfl,⟨rfl,rfl,rfl⟩,rfl,rfl,DD⟩
def Zg1:TE:=λ_ H Q=>∀ p,H p=none->Q (.ref p) (upd H p (.dK []))
def ZaC:TE:=λ_ H Q=>∀ p,H p=none->Q (.ref p) (upd H p (.dT []))
section
variable {X:Cx} {pos:Pos}
theorem ZiU:PE X (.Dict [] [] pos) Zg1:=λpins s σ H Q I h =>
 wpAny_Dict_empty ⟨.ref s.heap.objs.size,_,I.laid (a:=s.heap.objs.size) (o:=.dK []) (t':=s.toks) (λ_ _ q=>v9 _ q) (Aw _) (ZlC s.heap I.big),rfl,h _ (I.hok.fresh (Aw _))⟩
theorem ZcO:PE X (.Dict [] [] pos) ZaC:=λpins s σ H Q I h =>
 wpAny_Dict_empty ⟨.ref s.heap.objs.size,_,I.laid (a:=s.heap.objs.size) (o:=.dT []) (t':=s.toks) (λ_ _ q=>v9 _ q) (Aw _) (Zlx s.heap I.big),rfl,h _ (I.hok.fresh (Aw _))⟩
end
section
variable {X:Cx} {pins:List (Addr×Obj)} {σ:St} {H:Hp} {s:Shared} {a:Addr} {y d:V} {u r:Value} {o:Option V} {A:Around} {E:DX}
end
section
variable {X:Cx} {o e f:Expr} {apos cpos:Pos} {td ty tx:TE}
end
section
variable {X:Cx} {pins:List (Addr×Obj)} {σ:St} {H:Hp} {s:Shared} {a:Addr} {kvs:List (aL×V)} {A:Around} {E:DX}
end
section
variable {X:Cx} {pins:List (Addr×Obj)} {σ:St} {H:Hp} {s:Shared} {a:Addr} {y:V} {u:Value} {A:Around} {E:DX}
end
end L2
namespace Att
open PySem.W PySem.Calls
theorem ints_of_wellAll {P:Params} {h:Heap}:∀ (ns:DZ) (vs:D1),WellAll P h vs (ns.map WData.int)->IntsAre vs ns:=by
 intro ns
 induction ns with
 | nil =>
  intro vs w
  rw [BO] at w
  cases w
  exact .nil
 | cons n ns ih =>
  intro vs w
  rw [Ax] at w
  cases w with
  | cons a b =>
   cases a
   exact .cons _ _ (ih _ b)
theorem script_of {l:OpenLaw} {n:Nat} (hn:l.most=some n) {P:Params} {h:Heap} {args:List WData} {vals:D1}
  (hpre:l.row.toRowW.claim.pre args=true) (hwl:WellAll P h vals args) :
  ∃ a vs ns,vals=[Value.ref a]/\args=[WData.list (ns.map WData.int)]/\h.get? a=some { cls:=.type "list",data:=.seq vs.toArray }/\IntsAre vs ns/\ns.length<=n:=by
 have hsh:WShape.hasAll [] args [.list .int]=true:=(pre_splitW hpre).1
 have hc:l.pre.holds [] { args:=args }=true:=(pre_splitW hpre).2
 obtain ⟨d,r,rfl,h1,h2⟩:=hasAllW_cons hsh
 obtain rfl:=hasAllW_nil h2
 obtain ⟨xs,rfl,h3⟩:=hasW_list h1
 obtain ⟨ns,rfl⟩:=items_int h3
 have hlen:ns.length<=n:=by
  unfold OpenLaw.pre at hc
  have h4:(WTm.not (.lt (.lit (.int (n:Int))) (.len (.arg 0)))).holds [] { args:=[.list (ns.map .int)] }=true:=by
   have h4:=(holds_andW hc).1
   rw [hn] at h4
   exact h4
  have h5:=condW_of h4 (w_not (w_lt w_lit (w_len_list (w_arg rfl))))
  rw [At] at h5
  refine Cb λq=>?_
  have q':(n:Int) < ((ns.length:Nat):Int):=by omega
  first
   | (rw [decide_eq_true q'] at h5; exact absurd h5 (by decide))
   | (simp at h5; omega)
 cases hwl with
 | cons w1 w2 =>
  cases w2
  cases w1 with
  | list ho hall=>exact ⟨_,_,ns,rfl,rfl,ho,ints_of_wellAll ns _ hall,hlen⟩
theorem post_true (l:OpenLaw) (args:List WData):l.row.toRowW.claim.post args (.bool true) args=true :=
 postW_of (r:=l.row.toRowW) (X:=(true == true))
  (show WShape.has [] (.bool true) .bool=true by first | rfl | decide | simp [WShape.has,WShape.arms,WShape.armsAll])
  (show (WTm.eq .res (.lit (.bool true))).value [] { args:=args,res:=some (.bool true),after:=args }=some (.bool (true == true)) from w_eq_bool (w_res rfl) w_lit) rfl
theorem attach_call {l:OpenLaw} {n:Nat} {q:Program} {loose:D2} {XP:D4->Heap->Prop} {YP:World->Heap->Prop} {d:DefRec}
  (hn:l.most=some n) (hdf:d.params.defaults=[])
  (call:∀ (w:World) (s₀ s₁:Shared) (mg mb:D4) (fa:Addr) (o:Obj) (pm cd doc:Value) (a:Addr) (vs:D1) (ns:DZ),
   Ground q loose [] XP w s₀ mg mb s₁.heap->YP w s₁.heap ->
   s₁.heap.get? fa=some o->o.data=.func (docDef d.name d.params d.body d.scope pm cd doc)->s₁.heap.CodeRec cd d.name->mg d.name=some (.ref fa) ->
   s₁.heap.get? a=some { cls:=.type "list",data:=.seq vs.toArray }->IntsAre vs ns->ns.length<=n->s₁.gens=#[] ->
   codeAny (model l.prog w) callerA (.call (.ref fa) ⟨[.ref a],[]⟩) (λr s'=>r=.ok (.ret (.bool true))/\OldK s₁.heap s'.heap/\s'.os=s₁.os/\AllBare s'.gens) s₁) :
  WalkO q loose XP YP l.row.toRowW d [] (λf vs=>PySem.call f vs):=by
 intro w s₀ s₁ mg mb G Y fa o pm cd doc dV kV ho hd hcd hD hmg hg args vals as hpre hlay hrd hwl hlo
 obtain rfl:dV=.none:=Dflts.none hD hdf
 obtain rfl:kV=.none:=Dflts.noKw hD
 obtain ⟨a,vs,ns,rfl,rfl,hobj,hints,hlen⟩:=script_of hn hpre hwl
 refine enter_call (codeAny_mono (call w s₀ s₁ mg mb fa o pm cd doc a vs ns G Y ho (fd_plain hd) hcd hmg hobj hints hlen hg) λr s' hq=>?_)
 obtain ⟨rfl,h2,h3,h4⟩:=hq
 exact ⟨.inl ⟨.bool true,.bool true,[],rfl,λ_=>rfl,.bool true,post_true l _,λ_=>⟨List.Pairwise.nil,λ_ hm=>(nomatch hm)⟩⟩,h2,h3,h4⟩
section
variable {prog:Program} {w:World} {A:Around} {E:DX} {s:Shared} {K:Frag}
end
end Att
namespace L2
theorem Zgo {vs:D1} {ns:DZ} (h:IntsAre vs ns):Vals (ns.map V.int) vs:=by
 induction h with
 | nil=>exact .nil
 | cons n t h ih=>exact .cons ⟨t,rfl⟩ ih
def v8 (H:Hp):Prop:=∀ b,H b=none\/∃ o xs,H b=some (.frz o (.lst xs))
theorem Zj5 {P:Program} {w:World} {K:DO} {mg mb:D4} {CX:f8} {k:Nat} {fa a:Addr} {fd:FuncData} {x:Str} {sp:Sp} {s₁:Shared} {vs:D1} {ns:DZ}
  (KX:K.In s₁.heap) (hns:s₁.heap.Ns mainGlobals mg) (hb:s₁.heap.Ns builtinsNs mb) (hbb:∀ x:Str,x≠"__name__"->mb x=bootBuiltins x) (hlim:s₁.heap.NoLimit) (hdig:s₁.heap.NoDigits) (hg:s₁.gens=#[])
  (ha:s₁.heap.get? a=some { cls:=.type "list",data:=.seq vs.toArray }) (hi:IntsAre vs ns) (hl:ns.length<=sizeLine) (hr:Room k callerA)
  (F:∀ base:Heap,K.In base->base.Ns mainGlobals mg->FnOk P w K mg base CX k fa fd [x] sp) (hbind:∀ (s:Shared) (u:Value),BindsTo s fd ⟨[u],[]⟩ [(x,u)])
  (hsp:∀ H:Hp,v8 H->SqL K H a (ns.map V.int)->sp [.ref a] H (λv _=>v=.bl true) λ_ _ _=>False)
  (hCX:∀ H e s',CX [] H s₁ (λ_ _ _=>False) e s'->False) :
  codeAny (model P w) callerA (.call (.ref fa) ⟨[.ref a],[]⟩) (λr s'=>r=.ok (.ret (.bool true))/\OldK s₁.heap s'.heap/\s'.os=s₁.os/\AllBare s'.gens) s₁:=by
 have rv:=Zgo hi
 have lenV:=hi.length
 -- from an abstract heap in which nothing but the script may be tracked
 have core:∀ H:Hp,v8 H->SqL K H a (ns.map V.int)->HOk P w H s₁.heap->(∀ b,H b≠none->b=a)->(H a≠none->K.lookup a=none) ->
   codeAny (model P w) callerA (.call (.ref fa) ⟨[.ref a],[]⟩) (λr s'=>r=.ok (.ret (.bool true))/\OldK s₁.heap s'.heap/\s'.os=s₁.os/\AllBare s'.gens) s₁:=by
  intro H hO hS hok hA hK
  have base_of:∀ {b:Addr} {o:Obj},s₁.heap.get? b=some o->H b=none->(iz s₁.heap H).get? b=some o:=λe n=>ZkA e n
  have noA:∀ {b:Addr} {o:Obj} {es:Array DictEntry} {ep:Nat},s₁.heap.get? b=some o->o.data=.dict es ep->H b=none:=λ{b o es ep} e d=>by
   cases q:H b with
   | none=>rfl
   | some u =>
    have e':b=a:=hA b (by rw [q]; simp)
    subst e'
    rw [ha] at e; cases e
    have d':Data.seq vs.toArray _=Data.dict es ep:=d
    cases d'
  have nsK:∀ {b:Addr} {m:D4},s₁.heap.Ns b m->(iz s₁.heap H).Ns b m:=λ{b m} hz0=>by
   obtain ⟨o,es,ep,e,d,r⟩:=hz0
   exact ⟨o,es,ep,base_of e (noA e d),d,r⟩
  have hKb:K.In (iz s₁.heap H):=λb o e=>base_of (KX b o e) (by
   cases q:H b with
   | none=>rfl
   | some u =>
    have e':b=a:=hA b (by rw [q]; simp)
    subst e'
    rw [hK (by rw [q]; simp)] at e; cases e)
  have hM:Mod K mg (iz s₁.heap H):=⟨hKb,nsK hns,⟨mb,nsK hb,hbb⟩,let ⟨mc,h1,h2⟩:=hlim; ⟨mc,nsK h1,h2⟩,let ⟨mc,h1,h2⟩:=hdig; ⟨mc,nsK h1,h2⟩⟩
  have e0:Env0 P w K mg (iz s₁.heap H) callerA [] s₁ H:=⟨rfl,hM,λb o e=>Zjl e,Nat.le_of_eq (Zkz _ _),trivial,λb hb=>absurd (show b∈([]:List Addr) from hb) (by simp),hok,.of_eq hg⟩
  refine codeAny_mono ((F _ hKb (nsK hns)).run callerA [] s₁ H ⟨[.ref a],[]⟩ [.ref a] [.ref a] _ _ hr e0 (hbind s₁ (.ref a)) (.cons rfl .nil) (hsp H hO hS)) λr s' h=>?_
  cases r with
  | error e=>exact (hCX H e s' h).elim
  | ok fl =>
   cases fl with
   | next=>exact False.elim h
   | brk=>exact False.elim h
   | cont=>exact False.elim h
   | ret u =>
    obtain ⟨v,H',os,bare,un,hok',r',q⟩:=h
    have q':v=.bl true:=q
    subst q'
    obtain rfl:u=Value.bool true:=r'
    refine ⟨rfl,OldK.of_keep λb o e=>?_,os,bare⟩
    cases q:H b with
    | none=>exact un.keep b o e q (by intro z; exact absurd (show b∈([]:List Addr) from z) (by simp)) (by simp)
    | some u =>
     rcases hO b with z | ⟨ob,xs,z⟩
     ·rw [q] at z; cases z
     ·have z2:=un.frzs b ob _ z
      obtain ⟨e1,_⟩:=hok b _ z
      obtain ⟨e2,_⟩:=hok' b _ z2
      rw [e] at e1; cases e1
      exact e2
 cases hk:K.lookup a with
 | some o =>
  -- the script is one of the module's own objects
  have e:=KX a o hk
  rw [ha] at e
  cases e
  refine core (λ_=>none) (λ_=>.inl rfl) (.inr ⟨_,vs.toArray,_,hk,rfl,rfl,rfl,by rw [AG,lenV]; exact hl,by simpa using rv⟩) (λb u z=>by have z':(none:Option HO)=some u:=z; cases z') (λb z=>absurd rfl z) λz=>absurd rfl z
 | none =>
  refine core (λb=>if b=a then some (.frz { cls:=.type "list",data:=.seq vs.toArray } (.lst (ns.map V.int))) else none) (λb=>?_) (.inl (.inr ⟨{ cls:=.type "list",data:=.seq vs.toArray },if_pos rfl⟩)) (λb u z=>?_) (λb z=>?_) λ_=>hk
  ·by_cases hb:b=a
   ·exact .inr ⟨_,_,if_pos hb⟩
   ·exact .inl (if_neg hb)
  ·by_cases hb:b=a
   ·have z':=(if_pos hb).symm.trans z
    cases z'
    subst hb
    exact ⟨ha,by rw [At]; exact hl,vs,_,rv,ha⟩
   ·have z':=(if_neg hb).symm.trans z
    cases z'
  ·by_cases hb:b=a
   ·exact hb
   ·exact absurd (if_neg hb) z
noncomputable abbrev KOf {K:DO} {h:Heap} (_:K.In h):DO:=K
theorem Zgh {l:PySem.W.OpenLaw} {n k:Nat} {q:Program} {loose:D2} {XP:D4->Heap->Prop} {YP:World->Heap->Prop} {d:DefRec} {K:Params->DO} {CX:World->f8} {sp:World->Sp} {x:Str}
  (hn:l.most=some n) (hn2:n<=sizeLine) (hdf:d.params.defaults=[]) (hr:Room k callerA)
  (hY:∀ (w:World) (h:Heap),YP w h->(K w.params).In h)
  (F:∀ (w:World) (mg:D4) (fa:Addr) (h:Heap),(K w.params).In h->h.Ns mainGlobals mg->mg d.name=some (.ref fa) ->
   ∃ fd:FuncData,(∀ (s:Shared) (u:Value),BindsTo s fd ⟨[u],[]⟩ [(x,u)]) /\
    ∀ base:Heap,(K w.params).In base->base.Ns mainGlobals mg->FnOk l.prog w (K w.params) mg base (CX w) k fa fd [x] (sp w))
  (hsp:∀ (w:World) (H:Hp) (a:Addr) (ns:DZ),ns.length<=n->v8 H->SqL (K w.params) H a (ns.map V.int)->sp w [.ref a] H (λv _=>v=.bl true) λ_ _ _=>False)
  (hCX:∀ (w:World) (H:Hp) (s:Shared) (e:Value) (s':Shared),CX w [] H s (λ_ _ _=>False) e s'->False) :
  PySem.W.WalkO q loose XP YP l.row.toRowW d [] (λf vs=>PySem.call f vs):=by
 refine Att.attach_call hn hdf λw s₀ s₁ mg mb fa o pm cd doc a vs ns G Y ho hd hcd hmg hobj hints hlen hg=>?_
 have KX:=hY w _ Y
 obtain ⟨fd,hb,hF⟩:=F w mg fa _ KX G.T.g hmg
 exact Zj5 KX G.T.g G.T.b G.T.builtins G.T.nolimit G.T.nodigits hg hobj hints (AL hlen hn2) hr hF hb (λH hO hS=>hsp w H a ns hlen hO hS) λH e s'=>hCX w H s₁ e s'
theorem Zgg {l:PySem.W.OpenLaw} {n k:Nat} {q:Program} {loose:D2} {XP:D4->Heap->Prop} {YP:World->Heap->Prop} {d:DefRec} {K:Params->DO} {CX:f8} {sp:DO->Sp} {x:Str}
  (hn:l.most=some n) (hn2:n<=sizeLine) (hdf:d.params.defaults=[]) (hr:Room k callerA)
  (hY:∀ (w:World) (h:Heap),YP w h->(K w.params).In h)
  (F:∀ (w:World) (mg:D4) (fa:Addr) (h:Heap),(K w.params).In h->h.Ns mainGlobals mg->mg d.name=some (.ref fa) ->
   ∃ fd:FuncData,(∀ (s:Shared) (u:Value),BindsTo s fd ⟨[u],[]⟩ [(x,u)]) /\
    ∀ base:Heap,(K w.params).In base->base.Ns mainGlobals mg->FnOk l.prog w (K w.params) mg base CX k fa fd [x] (sp (K w.params)))
  (hsp:∀ (K:DO) (H:Hp) (a:Addr) (ns:DZ),ns.length<=n->v8 H->SqL K H a (ns.map V.int)->sp K [.ref a] H (λv _=>v=.bl true) λ_ _ _=>False)
  (hCX:∀ (H:Hp) (s:Shared) (e:Value) (s':Shared),CX [] H s (λ_ _ _=>False) e s'->False) :
  PySem.W.WalkO q loose XP YP l.row.toRowW d [] (λf vs=>PySem.call f vs) :=
 Zgh (K:=K) (CX:=λ_=>CX) (sp:=λw=>sp (K w.params)) hn hn2 hdf hr hY F (λw H a ns h1 h2 h3=>hsp (K w.params) H a ns h1 h2 h3) λ_ H s e s'=>hCX H s e s'
noncomputable def lB (s:Stmt):Arguments:=match s with
 | .FunctionDef _ a _ _ _ _ _ _ _ _=>a
 | _=>{ posonlyargs:=[],args:=[],vararg:=none,kwonlyargs:=[],kw_defaults:=[],kwarg:=none,defaults:=[] }
noncomputable def iF (s:Stmt):List Stmt:=match s with
 | .FunctionDef _ _ b _ _ _ _ _ _ _=>b
 | _=>[]
noncomputable def aP (s:Stmt):Scope:=match s with
 | .FunctionDef _ _ _ _ _ _ sc _ _ _=>sc
 | _=>{ kind:=.function,names:=[],isGenerator:=false,isCoroutine:=false }
noncomputable abbrev jA:f8:=λ_ _ _ _ _ _=>False
noncomputable abbrev E0:XK:=λ_ _ _=>False
theorem Zi1 {X:Cx}:Am jA X E0:=λ_ _ _ _ _ _ _ h=>h.elim
structure Fun (K:DO) (x qual:Str) (st:Stmt) (f:Addr) (fd:FuncData):Prop where
 ex:∃ (oc:Value) (od:Option Addr) (kV doc pm:Value) (an:Option Addr) (cdv ct:Value) (osl:Array (Option Value)),
  fd=PySem.W.fnOf x qual (lB st) (iF st) (aP st) .none kV doc pm an cdv ct/\K.lookup f=some ⟨oc,od,.func fd,osl⟩/\PySem.W.codeIn K cdv qual=true
 kp:PySem.W.keepIn K (.ref f)=true
section
variable {P:Program} {w:World} {K:DO} {mg:D4} {base:Heap}
theorem Fun.ok {x qual:Str} {st:Stmt} {f:Addr} {fd:FuncData} {N ps:D2} {k:Nat} {sp:Sp} (F:Fun K x qual st f fd) (S:FnScope N ps (aP st)) (len:∀ vs H Q E,sp vs H Q E->vs.length=ps.length)
  (hbody:∀ (cdv:Value) (A:Around) (outer:List Env) (s:Shared) (H:Hp) (vs:D3) (Q:VK) (E:XK),Room k (A.deeper (envOfC qual (aP st) s.heap.objs.size f cdv))->sp vs H Q E ->
   ∃ t,PSs (jp jA P w K mg base N qual (aP st) f cdv A outer s H E).nox (iF st) t/\t { nx:=λ_ H'=>Q .non H',rt:=Q } (start N vs) H):FnOk P w K mg base jA (k+1) f fd ps sp:=by
 obtain ⟨oc,od,kV,doc,pm,an,cdv,ct,osl,rfl,lk,hcd⟩:=F.ex
 refine Zk1 lk hcd S len λA outer s H vs Q E hr hsp=>?_
 obtain ⟨t,h,q⟩:=hbody cdv A outer s H vs Q E hr hsp
 exact ⟨t,h.nox,q⟩
theorem Fun.binds {x qual:Str} {st:Stmt} {f:Addr} {fd:FuncData} {ps:D2} (F:Fun K x qual st f fd)
  (h:∀ (kV doc pm:Value) (an:Option Addr) (cdv ct:Value) (us:D1),us.length=ps.length->bindArgs (PySem.W.fnOf x qual (lB st) (iF st) (aP st) .none kV doc pm an cdv ct) ⟨us,[]⟩=pure (ps.zip us)):Binds K fd ps []:=by
 obtain ⟨oc,od,kV,doc,pm,an,cdv,ct,osl,rfl,lk,hcd⟩:=F.ex
 exact .all (h kV doc pm an cdv ct)
theorem ZkX {x qual:Str} {st:Stmt} {f:Addr} {oc:Value} {od an:Option Addr} {osl:Array (Option Value)} {kV doc pm cdv ct:Value} (l:K.lookup f=some ⟨oc,od,.func (PySem.W.fnOf x qual (lB st) (iF st) (aP st) .none kV doc pm an cdv ct),osl⟩)
  (c:PySem.W.codeIn K cdv qual=true) (k:PySem.W.keepIn K (.ref f)=true):Fun K x qual st f (PySem.W.fnOf x qual (lB st) (iF st) (aP st) .none kV doc pm an cdv ct):=⟨⟨oc,od,kV,doc,pm,an,cdv,ct,osl,rfl,l,c⟩,k⟩
end
theorem fR {A:Around} {k:Nat} (hr:Room k A):A.units+1 < cLine:=By (Nat.add_le_add_left (by decide:1<=64) _) hr.units
section
variable {X:Cx}
theorem pv (i:Nat) {x:Str} {pos:Pos} (hN:X.N[i]?=some x:=by rfl) (hv:vZ X.env.scope x:=by first | exact Or.inl rfl | exact Or.inr (.inl rfl) | exact Or.inr (.inr rfl)) (hd:(x == ("__debug__":Str))=false:=by decide)
  (hcd:(x == ("__classdict__":Str))=false:=by decide):PE X (.Name x pos) (gI i):=ZiK hN hv hd hcd
end
theorem qt {c A B:Prop} [Decidable c] (h1:c->A) (h2:¬ c->B):if c then A else B:=by
 by_cases h:c
 ·rw [if_pos h]
  exact h1 h
 ·rw [if_neg h]
  exact h2 h
def Same (H H':Hp):Prop:=∀ b o,H b=some o->H' b=some o
theorem Same.refl (H:Hp):Same H H:=λ_ _ h=>h
theorem Same.free {H H':Hp} (e:Same H H') {l:Addr} (h:H' l=Option.none):H l=Option.none:=by
 cases q:H l with
 | none=>rfl
 | some o =>
  rw [e l o q] at h
  cases h
structure Blk where
 cl:List (Str×Addr)
 C:Addr
 s:Shared
 H:Hp
 fp:List Addr
 pn:List (Addr×Obj)
noncomputable def aW (X:Cx) (N:D2) (scope:Scope) (b:Blk):Cx where
 prog:=X.prog
 w:=X.w
 K:=X.K
 mg:=X.mg
 base:=X.base
 A:=X.A
 N:=N
 s₀:=b.s
 H₀:=b.H
 env:=compEnvC scope b.cl b.C X.env
 outer:=X.stack
 stack:=X.stack
 ex:=b.fp
 fn:=λx=>scope.names.lookup x == some .cell
 calm:=X.calm
 pn:=b.pn
 xe:=λ_ _=>False
def bN (Nx ts:D2) (ix:List Nat):D2:=ts++ix.map λj=>(Nx[j]?).getD Str.empty
noncomputable def dc (n:Nat) (ix:List Nat) (σ:St):St:=List.replicate n none++ix.map λj=>(σ[j]?).getD none
structure BlkOk (Nx:D2) (sc scope:Scope) (ix:List Nat):Prop where
 kind:scope.kind=.function
 cells:∀ y∈scope.names,y.2=.cell->scope.names.lookup y.1=some .cell
 locs:∀ y∈scope.names,y.2=.local->scope.names.lookup y.1=some .local
 frees:∀ y∈scope.names,y.2=.free->sc.names.lookup y.1=some .cell\/sc.names.lookup y.1=some .free
 caps:∀ j∈ix,j < Nx.length/\scope.names.lookup ((Nx[j]?).getD Str.empty)=some .free
theorem yS {env:Env} {f:Str×NameKind->List (Str×Addr)->Sem (ForInStep (List (Str×Addr)))}
  (h1:∀ n k r,k≠NameKind.free->f (n,k) r=pure (.yield r)) (h2:∀ n r c,env.cells.lookup n=some c->f (n,NameKind.free) r=pure (.yield ((n,c)::r))) :
  ∀ (names:List (Str×NameKind)) (acc:List (Str×Addr)),(∀ y∈names,y.2=.free->∃ c,env.cells.lookup y.1=some c)->(∀ x c,acc.lookup x=some c->env.cells.lookup x=some c) ->
   ∃ cl,forIn names acc f=pure cl/\(∀ x c,cl.lookup x=some c->env.cells.lookup x=some c)/\(∀ y∈names,y.2=.free->∃ c,cl.lookup y.1=some c)/\∀ x c,acc.lookup x=some c->∃ c',cl.lookup x=some c'
 | [],acc,_,ha=>⟨acc,rfl,ha,(λ_ h=>nomatch h),λx c h=>⟨c,h⟩⟩
 | (n,k)::names,acc,hn,ha=>by
  have hn':∀ y∈names,y.2=.free->∃ c,env.cells.lookup y.1=some c:=λy hy=>hn y (Az _ hy)
  by_cases hk:k=.free
  ·subst hk
   obtain ⟨c,hc⟩:=hn (n,.free) AB rfl
   have ha':∀ x d,((n,c)::acc).lookup x=some d->env.cells.lookup x=some d:=λx d e=>by
    rw [A8] at e
    cases hx:x == n with
    | true =>
     rw [hx] at e
     have hxn:x=n:=by simpa using hx
     subst hxn
     cases e
     exact hc
    | false =>
     rw [hx] at e
     exact ha x d e
   obtain ⟨cl,e,p1,p2,p3⟩:=yS h1 h2 names ((n,c)::acc) hn' ha'
   refine ⟨cl,?_,p1,λy hy hf=>?_,λx d hx=>?_⟩
   ·rw [C2,h2 n acc c hc,pure_bind]
    exact e
   ·rcases AO.mp hy with rfl | hy
    ·exact p3 n c (by simp)
    ·exact p2 y hy hf
   ·by_cases e1:x=n
    ·subst e1
     exact p3 x c (by simp)
    ·exact p3 x d (by rw [A8,beq_false_of_ne e1]; exact hx)
  ·obtain ⟨cl,e,p1,p2,p3⟩:=yS h1 h2 names acc hn' ha
   refine ⟨cl,?_,p1,λy hy hf=>?_,p3⟩
   ·rw [C2,h1 n k acc hk,pure_bind]
    exact e
   ·rcases AO.mp hy with rfl | hy
    ·exact absurd hf hk
    ·exact p2 y hy hf
theorem j6 {scope:Scope} {env:Env} (hn:∀ y∈scope.names,y.2=.free->∃ c,env.cells.lookup y.1=some c) :
  ∃ cl,closureFor scope env=pure cl/\(∀ x c,cl.lookup x=some c->env.cells.lookup x=some c)/\∀ y∈scope.names,y.2=.free->∃ c,cl.lookup y.1=some c:=by
 unfold closureFor
 have key:=yS (env:=env) (f:=λ(x:Str×NameKind) (r:List (Str×Addr))=>match x with
  | (name,kind)=>if (kind == NameKind.free)=true then (do let a <- cellOf env name; pure (ForInStep.yield ((name,a)::r))) else pure (ForInStep.yield r))
  (λn k r hk=>by
   have hb:(k == NameKind.free)=false:=by simpa using hk
   show (if (k == NameKind.free)=true then _ else _)=_
   rw [hb]
   rfl)
  (λn r c hc=>by
   show (do let a <- cellOf env n; pure (ForInStep.yield ((n,a)::r)))=_
   unfold cellOf
   rw [hc]
   rfl) scope.names [] hn (λx c h=>by simp at h)
 obtain ⟨cl,e,p1,p2,_⟩:=key
 refine ⟨cl,?_,p1,p2⟩
 show (forIn scope.names [] _ >>= λr=>pure r)=pure cl
 exact (congrArg (λt=>t >>= λr=>pure r) e).trans (pure_bind _ _)
section
variable {X:Cx} {pins:List (Addr×Obj)} {σ:St} {H:Hp} {s:Shared}
theorem ZbU {scope:Scope} {env:Env} {x:Str} (h:scope.names.lookup x=some .free):(relabel scope env).names.lookup x=some .cell\/(relabel scope env).names.lookup x=some .free:=by
 unfold relabel
 show List.lookup x (scope.names.map _)=_\/List.lookup x (scope.names.map _)=_
 generalize scope.names=l at h
 induction l with
 | nil=>simp at h
 | cons p r ih =>
  obtain ⟨n,k⟩:=p
  rw [Ax]
  cases hx:x == n with
  | true =>
   rw [A8,hx] at h
   have hk:k=.free:=by simpa using h
   subst hk
   by_cases hc:(NameKind.free == NameKind.free && env.scope.kind == .function && env.kindOf n == some .cell)=true
   ·refine .inl ?_
    show List.lookup x ((if (NameKind.free == NameKind.free && env.scope.kind == .function && env.kindOf n == some .cell)=true then (n,NameKind.cell) else (n,NameKind.free))::_)=_
    rw [if_pos hc,A8,hx]
   ·refine .inr ?_
    show List.lookup x ((if (NameKind.free == NameKind.free && env.scope.kind == .function && env.kindOf n == some .cell)=true then (n,NameKind.cell) else (n,NameKind.free))::_)=_
    rw [if_neg hc,A8,hx]
  | false =>
   rw [A8,hx] at h
   have key:∀ q:Str×NameKind,(q=(n,NameKind.cell)\/q=(n,k))->∀ l',List.lookup x (q::l')=List.lookup x l':=λq hq l'=>by
    rcases hq with rfl | rfl <;> rw [A8,hx]
   have hq:(if (k == NameKind.free && env.scope.kind == .function && env.kindOf n == some .cell)=true then (n,NameKind.cell) else (n,k))=(n,NameKind.cell)\/(if (k == NameKind.free && env.scope.kind == .function && env.kindOf n == some .cell)=true then (n,NameKind.cell) else (n,k))=(n,k):=by
    split
    ·exact .inl rfl
    ·exact .inr rfl
   rcases ih h with z | z
   ·exact .inl ((key _ hq _).trans z)
   ·exact .inr ((key _ hq _).trans z)
theorem Zib {scope:Scope} {env:Env} {x:Str} (h:(relabel scope env).names.lookup x=some .cell\/(relabel scope env).names.lookup x=some .free):∃ y∈scope.names,y.1=x/\(y.2=.free\/y.2=.cell):=by
 unfold relabel at h
 have h':List.lookup x (scope.names.map λ(n,k)=>if (k == .free && env.scope.kind == .function && env.kindOf n == some .cell) then (n,NameKind.cell) else (n,k))=some .cell\/List.lookup x (scope.names.map λ(n,k)=>if (k == .free && env.scope.kind == .function && env.kindOf n == some .cell) then (n,NameKind.cell) else (n,k))=some .free:=h
 clear h
 generalize scope.names=l at h'
 induction l with
 | nil=>simp at h'
 | cons p r ih =>
  obtain ⟨n,k⟩:=p
  rw [Ax] at h'
  cases hx:x == n with
  | true =>
   have hxn:x=n:=by simpa using hx
   by_cases hk:k=.free
   ·exact ⟨(n,k),AB,hxn.symm,.inl hk⟩
   ·
    have hb:(k == NameKind.free)=false:=by simpa using hk
    have e:(if (k == NameKind.free && env.scope.kind == .function && env.kindOf n == some .cell)=true then (n,NameKind.cell) else (n,k))=(n,k):=by
     rw [hb]
     rfl
    have h2:List.lookup x ((n,k)::r.map λ(n,k)=>if (k == .free && env.scope.kind == .function && env.kindOf n == some .cell) then (n,NameKind.cell) else (n,k))=some .cell\/List.lookup x ((n,k)::r.map λ(n,k)=>if (k == .free && env.scope.kind == .function && env.kindOf n == some .cell) then (n,NameKind.cell) else (n,k))=some .free:=by
     rw [<- e]
     exact h'
    rw [A8,hx] at h2
    rcases h2 with z | z
    ·exact ⟨(n,k),AB,hxn.symm,.inr (A9 z)⟩
    ·exact absurd (A9 z) hk
  | false =>
   have hq:∀ q:Str×NameKind,(q=(n,NameKind.cell)\/q=(n,k))->∀ l',List.lookup x (q::l')=List.lookup x l':=λq hq l'=>by
    rcases hq with rfl | rfl <;> rw [A8,hx]
   have hqq:(if (k == NameKind.free && env.scope.kind == .function && env.kindOf n == some .cell)=true then (n,NameKind.cell) else (n,k))=(n,NameKind.cell)\/(if (k == NameKind.free && env.scope.kind == .function && env.kindOf n == some .cell)=true then (n,NameKind.cell) else (n,k))=(n,k):=by
    split
    ·exact .inl rfl
    ·exact .inr rfl
   obtain ⟨y,hy,e⟩:=ih (by
    rcases h' with z | z
    ·exact .inl ((hq _ hqq _).symm.trans z)
    ·exact .inr ((hq _ hqq _).symm.trans z))
   exact ⟨y,Az _ hy,e⟩
theorem vF:∀ (names:List (Str×NameKind)) (h:Heap) (acc:List (Str×Addr)),
  (∀ x c,(cellsFrom h.objs.size names acc).lookup x=some c->acc.lookup x=some c\/(h.objs.size<=c/\(pushCells h names).IsCell c none/\(x,NameKind.cell)∈names)) /\
  (∀ x,((x,NameKind.cell)∈names\/∃ c,acc.lookup x=some c)->∃ c,(cellsFrom h.objs.size names acc).lookup x=some c) /\
  (∀ x c,(x,NameKind.cell)∈names->(cellsFrom h.objs.size names acc).lookup x=some c->h.objs.size<=c) /\
  ((∀ x c,acc.lookup x=some c->c < h.objs.size)->(∀ x y c,acc.lookup x=some c->acc.lookup y=some c->x=y)->∀ x y c,(cellsFrom h.objs.size names acc).lookup x=some c->(cellsFrom h.objs.size names acc).lookup y=some c->x=y):=by
 intro names
 induction names with
 | nil=>intro h acc; exact ⟨λx c e=>.inl e,λx e=>by rcases e with e | e; cases e; exact e,λx c e=>(by cases e),λ_ i=>i⟩
 | cons p r ih =>
  obtain ⟨name,kind⟩:=p
  intro h acc
  unfold cellsFrom pushCells
  by_cases hk:kind=.cell
  ·subst hk
   have hk':((NameKind.cell == NameKind.cell)=true):=rfl
   rw [if_pos hk',if_pos hk']
   have ih':=ih (h.push { cls:=.type "cell",data:=.cell none }) ((name,h.objs.size)::acc)
   rw [Bk] at ih'
   obtain ⟨i1,i2,i4,i3⟩:=ih'
   refine ⟨λx c e=>?_,λx e=>?_,λx c e1 e2=>?_,λhb hi=>i3 (λx c e=>?_) λx y c e1 e2=>?_⟩
   ·rcases i1 x c e with z | ⟨z1,z2,z3⟩
    ·rw [A8] at z
     cases hx:x == name with
     | true =>
      rw [hx] at z
      have hxn:x=name:=by simpa using hx
      cases z
      exact .inr ⟨Aw _,⟨_,pushCells_keeps _ _ _ _ (AC _ rfl),rfl⟩,by rw [hxn]; exact AB⟩
     | false=>rw [hx] at z; exact .inl z
    ·exact .inr ⟨by omega,z2,Az _ z3⟩
   ·refine i2 x ?_
    by_cases hx:x=name
    ·exact .inr ⟨h.objs.size,by rw [A8,hx]; simp⟩
    ·rcases e with e | ⟨c,e⟩
     ·rcases AO.mp e with q | q
      ·exact absurd (congrArg Prod.fst q) hx
      ·exact .inl q
     ·exact .inr ⟨c,by rw [A8,beq_false_of_ne hx]; exact e⟩
   ·rcases i1 x c e2 with z | ⟨z,_,_⟩
    ·rw [A8] at z
     cases hx:x == name with
     | true=>rw [hx] at z; cases z; exact Aw _
     | false =>
      have hxn:x≠name:=by simpa using hx
      rcases AO.mp e1 with q | q
      ·exact absurd (congrArg Prod.fst q) hxn
      ·exact Ch (i4 x c q e2)
    ·exact Ch z
   ·rw [A8] at e
    cases hx:x == name with
    | true=>rw [hx] at e; cases e; exact Nat.lt_succ_self _
    | false=>rw [hx] at e; exact B3 (hb x c e)
   ·rw [A8] at e1 e2
    cases hx:x == name with
    | true =>
     have hxn:x=name:=by simpa using hx
     rw [hx] at e1
     cases e1
     cases hy:y == name with
     | true =>
      have hyn:y=name:=by simpa using hy
      rw [hxn,hyn]
     | false=>rw [hy] at e2; exact absurd (hb y _ e2) (AY _)
    | false =>
     rw [hx] at e1
     cases hy:y == name with
     | true=>rw [hy] at e2; cases e2; exact absurd (hb x _ e1) (AY _)
     | false=>rw [hy] at e2; exact hi x y c e1 e2
  ·have hk':¬ ((kind == NameKind.cell)=true):=by simpa using hk
   rw [if_neg hk',if_neg hk']
   obtain ⟨i1,i2,i4,i3⟩:=ih h acc
   refine ⟨λx c e=>?_,λx e=>i2 x ?_,λx c e1 e2=>?_,i3⟩
   ·rcases i1 x c e with z | ⟨z1,z2,z3⟩
    ·exact .inl z
    ·exact .inr ⟨z1,z2,Az _ z3⟩
   ·rcases e with e | e
    ·rcases AO.mp e with q | q
     ·exact absurd (congrArg Prod.snd q).symm hk
     ·exact .inl q
    ·exact .inr e
   ·rcases AO.mp e1 with q | q
    ·exact absurd (congrArg Prod.snd q).symm hk
    ·exact i4 x c q e2
theorem oa {M:Model} {A:Around} {E:DX} {s:Shared} {scope:Scope} {globals:Addr} {cl:List (Str×Addr)} {qual:Str} {outer:Env} {Q:Env->Shared->Prop}
  (h:Q { scope:=scope,locals:=s.heap.objs.size,globals:=globals,cells:=cellsFrom (s.heap.objs.size+1) scope.names cl,qual:=qual,func:=none,code:=outer.code,frame:=outer.frame,builtins:=outer.builtins } { s with heap:=pushCells (s.heap.push { cls:=.type "dict",data:=.dict #[] }) scope.names }) :
  wpAny M A (newFunctionEnv scope globals cl [] qual none .none (some outer)) Q E s:=by
 simp only [newFunctionEnv,Dc,if_true]
 refine wpAny_bind (wpAny_alloc ?_)
 refine wpAny_bind (wpAny_layCells _ (λname kind cells=>by cases hkc:kind == NameKind.cell <;> simp [hkc]) _ _ _ _ ?_)
 rw [show ({ s with heap:=s.heap.push { cls:=.type "dict",data:=.dict #[] } }:Shared).heap.objs.size=s.heap.objs.size+1 from Bk ..]
 rw [DG]
 exact wpAny_bind (wpAny_pure (wpAny_pure h))
theorem Znr {Nx ts:D2} {ix:List Nat} {i:Nat} {x:Str} (h:(bN Nx ts ix)[i]?=some x) (hi:ts.length<=i):∃ j,ix[i - ts.length]?=some j/\x=(Nx[j]?).getD Str.empty:=by
 unfold bN at h
 rw [A5 hi,AM] at h
 cases e:ix[i - ts.length]? with
 | none=>rw [e] at h; cases h
 | some j=>rw [e] at h; exact ⟨j,rfl,(A9 h).symm⟩
theorem qw {scope:Scope} {cl:List (Str×Addr)} {fp:List Addr} {C:Addr} {h3:Heap} {tk:Nat} {m:D4} {Nx ts:D2} {ix:List Nat}
  (I:Inv X pins σ H s) (hNx:X.N=Nx) (ok:BlkOk Nx X.env.scope scope ix) (cs1:∀ x c,cl.lookup x=some c->X.env.cells.lookup x=some c\/(C < c/\h3.IsCell c none/\(x,NameKind.cell)∈scope.names)) (csI:∀ x y c,cl.lookup x=some c->cl.lookup y=some c->x=y) (cl2:∀ y∈scope.names,(y.2=.free\/y.2=.cell)->∃ c,cl.lookup y.1=some c) (csA:∀ x c,(x,NameKind.cell)∈scope.names->cl.lookup x=some c->C<=c)
  (hf:∀ b∈fp,fL X pins H b) (hfs:∀ b∈fp,b < s.heap.objs.size) (hC:s.heap.objs.size<=C) (kp:∀ b o,s.heap.get? b=some o->h3.get? b=some o) (hns:h3.Ns C m) :
  Inv (aW X (bN Nx ts ix) scope ⟨cl,C,s,H,fp,X.pn++pins⟩) [] (dc ts.length ix σ) H { s with heap:=h3,toks:=tk }:=by
 have below:∀ {b:Addr},b < s.heap.objs.size->b≠C:=λhb=>AR (AD hb hC)
 have nstk:∀ b,b≠X.env.locals->b ∉ X.fs->b ∉ frs X.stack:=λb h1 h2 hb=>by
  rcases AO.mp (I.stkSub b hb) with z | z
  ·exact h1 z
  ·exact h2 z
 refine ⟨⟨I.ok.mod,?_,I.ok.glob,I.ok.blt,hC,csI,λx hx=>?_,λx c hfn e=>AL hC (csA x c (BC (eq_of_beq hfn)) e),I.ok.hd,I.ok.frames,.inl rfl,λb hb=>⟨below (hfs b hb),λx c e=>by
  rcases cs1 x c e with z | ⟨z,_,_⟩
  ·exact (hf b hb).2.2.2.2.1 x c z
  ·exact A6 (AD (hfs b hb) (AL hC (B6 z)))⟩,I.bs,AL I.ok.bsz I.sz,λb o e hb=>?_,λb hb=>nstk b (hf b hb).2.1 (hf b hb).2.2.1,I.stack,I.stkFree⟩,
  rfl,I.bare,Un.kept kp,⟨m,hns,λi x v h1 h2 h3'=>?_⟩,λx c e=>?_,I.hok.fresh hC,λx c e=>by
  rcases cs1 x c e with z | ⟨z,_,_⟩
  ·exact I.freeC x c z
  ·exact I.hok.fresh (AL hC (B6 z)),λp hp=>?_,I.hok.kept kp,?_⟩
 ·exact ok.kind
 ·have hx':(relabel scope X.env).names.lookup x=some .cell\/(relabel scope X.env).names.lookup x=some .free:=hx
  obtain ⟨y,hy,e1,e2⟩:=Zib hx'
  obtain ⟨c,hc⟩:=cl2 y hy e2
  exact ⟨c,by rw [<- e1]; exact hc⟩
 ·rcases (hf b hb).2.2.2.1 with z | z
  ·exact I.ok.noex b o e z
  ·exact absurd (AD (AK e) (AL I.ok.bsz z)) (AY _)
 ·have hi:ts.length<=i:=by
   rcases Nat.lt_or_ge i ts.length with z | z
   ·exfalso
    have h2':(dc ts.length ix σ)[i]?=some (some v):=h2
    unfold dc at h2'
    rw [AW (by simpa using z),Bb] at h2'
    split at h2' <;> cases h2'
   ·exact z
  obtain ⟨j,hj,ex⟩:=Znr h1 hi
  have h2':(dc ts.length ix σ)[i]?=some (some v):=h2
  unfold dc at h2'
  rw [A5 (by simpa using hi),AM,CF,hj] at h2'
  have hσ:σ[j]?=some (some v):=by
   have q:(σ[j]?).getD none=some v:=A9 h2'
   cases e:σ[j]? with
   | none=>rw [e] at q; cases q
   | some w=>rw [e] at q; exact congrArg some q
  obtain ⟨hjl,hfree⟩:=ok.caps j (Bj hj)
  have hNj:X.N[j]?=some x:=by
   rw [hNx,ex,As hjl]
   rfl
  rw [<- ex] at hfree
  obtain ⟨c,hc⟩:=cl2 (x,.free) (BC hfree) (.inl rfl)
  have cl1:X.env.cells.lookup x=some c:=by
   rcases cs1 x c hc with z | ⟨_,_,z⟩
   ·exact z
   ·have:=ok.cells _ z rfl
    rw [hfree] at this
    cases this
  have kx:=ok.frees (x,.free) (BC hfree) rfl
  obtain ⟨m0,hn0,hl0⟩:=I.loc
  obtain ⟨u,ru,look⟩:=hl0 j x v hNj hσ (by rcases kx with z | z; exact .inr (.inl z); exact .inr (.inr z))
  refine ⟨u,ru,.inr ⟨ZbU hfree,c,hc,?_⟩⟩
  rcases look with ⟨k1,_⟩ | ⟨_,c',hc',z⟩
  ·have k1':X.env.scope.names.lookup x=some .local:=k1
   rcases kx with z | z
   ·rw [k1'] at z; cases z
   ·rw [k1'] at z; cases z
  ·have e:=cl1
   rw [hc'] at e
   cases e
   obtain ⟨o,ho,hd⟩:=z
   exact ⟨o,kp _ _ ho,hd⟩
 ·rcases cs1 x c e with z | ⟨_,z,_⟩
  ·obtain ⟨v,o,ho,hd⟩:=I.cell x c z
   exact ⟨v,o,kp _ _ ho,hd⟩
  ·exact ⟨_,z⟩
 ·have hp':p∈X.pn++pins:=by simpa [aW] using hp
  obtain ⟨e,n,ne,nf,d⟩:=I.pin p hp'
  exact ⟨kp _ _ e,n,below (AK e),nstk _ ne nf,d⟩
 ·show (dc ts.length ix σ).length=(bN Nx ts ix).length
  unfold dc bN
  simp
theorem Inv.track {D:Addr} {ys:D3} {its:D1} {n:Nat} (I:Inv X pins σ H s) (hD:H D=none) (ho:s.heap.get? D=some { cls:=.type "list",data:=.seq its.toArray n }) (r:Vals ys its) (hz:ys.length<=sizeLine)
  (hL:D≠X.env.locals) (hs0:X.s₀.heap.objs.size<=D) (hc:∀ x c,X.env.cells.lookup x=some c->c≠D) (hp:∀ p∈X.pn++pins,p.1≠D):Inv X pins σ (upd H D (.lst ys)) s:=by
 have ne:∀ {b:Addr} {o:HO},H b=some o->b≠D:=λe=>dm e hD
 refine I.step (g':=s.gens) (d':=s.drawn) (t':=s.toks) (h':=s.heap) (ch:=[D]) (λb hb=>?_) (λb o _ _ _ e _=>e) (λb o _ _ _ e _=>⟨o.slots,e⟩) (λb o hb e n=>?_) (λb o _ e=>⟨o,e⟩)
  (λb xs e=>by rw [aM (ne e)]; exact e) (λb o u e=>by rw [aM (ne e)]; exact e) (λb ps e=>⟨#[],by rw [aM (ne e),e]; simp⟩) (λm hm=>hm) (λb u e=>?_) I.bare
 ·have e:b=D:=by simpa using hb
  subst e
  exact ⟨.inr hs0,hL,hc,hp⟩
 ·have hb':b≠D:=by simpa using hb
  rw [aM hb']
  exact n
 ·by_cases hb:b=D
  ·subst hb
   rw [bY] at e
   cases e
   exact ⟨hz,its,n,r,ho⟩
  ·rw [aM hb] at e
   exact (I.hok b u e).stay (λc v _ q=>q) (λc q=>by rw [aM (ne q)]; exact q) (λc xs q=>by rw [aM (ne q)]; exact q) λc ob xs _ q _=>by rw [aM (ne q)]; exact q
end
theorem ZmH {prog:Program} {w:World} {A:Around} {R:Result->Shared->Prop} {s:Shared} {elt target iter:Expr} {scope:Scope} {pos:Pos} {it acc:Value} {env:Env} (J:Nat->Shared->Prop)
  (step:∀ k s0,J k s0->wpAny (model prog w) A (pyNext it) (λgot s1=>match got with
   | none=>R (.ok .next) s1
   | some v=>wpAny (model prog w) A (letOwnedTupleGo target it v) (λ_ s2=>wpAny (model prog w) A (assign target env v) (λ_ s3=>wpAny (model prog w) A (eval elt env) (λy s4 =>
     wpAny (model prog w) A (call (.builtin "list.append") [acc,y]) (λ_ s5=>∃ j,j < k/\J j s5) (λ_ _=>False) s4) (λ_ _=>False) s3) (λ_ _=>False) s2) (λ_ _=>False) s1) (λ_ _=>False) s0)
  (k:Nat) (h:J k s):codeAny (model prog w) A (.compLoop (.ListComp elt [⟨target,iter,[],0⟩] scope pos) 0 it acc env) R s:=by
 refine codeAny_loop rfl J (λk0 s0 hJ=>?_) k h
 show wpAny _ _ ((compTurn (.ListComp elt [⟨target,iter,[],0⟩] scope pos) 0 it acc env).onRaise (λx=>do noteFrame x env; theTreesLotGoes x)) _ _ s0
 apply wpAny_noted
 rw [compTurn_list1]
 refine wpAny_bind (wpAny_standAt (wpAny_bind (wpAny_mono (step k0 s0 hJ) (λgot s1 h1=>?_) λ_ _ z=>z.elim)))
 cases got with
 | none=>exact wpAny_pure h1
 | some v =>
  refine wpAny_bind (wpAny_mono h1 (λ_ s2 h2=>?_) λ_ _ z=>z.elim)
  refine wpAny_bind (wpAny_mono h2 (λ_ s3 h3=>?_) λ_ _ z=>z.elim)
  refine wpAny_bind (wpAny_bind (wpAny_mono h3 (λy s4 h4=>?_) λ_ _ z=>z.elim))
  exact wpAny_bind (wpAny_mono h4 (λ_ s5 h5=>wpAny_pure (wpAny_pure ⟨rfl,h5⟩)) λ_ _ z=>z.elim)
def iP (wi:TI) (n:Nat) (ix:List Nat) (g:Blk->TG) (te:Blk->TE):TE:=λσ H Q=>wi σ H λJ H1=>∀ b:Blk,∃ W:Nat->Nat->St->List V->Hp->Prop,(∃ m,W 0 m (dc n ix σ) [] H1)/\∀ i m τ ys H2,W i m τ ys H2 ->
 (J.stop i H2/\∀ p v H',H2 p=none->v=V.ref p->H'=upd H2 p (.lst ys)->Q v H') \/
 (J.go i H2/\ys.length < sizeLine/\∀ x H3,J.yld i H2 x H3->g b x τ H3 λτ2 H4=>te b τ2 H4 λy H5=>∃ m',m' < m/\W (i+1) m' τ2 (ys++[y]) H5)
section
variable {X:Cx} {pins:List (Addr×Obj)} {σ:St} {H:Hp} {s:Shared}
theorem Zdx {elt target iter:Expr} {scope:Scope} {pos:Pos} {Nx ts:D2} {ix:List Nat} {g:Blk->TG} {te:Blk->TE} {cl:List (Str×Addr)} {s2:Shared} {itv:Value} {R:Value->Addr->Result->Shared->Prop}
  {E:DX} {Q:VK}
  (hc:X.calm=true) (hg:∀ b,PG (aW X (bN Nx ts ix) scope b) target (g b)) (he:∀ b,PE (aW X (bN Nx ts ix) scope b) elt (te b))
  (hNx:X.N=Nx) (ok:BlkOk Nx X.env.scope scope ix) (cl1:∀ x c,cl.lookup x=some c->X.env.cells.lookup x=some c) (cl2:∀ y∈scope.names,y.2=.free->∃ c,cl.lookup y.1=some c)
  (h2:lV X pins σ target (λJ H1=>∀ b:Blk,∃ W:Nat->Nat->St->List V->Hp->Prop,(∃ m,W 0 m (dc ts.length ix σ) [] H1)/\∀ i m τ ys H2,W i m τ ys H2 ->
   (J.stop i H2/\∀ p v H',H2 p=none->v=V.ref p->H'=upd H2 p (.lst ys)->Q v H') \/
   (J.go i H2/\ys.length < sizeLine/\∀ x H3,J.yld i H2 x H3->g b x τ H3 λτ2 H4=>te b τ2 H4 λy H5=>∃ m',m' < m/\W (i+1) m' τ2 (ys++[y]) H5)) itv s2)
  (hR:∀ (D C:Addr) (H':Hp) (s':Shared) (v:V),Inv X pins σ H' s'->v=.ref D->Q v H'->(∃ m,s'.heap.Ns C m)->H' C=none->C≠X.env.locals->X.s₀.heap.objs.size<=C->(∀ x c,X.env.cells.lookup x=some c->c≠C)->(∀ p∈X.pn++pins,p.1≠C) ->
   R (.ref D) C (.ok .next) s') :
  wpAny (model X.prog X.w) X.A (newList []) (λacc s₃=>wpAny (model X.prog X.w) X.A (newFunctionEnv scope X.env.globals cl [] X.env.qual none .none (some X.env)) (λcenv s₄ =>
   codeAny (model X.prog X.w) X.A (.compStart (.ListComp elt [⟨target,iter,[],0⟩] scope pos) 0 itv acc { cenv with scope:=relabel scope X.env }) (R acc cenv.locals) s₄) E s₃) E s2:=by
 obtain ⟨it,fp,tn,J,H1,e,I2,T,st2,f2,q2⟩:=h2
 subst e
 refine wpAny_newObj_type (oa ?_)
 dsimp only
 generalize hG:s2.heap.push { cls:=.type "list",dict:=none,data:=.seq ([]:D1).toArray }=G
 have hGs:G.objs.size=s2.heap.objs.size+1:=by rw [<- hG,Bk]
 have hfs:∀ b∈fp,b < s2.heap.objs.size:=λb hb=>let ⟨o,e,_⟩:=T.obj _ _ st2 b hb; AK e
 have kpG:∀ b o,G.get? b=some o->(pushCells (G.push { cls:=.type "dict",data:=.dict #[] }) scope.names).get? b=some o:=λb o e=>pushCells_keeps _ _ _ _ (v9 _ e)
 have hns3:(pushCells (G.push { cls:=.type "dict",data:=.dict #[] }) scope.names).Ns G.objs.size (λ_=>none):=(Heap.Ns.new G (.type "dict")).keeps (pushCells_keeps _ _)
 obtain ⟨sp1,sp2,sp4,sp3⟩:=vF scope.names (G.push { cls:=.type "dict",data:=.dict #[] }) cl
 rw [Bk] at sp1 sp2 sp3 sp4
 generalize hh3:pushCells (G.push { cls:=.type "dict",data:=.dict #[] }) scope.names=h3 at kpG hns3 sp1 ⊢
 have kp:∀ b o,s2.heap.get? b=some o->h3.get? b=some o:=λb o e=>kpG b o (by rw [<- hG]; exact v9 _ e)
 have hD3:h3.get? s2.heap.objs.size=some { cls:=.type "list",data:=.seq ([]:D1).toArray }:=kpG _ _ (by rw [<- hG]; exact AC _ rfl)
 have clB:∀ x c,cl.lookup x=some c->c < G.objs.size+1:=λx c e=>by
  obtain ⟨v,q⟩:=I2.cell x c (cl1 x c e)
  exact B3 (AD q.lt (by rw [hGs]; exact C9 _))
 have csI:=sp3 clB λx y c e1 e2=>I2.ok.inj x y c (cl1 x c e1) (cl1 y c e2)
 have cs1:∀ x c,(cellsFrom (G.objs.size+1) scope.names cl).lookup x=some c->X.env.cells.lookup x=some c\/(G.objs.size < c/\h3.IsCell c none/\(x,NameKind.cell)∈scope.names):=λx c e=>by
  rcases sp1 x c e with z | ⟨z1,z2,z3⟩
  ·exact .inl (cl1 x c z)
  ·exact .inr ⟨by omega,z2,z3⟩
 have cs2:∀ y∈scope.names,(y.2=.free\/y.2=.cell)->∃ c,(cellsFrom (G.objs.size+1) scope.names cl).lookup y.1=some c:=λy hy hk=>by
  refine sp2 y.1 ?_
  rcases hk with z | z
  ·exact .inr (cl2 y hy z)
  ·exact .inl (by rw [<- z]; exact hy)
 have csA:∀ x c,(x,NameKind.cell)∈scope.names->(cellsFrom (G.objs.size+1) scope.names cl).lookup x=some c->G.objs.size<=c:=λx c e1 e2=>Ch (sp4 x c e1 e2)
 generalize hcs:cellsFrom (G.objs.size+1) scope.names cl=cs at csI cs1 cs2 csA ⊢
 generalize hCe:G.objs.size=C at hns3 cs1 csA ⊢
 have hC:s2.heap.objs.size<=C:=by omega
 have hDC:s2.heap.objs.size≠C:=by omega
 let B:Blk:=⟨cs,C,s2,H1,fp,X.pn++pins⟩
 have I3:Inv (aW X (bN Nx ts ix) scope B) [] (dc ts.length ix σ) H1 { s2 with heap:=h3 }:=qw I2 hNx ok cs1 csI cs2 csA f2 hfs hC kp hns3
 have fC:H1 s2.heap.objs.size=none:=I2.hok.fresh (Aw _)
 have cellIn:∀ x c,cs.lookup x=some c->c≠s2.heap.objs.size:=λx c e=>by
  rcases cs1 x c e with z | ⟨z,_,_⟩
  ·obtain ⟨v,q⟩:=I2.cell x c z
   exact AR q.lt
  ·exact A6 (By hC z)
 have pinIn:∀ p∈X.pn++pins,p.1 < s2.heap.objs.size:=λp hp=>AK (I2.pin p hp).1
 have nofrs:s2.heap.objs.size ∉ frs X.stack:=λhb=>by
  rcases AO.mp (I2.stkSub _ hb) with z | z
  ·exact absurd I2.lt (by rw [<- z]; exact AY _)
  ·exact I2.nofs (Aw _) z
 -- a state with the list at its place,pinned
 have pinD:∀ {τ:St} {H':Hp} {s':Shared} {ob:Obj},Inv (aW X (bN Nx ts ix) scope B) [] τ H' s'->s'.heap.get? s2.heap.objs.size=some ob->H' s2.heap.objs.size=none->(∀ v,ob.data≠.cell v)->Inv (aW X (bN Nx ts ix) scope B) [(s2.heap.objs.size,ob)] τ H' s' :=
  λ{τ H' s' ob} I' ho hn hd=>I'.pins_of λp hp=>by
   have e:p=(s2.heap.objs.size,ob):=by simpa using hp
   subst e
   exact ⟨ho,hn,hDC,nofrs,hd⟩
 obtain ⟨W,⟨m0,w0⟩,turn⟩:=q2 B
 have stat:∀ {H':Hp} {ob:Obj},(∀ b∈fp,H' b=none)->∀ b∈fp,fL (aW X (bN Nx ts ix) scope B) [(s2.heap.objs.size,ob)] H' b:=λ{H' ob} hn b hb=>by
  refine ⟨hn b hb,AR (AD (hfs b hb) hC),λz=>?_,.inl hb,λx c e=>by
   rcases cs1 x c e with z | ⟨z,_,_⟩
   ·exact (f2 b hb).2.2.2.2.1 x c z
   ·exact A6 (AD (hfs b hb) (AL hC (B6 z))),λp hp=>?_⟩
  ·rcases AO.mp (I2.stkSub _ z) with q | q
   ·exact (f2 b hb).2.1 q
   ·exact (f2 b hb).2.2.1 q
  ·rcases Bi.mp hp with z | z
   ·exact (f2 b hb).2.2.2.2.2 p z
   ·have e:p=(s2.heap.objs.size,ob):=by simpa using z
    subst e
    exact A6 (hfs b hb)
 have loop:∀ s4:Shared,s4={ s2 with heap:=h3 } ->
   codeAny (model X.prog X.w) X.A (.compLoop (.ListComp elt [⟨target,iter,[],0⟩] scope pos) 0 (.ref it) (.ref s2.heap.objs.size) (compEnvC scope cs C X.env)) (R (.ref s2.heap.objs.size) C) s4:=by
  rintro s4 rfl
  refine ZmH (λk s'=>∃ i τ ys its n H',Inv (aW X (bN Nx ts ix) scope B) [(s2.heap.objs.size,({ cls:=.type "list",data:=.seq (List.toArray its) n }:Obj))] τ H' s'/\tn i s'.heap/\(∀ b∈fp,H' b=none)/\Vals ys its/\ys.length<=sizeLine/\W i k τ ys H') ?_ m0
   ⟨0,_,[],[],_,H1,pinD I3 hD3 fC (λv z=>by cases z),T.keep _ _ _ st2 λb hb o e=>kp b o e,λb hb=>(f2 b hb).1,.nil,Bg _,w0⟩
  rintro k s5 ⟨i,τ,ys,its,n,H5,I5,st5,fr5,rv,hz,w5⟩
  rcases turn i k τ ys H5 w5 with ⟨stop,qn⟩ | ⟨go,hlt,step⟩
  ·refine thn (T.done (aW X (bN Nx ts ix) scope B) rfl rfl rfl hc i _ s5 τ H5 _ I5 (stat fr5) st5 stop) λgot s6 hz0=>?_
   obtain ⟨hr,I6⟩:=hz0
   subst hr
   obtain ⟨ho,hn,_,_,_⟩:=I6.pin (s2.heap.objs.size,({ cls:=.type "list",data:=.seq (List.toArray its) n }:Obj)) (AA _ (by simp))
   have I7:Inv X pins σ H5 s6:=I2.call' (ch:=fp) (H':=H5) (by exact I6.os) I6.base I6.hok I6.bare λb hb=>⟨(f2 b hb).2.2.2.1,(f2 b hb).2.1,(f2 b hb).2.2.2.2.1,(f2 b hb).2.2.2.2.2⟩
   have hs0:X.s₀.heap.objs.size<=s2.heap.objs.size:=I2.sz
   have I8:=I7.track hn ho rv hz (A6 I2.lt) hs0 (λx c e z=>by
    obtain ⟨v,q⟩:=I2.cell x c e
    exact absurd q.lt (by rw [z]; exact AY _)) (λp hp=>AR (pinIn p hp))
   obtain ⟨m6,hm6,_⟩:=I6.loc
   refine hR _ C _ s6 _ I8 rfl (qn _ _ _ hn rfl rfl) ⟨m6,hm6⟩ ?_ (λz=>?_) (AL hs0 hC) (λx c e z=>?_) λp hp=>AR (AD (pinIn p hp) hC)
   ·rw [aM (Ne.symm hDC)]
    exact I6.free
   ·exact absurd (AD I2.lt hC) (by rw [z]; exact AY _)
   ·obtain ⟨v,q⟩:=I2.cell x c e
    exact absurd (AD q.lt hC) (by rw [z]; exact AY _)
  ·refine thn (T.item (aW X (bN Nx ts ix) scope B) rfl rfl rfl hc i _ s5 τ H5 _ I5 (stat fr5) st5 go) λgot s6 hz0=>?_
   obtain ⟨u,hr,h6⟩:=hz0
   subst hr
   refine thn h6 λ_ s7 hz0=>?_
   obtain ⟨x,H7,I7,r7,y7,st7,fr7⟩:=hz0
   have I7':=I7.pinned (stat fr7) (T.obj _ _ st7)
   refine thn (hg B _ s7 τ H7 x u _ I7' r7 (step x H7 y7)) λ_ s8 hz0=>?_
   obtain ⟨τ8,H8,I8,q8⟩:=hz0
   refine thn (he B _ s8 τ8 H8 _ I8 q8) λy s9 hz0=>?_
   obtain ⟨vy,H9,I9,r9,m',hm',w9⟩:=hz0
   obtain ⟨ho,hn,_,_,_⟩:=I9.pin (s2.heap.objs.size,({ cls:=.type "list",data:=.seq (List.toArray its) n }:Obj)) (AA _ (Bf _ (by simp)))
   have lenv:=rv.length
   refine wpAny_list_append_plain (l:=s2.heap.objs.size) ⟨n,ho⟩ (λh' hpl hsb=>?_) (by rw [AG]; omega)
   obtain ⟨n',ho'⟩:=hpl
   have eobj:(its.toArray.push y)=List.toArray (its++[y]):=by simp
   rw [eobj] at ho'
   have I9':Inv (aW X (bN Nx ts ix) scope B) [] τ8 H9 s9:=I9.pins_of λp hp=>absurd hp (by simp)
   have I10:Inv (aW X (bN Nx ts ix) scope B) [] τ8 H9 { s9 with heap:=h' }:=I9'.turned (it:=s2.heap.objs.size) (t':=s9.toks) (λb o hb e=>(hsb.2 b hb).trans e) hn hDC (.inr (Aw _)) cellIn (λp hp=>by
    have hp':p∈(X.pn++pins)++[]:=hp
    rw [A4] at hp'
    exact AR (pinIn p hp'))
   refine ⟨m',hm',i+1,τ8,ys++[vy],its++[y],n',H9,pinD I10 ho' hn (λv z=>by cases z),?_,λb hb=>?_,rv.append (.cons r9 .nil),by rw [Av]; show ys.length+1<=_; omega,w9⟩
   ·refine T.keep _ _ _ st7 λb hb o e=>?_
    have q:=(I9.pin (b,o) (AA _ (AA _ (fy hb e)))).1
    exact (hsb.2 b (AR (hfs b hb))).trans q
   ·obtain ⟨o,e,d⟩:=T.obj _ _ st7 b hb
    exact (I9.pin (b,o) (AA _ (AA _ (fy hb e)))).2.1
 exact codeAny_compStart_list (loop _ rfl) (T.self X.A 0 _ _ _ (T.keep _ _ _ st2 λb hb o e=>kp b o e) (loop _ rfl))
theorem eW {elt target iter:Expr} {scope:Scope} {pos:Pos} {wi:TI} {g:Blk->TG} {te:Blk->TE} (Nx:D2) (ts:D2) (ix:List Nat)
  (hc:X.calm=true) (hi:PI X target iter wi) (hg:∀ b,PG (aW X (bN Nx ts ix) scope b) target (g b)) (he:∀ b,PE (aW X (bN Nx ts ix) scope b) elt (te b))
  (hNx:X.N=Nx) (ok:BlkOk Nx X.env.scope scope ix) (hs:∀ x,foldedSetIterable iter X.env x=pure x:=by intro _; rfl) :
  PE X (.ListComp elt [⟨target,iter,[],0⟩] scope pos) (iP wi ts.length ix g te):=by
 intro pins s σ H Q I h
 obtain ⟨cl,hcl,cl1,cl2⟩:=j6 (scope:=scope) (env:=X.env) λy hy hf=>I.ok.has y.1 (ok.frees y hy hf)
 rw [eval_ListComp]
 refine wpAny_comprehension_free (use:=none) rfl hs hcl ok.kind ok.locs (thn (hi pins s σ H _ I h) λv s1 h1=>thn h1 λitv s2 h2=>?_)
 refine Zdx (R:=λacc C=>compPost (model X.prog X.w) X.A X.xe none (EP X pins σ Q) acc C) hc hg he hNx ok cl1 cl2 h2 ?_
 rintro D C H' s' v I' rfl q ⟨m,hm⟩ hn hL h0 hcl' hp
 exact ⟨m,hm,λh' hsb=>⟨.ref D,H',I'.turned (it:=C) (t':=s'.toks) (λb o hb e=>(hsb.2 b hb).trans e) hn hL (.inr h0) hcl' hp,rfl,q⟩⟩
theorem xY {elt target iter:Expr} {scope:Scope} {pos pos' spos:Pos} {wi:TI} {g:Blk->TG} {te:Blk->TE} {i:Nat} {x:Str} (Nx:D2) (ts:D2) (ix:List Nat)
  (hc:X.calm=true) (hN:X.N.Nodup) (hix:X.N[i]?=some x) (hx:X.env.scope.names.lookup x=some .local) (hi:PI X target iter wi) (hg:∀ b,PG (aW X (bN Nx ts ix) scope b) target (g b)) (he:∀ b,PE (aW X (bN Nx ts ix) scope b) elt (te b))
  (hNx:X.N=Nx) (ok:BlkOk Nx X.env.scope scope ix) (hsw:swapsWith (.ListComp elt [⟨target,iter,[],0⟩] scope pos) (some (.Name x pos')) spos.line X.env=pure true) (hs:∀ x,foldedSetIterable iter X.env x=pure x:=by intro _; rfl) :
  PS X (.Assign [.Name x pos'] (.ListComp elt [⟨target,iter,[],0⟩] scope pos) spos) (dM (iP wi ts.length ix g te) (dZ i)):=by
 intro pins s σ H D0 I h
 obtain ⟨cl,hcl,cl1,cl2⟩:=j6 (scope:=scope) (env:=X.env) λy hy hf=>I.ok.has y.1 (ok.frees y hy hf)
 rw [exec_Assign_Name_used _ _ _ _ hsw]
 refine wpAny_bind (wpAny_standAt (wpAny_bind ?_))
 show wpAny _ X.A (do let _ <- comprehension (.ListComp elt [⟨target,iter,[],0⟩] scope pos) scope X.env _ (newList []) false (eval iter X.env) (some (assign (.Name x pos') X.env))) _ _ s
 refine wpAny_bind (thn (wpAny_comprehension_free (use:=some (assign (.Name x pos') X.env)) (Q:=λ_ s'=>SP X pins D0 .next s') rfl hs hcl ok.kind ok.locs (thn (hi pins s σ H _ I h) λv s1 h1=>thn h1 λitv s2 h2=>?_)) λ_ s' hq=>wpAny_pure (wpAny_pure hq))
 refine Zdx (R:=λacc C=>compPost (model X.prog X.w) X.A X.xe (some (assign (.Name x pos') X.env)) (λ_ s'=>SP X pins D0 .next s') acc C) (Q:=λx H1=>dZ i x σ H1 D0.nx) hc hg he hNx ok cl1 cl2 h2 ?_
 rintro D C H' s' v I' rfl q ⟨m,hm⟩ hn hL h0 hcl' hp
 show wpAny _ X.A (assign (.Name x pos') X.env (.ref D)) _ _ _
 refine wpAny_assign_Name (oz I' hN hix (.inl hx) (show RelV (.ref D) (.ref D) from rfl) (λs'' I'' hch=>?_) (.inr hx))
 obtain ⟨a,hsb,ha⟩:=hch
 have haC:C≠a:=by
  rcases ha with z | z
  ·rw [z]; exact hL
  ·exact λe=>hcl' _ _ z e.symm
 exact ⟨m,hm.sameBut hsb haC,λh'' hs''=>⟨_,H',I''.turned (it:=C) (t':=s''.toks) (λb o hb e=>(hs''.2 b hb).trans e) hn hL (.inr h0) hcl' hp,q⟩⟩
end
theorem Zia {scope:Scope} {env:Env} {x:Str} (h:scope.names.lookup x=some .cell\/scope.names.lookup x=some .free):(relabel scope env).names.lookup x=some .cell\/(relabel scope env).names.lookup x=some .free:=by
 rcases h with h | h
 ·refine .inl ?_
  unfold relabel
  show List.lookup x (scope.names.map _)=_
  generalize scope.names=l at h
  induction l with
  | nil=>simp at h
  | cons p r ih =>
   obtain ⟨n,k⟩:=p
   rw [Ax]
   show List.lookup x ((if (k == NameKind.free && env.scope.kind == .function && env.kindOf n == some .cell)=true then (n,NameKind.cell) else (n,k))::_)=_
   cases hx:x == n with
   | true =>
    rw [A8,hx] at h
    have hk:k=.cell:=by simpa using h
    subst hk
    rw [if_neg (by rw [show (NameKind.cell == NameKind.free)=false from rfl]; simp),A8,hx]
   | false =>
    rw [A8,hx] at h
    split <;> rw [A8,hx] <;> exact ih h
 ·exact ZbU h
theorem BlkOk.nest {Nx:D2} {sc scope:Scope} {env:Env} {ix:List Nat} (h:BlkOk Nx sc scope ix):BlkOk Nx (relabel sc env) scope ix :=
 ⟨h.kind,h.cells,h.locs,λy hy z=>Zia (h.frees y hy z),h.caps⟩
mutual
/-- the value bears the datum -/
inductive Dn (H:Hp):V->PyData->Prop
 | non:Dn H .non .none
 | bl (b:Bool):Dn H (.bl b) (.bool b)
 | int (i:Int):Dn H (.int i) (.int i)
 | str (x:Str):Dn H (.str x) (.str x)
 | tup {a:Addr} {xs:D3} {ds:DY}:H a=some (.tup xs)->DnAll H xs ds->Dn H (.ref a) (.tuple ds)
 | lst {a:Addr} {xs:D3} {ds:DY}:H a=some (.lst xs)->DnAll H xs ds->Dn H (.ref a) (.list ds)
 | dct {a:Addr} {ks:List (aL×V)} {ds:DY}:Rd H a (.dK ks)->DnAll H (ks.map (·.2)) ds->Dn H (.ref a) (.dict ((ks.map λk=>match k.1 with | .inl i=>PyData.int i | .inr x=>PyData.str x).zip ds))
 | dcp {a:Addr} {o:Obj} {ks:List (DZ×V)} {ds:DY}:ks≠[]->H a=some (.frz o (.dT (ks.map λk=>(k.1.map Sum.inl,k.2))))->DnAll H (ks.map (·.2)) ds->Dn H (.ref a) (.dict ((ks.map λk=>PyData.tuple (k.1.map PyData.int)).zip ds))
inductive DnAll (H:Hp):List V->List PyData->Prop
 | nil:DnAll H [] []
 | cons {v:V} {vs:D3} {d:PyData} {ds:DY}:Dn H v d->DnAll H vs ds->DnAll H (v::vs) (d::ds)
end
mutual
theorem Dn.mono {H H':Hp} (e:∀ b o,H b=some o->H' b=some o):∀ {v:V} {d:PyData},Dn H v d->Dn H' v d
 | _,_,.non=>.non
 | _,_,.bl b=>.bl b
 | _,_,.int i=>.int i
 | _,_,.str x=>.str x
 | _,_,.tup h r=>.tup (e _ _ h) (DnAll.mono e r)
 | _,_,.lst h r=>.lst (e _ _ h) (DnAll.mono e r)
 | _,_,.dct h r=>.dct (h.imp (e _ _) λ⟨o,h⟩=>⟨o,e _ _ h⟩) (DnAll.mono e r)
 | _,_,.dcp n h r=>.dcp n (e _ _ h) (DnAll.mono e r)
theorem DnAll.mono {H H':Hp} (e:∀ b o,H b=some o->H' b=some o):∀ {vs:D3} {ds:DY},DnAll H vs ds->DnAll H' vs ds
 | _,_,.nil=>.nil
 | _,_,.cons r t=>.cons (Dn.mono e r) (DnAll.mono e t)
end
theorem DnAll.ints {H:Hp}:∀ ns:DZ,DnAll H (ns.map V.int) (ns.map PyData.int)
 | []=>.nil
 | n::ns=>.cons (.int n) (DnAll.ints ns)
theorem DnAll.length {H:Hp} {vs:D3} {ds:DY} (h:DnAll H vs ds):vs.length=ds.length:=by
 induction vs generalizing ds with
 | nil=>cases h; rfl
 | cons v vs ih=>cases h with | cons r t=>exact congrArg (·+1) (ih t)
theorem DnAll.append {H:Hp} {vs ws:D3} {ds es:DY} (h:DnAll H vs ds) (s:DnAll H ws es):DnAll H (vs++ws) (ds++es):=by
 induction vs generalizing ds with
 | nil=>cases h; exact s
 | cons v vs ih=>cases h with | cons r t=>exact .cons r (ih t)
mutual
/-- data without dicts -/
theorem Dn.reads {P:Program} {w:World} {H:Hp} {h:Heap} (ok:HOk P w H h):∀ {v:V} {d:PyData} {u:Value},Dn H v d->d.hasDict=false->RelV v u->∃ as,Reads h u d as
 | _,_,_,.non,_,r=>by cases r; exact ⟨_,.none⟩
 | _,_,_,.bl b,_,r=>by cases r; exact ⟨_,.bool b⟩
 | _,_,_,.int i,_,r=>by obtain ⟨t,rfl⟩:=r; exact ⟨_,.int i t⟩
 | _,_,_,.str x,_,r=>by obtain ⟨t,rfl⟩:=r; exact ⟨_,.str x t⟩
 | _,_,_,.tup e rs,hd,r=>by
  cases r
  obtain ⟨z,its,rv,o,h1,h2,n,h3⟩:=ok _ _ e
  obtain ⟨as,q⟩:=DnAll.reads ok rs (by simpa [PyData.hasDict] using hd) rv
  exact ⟨_,.tuple h1 h2 h3 (by simpa using q)⟩
 | _,_,_,.lst e rs,hd,r=>by
  cases r
  obtain ⟨z,its,n,rv,h1⟩:=ok _ _ e
  obtain ⟨as,q⟩:=DnAll.reads ok rs (by simpa [PyData.hasDict] using hd) rv
  exact ⟨_,.list h1 rfl rfl (by simpa using q)⟩
 | _,_,_,.dct e rs,hd,r=>by simp [PyData.hasDict] at hd
 | _,_,_,.dcp n e rs,hd,r=>by simp [PyData.hasDict] at hd
theorem DnAll.reads {P:Program} {w:World} {H:Hp} {h:Heap} (ok:HOk P w H h):∀ {vs:D3} {ds:DY} {us:D1},DnAll H vs ds->PyData.hasDictAll ds=false->Vals vs us->∃ as,ReadsAll h us ds as
 | _,_,_,.nil,_,r=>by cases r; exact ⟨_,.nil⟩
 | _,_,_,.cons p t,hd,r=>by
  cases r with
  | cons r1 r2 =>
   simp only [PyData.hasDictAll,Bool.or_eq_false_iff] at hd
   obtain ⟨as,q⟩:=Dn.reads ok p hd.1 r1
   obtain ⟨bs,q2⟩:=DnAll.reads ok t hd.2 r2
   exact ⟨_,.cons q q2⟩
end
section
variable {X:Cx}
theorem Zjc {k:Nat} (hr:Room k X.A):OpR X (compareOp .Eq) (λx y H Q=>∃ d e,Dn H x d/\Dn H y e/\SeqAt.shaped d=true/\SeqAt.shaped e=true/\Q (.bl (PyData.eqv d e)) H):=by
 intro pins s σ H x y v u Q I rx ry h
 obtain ⟨d,e,hd,he,sd,se,q⟩:=h
 obtain ⟨as,r1⟩:=Dn.reads I.hok hd (Cw _ (CL sd)) rx
 obtain ⟨bs,r2⟩:=Dn.reads I.hok he (Cw _ (CL se)) ry
 exact SeqAt.compareEq_shaped r1 r2 sd se hr.units ⟨.bl _,H,I,rfl,q⟩
theorem Zi7 {k:Nat} (hr:Room k X.A):OpR X (compareOp .NotEq) (λx y H Q=>∃ d e,Dn H x d/\Dn H y e/\SeqAt.shaped d=true/\SeqAt.shaped e=true/\Q (.bl (!PyData.eqv d e)) H):=by
 intro pins s σ H x y v u Q I rx ry h
 obtain ⟨d,e,hd,he,sd,se,q⟩:=h
 obtain ⟨as,r1⟩:=Dn.reads I.hok hd (Cw _ (CL sd)) rx
 obtain ⟨bs,r2⟩:=Dn.reads I.hok he (Cw _ (CL se)) ry
 exact SeqAt.compareNe_shaped r1 r2 sd se hr.units ⟨.bl _,H,I,rfl,q⟩
theorem Ze7:dL X (.type "range") (λxs H Q=>∃ i j:Int,xs=[.int i,.int j]/\∀ p,H p=none->Q (.ref p) (upd H p (.rng i j))):=by
 intro pins s σ H xs us Q I r h
 obtain ⟨i,j,rfl,q⟩:=h
 cases r with
 | cons r1 rr =>
  cases rr with
  | cons r2 rr =>
   cases rr
   obtain ⟨t,rfl⟩:=r1
   obtain ⟨u,rfl⟩:=r2
   refine call_range_2 ?_
   exact ⟨.ref s.heap.objs.size,_,I.laid (t':=s.toks+1) (λb o e=>v9 _ e) (Aw _) (show ObjOk X.prog X.w _ _ _ (.rng i j) from ⟨t,u,s.toks,AC _ rfl⟩),rfl,q _ (I.hok.fresh (Aw _))⟩
noncomputable def fk (lo:Int) (n:Nat):D3:=(List.range n).map λ(k:Nat)=>V.int (lo+(k:Int))
theorem Zam (lo:Int):∀ (n:Nat) (l:D1),l.length=n->(∀ (j:Nat) (v:Value),l[j]?=some v->∃ t,v=Value.int (lo+(j:Int)) t)->Vals (fk lo n) l:=by
 intro n
 unfold fk
 induction n with
 | zero =>
  intro l hl _
  have e:l=[]:=List.length_eq_zero_iff.mp hl
  subst e
  exact .nil
 | succ n ih =>
  intro l hl hl2
  obtain ⟨l',x,rfl⟩:∃ l' x,l=l'++[x]:=⟨l.dropLast,l.getLast (by intro e; rw [e] at hl; cases hl),(List.dropLast_concat_getLast _).symm⟩
  have hl':l'.length=n:=by rw [Av] at hl; simpa using hl
  rw [List.range_succ,Bu]
  refine Vals.append (ih l' hl' λj v hv=>hl2 j v (by rw [AW (Ay.mp hv).1]; exact hv)) (.cons ?_ .nil)
  obtain ⟨t,e⟩:=hl2 n x (by rw [A5 (by omega),hl',Du]; rfl)
  exact ⟨t,e⟩
theorem ZmV (hh:X.A.handled=none):dL X (.type "list") (λxs H Q=>∃ a lo hi,xs=[.ref a]/\H a=some (.rng lo hi)/\-(2 ^ 62)<=lo/\lo < 2 ^ 62/\-(2 ^ 62)<=hi/\hi < 2 ^ 62/\(hi - lo).toNat<=1000/\∀ p,H p=none->Q (.ref p) (upd H p (.lst (fk lo (hi - lo).toNat)))):=by
 intro pins s σ H xs us Q I r h
 obtain ⟨a,lo,hi,rfl,ha,b1,b2,b3,b4,hn,q⟩:=h
 obtain ⟨u,rfl,ru⟩:=eB r
 cases ru
 obtain ⟨t,u,v,e⟩:=I.hok a _ ha
 have hsz:Builtin.Range.rangeSize lo hi 1=(((hi - lo).toNat:Nat):Int):=by rw [rangeSize_one]; split <;> omega
 refine call_list_range hh (r:=a) (t:=t) (u:=u) (v:=v) e (small_one b1 b2 b3 b4) hsz (by omega) λh' tk acc c' hk ho hacc=>?_
 refine ⟨.ref s.heap.objs.size,_,I.laid hk (Aw _) ?_,rfl,q _ (I.hok.fresh (Aw _))⟩
 refine ⟨by unfold fk; rw [At,B4]; exact AL hn (by decide),acc.toList,c',?_,by simpa using ho⟩
 obtain ⟨hl,hit⟩:=hacc
 exact Zam lo _ _ (by simpa using hl) λj v hv=>by
  obtain ⟨t,e⟩:=hit j v (by simpa using hv)
  exact ⟨t,by rw [e,Db]⟩
end
structure Def (K:DO) (mg:D4) (x:Str) (st:Stmt) (ps:D2):Prop where
 ex:∃ f fd,Fun K x x st f fd/\mg x=some (.ref f)/\Binds K fd ps []
structure Callee (P:Program) (w:World) (K:DO) (mg:D4) (base:Heap) (x:Str) (k:Nat) (ps:D2) (sp:Sp):Prop where
 ex:∃ f fd,FnOk P w K mg base jA k f fd ps sp/\mg x=some (.ref f)/\PySem.W.keepIn K (.ref f)=true/\Binds K fd ps []
section
variable {P:Program} {w:World} {K:DO} {mg:D4} {base:Heap}
theorem Def.ok {x:Str} {st:Stmt} {N ps:D2} {k:Nat} {sp:Sp} (D:Def K mg x st ps) (S:FnScope N ps (aP st)) (len:∀ vs H Q E,sp vs H Q E->vs.length=ps.length)
  (hbody:∀ (f:Addr) (cdv:Value) (A:Around) (outer:List Env) (s:Shared) (H:Hp) (vs:D3) (Q:VK) (E:XK),Room k (A.deeper (envOfC x (aP st) s.heap.objs.size f cdv))->sp vs H Q E ->
   ∃ t,PSs (jp jA P w K mg base N x (aP st) f cdv A outer s H E).nox (iF st) t/\t { nx:=λ_ H'=>Q .non H',rt:=Q } (start N vs) H):Callee P w K mg base x (k+1) ps sp:=by
 obtain ⟨f,fd,F,hm,hb⟩:=D.ex
 exact ⟨f,fd,F.ok S len λcdv A outer s H vs Q E hr h=>hbody f cdv A outer s H vs Q E hr h,hm,F.kp,hb⟩
theorem ZlF {x:Str} {st:Stmt} {ps:D2} {h:Heap} {f:Addr} {oc:Value} {od an:Option Addr} {osl:Array (Option Value)} {kV doc pm cdv ct:Value} (X:K.In h) (G:h.Ns mainGlobals mg)
  (a:PySem.W.nsIn K mainGlobals x=some (some (.ref f))) (l:K.lookup f=some ⟨oc,od,.func (PySem.W.fnOf x x (lB st) (iF st) (aP st) .none kV doc pm an cdv ct),osl⟩)
  (c:PySem.W.codeIn K cdv x=true) (k:PySem.W.keepIn K (.ref f)=true)
  (hb:∀ (kV doc pm:Value) (an:Option Addr) (cdv ct:Value) (us:D1),us.length=ps.length->bindArgs (PySem.W.fnOf x x (lB st) (iF st) (aP st) .none kV doc pm an cdv ct) ⟨us,[]⟩=pure (ps.zip us)):Def K mg x st ps:=by
 have F:=ZkX (st:=st) l c k
 exact ⟨f,_,F,PySem.W.mg_of X G a,F.binds hb⟩
end
section
variable {X:Cx} {x:Str} {k:Nat} {ps:D2} {sp:Sp} {e:Expr} {es:List Expr} {t:TA} {p pos:Pos}
theorem ZcQ (C:Callee X.prog X.w X.K X.mg X.base x k ps sp) (hr:Room k X.A) (hg:Gl X x) (ha:PA X (e::es) t) (hdb:(x == ("__debug__":Str))=false:=by decide)
  (he:starEach (e::es) X.env=(false,eval e X.env)::starEach es X.env:=by rfl) (hpl:(backTo pos (starEach es X.env)).any (·.1)=false:=by rfl):PE X (.Call (.Name x p) (e::es) [] pos) (ZaF sp [] E0 t):=by
 obtain ⟨f,fd,F,hm,hk,hb⟩:=C.ex
 exact ZiX F hr hg hm hk hb .nil Zi1 ha hdb he hpl
theorem ZiT {i:Int} (hg:Gl X x) (h:∃ t,X.mg x=some (.int i t)) (hd:(x == ("__debug__":Str))=false:=by decide):PE X (.Name x pos) (tC (.int i)):=by
 obtain ⟨t,e⟩:=h
 exact ZiS hg e ⟨t,rfl⟩ hd
end
def ZgX (t:TS):TS:=λD σ H=>∃ J:St->Hp->Prop,t { D with nx:=J } σ H/\∀ σ' H',J σ' H'->D.nx σ' H'
def ZgW (t:TT):TT:=λσ H Q=>∃ J:Bool->Hp->Prop,t σ H J/\∀ b H',J b H'->Q b H'
section
variable {X:Cx} {st:Stmt} {e:Expr}
theorem PS.join {t:TS} (h:PS X st t):PS X st (ZgX t):=by
 rintro pins s σ H D I ⟨J,q,hJ⟩
 refine thn (h pins s σ H _ I q) λf s' z=>?_
 cases f with
 | next=>obtain ⟨σ',H',I',q'⟩:=z; exact ⟨σ',H',I',hJ _ _ q'⟩
 | brk=>exact z
 | cont=>exact z
 | ret u=>exact z
theorem PT.join {t:TT} (h:PT X e t):PT X e (ZgW t):=by
 rintro pins s σ H Q I ⟨J,q,hJ⟩
 refine thn (h pins s σ H _ I q) λb s' ⟨H',I',q'⟩=>⟨H',I',hJ _ _ q'⟩
end
section
variable {H:Hp} {p c:Addr} {a l b:Int}
end
def Kept (p:Addr) (H H':Hp):Prop:=∀ b o,H b=some o->b≠p->H' b=some o
theorem Kept.refl {p:Addr} {H:Hp}:Kept p H H:=λ_ _ h _=>h
theorem Kept.pen {p:Addr} {H H':Hp} {o:HO} (a:Kept p H H'):Kept p H (upd H' p o):=λc u h n=>by
 rw [aM n]
 exact a c u h n
theorem Same.new {q:Addr} {H H':Hp} {o:HO} (a:Same H H') (hq:H' q=none):Same H (upd H' q o):=λc u h=>by
 have e:=a c u h
 rw [aM (dm e hq)]
 exact e
section
variable {prog:Program} {w:World} {A:Around} {E:DX} {s:Shared} {r:Addr} {a b c:Int} {t u v:Tok} {n:Nat}
theorem ZmI {Q:List Value->Shared->Prop} (hh:A.handled=none) (hr:IsRange s.heap r a b c t u v) (hs:Builtin.Range.small a b c=true) (hn:Builtin.Range.rangeSize a b c=n) (hl:n<=2 ^ 24)
  (hQ:∀ (h':Heap) (tk:Nat) (acc:Array Value),(∀ b o,s.heap.get? b=some o->h'.get? b=some o)->ItemsOf (λi v=>∃ t,v=.int (a+i * c) t) acc n->Q acc.toList { s with heap:=h',toks:=tk }):wpAny (model prog w) A (collect (.ref r)) Q E s:=by
 unfold collect; apply wpAny_bind; apply wpAny_runValue; refine codeAny_builtin F.entry_proto_collect ?_
 rw [Bo F.plain_proto_collect _]
 show wpAny _ A.in1 (newList [] >>= λz=>again (.builtin "list.__iadd__" ⟨[z,.ref r],[]⟩)) _ _ s
 refine wpAny_bind (wpAny_newObj_type (wpAny_pure ⟨plainId_quiet C5 _,codeAny_builtin F.entry_list_iadd ?_⟩))
 rw [Bo C5 _]
 show wpAny _ A.in1 (Builtin.List.listExtendWith (.ref s.heap.objs.size) (.ref r) (.ref s.heap.objs.size)) _ _ { s with heap:=s.heap.push { cls:=.type "list",data:=.seq ([]:D1).toArray } }
 let R:Result->Shared->Prop:=λz s'=>match z with
  | .ok (.ret v)=>wpAny (model prog w) A (match v with
   | .ref q=>(do match (<- load q).data with
    | .seq xs _=>pure xs.toList
    | _=>unsupported "internal:collect")
   | _=>unsupported "internal:collect") Q E s'
  | .ok _=>False
  | .error e=>E e s'
 refine wpAny_extend_range (R:=R) (s:={ s with heap:=s.heap.push { cls:=.type "list",data:=.seq ([]:D1).toArray } }) hh (v9 _ hr) hs hn hl _ _ _ (show (s.heap.push { cls:=.type "list",data:=.seq ([]:D1).toArray }).get? s.heap.objs.size=some { cls:=.type "list",data:=.seq #[] } from AC _ rfl) λh' tk acc c' hk hS hacc=>?_
 show wpAny _ A (load s.heap.objs.size >>= _) _ _ { s with heap:=h',toks:=tk }
 exact wpAny_bind (wpAny_load hS (wpAny_pure (hQ h' tk acc (λb o e=>hk b o (AR (AK e)) (v9 _ e)) hacc)))
theorem ZgA {Q:DX} (hh:A.handled=none) (hr:IsRange s.heap r a b c t u v) (hs:Builtin.Range.small a b c=true) (hn:Builtin.Range.rangeSize a b c=n) (hl:n<=2 ^ 24)
  (hQ:∀ (h':Heap) (tk:Nat) (acc:Array Value),(∀ b o,s.heap.get? b=some o->h'.get? b=some o)->ItemsOf (λi v=>∃ t,v=.int (a+i * c) t) acc n->Q (.ref h'.objs.size) { s with heap:=h'.push { cls:=.type "tuple",data:=.seq acc },toks:=tk }) :
  wpAny (model prog w) A (call (.type "tuple") [.ref r]) Q E s:=by
 refine callType_codes (Q₁:=λz s1=>s1.TypeIs z "tuple"/\Q z s1) F.called_tuple (F.typeCall_tuple_1 _) F.entry_object_init ?_ λz s1 h1=>?_
 ·apply codeAny_of_tree
  show wpAny _ A.in1.in1 (do checkBuiltinCall "tuple.__new__" ⟨[.type "tuple",.ref r],[]⟩; again (.builtin "tuple.__new__" ⟨[.type "tuple",.ref r],[]⟩)) _ _ s
  refine wpAny_bind (wpAny_of_eq (F.newCall_tuple_1 _) (wpAny_pure ⟨plainId_quiet F.plain_tuple_new _,codeAny_builtin F.entry_tuple_new ?_⟩))
  rw [Bo F.plain_tuple_new _]
  have f1:=sub_tuple_self; have f2:=init_tuple_lookup; have f3:=madeHere_tuple
  have fT:s.TypeIs (.ref r) "range":=⟨_,hr,rfl⟩
  wp_walk using wpAny_typeOf fT,ZmI (A:=A.in1.in1) hh hr hs hn hl
  intro h' tk acc hk hacc
  show wpAny _ _ (Builtin.Tuple.tupleExact acc.toList.toArray >>= λz=>ret z) _ _ _
  unfold Builtin.Tuple.tupleExact
  have e:acc.toList.toArray=acc:=by simp
  rw [e]
  refine wpAny_bind (wpAny_newObj_type (wpAny_pure ⟨⟨_,AC _ rfl,rfl⟩,hQ h' tk acc hk hacc⟩) ?_)
  show acc.size<=sizeLine
  rw [hacc.1,sizeLine_eq]
  exact hl
 ·exact ⟨h1.1,Ds z _,object_init_meets F.called_tuple.init.lookup F.called_tuple.made (by decide) prog w A.in1 _ s1 ⟨h1.1,rfl,h1.2⟩⟩
end
section
variable {X:Cx}
theorem ZmQ (hh:X.A.handled=none):dL X (.type "tuple") (λxs H Q=>∃ a lo hi,xs=[.ref a]/\H a=some (.rng lo hi)/\-(2 ^ 62)<=lo/\lo < 2 ^ 62/\-(2 ^ 62)<=hi/\hi < 2 ^ 62/\(hi - lo).toNat<=1000/\∀ p,H p=none->Q (.ref p) (upd H p (.tup (fk lo (hi - lo).toNat)))):=by
 intro pins s σ H xs us Q I r h
 obtain ⟨a,lo,hi,rfl,ha,b1,b2,b3,b4,hn,q⟩:=h
 obtain ⟨u,rfl,ru⟩:=eB r
 cases ru
 obtain ⟨t,u,v,e⟩:=I.hok a _ ha
 have hsz:Builtin.Range.rangeSize lo hi 1=(((hi - lo).toNat:Nat):Int):=by rw [rangeSize_one]; split <;> omega
 refine ZgA hh (r:=a) (t:=t) (u:=u) (v:=v) e (small_one b1 b2 b3 b4) hsz (by omega) λh' tk acc hk hacc=>?_
 have I1:Inv X pins σ H { s with heap:=h',toks:=tk }:=I.kept hk
 have hv:Vals (fk lo (hi - lo).toNat) acc.toList:=Zam lo _ _ (by simpa using hacc.1) λj v hv=>by
  obtain ⟨t,e⟩:=hacc.2 j v (by simpa using hv)
  exact ⟨t,by rw [e,Db]⟩
 have hz:(fk lo (hi - lo).toNat).length<=sizeLine:=by
  unfold fk
  rw [At,B4]
  exact AL hn (by decide)
 refine ⟨.ref h'.objs.size,_,I1.laid (h':=h'.push { cls:=.type "tuple",data:=.seq acc }) (t':=tk) (λb o e=>v9 _ e) (Aw _) (show ObjOk X.prog X.w _ _ _ (.tup (fk lo (hi - lo).toNat)) from ⟨hz,acc.toList,hv,⟨_,AC _ rfl,rfl,0,by simp⟩⟩),rfl,q _ (I1.hok.fresh (Aw _))⟩
theorem Zjq:fillsNumberSlot (.type "tuple") "mul"=pure false :=
 PySem.fillsNumberSlot_seq (id:="tuple.__mul__") (r:=some (.builtin "tuple.__rmul__")) PySem.F.slot_tuple_mul.lookup (by trivial) PySem.F.slot_tuple_rmul.lookup (by trivial)
theorem Zh9:seqRepeat? (.type "tuple")=pure (some (.builtin "tuple.__mul__")):=by
 unfold seqRepeat?
 rw [PySem.seqSlot_of (T:="tuple") (name:="__mul__") (id:="tuple.__mul__") PySem.F.slot_tuple_mul.lookup (by trivial),PySem.seqSlot_of (T:="tuple") (name:="__rmul__") (id:="tuple.__rmul__") PySem.F.slot_tuple_rmul.lookup (by trivial)]; rfl
theorem Zh7 (x:Int) (t:Tok) (l:Addr) (items:Array Value) (n:Nat) (dd:Option Addr) (sl:Array (Option Value)) :
  Meets (Builtin.«int.__rmul__» ⟨[.int x t,.ref l],[]⟩) (λ_ R s=>s.heap.get? l=some { cls:=.type "tuple",dict:=dd,data:=.seq items n,slots:=sl }/\R (.ok (.ret Value.notImplemented)) s):=by
 refine .of_wp λprog w A R s h=>?_
 obtain ⟨hp,g,d,tk,os⟩:=s
 obtain ⟨hl,h⟩:=h
 wp_walk
 exact ⟨_,rfl,h⟩
theorem Zjy (x:Int) (t:Tok) (l:Addr) (items:Array Value) (n:Nat) (dd:Option Addr) (sl:Array (Option Value)) (h1:1 < x) (h2:x<=1000) (h3:items.isEmpty=false) (h4:items.size<=1000) :
  Meets (Builtin.«tuple.__mul__» ⟨[.ref l,.int x t],[]⟩) (λ_ R s=>s.heap.get? l=some { cls:=.type "tuple",dict:=dd,data:=.seq items n,slots:=sl } /\
   R (.ok (.ret (.ref s.heap.objs.size))) { s with heap:=s.heap.push { cls:=.type "tuple",data:=.seq ((List.replicate x.toNat items).foldl (·++·) #[]) } }):=by
 refine .of_wp λprog w A R s h=>?_
 obtain ⟨hp,g,d,tk,os⟩:=s
 obtain ⟨hl,h⟩:=h
 have hp0:0<=(items.size:Int) * x:=DH (by omega) (by omega)
 have hp1:(items.size:Int) * x<=1000 * 1000:=Int.mul_le_mul (by omega) h2 (by omega) (by omega)
 have hne:items.size≠0:=λe=>by simp [Array.isEmpty,e] at h3
 wp_walk
 refine wpAny_ite_split (λz=>absurd z (by simp; omega)) (λ_=>?_)
 refine wpAny_bind ?_
 unfold Builtin.Tuple.tupleItemsOf
 refine wpAny_bind (wpAny_seqItems hl rfl (wpAny_pure ?_))
 refine wpAny_ite_split (λz=>absurd z (by rw [h3]; simp; omega)) (λ_=>?_)
 refine wpAny_ite_split (λz=>absurd z (by rw [h3]; simp; omega)) (λ_=>?_)
 refine wpAny_ite_split (λz=>absurd z (by omega)) (λ_=>?_)
 refine wpAny_ite_split (λz=>absurd z (by unfold Builtin.Tuple.tupleTooMany; rw [sizeLine_eq]; simp; omega)) (λ_=>?_)
 unfold Builtin.Tuple.tupleExact
 have hlen:∀ k:Nat,((List.replicate k items).foldl (·++·) #[]).size=k * items.size:=λk=>by
  have key:∀ (k:Nat) (acc:Array Value),((List.replicate k items).foldl (·++·) acc).size=acc.size+k * items.size:=by
   intro k
   induction k with
   | zero=>intro acc; simp
   | succ k ih =>
    intro acc
    rw [Be,BR,ih,Array.size_append,Cp]
    omega
  simpa using key k #[]
 refine wpAny_bind (wpAny_newObj_type (wpAny_pure ⟨_,rfl,h⟩) ?_)
 show ((List.replicate x.toNat items).foldl (·++·) #[]).size<=sizeLine
 rw [hlen,sizeLine_eq]
 have hx:x.toNat<=1000:=by omega
 exact AL (Cc hx h4) (by decide)
noncomputable def Zca (K:DO):R2:=λx y H Q=>∃ a k xs,x=.ref a/\y=.int k/\SqT K H a xs/\1 < k/\k<=1000/\xs≠[]/\xs.length<=1000/\∀ p,H p=none->Q (.ref p) (upd H p (.tup (List.replicate k.toNat xs).flatten))
theorem Zak {xs:D3} {us:D1} (r:Vals xs us):∀ k:Nat,Vals (List.replicate k xs).flatten (List.replicate k us).flatten
 | 0=>.nil
 | k+1=>by
  rw [Be,Be,BE,BE]
  exact r.append (Zak r k)
theorem Zi5:OpR X (binaryOp .Mult) (Zca X.K):=by
 intro pins s σ H x y v u Q I rx ry h
 obtain ⟨a,k,xs,rfl,rfl,hq,h1,h2,hne,hl,q⟩:=h
 cases rx
 obtain ⟨t,rfl⟩:=ry
 obtain ⟨its,rv,p,hz⟩:=I.tuple hq
 obtain ⟨o,ho,hc,n,hd⟩:=p
 obtain ⟨oc,od,odd,osl⟩:=o
 have hc':oc=.type "tuple":=hc
 have hd':odd=.seq its.toArray n:=hd
 subst hc' hd'
 have hlen:=rv.length
 have hemp:its.toArray.isEmpty=false:=by
  cases its with
  | nil=>cases rv; exact absurd rfl hne
  | cons i r=>rfl
 have efl:(List.replicate k.toNat its.toArray).foldl (·++·) #[]=(List.replicate k.toNat its).flatten.toArray:=by
  have key:∀ (k:Nat) (acc:Array Value),(List.replicate k its.toArray).foldl (·++·) acc=acc++(List.replicate k its).flatten.toArray:=by
   intro k
   induction k with
   | zero=>intro acc; simp
   | succ k ih =>
    intro acc
    rw [Be,BR,ih,Be,BE]
    simp
  simpa using key k.toNat #[]
 refine wpAny_binaryOp_repeat_ref (T:="tuple") (U:="int") (by decide) ⟨_,ho,rfl⟩ (λs'=>typeIs_int s' k t) Zjq PySem.F.fills_int_mul PySem.F.slot_int_rmul Zh9 PySem.F.slot_int_index.lookup ?_
 refine call_meets PySem.F.slot_int_rmul (typeIs_int s k t) PySem.F.entry_int_rmul (PySem.F.args_int_rmul_2 _ _) (Zh7 k t a its.toArray n od osl) ⟨ho,rfl,⟨_,ho,rfl⟩,?_⟩
 refine call_meets PySem.F.slot_tuple_mul ⟨_,ho,rfl⟩ PySem.F.entry_tuple_mul (PySem.F.args_tuple_mul_2 _ _) (Zjy k t a its.toArray n od osl h1 h2 hemp (by rw [AG]; omega)) ⟨ho,?_⟩
 rw [efl]
 have hzz:(List.replicate k.toNat xs).flatten.length<=sizeLine:=by
  have hx:k.toNat<=1000:=by omega
  have e:(List.replicate k.toNat xs).flatten.length=k.toNat * xs.length:=by simp
  rw [e,sizeLine_eq]
  exact AL (Cc hx hl) (by decide)
 exact ⟨.ref s.heap.objs.size,_,I.laid (t':=s.toks) (λb o e=>v9 _ e) (Aw _) (show ObjOk X.prog X.w _ _ _ (.tup (List.replicate k.toNat xs).flatten) from ⟨hzz,_,Zak rv k.toNat,IsTup.new _ _⟩),rfl,q _ (I.hok.fresh (Aw _))⟩
end
theorem Zdi {n:Nat} (h:n < 2 ^ 1900):n.log2 < 1900:=by
 by_cases h0:n=0
 ·rw [h0]; decide
 ·exact (C8 h0).mpr h
theorem Zhn {i:Int} (h:i.natAbs < 2 ^ 1900):(PyData.int i).shown.length<=1901:=by
 have e:=int_text_length_le (k:=1900) (by decide) (Zdi h)
 have q:(Str.ofString (toString i)).length<=1901:=by rw [PySem.ofString_length]; exact e
 simpa [PyData.shown] using q
theorem ZaY:∀ (ns:DZ),(∀ n∈ns,n.natAbs < 2 ^ 1900)->((PyData.shownAll (ns.map PyData.int)).map (·.length)).sum<=ns.length * 1901/\(PyData.shownAll (ns.map PyData.int)).length=ns.length
 | [],_=>⟨by simp [PyData.shownAll],rfl⟩
 | n::r,h=>by
  obtain ⟨h1,h2⟩:=ZaY r λx hx=>h x (Az _ hx)
  have h3:=Zhn (h n AB)
  rw [Ax,PyData.shownAll,Ax,BX,Au,Au,h2,Cp]
  exact ⟨by omega,rfl⟩
theorem ZaZ:∀ (ns:DZ),(∀ n∈ns,n.natAbs < 2 ^ 1900)->PyData.showableAll (ns.map PyData.int)=true
 | [],_=>rfl
 | n::r,h=>by
  rw [Ax,PyData.showableAll,ZaZ r λx hx=>h x (Az _ hx),Ck]
  have q:=Zdi (h n AB)
  simp only [PyData.showable,decide_eq_true_eq]
  omega
noncomputable def aQ (lo:Int) (n:Nat):DZ:=(List.range n).map λ(k:Nat)=>lo+(k:Int)
theorem Zig (lo:Int) (n:Nat):fk lo n=(aQ lo n).map V.int:=by
 unfold fk aQ
 rw [AS]
 rfl
theorem fO (lo:Int) (n:Nat):(aQ lo n).length=n:=by
 unfold aQ
 rw [At,B4]
theorem gN {lo x:Int} {n:Nat} (h:x∈aQ lo n):lo<=x/\x < lo+n:=by
 unfold aQ at h
 obtain ⟨k,hk,rfl⟩:=AV.mp h
 have:=Bw.mp hk
 omega
def CMulG (i j:Int):Prop:=i.natAbs < 2 ^ 8000/\j.natAbs < 2 ^ 8000
def Zgb (i j:Int):Prop:=j≠0/\j.natAbs < 2 ^ 8000
theorem Zfq {x:Int} (h:x.natAbs < 2 ^ 8000):Builtin.Int.intBits x<=8000:=by
 unfold Builtin.Int.intBits
 split
 ·exact Bg _
 ·rename_i hx
  have h0:x.natAbs≠0:=by
   intro z
   have e:x=0:=Int.natAbs_eq_zero.mp z
   rw [e] at hx
   exact hx rfl
  exact (C8 h0).mpr h
theorem CMulG.ok {i j:Int} (h:CMulG i j):IntMulOk i j:=by
 have h1:=Zfq h.1
 have h2:=Zfq h.2
 unfold IntMulOk
 have e:Builtin.Int.intTooBig ((Builtin.Int.intBits i+Builtin.Int.intBits j:Nat):Int)=false:=by
  unfold Builtin.Int.intTooBig
  refine decide_eq_false ?_
  have hb:((16000:Nat):Int)<=(bitsLine:Int):=by decide
  omega
 intro z
 rw [AU] at z
 have z2:Builtin.Int.intTooBig ((Builtin.Int.intBits i+Builtin.Int.intBits j:Nat):Int)=true:=z.2
 rw [e] at z2
 cases z2
section
variable {X:Cx}
theorem Zi9:OpR X (binaryOp .Mult) (rI CMulG λi j=>.int (i * j)):=i5 λ_ _ _ _ _ _ _ hc q=>mul_int q hc.ok
theorem mG:OpR X (binaryOp .FloorDiv) (rI Zgb λi j=>.int (i.fdiv j)):=i5 λi j _ _ _ _ _ hc q=>by
 refine floordiv_int hc.1 q (.inl (PyProof.noPylong_of_log2 ?_))
 by_cases h0:j.natAbs=0
 ·exact absurd (Int.natAbs_eq_zero.mp h0) hc.1
 ·exact Nat.lt_trans ((C8 h0).mpr hc.2) (by decide)
theorem Zja:OpR X (compareOp .IsNot) (λx y H Q=>∃ a b,x=.bl a/\y=.bl b/\Q (.bl (!(a == b))) H):=by
 intro pins s σ H x y v u Q I rx ry h
 obtain ⟨a,b,rfl,rfl,q⟩:=h
 cases rx
 cases ry
 refine wpAny_isNot_plain rfl ⟨.bl (!(a == b)),H,I,?_,q⟩
 cases a <;> cases b <;> rfl
theorem fG:dL X (.builtin "isinstance") (λxs H Q=>∃ x T t b,xs=[x,.ty T]/\TyOf X.K H x t/\PySem.W.kitOne X.K t (.type T)=some b/\Q (.bl b) H):=by
 intro pins s σ H xs us Q I r h
 obtain ⟨x,T,t,b,rfl,ty,e,q⟩:=h
 obtain ⟨u,c,rfl,ru,rc⟩:=wF r
 cases rc
 exact Zks I ru ty e λtk=>⟨.bl b,H,I.tok tk,rfl,q⟩
end
end L2
namespace Gc
noncomputable def iA (a b:Int):Int:=((Nat.gcd a.natAbs b.natAbs:Nat):Int)
noncomputable def den (t b:Int):Int:=if b < 0 then -iA t b else iA t b
noncomputable def cB (t b:Int):Int:=t.fdiv (den t b)
noncomputable def bQ (t b:Int):Int:=b.fdiv (den t b)
theorem yN {t b:Int} (h:b≠0):0 < Nat.gcd t.natAbs b.natAbs:=Nat.gcd_pos_of_pos_right _ (by omega)
theorem nz {t b:Int} (h:b≠0):den t b≠0:=by
 have:=yN (t:=t) h
 unfold den iA
 split <;> omega
theorem zj (t b:Int):(den t b).natAbs=Nat.gcd t.natAbs b.natAbs:=by
 unfold den iA
 split <;> omega
theorem jc {t b:Int} (h:b≠0):t=den t b * cB t b/\b=den t b * bQ t b/\0 < bQ t b/\Nat.gcd (cB t b).natAbs (bQ t b).natAbs=1:=by
 have hd:=nz (t:=t) h
 have ha:=zj t b
 have hg:=yN (t:=t) h
 have d1:den t b ∣ t:=C4.mp (by rw [ha]; exact Nat.gcd_dvd_left _ _)
 have d2:den t b ∣ b:=C4.mp (by rw [ha]; exact Nat.gcd_dvd_right _ _)
 obtain ⟨x,hx⟩:=d1
 obtain ⟨y,hy⟩:=d2
 have e1:cB t b=x:=by
  show t.fdiv (den t b)=x
  generalize den t b=d at hd hx
  rw [hx]
  exact Cq _ hd
 have e2:bQ t b=y:=by
  show b.fdiv (den t b)=y
  generalize den t b=d at hd hy
  rw [hy]
  exact Cq _ hd
 rw [e1,e2]
 refine ⟨hx,hy,?_,?_⟩
 ·have hb:(0 < b/\0 < den t b)\/(b < 0/\den t b < 0):=by
   unfold den iA
   split <;> omega
  rcases hb with ⟨p,q⟩ | ⟨p,q⟩
  ·rcases (show 0 < y\/y<=0 by omega) with z | z
   ·exact z
   ·exfalso
    have:=DH (Int.le_of_lt q) (show 0<=-y by omega)
    rw [Int.mul_neg,<- hy] at this
    omega
  ·rcases (show 0 < y\/y<=0 by omega) with z | z
   ·exact z
   ·exfalso
    have:=DH (show 0<=-den t b by omega) (show 0<=-y by omega)
    rw [Int.neg_mul_neg,<- hy] at this
    omega
 ·have h1:t.natAbs=Nat.gcd t.natAbs b.natAbs * x.natAbs:=by
   have:=congrArg Int.natAbs hx
   rw [BH,ha] at this
   exact this
  have h2:b.natAbs=Nat.gcd t.natAbs b.natAbs * y.natAbs:=by
   have:=congrArg Int.natAbs hy
   rw [BH,ha] at this
   exact this
  have h3:Nat.gcd t.natAbs b.natAbs=Nat.gcd t.natAbs b.natAbs * Nat.gcd x.natAbs y.natAbs:=by
   rw [<- Nat.gcd_mul_left,<- h1,<- h2]
  have h4:Nat.gcd t.natAbs b.natAbs * 1=Nat.gcd t.natAbs b.natAbs * Nat.gcd x.natAbs y.natAbs:=by rw [Nat.mul_one]; exact h3
  exact (Nat.eq_of_mul_eq_mul_left hg h4).symm
theorem ZjP {t b:Int} (h:b≠0):(cB t b).natAbs<=t.natAbs/\(bQ t b).natAbs<=b.natAbs:=by
 obtain ⟨h1,h2,_,_⟩:=jc (t:=t) h
 have hg:=yN (t:=t) h
 have ha:=zj t b
 constructor
 ·have e:=congrArg Int.natAbs h1
  rw [BH,ha] at e
  rw [e]
  exact Nat.le_mul_of_pos_left _ hg
 ·have e:=congrArg Int.natAbs h2
  rw [BH,ha] at e
  rw [e]
  exact Nat.le_mul_of_pos_left _ hg
theorem ZjN {t b u c:Int} (hb:0 < b) (hc:0 < c) (g1:Nat.gcd t.natAbs b.natAbs=1) (g2:Nat.gcd u.natAbs c.natAbs=1) (h:t * c=u * b):t=u/\b=c:=by
 have k1:b.natAbs ∣ c.natAbs:=by
  have d:b.natAbs ∣ t.natAbs * c.natAbs:=⟨u.natAbs,by rw [<- BH,h,BH,Nat.mul_comm]⟩
  exact Cz (show Nat.Coprime b.natAbs t.natAbs by unfold Nat.Coprime; rw [CS]; exact g1) d
 have k2:c.natAbs ∣ b.natAbs:=by
  have d:c.natAbs ∣ u.natAbs * b.natAbs:=⟨t.natAbs,by rw [<- BH,<- h,BH,Nat.mul_comm]⟩
  exact Cz (show Nat.Coprime c.natAbs u.natAbs by unfold Nat.Coprime; rw [CS]; exact g2) d
 have e:b=c:=by
  have:=Nat.dvd_antisymm k1 k2
  omega
 subst e
 exact ⟨Int.eq_of_mul_eq_mul_right (by omega) h,rfl⟩
theorem ZjO {t b:Int} (hb:0 < b) (g:Nat.gcd t.natAbs b.natAbs=1):cB t b=t/\bQ t b=b:=by
 have e:den t b=1:=by
  unfold den iA
  rw [if_neg (by omega),g]
  rfl
 unfold cB bQ
 rw [e]
 exact ⟨Int.fdiv_one _,Int.fdiv_one _⟩
end Gc
namespace L2
def Codes (x:Str):Prop:=∀ c∈x.cps.toList,c < 16 ^ 8
theorem Codes.of (s:String):Codes (Str.ofString s):=by
 intro c hc
 rw [Str.ofString_eq_toList] at hc
 simp only [AV,List.toList_toArray] at hc
 obtain ⟨ch,_,rfl⟩:=hc
 exact AD ch.val.toNat_lt (by decide)
inductive Tr (α:Type) where
 | ret (a:α)
 | draw (n:Int) (k:Int->Tr α)
 | fail
namespace Tr
variable {α β γ:Type}
noncomputable def bind:Tr α->(α->Tr β)->Tr β
 | .ret a,f=>f a
 | .draw n k,f=>.draw n λr=>(k r).bind f
 | .fail,_=>.fail
@[simp] theorem ret_bind (a:α) (f:α->Tr β):(Tr.ret a).bind f=f a:=rfl
@[simp] theorem draw_bind (n:Int) (k:Int->Tr α) (f:α->Tr β):(Tr.draw n k).bind f=.draw n λr=>(k r).bind f:=rfl
@[simp] theorem fail_bind (f:α->Tr β):(Tr.fail:Tr α).bind f=.fail:=rfl
@[simp] theorem bind_assoc:∀ (t:Tr α) (f:α->Tr β) (g:β->Tr γ),(t.bind f).bind g=t.bind λa=>(f a).bind g
 | .ret a,f,g=>rfl
 | .draw n k,f,g=>by simp only [draw_bind]; congr 1; funext r; exact bind_assoc (k r) f g
 | .fail,f,g=>rfl
noncomputable def of:Option α->Tr α
 | some a=>.ret a
 | none=>.fail
@[simp] theorem of_some (a:α):Tr.of (some a)=.ret a:=rfl
@[simp] theorem of_none:Tr.of (none:Option α)=.fail:=rfl
noncomputable def ok:Tr α->Nat->(Nat->α->Prop)->Prop
 | .ret a,m,Q=>Q m a
 | .draw n k,m,Q=>m < 400000/\0 < n/\n < 1073741824/\∀ r,0<=r->r < n->(k r).ok (m+1) Q
 | .fail,_,_=>False
theorem ok_mono:∀ {t:Tr α} {m:Nat} {Q Q':Nat->α->Prop},t.ok m Q->(∀ m a,Q m a->Q' m a)->t.ok m Q'
 | .ret a,m,_,_,h,hq=>hq m a h
 | .draw n k,m,_,_,⟨h1,h2,h3,h⟩,hq=>⟨h1,h2,h3,λr h0 h1=>ok_mono (h r h0 h1) hq⟩
theorem ok_bind:∀ {t:Tr α} {f:α->Tr β} {m:Nat} {Q:Nat->β->Prop},(t.bind f).ok m Q ↔ t.ok m λm' a=>(f a).ok m' Q
 | .ret a,f,m,Q=>Iff.rfl
 | .draw n k,f,m,Q=>by
  show (_/\_/\_/\∀ r,_) ↔ (_/\_/\_/\∀ r,_)
  refine and_congr_right λ_=>and_congr_right λ_=>and_congr_right λ_=>forall_congr' λr=>forall_congr' λ_=>forall_congr' λ_=>ok_bind
 | .fail,f,m,Q=>Iff.rfl
theorem ok_of {o:Option α} {m:Nat} {Q:Nat->α->Prop} (h:(Tr.of o).ok m Q):∃ a,o=some a/\Q m a:=by
 cases o with
 | none=>exact h.elim
 | some a=>exact ⟨a,rfl,h⟩
noncomputable def all:Tr α->Nat->(α->Prop)->Prop
 | .ret a,_,P=>P a
 | .draw w k,n+1,P=>0 < w/\w < 1073741824/\∀ r,0<=r->r < w->(k r).all n P
 | .draw _ _,0,_=>False
 | .fail,_,_=>False
theorem all_ok:∀ {t:Tr α} {n m:Nat} {P:α->Prop},t.all n P->m+n<=400000->t.ok m λm' a=>m'<=m+n/\P a
 | .ret a,n,m,P,h,hm=>⟨by omega,h⟩
 | .draw w k,n+1,m,P,⟨h1,h2,h⟩,hm=>⟨by omega,h1,h2,λr a b=>ok_mono (all_ok (h r a b) (by omega)) λm' x hz0=>by
  obtain ⟨p,q⟩:=hz0
  exact ⟨by omega,q⟩⟩
theorem all_mono:∀ {t:Tr α} {n n':Nat} {P P':α->Prop},t.all n P->n<=n'->(∀ a,P a->P' a)->t.all n' P'
 | .ret a,n,n',P,P',h,hn,hp=>hp a h
 | .draw w k,n+1,n'+1,P,P',⟨h1,h2,h⟩,hn,hp=>⟨h1,h2,λr a b=>all_mono (h r a b) (by omega) hp⟩
 | .draw w k,n+1,0,P,P',h,hn,hp=>by omega
theorem all_bind:∀ {t:Tr α} {f:α->Tr β} {n n':Nat} {P:α->Prop} {P':β->Prop},t.all n P->(∀ a,P a->(f a).all n' P')->(t.bind f).all (n+n') P'
 | .ret a,f,n,n',P,P',h,hf=>all_mono (hf a h) (by omega) λ_ x=>x
 | .draw w k,f,n+1,n',P,P',⟨h1,h2,h⟩,hf=>by
  have e:n+1+n'=(n+n')+1:=by omega
  rw [e]
  exact ⟨h1,h2,λr a b=>all_bind (h r a b) hf⟩
end Tr
abbrev Sub (G H:Hp):Prop:=∀ b o,G b=some o->H b=some o
structure Pk where
 is:HO->Hp->Nat->Prop
 mono:∀ {o:HO} {G G':Hp} {m:Nat},Sub G G'->is o G m->is o G' m
structure Wd (PK:Pk) (pa:Addr) (m:Nat) (G H:Hp):Prop where
 sub:Sub G H
 gpa:G pa=none
 pen:∃ o,H pa=some o/\PK.is o G m
structure Stp (pa:Addr) (G H G' H':Hp):Prop where
 gs:Sub G G'
 gn:∀ b o,G' b=some o->G b=some o\/H b=none\/(b≠pa/\∃ xs,H b=some (.tup xs))
 hk:∀ b o,H b=some o->b≠pa->H' b=some o
theorem Stp.refl {pa:Addr} {G H:Hp}:Stp pa G H G H:=⟨λ_ _ h=>h,λ_ _ h=>.inl h,λ_ _ h _=>h⟩
theorem Stp.trans {pa:Addr} {G H G1 H1 G2 H2:Hp} (a:Stp pa G H G1 H1) (b:Stp pa G1 H1 G2 H2) (hp:∃ o,H1 pa=some o):Stp pa G H G2 H2:=by
 refine ⟨λc o h=>b.gs c o (a.gs c o h),λc o h=>?_,λc o h n=>b.hk c o (a.hk c o h n) n⟩
 rcases b.gn c o h with z | z | ⟨hc,xs,z⟩
 ·exact a.gn c o z
 ·refine .inr (.inl ?_)
  cases e:H c with
  | none=>rfl
  | some u =>
   by_cases hc:c=pa
   ·subst hc
    obtain ⟨o',z'⟩:=hp
    rw [z'] at z; cases z
   ·rw [a.hk c u e hc] at z; cases z
 ·cases e:H c with
  | none=>exact .inr (.inl rfl)
  | some u =>
   rw [a.hk c u e hc] at z
   cases z
   exact .inr (.inr ⟨hc,xs,rfl⟩)
section
variable {PK:Pk} {pa:Addr} {m:Nat} {G H:Hp}
theorem Wd.some (w:Wd PK pa m G H):∃ o,H pa=some o:=let ⟨o,h,_⟩:=w.pen; ⟨o,h⟩
theorem Wd.ne (w:Wd PK pa m G H) {p:Addr} (hp:H p=none):pa≠p:=λe=>by
 obtain ⟨o,h⟩:=w.some
 rw [e,hp] at h; cases h
theorem Sub.new {p:Addr} {o:HO} (hp:G p=none):Sub G (upd G p o):=λb u h=>by rw [aM (dm h hp)]; exact h
theorem Wd.gnone (w:Wd PK pa m G H) {p:Addr} (hp:H p=none):G p=none:=by
 cases e:G p with
 | none=>rfl
 | some o=>rw [w.sub p o e] at hp; cases hp
theorem Sub.upd2 {p:Addr} {o:HO} (s:Sub G H):Sub (upd G p o) (upd H p o):=λb u h=>by
 by_cases e:b=p
 ·subst e; rw [bY] at h ⊢; exact h
 ·rw [aM e] at h ⊢; exact s b u h
theorem Wd.new (w:Wd PK pa m G H) {p:Addr} {o:HO} (hp:H p=none):Wd PK pa m (upd G p o) (upd H p o)/\Stp pa G H (upd G p o) (upd H p o):=by
 have hg:=w.gnone hp
 have hne:=w.ne hp
 refine ⟨⟨w.sub.upd2,by rw [aM hne]; exact w.gpa,?_⟩,⟨Sub.new hg,λb u h=>?_,λb u h _=>by rw [aM (dm h hp)]; exact h⟩⟩
 ·obtain ⟨u,h,q⟩:=w.pen
  exact ⟨u,by rw [aM hne]; exact h,PK.mono (Sub.new hg) q⟩
 ·by_cases e:b=p
  ·subst e; exact .inr (.inl hp)
  ·rw [aM e] at h; exact .inl h
theorem Wd.own (w:Wd PK pa m G H) {p:Addr} {o:HO} (hp:H p=none):Wd PK pa m G (upd H p o)/\Stp pa G H G (upd H p o):=by
 have hne:=w.ne hp
 refine ⟨⟨λb u h=>by rw [aM (dm (w.sub b u h) hp)]; exact w.sub b u h,w.gpa,?_⟩,⟨λ_ _ h=>h,λ_ _ h=>.inl h,λb u h _=>by rw [aM (dm h hp)]; exact h⟩⟩
 obtain ⟨u,h,q⟩:=w.pen
 exact ⟨u,by rw [aM hne]; exact h,q⟩
theorem Wd.freeze (w:Wd PK pa m G H) {p:Addr} {o:HO} (hp:H p=Option.some o) (hg:G p=none) (hne:pa≠p):Wd PK pa m (upd G p o) H:=by
 refine ⟨λb u h=>?_,by rw [aM hne]; exact w.gpa,?_⟩
 ·by_cases e:b=p
  ·subst e; rw [bY] at h; rw [hp]; exact h
  ·rw [aM e] at h; exact w.sub b u h
 ·obtain ⟨u,h,q⟩:=w.pen
  exact ⟨u,h,PK.mono (Sub.new hg) q⟩
def Kn (PK:Pk) (pa:Addr) (m:Nat) (G H:Hp) (x:PyData) (Q:VK):Prop:=∀ v G' H',Stp pa G H G' H'->Wd PK pa m G' H'->Dn G' v x->Q v H'
variable {x:PyData} {Q:VK} {v:V} {vs:D3} {ds:DY} {p:Addr}
theorem Kn.here (k:Kn PK pa m G H x Q) (w:Wd PK pa m G H) (d:Dn G v x):Q v H:=k v G H .refl w d
theorem Kn.tup (k:Kn PK pa m G H (.tuple ds) Q) (w:Wd PK pa m G H) (d:DnAll G vs ds) (hp:H p=none):Q (.ref p) (upd H p (.tup vs)):=by
 obtain ⟨w1,s1⟩:=w.new (o:=.tup vs) hp
 exact k _ _ _ s1 w1 (.tup bY (DnAll.mono s1.gs d))
theorem Kn.lst (k:Kn PK pa m G H (.list ds) Q) (w:Wd PK pa m G H) (d:DnAll G vs ds) (hp:H p=none):Q (.ref p) (upd H p (.lst vs)):=by
 obtain ⟨w1,s1⟩:=w.new (o:=.lst vs) hp
 exact k _ _ _ s1 w1 (.lst bY (DnAll.mono s1.gs d))
theorem Kn.later {G1 H1:Hp} (k:Kn PK pa m G H x Q) (s:Stp pa G H G1 H1) (hp:∃ o,H1 pa=Option.some o):Kn PK pa m G1 H1 x Q:=λv G' H' s' w d=>k v G' H' (s.trans s' hp) w d
end
inductive Sl where
 | un | d (x:PyData) | own (xs:DY) | pen | dic (kvs:List (Int×PyData)) | fn (a:Addr) | dip (kvs:List (DZ×PyData))
inductive KD (G:Hp):List (aL×V)->List (Int×PyData)->Prop
 | nil:KD G [] []
 | cons {i:Int} {v:V} {d:PyData} {ks:List (aL×V)} {kvs:List (Int×PyData)}:Dn G v d->KD G ks kvs->KD G ((.inl i,v)::ks) ((i,d)::kvs)
theorem KD.mono {G G':Hp} (s:Sub G G') {ks:List (aL×V)} {kvs:List (Int×PyData)} (h:KD G ks kvs):KD G' ks kvs:=by
 induction h with
 | nil=>exact .nil
 | cons h _ ih=>exact .cons (h.mono s) ih
noncomputable abbrev ci (k:DZ×V):List aL×V:=(k.1.map Sum.inl,k.2)
inductive KP (G:Hp):List (DZ×V)->List (DZ×PyData)->Prop
 | nil:KP G [] []
 | cons {i:DZ} {v:V} {d:PyData} {ks:List (DZ×V)} {kvs:List (DZ×PyData)}:Dn G v d->KP G ks kvs->KP G ((i,v)::ks) ((i,d)::kvs)
theorem KP.mono {G G':Hp} (s:Sub G G') {ks:List (DZ×V)} {kvs:List (DZ×PyData)} (h:KP G ks kvs):KP G' ks kvs:=by
 induction h with
 | nil=>exact .nil
 | cons h _ ih=>exact .cons (h.mono s) ih
inductive SlOk (pa:Addr) (H₀ G H:Hp):Option V->Sl->Prop
 | un {o:Option V}:SlOk pa H₀ G H o .un
 | d {v:V} {x:PyData}:Dn G v x->SlOk pa H₀ G H (some v) (.d x)
 | own {p:Addr} {vs:D3} {xs:DY}:H p=some (.lst vs)->G p=none->H₀ p=none->DnAll G vs xs->SlOk pa H₀ G H (some (.ref p)) (.own xs)
 | pen:SlOk pa H₀ G H (some (.ref pa)) .pen
 | fn {a:Addr}:SlOk pa H₀ G H (some (.ref a)) (.fn a)
 | dic {p:Addr} {ks:List (aL×V)} {kvs:List (Int×PyData)}:H p=some (.dK ks)->G p=none->H₀ p=none->KD G ks kvs->SlOk pa H₀ G H (some (.ref p)) (.dic kvs)
 | dip {p:Addr} {ks:List (DZ×V)} {kvs:List (DZ×PyData)}:H p=some (.dT (ks.map ci))->G p=none->H₀ p=none->KP G ks kvs->SlOk pa H₀ G H (some (.ref p)) (.dip kvs)
structure Rl (PK:Pk) (pa:Addr) (D6 H₀:Hp) (m:Nat) (σ:St) (ρ:List Sl) (G H:Hp):Prop where
 wd:Wd PK pa m G H
 st:Stp pa D6 H₀ G H
 p0:∃ o,H₀ pa=some o
 sl:∀ (i:Nat) (s:Sl),ρ[i]?=some s->∃ o,σ[i]?=some o/\SlOk pa H₀ G H o s
 len:ρ.length=σ.length
 dj:∀ (i j:Nat) (xs ys:DY),i≠j->ρ[i]?=some (.own xs)->ρ[j]?=some (.own ys)->σ[i]?≠σ[j]?
 dj2:∀ (i j:Nat) (xs ys:List (Int×PyData)),i≠j->ρ[i]?=some (.dic xs)->ρ[j]?=some (.dic ys)->σ[i]?≠σ[j]?
section
variable {PK:Pk} {pa:Addr} {D6 H₀ G H:Hp} {m:Nat} {σ:St} {ρ:List Sl}
theorem oM {α:Type} {l:List α} {k i:Nat} {x y:α} (h:(l.set k x)[i]?=some y) (hn:x≠y):k≠i/\l[i]?=some y:=by
 have hi:k≠i:=λe=>by
  subst e
  have hl:k < l.length:=by
   have:=(Ay.mp h).1
   rwa [A2] at this
  rw [AT hl] at h
  exact hn (A9 h)
 rw [AN hi] at h
 exact ⟨hi,h⟩
theorem vB {α:Type} {T:α->Sl} {k:Nat} {x:Sl} {v:Option V} (dj:∀ (i j:Nat) (a b:α),i≠j->ρ[i]?=some (T a)->ρ[j]?=some (T b)->σ[i]?≠σ[j]?) (hn:∀ a,x≠T a) :
  ∀ (i j:Nat) (a b:α),i≠j->(ρ.set k x)[i]?=some (T a)->(ρ.set k x)[j]?=some (T b)->(σ.set k v)[i]?≠(σ.set k v)[j]?:=λi j a b hij h1 h2=>by
 obtain ⟨hi,h1⟩:=oM h1 (hn a)
 obtain ⟨hj,h2⟩:=oM h2 (hn b)
 rw [AN hi,AN hj]
 exact dj i j a b hij h1 h2
theorem lA {α:Type} {T:α->Sl} {k:Nat} {x:Sl} (dj:∀ (i j:Nat) (a b:α),i≠j->ρ[i]?=some (T a)->ρ[j]?=some (T b)->σ[i]?≠σ[j]?) (hn:∀ a,x≠T a) :
  ∀ (i j:Nat) (a b:α),i≠j->(ρ.set k x)[i]?=some (T a)->(ρ.set k x)[j]?=some (T b)->σ[i]?≠σ[j]?:=λi j a b hij h1 h2 =>
 dj i j a b hij (oM h1 (hn a)).2 (oM h2 (hn b)).2
theorem SlOk.step {G' H':Hp} {o:Option V} {s:Sl} (k:SlOk pa H₀ G H o s) (hp0:∃ o,H₀ pa=some o) (st:Stp pa G H G' H'):SlOk pa H₀ G' H' o s:=by
 cases k with
 | un=>exact .un
 | d h=>exact .d (h.mono st.gs)
 | pen=>exact .pen
 | fn=>exact .fn
 | @own p vs xs h1 h2 h3 h4 =>
  have hne:p≠pa:=λe=>by
   obtain ⟨u,hu⟩:=hp0
   rw [<- e,h3] at hu; cases hu
  refine .own (st.hk _ _ h1 hne) ?_ h3 (DnAll.mono st.gs h4)
  cases e:G' p with
  | none=>rfl
  | some u =>
   rcases st.gn p u e with z | z | ⟨_,_,z⟩
   ·rw [h2] at z; cases z
   ·rw [h1] at z; cases z
   ·rw [h1] at z; cases z
 | @dic p ks kvs h1 h2 h3 h4 =>
  have hne:p≠pa:=λe=>by
   obtain ⟨u,hu⟩:=hp0
   rw [<- e,h3] at hu; cases hu
  refine .dic (st.hk _ _ h1 hne) ?_ h3 (h4.mono st.gs)
  cases e:G' p with
  | none=>rfl
  | some u =>
   rcases st.gn p u e with z | z | ⟨_,_,z⟩
   ·rw [h2] at z; cases z
   ·rw [h1] at z; cases z
   ·rw [h1] at z; cases z
 | @dip p ks kvs h1 h2 h3 h4 =>
  have hne:p≠pa:=λe=>by
   obtain ⟨u,hu⟩:=hp0
   rw [<- e,h3] at hu; cases hu
  refine .dip (st.hk _ _ h1 hne) ?_ h3 (h4.mono st.gs)
  cases e:G' p with
  | none=>rfl
  | some u =>
   rcases st.gn p u e with z | z | ⟨_,_,z⟩
   ·rw [h2] at z; cases z
   ·rw [h1] at z; cases z
   ·rw [h1] at z; cases z
theorem Rl.step {G' H':Hp} {m':Nat} (r:Rl PK pa D6 H₀ m σ ρ G H) (s:Stp pa G H G' H') (w:Wd PK pa m' G' H'):Rl PK pa D6 H₀ m' σ ρ G' H' :=
 ⟨w,r.st.trans s r.wd.some,r.p0,λi sl h=>let ⟨o,h1,h2⟩:=r.sl i sl h; ⟨o,h1,h2.step r.p0 s⟩,r.len,r.dj,r.dj2⟩
theorem Rl.set (r:Rl PK pa D6 H₀ m σ ρ G H) {v:V} {x:PyData} (d:Dn G v x) (k:Nat):Rl PK pa D6 H₀ m (σ.set k (some v)) (ρ.set k (.d x)) G H:=by
 refine ⟨r.wd,r.st,r.p0,λi s h=>?_,by rw [A2,A2]; exact r.len,λi j xs ys hij h1 h2=>?_,vB r.dj2 λa h=>by cases h⟩
 ·by_cases e:k=i
  ·subst e
   have hl:k < ρ.length:=by
    have:=(Ay.mp h).1
    rwa [A2] at this
   rw [AT hl] at h
   cases h
   exact ⟨_,AT (by rw [<- r.len]; exact hl),.d d⟩
  ·rw [AN e] at h ⊢
   exact r.sl i s h
 ·have hi:k≠i:=λe=>by
   subst e
   have hl:k < ρ.length:=by
    have:=(Ay.mp h1).1
    rwa [A2] at this
   rw [AT hl] at h1; cases h1
  have hj:k≠j:=λe=>by
   subst e
   have hl:k < ρ.length:=by
    have:=(Ay.mp h2).1
    rwa [A2] at this
   rw [AT hl] at h2; cases h2
  rw [AN hi] at h1 ⊢
  rw [AN hj] at h2 ⊢
  exact r.dj i j xs ys hij h1 h2
theorem Rl.setO (r:Rl PK pa D6 H₀ m σ ρ G H) {p:Addr} {vs:D3} {xs:DY} (h1:H p=some (.lst vs)) (h2:G p=none) (h3:H₀ p=none) (h4:DnAll G vs xs)
  (hd:∀ (i:Nat) (ys:DY),ρ[i]?=some (.own ys)->σ[i]?≠some (some (.ref p))) (k:Nat):Rl PK pa D6 H₀ m (σ.set k (some (.ref p))) (ρ.set k (.own xs)) G H:=by
 have up:∀ {i:Nat} {s:Sl},(ρ.set k (.own xs))[i]?=some s->i=k->s=.own xs/\(σ.set k (some (V.ref p)))[i]?=some (some (.ref p)):=λ{i s} h e=>by
  subst e
  have hl:i < ρ.length:=by
   have:=(Ay.mp h).1
   rwa [A2] at this
  rw [AT hl] at h
  cases h
  exact ⟨rfl,AT (by rw [<- r.len]; exact hl)⟩
 refine ⟨r.wd,r.st,r.p0,λi s h=>?_,by rw [A2,A2]; exact r.len,λi j ys zs hij e1 e2=>?_,vB r.dj2 λa h=>by cases h⟩
 ·by_cases e:i=k
  ·obtain ⟨e1,e2⟩:=up h e
   subst e1
   exact ⟨_,e2,.own h1 h2 h3 h4⟩
  ·rw [AN (Ne.symm e)] at h ⊢
   exact r.sl i s h
 ·by_cases ei:i=k
  ·have q:=(up e1 ei).2
   have hj:k≠j:=λe=>hij (ei.trans e)
   rw [q]
   rw [AN hj] at e2 ⊢
   exact λz=>hd j zs e2 z.symm
  ·rw [AN (Ne.symm ei)] at e1 ⊢
   by_cases ej:j=k
   ·rw [(up e2 ej).2]
    exact hd i ys e1
   ·rw [AN (Ne.symm ej)] at e2 ⊢
    exact r.dj i j ys zs hij e1 e2
theorem Rl.h0 (r:Rl PK pa D6 H₀ m σ ρ G H) {p:Addr} (hp:H p=none):H₀ p=none:=by
 cases e:H₀ p with
 | none=>rfl
 | some u =>
  by_cases hc:p=pa
  ·subst hc
   obtain ⟨o,h⟩:=r.wd.some
   rw [hp] at h; cases h
  ·rw [r.st.hk p u e hc] at hp; cases hp
theorem Rl.apart (r:Rl PK pa D6 H₀ m σ ρ G H) {p:Addr} (hp:H p=none) (i:Nat) (ys:DY) (h:ρ[i]?=some (.own ys)):σ[i]?≠some (some (.ref p)):=λe=>by
 obtain ⟨o,h1,h2⟩:=r.sl i _ h
 rw [e] at h1
 cases h1
 cases h2 with
 | own a _ _ _=>rw [hp] at a; cases a
theorem Rl.change (r:Rl PK pa D6 H₀ m σ ρ G H) {k:Nat} {xs ys:DY} {p:Addr} {ws:D3} (hk:ρ[k]?=some (.own xs)) (hσ:σ[k]?=some (some (.ref p))) (d:DnAll G ws ys) :
  Rl PK pa D6 H₀ m σ (ρ.set k (.own ys)) G (upd H p (.lst ws)):=by
 obtain ⟨o,h1,h2⟩:=r.sl k _ hk
 rw [hσ] at h1
 cases h1
 cases h2 with
 | @own _ vs _ a1 a2 a3 a4 =>
  have hne:pa≠p:=λe=>by
   obtain ⟨u,hu⟩:=r.p0
   rw [e,a3] at hu; cases hu
  have hl:k < ρ.length:=(Ay.mp hk).1
  refine ⟨⟨λb o h=>?_,r.wd.gpa,?_⟩,⟨r.st.gs,r.st.gn,λb o h hb=>?_⟩,r.p0,λi s h=>?_,by rw [A2]; exact r.len,λi j us ws hij e1 e2=>?_,lA r.dj2 λa h=>by cases h⟩
  ·rw [aM (λe=>by subst e; rw [a2] at h; cases h)]
   exact r.wd.sub b o h
  ·obtain ⟨u,h,q⟩:=r.wd.pen
   exact ⟨u,by rw [aM hne]; exact h,q⟩
  ·rw [aM (λe=>by subst e; rw [a3] at h; cases h)]
   exact r.st.hk b o h hb
  ·by_cases e:k=i
   ·subst e
    rw [AT hl] at h
    cases h
    exact ⟨_,hσ,.own bY a2 a3 d⟩
   ·rw [AN e] at h
    obtain ⟨o,q1,q2⟩:=r.sl i s h
    refine ⟨o,q1,?_⟩
    cases q2 with
    | un=>exact .un
    | d z=>exact .d z
    | pen=>exact .pen
    | fn=>exact .fn
    | dic b1 b2 b3 b4=>exact .dic (by rw [aM (λe2=>by subst e2; rw [a1] at b1; cases b1)]; exact b1) b2 b3 b4
    | dip b1 b2 b3 b4=>exact .dip (by rw [aM (λe2=>by subst e2; rw [a1] at b1; cases b1)]; exact b1) b2 b3 b4
    | own b1 b2 b3 b4 =>
     refine .own ?_ b2 b3 b4
     rw [aM]
     ·exact b1
     ·intro e2
      subst e2
      exact r.dj k i _ _ e hk h (by rw [hσ,q1])
  ·by_cases ei:k=i
   ·subst ei
    rw [AN hij] at e2
    exact r.dj k j _ _ hij hk e2
   ·rw [AN ei] at e1
    by_cases ej:k=j
    ·subst ej
     exact r.dj i k _ _ hij e1 hk
    ·rw [AN ej] at e2
     exact r.dj i j _ _ hij e1 e2
noncomputable def fz (k:Nat) (ρ:List Sl):List Sl:=match ρ[k]? with
 | some (.own xs)=>ρ.set k (.d (.list xs))
 | _=>ρ
theorem Rl.freeze (r:Rl PK pa D6 H₀ m σ ρ G H) (k:Nat):∃ G',Sub G G'/\Rl PK pa D6 H₀ m σ (fz k ρ) G' H:=by
 unfold fz
 split
 ·rename_i xs hk
  obtain ⟨o,h1,h2⟩:=r.sl k _ hk
  cases h2 with
  | @own p vs _ a1 a2 a3 a4 =>
   have hne:pa≠p:=λe=>by
    obtain ⟨u,hu⟩:=r.p0
    rw [e,a3] at hu; cases hu
   have hl:k < ρ.length:=(Ay.mp hk).1
   have sb:Sub G (upd G p (.lst vs)):=Sub.new a2
   refine ⟨upd G p (.lst vs),sb,r.wd.freeze a1 a2 hne,⟨λb o h=>sb b o (r.st.gs b o h),λb o h=>?_,r.st.hk⟩,r.p0,λi s h=>?_,by rw [A2]; exact r.len,λi j us ws hij e1 e2=>?_,lA r.dj2 λa h=>by cases h⟩
   ·by_cases e:b=p
    ·subst e; exact .inr (.inl a3)
    ·rw [aM e] at h; exact r.st.gn b o h
   ·by_cases e:k=i
    ·subst e
     rw [AT hl] at h
     cases h
     exact ⟨_,h1,.d (.lst bY (DnAll.mono sb a4))⟩
    ·rw [AN e] at h
     obtain ⟨o,q1,q2⟩:=r.sl i s h
     refine ⟨o,q1,?_⟩
     cases q2 with
     | un=>exact .un
     | d z=>exact .d (z.mono sb)
     | pen=>exact .pen
     | fn=>exact .fn
     | dic b1 b2 b3 b4=>exact .dic b1 (by rw [aM (λe2=>by subst e2; rw [a1] at b1; cases b1)]; exact b2) b3 (b4.mono sb)
     | dip b1 b2 b3 b4=>exact .dip b1 (by rw [aM (λe2=>by subst e2; rw [a1] at b1; cases b1)]; exact b2) b3 (b4.mono sb)
     | own b1 b2 b3 b4 =>
      refine .own b1 ?_ b3 (DnAll.mono sb b4)
      rw [aM]
      ·exact b2
      ·intro e2
       subst e2
       exact r.dj k i _ _ e hk h (by rw [h1,q1])
   ·have hi:k≠i:=λe=>by subst e; rw [AT hl] at e1; cases e1
    have hj:k≠j:=λe=>by subst e; rw [AT hl] at e2; cases e2
    rw [AN hi] at e1
    rw [AN hj] at e2
    exact r.dj i j _ _ hij e1 e2
 ·exact ⟨G,λ_ _ h=>h,r⟩
end
def TAe (PK:Pk) (i:List Sl->Tr PyData):TE:=λσ H Q=>∃ pa D6 H₀ m ρ G,Rl PK pa D6 H₀ m σ ρ G H/\(i ρ).ok m λm' x=>Kn PK pa m' G H x Q
def TAt (PK:Pk) (i:List Sl->Tr Bool):TT:=λσ H Q=>∃ pa D6 H₀ m ρ G,Rl PK pa D6 H₀ m σ ρ G H/\(i ρ).ok m λm' b=>∀ G' H',Stp pa G H G' H'->Wd PK pa m' G' H'->Q b H'
def TAd (PK:Pk) (i:List Sl->Tr DY):TA:=λσ H Q=>∃ pa D6 H₀ m ρ G,Rl PK pa D6 H₀ m σ ρ G H/\(i ρ).ok m λm' xs=>∀ vs G' H',Stp pa G H G' H'->Wd PK pa m' G' H'->DnAll G' vs xs->Q vs H'
def Ko1 (PK:Pk) (pa:Addr) (m:Nat) (G H:Hp) (xs:DY) (Q:VK):Prop:=∀ p vs G' H',Stp pa G H G' H'->Wd PK pa m G' H'->H p=none->G' p=none->H' p=some (.lst vs)->DnAll G' vs xs->Q (.ref p) H'
def eG (PK:Pk) (i:List Sl->Tr DY):TE:=λσ H Q=>∃ pa D6 H₀ m ρ G,Rl PK pa D6 H₀ m σ ρ G H/\(i ρ).ok m λm' xs=>Ko1 PK pa m' G H xs Q
inductive ArOk (pa:Addr) (G:Hp):V->Sl->Prop
 | d {v:V} {x:PyData}:Dn G v x->ArOk pa G v (.d x)
 | pen:ArOk pa G (.ref pa) .pen
 | fn {a:Addr}:ArOk pa G (.ref a) (.fn a)
inductive ArsOk (pa:Addr) (G:Hp):List V->List Sl->Prop
 | nil:ArsOk pa G [] []
 | cons {v:V} {vs:D3} {s:Sl} {ss:List Sl}:ArOk pa G v s->ArsOk pa G vs ss->ArsOk pa G (v::vs) (s::ss)
theorem ArsOk.length {pa:Addr} {G:Hp} {vs:D3} {ss:List Sl} (h:ArsOk pa G vs ss):vs.length=ss.length:=by
 induction h with
 | nil=>rfl
 | cons h t ih=>exact congrArg (·+1) ih
def TAa (PK:Pk) (i:List Sl->Tr (List Sl)):TA:=λσ H Q=>∃ pa D6 H₀ m ρ G,Rl PK pa D6 H₀ m σ ρ G H/\(i ρ).ok m λm' as=>∀ vs G' H',Stp pa G H G' H'->Wd PK pa m' G' H'->ArsOk pa G' vs as->Q vs H'
inductive Re where
 | d (x:PyData) | own (xs:DY)
noncomputable def Re.val:Re->PyData
 | .d x=>x
 | .own xs=>.list xs
@[simp] theorem Re.val_d (x:PyData):(Re.d x).val=x:=rfl
@[simp] theorem Re.val_own (xs:DY):(Re.own xs).val=.list xs:=rfl
inductive Ou where
 | next (ρ:List Sl) | ret (r:Re) | brk (ρ:List Sl) | cont (ρ:List Sl)
abbrev DP:=List Sl->Tr PyData
abbrev DQ:=List Sl->Tr (List PyData)
abbrev DR:=List Sl->Tr Bool
abbrev DS:=List Sl->Tr Ou
abbrev DT:=List Sl->Tr Re
abbrev DU:=List PyData->List Sl->Option (List Sl)
abbrev DV:=PyData->List Sl->Option (List Sl)
abbrev D5:=List Sl
noncomputable def ZnU (H₀ G H:Hp) (v:V):Re->Prop
 | .d x=>Dn G v x
 | .own xs=>∃ p vs,v=.ref p/\H p=some (.lst vs)/\G p=none/\H₀ p=none/\DnAll G vs xs
def Kr (PK:Pk) (pa:Addr) (m:Nat) (D6 H₀:Hp) (r:Re) (Q:VK):Prop:=∀ v G H,Stp pa D6 H₀ G H->Wd PK pa m G H->ZnU H₀ G H v r->Q v H
noncomputable def Ko (PK:Pk) (pa:Addr) (D6 H₀ Gs:Hp) (D:Ends) (m:Nat):Ou->Prop
 | .next ρ=>∀ σ G H,Sub Gs G->Rl PK pa D6 H₀ m σ ρ G H->D.nx σ H
 | .ret r=>Kr PK pa m D6 H₀ r D.rt
 | .brk ρ=>∀ σ G H,Sub Gs G->Rl PK pa D6 H₀ m σ ρ G H->D.bk σ H
 | .cont ρ=>∀ σ G H,Sub Gs G->Rl PK pa D6 H₀ m σ ρ G H->D.ct σ H
def bH (PK:Pk) (i:DS):TS:=λD σ H=>∃ pa D6 H₀ m ρ G,Rl PK pa D6 H₀ m σ ρ G H/\(i ρ).ok m (Ko PK pa D6 H₀ G D)
theorem PE.imp {X:Cx} {e:Expr} {t t':TE} (h:PE X e t) (q:∀ σ H Q,t' σ H Q->t σ H Q):PE X e t':=λpins s σ H Q I z=>h pins s σ H Q I (q σ H Q z)
theorem PT.imp {X:Cx} {e:Expr} {t t':TT} (h:PT X e t) (q:∀ σ H Q,t' σ H Q->t σ H Q):PT X e t':=λpins s σ H Q I z=>h pins s σ H Q I (q σ H Q z)
theorem PW.imp {X:Cx} {e:Expr} {t t':TT} (h:PW X e t) (q:∀ σ H Q,t' σ H Q->t σ H Q):PW X e t':=λwh pins s σ H Q I z=>h wh pins s σ H Q I (q σ H Q z)
theorem PA.imp {X:Cx} {e:List Expr} {t t':TA} (h:PA X e t) (q:∀ σ H Q,t' σ H Q->t σ H Q):PA X e t':=λpos pins s σ H Q I z=>h pos pins s σ H Q I (q σ H Q z)
theorem PS.imp {X:Cx} {e:Stmt} {t t':TS} (h:PS X e t) (q:∀ D σ H,t' D σ H->t D σ H):PS X e t':=λpins s σ H D I z=>h pins s σ H D I (q D σ H z)
theorem PSs.imp {X:Cx} {e:List Stmt} {t t':TS} (h:PSs X e t) (q:∀ D σ H,t' D σ H->t D σ H):PSs X e t':=λpins s σ H D I z=>h pins s σ H D I (q D σ H z)
variable {PK:Pk} {X:Cx} {a b c e:Expr} {es:List Expr} {pos:Pos} {i j l:DP}
theorem TAe.then {σ:St} {H:Hp} {β:Type} {k:PyData->Tr β} {Z:Nat->β->Prop} {Q:VK} {pa:Addr} {D6 H₀ G:Hp} {m:Nat} {ρ:D5} (R:Rl PK pa D6 H₀ m σ ρ G H) (h:((i ρ).bind k).ok m Z)
  (hq:∀ m1 x v G1 H1,Stp pa G H G1 H1->Wd PK pa m1 G1 H1->Rl PK pa D6 H₀ m1 σ ρ G1 H1->Dn G1 v x->(k x).ok m1 Z->Q v H1):TAe PK i σ H Q:=by
 refine ⟨pa,D6,H₀,m,ρ,G,R,Tr.ok_mono (Tr.ok_bind.mp h) λm1 x hx v G1 H1 s1 w1 d1=>?_⟩
 exact hq m1 x v G1 H1 s1 w1 (R.step s1 w1) d1 hx
noncomputable def aa (k:Nat):DP:=λρ=>match ρ[k]? with
 | some (.d x)=>.ret x
 | _=>.fail
noncomputable def aC (d:PyData):DP:=λ_=>.ret d
theorem ac {k:Nat} (h:PE X e (gI k)):PE X e (TAe PK (aa k)):=h.imp λσ H Q hz0=>by
 obtain ⟨pa,D6,H₀,m,ρ,G,R,q⟩:=hz0
 unfold aa at q
 split at q
 ·rename_i x hx
  obtain ⟨o,h1,h2⟩:=R.sl k _ hx
  cases h2 with
  | d z=>exact ⟨_,h1,Kn.here q R.wd z⟩
 ·exact q.elim
theorem nO {v:V} {d:PyData} (h:PE X e (tC v)) (hd:∀ G,Dn G v d):PE X e (TAe PK (aC d)):=h.imp λσ H Q hz0=>by
 obtain ⟨pa,D6,H₀,m,ρ,G,R,q⟩:=hz0
 exact Kn.here q R.wd (hd G)
theorem aj {n:Int} {k pos}:PE X (.Constant (.int n) k pos) (TAe PK (aC (.int n))):=nO cq λ_=>.int n
theorem ce {n:Bool} {k pos}:PE X (.Constant (.bool n) k pos) (TAe PK (aC (.bool n))):=nO ZiZ λ_=>.bl n
theorem iI {k pos}:PE X (.Constant .none k pos) (TAe PK (aC .none)):=nO ZiQ λ_=>.non
theorem zV {x:Str} {k pos}:PE X (.Constant (.str x) k pos) (TAe PK (aC (.str x))):=nO ZiN λ_=>.str x
theorem gl {x:Str} {n:Int} (hg:Gl X x) (h:∃ t,X.mg x=some (.int n t)) (hd:(x == ("__debug__":Str))=false:=by decide):PE X (.Name x pos) (TAe PK (aC (.int n))):=nO (ZiT hg h hd) λ_=>.int n
def cN (r:R2) (f:DW):Prop:=∀ (PK:Pk) (pa:Addr) (m:Nat) (G H:Hp) (x y:V) (dx dy dz:PyData) (Q:VK),Wd PK pa m G H->Dn G x dx->Dn G y dy->f dx dy=some dz->Kn PK pa m G H dz Q->r x y H Q
noncomputable def ae (f:DW) (i j:DP):DP:=λρ=>(i ρ).bind λx=>(j ρ).bind λy=>Tr.of (f x y)
theorem vX {r:R2} {f:DW} (hv:cN r f):∀ σ H Q,TAe PK (ae f i j) σ H Q->kr r (TAe PK i) (TAe PK j) σ H Q:=by
 rintro σ H Q ⟨pa,D6,H₀,m,ρ,G,R,q⟩
 refine TAe.then R q λm1 x v G1 H1 s1 w1 R1 d1 q1=>?_
 refine TAe.then R1 q1 λm2 y u G2 H2 s2 w2 R2 d2 q2=>?_
 obtain ⟨z,hz,k⟩:=Tr.ok_of q2
 exact hv PK pa m2 G2 H2 v u x y z Q w2 (d1.mono s2.gs) d2 hz (Kn.later k (s1.trans s2 w1.some) w2.some)
theorem aw {op:Operator} {r:R2} {f:DW} (ho:OpR X (binaryOp op) r) (hv:cN r f) (ha:PE X a (TAe PK i)) (hb:PE X b (TAe PK j)):PE X (.BinOp a op b pos) (TAe PK (ae f i j)) :=
 (c8 ho ha hb).imp (vX hv)
theorem zX {op:CmpOp} {r:R2} {f:DW} (ho:OpR X (compareOp op) r) (hv:cN r f) (ha:PE X a (TAe PK i)) (hb:PE X b (TAe PK j)) (hm:behindInMarks op b=false):PE X (.Compare a [op] [b] pos) (TAe PK (ae f i j)) :=
 (ZiV ho ha hb hm).imp (vX hv)
theorem aA {r:R2} {f:DW} (hr:IxR X r) (hv:cN r f) (ha:PE X a (TAe PK i)) (hb:PE X b (TAe PK j)) (hs:Zf3 b):PE X (.Subscript a b pos) (TAe PK (ae f i j)) :=
 (gv hr ha hb hs).imp (vX hv)
noncomputable def jC:PyData->Option Bool
 | .bool b=>some b
 | _=>none
@[simp] theorem Zos (b:Bool):jC (.bool b)=some b:=rfl
noncomputable def bu (i:DP):DR:=λρ=>(i ρ).bind λx=>Tr.of (jC x)
theorem ZnN:∀ σ H Q,TAt PK (bu i) σ H Q->ow (TAe PK i) σ H Q:=by
 rintro σ H Q ⟨pa,D6,H₀,m,ρ,G,R,q⟩
 refine TAe.then R q λm1 x v G1 H1 s1 w1 R1 d1 q1=>?_
 obtain ⟨b,hb,k⟩:=Tr.ok_of q1
 cases d1 <;> simp only [jC] at hb <;> cases hb
 exact ⟨_,rfl,k G1 H1 s1 w1⟩
theorem ZgJ {t t':TE} (h:∀ σ H Q,t' σ H Q->t σ H Q):∀ σ H Q,ow t' σ H Q->ow t σ H Q:=λσ H Q z=>h σ H _ z
theorem bL {op:CmpOp} {r:R2} {f:DW} (ho:OpR X (compareOp op) r) (hv:cN r f) (ha:PE X a (TAe PK i)) (hb:PE X b (TAe PK j)) (hm:behindInMarks op b=false):PT X (.Compare a [op] [b] pos) (TAt PK (bu (ae f i j))) :=
 (mx ho ha hb hm).imp λσ H Q z=>ZgJ (vX hv) σ H Q (ZnN σ H Q z)
noncomputable def Zas:PyData->Option Bool
 | .bool b=>some b
 | .int n=>some (n != 0)
 | .none=>some false
 | .list xs=>some (!xs.isEmpty)
 | .tuple xs=>some (!xs.isEmpty)
 | _=>none
noncomputable def cU (i:DP):DR:=λρ=>(i ρ).bind λx=>Tr.of (Zas x)
theorem DnAll.isEmpty {H:Hp} {vs:D3} {ds:DY} (h:DnAll H vs ds):vs.isEmpty=ds.isEmpty:=by
 cases h <;> rfl
theorem dq (h:PE X e (TAe PK i)) (he:∀ whole,isTrue e X.env whole=(do let v <- whole; standAt e.pos; holding [v] (truthy v)):=by intro _; rfl):PT X e (TAt PK (cU i)):=(Ziq h he).imp λσ H Q hz0=>by
 obtain ⟨pa,D6,H₀,m,ρ,G,R,q⟩:=hz0
 refine TAe.then R q λm1 x v G1 H1 s1 w1 R1 d1 q1=>?_
 obtain ⟨b,hb,k⟩:=Tr.ok_of q1
 have fin:=k G1 H1 s1 w1
 cases d1 with
 | non=>cases hb; exact ⟨_,rfl,fin⟩
 | bl b=>cases hb; exact ⟨_,rfl,fin⟩
 | int n=>cases hb; exact ⟨_,rfl,fin⟩
 | str _=>cases hb
 | tup h1 h2=>cases hb; exact ⟨_,.inr (.inl ⟨_,SqT.of (w1.sub _ _ h1),rfl⟩),by rw [h2.isEmpty]; exact fin⟩
 | lst h1 h2=>cases hb; exact ⟨_,.inl ⟨_,SqL.of (w1.sub _ _ h1),rfl⟩,by rw [h2.isEmpty]; exact fin⟩
 | dct _ _=>cases hb
 | dcp _ _ _=>cases hb
noncomputable def vY (i j:DR):DR:=λρ=>(i ρ).bind λx=>if x=true then j ρ else .ret false
noncomputable def eE (i j:DR):DR:=λρ=>(i ρ).bind λx=>if x=true then .ret true else j ρ
noncomputable def dw (i:DR):DR:=λρ=>(i ρ).bind λx=>.ret (!x)
variable {p q:DR} {rest:List Expr}
theorem TAt.then {σ:St} {H:Hp} {β:Type} {k:Bool->Tr β} {Z:Nat->β->Prop} {Q:Bool->Hp->Prop} {pa:Addr} {D6 H₀ G:Hp} {m:Nat} {ρ:D5} (R:Rl PK pa D6 H₀ m σ ρ G H) (h:((p ρ).bind k).ok m Z)
  (hq:∀ m1 x G1 H1,Stp pa G H G1 H1->Wd PK pa m1 G1 H1->Rl PK pa D6 H₀ m1 σ ρ G1 H1->(k x).ok m1 Z->Q x H1):TAt PK p σ H Q:=by
 refine ⟨pa,D6,H₀,m,ρ,G,R,Tr.ok_mono (Tr.ok_bind.mp h) λm1 x hx G1 H1 s1 w1=>?_⟩
 exact hq m1 x G1 H1 s1 w1 (R.step s1 w1) hx
theorem ZfA {D6 H₀ G H G1 H1:Hp} {m:Nat} {σ:St} {ρ:D5} {pa:Addr} {Q:Bool->Hp->Prop} (R1:Rl PK pa D6 H₀ m σ ρ G1 H1) (s1:Stp pa G H G1 H1) (h:(q ρ).ok m λm' b=>∀ G' H',Stp pa G H G' H'->Wd PK pa m' G' H'->Q b H'):TAt PK q σ H1 Q :=
 ⟨pa,D6,H₀,m,ρ,G1,R1,Tr.ok_mono h λm2 b k G2 H2 s2 w2=>k G2 H2 (s1.trans s2 R1.wd.some) w2⟩
theorem zW {D6 H₀ G H G1 H1:Hp} {m:Nat} {σ:St} {ρ:D5} {pa:Addr} {Q:VK} (R1:Rl PK pa D6 H₀ m σ ρ G1 H1) (s1:Stp pa G H G1 H1) (h:(i ρ).ok m λm' x=>Kn PK pa m' G H x Q):TAe PK i σ H1 Q :=
 ⟨pa,D6,H₀,m,ρ,G1,R1,Tr.ok_mono h λm2 b k=>Kn.later k s1 R1.wd.some⟩
theorem Zfx (ha:PT X a (TAt PK p)):PW X (.BoolOp .And [a] pos) (TAt PK p):=Zcx ha
theorem fH (ha:PT X a (TAt PK p)):PW X (.BoolOp .Or [a] pos) (TAt PK p):=Zin ha
theorem Zfy (ha:PT X a (TAt PK p)) (hb:PW X (.BoolOp .And (b::rest) pos) (TAt PK q)):PW X (.BoolOp .And (a::b::rest) pos) (TAt PK (vY p q)):=(Zcy ha hb).imp λσ H Q hz0=>by
 obtain ⟨pa,D6,H₀,m,ρ,G,R,z⟩:=hz0
 refine TAt.then R z λm1 x G1 H1 s1 w1 R1 q1=>?_
 cases x with
 | true=>rw [if_pos rfl] at q1 ⊢; exact ZfA R1 s1 q1
 | false=>rw [if_neg AQ] at q1 ⊢; exact q1 G1 H1 s1 w1
theorem eP (ha:PT X a (TAt PK p)) (hb:PW X (.BoolOp .Or (b::rest) pos) (TAt PK q)):PW X (.BoolOp .Or (a::b::rest) pos) (TAt PK (eE p q)):=(Zio ha hb).imp λσ H Q hz0=>by
 obtain ⟨pa,D6,H₀,m,ρ,G,R,z⟩:=hz0
 refine TAt.then R z λm1 x G1 H1 s1 w1 R1 q1=>?_
 cases x with
 | true=>rw [if_pos rfl] at q1 ⊢; exact q1 G1 H1 s1 w1
 | false=>rw [if_neg AQ] at q1 ⊢; exact ZfA R1 s1 q1
theorem eQ (h:PW X e (TAt PK p)):PT X e (TAt PK p):=h.pt
theorem dQ (ha:PT X a (TAt PK p)):PT X (.UnaryOp .Not a pos) (TAt PK (dw p)):=(Zir ha).imp λσ H Q hz0=>by
 obtain ⟨pa,D6,H₀,m,ρ,G,R,z⟩:=hz0
 refine TAt.then R z λm1 x G1 H1 s1 w1 R1 q1=>?_
 exact q1 G1 H1 s1 w1
noncomputable def ke (i j:DP):DP:=λρ=>(bu i ρ).bind λx=>if x=true then j ρ else .ret (.bool false)
noncomputable def vW (i:DP):DP:=λρ=>(bu i ρ).bind λx=>.ret (.bool (!x))
theorem TAe.thenB {σ:St} {H:Hp} {β:Type} {k:Bool->Tr β} {Z:Nat->β->Prop} {Q:VK} {pa:Addr} {D6 H₀ G:Hp} {m:Nat} {ρ:D5} (R:Rl PK pa D6 H₀ m σ ρ G H) (h:((bu i ρ).bind k).ok m Z)
  (hq:∀ m1 c G1 H1,Stp pa G H G1 H1->Wd PK pa m1 G1 H1->Rl PK pa D6 H₀ m1 σ ρ G1 H1->(k c).ok m1 Z->Q (.bl c) H1):TAe PK i σ H Q:=by
 unfold bu at h
 rw [Tr.bind_assoc] at h
 refine TAe.then R h λm1 x v G1 H1 s1 w1 R1 d1 q1=>?_
 rw [Tr.ok_bind] at q1
 obtain ⟨c,hb,q1⟩:=Tr.ok_of q1
 cases d1 <;> simp only [jC] at hb <;> cases hb
 exact hq m1 _ G1 H1 s1 w1 R1 q1
theorem nN {op} (h:PE X a (TAe PK i)):PE X (.BoolOp op [a] pos) (TAe PK i):=ZiO h
theorem nP (ha:PE X a (TAe PK i)) (hb:PE X (.BoolOp .And (b::rest) pos) (TAe PK j)):PE X (.BoolOp .And (a::b::rest) pos) (TAe PK (ke i j)):=(Zi0 ha hb).imp λσ H Q hz0=>by
 obtain ⟨pa,D6,H₀,m,ρ,G,R,z⟩:=hz0
 refine TAe.thenB R z λm1 x G1 H1 s1 w1 R1 q1=>⟨x,rfl,?_⟩
 cases x with
 | true=>rw [if_pos rfl] at q1 ⊢; exact zW R1 s1 q1
 | false=>rw [if_neg AQ] at q1 ⊢; exact (Kn.later q1 s1 w1.some).here w1 (.bl false)
theorem ZfV (ha:PE X a (TAe PK i)):PE X (.UnaryOp .Not a pos) (TAe PK (vW i)):=(ZiP ha).imp λσ H Q hz0=>by
 obtain ⟨pa,D6,H₀,m,ρ,G,R,z⟩:=hz0
 refine TAe.thenB R z λm1 x G1 H1 s1 w1 R1 q1=>⟨x,rfl,?_⟩
 exact (Kn.later q1 s1 w1.some).here w1 (.bl _)
noncomputable def Ad (p:DR) (i j:DP):DP:=λρ=>(p ρ).bind λx=>if x=true then i ρ else j ρ
theorem ZnJ (hc:PT X c (TAt PK p)) (ha:PE X a (TAe PK i)) (hb:PE X b (TAe PK j)):PE X (.IfExp c a b pos) (TAe PK (Ad p i j)):=(ZiR hc ha hb).imp λσ H Q hz0=>by
 obtain ⟨pa,D6,H₀,m,ρ,G,R,z⟩:=hz0
 refine TAt.then R z λm1 x G1 H1 s1 w1 R1 q1=>?_
 cases x with
 | true=>rw [if_pos rfl] at q1 ⊢; exact zW R1 s1 q1
 | false=>rw [if_neg AQ] at q1 ⊢; exact zW R1 s1 q1
variable {is:DQ}
noncomputable def ak:DQ:=λ_=>.ret []
noncomputable def af (i:DP) (is:DQ):DQ:=λρ=>(i ρ).bind λx=>(is ρ).bind λxs=>.ret (x::xs)
theorem am:PA X [] (TAd PK ak):=cf.imp λσ H Q hz0=>by
 obtain ⟨pa,D6,H₀,m,ρ,G,R,z⟩:=hz0
 exact z [] G H .refl R.wd .nil
theorem TAd.then {σ:St} {H:Hp} {β:Type} {k:List PyData->Tr β} {Z:Nat->β->Prop} {Q:List V->Hp->Prop} {pa:Addr} {D6 H₀ G:Hp} {m:Nat} {ρ:D5} (R:Rl PK pa D6 H₀ m σ ρ G H) (h:((is ρ).bind k).ok m Z)
  (hq:∀ m1 xs vs G1 H1,Stp pa G H G1 H1->Wd PK pa m1 G1 H1->Rl PK pa D6 H₀ m1 σ ρ G1 H1->DnAll G1 vs xs->(k xs).ok m1 Z->Q vs H1):TAd PK is σ H Q:=by
 refine ⟨pa,D6,H₀,m,ρ,G,R,Tr.ok_mono (Tr.ok_bind.mp h) λm1 x hx v G1 H1 s1 w1 d1=>?_⟩
 exact hq m1 x v G1 H1 s1 w1 (R.step s1 w1) d1 hx
theorem ag (ha:PE X e (TAe PK i)) (hr:PA X es (TAd PK is)) (hs:starEach (e::es) X.env=(false,eval e X.env)::starEach es X.env:=by rfl):PA X (e::es) (TAd PK (af i is)):=(bx ha hr hs).imp λσ H Q hz0=>by
 obtain ⟨pa,D6,H₀,m,ρ,G,R,z⟩:=hz0
 refine TAe.then R z λm1 x v G1 H1 s1 w1 R1 d1 q1=>?_
 refine TAd.then R1 q1 λm2 xs vs G2 H2 s2 w2 R2 d2 q2=>?_
 exact q2 _ _ _ (s1.trans s2 w1.some) w2 (.cons (d1.mono s2.gs) d2)
noncomputable def small (n:Nat):Bool:=decide (n<=sizeLine)
noncomputable def bj (is:DQ):DP:=λρ=>(is ρ).bind λxs=>if small xs.length=true then .ret (.tuple xs) else .fail
noncomputable def bE (is:DQ):DP:=λρ=>(is ρ).bind λxs=>.ret (.list xs)
noncomputable def cW (is:DQ):DQ:=λρ=>(is ρ).bind λxs=>if small xs.length=true then .ret xs else .fail
theorem gf {α:Type} {c:Bool} {t:Tr α} {m:Nat} {Q:Nat->α->Prop} (h:(if c=true then t else .fail).ok m Q):c=true/\t.ok m Q:=by
 cases c with
 | true=>exact ⟨rfl,h⟩
 | false=>exact h.elim
theorem bn {x1} (h:PA X es (TAd PK is)):PE X (.Tuple es x1 pos) (TAe PK (bj is)):=(ZiM h).imp λσ H Q hz0=>by
 obtain ⟨pa,D6,H₀,m,ρ,G,R,z⟩:=hz0
 refine TAd.then R z λm1 xs vs G1 H1 s1 w1 R1 d1 q1=>?_
 obtain ⟨hs,k⟩:=gf q1
 exact ⟨by rw [d1.length]; exact of_decide_eq_true hs,λp hp=>(Kn.later k s1 w1.some).tup w1 d1 hp⟩
theorem Ko1.new {pa:Addr} {m:Nat} {G H:Hp} {xs:DY} {vs:D3} {Q:VK} {p:Addr} (k:Ko1 PK pa m G H xs Q) (w:Wd PK pa m G H) (d:DnAll G vs xs) (hp:H p=none):Q (.ref p) (upd H p (.lst vs)):=by
 obtain ⟨w1,s1⟩:=w.own (o:=.lst vs) hp
 exact k p vs G _ s1 w1 hp (w.gnone hp) bY d
theorem Ko1.later {pa:Addr} {m:Nat} {G H G1 H1:Hp} {xs:DY} {Q:VK} (k:Ko1 PK pa m G H xs Q) (s:Stp pa G H G1 H1) (hp:∃ o,H1 pa=some o):Ko1 PK pa m G1 H1 xs Q:=λp vs G' H' s' w' h1 h2 h3 h4=>by
 refine k p vs G' H' (s.trans s' hp) w' ?_ h2 h3 h4
 cases e:H p with
 | none=>rfl
 | some u =>
  by_cases hc:p=pa
  ·subst hc
   obtain ⟨o,z⟩:=hp
   rw [h1] at z; cases z
  ·rw [s.hk p u e hc] at h1; cases h1
theorem dr (h:PA X es (TAd PK is)):PE X (.List es pos) (eG PK (cW is)):=(ZcL h).imp λσ H Q hz0=>by
 obtain ⟨pa,D6,H₀,m,ρ,G,R,z⟩:=hz0
 refine TAd.then R z λm1 xs vs G1 H1 s1 w1 R1 d1 q1=>?_
 obtain ⟨hs,k⟩:=gf q1
 exact ⟨by rw [d1.length]; exact of_decide_eq_true hs,λp hp=>(Ko1.later k s1 w1.some).new w1 d1 hp⟩
theorem Ko1.of {pa:Addr} {m:Nat} {G H:Hp} {xs:DY} {Q:VK} (k:Kn PK pa m G H (.list xs) Q) (hp:∃ o,H pa=some o):Ko1 PK pa m G H xs Q:=λp vs G' H' s w h1 h2 h3 h4=>by
 have hne:pa≠p:=λe=>by
  obtain ⟨o,z⟩:=hp
  rw [e,h1] at z; cases z
 have sb:Sub G' (upd G' p (.lst vs)):=Sub.new h2
 refine k _ (upd G' p (.lst vs)) H' ⟨λb o h=>sb b o (s.gs b o h),λb o h=>?_,s.hk⟩ (w.freeze h3 h2 hne) (.lst bY (DnAll.mono sb h4))
 by_cases e:b=p
 ·subst e; exact .inr (.inl h1)
 ·rw [aM e] at h; exact s.gn b o h
theorem bV (h:PE X e (eG PK is)):PE X e (TAe PK (bE is)):=h.imp λσ H Q hz0=>by
 obtain ⟨pa,D6,H₀,m,ρ,G,R,z⟩:=hz0
 refine ⟨pa,D6,H₀,m,ρ,G,R,Tr.ok_mono (Tr.ok_bind.mp z) λm1 xs k=>Ko1.of k R.wd.some⟩
def fJ (r:List V->Hp->VK->Prop) (f:List PyData->Option PyData):Prop:=∀ (PK:Pk) (pa:Addr) (m:Nat) (G H:Hp) (vs:D3) (ds:DY) (d:PyData) (Q:VK),Wd PK pa m G H->DnAll G vs ds->f ds=some d->Kn PK pa m G H d Q->r vs H Q
def Ae (r:List V->Hp->VK->Prop) (f:List PyData->Option DY):Prop:=∀ (PK:Pk) (pa:Addr) (m:Nat) (G H:Hp) (vs:D3) (ds:DY) (d:DY) (Q:VK),Wd PK pa m G H->DnAll G vs ds->f ds=some d->Ko1 PK pa m G H d Q->r vs H Q
noncomputable def bc (f:List PyData->Option PyData) (is:DQ):DP:=λρ=>(is ρ).bind λxs=>Tr.of (f xs)
noncomputable def gE (f:List PyData->Option DY) (is:DQ):DQ:=λρ=>(is ρ).bind λxs=>Tr.of (f xs)
theorem ZnQ {r:List V->Hp->VK->Prop} {f:List PyData->Option PyData} (hv:fJ r f):∀ σ H Q,TAe PK (bc f is) σ H Q->fN r (TAd PK is) σ H Q:=by
 rintro σ H Q ⟨pa,D6,H₀,m,ρ,G,R,z⟩
 refine TAd.then R z λm1 xs vs G1 H1 s1 w1 R1 d1 q1=>?_
 obtain ⟨d,hd,k⟩:=Tr.ok_of q1
 exact hv PK pa m1 G1 H1 vs xs d Q w1 d1 hd (Kn.later k s1 w1.some)
theorem ZnP {r:List V->Hp->VK->Prop} {f:List PyData->Option DY} (hv:Ae r f):∀ σ H Q,eG PK (gE f is) σ H Q->fN r (TAd PK is) σ H Q:=by
 rintro σ H Q ⟨pa,D6,H₀,m,ρ,G,R,z⟩
 refine TAd.then R z λm1 xs vs G1 H1 s1 w1 R1 d1 q1=>?_
 obtain ⟨d,hd,k⟩:=Tr.ok_of q1
 exact hv PK pa m1 G1 H1 vs xs d Q w1 d1 hd (Ko1.later k s1 w1.some)
theorem bd {t:TA} {r:List V->Hp->VK->Prop} {f:List PyData->Option PyData} (h:PE X e (fN r (TAd PK is))) (hv:fJ r f):PE X e (TAe PK (bc f is)):=h.imp (ZnQ hv)
theorem zQ {t:TA} {r:List V->Hp->VK->Prop} {f:List PyData->Option DY} (h:PE X e (fN r (TAd PK is))) (hv:Ae r f):PE X e (eG PK (gE f is)):=h.imp (ZnP hv)
variable {as:List Sl->Tr D5}
noncomputable def aB:List Sl->Tr D5:=λ_=>.ret []
noncomputable def ah (i:DP) (as:List Sl->Tr D5):List Sl->Tr D5:=λρ=>(i ρ).bind λx=>(as ρ).bind λxs=>.ret (.d x::xs)
noncomputable def cg (k:Nat) (as:List Sl->Tr D5):List Sl->Tr D5:=λρ=>match ρ[k]? with
 | some .pen=>(as ρ).bind λxs=>.ret (.pen::xs)
 | _=>.fail
theorem aH:PA X [] (TAa PK aB):=cf.imp λσ H Q hz0=>by
 obtain ⟨pa,D6,H₀,m,ρ,G,R,z⟩:=hz0
 exact z [] G H .refl R.wd .nil
theorem TAa.then {σ:St} {H:Hp} {β:Type} {k:List Sl->Tr β} {Z:Nat->β->Prop} {Q:List V->Hp->Prop} {pa:Addr} {D6 H₀ G:Hp} {m:Nat} {ρ:D5} (R:Rl PK pa D6 H₀ m σ ρ G H) (h:((as ρ).bind k).ok m Z)
  (hq:∀ m1 xs vs G1 H1,Stp pa G H G1 H1->Wd PK pa m1 G1 H1->Rl PK pa D6 H₀ m1 σ ρ G1 H1->ArsOk pa G1 vs xs->(k xs).ok m1 Z->Q vs H1):TAa PK as σ H Q:=by
 refine ⟨pa,D6,H₀,m,ρ,G,R,Tr.ok_mono (Tr.ok_bind.mp h) λm1 x hx v G1 H1 s1 w1 d1=>?_⟩
 exact hq m1 x v G1 H1 s1 w1 (R.step s1 w1) d1 hx
theorem ai (ha:PE X e (TAe PK i)) (hr:PA X es (TAa PK as)) (hs:starEach (e::es) X.env=(false,eval e X.env)::starEach es X.env:=by rfl):PA X (e::es) (TAa PK (ah i as)):=(bx ha hr hs).imp λσ H Q hz0=>by
 obtain ⟨pa,D6,H₀,m,ρ,G,R,z⟩:=hz0
 refine TAe.then R z λm1 x v G1 H1 s1 w1 R1 d1 q1=>?_
 refine TAa.then R1 q1 λm2 xs vs G2 H2 s2 w2 R2 d2 q2=>?_
 exact q2 _ _ _ (s1.trans s2 w1.some) w2 (.cons (.d (d1.mono s2.gs)) d2)
theorem cv {k:Nat} (ha:PE X e (gI k)) (hr:PA X es (TAa PK as)) (hs:starEach (e::es) X.env=(false,eval e X.env)::starEach es X.env:=by rfl):PA X (e::es) (TAa PK (cg k as)):=(bx ha hr hs).imp λσ H Q hz0=>by
 obtain ⟨pa,D6,H₀,m,ρ,G,R,z⟩:=hz0
 unfold cg at z
 split at z
 ·rename_i hk
  obtain ⟨o,h1,h2⟩:=R.sl k _ hk
  cases h2
  refine ⟨_,h1,?_⟩
  refine TAa.then R z λm2 xs vs G2 H2 s2 w2 R2 d2 q2=>?_
  exact q2 _ _ _ s2 w2 (.cons .pen d2)
 ·exact z.elim
def aSp (PK:Pk) (n:Nat) (f:DT):Sp:=λvs H Q _=>vs.length=n/\∃ pa m G as,Wd PK pa m G H/\ArsOk pa G vs as/\(f as).ok m λm' r=>Kr PK pa m' G H r Q
noncomputable def aD (f:DT) (as:List Sl->Tr D5):DT:=λρ=>(as ρ).bind f
noncomputable def aE (f:DT):DP:=λρ=>(f ρ).bind λr=>.ret r.val
def Ai (PK:Pk) (i:DT):TE:=λσ H Q=>∃ pa D6 H₀ m ρ G,Rl PK pa D6 H₀ m σ ρ G H/\(i ρ).ok m λm' r=>Kr PK pa m' G H r Q
theorem Kr.later {pa:Addr} {m:Nat} {G H G1 H1:Hp} {r:Re} {Q:VK} (k:Kr PK pa m G H r Q) (s:Stp pa G H G1 H1) (hp:∃ o,H1 pa=some o):Kr PK pa m G1 H1 r Q:=λv G' H' s' w' d=>by
 refine k v G' H' (s.trans s' hp) w' ?_
 cases r with
 | d x=>exact d
 | own xs =>
  obtain ⟨p,vs,e,h1,h2,h3,h4⟩:=d
  refine ⟨p,vs,e,h1,h2,?_,h4⟩
  cases e:H p with
  | none=>rfl
  | some u =>
   by_cases hc:p=pa
   ·subst hc
    obtain ⟨o,z⟩:=hp
    rw [h3] at z; cases z
   ·rw [s.hk p u e hc] at h3; cases h3
theorem Kr.of {pa:Addr} {m:Nat} {G H:Hp} {r:Re} {Q:VK} (k:Kn PK pa m G H r.val Q) (hp:∃ o,H pa=some o):Kr PK pa m G H r Q:=λv G' H' s w d=>by
 cases r with
 | d x=>exact k v G' H' s w d
 | own xs =>
  obtain ⟨p,vs,rfl,h1,h2,h3,h4⟩:=d
  exact Ko1.of k hp p vs G' H' s w h3 h2 h1 h4
theorem aK {f:DT} (h:PE X e (Ai PK f)):PE X e (TAe PK (aE f)):=h.imp (by
 intro σ H Q z
 obtain ⟨pa,D6,H₀,m,ρ,G,R,z⟩:=z
 exact ⟨pa,D6,H₀,m,ρ,G,R,Tr.ok_mono (Tr.ok_bind.mp z) λm1 r k=>Kr.of k R.wd.some⟩)
structure ACal (PK:Pk) (P:Program) (w:World) (K:DO) (mg:D4) (base:Heap) (x:Str) (k:Nat) (ps:D2) (f:DT):Prop where
 cal:Callee P w K mg base x k ps (aSp PK ps.length f)
 len:∀ as m Z,(f as).ok m Z->as.length=ps.length
theorem aG {x:Str} {k:Nat} {ps:D2} {f:DT} {pp:Pos} (C:ACal PK X.prog X.w X.K X.mg X.base x k ps f) (hr:Room k X.A) (hg:Gl X x) (ha:PA X (e::es) (TAa PK as))
  (hdb:(x == ("__debug__":Str))=false:=by decide)
  (he:starEach (e::es) X.env=(false,eval e X.env)::starEach es X.env:=by rfl) (hpl:(backTo pos (starEach es X.env)).any (·.1)=false:=by rfl):PE X (.Call (.Name x pp) (e::es) [] pos) (Ai PK (aD f as)) :=
 (ZcQ C.cal hr hg ha hdb he hpl).imp λσ H Q hz0=>by
  obtain ⟨pa,D6,H₀,m,ρ,G,R,z⟩:=hz0
  refine TAa.then R z λm1 xs vs G1 H1 s1 w1 R1 d1 q1=>?_
  show aSp PK ps.length f (vs++[]) H1 Q E0
  rw [A4]
  exact ⟨by rw [d1.length]; exact C.len _ _ _ q1,pa,m1,G1,xs,w1,d1,Tr.ok_mono q1 λm2 r k=>Kr.later k s1 w1.some⟩
variable {PK:Pk} {X:Cx} {a b c e:Expr} {es:List Expr} {pos:Pos} {i j l:DP} {is:DQ} {as:List Sl->Tr D5} {f:DT} {p q:DR} {st:Stmt} {sts:List Stmt} {s t u:DS}
noncomputable def au (s t:DS):DS:=λρ=>(s ρ).bind λo=>match o with
 | .next ρ'=>t ρ'
 | o=>.ret o
noncomputable def bM:DS:=λρ=>.ret (.next ρ)
theorem Ko.later {pa:Addr} {D6 H₀ Gs G:Hp} {D:Ends} {m:Nat} {o:Ou} (k:Ko PK pa D6 H₀ Gs D m o) (sb:Sub Gs G):Ko PK pa D6 H₀ G D m o:=by
 cases o with
 | next ρ=>exact λσ G' H s R=>k σ G' H (λb o h=>s b o (sb b o h)) R
 | ret r=>exact k
 | brk ρ=>exact λσ G' H s R=>k σ G' H (λb o h=>s b o (sb b o h)) R
 | cont ρ=>exact λσ G' H s R=>k σ G' H (λb o h=>s b o (sb b o h)) R
theorem Sub.refl {G:Hp}:Sub G G:=λ_ _ h=>h
theorem Sub.trans {G G1 G2:Hp} (a:Sub G G1) (b:Sub G1 G2):Sub G G2:=λc o h=>b c o (a c o h)
theorem bT:PSs X [] (bH PK bM):=pf.imp λD σ H hz0=>by
 obtain ⟨pa,D6,H₀,m,ρ,G,R,z⟩:=hz0
 exact z σ G H .refl R
theorem ZnO:∀ D σ H,bH PK (au s t) D σ H->ZaA (bH PK s) (bH PK t) D σ H:=by
 rintro D σ H ⟨pa,D6,H₀,m,ρ,G,R,z⟩
 refine ⟨pa,D6,H₀,m,ρ,G,R,Tr.ok_mono (Tr.ok_bind.mp z) λm1 o k=>?_⟩
 cases o with
 | next ρ'=>exact λσ' G' H' sb R'=>⟨pa,D6,H₀,m1,ρ',G',R',Tr.ok_mono k λ_ _ k'=>Ko.later k' sb⟩
 | ret r=>exact k
 | brk ρ'=>exact k
 | cont ρ'=>exact k
theorem av (h1:PS X st (bH PK s)) (h2:PSs X sts (bH PK t)):PSs X (st::sts) (bH PK (au s t)):=(fr h1 h2).imp ZnO
theorem aF (h1:PS X st (bH PK s)):PSs X [st] (bH PK s):=kE h1
noncomputable def Zf0:DS:=λ_=>.fail
theorem Znz:PS X st (bH PK Zf0):=λ_ _ _ _ _ _ h=>by
 obtain ⟨pa,D6,H₀,m,ρ,G,R,z⟩:=h
 exact z.elim
noncomputable def aZ (i:DP):DS:=λρ=>(i ρ).bind λx=>.ret (.ret (.d x))
theorem a9 (he:PE X e (TAe PK i)):PS X (.Return (some e) pos) (bH PK (aZ i)):=(iX he).imp λD σ H hz0=>by
 obtain ⟨pa,D6,H₀,m,ρ,G,R,z⟩:=hz0
 refine TAe.then R z λm1 x v G1 H1 s1 w1 R1 d1 q1=>?_
 exact q1 v G1 H1 R1.st w1 d1
noncomputable def ka (is:DQ):DS:=λρ=>(is ρ).bind λx=>.ret (.ret (.own x))
theorem nK (he:PE X e (eG PK is)):PS X (.Return (some e) pos) (bH PK (ka is)):=(iX he).imp λD σ H hz0=>by
 obtain ⟨pa,D6,H₀,m,ρ,G,R,z⟩:=hz0
 refine ⟨pa,D6,H₀,m,ρ,G,R,Tr.ok_mono (Tr.ok_bind.mp z) λm1 xs k p vs G1 H1 s1 w1 h1 h2 h3 h4=>?_⟩
 exact k (.ref p) G1 H1 (R.st.trans s1 R.wd.some) w1 ⟨p,vs,rfl,h3,h2,R.h0 h1,h4⟩
noncomputable def vV (f:DT):DS:=λρ=>(f ρ).bind λr=>.ret (.ret r)
theorem ZfG (he:PE X e (Ai PK f)):PS X (.Return (some e) pos) (bH PK (vV f)):=(iX he).imp (by
 intro D σ H z
 obtain ⟨pa,D6,H₀,m,ρ,G,R,z⟩:=z
 exact ⟨pa,D6,H₀,m,ρ,G,R,Tr.ok_mono (Tr.ok_bind.mp z) λm1 r k=>Kr.later k R.st R.wd.some⟩)
noncomputable def fX (k:Nat):DS:=λρ=>match ρ[k]? with
 | some (.d x)=>.ret (.ret (.d x))
 | some (.own xs)=>.ret (.ret (.own xs))
 | _=>.fail
theorem nJ {k:Nat} (he:PE X e (gI k)):PS X (.Return (some e) pos) (bH PK (fX k)):=(iX he).imp λD σ H hz0=>by
 obtain ⟨pa,D6,H₀,m,ρ,G,R,z⟩:=hz0
 unfold fX at z
 split at z
 ·rename_i x hx
  obtain ⟨o,h1,h2⟩:=R.sl k _ hx
  cases h2 with
  | d d1=>exact ⟨_,h1,z _ G H R.st R.wd d1⟩
 ·rename_i xs hx
  obtain ⟨o,h1,h2⟩:=R.sl k _ hx
  cases h2 with
  | own a1 a2 a3 a4=>exact ⟨_,h1,z _ G H R.st R.wd ⟨_,_,rfl,a1,a2,a3,a4⟩⟩
 ·exact z.elim
noncomputable def bO (p:DR) (s t:DS):DS:=λρ=>(p ρ).bind λx=>if x=true then s ρ else t ρ
theorem bU {xs ys:List Stmt} (hc:PT X c (TAt PK p)) (ha:PSs X xs (bH PK s)) (hb:PSs X ys (bH PK t)):PS X (.If c xs ys pos) (bH PK (bO p s t)):=(pj hc ha hb).imp λD σ H hz0=>by
 obtain ⟨pa,D6,H₀,m,ρ,G,R,z⟩:=hz0
 refine TAt.then R z λm1 x G1 H1 s1 w1 R1 q1=>?_
 cases x with
 | true=>rw [if_pos rfl] at q1 ⊢; exact ⟨pa,D6,H₀,m1,ρ,G1,R1,Tr.ok_mono q1 λ_ _ k'=>Ko.later k' s1.gs⟩
 | false=>rw [if_neg AQ] at q1 ⊢; exact ⟨pa,D6,H₀,m1,ρ,G1,R1,Tr.ok_mono q1 λ_ _ k'=>Ko.later k' s1.gs⟩
noncomputable def bb (k:Nat) (i:DP):DS:=λρ=>(i ρ).bind λx=>.ret (.next (ρ.set k (.d x)))
theorem bf {k:Nat} (h:PS X st (dM (TAe PK i) (dZ k))):PS X st (bH PK (bb k i)):=h.imp λD σ H hz0=>by
 obtain ⟨pa,D6,H₀,m,ρ,G,R,z⟩:=hz0
 refine TAe.then R z λm1 x v G1 H1 s1 w1 R1 d1 q1=>?_
 exact q1 _ G1 H1 s1.gs (R1.set d1 k)
noncomputable def j9 (k:Nat) (is:DQ):DS:=λρ=>(is ρ).bind λx=>.ret (.next (ρ.set k (.own x)))
theorem vL {k:Nat} (h:PS X st (dM (eG PK is) (dZ k))):PS X st (bH PK (j9 k is)):=h.imp λD σ H hz0=>by
 obtain ⟨pa,D6,H₀,m,ρ,G,R,z⟩:=hz0
 refine ⟨pa,D6,H₀,m,ρ,G,R,Tr.ok_mono (Tr.ok_bind.mp z) λm1 xs k' p vs G1 H1 s1 w1 h1 h2 h3 h4=>?_⟩
 exact k' _ G1 H1 s1.gs ((R.step s1 w1).setO h3 h2 (R.h0 h1) h4 (λn ys e=>R.apart h1 n ys e) k)
noncomputable def lT (f:DW) (k:Nat) (i:DP):DS:=λρ=>(aa k ρ).bind λx=>(i ρ).bind λy=>(Tr.of (f x y)).bind λz=>.ret (.next (ρ.set k (.d z)))
theorem zO {k:Nat} {r:R2} {g:DW} (hv:cN r g) (h:PS X st (ZaI k (TAe PK i) r)):PS X st (bH PK (lT g k i)):=h.imp λD σ H hz0=>by
 obtain ⟨pa,D6,H₀,m,ρ,G,R,z⟩:=hz0
 unfold lT aa at z
 split at z
 ·rename_i x hx
  obtain ⟨o,h1,h2⟩:=R.sl k _ hx
  cases h2 with
  | d d0 =>
   refine ⟨_,h1,?_⟩
   refine TAe.then R z λm1 y v G1 H1 s1 w1 R1 d1 q1=>?_
   rw [Tr.ok_bind] at q1
   obtain ⟨w,hw,q1⟩:=Tr.ok_of q1
   refine hv PK pa m1 G1 H1 _ v x y w _ w1 (d0.mono s1.gs) d1 hw λu G2 H2 s2 w2 d2=>?_
   exact q1 _ G2 H2 (s1.gs.trans s2.gs) ((R1.step s2 w2).set d2 k)
 ·exact z.elim
noncomputable def lU (k:Nat) (i:DP):DS:=λρ=>match ρ[k]? with
 | some (.own xs)=>(i ρ).bind λx=>if small (xs.length+1)=true then .ret (.next (ρ.set k (.own (xs++[x])))) else .fail
 | _=>.fail
theorem DnAll.snoc {H:Hp} {vs:D3} {ds:DY} {v:V} {d:PyData} (h:DnAll H vs ds) (h1:Dn H v d):DnAll H (vs++[v]) (ds++[d]):=h.append (.cons h1 .nil)
theorem zP {k:Nat} {K:DO} {st:Stmt} (h:PS X st (wP (tBM K "list" Zcq (gI k) (fM (TAe PK i) aS)))):PS X st (bH PK (lU k i)):=h.imp λD σ H hz0=>by
 obtain ⟨pa,D6,H₀,m,ρ,G,R,z⟩:=hz0
 unfold lU at z
 split at z
 ·rename_i xs hx
  obtain ⟨o,h1,h2⟩:=R.sl k _ hx
  cases h2 with
  | @own p vs _ a1 a2 a3 a4 =>
   refine ⟨_,h1,.inl ⟨rfl,_,SqL.of a1⟩,?_⟩
   refine TAe.then R z λm1 x v G1 H1 s1 w1 R1 d1 q1=>?_
   obtain ⟨hs,q1⟩:=gf q1
   obtain ⟨o,h1',h2⟩:=R1.sl k _ hx
   rw [h1] at h1'
   cases h1'
   cases h2 with
   | @own _ vs1 _ b1 b2 b3 b4 =>
    have hs':xs.length+1<=sizeLine:=of_decide_eq_true hs
    refine ⟨p,vs1,v,rfl,rfl,b1,by rw [b4.length]; omega,?_⟩
    exact q1 σ G1 _ s1.gs (R1.change hx h1 (b4.snoc d1))
 ·exact z.elim
theorem DnAll.set {H:Hp}:∀ {vs:D3} {ds:DY} {v:V} {d:PyData} (n:Nat),DnAll H vs ds->Dn H v d->DnAll H (vs.set n v) (ds.set n d)
 | _,_,_,_,_,.nil,_=>.nil
 | _,_,_,_,0,.cons _ t,h=>.cons h t
 | _,_,_,_,n+1,.cons g t,h=>.cons g (DnAll.set n t h)
noncomputable def vT (k:Nat) (n i:DP):DS:=λρ=>(i ρ).bind λx=>match ρ[k]? with
 | some (.own xs)=>(n ρ).bind λy=>match y with
  | .int y=>(Tr.of (cy xs.length y)).bind λt=>.ret (.next (ρ.set k (.own (xs.set t x))))
  | _=>.fail
 | _=>.fail
theorem Znw {k:Nat} {n:DP} (h:PS X st (dM (TAe PK i) (yQ (gI k) (TAe PK n) xE))):PS X st (bH PK (vT k n i)):=h.imp λD σ H hz0=>by
 obtain ⟨pa,D6,H₀,m,ρ,G,R,z⟩:=hz0
 refine TAe.then R z λm1 x v G1 H1 s1 w1 R1 d1 q1=>?_
 split at q1
 ·rename_i xs hx
  obtain ⟨o,h1,h2⟩:=R1.sl k _ hx
  cases h2 with
  | @own p vs _ a1 a2 a3 a4 =>
   refine ⟨_,h1,?_⟩
   refine TAe.then R1 q1 λm2 y u G2 H2 s2 w2 R2 d2 q2=>?_
   obtain ⟨o,h1',h2⟩:=R2.sl k _ hx
   rw [h1] at h1'
   cases h1'
   cases h2 with
   | @own _ vs2 _ b1 b2 b3 b4 =>
    cases d2 with
    | int y =>
     rw [Tr.ok_bind] at q2
     obtain ⟨n',hn,q2⟩:=Tr.ok_of q2
     refine ⟨p,vs2,y,n',rfl,rfl,b1,by rw [b4.length]; exact hn,?_⟩
     exact q2 σ G2 _ (s1.gs.trans s2.gs) (R2.change hx h1 (b4.set n' (d1.mono s2.gs)))
    | _=>exact q2.elim
 ·exact q1.elim
theorem DnAll.reverse {H:Hp} {vs:D3} {ds:DY} (h:DnAll H vs ds):DnAll H vs.reverse ds.reverse:=by
 induction vs generalizing ds with
 | nil=>cases h; exact .nil
 | cons v vs ih=>cases h with | cons r t=>rw [CA,CA]; exact DnAll.append (ih t) (.cons r .nil)
noncomputable def vU (k:Nat):DS:=λρ=>match ρ[k]? with
 | some (.own xs)=>.ret (.next (ρ.set k (.own xs.reverse)))
 | _=>.fail
theorem Zny {k:Nat} {K:DO} (h:PS X st (wP (ZaG K "list" Zb8 (gI k)))):PS X st (bH PK (vU k)):=h.imp λD σ H hz0=>by
 obtain ⟨pa,D6,H₀,m,ρ,G,R,z⟩:=hz0
 unfold vU at z
 split at z
 ·rename_i xs hx
  obtain ⟨o,h1,h2⟩:=R.sl k _ hx
  cases h2 with
  | @own p vs _ a1 a2 a3 a4 =>
   refine ⟨_,h1,.inl ⟨rfl,_,SqL.of a1⟩,p,vs,rfl,rfl,a1,?_⟩
   exact z σ G _ .refl (R.change hx h1 a4.reverse)
 ·exact z.elim
noncomputable def lQ (k:Nat) (s:DS):DS:=λρ=>s (fz k ρ)
theorem vN {k:Nat} (h:PS X st (bH PK s)):PS X st (bH PK (lQ k s)):=h.imp λD σ H hz0=>by
 obtain ⟨pa,D6,H₀,m,ρ,G,R,z⟩:=hz0
 obtain ⟨G',sb,R'⟩:=R.freeze k
 exact ⟨pa,D6,H₀,m,_,G',R',Tr.ok_mono z λ_ _ k'=>Ko.later k' sb⟩
def dB (PK:Pk) (g:DV):TG:=λv σ H Q=>∃ pa D6 H₀ m ρ G x ρ',Rl PK pa D6 H₀ m σ ρ G H/\Dn G v x/\g x ρ=some ρ'/\∀ σ',Rl PK pa D6 H₀ m σ' ρ' G H->Q σ' H
noncomputable def nT (PK:Pk) (g:DU):gG:=λvs σ H Q=>∃ pa D6 H₀ m ρ G xs ρ',Rl PK pa D6 H₀ m σ ρ G H/\DnAll G vs xs/\g xs ρ=some ρ'/\∀ σ',Rl PK pa D6 H₀ m σ' ρ' G H->Q σ' H
theorem PG.imp {tg:Expr} {t t':TG} (h:PG X tg t) (q:∀ v σ H Q,t' v σ H Q->t v σ H Q):PG X tg t':=λpins s σ H v u Q I r z=>h pins s σ H v u Q I r (q v σ H Q z)
theorem PGs.imp {tg:List Expr} {t t':gG} (h:PGs X tg t) (q:∀ v σ H Q,t' v σ H Q->t v σ H Q):PGs X tg t':=λpins s σ H v u Q I r z=>h pins s σ H v u Q I r (q v σ H Q z)
noncomputable def ao (k:Nat):DV:=λx ρ=>some (ρ.set k (.d x))
theorem aV {k:Nat} (h:PG X e (dZ k)):PG X e (dB PK (ao k)):=h.imp λv σ H Q hz0=>by
 obtain ⟨pa,D6,H₀,m,ρ,G,x,ρ',R,d,e,q⟩:=hz0
 cases e
 exact q _ (R.set d k)
noncomputable def bo:DU:=λxs ρ=>match xs with
 | []=>some ρ
 | _=>none
noncomputable def aJ (g:DV) (gs:DU):DU:=λxs ρ=>match xs with
 | x::xs=>(g x ρ).bind λρ'=>gs xs ρ'
 | []=>none
theorem cJ:PGs X [] (nT PK bo):=ZiG.imp λvs σ H Q hz0=>by
 obtain ⟨pa,D6,H₀,m,ρ,G,xs,ρ',R,d,e,q⟩:=hz0
 cases d with
 | nil=>cases e; exact ⟨rfl,q _ R⟩
 | cons _ _=>cases e
theorem br {g:DV} {gs:DU} (h1:PG X e (dB PK g)) (h2:PGs X es (nT PK gs))
  (hs:(assignEach (e::es) X.env).map (·.2)=assign e X.env::(assignEach es X.env).map (·.2):=by rfl):PGs X (e::es) (nT PK (aJ g gs)):=(ZiH h1 h2 hs).imp λvs σ H Q hz0=>by
 obtain ⟨pa,D6,H₀,m,ρ,G,xs,ρ',R,d,e,q⟩:=hz0
 cases d with
 | nil=>cases e
 | cons d1 d2 =>
  have e':(g _ ρ).bind (λρ'=>gs _ ρ')=some ρ':=e
  cases h:g _ ρ with
  | none=>rw [h] at e'; cases e'
  | some ρ1 =>
   rw [h] at e'
   exact ⟨_,_,rfl,pa,D6,H₀,m,ρ,G,_,ρ1,R,d1,h,λσ1 R1=>⟨pa,D6,H₀,m,ρ1,G,_,ρ',R1,d2,e',q⟩⟩
noncomputable def bD (gs:DU):DV:=λx ρ=>match x with
 | .tuple xs=>gs xs ρ
 | _=>none
def nh (n:Nat) (gs:DU):Prop:=∀ xs ρ ρ',gs xs ρ=some ρ'->xs.length=n
theorem cH:nh 0 bo:=λxs ρ ρ' h=>by cases xs with | nil=>rfl | cons _ _=>cases h
theorem bq {n:Nat} {g:DV} {gs:DU} (h:nh n gs):nh (n+1) (aJ g gs):=λxs ρ ρ' e=>by
 cases xs with
 | nil=>cases e
 | cons x xs =>
  have e':(g x ρ).bind (λρ'=>gs xs ρ')=some ρ':=e
  cases h1:g x ρ with
  | none=>rw [h1] at e'; cases e'
  | some ρ1 =>
   rw [h1] at e'
   exact congrArg (·+1) (h xs ρ1 ρ' e')
theorem cS {k:Nat} {gs:DU} {n:Nat} (hc:X.calm=true) (h:PGs X es (nT PK gs)) (hl:nh n gs)
  (hn:(assignEach es X.env).length=n:=by rfl) (hst:(assignEach es X.env).findIdx? (·.1)=none:=by rfl):PG X (.Tuple es k pos) (dB PK (bD gs)):=(ZiI hc h hn hst).imp λv σ H Q hz0=>by
 obtain ⟨pa,D6,H₀,m,ρ,G,x,ρ',R,d,e,q⟩:=hz0
 cases d with
 | tup h1 h2=>exact ⟨_,_,rfl,SqT.of (R.wd.sub _ _ h1),by rw [h2.length]; exact hl _ _ _ e,pa,D6,H₀,m,ρ,G,_,ρ',R,h2,e,q⟩
 | _=>cases e
noncomputable def gF (g:DV) (i:DP):DS:=λρ=>(i ρ).bind λx=>(Tr.of (g x ρ)).bind λρ'=>.ret (.next ρ')
theorem iH {g:DV} (h:PS X st (dM (TAe PK i) (dB PK g))):PS X st (bH PK (gF g i)):=h.imp λD σ H hz0=>by
 obtain ⟨pa,D6,H₀,m,ρ,G,R,z⟩:=hz0
 refine TAe.then R z λm1 x v G1 H1 s1 w1 R1 d1 q1=>?_
 rw [Tr.ok_bind] at q1
 obtain ⟨ρ',hg,q1⟩:=Tr.ok_of q1
 exact ⟨pa,D6,H₀,m1,ρ,G1,x,ρ',R1,d1,hg,λσ' R'=>q1 σ' G1 H1 s1.gs R'⟩
noncomputable def kc (k n:Nat) (is:DQ):DS:=λρ=>(is ρ).bind λxs=>match xs with
 | [x,y]=>.ret (.next ((ρ.set k (.d x)).set n (.d y)))
 | _=>.fail
theorem vM {k n:Nat} (h:PS X st (ZaB k n (TAd PK is))):PS X st (bH PK (kc k n is)):=h.imp λD σ H hz0=>by
 obtain ⟨pa,D6,H₀,m,ρ,G,R,z⟩:=hz0
 refine TAd.then R z λm1 xs vs G1 H1 s1 w1 R1 d1 q1=>?_
 split at q1
 ·cases d1 with
  | cons e1 d1 =>
   cases d1 with
   | cons e2 d1 =>
    cases d1
    exact ⟨_,_,rfl,q1 _ G1 H1 s1.gs ((R1.set e1 k).set e2 n)⟩
 ·exact q1.elim
def jx (PK:Pk) (pa:Addr) (J:It) (G:Hp) (xs:DY):Prop:=∀ m G2 H2,Sub G G2->Wd PK pa m G2 H2 ->
 (∀ (n:Nat) (d:PyData),xs[n]?=some d->J.go n H2/\∀ x H3,J.yld n H2 x H3->∃ G3,Stp pa G2 H2 G3 H3/\Wd PK pa m G3 H3/\Dn G3 x d)/\J.stop xs.length H2
def cX (PK:Pk) (is:DQ):TI:=λσ H R=>∃ pa D6 H₀ m ρ G,Rl PK pa D6 H₀ m σ ρ G H/\(is ρ).ok m λm' xs=>∀ J G' H',Stp pa G H G' H'->Wd PK pa m' G' H'->jx PK pa J G' xs->R J H'
theorem PI.imp {tg iter:Expr} {t t':TI} (h:PI X tg iter t) (q:∀ σ H R,t' σ H R->t σ H R):PI X tg iter t':=λpins s σ H R I z=>h pins s σ H R I (q σ H R z)
noncomputable def ck (g:DV) (s:DS):List PyData->List Sl->Tr Ou
 | [],ρ=>.ret (.next ρ)
 | x::xs,ρ=>(Tr.of (g x ρ)).bind λρ1=>(s ρ1).bind λo=>match o with
  | .next ρ2=>ck g s xs ρ2
  | .cont ρ2=>ck g s xs ρ2
  | .brk ρ2=>.ret (.next ρ2)
  | .ret r=>.ret (.ret r)
noncomputable def dR (is:DQ) (g:DV) (s:DS):DS:=λρ=>(is ρ).bind λxs=>ck g s xs ρ
theorem eD {tg iter:Expr} {body:List Stmt} {g:DV} (hp:PassesOwn (model X.prog X.w) X.A X.env X.xe) (hc:X.calm=true) (hi:PI X tg iter (cX PK is)) (hg:PG X tg (dB PK g)) (hb:PSs X body (bH PK s))
  (hs:∀ x,foldedSetIterable iter X.env x=pure x:=by intro _; rfl):PS X (.For tg iter body [] pos) (bH PK (dR is g s)):=(Ziv hp hc hi hg hb hs).imp λD σ H hz0=>by
 obtain ⟨pa,D6,H₀,m,ρ,G,R,z⟩:=hz0
 refine ⟨pa,D6,H₀,m,ρ,G,R,Tr.ok_mono (Tr.ok_bind.mp z) λm1 xs k J G1 H1 s1 w1 jo=>?_⟩
 let W:Nat->Nat->St->Hp->Prop:=λn mm σ H=>mm=xs.length - n/\n<=xs.length/\∃ m ρ G,Sub G1 G/\Rl PK pa D6 H₀ m σ ρ G H/\(ck g s (xs.drop n) ρ).ok m (Ko PK pa D6 H₀ G1 D)
 refine ⟨W,⟨xs.length,rfl,Bg _,m1,ρ,G1,λ_ _ h=>h,R.step s1 w1,Tr.ok_mono k λ_ _ k'=>Ko.later k' s1.gs⟩,?_⟩
 rintro n mm σ2 H2 ⟨rfl,hn,m2,ρ2,G2,sb,R2,k2⟩
 obtain ⟨j1,j2⟩:=jo m2 G2 H2 sb R2.wd
 by_cases hlt:n < xs.length
 ·have hx:xs[n]?=some xs[n]:=by simp [hlt]
  obtain ⟨jg,jy⟩:=j1 n _ hx
  refine .inr ⟨jg,W (n+1) (xs.length - (n+1)),λσ' H' h'=>⟨_,by omega,h'⟩,λx H3 y=>?_⟩
  obtain ⟨G3,s3,w3,d3⟩:=jy x H3 y
  rw [AZ hlt] at k2
  unfold ck at k2
  rw [Tr.ok_bind] at k2
  obtain ⟨ρ3,hg3,k3⟩:=Tr.ok_of k2
  refine ⟨pa,D6,H₀,m2,ρ2,G3,_,ρ3,R2.step s3 w3,d3,hg3,λσ4 R4=>?_⟩
  refine ⟨pa,D6,H₀,m2,ρ3,G3,R4,Tr.ok_mono (Tr.ok_bind.mp k3) λm5 o ko=>?_⟩
  have again:∀ ρ5,(ck g s (xs.drop (n+1)) ρ5).ok m5 (Ko PK pa D6 H₀ G1 D)->∀ σ5 G5 H5,Sub G3 G5->Rl PK pa D6 H₀ m5 σ5 ρ5 G5 H5->W (n+1) (xs.length - (n+1)) σ5 H5:=λρ5 k5 σ5 G5 H5 sb5 R5 =>
   ⟨rfl,hlt,m5,ρ5,G5,(sb.trans s3.gs).trans sb5,R5,k5⟩
  cases o with
  | next ρ5=>exact again ρ5 ko
  | cont ρ5=>exact again ρ5 ko
  | brk ρ5=>exact λσ5 G5 H5 sb5 R5=>ko σ5 G5 H5 ((sb.trans s3.gs).trans sb5) R5
  | ret r=>exact ko
 ·have e:n=xs.length:=by omega
  subst e
  refine .inl ⟨j2,?_⟩
  rw [Br] at k2
  exact k2 σ2 G2 H2 sb R2
variable {PK:Pk} {X:Cx} {a b c e:Expr} {es:List Expr} {pos:Pos} {i j l:DP} {is:DQ} {as:List Sl->Tr D5} {f:DT} {p q:DR} {st:Stmt} {sts:List Stmt} {s t u:DS}
noncomputable def fh (p:DR) (s:DS):Nat->List Sl->Tr Ou
 | 0,_=>.fail
 | n+1,ρ=>(p ρ).bind λb=>if b=true then (s ρ).bind λo=>match o with
   | .next ρ2=>fh p s n ρ2
   | .cont ρ2=>fh p s n ρ2
   | .brk ρ2=>.ret (.next ρ2)
   | .ret r=>.ret (.ret r)
  else .ret (.next ρ)
theorem ZfD {body:List Stmt} (n:Nat) (hp:PassesOwn (model X.prog X.w) X.A X.env X.xe) (hc:PT X c (TAt PK p)) (hb:PSs X body (bH PK s)):PS X (.While c body [] pos) (bH PK (fh p s n)):=(Zit hp hc hb).imp λD σ H hz0=>by
 obtain ⟨pa,D6,H₀,m,ρ,G,R,z⟩:=hz0
 let W:Nat->St->Hp->Prop:=λn σ H=>∃ m ρ G1,Sub G G1/\Rl PK pa D6 H₀ m σ ρ G1 H/\(fh p s n ρ).ok m (Ko PK pa D6 H₀ G D)
 refine ⟨W,⟨n,m,ρ,G,.refl,R,z⟩,?_⟩
 rintro n σ2 H2 ⟨m2,ρ2,G2,sb,R2,k2⟩
 cases n with
 | zero=>exact k2.elim
 | succ n =>
  unfold fh at k2
  refine TAt.then R2 k2 λm3 x G3 H3 s3 w3 R3 k3=>?_
  cases x with
  | false =>
   rw [if_neg AQ] at k3 ⊢
   exact k3 σ2 G3 H3 (sb.trans s3.gs) R3
  | true =>
   rw [if_pos rfl] at k3 ⊢
   refine ⟨W n,λσ' H' h=>⟨n,by omega,h⟩,pa,D6,H₀,m3,ρ2,G3,R3,Tr.ok_mono (Tr.ok_bind.mp k3) λm4 o ko=>?_⟩
   have again:∀ ρ5,(fh p s n ρ5).ok m4 (Ko PK pa D6 H₀ G D)->∀ σ5 G5 H5,Sub G3 G5->Rl PK pa D6 H₀ m4 σ5 ρ5 G5 H5->W n σ5 H5:=λρ5 k5 σ5 G5 H5 sb5 R5 =>
    ⟨m4,ρ5,G5,(sb.trans s3.gs).trans sb5,R5,k5⟩
   cases o with
   | next ρ5=>exact again ρ5 ko
   | cont ρ5=>exact again ρ5 ko
   | brk ρ5=>exact λσ5 G5 H5 sb5 R5=>ko σ5 G5 H5 ((sb.trans s3.gs).trans sb5) R5
   | ret r=>exact ko
noncomputable def lG:Sl->Sl
 | .own _=>.un
 | .dic _=>.un
 | .dip _=>.un
 | s=>s
noncomputable def blk (n:Nat) (ix:List Nat) (ρ:D5):D5:=List.replicate n .un++ix.map λj=>lG ((ρ[j]?).getD .un)
theorem Rl.blk {pa:Addr} {D6 H₀ G H:Hp} {m:Nat} {σ:St} {ρ:D5} (R:Rl PK pa D6 H₀ m σ ρ G H) (n:Nat) (ix:List Nat):Rl PK pa D6 H₀ m (dc n ix σ) (blk n ix ρ) G H:=by
 have key:∀ (k:Nat) (s:Sl),(L2.blk n ix ρ)[k]?=some s->(∃ o,(dc n ix σ)[k]?=some o/\SlOk pa H₀ G H o s)/\(∀ xs,s≠.own xs)/\∀ xs,s≠.dic xs:=λk s h=>by
  unfold L2.blk at h
  unfold dc
  by_cases hk:k < n
  ·rw [AW (by simpa using hk),Bb,if_pos hk] at h
   rw [AW (by simpa using hk),Bb,if_pos hk]
   cases h
   exact ⟨⟨_,rfl,.un⟩,(λxs h=>by cases h),λxs h=>by cases h⟩
  ·rw [A5 (by simpa using Cb hk),CF,AM] at h
   rw [A5 (by simpa using Cb hk),CF,AM]
   cases hj:ix[k - n]? with
   | none=>rw [hj] at h; cases h
   | some j =>
    rw [hj] at h
    have h':lG ((ρ[j]?).getD .un)=s:=A9 h
    subst h'
    show (∃ o,some ((σ[j]?).getD none)=some o/\_)/\_
    cases hr:ρ[j]? with
    | none=>exact ⟨⟨_,rfl,.un⟩,(λxs h=>by cases h),λxs h=>by cases h⟩
    | some s' =>
     obtain ⟨o,h1,h2⟩:=R.sl j s' hr
     rw [h1]
     cases h2 with
     | un=>exact ⟨⟨_,rfl,.un⟩,(λxs h=>by cases h),λxs h=>by cases h⟩
     | d z=>exact ⟨⟨_,rfl,.d z⟩,(λxs h=>by cases h),λxs h=>by cases h⟩
     | own _ _ _ _=>exact ⟨⟨_,rfl,.un⟩,(λxs h=>by cases h),λxs h=>by cases h⟩
     | dic _ _ _ _=>exact ⟨⟨_,rfl,.un⟩,(λxs h=>by cases h),λxs h=>by cases h⟩
     | dip _ _ _ _=>exact ⟨⟨_,rfl,.un⟩,(λxs h=>by cases h),λxs h=>by cases h⟩
     | pen=>exact ⟨⟨_,rfl,.pen⟩,(λxs h=>by cases h),λxs h=>by cases h⟩
     | fn=>exact ⟨⟨_,rfl,.fn⟩,(λxs h=>by cases h),λxs h=>by cases h⟩
 refine ⟨R.wd,R.st,R.p0,λk s h=>(key k s h).1,?_,λk n' xs ys _ h1 _=>absurd rfl ((key k _ h1).2.1 xs),λk n' xs ys _ h1 _=>absurd rfl ((key k _ h1).2.2 xs)⟩
 unfold L2.blk dc
 simp
def fg (n:Nat) (g:DV):Prop:=∀ x ρ ρ',g x ρ=some ρ'->ρ'.length=ρ.length/\∀ k,n<=k->ρ'[k]?=ρ[k]?
def v7 (n:Nat) (g:DU):Prop:=∀ x ρ ρ',g x ρ=some ρ'->ρ'.length=ρ.length/\∀ k,n<=k->ρ'[k]?=ρ[k]?
theorem cp {n k:Nat} (h:k < n):fg n (ao k):=λx ρ ρ' e=>by
 cases e
 exact ⟨A2,λj hj=>AN (by omega)⟩
theorem kG {n:Nat}:v7 n bo:=λx ρ ρ' e=>by
 cases x with
 | nil=>cases e; exact ⟨rfl,λ_ _=>rfl⟩
 | cons _ _=>cases e
theorem ge {n:Nat} {g:DV} {gs:DU} (h1:fg n g) (h2:v7 n gs):v7 n (aJ g gs):=λx ρ ρ' e=>by
 cases x with
 | nil=>cases e
 | cons x xs =>
  have e':(g x ρ).bind (λρ'=>gs xs ρ')=some ρ':=e
  cases h:g x ρ with
  | none=>rw [h] at e'; cases e'
  | some ρ1 =>
   rw [h] at e'
   obtain ⟨a1,a2⟩:=h1 x ρ ρ1 h
   obtain ⟨b1,b2⟩:=h2 xs ρ1 ρ' e'
   exact ⟨b1.trans a1,λk hk=>(b2 k hk).trans (a2 k hk)⟩
theorem kF {n:Nat} {gs:DU} (h2:v7 n gs):fg n (bD gs):=λx ρ ρ' e=>by
 cases x with
 | tuple xs=>exact h2 xs ρ ρ' e
 | _=>cases e
noncomputable def bJ (h:PyData->Tr PyData):List PyData->Tr DY
 | []=>.ret []
 | x::xs=>(h x).bind λy=>(bJ h xs).bind λys=>.ret (y::ys)
noncomputable def dA (is:DQ) (n:Nat) (ix:List Nat) (g:DV) (el:DP):DQ:=λρ =>
 (is ρ).bind λxs=>if small xs.length=true then bJ (λx=>(Tr.of (g x (blk n ix ρ))).bind el) xs else .fail
theorem Rl.weak {pa:Addr} {D6 H₀ G H:Hp} {m:Nat} {σ:St} {ρ ρ':D5} (R:Rl PK pa D6 H₀ m σ ρ' G H) (hl:ρ'.length=ρ.length) (h:∀ (k:Nat) (s:Sl),ρ[k]?=some s->s=.un\/ρ'[k]?=some s):Rl PK pa D6 H₀ m σ ρ G H:=by
 refine ⟨R.wd,R.st,R.p0,λk s hk=>?_,hl.symm.trans R.len,λk n xs ys hkn h1 h2=>?_,λk n xs ys hkn h1 h2=>?_⟩
 ·rcases h k s hk with e | e
  ·subst e
   have hlt:k < σ.length:=by
    rw [<- R.len,hl]
    exact (Ay.mp hk).1
   exact ⟨σ[k],by simp [hlt],.un⟩
  ·exact R.sl k s e
 ·rcases h k _ h1 with e | e
  ·cases e
  ·rcases h n _ h2 with e' | e'
   ·cases e'
   ·exact R.dj k n xs ys hkn e e'
 ·rcases h k _ h1 with e | e
  ·cases e
  ·rcases h n _ h2 with e' | e'
   ·cases e'
   ·exact R.dj2 k n xs ys hkn e e'
theorem yq {n:Nat} {ix:List Nat} {g:DV} (hn:fg n g):∀ σ H Q,eG PK (dA is n ix g i) σ H Q->iP (cX PK is) n ix (λ_=>dB PK g) (λ_=>TAe PK i) σ H Q:=by
 rintro σ H Q ⟨pa,D6,H₀,m,ρ,G,R,z⟩
 refine ⟨pa,D6,H₀,m,ρ,G,R,Tr.ok_mono (Tr.ok_bind.mp z) λm1 xs k J G1 H1 s1 w1 jo=>λB=>?_⟩
 obtain ⟨hs,k⟩:=gf k
 have hs:xs.length<=sizeLine:=of_decide_eq_true hs
 let el:PyData->Tr PyData:=λx=>(Tr.of (g x (blk n ix ρ))).bind i
 let W:Nat->Nat->St->List V->Hp->Prop:=λk mm τ ys H2=>mm=xs.length - k/\k<=xs.length/\ys.length=k/\∃ m G2 ds,Sub G1 G2/\Stp pa G H G2 H2/\Rl PK pa D6 H₀ m τ (blk n ix ρ) G2 H2 /\
  DnAll G2 ys ds/\(bJ el (xs.drop k)).ok m λm' zs=>Ko1 PK pa m' G H (ds++zs) Q
 refine ⟨W,⟨xs.length,rfl,Bg _,rfl,m1,G1,[],.refl,s1,(R.step s1 w1).blk n ix,.nil,k⟩,?_⟩
 rintro k mm τ ys H2 ⟨rfl,hk,hy,m2,G2,ds,sb,st2,R2,dn,k2⟩
 obtain ⟨j1,j2⟩:=jo m2 G2 H2 sb R2.wd
 by_cases hlt:k < xs.length
 ·have hx:xs[k]?=some xs[k]:=by simp [hlt]
  obtain ⟨jg,jy⟩:=j1 k _ hx
  refine .inr ⟨jg,by omega,λx H3 y=>?_⟩
  obtain ⟨G3,s3,w3,d3⟩:=jy x H3 y
  rw [AZ hlt] at k2
  unfold bJ at k2
  rw [Tr.ok_bind,Tr.ok_bind] at k2
  obtain ⟨ρ3,hg3,k3⟩:=Tr.ok_of k2
  refine ⟨pa,D6,H₀,m2,_,G3,_,ρ3,R2.step s3 w3,d3,hg3,λτ4 R4=>?_⟩
  refine ⟨pa,D6,H₀,m2,ρ3,G3,R4,Tr.ok_mono k3 λm5 yd k5=>?_⟩
  intro v G5 H5 s5 w5 d5
  have s35:=s3.trans s5 w3.some
  obtain ⟨pl,pk⟩:=hn _ _ _ hg3
  refine ⟨xs.length - (k+1),by omega,rfl,hlt,by rw [Av,hy]; rfl,m5,G5,ds++[yd],sb.trans s35.gs,st2.trans s35 R2.wd.some,?_,(DnAll.mono s35.gs dn).snoc d5,?_⟩
  ·refine (R4.step s5 w5).weak pl λq sl hq=>?_
   by_cases hqn:q < n
   ·left
    unfold blk at hq
    rw [AW (by simpa using hqn),Bb,if_pos hqn] at hq
    cases hq
    rfl
   ·right
    rw [pk q (Cb hqn)]
    exact hq
  ·refine Tr.ok_mono (Tr.ok_bind.mp k5) λm6 zs k6=>?_
   rw [Bh]
   exact k6
 ·have e:k=xs.length:=by omega
  subst e
  refine .inl ⟨j2,λp v H' hp ev eH=>?_⟩
  subst ev eH
  rw [Br] at k2
  have k2':Ko1 PK pa m2 G H (ds++[]) Q:=k2
  rw [A4] at k2'
  exact (Ko1.later k2' st2 R2.wd.some).new R2.wd dn hp
theorem fe {n:Nat} {ix:List Nat} {g:DV} (h:PE X e (iP (cX PK is) n ix (λ_=>dB PK g) (λ_=>TAe PK i))) (hn:fg n g):PE X e (eG PK (dA is n ix g i)):=h.imp (yq hn)
theorem ox {te te':TE} {g:TG} (h:∀ σ H Q,te' σ H Q->te σ H Q):∀ D σ H,dM te' g D σ H->dM te g D σ H:=λD σ H z=>h σ H _ z
theorem Znv {n k:Nat} {ix:List Nat} {g:DV} (h:PS X st (dM (iP (cX PK is) n ix (λ_=>dB PK g) (λ_=>TAe PK i)) (dZ k))) (hn:fg n g):PS X st (bH PK (j9 k (dA is n ix g i))) :=
 vL (h.imp (ox (yq hn)))
noncomputable def qO:Ou->Tr Re
 | .next _=>.ret (.d .none)
 | .ret r=>.ret r
 | _=>.fail
noncomputable def bv (n k:Nat) (s:DS):DT:=λas=>if decide (as.length=n)=true then (s (as++List.replicate k .un)).bind qO else .fail
theorem Rl.start {pa:Addr} {G H:Hp} {m:Nat} {N:D2} {vs:D3} {as:D5} {k:Nat} (w:Wd PK pa m G H) (ar:ArsOk pa G vs as) (hk:N.length - vs.length=k):Rl PK pa G H m (L2.start N vs) (as++List.replicate k .un) G H:=by
 have key:∀ {vs:D3} {as:D5},ArsOk pa G vs as->∀ (q:Nat) (s:Sl),as[q]?=some s->(∃ o,(vs.map some)[q]?=some o/\SlOk pa H G H o s)/\(∀ xs,s≠.own xs)/\∀ xs,s≠.dic xs:=by
  intro vs as h
  induction h with
  | nil=>intro q s h; simp at h
  | cons h1 h2 ih =>
   intro q s h
   cases q with
   | zero =>
    simp at h
    subst h
    cases h1 with
    | d z=>exact ⟨⟨_,rfl,.d z⟩,(λxs h=>by cases h),λxs h=>by cases h⟩
    | pen=>exact ⟨⟨_,rfl,.pen⟩,(λxs h=>by cases h),λxs h=>by cases h⟩
    | fn=>exact ⟨⟨_,rfl,.fn⟩,(λxs h=>by cases h),λxs h=>by cases h⟩
   | succ q =>
    obtain ⟨⟨o,p1,p2⟩,p3⟩:=ih q s (by simpa using h)
    exact ⟨⟨o,by simpa using p1,p2⟩,p3⟩
 have hl:=ar.length
 have key2:∀ (q:Nat) (s:Sl),(as++List.replicate k .un)[q]?=some s->(∃ o,(L2.start N vs)[q]?=some o/\SlOk pa H G H o s)/\(∀ xs,s≠.own xs)/\∀ xs,s≠.dic xs:=λq s h=>by
  unfold L2.start
  by_cases hq:q < as.length
  ·rw [AW hq] at h
   rw [AW (by rw [At,hl]; exact hq)]
   exact key ar q s h
  ·rw [A5 (by omega),Bb] at h
   rw [A5 (by rw [At]; omega),Bb,At,hl]
   split at h
   ·rename_i hq2
    cases h
    rw [if_pos (by omega)]
    exact ⟨⟨_,rfl,.un⟩,(λxs h=>by cases h),λxs h=>by cases h⟩
   ·cases h
 refine ⟨w,.refl,w.some,λq s h=>(key2 q s h).1,?_,λq n xs ys _ h1 _=>absurd rfl ((key2 q _ h1).2.1 xs),λq n xs ys _ h1 _=>absurd rfl ((key2 q _ h1).2.2 xs)⟩
 unfold L2.start
 simp [hl,hk]
 omega
theorem bF {P:Program} {w:World} {K:DO} {mg:D4} {base:Heap} {x:Str} {N ps:D2} {kk k:Nat} (D:Def K mg x st ps) (S:FnScope N ps (aP st)) (hk:N.length - ps.length=k)
  (hbody:∀ (f:Addr) (cdv:Value) (A:Around) (outer:List Env) (sh:Shared) (H:Hp) (E:XK),Room kk (A.deeper (envOfC x (aP st) sh.heap.objs.size f cdv)) ->
   PSs (jp jA P w K mg base N x (aP st) f cdv A outer sh H E).nox (iF st) (bH PK s)):ACal PK P w K mg base x (kk+1) ps (bv ps.length k s):=by
 have len:∀ as m Z,(bv ps.length k s as).ok m Z->as.length=ps.length:=λas m Z h=>by
  unfold bv at h
  exact of_decide_eq_true (gf h).1
 refine ⟨D.ok S (λvs H Q E h=>h.1) λf cdv A outer sh H vs Q E hr hsp=>?_,len⟩
 obtain ⟨hv,pa,m,G,as,wd,ar,z⟩:=hsp
 refine ⟨_,hbody f cdv A outer sh H E hr,?_⟩
 unfold bv at z
 obtain ⟨_,z⟩:=gf z
 refine ⟨pa,G,H,m,_,G,Rl.start wd ar (by rw [hv]; exact hk),Tr.ok_mono (Tr.ok_bind.mp z) λm1 o ko=>?_⟩
 cases o with
 | next ρ=>exact λσ G1 H1 sb R1=>ko .non G1 H1 R1.st R1.wd .non
 | ret r=>exact ko
 | brk ρ=>exact ko.elim
 | cont ρ=>exact ko.elim
theorem ZiF {tg l:Expr} {tl:TE} (hl:PE X l tl):PI X tg l (λσ H R=>tl σ H λx H1=>∃ a,x=.ref a/\((∃ xs,SqL X.K H1 a xs/\R (Ap X.K a) H1)\/(∃ xs,SqT X.K H1 a xs/\R (Ao X.K a) H1))):=by
 intro pins s σ H R I h
 refine thn (hl pins s σ H _ I h) λv s1 hz0=>?_
 obtain ⟨x,H1,I1,r1,q1⟩:=hz0
 obtain ⟨a,e,q⟩:=q1
 subst e
 cases r1
 rcases q with ⟨xs,hq,q⟩ | ⟨xs,hq,q⟩
 ·obtain ⟨its,rv,p,hz⟩:=I1.list hq
  refine wpAny_pyIter_list p.isList ?_
  refine ⟨s1.heap.objs.size,[s1.heap.objs.size],_,_,H1,rfl,I1.kept (t':=s1.toks) λb o e=>v9 _ e,Zgy a _,⟨_,AC _ rfl,rfl,rfl⟩,λb hb=>?_,q⟩
  have e:b=s1.heap.objs.size:=by simpa using hb
  subst e
  exact I1.fpOk (Aw _) (I1.hok.fresh (Aw _))
 ·obtain ⟨its,rv,p,hz⟩:=I1.tuple hq
  refine wpAny_pyIter_tuple (show s1.heap.IsTuple a its.toArray from p) ?_
  refine ⟨s1.heap.objs.size,[s1.heap.objs.size],_,_,H1,rfl,I1.kept (t':=s1.toks) λb o e=>v9 _ e,Zgv a _,⟨_,AC _ rfl,rfl,rfl⟩,λb hb=>?_,q⟩
  have e:b=s1.heap.objs.size:=by simpa using hb
  subst e
  exact I1.fpOk (Aw _) (I1.hok.fresh (Aw _))
theorem DnAll.get {H:Hp}:∀ {vs:D3} {ds:DY} (n:Nat) {d:PyData},DnAll H vs ds->ds[n]?=some d->∃ v,vs[n]?=some v/\Dn H v d
 | _,_,_,_,.nil,e=>by simp at e
 | _,_,0,_,.cons g t,e=>by simp at e; subst e; exact ⟨_,rfl,g⟩
 | _,_,n+1,_,.cons g t,e=>by
  obtain ⟨v,h1,h2⟩:=DnAll.get n t (by simpa using e)
  exact ⟨v,by simpa using h1,h2⟩
theorem Zkm {K:DO} {pa a:Addr} {G:Hp} {vs:D3} {xs:DY} (h:G a=some (.lst vs)) (d:DnAll G vs xs):jx PK pa (Ap K a) G xs:=λm G2 H2 sb w=>by
 have hq:SqL K H2 a vs:=SqL.of (w.sub _ _ (sb _ _ h))
 refine ⟨λn x hx=>?_,vs,hq,by rw [d.length]; exact Aw _⟩
 obtain ⟨v,hv,dv⟩:=d.get n hx
 refine ⟨⟨vs,v,hq,hv⟩,λy H3 hz0=>?_⟩
 obtain ⟨e,hy⟩:=hz0
 subst e
 have:=hy vs hq
 rw [hv] at this
 cases this
 exact ⟨G2,.refl,w,dv.mono sb⟩
theorem Zkj {K:DO} {pa a:Addr} {G:Hp} {vs:D3} {xs:DY} (h:G a=some (.tup vs)) (d:DnAll G vs xs):jx PK pa (Ao K a) G xs:=λm G2 H2 sb w=>by
 have hq:SqT K H2 a vs:=SqT.of (w.sub _ _ (sb _ _ h))
 refine ⟨λn x hx=>?_,vs,hq,by rw [d.length]; exact Aw _⟩
 obtain ⟨v,hv,dv⟩:=d.get n hx
 refine ⟨⟨vs,v,hq,hv⟩,λy H3 hz0=>?_⟩
 obtain ⟨e,hy⟩:=hz0
 subst e
 have:=hy vs hq
 rw [hv] at this
 cases this
 exact ⟨G2,.refl,w,dv.mono sb⟩
noncomputable def gz:PyData->Option DY
 | .list xs=>some xs
 | .tuple xs=>some xs
 | _=>none
@[simp] theorem Zov (xs:DY):gz (.list xs)=some xs:=rfl
@[simp] theorem Zou (xs:DY):gz (.tuple xs)=some xs:=rfl
noncomputable def cz (i:DP):DQ:=λρ=>(i ρ).bind λx=>Tr.of (gz x)
theorem df {tg l:Expr} (hl:PE X l (TAe PK i)):PI X tg l (cX PK (cz i)):=(ZiF hl).imp λσ H R0 hz0=>by
 obtain ⟨pa,D6,H₀,m,ρ,G,R,z⟩:=hz0
 refine TAe.then R z λm1 x v G1 H1 s1 w1 R1 d1 q1=>?_
 obtain ⟨xs,hx,q1⟩:=Tr.ok_of q1
 cases d1 with
 | lst h1 h2=>cases hx; exact ⟨_,rfl,.inl ⟨_,SqL.of (w1.sub _ _ h1),q1 _ G1 H1 s1 w1 (Zkm h1 h2)⟩⟩
 | tup h1 h2=>cases hx; exact ⟨_,rfl,.inr ⟨_,SqT.of (w1.sub _ _ h1),q1 _ G1 H1 s1 w1 (Zkj h1 h2)⟩⟩
 | _=>cases hx
noncomputable def bi (lo hi:Int):DY:=(aQ lo (hi - lo).toNat).map PyData.int
theorem ZdN {pa:Addr} {G:Hp} {lo:Int} {n:Nat}:jx PK pa (kh lo n) G ((aQ lo n).map PyData.int):=λm G2 H2 sb w=>by
 refine ⟨λk x hx=>?_,by show n<=_; rw [At,fO]; exact Aw _⟩
 have hk:k < n:=by
  have:=(Ay.mp hx).1
  rwa [At,fO] at this
 refine ⟨hk,λy H3 hz0=>?_⟩
 obtain ⟨e1,e2⟩:=hz0
 subst e1 e2
 have:x=.int (lo+k):=by
  unfold aQ at hx
  simp [hk] at hx
  exact hx.symm
 subst this
 exact ⟨G2,.refl,w,.int _⟩
noncomputable def gi (n:Int):Bool:=decide (-(2 ^ 62)<=n/\n < 2 ^ 62)
noncomputable def kD:List PyData->Option DY
 | [.int n]=>if gi n=true then some (bi 0 n) else none
 | _=>none
noncomputable def mn:List PyData->Option DY
 | [.int k,.int n]=>if (gi k && gi n)=true then some (bi k n) else none
 | _=>none
noncomputable def gm (is:DQ):DQ:=λρ=>(is ρ).bind λxs=>Tr.of (kD xs)
noncomputable def nR (is:DQ):DQ:=λρ=>(is ρ).bind λxs=>Tr.of (mn xs)
theorem ZbM {G:Hp} {vs:D3} {xs ys:DY} (d:DnAll G vs xs) (h:kD xs=some ys):∃ n:Int,vs=[.int n]/\-(2 ^ 62)<=n/\n < 2 ^ 62/\ys=bi 0 n:=by
 unfold kD at h
 split at h
 ·rename_i n
  split at h
  ·rename_i hn
   cases h
   cases d with
   | cons d1 d2 =>
    cases d2
    cases d1
    have:=of_decide_eq_true hn
    exact ⟨n,rfl,this.1,this.2,rfl⟩
  ·cases h
 ·cases h
theorem Zh6 {G:Hp} {vs:D3} {xs ys:DY} (d:DnAll G vs xs) (h:mn xs=some ys):∃ k n:Int,vs=[.int k,.int n]/\(-(2 ^ 62)<=k/\k < 2 ^ 62/\-(2 ^ 62)<=n/\n < 2 ^ 62)/\ys=bi k n:=by
 unfold mn at h
 split at h
 ·rename_i k n
  split at h
  ·rename_i hn
   cases h
   cases d with
   | cons d1 d2 =>
    cases d2 with
    | cons d2 d3 =>
     cases d3
     cases d1
     cases d2
     rw [AU] at hn
     have h1:=of_decide_eq_true hn.1
     have h2:=of_decide_eq_true hn.2
     exact ⟨k,n,rfl,⟨h1.1,h1.2,h2.1,h2.2⟩,rfl⟩
  ·cases h
 ·cases h
theorem gY {tg e:Expr} (h:PI X tg e (Zd1 (TAd PK is))):PI X tg e (cX PK (gm is)):=h.imp λσ H R0 hz0=>by
 obtain ⟨pa,D6,H₀,m,ρ,G,R,z⟩:=hz0
 refine TAd.then R z λm1 xs vs G1 H1 s1 w1 R1 d1 q1=>?_
 obtain ⟨ys,hy,q1⟩:=Tr.ok_of q1
 obtain ⟨n,e,h1,h2,rfl⟩:=ZbM d1 hy
 refine ⟨n,e,h1,h2,?_⟩
 have q:=q1 (kh 0 n.toNat) G1 H1 s1 w1
 unfold bi at q
 rw [CT] at q
 exact q ZdN
theorem ZfT {tg e:Expr} (h:PI X tg e (Zd0 (TAd PK is))):PI X tg e (cX PK (nR is)):=h.imp λσ H R0 hz0=>by
 obtain ⟨pa,D6,H₀,m,ρ,G,R,z⟩:=hz0
 refine TAd.then R z λm1 xs vs G1 H1 s1 w1 R1 d1 q1=>?_
 obtain ⟨ys,hy,q1⟩:=Tr.ok_of q1
 obtain ⟨k,n,e,h1,rfl⟩:=Zh6 d1 hy
 exact ⟨k,n,e,h1,q1 (kh k (n - k).toNat) G1 H1 s1 w1 ZdN⟩
variable {PK:Pk} {X:Cx} {a b c e:Expr} {es:List Expr} {pos:Pos} {i j l:DP} {is:DQ}
noncomputable def fit (n:Int):Bool:=decide (n.natAbs < 2 ^ 8000)
noncomputable def bg:DW
 | .int m,.int n=>some (.int (m+n))
 | .tuple xs,.tuple ys=>if (!xs.isEmpty && small (xs.length+ys.length))=true then some (.tuple (xs++ys)) else none
 | .list xs,.list ys=>if small (xs.length+ys.length)=true then some (.list (xs++ys)) else none
 | _,_=>none
noncomputable def xH (K:DO):R2:=λx y H Q=>fP (λi j=>.int (i+j)) x y H Q\/Zcn K x y H Q\/Zcp x y H Q
theorem bC:OpR X (binaryOp .Add) (xH X.K):=jN.or (Zje.or Zjg)
theorem bB {K:DO}:cN (xH K) bg:=λPK pa m G H x y dx dy dz Q w hx hy hz k=>by
 unfold bg at hz
 split at hz
 ·cases hz; cases hx; cases hy
  exact .inl ⟨_,_,rfl,rfl,k.here w (.int _)⟩
 ·rename_i xs ys
  split at hz
  ·rename_i hc
   rw [AU] at hc
   have h1:xs.isEmpty=false:=by simpa using hc.1
   have h2:xs.length+ys.length<=sizeLine:=of_decide_eq_true hc.2
   cases hz
   cases hx with
   | tup a1 a2 =>
    cases hy with
    | tup b1 b2 =>
     refine .inr (.inl ⟨_,_,_,_,rfl,rfl,SqT.of (w.sub _ _ a1),SqT.of (w.sub _ _ b1),?_,by rw [a2.length,b2.length]; exact h2,λe=>?_,λe p hp=>k.tup w (a2.append b2) hp⟩)
     ·intro e
      rw [<- a2.isEmpty,e] at h1
      cases h1
     ·subst e
      cases b2
      refine k.here w ?_
      rw [A4]
      exact .tup a1 a2
  ·cases hz
 ·rename_i xs ys
  split at hz
  ·rename_i hc
   have h2:xs.length+ys.length<=sizeLine:=of_decide_eq_true hc
   cases hz
   cases hx with
   | lst a1 a2 =>
    cases hy with
    | lst b1 b2=>exact .inr (.inr ⟨_,_,_,_,rfl,rfl,w.sub _ _ a1,w.sub _ _ b1,by rw [a2.length,b2.length]; exact h2,λp hp=>k.lst w (a2.append b2) hp⟩)
  ·cases hz
 ·cases hz
noncomputable def dh:DW
 | .int m,.int n=>some (.int (m - n))
 | _,_=>none
theorem dS:cN (fP λi j=>.int (i - j)) dh:=λPK pa m G H x y dx dy dz Q w hx hy hz k=>by
 unfold dh at hz
 split at hz
 ·cases hz; cases hx; cases hy
  exact ⟨_,_,rfl,rfl,k.here w (.int _)⟩
 ·cases hz
theorem DnAll.rep {H:Hp} {vs:D3} {ds:DY} (h:DnAll H vs ds):∀ k:Nat,DnAll H (List.replicate k vs).flatten (List.replicate k ds).flatten
 | 0=>.nil
 | k+1=>by
  rw [Be,Be,BE,BE]
  exact h.append (h.rep k)
noncomputable def Zcf (K:DO):R2:=λx y H Q=>rI CMulG (λi j=>.int (i * j)) x y H Q\/Zca K x y H Q\/Zcb x y H Q
theorem b7:OpR X (binaryOp .Mult) (Zcf X.K):=Zi9.or (Zi5.or Zi6)
noncomputable def bX:DW
 | .int m,.int n=>if (fit m && fit n)=true then some (.int (m * n)) else none
 | .tuple xs,.int n=>if (decide (1 < n) && decide (n<=1000) && !xs.isEmpty && decide (xs.length<=1000))=true then some (.tuple (List.replicate n.toNat xs).flatten) else none
 | .list xs,.int n=>if (decide (-(2 ^ 63)<=n) && decide (n < 2 ^ 63) && small (xs.length * n.toNat))=true then some (.list (List.replicate n.toNat xs).flatten) else none
 | _,_=>none
theorem b6 {K:DO}:cN (Zcf K) bX:=λPK pa m G H x y dx dy dz Q w hx hy hz k=>by
 unfold bX at hz
 split at hz
 ·split at hz
  ·rename_i hc
   rw [AU] at hc
   cases hz; cases hx; cases hy
   exact .inl ⟨_,_,rfl,rfl,⟨of_decide_eq_true hc.1,of_decide_eq_true hc.2⟩,k.here w (.int _)⟩
  ·cases hz
 ·split at hz
  ·rename_i hc
   simp only [AU,decide_eq_true_eq,CZ] at hc
   cases hz; cases hy
   cases hx with
   | tup a1 a2 =>
    refine .inr (.inl ⟨_,_,_,rfl,rfl,SqT.of (w.sub _ _ a1),hc.1.1.1,hc.1.1.2,?_,by rw [a2.length]; exact hc.2,λp hp=>k.tup w (a2.rep _) hp⟩)
    intro e
    have:=hc.1.2
    rw [<- a2.isEmpty,e] at this
    cases this
  ·cases hz
 ·split at hz
  ·rename_i hc
   simp only [AU,decide_eq_true_eq] at hc
   cases hz; cases hy
   cases hx with
   | lst a1 a2=>exact .inr (.inr ⟨_,_,_,rfl,rfl,w.sub _ _ a1,hc.1.1,hc.1.2,by rw [a2.length]; exact of_decide_eq_true hc.2,λp hp=>k.lst w (a2.rep _) hp⟩)
  ·cases hz
 ·cases hz
noncomputable def iC:DW
 | .int m,.int n=>if (decide (n≠0) && fit n)=true then some (.int (m.fdiv n)) else none
 | _,_=>none
theorem l4:cN (rI Zgb λi j=>.int (i.fdiv j)) iC:=λPK pa m G H x y dx dy dz Q w hx hy hz k=>by
 unfold iC at hz
 split at hz
 ·split at hz
  ·rename_i hc
   rw [AU] at hc
   cases hz; cases hx; cases hy
   exact ⟨_,_,rfl,rfl,⟨of_decide_eq_true hc.1,of_decide_eq_true hc.2⟩,k.here w (.int _)⟩
  ·cases hz
 ·cases hz
noncomputable def i7:DW
 | .int m,.int n=>if decide (n≠0)=true then some (.int (m.fmod n)) else none
 | _,_=>none
theorem wA:cN (rI (λ_ j=>j≠0) λi j=>.int (i.fmod j)) i7:=λPK pa m G H x y dx dy dz Q w hx hy hz k=>by
 unfold i7 at hz
 split at hz
 ·split at hz
  ·rename_i hc
   cases hz; cases hx; cases hy
   exact ⟨_,_,rfl,rfl,of_decide_eq_true hc,k.here w (.int _)⟩
  ·cases hz
 ·cases hz
noncomputable def gZ (i:DP):DP:=λρ=>(i ρ).bind λx=>match x with
 | .int n=>.ret (.int (-n))
 | _=>.fail
theorem j8 (ha:PE X a (TAe PK i)):PE X (.UnaryOp .USub a pos) (TAe PK (gZ i)):=(ZiL Zgr ha).imp λσ H Q hz0=>by
 obtain ⟨pa,D6,H₀,m,ρ,G,R,z⟩:=hz0
 refine TAe.then R z λm1 x v G1 H1 s1 w1 R1 d1 q1=>?_
 cases d1 with
 | int n=>exact ⟨n,rfl,(Kn.later q1 s1 w1.some).here w1 (.int _)⟩
 | _=>exact q1.elim
noncomputable def cD (f:Int->Int->Bool):DW
 | .int m,.int n=>some (.bool (f m n))
 | _,_=>none
theorem cO {f:Int->Int->Bool}:cN (fP λi j=>.bl (f i j)) (cD f):=λPK pa m G H x y dx dy dz Q w hx hy hz k=>by
 unfold cD at hz
 split at hz
 ·cases hz; cases hx; cases hy
  exact ⟨_,_,rfl,rfl,k.here w (.bl _)⟩
 ·cases hz
noncomputable def dP:DW
 | .str m,.str n=>some (.bool (m == n))
 | x,y=>if (SeqAt.shaped x && SeqAt.shaped y)=true then some (.bool (PyData.eqv x y)) else none
noncomputable def cQ:DW
 | .str m,.str n=>some (.bool (!(m == n)))
 | x,y=>if (SeqAt.shaped x && SeqAt.shaped y)=true then some (.bool (!PyData.eqv x y)) else none
noncomputable def Zck:R2:=λx y H Q=>rEq x y H Q\/∃ d e,Dn H x d/\Dn H y e/\SeqAt.shaped d=true/\SeqAt.shaped e=true/\Q (.bl (PyData.eqv d e)) H
noncomputable def Zcd:R2:=λx y H Q=>rNe x y H Q\/∃ d e,Dn H x d/\Dn H y e/\SeqAt.shaped d=true/\SeqAt.shaped e=true/\Q (.bl (!PyData.eqv d e)) H
theorem ii {k:Nat} (hr:Room k X.A):OpR X (compareOp .Eq) Zck:=Zjd.or (Zjc hr)
theorem eX {k:Nat} (hr:Room k X.A):OpR X (compareOp .NotEq) Zcd:=Zi8.or (Zi7 hr)
theorem g9:cN Zck dP:=λPK pa m G H x y dx dy dz Q w hx hy hz k=>by
 unfold dP at hz
 split at hz
 ·cases hz; cases hx; cases hy
  exact .inl ⟨rfl,by rw [vC]; exact k.here w (.bl _)⟩
 ·split at hz
  ·rename_i hc
   rw [AU] at hc
   cases hz
   exact .inr ⟨_,_,hx.mono w.sub,hy.mono w.sub,hc.1,hc.2,k.here w (.bl _)⟩
  ·cases hz
theorem eT:cN Zcd cQ:=λPK pa m G H x y dx dy dz Q w hx hy hz k=>by
 unfold cQ at hz
 split at hz
 ·cases hz; cases hx; cases hy
  exact .inl ⟨rfl,by rw [vC]; exact k.here w (.bl _)⟩
 ·split at hz
  ·rename_i hc
   rw [AU] at hc
   cases hz
   exact .inr ⟨_,_,hx.mono w.sub,hy.mono w.sub,hc.1,hc.2,k.here w (.bl _)⟩
  ·cases hz
noncomputable def Zow:DW
 | .bool m,.bool n=>some (.bool (m == n))
 | _,_=>none
noncomputable def qu:DW
 | .bool m,.bool n=>some (.bool (!(m == n)))
 | _,_=>none
theorem Zgi:cN (λx y H Q=>∃ a b,x=.bl a/\y=.bl b/\Q (.bl (!(a == b))) H) qu:=λPK pa m G H x y dx dy dz Q w hx hy hz k=>by
 unfold qu at hz
 split at hz
 ·cases hz; cases hx; cases hy
  exact ⟨_,_,rfl,rfl,k.here w (.bl _)⟩
 ·cases hz
noncomputable def jX:PyData->Bool
 | .none=>true
 | _=>false
noncomputable def qv:DW:=λx y=>if jX y=true then some (.bool (jX x)) else none
theorem Dn.no {G:Hp} {v:V} {x:PyData} (h:Dn G v x):decide (v=.non)=jX x:=by
 cases h <;> simp [jX]
theorem Zgj:cN (λx y H Q=>y=.non/\Q (.bl (decide (x=.non))) H) qv:=λPK pa m G H x y dx dy dz Q w hx hy hz k=>by
 unfold qv at hz
 split at hz
 ·rename_i hc
  cases hz
  refine ⟨?_,by rw [hx.no]; exact k.here w (.bl _)⟩
  rw [<- hy.no] at hc
  exact of_decide_eq_true hc
 ·cases hz
noncomputable def ap:DW
 | .list xs,.int n=>bG xs n
 | .tuple xs,.int n=>bG xs n
 | _,_=>none
theorem DnAll.at {H:Hp} {vs:D3} {ds:DY} {n:Int} {d:PyData} (h:DnAll H vs ds) (e:bG ds n=some d):∃ v,bG vs n=some v/\Dn H v d:=by
 unfold bG at e ⊢
 rw [<- h.length] at e
 cases hn:cy vs.length n with
 | none=>rw [hn] at e; cases e
 | some j =>
  rw [hn] at e
  exact h.get j e
theorem ay {K:DO}:cN (rIx K) ap:=λPK pa m G H x y dx dy dz Q w hx hy hz k=>by
 unfold ap at hz
 split at hz
 ·cases hy
  cases hx with
  | lst a1 a2 =>
   obtain ⟨v,h1,h2⟩:=a2.at hz
   exact .inl ⟨_,_,_,v,rfl,rfl,SqL.of (w.sub _ _ a1),h1,k.here w h2⟩
 ·cases hy
  cases hx with
  | tup a1 a2 =>
   obtain ⟨v,h1,h2⟩:=a2.at hz
   exact .inr (.inl ⟨_,_,_,v,rfl,rfl,SqT.of (w.sub _ _ a1),h1,k.here w h2⟩)
 ·cases hz
noncomputable def cj:List PyData->Option PyData
 | [.list xs]=>some (.int xs.length)
 | [.tuple xs]=>some (.int xs.length)
 | _=>none
theorem cY {K:DO}:fJ (λxs H Q=>∃ p ys,xs=[.ref p]/\(SqL K H p ys\/SqT K H p ys)/\Q (.int ys.length) H) cj:=λPK pa m G H vs ds d Q w hv hd k=>by
 unfold cj at hd
 split at hd
 ·cases hd
  cases hv with
  | cons h1 h2 =>
   cases h2
   cases h1 with
   | lst a1 a2=>exact ⟨_,_,rfl,.inl (SqL.of (w.sub _ _ a1)),by rw [a2.length]; exact k.here w (.int _)⟩
 ·cases hd
  cases hv with
  | cons h1 h2 =>
   cases h2
   cases h1 with
   | tup a1 a2=>exact ⟨_,_,rfl,.inr (SqT.of (w.sub _ _ a1)),by rw [a2.length]; exact k.here w (.int _)⟩
 ·cases hd
noncomputable def vR (n:Int):Int:=if n < 0 then -n else n
noncomputable def lM:List PyData->Option PyData
 | [.int n]=>some (.int (vR n))
 | _=>none
theorem wE:fJ (λxs H Q=>∃ i,xs=[.int i]/\Q (.int (if i < 0 then -i else i)) H) lM:=λPK pa m G H vs ds d Q w hv hd k=>by
 unfold lM at hd
 split at hd
 ·cases hd
  cases hv with
  | cons h1 h2=>cases h2; cases h1; exact ⟨_,rfl,k.here w (.int _)⟩
 ·cases hd
noncomputable def eL (m n:Int):Int:=if n > m then n else m
noncomputable def iu:List PyData->Option PyData
 | [.int m,.int n]=>some (.int (eL m n))
 | _=>none
theorem kj:fJ (λxs H Q=>∃ i j,xs=[.int i,.int j]/\Q (.int (if j > i then j else i)) H) iu:=λPK pa m G H vs ds d Q w hv hd k=>by
 unfold iu at hd
 split at hd
 ·cases hd
  cases hv with
  | cons h1 h2=>cases h2 with | cons h2 h3=>cases h3; cases h1; cases h2; exact ⟨_,_,rfl,k.here w (.int _)⟩
 ·cases hd
noncomputable def nc:List PyData->Option PyData
 | [.int n]=>some (.int n)
 | [.bool n]=>some (.int (if n then 1 else 0))
 | _=>none
theorem Zgm:fJ (λxs H Q=>(∃ i,xs=[.int i]/\Q (.int i) H)\/∃ k,xs=[.bl k]/\Q (.int (if k then 1 else 0)) H) nc:=λPK pa m G H vs ds d Q w hv hd k=>by
 unfold nc at hd
 split at hd
 ·cases hd
  cases hv with
  | cons h1 h2=>cases h2; cases h1; exact .inl ⟨_,rfl,k.here w (.int _)⟩
 ·cases hd
  cases hv with
  | cons h1 h2=>cases h2; cases h1; exact .inr ⟨_,rfl,k.here w (.int _)⟩
 ·cases hd
noncomputable def ga:List PyData->Option PyData
 | [.list xs]=>some (.tuple xs)
 | [.tuple xs]=>some (.tuple xs)
 | _=>none
theorem iM {K:DO}:fJ (λxs H Q=>∃ p ys,xs=[.ref p]/\((SqL K H p ys/\∀ l,H l=none->Q (.ref l) (upd H l (.tup ys)))\/(SqT K H p ys/\Q (.ref p) H))) ga:=λPK pa m G H vs ds d Q w hv hd k=>by
 unfold ga at hd
 split at hd
 ·cases hd
  cases hv with
  | cons h1 h2 =>
   cases h2
   cases h1 with
   | lst a1 a2=>exact ⟨_,_,rfl,.inl ⟨SqL.of (w.sub _ _ a1),λp hp=>k.tup w a2 hp⟩⟩
 ·cases hd
  cases hv with
  | cons h1 h2 =>
   cases h2
   cases h1 with
   | tup a1 a2=>exact ⟨_,_,rfl,.inr ⟨SqT.of (w.sub _ _ a1),k.here w (.tup a1 a2)⟩⟩
 ·cases hd
noncomputable def jU:List PyData->Option DY
 | [.list xs]=>some xs
 | [.tuple xs]=>some xs
 | _=>none
theorem wB {K:DO}:Ae (λxs H Q=>∃ p ys,xs=[.ref p]/\(SqL K H p ys\/SqT K H p ys)/\∀ l,H l=none->Q (.ref l) (upd H l (.lst ys))) jU:=λPK pa m G H vs ds d Q w hv hd k=>by
 unfold jU at hd
 split at hd
 ·cases hd
  cases hv with
  | cons h1 h2 =>
   cases h2
   cases h1 with
   | lst a1 a2=>exact ⟨_,_,rfl,.inl (SqL.of (w.sub _ _ a1)),λp hp=>k.new w a2 hp⟩
 ·cases hd
  cases hv with
  | cons h1 h2 =>
   cases h2
   cases h1 with
   | tup a1 a2=>exact ⟨_,_,rfl,.inr (SqT.of (w.sub _ _ a1)),λp hp=>k.new w a2 hp⟩
 ·cases hd
noncomputable def oY (d:PyData):Bool:=!d.hasDict && d.showable && decide (d.depth<=32) && decide (d.shown.length<=sizeLine)
noncomputable def iO:PyData->String
 | .none=>"NoneType"
 | .bool _=>"bool"
 | .int _=>"int"
 | .str _=>"str"
 | .list _=>"list"
 | .tuple _=>"tuple"
 | .dict _=>"dict"
theorem Dn.ty {K:DO} {G H:Hp} (sb:Sub G H) {v:V} {d:PyData} (h:Dn G v d):TyOf K H v (.type (iO d)):=by
 cases h with
 | non=>exact .non
 | bl b=>exact .bl b
 | int i=>exact .int i
 | str x=>exact .str x
 | tup h _=>exact .tup (sb _ _ h)
 | lst h _=>exact .lst (sb _ _ h)
 | dct h _=>exact h.elim (λh=>.dK (sb _ _ h)) λ⟨o,h⟩=>.frzD (sb _ _ h)
 | dcp _ h _=>exact .frzE (sb _ _ h)
noncomputable def ll (T:String) (t:String):Bool:=decide (t=T) || (decide (T="int") && decide (t="bool"))
noncomputable def eS (T:String) (i:DP):DP:=λρ=>(i ρ).bind λx=>.ret (.bool (ll T (iO x)))
def ZdR (T:String):Prop:=T="int"\/T="bool"\/T="str"\/T="list"\/T="tuple"\/T="dict"
theorem Zj9 {K:DO} {T:String} (h:ZdR T) (d:PyData):PySem.W.kitOne K (.type (iO d)) (.type T)=some (ll T (iO d)):=by
 rcases h with rfl | rfl | rfl | rfl | rfl | rfl <;> cases d <;> rfl
theorem fI {T:String} {tc:TE} (hT:ZdR T) (htc:tc=tC (.ty T)) (h:PE X e (fN (λxs H Q=>∃ x T t b,xs=[x,.ty T]/\TyOf X.K H x t/\PySem.W.kitOne X.K t (.type T)=some b/\Q (.bl b) H) (fM (TAe PK i) (fM tc aS)))):PE X e (TAe PK (eS T i)):=h.imp λσ H Q hz0=>by
 obtain ⟨pa,D6,H₀,m,ρ,G,R,z⟩:=hz0
 subst htc
 refine TAe.then R z λm1 x v G1 H1 s1 w1 R1 d1 q1=>?_
 exact ⟨v,T,_,_,rfl,d1.ty w1.sub,Zj9 hT x,(Kn.later q1 s1 w1.some).here w1 (.bl _)⟩
noncomputable def dH (xs:DY) (lo hi:Option Int):DY:=(xs.drop (HT.aR xs.length 0 lo)).take (HT.aR xs.length xs.length hi - HT.aR xs.length 0 lo)
theorem DnAll.take {H:Hp}:∀ {vs:D3} {ds:DY} (n:Nat),DnAll H vs ds->DnAll H (vs.take n) (ds.take n)
 | _,_,0,_=>.nil
 | _,_,_+1,.nil=>.nil
 | _,_,n+1,.cons r t=>.cons r (DnAll.take n t)
theorem DnAll.drop {H:Hp}:∀ {vs:D3} {ds:DY} (n:Nat),DnAll H vs ds->DnAll H (vs.drop n) (ds.drop n)
 | _,_,0,r=>r
 | _,_,_+1,.nil=>.nil
 | _,_,n+1,.cons r t=>DnAll.drop n t
theorem DnAll.cut {H:Hp} {vs:D3} {ds:DY} (h:DnAll H vs ds) (lo hi:Option Int):DnAll H (gk vs lo hi) (dH ds lo hi):=by
 unfold gk dH
 rw [h.length]
 exact (h.drop _).take _
noncomputable abbrev gD:=List Sl->Tr (Option Int)
noncomputable def dg:gD:=λ_=>.ret none
noncomputable def cK (i:DP):gD:=λρ=>(i ρ).bind λx=>match x with
 | .int n=>.ret (some n)
 | _=>.fail
noncomputable def TAp (PK:Pk) (i:gD):TO:=λσ H Q=>∃ pa D6 H₀ m ρ G,Rl PK pa D6 H₀ m σ ρ G H/\(i ρ).ok m λm' x=>∀ G' H',Stp pa G H G' H'->Wd PK pa m' G' H'->Q x H'
theorem PO.imp {e:Option Expr} {t t':TO} (h:PO X e t) (q:∀ σ H Q,t' σ H Q->t σ H Q):PO X e t':=λpins s σ H Q I z=>h pins s σ H Q I (q σ H Q z)
theorem dI:PO X none (TAp PK dg):=ZcF.imp λσ H Q hz0=>by
 obtain ⟨pa,D6,H₀,m,ρ,G,R,z⟩:=hz0
 exact z G H .refl R.wd
theorem de (h:PE X e (TAe PK i)):PO X (some e) (TAp PK (cK i)):=(ZcE h).imp λσ H Q hz0=>by
 obtain ⟨pa,D6,H₀,m,ρ,G,R,z⟩:=hz0
 refine TAe.then R z λm1 x v G1 H1 s1 w1 R1 d1 q1=>?_
 cases d1 with
 | int n=>exact ⟨n,rfl,q1 G1 H1 s1 w1⟩
 | _=>exact q1.elim
theorem ZkC {prog:Program} {w:World} {A:Around} {E:DX} {s:Shared} {t sl:Addr} {items:Array Value} {vl vu:Value} {lo hi:Option Int} {Q:DX} (ht:IsTup s.heap t items) (hs:s.heap.IsSliceOf sl vl vu .none) (pl:IsPart vl lo) (pu:IsPart vu hi)
  (hw:HT.aR items.size 0 lo=0/\HT.aR items.size items.size hi=items.size) (h:Q (.ref t) s):wpAny (model prog w) A (getItem (.ref t) (.ref sl)) Q E s:=by
 obtain ⟨os,hos,hcs,hds⟩:=id hs
 have hTs:s.TypeIs (.ref sl) "slice":=⟨os,hos,hcs⟩
 unfold getItem
 try with_reducible refine wpAny_holding ?_
 first | refine wpAny_bind (wpAny_pure ?_) | skip
 refine wpAny_bind (wpAny_sequenceKey ht.typeIs (by decide) ?_)
 refine wpAny_bind (wpAny_callSpecial?_slot (name:=Str.ofString "__getitem__") ht.typeIs B2
  (wpAny_call_entry B2 ht.typeIs entry_tuple_getitem ?_ (args_tuple_getitem _ _)))
 show wpAny _ _ (Builtin.Tuple.tupleItemsOf (.ref t) >>= _) _ _ s
 refine wpAny_bind (tupleItemsOf_ ht ?_)
 refine wpAny_bind (wpAny_typeOf hTs ?_)
 rw [if_pos (by decide)]
 refine wpAny_bind (HT.ZaU hs pl pu ?_)
 have hyes:(((HT.aR items.size 0 lo:Nat):Int) == 0 && (1:Int) == 1 && (HT.aR items.size items.size hi - HT.aR items.size 0 lo) == items.size)=true:=by
  rw [hw.1,hw.2]
  simp
 show wpAny _ _ (if (((HT.aR items.size 0 lo:Nat):Int) == 0 && (1:Int) == 1 && (HT.aR items.size items.size hi - HT.aR items.size 0 lo) == items.size)=true then _ else _) _ _ s
 rw [if_pos hyes]
 refine wpAny_bind (m:=Builtin.Tuple.tupleIsExact (.ref t)) ?_
 unfold Builtin.Tuple.tupleIsExact
 refine wpAny_bind (wpAny_typeOf ht.typeIs ?_)
 refine wpAny_pure ?_
 rw [if_pos (by decide)]
 refine wpAny_bind (wpAny_rule ?_)
 exact wpAny_pure ⟨_,rfl,wpAny_pure h⟩
noncomputable def Zb5 (K:DO):V->Option Int->Option Int->Hp->VK->Prop:=λx lo hi H Q=>∃ a xs,x=.ref a/\SqT K H a xs/\(HT.aR xs.length 0 lo=0/\HT.aR xs.length xs.length hi=xs.length)/\Q (.ref a) H
theorem Zhj:SlR X (Zb5 X.K):=by
 intro pins s σ H x v vl vu lo hi sl Q I rx hs pl pu h
 obtain ⟨a,xs,rfl,hx,hw,q⟩:=h
 cases rx
 obtain ⟨its,r,ht,hz⟩:=I.tuple hx
 have hlen:its.toArray.size=xs.length:=by rw [AG]; exact r.length.symm
 refine ⟨"tuple",_,PyProof.Rows.slot_tuple_getitem.lookup,ht.typeIs,?_⟩
 exact ZkC ht hs pl pu (by rw [hlen]; exact hw) ⟨.ref a,H,I,rfl,q⟩
noncomputable def Zii (K:DO):V->Option Int->Option Int->Hp->VK->Prop:=λx lo hi H Q=>Zb7 K x lo hi H Q\/Zb6 K x lo hi H Q\/Zb5 K x lo hi H Q
theorem Zhl:SlR X (Zii X.K):=ZaV.or (Zhk.or Zhj)
noncomputable def ZaT (x:PyData) (lo hi:Option Int):Option PyData:=match x with
 | .list xs=>some (.list (dH xs lo hi))
 | .tuple xs=>some (.tuple (dH xs lo hi))
 | _=>none
noncomputable def cV (i:DP) (p q:gD):DP:=λρ=>(i ρ).bind λx=>(p ρ).bind λlo=>(q ρ).bind λhi=>Tr.of (ZaT x lo hi)
theorem TAp.then {p:gD} {σ:St} {H:Hp} {β:Type} {k:Option Int->Tr β} {Z:Nat->β->Prop} {Q:Option Int->Hp->Prop} {pa:Addr} {D6 H₀ G:Hp} {m:Nat} {ρ:D5} (R:Rl PK pa D6 H₀ m σ ρ G H) (h:((p ρ).bind k).ok m Z)
  (hq:∀ m1 x G1 H1,Stp pa G H G1 H1->Wd PK pa m1 G1 H1->Rl PK pa D6 H₀ m1 σ ρ G1 H1->(k x).ok m1 Z->Q x H1):TAp PK p σ H Q:=by
 refine ⟨pa,D6,H₀,m,ρ,G,R,Tr.ok_mono (Tr.ok_bind.mp h) λm1 x hx G1 H1 s1 w1=>?_⟩
 exact hq m1 x G1 H1 s1 w1 (R.step s1 w1) hx
theorem dt {p q:gD} {lo hi:Option Expr} {p2:Pos} (he:PE X e (TAe PK i)) (hl:PO X lo (TAp PK p)) (hu:PO X hi (TAp PK q)):PE X (.Subscript e (.Slice lo hi none p2) pos) (TAe PK (cV i p q)):=(ZcK Zhl he hl hu).imp λσ H Q hz0=>by
 obtain ⟨pa,D6,H₀,m,ρ,G,R,z⟩:=hz0
 refine TAe.then R z λm1 x v G1 H1 s1 w1 R1 d1 q1=>?_
 refine TAp.then R1 q1 λm2 lo G2 H2 s2 w2 R2 q2=>?_
 refine TAp.then R2 q2 λm3 hi G3 H3 s3 w3 R3 q3=>?_
 obtain ⟨d,hd,k⟩:=Tr.ok_of q3
 have s13:=(s1.trans s2 w1.some).trans s3 w2.some
 have k':=Kn.later k s13 w3.some
 have d3:=d1.mono (s2.gs.trans s3.gs)
 cases d3 with
 | lst a1 a2=>cases hd; exact .inl ⟨_,_,rfl,SqL.of (w3.sub _ _ a1),λp hp=>k'.lst w3 (a2.cut lo hi) hp⟩
 | @tup a xs ds a1 a2 =>
  cases hd
  by_cases hw:HT.aR xs.length 0 lo=0/\HT.aR xs.length xs.length hi=xs.length
  ·refine .inr (.inr ⟨_,_,rfl,SqT.of (w3.sub _ _ a1),hw,k'.here w3 ?_⟩)
   have e:dH ds lo hi=ds:=by
    unfold dH
    rw [<- a2.length,hw.1,hw.2]
    simp
    rw [a2.length]
    exact CK
   rw [e]
   exact .tup a1 a2
  ·exact .inr (.inl ⟨_,_,rfl,SqT.of (w3.sub _ _ a1),hw,λp hp=>k'.tup w3 (a2.cut lo hi) hp⟩)
 | _=>cases hd
theorem DnAll.range {H:Hp} (lo:Int) (n:Nat):DnAll H (fk lo n) ((aQ lo n).map PyData.int):=by
 rw [Zig]
 exact DnAll.ints _
noncomputable def iU (lo hi:Int):Bool:=gi lo && gi hi && decide ((hi - lo).toNat<=1000)
noncomputable def iT:List PyData->Option DY
 | [.int lo,.int hi]=>if iU lo hi=true then some (bi lo hi) else none
 | _=>none
theorem ZbK {G:Hp} {vs:D3} {xs ys:DY} (d:DnAll G vs xs) (h:iT xs=some ys):∃ k n:Int,vs=[.int k,.int n]/\(-(2 ^ 62)<=k/\k < 2 ^ 62/\-(2 ^ 62)<=n/\n < 2 ^ 62/\(n - k).toNat<=1000)/\ys=bi k n:=by
 unfold iT at h
 split at h
 ·split at h
  ·rename_i hn
   cases h
   cases d with
   | cons d1 d2 =>
    cases d2 with
    | cons d2 d3 =>
     cases d3
     cases d1
     cases d2
     unfold iU at hn
     rw [AU,AU] at hn
     have h1:=of_decide_eq_true hn.1.1
     have h2:=of_decide_eq_true hn.1.2
     exact ⟨_,_,rfl,⟨h1.1,h1.2,h2.1,h2.2,of_decide_eq_true hn.2⟩,rfl⟩
  ·cases h
 ·cases h
def ZgL (t:TA):TE:=fN (λxs H Q=>∃ a lo hi,xs=[.ref a]/\H a=some (.rng lo hi)/\-(2 ^ 62)<=lo/\lo < 2 ^ 62/\-(2 ^ 62)<=hi/\hi < 2 ^ 62/\(hi - lo).toNat<=1000/\∀ p,H p=none->Q (.ref p) (upd H p (.tup (fk lo (hi - lo).toNat))))
 (fM (fN (λxs H Q=>∃ i j:Int,xs=[.int i,.int j]/\∀ p,H p=none->Q (.ref p) (upd H p (.rng i j))) t) aS)
def ZgM (t:TA):TE:=fN (λxs H Q=>∃ a lo hi,xs=[.ref a]/\H a=some (.rng lo hi)/\-(2 ^ 62)<=lo/\lo < 2 ^ 62/\-(2 ^ 62)<=hi/\hi < 2 ^ 62/\(hi - lo).toNat<=1000/\∀ p,H p=none->Q (.ref p) (upd H p (.lst (fk lo (hi - lo).toNat))))
 (fM (fN (λxs H Q=>∃ i j:Int,xs=[.int i,.int j]/\∀ p,H p=none->Q (.ref p) (upd H p (.rng i j))) t) aS)
noncomputable def zZ (is:DQ):DP:=λρ=>(is ρ).bind λxs=>(Tr.of (iT xs)).bind λys=>.ret (.tuple ys)
noncomputable def Ac (is:DQ):DQ:=λρ=>(is ρ).bind λxs=>Tr.of (iT xs)
theorem ZnI (h:PE X e (ZgL (TAd PK is))):PE X e (TAe PK (zZ is)):=h.imp λσ H Q hz0=>by
 obtain ⟨pa,D6,H₀,m,ρ,G,R,z⟩:=hz0
 refine TAd.then R z λm1 xs vs G1 H1 s1 w1 R1 d1 q1=>?_
 rw [Tr.ok_bind] at q1
 obtain ⟨ys,hy,k⟩:=Tr.ok_of q1
 obtain ⟨lo,hi,rfl,⟨b1,b2,b3,b4,b5⟩,rfl⟩:=ZbK d1 hy
 refine ⟨lo,hi,rfl,λp hp=>?_⟩
 obtain ⟨w2,s2⟩:=w1.own (o:=.rng lo hi) hp
 refine ⟨p,lo,hi,rfl,bY,b1,b2,b3,b4,b5,λq hq=>?_⟩
 exact (Kn.later k (s1.trans s2 w1.some) w2.some).tup w2 (DnAll.range _ _) hq
theorem ZnC (h:PE X e (ZgM (TAd PK is))):PE X e (eG PK (Ac is)):=h.imp λσ H Q hz0=>by
 obtain ⟨pa,D6,H₀,m,ρ,G,R,z⟩:=hz0
 refine TAd.then R z λm1 xs vs G1 H1 s1 w1 R1 d1 q1=>?_
 obtain ⟨ys,hy,k⟩:=Tr.ok_of q1
 obtain ⟨lo,hi,rfl,⟨b1,b2,b3,b4,b5⟩,rfl⟩:=ZbK d1 hy
 refine ⟨lo,hi,rfl,λp hp=>?_⟩
 obtain ⟨w2,s2⟩:=w1.own (o:=.rng lo hi) hp
 refine ⟨p,lo,hi,rfl,bY,b1,b2,b3,b4,b5,λq hq=>?_⟩
 exact (Ko1.later k (s1.trans s2 w1.some) w2.some).new w2 (DnAll.range _ _) hq
noncomputable def ints?:List PyData->Option DZ
 | []=>some []
 | .int n::xs=>(ints? xs).bind λns=>some (n::ns)
 | _=>none
@[simp] theorem ints?_map:∀ ns:DZ,ints? (ns.map PyData.int)=some ns
 | []=>rfl
 | n::ns=>by rw [Ax,ints?,ints?_map ns]; rfl
theorem DnAll.ints_inv {H:Hp} {vs:D3} {ds:DY} {ns:DZ} (a:DnAll H vs ds) (h:ints? ds=some ns):vs=ns.map V.int/\ds=ns.map PyData.int:=by
 induction vs generalizing ds ns with
 | nil=>cases a; cases h; exact ⟨rfl,rfl⟩
 | cons v vs ih =>
  cases a with
  | cons g t =>
   cases g with
   | int n =>
    unfold ints? at h
    rename_i ds
    cases e:ints? ds with
    | none=>rw [e] at h; cases h
    | some ms =>
     rw [e] at h
     cases h
     obtain ⟨h1,h2⟩:=ih t e
     exact ⟨by rw [h1]; rfl,by rw [h2]; rfl⟩
   | _=>unfold ints? at h; cases h
section
variable {prog:Program} {w:World} {A:Around} {E:DX} {s:Shared}
def ItAt (b:Bool) (h:Heap) (it a:Addr) (k:Nat):Prop:=match b with
 | true=>h.IsListIter it a k
 | false=>h.IsTupleIter it a k
def SqAt (b:Bool) (h:Heap) (a:Addr) (items:Array Value):Prop:=match b with
 | true=>h.IsList a items
 | false=>h.IsTuple a items
theorem ItAt.at {b:Bool} {h h':Heap} {it a:Addr} {k:Nat} (x:ItAt b h it a k) (e:∀ o,h.get? it=some o->h'.get? it=some o):ItAt b h' it a k:=by
 cases b with
 | true=>exact Heap.IsListIter.at x e
 | false=>obtain ⟨o,ho,r⟩:=(show h.IsTupleIter it a k from x); exact ⟨o,e o ho,r⟩
theorem SqAt.at {b:Bool} {h h':Heap} {a:Addr} {items:Array Value} (x:SqAt b h a items) (e:∀ o,h.get? a=some o->h'.get? a=some o):SqAt b h' a items:=by
 cases b with
 | true=>exact Heap.IsList.at x e
 | false=>exact Heap.IsTuple.at x e
theorem ItAt.there {b:Bool} {h:Heap} {it a:Addr} {k:Nat} (x:ItAt b h it a k):∃ o,h.get? it=some o/\∀ v,o.data≠.cell v:=by
 cases b with
 | true=>obtain ⟨o,ho,_,hd⟩:=(show h.IsListIter it a k from x); exact ⟨o,ho,λv z=>by rw [hd] at z; cases z⟩
 | false=>obtain ⟨o,ho,_,hd⟩:=(show h.IsTupleIter it a k from x); exact ⟨o,ho,λv z=>by rw [hd] at z; cases z⟩
theorem Zjr {it l:Addr} {i:Nat} {items:Array Value} {x:Value} {Q:DX} (hit:s.heap.IsTupleIter it l i) (hl:s.heap.IsTuple l items) (hx:items[i]?=some x)
  (hQ:∀ h',h'.IsTupleIter it l (i+1)->Heap.SameBut it s.heap h'->Q x { s with heap:=h' }):wpAny (model prog w) A (Builtin.SmallTypes.nextOf (.ref it)) Q E s:=by
 obtain ⟨o,ho,hc,hd⟩:=id hit; obtain ⟨ol,hol,_,nl,hdl⟩:=hl
 unfold Builtin.SmallTypes.nextOf
 refine wpAny_bind (wpAny_callSpecial?_slot (name:=Str.ofString "__next__") hit.typeIs Cr (wpAny_call_entry Cr hit.typeIs F.entry_tuple_iterator_next ?_ (F.args_tuple_iterator_next_1 _)))
 show wpAny _ _ (field (.ref it) 0 >>= _) _ _ s; refine wpAny_bind (wpAny_field ho hd (x:=.ref l) rfl ?_)
 show wpAny _ _ (if (Value.ref l == Value.none)=true then _ else _) _ _ s; rw [if_neg (show ¬ ((Value.ref l == Value.none)=true) from AQ)]
 show wpAny _ _ (field (.ref it) 1 >>= _) _ _ s; refine wpAny_bind (wpAny_field ho hd (x:=.int i 0) rfl ?_)
 show wpAny _ _ (seqItems? (.ref l) >>= _) _ _ s; refine wpAny_bind (wpAny_seqItems hol hdl ?_); simp only [A0,hx]
 refine wpAny_bind (wpAny_setField ho hd (by simp) (wpAny_pure ⟨x,rfl,wpAny_pure (hQ _ ⟨_,BK _ ho (CM (BN hd _)),(DC ..).trans hc,?_⟩ (BY ..))⟩))
 rw [BN hd]; simp [rawInt]
theorem Zjs {it l:Addr} {i:Nat} {items:Array Value} {Q:DX} (hh:A.handled=none) (hit:s.heap.IsTupleIter it l i) (hl:s.heap.IsTuple l items) (hx:items[i]?=none)
  (hE:∀ h' e,Heap.ExtBut it s.heap h'->(∃ o,h'.get? e=some o/\o.cls=.type "StopIteration")->E (.ref e) { s with heap:=h' }):wpAny (model prog w) A (Builtin.SmallTypes.nextOf (.ref it)) Q E s:=by
 obtain ⟨o,ho,hc,hd⟩:=id hit; obtain ⟨ol,hol,_,nl,hdl⟩:=hl
 unfold Builtin.SmallTypes.nextOf
 refine wpAny_bind (wpAny_callSpecial?_slot (name:=Str.ofString "__next__") hit.typeIs Cr (wpAny_call_entry Cr hit.typeIs F.entry_tuple_iterator_next ?_ (F.args_tuple_iterator_next_1 _)))
 show wpAny _ _ (field (.ref it) 0 >>= _) _ _ s; refine wpAny_bind (wpAny_field ho hd (x:=.ref l) rfl ?_)
 show wpAny _ _ (if (Value.ref l == Value.none)=true then _ else _) _ _ s; rw [if_neg (show ¬ ((Value.ref l == Value.none)=true) from AQ)]
 show wpAny _ _ (field (.ref it) 1 >>= _) _ _ s; refine wpAny_bind (wpAny_field ho hd (x:=.int i 0) rfl ?_)
 show wpAny _ _ (seqItems? (.ref l) >>= _) _ _ s; refine wpAny_bind (wpAny_seqItems hol hdl ?_); simp only [A0,hx]
 refine wpAny_bind (wpAny_rule (wpAny_bind (wpAny_setField ho hd (by simp) ?_))); show wpAny _ _ (newExc (.type "StopIteration") [] >>= _) _ _ _
 refine wpAny_bind ?_; simp only [newExc,newTuple]; refine wpAny_bind (wpAny_newObj_type ?_ (by size_fits))
 refine wpAny_bind (m:=firstArgMember _ _) (wpAny_of_eq (a:=Value.none) (by first | rfl | (simp only [firstArgMember]; rfl)) ?_); refine wpAny_newObj_type ?_ (by size_fits); simp only [raiseNew]
 refine wpAny_bind (wpAny_handled ?_); first | rw [show A.in1.handled=none from hh] | rw [hh]
 refine wpAny_bind (wpAny_pure (wpAny_throw (hE _ _ (((BY ..).extBut.push _).push _) ⟨_,AC _ rfl,rfl⟩)))
theorem pK {b:Bool} {it l:Addr} {i:Nat} {items:Array Value} {x:Value} {Q:DX} (hit:ItAt b s.heap it l i) (hl:SqAt b s.heap l items) (hx:items[i]?=some x)
  (hQ:∀ h',ItAt b h' it l (i+1)->Heap.SameBut it s.heap h'->Q x { s with heap:=h' }):wpAny (model prog w) A (Builtin.SmallTypes.nextOf (.ref it)) Q E s:=by
 cases b with
 | true=>exact wpAny_nextOf_list_item hit hl hx hQ
 | false=>exact Zjr hit hl hx hQ
theorem ye {b:Bool} {it l:Addr} {i:Nat} {items:Array Value} {Q:DX} (hh:A.handled=none) (hit:ItAt b s.heap it l i) (hl:SqAt b s.heap l items) (hx:items[i]?=none)
  (hE:∀ h' e,Heap.ExtBut it s.heap h'->(∃ o,h'.get? e=some o/\o.cls=.type "StopIteration")->E (.ref e) { s with heap:=h' }):wpAny (model prog w) A (Builtin.SmallTypes.nextOf (.ref it)) Q E s:=by
 cases b with
 | true=>exact wpAny_nextOf_list_end hh hit hl hx hE
 | false=>exact Zjs hh hit hl hx hE
theorem ItAt.bt {b:Bool} {h h':Heap} {it a c:Addr} {k:Nat} (x:ItAt b h it a k) (e:Heap.ExtBut c h h') (n:it≠c):ItAt b h' it a k:=x.at λo q=>e it o n q
theorem SqAt.bt {b:Bool} {h h':Heap} {a c:Addr} {items:Array Value} (x:SqAt b h a items) (e:Heap.ExtBut c h h') (n:a≠c):SqAt b h' a items:=x.at λo q=>e a o n q
theorem Zgc {b1 b2:Bool} {z TI TO i1 i2 l1 l2:Addr} {k1 k2:Nat} {xs ys:Array Value} {x y a b:Value} {Q:DX} (D:ZipApart z TI TO i1 i2 l1 l2)
  (hz:IsZip s.heap z TI TO .none) (hTI:IsPair s.heap TI (.ref i1) (.ref i2)) (hTO:IsPair s.heap TO a b) (h1:ItAt b1 s.heap i1 l1 k1) (h2:ItAt b2 s.heap i2 l2 k2) (hl1:SqAt b1 s.heap l1 xs) (hl2:SqAt b2 s.heap l2 ys) (hx:xs[k1]?=some x) (hy:ys[k2]?=some y)
  (hQ:∀ h',IsZip h' z TI TO (rawInt s.heap.objs.size)->IsPair h' TO x y->ItAt b1 h' i1 l1 (k1+1)->ItAt b2 h' i2 l2 (k2+1)->IsPair h' s.heap.objs.size x y ->
   (∀ c o,c≠z->c≠TO->c≠i1->c≠i2->s.heap.get? c=some o->h'.get? c=some o)->Q (.ref s.heap.objs.size) { s with heap:=h' }) :
  wpAny (model prog w) A (Builtin.«zip.__next__» ⟨[.ref z],[]⟩) (λfin s'=>∃ v,fin=.done (.ret v)/\Q v s') E s:=by
 show wpAny _ _ (field (.ref z) 2 >>= _) _ _ _; refine wpAny_bind (wpAny_field hz rfl (x:=.bool false) rfl ?_)
 show wpAny _ _ (field (.ref z) 3 >>= _) _ _ _; refine wpAny_bind (wpAny_field hz rfl (x:=.ref TI) rfl ?_); refine wpAny_bind (wpAny_seqItems hTI rfl ?_)
 show wpAny _ _ (Builtin.SmallTypes.ownedTupleIsFree (.ref z) >>= _) _ _ _; refine wpAny_bind ?_; unfold Builtin.SmallTypes.ownedTupleIsFree
 refine wpAny_bind (wpAny_field hz rfl (x:=.none) rfl (wpAny_pure ?_)); simp only [if_true]; refine wpAny_bind (wpAny_rule ?_); refine wpAny_bind (wpAny_field hz rfl (x:=.ref TO) rfl ?_)
 refine wpAny_bind (wpAny_setField_rec hz (by simp) λg1 hz1 e1=>?_); replace hz1:IsZip g1 z TI TO .ellipsis:=hz1
 refine wpAny_bind ?_; simp only [List.zipIdx_cons,List.zipIdx_nil,C2,DG]; refine wpAny_bind (wpAny_bind (wpAny_onRaise ?_))
 show wpAny _ _ (Builtin.SmallTypes.nextOf (.ref i1) >>= _) _ _ _; refine wpAny_bind (pK (h1.bt e1.extBut D.i1z) (hl1.bt e1.extBut D.l1z) hx λg2 t1 e2=>wpAny_pure ?_)
 have p2:IsPair g2 TO a b:=e2.extBut _ _ D.TOi1 (e1.extBut _ _ D.TOz hTO)
 refine wpAny_bind (wpAny_seqItems p2 rfl ?_); refine wpAny_bind (wpAny_updateSeq_pair p2 λg3 p3 e3=>?_); replace p3:IsPair g3 TO x b:=p3
 refine wpAny_bind (wpAny_letGo (wpAny_pure ?_)); refine wpAny_bind (wpAny_bind (wpAny_onRaise ?_))
 show wpAny _ _ (Builtin.SmallTypes.nextOf (.ref i2) >>= _) _ _ _
 refine wpAny_bind (pK (((h2.bt e1.extBut D.i2z).bt e2.extBut D.i12.symm).bt e3.extBut D.TOi2.symm) (((hl2.bt e1.extBut D.l2z).bt e2.extBut D.l2i1).bt e3.extBut D.l2TO) hy λg4 t2 e4=>wpAny_pure ?_)
 have p4:IsPair g4 TO x b:=e4.extBut _ _ D.TOi2 p3
 refine wpAny_bind (wpAny_seqItems p4 rfl ?_); refine wpAny_bind (wpAny_updateSeq_pair p4 λg5 p5 e5=>?_); replace p5:IsPair g5 TO x y:=p5
 refine wpAny_bind (wpAny_letGo (wpAny_pure (wpAny_pure ?_))); refine wpAny_bind (wpAny_seqItems p5 rfl ?_); refine wpAny_bind (wpAny_newTuple ?_)
 have hsz:g5.objs.size=s.heap.objs.size:=by rw [e5.1,e4.1,e3.1,e2.1,e1.1]
 have z5:IsZip g5 z TI TO .ellipsis:=e5.extBut _ _ D.TOz.symm (e4.extBut _ _ D.i2z.symm (e3.extBut _ _ D.TOz.symm (e2.extBut _ _ D.i1z.symm hz1)))
 have k5:∀ c o,c≠z->c≠TO->c≠i1->c≠i2->s.heap.get? c=some o->g5.get? c=some o:=λc o c1 c2 c3 c4 q=>e5.extBut _ _ c2 (e4.extBut _ _ c4 (e3.extBut _ _ c2 (e2.extBut _ _ c3 (e1.extBut _ _ c1 q))))
 have u1:ItAt b1 g5 i1 l1 (k1+1):=((t1.bt e3.extBut D.TOi1.symm).bt e4.extBut D.i12).bt e5.extBut D.TOi1.symm
 have u2:ItAt b2 g5 i2 l2 (k2+1):=t2.bt e5.extBut D.TOi2.symm
 have zlt:z < g5.objs.size:=AK z5
 show wpAny _ _ (Builtin.SmallTypes.ownedTupleHandOut (.ref z) (.ref g5.objs.size) >>= _) _ _ _; refine wpAny_bind ?_; unfold Builtin.SmallTypes.ownedTupleHandOut
 have z6:IsZip (g5.push { cls:=.type "tuple",data:=.seq #[x,y] }) z TI TO .ellipsis:=v9 _ z5
 refine wpAny_bind (wpAny_setField_rec z6 (by simp) λg7 z7 e7=>?_); replace z7:IsZip g7 z TI TO (rawInt g5.objs.size):=z7
 refine wpAny_setField_rec z7 (by simp) λg8 z8 e8=>?_; replace z8:IsZip g8 z TI TO (rawInt g5.objs.size):=z8
 have up:∀ c o,c≠z->g5.get? c=some o->g8.get? c=some o:=λc o c1 q=>e8.extBut _ _ c1 (e7.extBut _ _ c1 (v9 _ q))
 have t8:IsPair g8 g5.objs.size x y:=e8.extBut _ _ (A6 zlt) (e7.extBut _ _ (A6 zlt) (AC _ rfl))
 rw [hsz] at z8 t8
 refine wpAny_pure ⟨_,rfl,?_⟩; show Q (.ref g5.objs.size) _; rw [hsz]
 exact hQ g8 z8 (up _ _ D.TOz p5) (u1.at λo q=>up _ o D.i1z q) (u2.at λo q=>up _ o D.i2z q) t8 λc o c1 c2 c3 c4 q=>up c o c1 (k5 c o c1 c2 c3 c4 q)
theorem Zgd {b1 b2:Bool} {z TI TO i1 i2 l1 l2:Addr} {k1 k2:Nat} {xs ys:Array Value} {a b:Value} {Q:Fin->Shared->Prop} (hh:A.handled=none) (D:ZipApart z TI TO i1 i2 l1 l2)
  (hz:IsZip s.heap z TI TO .none) (hTI:IsPair s.heap TI (.ref i1) (.ref i2)) (hTO:IsPair s.heap TO a b) (h1:ItAt b1 s.heap i1 l1 k1) (h2:ItAt b2 s.heap i2 l2 k2) (hl1:SqAt b1 s.heap l1 xs) (hl2:SqAt b2 s.heap l2 ys) (hend:xs[k1]?=none\/ys[k2]?=none)
  (hE:∀ h' e,(∀ c o,c≠z->c≠TO->c≠i1->c≠i2->s.heap.get? c=some o->h'.get? c=some o)->(∃ o,h'.get? e=some o/\o.cls=.type "StopIteration")->E (.ref e) { s with heap:=h' }) :
  wpAny (model prog w) A (Builtin.«zip.__next__» ⟨[.ref z],[]⟩) Q E s:=by
 show wpAny _ _ (field (.ref z) 2 >>= _) _ _ _; refine wpAny_bind (wpAny_field hz rfl (x:=.bool false) rfl ?_)
 show wpAny _ _ (field (.ref z) 3 >>= _) _ _ _; refine wpAny_bind (wpAny_field hz rfl (x:=.ref TI) rfl ?_); refine wpAny_bind (wpAny_seqItems hTI rfl ?_)
 show wpAny _ _ (Builtin.SmallTypes.ownedTupleIsFree (.ref z) >>= _) _ _ _; refine wpAny_bind ?_; unfold Builtin.SmallTypes.ownedTupleIsFree
 refine wpAny_bind (wpAny_field hz rfl (x:=.none) rfl (wpAny_pure ?_)); simp only [if_true]; refine wpAny_bind (wpAny_rule ?_); refine wpAny_bind (wpAny_field hz rfl (x:=.ref TO) rfl ?_)
 refine wpAny_bind (wpAny_setField_rec hz (by simp) λg1 hz1 e1=>?_); replace hz1:IsZip g1 z TI TO .ellipsis:=hz1
 refine wpAny_bind ?_; simp only [List.zipIdx_cons,List.zipIdx_nil,C2,DG]; refine wpAny_bind (wpAny_bind (wpAny_onRaise ?_))
 show wpAny _ _ (Builtin.SmallTypes.nextOf (.ref i1) >>= _) _ _ _
 cases hx:xs[k1]? with
 | none =>
  refine wpAny_bind (ye hh (h1.bt e1.extBut D.i1z) (hl1.bt e1.extBut D.l1z) hx λg2 e e2 he=>?_)
  obtain ⟨oe,hoe,hce⟩:=he
  have z2:IsZip g2 z TI TO .ellipsis:=e2 _ _ D.i1z.symm hz1
  have ne:e≠z:=λq=>by subst q; rw [z2] at hoe; cases hoe; simp at hce
  exact wpAny_setField_rec z2 (by simp) λg3 _ e3=>hE g3 e (λc o c1 _ c3 _ q=>e3.extBut _ _ c1 (e2 _ _ c3 (e1.extBut _ _ c1 q))) ⟨oe,e3.extBut _ _ ne hoe,hce⟩
 | some x =>
  have hy:ys[k2]?=none:=by rcases hend with h | h; rw [hx] at h; cases h; exact h
  refine wpAny_bind (pK (h1.bt e1.extBut D.i1z) (hl1.bt e1.extBut D.l1z) hx λg2 t1 e2=>wpAny_pure ?_)
  have p2:IsPair g2 TO a b:=e2.extBut _ _ D.TOi1 (e1.extBut _ _ D.TOz hTO)
  refine wpAny_bind (wpAny_seqItems p2 rfl ?_); refine wpAny_bind (wpAny_updateSeq_pair p2 λg3 p3 e3=>?_)
  refine wpAny_bind (wpAny_letGo (wpAny_pure ?_)); refine wpAny_bind (wpAny_bind (wpAny_onRaise ?_))
  show wpAny _ _ (Builtin.SmallTypes.nextOf (.ref i2) >>= _) _ _ _
  refine wpAny_bind (ye hh (((h2.bt e1.extBut D.i2z).bt e2.extBut D.i12.symm).bt e3.extBut D.TOi2.symm) (((hl2.bt e1.extBut D.l2z).bt e2.extBut D.l2i1).bt e3.extBut D.l2TO) hy λg4 e e4 he=>?_)
  obtain ⟨oe,hoe,hce⟩:=he
  have z4:IsZip g4 z TI TO .ellipsis:=e4 _ _ D.i2z.symm (e3.extBut _ _ D.TOz.symm (e2.extBut _ _ D.i1z.symm hz1))
  have ne:e≠z:=λq=>by subst q; rw [z4] at hoe; cases hoe; simp at hce
  exact wpAny_setField_rec z4 (by simp) λg5 _ e5=>hE g5 e (λc o c1 c2 c3 c4 q=>e5.extBut _ _ c1 (e4 _ _ c4 (e3.extBut _ _ c2 (e2.extBut _ _ c3 (e1.extBut _ _ c1 q))))) ⟨oe,e5.extBut _ _ ne hoe,hce⟩
noncomputable def fA (b:Bool) (l:Addr):Obj:=match b with
 | true=>{ cls:=.type "list_iterator",data:=.fields #[.ref l,.int 0 0] }
 | false=>{ cls:=.type "tuple_iterator",data:=.fields #[.ref l,.int 0 0] }
theorem iW {b:Bool} {l:Addr} {items:Array Value} {Q:DX} (hl:SqAt b s.heap l items) (hQ:Q (.ref s.heap.objs.size) { s with heap:=s.heap.push (fA b l) }):wpAny (model prog w) A (pyIter (.ref l)) Q E s:=by
 cases b with
 | true=>exact wpAny_pyIter_list hl hQ
 | false=>exact wpAny_pyIter_tuple hl hQ
theorem SqAt.push {b:Bool} {h:Heap} {l:Addr} {items:Array Value} (x:SqAt b h l items) (o:Obj):SqAt b (h.push o) l items:=x.at λ_ q=>v9 _ q
theorem lj {b:Bool} {h:Heap} {it l:Addr} (e:h.get? it=some (fA b l)):ItAt b h it l 0:=by
 cases b with
 | true=>exact ⟨_,e,rfl,rfl⟩
 | false=>exact ⟨_,e,rfl,rfl⟩
noncomputable abbrev zA (b1:Bool) (h:Heap) (l1:Addr):Heap:=h.push (fA b1 l1)
noncomputable abbrev zB (b1 b2:Bool) (h:Heap) (l1 l2:Addr):Heap:=(zA b1 h l1).push (fA b2 l2)
noncomputable abbrev zC (b1 b2:Bool) (h:Heap) (l1 l2:Addr):Heap:=(zB b1 b2 h l1 l2).push { cls:=.type "tuple",data:=.seq #[.ref h.objs.size,.ref (zA b1 h l1).objs.size] }
noncomputable abbrev zD (b1 b2:Bool) (h:Heap) (l1 l2:Addr):Heap:=(zC b1 b2 h l1 l2).push { cls:=.type "tuple",data:=.seq #[.none,.none] }
noncomputable abbrev zH (b1 b2:Bool) (h:Heap) (l1 l2:Addr):Heap:=(zD b1 b2 h l1 l2).push { cls:=.type "zip",data:=.fields #[.none,.bool false,.bool false,.ref (zB b1 b2 h l1 l2).objs.size,.ref (zC b1 b2 h l1 l2).objs.size] }
theorem ZjF (b1 b2:Bool) (l1 l2:Addr) (xs ys:Array Value) :
  Meets (Builtin.«zip.__new__» ⟨[.type "zip",.ref l1,.ref l2],[]⟩) (λ_ R s=>SqAt b1 s.heap l1 xs/\SqAt b2 s.heap l2 ys/\R (.ok (.ret (.ref (zD b1 b2 s.heap l1 l2).objs.size))) { s with heap:=zH b1 b2 s.heap l1 l2 }) :=
 .of_wp λprog w A R s h=>by
  obtain ⟨hp,g,d,tk,os⟩:=s
  obtain ⟨hl1,hl2,h⟩:=h
  have hsub:=sub_zip
  have q1:SqAt b1 (Shared.heap ⟨hp,g,d,tk,os⟩) l1 xs:=hl1
  have q2:SqAt b2 (Shared.heap ⟨hp.push (fA b1 l1),g,d,tk,os⟩) l2 ys:=hl2.push _
  wp_walk using iW q1,iW q2
  exact ⟨_,rfl,h⟩
theorem ZmP {b1 b2:Bool} {l1 l2:Addr} {xs ys:Array Value} {Q:DX} (hl1:SqAt b1 s.heap l1 xs) (hl2:SqAt b2 s.heap l2 ys)
  (h:∀ h',IsZip h' (s.heap.objs.size+4) (s.heap.objs.size+2) (s.heap.objs.size+3) .none->IsPair h' (s.heap.objs.size+2) (.ref s.heap.objs.size) (.ref (s.heap.objs.size+1))->IsPair h' (s.heap.objs.size+3) .none .none ->
   ItAt b1 h' s.heap.objs.size l1 0->ItAt b2 h' (s.heap.objs.size+1) l2 0->(∀ c o,s.heap.get? c=some o->h'.get? c=some o)->Q (.ref (s.heap.objs.size+4)) { s with heap:=h' }) :
  wpAny (model prog w) A (call (.type "zip") [.ref l1,.ref l2]) Q E s:=by
 refine callType_new F.called_zip (by decide) (F.typeCall_zip_2 _ _) (F.newCall_zip_2 _ _) (λobj=>F.args_object_init_3 obj _ _) F.entry_zip_new (ZjF b1 b2 l1 l2 xs ys) ⟨hl1,hl2,?_⟩
 have n1:(zA b1 s.heap l1).objs.size=s.heap.objs.size+1:=Bk ..
 have n2:(zB b1 b2 s.heap l1 l2).objs.size=s.heap.objs.size+2:=(Bk ..).trans (by rw [n1])
 have n3:(zC b1 b2 s.heap l1 l2).objs.size=s.heap.objs.size+3:=(Bk ..).trans (by rw [n2])
 have n4:(zD b1 b2 s.heap l1 l2).objs.size=s.heap.objs.size+4:=(Bk ..).trans (by rw [n3])
 have a5:IsZip (zH b1 b2 s.heap l1 l2) (zD b1 b2 s.heap l1 l2).objs.size (zB b1 b2 s.heap l1 l2).objs.size (zC b1 b2 s.heap l1 l2).objs.size .none:=AC _ rfl
 have a4:IsPair (zH b1 b2 s.heap l1 l2) (zC b1 b2 s.heap l1 l2).objs.size .none .none:=v9 _ (AC _ rfl)
 have a3:IsPair (zH b1 b2 s.heap l1 l2) (zB b1 b2 s.heap l1 l2).objs.size (.ref s.heap.objs.size) (.ref (zA b1 s.heap l1).objs.size):=v9 _ (v9 _ (AC _ rfl))
 have a2:(zH b1 b2 s.heap l1 l2).get? (zA b1 s.heap l1).objs.size=some (fA b2 l2):=v9 _ (v9 _ (v9 _ (AC _ (by cases b2 <;> rfl))))
 have a1:(zH b1 b2 s.heap l1 l2).get? s.heap.objs.size=some (fA b1 l1):=v9 _ (v9 _ (v9 _ (v9 _ (AC _ (by cases b1 <;> rfl)))))
 rw [n2,n3,n4] at a5
 rw [n3] at a4
 rw [n1,n2] at a3
 rw [n1] at a2
 show _/\_
 rw [n4]
 exact ⟨⟨_,a5,rfl⟩,h _ a5 a3 a4 (lj a1) (lj a2) λc o x=>v9 _ (v9 _ (v9 _ (v9 _ (v9 _ x))))⟩
theorem Zij {b1 b2:Bool} {z TI TO i1 i2 l1 l2:Addr} {k1 k2:Nat} {xs ys:Array Value} {x y a b:Value} {Q:Option Value->Shared->Prop} (D:ZipApart z TI TO i1 i2 l1 l2)
  (hz:IsZip s.heap z TI TO .none) (hTI:IsPair s.heap TI (.ref i1) (.ref i2)) (hTO:IsPair s.heap TO a b) (h1:ItAt b1 s.heap i1 l1 k1) (h2:ItAt b2 s.heap i2 l2 k2) (hl1:SqAt b1 s.heap l1 xs) (hl2:SqAt b2 s.heap l2 ys) (hx:xs[k1]?=some x) (hy:ys[k2]?=some y)
  (hQ:∀ h',IsZip h' z TI TO (rawInt s.heap.objs.size)->IsPair h' TO x y->ItAt b1 h' i1 l1 (k1+1)->ItAt b2 h' i2 l2 (k2+1)->IsPair h' s.heap.objs.size x y ->
   (∀ c o,c≠z->c≠TO->c≠i1->c≠i2->s.heap.get? c=some o->h'.get? c=some o)->Q (some (.ref s.heap.objs.size)) { s with heap:=h' }):wpAny (model prog w) A (pyNext (.ref z)) Q E s:=by
 have hT:s.TypeIs (.ref z) "zip":=⟨_,hz,rfl⟩
 unfold pyNext
 exact wpAny_bind (wpAny_attempt (wpAny_callSpecial?_slot (name:=Str.ofString "__next__") hT Dh (wpAny_call_entry Dh hT F.entry_zip_next (Zgc D hz hTI hTO h1 h2 hl1 hl2 hx hy λh' a1 a2 a3 a4 a5 a6=>wpAny_pure (hQ h' a1 a2 a3 a4 a5 a6)) (F.args_zip_next_1 _))))
theorem Zik {b1 b2:Bool} {z TI TO i1 i2 l1 l2:Addr} {k1 k2:Nat} {xs ys:Array Value} {a b:Value} {Q:Option Value->Shared->Prop} (hh:A.handled=none) (D:ZipApart z TI TO i1 i2 l1 l2)
  (hz:IsZip s.heap z TI TO .none) (hTI:IsPair s.heap TI (.ref i1) (.ref i2)) (hTO:IsPair s.heap TO a b) (h1:ItAt b1 s.heap i1 l1 k1) (h2:ItAt b2 s.heap i2 l2 k2) (hl1:SqAt b1 s.heap l1 xs) (hl2:SqAt b2 s.heap l2 ys) (hend:xs[k1]?=none\/ys[k2]?=none)
  (hQ:∀ h',(∀ c o,c≠z->c≠TO->c≠i1->c≠i2->s.heap.get? c=some o->h'.get? c=some o)->Q none { s with heap:=h' }):wpAny (model prog w) A (pyNext (.ref z)) Q E s:=by
 have hT:s.TypeIs (.ref z) "zip":=⟨_,hz,rfl⟩
 unfold pyNext
 refine wpAny_bind (wpAny_attempt (wpAny_callSpecial?_slot (name:=Str.ofString "__next__") hT Dh (wpAny_call_entry Dh hT F.entry_zip_next (Zgd hh D hz hTI hTO h1 h2 hl1 hl2 hend λh' e hk he=>?_) (F.args_zip_next_1 _))))
 obtain ⟨o,ho,hc⟩:=he
 exact wpAny_bind (wpAny_isInstance (T:="StopIteration") (b:=true) ⟨o,ho,hc⟩ isSubtype_stop (wpAny_pure (hQ _ hk)))
end
section
variable {X:Cx} {pins:List (Addr×Obj)} {σ:St} {H:Hp} {s:Shared} {h':Heap}
theorem Inv.turns {t':Nat} {ch:List Addr} (I:Inv X pins σ H s) (k:∀ b o,b ∉ ch->s.heap.get? b=some o->h'.get? b=some o) (hf:∀ b∈ch,fL X pins H b):Inv X pins σ H { s with heap:=h',toks:=t' }:=by
 have nit:∀ b u,H b=some u->b ∉ ch:=λb u e z=>by rw [(hf b z).1] at e; cases e
 refine I.step (g':=s.gens) (d':=s.drawn) (ch:=ch) (λb hb=>?_) (λb o _ _ hc e _=>k b o hc e) (λb o _ _ hc e _=>⟨o.slots,k b o hc e⟩) (λ_ _ _ _ n=>n)
  (λb o hc e=>⟨o,k b o hc e⟩) (λ_ _ e=>e) (λ_ _ _ e=>e) (λb ps e=>⟨#[],by rw [e]; simp⟩) (λm hm=>?_) (λb u e=>?_) I.bare
 ·obtain ⟨_,f1,_,f3,f4,f5⟩:=hf b hb
  exact ⟨f3,f1,f4,f5⟩
 ·obtain ⟨o,es,ep,ho,r⟩:=hm
  exact ⟨o,es,ep,k _ o (λz=>(hf _ z).2.1 rfl) ho,r⟩
 ·refine (I.hok b u e).stay (λc v hc q=>k c v ?_ q) (λ_ q=>q) (λ_ _ q=>q) λ_ _ _ _ q _=>q
  rcases hc with z | z
  ·rw [z]; exact nit b u e
  ·exact nit c _ z
theorem Inv.pair {T:Addr} {x y:V} {u v:Value} (I:Inv X pins σ H s) (hT:H T=none) (ho:IsPair s.heap T u v) (r1:RelV x u) (r2:RelV y v)
  (hL:T≠X.env.locals) (hs0:X.s₀.heap.objs.size<=T) (hc:∀ x c,X.env.cells.lookup x=some c->c≠T) (hp:∀ p∈X.pn++pins,p.1≠T):Inv X pins σ (upd H T (.tup [x,y])) s:=by
 have ne:∀ {b:Addr} {o:HO},H b=some o->b≠T:=λe=>dm e hT
 refine I.step (g':=s.gens) (d':=s.drawn) (t':=s.toks) (h':=s.heap) (ch:=[T]) (λb hb=>?_) (λb o _ _ _ e _=>e) (λb o _ _ _ e _=>⟨o.slots,e⟩) (λb o hb e n=>?_) (λb o _ e=>⟨o,e⟩)
  (λb xs e=>by rw [aM (ne e)]; exact e) (λb o u e=>by rw [aM (ne e)]; exact e) (λb ps e=>⟨#[],by rw [aM (ne e),e]; simp⟩) (λm hm=>hm) (λb u e=>?_) I.bare
 ·have e:b=T:=by simpa using hb
  subst e
  exact ⟨.inr hs0,hL,hc,hp⟩
 ·have hb':b≠T:=by simpa using hb
  rw [aM hb']
  exact n
 ·by_cases hb:b=T
  ·subst hb
   rw [bY] at e
   cases e
   exact ⟨by show 2<=sizeLine; decide,[_,_],.cons r1 (.cons r2 .nil),⟨_,ho,rfl,_,rfl⟩⟩
  ·rw [aM hb] at e
   exact (I.hok b u e).stay (λc v _ q=>q) (λc q=>by rw [aM (ne q)]; exact q) (λc xs q=>by rw [aM (ne q)]; exact q) λc ob xs _ q _=>by rw [aM (ne q)]; exact q
end
noncomputable def bA (b:Bool) (xs:D3):HO:=match b with
 | true=>.lst xs
 | false=>.tup xs
theorem dU {P:Program} {w:World} {H:Hp} {h:Heap} (ok:HOk P w H h) {b:Bool} {a:Addr} {xs:D3} (e:H a=some (bA b xs)):∃ its:D1,Vals xs its/\SqAt b h a its.toArray:=by
 cases b with
 | true=>obtain ⟨_,its,n,r,q⟩:=ok a _ e; exact ⟨its,r,⟨_,q,rfl,n,rfl⟩⟩
 | false=>obtain ⟨_,its,r,q⟩:=ok a _ e; exact ⟨its,r,q⟩
noncomputable def jz (b1 b2:Bool) (l1 l2:Addr):It :=
 ⟨λi H=>∃ xs ys x y,H l1=some (bA b1 xs)/\H l2=some (bA b2 ys)/\xs[i]?=some x/\ys[i]?=some y,
  λi H v H'=>∃ xs ys x y p,H l1=some (bA b1 xs)/\H l2=some (bA b2 ys)/\xs[i]?=some x/\ys[i]?=some y/\H p=none/\v=.ref p/\H'=upd H p (.tup [x,y]),
  λi H=>∃ xs ys,H l1=some (bA b1 xs)/\H l2=some (bA b2 ys)/\(xs[i]?=none\/ys[i]?=none)⟩
noncomputable def ZSt (b1 b2:Bool) (z TI TO i1 i2 l1 l2:Addr) (i:Nat) (h:Heap):Prop :=
 IsZip h z TI TO .none/\IsPair h TI (.ref i1) (.ref i2)/\(∃ a b,IsPair h TO a b)/\ItAt b1 h i1 l1 i/\ItAt b2 h i2 l2 i
theorem Zgu {P:Program} {w:World} {K:DO} {elts:List Expr} {x1:Nat} {pos:Pos} {b1 b2:Bool} {l1 l2:Addr} (z TI TO i1 i2:Addr)
  (d:TI≠z/\TO≠z/\i1≠z/\i2≠z/\TI≠TO/\TI≠i1/\TI≠i2/\TO≠i1/\TO≠i2/\i1≠i2) :
  Turn P w K (.Tuple elts x1 pos) (jz b1 b2 l1 l2) [z,TI,TO,i1,i2] z (ZSt b1 b2 z TI TO i1 i2 l1 l2) where
 mem:=by simp
 obj:=λi h st b hb=>by
  obtain ⟨hz,hTI,⟨a,c,hTO⟩,h1,h2⟩:=st
  simp at hb
  rcases hb with rfl | rfl | rfl | rfl | rfl
  ·exact ⟨_,hz,λv q=>by cases q⟩
  ·exact ⟨_,hTI,λv q=>by cases q⟩
  ·exact ⟨_,hTO,λv q=>by cases q⟩
  ·exact h1.there
  ·exact h2.there
 keep:=λi h h' st k=>by
  obtain ⟨hz,hTI,⟨a,c,hTO⟩,h1,h2⟩:=st
  exact ⟨k _ (by simp) _ hz,k _ (by simp) _ hTI,⟨a,c,k _ (by simp) _ hTO⟩,h1.at λo e=>k _ (by simp) o e,h2.at λo e=>k _ (by simp) o e⟩
 item:=by
  intro X hP hw hK hc i pins s σ H E I hf st hg
  subst hP hw hK
  obtain ⟨xs,ys,x,y,e1,e2,hx,hy⟩:=hg
  obtain ⟨hz,hTI,⟨a,c,hTO⟩,h1,h2⟩:=st
  obtain ⟨us,r1,q1⟩:=dU I.hok e1
  obtain ⟨vs,r2,q2⟩:=dU I.hok e2
  obtain ⟨u,hu,ru⟩:=r1.get hx
  obtain ⟨v,hv,rv⟩:=r2.get hy
  have n1:∀ b∈[z,TI,TO,i1,i2],l1≠b/\l2≠b:=λb hb=>⟨dm e1 (hf b hb).1,dm e2 (hf b hb).1⟩
  obtain ⟨d1,d2,d3,d4,d5,d6,d7,d8,d9,d10⟩:=d
  have D:ZipApart z TI TO i1 i2 l1 l2:=⟨d1,d2,d3,d4,d5,d6,d7,d8,d9,d10,(n1 z (by simp)).1,(n1 TO (by simp)).1,(n1 i1 (by simp)).1,(n1 i2 (by simp)).1,(n1 z (by simp)).2,(n1 TO (by simp)).2,(n1 i1 (by simp)).2,(n1 i2 (by simp)).2⟩
  refine Zij D hz hTI hTO h1 h2 q1 q2 (by simpa using hu) (by simpa using hv) λh' z' p' t1 t2 pr kk=>?_
  refine ⟨_,rfl,wpAny_letOwnedTupleGo_zip z' λh2' z2 sb=>?_⟩
  have lt:∀ {b:Addr} {o:Obj},s.heap.get? b=some o->s.heap.objs.size≠b:=λq=>A6 (AK q)
  have zlt:=lt hz
  have I1:Inv X pins σ H { s with heap:=h2' }:=I.turns (ch:=[z,TI,TO,i1,i2]) (t':=s.toks) (λb o hb e=>by
   simp at hb
   exact sb.extBut _ _ hb.1 (kk b o hb.1 hb.2.2.1 hb.2.2.2.1 hb.2.2.2.2 e)) hf
  have hTn:H s.heap.objs.size=none:=I.hok.fresh (Aw _)
  have I2:=I1.pair (T:=s.heap.objs.size) (x:=x) (y:=y) hTn (sb.extBut _ _ zlt pr) ru rv (A6 I.lt) I.sz
   (λq cc e hq=>by obtain ⟨vv,zz⟩:=I.cell q cc e; exact absurd zz.lt (by rw [hq]; exact AY _)) (λp hp hq=>absurd (AK (I.pin p hp).1) (by rw [hq]; exact AY _))
  refine ⟨.ref s.heap.objs.size,_,I2,rfl,⟨xs,ys,x,y,_,e1,e2,hx,hy,hTn,rfl,rfl⟩,⟨z2,sb.extBut _ _ d1 (kk _ _ d1 d5 d6 d7 hTI),⟨u,v,sb.extBut _ _ d2 p'⟩,t1.at λo e=>sb.extBut _ _ d3 e,t2.at λo e=>sb.extBut _ _ d4 e⟩,λb hb=>?_⟩
  have hbn:b≠s.heap.objs.size:=by
   simp at hb
   obtain ⟨o1,g1,_⟩:=h1.there
   obtain ⟨o2,g2,_⟩:=h2.there
   rcases hb with rfl | rfl | rfl | rfl | rfl
   ·exact (lt hz).symm
   ·exact (lt hTI).symm
   ·exact (lt hTO).symm
   ·exact (lt g1).symm
   ·exact (lt g2).symm
  rw [aM hbn]
  exact (hf b hb).1
 done:=by
  intro X hP hw hK hc i pins s σ H E I hf st hg
  subst hP hw hK
  obtain ⟨xs,ys,e1,e2,hend⟩:=hg
  obtain ⟨hz,hTI,⟨a,c,hTO⟩,h1,h2⟩:=st
  obtain ⟨us,r1,q1⟩:=dU I.hok e1
  obtain ⟨vs,r2,q2⟩:=dU I.hok e2
  have n1:∀ b∈[z,TI,TO,i1,i2],l1≠b/\l2≠b:=λb hb=>⟨dm e1 (hf b hb).1,dm e2 (hf b hb).1⟩
  obtain ⟨d1,d2,d3,d4,d5,d6,d7,d8,d9,d10⟩:=d
  have D:ZipApart z TI TO i1 i2 l1 l2:=⟨d1,d2,d3,d4,d5,d6,d7,d8,d9,d10,(n1 z (by simp)).1,(n1 TO (by simp)).1,(n1 i1 (by simp)).1,(n1 i2 (by simp)).1,(n1 z (by simp)).2,(n1 TO (by simp)).2,(n1 i1 (by simp)).2,(n1 i2 (by simp)).2⟩
  refine Zik (I.ok.hd hc) D hz hTI hTO h1 h2 q1 q2 (hend.imp (λq=>by simpa using r1.none_of q) (λq=>by simpa using r2.none_of q)) λh' kk=>⟨rfl,?_⟩
  exact I.turns (ch:=[z,TI,TO,i1,i2]) (t':=s.toks) (λb o hb e=>by
   simp at hb
   exact kk b o hb.1 hb.2.2.1 hb.2.2.2.1 hb.2.2.2.2 e) hf
 self:=λ_ _ _ _ _ st h=>wpAny_pyIter_zip st.1 h
end L2
namespace L2
open AutoSeq1 (wpAny_loadPart')
section
variable {X:Cx} {tg:Expr} {PK:Pk} {a b:Expr} {i j:DP} {p pos:Pos}
def ZdZ (ta tb:TE):TI:=λσ H R=>ta σ H λx H1=>tb σ H1 λy H2=>∃ b1 b2 l1 l2 xs ys,x=.ref l1/\y=.ref l2/\H2 l1=some (bA b1 xs)/\H2 l2=some (bA b2 ys)/\R (jz b1 b2 l1 l2) H2
theorem kH {elts:List Expr} {x1:Nat} {tpos:Pos} {ta tb:TE} (hc:X.calm=true) (hg:Gl X "zip") (hm:X.mg "zip"=none) (ha:PE X a ta) (hb:PE X b tb)
  (hs:starEach [a,b] X.env=[(false,eval a X.env),(false,eval b X.env)]:=by rfl) (hs2:starEach [b] X.env=[(false,eval b X.env)]:=by rfl):PI X (.Tuple elts x1 tpos) (.Call (.Name "zip" p) [a,b] [] pos) (ZdZ ta tb):=by
 intro pins s σ H R I h
 have hab:PA X [a,b] (fM ta (fM tb aS)):=bx ha (bx hb cf (by rw [hs2]; rfl)) (by rw [hs,hs2])
 refine Call_ (je I hg hm boot_zip (Bx (thn (hab pos pins s σ H (λvs H2=>∃ b1 b2 l1 l2 xs ys,vs=[.ref l1,.ref l2]/\H2 l1=some (bA b1 xs)/\H2 l2=some (bA b2 ys)/\R (jz b1 b2 l1 l2) H2) I ?_) λus s1 ⟨vs,H1,I1,r1,q1⟩=>?_) (by rw [hs,hs2]) (by rw [hs2]; rfl)))
 ·refine (show ta σ H _ from ?_)
  have h':ta σ H λx H1=>tb σ H1 λy H2=>∃ b1 b2 l1 l2 xs ys,x=.ref l1/\y=.ref l2/\H2 l1=some (bA b1 xs)/\H2 l2=some (bA b2 ys)/\R (jz b1 b2 l1 l2) H2:=h
  have e:(λ(x:V) (H1:Hp)=>tb σ H1 λy H2=>∃ b1 b2 l1 l2 xs ys,x=.ref l1/\y=.ref l2/\H2 l1=some (bA b1 xs)/\H2 l2=some (bA b2 ys)/\R (jz b1 b2 l1 l2) H2) =
    λx H1=>fM tb aS σ H1 λxs H2=>∃ b1 b2 l1 l2 us ys,x::xs=[.ref l1,.ref l2]/\H2 l1=some (bA b1 us)/\H2 l2=some (bA b2 ys)/\R (jz b1 b2 l1 l2) H2:=by
   funext x H1
   show _=tb σ H1 _
   congr 1
   funext y H2
   show _=(∃ b1 b2 l1 l2 us ys,[x,y]=[.ref l1,.ref l2]/\H2 l1=some (bA b1 us)/\H2 l2=some (bA b2 ys)/\R (jz b1 b2 l1 l2) H2)
   apply propext
   constructor
   ·rintro ⟨b1,b2,l1,l2,xs,ys,rfl,rfl,q⟩; exact ⟨b1,b2,l1,l2,xs,ys,rfl,q⟩
   ·rintro ⟨b1,b2,l1,l2,xs,ys,e,q⟩
    have e1:x=V.ref l1/\y=V.ref l2:=by simpa using e
    exact ⟨b1,b2,l1,l2,xs,ys,e1.1,e1.2,q⟩
  rw [e] at h'
  exact h'
 ·obtain ⟨b1,b2,l1,l2,xs,ys,rfl,e1,e2,q⟩:=q1
  obtain ⟨u1,u2,rfl,r1,r2⟩:=wF r1
  cases r1
  cases r2
  obtain ⟨us,ru,q1⟩:=dU I1.hok e1
  obtain ⟨vs,rv,q2⟩:=dU I1.hok e2
  refine ZmP q1 q2 λh' z pTI pTO t1 t2 kk=>?_
  have I2:Inv X pins σ H1 { s1 with heap:=h' }:=I1.kept (t':=s1.toks) kk
  have na:∀ n k:Nat,n≠k->(s1.heap.objs.size+n:Nat)≠s1.heap.objs.size+k:=λn k h e=>h (by omega)
  refine wpAny_pyIter_zip z ⟨s1.heap.objs.size+4,[s1.heap.objs.size+4,s1.heap.objs.size+2,s1.heap.objs.size+3,s1.heap.objs.size,s1.heap.objs.size+1],_,_,H1,rfl,I2,Zgu _ _ _ _ _ ⟨na 2 4 (by decide),na 3 4 (by decide),na 0 4 (by decide),na 1 4 (by decide),na 2 3 (by decide),na 2 0 (by decide),na 2 1 (by decide),na 3 0 (by decide),na 3 1 (by decide),na 0 1 (by decide)⟩,⟨z,pTI,⟨_,_,pTO⟩,t1,t2⟩,λb hb=>?_,q⟩
  have hle:s1.heap.objs.size<=b:=by
   simp at hb
   rcases hb with rfl | rfl | rfl | rfl | rfl <;> first | exact Nat.le_add_right _ _ | exact Aw _
  exact I1.fpOk hle (I1.hok.fresh hle)
noncomputable def f9 (xs ys:DY):DY:=(xs.zip ys).map λ(x,y)=>.tuple [x,y]
theorem ng {G:Hp} {v:V} {x:PyData} {xs:DY} (d:Dn G v x) (h:gz x=some xs):∃ b a vs,v=.ref a/\G a=some (bA b vs)/\DnAll G vs xs:=by
 cases d with
 | lst h1 h2=>cases h; exact ⟨true,_,_,rfl,h1,h2⟩
 | tup h1 h2=>cases h; exact ⟨false,_,_,rfl,h1,h2⟩
 | _=>cases h
theorem qB {b:Bool} {xs ys:D3} (h:some (bA b xs)=some (bA b ys)):xs=ys:=by
 cases b <;> (cases h; rfl)
theorem Zki {pa:Addr} {G:Hp} {b1 b2:Bool} {l1 l2:Addr} {us vs:D3} {xs ys:DY} (h1:G l1=some (bA b1 us)) (h2:G l2=some (bA b2 vs)) (d1:DnAll G us xs) (d2:DnAll G vs ys):jx PK pa (jz b1 b2 l1 l2) G (f9 xs ys):=λm G2 H2 sb w=>by
 have e1:H2 l1=some (bA b1 us):=w.sub _ _ (sb _ _ h1)
 have e2:H2 l2=some (bA b2 vs):=w.sub _ _ (sb _ _ h2)
 refine ⟨λn d hd=>?_,us,vs,e1,e2,?_⟩
 ·unfold f9 at hd
  rw [AM] at hd
  cases hz:(xs.zip ys)[n]? with
  | none=>rw [hz] at hd; cases hd
  | some xy =>
   rw [hz] at hd
   cases hd
   have hxy:=BZ.mp hz
   obtain ⟨u,hu,du⟩:=d1.get n hxy.1
   obtain ⟨v,hv,dv⟩:=d2.get n hxy.2
   refine ⟨⟨us,vs,u,v,e1,e2,hu,hv⟩,λx H3 hz0=>?_⟩
   obtain ⟨us',vs',u',v',p,f1,f2,hu',hv',hp,ex,eH⟩:=hz0
   rw [e1] at f1
   rw [e2] at f2
   have:=qB f1
   have:=qB f2
   subst us' vs'
   rw [hu] at hu'
   rw [hv] at hv'
   cases hu'
   cases hv'
   subst ex eH
   obtain ⟨w3,s3⟩:=w.new (o:=.tup [u,v]) hp
   exact ⟨_,s3,w3,.tup bY (.cons ((du.mono sb).mono s3.gs) (.cons ((dv.mono sb).mono s3.gs) .nil))⟩
 ·unfold f9
  rw [At,Bz,d1.length.symm,d2.length.symm]
  rcases Dv us.length vs.length with hle | hle
  ·left
   rw [Ct hle]
   simp
  ·right
   rw [Cm hle]
   simp
noncomputable def iJ (i j:DP):DQ:=λρ=>(i ρ).bind λx=>(j ρ).bind λy=>(Tr.of (gz x)).bind λxs=>(Tr.of (gz y)).bind λys=>.ret (f9 xs ys)
theorem lL {iter:Expr} (h:PI X tg iter (ZdZ (TAe PK i) (TAe PK j))):PI X tg iter (cX PK (iJ i j)):=h.imp λσ H R0 hz0=>by
 obtain ⟨pa,D6,H₀,m,ρ,G,R,z⟩:=hz0
 refine TAe.then R z λm1 x v G1 H1 s1 w1 R1 d1 q1=>?_
 refine TAe.then R1 q1 λm2 y u G2 H2 s2 w2 R2 d2 q2=>?_
 rw [Tr.ok_bind] at q2
 obtain ⟨xs,hx,q2⟩:=Tr.ok_of q2
 rw [Tr.ok_bind] at q2
 obtain ⟨ys,hy,q2⟩:=Tr.ok_of q2
 obtain ⟨b1,l1,us,rfl,e1,f1⟩:=ng (d1.mono s2.gs) hx
 obtain ⟨b2,l2,vs,rfl,e2,f2⟩:=ng d2 hy
 exact ⟨b1,b2,l1,l2,us,vs,rfl,rfl,w2.sub _ _ e1,w2.sub _ _ e2,q2 _ G2 H2 (s1.trans s2 w1.some) w2 (Zki e1 e2 f1 f2)⟩
end
theorem ZeI {prog:Program} {w:World} {A:Around} (hh:A.handled=none) (b:Bool) (it l:Addr) (hne:l≠it) (items:Array Value):Draws prog w A it [it,l] items.size (λi v=>items[i]?=some v) (λi h=>ItAt b h it l i/\SqAt b h l items) where
 live:=λ_ _ st=>let ⟨o,ho,_⟩:=st.1.there; ⟨o,ho⟩
 frame:=λ_ _ _ st hk=>⟨st.1.at λo e=>hk it (by simp) o e,st.2.at λo e=>hk l (by simp) o e⟩
 item:=λi s Q E hi st hQ=>pK st.1 st.2 (x:=items[i]) (by simp [hi]) λh' hit' hs'=>hQ _ h' s.toks (by simp [hi]) ⟨hit',st.2.bt hs'.extBut hne⟩ hs'
 done:=λs Q E st hE=>ye hh st.1 st.2 (by simp) hE
theorem ZjI (b:Bool) (l:Addr) (items:Array Value) :
  Meets (Builtin.«enumerate.__new__» ⟨[.type "enumerate",.ref l],[]⟩) (λ_ R s=>SqAt b s.heap l items /\
   R (.ok (.ret (.ref (s.heap.push (fA b l)).objs.size))) { s with heap:=(s.heap.push (fA b l)).push { cls:=.type "enumerate",data:=.fields #[.none,.bool false,.ref s.heap.objs.size,rawInt 0,.none,.none] } }) :=
 .of_wp λprog w A R s h=>by
  obtain ⟨hp,g,d,tk,os⟩:=s
  obtain ⟨hl,h⟩:=h
  have hsub:=sub_enumerate
  have q:SqAt b (Shared.heap ⟨hp,g,d,tk,os⟩) l items:=hl
  have ho:∃ ob,hp.get? l=some ob:=by
   cases b with
   | true=>obtain ⟨ob,e,_⟩:=hl; exact ⟨ob,e⟩
   | false=>obtain ⟨ob,e,_⟩:=hl; exact ⟨ob,e⟩
  obtain ⟨ob,ho⟩:=ho
  wp_walk using wpAny_loadPart' ho
  refine wpAny_stack_any λst=>wpAny_pure ?_
  split
  ·rename_i c _ _ _ _ _
   cases (c == Value.type "enumerate")
   ·wp_walk using wpAny_loadPart' ho,iW q
    exact ⟨_,rfl,h⟩
   ·wp_walk using wpAny_loadPart' ho,iW q
    exact ⟨_,rfl,h⟩
  ·wp_walk using wpAny_loadPart' ho,iW q
   exact ⟨_,rfl,h⟩
section
variable {prog:Program} {w:World} {A:Around} {E:DX} {s:Shared}
theorem ZmX {b:Bool} {l:Addr} {items:Array Value} {Q:DX} (hl:SqAt b s.heap l items)
  (h:∀ h',IsEnum h' (s.heap.objs.size+1) s.heap.objs.size 0 .none->ItAt b h' s.heap.objs.size l 0->(∀ c o,s.heap.get? c=some o->h'.get? c=some o)->Q (.ref (s.heap.objs.size+1)) { s with heap:=h' }) :
  wpAny (model prog w) A (call (.type "enumerate") [.ref l]) Q E s:=by
 refine callType_new F.called_enumerate (by decide) (F.typeCall_enumerate_1 _) (F.newCall_enumerate_1 _) (λobj=>Ds obj _) F.entry_enumerate_new (ZjI b l items) ⟨hl,?_⟩
 have n1:(s.heap.push (fA b l)).objs.size=s.heap.objs.size+1:=Bk ..
 have a2:IsEnum ((s.heap.push (fA b l)).push { cls:=.type "enumerate",data:=.fields #[.none,.bool false,.ref s.heap.objs.size,rawInt 0,.none,.none] }) (s.heap.push (fA b l)).objs.size s.heap.objs.size 0 .none:=AC _ rfl
 have a1:((s.heap.push (fA b l)).push { cls:=.type "enumerate",data:=.fields #[.none,.bool false,.ref s.heap.objs.size,rawInt 0,.none,.none] }).get? s.heap.objs.size=some (fA b l):=v9 _ (AC _ (by cases b <;> rfl))
 rw [n1] at a2
 show _/\_
 rw [n1]
 exact ⟨⟨_,a2,rfl⟩,h _ a2 (lj a1) λc o x=>v9 _ (v9 _ x)⟩
end
noncomputable def ki (b:Bool) (l:Addr):It :=
 ⟨λi H=>∃ xs x,H l=some (bA b xs)/\xs[i]?=some x,
  λi H v H'=>∃ xs x p,H l=some (bA b xs)/\xs[i]?=some x/\H p=none/\v=.ref p/\H'=upd H p (.tup [.int i,x]),
  λi H=>∃ xs,H l=some (bA b xs)/\xs.length=i⟩
theorem Zgz {P:Program} {w:World} {K:DO} {elts:List Expr} {x1:Nat} {pos:Pos} {b:Bool} {l:Addr} (e it:Addr) (hne:e≠it) :
  Turn P w K (.Tuple elts x1 pos) (ki b l) [e,it] e (λi h=>(∃ old,IsEnum h e it i old)/\ItAt b h it l i) where
 mem:=by simp
 obj:=λi h st c hb=>by
  obtain ⟨⟨old,he⟩,h1⟩:=st
  simp at hb
  rcases hb with rfl | rfl
  ·exact ⟨_,he,λv q=>by cases q⟩
  ·exact h1.there
 keep:=λi h h' st k=>by
  obtain ⟨⟨old,he⟩,h1⟩:=st
  exact ⟨⟨old,k _ (by simp) _ he⟩,h1.at λo q=>k _ (by simp) o q⟩
 item:=by
  intro X hP hw hK hc i pins s σ H E I hf st hg
  subst hP hw hK
  obtain ⟨xs,x,e1,hx⟩:=hg
  obtain ⟨⟨old,he⟩,h1⟩:=st
  obtain ⟨us,r1,q1⟩:=dU I.hok e1
  obtain ⟨u,hu,ru⟩:=r1.get hx
  have nl:∀ c∈[e,it],l≠c:=λc hc=>dm e1 (hf c hc).1
  have hlt:i < us.toArray.size:=by
   have:=(Ay.mp hu).1
   simpa using this
  refine wpAny_pyNext_enum_itemD (ZeI (A:=X.A.in1) (show X.A.in1.handled=none from I.ok.hd hc) b it l (nl it (by simp)) us.toArray) he ⟨h1,q1⟩ hlt hne (by simp only [AO,BU,or_false,not_or]; exact ⟨hne,(nl e (by simp)).symm⟩) λx' h' tk hP' ho st' hT hsz kk=>?_
  have hxu:x'=u:=by
   have q:us[i]?=some x':=by simpa using hP'
   rw [hu] at q
   cases q
   rfl
  subst hxu
  refine ⟨_,rfl,wpAny_letOwnedTupleGo_enum ho λh2' z2 sb=>?_⟩
  have lt:∀ {c:Addr} {o:Obj},s.heap.get? c=some o->s.heap.objs.size≠c:=λq=>A6 (AK q)
  have I1:Inv X pins σ H { s with heap:=h2',toks:=tk+1 }:=I.turns (ch:=[e,it]) (λc o hb q=>by
   simp at hb
   exact sb.extBut _ _ hb.1 (kk c o hb.1 hb.2 q)) hf
  have hTn:H s.heap.objs.size=none:=I.hok.fresh (Aw _)
  have I2:=I1.pair (T:=s.heap.objs.size) (x:=.int i) (y:=x) hTn (sb.extBut _ _ (lt he) hT) ⟨tk,rfl⟩ ru (A6 I.lt) I.sz
   (λq cc ee hq=>by obtain ⟨vv,zz⟩:=I.cell q cc ee; exact absurd zz.lt (by rw [hq]; exact AY _)) (λp hp hq=>absurd (AK (I.pin p hp).1) (by rw [hq]; exact AY _))
  refine ⟨.ref s.heap.objs.size,_,I2,rfl,⟨xs,x,_,e1,hx,hTn,rfl,rfl⟩,⟨⟨_,z2⟩,st'.1.at λo q=>sb.extBut _ _ (Ne.symm hne) q⟩,λc hb=>?_⟩
  have hbn:c≠s.heap.objs.size:=by
   simp at hb
   obtain ⟨o1,g1,_⟩:=h1.there
   rcases hb with rfl | rfl
   ·exact (lt he).symm
   ·exact (lt g1).symm
  rw [aM hbn]
  exact (hf c hb).1
 done:=by
  intro X hP hw hK hc i pins s σ H E I hf st hg
  subst hP hw hK
  obtain ⟨xs,e1,hend⟩:=hg
  obtain ⟨⟨old,he⟩,h1⟩:=st
  obtain ⟨us,r1,q1⟩:=dU I.hok e1
  have nl:∀ c∈[e,it],l≠c:=λc hc=>dm e1 (hf c hc).1
  have hsz:us.toArray.size=i:=by rw [AG,<- r1.length]; exact hend
  subst hsz
  refine wpAny_pyNext_enum_endD (ZeI (A:=X.A.in1) (show X.A.in1.handled=none from I.ok.hd hc) b it l (nl it (by simp)) us.toArray) he ⟨h1,q1⟩ λh' eb=>⟨rfl,?_⟩
  exact I.turns (ch:=[e,it]) (t':=s.toks) (λc o hb q=>by
   simp at hb
   exact eb c o hb.2 q) hf
 self:=λ_ _ _ _ _ st h=>by
  obtain ⟨⟨old,he⟩,_⟩:=st
  exact wpAny_pyIter_enum he h
section
variable {X:Cx} {tg:Expr} {PK:Pk} {a b:Expr} {i j:DP} {p pos:Pos}
def Zd2 (ta:TE):TI:=λσ H R=>ta σ H λx H1=>∃ b l xs,x=.ref l/\H1 l=some (bA b xs)/\R (ki b l) H1
theorem pB {elts:List Expr} {x1:Nat} {tpos:Pos} {ta:TE} (hc:X.calm=true) (hg:Gl X "enumerate") (hm:X.mg "enumerate"=none) (ha:PE X a ta)
  (hs:starEach [a] X.env=[(false,eval a X.env)]:=by rfl):PI X (.Tuple elts x1 tpos) (.Call (.Name "enumerate" p) [a] [] pos) (Zd2 ta):=by
 intro pins s σ H R I h
 have hab:PA X [a] (fM ta aS):=bx ha cf (by rw [hs]; rfl)
 have h':fM ta aS σ H λvs H1=>∃ x,vs=[x]/\∃ b l xs,x=.ref l/\H1 l=some (bA b xs)/\R (ki b l) H1:=by
  have e:(λ(x:V) (H1:Hp)=>∃ b l xs,x=.ref l/\H1 l=some (bA b xs)/\R (ki b l) H1)=λx H1=>aS σ H1 λxs H2=>∃ y,x::xs=[y]/\∃ b l xs,y=.ref l/\H2 l=some (bA b xs)/\R (ki b l) H2:=by
   funext x H1
   apply propext
   constructor
   ·exact λq=>⟨x,rfl,q⟩
   ·rintro ⟨y,e,q⟩
    have e':x=y:=by simpa using e
    subst e'
    exact q
  have h0:ta σ H λx H1=>∃ b l xs,x=.ref l/\H1 l=some (bA b xs)/\R (ki b l) H1:=h
  rw [e] at h0
  exact h0
 refine Call_ (je I hg hm boot_enumerate (Bx (thn (hab pos pins s σ H _ I h') λus s1 hz0=>?_) (by rw [hs]; rfl) rfl))
 obtain ⟨vs,H1,I1,r1,q1⟩:=hz0
 obtain ⟨x,rfl,b,l,xs,rfl,e1,q⟩:=q1
 obtain ⟨u,rfl,ru⟩:=eB r1
 cases ru
 obtain ⟨us,ru,q1⟩:=dU I1.hok e1
 refine ZmX q1 λh' z t1 kk=>?_
 have I2:Inv X pins σ H1 { s1 with heap:=h' }:=I1.kept (t':=s1.toks) kk
 refine wpAny_pyIter_enum z ⟨s1.heap.objs.size+1,[s1.heap.objs.size+1,s1.heap.objs.size],_,_,H1,rfl,I2,Zgz _ _ (λq=>absurd (show (s1.heap.objs.size+1:Nat)=s1.heap.objs.size from q) (by omega)),⟨⟨_,z⟩,t1⟩,λc hb=>?_,q⟩
 have hle:s1.heap.objs.size<=c:=by
  simp at hb
  rcases hb with rfl | rfl <;> first | exact Nat.le_add_right _ _ | exact Aw _
 exact I1.fpOk hle (I1.hok.fresh hle)
noncomputable def fF (xs:DY):DY:=(List.range xs.length).zipWith (λ(n:Nat) x=>.tuple [.int n,x]) xs
theorem Zkn {pa:Addr} {G:Hp} {b:Bool} {l:Addr} {us:D3} {xs:DY} (h1:G l=some (bA b us)) (d1:DnAll G us xs):jx PK pa (ki b l) G (fF xs):=λm G2 H2 sb w=>by
 have e1:H2 l=some (bA b us):=w.sub _ _ (sb _ _ h1)
 have hlen:(fF xs).length=xs.length:=by unfold fF; simp
 refine ⟨λn d hd=>?_,us,e1,by rw [hlen,d1.length]⟩
 have hn:n < xs.length:=by rw [<- hlen]; exact (Ay.mp hd).1
 have hd':d=.tuple [.int n,xs[n]]:=by
  unfold fF at hd
  rw [List.getElem?_zipWith] at hd
  simp [hn] at hd
  exact hd.symm
 subst hd'
 obtain ⟨u,hu,du⟩:=d1.get n (show xs[n]?=some xs[n] by simp [hn])
 refine ⟨⟨us,u,e1,hu⟩,λx H3 hz0=>?_⟩
 obtain ⟨us',u',p,f1,hu',hp,ex,eH⟩:=hz0
 rw [e1] at f1
 have:=qB f1
 subst us'
 rw [hu] at hu'
 cases hu'
 subst ex eH
 obtain ⟨w3,s3⟩:=w.new (o:=.tup [.int n,u]) hp
 exact ⟨_,s3,w3,.tup bY (.cons (.int n) (.cons ((du.mono sb).mono s3.gs) .nil))⟩
noncomputable def lR (i:DP):DQ:=λρ=>(i ρ).bind λx=>(Tr.of (gz x)).bind λxs=>.ret (fF xs)
theorem vQ {iter:Expr} (h:PI X tg iter (Zd2 (TAe PK i))):PI X tg iter (cX PK (lR i)):=h.imp λσ H R0 hz0=>by
 obtain ⟨pa,D6,H₀,m,ρ,G,R,z⟩:=hz0
 refine TAe.then R z λm1 x v G1 H1 s1 w1 R1 d1 q1=>?_
 rw [Tr.ok_bind] at q1
 obtain ⟨xs,hx,q1⟩:=Tr.ok_of q1
 obtain ⟨b1,l1,us,rfl,e1,f1⟩:=ng d1 hx
 exact ⟨b1,l1,us,rfl,w1.sub _ _ e1,q1 _ G1 H1 s1 w1 (Zkn e1 f1)⟩
end
end L2
namespace L2
section
variable {prog:Program} {w:World} {A:Around}
theorem ww (hh:A.handled=none) (b:Bool) (I ax:Addr) (hne:ax≠I) (items:Array Value):Walks prog w A I [I,ax] [I] items.size (λi v=>items[i]?=some v) (λi h=>ItAt b h I ax i/\SqAt b h ax items):=by
 cases b with
 | true=>exact Walks.list hh I ax hne items
 | false=>exact Walks.tuple hh I ax hne items
end
theorem Zkw {ns:DZ} {us:D1} (r:Vals (ns.map V.int) us) {i:Nat} {v:Value} (h:us[i]?=some v):∃ t,v=.int ((ns[i]?).getD 0) t:=by
 have hi:i < us.length:=(Ay.mp h).1
 have hl:us.length=ns.length:=by rw [<- r.length,At]
 obtain ⟨u,e1,e2⟩:=r.get (i:=i) (x:=V.int ns[i]) (by simp [show i < ns.length by omega])
 rw [h] at e1
 cases e1
 obtain ⟨t,e2⟩:=e2
 exact ⟨t,by simp [show i < ns.length by omega,e2]⟩
theorem Ziy (ns:DZ):preSum (λi=>(ns[i]?).getD 0) ns.length=ns.sum:=by
 have key:∀ k,k<=ns.length->preSum (λi=>(ns[i]?).getD 0) k=(ns.take k).sum:=by
  intro k
  induction k with
  | zero=>intro _; simp [preSum]
  | succ k ih =>
   intro hk
   rw [preSum,ih (by omega),Dk,List.sum_append]
   simp [show k < ns.length by omega]
 rw [key _ (Aw _),CK]
section
variable {X:Cx} {PK:Pk}
theorem jr (hc:X.calm=true):dL X (.builtin "sum") (λxs H Q=>∃ (b:Bool) (l:Addr) (ns:DZ),xs=[.ref l]/\H l=some (bA b (ns.map V.int))/\Q (.int ns.sum) H):=by
 intro pins s σ H xs us Q I r h
 obtain ⟨b,l,ns,rfl,e1,q⟩:=h
 obtain ⟨u,rfl,ru⟩:=eB r
 cases ru
 obtain ⟨vs,rv,sq⟩:=dU I.hok e1
 have hlt:l < s.heap.objs.size:=I.hok.lt e1
 refine call_sum_walkG (iW sq ?_)
 refine ⟨s.heap.objs.size,[s.heap.objs.size,l],[s.heap.objs.size],vs.toArray.size,_,_,λi=>(ns[i]?).getD 0,rfl,ww (A:=X.A.in1) (I.ok.hd hc) b _ l (AR hlt) vs.toArray,
  ⟨lj (AC _ (by cases b <;> rfl)),sq.push _⟩,λc hc=>?_,λi v hv=>Zkw rv (by simpa using hv),λh' tk t' hk=>?_⟩
 ·rw [Bk]
  simp at hc
  rcases hc with rfl | rfl
  ·exact Nat.lt_succ_self _
  ·exact B3 hlt
 ·refine ⟨.int ns.sum,H,I.kept (t':=tk) λc o e=>hk c o (λz=>?_) (v9 _ e),⟨t',?_⟩,q⟩
  ·have:c=s.heap.objs.size:=by simpa using z
   subst this
   exact AY _ (AK e)
  ·have e:vs.toArray.size=ns.length:=by rw [AG,<- rv.length,At]
   rw [e,Ziy]
theorem Zif (bs:List Bool):((List.range bs.length).all λi=>(bs[i]?).getD true)=bs.all id:=by
 rw [B5,Bm,Bm]
 constructor
 ·intro h x hx
  obtain ⟨i,hi,rfl⟩:=Cn hx
  have:=h i (Bw.mpr hi)
  simpa [hi] using this
 ·intro h i hi
  have hi':=Bw.mp hi
  simpa [hi'] using h _ (AX hi')
theorem Zie (bs:List Bool):((List.range bs.length).any λi=>(bs[i]?).getD true)=bs.any id:=by
 rw [B5,DA,DA]
 constructor
 ·rintro ⟨i,hi,h⟩
  have hi':=Bw.mp hi
  exact ⟨_,AX hi',by simpa [hi'] using h⟩
 ·rintro ⟨x,hx,h⟩
  obtain ⟨i,hi,rfl⟩:=Cn hx
  exact ⟨i,Bw.mpr hi,by simpa [hi] using h⟩
theorem Zfo {bs:List Bool} {us:D1} (r:Vals (bs.map V.bl) us) {i:Nat} {v:Value} (h:us[i]?=some v):v=.bool ((bs[i]?).getD true):=by
 have hi:i < us.length:=(Ay.mp h).1
 have hl:us.length=bs.length:=by rw [<- r.length,At]
 obtain ⟨u,e1,e2⟩:=r.get (i:=i) (x:=V.bl bs[i]) (by simp [show i < bs.length by omega])
 rw [h] at e1
 cases e1
 cases e2
 simp [show i < bs.length by omega]
theorem zw (hc:X.calm=true):dL X (.builtin "all") (λxs H Q=>∃ (b:Bool) (l:Addr) (bs:List Bool),xs=[.ref l]/\H l=some (bA b (bs.map V.bl))/\Q (.bl (bs.all id)) H):=by
 intro pins s σ H xs us Q I r h
 obtain ⟨b,l,bs,rfl,e1,q⟩:=h
 obtain ⟨u,rfl,ru⟩:=eB r
 cases ru
 obtain ⟨vs,rv,sq⟩:=dU I.hok e1
 have hlt:l < s.heap.objs.size:=I.hok.lt e1
 refine call_all_walk (iW sq ?_)
 refine ⟨s.heap.objs.size,[s.heap.objs.size,l],[s.heap.objs.size],vs.toArray.size,_,_,λi=>(bs[i]?).getD true,rfl,ww (A:=X.A.in1) (I.ok.hd hc) b _ l (AR hlt) vs.toArray,
  ⟨lj (AC _ (by cases b <;> rfl)),sq.push _⟩,λi v s' Q' E' hP hQ=>?_,λh' tk hk=>?_⟩
 ·have e:=Zfo rv (i:=i) (v:=v) (by simpa using hP)
  subst e
  exact wpAny_truthy_bool hQ
 ·have e:vs.toArray.size=bs.length:=by rw [AG,<- rv.length,At]
  rw [e,Zif]
  refine ⟨.bl _,H,I.kept (t':=tk) λc o e=>hk c o (λz=>?_) (v9 _ e),rfl,q⟩
  have:c=s.heap.objs.size:=by simpa using z
  subst this
  exact AY _ (AK e)
theorem ZmZ (hc:X.calm=true):dL X (.builtin "any") (λxs H Q=>∃ (b:Bool) (l:Addr) (bs:List Bool),xs=[.ref l]/\H l=some (bA b (bs.map V.bl))/\Q (.bl (bs.any id)) H):=by
 intro pins s σ H xs us Q I r h
 obtain ⟨b,l,bs,rfl,e1,q⟩:=h
 obtain ⟨u,rfl,ru⟩:=eB r
 cases ru
 obtain ⟨vs,rv,sq⟩:=dU I.hok e1
 have hlt:l < s.heap.objs.size:=I.hok.lt e1
 refine call_any_walk (iW sq ?_)
 refine ⟨s.heap.objs.size,[s.heap.objs.size,l],[s.heap.objs.size],vs.toArray.size,_,_,λi=>(bs[i]?).getD true,rfl,ww (A:=X.A.in1) (I.ok.hd hc) b _ l (AR hlt) vs.toArray,
  ⟨lj (AC _ (by cases b <;> rfl)),sq.push _⟩,λi v s' Q' E' hP hQ=>?_,λh' tk hk=>?_⟩
 ·have e:=Zfo rv (i:=i) (v:=v) (by simpa using hP)
  subst e
  exact wpAny_truthy_bool hQ
 ·have e:vs.toArray.size=bs.length:=by rw [AG,<- rv.length,At]
  rw [e,Zie]
  refine ⟨.bl _,H,I.kept (t':=tk) λc o e=>hk c o (λz=>?_) (v9 _ e),rfl,q⟩
  have:c=s.heap.objs.size:=by simpa using z
  subst this
  exact AY _ (AK e)
noncomputable def bools?:List PyData->Option (List Bool)
 | []=>some []
 | .bool n::xs=>(bools? xs).bind λns=>some (n::ns)
 | _=>none
@[simp] theorem bools?_map:∀ ns:List Bool,bools? (ns.map PyData.bool)=some ns
 | []=>rfl
 | n::ns=>by rw [Ax,bools?,bools?_map ns]; rfl
theorem DnAll.bools_inv {H:Hp} {vs:D3} {ds:DY} {ns:List Bool} (a:DnAll H vs ds) (h:bools? ds=some ns):vs=ns.map V.bl/\ds=ns.map PyData.bool:=by
 induction vs generalizing ds ns with
 | nil=>cases a; cases h; exact ⟨rfl,rfl⟩
 | cons v vs ih =>
  cases a with
  | cons g t =>
   cases g with
   | bl n =>
    unfold bools? at h
    rename_i ds
    cases e:bools? ds with
    | none=>rw [e] at h; cases h
    | some ms =>
     rw [e] at h
     cases h
     obtain ⟨h1,h2⟩:=ih t e
     exact ⟨by rw [h1]; rfl,by rw [h2]; rfl⟩
   | _=>unfold bools? at h; cases h
noncomputable def ij {α:Type} (p:List PyData->Option α) (f:α->Option PyData):List PyData->Option PyData
 | [x]=>(gz x).bind λxs=>(p xs).bind f
 | _=>none
noncomputable def dN:List PyData->Option PyData:=ij ints? λns=>some (.int ns.sum)
noncomputable def js:List PyData->Option PyData:=ij bools? λns=>some (.bool (ns.all id))
noncomputable def nL:List PyData->Option PyData:=ij bools? λns=>some (.bool (ns.any id))
theorem ya {α:Type} {p:List PyData->Option α} {f:α->Option PyData} {G:Hp} {vs:D3} {ds:DY} {d:PyData} (hv:DnAll G vs ds) (h:ij p f ds=some d):∃ b l us xs y,vs=[.ref l]/\G l=some (bA b us)/\DnAll G us xs/\p xs=some y/\f y=some d:=by
 unfold ij at h
 split at h
 ·rename_i x
  cases hx:gz x with
  | none=>rw [hx] at h; cases h
  | some xs =>
   rw [hx] at h
   have h':(p xs).bind f=some d:=h
   cases hp:p xs with
   | none=>rw [hp] at h'; cases h'
   | some y =>
    rw [hp] at h'
    cases hv with
    | cons h1 h2 =>
     cases h2
     obtain ⟨b,l,us,rfl,e1,e2⟩:=ng h1 hx
     exact ⟨b,l,us,xs,y,rfl,e1,e2,hp,h'⟩
 ·cases h
theorem iN:fJ (λxs H Q=>∃ (b:Bool) (l:Addr) (ns:DZ),xs=[.ref l]/\H l=some (bA b (ns.map V.int))/\Q (.int ns.sum) H) dN:=λPK pa m G H vs ds d Q w hv hd k=>by
 obtain ⟨b,l,us,xs,ns,rfl,e1,e2,hp,hf⟩:=ya hv hd
 obtain ⟨rfl,rfl⟩:=e2.ints_inv hp
 cases hf
 exact ⟨b,l,ns,rfl,w.sub _ _ e1,k.here w (.int _)⟩
theorem wD:fJ (λxs H Q=>∃ (b:Bool) (l:Addr) (bs:List Bool),xs=[.ref l]/\H l=some (bA b (bs.map V.bl))/\Q (.bl (bs.all id)) H) js:=λPK pa m G H vs ds d Q w hv hd k=>by
 obtain ⟨b,l,us,xs,ns,rfl,e1,e2,hp,hf⟩:=ya hv hd
 obtain ⟨rfl,rfl⟩:=e2.bools_inv hp
 cases hf
 exact ⟨b,l,ns,rfl,w.sub _ _ e1,k.here w (.bl _)⟩
theorem Zgn:fJ (λxs H Q=>∃ (b:Bool) (l:Addr) (bs:List Bool),xs=[.ref l]/\H l=some (bA b (bs.map V.bl))/\Q (.bl (bs.any id)) H) nL:=λPK pa m G H vs ds d Q w hv hd k=>by
 obtain ⟨b,l,us,xs,ns,rfl,e1,e2,hp,hf⟩:=ya hv hd
 obtain ⟨rfl,rfl⟩:=e2.bools_inv hp
 cases hf
 exact ⟨b,l,ns,rfl,w.sub _ _ e1,k.here w (.bl _)⟩
variable {a b c e:Expr} {pos:Pos} {i j l:DP}
noncomputable def lS (f g:DW) (i j l:DP):DP:=λρ=>(i ρ).bind λx=>(j ρ).bind λy=>(Tr.of (f x y)).bind λz=>(Tr.of (jC z)).bind λk =>
 if k=true then (l ρ).bind λu=>Tr.of (g y u) else .ret (.bool false)
theorem ZmK {r r':R2} {f g:DW} (hv:cN r f) (hv':cN r' g):∀ σ H Q,TAe PK (lS f g i j l) σ H Q->ZaE r r' (TAe PK i) (TAe PK j) (TAe PK l) σ H Q:=by
 rintro σ H Q ⟨pa,D6,H₀,m,ρ,G,R,q⟩
 refine TAe.then R q λm1 x v G1 H1 s1 w1 R1 d1 q1=>?_
 refine TAe.then R1 q1 λm2 y u G2 H2 s2 w2 R2 d2 q2=>?_
 rw [Tr.ok_bind] at q2
 obtain ⟨z,hz,q3⟩:=Tr.ok_of q2
 rw [Tr.ok_bind] at q3
 obtain ⟨k,hk,q5⟩:=Tr.ok_of q3
 have s12:=s1.trans s2 w1.some
 refine hv PK pa m2 G2 H2 v u x y z _ w2 (d1.mono s2.gs) d2 hz λzz G3 H3 s3 w3 d3=>?_
 cases d3 <;> simp only [jC] at hk <;> cases hk
 refine ⟨_,rfl,?_⟩
 have s13:=s12.trans s3 w2.some
 cases k with
 | true =>
  rw [if_pos rfl] at q5 ⊢
  refine TAe.then (R2.step s3 w3) q5 λm4 t vt G4 H4 s4 w4 R4 d4 q4=>?_
  obtain ⟨zz,hzz,q4⟩:=Tr.ok_of q4
  exact hv' PK pa m4 G4 H4 u vt y t zz Q w4 (d2.mono (s3.gs.trans s4.gs)) d4 hzz (Kn.later q4 (s13.trans s4 w3.some) w4.some)
 | false =>
  rw [if_neg AQ] at q5 ⊢
  exact (Kn.later q5 s13 w3.some).here w3 (.bl false)
theorem zY {op op':CmpOp} {r r':R2} {f g:DW} (ho:OpR X (compareOp op) r) (hv:cN r f) (ho':OpR X (compareOp op') r') (hv':cN r' g) (ha:PE X a (TAe PK i)) (hb:PE X b (TAe PK j)) (hc:PE X c (TAe PK l))
  (hm:lastMarks [op,op'] [b,c]=false:=by with_unfolding_all rfl):PE X (.Compare a [op,op'] [b,c] pos) (TAe PK (lS f g i j l)):=(ZiW ho ho' ha hb hc hm).imp (ZmK hv hv')
theorem ZdV:OpR X (inplaceOp .Mult) (rI CMulG λi j=>.int (i * j)):=i5 λ_ _ _ _ _ _ _ hc q=>imul_int q hc.ok
theorem pip {op:Operator} {r:R2} (h:OpR X (inplaceOp op) r):PIp X op r:=h
noncomputable def qy:DW
 | .int m,.int n=>some (.int (m+n))
 | _,_=>none
theorem Zgk:cN (fP λi j=>.int (i+j)) qy:=λPK pa m G H x y dx dy dz Q w hx hy hz k=>by
 unfold qy at hz
 split at hz
 ·cases hz; cases hx; cases hy
  exact ⟨_,_,rfl,rfl,k.here w (.int _)⟩
 ·cases hz
noncomputable def lm:DW
 | .int m,.int n=>if (fit m && fit n)=true then some (.int (m * n)) else none
 | _,_=>none
theorem Zai:cN (rI CMulG λi j=>.int (i * j)) lm:=λPK pa m G H x y dx dy dz Q w hx hy hz k=>by
 unfold lm at hz
 split at hz
 ·split at hz
  ·rename_i hc
   rw [AU] at hc
   cases hz; cases hx; cases hy
   exact ⟨_,_,rfl,rfl,⟨of_decide_eq_true hc.1,of_decide_eq_true hc.2⟩,k.here w (.int _)⟩
  ·cases hz
 ·cases hz
end
theorem ZcX {PK:Pk} {is:DQ}:∀ σ H Q,TAe PK (bE is) σ H Q->eG PK is σ H Q:=by
 intro σ H Q z
 obtain ⟨pa,D6,H₀,m,ρ,G,R,z⟩:=z
 exact ⟨pa,D6,H₀,m,ρ,G,R,Tr.ok_mono (Tr.ok_bind.mp z) λm1 xs k=>Ko1.of k R.wd.some⟩
theorem Znu {PK:Pk} {X:Cx} {st:Stmt} {is:DQ} {i:DP} {n k:Nat} {ix:List Nat} {g:DV} (h:PS X st (dM (iP (cX PK is) n ix (λ_=>dB PK g) (λ_=>TAe PK i)) (dZ k))) (hn:fg n g):PS X st (bH PK (bb k (bE (dA is n ix g i)))) :=
 bf (h.imp (ox λσ H Q z=>yq hn σ H Q (ZcX σ H Q z)))
variable {ρ:D5} {s t:DS} {i j l:DP} {is:DQ} {as:List Sl->Tr D5} {f:DT} {p q:DR} {k n:Nat} {x y d:PyData} {xs ys:DY} {sl:Sl}
theorem qV:aa 0 (.d x::ρ)=.ret x:=rfl
theorem qU:aa (k+1) (sl::ρ)=aa k ρ:=rfl
theorem vp:aC d ρ=.ret d:=rfl
noncomputable def aU (g:DW) (x y:PyData):Tr PyData:=Tr.of (g x y)
noncomputable def Zfv (g:DW) (j:DP) (ρ:D5) (x:PyData):Tr PyData:=(j ρ).bind (aU g x)
theorem uQ {g:DW}:ae g i j ρ=(i ρ).bind (Zfv g j ρ):=rfl
theorem uP {g:DW}:Zfv g j ρ x=(j ρ).bind (aU g x):=rfl
theorem vd (m n:Int):aU bg (.int m) (.int n)=.ret (.int (m+n)):=rfl
theorem nu (h1:xs.isEmpty=false) (h2:small (xs.length+ys.length)=true):aU bg (.tuple xs) (.tuple ys)=.ret (.tuple (xs++ys)):=by
 simp [aU,bg,h1,h2]
theorem vc (h2:small (xs.length+ys.length)=true):aU bg (.list xs) (.list ys)=.ret (.list (xs++ys)):=by
 simp [aU,bg,h2]
theorem rz (m n:Int):aU dh (.int m) (.int n)=.ret (.int (m - n)):=rfl
theorem tf {m n:Int} (h1:fit m=true) (h2:fit n=true):aU bX (.int m) (.int n)=.ret (.int (m * n)):=by
 simp [aU,bX,h1,h2]
theorem uu {m n:Int} (h1:n≠0) (h2:fit n=true):aU iC (.int m) (.int n)=.ret (.int (m.fdiv n)):=by
 simp [aU,iC,h1,h2]
theorem yW {m n:Int} (h1:n≠0):aU i7 (.int m) (.int n)=.ret (.int (m.fmod n)):=by
 simp [aU,i7,h1]
theorem uF {g:Int->Int->Bool} (m n:Int):aU (cD g) (.int m) (.int n)=.ret (.bool (g m n)):=rfl
theorem uw (m n:Int):aU dP (.int m) (.int n)=.ret (.bool (m == n)):=rfl
theorem sZ (m n:Int):aU cQ (.int m) (.int n)=.ret (.bool (!(m == n))):=rfl
theorem ux (m n:Bool):aU dP (.bool m) (.bool n)=.ret (.bool (m == n)):=rfl
theorem uv (m n:Str):aU dP (.str m) (.str n)=.ret (.bool (m == n)):=rfl
theorem sY (m n:Str):aU cQ (.str m) (.str n)=.ret (.bool (!(m == n))):=rfl
theorem Zlj (h1:SeqAt.shaped x=true) (h2:SeqAt.shaped y=true) (h3:∀ a b,¬ (x=.str a/\y=.str b)):aU dP x y=.ret (.bool (PyData.eqv x y)):=by
 unfold aU dP
 split
 ·exact absurd ⟨rfl,rfl⟩ (h3 _ _)
 ·rw [h1,h2]; rfl
theorem Zjv (h1:SeqAt.shaped x=true) (h2:SeqAt.shaped y=true) (h3:∀ a b,¬ (x=.str a/\y=.str b)):aU cQ x y=.ret (.bool (!PyData.eqv x y)):=by
 unfold aU cQ
 split
 ·exact absurd ⟨rfl,rfl⟩ (h3 _ _)
 ·rw [h1,h2]; rfl
theorem tR (m n:Bool):aU qu (.bool m) (.bool n)=.ret (.bool (!(m == n))):=rfl
theorem tU:aU qv x .none=.ret (.bool (jX x)):=rfl
theorem tN (n:Int):aU ap (.list xs) (.int n)=Tr.of (bG xs n):=rfl
theorem fU (n:Int):aU ap (.tuple xs) (.int n)=Tr.of (bG xs n):=rfl
theorem fW {α:Type} {xs:List α} {n:Int} {v:α} (h0:0<=n) (h:xs[n.toNat]?=some v):bG xs n=some v:=by
 have e:(n.toNat:Int)=n:=Int.toNat_of_nonneg h0
 rw [<- e]
 exact gC h
section
variable {α:Type} {a0 a1 a2 a3 a4 a5 a6 a7 a8:α} {r:List α}
theorem j7:bG (a0::r) 0=some a0:=gC (j:=0) rfl
theorem lJ:bG (a0::a1::r) 1=some a1:=gC (j:=1) rfl
theorem lI:bG (a0::a1::a2::r) 2=some a2:=gC (j:=2) rfl
theorem nI:bG (a0::a1::a2::a3::r) 3=some a3:=gC (j:=3) rfl
theorem nH:bG (a0::a1::a2::a3::a4::r) 4=some a4:=gC (j:=4) rfl
theorem nG:bG (a0::a1::a2::a3::a4::a5::r) 5=some a5:=gC (j:=5) rfl
theorem nF:bG (a0::a1::a2::a3::a4::a5::a6::r) 6=some a6:=gC (j:=6) rfl
theorem nE:bG (a0::a1::a2::a3::a4::a5::a6::a7::r) 7=some a7:=gC (j:=7) rfl
theorem nD:bG (a0::a1::a2::a3::a4::a5::a6::a7::a8::r) 8=some a8:=gC (j:=8) rfl
end
noncomputable def Zc6:PyData->Tr PyData
 | .int n=>.ret (.int (-n))
 | _=>.fail
theorem sX:gZ i ρ=(i ρ).bind Zc6:=by
 unfold gZ
 refine congrArg (Tr.bind (i ρ)) (funext λx=>?_)
 cases x <;> rfl
theorem sW (n:Int):Zc6 (.int n)=.ret (.int (-n)):=rfl
noncomputable def wK (x:PyData):Tr Bool:=Tr.of (jC x)
theorem rq:bu i ρ=(i ρ).bind wK:=rfl
theorem ra (b:Bool):wK (.bool b)=.ret b:=rfl
noncomputable def kl (x:PyData):Tr Bool:=Tr.of (Zas x)
theorem rn:cU i ρ=(i ρ).bind kl:=rfl
theorem rm (b:Bool):kl (.bool b)=.ret b:=rfl
theorem rj (n:Int):kl (.int n)=.ret (n != 0):=rfl
theorem rh:kl (.list xs)=.ret (!xs.isEmpty):=rfl
theorem re:kl (.tuple xs)=.ret (!xs.isEmpty):=rfl
theorem rf:kl .none=.ret false:=rfl
noncomputable def zS (q:DR) (ρ:D5) (b:Bool):Tr Bool:=if b=true then q ρ else .ret false
noncomputable def x4 (q:DR) (ρ:D5) (b:Bool):Tr Bool:=if b=true then .ret true else q ρ
noncomputable def ZcZ (b:Bool):Tr Bool:=.ret (!b)
theorem va:vY p q ρ=(p ρ).bind (zS q ρ):=rfl
theorem sP:eE p q ρ=(p ρ).bind (x4 q ρ):=rfl
theorem sU:dw p ρ=(p ρ).bind ZcZ:=rfl
theorem u8:zS q ρ true=q ρ:=rfl
theorem u9:zS q ρ false=.ret false:=rfl
theorem sN:x4 q ρ true=.ret true:=rfl
theorem sO:x4 q ρ false=q ρ:=rfl
theorem sT (b:Bool):ZcZ b=.ret (!b):=rfl
noncomputable def zR (j:DP) (ρ:D5) (b:Bool):Tr PyData:=if b=true then j ρ else .ret (.bool false)
noncomputable def ZcY (b:Bool):Tr PyData:=.ret (.bool (!b))
theorem u7:ke i j ρ=(bu i ρ).bind (zR j ρ):=rfl
theorem sS:vW i ρ=(bu i ρ).bind ZcY:=rfl
theorem uY:zR j ρ true=j ρ:=rfl
theorem uZ:zR j ρ false=.ret (.bool false):=rfl
theorem sR (b:Bool):ZcY b=.ret (.bool (!b)):=rfl
noncomputable def yJ (i j:DP) (ρ:D5) (b:Bool):Tr PyData:=if b=true then i ρ else j ρ
theorem uf:Ad p i j ρ=(p ρ).bind (yJ i j ρ):=rfl
theorem ud:yJ i j ρ true=i ρ:=rfl
theorem ue:yJ i j ρ false=j ρ:=rfl
noncomputable def vE (g:DW) (l:DP) (ρ:D5) (y:PyData) (k:Bool):Tr PyData:=if k=true then (l ρ).bind (aU g y) else .ret (.bool false)
noncomputable def zq (g:DW) (l:DP) (ρ:D5) (y z:PyData):Tr PyData:=(wK z).bind (vE g l ρ y)
noncomputable def zr (f g:DW) (l:DP) (ρ:D5) (x y:PyData):Tr PyData:=(aU f x y).bind (zq g l ρ y)
noncomputable def ch1 (f g:DW) (j l:DP) (ρ:D5) (x:PyData):Tr PyData:=(j ρ).bind (zr f g l ρ x)
theorem uG {f g:DW}:lS f g i j l ρ=(i ρ).bind (ch1 f g j l ρ):=rfl
theorem uL {f g:DW}:ch1 f g j l ρ x=(j ρ).bind (zr f g l ρ x):=rfl
theorem uK {f g:DW}:zr f g l ρ x y=(aU f x y).bind (zq g l ρ y):=rfl
theorem uJ {g:DW} (b:Bool):zq g l ρ y (.bool b)=vE g l ρ y b:=rfl
theorem uH {g:DW}:vE g l ρ y true=(l ρ).bind (aU g y):=rfl
theorem uI {g:DW}:vE g l ρ y false=.ret (.bool false):=rfl
noncomputable def zp (x:PyData) (xs:DY):Tr DY:=.ret (x::xs)
noncomputable def Ze0 (is:DQ) (ρ:D5) (x:PyData):Tr DY:=(is ρ).bind (zp x)
theorem sV:ak ρ=.ret []:=rfl
theorem uE:af i is ρ=(i ρ).bind (Ze0 is ρ):=rfl
theorem uD:Ze0 is ρ x=(is ρ).bind (zp x):=rfl
theorem uC:zp x xs=.ret (x::xs):=rfl
noncomputable def wJ (xs:DY):Tr PyData:=if small xs.length=true then .ret (.tuple xs) else .fail
theorem q9:bj is ρ=(is ρ).bind wJ:=rfl
theorem qZ (h:small xs.length=true):wJ xs=.ret (.tuple xs):=by unfold wJ; rw [if_pos h]
noncomputable def Zdf (xs:DY):Tr PyData:=.ret (.list xs)
theorem tz:bE is ρ=(is ρ).bind Zdf:=rfl
theorem tw:Zdf xs=.ret (.list xs):=rfl
noncomputable def yo (xs:DY):Tr DY:=if small xs.length=true then .ret xs else .fail
theorem tD:cW is ρ=(is ρ).bind yo:=rfl
theorem tB (h:small xs.length=true):yo xs=.ret xs:=by unfold yo; rw [if_pos h]
theorem bW {n:Nat} (h:n<=10000):small n=true:=decide_eq_true (AL h (by decide))
noncomputable def bR (g:List PyData->Option PyData) (xs:DY):Tr PyData:=Tr.of (g xs)
noncomputable def nA (g:List PyData->Option DY) (xs:DY):Tr DY:=Tr.of (g xs)
theorem uN {g:List PyData->Option PyData}:bc g is ρ=(is ρ).bind (bR g):=rfl
theorem uM {g:List PyData->Option DY}:gE g is ρ=(is ρ).bind (nA g):=rfl
theorem tF:bR cj [.list xs]=.ret (.int xs.length):=rfl
theorem tE:bR cj [.tuple xs]=.ret (.int xs.length):=rfl
theorem ve (n:Int):bR lM [.int n]=.ret (.int (vR n)):=rfl
theorem tj (m n:Int):bR iu [.int m,.int n]=.ret (.int (eL m n)):=rfl
theorem tV (n:Int):bR nc [.int n]=.ret (.int n):=rfl
theorem tW (b:Bool):bR nc [.bool b]=.ret (.int (if b then 1 else 0)):=rfl
theorem qY:bR ga [.list xs]=.ret (.tuple xs):=rfl
theorem qW:bR ga [.tuple xs]=.ret (.tuple xs):=rfl
theorem tu:nA jU [.list xs]=.ret xs:=rfl
theorem tm:nA jU [.tuple xs]=.ret xs:=rfl
theorem jY (ns:DZ):bR dN [.list (ns.map .int)]=.ret (.int ns.sum):=by
 unfold bR dN ij
 simp
theorem jl (ns:DZ):bR dN [.tuple (ns.map .int)]=.ret (.int ns.sum):=by
 unfold bR dN ij
 simp
theorem lz (ns:List Bool):bR js [.list (ns.map .bool)]=.ret (.bool (ns.all id)):=by
 unfold bR js ij
 simp
theorem nr (ns:List Bool):bR nL [.list (ns.map .bool)]=.ret (.bool (ns.any id)):=by
 unfold bR nL ij
 simp
noncomputable def ZdS (T:String) (x:PyData):Tr PyData:=.ret (.bool (ll T (iO x)))
theorem tT {T:String}:eS T i ρ=(i ρ).bind (ZdS T):=rfl
theorem tS {T:String}:ZdS T x=.ret (.bool (ll T (iO x))):=rfl
noncomputable def ky (x:PyData) (lo:Option Int) (hi:Option Int):Tr PyData:=Tr.of (ZaT x lo hi)
noncomputable def eJ (q:gD) (ρ:D5) (x:PyData) (lo:Option Int):Tr PyData:=(q ρ).bind (ky x lo)
noncomputable def sl1 (p q:gD) (ρ:D5) (x:PyData):Tr PyData:=(p ρ).bind (eJ q ρ x)
theorem rE {p q:gD}:cV i p q ρ=(i ρ).bind (sl1 p q ρ):=rfl
theorem rD {p q:gD}:sl1 p q ρ x=(p ρ).bind (eJ q ρ x):=rfl
theorem rC {q:gD} {lo:Option Int}:eJ q ρ x lo=(q ρ).bind (ky x lo):=rfl
theorem rB {lo hi:Option Int}:ky (.list xs) lo hi=.ret (.list (dH xs lo hi)):=rfl
theorem rA {lo hi:Option Int}:ky (.tuple xs) lo hi=.ret (.tuple (dH xs lo hi)):=rfl
theorem sK:dg ρ=.ret none:=rfl
noncomputable def pa1:PyData->Tr (Option Int)
 | .int n=>.ret (some n)
 | _=>.fail
theorem sJ:cK i ρ=(i ρ).bind pa1:=by
 unfold cK
 refine congrArg (Tr.bind (i ρ)) (funext λx=>?_)
 cases x <;> rfl
theorem sI (n:Int):pa1 (.int n)=.ret (some n):=rfl
noncomputable def wI (xs:DY):Tr PyData:=(Tr.of (iT xs)).bind λys=>.ret (.tuple ys)
theorem qX:zZ is ρ=(is ρ).bind wI:=rfl
theorem np {lo hi:Int} (h:iU lo hi=true):wI [.int lo,.int hi]=.ret (.tuple (bi lo hi)):=by
 simp [wI,iT,h]
noncomputable def yl (xs:DY):Tr DY:=Tr.of (iT xs)
theorem tq:Ac is ρ=(is ρ).bind yl:=rfl
theorem nq {lo hi:Int} (h:iU lo hi=true):yl [.int lo,.int hi]=.ret (bi lo hi):=by
 simp [yl,iT,h]
theorem vh:aB ρ=.ret []:=rfl
noncomputable def nQ (x:Sl) (xs:D5):Tr D5:=.ret (x::xs)
noncomputable def aa1 (as:List Sl->Tr D5) (ρ:D5) (x:PyData):Tr D5:=(as ρ).bind (nQ (.d x))
theorem vm:ah i as ρ=(i ρ).bind (aa1 as ρ):=rfl
theorem vo:aa1 as ρ x=(as ρ).bind (nQ (.d x)):=rfl
theorem vn {xs:D5}:nQ sl xs=.ret (sl::xs):=rfl
noncomputable def kI:Nat->List Sl->Tr Unit
 | 0,.pen::_=>.ret ()
 | k+1,_::ρ=>kI k ρ
 | _,_=>.fail
theorem sF:kI 0 (.pen::ρ)=.ret ():=rfl
theorem sE:kI (k+1) (sl::ρ)=kI k ρ:=rfl
noncomputable def aap (as:List Sl->Tr D5) (ρ:D5) (_:Unit):Tr D5:=(as ρ).bind (nQ .pen)
theorem vg:cg k as ρ=(kI k ρ).bind (aap as ρ):=by
 have key:∀ (k:Nat) (σ:D5) (as:List Sl->Tr D5) (ρ:D5),(match σ[k]? with | some Sl.pen=>(as ρ).bind λxs=>Tr.ret (Sl.pen::xs) | _=>Tr.fail)=(kI k σ).bind (aap as ρ):=by
  intro k
  induction k with
  | zero =>
   intro σ as ρ
   cases σ with
   | nil=>rfl
   | cons s r=>cases s <;> rfl
  | succ k ih =>
   intro σ as ρ
   cases σ with
   | nil=>rfl
   | cons s r=>exact ih r as ρ
 exact key k ρ as ρ
theorem vf (u:Unit):aap as ρ u=(as ρ).bind (nQ .pen):=rfl
theorem uO:aD f as ρ=(as ρ).bind f:=rfl
noncomputable def re1 (r:Re):Tr PyData:=.ret r.val
theorem sD:aE f ρ=(f ρ).bind re1:=rfl
theorem sC (r:Re):re1 r=.ret r.val:=rfl
theorem uB {as:D5} (h:as.length=n):bv n k s as=(s (as++List.replicate k .un)).bind qO:=by
 unfold bv
 rw [if_pos (decide_eq_true h)]
theorem ut:qO (.next ρ)=.ret (.d .none):=rfl
theorem ur (r:Re):qO (.ret r)=.ret r:=rfl
noncomputable def mf (t:DS):Ou->Tr Ou
 | .next ρ=>t ρ
 | o=>.ret o
theorem rS:au s t ρ=(s ρ).bind (mf t):=by
 unfold au
 refine congrArg (Tr.bind (s ρ)) (funext λo=>?_)
 cases o <;> rfl
theorem rP:mf t (.next ρ)=t ρ:=rfl
theorem rO (r:Re):mf t (.ret r)=.ret (.ret r):=rfl
theorem rR:mf t (.brk ρ)=.ret (.brk ρ):=rfl
theorem rQ:mf t (.cont ρ)=.ret (.cont ρ):=rfl
theorem rF:bM ρ=.ret (.next ρ):=rfl
noncomputable def yG (s t:DS) (ρ:D5) (b:Bool):Tr Ou:=if b=true then s ρ else t ρ
theorem t5:bO p s t ρ=(p ρ).bind (yG s t ρ):=rfl
theorem tY:yG s t ρ true=s ρ:=rfl
theorem tZ:yG s t ρ false=t ρ:=rfl
noncomputable def ZbT (x:PyData):Tr Ou:=.ret (.ret (.d x))
theorem sB:aZ i ρ=(i ρ).bind ZbT:=rfl
theorem sA:ZbT x=.ret (.ret (.d x)):=rfl
noncomputable def ZbS (xs:DY):Tr Ou:=.ret (.ret (.own xs))
theorem sy:ka is ρ=(is ρ).bind ZbS:=rfl
theorem sx:ZbS xs=.ret (.ret (.own xs)):=rfl
noncomputable def ZbR (r:Re):Tr Ou:=.ret (.ret r)
theorem sw:vV f ρ=(f ρ).bind ZbR:=rfl
theorem sv (r:Re):ZbR r=.ret (.ret r):=rfl
theorem su:fX 0 (.d x::ρ)=.ret (.ret (.d x)):=rfl
theorem sn:fX 0 (.own xs::ρ)=.ret (.ret (.own xs)):=rfl
theorem sj:fX (k+1) (sl::ρ)=fX k ρ:=rfl
noncomputable def oN (k:Nat) (ρ:D5) (x:PyData):Tr Ou:=.ret (.next (ρ.set k (.d x)))
theorem rN:bb k i ρ=(i ρ).bind (oN k ρ):=rfl
theorem rM:oN k ρ x=.ret (.next (ρ.set k (.d x))):=rfl
noncomputable def Za2 (k:Nat) (ρ:D5) (x:DY):Tr Ou:=.ret (.next (ρ.set k (.own x)))
theorem rL:j9 k is ρ=(is ρ).bind (Za2 k ρ):=rfl
theorem rK:Za2 k ρ xs=.ret (.next (ρ.set k (.own xs))):=rfl
theorem ql {α:Type} {a b:α} {r:List α}:(a::r).set 0 b=b::r:=rfl
theorem qj {α:Type} {a b:α} {r:List α}:(a::r).set (k+1) b=a::r.set k b:=rfl
noncomputable def zM (g:DW) (k:Nat) (ρ:D5) (x y:PyData):Tr Ou:=(aU g x y).bind (oN k ρ)
noncomputable def Zfz (g:DW) (k:Nat) (i:DP) (ρ:D5) (x:PyData):Tr Ou:=(i ρ).bind (zM g k ρ x)
theorem uT {g:DW}:lT g k i ρ=(aa k ρ).bind (Zfz g k i ρ):=rfl
theorem uS {g:DW}:Zfz g k i ρ x=(i ρ).bind (zM g k ρ x):=rfl
theorem uR {g:DW}:zM g k ρ x y=(aU g x y).bind (oN k ρ):=rfl
theorem ug (m n:Int):aU qy (.int m) (.int n)=.ret (.int (m+n)):=rfl
theorem tX {m n:Int} (h1:fit m=true) (h2:fit n=true):aU lm (.int m) (.int n)=.ret (.int (m * n)):=by
 simp [aU,lm,h1,h2]
noncomputable def ie:Nat->List Sl->Tr DY
 | 0,.own xs::_=>.ret xs
 | k+1,_::ρ=>ie k ρ
 | _,_=>.fail
theorem sM:ie 0 (.own xs::ρ)=.ret xs:=rfl
theorem sL:ie (k+1) (sl::ρ)=ie k ρ:=rfl
theorem pG {β:Type} {g:List PyData->Tr β}:∀ (k:Nat) (σ:D5),(match σ[k]? with | some (Sl.own xs)=>g xs | _=>Tr.fail)=(ie k σ).bind g
 | 0,[]=>rfl
 | 0,s::r=>by cases s <;> rfl
 | k+1,[]=>rfl
 | k+1,s::r=>pG k r
noncomputable def vO (k:Nat) (ρ:D5) (xs:DY) (x:PyData):Tr Ou:=if small (xs.length+1)=true then .ret (.next (ρ.set k (.own (xs++[x])))) else .fail
noncomputable def ZfL (k:Nat) (i:DP) (ρ:D5) (xs:DY):Tr Ou:=(i ρ).bind (vO k ρ xs)
theorem uX:lU k i ρ=(ie k ρ).bind (ZfL k i ρ):=pG k ρ
theorem uW:ZfL k i ρ xs=(i ρ).bind (vO k ρ xs):=rfl
theorem ly (h:small (xs.length+1)=true):vO k ρ xs x=.ret (.next (ρ.set k (.own (xs++[x])))):=by unfold vO; rw [if_pos h]
noncomputable def ZbQ (k:Nat) (ρ:D5) (xs:DY):Tr Ou:=.ret (.next (ρ.set k (.own xs.reverse)))
theorem si:vU k ρ=(ie k ρ).bind (ZbQ k ρ):=pG k ρ
theorem r8:ZbQ k ρ xs=.ret (.next (ρ.set k (.own xs.reverse))):=rfl
theorem uh:lQ k s ρ=s (fz k ρ):=rfl
theorem qK:fz 0 (.own xs::ρ)=.d (.list xs)::ρ:=rfl
theorem qL:fz 0 (.d x::ρ)=.d x::ρ:=rfl
theorem qJ:fz 0 (.pen::ρ)=.pen::ρ:=rfl
theorem qI:fz 0 (.un::ρ)=.un::ρ:=rfl
theorem qM:fz (k+1) (sl::ρ)=sl::fz k ρ:=by
 unfold fz
 rw [A7]
 cases h:ρ[k]? with
 | none=>rfl
 | some s=>cases s <;> rfl
noncomputable def yc (ρ:D5):Tr Ou:=.ret (.next ρ)
noncomputable def ZfB (g:DV) (ρ:D5) (x:PyData):Tr Ou:=(Tr.of (g x ρ)).bind yc
theorem uV {g:DV}:gF g i ρ=(i ρ).bind (ZfB g ρ):=rfl
theorem uU {g:DV}:ZfB g ρ x=(Tr.of (g x ρ)).bind yc:=rfl
theorem sQ:yc ρ=.ret (.next ρ):=rfl
theorem qE:ao k x ρ=some (ρ.set k (.d x)):=rfl
theorem qC {gs:DU}:bD gs (.tuple xs) ρ=gs xs ρ:=rfl
theorem qF:bo [] ρ=some ρ:=rfl
theorem qH {g:DV} {gs:DU}:aJ g gs (x::xs) ρ=(g x ρ).bind (gs xs):=rfl
theorem qD {α β:Type} {a:α} {g:α->Option β}:(some a).bind g=g a:=rfl
noncomputable def ZcR (k n:Nat) (ρ:D5):List PyData->Tr Ou
 | [x,y]=>.ret (.next ((ρ.set k (.d x)).set n (.d y)))
 | _=>.fail
theorem sH:kc k n is ρ=(is ρ).bind (ZcR k n ρ):=by
 unfold kc
 refine congrArg (Tr.bind (is ρ)) (funext λxs=>?_)
 match xs with
 | []=>rfl
 | [_]=>rfl
 | [_,_]=>rfl
 | _::_::_::_=>rfl
theorem sG:ZcR k n ρ [x,y]=.ret (.next ((ρ.set k (.d x)).set n (.d y))):=rfl
noncomputable def dF (x:PyData):Tr DY:=Tr.of (gz x)
theorem tQ:cz i ρ=(i ρ).bind dF:=rfl
theorem tP:dF (.list xs)=.ret xs:=rfl
theorem tO:dF (.tuple xs)=.ret xs:=rfl
noncomputable def eK (xs:DY):Tr DY:=Tr.of (kD xs)
noncomputable def xC (xs:DY):Tr DY:=Tr.of (mn xs)
theorem rY:gm is ρ=(is ρ).bind eK:=rfl
theorem rX:nR is ρ=(is ρ).bind xC:=rfl
theorem fc {n:Int} (h1:-1000000000000<=n) (h2:n<=1000000000000):gi n=true:=decide_eq_true (by omega)
theorem gB {n:Int} (h:gi n=true):eK [.int n]=.ret (bi 0 n):=by
 simp [eK,kD,h]
theorem Zel {m n:Int} (h1:gi m=true) (h2:gi n=true):xC [.int m,.int n]=.ret (bi m n):=by
 simp [xC,mn,h1,h2]
noncomputable def wt (xs:DY) (ys:DY):Tr DY:=.ret (f9 xs ys)
noncomputable def wu (y:PyData) (xs:DY):Tr DY:=(dF y).bind (wt xs)
noncomputable def wv (x y:PyData):Tr DY:=(dF x).bind (wu y)
noncomputable def Zac (j:DP) (ρ:D5) (x:PyData):Tr DY:=(j ρ).bind (wv x)
theorem qT:iJ i j ρ=(i ρ).bind (Zac j ρ):=rfl
theorem qS:Zac j ρ x=(j ρ).bind (wv x):=rfl
theorem qR:wv x y=(dF x).bind (wu y):=rfl
theorem qQ:wu y xs=(dF y).bind (wt xs):=rfl
theorem qP:wt xs ys=.ret (f9 xs ys):=rfl
noncomputable def yY (xs:DY):Tr DY:=.ret (fF xs)
noncomputable def Zeq (x:PyData):Tr DY:=(dF x).bind yY
theorem uy:lR i ρ=(i ρ).bind Zeq:=rfl
theorem uA:Zeq x=(dF x).bind yY:=rfl
theorem uz:yY xs=.ret (fF xs):=rfl
noncomputable def Zee (g:DV) (s:DS) (ρ:D5) (xs:DY):Tr Ou:=ck g s xs ρ
theorem uq {g:DV}:dR is g s ρ=(is ρ).bind (Zee g s ρ):=rfl
theorem uo {g:DV}:Zee g s ρ xs=ck g s xs ρ:=rfl
noncomputable def lv (g:DV) (s:DS) (xs:DY):Ou->Tr Ou
 | .next ρ=>ck g s xs ρ
 | .cont ρ=>ck g s xs ρ
 | .brk ρ=>.ret (.next ρ)
 | .ret r=>.ret (.ret r)
noncomputable def iB (g:DV) (s:DS) (xs:DY) (ρ:D5):Tr Ou:=(s ρ).bind (lv g s xs)
theorem qN {g:DV}:ck g s [] ρ=.ret (.next ρ):=rfl
theorem lu {g:DV}:ck g s (x::xs) ρ=(Tr.of (g x ρ)).bind (iB g s xs):=by
 rw [ck]
 refine congrArg (Tr.bind (Tr.of (g x ρ))) (funext λρ1=>?_)
 unfold iB
 refine congrArg (Tr.bind (s ρ1)) (funext λo=>?_)
 cases o <;> rfl
theorem um {g:DV}:iB g s xs ρ=(s ρ).bind (lv g s xs):=rfl
theorem gX {g:DV}:lv g s xs (.next ρ)=ck g s xs ρ:=rfl
theorem uj {g:DV}:lv g s xs (.cont ρ)=ck g s xs ρ:=rfl
theorem uk {g:DV}:lv g s xs (.brk ρ)=.ret (.next ρ):=rfl
theorem ui {g:DV} (r:Re):lv g s xs (.ret r)=.ret (.ret r):=rfl
noncomputable def dD (g:DV) (el:DP) (τ:D5) (x:PyData):Tr PyData:=(Tr.of (g x τ)).bind el
noncomputable def yr (n:Nat) (ix:List Nat) (g:DV) (el:DP) (ρ:D5) (xs:DY):Tr DY:=if small xs.length=true then bJ (dD g el (blk n ix ρ)) xs else .fail
theorem tM {ix:List Nat} {g:DV}:dA is n ix g i ρ=(is ρ).bind (yr n ix g i ρ):=rfl
theorem tL {ix:List Nat} {g:DV} (h:small xs.length=true):yr n ix g i ρ xs=bJ (dD g i (blk n ix ρ)) xs:=by unfold yr; rw [if_pos h]
theorem tK {τ:D5} {g:DV}:dD g i τ x=(Tr.of (g x τ)).bind i:=rfl
theorem Zdd {h:PyData->Tr PyData} {n:Nat} {P:PyData->Prop}:∀ {xs:DY},(∀ x∈xs,(h x).all n P)->(bJ h xs).all (xs.length * n) λys=>ys.length=xs.length/\∀ y∈ys,P y
 | [],_=>⟨rfl,λy hy=>by cases hy⟩
 | x::xs,hx=>by
  have e:(x::xs).length * n=n+(xs.length * n+0):=by rw [Au,Cp]; omega
  rw [e,bJ]
  refine Tr.all_bind (hx x (by simp)) λy hy=>Tr.all_bind (Zdd λz hz=>hx z (Az _ hz)) λys hys=>?_
  exact ⟨by simp [hys.1],λz hz=>by
   rcases AO.mp hz with rfl | hz
   ·exact hy
   ·exact hys.2 z hz⟩
theorem Zed {g:DV} {n:Nat} (I:List PyData->List Sl->Prop) {Q:Ou->Prop} :
  ∀ {xs pre:DY} {ρ:D5},I pre ρ->(∀ pre x post ρ,pre++x::post=pre++x::post->I pre ρ->x∈xs->∃ ρ1,g x ρ=some ρ1/\(s ρ1).all n λo=>∃ ρ2,o=.next ρ2/\I (pre++[x]) ρ2)->(∀ ρ,I (pre++xs) ρ->Q (.next ρ))->(ck g s xs ρ).all (xs.length * n) Q
 | [],pre,ρ,h0,_,hq=>hq ρ (by rw [A4]; exact h0)
 | x::xs,pre,ρ,h0,ht,hq=>by
  obtain ⟨ρ1,e,ha⟩:=ht pre x xs ρ rfl h0 (by simp)
  have en:(x::xs).length * n=n+xs.length * n:=by rw [Au,Cp]; omega
  rw [en,lu,e,Tr.of_some,Tr.ret_bind]
  unfold iB
  refine Tr.all_bind ha λo ⟨ρ2,eo,h2⟩=>?_
  subst eo
  rw [gX]
  exact Zed I h2 (λpre y post ρ e h hy=>ht pre y post ρ e h (Az _ hy)) (λρ h=>hq ρ (by rw [Bh] at h; exact h))
theorem Zly {α:Type} {w:Int} {k:Int->Tr α} {n:Nat} {P:α->Prop} (h1:0 < w) (h2:w < 1073741824) (h:∀ r,0<=r->r < w->(k r).all n P):(Tr.draw w k).all (n+1) P:=⟨h1,h2,h⟩
noncomputable def yk (y:PyData) (ys:DY):Tr DY:=.ret (y::ys)
noncomputable def mt1 (h:PyData->Tr PyData) (xs:DY) (y:PyData):Tr DY:=(bJ h xs).bind (yk y)
theorem pQ {h:PyData->Tr PyData}:bJ h []=.ret []:=rfl
theorem pR {h:PyData->Tr PyData} {x:PyData} {xs:DY}:bJ h (x::xs)=(h x).bind (mt1 h xs):=rfl
theorem pV {h:PyData->Tr PyData} {y:PyData} {xs:DY}:mt1 h xs y=(bJ h xs).bind (yk y):=rfl
theorem pU {y:PyData} {ys:DY}:yk y ys=.ret (y::ys):=rfl
theorem pick {α:Type} {xs:List α} {r:Int} (h0:0<=r) (h1:r < xs.length):∃ v,bG xs r=some v/\v∈xs:=by
 have h:r.toNat < xs.length:=by omega
 exact ⟨xs[r.toNat],fW h0 (by simp [h]),AX h⟩
theorem ZjR {α:Type} {xs:List α} (h:xs.length=7):∃ a b c d e f g,xs=[a,b,c,d,e,f,g]:=by
 rcases xs with _ | ⟨a,_ | ⟨b,_ | ⟨c,_ | ⟨d,_ | ⟨e,_ | ⟨f,_ | ⟨g,_ | ⟨k,xs⟩⟩⟩⟩⟩⟩⟩⟩
 ·cases h
 ·cases h
 ·cases h
 ·cases h
 ·cases h
 ·cases h
 ·cases h
 ·exact ⟨a,b,c,d,e,f,g,rfl⟩
 ·exact absurd h (by simp)
end L2
namespace L2
@[irreducible] noncomputable def Al {α:Type} (t:Tr α) (n:Nat) (P:α->Prop):Prop:=t.all n P
section
variable {α β:Type} {t:Tr α} {n n' N:Nat} {P:α->Prop} {P':β->Prop}
theorem Al.of (h:t.all n P):Al t n P:=by unfold Al; exact h
theorem Al.out (h:Al t n P):t.all n P:=by unfold Al at h; exact h
theorem b9 {a:α} (h:P a):Al (.ret a) n P:=.of h
theorem cM {w:Int} {k:Int->Tr α} (h1:0 < w) (h2:w < 1073741824) (hN:n+1<=N) (h:∀ r,0<=r->r < w->Al (k r) n P):Al (.draw w k) N P:=.of (Tr.all_mono (Zly h1 h2 λr a b=>(h r a b).out) hN λ_ h=>h)
theorem eA {f:α->Tr β} (h:Al t n P) (hN:n+n'<=N) (hf:∀ a,P a->Al (f a) n' P'):Al (t.bind f) N P':=.of (Tr.all_mono (Tr.all_bind h.out λa ha=>(hf a ha).out) hN λ_ h=>h)
theorem lK {Q:α->Prop} (h:Al t n P) (hN:n<=N) (hq:∀ a,P a->Q a):Al t N Q:=.of (Tr.all_mono h.out hN hq)
theorem ZfS {g:DV} {s:DS} {xs:DY} {ρ:D5} {Q:Ou->Prop} (I:List Sl->Prop) (h0:I ρ) (hN:xs.length * n<=N) (ht:∀ x ρ,x∈xs->I ρ->∃ ρ1,g x ρ=some ρ1/\Al (s ρ1) n λo=>∃ ρ2,o=.next ρ2/\I ρ2) (hq:∀ ρ,I ρ->Q (.next ρ)):Al (ck g s xs ρ) N Q :=
 .of (Tr.all_mono (Zed (λ_ ρ=>I ρ) (pre:=[]) h0 (λpre x post ρ _ h hx=>let ⟨ρ1,e,a⟩:=ht x ρ hx h; ⟨ρ1,e,a.out⟩) λρ h=>hq ρ h) hN λ_ h=>h)
theorem zU {h:PyData->Tr PyData} {P:PyData->Prop} {xs:DY} {Q:List PyData->Prop} (hN:xs.length * n<=N) (hx:∀ x∈xs,Al (h x) n P) (hq:∀ ys,ys.length=xs.length->(∀ y∈ys,P y)->Q ys):Al (bJ h xs) N Q :=
 .of (Tr.all_mono (Zdd λx m=>(hx x m).out) hN λys ⟨a,b⟩=>hq ys a b)
end
def gh (lo hi:Int) (x:PyData):Prop:=∃ z:Int,x=.int z/\lo<=z/\z<=hi
theorem di {lo hi:Int}:(bi lo hi).length=(hi - lo).toNat:=by unfold bi; rw [At,fO]
theorem x0 {xs:DY} {lo hi r:Int} (h:∀ x∈xs,gh lo hi x) (h0:0<=r) (h1:r < xs.length):∃ z:Int,bG xs r=some (.int z)/\lo<=z/\z<=hi:=by
 obtain ⟨v,e,m⟩:=pick h0 h1
 obtain ⟨z,rfl,a,b⟩:=h v m
 exact ⟨z,e,a,b⟩
end L2
namespace L2
variable {PK:Pk} {X:Cx} {a b c e:Expr} {es:List Expr} {pos:Pos} {i j l:DP} {is:DQ} {p q:DR} {st:Stmt}
noncomputable def gA:PyData->Bool
 | .none=>true
 | .bool _=>true
 | .int _=>true
 | .str _=>true
 | _=>false
variable {PK:Pk} {X:Cx} {a b c e:Expr} {es:List Expr} {pos:Pos} {i j l:DP} {as:List Sl->Tr D5}
structure PkLow (PK:Pk):Prop where
 low:∀ {o o':HO} {G G':Hp} {m m':Nat},PK.is o G m->Sub G G'->PK.is o' G' m'->PK.is o' G m'
theorem Dn.flat_any {G G':Hp} {v:V} {x:PyData} (h:Dn G v x) (f:gA x=true):Dn G' v x:=by
 cases h with
 | non=>exact .non
 | bl b=>exact .bl b
 | int i=>exact .int i
 | str s=>exact .str s
 | _=>cases f
variable {ρ:D5} {k:Nat} {xs:DY} {x:PyData} {sl:Sl} {f:DT}
theorem ZmF {prog:Program} {w:World} {A:Around} {R:Result->Shared->Prop} {s:Shared} {elt target iter cnd:Expr} {scope:Scope} {pos:Pos} {it acc:Value} {env:Env} (J:Nat->Shared->Prop)
  (step:∀ k s0,J k s0->wpAny (model prog w) A (pyNext it) (λgot s1=>match got with
   | none=>R (.ok .next) s1
   | some v=>wpAny (model prog w) A (letOwnedTupleGo target it v) (λ_ s2=>wpAny (model prog w) A (assign target env v) (λ_ s3=>wpAny (model prog w) A (isTrue cnd env (eval cnd env)) (λok s3'=>if ok=true then wpAny (model prog w) A (eval elt env) (λy s4 =>
     wpAny (model prog w) A (call (.builtin "list.append") [acc,y]) (λ_ s5=>∃ j,j < k/\J j s5) (λ_ _=>False) s4) (λ_ _=>False) s3' else ∃ j,j < k/\J j s3') (λ_ _=>False) s3) (λ_ _=>False) s2) (λ_ _=>False) s1) (λ_ _=>False) s0)
  (k:Nat) (h:J k s):codeAny (model prog w) A (.compLoop (.ListComp elt [⟨target,iter,[cnd],0⟩] scope pos) 0 it acc env) R s:=by
 refine codeAny_loop rfl J (λk0 s0 hJ=>?_) k h
 show wpAny _ _ ((compTurn (.ListComp elt [⟨target,iter,[cnd],0⟩] scope pos) 0 it acc env).onRaise (λx=>do noteFrame x env; theTreesLotGoes x)) _ _ s0
 apply wpAny_noted
 rw [compTurn_list]
 refine wpAny_bind (wpAny_standAt (wpAny_bind (wpAny_mono (step k0 s0 hJ) (λgot s1 h1=>?_) λ_ _ z=>z.elim)))
 cases got with
 | none=>exact wpAny_pure h1
 | some v =>
  refine wpAny_bind (wpAny_mono h1 (λ_ s2 h2=>?_) λ_ _ z=>z.elim)
  refine wpAny_bind (wpAny_mono h2 (λ_ s3 h3=>?_) λ_ _ z=>z.elim)
  refine wpAny_bind (wpAny_mono (wpAny_tests_one h3) (λok s3' h3'=>?_) λ_ _ z=>z.elim)
  cases ok with
  | false=>exact wpAny_pure ⟨rfl,h3'⟩
  | true =>
   refine wpAny_bind (wpAny_bind (wpAny_mono h3' (λy s4 h4=>?_) λ_ _ z=>z.elim))
   exact wpAny_bind (wpAny_mono h4 (λ_ s5 h5=>wpAny_pure (wpAny_pure ⟨rfl,h5⟩)) λ_ _ z=>z.elim)
def l6 (wi:TI) (n:Nat) (ix:List Nat) (g:Blk->TG) (tc:Blk->TT) (te:Blk->TE):TE:=λσ H Q=>wi σ H λJ H1=>∀ b:Blk,∃ W:Nat->Nat->St->List V->Hp->Prop,(∃ m,W 0 m (dc n ix σ) [] H1)/\∀ i m τ ys H2,W i m τ ys H2 ->
 (J.stop i H2/\∀ p v H',H2 p=none->v=V.ref p->H'=upd H2 p (.lst ys)->Q v H') \/
 (J.go i H2/\ys.length < sizeLine/\∀ x H3,J.yld i H2 x H3->g b x τ H3 λτ2 H4=>tc b τ2 H4 λok H4'=>if ok=true then te b τ2 H4' λy H5=>∃ m',m' < m/\W (i+1) m' τ2 (ys++[y]) H5 else ∃ m',m' < m/\W (i+1) m' τ2 ys H4')
section
variable {X:Cx} {pins:List (Addr×Obj)} {σ:St} {H:Hp} {s:Shared}
theorem Zdu {elt target iter cnd:Expr} {scope:Scope} {pos:Pos} {Nx ts:D2} {ix:List Nat} {g:Blk->TG} {tc:Blk->TT} {te:Blk->TE} {cl:List (Str×Addr)} {s2:Shared} {itv:Value} {R:Value->Addr->Result->Shared->Prop}
  {E:DX} {Q:VK}
  (hc:X.calm=true) (hg:∀ b,PG (aW X (bN Nx ts ix) scope b) target (g b)) (hcn:∀ b,PT (aW X (bN Nx ts ix) scope b) cnd (tc b)) (he:∀ b,PE (aW X (bN Nx ts ix) scope b) elt (te b))
  (hNx:X.N=Nx) (ok:BlkOk Nx X.env.scope scope ix) (cl1:∀ x c,cl.lookup x=some c->X.env.cells.lookup x=some c) (cl2:∀ y∈scope.names,y.2=.free->∃ c,cl.lookup y.1=some c)
  (h2:lV X pins σ target (λJ H1=>∀ b:Blk,∃ W:Nat->Nat->St->List V->Hp->Prop,(∃ m,W 0 m (dc ts.length ix σ) [] H1)/\∀ i m τ ys H2,W i m τ ys H2 ->
   (J.stop i H2/\∀ p v H',H2 p=none->v=V.ref p->H'=upd H2 p (.lst ys)->Q v H') \/
   (J.go i H2/\ys.length < sizeLine/\∀ x H3,J.yld i H2 x H3->g b x τ H3 λτ2 H4=>tc b τ2 H4 λok H4'=>if ok=true then te b τ2 H4' λy H5=>∃ m',m' < m/\W (i+1) m' τ2 (ys++[y]) H5 else ∃ m',m' < m/\W (i+1) m' τ2 ys H4')) itv s2)
  (hR:∀ (D C:Addr) (H':Hp) (s':Shared) (v:V),Inv X pins σ H' s'->v=.ref D->Q v H'->(∃ m,s'.heap.Ns C m)->H' C=none->C≠X.env.locals->X.s₀.heap.objs.size<=C->(∀ x c,X.env.cells.lookup x=some c->c≠C)->(∀ p∈X.pn++pins,p.1≠C) ->
   R (.ref D) C (.ok .next) s') :
  wpAny (model X.prog X.w) X.A (newList []) (λacc s₃=>wpAny (model X.prog X.w) X.A (newFunctionEnv scope X.env.globals cl [] X.env.qual none .none (some X.env)) (λcenv s₄ =>
   codeAny (model X.prog X.w) X.A (.compStart (.ListComp elt [⟨target,iter,[cnd],0⟩] scope pos) 0 itv acc { cenv with scope:=relabel scope X.env }) (R acc cenv.locals) s₄) E s₃) E s2:=by
 obtain ⟨it,fp,tn,J,H1,e,I2,T,st2,f2,q2⟩:=h2
 subst e
 refine wpAny_newObj_type (oa ?_)
 dsimp only
 generalize hG:s2.heap.push { cls:=.type "list",dict:=none,data:=.seq ([]:D1).toArray }=G
 have hGs:G.objs.size=s2.heap.objs.size+1:=by rw [<- hG,Bk]
 have hfs:∀ b∈fp,b < s2.heap.objs.size:=λb hb=>let ⟨o,e,_⟩:=T.obj _ _ st2 b hb; AK e
 have kpG:∀ b o,G.get? b=some o->(pushCells (G.push { cls:=.type "dict",data:=.dict #[] }) scope.names).get? b=some o:=λb o e=>pushCells_keeps _ _ _ _ (v9 _ e)
 have hns3:(pushCells (G.push { cls:=.type "dict",data:=.dict #[] }) scope.names).Ns G.objs.size (λ_=>none):=(Heap.Ns.new G (.type "dict")).keeps (pushCells_keeps _ _)
 obtain ⟨sp1,sp2,sp4,sp3⟩:=vF scope.names (G.push { cls:=.type "dict",data:=.dict #[] }) cl
 rw [Bk] at sp1 sp2 sp3 sp4
 generalize hh3:pushCells (G.push { cls:=.type "dict",data:=.dict #[] }) scope.names=h3 at kpG hns3 sp1 ⊢
 have kp:∀ b o,s2.heap.get? b=some o->h3.get? b=some o:=λb o e=>kpG b o (by rw [<- hG]; exact v9 _ e)
 have hD3:h3.get? s2.heap.objs.size=some { cls:=.type "list",data:=.seq ([]:D1).toArray }:=kpG _ _ (by rw [<- hG]; exact AC _ rfl)
 have clB:∀ x c,cl.lookup x=some c->c < G.objs.size+1:=λx c e=>by
  obtain ⟨v,q⟩:=I2.cell x c (cl1 x c e)
  exact B3 (AD q.lt (by rw [hGs]; exact C9 _))
 have csI:=sp3 clB λx y c e1 e2=>I2.ok.inj x y c (cl1 x c e1) (cl1 y c e2)
 have cs1:∀ x c,(cellsFrom (G.objs.size+1) scope.names cl).lookup x=some c->X.env.cells.lookup x=some c\/(G.objs.size < c/\h3.IsCell c none/\(x,NameKind.cell)∈scope.names):=λx c e=>by
  rcases sp1 x c e with z | ⟨z1,z2,z3⟩
  ·exact .inl (cl1 x c z)
  ·exact .inr ⟨by omega,z2,z3⟩
 have cs2:∀ y∈scope.names,(y.2=.free\/y.2=.cell)->∃ c,(cellsFrom (G.objs.size+1) scope.names cl).lookup y.1=some c:=λy hy hk=>by
  refine sp2 y.1 ?_
  rcases hk with z | z
  ·exact .inr (cl2 y hy z)
  ·exact .inl (by rw [<- z]; exact hy)
 have csA:∀ x c,(x,NameKind.cell)∈scope.names->(cellsFrom (G.objs.size+1) scope.names cl).lookup x=some c->G.objs.size<=c:=λx c e1 e2=>Ch (sp4 x c e1 e2)
 generalize hcs:cellsFrom (G.objs.size+1) scope.names cl=cs at csI cs1 cs2 csA ⊢
 generalize hCe:G.objs.size=C at hns3 cs1 csA ⊢
 have hC:s2.heap.objs.size<=C:=by omega
 have hDC:s2.heap.objs.size≠C:=by omega
 let B:Blk:=⟨cs,C,s2,H1,fp,X.pn++pins⟩
 have I3:Inv (aW X (bN Nx ts ix) scope B) [] (dc ts.length ix σ) H1 { s2 with heap:=h3 }:=qw I2 hNx ok cs1 csI cs2 csA f2 hfs hC kp hns3
 have fC:H1 s2.heap.objs.size=none:=I2.hok.fresh (Aw _)
 have cellIn:∀ x c,cs.lookup x=some c->c≠s2.heap.objs.size:=λx c e=>by
  rcases cs1 x c e with z | ⟨z,_,_⟩
  ·obtain ⟨v,q⟩:=I2.cell x c z
   exact AR q.lt
  ·exact A6 (By hC z)
 have pinIn:∀ p∈X.pn++pins,p.1 < s2.heap.objs.size:=λp hp=>AK (I2.pin p hp).1
 have nofrs:s2.heap.objs.size ∉ frs X.stack:=λhb=>by
  rcases AO.mp (I2.stkSub _ hb) with z | z
  ·exact absurd I2.lt (by rw [<- z]; exact AY _)
  ·exact I2.nofs (Aw _) z
 -- a state with the list at its place,pinned
 have pinD:∀ {τ:St} {H':Hp} {s':Shared} {ob:Obj},Inv (aW X (bN Nx ts ix) scope B) [] τ H' s'->s'.heap.get? s2.heap.objs.size=some ob->H' s2.heap.objs.size=none->(∀ v,ob.data≠.cell v)->Inv (aW X (bN Nx ts ix) scope B) [(s2.heap.objs.size,ob)] τ H' s' :=
  λ{τ H' s' ob} I' ho hn hd=>I'.pins_of λp hp=>by
   have e:p=(s2.heap.objs.size,ob):=by simpa using hp
   subst e
   exact ⟨ho,hn,hDC,nofrs,hd⟩
 obtain ⟨W,⟨m0,w0⟩,turn⟩:=q2 B
 have stat:∀ {H':Hp} {ob:Obj},(∀ b∈fp,H' b=none)->∀ b∈fp,fL (aW X (bN Nx ts ix) scope B) [(s2.heap.objs.size,ob)] H' b:=λ{H' ob} hn b hb=>by
  refine ⟨hn b hb,AR (AD (hfs b hb) hC),λz=>?_,.inl hb,λx c e=>by
   rcases cs1 x c e with z | ⟨z,_,_⟩
   ·exact (f2 b hb).2.2.2.2.1 x c z
   ·exact A6 (AD (hfs b hb) (AL hC (B6 z))),λp hp=>?_⟩
  ·rcases AO.mp (I2.stkSub _ z) with q | q
   ·exact (f2 b hb).2.1 q
   ·exact (f2 b hb).2.2.1 q
  ·rcases Bi.mp hp with z | z
   ·exact (f2 b hb).2.2.2.2.2 p z
   ·have e:p=(s2.heap.objs.size,ob):=by simpa using z
    subst e
    exact A6 (hfs b hb)
 have loop:∀ s4:Shared,s4={ s2 with heap:=h3 } ->
   codeAny (model X.prog X.w) X.A (.compLoop (.ListComp elt [⟨target,iter,[cnd],0⟩] scope pos) 0 (.ref it) (.ref s2.heap.objs.size) (compEnvC scope cs C X.env)) (R (.ref s2.heap.objs.size) C) s4:=by
  rintro s4 rfl
  refine ZmF (λk s'=>∃ i τ ys its n H',Inv (aW X (bN Nx ts ix) scope B) [(s2.heap.objs.size,({ cls:=.type "list",data:=.seq (List.toArray its) n }:Obj))] τ H' s'/\tn i s'.heap/\(∀ b∈fp,H' b=none)/\Vals ys its/\ys.length<=sizeLine/\W i k τ ys H') ?_ m0
   ⟨0,_,[],[],_,H1,pinD I3 hD3 fC (λv z=>by cases z),T.keep _ _ _ st2 λb hb o e=>kp b o e,λb hb=>(f2 b hb).1,.nil,Bg _,w0⟩
  rintro k s5 ⟨i,τ,ys,its,n,H5,I5,st5,fr5,rv,hz,w5⟩
  rcases turn i k τ ys H5 w5 with ⟨stop,qn⟩ | ⟨go,hlt,step⟩
  ·refine thn (T.done (aW X (bN Nx ts ix) scope B) rfl rfl rfl hc i _ s5 τ H5 _ I5 (stat fr5) st5 stop) λgot s6 hz0=>?_
   obtain ⟨hr,I6⟩:=hz0
   subst hr
   obtain ⟨ho,hn,_,_,_⟩:=I6.pin (s2.heap.objs.size,({ cls:=.type "list",data:=.seq (List.toArray its) n }:Obj)) (AA _ (by simp))
   have I7:Inv X pins σ H5 s6:=I2.call' (ch:=fp) (H':=H5) (by exact I6.os) I6.base I6.hok I6.bare λb hb=>⟨(f2 b hb).2.2.2.1,(f2 b hb).2.1,(f2 b hb).2.2.2.2.1,(f2 b hb).2.2.2.2.2⟩
   have hs0:X.s₀.heap.objs.size<=s2.heap.objs.size:=I2.sz
   have I8:=I7.track hn ho rv hz (A6 I2.lt) hs0 (λx c e z=>by
    obtain ⟨v,q⟩:=I2.cell x c e
    exact absurd q.lt (by rw [z]; exact AY _)) (λp hp=>AR (pinIn p hp))
   obtain ⟨m6,hm6,_⟩:=I6.loc
   refine hR _ C _ s6 _ I8 rfl (qn _ _ _ hn rfl rfl) ⟨m6,hm6⟩ ?_ (λz=>?_) (AL hs0 hC) (λx c e z=>?_) λp hp=>AR (AD (pinIn p hp) hC)
   ·rw [aM (Ne.symm hDC)]
    exact I6.free
   ·exact absurd (AD I2.lt hC) (by rw [z]; exact AY _)
   ·obtain ⟨v,q⟩:=I2.cell x c e
    exact absurd (AD q.lt hC) (by rw [z]; exact AY _)
  ·refine thn (T.item (aW X (bN Nx ts ix) scope B) rfl rfl rfl hc i _ s5 τ H5 _ I5 (stat fr5) st5 go) λgot s6 hz0=>?_
   obtain ⟨u,hr,h6⟩:=hz0
   subst hr
   refine thn h6 λ_ s7 hz0=>?_
   obtain ⟨x,H7,I7,r7,y7,st7,fr7⟩:=hz0
   have I7':=I7.pinned (stat fr7) (T.obj _ _ st7)
   refine thn (hg B _ s7 τ H7 x u _ I7' r7 (step x H7 y7)) λ_ s8 hz0=>?_
   obtain ⟨τ8,H8,I8,q8⟩:=hz0
   refine thn (hcn B _ s8 τ8 H8 _ I8 q8) λokk s8' hz0=>?_
   obtain ⟨H8',I8',q8'⟩:=hz0
   cases okk with
   | false =>
    obtain ⟨m',hm',w9⟩:=q8'
    obtain ⟨ho,hn,_,_,_⟩:=I8'.pin (s2.heap.objs.size,({ cls:=.type "list",data:=.seq (List.toArray its) n }:Obj)) (AA _ (Bf _ (by simp)))
    have I9':Inv (aW X (bN Nx ts ix) scope B) [] τ8 H8' s8':=I8'.pins_of λp hp=>absurd hp (by simp)
    refine ⟨m',hm',i+1,τ8,ys,its,n,H8',pinD I9' ho hn (λv z=>by cases z),?_,λb hb=>?_,rv,hz,w9⟩
    ·refine T.keep _ _ _ st7 λb hb o e=>?_
     exact (I8'.pin (b,o) (AA _ (AA _ (fy hb e)))).1
    ·obtain ⟨o,e,d⟩:=T.obj _ _ st7 b hb
     exact (I8'.pin (b,o) (AA _ (AA _ (fy hb e)))).2.1
   | true =>
   refine thn (he B _ s8' τ8 H8' _ I8' q8') λy s9 hz0=>?_
   obtain ⟨vy,H9,I9,r9,m',hm',w9⟩:=hz0
   obtain ⟨ho,hn,_,_,_⟩:=I9.pin (s2.heap.objs.size,({ cls:=.type "list",data:=.seq (List.toArray its) n }:Obj)) (AA _ (Bf _ (by simp)))
   have lenv:=rv.length
   refine wpAny_list_append_plain (l:=s2.heap.objs.size) ⟨n,ho⟩ (λh' hpl hsb=>?_) (by rw [AG]; omega)
   obtain ⟨n',ho'⟩:=hpl
   have eobj:(its.toArray.push y)=List.toArray (its++[y]):=by simp
   rw [eobj] at ho'
   have I9':Inv (aW X (bN Nx ts ix) scope B) [] τ8 H9 s9:=I9.pins_of λp hp=>absurd hp (by simp)
   have I10:Inv (aW X (bN Nx ts ix) scope B) [] τ8 H9 { s9 with heap:=h' }:=I9'.turned (it:=s2.heap.objs.size) (t':=s9.toks) (λb o hb e=>(hsb.2 b hb).trans e) hn hDC (.inr (Aw _)) cellIn (λp hp=>by
    have hp':p∈(X.pn++pins)++[]:=hp
    rw [A4] at hp'
    exact AR (pinIn p hp'))
   refine ⟨m',hm',i+1,τ8,ys++[vy],its++[y],n',H9,pinD I10 ho' hn (λv z=>by cases z),?_,λb hb=>?_,rv.append (.cons r9 .nil),by rw [Av]; show ys.length+1<=_; omega,w9⟩
   ·refine T.keep _ _ _ st7 λb hb o e=>?_
    have q:=(I9.pin (b,o) (AA _ (AA _ (fy hb e)))).1
    exact (hsb.2 b (AR (hfs b hb))).trans q
   ·obtain ⟨o,e,d⟩:=T.obj _ _ st7 b hb
    exact (I9.pin (b,o) (AA _ (AA _ (fy hb e)))).2.1
 exact codeAny_compStart_list (loop _ rfl) (T.self X.A 0 _ _ _ (T.keep _ _ _ st2 λb hb o e=>kp b o e) (loop _ rfl))
theorem ZcM {elt target iter cnd:Expr} {scope:Scope} {pos:Pos} {wi:TI} {g:Blk->TG} {tc:Blk->TT} {te:Blk->TE} (Nx:D2) (ts:D2) (ix:List Nat)
  (hc:X.calm=true) (hi:PI X target iter wi) (hg:∀ b,PG (aW X (bN Nx ts ix) scope b) target (g b)) (hcn:∀ b,PT (aW X (bN Nx ts ix) scope b) cnd (tc b)) (he:∀ b,PE (aW X (bN Nx ts ix) scope b) elt (te b))
  (hNx:X.N=Nx) (ok:BlkOk Nx X.env.scope scope ix) (hs:∀ x,foldedSetIterable iter X.env x=pure x:=by intro _; rfl) :
  PE X (.ListComp elt [⟨target,iter,[cnd],0⟩] scope pos) (l6 wi ts.length ix g tc te):=by
 intro pins s σ H Q I h
 obtain ⟨cl,hcl,cl1,cl2⟩:=j6 (scope:=scope) (env:=X.env) λy hy hf=>I.ok.has y.1 (ok.frees y hy hf)
 rw [eval_ListComp]
 refine wpAny_comprehension_free (use:=none) rfl hs hcl ok.kind ok.locs (thn (hi pins s σ H _ I h) λv s1 h1=>thn h1 λitv s2 h2=>?_)
 refine Zdu (R:=λacc C=>compPost (model X.prog X.w) X.A X.xe none (EP X pins σ Q) acc C) hc hg hcn he hNx ok cl1 cl2 h2 ?_
 rintro D C H' s' v I' rfl q ⟨m,hm⟩ hn hL h0 hcl' hp
 exact ⟨m,hm,λh' hsb=>⟨.ref D,H',I'.turned (it:=C) (t':=s'.toks) (λb o hb e=>(hsb.2 b hb).trans e) hn hL (.inr h0) hcl' hp,rfl,q⟩⟩
theorem ZcA {elt target iter cnd:Expr} {scope:Scope} {pos pos' spos:Pos} {wi:TI} {g:Blk->TG} {tc:Blk->TT} {te:Blk->TE} {i:Nat} {x:Str} (Nx:D2) (ts:D2) (ix:List Nat)
  (hc:X.calm=true) (hN:X.N.Nodup) (hix:X.N[i]?=some x) (hx:X.env.scope.names.lookup x=some .local) (hi:PI X target iter wi) (hg:∀ b,PG (aW X (bN Nx ts ix) scope b) target (g b)) (hcn:∀ b,PT (aW X (bN Nx ts ix) scope b) cnd (tc b)) (he:∀ b,PE (aW X (bN Nx ts ix) scope b) elt (te b))
  (hNx:X.N=Nx) (ok:BlkOk Nx X.env.scope scope ix) (hsw:swapsWith (.ListComp elt [⟨target,iter,[cnd],0⟩] scope pos) (some (.Name x pos')) spos.line X.env=pure true) (hs:∀ x,foldedSetIterable iter X.env x=pure x:=by intro _; rfl) :
  PS X (.Assign [.Name x pos'] (.ListComp elt [⟨target,iter,[cnd],0⟩] scope pos) spos) (dM (l6 wi ts.length ix g tc te) (dZ i)):=by
 intro pins s σ H D0 I h
 obtain ⟨cl,hcl,cl1,cl2⟩:=j6 (scope:=scope) (env:=X.env) λy hy hf=>I.ok.has y.1 (ok.frees y hy hf)
 rw [exec_Assign_Name_used _ _ _ _ hsw]
 refine wpAny_bind (wpAny_standAt (wpAny_bind ?_))
 show wpAny _ X.A (do let _ <- comprehension (.ListComp elt [⟨target,iter,[cnd],0⟩] scope pos) scope X.env _ (newList []) false (eval iter X.env) (some (assign (.Name x pos') X.env))) _ _ s
 refine wpAny_bind (thn (wpAny_comprehension_free (use:=some (assign (.Name x pos') X.env)) (Q:=λ_ s'=>SP X pins D0 .next s') rfl hs hcl ok.kind ok.locs (thn (hi pins s σ H _ I h) λv s1 h1=>thn h1 λitv s2 h2=>?_)) λ_ s' hq=>wpAny_pure (wpAny_pure hq))
 refine Zdu (R:=λacc C=>compPost (model X.prog X.w) X.A X.xe (some (assign (.Name x pos') X.env)) (λ_ s'=>SP X pins D0 .next s') acc C) (Q:=λx H1=>dZ i x σ H1 D0.nx) hc hg hcn he hNx ok cl1 cl2 h2 ?_
 rintro D C H' s' v I' rfl q ⟨m,hm⟩ hn hL h0 hcl' hp
 show wpAny _ X.A (assign (.Name x pos') X.env (.ref D)) _ _ _
 refine wpAny_assign_Name (oz I' hN hix (.inl hx) (show RelV (.ref D) (.ref D) from rfl) (λs'' I'' hch=>?_) (.inr hx))
 obtain ⟨a,hsb,ha⟩:=hch
 have haC:C≠a:=by
  rcases ha with z | z
  ·rw [z]; exact hL
  ·exact λe=>hcl' _ _ z e.symm
 exact ⟨m,hm.sameBut hsb haC,λh'' hs''=>⟨_,H',I''.turned (it:=C) (t':=s''.toks) (λb o hb e=>(hs''.2 b hb).trans e) hn hL (.inr h0) hcl' hp,q⟩⟩
end
section
variable {PK:Pk} {X:Cx} {e:Expr} {st:Stmt} {i:DP} {is:DQ} {p:DR}
noncomputable def mK (y:Option PyData) (ys:DY):Tr DY:=.ret (match y with
 | some y=>y::ys
 | none=>ys)
noncomputable def eM (h:PyData->Tr (Option PyData)):List PyData->Tr DY
 | []=>.ret []
 | x::xs=>(h x).bind λy=>(eM h xs).bind (mK y)
noncomputable def lq (p:DR) (i:DP) (τ:D5):Tr (Option PyData):=(p τ).bind λok=>if ok=true then (i τ).bind λy=>.ret (some y) else .ret none
noncomputable def jv (is:DQ) (n:Nat) (ix:List Nat) (g:DV) (p:DR) (el:DP):DQ:=λρ =>
 (is ρ).bind λxs=>if small xs.length=true then eM (λx=>(Tr.of (g x (blk n ix ρ))).bind (lq p el)) xs else .fail
theorem Zdt {n:Nat} {ix:List Nat} {g:DV} (hn:fg n g):∀ σ H Q,eG PK (jv is n ix g p i) σ H Q->l6 (cX PK is) n ix (λ_=>dB PK g) (λ_=>TAt PK p) (λ_=>TAe PK i) σ H Q:=by
 rintro σ H Q ⟨pa,D6,H₀,m,ρ,G,R,z⟩
 refine ⟨pa,D6,H₀,m,ρ,G,R,Tr.ok_mono (Tr.ok_bind.mp z) λm1 xs k J G1 H1 s1 w1 jo=>λB=>?_⟩
 obtain ⟨hs,k⟩:=gf k
 have hs:xs.length<=sizeLine:=of_decide_eq_true hs
 let el:PyData->Tr (Option PyData):=λx=>(Tr.of (g x (blk n ix ρ))).bind (lq p i)
 let W:Nat->Nat->St->List V->Hp->Prop:=λk mm τ ys H2=>mm=xs.length - k/\k<=xs.length/\ys.length<=k/\∃ m G2 ds,Sub G1 G2/\Stp pa G H G2 H2/\Rl PK pa D6 H₀ m τ (blk n ix ρ) G2 H2 /\
  DnAll G2 ys ds/\(eM el (xs.drop k)).ok m λm' zs=>Ko1 PK pa m' G H (ds++zs) Q
 refine ⟨W,⟨xs.length,rfl,Bg _,Aw _,m1,G1,[],.refl,s1,(R.step s1 w1).blk n ix,.nil,k⟩,?_⟩
 rintro k mm τ ys H2 ⟨rfl,hk,hy,m2,G2,ds,sb,st2,R2,dn,k2⟩
 obtain ⟨j1,j2⟩:=jo m2 G2 H2 sb R2.wd
 by_cases hlt:k < xs.length
 ·have hx:xs[k]?=some xs[k]:=by simp [hlt]
  obtain ⟨jg,jy⟩:=j1 k _ hx
  refine .inr ⟨jg,by omega,λx H3 y=>?_⟩
  obtain ⟨G3,s3,w3,d3⟩:=jy x H3 y
  rw [AZ hlt] at k2
  unfold eM at k2
  rw [Tr.ok_bind,Tr.ok_bind] at k2
  obtain ⟨ρ3,hg3,k3⟩:=Tr.ok_of k2
  refine ⟨pa,D6,H₀,m2,_,G3,_,ρ3,R2.step s3 w3,d3,hg3,λτ4 R4=>?_⟩
  obtain ⟨pl,pk⟩:=hn _ _ _ hg3
  have hback:∀ (q:Nat) (sl:Sl),(blk n ix ρ)[q]?=some sl->sl=.un\/ρ3[q]?=some sl:=λq sl hq=>by
   by_cases hqn:q < n
   ·left
    unfold blk at hq
    rw [AW (by simpa using hqn),Bb,if_pos hqn] at hq
    cases hq
    rfl
   ·right
    rw [pk q (Cb hqn)]
    exact hq
  unfold lq at k3
  rw [Tr.ok_bind] at k3
  refine ⟨pa,D6,H₀,m2,ρ3,G3,R4,Tr.ok_mono k3 λm4 ok k4 G4 H4 s4 w4=>?_⟩
  have R4':=R4.step s4 w4
  have s34:=s3.trans s4 w3.some
  cases ok with
  | false =>
   have k4':((eM el (xs.drop (k+1))).bind (mK none)).ok m4 λm' zs=>Ko1 PK pa m' G H (ds++zs) Q:=k4
   refine ⟨xs.length - (k+1),by omega,rfl,hlt,by omega,m4,G4,ds,sb.trans s34.gs,st2.trans s34 R2.wd.some,R4'.weak pl hback,DnAll.mono s34.gs dn,?_⟩
   exact Tr.ok_mono (Tr.ok_bind.mp k4') λm6 zs k6=>k6
  | true =>
   have k4':((i ρ3).bind λy=>.ret (some y)).ok m4 λm' y=>((eM el (xs.drop (k+1))).bind (mK y)).ok m' λm' zs=>Ko1 PK pa m' G H (ds++zs) Q:=k4
   rw [Tr.ok_bind] at k4'
   refine ⟨pa,D6,H₀,m4,ρ3,G4,R4',Tr.ok_mono k4' λm5 yd k5=>?_⟩
   intro v G5 H5 s5 w5 d5
   have s35:=s34.trans s5 w4.some
   refine ⟨xs.length - (k+1),by omega,rfl,hlt,by rw [Av]; show ys.length+1<=_; omega,m5,G5,ds++[yd],sb.trans s35.gs,st2.trans s35 R2.wd.some,(R4'.step s5 w5).weak pl hback,(DnAll.mono s35.gs dn).snoc d5,?_⟩
   have k5':((eM el (xs.drop (k+1))).bind (mK (some yd))).ok m5 λm' zs=>Ko1 PK pa m' G H (ds++zs) Q:=k5
   refine Tr.ok_mono (Tr.ok_bind.mp k5') λm6 zs k6=>?_
   rw [Bh]
   exact k6
 ·have e:k=xs.length:=by omega
  subst e
  refine .inl ⟨j2,λp v H' hp ev eH=>?_⟩
  subst ev eH
  rw [Br] at k2
  have k2':Ko1 PK pa m2 G H (ds++[]) Q:=k2
  rw [A4] at k2'
  exact (Ko1.later k2' st2 R2.wd.some).new R2.wd dn hp
theorem ZfM {n:Nat} {ix:List Nat} {g:DV} (h:PE X e (l6 (cX PK is) n ix (λ_=>dB PK g) (λ_=>TAt PK p) (λ_=>TAe PK i))) (hn:fg n g):PE X e (eG PK (jv is n ix g p i)):=h.imp (Zdt hn)
end
section
variable {X:Cx}
theorem ZeJ {prog:Program} {w:World} {A:Around} {E:DX} {it t:Addr} {items:Array Value} (hne:t≠it):∀ (n i:Nat) (s:Shared) (Q:List Value->Shared->Prop),s.heap.IsListIter it t i->s.heap.IsList t items->i+n<=items.size ->
  (∀ h',h'.IsListIter it t (i+n)->Heap.SameBut it s.heap h'->Q ((items.toList.drop i).take n) { s with heap:=h' })->wpAny (model prog w) A (draw (.ref it) n) Q E s
 | 0,i,s,Q,hit,_,_,hQ=>by
  show wpAny _ _ (pure []) Q E s
  exact wpAny_pure (by simpa using hQ s.heap hit (Heap.SameBut.refl ..))
 | n+1,i,s,Q,hit,ht,hle,hQ=>by
  have hlt:i < items.size:=by omega
  show wpAny _ _ (pyNext (.ref it) >>= _) Q E s
  refine wpAny_bind (wpAny_pyNext_list_item hit ht (x:=items[i]) (by simp [hlt]) λh₁ hit₁ hs₁=>?_)
  refine wpAny_bind (wpAny_holding (ZeJ hne n (i+1) _ _ hit₁ (ht.extBut hs₁.extBut hne) (by omega) λh₂ hit₂ hs₂=>wpAny_pure ?_))
  have hd:items.toList.drop i=items[i]::items.toList.drop (i+1):=by simp [AZ,hlt]
  have:=hQ h₂ (by rw [show i+(n+1)=i+1+n by omega]; exact hit₂) (hs₁.trans hs₂)
  rw [hd,CN] at this
  exact this
theorem Zgq {prog:Program} {w:World} {A:Around} {E:DX} {s:Shared} {t:Addr} {items:Array Value} {Q:List Value->Shared->Prop} (hh:A.handled=none) (ht:s.heap.IsList t items)
  (hQ:∀ h',Heap.ExtBut s.heap.objs.size s.heap h'->Q items.toList { s with heap:=h' }):wpAny (model prog w) A (unpackItems (.ref t) items.size none) Q E s:=by
 have hlt:t≠s.heap.objs.size:=by obtain ⟨o,ho,_⟩:=ht; exact AR (AK ho)
 have push:∀ ob,(s.heap.push ob).IsList t items:=λob=>ht.at λo e=>v9 _ e
 unfold unpackItems
 refine wpAny_bind ?_
 ·unfold notIterableAtAll
  refine wpAny_bind (wpAny_specialOf ht.typeIs PySem.F.slot_list_iter.lookup ?_)
  refine wpAny_pure ?_
  simp only [Bl,if_false]
  refine wpAny_bind (wpAny_holding (wpAny_pyIter_list ht ?_))
  refine wpAny_bind (wpAny_holding (ZeJ hlt items.size 0 _ _ ⟨_,AC _ rfl,rfl,rfl⟩ (push _) (by omega) λh₁ hit₁ hs₁=>?_))
  have hall:List.take items.size (List.drop 0 items.toList)=items.toList:=by
   rw [BP]; exact Cd (by simp)
  rw [hall]
  rw [if_neg (by simp)]
  have ht₁:h₁.IsList t items:=(push _).extBut hs₁.extBut hlt
  refine wpAny_bind (wpAny_holding (wpAny_pyNext_list_end hh hit₁ ht₁ (by simp) λh₂ he₂=>?_))
  simp only [Option.isSome_none,Bl,if_false]
  refine wpAny_pure (hQ h₂ λb o hb e=>he₂ b o hb (hs₁.extBut b o hb (v9 _ e)))
theorem Zns {prog:Program} {w:World} {A:Around} {E:DX} {s:Shared} {env:Env} {elts:List Expr} {x1} {pos:Pos} {t:Addr} {items:Array Value} {Q:Unit->Shared->Prop} (hh:A.handled=none) (ht:s.heap.IsList t items)
  (hn:(assignEach elts env).length=items.size) (hstar:(assignEach elts env).findIdx? (·.1)=none)
  (h:∀ h',Heap.ExtBut s.heap.objs.size s.heap h'->wpAny (model prog w) A (assignInOrder ((assignEach elts env).map (·.2)) items.toList) Q E { s with heap:=h' }) :
  wpAny (model prog w) A (assign (.Tuple elts x1 pos) env (.ref t)) Q E s:=by
 rw [arm_assign_Tuple]
 refine wpAny_bind (wpAny_standAt ?_)
 unfold unpack
 rw [hn,hstar]
 exact wpAny_bind (wpAny_holding (Zgq hh ht h))
def ZkV (n:Nat) (t:gG):TG:=λv σ H Q=>∃ a xs,v=.ref a/\H a=some (.lst xs)/\xs.length=n/\t xs σ H Q
theorem ZiJ {es:List Expr} {k:Nat} {t:gG} {n:Nat} {pos:Pos} (hc:X.calm=true) (h:PGs X es t)
  (hn:(assignEach es X.env).length=n:=by rfl) (hst:(assignEach es X.env).findIdx? (·.1)=none:=by rfl):PG X (.Tuple es k pos) (ZkV n t):=by
 intro pins s σ H v u Q I r hw
 obtain ⟨a,xs,e1,hq,hl,hw⟩:=hw
 subst e1
 cases r
 obtain ⟨its,rv,ht⟩:=dU I.hok (b:=true) hq
 have ht':s.heap.IsList a its.toArray:=ht
 refine Zns (I.ok.hd hc) ht' (by simp [hn,<- hl,rv.length]) hst λh' hx=>?_
 have I1:Inv X pins σ H { s with heap:=h' }:=I.kept (t':=s.toks) λb o e=>hx b o (AR (AK e)) e
 exact h pins _ σ H xs _ Q I1 (by simpa using rv) hw
noncomputable def lr (gs:DU) (x:PyData) (ρ:D5):Option D5:=match x with
 | .list xs=>gs xs ρ
 | _=>none
theorem ZfU {PK:Pk} {es:List Expr} {pos:Pos} {k:Nat} {gs:DU} {n:Nat} (hc:X.calm=true) (h:PGs X es (nT PK gs)) (hl:nh n gs)
  (hn:(assignEach es X.env).length=n:=by rfl) (hst:(assignEach es X.env).findIdx? (·.1)=none:=by rfl):PG X (.Tuple es k pos) (dB PK (lr gs)):=(ZiJ hc h hn hst).imp λv σ H Q hz0=>by
 obtain ⟨pa,D6,H₀,m,ρ,G,x,ρ',R,d,e,q⟩:=hz0
 cases d with
 | lst h1 h2=>exact ⟨_,_,rfl,R.wd.sub _ _ h1,by rw [h2.length]; exact hl _ _ _ e,pa,D6,H₀,m,ρ,G,_,ρ',R,h2,e,q⟩
 | _=>cases e
theorem ZfF {PK:Pk} {st:Stmt} {is:DQ} {p:DR} {i:DP} {n k:Nat} {ix:List Nat} {g:DV} (h:PS X st (dM (l6 (cX PK is) n ix (λ_=>dB PK g) (λ_=>TAt PK p) (λ_=>TAe PK i)) (dZ k))) (hn:fg n g):PS X st (bH PK (bb k (bE (jv is n ix g p i)))) :=
 bf (h.imp (ox λσ H Q z=>Zdt hn σ H Q (ZcX σ H Q z)))
section
variable {ρ:D5} {is:DQ} {n:Nat} {i:DP} {p:DR} {xs:DY} {x:PyData}
noncomputable def jf (g:DV) (p:DR) (el:DP) (τ:D5) (x:PyData):Tr (Option PyData):=(Tr.of (g x τ)).bind (lq p el)
noncomputable def yp (n:Nat) (ix:List Nat) (g:DV) (p:DR) (el:DP) (ρ:D5) (xs:DY):Tr DY:=if small xs.length=true then eM (jf g p el (blk n ix ρ)) xs else .fail
theorem tG {ix:List Nat} {g:DV}:jv is n ix g p i ρ=(is ρ).bind (yp n ix g p i ρ):=rfl
theorem tJ {ix:List Nat} {g:DV} (h:small xs.length=true):yp n ix g p i ρ xs=eM (jf g p i (blk n ix ρ)) xs:=by unfold yp; rw [if_pos h]
theorem tH {τ:D5} {g:DV}:jf g p i τ x=(Tr.of (g x τ)).bind (lq p i):=rfl
noncomputable def yH (y:PyData):Tr (Option PyData):=.ret (some y)
noncomputable def yI (i:DP) (τ:D5) (b:Bool):Tr (Option PyData):=if b=true then (i τ).bind yH else .ret none
theorem t6 {τ:D5}:lq p i τ=(p τ).bind (yI i τ):=rfl
theorem t9 {τ:D5}:yI i τ true=(i τ).bind yH:=rfl
theorem uc {τ:D5}:yI i τ false=.ret none:=rfl
theorem t7:yH x=.ret (some x):=rfl
theorem mJ {h:PyData->Tr (Option PyData)} {f:PyData->Option PyData}:∀ {xs:DY},(∀ x∈xs,h x=.ret (f x))->eM h xs=.ret (xs.filterMap f)
 | [],_=>rfl
 | x::xs,hx=>by
  rw [eM,hx x (by simp),Tr.ret_bind,mJ λy hy=>hx y (Az _ hy),Tr.ret_bind,B9]
  unfold mK
  cases f x <;> rfl
end
end
section
variable {PK:Pk} {X:Cx} {e:Expr} {as:List Sl->Tr D5}
end
section
variable {ρ:D5} {as:List Sl->Tr D5} {f:List PyData->Option PyData} {x:PyData} {xs:DY} {i j:DP} {k:Nat} {p:DR} {s:DS}
noncomputable def md (k:Nat) (ρ:D5) (x:PyData) (xs:DY):PyData->Tr Ou
 | .int y=>(Tr.of (cy xs.length y)).bind λt=>.ret (.next (ρ.set k (.own (xs.set t x))))
 | _=>.fail
noncomputable def wS (k:Nat) (n:DP) (ρ:D5) (x:PyData) (xs:DY):Tr Ou:=(n ρ).bind (md k ρ x xs)
noncomputable def wT (k:Nat) (n:DP) (ρ:D5) (x:PyData):Tr Ou:=(ie k ρ).bind (wS k n ρ x)
theorem rJ:vT k j i ρ=(i ρ).bind (wT k j ρ):=by
 unfold vT
 refine congrArg (Tr.bind (i ρ)) (funext λx=>?_)
 rw [wT,<- pG k ρ]
 cases ρ[k]? with
 | none=>rfl
 | some sl =>
  cases sl with
  | own xs =>
   show ((j ρ).bind _:Tr Ou)=(j ρ).bind (md k ρ x xs)
   refine congrArg (Tr.bind (j ρ)) (funext λy=>?_)
   cases y <;> rfl
  | _=>rfl
theorem rH {n:DP}:wT k n ρ x=(ie k ρ).bind (wS k n ρ x):=rfl
theorem rG {n:DP}:wS k n ρ x xs=(n ρ).bind (md k ρ x xs):=rfl
theorem Zk6 {y:Int} {t:Nat} (h:cy xs.length y=some t):md k ρ x xs (.int y)=.ret (.next (ρ.set k (.own (xs.set t x)))):=by
 simp only [md,h]
 rfl
end
end L2
namespace L2
open AutoSeq1 (wpAny_loadPart')
noncomputable def lY (hi:Int) (n:Nat):It:=⟨λi _=>i < n,λi H x H'=>H'=H/\x=.int (hi - i),λi _=>n<=i⟩
theorem Zgw {P:Program} {w:World} {K:DO} {tg:Expr} (it:Addr) (hi:Int) (n:Nat):Turn P w K tg (lY hi n) [it] it (λi h=>IsRangeIter h it (hi+(i:Nat) * (-1)) ((n:Int) - (i:Nat)) (-1)) where
 mem:=by simp
 obj:=λi h st b hb=>by
  have e:b=it:=by simpa using hb
  subst e
  exact ⟨_,st,λv z=>by
   have z':Data.fields _=Data.cell v:=z
   cases z'⟩
 keep:=λi h h' st k=>k it (by simp) _ st
 item:=by
  intro X hP hw hK hc i pins s σ H E I hf st hg
  subst hP hw hK
  obtain ⟨f0,f1,f2,f3,f4,f5⟩:=hf it (by simp)
  have W:=Walks.range (prog:=X.prog) (w:=X.w) (I.ok.hd hc) it hi (-1) n
  refine W.item i s _ _ hg st λv h' tk hv st' kk=>?_
  obtain ⟨t,rfl⟩:=hv
  have I1:Inv X pins σ H { s with heap:=h',toks:=tk }:=I.turned (λb o hb e=>kk b o (by simpa using hb) e) f0 f1 f3 f4 f5
  refine ⟨_,rfl,ni (s:={ s with heap:=h',toks:=tk }) (n:="range_iterator") st' rfl rfl (by decide) ⟨.int (hi - i),H,I1,⟨t,?_⟩,⟨rfl,rfl⟩,st',λb hb=>(hf b hb).1⟩⟩
  have e:hi+(i:Int) * -1=hi - i:=by omega
  rw [e]
 done:=by
  intro X hP hw hK hc i pins s σ H E I hf st hg
  subst hP hw hK
  obtain ⟨f0,f1,f2,f3,f4,f5⟩:=hf it (by simp)
  exact wpAny_pyNext_range_end (I.ok.hd hc) st (by have:n<=i:=hg; omega) λh' eb=>⟨rfl,I.turned (t':=s.toks) (λb o hb e=>eb b o hb e) f0 f1 f3 f4 f5⟩
 self:=λ_ _ _ _ _ st h=>wpAny_pyIter_rangeiter st h
theorem ZjH (r:Addr) (a b c:Int) (t u v:Tok) (hs:¬ (!(Builtin.Range.rangeFitsLong a && Builtin.Range.rangeFitsLong b && Builtin.Range.rangeFitsLong c && Builtin.Range.rangeFitsLong (-c) && Builtin.Range.rangeFitsLong (a - c) && Builtin.Range.rangeFitsLong (Builtin.Range.rangeSize a b c)))=true) :
  Meets (Builtin.«range.__reversed__» ⟨[.ref r],[]⟩) (λ_ R s=>s.heap.get? r=some { cls:=.type "range",dict:=none,data:=.fields #[.int a t,.int b u,.int c v],slots:=#[] } /\
   R (.ok (.ret (.ref s.heap.objs.size))) { s with heap:=s.heap.push { cls:=.type "range_iterator",data:=.fields #[rawInt (a+(Builtin.Range.rangeSize a b c - 1) * c),rawInt (Builtin.Range.rangeSize a b c),rawInt (-c)] },toks:=s.toks }) :=
 .of_wp λprog w A R s h=>by
  obtain ⟨hp,g,d,tk,os⟩:=s
  obtain ⟨hl,h⟩:=h
  have hs':=hs
  rw [CZ,Bool.not_eq_false] at hs'
  wp_walk
  rw [if_pos hs']
  exact ⟨_,rfl,h⟩
theorem lw {n:Int} (h1:-(2 ^ 63)<=n) (h2:n < 2 ^ 63):Builtin.Range.rangeFitsLong n=true:=by
 unfold Builtin.Range.rangeFitsLong
 simp
 omega
section
variable {prog:Program} {w:World} {A:Around} {E:DX} {s:Shared}
theorem ZmJ {r:Addr} {a b:Int} {t u v:Tok} {Q₁:DX} (hr:IsRange s.heap r a b 1 t u v) (ha:-(2 ^ 62)<=a) (ha':a < 2 ^ 62) (hb:-(2 ^ 62)<=b) (hb':b < 2 ^ 62)
  (h:Q₁ (.ref s.heap.objs.size) { s with heap:=s.heap.push { cls:=.type "range_iterator",data:=.fields #[rawInt (a+(Builtin.Range.rangeSize a b 1 - 1) * 1),rawInt (Builtin.Range.rangeSize a b 1),rawInt (-1)] } }) :
  codeAny (model prog w) A (.call (.builtin "reversed.__new__") ⟨[.type "reversed",.ref r],[]⟩) (wants Q₁ E) s:=by
 have hT:s.TypeIs (.ref r) "range":=⟨_,hr,rfl⟩
 refine codeAny_of_tree ?_
 show wpAny _ A.in1 (do checkBuiltinCall "reversed.__new__" ⟨[.type "reversed",.ref r],[]⟩; again (.builtin "reversed.__new__" ⟨[.type "reversed",.ref r],[]⟩)) _ _ s
 refine wpAny_bind (wpAny_of_eq (F.newCall_reversed_1 _) (wpAny_pure ⟨plainId_quiet F.plain_reversed_new _,codeAny_builtin F.entry_reversed_new ?_⟩))
 rw [Bo F.plain_reversed_new _]
 unfold Builtin.«reversed.__new__»
 refine wpAny_bind (wpAny_of_eq (newClass_reversed _) ?_)
 try dsimp only
 refine wpAny_bind (wpAny_of_eq (a:=()) (by first | rfl | kernel_rfl) ?_)
 refine wpAny_bind (wpAny_of_eq (a:=()) (by first | rfl | kernel_rfl) ?_)
 try dsimp only
 refine wpAny_bind (wpAny_specialOf hT F.slot_range_reversed.lookup ?_)
 try dsimp only
 refine wpAny_bind (wpAny_of_eq (F.slot_range_reversed.bind _) ?_)
 try dsimp only
 first
 | rw [if_neg (show ¬ ((Value.builtin "range.__reversed__" == Value.none)=true) from AQ)]
 | (show wpAny _ _ (if (Value.builtin "range.__reversed__" == Value.none)=true then _ else _) _ _ _; rw [if_neg (show ¬ ((Value.builtin "range.__reversed__" == Value.none)=true) from AQ)])
 refine wpAny_bind (wpAny_rule ?_)
 have hsz:Builtin.Range.rangeSize a b 1=if a < b then b - a else 0:=rangeSize_one a b
 refine wpAny_bind (m:=runValue (.call (.builtin "range.__reversed__") ⟨[.ref r],[]⟩)) (show wpAny _ _ (call (.builtin "range.__reversed__") [.ref r]) _ _ _ from
  call_meets F.slot_range_reversed hT F.entry_range_reversed (F.args_range_reversed_1 _) (ZjH r a b 1 t u v ?_) ⟨hr,?_⟩)
 ·rw [CZ,Bool.not_eq_false,lw (by omega) (by omega),lw (by omega) (by omega),lw (by decide) (by decide),lw (by decide) (by decide),lw (n:=a - 1) (by omega) (by omega),lw (n:=Builtin.Range.rangeSize a b 1) (by rw [hsz]; split <;> omega) (by rw [hsz]; split <;> omega)]
  rfl
 ·first
  | exact wpAny_pure h
  | exact wpAny_bind (wpAny_pure (wpAny_pure h))
theorem Zg5:isSubtype (.type "range_iterator") (.type "reversed")=pure false:=by rw [isSubtype_type]; kernel_rfl
theorem ZmS {r:Addr} {a b:Int} {t u v:Tok} {Q:DX} (hr:IsRange s.heap r a b 1 t u v) (ha:-(2 ^ 62)<=a) (ha':a < 2 ^ 62) (hb:-(2 ^ 62)<=b) (hb':b < 2 ^ 62)
  (h:Q (.ref s.heap.objs.size) { s with heap:=s.heap.push { cls:=.type "range_iterator",data:=.fields #[rawInt (a+(Builtin.Range.rangeSize a b 1 - 1) * 1),rawInt (Builtin.Range.rangeSize a b 1),rawInt (-1)] } }):wpAny (model prog w) A (call (.type "reversed") [.ref r]) Q E s:=by
 refine callType_other (U:="range_iterator") (Q₁:=λobj s₁=>obj=.ref s.heap.objs.size/\s₁={ s with heap:=s.heap.push { cls:=.type "range_iterator",data:=.fields #[rawInt (a+(Builtin.Range.rangeSize a b 1 - 1) * 1),rawInt (Builtin.Range.rangeSize a b 1),rawInt (-1)] } }) (by trivial) F.create_reversed ⟨_,_,F.mro_reversed⟩ F.made_reversed Zg5 (F.typeCall_reversed_1 _) (ZmJ hr ha ha' hb hb' ⟨rfl,rfl⟩) ?_
 rintro obj s₁ ⟨rfl,rfl⟩
 exact ⟨⟨_,AC _ rfl,rfl⟩,h⟩
end
theorem ZcT:Manifest.owners.lookup (String.ofList ['d','e','s','r','e','v','e','r'].reverse)=some Manifest.sig_reversed:=by kernel_rfl
theorem Zhg:Slot "reversed" "__init__" "object.__init__" :=
 .of (owner:="object") (n:="__init__") (by rw [typeLookup_type,builtinLookup_eq_fast]; kernel_rfl) (by trivial) (by trivial) (by trivial)
  (by first | exact .inl (by trivial) | exact .inr (by trivial)) (by rw [isSubtype_type]; kernel_rfl)
theorem ma:Slot "reversed" "__next__" "reversed.__next__" :=
 .of (owner:="reversed") (n:="__next__") (by rw [typeLookup_type,builtinLookup_eq_fast]; kernel_rfl) (by trivial) (by trivial) (by trivial)
  (by first | exact .inl (by trivial) | exact .inr (by trivial)) (by rw [isSubtype_type]; kernel_rfl)
theorem Zer:entryFor table "reversed.__next__"=some Builtin.«reversed.__next__»:=entryFor_of_tree (by kernel_rfl)
theorem ZfJ (a:Value):argsOk "reversed.__next__" ⟨[a],[]⟩:=by
 unfold argsOk; rw [signature?_of (id:="reversed.__next__") (n:=['_','_','t','x','e','n','_','_']) (o:=['d','e','s','r','e','v','e','r']) (by kernel_rfl) ZcT]; kernel_rfl
theorem ZaR:Slot "reversed" "__iter__" "reversed.__iter__" :=
 .of (owner:="reversed") (n:="__iter__") (by rw [typeLookup_type,builtinLookup_eq_fast]; kernel_rfl) (by trivial) (by trivial) (by trivial)
  (by first | exact .inl (by trivial) | exact .inr (by trivial)) (by rw [isSubtype_type]; kernel_rfl)
theorem ZnB (a:Value):argsOk "reversed.__iter__" ⟨[a],[]⟩:=by
 unfold argsOk; rw [signature?_of (id:="reversed.__iter__") (n:=['_','_','r','e','t','i','_','_']) (o:=['d','e','s','r','e','v','e','r']) (by kernel_rfl) ZcT]; kernel_rfl
theorem Zln:entryFor table "reversed.__iter__"=some Builtin.«dict_keyiterator.__iter__» :=
 entryFor_alias (id':="dict_keyiterator.__iter__") (by kernel_rfl) (by first | rfl | decide +kernel | (unfold String.splitOn; simp +decide [String.splitOnAux])) (by trivial) (by kernel_rfl)
theorem ZmO:TypeCalled "reversed" "reversed.__new__" "object.__init__" :=
 ⟨by trivial,by trivial,⟨_,_,F.mro_reversed⟩,F.made_reversed,by trivial,by rw [isSubtype_type]; kernel_rfl,Zhg⟩
theorem Zjo:typeLookup (.type "tuple") "__reversed__"=pure none:=by rw [typeLookup_type,builtinLookup_eq_fast]; kernel_rfl
theorem ZjG (l:Addr) (items:Array Value) (hfit:(items.size:Int) < 2 ^ 63) :
  Meets (Builtin.«reversed.__new__» ⟨[.type "reversed",.ref l],[]⟩) (λ_ R s=>IsTup s.heap l items /\
   R (.ok (.ret (.ref s.heap.objs.size))) { s with heap:=s.heap.push { cls:=.type "reversed",data:=.fields #[.ref l,rawInt ((items.size:Int) - 1)] },toks:=s.toks+1+1 }) :=
 .of_wp λprog w A R s h=>by
  obtain ⟨hp,g,d,tk,os⟩:=s
  obtain ⟨hl,h⟩:=h
  have hl':(Shared.mk hp g d tk os).heap.IsTuple l items:=hl
  unfold Builtin.«reversed.__new__»
  refine wpAny_bind (wpAny_of_eq (newClass_reversed _) ?_)
  try dsimp only
  refine wpAny_bind (wpAny_of_eq (a:=()) (by first | rfl | kernel_rfl) ?_)
  refine wpAny_bind (wpAny_of_eq (a:=()) (by first | rfl | kernel_rfl) ?_)
  try dsimp only
  refine wpAny_bind (wpAny_specialOf hl'.typeIs Zjo ?_)
  try dsimp only
  refine wpAny_bind ?_
  show wpAny _ _ (isInstance (Value.ref l) (.type "dict") >>= _) _ _ _
  refine wpAny_bind (wpAny_isInstance (T:="tuple") (b:=false) hl'.typeIs (by rw [isSubtype_type]; kernel_rfl) ?_)
  show wpAny _ _ (specialOf (Value.ref l) "__getitem__" >>= _) _ _ _
  refine wpAny_bind (wpAny_specialOf hl'.typeIs F.slot_tuple_getitem.lookup ?_)
  refine wpAny_pure ?_
  show wpAny _ _ (call (Value.builtin "len") [Value.ref l] >>= _) _ _ _
  refine wpAny_bind (len_tuple hl hfit ?_)
  refine wpAny_bind (wpAny_of_eq (a:=some (items.size:Int)) rfl ?_)
  show wpAny _ _ (newObj (.type "reversed") (.fields #[.ref l,rawInt ((items.size:Int) - 1)]) >>= _) _ _ _
  refine wpAny_bind (wpAny_newObj_type ?_)
  exact wpAny_pure ⟨_,rfl,h⟩
def IsTRev (h:Heap) (a l:Addr) (i:Int):Prop:=∃ o,h.get? a=some o/\o.cls=.type "reversed"/\o.data=.fields #[.ref l,rawInt i]
theorem IsTRev.at {h h':Heap} {a l:Addr} {i:Int} (x:IsTRev h a l i) (e:∀ o,h.get? a=some o->h'.get? a=some o):IsTRev h' a l i:=let ⟨o,ho,r⟩:=x; ⟨o,e _ ho,r⟩
section
variable {prog:Program} {w:World} {A:Around} {E:DX} {s:Shared}
theorem ZmR {l:Addr} {items:Array Value} {Q:DX} (hl:IsTup s.heap l items) (hfit:(items.size:Int) < 2 ^ 63)
  (h:Q (.ref s.heap.objs.size) { s with heap:=s.heap.push { cls:=.type "reversed",data:=.fields #[.ref l,rawInt ((items.size:Int) - 1)] },toks:=s.toks+1+1 }) :
  wpAny (model prog w) A (call (.type "reversed") [.ref l]) Q E s :=
 callType_new ZmO (by decide) (F.typeCall_reversed_1 _) (F.newCall_reversed_1 _) (λobj=>Ds obj _) F.entry_reversed_new (ZjG l items hfit) ⟨hl,⟨_,AC _ rfl,rfl⟩,h⟩
theorem Zil {it l:Addr} {i:Nat} {items:Array Value} {x:Value} {Q:Option Value->Shared->Prop} (hit:IsTRev s.heap it l (i:Int)) (hl:IsTup s.heap l items) (hne:l≠it) (hx:items[i]?=some x) (hfit:(items.size:Int) < 2 ^ 63)
  (hQ:∀ h',IsTRev h' it l ((i:Int) - 1)->Heap.SameBut it s.heap h'->Q (some x) { s with heap:=h',toks:=s.toks+1 }):wpAny (model prog w) A (pyNext (.ref it)) Q E s:=by
 obtain ⟨o,ho,hc,hd⟩:=id hit
 have hT:s.TypeIs (.ref it) "reversed":=⟨o,ho,hc⟩
 have hl':s.heap.IsTuple l items:=hl
 have hlt:i < items.size:=(DB.mp hx).1
 unfold pyNext
 refine wpAny_bind (wpAny_attempt (wpAny_callSpecial?_slot (name:=Str.ofString "__next__") hT ma
  (wpAny_call_entry ma hT Zer ?_ (ZfJ _))))
 unfold Builtin.«reversed.__next__»
 refine wpAny_bind (wpAny_of_eq (a:=(Value.ref it,[])) rfl ?_)
 try dsimp only
 refine wpAny_bind (wpAny_field ho hd (x:=.ref l) rfl ?_)
 refine wpAny_bind (wpAny_field ho hd (x:=rawInt (i:Int)) rfl ?_)
 show wpAny _ _ (if (i:Int) < 0 then _ else _) _ _ s
 rw [if_neg (by omega)]
 refine wpAny_bind (wpAny_specialOf hl'.typeIs F.slot_tuple_getitem.lookup ?_)
 show wpAny _ _ (mkInt (i:Int) >>= _) _ _ s
 refine wpAny_bind (wpAny_mkInt ?_)
 refine wpAny_bind (wpAny_attempt (getItem_tuple (j:=i) (x:=x) hl (by omega) (by omega) ?_ hx ?_))
 ·unfold seqIndex?
  simp
  omega
 ·dsimp only
  refine wpAny_bind (wpAny_field ho hd (x:=rawInt (i:Int)) rfl ?_)
  show wpAny _ _ (setField (.ref it) 1 (rawInt ((i:Int) - 1)) >>= _) _ _ _
  refine wpAny_bind (wpAny_setField ho hd (by simp) ?_)
  refine wpAny_pure ⟨x,rfl,wpAny_pure (hQ _ ?_ (BY ..))⟩
  exact ⟨_,BK _ ho (CM (BN hd _)),(DC ..).trans hc,by
   rw [BN hd]; simp⟩
theorem Zim {it l:Addr} {Q:Option Value->Shared->Prop} (hh:A.handled=none) (hit:IsTRev s.heap it l (-1))
  (hQ:∀ h',Heap.ExtBut it s.heap h'->Q none { s with heap:=h' }):wpAny (model prog w) A (pyNext (.ref it)) Q E s:=by
 obtain ⟨o,ho,hc,hd⟩:=id hit
 have hT:s.TypeIs (.ref it) "reversed":=⟨o,ho,hc⟩
 unfold pyNext
 refine wpAny_bind (wpAny_attempt (wpAny_callSpecial?_slot (name:=Str.ofString "__next__") hT ma
  (wpAny_call_entry ma hT Zer ?_ (ZfJ _))))
 unfold Builtin.«reversed.__next__»
 refine wpAny_bind (wpAny_of_eq (a:=(Value.ref it,[])) rfl ?_)
 try dsimp only
 refine wpAny_bind (wpAny_field ho hd (x:=.ref l) rfl ?_)
 refine wpAny_bind (wpAny_field ho hd (x:=rawInt (-1)) rfl ?_)
 show wpAny _ _ (if (-1:Int) < 0 then _ else _) _ _ s
 rw [if_pos (by decide)]
 refine wpAny_bind (wpAny_rule ?_)
 refine wpAny_bind ?_
 show wpAny _ _ (setField (.ref it) 1 (rawInt (-1)) >>= _) _ _ _
 refine wpAny_bind (wpAny_setField ho hd (by simp) ?_)
 have ho2:=BK (Obj.mapFields λx_1=>x_1.setIfInBounds 1 (rawInt (-1))) ho (CM (BN hd _))
 refine wpAny_setField ho2 (BN hd _) (by simp) ?_
 have eb:Heap.ExtBut it s.heap ((s.heap.update it (Obj.mapFields λx_1=>x_1.setIfInBounds 1 (rawInt (-1)))).update it (Obj.mapFields λx_1=>x_1.setIfInBounds 0 Value.none)):=λb o' hb e=>(BY _ _ _).extBut b o' hb ((BY _ _ _).extBut b o' hb e)
 show wpAny _ _ (newExc (.type "StopIteration") [] >>= _ >>= _) _ _ _
 refine wpAny_bind ?_
 refine wpAny_bind ?_
 simp only [newExc,newTuple]
 refine wpAny_bind (wpAny_newObj_type ?_ (by size_fits))
 refine wpAny_bind (m:=firstArgMember _ _) (wpAny_of_eq (a:=Value.none) (by first | rfl | (simp only [firstArgMember]; rfl)) ?_)
 refine wpAny_newObj_type ?_ (by size_fits)
 simp only [raiseNew]
 refine wpAny_bind (wpAny_handled ?_)
 first | rw [show A.in1.handled=none from hh] | rw [hh]
 refine wpAny_bind (wpAny_pure (wpAny_throw ?_))
 refine wpAny_bind (wpAny_isInstance (T:="StopIteration") (b:=true) ⟨_,AC _ rfl,rfl⟩ isSubtype_stop ?_)
 exact wpAny_pure (hQ _ ((eb.push _).push _))
theorem Zcw {it l:Addr} {i:Int} {Q:DX} (hit:IsTRev s.heap it l i) (h:Q (.ref it) s):wpAny (model prog w) A (pyIter (.ref it)) Q E s:=by
 obtain ⟨o,ho,hc,hd⟩:=id hit
 have hT:s.TypeIs (.ref it) "reversed":=⟨o,ho,hc⟩
 refine wpAny_pyIter_slot hT ZaR (wpAny_call_entry ZaR hT Zln ?_ (ZnB _))
 show wpAny _ _ (ret (.ref it)) _ _ s
 exact wpAny_pure ⟨_,rfl,"reversed",_,hT,ma.lookup,h⟩
end
noncomputable def lX (b:Bool) (l:Addr) (n:Nat):It :=
 ⟨λi H=>i < n/\∃ xs,H l=some (bA b xs)/\xs.length=n,λi H x H'=>H'=H/\∃ xs,H l=some (bA b xs)/\xs[n - 1 - i]?=some x,λi _=>i=n⟩
def RvAt (b:Bool) (h:Heap) (it l:Addr) (i:Int):Prop:=match b with
 | true=>h.IsRevIter it l i
 | false=>IsTRev h it l i
theorem RvAt.there {b:Bool} {h:Heap} {it l:Addr} {i:Int} (x:RvAt b h it l i):∃ o n vs,h.get? it=some o/\o.cls=.type n/\o.data=.fields vs/\["enumerate","zip","dict_itemiterator","dict_reverseitemiterator","odict_iterator","itertools.zip_longest","itertools.pairwise"].contains n=false:=by
 cases b with
 | true=>obtain ⟨o,h1,h2,h3⟩:=x; exact ⟨o,_,_,h1,h2,h3,by decide⟩
 | false=>obtain ⟨o,h1,h2,h3⟩:=x; exact ⟨o,_,_,h1,h2,h3,by decide⟩
theorem RvAt.at {b:Bool} {h h':Heap} {it l:Addr} {i:Int} (x:RvAt b h it l i) (e:∀ o,h.get? it=some o->h'.get? it=some o):RvAt b h' it l i:=by
 cases b with
 | true=>exact Heap.IsRevIter.at x e
 | false=>exact IsTRev.at x e
theorem Zar {P:Program} {w:World} {K:DO} {tg:Expr} {b:Bool} {l:Addr} {n:Nat} (it:Addr) (hn:(n:Int) < 2 ^ 63):Turn P w K tg (lX b l n) [it] it (λi h=>RvAt b h it l ((n:Int) - 1 - (i:Nat))) where
 mem:=by simp
 obj:=λi h st c hb=>by
  have e:c=it:=by simpa using hb
  subst e
  obtain ⟨o,_,_,h1,_,h3,_⟩:=st.there
  exact ⟨o,h1,λv z=>by rw [h3] at z; cases z⟩
 keep:=λi h h' st k=>st.at λo e=>k it (by simp) o e
 item:=by
  intro X hP hw hK hc i pins s σ H E I hf st hg
  subst hP hw hK
  obtain ⟨hi,xs,e1,hlen⟩:=hg
  obtain ⟨us,r1,q1⟩:=dU I.hok e1
  obtain ⟨f0,f1,f2,f3,f4,f5⟩:=hf it (by simp)
  have hxl:n - 1 - i < xs.length:=by omega
  have hx:xs[n - 1 - i]?=some xs[n - 1 - i]:=As hxl
  obtain ⟨u,hu,ru⟩:=r1.get hx
  have ne:l≠it:=dm e1 f0
  have ei:(n:Int) - 1 - (i:Nat)=((n - 1 - i:Nat):Int):=by omega
  have ei2:((n - 1 - i:Nat):Int) - 1=(n:Int) - 1 - ((i+1:Nat):Int):=by omega
  rw [ei] at st
  have usz:us.toArray.size=n:=by rw [AG,<- r1.length]; exact hlen
  have fin:∀ (h':Heap) (tk:Nat),RvAt b h' it l ((n:Int) - 1 - ((i+1:Nat):Int))->Heap.SameBut it s.heap h'->∃ u',some u=some u'/\wpAny (model X.prog X.w) X.A (letOwnedTupleGo tg (.ref it) u') (λ_ s2=>∃ x H',Inv X pins σ H' s2/\RelV x u'/\(lX b l n).yld i H x H'/\RvAt b s2.heap it l ((n:Int) - 1 - ((i+1:Nat):Int))/\∀ b∈[it],H' b=none) E { s with heap:=h',toks:=tk }:=λh' tk st' sb=>by
   have I1:Inv X pins σ H { s with heap:=h',toks:=tk }:=I.turned (λb o hb e=>(sb.2 b hb).trans e) f0 f1 f3 f4 f5
   obtain ⟨o,nm,vs,g1,g2,g3,g4⟩:=st'.there
   exact ⟨u,rfl,ni (s:={ s with heap:=h',toks:=tk }) g1 g2 g3 g4 ⟨_,H,I1,ru,⟨rfl,xs,e1,hx⟩,st',λb hb=>(hf b hb).1⟩⟩
  cases b with
  | true =>
   refine wpAny_pyNext_rev_item (i:=n - 1 - i) st q1 (x:=u) (by simpa using hu) λh' st' sb=>?_
   rw [ei2] at st'
   exact fin h' s.toks st' sb
  | false =>
   refine Zil (i:=n - 1 - i) st q1 ne (x:=u) (by simpa using hu) (by rw [usz]; exact hn) λh' st' sb=>?_
   rw [ei2] at st'
   exact fin h' (s.toks+1) st' sb
 done:=by
  intro X hP hw hK hc i pins s σ H E I hf st hg
  subst hP hw hK
  obtain ⟨f0,f1,f2,f3,f4,f5⟩:=hf it (by simp)
  have hi:i=n:=hg
  subst hi
  have e:(i:Int) - 1 - (i:Nat)=-1:=by omega
  rw [e] at st
  cases b with
  | true=>exact wpAny_pyNext_rev_end (I.ok.hd hc) st λh' eb=>⟨rfl,I.turned (t':=s.toks) (λb o hb e=>eb b o hb e) f0 f1 f3 f4 f5⟩
  | false=>exact Zim (I.ok.hd hc) st λh' eb=>⟨rfl,I.turned (t':=s.toks) (λb o hb e=>eb b o hb e) f0 f1 f3 f4 f5⟩
 self:=λ_ _ _ _ _ st h=>by
  cases b with
  | true=>exact wpAny_pyIter_revIter st h
  | false=>exact Zcw st h
section
variable {X:Cx} {tg:Expr} {PK:Pk} {a b:Expr} {i j:DP} {p pos:Pos}
def yK (ta:TE):TI:=λσ H R=>ta σ H λx H1=>(∃ b l xs,x=.ref l/\H1 l=some (bA b xs)/\R (lX b l xs.length) H1) \/
 (∃ l lo hi,x=.ref l/\H1 l=some (.rng lo hi)/\-(2 ^ 62)<=lo/\lo < 2 ^ 62/\-(2 ^ 62)<=hi/\hi < 2 ^ 62/\R (lY (lo+(hi - lo).toNat - 1) (hi - lo).toNat) H1)
theorem ZcH {ta:TE} (hg:Gl X "reversed") (hm:X.mg "reversed"=none) (ha:PE X a ta)
  (hs:starEach [a] X.env=[(false,eval a X.env)]:=by rfl):PI X tg (.Call (.Name "reversed" p) [a] [] pos) (yK ta):=by
 intro pins s σ H R I h
 have hab:PA X [a] (fM ta aS):=bx ha cf (by rw [hs]; rfl)
 have h':fM ta aS σ H λvs H1=>∃ x,vs=[x]/\((∃ b l xs,x=.ref l/\H1 l=some (bA b xs)/\R (lX b l xs.length) H1) \/
   (∃ l lo hi,x=.ref l/\H1 l=some (.rng lo hi)/\-(2 ^ 62)<=lo/\lo < 2 ^ 62/\-(2 ^ 62)<=hi/\hi < 2 ^ 62/\R (lY (lo+(hi - lo).toNat - 1) (hi - lo).toNat) H1)):=by
  have h0:ta σ H λx H1=>(∃ b l xs,x=.ref l/\H1 l=some (bA b xs)/\R (lX b l xs.length) H1) \/
   (∃ l lo hi,x=.ref l/\H1 l=some (.rng lo hi)/\-(2 ^ 62)<=lo/\lo < 2 ^ 62/\-(2 ^ 62)<=hi/\hi < 2 ^ 62/\R (lY (lo+(hi - lo).toNat - 1) (hi - lo).toNat) H1):=h
  refine cast (congrArg (ta σ H) ?_) h0
  funext x H1
  apply propext
  constructor
  ·exact λq=>⟨x,rfl,q⟩
  ·rintro ⟨y,e,q⟩
   have e':x=y:=by simpa using e
   subst e'
   exact q
 refine Call_ (je I hg hm boot_reversed (Bx (thn (hab pos pins s σ H _ I h') λus s1 hz0=>?_) (by rw [hs]; rfl) rfl))
 obtain ⟨vs,H1,I1,r1,q1⟩:=hz0
 obtain ⟨x,rfl,q1⟩:=q1
 obtain ⟨u,rfl,ru⟩:=eB r1
 have fp:∀ c∈[s1.heap.objs.size],fL X pins H1 c:=λc hb=>by
  have e:c=s1.heap.objs.size:=by simpa using hb
  subst e
  exact I1.fpOk (Aw _) (I1.hok.fresh (Aw _))
 have hn:=jV
 rcases q1 with ⟨b,l,xs,rfl,e1,q⟩ | ⟨l,lo,hi,rfl,e1,b1,b2,b3,b4,q⟩
 ·cases ru
  obtain ⟨us,r2,q2⟩:=dU I1.hok e1
  have usz:us.toArray.size=xs.length:=by rw [AG,<- r2.length]
  have hz:xs.length<=sizeLine:=by
   cases b with
   | true=>exact (I1.hok _ _ e1).1
   | false=>exact (I1.hok _ _ e1).1
  cases b with
  | true =>
   refine call_reversed_list q2 (wpAny_pyIter_revIter ⟨_,AC _ rfl,rfl,rfl⟩ ?_)
   refine ⟨_,_,_,_,H1,rfl,I1.kept (t':=s1.toks) λb o e=>v9 _ e,Zar (b:=true) (l:=l) (n:=xs.length) s1.heap.objs.size (by omega),?_,fp,q⟩
   refine ⟨_,AC _ rfl,rfl,?_⟩
   rw [usz]
   show Data.fields #[_,rawInt ((xs.length:Int) - 1)]=Data.fields #[_,rawInt ((xs.length:Int) - 1 - ((0:Nat):Int))]
   simp
  | false =>
   refine ZmR q2 (by rw [usz]; omega) (Zcw ⟨_,AC _ rfl,rfl,rfl⟩ ?_)
   refine ⟨_,_,_,_,H1,rfl,I1.kept (t':=s1.toks+1+1) λb o e=>v9 _ e,Zar (b:=false) (l:=l) (n:=xs.length) s1.heap.objs.size (by omega),?_,fp,q⟩
   refine ⟨_,AC _ rfl,rfl,?_⟩
   rw [usz]
   show Data.fields #[_,rawInt ((xs.length:Int) - 1)]=Data.fields #[_,rawInt ((xs.length:Int) - 1 - ((0:Nat):Int))]
   simp
 ·cases ru
  obtain ⟨t,u,v,e⟩:=I1.hok _ _ e1
  have hsz:Builtin.Range.rangeSize lo hi 1=((hi - lo).toNat:Int):=by rw [rangeSize_one]; split <;> omega
  refine ZmS e b1 b2 b3 b4 (wpAny_pyIter_rangeiter (AC _ rfl) ?_)
  refine ⟨_,_,_,_,H1,rfl,I1.kept (t':=s1.toks) λb o e=>v9 _ e,Zgw s1.heap.objs.size (lo+(hi - lo).toNat - 1) (hi - lo).toNat,?_,fp,q⟩
  rw [hsz]
  have e1:lo+(((hi - lo).toNat:Int) - 1) * 1=lo+(hi - lo).toNat - 1+((0:Nat):Int) * (-1):=by simp; omega
  have e2:((hi - lo).toNat:Int)=((hi - lo).toNat:Int) - ((0:Nat):Int):=by simp
  rw [e1]
  show IsRangeIter _ _ _ (((hi - lo).toNat:Int) - ((0:Nat):Int)) (-1)
  rw [<- e2]
  exact AC _ rfl
end
end L2
namespace L2
section
variable {X:Cx} {tg:Expr} {PK:Pk} {e:Expr} {i j:DP} {is:DQ} {p pos:Pos}
theorem Zkl {pa:Addr} {G:Hp} {b:Bool} {l:Addr} {us:D3} {xs:DY} (h1:G l=some (bA b us)) (d1:DnAll G us xs):jx PK pa (lX b l us.length) G xs.reverse:=λm G2 H2 sb w=>by
 have e1:H2 l=some (bA b us):=w.sub _ _ (sb _ _ h1)
 have hlen:us.length=xs.length:=d1.length
 refine ⟨λn d hd=>?_,by show xs.reverse.length=us.length; rw [Bv,hlen]⟩
 have hn:n < xs.length:=by
  have:=(Ay.mp hd).1
  rwa [Bv] at this
 have hd':xs[xs.length - 1 - n]?=some d:=by
  rw [CH hn] at hd
  exact hd
 refine ⟨⟨by omega,us,e1,rfl⟩,λy H3 hz0=>?_⟩
 obtain ⟨eH,vs,f1,hy⟩:=hz0
 subst eH
 rw [e1] at f1
 have:=qB f1
 subst this
 rw [hlen] at hy
 obtain ⟨v,hv,dv⟩:=d1.get _ hd'
 rw [hv] at hy
 cases hy
 exact ⟨G2,.refl,w,dv.mono sb⟩
noncomputable def Ab (i:DP):DQ:=λρ=>(i ρ).bind λx=>(Tr.of (gz x)).bind λxs=>.ret xs.reverse
theorem ZnH {iter:Expr} (h:PI X tg iter (yK (TAe PK i))):PI X tg iter (cX PK (Ab i)):=h.imp λσ H R0 hz0=>by
 obtain ⟨pa,D6,H₀,m,ρ,G,R,z⟩:=hz0
 refine TAe.then R z λm1 x v G1 H1 s1 w1 R1 d1 q1=>?_
 rw [Tr.ok_bind] at q1
 obtain ⟨xs,hx,q1⟩:=Tr.ok_of q1
 obtain ⟨b1,l1,us,rfl,e1,f1⟩:=ng d1 hx
 exact .inl ⟨b1,l1,us,rfl,w1.sub _ _ e1,q1 _ G1 H1 s1 w1 (Zkl e1 f1)⟩
theorem ZmT:dL X (.type "range") (λxs H Q=>∃ j:Int,xs=[.int j]/\∀ p,H p=none->Q (.ref p) (upd H p (.rng 0 j))):=by
 intro pins s σ H xs us Q I r h
 obtain ⟨j,rfl,q⟩:=h
 cases r with
 | cons r1 rr =>
  cases rr
  obtain ⟨t,rfl⟩:=r1
  refine call_range_1 ?_
  exact ⟨.ref s.heap.objs.size,_,I.laid (t':=s.toks+1+1) (λb o e=>v9 _ e) (Aw _) (show ObjOk X.prog X.w _ _ _ (.rng 0 j) from ⟨s.toks,t,s.toks+1,AC _ rfl⟩),rfl,q _ (I.hok.fresh (Aw _))⟩
theorem Zkk {pa:Addr} {G:Hp} {lo:Int} {n:Nat}:jx PK pa (lY (lo+n - 1) n) G ((aQ lo n).map PyData.int).reverse:=λm G2 H2 sb w=>by
 have hl:((aQ lo n).map PyData.int).length=n:=by rw [At,fO]
 refine ⟨λk x hx=>?_,by show n<=_; rw [Bv,hl]; exact Aw _⟩
 have hk:k < n:=by
  have:=(Ay.mp hx).1
  rwa [Bv,hl] at this
 refine ⟨hk,λy H3 hz0=>?_⟩
 obtain ⟨e1,e2⟩:=hz0
 subst e1 e2
 have:x=.int (lo+n - 1 - k):=by
  rw [CH (by rw [hl]; exact hk),hl] at hx
  unfold aQ at hx
  rw [AS,AM,Co (by omega)] at hx
  cases hx
  show PyData.int (lo+((n - 1 - k:Nat):Int))=_
  congr 1
  omega
 subst this
 exact ⟨G2,.refl,w,.int _⟩
noncomputable def Aa (is:DQ):DQ:=λρ=>(is ρ).bind λxs=>(Tr.of (kD xs)).bind λys=>.ret ys.reverse
def ZgN (t:TA):TE:=fN (λxs H Q=>∃ j:Int,xs=[.int j]/\∀ p,H p=none->Q (.ref p) (upd H p (.rng 0 j))) t
theorem ZnG {iter:Expr} (h:PI X tg iter (yK (ZgN (TAd PK is)))):PI X tg iter (cX PK (Aa is)):=h.imp λσ H R0 hz0=>by
 obtain ⟨pa,D6,H₀,m,ρ,G,R,z⟩:=hz0
 refine TAd.then R z λm1 xs vs G1 H1 s1 w1 R1 d1 q1=>?_
 rw [Tr.ok_bind] at q1
 obtain ⟨ys,hy,q1⟩:=Tr.ok_of q1
 obtain ⟨n,e,h1,h2,rfl⟩:=ZbM d1 hy
 refine ⟨n,e,λp hp=>?_⟩
 obtain ⟨w2,s2⟩:=w1.own (o:=.rng 0 n) hp
 refine .inr ⟨p,0,n,rfl,bY,by decide,by decide,h1,h2,?_⟩
 have q:=q1 (lY (0+(n - 0).toNat - 1) (n - 0).toNat) G1 _ (s1.trans s2 w1.some) w2
 unfold bi at q
 exact q Zkk
end
section
variable {X:Cx} {PK:Pk} {i n:DP}
end
section
variable {prog:Program} {w:World} {A:Around} {E:DX} {s:Shared}
end
section
variable {X:Cx} {PK:Pk} {e st:Expr} {te ts:TE} {i j:DP} {p2 pos:Pos}
end
abbrev lW (h0 h:Heap):Prop:=∀ c o,h0.get? c=some o->h.get? c=some o
noncomputable def Ar (prog:Program) (w:World) (A:Around) (h0:Heap) (P:Nat->Value->Prop) (bt:Nat->Nat->Bool):Prop :=
 ∀ i j vi vj (s:Shared) (Q:DX) (E:DX),j < i->lW h0 s.heap->P i vi->P j vj->Q (.bool (bt i j)) s->wpAny (model prog w) A (richCompare .Lt vi vj) Q E s
theorem ZfK (bt:Nat->Nat->Bool):∀ j,argBest bt j<=j
 | 0=>Aw _
 | j+1=>by
  have:=ZfK bt j
  unfold argBest
  split <;> omega
section
variable {prog:Program} {w:World} {A:Around} {R:Result->Shared->Prop} {I S:Addr} {fp wr:List Addr} {n:Nat} {P:Nat->Value->Prop} {St:Nat->Heap->Prop} {h0:Heap}
theorem pW:(toString "min"++toString ".loop":String)="min.loop":=by decide
theorem ZjD (W:Walks prog w A.in1 I fp wr n P St) (bt:Nat->Nat->Bool) (hcmp:Ar prog w A.in1 h0 P bt) (hSf:S ∉ fp) (h0w:∀ c o,h0.get? c=some o->c ∉ wr/\c≠S) :
  ∀ (k j:Nat) (s:Shared) (vb:Value) (c:Nat),n - (j+1)=k->j+1<=n->lW h0 s.heap->St (j+1) s.heap->P (argBest bt j) vb ->
  s.heap.get? S=some { cls:=.type "list",data:=.seq #[vb,vb] c } ->
  (∀ v h' tk,P (argBest bt (n - 1)) v->(∀ b o,b ∉ wr->b≠S->s.heap.get? b=some o->h'.get? b=some o)->R (.ok (.ret v)) { s with heap:=h',toks:=tk }) ->
  codeAny (model prog w) A (.builtin "min.loop" ⟨[.ref I,.none,.ref S],[]⟩) R s:=by
 have hSw:S ∉ wr:=λh=>hSf (W.sub _ h)
 intro k
 induction k with
 | zero =>
  intro j s vb c hk hj kp hst hPb hS hR
  have hin:j+1=n:=by omega
  refine codeAny_builtin DN (by
   rw [Bo Cg _]
   show wpAny _ A.in1 (seqItems? (.ref S) >>= _) _ _ s
   refine wpAny_bind (wpAny_seqItems hS rfl ?_)
   show wpAny _ A.in1 (tryCatch (pyNext (.ref I)) _ >>= _) _ _ s
   refine wpAny_bind (wpAny_tryCatch (W.done s _ _ (hin ▸ hst) λh' tk hk'=>?_))
   have hS':=hk' S _ hSw hS
   show wpAny _ A.in1 (updateSeq S (λ_=>#[]) >>= _) _ _ _
   refine wpAny_bind (wpAny_updateSeq hS' rfl (wpAny_bind (wpAny_letGo (wpAny_pure ?_))))
   exact hR vb _ tk (by rw [<- hin]; exact hPb) λb o hbw hbS e=>(Bn _ _ (Ne.symm hbS)).trans (hk' b o hbw e))
 | succ k ih =>
  intro j s vb c hk hj kp hst hPb hS hR
  have hlt:j+1 < n:=by omega
  refine codeAny_builtin DN (by
   rw [Bo Cg _]
   show wpAny _ A.in1 (seqItems? (.ref S) >>= _) _ _ s
   refine wpAny_bind (wpAny_seqItems hS rfl ?_)
   show wpAny _ A.in1 (tryCatch (pyNext (.ref I)) _ >>= _) _ _ s
   refine wpAny_bind (wpAny_tryCatch (W.item (j+1) s _ _ hlt hst λv h' tk hP hst' hk'=>?_))
   have hS':=hk' S _ hSw hS
   have kp':lW h0 h':=λc o e=>hk' c o (h0w c o e).1 (kp c o e)
   show wpAny _ A.in1 (tryCatch (holding [v,v] (richCompare .Lt v vb >>= _)) _ >>= _) _ _ _
   refine wpAny_bind (wpAny_tryCatch (wpAny_holding (wpAny_bind (hcmp (j+1) (argBest bt j) v vb _ _ _ (Nat.lt_succ_of_le (ZfK bt j)) kp' hP hPb (wpAny_bind (wpAny_holding (wpAny_truthy_bool (wpAny_bind (wpAny_letGo (wpAny_pure ?_))))))))))
   cases hb:bt (j+1) (argBest bt j) with
   | true =>
    simp only [if_true]
    refine wpAny_bind (wpAny_updateSeq hS' rfl (wpAny_bind (wpAny_letGo ?_)))
    rw [pW]
    refine wpAny_pure ⟨plainId_quiet Cg _,ih (j+1) _ v _ (by omega) hlt (λc o e=>(Bn _ _ (Ne.symm (h0w c o e).2)).trans (kp' c o e)) (W.frame _ _ _ hst' λb hbf o e=>?_) (by simp only [argBest,hb,if_true]; exact hP) (BK _ hS' rfl)
     λv' h'' tk'' hP' hk''=>hR v' h'' tk'' hP' λb o hbw hbS e=>hk'' b o hbw hbS ((Bn _ _ (Ne.symm hbS)).trans (hk' b o hbw e))⟩
    exact (Bn _ _ (λh:S=b=>hSf (by rw [h]; exact hbf))).trans e
   | false =>
    simp only [Bl,if_false]
    refine wpAny_bind (wpAny_letGo ?_)
    rw [pW]
    exact wpAny_pure ⟨plainId_quiet Cg _,ih (j+1) _ vb c (by omega) hlt kp' hst' (by simp only [argBest,hb,Bl,if_false]; exact hPb) hS' λv' h'' tk'' hP' hk'' =>
     hR v' h'' tk'' hP' λb o hbw hbS e=>hk'' b o hbw hbS (hk' b o hbw e)⟩)
theorem ZjE (W:Walks prog w A.in1 I fp wr n P St) (bt:Nat->Nat->Bool) (hcmp:Ar prog w A.in1 h0 P bt) (hSf:S ∉ fp) (h0w:∀ c o,h0.get? c=some o->c ∉ wr/\c≠S) (hn:0 < n) {s:Shared} {c:Nat} (kp:lW h0 s.heap) (hst:St 0 s.heap)
  (hS:s.heap.get? S=some { cls:=.type "list",data:=.seq #[] c })
  (hR:∀ v h' tk,P (argBest bt (n - 1)) v->(∀ b o,b ∉ wr->b≠S->s.heap.get? b=some o->h'.get? b=some o)->R (.ok (.ret v)) { s with heap:=h',toks:=tk }) :
  codeAny (model prog w) A (.builtin "min.loop" ⟨[.ref I,.none,.ref S],[]⟩) R s:=by
 have hSw:S ∉ wr:=λh=>hSf (W.sub _ h)
 refine codeAny_builtin DN (by
  rw [Bo Cg _]
  show wpAny _ A.in1 (seqItems? (.ref S) >>= _) _ _ s
  refine wpAny_bind (wpAny_seqItems hS rfl ?_)
  show wpAny _ A.in1 (tryCatch (pyNext (.ref I)) _ >>= _) _ _ s
  refine wpAny_bind (wpAny_tryCatch (W.item 0 s _ _ hn hst λv h' tk hP hst' hk'=>?_))
  have hS':=hk' S _ hSw hS
  have kp':lW h0 h':=λc o e=>hk' c o (h0w c o e).1 (kp c o e)
  show wpAny _ A.in1 (updateSeq S (λ_=>#[v,v]) >>= _) _ _ _
  refine wpAny_bind (wpAny_updateSeq hS' rfl ?_)
  rw [pW]
  refine wpAny_pure ⟨plainId_quiet Cg _,ZjD W bt hcmp hSf h0w _ 0 _ v _ rfl hn (λc o e=>(Bn _ _ (Ne.symm (h0w c o e).2)).trans (kp' c o e)) (W.frame _ _ _ hst' λb hbf o e=>?_) hP (BK _ hS' rfl)
   λv' h'' tk'' hP' hk''=>hR v' h'' tk'' hP' λb o hbw hbS e=>hk'' b o hbw hbS ((Bn _ _ (Ne.symm hbS)).trans (hk' b o hbw e))⟩
  exact (Bn _ _ (λh:S=b=>hSf (by rw [h]; exact hbf))).trans e)
end
section
variable {prog:Program} {w:World} {A:Around} {E:DX} {s:Shared}
end
section
variable {X:Cx}
end
section
variable {X:Cx} {PK:Pk} {e:Expr} {is:DQ}
end
section
variable {prog:Program} {w:World} {A:Around} {E:DX} {s:Shared}
theorem ZjC {l:Addr} {items:Array Value} {Q:DX} {bt:Nat->Nat->Bool} (hh:A.handled=none) (hl:s.heap.IsList l items) (hn:0 < items.size)
  (hcmp:Ar prog w A.in1 s.heap (λi v=>items[i]?=some v) bt)
  (h:∀ h' tk v,lW s.heap h'->items[argBest bt (items.size - 1)]?=some v->Q v { s with heap:=h',toks:=tk }):wpAny (model prog w) A (call (.builtin "min") [.ref l]) Q E s:=by
 refine call_function_tree F.kind_min F.plain_min F.entry_min (F.args_min1 _) (by
  show wpAny _ A.in1 (Builtin.Builtins.bindParams "min" ["key","default"] 0 ⟨[],[]⟩ >>= _) _ _ s
  refine wpAny_bind (wpAny_of_eq (a:=[none,none]) rfl ?_)
  refine wpAny_bind (wpAny_pure ?_)
  refine wpAny_bind (wpAny_pyIter_list hl (wpAny_bind (wpAny_newObj_type ?_)))
  rw [pW]
  have hlt:∀ {c:Nat} {o:Obj},s.heap.get? c=some o->c < s.heap.objs.size:=λe=>AK e
  obtain ⟨ol,hol,_⟩:=id hl
  have hll:(l:Nat) < s.heap.objs.size:=AK hol
  have hsz:∀ ob:Obj,(s.heap.push ob).objs.size=s.heap.objs.size+1:=λob=>Bk ..
  have W:=Walks.list (prog:=prog) (w:=w) (A:=A.in1) hh s.heap.objs.size l (show (l:Nat)≠s.heap.objs.size from AR hll) items
  refine wpAny_pure ⟨plainId_quiet Cg _,ZjE (A:=A) (h0:=s.heap) W bt hcmp ?_ ?_ hn ?_ ⟨?_,?_⟩ (AC _ rfl) ?_⟩
  ·intro hm
   have hm':((s.heap.push { cls:=.type "list_iterator",data:=.fields #[.ref l,.int 0 0] }).objs.size:Nat)∈([s.heap.objs.size,l]:List Nat):=hm
   rw [hsz] at hm'
   rcases AO.mp hm' with z | z
   ·exact absurd z (Nat.succ_ne_self _)
   ·rcases AO.mp z with z | z
    ·have hll':=hll
     rw [<- z] at hll'
     exact absurd hll' (Nat.not_lt.mpr (C9 _))
    ·cases z
  ·intro (c:Nat) o e
   have hc:=hlt e
   refine ⟨λhm=>?_,?_⟩
   ·have hm':c=s.heap.objs.size:=by simpa using hm
    omega
   ·show c≠(s.heap.push { cls:=.type "list_iterator",data:=.fields #[.ref l,.int 0 0] }).objs.size
    rw [hsz]
    omega
  ·exact λc o e=>v9 _ (v9 _ e)
  ·exact ⟨_,v9 _ (AC _ rfl),rfl,rfl⟩
  ·exact hl.at λo e=>v9 _ (v9 _ e)
  ·intro v h' tk hP hk
   refine h h' tk v (λ(c:Nat) o e=>hk c o (λhm=>?_) ?_ (v9 _ (v9 _ e))) hP
   ·have hc:=hlt e
    have hm':c=s.heap.objs.size:=by simpa using hm
    omega
   ·have hc:=hlt e
    show c≠(s.heap.push { cls:=.type "list_iterator",data:=.fields #[.ref l,.int 0 0] }).objs.size
    rw [hsz]
    omega)
end
section
variable {X:Cx}
end
section
variable {X:Cx} {PK:Pk} {a b:Expr} {pos:Pos} {j:DP}
end
section
variable {prog:Program} {w:World} {A:Around} {E:DX} {s:Shared}
theorem ZmN {t b:Addr} {ws:D1} {Q:DX} (ht:IsTup s.heap t ([]:D1).toArray) (hb:IsTup s.heap b ws.toArray) (h1:Q (.ref b) s):wpAny (model prog w) A (binaryOp .Add (.ref t) (.ref b)) Q E s:=by
 obtain ⟨⟨cls,dd,data,sl⟩,ho,hc,n,hd⟩:=id ht
 obtain ⟨⟨cls2,dd2,data2,eJ⟩,ho2,hc2,n2,hd2⟩:=id hb
 simp only at hc hd hc2 hd2
 subst hc hd hc2 hd2
 exact concat_meets ⟨_,ho,rfl⟩ ⟨_,ho2,rfl⟩ noFill_tuple_add seq_tuple_add C1 C0 (CY _ _) (tuple_addW0 t b _ ws.toArray n n2 dd dd2 sl eJ rfl) ⟨ho,ho2,h1⟩
end
section
variable {X:Cx}
noncomputable def Zco (K:DO):R2:=λx y H Q=>∃ a b ys,x=.ref a/\y=.ref b/\SqT K H a []/\SqT K H b ys/\Q (.ref b) H
theorem Zjf:OpR X (binaryOp .Add) (Zco X.K):=by
 intro pins s σ H x y v u Q I rx ry h
 obtain ⟨a,b,ys,rfl,rfl,ha,hb,q⟩:=h
 cases rx
 cases ry
 obtain ⟨its,r1,p1,_⟩:=I.tuple ha
 obtain ⟨its2,r2,p2,_⟩:=I.tuple hb
 cases r1
 exact ZmN p1 p2 ⟨.ref b,H,I,rfl,q⟩
noncomputable def dJ:DW
 | .tuple [],.tuple ys=>some (.tuple ys)
 | x,y=>bg x y
noncomputable def Zcr (K:DO):R2:=λx y H Q=>xH K x y H Q\/Zco K x y H Q
theorem eY:OpR X (binaryOp .Add) (Zcr X.K):=bC.or Zjf
theorem eU {K:DO}:cN (Zcr K) dJ:=λPK pa m G H x y dx dy dz Q w hx hy hz k=>by
 unfold dJ at hz
 split at hz
 ·cases hz
  cases hx with
  | tup a1 a2 =>
   cases a2
   cases hy with
   | tup b1 b2=>exact .inr ⟨_,_,_,rfl,rfl,SqT.of (w.sub _ _ a1),SqT.of (w.sub _ _ b1),k.here w (.tup b1 b2)⟩
 ·exact .inl (bB PK pa m G H x y _ _ dz Q w hx hy hz k)
theorem ny {ys:DY}:aU dJ (.tuple []) (.tuple ys)=.ret (.tuple ys):=rfl
theorem nv {x:PyData} {xs ys:DY} (h:small ((x::xs).length+ys.length)=true):aU dJ (.tuple (x::xs)) (.tuple ys)=.ret (.tuple (x::xs++ys)):=by
 show Tr.of (bg (.tuple (x::xs)) (.tuple ys))=_
 unfold bg
 simp only [Ci,AI,Bq,h,if_true]
 rfl
end
section
variable {PK:Pk} {X:Cx} {a b:Expr} {pos:Pos} {i j:DP}
end
theorem mY {α:Type} {n:Nat}:∀ {us:List α},us.length=n+1->∃ (a:α) (t:List α),us=a::t/\t.length=n
 | a::t,h=>⟨a,t,rfl,BV h⟩
theorem ZjV {α:Type} {us:List α} (h:us.length=0):us=[]:=List.eq_nil_of_length_eq_zero h
theorem Zdq {α:Type} {us:List α} (h:us.length=1):∃ a,us=[a]:=by
 obtain ⟨a,t,rfl,h2⟩:=mY h
 exact ⟨a,by rw [ZjV h2]⟩
theorem Zdp {α:Type} {us:List α} (h:us.length=2):∃ a0 a1,us=[a0,a1]:=by
 obtain ⟨a0,t,rfl,h2⟩:=mY h
 obtain ⟨a1,rfl⟩:=Zdq h2
 exact ⟨a0,a1,rfl⟩
theorem Zdo {α:Type} {us:List α} (h:us.length=3):∃ a0 a1 a2,us=[a0,a1,a2]:=by
 obtain ⟨a0,t,rfl,h2⟩:=mY h
 obtain ⟨a1,a2,rfl⟩:=Zdp h2
 exact ⟨a0,a1,a2,rfl⟩
theorem Zdn {α:Type} {us:List α} (h:us.length=4):∃ a0 a1 a2 a3,us=[a0,a1,a2,a3]:=by
 obtain ⟨a0,t,rfl,h2⟩:=mY h
 obtain ⟨a1,a2,a3,rfl⟩:=Zdo h2
 exact ⟨a0,a1,a2,a3,rfl⟩
theorem ZjX {α:Type} {us:List α} (h:us.length=5):∃ a0 a1 a2 a3 a4,us=[a0,a1,a2,a3,a4]:=by
 obtain ⟨a0,t,rfl,h2⟩:=mY h
 obtain ⟨a1,a2,a3,a4,rfl⟩:=Zdn h2
 exact ⟨a0,a1,a2,a3,a4,rfl⟩
section
variable {PK:Pk} {X:Cx} {pos:Pos} {n:Nat} {is:DQ} {s t:DS}
end
section
variable {PK:Pk} {X:Cx} {a b c d e:Expr} {pos:Pos} {i j l n:DP}
end
end L2
set_option exponentiation.threshold 9000
namespace Tw
open L2
def nb (k:Nat) (n:Int):Prop:=n.natAbs < 2 ^ k
theorem aY {k:Nat} {n:Int} (h:nb k n) (hk:k<=8000):fit n=true:=decide_eq_true (AD h (C7 (by decide) hk))
theorem aO {k l:Nat} {n:Int} (h:nb k n) (hk:k<=l):nb l n:=AD h (C7 (by decide) hk)
theorem db {k l:Nat} {m n:Int} (h:nb k m) (h':nb l n):nb (k+l) (m * n):=by
 unfold nb at *
 rw [BH,Nat.pow_add]
 exact Nat.mul_lt_mul'' h h'
theorem dO {k l:Nat} {m n:Int} (h:nb k m) (h':nb l n):nb (max k l+1) (m+n):=by
 have h1:=aO h (Nat.le_max_left k l)
 have h2:=aO h' (Nat.le_max_right k l)
 unfold nb at *
 rw [Nat.pow_succ,Nat.mul_two]
 exact By (Int.natAbs_add_le m n) (Nat.add_lt_add h1 h2)
theorem ir {k:Nat} {n:Int} (h:nb k n):nb k (-n):=by
 unfold nb at *
 omega
theorem ip {k l:Nat} {m n:Int} (h:nb k m) (h':nb l n):nb (max k l+1) (m - n):=by
 rw [Int.sub_eq_add_neg]
 exact dO h (ir h')
theorem bS {k:Nat} {n:Int} (h1:-(2 ^ k:Nat) < n) (h2:n < (2 ^ k:Nat)):nb k n:=by
 unfold nb
 omega
theorem jP {k:Nat} {c:Prop} [Decidable c] {m n:Int} (h:nb k m) (h':nb k n):nb k (if c then m else n):=by split <;> assumption
noncomputable def ws (f:Int->Int):Nat->List Int->Int
 | _,[]=>0
 | k,w::l=>w * f k+ws f (k+1) l
structure Shp where
 top:Int
 depth:Int
 start:Int
 piece:Int
 keep:Int
 lack:Int
 lost:Int
 back:Int
 late:Int
noncomputable def Shp.l (s:Shp):DZ:=[s.top,s.depth,s.start,s.piece,s.keep,s.lack,s.lost,s.back,s.late]
@[irreducible] noncomputable def Shp.d (s:Shp):PyData:=.tuple (s.l.map PyData.int)
structure Shp.Ok (s:Shp):Prop where
 t0:0<=s.top
 d0:0<=s.depth
 td:s.top+s.depth<=100
 start0:0<=s.start
 start:nb 45 s.start
 piece:nb 45 s.piece
 keep:nb 45 s.keep
 lack:nb 45 s.lack
 lost:nb 45 s.lost
 back:nb 45 s.back
 late:nb 45 s.late
theorem oK (s:Shp):aU ap s.d (.int 0)=.ret (.int s.top):=by unfold Shp.d; rw [fU]; exact congrArg Tr.of j7
theorem oJ (s:Shp):aU ap s.d (.int 1)=.ret (.int s.depth):=by unfold Shp.d; rw [fU]; exact congrArg Tr.of lJ
theorem oI (s:Shp):aU ap s.d (.int 2)=.ret (.int s.start):=by unfold Shp.d; rw [fU]; exact congrArg Tr.of lI
theorem oH (s:Shp):aU ap s.d (.int 3)=.ret (.int s.piece):=by unfold Shp.d; rw [fU]; exact congrArg Tr.of nI
theorem oG (s:Shp):aU ap s.d (.int 4)=.ret (.int s.keep):=by unfold Shp.d; rw [fU]; exact congrArg Tr.of nH
theorem oF (s:Shp):aU ap s.d (.int 5)=.ret (.int s.lack):=by unfold Shp.d; rw [fU]; exact congrArg Tr.of nG
theorem oE (s:Shp):aU ap s.d (.int 6)=.ret (.int s.lost):=by unfold Shp.d; rw [fU]; exact congrArg Tr.of nF
theorem oD (s:Shp):aU ap s.d (.int 7)=.ret (.int s.back):=by unfold Shp.d; rw [fU]; exact congrArg Tr.of nE
theorem oC (s:Shp):aU ap s.d (.int 8)=.ret (.int s.late):=by unfold Shp.d; rw [fU]; exact congrArg Tr.of nD
section
variable (s:Shp)
noncomputable def Shp.nx (y f:Int):Int:=eL (y - f) (-s.depth)
noncomputable def Shp.day (y f:Int):Int:=(if s.nx y f > 0 then s.keep * s.nx y f else s.lack * -s.nx y f)+s.lost * (s.nx y f - (y - f))
noncomputable def Shp.ord (x y:Int):Int:=if y<=x then 0 else s.start+s.piece * (y - x)
noncomputable def Shp.fin (x:Int):Int:=if x > 0 then -s.back * x else s.late * -x
end
noncomputable def Shp.n (s:Shp):Nat:=(s.top+1 - -s.depth).toNat
noncomputable def tI (l:DZ):PyData:=.tuple (l.map PyData.int)
noncomputable def fD (fs:List DZ):PyData:=.tuple (fs.map tI)
theorem Shp.Ok.n_eq {s:Shp} (h:s.Ok):(s.n:Int)=s.top+s.depth+1:=by have:=h.t0; have:=h.d0; unfold Shp.n; omega
theorem im (s:Shp) (y f:Int):-s.depth<=s.nx y f:=by unfold Shp.nx eL; split <;> omega
theorem il {s:Shp} (h:s.Ok) {y f:Int} (hy:y<=s.top) (hf:0<=f):s.nx y f<=s.top:=by have:=h.t0; have:=h.d0; unfold Shp.nx eL; split <;> omega
end Tw
namespace L2
variable {ρ:D5} {s t:DS} {i j l:DP} {is:DQ} {k n:Nat} {x y d:PyData} {xs ys:DY} {sl:Sl}
theorem oZ {α β:Type} {a:α} {f:α->Tr β}:(Tr.ret a).bind f=f a:=Eq.trans (Tr.ret_bind a f) (Eq.refl _)
theorem qG {gs:DU}:lr gs (.list xs) ρ=gs xs ρ:=by
 cases h:gs xs ρ <;> exact h
noncomputable def mi (xs:DY):Tr DY:=.ret xs.reverse
noncomputable def ZbF (x:PyData):Tr DY:=(dF x).bind mi
theorem r6:Ab i ρ=(i ρ).bind ZbF:=rfl
theorem rW:ZbF x=(dF x).bind mi:=rfl
theorem rV:mi xs=.ret xs.reverse:=rfl
noncomputable def ZbE (xs:DY):Tr DY:=(eK xs).bind mi
theorem rZ:Aa is ρ=(is ρ).bind ZbE:=rfl
theorem rT:ZbE xs=(eK xs).bind mi:=rfl
theorem ZnF {α:Type} {t:Tr α} {P:α->Prop} (h:Al t 0 P):∃ a,t=.ret a/\P a:=by
 have h':=h.out
 cases t with
 | ret a=>exact ⟨a,rfl,h'⟩
 | draw w k=>exact h'.elim
 | fail=>exact h'.elim
theorem nM {α:Type} {t:Tr α} {a:α} (h:Al t 0 λb=>b=a):t=.ret a:=by
 obtain ⟨b,e,rfl⟩:=ZnF h
 exact e
theorem Zec {s:DS} {g:DV} {n:Nat} {full:DY} (I:List PyData->List Sl->Prop) {Q:Ou->Prop} (ht:∀ pre x post ρ,full=pre++x::post->I pre ρ->∃ ρ1,g x ρ=some ρ1/\(s ρ1).all n λo=>∃ ρ2,o=.next ρ2/\I (pre++[x]) ρ2) (hq:∀ ρ,I full ρ->Q (.next ρ)) :
  ∀ {xs pre:DY} {ρ:D5},full=pre++xs->I pre ρ->(ck g s xs ρ).all (xs.length * n) Q
 | [],pre,ρ,e,h0=>hq ρ (by rw [e,A4]; exact h0)
 | x::xs,pre,ρ,e0,h0=>by
  obtain ⟨ρ1,e,ha⟩:=ht pre x xs ρ e0 h0
  have en:(x::xs).length * n=n+xs.length * n:=by rw [Au,Cp]; omega
  rw [en,lu,e,Tr.of_some,Tr.ret_bind]
  unfold iB
  refine Tr.all_bind ha λo ⟨ρ2,eo,h2⟩=>?_
  subst eo
  rw [gX]
  exact Zec I ht hq (by rw [e0,Bh]; rfl) h2
theorem jt {n N:Nat} {g:DV} {s:DS} {xs:DY} {ρ:D5} {Q:Ou->Prop} (I:List PyData->List Sl->Prop) (h0:I [] ρ) (hN:xs.length * n<=N) (ht:∀ pre x post ρ,xs=pre++x::post->I pre ρ->∃ ρ1,g x ρ=some ρ1/\Al (s ρ1) n λo=>∃ ρ2,o=.next ρ2/\I (pre++[x]) ρ2) (hq:∀ ρ,I xs ρ->Q (.next ρ)):Al (ck g s xs ρ) N Q :=
 .of (Tr.all_mono (Zec (full:=xs) I (λpre x post ρ e h=>let ⟨ρ1,e,a⟩:=ht pre x post ρ e h; ⟨ρ1,e,a.out⟩) hq (pre:=[]) rfl h0) hN λ_ h=>h)
theorem Zea {g:DV} {s:DS} {f:PyData->Option Re} (I:List Sl->Prop) :
  ∀ {xs:DY} {ρ:D5},(∀ x∈xs,∀ ρ,I ρ->∃ ρ1,g x ρ=some ρ1/\((∃ r,f x=some r/\s ρ1=.ret (.ret r))\/(f x=none/\∃ ρ2,s ρ1=.ret (.next ρ2)/\I ρ2)))->I ρ ->
   (∃ r,xs.findSome? f=some r/\ck g s xs ρ=.ret (.ret r))\/(xs.findSome? f=none/\∃ ρ2,ck g s xs ρ=.ret (.next ρ2)/\I ρ2)
 | [],ρ,_,h0=>.inr ⟨rfl,ρ,rfl,h0⟩
 | x::xs,ρ,h,h0=>by
  obtain ⟨ρ1,e,hx⟩:=h x (by simp) ρ h0
  rw [lu,e,Tr.of_some,Tr.ret_bind]
  unfold iB
  rcases hx with ⟨r,e1,e2⟩ | ⟨e1,ρ2,e2,h2⟩
  ·exact .inl ⟨r,by simp [e1],by rw [e2,Tr.ret_bind]; rfl⟩
  ·rw [e2,Tr.ret_bind,gX]
   rcases Zea I (λy hy=>h y (Az _ hy)) h2 with ⟨r,q1,q2⟩ | ⟨q1,ρ3,q2,q3⟩
   ·exact .inl ⟨r,by simp [e1,q1],q2⟩
   ·exact .inr ⟨by simp [e1,q1],ρ3,q2,q3⟩
theorem ZbL {lo hi:Int} {pre post:DY} {x:PyData} (h:bi lo hi=pre++x::post):x=.int (lo+pre.length)/\(pre.length:Int) < hi - lo:=by
 have h1:(bi lo hi)[pre.length]?=some x:=by rw [h]; simp
 have hl:pre.length < (bi lo hi).length:=(Ay.mp h1).1
 rw [di] at hl
 unfold bi aQ at h1
 rw [AS,AM,Co (by omega)] at h1
 refine ⟨?_,by omega⟩
 cases h1
 rfl
theorem vq {xs:DY} {pre post:DY} {x:PyData} (h:fF xs=pre++x::post):∃ y,xs[pre.length]?=some y/\x=.tuple [.int pre.length,y]:=by
 have h1:(fF xs)[pre.length]?=some x:=by rw [h]; simp
 unfold fF at h1
 rw [List.getElem?_zipWith] at h1
 cases hx:xs[pre.length]? with
 | none=>rw [hx] at h1; simp at h1
 | some y =>
  have hl:pre.length < xs.length:=(Ay.mp hx).1
  rw [hx,Co hl] at h1
  simp at h1
  exact ⟨y,rfl,h1.symm⟩
theorem vz (xs:DY):(fF xs).length=xs.length:=by unfold fF; simp
end L2
namespace Tw
open L2
theorem lC {s:Shp} (h:s.Ok) {y f:Int} (hy:nb 20 y) (hf:nb 40 f):nb 100 (s.day y f):=by
 have hd:nb 7 s.depth:=by have:=h.t0; have:=h.d0; have:=h.td; exact bS (by show -128 < _; omega) (by show _ < 128; omega)
 have hn:nb 50 (s.nx y f):=by
  unfold Shp.nx eL
  exact jP (aO (ir hd) (by decide)) (aO (ip hy hf) (by decide))
 unfold Shp.day
 refine aO (dO (jP (k:=95) (db h.keep hn) (db h.lack (ir hn))) (db h.lost (ip hn (ip hy hf)))) (by decide)
def Bd (s:Shp) (b:Nat) (f:Int->Int):Prop:=∀ x,-s.depth<=x->x<=s.top->nb b (f x)
theorem lx {s:Shp} (h:s.Ok):Bd s 100 s.fin:=λx h1 h2=>by
 have:=h.t0
 have:=h.d0
 have:=h.td
 have hx:nb 20 x:=bS (by show -1048576 < _; omega) (by show _ < 1048576; omega)
 unfold Shp.fin
 exact aO (jP (k:=65) (db (ir h.back) hx) (db h.late (ir hx))) (by decide)
noncomputable abbrev rng (lo hi:Int):DZ:=aQ lo (hi - lo).toNat
variable {α:Type}
theorem Zih (lo:Int) (a b:Nat):aQ lo (a+b)=aQ lo a++aQ (lo+a) b:=by
 unfold aQ
 rw [List.range_add,Bu,AS]
 congr 1
 apply BD
 intro k _
 show lo+((a+k:Nat):Int)=lo+(a:Int)+(k:Int)
 omega
noncomputable def f3 (lo a b c:Int) (t:Int->Int->Int->Option α):Option α:=(rng lo a).findSome? λu=>(rng (u+1) b).findSome? λv=>(rng (v+1) c).findSome? λw=>t u v w
structure Shp.Dr (s:Shp):Prop where
 t0:0<=s.top
 d0:0<=s.depth
 td:s.top+s.depth<=39
 p:∀ n∈[s.start,s.piece,s.keep,s.lack,s.lost,s.back,s.late],0<=n/\n<=1000000
theorem Shp.Dr.ok {s:Shp} (h:s.Dr):s.Ok:=by
 have hp:=h.p
 simp only [AO,BU,or_false,forall_eq_or_imp,forall_eq] at hp
 obtain ⟨h1,h2,h3,h4,h5,h6,h7⟩:=hp
 have k:∀ n:Int,0<=n/\n<=1000000->nb 45 n:=λn hn=>bS (by show -35184372088832 < _; omega) (by show _ < 35184372088832; omega)
 exact ⟨h.t0,h.d0,by have:=h.td; omega,h1.1,k _ h1,k _ h2,k _ h3,k _ h4,k _ h5,k _ h6,k _ h7⟩
theorem ZaX {a b c d e f g h i:Int}:PyData.tuple [.int a,.int b,.int c,.int d,.int e,.int f,.int g,.int h,.int i]=(Shp.mk a b c d e f g h i).d:=by
 unfold Shp.d
 rfl
theorem ZdP (l:DZ):dF (tI l)=.ret (l.map PyData.int):=rfl
theorem lh (l:List DZ):dF (fD l)=.ret (l.map tI):=rfl
structure Rp (d:PyData) (k n:Nat):Prop where
 hd:d.hasDict=false
 sh:d.showable=true
 dp:d.depth<=k
 ln:d.shown.length<=n
theorem ZbG {d:PyData} {k n:Nat} (h:Rp d k n) (hk:k<=32) (hn:n<=10000000):oY d=true:=by
 unfold oY
 rw [h.hd,h.sh,decide_eq_true (AL h.dp hk),decide_eq_true (AL h.ln (AL hn (by rw [sizeLine_eq]; decide)))]
 rfl
theorem cm {d:PyData} {k n k' n':Nat} (h:Rp d k n) (hk:k<=k') (hn:n<=n'):Rp d k' n':=⟨h.hd,h.sh,AL h.dp hk,AL h.ln hn⟩
theorem ZhW:Rp .none 0 10:=⟨rfl,rfl,Bg _,by trivial⟩
theorem ZbI (b:Bool):Rp (.bool b) 0 10:=by cases b <;> exact ⟨rfl,rfl,Bg _,by trivial⟩
theorem oX {i:Int} (h:nb 1900 i):Rp (.int i) 0 1901:=by
 have h1:=ZaZ [i] λn hn=>by simp at hn; subst hn; exact h
 have h2:=(ZaY [i] λn hn=>by simp at hn; subst hn; exact h).1
 refine ⟨rfl,?_,Bg _,?_⟩
 ·simp only [Ax,BO,PyData.showableAll,Ck] at h1
  exact h1
 ·simp only [Ax,BO,PyData.shownAll,BX,List.sum_nil,Au,AE] at h2
  omega
theorem xA {k n:Nat}:∀ {xs:DY},(∀ x∈xs,Rp x k n)->PyData.hasDictAll xs=false/\PyData.showableAll xs=true/\PyData.depthAll xs<=k/\((PyData.shownAll xs).map (·.length)).sum<=xs.length * n/\(PyData.shownAll xs).length=xs.length
 | [],_=>⟨rfl,rfl,Bg _,by simp [PyData.shownAll],rfl⟩
 | x::xs,h=>by
  obtain ⟨h1,h2,h3,h4,h5⟩:=xA (xs:=xs) λy hy=>h y (Az _ hy)
  have hx:=h x (by simp)
  refine ⟨?_,?_,?_,?_,?_⟩
  ·rw [PyData.hasDictAll,hx.hd,h1]; rfl
  ·rw [PyData.showableAll,hx.sh,h2]; rfl
  ·rw [PyData.depthAll]; have:=hx.dp; omega
  ·rw [PyData.shownAll,Ax,BX,Au,Cp]; have:=hx.ln; omega
  ·rw [PyData.shownAll,Au,Au,h5]
theorem iS {xs:DY} {k n:Nat} (h:∀ x∈xs,Rp x k n):Rp (.tuple xs) (k+1) (xs.length * n+2 * xs.length+10):=by
 obtain ⟨h1,h2,h3,h4,h5⟩:=xA h
 have c3:=tupleText_len_le (PyData.shownAll xs)
 refine ⟨?_,?_,?_,?_⟩
 ·rw [PyData.hasDict,h1]
 ·rw [PyData.showable,h2]
 ·rw [PyData.depth]; omega
 ·rw [PyData.shown]; omega
theorem ZbH {xs:DY} {k n:Nat} (h:∀ x∈xs,Rp x k n):Rp (.list xs) (k+1) (xs.length * n+2 * xs.length+10):=by
 obtain ⟨h1,h2,h3,h4,h5⟩:=xA h
 have c3:=listText_len_le (PyData.shownAll xs)
 refine ⟨?_,?_,?_,?_⟩
 ·rw [PyData.hasDict,h1]
 ·rw [PyData.showable,h2]
 ·rw [PyData.depth]; omega
 ·rw [PyData.shown]; omega
theorem xz {l:DZ} {m:Nat} (h:∀ n∈l,nb 1900 n) (hl:l.length<=m):Rp (tI l) 1 (m * 1903+10):=by
 refine cm (iS (k:=0) (n:=1901) λx hx=>?_) (Aw _) ?_
 ·obtain ⟨i,hi,rfl⟩:=AV.mp hx
  exact oX (h i hi)
 ·rw [At]
  have:l.length * 1903<=m * 1903:=Nat.mul_le_mul_right _ hl
  omega
theorem ZhV {s:Shp} (h:s.Ok):Rp s.d 1 20000:=by
 have e:s.d=tI s.l:=by unfold Shp.d; rfl
 rw [e]
 refine cm (xz (m:=9) (λn hn=>?_) (Aw _)) (Aw _) (by decide)
 have:=h.t0
 have:=h.d0
 have:=h.td
 unfold Shp.l at hn
 simp only [AO,BU,or_false] at hn
 have k:∀ n:Int,nb 45 n->nb 1900 n:=λn hn=>aO hn (by decide)
 have k1:nb 1900 s.top:=k _ (bS (by show -35184372088832 < _; omega) (by show _ < 35184372088832; omega))
 have k2:nb 1900 s.depth:=k _ (bS (by show -35184372088832 < _; omega) (by show _ < 35184372088832; omega))
 rcases hn with rfl | rfl | rfl | rfl | rfl | rfl | rfl | rfl | rfl
 ·exact k1
 ·exact k2
 ·exact k _ h.start
 ·exact k _ h.piece
 ·exact k _ h.keep
 ·exact k _ h.lack
 ·exact k _ h.lost
 ·exact k _ h.back
 ·exact k _ h.late
theorem Zg8 (x:Str):(x == x)=true:=by simp
theorem euclid {p:DR} {s:DS} {E:Nat->Nat->List Sl} (hp:∀ a b:Nat,p (E a b)=.ret (decide (b≠0))) (hs:∀ a b:Nat,b≠0->s (E a b)=.ret (.next (E b (a % b)))) :
  ∀ n k a b:Nat,b < 2 ^ n->fh p s (2 * n+1+k) (E a b)=.ret (.next (E (Nat.gcd a b) 0)):=by
 have stop:∀ k a:Nat,fh p s (k+1) (E a 0)=.ret (.next (E a 0)):=λk a=>by
  rw [fh,hp,Tr.ret_bind]
  rfl
 have go:∀ k a b:Nat,b≠0->fh p s (k+1) (E a b)=fh p s k (E b (a % b)):=λk a b hb=>by
  rw [fh,hp,Tr.ret_bind,decide_eq_true hb,if_pos rfl,hs a b hb,Tr.ret_bind]
 intro n
 induction n with
 | zero =>
  intro k a b hb
  have e:b=0:=by simp at hb; exact hb
  subst e
  rw [Nat.gcd_zero_right,Nat.add_comm (2 * 0+1) k]
  exact stop k a
 | succ n ih =>
  intro k a b hb
  by_cases h0:b=0
  ·subst h0
   have e:2 * (n+1)+1+k=(2 * (n+1)+k)+1:=by omega
   rw [Nat.gcd_zero_right,e]
   exact stop _ a
  ·have e:2 * (n+1)+1+k=(2 * n+2+k)+1:=by omega
   rw [e,go _ a b h0]
   have hr:a % b < b:=Nat.mod_lt _ (BW h0)
   by_cases h1:a % b=0
   ·rw [h1]
    have e2:2 * n+2+k=(2 * n+1+k)+1:=by omega
    have eg:Nat.gcd a b=b:=by rw [CS,Nat.gcd_rec,h1,Nat.gcd_zero_left]
    rw [e2,eg]
    exact stop _ b
   ·have e2:2 * n+2+k=(2 * n+1+k)+1:=by omega
    rw [e2,go _ b (a % b) h1]
    have hlt:b % (a % b) < 2 ^ n:=by
     have h2:b % (a % b) < a % b:=Nat.mod_lt _ (BW h1)
     have h3:b % (a % b)+a % b<=b:=by
      have h4:=Nat.div_add_mod b (a % b)
      have h5:1<=b / (a % b):=(Nat.le_div_iff_mul_le (BW h1)).mpr (by omega)
      have h6:a % b<=(a % b) * (b / (a % b)):=Nat.le_mul_of_pos_right _ h5
      omega
     rw [Nat.pow_succ] at hb
     omega
    rw [ih k (a % b) (b % (a % b)) hlt]
    have eg:Nat.gcd a b=Nat.gcd (a % b) (b % (a % b)):=by
     rw [CS a b,Nat.gcd_rec b a,Nat.gcd_rec (a % b) b,CS]
    rw [eg]
theorem Zei (a b:Nat):(a:Int).fmod (b:Int)=((a % b:Nat):Int):=by
 rw [CQ _ (Int.natCast_nonneg b)]
 rfl
theorem ZfX (n:Int):vR n=(n.natAbs:Int):=by
 unfold vR
 split <;> omega
noncomputable def gK (t b:Int):PyData:=.tuple [.int (Gc.cB t b),.int (Gc.bQ t b)]
theorem yn {t b:Int} {k l:Nat} (ht:nb k t) (hb:nb l b) (h0:b≠0):nb k (Gc.cB t b)/\nb l (Gc.bQ t b):=by
 obtain ⟨h1,h2⟩:=Gc.ZjP (t:=t) h0
 exact ⟨By h1 ht,By h2 hb⟩
theorem ZeO {t b:Int} {l:Nat} (hb:nb l b) (h0:b≠0):nb l (Gc.den t b):=by
 unfold nb
 rw [Gc.zj]
 exact By (Nat.gcd_le_right _ (by omega)) hb
noncomputable def pr (p:Int×Int):DZ:=[p.1,p.2]
end Tw
namespace HT
section
open PySem.SeqAt
open PySem.AutoSeq1 (wpAny_loadPart')
open PySem.MeetsSeq PySem.MeetsSeq2 PySem.MeetsSeq3
theorem ZgB (l b:Addr) (a c:Int) (t u:Tok) (y x:Value) (n n2:Nat) (dd dd2:Option Addr) (sl eJ:Array (Option Value)) (e q:Bool) :
  Meets (Builtin.«tuple.__lt__» ⟨[.ref l,.ref b],[]⟩)
   (λA R s=>s.heap.get? l=some { cls:=.type "tuple",dict:=dd,data:=.seq #[.int a t,y] n,slots:=sl }/\s.heap.get? b=some { cls:=.type "tuple",dict:=dd2,data:=.seq #[.int c u,x] n2,slots:=eJ } /\
    EqAt A.in1 s y x e/\(∀ (prog:Program) (w:World) (E:DX) (Q:DX),Q (.bool q) s->wpAny (model prog w) A.in1 (richCompare .Lt y x) Q E s) /\
    R (.ok (.ret (.bool (if a=c then (if e=true then false else q) else decide (a < c))))) s) :=
 .of_wp λprog w A R s h=>by
  obtain ⟨hp,g,d,tk,os⟩:=s; obtain ⟨hl,hb,hE,hq,h⟩:=h
  have f2:=AutoSeq1.sub_tuple_tuple
  wp_walk using wpAny_loadPart' hl,wpAny_loadPart' hb,wpAny_forIn_list _ (λrest b s'=>b.1=none/\s'=⟨hp,g,d,tk,os⟩/\((rest=[(.int a t,.int c u),(y,x)])\/(rest=[(y,x)]/\a=c)\/(rest=[]/\a=c/\e=true))) _
  case turn =>
   rintro ⟨y',x'⟩ rest b s' ⟨hb',rfl,hz⟩
   rcases hz with hz | ⟨hz,hac⟩ | ⟨hz,_⟩
   ·injection hz with hyx hrest
    injection hyx with hy hx
    subst hy hx
    obtain ⟨e1,he1,hiff⟩:=Zep A.in1 ⟨hp,g,d,tk,os⟩ a t c u
    refine wpAny_bind (he1 prog w _ _ ?_)
    cases e1 with
    | true =>
     wp_walk
     exact ⟨rfl,rfl,.inr (.inl ⟨hrest,hiff.mp rfl⟩)⟩
    | false =>
     rw [if_neg (λq=>absurd (hiff.mpr q) AQ)] at h
     have hri:=ZbY A.in1 ⟨hp,g,d,tk,os⟩ a t c u prog w
     wp_walk using hri
     exact ⟨_,rfl,by simpa using h⟩
   ·injection hz with hyx hrest
    injection hyx with hy hx
    subst hy hx
    rw [if_pos hac] at h
    refine wpAny_bind (hE prog w _ _ ?_)
    cases e with
    | true =>
     wp_walk
     exact ⟨rfl,rfl,.inr (.inr ⟨hrest,hac,rfl⟩)⟩
    | false =>
     have hri:=hq prog w
     wp_walk using hri
     exact ⟨_,rfl,by simpa using h⟩
   ·cases hz
  case fin =>
   rintro ⟨b1,b2⟩ s' ⟨hb',rfl,hz⟩
   simp only at hb'
   subst hb'
   rcases hz with hz | ⟨hz,_⟩ | ⟨_,hac,he⟩
   ·cases hz
   ·cases hz
   ·rw [if_pos hac,if_pos he] at h
    wp_walk
    exact ⟨_,rfl,by simpa [Builtin.Tuple.tupleCompareSizes] using h⟩
  case h =>
   exact ⟨rfl,rfl,.inl rfl⟩
end
end HT
namespace HT
theorem Zdl:∀ ns:DZ,eN ns ns=false
 | []=>rfl
 | n::ns=>by rw [Zdm,if_pos rfl]; exact Zdl ns
theorem yE:∀ {vs:D1} {ns:DZ},IntsAre vs ns->vs.length=ns.length/\∀ j (h:j < vs.length),∃ t,vs[j]=.int (ns[j]?.getD 0) t
 | _,_,.nil=>⟨rfl,λj h=>by cases h⟩
 | _,_,.cons n t r=>by
  obtain ⟨h1,h2⟩:=yE r
  refine ⟨by rw [Au,Au,h1],λj h=>?_⟩
  cases j with
  | zero=>exact ⟨t,rfl⟩
  | succ j =>
   obtain ⟨t',e⟩:=h2 j (by simpa using h)
   exact ⟨t',by simpa using e⟩
theorem ZdX:∀ {vs:D1} {ns ms:DZ},IntsAre vs ns->IntsAre vs ms->ns=ms
 | _,_,_,.nil,h=>by cases h; rfl
 | _,_,_,.cons n t r,h=>by
  cases h with
  | cons _ _ r'=>rw [ZdX r r']
theorem ZnD {ns ms:DZ}:((List.range (min ns.length ms.length)).all (λj=>decide (ns[j]?.getD 0=ms[j]?.getD 0)) && ns.length == ms.length)=decide (ns=ms):=by
 rw [B5,AU,Bm,decide_eq_true_eq,beq_iff_eq]
 constructor
 ·rintro ⟨h1,h2⟩
  refine List.ext_getElem h2 λj a b=>?_
  have:=of_decide_eq_true (h1 j (Bw.mpr (by omega)))
  simpa [As a,As b] using this
 ·rintro rfl
  exact ⟨λj _=>decide_eq_true rfl,rfl⟩
section
variable {prog:Program} {w:World} {A:Around} {E:DX} {s:Shared}
theorem Zlk {l b:Addr} {items items2:Array Value} {ns ms:DZ} (hl:IsTup s.heap l items) (hb:IsTup s.heap b items2) (hi:IntsAre items.toList ns) (hj:IntsAre items2.toList ms) (hu:A.units < cLine) :
  SeqAt.EqAt A s (.ref l) (.ref b) (decide (ns=ms)):=by
 by_cases hlb:l=b
 ·subst hlb
  have e:items=items2:=by
   obtain ⟨o,h1,h2,n,h3⟩:=id hl
   obtain ⟨o',h1',h2',n',h3'⟩:=id hb
   rw [h1] at h1'
   cases h1'
   rw [h3] at h3'
   cases h3'
   rfl
  subst e
  rw [decide_eq_true (ZdX hi hj)]
  exact SeqAt.EqAt.same _
 ·obtain ⟨z1,g1⟩:=yE hi
  obtain ⟨z2,g2⟩:=yE hj
  have r:=SeqAt.RcAt.tuples (e:=λj=>decide (ns[j]?.getD 0=ms[j]?.getD 0)) hl hb hu λj h1 h2=>by
   obtain ⟨t1,e1⟩:=g1 j (by simpa using h1)
   obtain ⟨t2,e2⟩:=g2 j (by simpa using h2)
   have e1':items[j]=.int (ns[j]?.getD 0) t1:=by simpa using e1
   have e2':items2[j]=.int (ms[j]?.getD 0) t2:=by simpa using e2
   rw [e1',e2']
   exact SeqAt.EqAt.int_int (ns[j]?.getD 0) t1 (ms[j]?.getD 0) t2
  have s1:items.size=ns.length:=by rw [<- z1]; simp
  have s2:items2.size=ms.length:=by rw [<- z2]; simp
  rw [s1,s2,ZnD] at r
  exact SeqAt.EqAt.of_refs hlb r
noncomputable def cx (p q:Int×DZ):Bool:=if p.1=q.1 then eN p.2 q.2 else decide (p.1 < q.1)
theorem ZjL {l b r1 r2:Addr} {a c:Int} {t u:Tok} {dF it2:Array Value} {ns ms:DZ} {Q:DX} (hl:IsTup s.heap l #[.int a t,.ref r1]) (hb:IsTup s.heap b #[.int c u,.ref r2])
  (h1:IsTup s.heap r1 dF) (h2:IsTup s.heap r2 it2) (hi:IntsAre dF.toList ns) (hj:IntsAre it2.toList ms)
  (hu:A.units+1 < cLine) (h:Q (.bool (cx (a,ns) (c,ms))) s):wpAny (model prog w) A (compareOp .Lt (.ref l) (.ref b)) Q E s:=by
 obtain ⟨⟨cls,dd,data,sl⟩,ho,hc,n,hd⟩:=id hl
 obtain ⟨⟨cls2,dd2,data2,eJ⟩,ho2,hc2,n2,hd2⟩:=id hb
 simp only at hc hd hc2 hd2
 subst hc hd hc2 hd2
 have ev:(if a=c then (if decide (ns=ms)=true then false else eN ns ms) else decide (a < c))=cx (a,ns) (c,ms):=by
  unfold cx
  dsimp only
  by_cases e:ns=ms
  ·rw [decide_eq_true e,if_pos rfl,e,Zdl]
  ·rw [decide_eq_false e,if_neg AQ]
 refine richCompare_meets_room (op:=.Lt) ⟨_,ho,rfl⟩ ⟨_,ho2,rfl⟩ PySem.F.slot_tuple_lt PySem.F.entry_tuple_lt (DJ _ _) (ZgB l b a c t u (.ref r1) (.ref r2) n n2 dd dd2 sl eJ (decide (ns=ms)) (eN ns ms))
  ⟨ho,ho2,Zlk h1 h2 hi hj ?_,λprog w E Q hq=>?_,?_⟩ (by omega)
 ·exact hu
 ·exact (ZjK h1 h2 hi hj hu hq:wpAny (model prog w) A.in1 (compareOp .Lt (.ref r1) (.ref r2)) Q E s)
 ·rw [ev]
  exact ⟨(λx=>nomatch x),h⟩
end
end HT
namespace L2
noncomputable def ZdT:PyData->Bool
 | .tuple _=>true
 | _=>false
mutual
noncomputable def dY:PyData->Bool
 | .none=>false
 | .bool _=>false
 | .int _=>false
 | .str _=>false
 | .list _=>true
 | .tuple xs=>fE xs
 | .dict kvs=>jk kvs
noncomputable def fE:List PyData->Bool
 | []=>false
 | x::xs=>dY x || fE xs
noncomputable def jk:List (PyData×PyData)->Bool
 | []=>false
 | (k,v)::r=>ZdT k || dY v || jk r
end
noncomputable def gU:aL->PyData
 | .inl i=>.int i
 | .inr x=>.str x
theorem Zd4:∀ {ks:List (aL×V)} {ds:DY},(ks.map λk=>gU k.1).length=ds.length->jk ((ks.map λk=>gU k.1).zip ds)=fE ds
 | [],[],_=>by simp only [BO,Dj,jk,fE]
 | k::ks,d::ds,h=>by
  have hk:ZdT (gU k.1)=false:=by obtain ⟨k,v⟩:=k; cases k <;> rfl
  rw [Ax,A1,jk,fE,hk,Bool.false_or,Zd4 (BV h)]
 | [],_::_,h=>by cases h
 | _::_,[],h=>by cases h
theorem Zka {P:Program} {w:World} {h:Heap}:∀ {es:List DictEntry} {vs:List (aL×Value)},Pairs (bP P w) es vs->ReadsAll h (es.map (·.key)) (vs.map λq=>gU q.1) []:=by
 intro es vs hp
 induction hp with
 | nil=>exact .nil
 | @cons e kv es kvs h1 h2 _ ih =>
  have h1':jW kv.1 e.key=true:=h1
  rcases gT h1' with ⟨i,t,e1,e2⟩ | ⟨x,t,e1,e2⟩
  ·rw [Ax,Ax,e1,e2]
   exact ReadsAll.cons (as:=[]) (bs:=[]) (.int i t) ih
  ·rw [Ax,Ax,e1,e2]
   exact ReadsAll.cons (as:=[]) (bs:=[]) (.str x t) ih
theorem Zi3 {P:Program} {w:World} {es:List DictEntry} {vs:List (aL×Value)} (hp:Pairs (bP P w) es vs):es.map (·.val)=vs.map (·.2):=by
 induction hp with
 | nil=>rfl
 | @cons e kv es kvs h1 h2 _ ih=>rw [Ax,Ax,h2,ih]
theorem Zj6:∀ {ks:List (aL×V)} {vs:List (aL×Value)},KV ks vs->Vals (ks.map (·.2)) (vs.map (·.2))/\(ks.map (·.1))=vs.map (·.1):=by
 intro ks vs kv
 unfold KV at kv
 induction kv with
 | nil=>exact ⟨.nil,rfl⟩
 | cons h _ ih=>exact ⟨.cons h.2 ih.1,by rw [Ax,Ax,h.1,ih.2]⟩
theorem Zaa:∀ {ks ds:DY},ks.length=ds.length->(ks.zip ds).map (·.1)=ks/\(ks.zip ds).map (·.2)=ds
 | [],[],_=>⟨rfl,rfl⟩
 | k::ks,d::ds,h=>by
  obtain ⟨h1,h2⟩:=Zaa (BV h)
  rw [A1,Ax,Ax,h1,h2]
  exact ⟨rfl,rfl⟩
 | [],_::_,h=>by cases h
 | _::_,[],h=>by cases h
theorem ZkB:∀ {ks:List (DZ×V)} {ds:DY},ks≠[]->ks.length=ds.length->dY (.dict ((ks.map λk=>PyData.tuple (k.1.map PyData.int)).zip ds))=true
 | [],_,h,_=>absurd rfl h
 | _::_,[],_,h=>by cases h
 | k::ks,d::ds,_,_=>by
  rw [Ax,A1,dY,jk]
  rfl
mutual
/-- data without lists -/
theorem Dn.readsD {P:Program} {w:World} {H:Hp} {h:Heap} (ok:HOk P w H h):∀ {v:V} {d:PyData} {u:Value},Dn H v d->dY d=false->RelV v u->∃ as,Reads h u d as/\∀ b∈as,b≠sysModules
 | _,_,_,.non,_,r=>by cases r; exact ⟨_,.none,λb hb=>nomatch hb⟩
 | _,_,_,.bl b,_,r=>by cases r; exact ⟨_,.bool b,λb hb=>nomatch hb⟩
 | _,_,_,.int i,_,r=>by obtain ⟨t,rfl⟩:=r; exact ⟨_,.int i t,λb hb=>nomatch hb⟩
 | _,_,_,.str x,_,r=>by obtain ⟨t,rfl⟩:=r; exact ⟨_,.str x t,λb hb=>nomatch hb⟩
 | _,_,_,.tup e rs,hd,r=>by
  cases r
  obtain ⟨z,its,rv,o,h1,h2,n,h3⟩:=ok _ _ e
  obtain ⟨as,q,hq⟩:=DnAll.readsD ok rs (by rw [dY] at hd; exact hd) rv
  exact ⟨_,.tuple h1 h2 h3 (by simpa using q),hq⟩
 | _,_,_,.lst e rs,hd,r=>by rw [dY] at hd; cases hd
 | _,_,_,.dct (ks:=ks) (ds:=ds) e rs,hd,r=>by
  cases r
  obtain ⟨z,hsys,vs,kv,o,es,ep,h1,⟨h2,_⟩,h3,_,hp,_⟩:=e.ok ok
  obtain ⟨k1,k2⟩:=Zj6 kv
  have hl:(ks.map λk=>gU k.1).length=ds.length:=by
   have:=rs.length
   rw [At] at this ⊢
   exact this
  have hd2:jk ((ks.map λk=>gU k.1).zip ds)=false:=by rw [dY] at hd; exact hd
  rw [Zd4 (ks:=ks) hl] at hd2
  obtain ⟨as,q,hq⟩:=DnAll.readsD ok rs hd2 k1
  obtain ⟨z1,z2⟩:=Zaa hl
  have k3:(ks.map λk=>gU k.1)=vs.map λq=>gU q.1:=by
   have:=congrArg (List.map gU) k2
   rw [AS,AS] at this
   exact this
  show ∃ as,Reads h _ (.dict ((ks.map λk=>gU k.1).zip ds)) as/\_
  refine ⟨_,.dict (as:=[]) (bs:=as) h1 h2 h3 ?_ ?_,λb hb=>?_⟩
  ·rw [z1,k3]
   exact Zka hp
  ·rw [z2,Zi3 hp]
   exact q
  ·rcases Bi.mp hb with hb | hb
   ·rw [Ce] at hb
    rw [hb]
    exact beq_eq_false_iff_ne.mp hsys
   ·exact hq b hb
 | _,_,_,.dcp (ks:=ks) (ds:=ds) hn e rs,hd,r=>by
  rw [ZkB hn (by have:=rs.length; rw [At] at this; exact this)] at hd
  cases hd
theorem DnAll.readsD {P:Program} {w:World} {H:Hp} {h:Heap} (ok:HOk P w H h):∀ {vs:D3} {ds:DY} {us:D1},DnAll H vs ds->fE ds=false->Vals vs us->∃ as,ReadsAll h us ds as/\∀ b∈as,b≠sysModules
 | _,_,_,.nil,_,r=>by cases r; exact ⟨_,.nil,λb hb=>nomatch hb⟩
 | _,_,_,.cons p t,hd,r=>by
  cases r with
  | cons r1 r2 =>
   rw [fE,Bool.or_eq_false_iff] at hd
   obtain ⟨as,q,hq⟩:=Dn.readsD ok p hd.1 r1
   obtain ⟨bs,q2,hq2⟩:=DnAll.readsD ok t hd.2 r2
   refine ⟨_,.cons q q2,λb hb=>?_⟩
   rcases Bi.mp hb with hb | hb
   ·exact hq b hb
   ·exact hq2 b hb
end
def Zb9 (xs:D3) (H:Hp) (Q:VK):Prop:=∃ v d,xs=[v]/\Dn H v d/\(d.hasDict=false\/dY d=false)/\d.showable=true/\d.depth<=32/\d.shown.length<=sizeLine/\Q (.str d.shown) H
theorem vI {X:Cx} {k:Nat} (hr:Room k X.A):dL X (.builtin "repr") Zb9:=by
 intro pins s σ H xs us Q I r h
 obtain ⟨v,d,rfl,hd,hor,hs,hdp,hz,q⟩:=h
 obtain ⟨u,rfl,ru⟩:=eB r
 have hun:=hr.units
 have key:∀ (as:List Addr),Reads s.heap u d as->(d.hasDict=true->sysModules ∉ as)->wpAny (model X.prog X.w) X.A (call (.builtin "repr") [u]) (EP X pins σ Q) X.xe s:=by
  intro as rd hsm
  have viaRef:∀ {a:Addr},u=.ref a->wpAny (model X.prog X.w) X.A (call (.builtin "repr") [u]) (EP X pins σ Q) X.xe s:=λ{a} e=>by
   subst e
   exact repr_of_reads' rd hs hsm hr.gd (by omega) (λ_ _ e=>e) (λh' u' tk hk=>⟨.str d.shown,H,I.kept hk,⟨_,rfl⟩,q⟩) hz
  cases rd with
  | none=>exact PySem.P.repr_of_none ⟨.str "None",H,I.tok _,⟨_,rfl⟩,q⟩
  | bool b=>exact PySem.P.repr_of_bool ⟨.str (if b then "True" else "False"),H,I.tok _,⟨_,rfl⟩,q⟩
  | int i t=>exact PySem.P.repr_of_int (by simpa [PyData.showable] using hs) ⟨.str (toString i),H,I.tok _,⟨_,rfl⟩,q⟩
  | str x t=>exact PySem.P.repr_of_str ⟨.str (reprText x),H,I.tok _,⟨_,rfl⟩,q⟩ hz
  | list h1 h2 h3 h4=>exact viaRef rfl
  | tuple h1 h2 h3 h4=>exact viaRef rfl
  | dict h1 h2 h3 h4 h5=>exact viaRef rfl
 rcases hor with hn | hn
 ·obtain ⟨as,rd⟩:=Dn.reads I.hok hd hn ru
  exact key as rd (PyData.noDict_hsm hn)
 ·obtain ⟨as,rd,hsys⟩:=Dn.readsD I.hok hd hn ru
  exact key as rd λ_ hm=>hsys _ hm rfl
noncomputable def iV (d:PyData):Bool:=(!d.hasDict || !dY d) && d.showable && decide (d.depth<=32) && decide (d.shown.length<=sizeLine)
noncomputable def jJ:List PyData->Option PyData
 | [d]=>if iV d=true then some (.str d.shown) else none
 | _=>none
theorem oj:fJ Zb9 jJ:=λPK pa m G H vs ds d Q w hv hd k=>by
 unfold jJ at hd
 split at hd
 ·split at hd
  ·rename_i hc
   unfold iV at hc
   simp only [AU,Bool.or_eq_true,decide_eq_true_eq,CZ] at hc
   cases hd
   cases hv with
   | cons h1 h2=>cases h2; exact ⟨_,_,rfl,h1.mono w.sub,hc.1.1.1,hc.1.1.2,hc.1.2,hc.2,k.here w (.str _)⟩
  ·cases hd
 ·cases hd
section
variable {PK:Pk} {X:Cx} {pos:Pos} {i j:DP}
theorem Kn.dct {pa:Addr} {m:Nat} {G H:Hp} {ks:List (aL×V)} {ds:DY} {Q:VK} {p:Addr} (k:Kn PK pa m G H (.dict ((ks.map λk=>match k.1 with | .inl i=>PyData.int i | .inr x=>PyData.str x).zip ds)) Q) (w:Wd PK pa m G H) (d:DnAll G (ks.map (·.2)) ds) (hp:H p=none):Q (.ref p) (upd H p (.dK ks)):=by
 obtain ⟨w1,s1⟩:=w.new (o:=.dK ks) hp
 exact k _ _ _ s1 w1 (.dct (.inl bY) (DnAll.mono s1.gs d))
theorem ZnK:PE X (.Dict [] [] pos) (TAe PK (aC (.dict []))):=ZiU.imp λσ H Q hz0=>by
 obtain ⟨pa,D6,H₀,m,ρ,G,R,q⟩:=hz0
 exact λp hp=>Kn.dct (ks:=[]) (ds:=[]) q R.wd .nil hp
noncomputable def Zox:DW
 | .int k,v=>some (.dict [(.int k,v)])
 | _,_=>none
end
noncomputable def jF:List PyData->Option PyData
 | [.int i]=>if i.natAbs.log2 < 1920 then some (.str (toString i)) else none
 | _=>none
theorem Zaj:fJ (λxs H Q=>∃ i,xs=[.int i]/\i.natAbs.log2 < 1920/\Q (.str (toString i)) H) jF:=λPK pa m G H vs ds d Q w hv hd k=>by
 unfold jF at hd
 split at hd
 ·split at hd
  ·rename_i hc
   cases hd
   cases hv with
   | cons h1 h2=>cases h2; cases h1; exact ⟨_,rfl,hc,k.here w (.str _)⟩
  ·cases hd
 ·cases hd
theorem Zem {d:PyData} (h:iV d=true):bR jJ [d]=.ret (.str d.shown):=by
 show Tr.of (if iV d=true then some (PyData.str d.shown) else none)=_
 rw [if_pos h]
 rfl
theorem Zek {i:Int} (h:i.natAbs.log2 < 1920):bR jF [.int i]=.ret (.str (toString i)):=by
 show Tr.of (if i.natAbs.log2 < 1920 then some (PyData.str (toString i)) else none)=_
 rw [if_pos h]
 rfl
end L2
namespace PySem
theorem dk_list_keys:typeLookup (.type "list") "keys"=pure none:=by rw [typeLookup_type,builtinLookup_eq_fast]; kernel_rfl
section
variable {prog:Program} {w:World} {A:Around} {E:DX} {s:Shared} {a:Addr} {o:Obj} {xs:Array Value} {k:Nat}
theorem dk_list_miss {Q:Option Value->Shared->Prop} (hx:s.heap.get? a=some o) (hc:o.cls=.type "list") (hdat:o.data=.seq xs k) (hd:o.dict=none) (hA:A.handled=none)
  (h:∀ h' tk,(∀ b ob,s.heap.get? b=some ob->h'.get? b=some ob)->Q none { s with heap:=h',toks:=tk }) :
  wpAny (model prog w) A (getAttr? (.ref a) "keys") Q E s:=by
 obtain ⟨c,dct,dat,sl⟩:=o
 simp only at hc hdat hd
 subst hc hdat hd
 obtain ⟨hp,g,d,tk,os⟩:=s
 have hT:∀ tk',(⟨hp,g,d,tk',os⟩:Shared).TypeIs (.ref a) "list":=λ_=>⟨_,hx,rfl⟩
 have f1:=sub_AttributeError
 have f3:=F.slot_list_getattribute.lookup
 have f4:=F.slot_list_getattribute.bind (.ref a)
 have f5:=am_list_getattr_none
 unfold getAttr? getAttrBy? getAttrBy
 repeat (any_goals (first | assumption | exact hT _ | ((with_reducible show wpAny _ _ (call (Value.builtin "list.__getattribute__") _ _) _ _ _); refine call_meets F.slot_list_getattribute (hT _) am_entry_list_getattribute (F.args_list_getattribute_2 _ _) (meets_getattribute_miss_list a xs k sl "keys" _ dk_list_keys (by decide) (by size_fits)) ⟨hx,hA,λh' tk' e hx'=>?_⟩) | wp_step))
 obtain ⟨t',u',he⟩:=hx'.there
 show wpAny _ _ (getattributeRaised _ _ _ _ _ _ _) _ _ _
 unfold getattributeRaised
 repeat (any_goals (first | assumption | exact h _ _ hx'.keeps | wp_step))
end
section
variable {prog:Program} {w:World} {A:Around} {E:DX} {s:Shared}
end
section
variable {prog:Program} {w:World} {A:Around} {E:DX} {s:Shared}
end
theorem F.dk_entry_loop:entryFor table "dict.update.loop"=some Builtin.«dict.update.loop»:=entryFor_of_tree (by kernel_rfl)
theorem F.dk_plain_loop:plainId "dict.update.loop"=true:=by trivial
section
variable {K:Type} [DecidableEq K]
end
end PySem
namespace L2
section
variable {prog:Program} {w:World} {A:Around} {R:Result->Shared->Prop} {K:Type} [DecidableEq K] {knd:KeyKind prog w K} {kf:Nat->K}
end
section
variable {prog:Program} {w:World} {A:Around} {E:DX} {s:Shared} {K:Type} [DecidableEq K] {knd:KeyKind prog w K} {kf:Nat->K}
end
section
variable {PK:Pk} {X:Cx} {a:Expr} {p p2 pos pos2:Pos} {i:DP}
end
section
variable {X:Cx} {PK:Pk} {e:Expr} {es:List Expr} {i:DP} {is:DQ}
end
section
variable {prog:Program} {w:World} {A:Around} {R:Result->Shared->Prop} {K:Type} [DecidableEq K] {knd:KeyKind prog w K} {kf:Nat->K} {lo:Int}
end
section
variable {prog:Program} {w:World} {A:Around} {E:DX} {s:Shared} {K:Type} [DecidableEq K] {knd:KeyKind prog w K} {kf:Nat->K} {lo:Int}
end
section
variable {X:Cx} {tg:Expr}
end
variable {PK:Pk} {X:Cx} {is:DQ} {ρ:D5}
section
variable {G:Hp} {ks:List (aL×V)} {kvs:List (Int×PyData)}
end
section
variable {PK:Pk} {pa:Addr} {D6 H₀ G H:Hp} {m:Nat} {σ:St} {ρ:D5}
end
variable {PK:Pk} {X:Cx} {a b c e:Expr} {es:List Expr} {pos:Pos} {i j l:DP} {is:DQ} {st:Stmt} {s:DS}
section
variable {X:Cx} {pins:List (Addr×Obj)} {σ:St} {H:Hp} {s:Shared}
end
theorem ZmB (kx vx target iter:Expr) (scope:Scope) (pos:Pos) (it:Value) (D:Addr) (env:Env) :
  compTurn (.DictComp kx vx [⟨target,iter,[],0⟩] scope pos) 0 it (.ref D) env=(standAt iter.pos >>= λ_=>pyNext it >>= λr=>match r with
   | none=>pure (.done .next)
   | some v=>letOwnedTupleGo target it v >>= λ_=>assign target env v >>= λ_ =>
    (eval kx env >>= λkv=>holding [kv] (eval vx env) >>= λvv=>standAt { kx.pos with endLine:=vx.pos.endLine,endCol:=vx.pos.endCol } >>= λ_=>holding [kv,vv] (dictSet D kv vv)) >>= λ_ =>
     again (.compLoop (.DictComp kx vx [⟨target,iter,[],0⟩] scope pos) 0 it (.ref D) env)):=by rfl
theorem ZmG {prog:Program} {w:World} {A:Around} {R:Result->Shared->Prop} {s:Shared} {kx vx target iter:Expr} {scope:Scope} {pos:Pos} {it:Value} {D:Addr} {env:Env} (J:Nat->Shared->Prop)
  (step:∀ k s0,J k s0->wpAny (model prog w) A (pyNext it) (λgot s1=>match got with
   | none=>R (.ok .next) s1
   | some v=>wpAny (model prog w) A (letOwnedTupleGo target it v) (λ_ s2=>wpAny (model prog w) A (assign target env v) (λ_ s3=>wpAny (model prog w) A (eval kx env) (λkv s4 =>
     wpAny (model prog w) A (eval vx env) (λy s5=>wpAny (model prog w) A (dictSet D kv y) (λ_ s6=>∃ j,j < k/\J j s6) (λ_ _=>False) s5) (λ_ _=>False) s4) (λ_ _=>False) s3) (λ_ _=>False) s2) (λ_ _=>False) s1) (λ_ _=>False) s0)
  (k:Nat) (h:J k s):codeAny (model prog w) A (.compLoop (.DictComp kx vx [⟨target,iter,[],0⟩] scope pos) 0 it (.ref D) env) R s:=by
 refine codeAny_loop rfl J (λk0 s0 hJ=>?_) k h
 show wpAny _ _ ((compTurn (.DictComp kx vx [⟨target,iter,[],0⟩] scope pos) 0 it (.ref D) env).onRaise (λx=>do noteFrame x env; theTreesLotGoes x)) _ _ s0
 apply wpAny_noted
 rw [ZmB]
 refine wpAny_bind (wpAny_standAt (wpAny_bind (wpAny_mono (step k0 s0 hJ) (λgot s1 h1=>?_) λ_ _ z=>z.elim)))
 cases got with
 | none=>exact wpAny_pure h1
 | some v =>
  refine wpAny_bind (wpAny_mono h1 (λ_ s2 h2=>?_) λ_ _ z=>z.elim)
  refine wpAny_bind (wpAny_mono h2 (λ_ s3 h3=>?_) λ_ _ z=>z.elim)
  refine wpAny_bind (wpAny_bind (wpAny_mono h3 (λkv s4 h4=>?_) λ_ _ z=>z.elim))
  refine wpAny_bind (wpAny_holding (wpAny_mono h4 (λy s5 h5=>?_) λ_ _ z=>z.elim))
  refine wpAny_bind (wpAny_standAt (wpAny_holding (wpAny_mono h5 (λ_ s6 h6=>?_) λ_ _ z=>z.elim)))
  exact wpAny_pure ⟨rfl,h6⟩
section
variable {X:Cx} {pins:List (Addr×Obj)} {σ:St} {H:Hp} {s:Shared}
theorem Zk4 (kx vx gens scope pos) (env:Env):eval (.DictComp kx vx gens scope pos) env=comprehension (.DictComp kx vx gens scope pos) scope env (firstIterPos gens pos) newDict (firstAsync gens) (firstIter gens env):=by rw [eval]
end
section
variable {X:Cx} {pins:List (Addr×Obj)} {σ:St} {H:Hp} {s:Shared}
theorem Inv.trackT {D:Addr} {ys:List (List aL×V)} {xs:List (List aL×Addr×Value)} (I:Inv X pins σ H s) (hD:H D=none) (ho:s.heap.DictOfH (tupleKind (bP X.prog X.w)) D xs) (r:KT H ys xs) (hz:ys.length<=sizeLine) (hsys:(D == sysModules)=false)
  (hL:D≠X.env.locals) (hs0:X.s₀.heap.objs.size<=D) (hc:∀ x c,X.env.cells.lookup x=some c->c≠D) (hp:∀ p∈X.pn++pins,p.1≠D):∃ o,Inv X pins σ (upd H D (.frz o (.dT ys))) s:=by
 have ne:∀ {b:Addr} {o:HO},H b=some o->b≠D:=λe=>dm e hD
 obtain ⟨o,es,ep,h1,h2,h3,h4,_,h5⟩:=ho
 refine ⟨o,?_⟩
 refine I.step (g':=s.gens) (d':=s.drawn) (t':=s.toks) (h':=s.heap) (ch:=[D]) (λb hb=>?_) (λb o _ _ _ e _=>e) (λb o _ _ _ e _=>⟨o.slots,e⟩) (λb o hb e n=>?_) (λb o _ e=>⟨o,e⟩)
  (λb xs e=>by rw [aM (ne e)]; exact e) (λb o u e=>by rw [aM (ne e)]; exact e) (λb ps e=>⟨#[],by rw [aM (ne e),e]; simp⟩) (λm hm=>hm) (λb u e=>?_) I.bare
 ·have e:b=D:=by simpa using hb
  subst e
  exact ⟨.inr hs0,hL,hc,hp⟩
 ·have hb':b≠D:=by simpa using hb
  rw [aM hb']
  exact n
 ·by_cases hb:b=D
  ·subst hb
   rw [bY] at e
   cases e
   exact ⟨h1,hz,hsys,xs,r.keeps λc zs q=>by rw [aM (ne q)]; exact q,o,es,ep,h1,h2,h3,h4,h5⟩
  ·rw [aM hb] at e
   exact (I.hok b u e).stay (λc v _ q=>q) (λc q=>by rw [aM (ne q)]; exact q) (λc xs q=>by rw [aM (ne q)]; exact q) λc ob xs _ q _=>by rw [aM (ne q)]; exact q
end
theorem Zh3 {A:Around} {P:Program} {w:World} (hu:A.units < cLine):(tupleKind (bP P w)).room A:=hu
theorem Zj7 {H H':Hp} {KA:Addr->Prop} {kvs:List (List aL×V)} {xs:List (List aL×Addr×Value)} (r:KT H kvs xs) (hk:∀ x∈xs,KA x.2.1) (st:∀ b zs,KA b->H b=some (.tup zs)->H' b=some (.tup zs)):KT H' kvs xs:=by
 induction r with
 | nil=>exact .nil
 | @cons p q ps qs h t ih=>exact .cons ⟨h.1,st _ _ (hk q (by simp)) h.2.1,h.2.2⟩ (ih λx hx=>hk x (Az _ hx))
theorem Zj8 {P:Program} {w:World} {H:Hp} {h:Heap} (ok:HOk P w H h) {l:List (List aL×V)} {m:List (List aL×Addr×Value)} (r:KT H l m):∀ x∈m,(tupleKind (bP P w)).is h x.1 x.2.1:=by
 induction r with
 | nil=>intro x hx; exact nomatch hx
 | @cons p q ps qs hq t ih =>
  intro x hx
  rcases AO.mp hx with e | hx
  ·subst e
   exact lg ok (by rw [<- hq.1]; exact hq.2.1)
  ·exact ih x hx
theorem ZeM {P:Program} {w:World} {H:Hp} {h h':Heap} {D:Addr} {l:List (List aL×V)} {m:List (List aL×Addr×Value)} (ok:HOk P w H h') (r:KT H l m) (d:h.DictOfH (tupleKind (bP P w)) D m) (e:∀ o,h.get? D=some o->h'.get? D=some o):h'.DictOfH (tupleKind (bP P w)) D m:=by
 obtain ⟨o,es,ep,h1,h2,h3,h4,_,h5⟩:=d
 exact ⟨o,es,ep,e o h1,h2,h3,h4,Zj8 ok r,h5⟩
theorem ZaK {KA:Addr->Prop} {xs:List (List aL×Addr×Value)} {k:List aL} {c:Addr} {u:Value} (h:∀ x∈xs,KA x.2.1):∀ x∈storedH xs k c u,KA x.2.1\/x.2.1=c:=by
 intro x hx
 unfold storedH at hx
 split at hx
 ·obtain ⟨y,hy,rfl⟩:=AV.mp hx
  refine .inl ?_
  unfold putAt
  split <;> exact h y hy
 ·rcases Bi.mp hx with z | z
  ·exact .inl (h x z)
  ·rw [Ce.mp z]
   exact .inr rfl
def l7 (wi:TI) (n:Nat) (ix:List Nat) (g:Blk->TG) (tk te:Blk->TE):TE:=λσ H Q=>wi σ H λJ H1=>∀ b:Blk,∃ W:Nat->Nat->St->List (List aL×V)->(Addr->Prop)->Hp->Prop,(∃ m,W 0 m (dc n ix σ) [] (λ_=>False) H1)/\∀ i m τ ys KA H2,W i m τ ys KA H2 ->
 (J.stop i H2/\∀ p v o H',H2 p=none->v=V.ref p->H'=upd H2 p (.frz o (.dT ys))->Q v H') \/
 (J.go i H2/\ys.length < sizeLine/\∀ x H3,J.yld i H2 x H3->g b x τ H3 λτ2 H4=>tk b τ2 H4 λkv H5=>te b τ2 H5 λy H6=>∃ (z:List aL) (c:Addr) (m':Nat),kv=.ref c/\H6 c=some (.tup (z.map kV))/\(∀ b xs,KA b->H2 b=some (.tup xs)->H6 b=some (.tup xs))/\m' < m/\W (i+1) m' τ2 (cZ ys z y) (λb=>KA b\/b=c) H6)
section
variable {X:Cx} {pins:List (Addr×Obj)} {σ:St} {H:Hp} {s:Shared}
theorem ZeU {kx vx target iter:Expr} {scope:Scope} {pos:Pos} {Nx ts:D2} {ix:List Nat} {g:Blk->TG} {tk te:Blk->TE} {cl:List (Str×Addr)} {s2:Shared} {itv:Value} {R:Value->Addr->Result->Shared->Prop}
  {E:DX} {Q:VK}
  (hu:X.A.units < cLine) (hc:X.calm=true) (hg:∀ b,PG (aW X (bN Nx ts ix) scope b) target (g b)) (hk:∀ b,PE (aW X (bN Nx ts ix) scope b) kx (tk b)) (he:∀ b,PE (aW X (bN Nx ts ix) scope b) vx (te b))
  (hNx:X.N=Nx) (ok:BlkOk Nx X.env.scope scope ix) (cl1:∀ x c,cl.lookup x=some c->X.env.cells.lookup x=some c) (cl2:∀ y∈scope.names,y.2=.free->∃ c,cl.lookup y.1=some c)
  (h2:lV X pins σ target (λJ H1=>∀ b:Blk,∃ W:Nat->Nat->St->List (List aL×V)->(Addr->Prop)->Hp->Prop,(∃ m,W 0 m (dc ts.length ix σ) [] (λ_=>False) H1)/\∀ i m τ ys KA H2,W i m τ ys KA H2 ->
   (J.stop i H2/\∀ p v o H',H2 p=none->v=V.ref p->H'=upd H2 p (.frz o (.dT ys))->Q v H') \/
   (J.go i H2/\ys.length < sizeLine/\∀ x H3,J.yld i H2 x H3->g b x τ H3 λτ2 H4=>tk b τ2 H4 λkv H5=>te b τ2 H5 λy H6=>∃ (z:List aL) (c:Addr) (m':Nat),kv=.ref c/\H6 c=some (.tup (z.map kV))/\(∀ b xs,KA b->H2 b=some (.tup xs)->H6 b=some (.tup xs))/\m' < m/\W (i+1) m' τ2 (cZ ys z y) (λb=>KA b\/b=c) H6)) itv s2)
  (hR:∀ (D C:Addr) (H':Hp) (s':Shared) (v:V),Inv X pins σ H' s'->v=.ref D->Q v H'->(∃ m,s'.heap.Ns C m)->H' C=none->C≠X.env.locals->X.s₀.heap.objs.size<=C->(∀ x c,X.env.cells.lookup x=some c->c≠C)->(∀ p∈X.pn++pins,p.1≠C) ->
   R (.ref D) C (.ok .next) s') :
  wpAny (model X.prog X.w) X.A newDict (λacc s₃=>wpAny (model X.prog X.w) X.A (newFunctionEnv scope X.env.globals cl [] X.env.qual none .none (some X.env)) (λcenv s₄ =>
   codeAny (model X.prog X.w) X.A (.compStart (.DictComp kx vx [⟨target,iter,[],0⟩] scope pos) 0 itv acc { cenv with scope:=relabel scope X.env }) (R acc cenv.locals) s₄) E s₃) E s2:=by
 obtain ⟨it,fp,tn,J,H1,e,I2,T,st2,f2,q2⟩:=h2
 subst e
 refine wpAny_newObj_type (oa ?_)
 dsimp only
 generalize hG:s2.heap.push { cls:=.type "dict",dict:=none,data:=.dict #[] }=G
 have hGs:G.objs.size=s2.heap.objs.size+1:=by rw [<- hG,Bk]
 have hfs:∀ b∈fp,b < s2.heap.objs.size:=λb hb=>let ⟨o,e,_⟩:=T.obj _ _ st2 b hb; AK e
 have kpG:∀ b o,G.get? b=some o->(pushCells (G.push { cls:=.type "dict",data:=.dict #[] }) scope.names).get? b=some o:=λb o e=>pushCells_keeps _ _ _ _ (v9 _ e)
 have hns3:(pushCells (G.push { cls:=.type "dict",data:=.dict #[] }) scope.names).Ns G.objs.size (λ_=>none):=(Heap.Ns.new G (.type "dict")).keeps (pushCells_keeps _ _)
 obtain ⟨sp1,sp2,sp4,sp3⟩:=vF scope.names (G.push { cls:=.type "dict",data:=.dict #[] }) cl
 rw [Bk] at sp1 sp2 sp3 sp4
 generalize hh3:pushCells (G.push { cls:=.type "dict",data:=.dict #[] }) scope.names=h3 at kpG hns3 sp1 ⊢
 have kp:∀ b o,s2.heap.get? b=some o->h3.get? b=some o:=λb o e=>kpG b o (by rw [<- hG]; exact v9 _ e)
 have hD3:h3.get? s2.heap.objs.size=some { cls:=.type "dict",data:=.dict #[] }:=kpG _ _ (by rw [<- hG]; exact AC _ rfl)
 have hDo:h3.DictOfH (tupleKind (bP X.prog X.w)) s2.heap.objs.size []:=⟨_,#[],_,hD3,⟨rfl,rfl,by first | rfl | decide | trivial⟩,rfl,rfl,(λx hx=>nomatch (show x∈([]:List (List aL×Addr×Value)) from hx)),DD⟩
 have clB:∀ x c,cl.lookup x=some c->c < G.objs.size+1:=λx c e=>by
  obtain ⟨v,q⟩:=I2.cell x c (cl1 x c e)
  exact B3 (AD q.lt (by rw [hGs]; exact C9 _))
 have csI:=sp3 clB λx y c e1 e2=>I2.ok.inj x y c (cl1 x c e1) (cl1 y c e2)
 have cs1:∀ x c,(cellsFrom (G.objs.size+1) scope.names cl).lookup x=some c->X.env.cells.lookup x=some c\/(G.objs.size < c/\h3.IsCell c none/\(x,NameKind.cell)∈scope.names):=λx c e=>by
  rcases sp1 x c e with z | ⟨z1,z2,z3⟩
  ·exact .inl (cl1 x c z)
  ·exact .inr ⟨by omega,z2,z3⟩
 have cs2:∀ y∈scope.names,(y.2=.free\/y.2=.cell)->∃ c,(cellsFrom (G.objs.size+1) scope.names cl).lookup y.1=some c:=λy hy hk=>by
  refine sp2 y.1 ?_
  rcases hk with z | z
  ·exact .inr (cl2 y hy z)
  ·exact .inl (by rw [<- z]; exact hy)
 have csA:∀ x c,(x,NameKind.cell)∈scope.names->(cellsFrom (G.objs.size+1) scope.names cl).lookup x=some c->G.objs.size<=c:=λx c e1 e2=>Ch (sp4 x c e1 e2)
 generalize hcs:cellsFrom (G.objs.size+1) scope.names cl=cs at csI cs1 cs2 csA ⊢
 generalize hCe:G.objs.size=C at hns3 cs1 csA ⊢
 have hC:s2.heap.objs.size<=C:=by omega
 have hDC:s2.heap.objs.size≠C:=by omega
 let B:Blk:=⟨cs,C,s2,H1,fp,X.pn++pins⟩
 have I3:Inv (aW X (bN Nx ts ix) scope B) [] (dc ts.length ix σ) H1 { s2 with heap:=h3 }:=qw I2 hNx ok cs1 csI cs2 csA f2 hfs hC kp hns3
 have fC:H1 s2.heap.objs.size=none:=I2.hok.fresh (Aw _)
 have cellIn:∀ x c,cs.lookup x=some c->c≠s2.heap.objs.size:=λx c e=>by
  rcases cs1 x c e with z | ⟨z,_,_⟩
  ·obtain ⟨v,q⟩:=I2.cell x c z
   exact AR q.lt
  ·exact A6 (By hC z)
 have pinIn:∀ p∈X.pn++pins,p.1 < s2.heap.objs.size:=λp hp=>AK (I2.pin p hp).1
 have nofrs:s2.heap.objs.size ∉ frs X.stack:=λhb=>by
  rcases AO.mp (I2.stkSub _ hb) with z | z
  ·exact absurd I2.lt (by rw [<- z]; exact AY _)
  ·exact I2.nofs (Aw _) z
 -- a state with the list at its place,pinned
 have pinD:∀ {τ:St} {H':Hp} {s':Shared} {ob:Obj},Inv (aW X (bN Nx ts ix) scope B) [] τ H' s'->s'.heap.get? s2.heap.objs.size=some ob->H' s2.heap.objs.size=none->(∀ v,ob.data≠.cell v)->Inv (aW X (bN Nx ts ix) scope B) [(s2.heap.objs.size,ob)] τ H' s' :=
  λ{τ H' s' ob} I' ho hn hd=>I'.pins_of λp hp=>by
   have e:p=(s2.heap.objs.size,ob):=by simpa using hp
   subst e
   exact ⟨ho,hn,hDC,nofrs,hd⟩
 obtain ⟨W,⟨m0,w0⟩,turn⟩:=q2 B
 have stat:∀ {H':Hp} {ob:Obj},(∀ b∈fp,H' b=none)->∀ b∈fp,fL (aW X (bN Nx ts ix) scope B) [(s2.heap.objs.size,ob)] H' b:=λ{H' ob} hn b hb=>by
  refine ⟨hn b hb,AR (AD (hfs b hb) hC),λz=>?_,.inl hb,λx c e=>by
   rcases cs1 x c e with z | ⟨z,_,_⟩
   ·exact (f2 b hb).2.2.2.2.1 x c z
   ·exact A6 (AD (hfs b hb) (AL hC (B6 z))),λp hp=>?_⟩
  ·rcases AO.mp (I2.stkSub _ z) with q | q
   ·exact (f2 b hb).2.1 q
   ·exact (f2 b hb).2.2.1 q
  ·rcases Bi.mp hp with z | z
   ·exact (f2 b hb).2.2.2.2.2 p z
   ·have e:p=(s2.heap.objs.size,ob):=by simpa using z
    subst e
    exact A6 (hfs b hb)
 have loop:∀ s4:Shared,s4={ s2 with heap:=h3 } ->
   codeAny (model X.prog X.w) X.A (.compLoop (.DictComp kx vx [⟨target,iter,[],0⟩] scope pos) 0 (.ref it) (.ref s2.heap.objs.size) (compEnvC scope cs C X.env)) (R (.ref s2.heap.objs.size) C) s4:=by
  rintro s4 rfl
  refine ZmG (λk s'=>∃ i τ ys us ob KA H',Inv (aW X (bN Nx ts ix) scope B) [(s2.heap.objs.size,(ob:Obj))] τ H' s'/\tn i s'.heap/\(∀ b∈fp,H' b=none)/\KT H' ys us/\(∀ x∈us,KA x.2.1)/\s'.heap.DictOfH (tupleKind (bP X.prog X.w)) s2.heap.objs.size us/\ys.length<=sizeLine/\W i k τ ys KA H') ?_ m0
   ⟨0,_,[],[],_,_,H1,pinD I3 hD3 fC (λv z=>by cases z),T.keep _ _ _ st2 λb hb o e=>kp b o e,λb hb=>(f2 b hb).1,.nil,(λx hx=>nomatch hx),hDo,Bg _,w0⟩
  rintro k s5 ⟨i,τ,ys,us,ob,KA,H5,I5,st5,fr5,rv,hKA,hDO,hz,w5⟩
  rcases turn i k τ ys KA H5 w5 with ⟨stop,qn⟩ | ⟨go,hlt,step⟩
  ·have p5:=I5.pin (s2.heap.objs.size,ob) (AA _ (by simp))
   refine thn (T.done (aW X (bN Nx ts ix) scope B) rfl rfl rfl hc i _ s5 τ H5 _ I5 (stat fr5) st5 stop) λgot s6 hz0=>?_
   obtain ⟨hr,I6⟩:=hz0
   subst hr
   obtain ⟨ho,hn,_,_,_⟩:=I6.pin (s2.heap.objs.size,ob) (AA _ (by simp))
   have hDO6:s6.heap.DictOfH (tupleKind (bP X.prog X.w)) s2.heap.objs.size us:=ZeM I6.hok rv hDO λo e=>by
    rw [p5.1] at e
    cases e
    exact ho
   have I7:Inv X pins σ H5 s6:=I2.call' (ch:=fp) (H':=H5) (by exact I6.os) I6.base I6.hok I6.bare λb hb=>⟨(f2 b hb).2.2.2.1,(f2 b hb).2.1,(f2 b hb).2.2.2.2.1,(f2 b hb).2.2.2.2.2⟩
   have hs0:X.s₀.heap.objs.size<=s2.heap.objs.size:=I2.sz
   obtain ⟨o8,I8⟩:=I7.trackT hn hDO6 rv hz (beq_eq_false_iff_ne.mpr (A6 I2.big)) (A6 I2.lt) hs0 (λx c e z=>by
    obtain ⟨v,q⟩:=I2.cell x c e
    exact absurd q.lt (by rw [z]; exact AY _)) (λp hp=>AR (pinIn p hp))
   obtain ⟨m6,hm6,_⟩:=I6.loc
   refine hR _ C _ s6 _ I8 rfl (qn _ _ o8 _ hn rfl rfl) ⟨m6,hm6⟩ ?_ (λz=>?_) (AL hs0 hC) (λx c e z=>?_) λp hp=>AR (AD (pinIn p hp) hC)
   ·rw [aM (Ne.symm hDC)]
    exact I6.free
   ·exact absurd (AD I2.lt hC) (by rw [z]; exact AY _)
   ·obtain ⟨v,q⟩:=I2.cell x c e
    exact absurd (AD q.lt hC) (by rw [z]; exact AY _)
  ·have p5:=I5.pin (s2.heap.objs.size,ob) (AA _ (by simp))
   refine thn (T.item (aW X (bN Nx ts ix) scope B) rfl rfl rfl hc i _ s5 τ H5 _ I5 (stat fr5) st5 go) λgot s6 hz0=>?_
   obtain ⟨u,hr,h6⟩:=hz0
   subst hr
   refine thn h6 λ_ s7 hz0=>?_
   obtain ⟨x,H7,I7,r7,y7,st7,fr7⟩:=hz0
   have I7':=I7.pinned (stat fr7) (T.obj _ _ st7)
   refine thn (hg B _ s7 τ H7 x u _ I7' r7 (step x H7 y7)) λ_ s8 hz0=>?_
   obtain ⟨τ8,H8,I8,q8⟩:=hz0
   refine thn (hk B _ s8 τ8 H8 _ I8 q8) λkv sk hz0=>?_
   obtain ⟨vk,Hk,Ik,rk,qk⟩:=hz0
   refine thn (he B _ sk τ8 Hk _ Ik qk) λy s9 hz0=>?_
   obtain ⟨vy,H9,I9,r9,zk,c9,m',ek,ec,stay,hm',w9⟩:=hz0
   subst ek
   cases (show kv=Value.ref c9 from rk)
   have rv9:KT H9 ys us:=Zj7 rv hKA stay
   obtain ⟨ho,hn,_,_,_⟩:=I9.pin (s2.heap.objs.size,ob) (AA _ (Bf _ (by simp)))
   have hDO9:s9.heap.DictOfH (tupleKind (bP X.prog X.w)) s2.heap.objs.size us:=ZeM I9.hok rv9 hDO λo e=>by
    rw [p5.1] at e
    cases e
    exact ho
   have lenv:ys.length=us.length:=C6 rv
   refine wpAny_dictSet_heap (knd:=tupleKind (bP X.prog X.w)) (k:=zk) (Zh3 hu) (lg I9.hok ec) hDO9 (λh' hpl0 hsb=>?_) (by omega)
   have hpl:=hpl0
   obtain ⟨ob',es',ep',ho',hc',hd',_⟩:=hpl0
   have I9':Inv (aW X (bN Nx ts ix) scope B) [] τ8 H9 s9:=I9.pins_of λp hp=>absurd hp (by simp)
   have I10:Inv (aW X (bN Nx ts ix) scope B) [] τ8 H9 { s9 with heap:=h',toks:=s9.toks+(tupleKind (bP X.prog X.w)).draws zk }:=I9'.turned (it:=s2.heap.objs.size) (t':=s9.toks+(tupleKind (bP X.prog X.w)).draws zk) (λb o hb e=>(hsb.2 b hb).trans e) hn hDC (.inr (Aw _)) cellIn (λp hp=>by
    have hp':p∈(X.pn++pins)++[]:=hp
    rw [A4] at hp'
    exact AR (pinIn p hp'))
   refine ⟨m',hm',i+1,τ8,cZ ys zk vy,storedH us zk c9 y,ob',_,H9,pinD I10 ho' hn (λv z=>by rw [hd'] at z; cases z),?_,λb hb=>?_,rv9.put zk ec r9,ZaK hKA,hpl,by have:=qm ys zk vy; omega,w9⟩
   ·refine T.keep _ _ _ st7 λb hb o e=>?_
    have q:=(I9.pin (b,o) (AA _ (AA _ (fy hb e)))).1
    exact (hsb.2 b (AR (hfs b hb))).trans q
   ·obtain ⟨o,e,d⟩:=T.obj _ _ st7 b hb
    exact (I9.pin (b,o) (AA _ (AA _ (fy hb e)))).2.1
 exact codeAny_compStart_dict (loop _ rfl) (T.self X.A 0 _ _ _ (T.keep _ _ _ st2 λb hb o e=>kp b o e) (loop _ rfl))
theorem ZcP {kx vx target iter:Expr} {scope:Scope} {pos:Pos} {wi:TI} {g:Blk->TG} {tk te:Blk->TE} (Nx:D2) (ts:D2) (ix:List Nat)
  (hu:X.A.units < cLine) (hc:X.calm=true) (hi:PI X target iter wi) (hg:∀ b,PG (aW X (bN Nx ts ix) scope b) target (g b)) (hk:∀ b,PE (aW X (bN Nx ts ix) scope b) kx (tk b)) (he:∀ b,PE (aW X (bN Nx ts ix) scope b) vx (te b))
  (hNx:X.N=Nx) (ok:BlkOk Nx X.env.scope scope ix) (hs:∀ x,foldedSetIterable iter X.env x=pure x:=by intro _; rfl) :
  PE X (.DictComp kx vx [⟨target,iter,[],0⟩] scope pos) (l7 wi ts.length ix g tk te):=by
 intro pins s σ H Q I h
 obtain ⟨cl,hcl,cl1,cl2⟩:=j6 (scope:=scope) (env:=X.env) λy hy hf=>I.ok.has y.1 (ok.frees y hy hf)
 rw [Zk4]
 refine wpAny_comprehension_free (use:=none) rfl hs hcl ok.kind ok.locs (thn (hi pins s σ H _ I h) λv s1 h1=>thn h1 λitv s2 h2=>?_)
 refine ZeU (R:=λacc C=>compPost (model X.prog X.w) X.A X.xe none (EP X pins σ Q) acc C) hu hc hg hk he hNx ok cl1 cl2 h2 ?_
 rintro D C H' s' v I' rfl q ⟨m,hm⟩ hn hL h0 hcl' hp
 exact ⟨m,hm,λh' hsb=>⟨.ref D,H',I'.turned (it:=C) (t':=s'.toks) (λb o hb e=>(hsb.2 b hb).trans e) hn hL (.inr h0) hcl' hp,rfl,q⟩⟩
theorem Ziu {kx vx target iter:Expr} {scope:Scope} {pos pos' spos:Pos} {wi:TI} {g:Blk->TG} {tk te:Blk->TE} {i:Nat} {x:Str} (Nx:D2) (ts:D2) (ix:List Nat)
  (hu:X.A.units < cLine) (hc:X.calm=true) (hN:X.N.Nodup) (hix:X.N[i]?=some x) (hx:X.env.scope.names.lookup x=some .local) (hi:PI X target iter wi) (hg:∀ b,PG (aW X (bN Nx ts ix) scope b) target (g b)) (hk:∀ b,PE (aW X (bN Nx ts ix) scope b) kx (tk b)) (he:∀ b,PE (aW X (bN Nx ts ix) scope b) vx (te b))
  (hNx:X.N=Nx) (ok:BlkOk Nx X.env.scope scope ix) (hsw:swapsWith (.DictComp kx vx [⟨target,iter,[],0⟩] scope pos) (some (.Name x pos')) spos.line X.env=pure true) (hs:∀ x,foldedSetIterable iter X.env x=pure x:=by intro _; rfl) :
  PS X (.Assign [.Name x pos'] (.DictComp kx vx [⟨target,iter,[],0⟩] scope pos) spos) (dM (l7 wi ts.length ix g tk te) (dZ i)):=by
 intro pins s σ H D0 I h
 obtain ⟨cl,hcl,cl1,cl2⟩:=j6 (scope:=scope) (env:=X.env) λy hy hf=>I.ok.has y.1 (ok.frees y hy hf)
 rw [exec_Assign_Name_used _ _ _ _ hsw]
 refine wpAny_bind (wpAny_standAt (wpAny_bind ?_))
 show wpAny _ X.A (do let _ <- comprehension (.DictComp kx vx [⟨target,iter,[],0⟩] scope pos) scope X.env _ newDict false (eval iter X.env) (some (assign (.Name x pos') X.env))) _ _ s
 refine wpAny_bind (thn (wpAny_comprehension_free (use:=some (assign (.Name x pos') X.env)) (Q:=λ_ s'=>SP X pins D0 .next s') rfl hs hcl ok.kind ok.locs (thn (hi pins s σ H _ I h) λv s1 h1=>thn h1 λitv s2 h2=>?_)) λ_ s' hq=>wpAny_pure (wpAny_pure hq))
 refine ZeU (R:=λacc C=>compPost (model X.prog X.w) X.A X.xe (some (assign (.Name x pos') X.env)) (λ_ s'=>SP X pins D0 .next s') acc C) (Q:=λx H1=>dZ i x σ H1 D0.nx) hu hc hg hk he hNx ok cl1 cl2 h2 ?_
 rintro D C H' s' v I' rfl q ⟨m,hm⟩ hn hL h0 hcl' hp
 show wpAny _ X.A (assign (.Name x pos') X.env (.ref D)) _ _ _
 refine wpAny_assign_Name (oz I' hN hix (.inl hx) (show RelV (.ref D) (.ref D) from rfl) (λs'' I'' hch=>?_) (.inr hx))
 obtain ⟨a,hsb,ha⟩:=hch
 have haC:C≠a:=by
  rcases ha with z | z
  ·rw [z]; exact hL
  ·exact λe=>hcl' _ _ z e.symm
 exact ⟨m,hm.sameBut hsb haC,λh'' hs''=>⟨_,H',I''.turned (it:=C) (t':=s''.toks) (λb o hb e=>(hs''.2 b hb).trans e) hn hL (.inr h0) hcl' hp,q⟩⟩
end
section
variable {PK:Pk} {X:Cx} {e:Expr} {is:DQ} {kx i:DP}
end
noncomputable def pD (kvs:List (DZ×PyData)):PyData:=.dict (kvs.map λkv=>(.tuple (kv.1.map PyData.int),kv.2))
noncomputable def ic (kvs:List (DZ×PyData)) (k:DZ) (v:PyData):List (DZ×PyData) :=
 if (kvs.any λkv=>decide (kv.1=k))=true then kvs.map (λkv=>if kv.1=k then (kv.1,v) else kv) else kvs++[(k,v)]
theorem qx:∀ {a b:DZ},a.map (Sum.inl:Int->aL)=b.map Sum.inl->a=b
 | [],[],_=>rfl
 | [],_::_,e=>by cases e
 | _::_,[],e=>by cases e
 | x::xs,y::ys,e=>by
  rw [Ax,Ax] at e
  injection e with e1 e2
  rw [Sum.inl.inj e1,qx e2]
theorem Zky (a b:DZ):decide (a.map (Sum.inl:Int->aL)=b.map Sum.inl)=decide (a=b):=by
 by_cases h:a=b
 ·rw [decide_eq_true h,decide_eq_true (by rw [h])]
 ·rw [decide_eq_false h,decide_eq_false λe=>h (qx e)]
theorem pe (ks:List (DZ×V)) (k:DZ) (v:V):cZ (ks.map ci) (k.map Sum.inl) v=(cZ ks k v).map ci:=by
 have ha:((ks.map ci).any λkv=>decide (kv.1=k.map Sum.inl))=ks.any λkv=>decide (kv.1=k):=by
  induction ks with
  | nil=>rfl
  | cons p ks ih=>rw [Ax,Cj,Cj,ih]; show (decide (p.1.map Sum.inl=k.map Sum.inl) || _)=_; rw [Zky]
 have hm:(ks.map ci).map (λkv=>if kv.1=k.map Sum.inl then (kv.1,v) else kv)=(ks.map λkv=>if kv.1=k then (kv.1,v) else kv).map ci:=by
  clear ha
  induction ks with
  | nil=>rfl
  | cons p ks ih =>
   rw [Ax,Ax,Ax,Ax,ih]
   by_cases h:p.1=k
   ·rw [if_pos h,if_pos (show p.1.map Sum.inl=k.map Sum.inl by rw [h])]
   ·rw [if_neg h,if_neg λe=>h (qx e)]
 unfold cZ
 rw [ha,hm]
 split
 ·rfl
 ·rw [Bu]
  rfl
section
variable {G G':Hp} {ks:List (DZ×V)} {kvs:List (DZ×PyData)}
theorem KP.any (h:KP G ks kvs) (k:DZ):(ks.any λkv=>decide (kv.1=k))=kvs.any λkv=>decide (kv.1=k):=by
 induction h with
 | nil=>rfl
 | cons _ _ ih=>rw [Cj,Cj,ih]
theorem KP.snoc (h:KP G ks kvs) {k:DZ} {v:V} {d:PyData} (hd:Dn G v d):KP G (ks++[(k,v)]) (kvs++[(k,d)]):=by
 induction h with
 | nil=>exact .cons hd .nil
 | cons h1 _ ih=>exact .cons h1 ih
theorem KP.map (h:KP G ks kvs) {k:DZ} {v:V} {d:PyData} (hd:Dn G v d):KP G (ks.map λkv=>if kv.1=k then (kv.1,v) else kv) (kvs.map λkv=>if kv.1=k then (kv.1,d) else kv):=by
 induction h with
 | nil=>exact .nil
 | @cons i u x ks kvs h1 _ ih =>
  rw [Ax,Ax]
  by_cases hk:i=k
  ·rw [if_pos hk,if_pos hk]
   exact .cons hd ih
  ·rw [if_neg hk,if_neg hk]
   exact .cons h1 ih
theorem KP.put (h:KP G ks kvs) (k:DZ) {v:V} {d:PyData} (hd:Dn G v d):KP G (cZ ks k v) (ic kvs k d):=by
 unfold cZ ic
 rw [h.any]
 split
 ·exact h.map hd
 ·exact h.snoc hd
theorem KP.vals (h:KP G ks kvs):DnAll G (ks.map (·.2)) (kvs.map (·.2)):=by
 induction h with
 | nil=>exact .nil
 | cons h1 _ ih=>exact .cons h1 ih
theorem KP.zip (h:KP G ks kvs):((ks.map λk=>PyData.tuple (k.1.map PyData.int)).zip (kvs.map (·.2)))=kvs.map λkv=>(.tuple (kv.1.map PyData.int),kv.2):=by
 induction h with
 | nil=>rfl
 | cons h1 _ ih=>rw [Ax,Ax,A1,ih,Ax]
theorem KP.ne (h:KP G ks kvs) (hn:kvs≠[]):ks≠[]:=by
 cases h with
 | nil=>exact absurd rfl hn
 | cons _ _=>exact List.cons_ne_nil _ _
theorem KP.dn (h:KP G ks kvs) (hn:kvs≠[]) {a:Addr} {o:Obj} (r:G a=some (.frz o (.dT (ks.map ci)))):Dn G (.ref a) (pD kvs) :=
 Eq.mp (congrArg (λz=>Dn G (V.ref a) (PyData.dict z)) h.zip) (Dn.dcp (h.ne hn) r h.vals)
end
theorem Kn.pd {PK:Pk} {pa:Addr} {m:Nat} {G H:Hp} {ks:List (DZ×V)} {kvs:List (DZ×PyData)} {Q:VK} {p:Addr} (k:Kn PK pa m G H (pD kvs) Q) (hn:kvs≠[]) (w:Wd PK pa m G H) (d:KP G ks kvs) (hp:H p=none) (o:Obj):Q (.ref p) (upd H p (.frz o (.dT (ks.map ci)))):=by
 obtain ⟨w1,s1⟩:=w.new (o:=.frz o (.dT (ks.map ci))) hp
 exact k _ _ _ s1 w1 ((d.mono s1.gs).dn hn bY)
section
variable {PK:Pk} {X:Cx} {e:Expr} {is:DQ} {kx i j:DP}
noncomputable def eu:List (DZ×PyData)->List PyData->Option PyData
 | kvs,[]=>if kvs.isEmpty=true then none else some (pD kvs)
 | kvs,.tuple [.tuple ks,v]::ps=>(ints? ks).bind λns=>eu (ic kvs ns v) ps
 | _,_=>none
noncomputable def zf (i:DP) (τ:D5):PyData->Tr PyData
 | .tuple ks=>match ints? ks with
  | some ns=>(i τ).bind λv=>.ret (.tuple [.tuple (ns.map PyData.int),v])
  | none=>.fail
 | _=>.fail
noncomputable def iE (kx i:DP) (τ:D5):Tr PyData:=(kx τ).bind (zf i τ)
noncomputable def jw (is:DQ) (n:Nat) (ix:List Nat) (g:DV) (kx i:DP):DP:=λρ =>
 (is ρ).bind λxs=>if small xs.length=true then (bJ (λx=>(Tr.of (g x (blk n ix ρ))).bind (iE kx i)) xs).bind λps=>Tr.of (eu [] ps) else .fail
theorem ZeL {n:Nat} {ix:List Nat} {g:DV} (hn:fg n g):∀ σ H Q,TAe PK (jw is n ix g kx i) σ H Q->l7 (cX PK is) n ix (λ_=>dB PK g) (λ_=>TAe PK kx) (λ_=>TAe PK i) σ H Q:=by
 rintro σ H Q ⟨pa,D6,H₀,m,ρ,G,R,z⟩
 refine ⟨pa,D6,H₀,m,ρ,G,R,Tr.ok_mono (Tr.ok_bind.mp z) λm1 xs k J G1 H1 s1 w1 jo=>λB=>?_⟩
 obtain ⟨hs,k⟩:=gf k
 have hs:xs.length<=sizeLine:=of_decide_eq_true hs
 let el:PyData->Tr PyData:=λx=>(Tr.of (g x (blk n ix ρ))).bind (iE kx i)
 let W:Nat->Nat->St->List (List aL×V)->(Addr->Prop)->Hp->Prop:=λk mm τ ys KA H2=>mm=xs.length - k/\k<=xs.length/\ys.length<=k/\∃ m G2 ks kvs,ys=ks.map ci/\Sub G1 G2/\Stp pa G H G2 H2/\Rl PK pa D6 H₀ m τ (blk n ix ρ) G2 H2 /\
  KP G2 ks kvs/\(∀ c,KA c->∃ o,G2 c=some o)/\((bJ el (xs.drop k)).bind λzs=>Tr.of (eu kvs zs)).ok m λm' d=>Kn PK pa m' G H d Q
 refine ⟨W,⟨xs.length,rfl,Bg _,Aw _,m1,G1,[],[],rfl,.refl,s1,(R.step s1 w1).blk n ix,.nil,(λ_ h=>h.elim),k⟩,?_⟩
 rintro k mm τ ys KA H2 ⟨rfl,hk,hy,m2,G2,ks,kvs,rfl,sb,st2,R2,dn,hKA,k2⟩
 obtain ⟨j1,j2⟩:=jo m2 G2 H2 sb R2.wd
 by_cases hlt:k < xs.length
 ·have hx:xs[k]?=some xs[k]:=by simp [hlt]
  obtain ⟨jg,jy⟩:=j1 k _ hx
  refine .inr ⟨jg,by omega,λx H3 y=>?_⟩
  obtain ⟨G3,s3,w3,d3⟩:=jy x H3 y
  rw [AZ hlt] at k2
  unfold bJ at k2
  rw [Tr.ok_bind,Tr.ok_bind,Tr.ok_bind] at k2
  obtain ⟨ρ3,hg3,k3⟩:=Tr.ok_of k2
  refine ⟨pa,D6,H₀,m2,_,G3,_,ρ3,R2.step s3 w3,d3,hg3,λτ4 R4=>?_⟩
  unfold iE at k3
  refine ⟨pa,D6,H₀,m2,ρ3,G3,R4,Tr.ok_mono (Tr.ok_bind.mp k3) λm5 kd k5=>?_⟩
  intro v G5 H5 s5 w5 d5
  have s35:=s3.trans s5 w3.some
  obtain ⟨pl,pk⟩:=hn _ _ _ hg3
  obtain ⟨ns,rfl,k7⟩:∃ ns:DZ,kd=.tuple (ns.map PyData.int)/\((i ρ3).bind λv=>Tr.ret (PyData.tuple [.tuple (ns.map PyData.int),v])).ok m5 λm' y=>((bJ el (xs.drop (k+1))).bind λzs=>Tr.ret (y::zs)).ok m' λm' zs=>(Tr.of (eu kvs zs)).ok m' λm'' d=>Kn PK pa m'' G H d Q:=by
   cases kd with
   | tuple kk =>
    unfold zf at k5
    dsimp only at k5
    cases hi:ints? kk with
    | none=>rw [hi] at k5; exact k5.elim
    | some ns =>
     rw [hi] at k5
     have hkk:kk=ns.map PyData.int:=by
      cases d5 with
      | tup h1 h2=>exact (h2.ints_inv hi).2
     subst hkk
     exact ⟨ns,rfl,k5⟩
   | _=>exact k5.elim
  obtain ⟨c,rfl,hc⟩:∃ c,v=.ref c/\G5 c=some (.tup (ns.map V.int)):=by
   cases d5 with
   | tup h1 h2 =>
    obtain ⟨e1,_⟩:=h2.ints_inv (ints?_map ns)
    exact ⟨_,rfl,by rw [<- e1]; exact h1⟩
  refine ⟨pa,D6,H₀,m5,ρ3,G5,R4.step s5 w5,Tr.ok_mono (Tr.ok_bind.mp k7) λm6 yd k6=>?_⟩
  intro u G6 H6 s6 w6 d6
  have s56:=s35.trans s6 w5.some
  have k8:((bJ el (xs.drop (k+1))).bind λzs=>Tr.of (eu (ic kvs ns yd) zs)).ok m6 λm' d=>Kn PK pa m' G H d Q:=by
   have k6':((bJ el (xs.drop (k+1))).bind λzs=>Tr.ret (PyData.tuple [.tuple (ns.map PyData.int),yd]::zs)).ok m6 λm' zs=>(Tr.of (eu kvs zs)).ok m' λm'' d=>Kn PK pa m'' G H d Q:=k6
   rw [Tr.ok_bind] at k6' ⊢
   refine Tr.ok_mono k6' λm' zs q=>?_
   have q':(Tr.of (eu kvs (PyData.tuple [.tuple (ns.map PyData.int),yd]::zs))).ok m' λm'' d=>Kn PK pa m'' G H d Q:=q
   unfold eu at q'
   rw [ints?_map] at q'
   exact q'
  have hmap:(ns.map (Sum.inl:Int->aL)).map kV=ns.map V.int:=by rw [AS]; rfl
  refine ⟨ns.map Sum.inl,c,xs.length - (k+1),rfl,?_,λb zs hb hz=>?_,by omega,rfl,hlt,?_,m6,G6,cZ ks ns u,ic kvs ns yd,pe _ _ _,sb.trans s56.gs,st2.trans s56 R2.wd.some,?_,(KP.mono s56.gs dn).put ns d6,λb hb=>?_,k8⟩
  ·rw [hmap]
   exact w6.sub _ _ (s6.gs _ _ hc)
  ·obtain ⟨o,ho⟩:=hKA b hb
   refine s56.hk b _ hz λz=>?_
   rw [z,R2.wd.gpa] at ho
   cases ho
  ·rw [pe,At]
   rw [At] at hy
   have:=qm ks ns u
   omega
  ·refine ((R4.step s5 w5).step s6 w6).weak pl λq sl hq=>?_
   by_cases hqn:q < n
   ·left
    unfold blk at hq
    rw [AW (by simpa using hqn),Bb,if_pos hqn] at hq
    cases hq
    rfl
   ·right
    rw [pk q (Cb hqn)]
    exact hq
  ·rcases hb with hb | rfl
   ·obtain ⟨o,ho⟩:=hKA b hb
    exact ⟨o,s56.gs _ _ ho⟩
   ·exact ⟨_,s6.gs _ _ hc⟩
 ·have e:k=xs.length:=by omega
  subst e
  refine .inl ⟨j2,λp v o H' hp ev eH=>?_⟩
  subst ev eH
  rw [Br] at k2
  have k2':(Tr.of (eu kvs [])).ok m2 λm' d=>Kn PK pa m' G H d Q:=k2
  unfold eu at k2'
  have hne:kvs≠[]:=by
   intro e
   rw [e] at k2'
   exact k2'.elim
  have hne':kvs.isEmpty=false:=by cases kvs with | nil=>exact absurd rfl hne | cons _ _=>rfl
  rw [hne'] at k2'
  have k3:Kn PK pa m2 G H (pD kvs) Q:=k2'
  exact (Kn.later k3 st2 R2.wd.some).pd hne R2.wd dn hp o
theorem ZfW {n:Nat} {ix:List Nat} {g:DV} (h:PE X e (l7 (cX PK is) n ix (λ_=>dB PK g) (λ_=>TAe PK kx) (λ_=>TAe PK i))) (hn:fg n g):PE X e (TAe PK (jw is n ix g kx i)):=h.imp (ZeL hn)
theorem Znx {st:Stmt} {n k:Nat} {ix:List Nat} {g:DV} (h:PS X st (dM (l7 (cX PK is) n ix (λ_=>dB PK g) (λ_=>TAe PK kx) (λ_=>TAe PK i)) (dZ k))) (hn:fg n g):PS X st (bH PK (bb k (jw is n ix g kx i))) :=
 bf (h.imp (ox (ZeL hn)))
noncomputable def fS (kvs:List (PyData×PyData)) (ns:DZ):Option PyData:=(kvs.find? λkv=>match kv.1 with | .tuple xs=>decide (ints? xs=some ns) | _=>false).map (·.2)
noncomputable def eO:DW
 | .dict kvs,.tuple ks=>(ints? ks).bind (fS kvs)
 | _,_=>none
theorem ZeT {G:Hp} {ns:DZ} {d:PyData}:∀ {ks:List (DZ×V)} {ds:DY},DnAll G (ks.map (·.2)) ds->fS ((ks.map λk=>PyData.tuple (k.1.map PyData.int)).zip ds) ns=some d->∃ v,gr (ks.map ci) (ns.map Sum.inl)=some v/\Dn G v d
 | [],_,h,e=>by cases h; cases e
 | kv::ks,_,h,e=>by
  rw [Ax] at h
  cases h with
  | @cons _ _ x ds h1 h2 =>
   rw [Ax,A1] at e
   unfold fS at e
   rw [BA] at e
   dsimp only at e
   rw [ints?_map] at e
   by_cases hk:kv.1=ns
   ·rw [decide_eq_true (by rw [hk])] at e
    have e':some x=some d:=e
    cases e'
    exact ⟨kv.2,om (by show kv.1.map Sum.inl=_; rw [hk]),h1⟩
   ·rw [decide_eq_false λz=>hk (A9 z)] at e
    obtain ⟨v,hv,dn⟩:=ZeT h2 (show fS _ ns=some d from e)
    exact ⟨v,by rw [Ax,on λz=>hk (qx z)]; exact hv,dn⟩
theorem ZeS {ns:DZ}:∀ {ks:List (aL×V)} {ds:DY},fS ((ks.map λk=>match k.1 with | .inl i=>PyData.int i | .inr x=>PyData.str x).zip ds) ns=none
 | [],_=>rfl
 | _::_,[]=>rfl
 | k::ks,d::ds=>by
  rw [Ax,A1]
  unfold fS
  rw [BA]
  obtain ⟨k,v⟩:=k
  cases k <;> exact ZeS
theorem ju (h:PE X e (ZaD (TAe PK i) (TAe PK j))):PE X e (TAe PK (ae eO i j)):=h.imp λσ H Q hz0=>by
 obtain ⟨pa,D6,H₀,m,ρ,G,R,q⟩:=hz0
 refine TAe.then R q λm1 x v G1 H1 s1 w1 R1 d1 q1=>?_
 refine TAe.then R1 q1 λm2 y u G2 H2 s2 w2 R2 d2 q2=>?_
 obtain ⟨z,hz,k⟩:=Tr.ok_of q2
 cases d2 with
 | @tup b vs es h1 h2 =>
  cases d1 with
  | @dcp a o ks ds r0 r1 r2 =>
   have hz':((ints? es).bind (fS _))=some z:=hz
   cases hi:ints? es with
   | none=>rw [hi] at hz'; cases hz'
   | some ns =>
    rw [hi] at hz'
    obtain ⟨v',hv,dn⟩:=ZeT r2 hz'
    obtain ⟨e1,_⟩:=h2.ints_inv hi
    refine ⟨_,v',rfl,.inr ⟨_,ns.map Sum.inl,b,(Or.inr ⟨o,w2.sub _ _ (s2.gs _ _ r1)⟩),rfl,?_,hv.symm⟩,(Kn.later k (s1.trans s2 w1.some) w2.some).here w2 (dn.mono s2.gs)⟩
    rw [AS]
    have:=w2.sub _ _ h1
    rw [e1] at this
    exact this
  | @dct _ ks ds r1 r2 =>
   have hz':((ints? es).bind (fS _))=some z:=hz
   cases hi:ints? es with
   | none=>rw [hi] at hz'; cases hz'
   | some ns =>
    rw [hi] at hz'
    have hz'':fS _ ns=some z:=hz'
    exact nomatch (Eq.trans (Eq.symm (ZeS (ks:=ks) (ds:=ds) (ns:=ns))) hz'')
  | _=>cases hz
 | _=>cases d1 <;> cases hz
end
noncomputable abbrev Pr:=Int×DZ
noncomputable def fV:List Pr->Pr
 | []=>(0,[])
 | x::r=>r.foldl (λb y=>if HT.cx y b=true then y else b) x
theorem Zfw:∀ (nss:List Pr) (k:Nat),k < nss.length->nss[argBest (λi j=>HT.cx (nss[i]?.getD (0,[])) (nss[j]?.getD (0,[]))) k]?=some (fV (nss.take (k+1)))
 | [],k,h=>by cases h
 | x::r,0,h=>by simp [argBest,fV]
 | x::r,k+1,h=>by
  have ih:=Zfw (x::r) k (by omega)
  have hk:k < r.length:=by simpa using h
  have et:(x::r).take (k+1+1)=(x::r).take (k+1)++[r[k]]:=by
   rw [CN,CN,Dk,As hk]
   rfl
  have eb:fV ((x::r).take (k+1+1))=if HT.cx r[k] (fV ((x::r).take (k+1)))=true then r[k] else fV ((x::r).take (k+1)):=by
   rw [et,CN]
   show (r.take k++[r[k]]).foldl (λb y=>if HT.cx y b=true then y else b) x=_
   rw [Do]
   rfl
  have ex:(x::r)[k+1]?=some r[k]:=by rw [A7,As hk]
  rw [eb]
  unfold argBest
  have e1:((x::r)[k+1]?).getD (0,[])=r[k]:=by rw [ex]; rfl
  have e2:((x::r)[argBest (λi j=>HT.cx ((x::r)[i]?.getD (0,[])) ((x::r)[j]?.getD (0,[]))) k]?).getD (0,[])=fV ((x::r).take (k+1)):=by rw [ih]; rfl
  rw [e1,e2]
  split
  ·exact ex
  ·exact ih
section
variable {X:Cx}
noncomputable def Zcg:List V->Hp->VK->Prop:=λxs H Q=>∃ (l:Addr) (vs:D3) (nss:List Pr),xs=[.ref l]/\H l=some (.lst vs)/\nss≠[]/\vs.length=nss.length /\
 (∀ i:Nat,∀ p:Pr,nss[i]?=some p->∃ a c:Addr,vs[i]?=some (.ref a)/\H a=some (.tup [.int p.1,.ref c])/\H c=some (.tup (p.2.map V.int))) /\
 ∀ (i:Nat) (a:Addr),vs[i]?=some (.ref a)->nss[i]?=some (fV nss)->Q (.ref a) H
theorem ZmU {k:Nat} (hr:Room k X.A) (hc:X.calm=true):dL X (.builtin "min") Zcg:=by
 intro pins s σ H xs us Q I r h
 obtain ⟨l,vs,nss,rfl,hl,hne,hlen,hat,q⟩:=h
 obtain ⟨u,rfl,ru⟩:=eB r
 cases ru
 obtain ⟨us,r1,p1⟩:=dU (b:=true) I.hok hl
 have hul:=r1.length
 have p1':s.heap.IsList l us.toArray:=p1
 have hpos:0 < nss.length:=List.length_pos_iff.mpr hne
 have look:∀ (i:Nat) (v:Value),us.toArray[i]?=some v->∃ (a c:Addr) (p:Pr),v=.ref a/\nss[i]?=some p/\vs[i]?=some (.ref a)/\H a=some (.tup [.int p.1,.ref c])/\H c=some (.tup (p.2.map V.int)):=λi v hv=>by
  have hv':us[i]?=some v:=by simpa using hv
  have hi:i < us.length:=(Ay.mp hv').1
  have hi2:i < nss.length:=by omega
  obtain ⟨a,c,ha,hH,hC⟩:=hat i nss[i] (As hi2)
  obtain ⟨u',hu',ru'⟩:=r1.get ha
  rw [hv'] at hu'
  cases hu'
  cases ru'
  exact ⟨a,c,nss[i],rfl,As hi2,ha,hH,hC⟩
 have pair:∀ {a c:Addr} {p:Pr},H a=some (.tup [.int p.1,.ref c])->∃ t,IsTup s.heap a #[.int p.1 t,.ref c]:=λ{a c p} h=>by
  obtain ⟨u1,w1,t1⟩:=dU (b:=false) I.hok h
  cases w1 with
  | cons r1 w1 =>
   cases w1 with
   | cons r2 w1 =>
    cases w1
    obtain ⟨t,rfl⟩:=r1
    cases r2
    exact ⟨t,t1⟩
 refine ZjC (bt:=λi j=>HT.cx (nss[i]?.getD (0,[])) (nss[j]?.getD (0,[]))) (I.ok.hd hc) p1' (by rw [AG]; omega) (λi j vi vj s' Q' E' _ kp hi hj hq=>?_) λh' tk v kp hv=>?_
 ·obtain ⟨a,ca,p,rfl,e1,_,hHa,hCa⟩:=look i vi hi
  obtain ⟨b,cb,p',rfl,e2,_,hHb,hCb⟩:=look j vj hj
  obtain ⟨ta,t1⟩:=pair hHa
  obtain ⟨tb,t2⟩:=pair hHb
  obtain ⟨u3,w3,t3⟩:=dU (b:=false) I.hok hCa
  obtain ⟨u4,w4,t4⟩:=dU (b:=false) I.hok hCb
  have i1:IntsAre u3.toArray.toList p.2:=yF w3
  have i2:IntsAre u4.toArray.toList p'.2:=yF w4
  have q1:IsTup s'.heap a #[.int p.1 ta,.ref ca]:=SqAt.at (b:=false) t1 λo e=>kp a o e
  have q2:IsTup s'.heap b #[.int p'.1 tb,.ref cb]:=SqAt.at (b:=false) t2 λo e=>kp b o e
  have q3:IsTup s'.heap ca u3.toArray:=SqAt.at (b:=false) t3 λo e=>kp ca o e
  have q4:IsTup s'.heap cb u4.toArray:=SqAt.at (b:=false) t4 λo e=>kp cb o e
  have hq':Q' (.bool (HT.cx (p.1,p.2) (p'.1,p'.2))) s':=by
   have:HT.cx (nss[i]?.getD (0,[])) (nss[j]?.getD (0,[]))=HT.cx p p':=by rw [e1,e2]; rfl
   have hq2:Q' (.bool (HT.cx (nss[i]?.getD (0,[])) (nss[j]?.getD (0,[])))) s':=hq
   rw [this] at hq2
   exact hq2
  exact HT.ZjL q1 q2 q3 q4 i1 i2 (show X.A.units+1+1 < cLine from by have:=hr.units; omega) hq'
 ·obtain ⟨a,ca,p,rfl,e1,e2,hHa,hCa⟩:=look _ v hv
  have hsz:us.toArray.size - 1=nss.length - 1:=by rw [AG]; omega
  rw [hsz] at e1 e2
  have hb:=Zfw nss (nss.length - 1) (by omega)
  have et:nss.take (nss.length - 1+1)=nss:=Cd (by omega)
  rw [et] at hb
  exact ⟨.ref a,H,I.kept kp,rfl,q _ a e2 hb⟩
noncomputable def eF (p:Pr):PyData:=.tuple [.int p.1,.tuple (p.2.map PyData.int)]
noncomputable def prs?:List PyData->Option (List Pr)
 | []=>some []
 | .tuple [.int a,.tuple ks]::xs=>(ints? ks).bind λns=>(prs? xs).bind λr=>some ((a,ns)::r)
 | _=>none
theorem prs?_map:∀ ps:List Pr,prs? (ps.map eF)=some ps
 | []=>rfl
 | p::r=>by
  rw [Ax]
  show (ints? (p.2.map PyData.int)).bind _=_
  rw [ints?_map]
  show (prs? (r.map eF)).bind _=_
  rw [prs?_map r]
  rfl
theorem ZcC {H:Hp}:∀ {vs:D3} {ds:DY} {ps:List Pr},DnAll H vs ds->prs? ds=some ps->vs.length=ps.length/\ds=ps.map eF/\∀ i:Nat,∀ p:Pr,ps[i]?=some p->∃ a c:Addr,vs[i]?=some (.ref a)/\H a=some (.tup [.int p.1,.ref c])/\H c=some (.tup (p.2.map V.int))
 | [],_,ps,.nil,h=>by cases h; exact ⟨rfl,rfl,λi p h=>by cases h⟩
 | v::vs,_,ps,.cons (d:=d) (ds:=ds) hd ht,h=>by
  unfold prs? at h
  split at h
  ·rename_i e; cases e
  ·rename_i a ks xs e
   injection e with e1 e2
   subst e1 e2
   cases hi:ints? ks with
   | none=>rw [hi] at h; cases h
   | some ns =>
    cases e2:prs? ds with
    | none=>rw [hi,e2] at h; cases h
    | some r =>
     rw [hi,e2] at h
     have h':(a,ns)::r=ps:=A9 h
     subst h'
     obtain ⟨k1,k2,k3⟩:=ZcC ht e2
     cases hd with
     | @tup b us _ a1 a2 =>
      cases a2 with
      | cons b1 b2 =>
       cases b2 with
       | cons b2 b3 =>
        cases b3
        cases b1
        cases b2 with
        | @tup c ws _ c1 c2 =>
         obtain ⟨rfl,rfl⟩:=c2.ints_inv hi
         refine ⟨by simp [k1],by rw [Ax,<- k2]; rfl,λi p hp=>?_⟩
         cases i with
         | zero=>cases hp; exact ⟨b,c,rfl,a1,c1⟩
         | succ i=>exact k3 i p hp
  ·cases h
noncomputable def pX:List PyData->Option PyData
 | [.list xs]=>(prs? xs).bind λps=>if ps.isEmpty=true then none else some (eF (fV ps))
 | _=>none
theorem Zgl:fJ Zcg pX:=λPK pa m G H vs ds d Q w hv hd k=>by
 unfold pX at hd
 split at hd
 ·rename_i xs
  cases e1:prs? xs with
  | none=>rw [e1] at hd; cases hd
  | some ps =>
   rw [e1] at hd
   have hd':(if ps.isEmpty=true then none else some (eF (fV ps)))=some d:=hd
   cases hv with
   | cons h1 h2 =>
    cases h2
    cases h1 with
    | @lst l us _ a1 a2 =>
     obtain ⟨k1,k2,k3⟩:=ZcC a2 e1
     split at hd'
     ·cases hd'
     ·rename_i hne
      cases hd'
      refine ⟨l,us,ps,rfl,w.sub _ _ a1,λz=>hne (by rw [z]; rfl),k1,λi p hi=>?_,λi a ham hHa=>?_⟩
      ·obtain ⟨a,c,e1,e2,e3⟩:=k3 i p hi
       exact ⟨a,c,e1,w.sub _ _ e2,w.sub _ _ e3⟩
      ·obtain ⟨a',c,e1,e2,e3⟩:=k3 i _ hHa
       rw [ham] at e1
       cases e1
       exact k.here w (.tup e2 (.cons (.int _) (.cons (.tup e3 (DnAll.ints _)) .nil)))
 ·cases hd
end
theorem ZmA (elt t0 i0 t1 i1:Expr) (scope:Scope) (pos:Pos) (it acc:Value) (env:Env) :
  compTurn (.ListComp elt [⟨t0,i0,[],0⟩,⟨t1,i1,[],0⟩] scope pos) 0 it acc env=(standAt i0.pos >>= λ_=>pyNext it >>= λr=>match r with
   | none=>pure (.done .next)
   | some v=>letOwnedTupleGo t0 it v >>= λ_=>assign t0 env v >>= λ_ =>
    (eval i1 env >>= λx=>standAt i1.pos >>= λ_=>foldedSetIterable i1 env x >>= λx=>holding [x] (pyIter x) >>= λj =>
     runOwn (.compStart (.ListComp elt [⟨t0,i0,[],0⟩,⟨t1,i1,[],0⟩] scope pos) 1 j acc env) env >>= λ_ =>
     again (.compLoop (.ListComp elt [⟨t0,i0,[],0⟩,⟨t1,i1,[],0⟩] scope pos) 0 it acc env))):=by rfl
theorem Zmz (elt t0 i0 t1 i1:Expr) (scope:Scope) (pos:Pos) (it acc:Value) (env:Env) :
  compTurn (.ListComp elt [⟨t0,i0,[],0⟩,⟨t1,i1,[],0⟩] scope pos) 1 it acc env=(standAt i1.pos >>= λ_=>pyNext it >>= λr=>match r with
   | none=>pure (.done .next)
   | some v=>letOwnedTupleGo t1 it v >>= λ_=>assign t1 env v >>= λ_ =>
    (eval elt env >>= λx=>call (.builtin "list.append") [acc,x] >>= λ_=>pure ()) >>= λ_ =>
     again (.compLoop (.ListComp elt [⟨t0,i0,[],0⟩,⟨t1,i1,[],0⟩] scope pos) 1 it acc env)):=by rfl
section
variable {prog:Program} {w:World} {A:Around} {R:Result->Shared->Prop} {s:Shared} {elt t0 i0 t1 i1:Expr} {scope:Scope} {pos:Pos} {it acc:Value} {env:Env}
noncomputable def ZaL (elt t0 i0 t1 i1:Expr) (scope:Scope) (pos:Pos) (it acc:Value) (env:Env) (plain:Bool):Sem Fin :=
 let loop:Value->Sem Fin:=λj=>again (.compLoop (.ListComp elt [⟨t0,i0,[],0⟩,⟨t1,i1,[],0⟩] scope pos) 1 j acc env)
 if plain=true then loop it >>= λf=>pure f
 else rule "comprehension.iter-twice" >>= λ_=>standAt i1.pos >>= λ_=>pyIter it >>= loop
theorem Zg9 (elt t0 i0 t1 i1:Expr) (scope:Scope) (pos:Pos) (it acc:Value) (env:Env) :
  compStart (.ListComp elt [⟨t0,i0,[],0⟩,⟨t1,i1,[],0⟩] scope pos) 1 it acc env=ask >>= λz=>ZaL elt t0 i0 t1 i1 scope pos it acc env (z.params.followText "comprehension-iter-twice"):=by rfl
theorem ZmC (h0:codeAny (model prog w) A (.compLoop (.ListComp elt [⟨t0,i0,[],0⟩,⟨t1,i1,[],0⟩] scope pos) 1 it acc env) R s)
  (h:wpAny (model prog w) A (pyIter it) (λj s1=>codeAny (model prog w) A (.compLoop (.ListComp elt [⟨t0,i0,[],0⟩,⟨t1,i1,[],0⟩] scope pos) 1 j acc env) R s1)
   (notedBy (model prog w) A env λx s1=>R (.error x) s1) s) :
  codeAny (model prog w) A (.compStart (.ListComp elt [⟨t0,i0,[],0⟩,⟨t1,i1,[],0⟩] scope pos) 1 it acc env) R s:=by
 have tree:∀ E,(∀ x s1,notedBy (model prog w) A env (λx s1=>R (.error x) s1) x s1->E x s1)->wpAny (model prog w) A (compStart (.ListComp elt [⟨t0,i0,[],0⟩,⟨t1,i1,[],0⟩] scope pos) 1 it acc env)
   (λfin s1=>match fin with | .done f=>R (.ok f) s1 | .again c=>c.quiet=true/\codeAny (model prog w) A c R s1) E s:=λE hE=>by
  rw [Zg9]
  apply wpAny_bind; apply wpAny_askSetting
  unfold ZaL
  cases Params.followText _ _ with
  | true=>exact wpAny_bind (wpAny_pure (wpAny_pure ⟨rfl,h0⟩))
  | false =>
   apply wpAny_bind; apply wpAny_rule
   apply wpAny_bind; apply wpAny_standAt
   apply wpAny_bind
   exact wpAny_mono h (λj s1 hj=>wpAny_pure ⟨rfl,hj⟩) hE
 exact codeAny_of_tree (wpAny_notedAt (tree _ λ_ _ z=>z))
theorem ZmD (J:Nat->Shared->Prop)
  (step:∀ k s0,J k s0->wpAny (model prog w) A (pyNext it) (λgot s1=>match got with
   | none=>R (.ok .next) s1
   | some v=>wpAny (model prog w) A (letOwnedTupleGo t1 it v) (λ_ s2=>wpAny (model prog w) A (assign t1 env v) (λ_ s3=>wpAny (model prog w) A (eval elt env) (λy s4 =>
     wpAny (model prog w) A (call (.builtin "list.append") [acc,y]) (λ_ s5=>∃ j,j < k/\J j s5) (λ_ _=>False) s4) (λ_ _=>False) s3) (λ_ _=>False) s2) (λ_ _=>False) s1) (λ_ _=>False) s0)
  (k:Nat) (h:J k s):codeAny (model prog w) A (.compLoop (.ListComp elt [⟨t0,i0,[],0⟩,⟨t1,i1,[],0⟩] scope pos) 1 it acc env) R s:=by
 refine codeAny_loop rfl J (λk0 s0 hJ=>?_) k h
 show wpAny _ _ ((compTurn (.ListComp elt [⟨t0,i0,[],0⟩,⟨t1,i1,[],0⟩] scope pos) 1 it acc env).onRaise (λx=>do noteFrame x env; theTreesLotGoes x)) _ _ s0
 apply wpAny_noted
 rw [Zmz]
 refine wpAny_bind (wpAny_standAt (wpAny_bind (wpAny_mono (step k0 s0 hJ) (λgot s1 h1=>?_) λ_ _ z=>z.elim)))
 cases got with
 | none=>exact wpAny_pure h1
 | some v =>
  refine wpAny_bind (wpAny_mono h1 (λ_ s2 h2=>?_) λ_ _ z=>z.elim)
  refine wpAny_bind (wpAny_mono h2 (λ_ s3 h3=>?_) λ_ _ z=>z.elim)
  refine wpAny_bind (wpAny_bind (wpAny_mono h3 (λy s4 h4=>?_) λ_ _ z=>z.elim))
  exact wpAny_bind (wpAny_mono h4 (λ_ s5 h5=>wpAny_pure (wpAny_pure ⟨rfl,h5⟩)) λ_ _ z=>z.elim)
theorem ZmE (J:Nat->Shared->Prop) (hs:∀ x,foldedSetIterable i1 env x=pure x)
  (step:∀ k s0,J k s0->wpAny (model prog w) A (pyNext it) (λgot s1=>match got with
   | none=>R (.ok .next) s1
   | some v=>wpAny (model prog w) A (letOwnedTupleGo t0 it v) (λ_ s2=>wpAny (model prog w) A (assign t0 env v) (λ_ s3=>wpAny (model prog w) A (eval i1 env) (λx s4 =>
     wpAny (model prog w) A (pyIter x) (λj s5=>codeAny (model prog w) A (.compStart (.ListComp elt [⟨t0,i0,[],0⟩,⟨t1,i1,[],0⟩] scope pos) 1 j acc env) (λr s6=>(∃ f,r=.ok f)/\∃ j,j < k/\J j s6) s5)
      (λ_ _=>False) s4) (λ_ _=>False) s3) (λ_ _=>False) s2) (λ_ _=>False) s1) (λ_ _=>False) s0)
  (k:Nat) (h:J k s):codeAny (model prog w) A (.compLoop (.ListComp elt [⟨t0,i0,[],0⟩,⟨t1,i1,[],0⟩] scope pos) 0 it acc env) R s:=by
 refine codeAny_loop rfl J (λk0 s0 hJ=>?_) k h
 show wpAny _ _ ((compTurn (.ListComp elt [⟨t0,i0,[],0⟩,⟨t1,i1,[],0⟩] scope pos) 0 it acc env).onRaise (λx=>do noteFrame x env; theTreesLotGoes x)) _ _ s0
 apply wpAny_noted
 rw [ZmA]
 refine wpAny_bind (wpAny_standAt (wpAny_bind (wpAny_mono (step k0 s0 hJ) (λgot s1 h1=>?_) λ_ _ z=>z.elim)))
 cases got with
 | none=>exact wpAny_pure h1
 | some v =>
  refine wpAny_bind (wpAny_mono h1 (λ_ s2 h2=>?_) λ_ _ z=>z.elim)
  refine wpAny_bind (wpAny_mono h2 (λ_ s3 h3=>?_) λ_ _ z=>z.elim)
  refine wpAny_bind (wpAny_mono h3 (λx s4 h4=>?_) λ_ _ z=>z.elim)
  refine wpAny_bind (wpAny_standAt (wpAny_bind (wpAny_of_eq (hs x) ?_)))
  refine wpAny_bind (wpAny_holding (wpAny_mono h4 (λj s5 h5=>?_) λ_ _ z=>z.elim))
  refine wpAny_bind (wpAny_runOwn ?_)
  refine codeAny_mono h5 λr s6 h6=>?_
  obtain ⟨⟨f,rfl⟩,h6⟩:=h6
  exact wpAny_pure ⟨rfl,h6⟩
end
theorem ZiD {fp:List Addr} {h:Heap} {p:Addr×Obj} (hp:p∈fQ fp h):p.1∈fp:=by
 obtain ⟨b,hb,e⟩:=De.mp hp
 cases z:h.get? b with
 | none=>rw [z] at e; cases e
 | some o=>rw [z] at e; cases e; exact hb
def wO (wi:TI) (n:Nat) (ix:List Nat) (g:Blk->TG) (wi1:Blk->TI) (g1:Blk->TG) (te:Blk->TE):TE:=λσ H Q=>wi σ H λJ H1=>∀ b:Blk,∃ W:Nat->Nat->St->List V->Hp->Prop,(∃ m,W 0 m (dc n ix σ) [] H1)/\∀ i m τ ys H2,W i m τ ys H2 ->
   (J.stop i H2/\∀ p v H',H2 p=none->v=V.ref p->H'=upd H2 p (.lst ys)->Q v H') \/
   (J.go i H2/\∀ x H3,J.yld i H2 x H3->g b x τ H3 λτ2 H4=>wi1 b τ2 H4 λJ1 H5=>∃ W1:Nat->Nat->St->List V->Hp->Prop,(∃ m1,W1 0 m1 τ2 ys H5)/\∀ k1 m1 τ3 zs H6,W1 k1 m1 τ3 zs H6 ->
    (J1.stop k1 H6/\∃ m',m' < m/\W (i+1) m' τ3 zs H6) \/
    (J1.go k1 H6/\zs.length < sizeLine/\∀ x1 H7,J1.yld k1 H6 x1 H7->g1 b x1 τ3 H7 λτ4 H8=>te b τ4 H8 λy H9=>∃ m1',m1' < m1/\W1 (k1+1) m1' τ4 (zs++[y]) H9))
section
variable {X:Cx} {pins:List (Addr×Obj)} {σ:St} {H:Hp} {s:Shared}
theorem Zj0 {elt target iter t1 i1:Expr} {scope:Scope} {pos:Pos} {Nx ts:D2} {ix:List Nat} {g g1:Blk->TG} {wi1:Blk->TI} {te:Blk->TE} {cl:List (Str×Addr)} {s2:Shared} {itv:Value} {R:Value->Addr->Result->Shared->Prop}
  {E:DX} {Q:VK}
  (hc:X.calm=true) (hg:∀ b,PG (aW X (bN Nx ts ix) scope b) target (g b)) (hi1:∀ b,PI (aW X (bN Nx ts ix) scope b) t1 i1 (wi1 b)) (hg1:∀ b,PG (aW X (bN Nx ts ix) scope b) t1 (g1 b)) (he:∀ b,PE (aW X (bN Nx ts ix) scope b) elt (te b)) (hs1:∀ b x,foldedSetIterable i1 (aW X (bN Nx ts ix) scope b).env x=pure x)
  (hNx:X.N=Nx) (ok:BlkOk Nx X.env.scope scope ix) (cl1:∀ x c,cl.lookup x=some c->X.env.cells.lookup x=some c) (cl2:∀ y∈scope.names,y.2=.free->∃ c,cl.lookup y.1=some c)
  (h2:lV X pins σ target (λJ H1=>∀ b:Blk,∃ W:Nat->Nat->St->List V->Hp->Prop,(∃ m,W 0 m (dc ts.length ix σ) [] H1)/\∀ i m τ ys H2,W i m τ ys H2 ->
   (J.stop i H2/\∀ p v H',H2 p=none->v=V.ref p->H'=upd H2 p (.lst ys)->Q v H') \/
   (J.go i H2/\∀ x H3,J.yld i H2 x H3->g b x τ H3 λτ2 H4=>wi1 b τ2 H4 λJ1 H5=>∃ W1:Nat->Nat->St->List V->Hp->Prop,(∃ m1,W1 0 m1 τ2 ys H5)/\∀ k1 m1 τ3 zs H6,W1 k1 m1 τ3 zs H6 ->
    (J1.stop k1 H6/\∃ m',m' < m/\W (i+1) m' τ3 zs H6) \/
    (J1.go k1 H6/\zs.length < sizeLine/\∀ x1 H7,J1.yld k1 H6 x1 H7->g1 b x1 τ3 H7 λτ4 H8=>te b τ4 H8 λy H9=>∃ m1',m1' < m1/\W1 (k1+1) m1' τ4 (zs++[y]) H9))) itv s2)
  (hR:∀ (D C:Addr) (H':Hp) (s':Shared) (v:V),Inv X pins σ H' s'->v=.ref D->Q v H'->(∃ m,s'.heap.Ns C m)->H' C=none->C≠X.env.locals->X.s₀.heap.objs.size<=C->(∀ x c,X.env.cells.lookup x=some c->c≠C)->(∀ p∈X.pn++pins,p.1≠C) ->
   R (.ref D) C (.ok .next) s') :
  wpAny (model X.prog X.w) X.A (newList []) (λacc s₃=>wpAny (model X.prog X.w) X.A (newFunctionEnv scope X.env.globals cl [] X.env.qual none .none (some X.env)) (λcenv s₄ =>
   codeAny (model X.prog X.w) X.A (.compStart (.ListComp elt [⟨target,iter,[],0⟩,⟨t1,i1,[],0⟩] scope pos) 0 itv acc { cenv with scope:=relabel scope X.env }) (R acc cenv.locals) s₄) E s₃) E s2:=by
 obtain ⟨it,fp,tn,J,H1,e,I2,T,st2,f2,q2⟩:=h2
 subst e
 refine wpAny_newObj_type (oa ?_)
 dsimp only
 generalize hG:s2.heap.push { cls:=.type "list",dict:=none,data:=.seq ([]:D1).toArray }=G
 have hGs:G.objs.size=s2.heap.objs.size+1:=by rw [<- hG,Bk]
 have hfs:∀ b∈fp,b < s2.heap.objs.size:=λb hb=>let ⟨o,e,_⟩:=T.obj _ _ st2 b hb; AK e
 have kpG:∀ b o,G.get? b=some o->(pushCells (G.push { cls:=.type "dict",data:=.dict #[] }) scope.names).get? b=some o:=λb o e=>pushCells_keeps _ _ _ _ (v9 _ e)
 have hns3:(pushCells (G.push { cls:=.type "dict",data:=.dict #[] }) scope.names).Ns G.objs.size (λ_=>none):=(Heap.Ns.new G (.type "dict")).keeps (pushCells_keeps _ _)
 obtain ⟨sp1,sp2,sp4,sp3⟩:=vF scope.names (G.push { cls:=.type "dict",data:=.dict #[] }) cl
 rw [Bk] at sp1 sp2 sp3 sp4
 generalize hh3:pushCells (G.push { cls:=.type "dict",data:=.dict #[] }) scope.names=h3 at kpG hns3 sp1 ⊢
 have kp:∀ b o,s2.heap.get? b=some o->h3.get? b=some o:=λb o e=>kpG b o (by rw [<- hG]; exact v9 _ e)
 have hD3:h3.get? s2.heap.objs.size=some { cls:=.type "list",data:=.seq ([]:D1).toArray }:=kpG _ _ (by rw [<- hG]; exact AC _ rfl)
 have clB:∀ x c,cl.lookup x=some c->c < G.objs.size+1:=λx c e=>by
  obtain ⟨v,q⟩:=I2.cell x c (cl1 x c e)
  exact B3 (AD q.lt (by rw [hGs]; exact C9 _))
 have csI:=sp3 clB λx y c e1 e2=>I2.ok.inj x y c (cl1 x c e1) (cl1 y c e2)
 have cs1:∀ x c,(cellsFrom (G.objs.size+1) scope.names cl).lookup x=some c->X.env.cells.lookup x=some c\/(G.objs.size < c/\h3.IsCell c none/\(x,NameKind.cell)∈scope.names):=λx c e=>by
  rcases sp1 x c e with z | ⟨z1,z2,z3⟩
  ·exact .inl (cl1 x c z)
  ·exact .inr ⟨by omega,z2,z3⟩
 have cs2:∀ y∈scope.names,(y.2=.free\/y.2=.cell)->∃ c,(cellsFrom (G.objs.size+1) scope.names cl).lookup y.1=some c:=λy hy hk=>by
  refine sp2 y.1 ?_
  rcases hk with z | z
  ·exact .inr (cl2 y hy z)
  ·exact .inl (by rw [<- z]; exact hy)
 have csA:∀ x c,(x,NameKind.cell)∈scope.names->(cellsFrom (G.objs.size+1) scope.names cl).lookup x=some c->G.objs.size<=c:=λx c e1 e2=>Ch (sp4 x c e1 e2)
 generalize hcs:cellsFrom (G.objs.size+1) scope.names cl=cs at csI cs1 cs2 csA ⊢
 generalize hCe:G.objs.size=C at hns3 cs1 csA ⊢
 have hC:s2.heap.objs.size<=C:=by omega
 have hDC:s2.heap.objs.size≠C:=by omega
 let B:Blk:=⟨cs,C,s2,H1,fp,X.pn++pins⟩
 have I3:Inv (aW X (bN Nx ts ix) scope B) [] (dc ts.length ix σ) H1 { s2 with heap:=h3 }:=qw I2 hNx ok cs1 csI cs2 csA f2 hfs hC kp hns3
 have fC:H1 s2.heap.objs.size=none:=I2.hok.fresh (Aw _)
 have cellIn:∀ x c,cs.lookup x=some c->c≠s2.heap.objs.size:=λx c e=>by
  rcases cs1 x c e with z | ⟨z,_,_⟩
  ·obtain ⟨v,q⟩:=I2.cell x c z
   exact AR q.lt
  ·exact A6 (By hC z)
 have pinIn:∀ p∈X.pn++pins,p.1 < s2.heap.objs.size:=λp hp=>AK (I2.pin p hp).1
 have nofrs:s2.heap.objs.size ∉ frs X.stack:=λhb=>by
  rcases AO.mp (I2.stkSub _ hb) with z | z
  ·exact absurd I2.lt (by rw [<- z]; exact AY _)
  ·exact I2.nofs (Aw _) z
 -- a state with the list at its place,pinned
 have pinD:∀ {τ:St} {H':Hp} {s':Shared} {ob:Obj},Inv (aW X (bN Nx ts ix) scope B) [] τ H' s'->s'.heap.get? s2.heap.objs.size=some ob->H' s2.heap.objs.size=none->(∀ v,ob.data≠.cell v)->Inv (aW X (bN Nx ts ix) scope B) [(s2.heap.objs.size,ob)] τ H' s' :=
  λ{τ H' s' ob} I' ho hn hd=>I'.pins_of λp hp=>by
   have e:p=(s2.heap.objs.size,ob):=by simpa using hp
   subst e
   exact ⟨ho,hn,hDC,nofrs,hd⟩
 obtain ⟨W,⟨m0,w0⟩,turn⟩:=q2 B
 have stat:∀ {H':Hp} {ob:Obj},(∀ b∈fp,H' b=none)->∀ b∈fp,fL (aW X (bN Nx ts ix) scope B) [(s2.heap.objs.size,ob)] H' b:=λ{H' ob} hn b hb=>by
  refine ⟨hn b hb,AR (AD (hfs b hb) hC),λz=>?_,.inl hb,λx c e=>by
   rcases cs1 x c e with z | ⟨z,_,_⟩
   ·exact (f2 b hb).2.2.2.2.1 x c z
   ·exact A6 (AD (hfs b hb) (AL hC (B6 z))),λp hp=>?_⟩
  ·rcases AO.mp (I2.stkSub _ z) with q | q
   ·exact (f2 b hb).2.1 q
   ·exact (f2 b hb).2.2.1 q
  ·rcases Bi.mp hp with z | z
   ·exact (f2 b hb).2.2.2.2.2 p z
   ·have e:p=(s2.heap.objs.size,ob):=by simpa using z
    subst e
    exact A6 (hfs b hb)
 have loop:∀ s4:Shared,s4={ s2 with heap:=h3 } ->
   codeAny (model X.prog X.w) X.A (.compLoop (.ListComp elt [⟨target,iter,[],0⟩,⟨t1,i1,[],0⟩] scope pos) 0 (.ref it) (.ref s2.heap.objs.size) (compEnvC scope cs C X.env)) (R (.ref s2.heap.objs.size) C) s4:=by
  rintro s4 rfl
  refine ZmE (λk s'=>∃ i τ ys its n H',Inv (aW X (bN Nx ts ix) scope B) [(s2.heap.objs.size,({ cls:=.type "list",data:=.seq (List.toArray its) n }:Obj))] τ H' s'/\tn i s'.heap/\(∀ b∈fp,H' b=none)/\Vals ys its/\ys.length<=sizeLine/\W i k τ ys H') (hs1 B) ?_ m0
   ⟨0,_,[],[],_,H1,pinD I3 hD3 fC (λv z=>by cases z),T.keep _ _ _ st2 λb hb o e=>kp b o e,λb hb=>(f2 b hb).1,.nil,Bg _,w0⟩
  rintro k s5 ⟨i,τ,ys,its,n,H5,I5,st5,fr5,rv,hz,w5⟩
  rcases turn i k τ ys H5 w5 with ⟨stop,qn⟩ | ⟨go,step⟩
  ·refine thn (T.done (aW X (bN Nx ts ix) scope B) rfl rfl rfl hc i _ s5 τ H5 _ I5 (stat fr5) st5 stop) λgot s6 hz0=>?_
   obtain ⟨hr,I6⟩:=hz0
   subst hr
   obtain ⟨ho,hn,_,_,_⟩:=I6.pin (s2.heap.objs.size,({ cls:=.type "list",data:=.seq (List.toArray its) n }:Obj)) (AA _ (by simp))
   have I7:Inv X pins σ H5 s6:=I2.call' (ch:=fp) (H':=H5) (by exact I6.os) I6.base I6.hok I6.bare λb hb=>⟨(f2 b hb).2.2.2.1,(f2 b hb).2.1,(f2 b hb).2.2.2.2.1,(f2 b hb).2.2.2.2.2⟩
   have hs0:X.s₀.heap.objs.size<=s2.heap.objs.size:=I2.sz
   have I8:=I7.track hn ho rv hz (A6 I2.lt) hs0 (λx c e z=>by
    obtain ⟨v,q⟩:=I2.cell x c e
    exact absurd q.lt (by rw [z]; exact AY _)) (λp hp=>AR (pinIn p hp))
   obtain ⟨m6,hm6,_⟩:=I6.loc
   refine hR _ C _ s6 _ I8 rfl (qn _ _ _ hn rfl rfl) ⟨m6,hm6⟩ ?_ (λz=>?_) (AL hs0 hC) (λx c e z=>?_) λp hp=>AR (AD (pinIn p hp) hC)
   ·rw [aM (Ne.symm hDC)]
    exact I6.free
   ·exact absurd (AD I2.lt hC) (by rw [z]; exact AY _)
   ·obtain ⟨v,q⟩:=I2.cell x c e
    exact absurd (AD q.lt hC) (by rw [z]; exact AY _)
  ·refine thn (T.item (aW X (bN Nx ts ix) scope B) rfl rfl rfl hc i _ s5 τ H5 _ I5 (stat fr5) st5 go) λgot s6 hz0=>?_
   obtain ⟨u,hr,h6⟩:=hz0
   subst hr
   refine thn h6 λ_ s7 hz0=>?_
   obtain ⟨x,H7,I7,r7,y7,st7,fr7⟩:=hz0
   have I7':=I7.pinned (stat fr7) (T.obj _ _ st7)
   refine thn (hg B _ s7 τ H7 x u _ I7' r7 (step x H7 y7)) λ_ s8 hz0=>?_
   obtain ⟨τ8,H8,I8,q8⟩:=hz0
   refine thn (hi1 B _ s8 τ8 H8 _ I8 q8) λv9 s9 h9=>thn h9 λitv1 s10 h10=>?_
   obtain ⟨dF,fp1,tn1,J1,H10,e1,I10,T1,st10,f10,W1,⟨m1,w10⟩,turn1⟩:=h10
   subst e1
   have hP0:∀ p∈fQ fp s7.heap,p.1∈fp:=λp hp=>ZiD hp
   have notD:∀ p∈fQ fp s7.heap,p.1≠s2.heap.objs.size:=λp hp=>AR (hfs _ (hP0 p hp))
   have stat1:∀ {H':Hp} {its':D1} {n':Nat},(∀ b∈fp1,H' b=none)->∀ b∈fp1,fL (aW X (bN Nx ts ix) scope B) ([(s2.heap.objs.size,({ cls:=.type "list",data:=.seq (List.toArray its') n' }:Obj))]++fQ fp s7.heap) H' b:=λ{H' its' n'} hn b hb=>by
    refine ⟨hn b hb,(f10 b hb).2.1,(f10 b hb).2.2.1,(f10 b hb).2.2.2.1,(f10 b hb).2.2.2.2.1,λp hp=>?_⟩
    rcases Bi.mp hp with z | z
    ·exact (f10 b hb).2.2.2.2.2 p (Bf _ z)
    ·rcases Bi.mp z with z | z
     ·have e:p=(s2.heap.objs.size,({ cls:=.type "list",data:=.seq (List.toArray its') n' }:Obj)):=by simpa using z
      subst e
      exact (f10 b hb).2.2.2.2.2 (s2.heap.objs.size,({ cls:=.type "list",data:=.seq (List.toArray its) n }:Obj)) (AA _ (Bf _ (by simp)))
     ·exact (f10 b hb).2.2.2.2.2 p (AA _ (AA _ z))
   have loop1:codeAny (model X.prog X.w) X.A (.compLoop (.ListComp elt [⟨target,iter,[],0⟩,⟨t1,i1,[],0⟩] scope pos) 1 (.ref dF) (.ref s2.heap.objs.size) (compEnvC scope cs C X.env)) (λr s6=>(∃ f,r=.ok f)/\∃ j,j < k/\∃ i τ ys its n H',Inv (aW X (bN Nx ts ix) scope B) [(s2.heap.objs.size,({ cls:=.type "list",data:=.seq (List.toArray its) n }:Obj))] τ H' s6/\tn i s6.heap/\(∀ b∈fp,H' b=none)/\Vals ys its/\ys.length<=sizeLine/\W i j τ ys H') s10:=by
    refine ZmD (λk1 s'=>∃ i1 τ ys its n H',Inv (aW X (bN Nx ts ix) scope B) ([(s2.heap.objs.size,({ cls:=.type "list",data:=.seq (List.toArray its) n }:Obj))]++fQ fp s7.heap) τ H' s'/\tn1 i1 s'.heap/\(∀ b∈fp1,H' b=none)/\Vals ys its/\ys.length<=sizeLine/\W1 i1 k1 τ ys H') ?_ m1
     ⟨0,_,ys,its,n,H10,I10,st10,λb hb=>(f10 b hb).1,rv,hz,w10⟩
    rintro k1 s11 ⟨j1,τ11,zs,jts,n11,H11,I11,st11,fr11,rv11,hz11,w11⟩
    rcases turn1 j1 k1 τ11 zs H11 w11 with ⟨stop1,m',hm',wn⟩ | ⟨go1,hlt1,step1⟩
    ·refine thn (T1.done (aW X (bN Nx ts ix) scope B) rfl rfl rfl hc j1 _ s11 τ11 H11 _ I11 (stat1 fr11) st11 stop1) λgot s12 hz0=>?_
     obtain ⟨hr,I12⟩:=hz0
     subst hr
     refine ⟨⟨_,rfl⟩,m',hm',i+1,τ11,zs,jts,n11,H11,I12.unpinned,?_,λb hb=>?_,rv11,hz11,wn⟩
     ·exact T.keep _ _ _ st7 λb hb o e=>(I12.pin (b,o) (AA _ (AA _ (fy hb e)))).1
     ·obtain ⟨o,e,d⟩:=T.obj _ _ st7 b hb
      exact (I12.pin (b,o) (AA _ (AA _ (fy hb e)))).2.1
    ·refine thn (T1.item (aW X (bN Nx ts ix) scope B) rfl rfl rfl hc j1 _ s11 τ11 H11 _ I11 (stat1 fr11) st11 go1) λgot s12 hz0=>?_
     obtain ⟨u1,hr,h12⟩:=hz0
     subst hr
     refine thn h12 λ_ s13 hz0=>?_
     obtain ⟨x13,H13,I13,r13,y13,st13,fr13⟩:=hz0
     have I13':=I13.pinned (stat1 fr13) (T1.obj _ _ st13)
     refine thn (hg1 B _ s13 τ11 H13 x13 u1 _ I13' r13 (step1 x13 H13 y13)) λ_ s14 hz0=>?_
     obtain ⟨τ14,H14,I14,q14⟩:=hz0
     refine thn (he B _ s14 τ14 H14 _ I14 q14) λy s15 hz0=>?_
     obtain ⟨vy,H15,I15,r15,m15,hm15,w15⟩:=hz0
     have pD:(s2.heap.objs.size,({ cls:=.type "list",data:=.seq (List.toArray jts) n11 }:Obj))∈[(s2.heap.objs.size,({ cls:=.type "list",data:=.seq (List.toArray jts) n11 }:Obj))]++fQ fp s7.heap:=Bf _ (by simp)
     obtain ⟨ho,hn,_,_,_⟩:=I15.pin _ (AA _ (Bf _ pD))
     have lenv:=rv11.length
     refine wpAny_list_append_plain (l:=s2.heap.objs.size) ⟨n11,ho⟩ (λh' hpl hsb=>?_) (by rw [AG]; omega)
     obtain ⟨n',ho'⟩:=hpl
     have eobj:(jts.toArray.push y)=List.toArray (jts++[y]):=by simp
     rw [eobj] at ho'
     have I15':Inv (aW X (bN Nx ts ix) scope B) (fQ fp s7.heap) τ14 H15 s15:=I15.pins_of λp hp=>I15.pin p (AA _ (Bf _ (AA _ hp)))
     have I16:Inv (aW X (bN Nx ts ix) scope B) (fQ fp s7.heap) τ14 H15 { s15 with heap:=h' }:=I15'.turned (it:=s2.heap.objs.size) (t':=s15.toks) (λb o hb e=>(hsb.2 b hb).trans e) hn hDC (.inr (Aw _)) cellIn (λp hp=>by
      rcases Bi.mp hp with z | z
      ·exact AR (pinIn p z)
      ·exact notD p z)
     have I17:Inv (aW X (bN Nx ts ix) scope B) ([(s2.heap.objs.size,({ cls:=.type "list",data:=.seq (List.toArray (jts++[y])) n' }:Obj))]++fQ fp s7.heap) τ14 H15 { s15 with heap:=h' }:=I16.pins_of λp hp=>by
      rcases Bi.mp hp with z | z
      ·have e:p=(s2.heap.objs.size,({ cls:=.type "list",data:=.seq (List.toArray (jts++[y])) n' }:Obj)):=by simpa using z
       subst e
       exact ⟨ho',hn,hDC,nofrs,λv z=>by cases z⟩
      ·exact I16.pin p (AA _ z)
     refine ⟨m15,hm15,j1+1,τ14,zs++[vy],jts++[y],n',H15,I17,?_,λb hb=>?_,rv11.append (.cons r15 .nil),by rw [Av]; show zs.length+1<=_; omega,w15⟩
     ·refine T1.keep _ _ _ st13 λb hb o e=>?_
      have q:=(I15.pin (b,o) (AA _ (AA _ (fy hb e)))).1
      refine (hsb.2 b ?_).trans q
      exact λz=>(f10 b hb).2.2.2.2.2 (s2.heap.objs.size,({ cls:=.type "list",data:=.seq (List.toArray its) n }:Obj)) (AA _ (Bf _ (by simp))) z.symm
     ·obtain ⟨o,e,d⟩:=T1.obj _ _ st13 b hb
      exact (I15.pin (b,o) (AA _ (AA _ (fy hb e)))).2.1
   exact ZmC loop1 (T1.self X.A 0 _ _ _ st10 loop1)
 exact codeAny_compStart_list (loop _ rfl) (T.self X.A 0 _ _ _ (T.keep _ _ _ st2 λb hb o e=>kp b o e) (loop _ rfl))
theorem ZcN {elt target iter t1 i1:Expr} {scope:Scope} {pos:Pos} {wi:TI} {g g1:Blk->TG} {wi1:Blk->TI} {te:Blk->TE} (Nx:D2) (ts:D2) (ix:List Nat)
  (hc:X.calm=true) (hi:PI X target iter wi) (hg:∀ b,PG (aW X (bN Nx ts ix) scope b) target (g b)) (hi1:∀ b,PI (aW X (bN Nx ts ix) scope b) t1 i1 (wi1 b)) (hg1:∀ b,PG (aW X (bN Nx ts ix) scope b) t1 (g1 b)) (he:∀ b,PE (aW X (bN Nx ts ix) scope b) elt (te b))
  (hNx:X.N=Nx) (ok:BlkOk Nx X.env.scope scope ix) (hs1:∀ b x,foldedSetIterable i1 (aW X (bN Nx ts ix) scope b).env x=pure x:=by intro _ _; rfl) (hs:∀ x,foldedSetIterable iter X.env x=pure x:=by intro _; rfl) :
  PE X (.ListComp elt [⟨target,iter,[],0⟩,⟨t1,i1,[],0⟩] scope pos) (wO wi ts.length ix g wi1 g1 te):=by
 intro pins s σ H Q I h
 obtain ⟨cl,hcl,cl1,cl2⟩:=j6 (scope:=scope) (env:=X.env) λy hy hf=>I.ok.has y.1 (ok.frees y hy hf)
 rw [eval_ListComp]
 refine wpAny_comprehension_free (use:=none) rfl hs hcl ok.kind ok.locs (thn (hi pins s σ H _ I h) λv s1 h1=>thn h1 λitv s2 h2=>?_)
 refine Zj0 (R:=λacc C=>compPost (model X.prog X.w) X.A X.xe none (EP X pins σ Q) acc C) hc hg hi1 hg1 he hs1 hNx ok cl1 cl2 h2 ?_
 rintro D C H' s' v I' rfl q ⟨m,hm⟩ hn hL h0 hcl' hp
 exact ⟨m,hm,λh' hsb=>⟨.ref D,H',I'.turned (it:=C) (t':=s'.toks) (λb o hb e=>(hsb.2 b hb).trans e) hn hL (.inr h0) hcl' hp,rfl,q⟩⟩
end
noncomputable def i8 (h:PyData->Tr DY):List PyData->Tr DY
 | []=>.ret []
 | x::xs=>(h x).bind λys=>(i8 h xs).bind λzs=>.ret (ys++zs)
noncomputable def jh (a:Nat) (is1:DQ) (b:Nat) (el:DP) (ρ:D5) (x:PyData):Tr DY :=
 (is1 (ρ.set a (.d x))).bind λys=>if decide (ys.length<=100)=true then bJ (λy=>el ((ρ.set a (.d x)).set b (.d y))) ys else .fail
noncomputable def lO (is:DQ) (n:Nat) (ix:List Nat) (a:Nat) (is1:DQ) (b:Nat) (el:DP):DQ:=λρ =>
 (is ρ).bind λxs=>if decide (xs.length<=100)=true then i8 (jh a is1 b el (blk n ix ρ)) xs else .fail
section
variable {PK:Pk} {X:Cx} {e:Expr} {is is1:DQ} {i:DP}
theorem Zfp {n:Nat} {ix:List Nat} {ρ:D5} {k:Nat} (h:k < n) {s:Sl} (e:(blk n ix ρ)[k]?=some s):s=.un:=by
 unfold blk at e
 rw [AW (by simpa using h),Bb,if_pos h] at e
 cases e
 rfl
theorem ZjZ {n a b:Nat} {ix:List Nat} (ha:a < n) (hb:b < n) (hab:a≠b):∀ σ H Q,eG PK (lO is n ix a is1 b i) σ H Q->wO (cX PK is) n ix (λ_=>dB PK (ao a)) (λ_=>cX PK is1) (λ_=>dB PK (ao b)) (λ_=>TAe PK i) σ H Q:=by
 rintro σ H Q ⟨pa,D6,H₀,m,ρ,G,R,z⟩
 refine ⟨pa,D6,H₀,m,ρ,G,R,Tr.ok_mono (Tr.ok_bind.mp z) λm1 xs k J G1 H1 s1 w1 jo=>λB=>?_⟩
 obtain ⟨hs,k⟩:=gf k
 have hs:xs.length<=100:=of_decide_eq_true hs
 let W:Nat->Nat->St->List V->Hp->Prop:=λk mm τ ys H2=>mm=xs.length - k/\k<=xs.length/\ys.length<=100 * k/\∃ m G2 ds,Sub G1 G2/\Stp pa G H G2 H2/\Rl PK pa D6 H₀ m τ (blk n ix ρ) G2 H2 /\
  DnAll G2 ys ds/\(i8 (jh a is1 b i (blk n ix ρ)) (xs.drop k)).ok m λm' zs=>Ko1 PK pa m' G H (ds++zs) Q
 refine ⟨W,⟨xs.length,rfl,Bg _,Bg _,m1,G1,[],.refl,s1,(R.step s1 w1).blk n ix,.nil,k⟩,?_⟩
 rintro k mm τ ys H2 ⟨rfl,hk,hy,m2,G2,ds,sb,st2,R2,dn,k2⟩
 obtain ⟨j1,j2⟩:=jo m2 G2 H2 sb R2.wd
 by_cases hlt:k < xs.length
 ·have hx:xs[k]?=some xs[k]:=by simp [hlt]
  obtain ⟨jg,jy⟩:=j1 k _ hx
  refine .inr ⟨jg,λx H3 y=>?_⟩
  obtain ⟨G3,s3,w3,d3⟩:=jy x H3 y
  rw [AZ hlt] at k2
  unfold i8 at k2
  rw [Tr.ok_bind] at k2
  unfold jh at k2
  rw [Tr.ok_bind] at k2
  refine ⟨pa,D6,H₀,m2,_,G3,_,_,R2.step s3 w3,d3,rfl,λτ4 R4=>?_⟩
  refine ⟨pa,D6,H₀,m2,_,G3,R4,Tr.ok_mono k2 λm5 ys5 k5 J1 G5 H5 s5 w5 jo1=>?_⟩
  obtain ⟨hs5,k5⟩:=gf k5
  have hs5:ys5.length<=100:=of_decide_eq_true hs5
  have s35:=s3.trans s5 w3.some
  generalize hρ:(blk n ix ρ).set a (.d xs[k])=ρ1 at *
  have hbl:∀ s,ρ1[b]?=some s->s=.un:=λs hq=>by
   rw [<- hρ,AN hab] at hq
   exact Zfp hb hq
  let W1:Nat->Nat->St->List V->Hp->Prop:=λk1 mm τ zs H6=>mm=ys5.length - k1/\k1<=ys5.length/\zs.length=ys.length+k1/\∃ m G6 es,Sub G5 G6/\Stp pa G H G6 H6/\Rl PK pa D6 H₀ m τ ρ1 G6 H6 /\
   DnAll G6 zs (ds++es)/\(bJ (λy=>i (ρ1.set b (.d y))) (ys5.drop k1)).ok m λm' us=>((i8 (jh a is1 b i (blk n ix ρ)) (xs.drop (k+1))).bind λzs=>.ret ((es++us)++zs)).ok m' λm'' ws=>Ko1 PK pa m'' G H (ds++ws) Q
  refine ⟨W1,⟨ys5.length,rfl,Bg _,rfl,m5,G5,[],.refl,st2.trans s35 R2.wd.some,R4.step s5 w5,by rw [A4]; exact DnAll.mono s35.gs dn,k5⟩,?_⟩
  rintro k1 mm1 τ6 zs H6 ⟨rfl,hk1,hz,m6,G6,es,sb6,st6,R6,dn6,k6⟩
  obtain ⟨i1,i2⟩:=jo1 m6 G6 H6 sb6 R6.wd
  by_cases hlt1:k1 < ys5.length
  ·have hx1:ys5[k1]?=some ys5[k1]:=by simp [hlt1]
   obtain ⟨ig,iy⟩:=i1 k1 _ hx1
   refine .inr ⟨ig,?_,λx1 H7 y1=>?_⟩
   ·rw [hz]
    have h1:ys.length<=10000:=AL hy (Nat.mul_le_mul_left 100 (AL hk hs))
    have h2:20000 < sizeLine:=by decide
    omega
   obtain ⟨G7,s7,w7,d7⟩:=iy x1 H7 y1
   rw [AZ hlt1] at k6
   unfold bJ at k6
   rw [Tr.ok_bind] at k6
   refine ⟨pa,D6,H₀,m6,_,G7,_,_,R6.step s7 w7,d7,rfl,λτ8 R8=>?_⟩
   refine ⟨pa,D6,H₀,m6,_,G7,R8,Tr.ok_mono k6 λm9 yd k9=>?_⟩
   intro v G9 H9 s9 w9 d9
   have s79:=s7.trans s9 w7.some
   refine ⟨ys5.length - (k1+1),by omega,rfl,hlt1,by rw [Av,hz]; rfl,m9,G9,es++[yd],sb6.trans s79.gs,st6.trans s79 R6.wd.some,?_,?_,?_⟩
   ·refine (R8.step s9 w9).weak A2 λq sl hq=>?_
    by_cases hqb:q=b
    ·subst hqb
     exact .inl (hbl sl hq)
    ·right
     rw [AN (Ne.symm hqb)]
     exact hq
   ·rw [<- Bh]
    exact (DnAll.mono s79.gs dn6).snoc d9
   ·refine Tr.ok_mono (Tr.ok_bind.mp k9) λm10 us k10=>?_
    rw [Bh]
    exact k10
  ·have e1:k1=ys5.length:=by omega
   subst e1
   refine .inl ⟨i2,xs.length - (k+1),by omega,rfl,hlt,by rw [hz,Nat.mul_succ]; omega,m6,G6,ds++es,(sb.trans s35.gs).trans sb6,st6,?_,dn6,?_⟩
   ·refine R6.weak (by rw [<- hρ]; exact A2) λq sl hq=>?_
    by_cases hqa:q=a
    ·subst hqa
     exact .inl (Zfp ha hq)
    ·right
     rw [<- hρ,AN (Ne.symm hqa)]
     exact hq
   ·rw [Br] at k6
    have k6':((i8 (jh a is1 b i (blk n ix ρ)) (xs.drop (k+1))).bind λzs=>Tr.ret ((es++[])++zs)).ok m6 λm'' ws=>Ko1 PK pa m'' G H (ds++ws) Q:=k6
    refine Tr.ok_mono (Tr.ok_bind.mp k6') λm7 ws k7=>?_
    have k7':Ko1 PK pa m7 G H (ds++((es++[])++ws)) Q:=k7
    rw [A4,<- Bh] at k7'
    exact k7'
 ·have e:k=xs.length:=by omega
  subst e
  refine .inl ⟨j2,λp v H' hp ev eH=>?_⟩
  subst ev eH
  rw [Br] at k2
  have k2':Ko1 PK pa m2 G H (ds++[]) Q:=k2
  rw [A4] at k2'
  exact (Ko1.later k2' st2 R2.wd.some).new R2.wd dn hp
theorem ZfN {n a b:Nat} {ix:List Nat} (h:PE X e (wO (cX PK is) n ix (λ_=>dB PK (ao a)) (λ_=>cX PK is1) (λ_=>dB PK (ao b)) (λ_=>TAe PK i))) (ha:a < n) (hb:b < n) (hab:a≠b):PE X e (eG PK (lO is n ix a is1 b i)):=h.imp (ZjZ ha hb hab)
end
def RawD (h:Heap) (d:Addr) (es:Array DictEntry) (ep:Nat):Prop:=∃ o,h.get? d=some o/\o.ExactDict/\o.data=.dict es ep
theorem RawD.mono {h h':Heap} {d:Addr} {es:Array DictEntry} {ep:Nat} (r:RawD h d es ep) (k:∀ o,h.get? d=some o->h'.get? d=some o):RawD h' d es ep :=
 let ⟨o,a,b⟩:=r; ⟨o,k o a,b⟩
theorem RawD.ty {s:Shared} {d:Addr} {es:Array DictEntry} {ep:Nat} (r:RawD s.heap d es ep):s.TypeIs (.ref d) "dict":=let ⟨o,a,b,_⟩:=r; ⟨o,a,b.1⟩
noncomputable abbrev yB (d:Addr) (i n ep:Nat):Array Value:=#[.ref d,.int i 0,.int n 0,.int ep 0]
def KiAt (h:Heap) (it d:Addr) (i n ep:Nat):Prop:=∃ o,h.get? it=some o/\o.cls=.type "dict_keyiterator"/\o.data=.fields (yB d i n ep)
section
variable {prog:Program} {w:World} {A:Around} {E:DX} {s:Shared} {d it:Addr} {es:Array DictEntry} {ep i:Nat}
theorem KiAt.ty {n:Nat} (k:KiAt s.heap it d i n ep):s.TypeIs (.ref it) "dict_keyiterator":=let ⟨o,a,b,_⟩:=k; ⟨o,a,b⟩
theorem Zkq {Q:DX} (lo:(d == sysModules)=false) (r:RawD s.heap d es ep)
  (q:Q (.ref s.heap.objs.size) { s with heap:=s.heap.push { cls:=.type "dict_keyiterator",data:=.fields (yB d 0 es.size ep) } }):wpAny (model prog w) A (pyIter (.ref d)) Q E s:=by
 have ht:=r.ty
 obtain ⟨o,h1,h2,h3⟩:=r
 have nl:¬ (d == sysModules)=true:=by rw [lo]; decide
 apply wpAny_pyIter_slot ht F.slot_dict_iter
 refine wpAny_call_entry F.slot_dict_iter ht F.entry_dict_iter (b:=Builtin.«dict.__iter__») ?_ (F.args_dict_iter_1 _)
 unfold Builtin.«dict.__iter__»
 apply wpAny_bind
 unfold Builtin.Dict.dictSlotNone
 apply wpAny_bind; apply wpAny_notOrdered_dict ht
 apply wpAny_pure (a:=Value.ref d)
 show wpAny _ _ (Builtin.Dict.showsAll d >>= _) _ _ s
 apply wpAny_bind; unfold Builtin.Dict.showsAll; rw [if_neg nl]; apply wpAny_pure
 apply wpAny_bind; apply wpAny_dictEntries h1 h3
 apply wpAny_bind; apply wpAny_dictEpoch h1 h3
 apply wpAny_bind; refine wpAny_newObj_type ?_ (by size_fits)
 exact wpAny_pure ⟨_,rfl,_,_,⟨_,AC _ rfl,rfl⟩,F.slot_dict_keyiterator_next.lookup,q⟩
theorem Zc5 {Q:Option Value->Shared->Prop} (hh:A.handled=none) (k:KiAt s.heap it d i es.size ep) (r:RawD s.heap d es ep)
  (qi:∀ e h',es[i]?=some e->KiAt h' it d (i+1) es.size ep->Heap.SameBut it s.heap h'->Q (some e.key) { s with heap:=h' })
  (qe:es[i]?=none->∀ h',Heap.ExtBut it s.heap h'->Q none { s with heap:=h' }):wpAny (model prog w) A (pyNext (.ref it)) Q E s:=by
 have ht:=k.ty
 obtain ⟨o,h1,h2,h3⟩:=k
 obtain ⟨od,d1,d2,d3⟩:=r
 have own:Builtin.Dict_items.ownsTuple "dict_keyiterator"=false:=by decide
 have named:∀ {A:Around} {E:DX} {P:String->Shared->Prop},P "dict_keyiterator" s->wpAny (model prog w) A (typeNameOfWhole (.ref it)) P E s:=λq=>wpAny_typeNameOfWhole_keyiter ht q
 unfold pyNext
 apply wpAny_bind; apply wpAny_attempt
 apply wpAny_callSpecial?_slot (name:=Str.ofString "__next__") ht F.slot_dict_keyiterator_next
 refine wpAny_call_entry F.slot_dict_keyiterator_next ht F.entry_dict_keyiterator_next ?_ (F.args_dict_keyiterator_next_1 _)
 apply wpAny_bind; apply wpAny_pure
 apply wpAny_bind; apply wpAny_bind
 apply wpAny_bind; apply named; apply wpAny_pure
 apply wpAny_bind; apply wpAny_fieldsOf h1 h3
 simp only [own,Bl,if_false]
 show wpAny _ _ (if (Value.ref d == Value.none)=true then _ else _) _ _ s
 rw [if_neg (show ¬ (Value.ref d == Value.none)=true from nofun)]
 apply wpAny_bind; apply wpAny_pure
 apply wpAny_bind; apply wpAny_dictEntries d1 d3
 rw [if_neg (by simp)]
 apply wpAny_bind; apply wpAny_pure
 apply wpAny_bind; apply wpAny_dictEpoch d1 d3
 rw [if_neg (by simp)]
 apply wpAny_pure
 have nn:¬ (i:Int) < 0:=by omega
 simp only [nn,if_false,A0]
 cases hx:es[i]? with
 | some e =>
  dsimp only
  apply wpAny_bind
  apply wpAny_bind; apply named; apply wpAny_pure
  apply wpAny_bind; apply wpAny_isOneOf_keyiter ht
  show wpAny _ _ (setField (.ref it) 1 (rawInt ((i:Int)+1)) >>= _) _ _ s
  apply wpAny_bind; apply wpAny_setField h1 h3 (by simp)
  have k':KiAt (s.heap.update it (Obj.mapFields (·.setIfInBounds 1 (rawInt ((i:Int)+1))))) it d (i+1) es.size ep :=
   ⟨_,BK _ h1 (CM (BN h3 _)),(DC ..).trans h2,by rw [BN h3]; simp [rawInt]⟩
  apply wpAny_bind; apply wpAny_holding
  apply wpAny_bind
  apply wpAny_isOneOf_keyiter (s:={ s with heap:=s.heap.update it (Obj.mapFields (·.setIfInBounds 1 (rawInt ((i:Int)+1)))) }) k'.ty
  show wpAny _ _ (pure e.key) _ _ _
  exact wpAny_pure (wpAny_pure ⟨_,rfl,wpAny_pure (qi e _ hx k' (BY ..))⟩)
 | none =>
  dsimp only
  apply wpAny_bind
  apply wpAny_bind; apply named; apply wpAny_pure
  show wpAny _ _ (setField (.ref it) 0 .none >>= _) _ _ s
  apply wpAny_bind; apply wpAny_setField h1 h3 (by simp)
  show wpAny _ _ (newExc (.type "StopIteration") [] >>= _) _ _ _
  apply wpAny_bind
  simp only [newExc,newTuple]
  apply wpAny_bind; refine wpAny_newObj_type ?_ (by size_fits)
  apply wpAny_bind (m:=firstArgMember _ _)
  refine wpAny_of_eq (a:=Value.none) (by first | rfl | (simp only [firstArgMember]; rfl)) ?_
  refine wpAny_newObj_type ?_ (by size_fits)
  simp only [raiseNew]
  apply wpAny_bind; apply wpAny_handled
  rw [show A.in1.handled=none from hh]
  first
   | (apply wpAny_bind; apply wpAny_pure; apply wpAny_throw)
   | apply wpAny_throw
  apply wpAny_bind
  refine wpAny_isInstance (b:=true) (T:="StopIteration") ⟨_,AC _ rfl,rfl⟩ isSubtype_stop ?_
  exact wpAny_pure (qe hx _ (((BY ..).extBut.push _).push _))
end
noncomputable def bZ:Sl->Bool
 | .dip _=>true
 | _=>false
noncomputable def io (k:Nat) (ρ:D5):Bool:=(ρ.set k .un).all λs=>!bZ s
theorem Zc2 {k:Nat} {ρ:D5} (h:io k ρ=true) {i:Nat} (hi:k≠i) {xs:List (DZ×PyData)}:ρ[i]?≠some (.dip xs):=λe=>by
 have e':(ρ.set k .un)[i]?=some (.dip xs):=by rw [AN hi]; exact e
 have:=Bm.mp h _ (Bj e')
 cases this
section
variable {PK:Pk} {pa:Addr} {D6 H₀ G H:Hp} {m:Nat} {σ:St} {ρ:D5}
theorem KP.len {ks:List (DZ×V)} {kvs:List (DZ×PyData)} (h:KP G ks kvs):ks.length=kvs.length:=by
 induction h with
 | nil=>rfl
 | cons _ _ ih=>rw [Au,Au,ih]
theorem Rl.setP (r:Rl PK pa D6 H₀ m σ ρ G H) {p:Addr} {ks:List (DZ×V)} {kvs:List (DZ×PyData)} (h1:H p=some (.dT (ks.map ci))) (h2:G p=none) (h3:H₀ p=none) (h4:KP G ks kvs) (k:Nat):Rl PK pa D6 H₀ m (σ.set k (some (.ref p))) (ρ.set k (.dip kvs)) G H:=by
 refine ⟨r.wd,r.st,r.p0,λi s h=>?_,by rw [A2,A2]; exact r.len,vB r.dj λa h=>(by cases h),vB r.dj2 λa h=>(by cases h)⟩
 by_cases e:i=k
 ·subst e
  have hl:i < ρ.length:=by
   have:=(Ay.mp h).1
   rwa [A2] at this
  rw [AT hl] at h
  cases h
  exact ⟨_,AT (by rw [<- r.len]; exact hl),.dip h1 h2 h3 h4⟩
 ·rw [AN (Ne.symm e)] at h ⊢
  exact r.sl i s h
theorem Rl.newP (r:Rl PK pa D6 H₀ m σ ρ G H) {p:Addr} {ks:List (DZ×V)} {kvs:List (DZ×PyData)} (hp:H p=none) (h4:KP G ks kvs) (k:Nat):Rl PK pa D6 H₀ m (σ.set k (some (.ref p))) (ρ.set k (.dip kvs)) G (upd H p (.dT (ks.map ci))):=by
 obtain ⟨w1,s1⟩:=r.wd.own (o:=.dT (ks.map ci)) hp
 exact (r.step s1 w1).setP bY (r.wd.gnone hp) (r.h0 hp) h4 k
theorem Rl.changeP (r:Rl PK pa D6 H₀ m σ ρ G H) {k:Nat} {xs ys:List (DZ×PyData)} {p:Addr} {ws:List (DZ×V)} (hk:ρ[k]?=some (.dip xs)) (hσ:σ[k]?=some (some (.ref p))) (hno:io k ρ=true) (d:KP G ws ys) :
  Rl PK pa D6 H₀ m σ (ρ.set k (.dip ys)) G (upd H p (.dT (ws.map ci))):=by
 obtain ⟨o,h1,h2⟩:=r.sl k _ hk
 rw [hσ] at h1
 cases h1
 cases h2 with
 | @dip _ vs _ a1 a2 a3 a4 =>
  have hne:pa≠p:=λe=>by
   obtain ⟨u,hu⟩:=r.p0
   rw [e,a3] at hu; cases hu
  have hl:k < ρ.length:=(Ay.mp hk).1
  refine ⟨⟨λb o h=>?_,r.wd.gpa,?_⟩,⟨r.st.gs,r.st.gn,λb o h hb=>?_⟩,r.p0,λi s h=>?_,by rw [A2]; exact r.len,lA r.dj λa h=>(by cases h),lA r.dj2 λa h=>(by cases h)⟩
  ·rw [aM (λe=>by subst e; rw [a2] at h; cases h)]
   exact r.wd.sub b o h
  ·obtain ⟨u,h,q⟩:=r.wd.pen
   exact ⟨u,by rw [aM hne]; exact h,q⟩
  ·rw [aM (λe=>by subst e; rw [a3] at h; cases h)]
   exact r.st.hk b o h hb
  ·by_cases e:k=i
   ·subst e
    rw [AT hl] at h
    cases h
    exact ⟨_,hσ,.dip bY a2 a3 d⟩
   ·rw [AN e] at h
    obtain ⟨o,q1,q2⟩:=r.sl i s h
    refine ⟨o,q1,?_⟩
    cases q2 with
    | un=>exact .un
    | d z=>exact .d z
    | pen=>exact .pen
    | fn=>exact .fn
    | own b1 b2 b3 b4=>exact .own (by rw [aM (λe2=>by subst e2; rw [a1] at b1; cases b1)]; exact b1) b2 b3 b4
    | dic b1 b2 b3 b4=>exact .dic (by rw [aM (λe2=>by subst e2; rw [a1] at b1; cases b1)]; exact b1) b2 b3 b4
    | dip b1 b2 b3 b4=>exact absurd h (Zc2 hno e)
theorem Rl.keepP (r:Rl PK pa D6 H₀ m σ ρ G H) {k:Nat} {xs:List (DZ×PyData)} {p:Addr} {ks:List (DZ×V)} (hk:ρ[k]?=some (.dip xs)) (hσ:σ[k]?=some (some (.ref p))) (hp:H p=some (.dT (ks.map ci))) (h4:KP G ks xs) (hno:io k ρ=true) (hx:xs≠[]) (o:Obj) :
  Sub G (upd G p (.frz o (.dT (ks.map ci))))/\Rl PK pa D6 H₀ m σ (ρ.set k (.d (pD xs))) (upd G p (.frz o (.dT (ks.map ci)))) (upd H p (.frz o (.dT (ks.map ci)))):=by
 obtain ⟨o',h1,h2⟩:=r.sl k _ hk
 rw [hσ] at h1
 cases h1
 cases h2 with
 | @dip _ vs _ a1 a2 a3 a4 =>
  have hne:pa≠p:=λe=>by
   obtain ⟨u,hu⟩:=r.p0
   rw [e,a3] at hu; cases hu
  have hl:k < ρ.length:=(Ay.mp hk).1
  have sb:Sub G (upd G p (.frz o (.dT (ks.map ci)))):=Sub.new a2
  refine ⟨sb,⟨λb o h=>?_,by rw [aM hne]; exact r.wd.gpa,?_⟩,⟨λb o h=>sb b o (r.st.gs b o h),λb o h=>?_,λb o h hb=>?_⟩,r.p0,λi s h=>?_,by rw [A2]; exact r.len,lA r.dj λa h=>(by cases h),lA r.dj2 λa h=>(by cases h)⟩
  ·by_cases e:b=p
   ·subst e; rw [bY] at h ⊢; exact h
   ·rw [aM e] at h ⊢; exact r.wd.sub b o h
  ·obtain ⟨u',h,q⟩:=r.wd.pen
   exact ⟨u',by rw [aM hne]; exact h,PK.mono sb q⟩
  ·by_cases e:b=p
   ·subst e; exact .inr (.inl a3)
   ·rw [aM e] at h; exact r.st.gn b o h
  ·rw [aM (λe=>by subst e; rw [a3] at h; cases h)]
   exact r.st.hk b o h hb
  ·by_cases e:k=i
   ·subst e
    rw [AT hl] at h
    cases h
    exact ⟨_,hσ,.d ((h4.mono sb).dn hx bY)⟩
   ·rw [AN e] at h
    obtain ⟨o,q1,q2⟩:=r.sl i s h
    refine ⟨o,q1,?_⟩
    cases q2 with
    | un=>exact .un
    | d z=>exact .d (z.mono sb)
    | pen=>exact .pen
    | fn=>exact .fn
    | @own q vs ys b1 b2 b3 b4 =>
     have hn:q≠p:=λe2=>by subst e2; rw [hp] at b1; cases b1
     exact .own (by rw [aM hn]; exact b1) (by rw [aM hn]; exact b2) b3 (DnAll.mono sb b4)
    | @dic q ks' kvs' b1 b2 b3 b4 =>
     have hn:q≠p:=λe2=>by subst e2; rw [hp] at b1; cases b1
     exact .dic (by rw [aM hn]; exact b1) (by rw [aM hn]; exact b2) b3 (b4.mono sb)
    | dip b1 b2 b3 b4=>exact absurd h (Zc2 hno e)
theorem Inv.knownT {X:Cx} {pins:List (Addr×Obj)} {σ:St} {H:Hp} {s:Shared} {a:Addr} {ks:List (List aL×V)} (I:Inv X pins σ H s) (h:H a=some (.dT ks)):∃ o,Inv X pins σ (upd H a (.frz o (.dT ks))) s:=by
 obtain ⟨hz,hS,xs,r,o,es,ep,ho,h1,h2,h3,h4⟩:=(show ObjOk X.prog X.w H s.heap a (.dT ks) from I.hok a _ h)
 refine ⟨o,?_⟩
 have r':KT (upd H a (.frz o (.dT ks))) ks xs:=KT.keeps r λc ys ec=>by
  rw [aM λe=>by subst e; rw [h] at ec; cases ec]
  exact ec
 exact I.write (t':=s.toks) (h':=s.heap) (e:=a) (by rw [h]; trivial) (.inl rfl) (λb u _ q=>q) ⟨o,ho⟩ ⟨ho,hz,hS,xs,r',o,es,ep,ho,h1,h2,h3,h4⟩
end
section
variable {PK:Pk} {X:Cx} {e:Expr} {i:DP} {st:Stmt} {s:DS}
noncomputable def vS (k:Nat):DS:=λρ=>.ret (.next (ρ.set k (.dip [])))
theorem ZfE {k:Nat} (h:PS X st (dM ZaC (dZ k))):PS X st (bH PK (vS k)):=h.imp λD σ H hz0=>by
 obtain ⟨pa,D6,H₀,m,ρ,G,R,z⟩:=hz0
 intro p hp
 exact z _ G _ .refl (R.newP (ks:=[]) hp .nil k)
noncomputable def lN (k:Nat) (n i:DP):DS:=λρ=>(i ρ).bind λx=>match ρ[k]? with
 | some (.dip xs)=>(n ρ).bind λy=>match y with
  | .tuple ks=>match ints? ks with
   | some ns=>if (small (xs.length+1) && io k ρ)=true then .ret (.next (ρ.set k (.dip (ic xs ns x)))) else .fail
   | none=>.fail
  | _=>.fail
 | _=>.fail
theorem ZfH {k:Nat} {n:DP} (h:PS X st (Zbz (gI k) (TAe PK n) (TAe PK i))):PS X st (bH PK (lN k n i)):=h.imp λD σ H hz0=>by
 obtain ⟨pa,D6,H₀,m,ρ,G,R,z⟩:=hz0
 refine TAe.then R z λm1 x v G1 H1 s1 w1 R1 d1 q1=>?_
 split at q1
 ·rename_i xs hx
  obtain ⟨o,h1,h2⟩:=R1.sl k _ hx
  cases h2 with
  | @dip p ks _ a1 a2 a3 a4 =>
   refine ⟨_,h1,?_⟩
   refine TAe.then R1 q1 λm2 y u G2 H2 s2 w2 R2 d2 q2=>?_
   obtain ⟨o,h1',h2⟩:=R2.sl k _ hx
   rw [h1] at h1'
   cases h1'
   cases h2 with
   | @dip _ ks2 _ b1 b2 b3 b4 =>
    cases d2 with
    | @tup c vs es c1 c2 =>
     cases hi:ints? es with
     | none=>dsimp only at q2; rw [hi] at q2; exact q2.elim
     | some ns =>
      dsimp only at q2
      rw [hi] at q2
      obtain ⟨hs,q2⟩:=gf q2
      obtain ⟨hs1,hs2⟩:=A3.mp hs
      have hs':xs.length+1<=sizeLine:=of_decide_eq_true hs1
      obtain ⟨e1,_⟩:=c2.ints_inv hi
      have hc:H2 c=some (.tup ((ns.map (Sum.inl:Int->aL)).map kV)):=by
       rw [AS]
       have:=w2.sub _ _ c1
       rw [e1] at this
       exact this
      refine ⟨p,_,rfl,DPut.t (k:=ns.map Sum.inl) b1 hc (by rw [At,b4.len]; omega),?_⟩
      rw [pe]
      exact q2 σ G2 _ (s1.gs.trans s2.gs) (R2.changeP hx h1 hs2 (b4.put ns (d1.mono s2.gs)))
    | _=>exact q2.elim
 ·exact q1.elim
noncomputable def yR (k:Nat) (ρ:D5):D5:=match ρ[k]? with
 | some (.dip xs)=>if (io k ρ && !xs.isEmpty)=true then ρ.set k (.d (pD xs)) else ρ
 | _=>ρ
noncomputable def lP (k:Nat) (s:DS):DS:=λρ=>s (yR k ρ)
theorem ZfI {k:Nat} (h:PS X st (bH PK s)):PS X st (bH PK (lP k s)):=by
 intro pins sh σ H D I hz0
 obtain ⟨pa,D6,H₀,m,ρ,G,R,z⟩:=hz0
 unfold lP yR at z
 split at z
 ·rename_i xs hk
  split at z
  ·rename_i hh
   obtain ⟨h1,h2⟩:=A3.mp hh
   obtain ⟨o,q1,q2⟩:=R.sl k _ hk
   cases q2 with
   | @dip p ks _ a1 a2 a3 a4 =>
    obtain ⟨ob,I'⟩:=I.knownT a1
    obtain ⟨sb,R'⟩:=R.keepP hk q1 a1 a4 h1 (λz=>by rw [z] at h2; cases h2) ob
    exact h pins sh σ _ D I' ⟨pa,D6,H₀,m,_,_,R',Tr.ok_mono z λ_ _ k'=>Ko.later k' sb⟩
  ·exact h pins sh σ H D I ⟨pa,D6,H₀,m,ρ,G,R,z⟩
 ·exact h pins sh σ H D I ⟨pa,D6,H₀,m,ρ,G,R,z⟩
end
theorem ZkY {X:Cx} {pins:List (Addr×Obj)} {σ:St} {H:Hp} {s:Shared} {a:Addr} {o:Obj} {ks:List (List aL×V)} (I:Inv X pins σ H s) (h:H a=some (.frz o (.dT ks))) :
  ∃ xs es ep,KT H ks xs/\s.heap.get? a=some o/\o.data=.dict es ep/\RawD s.heap a es ep/\(a == sysModules)=false/\es.toList=xs.map (entryOfKey (tupleKind (bP X.prog X.w)))/\ks.length<=sizeLine:=by
 obtain ⟨ho,hz,hS,xs,r,o',es,ep,ho',h1,h2,h3,_⟩:=(show ObjOk X.prog X.w H s.heap a (.frz o (.dT ks)) from I.hok a _ h)
 rw [ho] at ho'
 cases ho'
 exact ⟨xs,es,ep,r,ho,h2,⟨o,ho,h1,h2⟩,hS,h3,hz⟩
theorem KT.at {H:Hp} {ks:List (List aL×V)} {xs:List (List aL×Addr×Value)} (r:KT H ks xs):∀ (i:Nat) (k:List aL×V),ks[i]?=some k->∃ x,xs[i]?=some x/\H x.2.1=some (.tup (k.1.map kV)):=by
 induction r with
 | nil=>intro i k h; cases h
 | @cons a b l m h _ ih =>
  intro i k e
  cases i with
  | zero =>
   cases e
   exact ⟨b,rfl,h.2.1⟩
  | succ i =>
   rw [A7] at e ⊢
   exact ih i k e
theorem Zll {X:Cx} {H:Hp} {ks:List (List aL×V)} {xs:List (List aL×Addr×Value)} {es:Array DictEntry} (r:KT H ks xs) (e:es.toList=xs.map (entryOfKey (tupleKind (bP X.prog X.w)))):es.size=ks.length:=by
 have:=congrArg List.length e
 rw [Ca,At] at this
 exact this.trans r.length.symm
theorem Zlm {X:Cx} {xs:List (List aL×Addr×Value)} {es:Array DictEntry} (e:es.toList=xs.map (entryOfKey (tupleKind (bP X.prog X.w)))) {i:Nat} {x:List aL×Addr×Value} (h:xs[i]?=some x) {y:DictEntry} (hy:es[i]?=some y):y.key=.ref x.2.1:=by
 have q:=entry_at e i
 rw [hy,h] at q
 cases q
 rfl
section
variable {PK:Pk} {X:Cx} {i:DP}
def wa (PK:Pk):Prop:=∀ xs G m,¬ PK.is (.tup xs) G m
theorem Wd.take {pa:Addr} {m:Nat} {G H:Hp} (nt:wa PK) (w:Wd PK pa m G H) {b:Addr} {ns:DZ} (h:H b=Option.some (.tup (ns.map V.int))):∃ G',Stp pa G H G' H/\Wd PK pa m G' H/\Dn G' (.ref b) (.tuple (ns.map PyData.int)):=by
 have hne:pa≠b:=λe=>by
  obtain ⟨o,h1,h2⟩:=w.pen
  rw [e,h] at h1
  cases h1
  exact nt _ _ _ h2
 cases e:G b with
 | some o =>
  have:=w.sub b o e
  rw [h] at this
  cases this
  exact ⟨G,.refl,w,.tup e (DnAll.ints ns)⟩
 | none =>
  have sb:Sub G (upd G b (.tup (ns.map V.int))):=Sub.new e
  refine ⟨upd G b (.tup (ns.map V.int)),⟨sb,λc o hc=>?_,λ_ _ q _=>q⟩,w.freeze h e hne,.tup bY (DnAll.ints ns)⟩
  by_cases ec:c=b
  ·subst ec
   exact .inr (.inr ⟨Ne.symm hne,_,h⟩)
  ·rw [aM ec] at hc
   exact .inl hc
noncomputable def gx:List (PyData×PyData)->Option (List DZ)
 | []=>some []
 | (.tuple ks,_)::r=>(ints? ks).bind λns=>(gx r).map (ns::·)
 | _::_=>none
noncomputable def itP:PyData->Option DY
 | .dict []=>none
 | .dict kvs=>(gx kvs).map λks=>ks.map λk=>PyData.tuple (k.map PyData.int)
 | _=>none
theorem ZdK:∀ {l:List (DZ×V)} {ds:DY},ds.length=l.length->gx ((l.map λk=>PyData.tuple (k.1.map PyData.int)).zip ds)=some (l.map (·.1))
 | [],ds,h=>by
  cases ds with
  | nil=>rfl
  | cons _ _=>cases h
 | k::l,[],h=>by cases h
 | k::l,d::ds,h=>by
  rw [Ax,A1,Ax]
  unfold gx
  rw [ints?_map,ZdK (BV h)]
  rfl
theorem Dn.keys {G:Hp} {v:V} {x:PyData} {xs:DY} (d:Dn G v x) (h:itP x=some xs) :
  ∃ a o l,v=.ref a/\G a=some (.frz o (.dT (List.map ci l)))/\xs=l.map λk=>PyData.tuple (k.1.map PyData.int):=by
 cases d with
 | @dct a ks ds h1 h2 =>
  have hl:=h2.length
  rw [At] at hl
  cases ks with
  | nil=>rw [BO,Dj] at h; cases h
  | cons k ks =>
   cases ds with
   | nil=>cases hl
   | cons y ds =>
    rw [Ax,A1] at h
    obtain ⟨c,_⟩:=k
    cases c <;> cases h
 | @dcp a o ks ds h0 h1 h2 =>
  have hl:=h2.length
  rw [At] at hl
  refine ⟨a,o,ks,rfl,h1,?_⟩
  have e:=ZdK (l:=ks) (ds:=ds) hl.symm
  cases ks with
  | nil=>exact absurd rfl h0
  | cons k ks =>
   cases ds with
   | nil=>cases hl
   | cons y ds =>
    rw [Ax,A1] at h e
    have h:(gx ((PyData.tuple (k.1.map PyData.int),y)::(ks.map λk=>PyData.tuple (k.1.map PyData.int)).zip ds)).map (λks=>ks.map λk=>PyData.tuple (k.map PyData.int))=some xs:=h
    rw [e] at h
    cases h
    exact AS
 | _=>cases h
theorem ZdL (ns:DZ):(ns.map (Sum.inl:Int->aL)).map kV=ns.map V.int:=by rw [AS]; rfl
end
section
variable {prog:Program} {w:World} {A:Around} {E:DX} {s:Shared}
end
section
variable {prog:Program} {w:World} {A:Around} {R:Result->Shared->Prop} {I:Addr} {fp wr:List Addr} {G:Array GenState->Array GenState->Prop} {n:Nat} {P:Nat->Value->Prop} {St:Nat->Shared->Prop}
end
section
variable {prog:Program} {w:World} {A:Around} {E:DX} {s:Shared}
end
section
variable {prog:Program} {w:World} {A:Around} {E:DX} {s:Shared}
end
end L2
namespace PySem.F
end PySem.F
namespace L2
section
variable {prog:Program} {w:World} {A:Around} {E:DX} {s:Shared} {I p:Addr} {first:Value} {i n ep ep':Nat} {o:Obj} {es:Array (Int×Value)} {t:SetTable}
end
section
variable {prog:Program} {w:World} {A:Around} {E:DX} {s:Shared} {I p:Addr} {i n ep:Nat} {o:Obj} {es:Array (Int×Value)} {t:SetTable}
end
end L2
namespace PySem.F
end PySem.F
namespace L2
section
variable {prog:Program} {w:World} {A:Around} {E:DX} {s:Shared} {I p tp:Addr} {n ep:Nat} {o:Obj} {es:Array (Int×Value)} {t:SetTable}
end
section
variable {prog:Program} {w:World} {A:Around} {E:DX} {s:Shared} {p:Addr}
end
section
variable {prog:Program} {w:World} {A:Around} {E:DX} {s:Shared} {p:Addr}
end
section
variable {prog:Program} {w:World} {A:Around} {E:DX} {s:Shared} {p:Addr}
end
section
variable {X:Cx}
end
variable {PK:Pk} {X:Cx} {is:DQ} {e:Expr}
section
variable {prog:Program} {w:World} {A:Around} {E:DX} {s:Shared} {p:Addr}
end
section
variable {X:Cx}
end
variable {PK:Pk} {X:Cx} {is:DQ} {e:Expr}
section
variable {prog:Program} {w:World} {A:Around} {E:DX} {s:Shared} {d:Addr} {es:Array DictEntry} {ep:Nat}
noncomputable abbrev Zga (es:Array DictEntry):Nat->Value->Prop:=λi v=>∃ e,es[i]?=some e/\v=e.key
theorem Zgf (hh:A.handled=none) (it:Addr) (hne:d≠it):Walks prog w A it [it,d] [it] es.size (Zga es) (λi h=>KiAt h it d i es.size ep/\RawD h d es ep) where
 sub:=λb hb=>by cases hb with | head=>exact AB .. | tail _ h=>cases h
 frame:=λi h h' st k=>by
  obtain ⟨⟨o,a,b⟩,r⟩:=st
  exact ⟨⟨o,k it (AB ..) o a,b⟩,r.mono λo q=>k d (Az _ (AB ..)) o q⟩
 item:=λi s Q E hi st q=>by
  refine Zc5 hh st.1 st.2 (λy h' hy st' sb=>?_) λhn=>?_
  ·exact q y.key h' s.toks ⟨y,hy,rfl⟩ ⟨st',st.2.mono λo z=>sb.extBut d o hne z⟩ λb o hb z=>sb.extBut b o (λe=>hb (by rw [e]; exact AB ..)) z
  ·rw [Array.getElem?_eq_none_iff] at hn
   omega
 done:=λs Q E st q=>by
  refine Zc5 hh st.1 st.2 (λy h' hy=>?_) λ_ h' eb=>q h' s.toks λb o hb z=>eb b o (λe=>hb (by rw [e]; exact AB ..)) z
  have:=(DB.mp hy).1
  omega
 self:=λi s Q E st q=>by
  obtain ⟨st,_⟩:=st
  apply wpAny_pyIter_slot st.ty F.slot_dict_keyiterator_iter
  refine wpAny_call_entry F.slot_dict_keyiterator_iter st.ty F.entry_dict_keyiterator_iter ?_ (F.args_dict_keyiterator_iter_1 _)
  show wpAny _ _ (ret (.ref it)) _ _ s
  exact wpAny_pure ⟨_,rfl,_,_,st.ty,F.slot_dict_keyiterator_next.lookup,q⟩
theorem Zhb (lo:(d == sysModules)=false):PySem.W.KdlSrc prog w "dict" d d es.size (Zga es) (λh=>RawD h d es ep) where
 type:=λs r=>r.ty
 there:=λh r=>let ⟨o,a,_⟩:=r; ⟨AK a,AK a⟩
 keep:=λh h' r k=>r.mono λo q=>k d (.inl rfl) o q
 notList:=by decide
 notTuple:=by decide
 hint:=λA E s Q r q=>PySem.W.kdl_hint_dict r.ty q
 iter:=λA s hh r=>by
  refine ⟨{ cls:=.type "dict_keyiterator",data:=.fields (yB d 0 es.size ep) },λi h=>KiAt h s.heap.objs.size d i es.size ep/\RawD h d es ep,λE Q q=>Zkq lo r q,?_,⟨_,AC _ rfl,rfl,rfl⟩,r.mono λo q=>v9 _ q⟩
  obtain ⟨o,a,_⟩:=r
  exact Zgf hh _ (AR (AK a))
theorem gather {T:String} {r:Addr} {n:Nat} {P:Nat->Value->Prop} {OK:Heap->Prop} {R:List Value->Shared->Prop} (src:PySem.W.KdlSrc prog w T r d n P OK) (hh:A.handled=none) (ok:OK s.heap) (hk:n<=sizeLine)
  (h:∀ h' tk acc,(∀ b o,s.heap.get? b=some o->h'.get? b=some o)->s.heap.objs.size<=h'.objs.size->ItemsOf P acc n->R acc.toList { s with heap:=h',toks:=tk }):wpAny (model prog w) A (collect (.ref r)) R E s:=by
 obtain ⟨hr,hd⟩:=src.there _ ok
 have g0:(s.heap.push { cls:=.type "list",data:=.seq ([]:D1).toArray }).get? s.heap.objs.size=some { cls:=.type "list",data:=.seq #[] }:=AC _ rfl
 have walk:=PySem.W.kdl_extend (A:=A) (s:={ s with heap:=s.heap.push { cls:=.type "list",data:=.seq ([]:D1).toArray } })
  (R:=λ(q:Result) (s':Shared)=>∃ h' tk acc c,q=.ok (.ret (.ref s.heap.objs.size))/\s'={ s with heap:=h',toks:=tk }/\(∀ b o,s.heap.get? b=some o->h'.get? b=some o)/\h'.get? s.heap.objs.size=some { cls:=.type "list",dict:=none,data:=.seq acc c,slots:=#[] }/\ItemsOf P acc n)
  src hh (src.keep _ _ ok λb _ o q=>v9 _ q) s.heap.objs.size (A6 hr) (A6 hd) (.ref s.heap.objs.size) 0 g0
  (λh' tk acc c k1 k2 k3=>⟨h',tk,acc,c,rfl,rfl,λb o q=>k1 b o (AR (AK q)) (v9 _ q),k2,k3⟩) hk
 unfold collect
 refine wpAny_bind (wpAny_runValue (codeAny_builtin F.entry_proto_collect ?_))
 rw [Bo F.plain_proto_collect _]
 show wpAny _ A.in1 (newList [] >>= λl=>again (.builtin "list.__iadd__" ⟨[l,.ref r],[]⟩)) _ _ s
 refine wpAny_bind (wpAny_newObj_type (wpAny_pure ⟨plainId_quiet C5 _,codeAny_builtin F.entry_list_iadd ?_⟩))
 rw [Bo C5 _]
 refine wpAny_mono walk (λfl s' z=>?_) λe s' z=>?_
 ·have fin:∀ {q:Result} {s':Shared},(∃ h' tk acc c,q=.ok (.ret (.ref s.heap.objs.size))/\s'={ s with heap:=h',toks:=tk }/\(∀ b o,s.heap.get? b=some o->h'.get? b=some o)/\h'.get? s.heap.objs.size=some { cls:=.type "list",dict:=none,data:=.seq acc c,slots:=#[] }/\ItemsOf P acc n) ->
    q=.ok (.ret (.ref s.heap.objs.size))/\wpAny (model prog w) A (load s.heap.objs.size >>= λo=>match o.data with | .seq xs _=>pure xs.toList | _=>unsupported "internal:collect") R E s':=λz=>by
   obtain ⟨h',tk,acc,c,e,rfl,k1,k2,k3⟩:=z
   exact ⟨e,wpAny_bind (wpAny_load k2 (wpAny_pure (h h' tk acc k1 (B6 (AK k2)) k3)))⟩
  cases fl with
  | done f =>
   obtain ⟨e,q⟩:=fin z
   cases e
   exact q
  | again c1 =>
   refine ⟨z.1,codeAny_mono z.2 λq s2 y=>?_⟩
   obtain ⟨e,q'⟩:=fin y
   subst e
   exact q'
 ·obtain ⟨_,_,_,_,e',_⟩:=z
  cases e'
end
noncomputable def jd:List Int->List Int->Bool
 | x::xs,y::ys=>if x=y then jd xs ys else decide (x < y)
 | _,_=>false
def NumT (h:Heap) (v:Value) (ns:DZ):Prop:=∃ a o us n,v=.ref a/\h.get? a=some o/\o.cls=.type "tuple"/\o.data=.seq us n/\IntsAre us.toList ns
theorem NumT.keeps {h h':Heap} {v:Value} {ns:DZ} (t:NumT h v ns) (k:∀ b o,h.get? b=some o->h'.get? b=some o):NumT h' v ns :=
 let ⟨a,o,us,n,e,h1,r⟩:=t; ⟨a,o,us,n,e,k a o h1,r⟩
section
variable {prog:Program} {w:World} {A:Around} {E:DX} {s:Shared} {Q:Bool->Shared->Prop} {b:Bool}
theorem Zdk:∀ {xs ys:DZ} {us vs:D1} {i:Nat},IntsAre us xs->IntsAre vs ys->xs.length=ys.length->Q (jd xs ys) s->PySem.W.KatLex prog w A b false Q (us.zip vs) i s
 | [],[],_,_,i,hu,hv,_,q=>by
  cases hu
  exact PySem.W.kat_nil q
 | x::xs,y::ys,_,_,i,hu,hv,hl,q=>by
  cases hu with
  | cons _ t hu =>
   cases hv with
   | cons _ t' hv =>
    rename_i us vs
    rw [A1]
    refine PySem.W.kat_cons (wpAny_eqBool_int ?_)
    unfold jd at q
    by_cases e:x=y
    ·rw [if_pos e] at q
     rw [show (x == y)=true from beq_iff_eq.mpr e]
     exact PySem.W.kat_yes (Zdk hu hv (BV hl) q)
    ·rw [if_neg e] at q
     rw [show (x == y)=false from beq_eq_false_iff_ne.mpr e]
     refine PySem.W.kat_no ?_
     cases (b && i == 0) with
     | true=>exact oneLt_int q
     | false =>
      refine PySem.W.kat_one _ _ (lt_int ?_)
      exact q
 | [],_::_,_,_,_,_,_,h,_=>by cases h
 | _::_,[],_,_,_,_,_,h,_=>by cases h
theorem ZdY {us:D1} {ns:DZ} (h:IntsAre us ns):us.length=ns.length:=by
 induction h with
 | nil=>rfl
 | cons _ _ _ ih=>rw [Au,Au,ih]
theorem ZjM {u v:Value} {xs ys:DZ} (hu:NumT s.heap u xs) (hv:NumT s.heap v ys) (hl:xs.length=ys.length) (q:Q (jd xs ys) s):wpAny (model prog w) A (keyLt' (tuples' b) u v) Q E s:=by
 obtain ⟨a,o,us,n,rfl,h1,h2,h3,h4⟩:=hu
 obtain ⟨a',o',us',n',rfl,k1,k2,k3,k4⟩:=hv
 refine PySem.W.kat_lt h1 h3 k1 k3 ?_
 have e:decide (us.size < us'.size)=false:=by
  rw [<- Ca,<- Ca,ZdY h4,ZdY k4,hl]
  exact decide_eq_false (AY _)
 rw [e]
 exact Zdk h4 k4 hl q
end
section
variable {prog:Program} {w:World} {A:Around} {E:DX} {s:Shared}
theorem Zej {h:Heap}:∀ {vs:D1},(∀ v∈vs,∃ n ns,NumT h v (n::ns))->∃ fs,PySem.W.KatTups h vs fs/\fs.length=vs.length/\∀ f∈fs,∃ n t,f=Value.int n t
 | [],_=>⟨[],PySem.W.KatTups.nil,rfl,nofun⟩
 | v::vs,hv=>by
  obtain ⟨fs,h1,h2,h3⟩:=Zej (vs:=vs) λu hu=>hv u (Az _ hu)
  obtain ⟨n,ns,a,o,us,k,rfl,a1,a2,a3,a4⟩:=hv v (AB ..)
  cases hus:us.toList with
  | nil=>rw [hus] at a4; cases a4
  | cons u ul =>
   rw [hus] at a4
   cases a4 with
   | cons _ t hr =>
    refine ⟨.int n t::fs,PySem.W.KatTups.cons a1 a2 a3 ?_ h1,by rw [Au,Au,h2],λf hf=>?_⟩
    ·rw [<- Array.getElem?_toList,hus]
     rfl
    ·rcases AO.mp hf with rfl | hf
     ·exact ⟨n,t,rfl⟩
     ·exact h3 f hf
open PySem.W in
theorem ZfC {cmp:Nat->Nat->(Bool->Shared->Prop)->Shared->Prop} {N:Nat} {p:Array Nat} (hc:∀ n C,1<=n->n < N->C false s->cmp (p.getD n 0) (p.getD (n - 1) 0) C s) :
  ∀ (f n:Nat) {Q:Nat->Shared->Prop},1<=n->n+f<=N->Q (n+f) s->(kas_asc p f n).kasWp cmp Q s
 | 0,n,Q,_,_,q=>q
 | f+1,n,Q,h1,h2,q=>by
  refine hc n _ h1 (by omega) ?_
  have e:n+(f+1)=n+1+f:=by omega
  rw [e] at q h2
  exact ZfC hc f (n+1) (by omega) h2 q
open PySem.W in
theorem Zhe {cmp:Nat->Nat->(Bool->Shared->Prop)->Shared->Prop} {N:Nat} (h2:2<=N) (hc:∀ n C,n+1 < N->C false s->cmp (n+1) n C s) {G:Array Nat->Shared->Prop} (g:G (List.toArray (List.range N)) s):(kas_sort N).kasWp cmp G s:=by
 have at':∀ i,i < N->(List.toArray (List.range N)).getD i 0=i:=λi hi=>by simp [Array.getD,hi]
 unfold kas_sort kas_count
 rw [KasT.kasWp_bind,KasT.kasWp_bind]
 refine ZfC (N:=N) (λn C h1 h3 q=>?_) (N - 1) 1 (Aw _) (by omega) ?_
 ·rw [at' n h3,at' (n - 1) (by omega)]
  obtain ⟨m,rfl⟩:∃ m,n=m+1:=⟨n - 1,by omega⟩
  exact hc m C h3 q
 ·have e:1+(N - 1)=N:=by omega
  rw [e]
  show KasT.kasWp cmp (if (N == N)=true then _ else _) _ s
  rw [if_pos (beq_self_eq_true N)]
  show KasT.kasWp cmp (if N < N then _ else _) G s
  rw [if_neg (AY N)]
  exact g
theorem yM {vs:D1} {i:Nat} {v:Value} (h:vs[i]?=some v):vs.getD i Value.none=v:=by rw [List.getD_eq_getElem?_getD,h]; rfl
theorem Zid (vs:D1):(List.toArray (List.range vs.length)).toList.map (λi=>vs.getD i Value.none)=vs:=by
 apply Dq
 intro i
 rw [AM]
 by_cases hi:i < vs.length
 ·have e:(List.toArray (List.range vs.length)).toList[i]?=some i:=by simp [hi]
  rw [e,As hi]
  show some (vs.getD i Value.none)=_
  rw [yM (As hi)]
 ·have e:(List.toArray (List.range vs.length)).toList[i]?=none:=by simp; omega
  rw [e,CI (by omega)]
  rfl
structure Rising (h:Heap) (vs:D1) (kss:List DZ):Prop where
 len:vs.length=kss.length
 num:∀ (i:Nat) (v:Value) (ns:DZ),vs[i]?=some v->kss[i]?=some ns->NumT h v ns
 ne:∀ ns∈kss,ns≠[]
 up:∀ (i:Nat) (x y:DZ),kss[i]?=some x->kss[i+1]?=some y->y.length=x.length/\jd y x=false
theorem Rising.keeps {h h':Heap} {vs:D1} {kss:List DZ} (r:Rising h vs kss) (k:∀ v∈vs,∀ ns,NumT h v ns->NumT h' v ns):Rising h' vs kss :=
 ⟨r.len,λi v ns a b=>k v (Bj a) ns (r.num i v ns a b),r.ne,r.up⟩
theorem Rising.head {h:Heap} {vs:D1} {kss:List DZ} (r:Rising h vs kss):∀ v∈vs,∃ n ns,NumT h v (n::ns):=λv hv=>by
 obtain ⟨i,hi,e⟩:=BJ.mp hv
 have hk:i < kss.length:=by rw [<- r.len]; exact hi
 have q:=r.num i v kss[i] (by rw [As hi,e]) (As hk)
 have n0:=r.ne kss[i] (AX hk)
 cases e2:kss[i] with
 | nil=>exact absurd e2 n0
 | cons n ns=>exact ⟨n,ns,e2 ▸ q⟩
theorem Zhd {a:Addr} {vs:D1} {n:Nat} {P:PySem.Fin->Shared->Prop} (ho:s.heap.get? a=some (seqObj "list" vs.toArray n)) {kss:List DZ} (hr:Rising s.heap vs kss) (h64:vs.length < 64)
  (h:P (.done (.ret .none)) { s with heap:=sortedHeap s.heap a vs vs.toArray }):wpAny (model prog w) A (Builtin.«list.sort» ⟨[.ref a],[]⟩) P E s:=by
 have ha:a < s.heap.objs.size:=AK ho
 have hsz:vs.toArray.size=vs.length:=AG ..
 obtain ⟨e1,ho1⟩:∃ e1,(s.heap.update a (Obj.mapSeq λ_=>#[])).get? a=some (seqObj "list" #[] e1):=⟨_,get?_update_seq ho λ_=>#[]⟩
 let h3:Heap:=((s.heap.update a (Obj.mapSeq λ_=>#[])).push (seqObj "tuple" vs.toArray 0)).push (seqObj "list" #[] 0)
 have kp:∀ b o,(s.heap.update a (Obj.mapSeq λ_=>#[])).get? b=some o->h3.get? b=some o:=λb o q=>v9 _ (v9 _ q)
 have ho3:h3.get? a=some (seqObj "list" #[] e1):=kp _ _ ho1
 have hr3:Rising h3 vs kss:=hr.keeps λv hv ns t=>by
  obtain ⟨b,o,us,k,e,t1,t2,t3,t4⟩:=t
  have hb:b≠a:=λe=>by
   rw [e,ho] at t1
   cases t1
   have t2:Value.type "list"=Value.type "tuple":=t2
   exact absurd t2 (by decide)
  exact ⟨b,o,us,k,e,kp _ _ ((Bn _ _ (Ne.symm hb)).trans t1),t2,t3,t4⟩
 rw [list_sort_plain]
 apply wpAny_bind; apply listItems_at ho rfl
 apply wpAny_bind; refine listUpdate_at ho rfl ?_ (by rw [hsz,sizeLine_eq]; omega) (Bg _)
 apply wpAny_bind; apply seqEpoch_at ho1 rfl
 apply wpAny_bind; refine wpAny_newTuple ?_ (by show vs.length<=_; rw [sizeLine_eq]; omega)
 apply wpAny_bind; refine wpAny_newList ?_ (Bg _)
 apply wpAny_holding
 show wpAny (model prog w) A _ P E { s with heap:=h3 }
 dsimp only
 have tail:∀ st:SortSt,(arrOf st).map (·.2)=vs.toArray->failedOf st=none->wpAny (model prog w) A (do
   let touched:=(<- seqEpoch a) != e1
   Builtin.List.listUpdate (.ref a) λ_=>(arrOf st).map (·.2)
   if let some e:=failedOf st then rule "list.sort.comparison-raised"; throw e
   if touched then rule "list.sort.modified"; raiseError "ValueError" "list modified during sort"
   ret .none) P E { s with heap:=h3 }:=λst q1 q2=>by
  apply wpAny_bind; apply seqEpoch_at ho3 rfl
  rw [q1]
  apply wpAny_bind; refine listUpdate_at ho3 rfl ?_ (Bg _) (by rw [hsz,sizeLine_eq]; omega)
  rw [q2]
  simp only [bne_self_eq_false,Bl,if_false]
  exact wpAny_pure h
 by_cases h2:vs.toArray.size < 2
 ·rw [if_pos h2,if_pos h2]
  apply wpAny_bind; apply wpAny_pure
  rw [StateT.run_pure]
  apply wpAny_bind; apply wpAny_pure
  refine tail (SortSt.mk' general' (vs.toArray.zip vs.toArray) #[] 7 none) ?_ rfl
  show (vs.toArray.zip vs.toArray).map (·.2)=_
  rw [Array.map_snd_zip (Aw _)]
 ·rw [if_neg h2,if_neg h2]
  have h2':2<=vs.length:=by omega
  obtain ⟨fs,f1,f2,f3⟩:=Zej hr3.head
  apply wpAny_bind
  refine PySem.W.kat_kind (s:={ s with heap:=h3 }) (T:=.type "int") f1 (by omega) (λv hv=>?_) (by decide) ?_
  ·obtain ⟨k,t,rfl⟩:=f3 v hv
   exact PySem.W.Looks.of_pure rfl
  apply wpAny_bind
  refine wpAny_mono (PySem.W.kat_run (s:={ s with heap:=h3 }) (Q:=λst s'=>s'={ s with heap:=h3 }/\(arrOf st).map (·.2)=vs.toArray/\failedOf st=none) (G:=λp s'=>p=List.toArray (List.range vs.length)/\s'={ s with heap:=h3 }) rfl h2' h64
   (λp st s' a1 a2 a3 a4=>?_) ?_) ?_ λ_ _ e=>e
  ·obtain ⟨rfl,rfl⟩:=a4
   exact ⟨rfl,(PySem.W.kat_snds rfl a2).trans (congrArg List.toArray (Zid vs)),a3⟩
  ·refine Zhe h2' (λi C hi q=>?_) ⟨rfl,rfl⟩
   have b1:i < kss.length:=by rw [<- hr.len]; omega
   have b2:i+1 < kss.length:=by rw [<- hr.len]; omega
   have c1:vs[i]?=some vs[i]:=As (by omega)
   have c2:vs[i+1]?=some vs[i+1]:=As (by omega)
   obtain ⟨u1,u2⟩:=hr3.up i _ _ (As b1) (As b2)
   show wpAny _ _ (keyLt' _ (vs.getD (i+1) Value.none) (vs.getD i Value.none)) C _ _
   rw [yM c1,yM c2]
   exact ZjM (hr3.num _ _ _ c2 (As b2)) (hr3.num _ _ _ c1 (As b1)) u1 (by rw [u2]; exact q)
  ·rintro ⟨⟨⟩,st⟩ s' ⟨rfl,q1,q2⟩
   exact tail st q1 q2
end
noncomputable def gc:List DZ->Bool
 | x::y::r=>!x.isEmpty && (y.length == x.length) && !jd y x && gc (y::r)
 | [x]=>!x.isEmpty
 | []=>true
theorem ZbP:∀ {l:List DZ},gc l=true->∀ x∈l,x≠[]
 | [],_,x,hx=>by cases hx
 | [a],h,x,hx=>by
  rw [Ce.mp hx]
  intro e
  rw [e] at h
  cases h
 | a::b::r,h,x,hx=>by
  unfold gc at h
  obtain ⟨h1,h2⟩:=A3.mp h
  rcases AO.mp hx with rfl | hx
  ·intro e
   rw [e] at h1
   cases h1
  ·exact ZbP h2 x hx
theorem ZbN:∀ {l:List DZ},gc l=true->∀ (i:Nat) (x y:DZ),l[i]?=some x->l[i+1]?=some y->y.length=x.length/\jd y x=false
 | [],_,i,x,y,h,_=>by cases h
 | [a],_,i,x,y,_,h=>by
  rw [A7] at h
  cases h
 | a::b::r,h,i,x,y,h1,h2=>by
  unfold gc at h
  obtain ⟨h3,h4⟩:=A3.mp h
  cases i with
  | zero =>
   cases h1
   cases h2
   obtain ⟨h5,h6⟩:=A3.mp h3
   obtain ⟨_,h7⟩:=A3.mp h5
   exact ⟨beq_iff_eq.mp h7,by simpa using h6⟩
  | succ i =>
   rw [A7] at h1 h2
   exact ZbN h4 i x y h1 h2
theorem Zjn {P:Program} {w:World} {H:Hp} {h:Heap} (ok:HOk P w H h) {b:Addr} {ns:DZ} (e:H b=some (.tup (ns.map V.int))):NumT h (.ref b) ns:=by
 obtain ⟨_,its,r,o,h1,h2,n,h3⟩:=ok b _ e
 exact ⟨b,o,its.toArray,n,rfl,h1,h2,h3,by simpa using yF r⟩
section
variable {X:Cx}
noncomputable def Zb4:List V->Hp->VK->Prop:=λxs H Q=>∃ p o l,xs=[.ref p]/\H p=some (.frz o (.dT (List.map ci l)))/\gc (l.map (·.1))=true/\l.length < 64 /\
  ∀ (q:Addr) (bs:List Addr),H q=none->bs.length=l.length->(∀ (i:Nat) (b:Addr) (k:DZ×V),bs[i]?=some b->l[i]?=some k->H b=some (.tup (k.1.map V.int)))->Q (.ref q) (upd H q (.lst (bs.map V.ref)))
theorem Zal:∀ bs:List Addr,Vals (bs.map V.ref) (bs.map Value.ref)
 | []=>.nil
 | _::bs=>.cons rfl (Zal bs)
theorem vH (hc:X.calm=true):dL X (.builtin "sorted") Zb4:=by
 intro pins s σ H xs us Q I r h
 obtain ⟨p,o,l,rfl,hp,hk,h64,q⟩:=h
 obtain ⟨u,rfl,ru⟩:=eB r
 cases ru
 obtain ⟨xs,es,ep,rk,ho,hd,rw',lo,he,_⟩:=ZkY I hp
 have hs:es.size=l.length:=(Zll rk he).trans (At ..)
 have xl:xs.length=l.length:=rk.length.symm.trans (At ..)
 have hh:=I.ok.hd hc
 refine Calls.call_function_entry kind_sorted plain_sorted entry_sorted (args_sorted1 _) ?_
 unfold Builtin.«sorted»
 refine wpAny_bind (m:=checkCount "sorted" 1 1 _) (wpAny_pure (wpAny_bind (gather (A:=X.A.in1) (Zhb lo) (by simp [hh]) rw' (by rw [hs,sizeLine_eq]; omega) λh1 tk acc kp hsz it=>?_)))
 let bs:List Addr:=xs.map (·.2.1)
 have bl:bs.length=l.length:=by rw [At]; exact xl
 have hacc:acc.toList=bs.map Value.ref:=by
  apply Dq
  intro i
  rw [AM,AM,Array.getElem?_toList]
  by_cases hi:i < es.size
  ·have hb:i < acc.size:=by rw [it.1]; exact hi
   have h1:acc[i]?=some acc[i]:=Array.getElem?_eq_getElem hb
   obtain ⟨y,y1,y2⟩:=it.2 i _ h1
   have hbx:i < xs.length:=by rw [xl,<- hs]; exact hi
   have hx:xs[i]?=some xs[i]:=As hbx
   rw [h1,hx,y2,Zlm he hx y1]
   rfl
  ·have h1:acc[i]?=none:=Array.getElem?_eq_none (by rw [it.1]; omega)
   have hx:xs[i]?=none:=CI (by rw [xl,<- hs]; omega)
   rw [h1,hx]
   rfl
 have hH:∀ (i:Nat) (b:Addr) (k:DZ×V),bs[i]?=some b->l[i]?=some k->H b=some (.tup (k.1.map V.int)):=λi b k h1 h2=>by
  rw [AM] at h1
  obtain ⟨x,hx,rfl⟩:=Bs.mp h1
  obtain ⟨x',hx',e⟩:=rk.at i (ci k) (by rw [AM,h2]; rfl)
  rw [hx] at hx'
  cases hx'
  have e:H x.2.1=some (.tup ((k.1.map (Sum.inl:Int->aL)).map kV)):=e
  rw [ZdL] at e
  exact e
 have hr:Rising (h1.push (seqObj "list" acc.toList.toArray 0)) acc.toList (l.map (·.1)):=by
  refine ⟨by rw [hacc,At,bl,At],λi v ns a b=>?_,ZbP hk,ZbN hk⟩
  rw [hacc,AM] at a
  obtain ⟨c,hc',rfl⟩:=Bs.mp a
  rw [AM] at b
  obtain ⟨k,hk',rfl⟩:=Bs.mp b
  exact (Zjn I.hok (hH i c k hc' hk')).keeps λb o z=>v9 _ (kp b o z)
 have al:acc.toList.length=l.length:=by rw [hacc,At,bl]
 refine wpAny_bind (wpAny_newList ?_ (by rw [al,sizeLine_eq]; omega))
 have g1:(h1.push (seqObj "list" acc.toList.toArray 0)).get? h1.objs.size=some (seqObj "list" acc.toList.toArray 0):=AC _ rfl
 refine wpAny_bind (wpAny_holding (wpAny_call_entry slot_list_sort ⟨_,g1,rfl⟩ entry_list_sort (Zhd (s:={ s with heap:=h1.push (seqObj "list" acc.toList.toArray 0),toks:=tk }) g1 hr (by rw [al]; exact h64) ⟨_,rfl,?_⟩) (args_list_sort _)))
 obtain ⟨e,he'⟩:=sortedHeap_at (out:=acc.toList.toArray) g1
 refine wpAny_pure ⟨_,rfl,.ref h1.objs.size,_,I.laid (a:=h1.objs.size) (o:=.lst (bs.map V.ref)) (t':=tk) (λb o z=>?_) hsz ⟨by rw [At,bl,sizeLine_eq]; omega,bs.map Value.ref,e,Zal bs,by rw [<- hacc]; exact he'⟩,rfl,q _ bs (I.hok.fresh hsz) bl hH⟩
 have hb:=AK (kp b o z)
 rw [sortedHeap_old (AR hb) (by rw [Bk]; exact B3 hb)]
 exact v9 _ (kp b o z)
end
section
variable {PK:Pk} {X:Cx} {is:DQ} {e:Expr}
def Zf1 (PK:Pk) (r:List V->Hp->VK->Prop) (f:List PyData->Option DY):Prop:=∀ (pa:Addr) (m:Nat) (G H:Hp) (vs:D3) (ds:DY) (d:DY) (Q:VK),Wd PK pa m G H->DnAll G vs ds->f ds=some d->Ko1 PK pa m G H d Q->r vs H Q
theorem vP {t:TA} {r:List V->Hp->VK->Prop} {f:List PyData->Option DY} (h:PE X e (fN r (TAd PK is))) (hv:Zf1 PK r f):PE X e (eG PK (gE f is)):=h.imp λσ H Q hz0=>by
 obtain ⟨pa,D6,H₀,m,ρ,G,R,z⟩:=hz0
 refine TAd.then R z λm1 xs vs G1 H1 s1 w1 R1 d1 q1=>?_
 obtain ⟨d,hd,k⟩:=Tr.ok_of q1
 exact hv _ _ _ _ _ _ _ _ w1 d1 hd (Ko1.later k s1 w1.some)
noncomputable def hV:List PyData->Option DY
 | [.dict (p::kvs)]=>(gx (p::kvs)).bind λks=>if (decide (ks.length < 64) && gc ks)=true then some (ks.map λk=>PyData.tuple (k.map PyData.int)) else none
 | _=>none
theorem Zha {x:PyData} {d:DY} (h:hV [x]=some d):itP x=some d/\∀ l:List (DZ×V),d=(l.map λk=>PyData.tuple (k.1.map PyData.int))->l.length < 64/\gc (l.map (·.1))=true:=by
 have inj:∀ {a b:List DZ},(a.map λk=>PyData.tuple (k.map PyData.int))=(b.map λk=>PyData.tuple (k.map PyData.int))->a=b:=by
  intro a
  induction a with
  | nil=>intro b e; cases b with
   | nil=>rfl
   | cons _ _=>cases e
  | cons x a ih=>intro b e; cases b with
   | nil=>cases e
   | cons y b =>
    rw [Ax,Ax] at e
    injection e with e1 e2
    injection e1 with e1
    rw [ih e2]
    have:ints? (x.map PyData.int)=ints? (y.map PyData.int):=by rw [e1]
    rw [ints?_map,ints?_map] at this
    rw [A9 this]
 cases x with
 | dict kvs =>
  cases kvs with
  | nil=>cases h
  | cons p kvs =>
   have h:((gx (p::kvs)).bind λks=>if (decide (ks.length < 64) && gc ks)=true then some (ks.map λk=>PyData.tuple (k.map PyData.int)) else none)=some d:=h
   obtain ⟨ks,hk,h2⟩:=DK.mp h
   split at h2
   ·rename_i hc
    cases h2
    obtain ⟨c1,c2⟩:=A3.mp hc
    refine ⟨show (gx (p::kvs)).map _=_ by rw [hk]; rfl,λl e=>?_⟩
    have e':ks=l.map (·.1):=inj (e.trans (AS (f:=λk:DZ×V=>k.1) (g:=λk:DZ=>PyData.tuple (k.map PyData.int)) (l:=l)).symm)
    have hl:ks.length=l.length:=by rw [e',At]
    exact ⟨by rw [<- hl]; exact of_decide_eq_true c1,by rw [<- e']; exact c2⟩
   ·cases h2
 | _=>cases h
theorem Wd.takes {pa:Addr} {m:Nat} (nt:wa PK) {H:Hp}:∀ {bs:List Addr} {l:List (DZ×V)} {G:Hp},Wd PK pa m G H->bs.length=l.length->(∀ (i:Nat) (b:Addr) (k:DZ×V),bs[i]?=Option.some b->l[i]?=Option.some k->H b=Option.some (.tup (k.1.map V.int))) ->
  ∃ G',Stp pa G H G' H/\Wd PK pa m G' H/\DnAll G' (bs.map V.ref) (l.map λk=>PyData.tuple (k.1.map PyData.int))
 | [],[],G,w,_,_=>⟨G,.refl,w,.nil⟩
 | [],_::_,_,_,h,_=>by cases h
 | _::_,[],_,_,h,_=>by cases h
 | b::bs,k::l,G,w,h,hb=>by
  obtain ⟨G1,s1,w1,d1⟩:=w.take nt (hb 0 b k rfl rfl)
  obtain ⟨G2,s2,w2,d2⟩:=Wd.takes nt (bs:=bs) (l:=l) w1 (BV h) λi b k e1 e2=>hb (i+1) b k e1 e2
  exact ⟨G2,s1.trans s2 w1.some,w2,.cons (d1.mono s2.gs) d2⟩
theorem oi (nt:wa PK):Zf1 PK Zb4 hV:=λpa m G H vs ds d Q w hv hd k=>by
 cases hv with
 | nil=>cases hd
 | cons h1 h2 =>
  cases h2 with
  | cons _ _ =>
   unfold hV at hd
   split at hd
   ·rename_i e
    cases e
   ·cases hd
  | nil =>
   obtain ⟨h3,h4⟩:=Zha hd
   obtain ⟨a,o,l,rfl,hG,rfl⟩:=h1.keys h3
   obtain ⟨c1,c2⟩:=h4 l rfl
   refine ⟨a,o,l,rfl,w.sub _ _ hG,c2,c1,λq bs hq hl hb=>?_⟩
   obtain ⟨G1,s1,w1,d1⟩:=Wd.takes nt w hl hb
   obtain ⟨w2,s2⟩:=w1.own (o:=.lst (bs.map V.ref)) hq
   exact k q _ _ _ (s1.trans s2 w1.some) w2 hq (w1.gnone hq) bY d1
end
section
variable {prog:Program} {w:World} {A:Around} {R:Result->Shared->Prop} {K:Type} [DecidableEq K] {knd:KeyKind prog w K} {kf:Nat->K}
end
section
variable {prog:Program} {w:World} {A:Around} {E:DX} {s:Shared} {K:Type} [DecidableEq K] {knd:KeyKind prog w K} {kf:Nat->K}
end
noncomputable def wG:Nat->List PyData->Option DY
 | _,[]=>some []
 | k,.tuple [.int i,x]::r=>if i=(k:Int) then (wG (k+1) r).map (x::·) else none
 | _,_::_=>none
section
variable {prog:Program} {w:World} {A:Around} {R:Result->Shared->Prop}
noncomputable abbrev TK:=List aL×Addr×Value
noncomputable def PrT (P:Program) (w:World) (h:Heap) (d it:Addr) (items:Array Value) (xs:List TK):Prop :=
 items.size=xs.length/\∀ (i:Nat) (x:TK),xs[i]?=some x->(∃ (p:Addr) (o:Obj) (n:Nat),items[i]?=some (.ref p)/\p≠d/\p≠it/\h.get? p=some o/\o.cls=.type "tuple"/\o.data=.seq #[.ref x.2.1,x.2.2] n) /\
  x.2.1≠d/\x.2.1≠it/\(tupleKind (bP P w)).is h x.1 x.2.1
theorem yC {P:Program} {w:World} {h h':Heap} {k:List aL} {a:Addr} (t:(tupleKind (bP P w)).is h k a) (e:∀ o,h.get? a=some o->h'.get? a=some o):(tupleKind (bP P w)).is h' k a :=
 let ⟨o,us,n,h1,r⟩:=t; ⟨o,us,n,e o h1,r⟩
theorem PrT.keeps {h h':Heap} {d it:Addr} {items:Array Value} {xs:List TK} (x:PrT prog w h d it items xs) (k:∀ b o,b≠d->b≠it->h.get? b=some o->h'.get? b=some o):PrT prog w h' d it items xs :=
 ⟨x.1,λi v hv=>let ⟨⟨p,o,n,a1,a2,a3,a4,a5⟩,b1,b2,b3⟩:=x.2 i v hv; ⟨⟨p,o,n,a1,a2,a3,k _ _ a2 a3 a4,a5⟩,b1,b2,yC b3 λo q=>k _ _ b1 b2 q⟩⟩
noncomputable def gj (xs:List TK):List TK:=xs.foldl (λys x=>storedH ys x.1 x.2.1 x.2.2) []
theorem Zeg (xs:List TK) (x:TK):gj (xs++[x])=storedH (gj xs) x.1 x.2.1 x.2.2:=by
 unfold gj
 rw [Do]
 rfl
theorem Zeh:∀ xs:List TK,(gj xs).length<=xs.length:=by
 have g:∀ (xs ys:List TK),(xs.foldl (λys x=>storedH ys x.1 x.2.1 x.2.2) ys).length<=ys.length+xs.length:=by
  intro xs
  induction xs with
  | nil=>intro ys; exact Aw _
  | cons x xs ih =>
   intro ys
   refine AL (ih (storedH ys x.1 x.2.1 x.2.2)) ?_
   have:(storedH ys x.1 x.2.1 x.2.2).length<=ys.length+1:=by
    unfold storedH
    split
    ·rw [At]; omega
    ·rw [Av]; exact Aw _
   rw [Au]
   omega
 intro xs
 have:=g xs []
 rw [AE,Bp] at this
 exact this
def DhAt (P:Program) (w:World) (h:Heap) (d it:Addr) (ys:List TK):Prop:=h.DictOfH (tupleKind (bP P w)) d ys/\∀ y∈ys,y.2.1≠d/\y.2.1≠it
theorem DhAt.keeps {h h':Heap} {d it:Addr} {ys:List TK} (x:DhAt prog w h d it ys) (k:∀ b o,b≠it->h.get? b=some o->h'.get? b=some o) (hd:d≠it):DhAt prog w h' d it ys:=by
 obtain ⟨⟨o,es,ep,h1,h2,h3,h4,h5,h6⟩,q⟩:=x
 exact ⟨⟨o,es,ep,k _ _ hd h1,h2,h3,h4,λy hy=>yC (h5 y hy) λo z=>k _ _ (q y hy).2 z,h6⟩,q⟩
theorem ZlE (hu:A.units+1 < cLine) (hh:A.handled=none) {it l d:Addr} (items:Array Value) (xs:List TK) (hli:l≠it) (hdi:d≠it) (hdl:d≠l) (hsz:items.size<=sizeLine) :
  ∀ (k i:Nat) (s:Shared),items.size - i=k->i<=items.size->s.heap.IsListIter it l i->s.heap.IsList l items->PrT prog w s.heap d it items xs->DhAt prog w s.heap d it (gj (xs.take i)) ->
   (∀ h' tk,DhAt prog w h' d it (gj xs)->(∀ b o,b≠d->b≠it->s.heap.get? b=some o->h'.get? b=some o)->R (.ok (.ret .none)) { s with heap:=h',toks:=tk }) ->
   codeAny (model prog w) A (.builtin "dict.update.loop" ⟨[.ref d,.ref it,rawInt i,.none],[]⟩) R s:=by
 intro k
 induction k with
 | zero =>
  intro i s hk hi h1 h2 hP hD hR
  have hin:i=items.size:=by omega
  subst hin
  refine codeAny_builtin F.dk_entry_loop ?_
  rw [Bo F.dk_plain_loop _]
  show wpAny _ A.in1 (pyNext (.ref it) >>= _) _ _ s
  refine wpAny_bind (wpAny_pyNext_list_end (A:=A.in1) hh h1 h2 (by simp) λh' eb=>?_)
  show wpAny _ A.in1 (Builtin.Dict.addKeywords d [] >>= _) _ _ _
  refine wpAny_bind (wpAny_pure ?_)
  refine wpAny_pure (hR h' s.toks ?_ λb o _ hb q=>eb b o hb q)
  rw [hP.1,CK] at hD
  exact hD.keeps (λb o hb q=>eb b o hb q) hdi
 | succ k ih =>
  intro i s hk hi h1 h2 hP hD hR
  have hlt:i < items.size:=by omega
  have hlv:i < xs.length:=by rw [<- hP.1]; exact hlt
  obtain ⟨⟨p,o,n,a1,a2,a3,a4,a5,a6⟩,b1,b2,b3⟩:=hP.2 i xs[i] (As hlv)
  refine codeAny_builtin F.dk_entry_loop ?_
  rw [Bo F.dk_plain_loop _]
  show wpAny _ A.in1 (pyNext (.ref it) >>= _) _ _ s
  refine wpAny_bind (wpAny_pyNext_list_item h1 h2 a1 λh' hit' sb=>?_)
  have hx':xs.take (i+1)=xs.take i++[xs[i]]:=by
   rw [Dk,As hlv]; rfl
  have hD':DhAt prog w h' d it (gj (xs.take i)):=hD.keeps (λb o hb q=>sb.extBut b o hb q) hdi
  have hT:h'.get? p=some o:=sb.extBut _ _ a3 a4
  have hlen:(gj (xs.take i)).length<=i:=AL (Zeh _) (by rw [AJ]; omega)
  show wpAny _ A.in1 (holding [Value.ref p] _ >>= _) _ _ _
  refine wpAny_bind (wpAny_holding (wpAny_bind ?_))
  refine wpAny_tryCatch ?_
  unfold Builtin.Dict.pairItems
  refine wpAny_bind (wpAny_typeOf (T:="tuple") ⟨_,hT,a5⟩ ?_)
  show wpAny _ _ (seqItems? (.ref p) >>= _) _ _ _
  refine wpAny_bind (wpAny_seqItems hT a6 (wpAny_pure ?_))
  show wpAny _ _ (holding [.ref xs[i].2.1,xs[i].2.2] (dictSet d (.ref xs[i].2.1) xs[i].2.2)) _ _ _
  refine wpAny_holding (wpAny_dictSet_heap (knd:=tupleKind (bP prog w)) (k:=xs[i].1) (tupleKind_room_in1 hu) (yC b3 λo q=>sb.extBut _ _ b2 q) hD'.1 (λh2' hD2 hs2=>?_) (by omega))
  have ei:rawInt ((i:Int)+1)=rawInt ((i+1:Nat):Int):=rfl
  refine wpAny_pure ⟨plainId_quiet F.dk_plain_loop _,?_⟩
  have kp:∀ b o,b≠d->h'.get? b=some o->h2'.get? b=some o:=λb o hb q=>hs2.extBut b o hb q
  have kq:∀ b o,b≠d->b≠it->s.heap.get? b=some o->h2'.get? b=some o:=λb o b1 b2 q=>kp b o b1 (sb.extBut _ _ b2 q)
  rw [ei]
  refine ih (i+1) _ (by omega) hlt ?_ ?_ (hP.keeps kq) ⟨by rw [hx',Zeg]; exact hD2,λy hy=>?_⟩ λh3 tk3 hD3 k3=>?_
  ·obtain ⟨o',g1,g2⟩:=hit'
   exact ⟨o',kp _ _ (Ne.symm hdi) g1,g2⟩
  ·obtain ⟨o',g1,g2⟩:=h2
   exact ⟨o',kq _ _ (Ne.symm hdl) hli g1,g2⟩
  ·rw [hx',Zeg] at hy
   rcases ZaK (KA:=λc=>c≠d/\c≠it) hD'.2 y hy with z | z
   ·exact z
   ·rw [z]; exact ⟨b1,b2⟩
  ·exact hR h3 tk3 hD3 λb o b1 b2 q=>k3 b o b1 b2 (kq b o b1 b2 q)
end
section
variable {prog:Program} {w:World} {A:Around} {E:DX} {s:Shared}
theorem ZmY (hu:A.units+4 < cLine) (hh:A.handled=none) {l:Addr} {items:Array Value} {xs:List TK} {o:Obj} {n:Nat} {Q:DX} (hsz:items.size<=sizeLine)
  (hl:s.heap.get? l=some o) (hc:o.cls=.type "list") (hd:o.data=.seq items n) (hn:o.dict=none) (hv:items.size=xs.length)
  (hP:∀ (i:Nat) (x:TK),xs[i]?=some x->(∃ (p:Addr) (o:Obj) (n:Nat),items[i]?=some (.ref p)/\s.heap.get? p=some o/\o.cls=.type "tuple"/\o.data=.seq #[.ref x.2.1,x.2.2] n)/\(tupleKind (bP prog w)).is s.heap x.1 x.2.1)
  (h:∀ h' tk,h'.DictOfH (tupleKind (bP prog w)) s.heap.objs.size (gj xs)->(∀ b o,s.heap.get? b=some o->h'.get? b=some o)->Q (.ref s.heap.objs.size) { s with heap:=h',toks:=tk }) :
  wpAny (model prog w) A (call (.type "dict") [.ref l]) Q E s:=by
 refine callType_codes (Q₁:=λobj s₁=>obj=.ref s.heap.objs.size/\s₁={ s with heap:=s.heap.push { cls:=.type "dict",data:=.dict #[] } }) F.kt_called_dict (F.kt_typeCall_dict_1 _) F.entry_dict_init (kt_code_dict_new _ ⟨rfl,rfl⟩) ?_
 rintro obj s₁ ⟨rfl,rfl⟩
 have hnew:(s.heap.push { cls:=.type "dict",data:=.dict #[] }).DictOfH (tupleKind (bP prog w)) s.heap.objs.size []:=Heap.DictOfH.new s.heap
 have kp:∀ b o,s.heap.get? b=some o->(s.heap.push { cls:=.type "dict",data:=.dict #[] }).get? b=some o:=λb o q=>v9 _ q
 have hl':(s.heap.push { cls:=.type "dict",data:=.dict #[] }).get? l=some o:=kp _ _ hl
 have lt:∀ {c:Addr} {o:Obj},s.heap.get? c=some o->s.heap.objs.size≠c:=λq=>A6 (AK q)
 have hdl:=lt hl
 generalize hG:s.heap.push { cls:=.type "dict",data:=.dict #[] }=G at *
 refine ⟨hnew.typeIs,F.args_dict_init_2 _ _,?_⟩
 unfold Builtin.«dict.__init__»
 refine wpAny_bind ?_
 unfold Builtin.Dict.selfAndRest
 refine wpAny_bind (wpAny_notOrdered_dict hnew.typeIs ?_)
 show wpAny _ _ (pure (s.heap.objs.size,[Value.ref l])) _ _ _
 refine wpAny_pure ?_
 show wpAny _ _ (Builtin.Dict.updateFrom "dict.__init__" s.heap.objs.size (.ref l) [] .none) _ _ _
 unfold Builtin.Dict.updateFrom
 refine wpAny_bind (wpAny_typeOf (T:="list") ⟨_,hl',hc⟩ ?_)
 rw [if_pos (by decide)]
 refine wpAny_bind ?_
 refine dk_list_miss hl' hc hd hn (by exact hh) λh3 tk3 k3=>?_
 rw [if_pos (by rfl)]
 refine wpAny_bind (wpAny_rule ?_)
 have hl3:h3.get? l=some o:=k3 _ _ hl'
 refine wpAny_bind (wpAny_pyIter_list (s:={ s with heap:=h3,toks:=tk3 }) (items:=items) ⟨o,hl3,hc,n,hd⟩ ?_)
 refine wpAny_pure ⟨plainId_quiet F.dk_plain_loop _,?_⟩
 have l3:∀ {c:Addr} {o:Obj},h3.get? c=some o->c≠h3.objs.size:=λq=>AR (AK q)
 have hnew3:h3.DictOfH (tupleKind (bP prog w)) s.heap.objs.size []:=by
  obtain ⟨o',es,ep,g1,g2,g3,g4,_,g6⟩:=hnew
  exact ⟨o',es,ep,k3 _ _ g1,g2,g3,g4,nofun,g6⟩
 have hd3:s.heap.objs.size≠h3.objs.size:=by
  obtain ⟨o',_,_,g1,_⟩:=hnew3
  exact l3 g1
 have kn:∀ b o,h3.get? b=some o->(h3.push { cls:=.type "list_iterator",data:=.fields #[.ref l,.int 0 0] }).get? b=some o:=λb o q=>v9 _ q
 have hD0:DhAt prog w (h3.push { cls:=.type "list_iterator",data:=.fields #[.ref l,.int 0 0] }) s.heap.objs.size h3.objs.size []:=by
  obtain ⟨o',es,ep,g1,g2,g3,g4,_,g6⟩:=hnew3
  exact ⟨⟨o',es,ep,kn _ _ g1,g2,g3,g4,nofun,g6⟩,nofun⟩
 refine ZlE (A:=A.in1) (by show A.units+1+1 < cLine; omega) hh (it:=h3.objs.size) (l:=l) items xs (l3 hl3) hd3 hdl hsz items.size 0 _ (by omega) (Bg _) ⟨_,AC _ rfl,rfl,rfl⟩ ⟨o,kn _ _ hl3,hc,n,hd⟩ ⟨hv,λi x q=>?_⟩ hD0 λh4 tk4 hD4 k4=>?_
 ·obtain ⟨⟨p,o',n',b1,b2,b3,b4⟩,b5⟩:=hP i x q
  obtain ⟨o2,us,n2,c1,c2⟩:=b5
  exact ⟨⟨p,o',n',b1,(lt b2).symm,l3 (k3 _ _ (kp _ _ b2)),kn _ _ (k3 _ _ (kp _ _ b2)),b3,b4⟩,(lt c1).symm,l3 (k3 _ _ (kp _ _ c1)),⟨o2,us,n2,kn _ _ (k3 _ _ (kp _ _ c1)),c2⟩⟩
 ·exact ⟨rfl,h h4 tk4 hD4.1 λb o q=>k4 b o (lt q).symm (l3 (k3 _ _ (kp _ _ q))) (kn _ _ (k3 _ _ (kp _ _ q)))⟩
end
inductive PtV (H:Hp):List V->List (DZ×V)->Prop
 | nil:PtV H [] []
 | cons {p b:Addr} {k:DZ} {v:V} {ps:D3} {kvs:List (DZ×V)}:H p=some (.tup [.ref b,v])->H b=some (.tup (k.map V.int))->PtV H ps kvs->PtV H (.ref p::ps) ((k,v)::kvs)
theorem PtV.sub {G H:Hp} (s:Sub G H) {ps:D3} {kvs:List (DZ×V)} (h:PtV G ps kvs):PtV H ps kvs:=by
 induction h with
 | nil=>exact .nil
 | cons h1 h2 _ ih=>exact .cons (s _ _ h1) (s _ _ h2) ih
theorem Zip {P:Program} {w:World} {H:Hp} {h:Heap} (ok:HOk P w H h) {ps:D3} {kvs:List (DZ×V)} (hp:PtV H ps kvs):∀ {its:D1},Vals ps its->∃ xs:List TK,KT H (kvs.map ci) xs/\its.length=xs.length /\
  ∀ (i:Nat) (x:TK),xs[i]?=some x->(∃ (p:Addr) (o:Obj) (n:Nat),its[i]?=some (.ref p)/\h.get? p=some o/\o.cls=.type "tuple"/\o.data=.seq #[.ref x.2.1,x.2.2] n)/\(tupleKind (bP P w)).is h x.1 x.2.1:=by
 induction hp with
 | nil=>intro its r; cases r; exact ⟨[],.nil,rfl,λi x q=>by cases q⟩
 | @cons p b k v ps kvs hp hb h2 ih =>
  intro its r
  cases r with
  | cons r1 r2 =>
   cases r1
   obtain ⟨xs,g1,g2,g3⟩:=ih r2
   obtain ⟨_,its2,q1,o,q2,q3,n,q4⟩:=ok p _ hp
   obtain ⟨u1,u2,rfl,x1,x2⟩:=Vals.two q1
   cases x1
   have hb':H b=some (.tup ((k.map (Sum.inl:Int->aL)).map kV)):=by rw [ZdL]; exact hb
   refine ⟨(k.map Sum.inl,b,u2)::xs,.cons ⟨rfl,hb',x2⟩ g1,by rw [Au,Au,g2],λi x q=>?_⟩
   cases i with
   | zero =>
    cases q
    exact ⟨⟨p,o,n,rfl,q2,q3,by rw [q4]⟩,lg ok hb'⟩
   | succ i =>
    rw [A7] at q
    obtain ⟨⟨p',o',n',a1,a2,a3,a4⟩,a5⟩:=g3 i x q
    exact ⟨⟨p',o',n',by rw [A7]; exact a1,a2,a3,a4⟩,a5⟩
noncomputable def nk (kvs:List (DZ×V)):List (DZ×V):=kvs.foldl (λys x=>cZ ys x.1 x.2) []
theorem ZdI {H:Hp}:∀ {kvs:List (DZ×V)} {xs:List TK} {ys:List (DZ×V)} {zs:List TK},KT H (kvs.map ci) xs->KT H (ys.map ci) zs ->
  KT H ((kvs.foldl (λys x=>cZ ys x.1 x.2) ys).map ci) (xs.foldl (λys x=>storedH ys x.1 x.2.1 x.2.2) zs)
 | [],xs,ys,zs,h,r=>by cases h; exact r
 | k::kvs,xs,ys,zs,h,r=>by
  rw [Ax] at h
  cases h with
  | @cons _ x _ xs h1 h2 =>
   obtain ⟨h3,h4,h5⟩:=h1
   rw [BR,BR]
   refine ZdI h2 ?_
   rw [<- pe]
   have e:x.1=k.1.map Sum.inl:=h3.symm
   rw [e]
   exact r.put (k.1.map Sum.inl) h4 h5
noncomputable def rDT:List V->Hp->VK->Prop:=λxs H Q=>∃ l ps kvs,xs=[.ref l]/\H l=some (.lst ps)/\PtV H ps kvs/\∀ (q:Addr) (o:Obj),H q=none->Q (.ref q) (upd H q (.frz o (.dT ((nk kvs).map ci))))
theorem zu {X:Cx} (hu:X.A.units+64 < cLine) (hc:X.calm=true):dL X (.type "dict") rDT:=by
 intro pins s σ H xs us Q I r h
 obtain ⟨l,ps,kvs,rfl,hl,hp,q⟩:=h
 obtain ⟨u,rfl,ru⟩:=eB r
 cases ru
 obtain ⟨z,its,n,rv,h1⟩:=I.hok _ _ hl
 obtain ⟨xs,g1,g2,g3⟩:=Zip I.hok hp rv
 have hbig:=I.big
 have hle:its.length<=sizeLine:=by rw [<- rv.length]; exact z
 refine ZmY (xs:=xs) (by omega) (I.ok.hd hc) (l:=l) (items:=its.toArray) (by rw [AG]; exact hle) h1 rfl rfl rfl (by rw [AG]; exact g2) (λi x hv=>?_) λh3 tk3 hD k3=>?_
 ·obtain ⟨⟨p,o,n',a1,a2,a3,a4⟩,a5⟩:=g3 i x hv
  exact ⟨⟨p,o,n',by rw [List.getElem?_toArray]; exact a1,a2,a3,a4⟩,a5⟩
 ·have kt:KT H ((nk kvs).map ci) (gj xs):=ZdI g1 (ys:=[]) (zs:=[]) .nil
  have hfr:H s.heap.objs.size=none:=I.hok.fresh (Aw _)
  have kt':KT (upd H s.heap.objs.size (.dT ((nk kvs).map ci))) ((nk kvs).map ci) (gj xs):=kt.keeps λb ys e=>by rw [aM (dm e hfr)]; exact e
  have I1:Inv X pins σ (upd H s.heap.objs.size (.dT ((nk kvs).map ci))) { s with heap:=h3,toks:=tk3 }:=by
   refine I.laid (a:=s.heap.objs.size) (t':=tk3) (λc o q=>k3 c o q) (Aw _) ?_
   refine ⟨?_,beq_eq_false_iff_ne.mpr (A6 hbig),gj xs,kt',?_⟩
   ·rw [kt.length]
    exact AL (Zeh xs) (by rw [<- g2]; exact hle)
   ·obtain ⟨o,es,ep,e1,e2,e3,e4,_,e6⟩:=hD
    exact ⟨o,es,ep,e1,e2,e3,e4,e6⟩
  obtain ⟨o,I2⟩:=I1.knownT bY
  rw [Zgp] at I2
  exact ⟨.ref s.heap.objs.size,_,I2,rfl,q _ o hfr⟩
noncomputable def iG:List PyData->Option PyData
 | [.list ds]=>eu [] ds
 | _=>none
theorem ZeN {G:Hp}:∀ {ds:DY} {ps:D3} {ys:List (DZ×V)} {kvs:List (DZ×PyData)} {d:PyData},DnAll G ps ds->KP G ys kvs->eu kvs ds=some d ->
  ∃ xs zs,PtV G ps xs/\KP G (xs.foldl (λys x=>cZ ys x.1 x.2) ys) zs/\zs≠[]/\d=pD zs
 | [],_,ys,kvs,d,h,r,e=>by
  cases h
  unfold eu at e
  split at e
  ·cases e
  ·rename_i hn
   cases e
   exact ⟨[],kvs,.nil,r,λz=>hn (by rw [z]; rfl),rfl⟩
 | x::ds,_,ys,kvs,d,h,r,e=>by
  cases h with
  | cons h1 h2 =>
   unfold eu at e
   split at e
   ·rename_i e0; cases e0
   ·rename_i ks v ps e0
    cases e0
    obtain ⟨ns,hi,e⟩:=DK.mp e
    cases h1 with
    | tup a1 a2 =>
     cases a2 with
     | cons b1 b2 =>
      cases b2 with
      | cons b3 b4 =>
       cases b4
       cases b1 with
       | tup c1 c2 =>
        obtain ⟨e1,_⟩:=c2.ints_inv hi
        rw [e1] at c1
        obtain ⟨xs,zs,g1,g2,g3,g4⟩:=ZeN h2 (r.put ns b3) e
        exact ⟨(ns,_)::xs,zs,.cons a1 c1 g1,g2,g3,g4⟩
   ·cases e
theorem wC:fJ rDT iG:=λPK pa m G H vs ds d Q w hv hd k=>by
 unfold iG at hd
 split at hd
 ·cases hv with
  | cons d1 d2 =>
   cases d2
   cases d1 with
   | lst a1 a2 =>
    obtain ⟨xs,zs,g1,g2,g3,rfl⟩:=ZeN a2 .nil hd
    exact ⟨_,_,xs,rfl,w.sub _ _ a1,g1.sub w.sub,λq o hq=>k.pd g3 w g2 hq o⟩
 ·cases hd
variable {PK:Pk} {X:Cx} {e:Expr}
structure Rws (H G H':Hp) (ps:List Addr) (rows:List DY):Prop where
 len:ps.length=rows.length
 row:∀ (i:Nat) (q:Addr) (r:DY),ps[i]?=some q->rows[i]?=some r->H q=none/\G q=none/\∃ vs,H' q=some (.lst vs)/\DnAll G vs r
theorem Rws.mem {H G H':Hp} {ps:List Addr} {rows:List DY} (h:Rws H G H' ps rows) {q:Addr} (hq:q∈ps):H q=none/\G q=none/\∃ vs,H' q=some (.lst vs):=by
 obtain ⟨i,hi,e⟩:=BJ.mp hq
 have h2:i < rows.length:=by rw [<- h.len]; exact hi
 obtain ⟨a,b,vs,c,_⟩:=h.row i q rows[i] (by rw [As hi,e]) (As h2)
 exact ⟨a,b,vs,c⟩
theorem Rws.step {pa:Addr} {H G H1 G2 H2:Hp} {ps:List Addr} {rows:List DY} (h:Rws H G H1 ps rows) (st:Stp pa G H1 G2 H2) (hp:∃ o,H pa=some o):Rws H G2 H2 ps rows:=by
 refine ⟨h.len,λi q r h1 h2=>?_⟩
 obtain ⟨a,b,vs,c,d⟩:=h.row i q r h1 h2
 have hne:q≠pa:=λe=>by
  obtain ⟨o,z⟩:=hp
  rw [<- e,a] at z; cases z
 refine ⟨a,?_,vs,st.hk _ _ c hne,DnAll.mono st.gs d⟩
 cases e:G2 q with
 | none=>rfl
 | some u =>
  rcases st.gn q u e with z | z | ⟨_,_,z⟩
  ·rw [b] at z; cases z
  ·rw [c] at z; cases z
  ·rw [c] at z; cases z
theorem Stp.old {pa:Addr} {G H G' H':Hp} (st:Stp pa G H G' H') (hp:∃ o,H' pa=some o) {p:Addr} (h:H' p=none):H p=none:=by
 cases e:H p with
 | none=>rfl
 | some u =>
  by_cases hc:p=pa
  ·subst hc
   obtain ⟨o,z⟩:=hp
   rw [h] at z; cases z
  ·rw [st.hk p u e hc] at h; cases h
def An (PK:Pk) (pa:Addr) (m:Nat) (G H:Hp) (rows:List DY) (Q:VK):Prop:=∀ p ps G' H',Stp pa G H G' H'->Wd PK pa m G' H'->H p=none->G' p=none->H' p=some (.lst (ps.map V.ref))->ps.Nodup->p ∉ ps->Rws H G' H' ps rows->Q (.ref p) H'
def Aj (PK:Pk) (i:List Sl->Tr (List DY)):TE:=λσ H Q=>∃ pa D6 H₀ m ρ G,Rl PK pa D6 H₀ m σ ρ G H/\(i ρ).ok m λm' xs=>An PK pa m' G H xs Q
noncomputable def i9 (h:PyData->Tr DY):List PyData->Tr (List DY)
 | []=>.ret []
 | x::xs=>(h x).bind λy=>(i9 h xs).bind λys=>.ret (y::ys)
noncomputable def nS (is:DQ) (n:Nat) (ix:List Nat) (g:DV) (el:DQ):List Sl->Tr (List DY):=λρ =>
 (is ρ).bind λxs=>if small xs.length=true then i9 (λx=>(Tr.of (g x (blk n ix ρ))).bind el) xs else .fail
variable {is:DQ} {i:DQ}
theorem Zj1 {n:Nat} {ix:List Nat} {g:DV} (hn:fg n g):∀ σ H Q,Aj PK (nS is n ix g i) σ H Q->iP (cX PK is) n ix (λ_=>dB PK g) (λ_=>eG PK i) σ H Q:=by
 rintro σ H Q ⟨pa,D6,H₀,m,ρ,G,R,z⟩
 refine ⟨pa,D6,H₀,m,ρ,G,R,Tr.ok_mono (Tr.ok_bind.mp z) λm1 xs k J G1 H1 s1 w1 jo=>λB=>?_⟩
 obtain ⟨hs,k⟩:=gf k
 have hs:xs.length<=sizeLine:=of_decide_eq_true hs
 let el:PyData->Tr DY:=λx=>(Tr.of (g x (blk n ix ρ))).bind i
 let W:Nat->Nat->St->List V->Hp->Prop:=λk mm τ ys H2=>mm=xs.length - k/\k<=xs.length/\ys.length=k/\∃ m G2 ps rows,Sub G1 G2/\Stp pa G H G2 H2/\Rl PK pa D6 H₀ m τ (blk n ix ρ) G2 H2 /\
  ys=ps.map V.ref/\ps.Nodup/\Rws H G2 H2 ps rows/\(i9 el (xs.drop k)).ok m λm' zs=>An PK pa m' G H (rows++zs) Q
 refine ⟨W,⟨xs.length,rfl,Bg _,rfl,m1,G1,[],[],.refl,s1,(R.step s1 w1).blk n ix,rfl,DD,⟨rfl,λi q r h=>by cases h⟩,k⟩,?_⟩
 rintro k mm τ ys H2 ⟨rfl,hk,hy,m2,G2,ps,rows,sb,st2,R2,rfl,nd,rw0,k2⟩
 obtain ⟨j1,j2⟩:=jo m2 G2 H2 sb R2.wd
 by_cases hlt:k < xs.length
 ·have hx:xs[k]?=some xs[k]:=by simp [hlt]
  obtain ⟨jg,jy⟩:=j1 k _ hx
  refine .inr ⟨jg,by omega,λx H3 y=>?_⟩
  obtain ⟨G3,s3,w3,d3⟩:=jy x H3 y
  rw [AZ hlt] at k2
  unfold i9 at k2
  rw [Tr.ok_bind,Tr.ok_bind] at k2
  obtain ⟨ρ3,hg3,k3⟩:=Tr.ok_of k2
  refine ⟨pa,D6,H₀,m2,_,G3,_,ρ3,R2.step s3 w3,d3,hg3,λτ4 R4=>?_⟩
  refine ⟨pa,D6,H₀,m2,ρ3,G3,R4,Tr.ok_mono k3 λm5 yd k5=>?_⟩
  intro p vs G5 H5 s5 w5 hp gp hv d5
  have s35:=s3.trans s5 w3.some
  have r3:=rw0.step s3 R.wd.some
  have hH:H p=none:=(st2.trans s3 R2.wd.some).old w3.some hp
  have hnp:p ∉ ps:=λhq=>by
   obtain ⟨_,_,us,c⟩:=r3.mem hq
   rw [hp] at c; cases c
  obtain ⟨pl,pk⟩:=hn _ _ _ hg3
  have r5:=r3.step s5 R.wd.some
  refine ⟨xs.length - (k+1),by omega,rfl,hlt,by rw [Av,hy]; rfl,m5,G5,ps++[p],rows++[yd],sb.trans s35.gs,st2.trans s35 R2.wd.some,?_,by rw [Bu]; rfl,?_,⟨by rw [Av,Av,r5.len]; rfl,λi q r h1 h2=>?_⟩,?_⟩
  ·refine (R4.step s5 w5).weak pl λq sl hq=>?_
   by_cases hqn:q < n
   ·left
    unfold blk at hq
    rw [AW (by simpa using hqn),Bb,if_pos hqn] at hq
    cases hq
    rfl
   ·right
    rw [pk q (Cb hqn)]
    exact hq
  ·rw [Dm]
   exact ⟨nd,by simp,λa ha b hb e=>by
    rw [Ce] at hb
    subst hb
    subst e
    exact hnp ha⟩
  ·by_cases hi:i < ps.length
   ·rw [AW hi] at h1
    rw [AW (by rw [<- r5.len]; exact hi)] at h2
    exact r5.row i q r h1 h2
   ·have hi':i=ps.length:=by
     have:=(Ay.mp h1).1
     rw [Av] at this
     have:i < ps.length+1:=this
     omega
    subst hi'
    rw [A5 (Aw _),Du] at h1
    rw [r5.len,A5 (Aw _),Du] at h2
    cases h1
    cases h2
    exact ⟨hH,gp,vs,hv,d5⟩
  ·refine Tr.ok_mono (Tr.ok_bind.mp k5) λm6 zs k6=>?_
   rw [Bh]
   exact k6
 ·have e:k=xs.length:=by omega
  subst e
  refine .inl ⟨j2,λp v H' hp ev eH=>?_⟩
  subst ev eH
  rw [Br] at k2
  have k2':An PK pa m2 G H (rows++[]) Q:=k2
  rw [A4] at k2'
  obtain ⟨w3,s3⟩:=R2.wd.own (o:=.lst (ps.map V.ref)) hp
  refine k2' p ps G2 _ (st2.trans s3 R2.wd.some) w3 (st2.old R2.wd.some hp) (R2.wd.gnone hp) bY nd (λhq=>?_) (rw0.step s3 R.wd.some)
  obtain ⟨_,_,us,c⟩:=rw0.mem hq
  rw [hp] at c; cases c
variable {PK:Pk} {X:Cx} {e:Expr}
theorem Zc1 {α:Type}:∀ {l:List α} {i j:Nat},l.Nodup->(hi:i < l.length)->(hj:j < l.length)->l[i]=l[j]->i=j
 | _::_,0,0,_,_,_,_=>rfl
 | x::l,0,j+1,h,_,hj,e=>by
  have e:x=l[j]'(Cy hj):=e
  exact absurd (by rw [e]; exact AX _) (BQ.mp h).1
 | x::l,i+1,0,h,hi,_,e=>by
  have e:l[i]'(Cy hi)=x:=e
  exact absurd (by rw [<- e]; exact AX _) (BQ.mp h).1
 | x::l,i+1,j+1,h,hi,hj,e=>congrArg (·+1) (Zc1 (BQ.mp h).2 (Cy hi) (Cy hj) e)
theorem Rl.rows {pa:Addr} {D6 H₀ G H G' H' H4:Hp} {m m1 m4:Nat} {σ:St} {ρ:D5} {p:Addr} {ps:List Addr} {rows0 rows:List DY} (R:Rl PK pa D6 H₀ m σ ρ G H) (s1:Stp pa G H G' H') (w1:Wd PK pa m1 G' H')
  (hp:H p=none) (gp:G' p=none) (r0:Rws H G' H' ps rows0)
  (hk:∀ b o,H' b=some o->b≠pa->b ∉ ps->H4 b=some o) (h4:H4 p=some (.lst (ps.map V.ref)))
  (pen:∃ o,H4 pa=some o/\PK.is o G' m4) (len:ps.length=rows.length)
  (row:∀ (i:Nat) (q:Addr) (r:DY),ps[i]?=some q->rows[i]?=some r->∃ vs,H4 q=some (.lst vs)/\DnAll G' vs r) (k:Nat) :
  ∃ Gz,Sub G' Gz/\Rl PK pa D6 H₀ m4 (σ.set k (some (.ref p))) (ρ.set k (.d (.list (rows.map PyData.list)))) Gz H4:=by
 classical
 let Gz:Hp:=λb=>if b=p\/b∈ps then H4 b else G' b
 have yes:∀ {b},(b=p\/b∈ps)->Gz b=H4 b:=λh=>if_pos h
 have no:∀ {b},¬ (b=p\/b∈ps)->Gz b=G' b:=λh=>if_neg h
 have fresh:∀ {b},(b=p\/b∈ps)->H b=none/\G' b=none:=λ{b} h=>by
  rcases h with rfl | h
  ·exact ⟨hp,gp⟩
  ·exact ⟨(r0.mem h).1,(r0.mem h).2.1⟩
 have hpa:¬ (pa=p\/pa∈ps):=λh=>by
  obtain ⟨o,z⟩:=R.wd.some
  rw [(fresh h).1] at z; cases z
 have sb:Sub G' Gz:=λb o h=>by
  rw [no λz=>by rw [(fresh z).2] at h; cases h]
  exact h
 have keep:∀ b o,H' b=some o->b≠pa->¬ (b=p\/b∈ps)->H4 b=some o:=λb o h1 h2 h3=>hk b o h1 h2 λz=>h3 (.inr z)
 have wz:Wd PK pa m4 Gz H4:=by
  refine ⟨λb o h=>?_,by rw [no hpa]; exact w1.gpa,?_⟩
  ·by_cases hb:b=p\/b∈ps
   ·rw [yes hb] at h; exact h
   ·rw [no hb] at h
    exact keep b o (w1.sub b o h) (λz=>by subst z; rw [w1.gpa] at h; cases h) hb
  ·obtain ⟨o,h1,h2⟩:=pen
   exact ⟨o,h1,PK.mono sb h2⟩
 have st:=R.st.trans s1 R.wd.some
 have stz:Stp pa D6 H₀ Gz H4:=by
  refine ⟨λb o h=>sb b o (st.gs b o h),λb o h=>?_,λb o h hb=>?_⟩
  ·by_cases hq:b=p\/b∈ps
   ·exact .inr (.inl (R.h0 (fresh hq).1))
   ·rw [no hq] at h; exact st.gn b o h
  ·refine keep b o (st.hk b o h hb) hb λz=>?_
   rw [R.h0 (fresh z).1] at h; cases h
 have Rz:Rl PK pa D6 H₀ m4 σ ρ Gz H4:=by
  refine ⟨wz,stz,R.p0,λi s h=>?_,R.len,R.dj,R.dj2⟩
  obtain ⟨o,h1,h2⟩:=R.sl i s h
  refine ⟨o,h1,?_⟩
  cases h2 with
  | un=>exact .un
  | d z=>exact .d (z.mono λb o h=>sb b o (s1.gs b o h))
  | pen=>exact .pen
  | fn=>exact .fn
  | @dic q ks kvs a1 a2 a3 a4 =>
   have hq:¬ (q=p\/q∈ps):=λz=>by rw [(fresh z).1] at a1; cases a1
   have hne:q≠pa:=λe=>by
    obtain ⟨u,hu⟩:=R.p0
    rw [<- e,a3] at hu; cases hu
   refine .dic (keep q _ (s1.hk q _ a1 hne) hne hq) ?_ a3 (a4.mono λb o h=>sb b o (s1.gs b o h))
   rw [no hq]
   cases e:G' q with
   | none=>rfl
   | some u =>
    rcases s1.gn q u e with z | z | ⟨_,_,z⟩
    ·rw [a2] at z; cases z
    ·rw [a1] at z; cases z
    ·rw [a1] at z; cases z
  | @dip q ks kvs a1 a2 a3 a4 =>
   have hq:¬ (q=p\/q∈ps):=λz=>by rw [(fresh z).1] at a1; cases a1
   have hne:q≠pa:=λe=>by
    obtain ⟨u,hu⟩:=R.p0
    rw [<- e,a3] at hu; cases hu
   refine .dip (keep q _ (s1.hk q _ a1 hne) hne hq) ?_ a3 (a4.mono λb o h=>sb b o (s1.gs b o h))
   rw [no hq]
   cases e:G' q with
   | none=>rfl
   | some u =>
    rcases s1.gn q u e with z | z | ⟨_,_,z⟩
    ·rw [a2] at z; cases z
    ·rw [a1] at z; cases z
    ·rw [a1] at z; cases z
  | @own q vs xs a1 a2 a3 a4 =>
   have hq:¬ (q=p\/q∈ps):=λz=>by rw [(fresh z).1] at a1; cases a1
   have hne:q≠pa:=λe=>by
    obtain ⟨u,hu⟩:=R.p0
    rw [<- e,a3] at hu; cases hu
   refine .own (keep q _ (s1.hk q _ a1 hne) hne hq) ?_ a3 (DnAll.mono (λb o h=>sb b o (s1.gs b o h)) a4)
   rw [no hq]
   cases e:G' q with
   | none=>rfl
   | some u =>
    rcases s1.gn q u e with z | z | ⟨_,_,z⟩
    ·rw [a2] at z; cases z
    ·rw [a1] at z; cases z
    ·rw [a1] at z; cases z
 refine ⟨Gz,sb,Rz.set (.lst (by rw [yes (.inl rfl)]; exact h4) ?_) k⟩
 clear Rz stz st wz
 have yes':∀ {b},b∈ps->Gz b=H4 b:=λh=>yes (.inr h)
 clear_value Gz
 clear hk h4 no fresh keep r0
 induction ps generalizing rows with
 | nil =>
  cases rows with
  | nil=>exact .nil
  | cons _ _=>cases len
 | cons q qs ih =>
  cases rows with
  | nil=>cases len
  | cons r rs =>
   obtain ⟨vs,e1,e2⟩:=row 0 q r rfl rfl
   refine .cons (.lst (by rw [yes' (AB ..)]; exact e1) (DnAll.mono sb e2)) ?_
   exact ih (BV len) (λi q r h1 h2=>row (i+1) q r h1 h2) (λh=>yes (h.imp id (Az _))) (λh=>hpa (h.imp id (Az _))) (λh=>yes' (Az _ h))
noncomputable def jL (rows:List DY) (a b x:PyData):Option (List DY):=match a,b with
 | .int a,.int b=>(cy rows.length a).bind λn=>(rows[n]?).bind λr=>(cy r.length b).bind λl=>if gA x=true then some (rows.set n (r.set l x)) else none
 | _,_=>none
noncomputable def mo (rows:List DY):Sl:=.d (.list (rows.map PyData.list))
noncomputable def z9 (k:Nat) (A:List Sl->Tr (List DY)) (v i j:DP) (t:DS):DS:=λρ=>(A ρ).bind λrows =>
 if k < ρ.length then (v (ρ.set k (mo rows))).bind λx=>(i (ρ.set k (mo rows))).bind λa=>(j (ρ.set k (mo rows))).bind λb=>(Tr.of (jL rows a b x)).bind λrows'=>t (ρ.set k (mo rows')) else .fail
variable {A:List Sl->Tr (List DY)} {v i j:DP} {t:DS} {st3 st4:Stmt} {rest:List Stmt}
theorem Znt {k:Nat} (L:PkLow PK) (h3:PS X st3 (dM (Aj PK A) (dZ k))) (h4:PS X st4 (dM (TAe PK v) (yQ (kr (xG X.K) (gI k) (TAe PK i)) (TAe PK j) xE)))
  (hr:PSs X rest (bH PK t)):PSs X (st3::st4::rest) (bH PK (z9 k A v i j t)):=(fr h3 (fr h4 hr)).imp λD σ H hz0=>by
 obtain ⟨pa,D6,H₀,m,ρ,G,R,z⟩:=hz0
 refine ⟨pa,D6,H₀,m,ρ,G,R,Tr.ok_mono (Tr.ok_bind.mp z) λm1 rows z1=>?_⟩
 intro p ps G1 H1 s1 w1 hp gp h1 nd npp r1
 have hl:k < ρ.length:=by
  by_cases hl:k < ρ.length
  ·exact hl
  ·rw [if_neg hl] at z1; exact z1.elim
 rw [if_pos hl] at z1
 have rowsH:∀ (i:Nat) (q:Addr) (r:DY),ps[i]?=some q->rows[i]?=some r->∃ vs,H1 q=some (.lst vs)/\DnAll G1 vs r:=λi q r e1 e2=>(r1.row i q r e1 e2).2.2
 obtain ⟨Gf,sf,Rf⟩:=R.rows s1 w1 hp gp r1 (λb o h _ _=>h) h1 w1.pen r1.len rowsH k
 have hnpa:p≠pa:=λz=>by
  obtain ⟨o,y⟩:=R.wd.some
  rw [<- z,hp] at y; cases y
 show TAe PK v (σ.set k (some (.ref p))) H1 _
 have hσ:(σ.set k (some (V.ref p)))[k]?=some (some (.ref p)):=AT (by rw [<- R.len]; exact hl)
 refine TAe.then Rf z1 λm2 x u G2 H2 s2 w2 R2 d2 z2=>?_
 refine ⟨.ref p,hσ,?_⟩
 refine TAe.then R2 z2 λm3 a ua G3 H3 s3 w3 R3 d3 z3=>?_
 have s13:=s2.trans s3 w2.some
 have k3:∀ b o,H1 b=some o->b≠pa->H3 b=some o:=s13.hk
 -- what is put
 have z3':=Tr.ok_bind.mp z3
 have hmid:∃ aI n q,a=.int aI/\cy rows.length aI=some n/\ps[n]?=some q:=by
  have:∃ (m':Nat) (b:PyData) (rows':_),jL rows a b x=some rows':=by
   clear z z1 z2 z3
   generalize hT:j (ρ.set k (mo rows))=T at z3'
   clear hT
   have key:∀ (T:Tr PyData) (mm:Nat) (Q:Nat->PyData->Prop),T.ok mm Q->∃ m' b,Q m' b:=by
    intro T
    induction T with
    | ret b=>intro mm Q h; exact ⟨_,_,h⟩
    | draw n kk ih=>intro mm Q h; exact ih 0 _ _ (h.2.2.2 0 (B0 _) h.2.1)
    | fail=>intro mm Q h; exact h.elim
   obtain ⟨m',b,hb⟩:=key T _ _ z3'
   rw [Tr.ok_bind] at hb
   obtain ⟨rows',hr,_⟩:=Tr.ok_of hb
   exact ⟨m',b,rows',hr⟩
  obtain ⟨_,b,rows',hr⟩:=this
  unfold jL at hr
  split at hr
  ·rename_i aI bI
   cases hn:cy rows.length aI with
   | none=>rw [hn] at hr; cases hr
   | some n =>
    rw [hn] at hr
    have hlt:=(qr hn).2.1
    exact ⟨aI,n,ps[n]'(by rw [r1.len]; exact hlt),rfl,hn,As _⟩
  ·cases hr
 obtain ⟨aI,n,q,rfl,hn,hq⟩:=hmid
 have hqm:q∈ps:=Bj hq
 have hqpa:q≠pa:=λz=>by
  obtain ⟨o,y⟩:=R.wd.some
  rw [<- z,(r1.mem hqm).1] at y; cases y
 cases d3
 refine ⟨p,ps.map V.ref,aI,.ref q,rfl,rfl,SqL.of (k3 _ _ h1 hnpa),?_,?_⟩
 ·unfold bG
  rw [At,r1.len,hn]
  show (ps.map V.ref)[n]?=_
  rw [AM,hq]; rfl
 refine TAe.then R3 z3 λm4 b ub G4 H4 s4 w4 R4 d4 z4=>?_
 have s14:=s13.trans s4 w3.some
 rw [Tr.ok_bind] at z4
 obtain ⟨rows',hput,z4⟩:=Tr.ok_of z4
 have hlt:=(qr hn).2.1
 obtain ⟨_,_,vs,hvs,dvs⟩:=r1.row n q rows[n] hq (As hlt)
 unfold jL at hput
 cases d4 with
 | int bI =>
  have e0:((cy rows.length aI).bind λn=>(rows[n]?).bind λr=>(cy r.length bI).bind λl=>if gA x=true then some (rows.set n (r.set l x)) else none)=some rows':=hput
  rw [hn] at e0
  have e1:((rows[n]?).bind λr=>(cy r.length bI).bind λl=>if gA x=true then some (rows.set n (r.set l x)) else none)=some rows':=e0
  rw [As hlt] at e1
  have e2:((cy rows[n].length bI).bind λl=>if gA x=true then some (rows.set n (rows[n].set l x)) else none)=some rows':=e1
  cases hb:cy rows[n].length bI with
  | none=>rw [hb] at e2; cases e2
  | some l =>
   rw [hb] at e2
   have e3:(if gA x=true then some (rows.set n (rows[n].set l x)) else none)=some rows':=e2
   have hf:gA x=true:=by
    by_cases hf:gA x=true
    ·exact hf
    ·rw [if_neg hf] at e3; cases e3
   rw [if_pos hf] at e3
   cases e3
   have hv4:H4 q=some (.lst vs):=s14.hk q _ hvs hqpa
   refine ⟨q,vs,bI,l,rfl,rfl,hv4,by rw [dvs.length]; exact hb,?_⟩
   obtain ⟨o1,e1',p1⟩:=w1.pen
   obtain ⟨o4,e4',p4⟩:=w4.pen
   obtain ⟨Gz,sz,Rz⟩:=R.rows (H4:=upd H4 q (.lst (vs.set l u))) (m4:=m4) (rows:=rows.set n (rows[n].set l x)) s1 w1 hp gp r1
    (λb o h hb hbp=>by rw [aM (λz=>hbp (by rw [z]; exact hqm))]; exact s14.hk b o h hb)
    (by rw [aM (λz=>npp (by rw [z]; exact hqm))]; exact s14.hk _ _ h1 hnpa)
    ⟨o4,by rw [aM (Ne.symm hqpa)]; exact e4',L.low p1 (sf.trans s14.gs) p4⟩
    (by rw [A2]; exact r1.len)
    (λi q' r h1 h2=>by
     by_cases hi:i=n
     ·subst hi
      rw [hq] at h1
      cases h1
      rw [AT hlt] at h2
      cases h2
      exact ⟨_,bY,dvs.set l (Dn.flat_any d2 hf)⟩
     ·rw [AN (Ne.symm hi)] at h2
      have hne:q'≠q:=λz=>by
       subst z
       obtain ⟨b1,b2⟩:=Ay.mp h1
       obtain ⟨c1,c2⟩:=Ay.mp hq
       exact hi (Zc1 nd b1 c1 (b2.trans c2.symm))
      obtain ⟨us,y1,y2⟩:=rowsH i q' r h1 h2
      refine ⟨us,?_,y2⟩
      rw [aM hne]
      exact s14.hk q' _ y1 λz=>by
       obtain ⟨o,y⟩:=R.wd.some
       rw [<- z,(r1.mem (Bj h1)).1] at y; cases y) k
   exact ⟨pa,D6,H₀,m4,_,Gz,Rz,Tr.ok_mono z4 λ_ _ k'=>Ko.later k' (s1.gs.trans sz)⟩
 | _=>cases hput
theorem ZnA {st:Stmt} {is el:DQ} {n k:Nat} {ix:List Nat} {g:DV} (h:PS X st (dM (iP (cX PK is) n ix (λ_=>dB PK g) (λ_=>eG PK el)) (dZ k))) (hn:fg n g):PS X st (dM (Aj PK (nS is n ix g el)) (dZ k)) :=
 h.imp λD σ H z=>Zj1 hn σ H _ z
variable {X:Cx} {i j:DP} {ρ:D5}
variable {X:Cx} {i j:DP} {ρ:D5}
noncomputable def Zcc:R2:=λx y H Q=>∃ p q xs,x=.ref p/\y=.ref q/\H p=some (.lst xs)/\H q=some (.lst [])/\Q (.bl (!xs.isEmpty)) H
theorem ZcV {k:Nat} (hr:Room k X.A):OpR X (compareOp .NotEq) Zcc:=by
 intro pins s σ H x y v u Q I rx ry h
 obtain ⟨p,q,xs,rfl,rfl,h1,h2,z⟩:=h
 cases rx
 cases ry
 obtain ⟨its,r,pl,hz⟩:=I.list (SqL.of h1)
 obtain ⟨its2,r2,pl2,hz2⟩:=I.list (SqL.of h2)
 have hu:X.A.units < cLine:=by have:=hr.un; omega
 cases r2
 cases r with
 | nil =>
  exact SeqAt.RcNeAt.lists (e:=λ_=>true) pl.isList pl2.isList rfl hu (λj h1=>absurd h1 (by simp)) X.prog X.w X.xe _ ⟨.bl _,H,I,rfl,z⟩
 | cons a b =>
  exact SeqAt.RcNeAt.lists_lengths pl.isList pl2.isList (by simp) hu X.prog X.w X.xe _ ⟨.bl _,H,I,rfl,z⟩
noncomputable def kL:DW
 | .list xs,.list []=>some (.bool (!xs.isEmpty))
 | _,_=>none
theorem Zah:cN Zcc kL:=λPK pa m G H x y dx dy dz Q w hx hy hz k=>by
 unfold kL at hz
 split at hz
 ·cases hz
  cases hx with
  | lst a1 a2 =>
   cases hy with
   | lst b1 b2 =>
    cases b2
    exact ⟨_,_,_,rfl,rfl,w.sub _ _ a1,w.sub _ _ b1,by rw [a2.isEmpty]; exact k.here w (.bl _)⟩
 ·cases hz
theorem Zen (xs:DY):aU kL (.list xs) (.list [])=.ret (.bool (!xs.isEmpty)):=rfl
variable {ρ:D5} {s:DS} {i j kx:DP} {is is1:DQ} {k n a b:Nat} {ix:List Nat} {xs ys:DY}
theorem e9 {α:Type} {h:PyData->Tr PyData} {f g:α->PyData}:∀ {l:List α},(∀ x∈l,h (f x)=.ret (g x))->bJ h (l.map f)=.ret (l.map g)
 | [],_=>rfl
 | x::l,e=>by
  rw [Ax,bJ,e x (AB ..),Tr.ret_bind,e9 λy hy=>e y (Az _ hy)]
  rfl
theorem Zdw {α:Type} {el:DP} {x:PyData} {f g:α->PyData} {l:List α} (h1:is1 (ρ.set a (.d x))=.ret (l.map f)) (h2:l.length<=100) (h3:∀ y∈l,el ((ρ.set a (.d x)).set b (.d (f y)))=.ret (g y)):jh a is1 b el ρ x=.ret (l.map g):=by
 unfold jh
 rw [h1,Tr.ret_bind,if_pos (decide_eq_true (by rw [At]; exact h2))]
 exact e9 h3
theorem Zde {α:Type} {h:PyData->Tr DY} {f:α->PyData} {g:α->List PyData}:∀ {l:List α},(∀ x∈l,h (f x)=.ret (g x))->i8 h (l.map f)=.ret (l.flatMap g)
 | [],_=>rfl
 | x::l,e=>by
  rw [Ax,i8,e x (AB ..),Tr.ret_bind,Zde λy hy=>e y (Az _ hy)]
  rfl
theorem Zdv {α:Type} {el:DP} {f:α->PyData} {g:α->List PyData} {l:List α} (h1:is ρ=.ret (l.map f)) (h2:l.length<=100) (h3:∀ x∈l,jh a is1 b el (blk n ix ρ) (f x)=.ret (g x)):lO is n ix a is1 b el ρ=.ret (l.flatMap g):=by
 unfold lO
 rw [h1,Tr.ret_bind,if_pos (decide_eq_true (by rw [At]; exact h2))]
 exact Zde h3
noncomputable def dG (p:DZ×PyData):PyData:=.tuple [.tuple (p.1.map PyData.int),p.2]
theorem Zcz {kvs:List (DZ×PyData)} {k:DZ} {v:PyData} (h:k ∉ kvs.map (·.1)):ic kvs k v=kvs++[(k,v)]:=by
 unfold ic
 rw [if_neg]
 intro e
 obtain ⟨p,hp,e⟩:=DA.mp e
 exact h (by rw [<- of_decide_eq_true e]; exact List.mem_map_of_mem hp)
theorem zh:∀ {l kvs:List (DZ×PyData)},kvs++l≠[]->((kvs++l).map (·.1)).Nodup->eu kvs (l.map dG)=some (pD (kvs++l))
 | [],kvs,h,_=>by
  rw [A4] at h ⊢
  unfold eu
  rw [BO]
  dsimp only
  rw [if_neg]
  intro e
  exact h (Dx.mp e)
 | p::l,kvs,h,nd=>by
  rw [Ax]
  unfold dG eu
  rw [ints?_map]
  show eu (ic kvs p.1 p.2) (l.map dG)=_
  have hn:p.1 ∉ kvs.map (·.1):=λz=>by
   rw [Bu,Dm] at nd
   exact nd.2.2 _ z _ (by rw [Ax]; exact AB ..) rfl
  rw [Zcz hn]
  have e:kvs++[(p.1,p.2)]++l=kvs++p::l:=by rw [Bh]; rfl
  rw [zh (l:=l) (kvs:=kvs++[(p.1,p.2)]) (by rw [e]; exact h) (by rw [e]; exact nd),e]
theorem zm {α:Type} {g:DV} {f:α->PyData} {kv:α->List Int×PyData} {l:List α} (h1:is ρ=.ret (l.map f)) (h2:l.length<=10000) (h0:l≠[]) (nd:(l.map λx=>(kv x).1).Nodup)
  (h3:∀ x∈l,(Tr.of (g (f x) (blk n ix ρ))).bind (iE kx i)=.ret (dG (kv x))):jw is n ix g kx i ρ=.ret (pD (l.map kv)):=by
 unfold jw
 rw [h1,Tr.ret_bind,if_pos (bW (by rw [At]; exact h2)),e9 (g:=λx=>dG (kv x)) h3,Tr.ret_bind]
 have e:l.map (λx=>dG (kv x))=(l.map kv).map dG:=by rw [AS]; rfl
 rw [e,zh (kvs:=[])]
 ·rfl
 ·intro z
  exact h0 (B8.mp z)
 ·rw [Cf,AS]
  exact nd
theorem ze {τ:D5} {ns:DZ} {v:PyData} (h1:kx τ=.ret (.tuple (ns.map PyData.int))) (h2:i τ=.ret v):iE kx i τ=.ret (dG (ns,v)):=by
 unfold iE
 rw [h1,Tr.ret_bind]
 unfold zf
 dsimp only
 rw [ints?_map]
 dsimp only
 rw [h2]
 rfl
theorem yX {l:List (DZ×PyData)} (h0:l≠[]) (nd:(l.map (·.1)).Nodup):bR iG [.list (l.map dG)]=.ret (pD l):=by
 show Tr.of (eu [] (l.map dG))=_
 rw [zh (kvs:=[]) h0 nd]
 rfl
theorem Zd5:∀ {l:List (DZ×PyData)} {k:DZ} {v:PyData},(l.map (·.1)).Nodup->(k,v)∈l->fS (l.map λkv=>(PyData.tuple (kv.1.map PyData.int),kv.2)) k=some v
 | [],_,_,_,h=>by cases h
 | p::l,k,v,nd,h=>by
  rw [Ax] at nd ⊢
  unfold fS
  rw [BA]
  dsimp only
  rw [ints?_map]
  rcases AO.mp h with e | h
  ·subst e
   rw [decide_eq_true rfl]
   rfl
  ·have hn:p.1≠k:=λe=>by
    rw [<- e] at h
    exact (BQ.mp nd).1 (AV.mpr ⟨_,h,rfl⟩)
   rw [decide_eq_false λz=>hn (A9 z)]
   exact Zd5 (BQ.mp nd).2 h
theorem Zlh {l:List (DZ×PyData)} {k:DZ} {v:PyData} (nd:(l.map (·.1)).Nodup) (h:(k,v)∈l):aU eO (pD l) (.tuple (k.map PyData.int))=.ret v:=by
 show Tr.of ((ints? (k.map PyData.int)).bind (fS _))=_
 rw [ints?_map]
 show Tr.of (fS _ k)=_
 rw [Zd5 nd h]
 rfl
theorem yV:vS k ρ=.ret (.next (ρ.set k (.dip []))):=rfl
theorem ZcD {nn:DP} {l:List (DZ×PyData)} {x:PyData} {ns:DZ} (h1:i ρ=.ret x) (h2:ρ[k]?=some (.dip l)) (h3:nn ρ=.ret (.tuple (ns.map PyData.int))) (h4:l.length<=5000) (h5:io k ρ=true) (h6:ns ∉ l.map (·.1)) :
  lN k nn i ρ=.ret (.next (ρ.set k (.dip (l++[(ns,x)])))):=by
 unfold lN
 rw [h1,Tr.ret_bind,h2]
 dsimp only
 rw [h3,Tr.ret_bind]
 dsimp only
 rw [ints?_map]
 dsimp only
 rw [if_pos (by rw [bW (by omega),h5]; rfl),Zcz h6]
theorem Zeo {l:List (DZ×PyData)} (h1:ρ[k]?=some (.dip l)) (h2:io k ρ=true) (h3:l≠[]):lP k s ρ=s (ρ.set k (.d (pD l))):=by
 unfold lP yR
 rw [h1]
 dsimp only
 rw [if_pos]
 rw [h2]
 cases l with
 | nil=>exact absurd rfl h3
 | cons _ _=>rfl
theorem ZdJ:∀ l:List (DZ×PyData),gx (l.map λkv=>(PyData.tuple (kv.1.map PyData.int),kv.2))=some (l.map (·.1))
 | []=>rfl
 | p::l=>by
  rw [Ax]
  unfold gx
  rw [ints?_map,ZdJ l]
  rfl
theorem Zk5 {l:List (DZ×PyData)} (h:l≠[]) (h1:l.length < 64) (h2:gc (l.map (·.1))=true):nA hV [pD l]=.ret (l.map λkv=>PyData.tuple (kv.1.map PyData.int)):=by
 cases l with
 | nil=>exact absurd rfl h
 | cons p l =>
  show Tr.of ((gx ((p::l).map λkv=>(PyData.tuple (kv.1.map PyData.int),kv.2))).bind _)=_
  rw [ZdJ]
  dsimp only [CJ]
  rw [if_pos (by rw [h2,decide_eq_true (by rw [At]; exact h1)]; rfl),Tr.of_some,AS]
  rfl
theorem Zld {ps:List Pr} (h:ps≠[]):bR pX [.list (ps.map eF)]=.ret (eF (fV ps)):=by
 show Tr.of ((prs? (ps.map eF)).bind _)=_
 rw [prs?_map]
 dsimp only [CJ]
 rw [if_neg λe=>h (Dx.mp e)]
 rfl
theorem Zno:∀ {ps:List Pr},ps≠[]->fV ps∈ps
 | [],h=>absurd rfl h
 | x::r,_=>by
  have key:∀ (r:List Pr) (b:Pr),r.foldl (λb y=>if HT.cx y b=true then y else b) b=b\/r.foldl (λb y=>if HT.cx y b=true then y else b) b∈r:=by
   intro r
   induction r with
   | nil=>intro b; exact .inl rfl
   | cons y r ih =>
    intro b
    rw [BR]
    rcases ih (if HT.cx y b=true then y else b) with e | e
    ·rw [e]
     split
     ·exact .inr (AB ..)
     ·exact .inl rfl
    ·exact .inr (Az _ e)
  show r.foldl (λb y=>if HT.cx y b=true then y else b) x∈x::r
  rcases key r x with e | e
  ·rw [e]; exact AB ..
  ·exact Az _ e
end L2
namespace Tw
open L2
noncomputable abbrev Pt:=Int×Int
noncomputable def kS (p:Pt):DZ:=[p.1,p.2]
noncomputable def aq (p:Pt):PyData:=.tuple [.int p.1,.int p.2]
def mz (p q:Pt):Prop:=p.1 < q.1\/p.1=q.1/\p.2 < q.2
noncomputable def cP (a b:DZ):List Pt:=a.flatMap λx=>b.map λy=>(x,y)
theorem pw {a b:DZ} {p:Pt}:p∈cP a b ↔ p.1∈a/\p.2∈b:=by
 unfold cP
 rw [List.mem_flatMap]
 constructor
 ·rintro ⟨x,hx,h⟩
  obtain ⟨y,hy,rfl⟩:=AV.mp h
  exact ⟨hx,hy⟩
 ·rintro ⟨h1,h2⟩
  exact ⟨p.1,h1,AV.mpr ⟨p.2,h2,rfl⟩⟩
theorem Ziw {a b:DZ} (ha:a.Pairwise (· < ·)) (hb:b.Pairwise (· < ·)):(cP a b).Pairwise mz:=by
 unfold cP
 rw [List.pairwise_flatMap]
 refine ⟨λx _=>?_,ha.imp λ{x y} hxy p hp q hq=>?_⟩
 ·rw [Dl]
  exact hb.imp λh=>.inr ⟨rfl,h⟩
 ·obtain ⟨u,_,rfl⟩:=AV.mp hp
  obtain ⟨v,_,rfl⟩:=AV.mp hq
  exact .inl hxy
theorem Zb2 (lo:Int) (n:Nat):(aQ lo n).Pairwise (· < ·):=by
 unfold aQ
 rw [Dl]
 exact List.pairwise_lt_range.imp λh=>by omega
theorem Zix (a b:DZ) (u v:Int->Bool):(cP a b).filter (λq=>u q.1 && v q.2)=cP (a.filter u) (b.filter v):=by
 have row:∀ (x:Int),(b.map λy=>(x,y)).filter (λq:Pt=>u q.1 && v q.2)=if u x=true then (b.filter v).map λy=>(x,y) else []:=λx=>by
  rw [List.filter_map]
  cases hu:u x with
  | true =>
   rw [if_pos rfl]
   congr 2
   funext y
   show (u x && v y)=v y
   rw [hu]; rfl
  | false =>
   rw [if_neg (by decide)]
   have:∀ l:DZ,l.filter ((λq:Pt=>u q.1 && v q.2) ∘ λy=>(x,y))=[]:=λl=>by
    induction l with
    | nil=>rfl
    | cons y l ih =>
     rw [Dy,if_neg]
     ·exact ih
     ·show ¬ (u x && v y)=true
      rw [hu,Bc]; decide
   rw [this]
   rfl
 unfold cP
 induction a with
 | nil=>rfl
 | cons x a ih =>
  rw [Dp,List.filter_append,ih,row,Dy]
  split
  ·rw [Dp]
  ·rw [Cf]
theorem Zb1 (lo:Int) (n:Nat):aQ lo (n+1)=aQ lo n++[lo+n]:=by unfold aQ; rw [List.range_succ,Bu]; rfl
theorem Zb0 (c:Int):∀ (n:Nat) (lo:Int),lo<=c->(aQ lo n).filter (λx=>decide (c<=x))=aQ c (lo+n - c).toNat:=by
 intro n lo h
 by_cases hc:c<=lo+n
 ·have e:n=(c - lo).toNat+(lo+n - c).toNat:=by omega
  have e2:lo+((c - lo).toNat:Int)=c:=by omega
  have split:aQ lo n=aQ lo (c - lo).toNat++aQ c (lo+n - c).toNat:=by
   have:=Zih lo (c - lo).toNat (lo+n - c).toNat
   rw [<- e,e2] at this
   exact this
  rw [split,List.filter_append]
  have f1:(aQ lo (c - lo).toNat).filter (λx=>decide (c<=x))=[]:=List.filter_eq_nil_iff.mpr λx hx=>by
   have:=gN hx
   rw [decide_eq_true_eq]
   omega
  have f2:(aQ c (lo+n - c).toNat).filter (λx=>decide (c<=x))=aQ c (lo+n - c).toNat:=List.filter_eq_self.mpr λx hx=>by
   have:=gN hx
   rw [decide_eq_true_eq]
   omega
  rw [f1,f2]
  rfl
 ·have e:(lo+n - c).toNat=0:=by omega
  rw [e]
  exact List.filter_eq_nil_iff.mpr λx hx=>by
   have:=gN hx
   rw [decide_eq_true_eq]
   omega
theorem ZbO:∀ {l:List Pt},l.Pairwise mz->gc (l.map kS)=true
 | [],_=>rfl
 | [a],_=>rfl
 | a::b::r,h=>by
  have hab:=(Dd.mp h).1 b (AB ..)
  have ih:=ZbO (Dd.mp h).2
  rw [Ax,Ax]
  rw [Ax] at ih
  unfold gc
  rw [ih]
  have:jd (kS b) (kS a)=false:=by
   show (if b.1=a.1 then (if b.2=a.2 then false else decide (b.2 < a.2)) else decide (b.1 < a.1))=false
   rcases hab with h | ⟨h1,h2⟩
   ·rw [if_neg (by omega),decide_eq_false (by omega)]
   ·rw [if_pos h1.symm,if_neg (by omega),decide_eq_false (by omega)]
  rw [this]
  rfl
theorem ZdM {p q:Pt} (h:kS p=kS q):p=q:=by
 unfold kS at h
 injection h with h1 h2
 injection h2 with h2 _
 exact Prod.ext h1 h2
theorem mX {l:List Pt} (h:l.Pairwise mz):(l.map kS).Nodup:=by
 unfold List.Nodup
 rw [Dl]
 refine h.imp λ{p q} hpq e=>?_
 have e:=ZdM e
 subst e
 rcases hpq with h | ⟨_,h⟩
 ·exact absurd h (Df _)
 ·exact absurd h (Df _)
section
variable (s:Shp)
noncomputable def Shp.sts:List Pt:=cP (aQ (-s.depth) s.n) (aQ (-s.depth) s.n)
noncomputable def Shp.rzs (p:Pt):List Pt:=cP (aQ p.1 (s.top+1 - p.1).toNat) (aQ p.2 (s.top+1 - p.2).toNat)
noncomputable def Shp.tb (F:Int->Int->Int):List (DZ×PyData):=s.sts.map λp=>(kS p,.int (F p.1 p.2))
noncomputable def wss (g:Int->Int->Int):Nat->List DZ->Int
 | _,[]=>0
 | i,l::ls=>ws (g i) 0 l+wss g (i+1) ls
noncomputable def aN (day:List DZ):Int:=(day.map List.sum).sum
noncomputable def Shp.c2 (F:Int->Int->Int) (c y1 y2 i j:Int):Int:=c * (s.day y1 i+s.day y2 j)+F (s.nx y1 i) (s.nx y2 j)
noncomputable def Shp.w2 (day:List DZ) (F:Int->Int->Int) (c y1 y2:Int):Int:=wss (s.c2 F c y1 y2) 0 day
noncomputable def Shp.cand (W:Int->Int->Int) (c:Int) (p:Pt):List Pr:=(s.rzs p).map λq=>(c * s.ord (p.1+p.2) (q.1+q.2)+W q.1 q.2,kS q)
noncomputable def Shp.bp (W:Int->Int->Int) (c:Int) (p:Pt):Pr:=fV (s.cand W c p)
noncomputable def Shp.dk:List (List DZ)->(Int->Int->Int)×Int
 | []=>(λa b=>s.fin a+s.fin b,1)
 | day::r=>(λa b=>(s.bp (s.w2 day (Shp.dk r).1 (Shp.dk r).2) ((Shp.dk r).2 * aN day) (a,b)).1,(Shp.dk r).2 * aN day)
noncomputable def Shp.pick (day:List DZ) (r:List (List DZ)) (p:Pt):Pr:=s.bp (s.w2 day (s.dk r).1 (s.dk r).2) ((s.dk r).2 * aN day) p
noncomputable def Shp.ddayL (day:List DZ) (r:List (List DZ)):DY:=s.sts.map λp=>.tuple [gK (s.pick day r p).1 ((s.dk r).2 * aN day),.tuple ((s.pick day r p).2.map PyData.int)]
noncomputable def Shp.dtab:List (List DZ)->List PyData
 | []=>[]
 | day::r=>.tuple (s.ddayL day r)::Shp.dtab r
end
section
variable {s:Shp}
theorem b8 (h:s.Ok) {p:Pt}:p∈s.sts ↔ (-s.depth<=p.1/\p.1<=s.top)/\(-s.depth<=p.2/\p.2<=s.top):=by
 have:=h.n_eq
 have key:∀ x:Int,x∈aQ (-s.depth) s.n ↔ -s.depth<=x/\x<=s.top:=λx=>by
  constructor
  ·intro hx
   have:=gN hx
   omega
  ·intro hx
   unfold aQ
   exact AV.mpr ⟨(x+s.depth).toNat,Bw.mpr (by omega),by omega⟩
 unfold Shp.sts
 rw [pw,key,key]
theorem gM {p q:Pt} (h1:p.1<=s.top) (h2:p.2<=s.top):q∈s.rzs p ↔ (p.1<=q.1/\q.1<=s.top)/\(p.2<=q.2/\q.2<=s.top):=by
 have key:∀ (a x:Int),a<=s.top->(x∈aQ a (s.top+1 - a).toNat ↔ a<=x/\x<=s.top):=λa x ha=>by
  constructor
  ·intro hx
   have:=gN hx
   omega
  ·intro hx
   unfold aQ
   exact AV.mpr ⟨(x - a).toNat,Bw.mpr (by omega),by omega⟩
 unfold Shp.rzs
 rw [pw,key _ _ h1,key _ _ h2]
theorem jE (s:Shp):s.sts.Pairwise mz:=Ziw (Zb2 _ _) (Zb2 _ _)
theorem l8 (h:s.Ok):s.sts≠[]:=by
 have:=h.t0
 have:=h.d0
 exact List.ne_nil_of_mem ((b8 h (p:=(0,0))).mpr ⟨⟨by show -s.depth<=(0:Int); omega,by show (0:Int)<=s.top; omega⟩,⟨by show -s.depth<=(0:Int); omega,by show (0:Int)<=s.top; omega⟩⟩)
theorem fi (s:Shp):s.sts.length=s.n * s.n:=by
 unfold Shp.sts cP
 rw [List.length_flatMap]
 have:((aQ (-s.depth) s.n).map λx=>((aQ (-s.depth) s.n).map λy=>(x,y)).length)=(aQ (-s.depth) s.n).map λ_=>s.n:=BD λx _=>by rw [At,fO]
 rw [this,List.map_const',List.sum_replicate_nat,fO]
theorem ku (h:s.Ok) {p:Pt} (hp:p∈s.sts):s.sts.filter (λq=>decide (p.1<=q.1) && decide (p.2<=q.2))=s.rzs p:=by
 have hn:=h.n_eq
 obtain ⟨⟨a1,a2⟩,b1,b2⟩:=(b8 h).mp hp
 unfold Shp.sts Shp.rzs
 rw [Zix _ _ (λx=>decide (p.1<=x)) (λx=>decide (p.2<=x)),Zb0 _ _ _ a1,Zb0 _ _ _ b1]
 have e1:-s.depth+(s.n:Int) - p.1=s.top+1 - p.1:=by omega
 have e2:-s.depth+(s.n:Int) - p.2=s.top+1 - p.2:=by omega
 rw [e1,e2]
theorem l5 (h:s.Ok) (F:Int->Int->Int):s.tb F≠[]:=λe=>l8 h (B8.mp e)
theorem Zav (s:Shp) (F:Int->Int->Int):(s.tb F).map (·.1)=s.sts.map kS:=by unfold Shp.tb; rw [AS]; rfl
theorem ou (s:Shp) (F:Int->Int->Int):((s.tb F).map (·.1)).Nodup:=by rw [Zav]; exact mX (jE s)
theorem jD (h:s.Ok) {F:Int->Int->Int} {a b:Int} (h1:-s.depth<=a) (h2:a<=s.top) (h3:-s.depth<=b) (h4:b<=s.top):aU eO (pD (s.tb F)) (.tuple [.int a,.int b])=.ret (.int (F a b)) :=
 Zlh (k:=[a,b]) (ou s F) (AV.mpr ⟨(a,b),(b8 h).mpr ⟨⟨h1,h2⟩,h3,h4⟩,rfl⟩)
theorem ot (h:s.Ok) (h7:s.n<=7) (F:Int->Int->Int):nA hV [pD (s.tb F)]=.ret (s.sts.map aq):=by
 have hl:(s.tb F).length < 64:=by
  unfold Shp.tb
  rw [At,fi]
  have:s.n * s.n<=7 * 7:=Cc h7 h7
  omega
 rw [Zk5 (l5 h F) hl (by rw [Zav]; exact ZbO (jE s))]
 unfold Shp.tb
 rw [AS]
 rfl
theorem ZbA (h:s.Ok) {p:Pt} (hp:p∈s.sts):s.rzs p≠[]:=by
 obtain ⟨⟨a1,a2⟩,b1,b2⟩:=(b8 h).mp hp
 exact List.ne_nil_of_mem ((gM a2 b2 (q:=p)).mpr ⟨⟨B0 _,a2⟩,B0 _,b2⟩)
theorem Zfn (h:s.Ok) {W:Int->Int->Int} {c:Int} {p:Pt} (hp:p∈s.sts):∃ q∈s.rzs p,s.bp W c p=(c * s.ord (p.1+p.2) (q.1+q.2)+W q.1 q.2,kS q):=by
 have hn:s.cand W c p≠[]:=λe=>ZbA h hp (B8.mp e)
 obtain ⟨q,hq,e⟩:=AV.mp (Zno hn)
 exact ⟨q,hq,e.symm⟩
theorem Zh8 {α:Type} {g:α->PyData} {fs:List α} {pre post:DY} {x:PyData} (h:(fs.map g).reverse=pre++x::post):∃ d:α,x=g d/\pre.length < fs.length/\fs.drop (fs.length - (pre.length+1))=d::fs.drop (fs.length - pre.length):=by
 have h1:((fs.map g).reverse)[pre.length]?=some x:=by rw [h]; simp
 have hl:pre.length < ((fs.map g).reverse).length:=(Ay.mp h1).1
 rw [Bv,At] at hl
 rw [CH (by rw [At]; exact hl),At,AM] at h1
 obtain ⟨d,hd,rfl⟩:=Bs.mp h1
 refine ⟨d,rfl,hl,?_⟩
 have e:fs.length - (pre.length+1)=fs.length - 1 - pre.length:=by omega
 have e2:fs.length - pre.length=fs.length - 1 - pre.length+1:=by omega
 rw [e,e2,AZ (by omega)]
 congr 1
 exact (Ay.mp hd).2
theorem Zab {α:Type} {f g:α->PyData}:∀ l:List α,f9 (l.map f) (l.map g)=l.map λx=>.tuple [f x,g x]
 | []=>rfl
 | x::l=>by
  have ih:=Zab (f:=f) (g:=g) l
  unfold f9 at ih ⊢
  rw [Ax,Ax,A1,Ax,ih,Ax]
theorem Zg7 (s:Shp):((aQ (-s.depth) s.n).flatMap λx=>(aQ (-s.depth) s.n).map λy=>aq (x,y))=s.sts.map aq:=by
 unfold Shp.sts cP
 rw [List.map_flatMap]
 simp only [AS]
 rfl
theorem ZhT (s:Shp) (p:Pt):((aQ p.1 (s.top+1 - p.1).toNat).flatMap λx=>(aQ p.2 (s.top+1 - p.2).toNat).map λy=>aq (x,y))=(s.rzs p).map aq:=by
 unfold Shp.rzs cP
 rw [List.map_flatMap]
 simp only [AS]
 rfl
theorem Zg4 (p:Pt):bR dN [aq p]=.ret (.int (p.1+p.2)):=by
 have e:=jl [p.1,p.2]
 have e2:[p.1,p.2].sum=p.1+p.2:=by rw [BX,BX,List.sum_nil,Int.add_zero]
 rw [e2] at e
 exact e
theorem yU (day:List DZ):(day.map λl=>PyData.int l.sum)=(day.map List.sum).map PyData.int:=by rw [AS]; rfl
structure DdB (day:List DZ):Prop where
 len:day.length<=3
 row:∀ l∈day,l.length<=3/\∀ w∈l,0<=w/\w<=1000
 pos:0 < aN day
theorem oh {w:Int} (h:0<=w/\w<=1000):nb 10 w:=bS (by show -1024 < _; omega) (by show _ < 1024; omega)
def eI (s:Shp) (b:Nat) (F:Int->Int->Int):Prop:=∀ x y,-s.depth<=x->x<=s.top->-s.depth<=y->y<=s.top->nb b (F x y)
theorem gw {s:Shp} (h:s.Ok) {y:Int} (y1:-s.depth<=y) (y2:y<=s.top):nb 20 y:=by
 have:=h.t0
 have:=h.d0
 have:=h.td
 exact bS (by show -1048576 < _; omega) (by show _ < 1048576; omega)
theorem jj {k:Nat} (h:k<=1000):nb 40 (k:Int):=bS (by show -1099511627776 < _; omega) (by show _ < 1099511627776; omega)
theorem zK (h:s.Ok) {F:Int->Int->Int} {b:Nat} (hF:eI s b F) {c:Int} (hc:nb b c) {y1 y2:Int} (a1:-s.depth<=y1) (a2:y1<=s.top) (b1:-s.depth<=y2) (b2:y2<=s.top) {i j:Nat} (hi:i<=1000) (hj:j<=1000):nb (b+102) (s.c2 F c y1 y2 i j):=by
 have n1:=lC h (gw h a1 a2) (jj hi)
 have n2:=lC h (gw h b1 b2) (jj hj)
 have n3:=hF _ _ (im s y1 i) (il h a2 (show (0:Int)<=i by omega)) (im s y2 j) (il h b2 (show (0:Int)<=j by omega))
 unfold Shp.c2
 exact aO (dO (db hc (dO n1 n2)) n3) (by omega)
theorem Zaf {f:Int->Int} {b:Nat}:∀ {l:DZ} {k:Nat},(∀ i:Nat,i < k+l.length->nb b (f i))->(∀ w∈l,0<=w/\w<=1000)->nb (b+10+l.length) (ws f k l)
 | [],k,_,_=>by unfold ws nb; exact BW (by simp)
 | w::l,k,hf,h=>by
  unfold ws
  have h1:=db (oh (h w (AB ..))) (hf k (by rw [Au]; omega))
  have h2:=Zaf (f:=f) (b:=b) (l:=l) (k:=k+1) (λi hi=>hf i (by rw [Au]; omega)) λv hv=>h v (Az _ hv)
  exact aO (dO h1 h2) (by rw [Au]; omega)
theorem Zad {g:Int->Int->Int} {b:Nat}:∀ {L:List DZ} {k:Nat},(∀ i j:Nat,i < k+L.length->j<=3->nb b (g i j))->(∀ l∈L,l.length<=3/\∀ w∈l,0<=w/\w<=1000)->nb (b+13+L.length) (wss g k L)
 | [],k,_,_=>by unfold wss nb; exact BW (by simp)
 | l::L,k,hg,h=>by
  unfold wss
  obtain ⟨l1,l2⟩:=h l (AB ..)
  have h1:=Zaf (f:=g k) (b:=b) (l:=l) (k:=0) (λj hj=>hg k j (by rw [Au]; omega) (by omega)) l2
  have h2:=Zad (g:=g) (b:=b) (L:=L) (k:=k+1) (λi j hi hj=>hg i j (by rw [Au]; omega) hj) λv hv=>h v (Az _ hv)
  exact aO (dO h1 h2) (by rw [Au]; omega)
theorem l0 (h:s.Ok) {day:List DZ} (hd:DdB day) {F:Int->Int->Int} {b:Nat} (hF:eI s b F) {c:Int} (hc:nb b c):eI s (b+120) (s.w2 day F c):=λy1 y2 a1 a2 b1 b2=>by
 have hl:=hd.len
 unfold Shp.w2
 exact aO (Zad (b:=b+102) (λi j hi hj=>zK h hF hc a1 a2 b1 b2 (by omega) (by omega)) hd.row) (by omega)
theorem oy:∀ {l:DZ},(∀ w∈l,0<=w/\w<=1000)->0<=l.sum/\l.sum<=1000 * l.length
 | [],_=>⟨B0 _,B0 _⟩
 | w::l,h=>by
  have h1:=h w (AB ..)
  have h2:=oy (l:=l) λv hv=>h v (Az _ hv)
  rw [BX,Au]
  omega
theorem wR:∀ {L:List DZ},(∀ l∈L,l.length<=3/\∀ w∈l,0<=w/\w<=1000)->0<=aN L/\aN L<=3000 * L.length
 | [],_=>⟨B0 _,B0 _⟩
 | l::L,h=>by
  obtain ⟨l1,l2⟩:=h l (AB ..)
  have h1:=oy l2
  have h2:=wR (L:=L) λv hv=>h v (Az _ hv)
  have e:aN (l::L)=l.sum+aN L:=by unfold aN; rw [Ax,BX]
  rw [e,Au]
  omega
theorem gJ {day:List DZ} (hd:DdB day):nb 20 (aN day):=by
 have:=wR hd.row
 have:=hd.len
 exact bS (by show -1048576 < _; omega) (by show _ < 1048576; omega)
theorem gP (h:s.Ok) {x y:Int} (hx:nb 20 x) (hy:nb 20 y):nb 100 (s.ord x y):=by
 unfold Shp.ord
 refine jP (bS (by decide) (by decide)) (aO (dO h.start (db h.piece (ip hy hx))) (by decide))
theorem jZ (h:s.Ok):∀ {ds:List (List DZ)},(∀ d∈ds,DdB d)->eI s (102+150 * ds.length) (s.dk ds).1/\nb (102+150 * ds.length) (s.dk ds).2/\0 < (s.dk ds).2
 | [],_=>⟨λx y a1 a2 b1 b2=>aO (dO (lx h x a1 a2) (lx h y b1 b2)) (by decide),aO (show nb 102 (1:Int) from bS (by decide) (by decide)) (by decide),show (0:Int) < 1 from by decide⟩
 | day::r,hd=>by
  obtain ⟨k1,k2,k3⟩:=jZ h (ds:=r) λd hd'=>hd d (Az _ hd')
  have hday:=hd day (AB ..)
  have c1:nb (102+150 * r.length+20) ((s.dk r).2 * aN day):=db k2 (gJ hday)
  refine ⟨λx y a1 a2 b1 b2=>?_,aO c1 (by rw [Au]; omega),CB k3 hday.pos⟩
  have hp:((x,y):Pt)∈s.sts:=(b8 h).mpr ⟨⟨a1,a2⟩,b1,b2⟩
  obtain ⟨q,hq,e⟩:=Zfn h (W:=s.w2 day (s.dk r).1 (s.dk r).2) (c:=(s.dk r).2 * aN day) hp
  obtain ⟨⟨q1,q2⟩,q3,q4⟩:=(gM a2 b2).mp hq
  have ht:=h.t0
  have hd0:=h.d0
  have htd:=h.td
  have q1:x<=q.1:=q1
  have q3:y<=q.2:=q3
  show nb _ (s.bp (s.w2 day (s.dk r).1 (s.dk r).2) ((s.dk r).2 * aN day) (x,y)).1
  rw [e]
  have n1:=gP h (x:=x+y) (y:=q.1+q.2) (bS (by show -1048576 < _; omega) (by show _ < 1048576; omega)) (bS (by show -1048576 < _; omega) (by show _ < 1048576; omega))
  have n2:=l0 h hday k1 k2 q.1 q.2 (by omega) q2 (by omega) q4
  exact aO (dO (db c1 n1) n2) (by rw [Au]; omega)
theorem vG (h:s.Ok) {W:Int->Int->Int} {b:Nat} (hW:eI s b W) {c:Int} (hc:nb b c) {p q:Pt} (hp:p∈s.sts) (hq:q∈s.rzs p):q∈s.sts/\nb 20 (p.1+p.2)/\nb 20 (q.1+q.2):=by
 have ht:=h.t0
 have hd0:=h.d0
 have htd:=h.td
 obtain ⟨⟨a1,a2⟩,b1,b2⟩:=(b8 h).mp hp
 obtain ⟨⟨q1,q2⟩,q3,q4⟩:=(gM a2 b2).mp hq
 exact ⟨(b8 h).mpr ⟨⟨by omega,q2⟩,by omega,q4⟩,bS (by show -1048576 < _; omega) (by show _ < 1048576; omega),bS (by show -1048576 < _; omega) (by show _ < 1048576; omega)⟩
end
end Tw
namespace Tw
open L2
theorem gP {s:Shp} (h:s.Ok) {x y:Int} (hx:nb 20 x) (hy:nb 20 y):nb 100 (s.ord x y):=by
 unfold Shp.ord
 exact jP (show (0:Int).natAbs < 2 ^ 100 from BW (by simp)) (aO (dO h.start (db h.piece (ip hy hx))) (by decide))
end Tw
namespace L2
theorem Zeb {g:DV} {s:DS} {r:Re} {full:DY} (B:List PyData->PyData->Prop) (I:List PyData->List Sl->Prop)
  (ht:∀ pre x post ρ,full=pre++x::post->I pre ρ->∃ ρ1,g x ρ=some ρ1/\((B pre x/\s ρ1=.ret (.ret r))\/(¬ B pre x/\∃ ρ2,s ρ1=.ret (.next ρ2)/\I (pre++[x]) ρ2))) :
  ∀ {xs pre:DY} {ρ:D5},full=pre++xs->I pre ρ->(∀ p x q,pre=p++x::q->¬ B p x) ->
   ((∃ p x q,full=p++x::q/\B p x)/\ck g s xs ρ=.ret (.ret r))\/((∀ p x q,full=p++x::q->¬ B p x)/\∃ ρ2,ck g s xs ρ=.ret (.next ρ2)/\I full ρ2)
 | [],pre,ρ,e,h0,hn=>by
  rw [A4] at e
  subst e
  exact .inr ⟨hn,ρ,rfl,h0⟩
 | x::xs,pre,ρ,e,h0,hn=>by
  obtain ⟨ρ1,e1,hx⟩:=ht pre x xs ρ e h0
  rw [lu,e1,Tr.of_some,Tr.ret_bind]
  unfold iB
  rcases hx with ⟨hb,e2⟩ | ⟨hb,ρ2,e2,h2⟩
  ·exact .inl ⟨⟨pre,x,xs,e,hb⟩,by rw [e2,Tr.ret_bind]; rfl⟩
  ·rw [e2,Tr.ret_bind,gX]
   refine Zeb B I ht (xs:=xs) (pre:=pre++[x]) (by rw [e,Bh]; rfl) h2 λp y q hp=>?_
   rcases List.append_eq_append_iff.mp hp with ⟨a,h1,h2'⟩ | ⟨a,h1,h2'⟩
   ·cases a with
    | nil =>
     rw [Cf] at h2'
     rw [A4] at h1
     cases h2'
     subst h1
     exact hb
    | cons z a =>
     simp at h2'
   ·cases a with
    | nil =>
     rw [Cf] at h2'
     rw [A4] at h1
     cases h2'
     subst h1
     exact hb
    | cons z a =>
     rw [Dz] at h2'
     cases h2'
     exact hn p y a h1
theorem Zk0 {g:DV} {s:DS} {r:Re} {xs:DY} {ρ:D5} (B:List PyData->PyData->Prop) (I:List PyData->List Sl->Prop) (h0:I [] ρ)
  (ht:∀ pre x post ρ,xs=pre++x::post->I pre ρ->∃ ρ1,g x ρ=some ρ1/\((B pre x/\s ρ1=.ret (.ret r))\/(¬ B pre x/\∃ ρ2,s ρ1=.ret (.next ρ2)/\I (pre++[x]) ρ2))) :
   ((∃ p x q,xs=p++x::q/\B p x)/\ck g s xs ρ=.ret (.ret r))\/((∀ p x q,xs=p++x::q->¬ B p x)/\∃ ρ2,ck g s xs ρ=.ret (.next ρ2)/\I xs ρ2) :=
 Zeb B I ht (xs:=xs) (pre:=[]) rfl h0 λp x q hp=>by
  have:=congrArg List.length hp
  simp at this
end L2
namespace Tw
open L2
structure E2 where
 t:Int
 b:Int
 q:Pt
noncomputable def E2.d (e:E2):PyData:=.tuple [.tuple [.int e.t,.int e.b],aq e.q]
structure E2.Sh (e:E2):Prop where
 pos:1<=e.b
 one:Nat.gcd e.t.natAbs e.b.natAbs=1
noncomputable def look {α:Type} (l:List (Pt×α)) (p:Pt):Option α:=(l.find? λx=>decide (x.1=p)).map (·.2)
theorem Zdh {α:Type}:∀ {l:List Pt} {es:List α} {k:Nat} {p:Pt} {e:α},l.Pairwise mz->l[k]?=some p->es[k]?=some e->look (l.zip es) p=some e
 | [],_,k,p,e,_,h,_=>by cases h
 | x::l,[],k,p,e,_,_,h=>by cases h
 | x::l,y::es,0,p,e,_,h1,h2=>by
  cases h1
  cases h2
  unfold look
  rw [A1,BA,decide_eq_true (show (x,y).1=x from rfl)]
  rfl
 | x::l,y::es,k+1,p,e,hp,h1,h2=>by
  rw [A7] at h1 h2
  obtain ⟨a,b⟩:=Dd.mp hp
  have hn:x≠p:=λz=>by
   have:=a p (Bj h1)
   subst z
   rcases this with h | ⟨_,h⟩
   ·exact absurd h (Df _)
   ·exact absurd h (Df _)
  unfold look
  rw [A1,BA,decide_eq_false (show ¬ (x,y).1=p from hn)]
  exact Zdh b h1 h2
section
variable (s:Shp)
def cE (es:List E2):Prop:=es.length=s.sts.length/\∀ (k:Nat) (p:Pt) (e:E2),s.sts[k]?=some p->es[k]?=some e->e.Sh/\e.q∈s.rzs p
noncomputable def Shp.own2 (W:Int->Int->Int) (c:Int) (p q:Pt):Int:=c * s.ord (p.1+p.2) (q.1+q.2)+W q.1 q.2
noncomputable def Shp.ownF (W:Int->Int->Int) (c:Int) (es:List E2) (x y:Int):Int:=match look (s.sts.zip es) (x,y) with
 | some e=>s.own2 W c (x,y) e.q
 | none=>0
noncomputable def Shp.okB (W:Int->Int->Int) (c:Int) (p:Pt) (e:E2):Bool:=decide (Gc.cB (s.own2 W c p e.q) c=e.t/\Gc.bQ (s.own2 W c p e.q) c=e.b) && (s.rzs p).all λo=>!decide (s.own2 W c p o < s.own2 W c p e.q)
noncomputable def Shp.dayB (W:Int->Int->Int) (c:Int) (es:List E2):Bool:=(s.sts.zip es).all λx=>s.okB W c x.1 x.2
noncomputable def Shp.chk:List (List DZ)->List (List E2)->Option ((Int->Int->Int)×Int)
 | [],_=>some (λa b=>s.fin a+s.fin b,1)
 | _::_,[]=>none
 | day::r,es::P=>(Shp.chk r P).bind λx=>if s.dayB (s.w2 day x.1 x.2) (x.2 * aN day) es=true then some (s.ownF (s.w2 day x.1 x.2) (x.2 * aN day) es,x.2 * aN day) else none
noncomputable def bot (es:List E2):Int:=es.foldl (λB e=>B * Gc.bQ B e.b) 1
noncomputable def Shp.stF (es:List E2) (x y:Int):Int:=match look (s.sts.zip es) (x,y) with
 | some e=>e.t * (bot es).fdiv e.b
 | none=>0
noncomputable def Shp.later:List (List E2)->(Int->Int->Int)×Int
 | []=>(λa b=>s.fin a+s.fin b,1)
 | es::_=>(s.stF es,bot es)
noncomputable def Shp.xF (M:Int->Int->Int) (w:Int) (p q:Pt):Int:=M q.1 q.2+s.ord (p.1+p.2) (q.1+q.2) * w
noncomputable def Shp.rowE (M:Int->Int->Int) (w:Int) (p:Pt) (e:E2):Bool:=decide (s.xF M w p e.q * e.b=e.t * w) && (s.rzs p).all λo=>!decide (s.xF M w p o * e.b < e.t * w)
noncomputable def Shp.rowB (day:List DZ) (L:(Int->Int->Int)×Int) (es:List E2):Bool:=(s.sts.zip es).all λx=>s.rowE (s.w2 day L.1 L.2) (L.2 * aN day) x.1 x.2
noncomputable def Shp.lawB:List (List DZ)->List (List E2)->Bool
 | day::r,es::P=>s.rowB day (s.later P) es && Shp.lawB r P
 | _,_=>true
end
section
variable {s:Shp}
theorem Zds {B b:Int} (hB:0 < B) (hb:0 < b):0 < B * Gc.bQ B b/\b ∣ B * Gc.bQ B b/\B ∣ B * Gc.bQ B b:=by
 obtain ⟨h1,h2,h3,_⟩:=Gc.jc (t:=B) (b:=b) (by omega)
 refine ⟨CB hB h3,⟨Gc.cB B b,?_⟩,⟨Gc.bQ B b,rfl⟩⟩
 generalize Gc.den B b=g at *
 generalize Gc.cB B b=x at *
 generalize Gc.bQ B b=y at *
 rw [h1,h2]
 simp only [BL,BI,BF]
theorem nC:∀ (es:List E2) (B:Int),0 < B->(∀ e∈es,1<=e.b)->0 < es.foldl (λB e=>B * Gc.bQ B e.b) B/\B ∣ es.foldl (λB e=>B * Gc.bQ B e.b) B/\∀ e∈es,e.b ∣ es.foldl (λB e=>B * Gc.bQ B e.b) B
 | [],B,hB,_=>⟨hB,⟨1,by rw [Db]; rfl⟩,nofun⟩
 | e::es,B,hB,h=>by
  have he:=h e (AB ..)
  obtain ⟨a1,a2,a3⟩:=Zds hB (show 0 < e.b by omega)
  obtain ⟨b1,b2,b3⟩:=nC es _ a1 λx hx=>h x (Az _ hx)
  rw [BR]
  refine ⟨b1,Dg a3 b2,λx hx=>?_⟩
  rcases AO.mp hx with rfl | hx
  ·exact Dg a2 b2
  ·exact b3 x hx
theorem ZjY {B b S:Int} (hB:0 < B) (hb:0 < b) (h1:B ∣ S) (h2:b ∣ S):B * Gc.bQ B b ∣ S:=by
 obtain ⟨e1,e2,e3,e4⟩:=Gc.jc (t:=B) (b:=b) (by omega)
 obtain ⟨u,hu⟩:=h1
 obtain ⟨v,hv⟩:=h2
 have hg:Gc.den B b≠0:=Gc.nz (by omega)
 have e:Gc.cB B b * u=Gc.bQ B b * v:=by
  have q:Gc.den B b * (Gc.cB B b * u)=Gc.den B b * (Gc.bQ B b * v):=by
   rw [<- BL,<- BL,<- e1,<- e2,<- hu,<- hv]
  exact B1 hg q
 have d:(Gc.bQ B b).natAbs ∣ (Gc.cB B b).natAbs * u.natAbs:=⟨v.natAbs,by rw [<- BH,e,BH]⟩
 have d2:(Gc.bQ B b).natAbs ∣ u.natAbs:=Cz (show Nat.Coprime (Gc.bQ B b).natAbs (Gc.cB B b).natAbs by unfold Nat.Coprime; rw [CS]; exact e4) d
 obtain ⟨w,hw⟩:=C4.mp d2
 exact ⟨w,by rw [hu,hw,BL]⟩
theorem vK {S:Int}:∀ (es:List E2) (B:Int),0 < B->(∀ e∈es,1<=e.b/\e.b ∣ S)->B ∣ S->es.foldl (λB e=>B * Gc.bQ B e.b) B ∣ S
 | [],B,_,_,h=>h
 | e::es,B,hB,h,hS=>by
  obtain ⟨h1,h2⟩:=h e (AB ..)
  rw [BR]
  exact vK es _ (Zds hB (by omega)).1 (λx hx=>h x (Az _ hx)) (ZjY hB (by omega) hS h2)
theorem Zag {c B:Int} {f f':Int->Int}:∀ {l:DZ} {k:Nat},(∀ i:Nat,c * f i=B * f' i)->c * ws f k l=B * ws f' k l
 | [],k,h=>by unfold ws; rw [B7,B7]
 | w::l,k,h=>by
  unfold ws
  rw [CC,CC,Zag h,BF,h k,BF]
theorem Zae {c B:Int} {f f':Int->Int->Int}:∀ {l:List DZ} {k:Nat},(∀ i j:Nat,c * f i j=B * f' i j)->c * wss f k l=B * wss f' k l
 | [],k,h=>by unfold wss; rw [B7,B7]
 | w::l,k,h=>by
  unfold wss
  rw [CC,CC,Zae h,Zag λj=>h k j]
def nV (s:Shp) (L F:(Int->Int->Int)×Int):Prop:=0 < L.2/\0 < F.2/\∀ x y,-s.depth<=x->x<=s.top->-s.depth<=y->y<=s.top->L.1 x y * F.2=F.1 x y * L.2
theorem ZbV (h:s.Ok) {L F:(Int->Int->Int)×Int} (r:nV s L F) (day:List DZ) {y1 y2:Int} (a1:-s.depth<=y1) (a2:y1<=s.top) (b1:-s.depth<=y2) (b2:y2<=s.top):F.2 * s.w2 day L.1 L.2 y1 y2=L.2 * s.w2 day F.1 F.2 y1 y2:=by
 obtain ⟨_,_,r3⟩:=r
 unfold Shp.w2
 refine Zae λi j=>?_
 have q:=r3 _ _ (im s y1 i) (il h a2 (show (0:Int)<=i by omega)) (im s y2 j) (il h b2 (show (0:Int)<=j by omega))
 unfold Shp.c2
 generalize s.day y1 i+s.day y2 j=D
 rw [CC F.2,CC L.2,BI F.2 (L.1 _ _),q,BI (F.1 _ _) L.2,BF]
theorem Zic (h:s.Ok) {L F:(Int->Int->Int)×Int} (r:nV s L F) (day:List DZ) {p q:Pt} (hq:q∈s.sts):F.2 * s.xF (s.w2 day L.1 L.2) (L.2 * aN day) p q=L.2 * s.own2 (s.w2 day F.1 F.2) (F.2 * aN day) p q:=by
 obtain ⟨⟨a1,a2⟩,b1,b2⟩:=(b8 h).mp hq
 unfold Shp.xF Shp.own2
 rw [CC,CC,ZbV h r day a1 a2 b1 b2,Int.add_comm]
 congr 1
 simp only [BL,BI,BF]
theorem yi {a x y:Int} (ha:0 < a):a * x < a * y ↔ x < y:=⟨λh=>Int.lt_of_mul_lt_mul_left h (Int.le_of_lt ha),λh=>Int.mul_lt_mul_of_pos_left h ha⟩
theorem Zh1 (h:s.Ok) {L F:(Int->Int->Int)×Int} (r:nV s L F) {day:List DZ} (hd:0 < aN day) {p:Pt} {e:E2} (hp:p∈s.sts) (he:e.Sh) (hq:e.q∈s.rzs p) :
  s.rowE (s.w2 day L.1 L.2) (L.2 * aN day) p e=s.okB (s.w2 day F.1 F.2) (F.2 * aN day) p e:=by
 obtain ⟨⟨a1,a2⟩,b1,b2⟩:=(b8 h).mp hp
 have sub:∀ q∈s.rzs p,q∈s.sts:=λq hq=>by
  obtain ⟨⟨q1,q2⟩,q3,q4⟩:=(gM a2 b2).mp hq
  exact (b8 h).mpr ⟨⟨by omega,q2⟩,by omega,q4⟩
 have key:=λq hq=>Zic h r day (p:=p) (sub q hq)
 obtain ⟨r1,r2,_⟩:=r
 have hb:0 < e.b:=by have:=he.pos; omega
 unfold Shp.rowE Shp.okB
 have kq:=key e.q hq
 generalize hx:s.xF (s.w2 day L.1 L.2) (L.2 * aN day) p=X at *
 generalize ho:s.own2 (s.w2 day F.1 F.2) (F.2 * aN day) p=O at *
 generalize L.2=B at *
 generalize F.2=c at *
 generalize hS:aN day=S at *
 have hcS:0 < c * S:=CB r2 hd
 have eqv:X e.q * e.b=e.t * (B * S) ↔ O e.q * e.b=e.t * (c * S):=by
  have q:c * (X e.q * e.b)=B * (O e.q * e.b):=by rw [<- BL,kq,BL]
  have q2:c * (e.t * (B * S))=B * (e.t * (c * S)):=by simp only [BL,BI,BF]
  constructor
  ·intro z
   rw [z,q2] at q
   exact (B1 (by omega) q).symm
  ·intro z
   rw [z,<- q2] at q
   exact B1 (by omega) q
 have low:O e.q * e.b=e.t * (c * S) ↔ Gc.cB (O e.q) (c * S)=e.t/\Gc.bQ (O e.q) (c * S)=e.b:=by
  obtain ⟨s1,s2,s3,s4⟩:=Gc.jc (t:=O e.q) (b:=c * S) (by omega)
  have hg:Gc.den (O e.q) (c * S)≠0:=Gc.nz (by omega)
  constructor
  ·intro z
   refine Gc.ZjN s3 hb s4 he.one ?_
   refine B1 hg ?_
   have z2:e.t * (c * S)=e.t * (Gc.den (O e.q) (c * S) * Gc.bQ (O e.q) (c * S)):=congrArg (e.t * ·) s2
   rw [<- BL,<- s1,z,z2,BF]
  ·rintro ⟨z1,z2⟩
   rw [z1] at s1
   rw [z2] at s2
   generalize Gc.den (O e.q) (c * S)=g at s1 s2
   rw [s1,s2]
   simp only [BL,BI,BF]
 have d1:decide (X e.q * e.b=e.t * (B * S))=decide (Gc.cB (O e.q) (c * S)=e.t/\Gc.bQ (O e.q) (c * S)=e.b):=decide_eq_decide.mpr (eqv.trans low)
 rw [d1]
 by_cases hz:Gc.cB (O e.q) (c * S)=e.t/\Gc.bQ (O e.q) (c * S)=e.b
 ·rw [decide_eq_true hz,Bq,Bq]
  have ex:=eqv.mpr (low.mpr hz)
  have all:∀ l:List Pt,(∀ q∈l,q∈s.rzs p)->(l.all λo=>!decide (X o * e.b < e.t * (B * S)))=l.all λo=>!decide (O o < O e.q):=λl hl=>by
   induction l with
   | nil=>rfl
   | cons o l ih =>
    rw [BG,BG,ih λq hq=>hl q (Az _ hq)]
    congr 2
    refine decide_eq_decide.mpr ?_
    have ko:=key o (hl o (AB ..))
    rw [<- ex,BI (X o),BI (X e.q),yi hb,<- yi r2,ko,kq,yi r1]
  exact all _ λ_ h=>h
 ·rw [decide_eq_false hz,Bc,Bc]
theorem ZfP {u v:Pt×E2->Bool}:∀ {l:List (Pt×E2)},(∀ x∈l,u x=v x)->l.all u=l.all v
 | [],_=>rfl
 | x::l,h=>by rw [BG,BG,h x (AB ..),ZfP λy hy=>h y (Az _ hy)]
theorem gH {es:List E2} (hd:cE s es) {x:Pt×E2} (hx:x∈s.sts.zip es):x.1∈s.sts/\x.2.Sh/\x.2.q∈s.rzs x.1/\look (s.sts.zip es) x.1=some x.2:=by
 obtain ⟨k,hk,rfl⟩:=BJ.mp hx
 have h1:k < s.sts.length:=by rw [Bz] at hk; omega
 have h2:k < es.length:=by rw [Bz] at hk; omega
 rw [List.getElem_zip]
 have a:=As h1
 have b:=As h2
 obtain ⟨c1,c2⟩:=hd.2 k _ _ a b
 exact ⟨AX h1,c1,c2,Zdh (jE s) a b⟩
theorem oA (h:s.Ok) {es:List E2} (hd:cE s es) {p:Pt} (hp:p∈s.sts):∃ e∈es,(p,e)∈s.sts.zip es:=by
 obtain ⟨k,hk,rfl⟩:=BJ.mp hp
 have h2:k < es.length:=by rw [hd.1]; exact hk
 refine ⟨es[k],AX h2,BJ.mpr ⟨k,by rw [Bz]; omega,?_⟩⟩
 rw [List.getElem_zip]
theorem yt (h:s.Ok):∀ {ds:List (List DZ)} {P:List (List E2)},(∀ d∈ds,0 < aN d)->(∀ es∈P,cE s es)->P.length=ds.length ->
  s.lawB ds P=(s.chk ds P).isSome/\∀ F,s.chk ds P=some F->nV s (s.later P) F
 | [],[],_,_,_=>⟨rfl,λF e=>by cases e; exact ⟨show (0:Int) < 1 by decide,show (0:Int) < 1 by decide,λx y _ _ _ _=>rfl⟩⟩
 | [],_::_,_,_,e=>by cases e
 | _::_,[],_,_,e=>by cases e
 | day::r,es::P,hd,hP,hl=>by
  obtain ⟨i1,i2⟩:=yt h (ds:=r) (P:=P) (λd hd'=>hd d (Az _ hd')) (λe he=>hP e (Az _ he)) (BV hl)
  have hday:=hd day (AB ..)
  have hes:=hP es (AB ..)
  have e1:s.lawB (day::r) (es::P)=(s.rowB day (s.later P) es && s.lawB r P):=rfl
  have e2:s.chk (day::r) (es::P)=(s.chk r P).bind λx=>if s.dayB (s.w2 day x.1 x.2) (x.2 * aN day) es=true then some (s.ownF (s.w2 day x.1 x.2) (x.2 * aN day) es,x.2 * aN day) else none:=rfl
  rw [e1,e2,i1]
  cases hc:s.chk r P with
  | none =>
   refine ⟨?_,λF e=>by cases e⟩
   show (_ && false)=false
   rw [CD]
  | some G =>
   have rel:=i2 G hc
   have er:s.rowB day (s.later P) es=s.dayB (s.w2 day G.1 G.2) (G.2 * aN day) es:=ZfP λx hx=>by
    obtain ⟨z1,z2,z3,_⟩:=gH hes hx
    exact Zh1 h rel hday z1 z2 z3
   rw [er]
   rw [CJ,Dc,Ck]
   cases hb:s.dayB (s.w2 day G.1 G.2) (G.2 * aN day) es
   ·exact ⟨rfl,λF e=>by cases e⟩
   ·refine ⟨rfl,λF e=>?_⟩
    have e:some (s.ownF (s.w2 day G.1 G.2) (G.2 * aN day) es,G.2 * aN day)=some F:=e
    cases e
    have hc0:0 < G.2 * aN day:=CB rel.2.1 hday
    have hpos:∀ e∈es,1<=e.b:=λe he=>by
     obtain ⟨k,hk,rfl⟩:=BJ.mp he
     have h1:k < s.sts.length:=by rw [<- hes.1]; exact hk
     exact (hes.2 k _ _ (As h1) (As hk)).1.pos
    obtain ⟨k1,_,k3⟩:=nC es 1 (by decide) hpos
    refine ⟨k1,hc0,λx y a1 a2 b1 b2=>?_⟩
    obtain ⟨e,he,hz⟩:=oA h hes (p:=(x,y)) ((b8 h).mpr ⟨⟨a1,a2⟩,b1,b2⟩)
    obtain ⟨_,_,_,lk⟩:=gH hes hz
    have hok:=Bm.mp hb _ hz
    obtain ⟨o1,_⟩:=A3.mp hok
    obtain ⟨o1,o2⟩:=of_decide_eq_true o1
    have lk:look (s.sts.zip es) (x,y)=some e:=lk
    show s.stF es x y * (G.2 * aN day)=s.ownF _ _ es x y * bot es
    unfold Shp.stF Shp.ownF
    rw [lk]
    show e.t * (bot es).fdiv e.b * (G.2 * aN day)=s.own2 (s.w2 day G.1 G.2) (G.2 * aN day) (x,y) e.q * bot es
    obtain ⟨s1,s2,_,_⟩:=Gc.jc (t:=s.own2 (s.w2 day G.1 G.2) (G.2 * aN day) (x,y) e.q) (b:=G.2 * aN day) (by omega)
    obtain ⟨w,hw⟩:=k3 e he
    have hw:bot es=e.b * w:=hw
    have hb0:=hpos e he
    rw [hw,Cq _ (by omega)]
    have o1:Gc.cB (s.own2 (s.w2 day G.1 G.2) (G.2 * aN day) (x,y) e.q) (G.2 * aN day)=e.t:=o1
    have o2:Gc.bQ (s.own2 (s.w2 day G.1 G.2) (G.2 * aN day) (x,y) e.q) (G.2 * aN day)=e.b:=o2
    rw [o1] at s1
    rw [o2] at s2
    generalize Gc.den (s.own2 (s.w2 day G.1 G.2) (G.2 * aN day) (x,y) e.q) (G.2 * aN day)=g at s1 s2
    rw [s1]
    generalize G.2 * aN day=C at *
    rw [s2]
    simp only [BL,BI,BF]
end
end Tw
namespace L2
theorem nj {α:Type} {g:DV} {s:DS} {r:Re} {mk:α->PyData} {full:List α} (ok:α->Bool) (I:List α->List Sl->Prop)
  (ht:∀ pre x post ρ,full=pre++x::post->I pre ρ->∃ ρ1,g (mk x) ρ=some ρ1/\((ok x=true/\∃ ρ2,s ρ1=.ret (.next ρ2)/\I (pre++[x]) ρ2)\/(ok x=false/\s ρ1=.ret (.ret r)))) :
  ∀ {xs pre:List α} {ρ:D5},full=pre++xs->I pre ρ->(xs.all ok=true/\∃ ρ2,ck g s (xs.map mk) ρ=.ret (.next ρ2)/\I full ρ2)\/(xs.all ok=false/\ck g s (xs.map mk) ρ=.ret (.ret r))
 | [],pre,ρ,e,h0=>by
  rw [A4] at e
  subst e
  exact .inl ⟨rfl,ρ,rfl,h0⟩
 | x::xs,pre,ρ,e,h0=>by
  obtain ⟨ρ1,e1,hx⟩:=ht pre x xs ρ e h0
  rw [Ax,lu,e1,Tr.of_some,Tr.ret_bind,BG]
  unfold iB
  rcases hx with ⟨o,ρ2,e2,h2⟩ | ⟨o,e2⟩
  ·rw [e2,Tr.ret_bind,gX,o,Bq]
   exact nj ok I ht (by rw [e,Bh]; rfl) h2
  ·rw [e2,Tr.ret_bind,o]
   exact .inr ⟨rfl,rfl⟩
end L2
namespace Tw
open L2
section
variable {s:Shp}
theorem Zat {es:List E2} {G:Int->Int->Int} {g:Pt->E2->Int} (hd:cE s es) (hg:∀ p e,look (s.sts.zip es) p=some e->G p.1 p.2=g p e):s.tb G=(s.sts.zip es).map λx=>(kS x.1,.int (g x.1 x.2)):=by
 have e:s.sts=(s.sts.zip es).map (·.1):=(List.map_fst_zip (by rw [hd.1]; exact Aw _)).symm
 unfold Shp.tb
 have e2:s.sts.map (λp=>(kS p,PyData.int (G p.1 p.2)))=((s.sts.zip es).map (·.1)).map λp=>(kS p,PyData.int (G p.1 p.2)):=by rw [<- e]
 rw [e2,AS]
 refine BD λx hx=>?_
 obtain ⟨_,_,_,lk⟩:=gH hd hx
 show (kS x.1,PyData.int (G x.1.1 x.1.2))=_
 rw [hg x.1 x.2 lk]
theorem Zau {es:List E2} (hd:cE s es) (W:Int->Int->Int) (c:Int):s.tb (s.ownF W c es)=(s.sts.zip es).map λx=>(kS x.1,.int (s.own2 W c x.1 x.2.q)) :=
 Zat (G:=s.ownF W c es) (g:=λp e=>s.own2 W c p e.q) hd λp e lk=>by unfold Shp.ownF; rw [lk]
theorem ZgE {es:List E2} (hd:cE s es):s.tb (s.stF es)=(s.sts.zip es).map λx=>(kS x.1,.int (x.2.t * (bot es).fdiv x.2.b)) :=
 Zat (G:=s.stF es) (g:=λp e=>e.t * (bot es).fdiv e.b) hd λp e lk=>by unfold Shp.stF; rw [lk]
theorem Ze2:∀ (k:Nat) {ds:List (List DZ)} {P:List (List E2)},P.length=ds.length->s.chk (ds.drop k) (P.drop k)=none->s.chk ds P=none
 | 0,_,_,_,h=>h
 | k+1,[],P,hl,h=>by
  rw [DM] at h
  cases h
 | k+1,d::ds,[],hl,h=>by cases hl
 | k+1,d::ds,es::P,hl,h=>by
  rw [Da,Da] at h
  have:=Ze2 k (BV hl) h
  unfold Shp.chk
  rw [this]
  rfl
theorem Zi4 (h:s.Ok) {W:Int->Int->Int} {b:Nat} (hW:eI s b W) {c:Int} (hc:nb b c) {p q:Pt} (hp:p∈s.sts) (hq:q∈s.rzs p):nb (b+101) (s.own2 W c p q):=by
 obtain ⟨z1,z2,z3⟩:=vG h hW hc hp hq
 obtain ⟨⟨q1,q2⟩,q3,q4⟩:=(b8 h).mp z1
 unfold Shp.own2
 exact aO (dO (db hc (gP h z2 z3)) (hW _ _ q1 q2 q3 q4)) (by omega)
theorem Ze3 (h:s.Ok):∀ {ds:List (List DZ)} {P:List (List E2)} {F:Int->Int->Int} {c:Int},(∀ d∈ds,DdB d)->(∀ es∈P,cE s es)->s.chk ds P=some (F,c)->eI s (102+250 * ds.length) F/\nb (102+250 * ds.length) c/\0 < c
 | [],P,F,c,_,_,e=>by
  unfold Shp.chk at e
  cases e
  exact ⟨λx y a1 a2 b1 b2=>aO (dO (lx h x a1 a2) (lx h y b1 b2)) (by decide),aO (show nb 102 (1:Int) from bS (by decide) (by decide)) (by decide),by decide⟩
 | day::r,[],F,c,_,_,e=>by cases e
 | day::r,es::P,F,c,hd,hP,e=>by
  unfold Shp.chk at e
  cases hc:s.chk r P with
  | none=>rw [hc] at e; cases e
  | some G =>
   rw [hc,CJ] at e
   obtain ⟨k1,k2,k3⟩:=Ze3 h (F:=G.1) (c:=G.2) (λd hd'=>hd d (Az _ hd')) (λe he=>hP e (Az _ he)) hc
   have hday:=hd day (AB ..)
   have hes:=hP es (AB ..)
   split at e
   ·cases e
    have c1:nb (102+250 * r.length+20) (G.2 * aN day):=db k2 (gJ hday)
    have hW:eI s (102+250 * r.length+120) (s.w2 day G.1 G.2):=l0 h hday k1 k2
    refine ⟨λx y a1 a2 b1 b2=>?_,aO c1 (by rw [Au]; omega),CB k3 hday.pos⟩
    obtain ⟨e,he,hz⟩:=oA h hes (p:=(x,y)) ((b8 h).mpr ⟨⟨a1,a2⟩,b1,b2⟩)
    obtain ⟨z1,_,z3,lk⟩:=gH hes hz
    have lk:look (s.sts.zip es) (x,y)=some e:=lk
    unfold Shp.ownF
    rw [lk]
    exact aO (Zi4 h hW (aO c1 (by omega)) z1 z3) (by rw [Au]; omega)
   ·cases e
end
end Tw
namespace L2
theorem ZiA {y b:Pr} (h:HT.cx y b=true):y.1<=b.1:=by
 unfold HT.cx at h
 split at h
 ·omega
 ·have:=of_decide_eq_true h
  omega
theorem ZiB {y b:Pr} (h:¬ HT.cx y b=true):b.1<=y.1:=by
 unfold HT.cx at h
 split at h
 ·omega
 ·have:¬ y.1 < b.1:=λz=>h (decide_eq_true z)
  omega
theorem Znp:∀ {ps:List Pr} {x:Pr},x∈ps->(fV ps).1<=x.1
 | [],x,h=>by cases h
 | y::r,x,h=>by
  have key:∀ (r:List Pr) (b:Pr),(r.foldl (λb y=>if HT.cx y b=true then y else b) b).1<=b.1/\∀ x∈r,(r.foldl (λb y=>if HT.cx y b=true then y else b) b).1<=x.1:=by
   intro r
   induction r with
   | nil=>intro b; exact ⟨B0 _,nofun⟩
   | cons y r ih =>
    intro b
    rw [BR]
    obtain ⟨i1,i2⟩:=ih (if HT.cx y b=true then y else b)
    have hb:(if HT.cx y b=true then y else b).1<=b.1/\(if HT.cx y b=true then y else b).1<=y.1:=by
     by_cases z:HT.cx y b=true
     ·rw [if_pos z]; exact ⟨ZiA z,B0 _⟩
     ·rw [if_neg z]; exact ⟨B0 _,ZiB z⟩
    refine ⟨Int.le_trans i1 hb.1,λx hx=>?_⟩
    rcases AO.mp hx with rfl | hx
    ·exact Int.le_trans i1 hb.2
    ·exact i2 x hx
  obtain ⟨k1,k2⟩:=key r y
  show (r.foldl (λb y=>if HT.cx y b=true then y else b) y).1<=x.1
  rcases AO.mp h with rfl | h
  ·exact k1
  ·exact k2 x h
end L2
namespace Tw
open L2
noncomputable def my:List Int->Pt
 | [a,b]=>(a,b)
 | _=>(0,0)
noncomputable def Shp.pkE (s:Shp) (day:List DZ) (r:List (List DZ)) (p:Pt):E2:=⟨Gc.cB (s.pick day r p).1 ((s.dk r).2 * aN day),Gc.bQ (s.pick day r p).1 ((s.dk r).2 * aN day),my (s.pick day r p).2⟩
noncomputable def Shp.tbE (s:Shp):List (List DZ)->List (List E2)
 | []=>[]
 | day::r=>(s.sts.map (s.pkE day r))::Shp.tbE s r
section
variable {s:Shp}
theorem pA (h:s.Ok) {day:List DZ} {r:List (List DZ)} {p:Pt} (hp:p∈s.sts):∃ q∈s.rzs p,s.pick day r p=(s.own2 (s.w2 day (s.dk r).1 (s.dk r).2) ((s.dk r).2 * aN day) p q,kS q)/\∀ o∈s.rzs p,(s.pick day r p).1<=s.own2 (s.w2 day (s.dk r).1 (s.dk r).2) ((s.dk r).2 * aN day) p o:=by
 obtain ⟨q,hq,e⟩:=Zfn h (W:=s.w2 day (s.dk r).1 (s.dk r).2) (c:=(s.dk r).2 * aN day) hp
 exact ⟨q,hq,e,λo ho=>Znp (AV.mpr ⟨o,ho,rfl⟩)⟩
theorem Zax (h:s.Ok):∀ ds:List (List DZ),s.dtab ds=(s.tbE ds).map λes=>.tuple (es.map E2.d)
 | []=>rfl
 | day::r=>by
  rw [Shp.dtab,Shp.tbE,Ax,Zax h r]
  congr 2
  unfold Shp.ddayL
  rw [AS]
  refine BD λp hp=>?_
  obtain ⟨q,hq,e,_⟩:=pA h (day:=day) (r:=r) hp
  show _=PyData.tuple [.tuple [.int (Gc.cB (s.pick day r p).1 ((s.dk r).2 * aN day)),.int (Gc.bQ (s.pick day r p).1 ((s.dk r).2 * aN day))],aq (my (s.pick day r p).2)]
  rw [e]
  rfl
theorem Zaw:∀ ds:List (List DZ),(s.tbE ds).length=ds.length
 | []=>rfl
 | day::r=>by rw [Shp.tbE,Au,Au,Zaw r]
theorem ZcG (h:s.Ok) {day:List DZ} {r:List (List DZ)} (hd:∀ d∈day::r,DdB d):cE s (s.sts.map (s.pkE day r)):=by
 have hc:0 < (s.dk r).2 * aN day:=(jZ h hd).2.2
 refine ⟨At ..,λk p e h1 h2=>?_⟩
 rw [AM,h1] at h2
 cases h2
 obtain ⟨q,hq,e,_⟩:=pA h (day:=day) (r:=r) (Bj h1)
 obtain ⟨_,_,g1,g2⟩:=Gc.jc (t:=(s.pick day r p).1) (b:=(s.dk r).2 * aN day) (by omega)
 refine ⟨⟨g1,g2⟩,?_⟩
 show my (s.pick day r p).2∈_
 rw [e]
 exact hq
theorem Zaz (h:s.Ok):∀ {ds:List (List DZ)},(∀ d∈ds,DdB d)->∀ es∈s.tbE ds,cE s es
 | [],_,es,hm=>by cases hm
 | day::r,hd,es,hm=>by
  rw [Shp.tbE] at hm
  rcases AO.mp hm with rfl | hm
  ·exact ZcG h hd
  ·exact Zaz h (λd hd'=>hd d (Az _ hd')) es hm
structure GdB (s:Shp) (S:Int) (n:Nat) (P:List (List E2)):Prop where
 pos:0 < S
 nb:Tw.nb 560 S
 len:P.length=n
 day:∀ es∈P,cE s es
 ent:∀ es∈P,∀ e∈es,Tw.nb 560 e.t/\1<=e.b/\Tw.nb 560 e.b/\e.b ∣ S
theorem Zay (h:s.Ok):∀ {ds:List (List DZ)},(∀ d∈ds,DdB d)->ds.length<=3->∀ es∈s.tbE ds,∀ e∈es,nb 560 e.t/\1<=e.b/\nb 560 e.b/\e.b ∣ (s.dk ds).2
 | [],_,_,es,hm,_,_=>by cases hm
 | day::r,hd,hl,es,hm,e,he=>by
  rw [Au] at hl
  obtain ⟨k1,k2,k3⟩:=jZ h (ds:=day::r) hd
  rw [Au] at k1 k2
  have hc:(s.dk (day::r)).2=(s.dk r).2 * aN day:=rfl
  rw [hc] at k2 k3 ⊢
  rw [Shp.tbE] at hm
  rcases AO.mp hm with rfl | hm
  ·obtain ⟨p,hp,rfl⟩:=AV.mp he
   obtain ⟨⟨a1,a2⟩,b1,b2⟩:=(b8 h).mp hp
   have n1:nb 560 (s.pick day r p).1:=aO (k1 p.1 p.2 a1 a2 b1 b2) (by omega)
   obtain ⟨g0,g00,g1,g2⟩:=Gc.jc (t:=(s.pick day r p).1) (b:=(s.dk r).2 * aN day) (by omega)
   obtain ⟨m1,m2⟩:=yn n1 (aO k2 (show 102+150 * (r.length+1)<=560 by omega)) (show (s.dk r).2 * aN day≠0 by omega)
   exact ⟨m1,g1,m2,⟨_,g00.trans (BI _ _)⟩⟩
  ·obtain ⟨w1,w2,w3,w4⟩:=Zay h (λd hd'=>hd d (Az _ hd')) (by omega) es hm e he
   exact ⟨w1,w2,w3,Dg w4 ⟨_,rfl⟩⟩
theorem wM (h:s.Ok) {ds:List (List DZ)} (hd:∀ d∈ds,DdB d) (hl:ds.length<=3):GdB s (s.dk ds).2 ds.length (s.tbE ds):=by
 obtain ⟨k1,k2,k3⟩:=jZ h hd
 exact ⟨k3,aO k2 (by omega),Zaw ds,Zaz h hd,Zay h hd hl⟩
theorem wN (h:s.Ok):∀ {ds:List (List DZ)},(∀ d∈ds,DdB d)->∃ F,s.chk ds (s.tbE ds)=some (F,(s.dk ds).2)/\∀ x y,-s.depth<=x->x<=s.top->-s.depth<=y->y<=s.top->F x y=(s.dk ds).1 x y
 | [],_=>⟨_,rfl,λ_ _ _ _ _ _=>rfl⟩
 | day::r,hd=>by
  have hr:∀ d∈r,DdB d:=λd hd'=>hd d (Az _ hd')
  obtain ⟨F,e,hF⟩:=wN h hr
  have k3:=(jZ h hr).2.2
  have hday:=hd day (AB ..)
  have hc:0 < (s.dk r).2 * aN day:=(jZ h hd).2.2
  have rl:nV s (F,(s.dk r).2) ((s.dk r).1,(s.dk r).2):=⟨k3,k3,λx y a1 a2 b1 b2=>by show F x y * _=(s.dk r).1 x y * _; rw [hF x y a1 a2 b1 b2]⟩
  have hw:∀ y1 y2,-s.depth<=y1->y1<=s.top->-s.depth<=y2->y2<=s.top->s.w2 day F (s.dk r).2 y1 y2=s.w2 day (s.dk r).1 (s.dk r).2 y1 y2:=λy1 y2 a1 a2 b1 b2=>by
   have q:=ZbV h rl day a1 a2 b1 b2
   exact B1 (by show (s.dk r).2≠0; omega) q
  have hes:=ZcG h hd
  have ho:∀ p∈s.sts,∀ q∈s.rzs p,s.own2 (s.w2 day F (s.dk r).2) ((s.dk r).2 * aN day) p q=s.own2 (s.w2 day (s.dk r).1 (s.dk r).2) ((s.dk r).2 * aN day) p q:=λp hp q hq=>by
   obtain ⟨⟨a1,a2⟩,b1,b2⟩:=(b8 h).mp hp
   obtain ⟨⟨q1,q2⟩,q3,q4⟩:=(gM a2 b2).mp hq
   unfold Shp.own2
   rw [hw q.1 q.2 (by omega) q2 (by omega) q4]
  have hz:∀ x∈s.sts.zip (s.sts.map (s.pkE day r)),x.1∈s.sts/\x.2=s.pkE day r x.1:=λx hx=>by
   have e1:s.sts.zip (s.sts.map (s.pkE day r))=s.sts.map λp=>(p,s.pkE day r p):=by
    have:∀ l:List Pt,l.zip (l.map (s.pkE day r))=l.map λp=>(p,s.pkE day r p):=λl=>by
     induction l with
     | nil=>rfl
     | cons a l ih=>rw [Ax,A1,ih]; rfl
    exact this _
   rw [e1] at hx
   obtain ⟨p,hp,rfl⟩:=AV.mp hx
   exact ⟨hp,rfl⟩
  have hb:s.dayB (s.w2 day F (s.dk r).2) ((s.dk r).2 * aN day) (s.sts.map (s.pkE day r))=true:=by
   unfold Shp.dayB
   rw [Bm]
   intro x hx
   obtain ⟨hp,ex⟩:=hz x hx
   obtain ⟨q,hq,e1,e2⟩:=pA h (day:=day) (r:=r) hp
   have eq:x.2.q=q:=by rw [ex]; show my (s.pick day r x.1).2=q; rw [e1]; rfl
   have ev:s.own2 (s.w2 day F (s.dk r).2) ((s.dk r).2 * aN day) x.1 q=(s.pick day r x.1).1:=by rw [ho x.1 hp q hq,e1]
   unfold Shp.okB
   rw [eq,ev,AU]
   refine ⟨decide_eq_true ⟨by rw [ex]; rfl,by rw [ex]; rfl⟩,?_⟩
   rw [Bm]
   intro o hoo
   have:=e2 o hoo
   rw [ho x.1 hp o hoo,decide_eq_false (by omega)]
   rfl
  refine ⟨s.ownF (s.w2 day F (s.dk r).2) ((s.dk r).2 * aN day) (s.sts.map (s.pkE day r)),?_,λx y a1 a2 b1 b2=>?_⟩
  ·rw [Shp.tbE]
   unfold Shp.chk
   rw [e,CJ]
   show (if s.dayB (s.w2 day F (s.dk r).2) ((s.dk r).2 * aN day) (s.sts.map (s.pkE day r))=true then _ else _)=_
   rw [if_pos hb]
   rfl
  ·have hp:(x,y)∈s.sts:=(b8 h).mpr ⟨⟨a1,a2⟩,b1,b2⟩
   obtain ⟨e0,he,hzz⟩:=oA h hes hp
   obtain ⟨_,ex⟩:=hz _ hzz
   obtain ⟨_,_,_,lk⟩:=gH hes hzz
   have lk:look (s.sts.zip (s.sts.map (s.pkE day r))) (x,y)=some e0:=lk
   have ex:e0=s.pkE day r (x,y):=ex
   obtain ⟨q,hq,e1,e2⟩:=pA h (day:=day) (r:=r) hp
   unfold Shp.ownF
   rw [lk]
   show s.own2 _ _ (x,y) e0.q=_
   have eq:e0.q=q:=by rw [ex]; show my (s.pick day r (x,y)).2=q; rw [e1]; rfl
   rw [eq,ho (x,y) hp q hq]
   show _=(s.pick day r (x,y)).1
   rw [e1]
end
end Tw
namespace L2
noncomputable def ZcJ (c:Addr) (at' left:Int):HO:=.lst [.ref c,.int at',.int left]
structure Pen2 (H:Hp) (p c:Addr) (ns:DZ) (m:Nat):Prop where
 ex:∃ (k:Nat) (left:Int),H p=some (ZcJ c k left)/\k<=m/\0<=left
 cells:H c=some (.lst (ns.map V.int))
 len:ns.length<=63
 ne:c≠p
def ZaN:Sp:=λvs H Q _=>∃ (p c:Addr) (ns:DZ) (m:Nat) (most:Int),vs=[.ref p,.int most]/\Pen2 H p c ns m/\m<=500000/\0 < most/\most < 1073741824 /\
 ∀ (r:Int) (H':Hp),0<=r->r < most->Pen2 H' p c ns (m+1)->Kept p H H'->Q (.int r) H'
def Zhc (K:DO):Sp:=λvs H Q _=>∃ (a:Addr) (ns:DZ),vs=[.ref a]/\SqL K H a (ns.map V.int)/\ns.length<=63 /\
 ∀ (p c:Addr) (H':Hp),H p=none->Pen2 H' p c ns 0->Same H H'->Q (.ref p) H'
noncomputable def bw (cn:Addr×DZ):Pk where
 is:=λo G m=>∃ (k:Nat) (left:Int),o=ZcJ cn.1 k left/\k<=m/\0<=left/\G cn.1=some (.lst (cn.2.map V.int))/\cn.2.length<=63
 mono:=λs ⟨k,left,e,h1,h2,h3,h4⟩=>⟨k,left,e,h1,h2,s _ _ h3,h4⟩
theorem ZiC {cn:Addr×DZ}:PkLow (bw cn):=⟨λ⟨_,_,_,_,_,h3,_⟩ _ ⟨k,left,e,h1,h2,_,h4⟩=>⟨k,left,e,h1,h2,h3,h4⟩⟩
theorem Zis {ι:Type} {X:Cx} {e:List Stmt} {t:ι->TS} (h:∀ i,PSs X e (t i)):PSs X e (λD σ H=>∃ i,t i D σ H):=λpins s σ H D I z=>by
 obtain ⟨i,z⟩:=z
 exact h i pins s σ H D I z
noncomputable def qg:DT:=λas=>match as with
 | [.pen,.d (.int most)]=>.draw most λr=>.ret (.d (.int r))
 | _=>.fail
theorem ZeK {as:D5} {m:Nat} {Z:Nat->Re->Prop} (h:(qg as).ok m Z):∃ most,as=[.pen,.d (.int most)]:=by
 unfold qg at h
 split at h
 ·exact ⟨_,rfl⟩
 ·exact h.elim
theorem Zlz {cn:Addr×DZ} {P:Program} {w:World} {K:DO} {mg:D4} {base:Heap} {x:Str} {k:Nat} {ps:D2} (hp:ps.length=2) (C:Callee P w K mg base x k ps ZaN):ACal (bw cn) P w K mg base x k ps qg:=by
 refine ⟨?_,λas m Z h=>by obtain ⟨most,rfl⟩:=ZeK h; exact hp.symm⟩
 obtain ⟨f,fd,F,hm,hk,hb⟩:=C.ex
 refine ⟨f,fd,F.imp λvs H Q E h=>?_,hm,hk,hb⟩
 obtain ⟨hv,pa,m,G,as,wd,ar,z⟩:=h
 obtain ⟨most,rfl⟩:=ZeK z
 obtain ⟨h1,h2,h3,h4⟩:=z
 cases ar with
 | cons a1 ar =>
  cases ar with
  | cons a2 ar =>
   cases ar
   cases a1
   cases a2 with
   | d d2 =>
    cases d2
    obtain ⟨c,ns⟩:=cn
    obtain ⟨o,ho,kk,left,rfl,q1,q2,q3,q4⟩:=wd.pen
    replace q3:G c=some (.lst (ns.map V.int)):=q3
    have ncp:c≠pa:=λz=>by rw [z,wd.gpa] at q3; cases q3
    refine ⟨pa,c,ns,m,most,rfl,⟨⟨kk,left,ho,q1,q2⟩,wd.sub _ _ q3,q4,ncp⟩,by omega,h2,h3,λr H' r0 r1 P' K'=>?_⟩
    refine h4 r r0 r1 (.int r) G H' ⟨λ_ _ q=>q,λ_ _ q=>.inl q,λb o e n=>K' b o e n⟩ ⟨λb o e=>K' b o (wd.sub b o e) (λz=>by subst z; rw [wd.gpa] at e; cases e),wd.gpa,?_⟩ (.int r)
    obtain ⟨⟨k2,l2,e2,g1,g2⟩,_,_,_⟩:=P'
    exact ⟨_,e2,k2,l2,rfl,g1,g2,q3,q4⟩
noncomputable def ZaM:DO->Sp:=λK vs H Q _=>∃ (a:Addr) (ns:DZ),vs=[.ref a]/\SqL K H a (ns.map V.int)/\ns.length<=63/\∀ H',Q (.bl true) H'
theorem Zj4 {D:Ends} {p c:Addr} {ns:DZ} {H:Hp} {σ:St} {s:DS} {n:Nat} (P:Pen2 H p c ns 0) (hσ:σ.length=n+2) (h1:σ[1]?=some (some (.ref p))) (hrt:∀ H',D.rt (.bl true) H')
  (h:(s (.un::.pen::List.replicate n .un)).ok 0 λ_ o=>o=.ret (.d (.bool true))):∃ cn,bH (bw cn) s D σ H:=by
 obtain ⟨⟨k,l,e,hk,hl⟩,hc,hn,ncp⟩:=P
 have npc:p≠c:=Ne.symm ncp
 have key:∀ (i:Nat) (sl:Sl),(Sl.un::.pen::List.replicate n .un)[i]?=some sl->sl=.un\/(i=1/\sl=.pen):=λi sl hi=>by
  match i with
  | 0=>simp at hi; exact .inl hi.symm
  | 1=>simp at hi; exact .inr ⟨rfl,hi.symm⟩
  | i+2 =>
   simp [Bb] at hi
   exact .inl hi.2.symm
 refine ⟨(c,ns),p,λb=>if b=c then H c else none,H,0,_,λb=>if b=c then H c else none,⟨⟨λb o hb=>?_,if_neg npc,?_⟩,.refl,⟨_,e⟩,λi sl hi=>?_,by simp [hσ],λi j xs ys _ hi _=>?_,λi j xs ys _ hi _=>by rcases key i _ hi with z | ⟨_,z⟩ <;> cases z⟩,Tr.ok_mono h λm o ho=>?_⟩
 ·by_cases hbc:b=c
  ·subst hbc; simpa using hb
  ·simp [hbc] at hb
 ·exact ⟨_,e,k,l,rfl,hk,hl,by simp [hc],hn⟩
 ·have hlt:i < σ.length:=by
   have:=(Ay.mp hi).1
   simp at this
   omega
  rcases key i sl hi with rfl | ⟨rfl,rfl⟩
  ·exact ⟨σ[i],by simp [hlt],.un⟩
  ·exact ⟨_,h1,.pen⟩
 ·rcases key i _ hi with z | ⟨_,z⟩ <;> cases z
 ·subst ho
  intro v G H' s' w' d
  cases (show Dn G v (.bool true) from d)
  exact hrt H'
end L2
namespace My
open L2
noncomputable def top (i:Nat):Stmt:=PySem.Challenge.pw_twomarks_k48_double_papers.main.body.getD i (.Pass ⟨0,0,0,0⟩)
noncomputable abbrev Zbe:Stmt:=top 4
abbrev Zn4:D2:=["thing"]
theorem Zhw:FnScope Zn4 ["thing"] (aP Zbe):=by trivial
noncomputable abbrev Zbd:Stmt:=top 5
abbrev Zn3:D2:=["thing","lowest","highest"]
theorem Zhv:FnScope Zn3 ["thing","lowest","highest"] (aP Zbd):=by trivial
noncomputable abbrev Zbk:Stmt:=top 7
abbrev Zoa:D2:=["one","other"]
theorem wX:FnScope Zoa ["one","other"] (aP Zbk):=by trivial
noncomputable abbrev Zbf:Stmt:=top 8
abbrev Zn5:D2:=["thing","top","bottom"]
theorem wV:FnScope Zn5 ["thing"] (aP Zbf):=by trivial
noncomputable abbrev Za8:Stmt:=top 9
abbrev ZnX:D2:=["top","bottom","divisor"]
theorem wU:FnScope ZnX ["top","bottom"] (aP Za8):=by trivial
noncomputable abbrev Za7:Stmt:=top 20
abbrev ZnW:D2:=["shop"]
theorem Zhq:FnScope ZnW ["shop"] (aP Za7):=by trivial
noncomputable abbrev Zbg:Stmt:=top 21
abbrev Zn6:D2:=["shop","stock","thing"]
theorem Zhy:FnScope Zn6 ["shop","stock","thing"] (aP Zbg):=by trivial
noncomputable abbrev Zba:Stmt:=top 22
abbrev ZnZ:D2:=["shop","stock","level"]
theorem Zht:FnScope ZnZ ["shop","stock","level"] (aP Zba):=by trivial
noncomputable abbrev Zbb:Stmt:=top 23
abbrev Zn0:D2:=["shop","level","fall"]
theorem Zhu:FnScope Zn0 ["shop","level","fall"] (aP Zbb):=by trivial
noncomputable abbrev Zbj:Stmt:=top 24
abbrev Zn9:D2:=["shop","level","fall","stock","sold_never","held"]
theorem oP:FnScope Zn9 ["shop","level","fall"] (aP Zbj):=by trivial
noncomputable abbrev Zbi:Stmt:=top 25
abbrev Zn8:D2:=["shop","stock"]
theorem ZhB:FnScope Zn8 ["shop","stock"] (aP Zbi):=by trivial
noncomputable abbrev xj:Stmt:=top 27
abbrev wc:D2:=["day"]
theorem ZhC:FnScope wc ["day"] (aP xj):=by trivial
noncomputable abbrev xa:Stmt:=top 28
abbrev nW:D2:=["shop"]
theorem Zhr:FnScope nW ["shop"] (aP xa):=by trivial
noncomputable abbrev xb:Stmt:=top 29
abbrev nX:D2:=["shop","stand","one","other","top"]
theorem oO:FnScope nX ["shop","stand"] (aP xb):=by trivial
noncomputable abbrev Za9:Stmt:=top 30
abbrev ZnY:D2:=["shop","stand","raised"]
theorem Zhs:FnScope ZnY ["shop","stand","raised"] (aP Za9):=by trivial
noncomputable abbrev xi:Stmt:=top 31
abbrev n5:D2:=["shop"]
theorem ZhA:FnScope n5 ["shop"] (aP xi):=by trivial
noncomputable abbrev Za6:Stmt:=top 32
abbrev ZnV:D2:=["shop","day","raised","ahead","scale","first","second","total","fall","line","other","weight","cost","following"]
theorem gt:FnScope ZnV ["shop","day","raised","ahead","scale"] (aP Za6):=by trivial
noncomputable abbrev xn:Stmt:=top 33
abbrev wg:D2:=["shop","day","ahead","scale"]
theorem ZhE:FnScope wg ["shop","day","ahead","scale"] (aP xn):=by trivial
noncomputable abbrev xm:Stmt:=top 34
abbrev wf:D2:=["shop","stand","behind","scale"]
theorem ZhD:FnScope wf ["shop","stand","behind","scale"] (aP xm):=by trivial
noncomputable abbrev mh:Stmt:=top 35
abbrev fY:D2:=["shop","double","days","ahead","scale","day","behind","picks"]
theorem hZ:FnScope fY ["shop","double"] (aP mh):=by trivial
noncomputable abbrev xf:Stmt:=top 36
abbrev nY:D2:=["shop","stand","thing"]
theorem Zhx:FnScope nY ["shop","stand","thing"] (aP xf):=by trivial
noncomputable abbrev Zbh:Stmt:=top 37
abbrev Zn7:D2:=["shop","stand","thing","cost","raised"]
theorem wW:FnScope Zn7 ["shop","stand","thing"] (aP Zbh):=by trivial
noncomputable abbrev xg:Stmt:=top 38
abbrev nZ:D2:=["shop","thing","own"]
theorem Za3:FnScope nZ ["shop","thing"] (aP xg):=by trivial
noncomputable abbrev xh:Stmt:=top 39
abbrev wb:D2:=["shop","double","thing"]
theorem Zhz:FnScope wb ["shop","double","thing"] (aP xh):=by trivial
noncomputable abbrev xk:Stmt:=top 40
abbrev we:D2:=["shop","entries","behind","scale","costs","stand","cost","raised","own"]
theorem kz:FnScope we ["shop","entries","behind","scale"] (aP xk):=by trivial
noncomputable abbrev Zbc:Stmt:=top 41
abbrev Zn1:D2:=["shop","double","thing","ahead","scale","t","behind"]
theorem jG:FnScope Zn1 ["shop","double","thing"] (aP Zbc):=by trivial
noncomputable abbrev Zbo:Stmt:=top 43
abbrev Zoe:D2:=["_law_script"]
theorem ZhG:FnScope Zoe ["_law_script"] (aP Zbo):=by trivial
noncomputable abbrev Zbw:Stmt:=top 44
abbrev Zom:D2:=["_law_pen_here","_law_many","_law_digit","_law_at","_law_cell","_law_mixed"]
theorem kB:FnScope Zom ["_law_pen_here","_law_many"] (aP Zbw):=by trivial
noncomputable abbrev oW:Stmt:=top 45
abbrev iK:D2:=["_law_pen_here","_law_bound","_law_wide","_law_rows"]
theorem oU:FnScope iK ["_law_pen_here"] (aP oW):=by trivial
noncomputable abbrev xo:Stmt:=top 46
abbrev wj:D2:=["_law_pen_here","_law_bound","_law_top","_law_prices"]
theorem oQ:FnScope wj ["_law_pen_here"] (aP xo):=by trivial
noncomputable abbrev xt:Stmt:=top 47
abbrev wo:D2:=["_law_pen_here"]
theorem ZhJ:FnScope wo ["_law_pen_here"] (aP xt):=by trivial
noncomputable abbrev Zbl:Stmt:=top 48
abbrev Zob:D2:=["_law_shop_here"]
theorem ZhF:FnScope Zob ["_law_shop_here"] (aP Zbl):=by trivial
noncomputable abbrev Zbq:Stmt:=top 49
abbrev Zog:D2:=["_law_shop_here","_law_level","_law_fall","_law_stock","_law_never"]
theorem wZ:FnScope Zog ["_law_shop_here","_law_level","_law_fall"] (aP Zbq):=by trivial
noncomputable abbrev Zbv:Stmt:=top 50
abbrev Zol:D2:=["_law_shop_here","_law_stock"]
theorem ZhI:FnScope Zol ["_law_shop_here","_law_stock"] (aP Zbv):=by trivial
noncomputable abbrev Zbp:Stmt:=top 51
abbrev Zof:D2:=["_law_shop_here","_law_stand","_law_goal","_law_many"]
theorem Za4:FnScope Zof ["_law_shop_here","_law_stand","_law_goal"] (aP Zbp):=by trivial
noncomputable abbrev Zbr:Stmt:=top 52
abbrev Zoh:D2:=["_law_shop_here","_law_one","_law_later_here","_law_bottom","_law_goal","_law_found","_law_i","_law_line","_law_first","_law_stock","_law_j","_law_weight","_law_second","_law_other","_law_here"]
theorem gb:FnScope Zoh ["_law_shop_here","_law_one","_law_later_here","_law_bottom","_law_goal"] (aP Zbr):=by trivial
noncomputable abbrev Zbu:Stmt:=top 53
abbrev Zok:D2:=["_law_shop_here","_law_found","_law_one","_law_other"]
theorem oT:FnScope Zok ["_law_shop_here"] (aP Zbu):=by trivial
noncomputable abbrev Zbm:Stmt:=top 54
abbrev Zoc:D2:=["_law_top","_law_bottom","_law_one","_law_other"]
theorem wY:FnScope Zoc ["_law_top","_law_bottom"] (aP Zbm):=by trivial
noncomputable abbrev Zbt:Stmt:=top 55
abbrev Zoj:D2:=["_law_thing"]
theorem ZhH:FnScope Zoj ["_law_thing"] (aP Zbt):=by trivial
noncomputable abbrev xq:Stmt:=top 56
abbrev wl:D2:=["_law_shop_here","_law_stand","_law_thing","_law_numbers"]
theorem Za5:FnScope wl ["_law_shop_here","_law_stand","_law_thing"] (aP xq):=by trivial
noncomputable abbrev xr:Stmt:=top 57
abbrev wm:D2:=["_law_shop_here","_law_double_here","_law_thing","_law_stands","_law_row"]
theorem w8:FnScope wm ["_law_shop_here","_law_double_here","_law_thing"] (aP xr):=by trivial
noncomputable abbrev xp:Stmt:=top 58
abbrev wk:D2:=["_law_shop_here","_law_rows","_law_bottom","_law_cost","_law_goal","_law_stands"]
theorem kA:FnScope wk ["_law_shop_here","_law_rows"] (aP xp):=by trivial
noncomputable abbrev oV : Stmt := top 59
noncomputable abbrev kg : D2 := ["_law_shop_here", "_law_one", "_law_row", "_law_later_here", "_law_bottom", "_law_whole", "_law_stands", "_law_means", "_law_stand", "_law_cost", "_law_goal", "_law_other"]
theorem iR : FnScope kg ["_law_shop_here", "_law_one", "_law_row", "_law_later_here", "_law_bottom"] (aP oV) := ⟨rfl, rfl, rfl, by trivial, rfl, by trivial, by trivial⟩
noncomputable abbrev Zbs:Stmt:=top 60
abbrev Zoi:D2:=["_law_shop_here","_law_double_here","_law_thing","_law_t","_law_later_here","_law_bottom"]
theorem oS:FnScope Zoi ["_law_shop_here","_law_double_here","_law_thing"] (aP Zbs):=by trivial
noncomputable abbrev kC:Stmt:=top 61
abbrev fZ:D2:=["_law_pen_here","_law_shop_here","_law_double_here","_law_paper","_law_found","_law_t","_law_later_here","_law_bottom","_law_whole","_law_stands","_law_means","_law_row","_law_stand","_law_cost","_law_goal","_law_some","_law_here"]
theorem eV:FnScope fZ ["_law_pen_here","_law_shop_here","_law_double_here","_law_paper"] (aP kC):=by trivial
noncomputable abbrev Zbx:Stmt:=top 62
abbrev Zon:D2:=["_law_pen_here","_law_shop_here","_law_entry","_law_way","_law_by","_law_cost","_law_goal","_law_other","_law_odd","_law_some"]
theorem gL:FnScope Zon ["_law_pen_here","_law_shop_here","_law_entry"] (aP Zbx):=by trivial
noncomputable abbrev Zby:Stmt:=top 63
abbrev Zoo:D2:=["_law_pen_here","_law_shop_here","_law_paper","_law_way","_law_t","_law_row","_law_at","_law_entry","_law_some"]
theorem jI:FnScope Zoo ["_law_pen_here","_law_shop_here","_law_paper"] (aP Zby):=by trivial
noncomputable abbrev Zbn:Stmt:=top 64
abbrev Zod:D2:=["_law_shop_here","_law_double_here","_law_thing","_law_kept","_law_due","_law_again"]
theorem oR:FnScope Zod ["_law_shop_here","_law_double_here","_law_thing"] (aP Zbn):=by trivial
noncomputable abbrev xc:Stmt:=top 65
abbrev Zn2:D2:=["_law_script","_law_pen_here","_law_shop_here","_law_double_here","_law_table","_law_papers","_law_k"]
theorem jH:FnScope Zn2 ["_law_script"] (aP xc):=by trivial
structure Txt (K:DO) (mg:D4):Prop where
 cF:mg "len"=none
 kO:mg "abs"=none
 kN:mg "max"=none
 Zjw:mg "min"=none
 pO:mg "repr"=none
 yf:mg "int"=none
 mI:mg "list"=none
 dX:mg "tuple"=none
 Zc9:mg "str"=none
 Zdb:mg "bool"=none
 eZ:mg "range"=none
 fx:mg "isinstance"=none
 pN:mg "sorted"=none
 kM:mg "zip"=none
 i6:mg "sum"=none
 yh:mg "all"=none
 Zjx:mg "any"=none
 yg:mg "dict"=none
 pP:mg "enumerate"=none
 Zot:mg "ValueError"=none
 Zda:mg "reversed"=none
 yP:∃ t,mg "TOP"=some (.int 0 t)
 Zd8:∃ t,mg "DEPTH"=some (.int 1 t)
 ZkM:∃ t,mg "START"=some (.int 2 t)
 ZkN:∃ t,mg "PIECE"=some (.int 3 t)
 ZkR:∃ t,mg "KEEP"=some (.int 4 t)
 ZkQ:∃ t,mg "LACK"=some (.int 5 t)
 ZkO:∃ t,mg "LOST"=some (.int 6 t)
 ZkS:∃ t,mg "BACK"=some (.int 7 t)
 ZkP:∃ t,mg "LATE"=some (.int 8 t)
 ZlV:Def K mg "is_whole" Zbe ["thing"]
 ZlU:Def K mg "is_whole_within" Zbd ["thing","lowest","highest"]
 Zl8:Def K mg "common_divisor" Zbk ["one","other"]
 ZlW:Def K mg "is_share" Zbf ["thing"]
 ZlL:Def K mg "share" Za8 ["top","bottom"]
 ZlJ:Def K mg "stocks" Za7 ["shop"]
 ZlY:Def K mg "is_level" Zbg ["shop","stock","thing"]
 ZlP:Def K mg "order_cost" Zba ["shop","stock","level"]
 ZlQ:Def K mg "next_stock" Zbb ["shop","level","fall"]
 Zl6:Def K mg "day_cost" Zbj ["shop","level","fall"]
 Zl4:Def K mg "end_cost" Zbi ["shop","stock"]
 Zl5:Def K mg "day_scale" xj ["day"]
 ZlK:Def K mg "stands" xa ["shop"]
 ZlN:Def K mg "raises_from" xb ["shop","stand"]
 ZlO:Def K mg "raise_cost" Za9 ["shop","stand","raised"]
 Zl3:Def K mg "end_of_both" xi ["shop"]
 ZlI:Def K mg "weighed_both" Za6 ["shop","day","raised","ahead","scale"]
 Zma:Def K mg "behind_raises" xn ["shop","day","ahead","scale"]
 Zl9:Def K mg "cheapest_raise" xm ["shop","stand","behind","scale"]
 ZlS:Def K mg "least_double" mh ["shop","double"]
 ZlX:Def K mg "is_raise" xf ["shop","stand","thing"]
 Zl1:Def K mg "is_double_entry" Zbh ["shop","stand","thing"]
 ZlZ:Def K mg "is_double_paper_day" xg ["shop","thing"]
 Zl0:Def K mg "is_double_paper" xh ["shop","double","thing"]
 Zl7:Def K mg "costs_looked_at" xk ["shop","entries","behind","scale"]
 ZlR:Def K mg "lets_double" Zbc ["shop","double","thing"]
 Zmg:Def K mg "_law_pen" Zbo ["_law_script"]
 Zms:Def K mg "_law_draw" Zbw ["_law_pen_here","_law_many"]
 Zmt:Def K mg "_law_double_day" oW ["_law_pen_here"]
 Zmc:Def K mg "_law_shop" xo ["_law_pen_here"]
 Zmu:Def K mg "_law_double" xt ["_law_pen_here"]
 Zmb:Def K mg "_law_stocks" Zbl ["_law_shop_here"]
 Zmj:Def K mg "_law_one_cost" Zbq ["_law_shop_here","_law_level","_law_fall"]
 Zmr:Def K mg "_law_end" Zbv ["_law_shop_here","_law_stock"]
 Zmi:Def K mg "_law_order" Zbp ["_law_shop_here","_law_stand","_law_goal"]
 Zmk:Def K mg "_law_mean" Zbr ["_law_shop_here","_law_one","_law_later_here","_law_bottom","_law_goal"]
 Zmq:Def K mg "_law_ends" Zbu ["_law_shop_here"]
 Zmd:Def K mg "_law_share" Zbm ["_law_top","_law_bottom"]
 Zmn:Def K mg "_law_is_whole" Zbt ["_law_thing"]
 Zmo:Def K mg "_law_is_entry" xq ["_law_shop_here","_law_stand","_law_thing"]
 Zmp:Def K mg "_law_has_form" xr ["_law_shop_here","_law_double_here","_law_thing"]
 Zmm:Def K mg "_law_later" xp ["_law_shop_here","_law_rows"]
  Zme : Def K mg "_law_row_holds" oV ["_law_shop_here", "_law_one", "_law_row", "_law_later_here", "_law_bottom"]
 Zml:Def K mg "_law_lets" Zbs ["_law_shop_here","_law_double_here","_law_thing"]
 Zmh:Def K mg "_law_other_raises" kC ["_law_pen_here","_law_shop_here","_law_double_here","_law_paper"]
 Zmv:Def K mg "_law_bent_entry" Zbx ["_law_pen_here","_law_shop_here","_law_entry"]
 Zmw:Def K mg "_law_bent" Zby ["_law_pen_here","_law_shop_here","_law_paper"]
 Zmf:Def K mg "_law_right" Zbn ["_law_shop_here","_law_double_here","_law_thing"]
 ZlT:Def K mg "law" xc ["_law_script"]
theorem ZmL (ns:DZ) (a:Nat) (h:ns≠[]):∃ z:Int,bG (ns.map V.int) ((a:Int) % ((ns.map V.int).length:Nat))=some (.int z):=by
 have hl:0 < ns.length:=List.length_pos_iff.mpr h
 have hl':(ns.map V.int).length=ns.length:=At ..
 have e:(a:Int) % ((ns.map V.int).length:Nat)=((a % ns.length:Nat):Int):=by rw [hl']; omega
 have hlt:a % ns.length < ns.length:=Nat.mod_lt _ hl
 rw [e]
 exact ⟨ns[a % ns.length],gC (by rw [AM,As hlt]; rfl)⟩
section
variable {P:Program} {w:World} {K:DO} {mg:D4} {base:Heap}
theorem Zjh (T:Txt K mg):Callee P w K mg base "_law_pen" 1 ["_law_script"] (Zhc K):=by
 refine T.Zmg.ok ZhG (λvs H Q E h=>?_) (λf cdv A outer s H vs Q E hr h=>?_)
 ·obtain ⟨a,ns,rfl,_⟩:=h
  rfl
 ·obtain ⟨a,ns,rfl,hS,hlen,k⟩:=h
  have hu:=fR hr
  refine ⟨_,(kE (iX (ZcL (bx (da (vJ) rfl T.mI boot_list (bx (ZcK ZaV (pv 0) ZcF (ZcE cq)) cf)) (bx cq (bx cq cf)))))),?_⟩
  refine ⟨_,rfl,63,rfl,a,_,rfl,hS,λq hq=>⟨q,_,rfl,Or.inl (SqL.of bY),λc hc=>⟨by show 3<=sizeLine; decide,λp hp=>?_⟩⟩⟩
  have hcut:gk (ns.map V.int) none (some 63)=ns.map V.int:=by
   unfold gk
   have e:HT.aR (ns.map V.int).length (ns.map V.int).length (some 63)=(ns.map V.int).length:=by
    have q:=HT.ZhR (ns.map V.int).length (ns.map V.int).length 63
    rw [At] at q ⊢
    exact q.trans (Cm hlen)
   rw [e]
   show ((ns.map V.int).drop 0).take ((ns.map V.int).length - 0)=_
   rw [BP,Dt,CK]
  have s1:Same H (upd H q (.lst (gk (ns.map V.int) none (some 63)))):=(Same.refl _).new hq
  have s2:=s1.new (o:=.lst (gk (ns.map V.int) none (some 63))) hc
  have s3:=s2.new (o:=.lst [.ref c,.int 0,.int 0]) hp
  have npc:c≠p:=λz=>by
   rw [<- z,bY] at hp
   cases hp
  refine k p c _ (s2.free hp) ⟨⟨0,0,bY,Aw _,B0 _⟩,?_,hlen,npc⟩ s3
  rw [aM npc,bY,hcut]
theorem Znq {z a:Int} (h3:0<=a) (h4:a<=500000):(z % 2147483629+44021 * a+97).natAbs < 2 ^ 64:=by
 have:=CP z (by decide:(2147483629:Int)≠0)
 have:=Cv z (by decide:(0:Int) < 2147483629)
 omega
theorem Zjj (T:Txt K mg):Callee P w K mg base "_law_draw" 1 ["_law_pen_here","_law_many"] ZaN:=by
 refine T.Zms.ok kB (λvs H Q E h=>?_) (λf cdv A outer s H vs Q E hr h=>?_)
 ·obtain ⟨p,c,ns,m,most,rfl,_⟩:=h
  rfl
 ·obtain ⟨p,c,ns,m,most,rfl,hP,hm,h0,h1,k⟩:=h
  have hu:=fR hr
  refine ⟨_,(fr (pj (mx kJ (gv gy (pv 0) cq (λ_ _=>rfl)) cq (nomark _)) (fr (ba (i:=2) kB.nd rfl (.inl rfl) (c8 iZ (gv gy (pv 0) cq (λ_ _=>rfl)) (pv 1)))
 (fr (fu (c8 x8 (gv gy (pv 0) cq (λ_ _=>rfl)) (pv 1)) (mB (pv 0) cq me))
 (kE (iX (pv 2))))) pf)
 (fr (ba (i:=3) kB.nd rfl (.inl rfl) (gv gy (pv 0) cq (λ_ _=>rfl)))
 (fr (fu (c8 jN (pv 3) cq) (mB (pv 0) cq me))
 (fr (ba (i:=4) kB.nd rfl (.inl rfl) (c8 jN (c8 x5 cq (pv 3)) cq))
 (fr (PS.join (pj (mx kJ (aX (cI) rfl T.cF boot_len (bx (gv gy (pv 0) cq (λ_ _=>rfl)) cf)) cq (nomark _)) (kE (ba (i:=4) kB.nd rfl (.inl rfl) (gv gy (gv gy (pv 0) cq (λ_ _=>rfl)) (c8 iZ (pv 3) (aX (cI) rfl T.cF boot_len (bx (gv gy (pv 0) cq (λ_ _=>rfl)) cf))) (λ_ _=>rfl)))) pf))
 (fr (pj (PT.join (PW.pt (Zcy (mx gQ (pv 3) (aX (cI) rfl T.cF boot_len (bx (gv gy (pv 0) cq (λ_ _=>rfl)) cf)) (nomark _)) (Zcx (mx mF (aX (lE) rfl T.kO boot_abs (bx (pv 4) cf)) (c8 ZcU cq cq) (nomark _)))))) (fr (fu (c8 x8 (aX (lE) rfl T.kO boot_abs (bx (pv 4) cf)) (pv 1)) (mB (pv 0) cq me))
 (kE (iX (c8 iZ (aX (lE) rfl T.kO boot_abs (bx (pv 4) cf)) (pv 1))))) pf)
 (fr (ba (i:=5) kB.nd rfl (.inl rfl) (c8 iZ (c8 ZcU (c8 jN (c8 jN (c8 iZ (pv 4) cq) (c8 x5 cq (pv 3))) cq) cq) cq))
 (kE (iX (c8 iZ (c8 x8 (c8 iZ (c8 x5 (pv 5) (c8 jN (c8 jN (c8 iZ (pv 5) cq) (pv 3)) cq)) cq) cq) (pv 1))))))))))),?_⟩
  obtain ⟨⟨a,l,hd,ha,hl⟩,hc,hn,npc⟩:=hP
  have hd':H p=some (.lst [.ref c,.int a,.int l]):=hd
  have x2:bG [V.ref c,.int (a:Int),.int l] 2=some (.int l):=lI
  have x1:bG [V.ref c,.int (a:Int),.int l] 1=some (.int (a:Int)):=lJ
  refine ⟨_,rfl,p,_,_,_,rfl,rfl,SqL.of hd',x2,_,_,rfl,rfl,_,rfl,?_⟩
  refine qt (λhz=>?_) (λhz=>?_)
  ·refine ⟨_,rfl,p,_,_,_,rfl,rfl,SqL.of hd',x2,_,rfl,_,_,rfl,rfl,h0,?_⟩
   refine ⟨_,rfl,p,_,_,_,rfl,rfl,SqL.of hd',x2,_,rfl,_,_,rfl,rfl,⟨h0,h1⟩,_,rfl,p,_,2,2,rfl,rfl,hd',rfl,?_⟩
   refine ⟨_,rfl,k _ _ (CP _ (by omega)) (Cv _ h0) ⟨⟨a,l / most,bY,by omega,Int.ediv_nonneg hl (by omega)⟩,by rw [aM npc]; exact hc,hn,npc⟩ Kept.refl.pen⟩
  ·refine ⟨_,rfl,p,_,_,_,rfl,rfl,SqL.of hd',x1,?_⟩
   refine ⟨_,rfl,_,_,rfl,rfl,_,rfl,p,_,1,1,rfl,rfl,hd',rfl,?_⟩
   have hd1:(upd H p (.lst ([V.ref c,.int (a:Int),.int l].set 1 (.int ((a:Int)+1))))) p=some (.lst [.ref c,.int ((a:Int)+1),.int l]):=bY
   have hc1:(upd H p (.lst ([V.ref c,.int (a:Int),.int l].set 1 (.int ((a:Int)+1))))) c=some (.lst (ns.map V.int)):=by
    rw [aM npc]
    exact hc
   have k1:Kept p H (upd H p (.lst ([V.ref c,.int (a:Int),.int l].set 1 (.int ((a:Int)+1))))):=Kept.refl.pen
   generalize upd H p (.lst ([V.ref c,.int (a:Int),.int l].set 1 (.int ((a:Int)+1))))=H1 at hd1 hc1 k1
   have y0:bG [V.ref c,.int ((a:Int)+1),.int l] 0=some (.ref c):=j7
   refine ⟨_,rfl,_,_,rfl,rfl,.inl ⟨by decide,by decide⟩,_,_,rfl,rfl,?_⟩
   refine ⟨λσ' H'=>∃ (z:Int),σ'=[some (.ref p),some (.int most),none,some (.int a),some (.int z),none]/\H' p=some (.lst [.ref c,.int ((a:Int)+1),.int l])/\H' c=some (.lst (ns.map V.int))/\Kept p H H',?_,?_⟩
   ·refine ⟨_,rfl,p,_,_,_,rfl,rfl,SqL.of hd1,y0,c,_,rfl,.inl (SqL.of hc1),_,_,rfl,rfl,_,rfl,?_⟩
    refine qt (λhne=>?_) (λ_=>?_)
    ·have hpos:0 < (((ns.map V.int).length:Nat):Int):=of_decide_eq_true hne
     have hne':ns≠[]:=by
      rintro rfl
      cases hpos
     obtain ⟨z,hz2⟩:=ZmL ns a hne'
     refine ⟨_,rfl,p,_,_,_,rfl,rfl,SqL.of hd1,y0,_,rfl,_,rfl,p,_,_,_,rfl,rfl,SqL.of hd1,y0,c,_,rfl,.inl (SqL.of hc1),_,_,rfl,rfl,hpos,c,_,_,_,rfl,rfl,SqL.of hc1,hz2,?_⟩
     exact ⟨z,rfl,hd1,hc1,k1⟩
    ·exact ⟨_,rfl,hd1,hc1,k1⟩
   ·rintro σ2 H2 ⟨z,rfl,hd2,hc2,k2⟩
    refine ⟨λ_ H'=>H'=H2,?_,?_⟩
    ·refine ⟨_,rfl,_,rfl,p,_,_,_,rfl,rfl,SqL.of hd2,y0,c,_,rfl,.inl (SqL.of hc2),_,_,rfl,rfl,_,rfl,?_⟩
     refine qt (λ_=>?_) (λ_=>rfl)
     exact ⟨_,rfl,z,rfl,_,_,rfl,rfl,⟨by decide,by decide,by decide⟩,_,_,rfl,rfl,_,rfl,rfl⟩
    ·rintro b H3 rfl
     have ab:0<=(if z < 0 then -z else z):=by split <;> omega
     refine qt (λ_=>?_) (λ_=>?_)
     ·refine ⟨_,rfl,z,rfl,_,rfl,_,_,rfl,rfl,⟨h0,h1⟩,_,rfl,p,_,2,2,rfl,rfl,hd2,rfl,?_⟩
      refine ⟨_,rfl,z,rfl,_,rfl,_,_,rfl,rfl,h0,?_⟩
      refine k _ _ (CP _ (by omega)) (Cv _ h0) ⟨⟨a+1,_,bY,by omega,Int.ediv_nonneg ab (by omega)⟩,by rw [aM npc]; exact hc2,hn,npc⟩ k2.pen
     ·refine ⟨_,rfl,_,_,rfl,rfl,(by show (0:Int) < 2147483629; decide),_,rfl,_,_,rfl,rfl,.inl ⟨by decide,by decide⟩,_,_,rfl,rfl,_,_,rfl,rfl,_,_,rfl,rfl,⟨by decide,by decide,Znq (by omega) (by omega)⟩,_,_,rfl,rfl,(by show (0:Int) < 2147483647; decide),?_⟩
      have m0:0<=((z % 2147483629+44021 * (a:Int)+97) ^ (3:Int).toNat) % 2147483647:=CP _ (by decide)
      have m1:((z % 2147483629+44021 * (a:Int)+97) ^ (3:Int).toNat) % 2147483647 < 2147483647:=Cv _ (by decide)
      refine ⟨_,rfl,_,rfl,_,_,rfl,rfl,(by show (0:Int) < 65421; decide),_,rfl,_,_,rfl,rfl,_,_,rfl,rfl,_,_,rfl,rfl,.inl ⟨Int.lt_of_lt_of_le (by decide) m0,Int.lt_trans m1 (by decide)⟩,?_⟩
      refine ⟨_,_,rfl,rfl,(by show (0:Int) < 2147483587; decide),?_⟩
      refine ⟨_,_,rfl,rfl,⟨by decide,by decide⟩,_,rfl,_,_,rfl,rfl,h0,?_⟩
      exact k _ _ (CP _ (by omega)) (Cv _ h0) ⟨⟨a+1,l,hd2,by omega,hl⟩,hc2,hn,npc⟩ k2
end
theorem notup {cn:Addr×DZ}:wa (bw cn):=λxs G m h=>by obtain ⟨k,left,e,_⟩:=h; cases e
noncomputable section
variable {cn:Addr×DZ} {P:Program} {w:World} {K:DO} {mg:D4} {base:Heap}
def kY:DT:=bv 1 0
 (aZ (ke (eS "int" (aa 0)) (vW (eS "bool" (aa 0)))))
theorem zJ (T:Txt K mg):ACal (bw cn) P w K mg base "is_whole" 1 ["thing"] kY:=bF T.ZlV Zhw rfl λf cdv A outer sh H E hr=>by
 exact (aF (a9 (nP (fI (T:="int") (.inl rfl) rfl (aX fG rfl T.fx boot_isinstance (bx (ac (pv 0)) (bx (fv (v:=.ty "int") rfl T.yf boot_int rfl) cf)))) (nN (ZfV (fI (T:="bool") (Or.inr (.inl rfl)) rfl (aX fG rfl T.fx boot_isinstance (bx (ac (pv 0)) (bx (fv (v:=.ty "bool") rfl T.Zdb boot_bool rfl) cf)))))))))
noncomputable def wy:DR :=
 (cU (aa 1))
noncomputable def yA:DS :=
 (kc 0 1 (af (aa 1) (af (ae i7 (aa 0) (aa 1)) ak)))
def mV:DT:=bv 2 0
 (au (kc 0 1 (af (bc lM (af (aa 0) ak)) (af (bc lM (af (aa 1) ak)) ak)))
 (au (fh wy yA 100000)
 (fX 0)))
theorem Zfl (T:Txt K mg):ACal (bw cn) P w K mg base "common_divisor" 1 ["one","other"] mV:=bF T.Zl8 wX rfl λf cdv A outer sh H E hr=>by
 exact (av (vM (ph (i:=0) (j:=1) rfl wX.nd rfl rfl (by decide) rfl rfl (ag (bd (t:=aS) (aX lE rfl T.kO boot_abs (ag (ac (pv 0)) am)) wE) (ag (bd (t:=aS) (aX lE rfl T.kO boot_abs (ag (ac (pv 1)) am)) wE) am)) rfl))
 (av (ZfD 100000 Ba (dq (ac (pv 1)))
  (aF (vM (ph (i:=0) (j:=1) rfl wX.nd rfl rfl (by decide) rfl rfl (ag (ac (pv 1)) (ag (aw x6 wA (ac (pv 0)) (ac (pv 1))) am)) rfl))))
 (aF (nJ (pv 0)))))
def kP:DT:=bv 1 0
 (aZ (zZ (af (gZ (ae ap (aa 0) (aC (.int 1)))) (af (ae bg (ae ap (aa 0) (aC (.int 0))) (aC (.int 1))) ak))))
theorem Ze8 (T:Txt K mg):ACal (bw cn) P w K mg base "stocks" 1 ["shop"] kP:=bF T.ZlJ Zhq rfl λf cdv A outer sh H E hr=>by
 exact (aF (a9 (ZnI (da (ZmQ hr.hd) rfl T.dX boot_tuple (bx (da Ze7 rfl T.eZ boot_range (ag (j8 (aA az ay (ac (pv 0)) (gl rfl T.Zd8) (λ_ _=>rfl))) (ag (aw bC bB (aA az ay (ac (pv 0)) (gl rfl T.yP) (λ_ _=>rfl)) aj) am))) cf)))))
def mM:DT:=bv 3 0
 (au (bO (bu (ae (cD λi j=>decide (i<=j)) (aa 2) (aa 1)))
  (aZ (aC (.int 0)))
  bM)
 (aZ (ae bg (ae ap (aa 0) (aC (.int 2))) (ae bX (ae ap (aa 0) (aC (.int 3))) (ae dh (aa 2) (aa 1))))))
theorem Zm1 (T:Txt K mg):ACal (bw cn) P w K mg base "order_cost" 1 ["shop","stock","level"] mM:=bF T.ZlP Zht rfl λf cdv A outer sh H E hr=>by
 exact (av (bU (bL jM cO (ac (pv 2)) (ac (pv 1)) (nomark _))
 (aF (a9 aj))
 bT)
 (aF (a9 (aw bC bB (aA az ay (ac (pv 0)) (gl rfl T.ZkM) (λ_ _=>rfl)) (aw b7 b6 (aA az ay (ac (pv 0)) (gl rfl T.ZkN) (λ_ _=>rfl)) (aw dW dS (ac (pv 2)) (ac (pv 1))))))))
def kT:DT:=bv 3 0
 (aZ (bc iu (af (ae dh (aa 1) (aa 2)) (af (gZ (ae ap (aa 0) (aC (.int 1)))) ak))))
theorem zy (T:Txt K mg):ACal (bw cn) P w K mg base "next_stock" 1 ["shop","level","fall"] kT:=bF T.ZlQ Zhu rfl λf cdv A outer sh H E hr=>by
 exact (aF (a9 (bd (t:=aS) (aX (lD rfl) rfl T.kN boot_max (ag (aw dW dS (ac (pv 1)) (ac (pv 2))) (ag (j8 (aA az ay (ac (pv 0)) (gl rfl T.Zd8) (λ_ _=>rfl))) am))) kj)))
def lb:DT:=bv 2 0
 (au (bO (bu (ae (cD λi j=>decide (i > j)) (aa 1) (aC (.int 0))))
  (aZ (ae bX (gZ (ae ap (aa 0) (aC (.int 7)))) (aa 1)))
  bM)
 (aZ (ae bX (ae ap (aa 0) (aC (.int 8))) (gZ (aa 1)))))
theorem Zfi (T:Txt K mg):ACal (bw cn) P w K mg base "end_cost" 1 ["shop","stock"] lb:=bF T.Zl4 ZhB rfl λf cdv A outer sh H E hr=>by
 exact (av (bU (bL kJ cO (ac (pv 1)) aj (nomark _))
 (aF (a9 (aw b7 b6 (j8 (aA az ay (ac (pv 0)) (gl rfl T.ZkS) (λ_ _=>rfl))) (ac (pv 1)))))
 bT)
 (aF (a9 (aw b7 b6 (aA az ay (ac (pv 0)) (gl rfl T.ZkP) (λ_ _=>rfl)) (j8 (ac (pv 1)))))))
noncomputable def xT:DP :=
 (bc dN (af (aa 0) ak))
def mT:DT:=bv 1 0
 (aZ (bc dN (af (bE (dA (cz (aa 0)) 1 [] (ao 0) xT)) ak)))
theorem Zfj (T:Txt K mg):ACal (bw cn) P w K mg base "day_scale" 1 ["day"] mT:=bF T.Zl5 ZhC rfl λf cdv A outer sh H E hr=>by
 exact (aF (a9 (bd (t:=aS) (aX (jr rfl) rfl T.i6 boot_sum (ag (bV (fe (eW wc ["line"] [] rfl (df (ac (pv 0))) (λb=>(aV (aT (i:=0) (show ((bN wc ["line"] [])).Nodup by trivial) rfl (.inl rfl)))) (λb=>(bd (t:=aS) (aX (jr rfl) rfl T.i6 boot_sum (ag (ac (pv 0)) am)) iN)) rfl (show BlkOk wc (aP xj) _ [] by trivial)) (cp (by decide)))) am)) iN)))
noncomputable def o6:DP :=
 (bj (af (aa 0) (af (aa 1) ak)))
noncomputable def qA:DQ :=
 (nR (af (aa 2) (af (ae bg (aa 3) (aC (.int 1))) ak)))
def mL:DT:=bv 2 3
 (au (gF (bD (aJ (ao 2) (aJ (ao 3) bo))) (aa 1))
 (au (bb 4 (ae ap (aa 0) (aC (.int 0))))
 (ka (lO (nR (af (aa 2) (af (ae bg (aa 4) (aC (.int 1))) ak))) 2 [3,4] 0 qA 1 o6))))
theorem Zfa (T:Txt K mg):ACal (bw cn) P w K mg base "raises_from" 1 ["shop","stand"] mL:=bF T.ZlN oO rfl λf cdv A outer sh H E hr=>by
 exact (av (iH (fu (ac (pv 1)) (cS rfl (br (aV (aT (i:=2) oO.nd rfl (.inl rfl))) (br (aV (aT (i:=3) oO.nd rfl (.inr rfl))) cJ)) (bq (bq cH)))))
 (av (bf (ba (i:=4) oO.nd rfl (.inr rfl) (aA az ay (ac (pv 0)) (gl rfl T.yP) (λ_ _=>rfl))))
 (aF (nK (ZfN (ZcN nX ["first","second"] [3,4] rfl (ZfT (ZcI rfl T.eZ (ag (ac (pv 2)) (ag (aw bC bB (ac (pv 4)) aj) am)))) (λb=>(aV (aT (i:=0) (show ((bN nX ["first","second"] [3,4])).Nodup by trivial) rfl (.inl rfl)))) (λb=>(ZfT (ZcI rfl T.eZ (ag (ac (pv 2)) (ag (aw bC bB (ac (pv 3)) aj) am))))) (λb=>(aV (aT (i:=1) (show ((bN nX ["first","second"] [3,4])).Nodup by trivial) rfl (.inl rfl)))) (λb=>(bn (ag (ac (pv 0)) (ag (ac (pv 1)) am)))) rfl (show BlkOk nX (aP xb) _ [3,4] by trivial)) (by decide) (by decide) (by decide))))))
noncomputable abbrev cG:=qg
theorem cR (T:Txt K mg):ACal (bw cn) P w K mg base "_law_draw" 1 ["_law_pen_here","_law_many"] cG:=Zlz rfl (Zjj T)
def mO:DT:=bv 1 0
 (ka (Ac (af (ae dh (aC (.int 0)) (ae ap (aa 0) (aC (.int 1)))) (af (ae bg (ae ap (aa 0) (aC (.int 0))) (aC (.int 1))) ak))))
theorem Zfc (T:Txt K mg):ACal (bw cn) P w K mg base "_law_stocks" 1 ["_law_shop_here"] mO:=bF T.Zmb ZhF rfl λf cdv A outer sh H E hr=>by
 exact (aF (nK (ZnC (da (ZmV hr.hd) rfl T.mI boot_list (bx (da Ze7 rfl T.eZ boot_range (ag (aw dW dS aj (aA az ay (ac (pv 0)) aj (λ_ _=>rfl))) (ag (aw bC bB (aA az ay (ac (pv 0)) aj (λ_ _=>rfl)) aj) am))) cf)))))
def mQ:DT:=bv 3 2
 (au (bb 3 (bc iu (af (ae dh (aa 1) (aa 2)) (af (ae dh (aC (.int 0)) (ae ap (aa 0) (aC (.int 1)))) ak))))
 (au (bb 4 (ae bg (ae dh (aa 3) (aa 1)) (aa 2)))
 (aZ (bj (af (ae bg (ae bg (ae bX (ae ap (aa 0) (aC (.int 4))) (bc iu (af (aa 3) (af (aC (.int 0)) ak)))) (ae bX (ae ap (aa 0) (aC (.int 5))) (bc iu (af (ae dh (aC (.int 0)) (aa 3)) (af (aC (.int 0)) ak))))) (ae bX (ae ap (aa 0) (aC (.int 6))) (aa 4))) (af (aa 3) ak))))))
theorem Zfd (T:Txt K mg):ACal (bw cn) P w K mg base "_law_one_cost" 1 ["_law_shop_here","_law_level","_law_fall"] mQ:=bF T.Zmj wZ rfl λf cdv A outer sh H E hr=>by
 exact (av (bf (ba (i:=3) wZ.nd rfl (.inl rfl) (bd (t:=aS) (aX (lD rfl) rfl T.kN boot_max (ag (aw dW dS (ac (pv 1)) (ac (pv 2))) (ag (aw dW dS aj (aA az ay (ac (pv 0)) aj (λ_ _=>rfl))) am))) kj)))
 (av (bf (ba (i:=4) wZ.nd rfl (.inl rfl) (aw bC bB (aw dW dS (ac (pv 3)) (ac (pv 1))) (ac (pv 2)))))
 (aF (a9 (bn (ag (aw bC bB (aw bC bB (aw b7 b6 (aA az ay (ac (pv 0)) aj (λ_ _=>rfl)) (bd (t:=aS) (aX (lD rfl) rfl T.kN boot_max (ag (ac (pv 3)) (ag aj am))) kj)) (aw b7 b6 (aA az ay (ac (pv 0)) aj (λ_ _=>rfl)) (bd (t:=aS) (aX (lD rfl) rfl T.kN boot_max (ag (aw dW dS aj (ac (pv 3))) (ag aj am))) kj))) (aw b7 b6 (aA az ay (ac (pv 0)) aj (λ_ _=>rfl)) (ac (pv 4)))) (ag (ac (pv 3)) am)))))))
def jT:DT:=bv 2 0
 (aZ (ae dh (ae bX (ae ap (aa 0) (aC (.int 8))) (bc iu (af (ae dh (aC (.int 0)) (aa 1)) (af (aC (.int 0)) ak)))) (ae bX (ae ap (aa 0) (aC (.int 7))) (bc iu (af (aa 1) (af (aC (.int 0)) ak))))))
theorem Zfg (T:Txt K mg):ACal (bw cn) P w K mg base "_law_end" 1 ["_law_shop_here","_law_stock"] jT:=bF T.Zmr ZhI rfl λf cdv A outer sh H E hr=>by
 exact (aF (a9 (aw dW dS (aw b7 b6 (aA az ay (ac (pv 0)) aj (λ_ _=>rfl)) (bd (t:=aS) (aX (lD rfl) rfl T.kN boot_max (ag (aw dW dS aj (ac (pv 1))) (ag aj am))) kj)) (aw b7 b6 (aA az ay (ac (pv 0)) aj (λ_ _=>rfl)) (bd (t:=aS) (aX (lD rfl) rfl T.kN boot_max (ag (ac (pv 1)) (ag aj am))) kj)))))
def ja:DT:=bv 3 1
 (au (bb 3 (ae dh (ae bg (ae dh (ae ap (aa 2) (aC (.int 0))) (ae ap (aa 1) (aC (.int 0)))) (ae ap (aa 2) (aC (.int 1)))) (ae ap (aa 1) (aC (.int 1)))))
 (aZ (ae bX (ae bg (ae ap (aa 0) (aC (.int 2))) (ae bX (ae ap (aa 0) (aC (.int 3))) (aa 3))) (bc nc (af (ae (cD λi j=>decide (i > j)) (aa 3) (aC (.int 0))) ak)))))
theorem zG (T:Txt K mg):ACal (bw cn) P w K mg base "_law_order" 1 ["_law_shop_here","_law_stand","_law_goal"] ja:=bF T.Zmi Za4 rfl λf cdv A outer sh H E hr=>by
 exact (av (bf (ba (i:=3) Za4.nd rfl (.inl rfl) (aw dW dS (aw bC bB (aw dW dS (aA az ay (ac (pv 2)) aj (λ_ _=>rfl)) (aA az ay (ac (pv 1)) aj (λ_ _=>rfl))) (aA az ay (ac (pv 2)) aj (λ_ _=>rfl))) (aA az ay (ac (pv 1)) aj (λ_ _=>rfl)))))
 (aF (a9 (aw b7 b6 (aw bC bB (aA az ay (ac (pv 0)) aj (λ_ _=>rfl)) (aw b7 b6 (aA az ay (ac (pv 0)) aj (λ_ _=>rfl)) (ac (pv 3)))) (bd (t:=aS) (da ZmW rfl T.yf boot_int (ag (zX kJ cO (ac (pv 3)) aj (nomark _)) am)) Zgm)))))
noncomputable def wx:DR :=
 (bu (ae (cD λi j=>decide (i > j)) (aa 3) (aC (.int 0))))
noncomputable def yw:DS :=
 (kc 2 3 (af (aa 3) (af (ae i7 (aa 2) (aa 3)) ak)))
def jQ:DT:=bv 2 2
 (au (kc 2 3 (af (bc lM (af (aa 0) ak)) (af (aa 1) ak)))
 (au (fh wx yw 100000)
 (aZ (bj (af (ae iC (aa 0) (aa 2)) (af (ae iC (aa 1) (aa 2)) ak))))))
theorem zE (T:Txt K mg):ACal (bw cn) P w K mg base "_law_share" 1 ["_law_top","_law_bottom"] jQ:=bF T.Zmd wY rfl λf cdv A outer sh H E hr=>by
 exact (av (vM (ph (i:=2) (j:=3) rfl wY.nd rfl rfl (by decide) rfl rfl (ag (bd (t:=aS) (aX lE rfl T.kO boot_abs (ag (ac (pv 0)) am)) wE) (ag (ac (pv 1)) am)) rfl))
 (av (ZfD 100000 Ba (bL kJ cO (ac (pv 3)) aj (nomark _))
  (aF (vM (ph (i:=2) (j:=3) rfl wY.nd rfl rfl (by decide) rfl rfl (ag (ac (pv 3)) (ag (aw x6 wA (ac (pv 2)) (ac (pv 3))) am)) rfl))))
 (aF (a9 (bn (ag (aw mG l4 (ac (pv 0)) (ac (pv 2))) (ag (aw mG l4 (ac (pv 1)) (ac (pv 2))) am)))))))
def p8:DT:=bv 1 0
 (aZ (ke (eS "int" (aa 0)) (vW (eS "bool" (aa 0)))))
theorem Zm7 (T:Txt K mg):ACal (bw cn) P w K mg base "_law_is_whole" 1 ["_law_thing"] p8:=bF T.Zmn ZhH rfl λf cdv A outer sh H E hr=>by
 exact (aF (a9 (nP (fI (T:="int") (.inl rfl) rfl (aX fG rfl T.fx boot_isinstance (bx (ac (pv 0)) (bx (fv (v:=.ty "int") rfl T.yf boot_int rfl) cf)))) (nN (ZfV (fI (T:="bool") (Or.inr (.inl rfl)) rfl (aX fG rfl T.fx boot_isinstance (bx (ac (pv 0)) (bx (fv (v:=.ty "bool") rfl T.Zdb boot_bool rfl) cf)))))))))
def gS:DT:=bv 3 0
 (aZ (ke (aE (aD kY (ah (aa 0) aB))) (lS (cD λi j=>decide (i<=j)) (cD λi j=>decide (i<=j)) (aa 1) (aa 0) (aa 2))))
theorem Zne (T:Txt K mg):ACal (bw cn) P w K mg base "is_whole_within" 2 ["thing","lowest","highest"] gS:=bF T.ZlU Zhv rfl λf cdv A outer sh H E hr=>by
 exact (aF (a9 (nP (aK (aG (zJ T) (hr.mono (by decide)) rfl (ai (ac (pv 0)) aH))) (nN (zY jM cO jM cO (ac (pv 1)) (ac (pv 0)) (ac (pv 2)))))))
def dC:DT:=bv 1 2
 (au (bO (eE (dw (cU (eS "tuple" (aa 0)))) (bu (ae cQ (bc cj (af (aa 0) ak)) (aC (.int 2)))))
  (aZ (aC (.bool false)))
  bM)
 (au (gF (bD (aJ (ao 1) (aJ (ao 2) bo))) (aa 0))
 (au (bO (eE (dw (cU (aE (aD kY (ah (aa 1) aB))))) (eE (dw (cU (aE (aD kY (ah (aa 2) aB))))) (bu (ae (cD λi j=>decide (i < j)) (aa 2) (aC (.int 1))))))
  (aZ (aC (.bool false)))
  bM)
 (aZ (ae dP (aE (aD mV (ah (aa 1) (ah (aa 2) aB)))) (aC (.int 1)))))))
theorem Znf (T:Txt K mg):ACal (bw cn) P w K mg base "is_share" 2 ["thing"] dC:=bF T.ZlW wV rfl λf cdv A outer sh H E hr=>by
 exact (av (bU (eQ (eP (dQ (dq (fI (T:="tuple") (Or.inr (Or.inr (Or.inr (Or.inr (.inl rfl))))) rfl (aX fG rfl T.fx boot_isinstance (bx (ac (pv 0)) (bx (fv (v:=.ty "tuple") rfl T.dX boot_tuple rfl) cf)))))) (fH (bL (eX hr) eT (bd (t:=aS) (aX cI rfl T.cF boot_len (ag (ac (pv 0)) am)) cY) aj (nomark _)))))
 (aF (a9 ce))
 bT)
 (av (iH (fu (ac (pv 0)) (cS rfl (br (aV (aT (i:=1) wV.nd rfl (.inl rfl))) (br (aV (aT (i:=2) wV.nd rfl (.inl rfl))) cJ)) (bq (bq cH)))))
 (av (bU (eQ (eP (dQ (dq (aK (aG (zJ T) (hr.mono (by decide)) rfl (ai (ac (pv 1)) aH))))) (eP (dQ (dq (aK (aG (zJ T) (hr.mono (by decide)) rfl (ai (ac (pv 2)) aH))))) (fH (bL gQ cO (ac (pv 2)) aj (nomark _))))))
  (aF (a9 ce))
  bT)
 (aF (a9 (zX (ii hr) g9 (aK (aG (Zfl T) (hr.mono (by decide)) rfl (ai (ac (pv 1)) (ai (ac (pv 2)) aH)))) aj (nomark _)))))))
def kQ:DT:=bv 2 1
 (au (bO (bu (ae dP (aa 1) (aC (.int 0))))
  Zf0
  bM)
 (au (bb 2 (aE (aD mV (ah (aa 0) (ah (aa 1) aB)))))
 (au (bO (bu (ae (cD λi j=>decide (i < j)) (aa 1) (aC (.int 0))))
  (bb 2 (gZ (aa 2)))
  bM)
 (aZ (bj (af (ae iC (aa 0) (aa 2)) (af (ae iC (aa 1) (aa 2)) ak)))))))
theorem Ze9 (T:Txt K mg):ACal (bw cn) P w K mg base "share" 2 ["top","bottom"] kQ:=bF T.ZlL wU rfl λf cdv A outer sh H E hr=>by
 exact (av (bU (bL (ii hr) g9 (ac (pv 1)) aj (nomark _))
 (aF Znz)
 bT)
 (av (bf (ba (i:=2) wU.nd rfl (.inl rfl) (aK (aG (Zfl T) (hr.mono (by decide)) rfl (ai (ac (pv 0)) (ai (ac (pv 1)) aH))))))
 (av (bU (bL gQ cO (ac (pv 1)) aj (nomark _))
  (aF (bf (ba (i:=2) wU.nd rfl (.inl rfl) (j8 (ac (pv 2))))))
  bT)
 (aF (a9 (bn (ag (aw mG l4 (ac (pv 0)) (ac (pv 2))) (ag (aw mG l4 (ac (pv 1)) (ac (pv 2))) am))))))))
def lc:DT:=bv 3 3
 (au (bb 3 (aE (aD kT (ah (aa 0) (ah (aa 1) (ah (aa 2) aB))))))
 (au (bb 4 (ae dh (aa 3) (ae dh (aa 1) (aa 2))))
 (au (bb 5 (Ad (bu (ae (cD λi j=>decide (i > j)) (aa 3) (aC (.int 0)))) (ae bX (ae ap (aa 0) (aC (.int 4))) (aa 3)) (ae bX (ae ap (aa 0) (aC (.int 5))) (gZ (aa 3)))))
 (aZ (ae bg (aa 5) (ae bX (ae ap (aa 0) (aC (.int 6))) (aa 4)))))))
theorem Zfk (T:Txt K mg):ACal (bw cn) P w K mg base "day_cost" 2 ["shop","level","fall"] lc:=bF T.Zl6 oP rfl λf cdv A outer sh H E hr=>by
 exact (av (bf (ba (i:=3) oP.nd rfl (.inl rfl) (aK (aG (zy T) (hr.mono (by decide)) rfl (ai (ac (pv 0)) (ai (ac (pv 1)) (ai (ac (pv 2)) aH)))))))
 (av (bf (ba (i:=4) oP.nd rfl (.inl rfl) (aw dW dS (ac (pv 3)) (aw dW dS (ac (pv 1)) (ac (pv 2))))))
 (av (bf (ba (i:=5) oP.nd rfl (.inl rfl) (ZnJ (bL kJ cO (ac (pv 3)) aj (nomark _)) (aw b7 b6 (aA az ay (ac (pv 0)) (gl rfl T.ZkR) (λ_ _=>rfl)) (ac (pv 3))) (aw b7 b6 (aA az ay (ac (pv 0)) (gl rfl T.ZkQ) (λ_ _=>rfl)) (j8 (ac (pv 3)))))))
 (aF (a9 (aw bC bB (ac (pv 5)) (aw b7 b6 (aA az ay (ac (pv 0)) (gl rfl T.ZkO) (λ_ _=>rfl)) (ac (pv 4)))))))))
noncomputable def o5:DP :=
 (bj (af (aa 0) (af (aa 1) ak)))
noncomputable def qz:DQ :=
 (cz (aE (aD kP (ah (aa 2) aB))))
def gg:DT:=bv 1 0
 (ka (lO (cz (aE (aD kP (ah (aa 0) aB)))) 2 [0] 0 qz 1 o5))
theorem lF (T:Txt K mg):ACal (bw cn) P w K mg base "stands" 2 ["shop"] gg:=bF T.ZlK Zhr rfl λf cdv A outer sh H E hr=>by
 exact (aF (nK (ZfN (ZcN nW ["one","other"] [0] rfl (df (aK (aG (Ze8 T) (hr.mono (by decide)) rfl (ai (ac (pv 0)) aH)))) (λb=>(aV (aT (i:=0) (show ((bN nW ["one","other"] [0])).Nodup by trivial) rfl (.inl rfl)))) (λb=>(df (aK (aG (Ze8 T) (hr.mono (by decide)) rfl (ai (ac (pv 2)) aH))))) (λb=>(aV (aT (i:=1) (show ((bN nW ["one","other"] [0])).Nodup by trivial) rfl (.inl rfl)))) (λb=>(bn (ag (ac (pv 0)) (ag (ac (pv 1)) am)))) rfl (show BlkOk nW (aP xa) _ [0] by trivial)) (by decide) (by decide) (by decide))))
def kR:DT:=bv 3 0
 (vV (aD mM (ah (aa 0) (ah (bc dN (af (aa 1) ak)) (ah (bc dN (af (aa 2) ak)) aB)))))
theorem zx (T:Txt K mg):ACal (bw cn) P w K mg base "raise_cost" 2 ["shop","stand","raised"] kR:=bF T.ZlO Zhs rfl λf cdv A outer sh H E hr=>by
 exact (aF (ZfG (aG (Zm1 T) (hr.mono (by decide)) rfl (ai (ac (pv 0)) (ai (bd (t:=aS) (aX (jr rfl) rfl T.i6 boot_sum (ag (ac (pv 1)) am)) iN) (ai (bd (t:=aS) (aX (jr rfl) rfl T.i6 boot_sum (ag (ac (pv 2)) am)) iN) aH))))))
noncomputable def Zcu:DP :=
 (aE (aD cG (cg 1 (ah (aa 2) aB))))
noncomputable def Zct:DQ :=
 (dA (gm (af (aa 3) ak)) 1 [1,2] (ao 0) Zcu)
noncomputable def xP:DP :=
 (bc ga (af (aa 0) ak))
def p9:DT:=bv 1 3
 (au (bb 1 (ae ap (bE (cW (af (aC (.int 2)) (af (aC (.int 4)) (af (aC (.int 20)) (af (aC (.int 1001)) ak)))))) (aE (aD cG (cg 0 (ah (aC (.int 4)) aB))))))
 (au (bb 2 (ae bg (aC (.int 1)) (aE (aD cG (cg 0 (ah (aC (.int 3)) aB))))))
 (z9 3 (nS (gm (af (ae bg (aC (.int 1)) (aE (aD cG (cg 0 (ah (aC (.int 3)) aB))))) ak)) 1 [0,1,2] (ao 0) Zct) (ae bg (aC (.int 1)) (aE (aD cG (cg 0 (ah (ae dh (aa 1) (aC (.int 1))) aB))))) (aE (aD cG (cg 0 (ah (bc cj (af (aa 3) ak)) aB)))) (aE (aD cG (cg 0 (ah (aa 2) aB))))
 (aZ (bc ga (af (bE (dA (cz (aa 3)) 1 [] (ao 0) xP)) ak))))))
theorem Zna (T:Txt K mg):ACal (bw cn) P w K mg base "_law_double_day" 2 ["_law_pen_here"] p9:=bF T.Zmt oU rfl λf cdv A outer sh H E hr=>by
 exact (av (bf (ba (i:=1) oU.nd rfl (.inr rfl) (aA az ay (bV (dr (ag aj (ag aj (ag aj (ag aj am)))))) (aK (aG (cR T) (hr.mono (by decide)) rfl (cv (pv 0) (ai aj aH)))) (λ_ _=>rfl))))
 (av (bf (ba (i:=2) oU.nd rfl (.inr rfl) (aw bC bB aj (aK (aG (cR T) (hr.mono (by decide)) rfl (cv (pv 0) (ai aj aH)))))))
 (Znt ZiC (ZnA (xY (i:=3) iK ["_law_i"] [0,1,2] rfl oU.nd rfl rfl (gY (gO rfl T.eZ (ag (aw bC bB aj (aK (aG (cR T) (hr.mono (by decide)) rfl (cv (pv 0) (ai aj aH))))) am))) (λb=>(aV (aT (i:=0) (show ((bN iK ["_law_i"] [0,1,2])).Nodup by trivial) rfl (.inl rfl)))) (λb=>(fe (eW (bN iK ["_law_i"] [0,1,2]) ["_law_j"] [1,2] rfl (gY (gO rfl T.eZ (ag (ac (pv 3)) am))) (λb=>(aV (aT (i:=0) (show ((bN (bN iK ["_law_i"] [0,1,2]) ["_law_j"] [1,2])).Nodup by trivial) rfl (.inl rfl)))) (λb=>(aK (aG (cR T) (hr.mono (by decide)) rfl (cv (pv 1) (ai (ac (pv 2)) aH))))) rfl (BlkOk.nest ⟨rfl,by trivial,by trivial,by trivial,by trivial⟩)) (cp (by decide)))) rfl (show BlkOk iK (aP oW) _ [0,1,2] by trivial) rfl) (cp (by decide))) (fu (aw bC bB aj (aK (aG (cR T) (hr.mono (by decide)) rfl (cv (pv 0) (ai (aw dW dS (ac (pv 1)) aj) aH))))) (mB (gv gy (pv 3) (aK (aG (cR T) (hr.mono (by decide)) rfl (cv (pv 0) (ai (bd (t:=aS) (aX cI rfl T.cF boot_len (ag (ac (pv 3)) am)) cY) aH)))) (λ_ _=>rfl)) (aK (aG (cR T) (hr.mono (by decide)) rfl (cv (pv 0) (ai (ac (pv 2)) aH)))) me))
 (aF (a9 (bd (t:=aS) (da jq rfl T.dX boot_tuple (ag (bV (fe (eW iK ["_law_row"] [] rfl (df (ac (pv 3))) (λb=>(aV (aT (i:=0) (show ((bN iK ["_law_row"] [])).Nodup by trivial) rfl (.inl rfl)))) (λb=>(bd (t:=aS) (da jq rfl T.dX boot_tuple (ag (ac (pv 0)) am)) iM)) rfl (show BlkOk iK (aP oW) _ [] by trivial)) (cp (by decide)))) am)) iM))))))
noncomputable def Zcs:DP :=
 (aE (aD cG (cg 1 (ah (aa 2) aB))))
def p6:DT:=bv 1 3
 (au (bb 1 (ae ap (bE (cW (af (aC (.int 2)) (af (aC (.int 3)) (af (aC (.int 10)) (af (aC (.int 60)) ak)))))) (aE (aD cG (cg 0 (ah (aC (.int 4)) aB))))))
 (au (bb 2 (aE (aD cG (cg 0 (ah (aC (.int 5)) aB)))))
 (au (j9 3 (dA (gm (af (aC (.int 7)) ak)) 1 [0,1] (ao 0) Zcs))
 (au (bO (bu (ae dP (aE (aD cG (cg 0 (ah (aC (.int 4)) aB)))) (aC (.int 0))))
  (vT 3 (aC (.int 0)) (aC (.int 0)))
  bM)
 (lQ 3 (aZ (ae bg (bj (af (aa 2) (af (aE (aD cG (cg 0 (ah (ae dh (aC (.int 5)) (aa 2)) aB)))) ak))) (bc ga (af (aa 3) ak)))))))))
theorem Zm3 (T:Txt K mg):ACal (bw cn) P w K mg base "_law_shop" 2 ["_law_pen_here"] p6:=bF T.Zmc oQ rfl λf cdv A outer sh H E hr=>by
 exact (av (bf (ba (i:=1) oQ.nd rfl (.inr rfl) (aA az ay (bV (dr (ag aj (ag aj (ag aj (ag aj am)))))) (aK (aG (cR T) (hr.mono (by decide)) rfl (cv (pv 0) (ai aj aH)))) (λ_ _=>rfl))))
 (av (bf (ba (i:=2) oQ.nd rfl (.inl rfl) (aK (aG (cR T) (hr.mono (by decide)) rfl (cv (pv 0) (ai aj aH))))))
 (av (Znv (xY (i:=3) wj ["_law_k"] [0,1] rfl oQ.nd rfl rfl (gY (gO rfl T.eZ (ag aj am))) (λb=>(aV (aT (i:=0) (show ((bN wj ["_law_k"] [0,1])).Nodup by trivial) rfl (.inl rfl)))) (λb=>(aK (aG (cR T) (hr.mono (by decide)) rfl (cv (pv 1) (ai (ac (pv 2)) aH))))) rfl (show BlkOk wj (aP xo) _ [0,1] by trivial) rfl) (cp (by decide)))
 (av (bU (bL (ii hr) g9 (aK (aG (cR T) (hr.mono (by decide)) rfl (cv (pv 0) (ai aj aH)))) aj (nomark _))
  (aF (Znw (fu aj (mB (pv 3) aj me))))
  bT)
 (aF (vN (k:=3) (a9 (aw bC bB (bn (ag (ac (pv 2)) (ag (aK (aG (cR T) (hr.mono (by decide)) rfl (cv (pv 0) (ai (aw dW dS aj (ac (pv 2))) aH)))) am))) (bd (t:=aS) (da jq rfl T.dX boot_tuple (ag (ac (pv 3)) am)) iM)))))))))
noncomputable def yy:DS :=
 (au (gF (bD (aJ (ao 12) (aJ (ao 13) bo))) (aE (aD mQ (ah (aa 0) (ah (ae ap (aa 4) (aC (.int 1))) (ah (aa 10) aB))))))
 (au (bb 14 (ae bg (ae bX (ae bg (aa 8) (aa 12)) (aa 3)) (ae eO (aa 2) (bj (af (aa 9) (af (aa 13) ak))))))
 (bb 5 (ae bg (aa 5) (ae bX (aa 11) (aa 14))))))
noncomputable def ZdF:DS :=
 (au (gF (bD (aJ (ao 8) (aJ (ao 9) bo))) (aE (aD mQ (ah (aa 0) (ah (ae ap (aa 4) (aC (.int 0))) (ah (aa 6) aB))))))
 (dR (lR (aa 7)) (bD (aJ (ao 10) (aJ (ao 11) bo))) yy))
def mR:DT:=bv 5 10
 (au (bb 5 (aC (.int 0)))
 (au (dR (lR (aa 1)) (bD (aJ (ao 6) (aJ (ao 7) bo))) ZdF)
 (fX 5)))
theorem Zfe (T:Txt K mg):ACal (bw cn) P w K mg base "_law_mean" 2 ["_law_shop_here","_law_one","_law_later_here","_law_bottom","_law_goal"] mR:=bF T.Zmk gb rfl λf cdv A outer sh H E hr=>by
 exact (av (bf (ba (i:=5) gb.nd rfl (.inl rfl) aj))
 (av (eD Ba rfl (vQ (pB rfl rfl T.pP (ac (pv 1)))) (cS rfl (br (aV (aT (i:=6) gb.nd rfl (.inl rfl))) (br (aV (aT (i:=7) gb.nd rfl (.inl rfl))) cJ)) (bq (bq cH)))
  (av (iH (fu (aK (aG (Zfd T) (hr.mono (by decide)) rfl (ai (ac (pv 0)) (ai (aA az ay (ac (pv 4)) aj (λ_ _=>rfl)) (ai (ac (pv 6)) aH))))) (cS rfl (br (aV (aT (i:=8) gb.nd rfl (.inl rfl))) (br (aV (aT (i:=9) gb.nd rfl (.inl rfl))) cJ)) (bq (bq cH)))))
 (aF (eD Ba rfl (vQ (pB rfl rfl T.pP (ac (pv 7)))) (cS rfl (br (aV (aT (i:=10) gb.nd rfl (.inl rfl))) (br (aV (aT (i:=11) gb.nd rfl (.inl rfl))) cJ)) (bq (bq cH)))
  (av (iH (fu (aK (aG (Zfd T) (hr.mono (by decide)) rfl (ai (ac (pv 0)) (ai (aA az ay (ac (pv 4)) aj (λ_ _=>rfl)) (ai (ac (pv 10)) aH))))) (cS rfl (br (aV (aT (i:=12) gb.nd rfl (.inl rfl))) (br (aV (aT (i:=13) gb.nd rfl (.inl rfl))) cJ)) (bq (bq cH)))))
 (av (bf (ba (i:=14) gb.nd rfl (.inl rfl) (aw bC bB (aw b7 b6 (aw bC bB (ac (pv 8)) (ac (pv 12))) (ac (pv 3))) (ju (iY (fR hr) (ac (pv 2)) (bn (ag (ac (pv 9)) (ag (ac (pv 13)) am))) (λ_ _=>rfl))))))
 (aF (bf (ba (i:=5) gb.nd rfl (.inl rfl) (aw bC bB (ac (pv 5)) (aw b7 b6 (ac (pv 11)) (ac (pv 14)))))))))))))
 (aF (nJ (pv 5)))))
noncomputable def yz:DS :=
 (lN 1 (bj (af (aa 2) (af (aa 3) ak))) (ae bg (aE (aD jT (ah (aa 0) (ah (aa 2) aB)))) (aE (aD jT (ah (aa 0) (ah (aa 3) aB))))))
noncomputable def ZdG:DS :=
 (dR (cz (aE (aD mO (ah (aa 0) aB)))) (ao 3) yz)
def kX:DT:=bv 1 3
 (au (vS 1)
 (au (dR (cz (aE (aD mO (ah (aa 0) aB)))) (ao 2) ZdG)
 (lP 1 (fX 1))))
theorem zI (T:Txt K mg):ACal (bw cn) P w K mg base "_law_ends" 2 ["_law_shop_here"] kX:=bF T.Zmq oT rfl λf cdv A outer sh H E hr=>by
 exact (av (ZfE (ba (i:=1) oT.nd rfl (.inl rfl) ZcO))
 (av (eD Ba rfl (df (aK (aG (Zfc T) (hr.mono (by decide)) rfl (ai (ac (pv 0)) aH)))) (aV (aT (i:=2) oT.nd rfl (.inl rfl)))
  (aF (eD Ba rfl (df (aK (aG (Zfc T) (hr.mono (by decide)) rfl (ai (ac (pv 0)) aH)))) (aV (aT (i:=3) oT.nd rfl (.inl rfl)))
  (aF (ZfH (ZcB (fR hr) (pv 1) (bn (ag (ac (pv 2)) (ag (ac (pv 3)) am))) (aw bC bB (aK (aG (Zfg T) (hr.mono (by decide)) rfl (ai (ac (pv 0)) (ai (ac (pv 2)) aH)))) (aK (aG (Zfg T) (hr.mono (by decide)) rfl (ai (ac (pv 0)) (ai (ac (pv 3)) aH))))) rfl))))))
 (aF (ZfI (k:=1) (nJ (pv 1))))))
noncomputable def mr:DP :=
 (aa 0)
noncomputable def mD:DR :=
 (dw (cU (aE (aD p8 (ah (aa 0) aB)))))
def eC:DT:=bv 3 1
 (au (bO (eE (dw (cU (eS "tuple" (aa 2)))) (bu (ae cQ (bc cj (af (aa 2) ak)) (aC (.int 2)))))
  (aZ (aC (.bool false)))
  bM)
 (au (bO (eE (dw (cU (eS "tuple" (ae ap (aa 2) (aC (.int 0)))))) (dw (cU (eS "tuple" (ae ap (aa 2) (aC (.int 1)))))))
  (aZ (aC (.bool false)))
  bM)
 (au (bb 3 (ae dJ (ae ap (aa 2) (aC (.int 0))) (ae ap (aa 2) (aC (.int 1)))))
 (au (bO (eE (bu (ae cQ (bc cj (af (ae ap (aa 2) (aC (.int 0))) ak)) (aC (.int 2)))) (eE (bu (ae cQ (bc cj (af (ae ap (aa 2) (aC (.int 1))) ak)) (aC (.int 2)))) (bu (ae kL (bE (jv (cz (aa 3)) 1 [] (ao 0) mD mr)) (bE (cW ak))))))
  (aZ (aC (.bool false)))
  bM)
 (au (bO (eE (bu (ae (cD λi j=>decide (i < j)) (ae ap (ae ap (aa 2) (aC (.int 0))) (aC (.int 1))) (aC (.int 1)))) (bu (ae cQ (aE (aD jQ (ah (ae ap (ae ap (aa 2) (aC (.int 0))) (aC (.int 0))) (ah (ae ap (ae ap (aa 2) (aC (.int 0))) (aC (.int 1))) aB)))) (ae ap (aa 2) (aC (.int 0))))))
  (aZ (aC (.bool false)))
  bM)
 (aZ (ke (lS (cD λi j=>decide (i<=j)) (cD λi j=>decide (i<=j)) (ae ap (aa 1) (aC (.int 0))) (ae ap (ae ap (aa 2) (aC (.int 1))) (aC (.int 0))) (ae ap (aa 0) (aC (.int 0)))) (lS (cD λi j=>decide (i<=j)) (cD λi j=>decide (i<=j)) (ae ap (aa 1) (aC (.int 1))) (ae ap (ae ap (aa 2) (aC (.int 1))) (aC (.int 1))) (ae ap (aa 0) (aC (.int 0)))))))))))
theorem Zm8 (T:Txt K mg):ACal (bw cn) P w K mg base "_law_is_entry" 2 ["_law_shop_here","_law_stand","_law_thing"] eC:=bF T.Zmo Za5 rfl λf cdv A outer sh H E hr=>by
 exact (av (bU (eQ (eP (dQ (dq (fI (T:="tuple") (Or.inr (Or.inr (Or.inr (Or.inr (.inl rfl))))) rfl (aX fG rfl T.fx boot_isinstance (bx (ac (pv 2)) (bx (fv (v:=.ty "tuple") rfl T.dX boot_tuple rfl) cf)))))) (fH (bL (eX hr) eT (bd (t:=aS) (aX cI rfl T.cF boot_len (ag (ac (pv 2)) am)) cY) aj (nomark _)))))
 (aF (a9 ce))
 bT)
 (av (bU (eQ (eP (dQ (dq (fI (T:="tuple") (Or.inr (Or.inr (Or.inr (Or.inr (.inl rfl))))) rfl (aX fG rfl T.fx boot_isinstance (bx (aA az ay (ac (pv 2)) aj (λ_ _=>rfl)) (bx (fv (v:=.ty "tuple") rfl T.dX boot_tuple rfl) cf)))))) (fH (dQ (dq (fI (T:="tuple") (Or.inr (Or.inr (Or.inr (Or.inr (.inl rfl))))) rfl (aX fG rfl T.fx boot_isinstance (bx (aA az ay (ac (pv 2)) aj (λ_ _=>rfl)) (bx (fv (v:=.ty "tuple") rfl T.dX boot_tuple rfl) cf)))))))))
  (aF (a9 ce))
  bT)
 (av (bf (ba (i:=3) Za5.nd rfl (.inl rfl) (aw eY eU (aA az ay (ac (pv 2)) aj (λ_ _=>rfl)) (aA az ay (ac (pv 2)) aj (λ_ _=>rfl)))))
 (av (bU (eQ (eP (bL (eX hr) eT (bd (t:=aS) (aX cI rfl T.cF boot_len (ag (aA az ay (ac (pv 2)) aj (λ_ _=>rfl)) am)) cY) aj (nomark _)) (eP (bL (eX hr) eT (bd (t:=aS) (aX cI rfl T.cF boot_len (ag (aA az ay (ac (pv 2)) aj (λ_ _=>rfl)) am)) cY) aj (nomark _)) (fH (bL (ZcV hr) Zah (bV (ZfM (ZcM wl ["_law_one"] [] rfl (df (ac (pv 3))) (λb=>(aV (aT (i:=0) (show ((bN wl ["_law_one"] [])).Nodup by trivial) rfl (.inl rfl)))) (λb=>(dQ (dq (aK (aG (Zm7 T) (hr.mono (by decide)) rfl (ai (ac (pv 0)) aH)))))) (λb=>(ac (pv 0))) rfl (show BlkOk wl (aP xq) _ [] by trivial)) (cp (by decide)))) (bV (dr am)) (nomark _))))))
  (aF (a9 ce))
  bT)
 (av (bU (eQ (eP (bL gQ cO (aA az ay (aA az ay (ac (pv 2)) aj (λ_ _=>rfl)) aj (λ_ _=>rfl)) aj (nomark _)) (fH (bL (eX hr) eT (aK (aG (zE T) (hr.mono (by decide)) rfl (ai (aA az ay (aA az ay (ac (pv 2)) aj (λ_ _=>rfl)) aj (λ_ _=>rfl)) (ai (aA az ay (aA az ay (ac (pv 2)) aj (λ_ _=>rfl)) aj (λ_ _=>rfl)) aH)))) (aA az ay (ac (pv 2)) aj (λ_ _=>rfl)) (nomark _)))))
  (aF (a9 ce))
  bT)
 (aF (a9 (nP (zY jM cO jM cO (aA az ay (ac (pv 1)) aj (λ_ _=>rfl)) (aA az ay (aA az ay (ac (pv 2)) aj (λ_ _=>rfl)) aj (λ_ _=>rfl)) (aA az ay (ac (pv 0)) aj (λ_ _=>rfl))) (nN (zY jM cO jM cO (aA az ay (ac (pv 1)) aj (λ_ _=>rfl)) (aA az ay (aA az ay (ac (pv 2)) aj (λ_ _=>rfl)) aj (λ_ _=>rfl)) (aA az ay (ac (pv 0)) aj (λ_ _=>rfl))))))))))))
def qb:DT:=bv 3 7
 (au (bb 3 (aE (aD cG (cg 0 (ah (aC (.int 12)) aB)))))
 (au (bb 4 (ae ap (bE (cW (af (aC (.int 1)) (af (gZ (aC (.int 1))) ak)))) (aE (aD cG (cg 0 (ah (aC (.int 2)) aB))))))
 (au (gF (bD (aJ (ao 5) (aJ (ao 6) bo))) (aa 2))
 (au (bb 7 (bj (af (ae dh (aE (aD cG (cg 0 (ah (ae bg (ae bg (ae ap (aa 1) (aC (.int 0))) (ae ap (aa 1) (aC (.int 1)))) (aC (.int 2))) aB)))) (ae ap (aa 1) (aC (.int 1)))) (af (ae dh (aE (aD cG (cg 0 (ah (ae bg (ae bg (ae ap (aa 1) (aC (.int 0))) (ae ap (aa 1) (aC (.int 1)))) (aC (.int 2))) aB)))) (ae ap (aa 1) (aC (.int 1)))) ak))))
 (au (bb 8 (bE (cW (af (aC .none) (af (aC (.bool true)) (af (bE (cW (af (ae ap (aa 5) (aC (.int 0))) (af (ae ap (aa 5) (aC (.int 1))) ak)))) (af (ae ap (aa 5) (aC (.int 0))) (af (bj (af (ae ap (aa 5) (aC (.int 0))) ak)) (af (bj (af (bc jF (af (ae ap (aa 5) (aC (.int 0))) ak)) (af (ae ap (aa 5) (aC (.int 1))) ak))) (af (bj (af (ae ap (aa 5) (aC (.int 0))) (af (aC (.int 0)) ak))) ak))))))))))
 (au (bb 8 (ae bg (aa 8) (bE (cW (af (bj (af (ae ap (aa 5) (aC (.int 0))) (af (aC (.bool true)) ak))) (af (bj (af (ae dh (aC (.int 0)) (ae ap (aa 5) (aC (.int 0)))) (af (ae dh (aC (.int 0)) (ae ap (aa 5) (aC (.int 1)))) ak))) (af (bj ak) (af (bj (af (ae ap (aa 5) (aC (.int 0))) (af (aC .none) ak))) (af (bj (af (ae ap (aa 5) (aC (.int 0))) (af (aC (.str "1")) ak))) (af (bj (af (bE (cW (af (aC (.int 1)) ak))) (af (ae ap (aa 5) (aC (.int 1))) ak))) ak))))))))))
 (au (bO (bu (ae (cD λi j=>decide (i < j)) (aa 3) (aC (.int 3))))
  (aZ (bj (af (aE (aD jQ (ah (ae bg (ae ap (aa 5) (aC (.int 0))) (aa 4)) (ah (ae ap (aa 5) (aC (.int 1))) aB)))) (af (aa 6) ak))))
  bM)
 (au (bO (bu (ae (cD λi j=>decide (i < j)) (aa 3) (aC (.int 6))))
  (aZ (bj (af (aa 5) (af (aa 7) ak))))
  bM)
 (au (bO (bu (ae dP (aa 3) (aC (.int 6))))
  (aZ (bj (af (bj (af (ae bX (aC (.int 2)) (ae ap (aa 5) (aC (.int 0)))) (af (ae bX (aC (.int 2)) (ae ap (aa 5) (aC (.int 1)))) ak))) (af (aa 6) ak))))
  bM)
 (au (bO (bu (ae (cD λi j=>decide (i < j)) (aa 3) (aC (.int 9))))
  (aZ (bj (af (ae ap (aa 8) (aE (aD cG (cg 0 (ah (aC (.int 13)) aB))))) (af (aa 6) ak))))
  bM)
 (au (bb 9 (bE (cW (af (bj (af (aa 5) (af (bE (gE jU (af (aa 6) ak))) ak))) (af (bj (af (aa 5) (af (cV (aa 6) dg (cK (aC (.int 1)))) ak))) (af (bj (af (aa 5) (af (aC .none) ak))) (af (bj (af (aa 5) (af (bj (af (ae ap (aa 6) (aC (.int 0))) (af (aC (.bool true)) ak))) ak))) (af (bj (af (aa 5) ak)) (af (bE (cW (af (aa 5) (af (aa 6) ak)))) ak)))))))))
 (au (bb 9 (ae bg (aa 9) (bE (cW (af (bj (af (aa 5) (af (bj (af (ae ap (aa 6) (aC (.int 0))) (af (aC .none) ak))) ak))) (af (bj (af (aa 5) (af (bj (af (bc jF (af (ae ap (aa 6) (aC (.int 0))) ak)) (af (ae ap (aa 6) (aC (.int 1))) ak))) ak))) (af (bj (af (aa 5) (af (bj (af (bE (cW (af (aC (.int 1)) ak))) (af (ae ap (aa 6) (aC (.int 1))) ak))) ak))) (af (bj (af (aa 5) (af (aC (.str "01")) ak))) ak))))))))
 (aZ (ae ap (ae bg (aa 9) (bE (cW (af (bj (af (aa 6) (af (aa 5) ak))) (af (bj (af (aa 5) (af (aa 6) (af (aC (.int 0)) ak)))) (af (aC .none) (af (aa 5) ak))))))) (aE (aD cG (cg 0 (ah (aC (.int 14)) aB))))))))))))))))))
theorem Znc (T:Txt K mg):ACal (bw cn) P w K mg base "_law_bent_entry" 2 ["_law_pen_here","_law_shop_here","_law_entry"] qb:=bF T.Zmv gL rfl λf cdv A outer sh H E hr=>by
 exact (av (bf (ba (i:=3) gL.nd rfl (.inl rfl) (aK (aG (cR T) (hr.mono (by decide)) rfl (cv (pv 0) (ai aj aH))))))
 (av (bf (ba (i:=4) gL.nd rfl (.inl rfl) (aA az ay (bV (dr (ag aj (ag (j8 aj) am)))) (aK (aG (cR T) (hr.mono (by decide)) rfl (cv (pv 0) (ai aj aH)))) (λ_ _=>rfl))))
 (av (iH (fu (ac (pv 2)) (cS rfl (br (aV (aT (i:=5) gL.nd rfl (.inl rfl))) (br (aV (aT (i:=6) gL.nd rfl (.inl rfl))) cJ)) (bq (bq cH)))))
 (av (bf (ba (i:=7) gL.nd rfl (.inl rfl) (bn (ag (aw dW dS (aK (aG (cR T) (hr.mono (by decide)) rfl (cv (pv 0) (ai (aw bC bB (aw bC bB (aA az ay (ac (pv 1)) aj (λ_ _=>rfl)) (aA az ay (ac (pv 1)) aj (λ_ _=>rfl))) aj) aH)))) (aA az ay (ac (pv 1)) aj (λ_ _=>rfl))) (ag (aw dW dS (aK (aG (cR T) (hr.mono (by decide)) rfl (cv (pv 0) (ai (aw bC bB (aw bC bB (aA az ay (ac (pv 1)) aj (λ_ _=>rfl)) (aA az ay (ac (pv 1)) aj (λ_ _=>rfl))) aj) aH)))) (aA az ay (ac (pv 1)) aj (λ_ _=>rfl))) am)))))
 (av (bf (ba (i:=8) gL.nd rfl (.inl rfl) (bV (dr (ag iI (ag ce (ag (bV (dr (ag (aA az ay (ac (pv 5)) aj (λ_ _=>rfl)) (ag (aA az ay (ac (pv 5)) aj (λ_ _=>rfl)) am)))) (ag (aA az ay (ac (pv 5)) aj (λ_ _=>rfl)) (ag (bn (ag (aA az ay (ac (pv 5)) aj (λ_ _=>rfl)) am)) (ag (bn (ag (bd (t:=aS) (da Ze6 rfl T.Zc9 boot_str (ag (aA az ay (ac (pv 5)) aj (λ_ _=>rfl)) am)) Zaj) (ag (aA az ay (ac (pv 5)) aj (λ_ _=>rfl)) am))) (ag (bn (ag (aA az ay (ac (pv 5)) aj (λ_ _=>rfl)) (ag aj am))) am)))))))))))
 (av (bf (ba (i:=8) gL.nd rfl (.inl rfl) (aw bC bB (ac (pv 8)) (bV (dr (ag (bn (ag (aA az ay (ac (pv 5)) aj (λ_ _=>rfl)) (ag ce am))) (ag (bn (ag (aw dW dS aj (aA az ay (ac (pv 5)) aj (λ_ _=>rfl))) (ag (aw dW dS aj (aA az ay (ac (pv 5)) aj (λ_ _=>rfl))) am))) (ag (bn am) (ag (bn (ag (aA az ay (ac (pv 5)) aj (λ_ _=>rfl)) (ag iI am))) (ag (bn (ag (aA az ay (ac (pv 5)) aj (λ_ _=>rfl)) (ag zV am))) (ag (bn (ag (bV (dr (ag aj am))) (ag (aA az ay (ac (pv 5)) aj (λ_ _=>rfl)) am))) am)))))))))))
 (av (bU (bL gQ cO (ac (pv 3)) aj (nomark _))
  (aF (a9 (bn (ag (aK (aG (zE T) (hr.mono (by decide)) rfl (ai (aw bC bB (aA az ay (ac (pv 5)) aj (λ_ _=>rfl)) (ac (pv 4))) (ai (aA az ay (ac (pv 5)) aj (λ_ _=>rfl)) aH)))) (ag (ac (pv 6)) am)))))
  bT)
 (av (bU (bL gQ cO (ac (pv 3)) aj (nomark _))
  (aF (a9 (bn (ag (ac (pv 5)) (ag (ac (pv 7)) am)))))
  bT)
 (av (bU (bL (ii hr) g9 (ac (pv 3)) aj (nomark _))
  (aF (a9 (bn (ag (bn (ag (aw b7 b6 aj (aA az ay (ac (pv 5)) aj (λ_ _=>rfl))) (ag (aw b7 b6 aj (aA az ay (ac (pv 5)) aj (λ_ _=>rfl))) am))) (ag (ac (pv 6)) am)))))
  bT)
 (av (bU (bL gQ cO (ac (pv 3)) aj (nomark _))
  (aF (a9 (bn (ag (aA az ay (ac (pv 8)) (aK (aG (cR T) (hr.mono (by decide)) rfl (cv (pv 0) (ai aj aH)))) (λ_ _=>rfl)) (ag (ac (pv 6)) am)))))
  bT)
 (av (bf (ba (i:=9) gL.nd rfl (.inl rfl) (bV (dr (ag (bn (ag (ac (pv 5)) (ag (bV (zQ (t:=aS) (da vJ rfl T.mI boot_list (ag (ac (pv 6)) am)) wB)) am))) (ag (bn (ag (ac (pv 5)) (ag (dt (ac (pv 6)) dI (de aj)) am))) (ag (bn (ag (ac (pv 5)) (ag iI am))) (ag (bn (ag (ac (pv 5)) (ag (bn (ag (aA az ay (ac (pv 6)) aj (λ_ _=>rfl)) (ag ce am))) am))) (ag (bn (ag (ac (pv 5)) am)) (ag (bV (dr (ag (ac (pv 5)) (ag (ac (pv 6)) am)))) am))))))))))
 (av (bf (ba (i:=9) gL.nd rfl (.inl rfl) (aw bC bB (ac (pv 9)) (bV (dr (ag (bn (ag (ac (pv 5)) (ag (bn (ag (aA az ay (ac (pv 6)) aj (λ_ _=>rfl)) (ag iI am))) am))) (ag (bn (ag (ac (pv 5)) (ag (bn (ag (bd (t:=aS) (da Ze6 rfl T.Zc9 boot_str (ag (aA az ay (ac (pv 6)) aj (λ_ _=>rfl)) am)) Zaj) (ag (aA az ay (ac (pv 6)) aj (λ_ _=>rfl)) am))) am))) (ag (bn (ag (ac (pv 5)) (ag (bn (ag (bV (dr (ag aj am))) (ag (aA az ay (ac (pv 6)) aj (λ_ _=>rfl)) am))) am))) (ag (bn (ag (ac (pv 5)) (ag zV am))) am)))))))))
 (aF (a9 (aA az ay (aw bC bB (ac (pv 9)) (bV (dr (ag (bn (ag (ac (pv 6)) (ag (ac (pv 5)) am))) (ag (bn (ag (ac (pv 5)) (ag (ac (pv 6)) (ag aj am)))) (ag iI (ag (ac (pv 5)) am))))))) (aK (aG (cR T) (hr.mono (by decide)) rfl (cv (pv 0) (ai aj aH)))) (λ_ _=>rfl))))))))))))))))
def qf:DT:=bv 3 0
 (vV (aD gS (ah (aa 2) (ah (aa 1) (ah (ae ap (aa 0) (aC (.int 0))) aB)))))
theorem Znh (T:Txt K mg):ACal (bw cn) P w K mg base "is_level" 3 ["shop","stock","thing"] qf:=bF T.ZlY Zhy rfl λf cdv A outer sh H E hr=>by
 exact (aF (ZfG (aG (Zne T) (hr.mono (by decide)) rfl (ai (ac (pv 2)) (ai (ac (pv 1)) (ai (aA az ay (ac (pv 0)) (gl rfl T.yP) (λ_ _=>rfl)) aH))))))
noncomputable def xS:DP :=
 (bj (af (aa 0) (af (aa 1) ak)))
noncomputable def xR:DP :=
 (ae bg (aE (aD lb (ah (aa 2) (ah (aa 0) aB)))) (aE (aD lb (ah (aa 2) (ah (aa 1) aB)))))
def mS:DT:=bv 1 0
 (aZ (jw (cz (aE (aD gg (ah (aa 0) aB)))) 2 [0] (bD (aJ (ao 0) (aJ (ao 1) bo))) xS xR))
theorem Zfh (T:Txt K mg):ACal (bw cn) P w K mg base "end_of_both" 3 ["shop"] mS:=bF T.Zl3 ZhA rfl λf cdv A outer sh H E hr=>by
 exact (aF (a9 (ZfW (ZcP n5 ["one","other"] [0] hr.units0 rfl (df (aK (aG (lF T) (hr.mono (by decide)) rfl (ai (ac (pv 0)) aH)))) (λb=>(cS rfl (br (aV (aT (i:=0) (show ((bN n5 ["one","other"] [0])).Nodup by trivial) rfl (.inl rfl))) (br (aV (aT (i:=1) (show ((bN n5 ["one","other"] [0])).Nodup by trivial) rfl (.inl rfl))) cJ)) (bq (bq cH)))) (λb=>(bn (ag (ac (pv 0)) (ag (ac (pv 1)) am)))) (λb=>(aw bC bB (aK (aG (Zfi T) (hr.mono (by decide)) rfl (ai (ac (pv 2)) (ai (ac (pv 0)) aH)))) (aK (aG (Zfi T) (hr.mono (by decide)) rfl (ai (ac (pv 2)) (ai (ac (pv 1)) aH)))))) rfl (show BlkOk n5 (aP xi) _ [0] by trivial)) (kF (ge (cp (by decide)) (ge (cp (by decide)) kG))))))
noncomputable def yv:DS :=
 (au (bb 12 (ae bg (aE (aD lc (ah (aa 0) (ah (aa 5) (ah (aa 8) aB))))) (aE (aD lc (ah (aa 0) (ah (aa 6) (ah (aa 10) aB)))))))
 (au (bb 13 (ae eO (aa 3) (bj (af (aE (aD kT (ah (aa 0) (ah (aa 5) (ah (aa 8) aB))))) (af (aE (aD kT (ah (aa 0) (ah (aa 6) (ah (aa 10) aB))))) ak)))))
 (lT qy 7 (ae bX (aa 11) (ae bg (ae bX (aa 4) (aa 12)) (aa 13))))))
noncomputable def ZdB:DS :=
 (dR (lR (aa 9)) (bD (aJ (ao 10) (aJ (ao 11) bo))) yv)
def pZ:DT:=bv 5 9
 (au (gF (bD (aJ (ao 5) (aJ (ao 6) bo))) (aa 2))
 (au (bb 7 (aC (.int 0)))
 (au (dR (lR (aa 1)) (bD (aJ (ao 8) (aJ (ao 9) bo))) ZdB)
 (fX 7))))
theorem Zm0 (T:Txt K mg):ACal (bw cn) P w K mg base "weighed_both" 3 ["shop","day","raised","ahead","scale"] pZ:=bF T.ZlI gt rfl λf cdv A outer sh H E hr=>by
 exact (av (iH (fu (ac (pv 2)) (cS rfl (br (aV (aT (i:=5) gt.nd rfl (.inl rfl))) (br (aV (aT (i:=6) gt.nd rfl (.inl rfl))) cJ)) (bq (bq cH)))))
 (av (bf (ba (i:=7) gt.nd rfl (.inl rfl) aj))
 (av (eD Ba rfl (vQ (pB rfl rfl T.pP (ac (pv 1)))) (cS rfl (br (aV (aT (i:=8) gt.nd rfl (.inl rfl))) (br (aV (aT (i:=9) gt.nd rfl (.inl rfl))) cJ)) (bq (bq cH)))
  (aF (eD Ba rfl (vQ (pB rfl rfl T.pP (ac (pv 9)))) (cS rfl (br (aV (aT (i:=10) gt.nd rfl (.inl rfl))) (br (aV (aT (i:=11) gt.nd rfl (.inl rfl))) cJ)) (bq (bq cH)))
  (av (bf (ba (i:=12) gt.nd rfl (.inl rfl) (aw bC bB (aK (aG (Zfk T) (hr.mono (by decide)) rfl (ai (ac (pv 0)) (ai (ac (pv 5)) (ai (ac (pv 8)) aH))))) (aK (aG (Zfk T) (hr.mono (by decide)) rfl (ai (ac (pv 0)) (ai (ac (pv 6)) (ai (ac (pv 10)) aH))))))))
 (av (bf (ba (i:=13) gt.nd rfl (.inl rfl) (ju (iY (fR hr) (ac (pv 3)) (bn (ag (aK (aG (zy T) (hr.mono (by decide)) rfl (ai (ac (pv 0)) (ai (ac (pv 5)) (ai (ac (pv 8)) aH))))) (ag (aK (aG (zy T) (hr.mono (by decide)) rfl (ai (ac (pv 0)) (ai (ac (pv 6)) (ai (ac (pv 10)) aH))))) am))) (λ_ _=>rfl)))))
 (aF (zO Zgk (xZ (i:=7) gt.nd rfl (.inl rfl) (aw b7 b6 (ac (pv 11)) (aw bC bB (aw b7 b6 (ac (pv 4)) (ac (pv 12))) (ac (pv 13)))) (pip Zku)))))))))
 (aF (nJ (pv 7))))))
noncomputable def xV:DP :=
 (bj (af (ae bg (ae bX (aa 1) (aE (aD kR (ah (aa 3) (ah (aa 4) (ah (aa 0) aB)))))) (ae eO (aa 2) (aa 0))) (af (aa 0) ak)))
def qh:DT:=bv 4 0
 (aZ (bc pX (af (bE (dA (cz (aE (aD mL (ah (aa 0) (ah (aa 1) aB))))) 1 [3,2,0,1] (ao 0) xV)) ak)))
theorem Znm (T:Txt K mg):ACal (bw cn) P w K mg base "cheapest_raise" 3 ["shop","stand","behind","scale"] qh:=bF T.Zl9 ZhD rfl λf cdv A outer sh H E hr=>by
 exact (aF (a9 (bd (t:=aS) (aX (ZmU hr rfl) rfl T.Zjw boot_min (ag (bV (fe (eW wf ["raised"] [3,2,0,1] rfl (df (aK (aG (Zfa T) (hr.mono (by decide)) rfl (ai (ac (pv 0)) (ai (ac (pv 1)) aH))))) (λb=>(aV (aT (i:=0) (show ((bN wf ["raised"] [3,2,0,1])).Nodup by trivial) rfl (.inl rfl)))) (λb=>(bn (ag (aw bC bB (aw b7 b6 (ac (pv 1)) (aK (aG (zx T) (hr.mono (by decide)) rfl (ai (ac (pv 3)) (ai (ac (pv 4)) (ai (ac (pv 0)) aH)))))) (ju (iY (fR hr) (ac (pv 2)) (ac (pv 0)) (λ_ _=>rfl)))) (ag (ac (pv 0)) am)))) rfl (show BlkOk wf (aP xm) _ [3,2,0,1] by trivial)) (cp (by decide)))) am)) Zgl)))
noncomputable def xU:DP :=
 (ae (cD λi j=>decide (i < j)) (ae bg (ae bX (aa 2) (aE (aD kR (ah (aa 4) (ah (aa 5) (ah (aa 0) aB)))))) (ae eO (aa 3) (aa 0))) (aa 1))
noncomputable def m8:DS :=
 (au (bb 8 (ae bg (ae bX (aa 3) (aE (aD kR (ah (aa 0) (ah (aa 5) (ah (aa 7) aB)))))) (ae eO (aa 2) (aa 7))))
 (au (bO (bu (ae cQ (aE (aD kQ (ah (aa 8) (ah (aa 3) aB)))) (aa 6)))
  (aZ (aC .none))
  bM)
 (au (bO (cU (bc nL (af (bE (dA (cz (aE (aD mL (ah (aa 0) (ah (aa 5) aB))))) 1 [8,3,2,0,5] (ao 0) xU)) ak)))
  (aZ (aC .none))
  bM)
 (lN 4 (aa 5) (aa 8)))))
def mU:DT:=bv 4 5
 (au (vS 4)
 (au (dR (iJ (aE (aD gg (ah (aa 0) aB))) (aa 1)) (bD (aJ (ao 5) (aJ (bD (aJ (ao 6) (aJ (ao 7) bo))) bo))) m8)
 (lP 4 (fX 4))))
theorem Znl (T:Txt K mg):ACal (bw cn) P w K mg base "costs_looked_at" 3 ["shop","entries","behind","scale"] mU:=bF T.Zl7 kz rfl λf cdv A outer sh H E hr=>by
 exact (av (ZfE (ba (i:=4) kz.nd rfl (.inl rfl) ZcO))
 (av (eD Ba rfl (lL (kH rfl rfl T.kM (aK (aG (lF T) (hr.mono (by decide)) rfl (ai (ac (pv 0)) aH))) (ac (pv 1)))) (cS rfl (br (aV (aT (i:=5) kz.nd rfl (.inr rfl))) (br (cS rfl (br (aV (aT (i:=6) kz.nd rfl (.inl rfl))) (br (aV (aT (i:=7) kz.nd rfl (.inl rfl))) cJ)) (bq (bq cH))) cJ)) (bq (bq cH)))
  (av (bf (ba (i:=8) kz.nd rfl (.inr rfl) (aw bC bB (aw b7 b6 (ac (pv 3)) (aK (aG (zx T) (hr.mono (by decide)) rfl (ai (ac (pv 0)) (ai (ac (pv 5)) (ai (ac (pv 7)) aH)))))) (ju (iY (fR hr) (ac (pv 2)) (ac (pv 7)) (λ_ _=>rfl))))))
 (av (bU (bL (eX hr) eT (aK (aG (Ze9 T) (hr.mono (by decide)) rfl (ai (ac (pv 8)) (ai (ac (pv 3)) aH)))) (ac (pv 6)) (nomark _))
  (aF (a9 iI))
  bT)
 (av (bU (dq (bd (t:=aS) (aX (ZmZ rfl) rfl T.Zjx boot_any (ag (bV (fe (eW we ["other"] [8,3,2,0,5] rfl (df (aK (aG (Zfa T) (hr.mono (by decide)) rfl (ai (ac (pv 0)) (ai (ac (pv 5)) aH))))) (λb=>(aV (aT (i:=0) (show ((bN we ["other"] [8,3,2,0,5])).Nodup by trivial) rfl (.inl rfl)))) (λb=>(zX gQ cO (aw bC bB (aw b7 b6 (ac (pv 2)) (aK (aG (zx T) (hr.mono (by decide)) rfl (ai (ac (pv 4)) (ai (ac (pv 5)) (ai (ac (pv 0)) aH)))))) (ju (iY (fR hr) (ac (pv 3)) (ac (pv 0)) (λ_ _=>rfl)))) (ac (pv 1)) (nomark _))) rfl (show BlkOk we (aP xk) _ [8,3,2,0,5] by trivial)) (cp (by decide)))) am)) Zgn))
  (aF (a9 iI))
  bT)
 (aF (ZfH (ZcB (fR hr) (pv 4) (ac (pv 5)) (ac (pv 8)) rfl)))))))
 (aF (ZfI (k:=4) (nJ (pv 4))))))
noncomputable def Zcv:DP :=
 (aE (aD p9 (cg 1 aB)))
def qa:DT:=bv 1 0
 (aZ (bc ga (af (bE (dA (gm (af (ae bg (aC (.int 1)) (aE (aD cG (cg 0 (ah (aC (.int 3)) aB))))) ak)) 1 [0] (ao 0) Zcv)) ak)))
theorem Znb (T:Txt K mg):ACal (bw cn) P w K mg base "_law_double" 3 ["_law_pen_here"] qa:=bF T.Zmu ZhJ rfl λf cdv A outer sh H E hr=>by
 exact (aF (a9 (bd (t:=aS) (da jq rfl T.dX boot_tuple (ag (bV (fe (eW wo ["_law_k"] [0] rfl (gY (gO rfl T.eZ (ag (aw bC bB aj (aK (aG (cR T) (hr.mono (by decide)) rfl (cv (pv 0) (ai aj aH))))) am))) (λb=>(aV (aT (i:=0) (show ((bN wo ["_law_k"] [0])).Nodup by trivial) rfl (.inl rfl)))) (λb=>(aK (aG (Zna T) (hr.mono (by decide)) rfl (cv (pv 1) aH)))) rfl (show BlkOk wo (aP xt) _ [0] by trivial)) (cp (by decide)))) am)) iM)))
noncomputable def pc:DP :=
 (aa 0)
noncomputable def pF:DR :=
 (dw (cU (aE (aD eC (ah (aa 1) (ah (ae ap (aa 2) (aa 0)) (ah (ae ap (aa 3) (aa 0)) aB)))))))
noncomputable def ji:DS :=
 (au (bO (eE (dw (cU (eS "tuple" (aa 4)))) (bu (ae cQ (bc cj (af (aa 4) ak)) (bc cj (af (aa 3) ak)))))
  (aZ (aC (.bool false)))
  bM)
 (bO (bu (ae kL (bE (jv (gm (af (bc cj (af (aa 4) ak)) ak)) 1 [0,3,4] (ao 0) pF pc)) (bE (cW ak))))
  (aZ (aC (.bool false)))
  bM))
def jS:DT:=bv 3 2
 (au (bO (eE (dw (cU (eS "tuple" (aa 2)))) (bu (ae cQ (bc cj (af (aa 2) ak)) (bc cj (af (aa 1) ak)))))
  (aZ (aC (.bool false)))
  bM)
 (au (bb 3 (bE (gE hV (af (aE (aD kX (ah (aa 0) aB))) ak))))
 (au (dR (cz (aa 2)) (ao 4) ji)
 (aZ (aC (.bool true))))))
theorem Zm9 (T:Txt K mg):ACal (bw cn) P w K mg base "_law_has_form" 3 ["_law_shop_here","_law_double_here","_law_thing"] jS:=bF T.Zmp w8 rfl λf cdv A outer sh H E hr=>by
 exact (av (bU (eQ (eP (dQ (dq (fI (T:="tuple") (Or.inr (Or.inr (Or.inr (Or.inr (.inl rfl))))) rfl (aX fG rfl T.fx boot_isinstance (bx (ac (pv 2)) (bx (fv (v:=.ty "tuple") rfl T.dX boot_tuple rfl) cf)))))) (fH (bL (eX hr) eT (bd (t:=aS) (aX cI rfl T.cF boot_len (ag (ac (pv 2)) am)) cY) (bd (t:=aS) (aX cI rfl T.cF boot_len (ag (ac (pv 1)) am)) cY) (nomark _)))))
 (aF (a9 ce))
 bT)
 (av (bf (ba (i:=3) w8.nd rfl (.inr rfl) (bV (vP (t:=aS) (aX (vH rfl) rfl T.pN boot_sorted (ag (aK (aG (zI T) (hr.mono (by decide)) rfl (ai (ac (pv 0)) aH))) am)) (oi notup)))))
 (av (eD Ba rfl (df (ac (pv 2))) (aV (aT (i:=4) w8.nd rfl (.inr rfl)))
  (av (bU (eQ (eP (dQ (dq (fI (T:="tuple") (Or.inr (Or.inr (Or.inr (Or.inr (.inl rfl))))) rfl (aX fG rfl T.fx boot_isinstance (bx (ac (pv 4)) (bx (fv (v:=.ty "tuple") rfl T.dX boot_tuple rfl) cf)))))) (fH (bL (eX hr) eT (bd (t:=aS) (aX cI rfl T.cF boot_len (ag (ac (pv 4)) am)) cY) (bd (t:=aS) (aX cI rfl T.cF boot_len (ag (ac (pv 3)) am)) cY) (nomark _)))))
  (aF (a9 ce))
  bT)
 (aF (bU (bL (ZcV hr) Zah (bV (ZfM (ZcM wm ["_law_k"] [0,3,4] rfl (gY (gO rfl T.eZ (ag (bd (t:=aS) (aX cI rfl T.cF boot_len (ag (ac (pv 4)) am)) cY) am))) (λb=>(aV (aT (i:=0) (show ((bN wm ["_law_k"] [0,3,4])).Nodup by trivial) rfl (.inl rfl)))) (λb=>(dQ (dq (aK (aG (Zm8 T) (hr.mono (by decide)) rfl (ai (ac (pv 1)) (ai (aA az ay (ac (pv 2)) (ac (pv 0)) (λ_ _=>rfl)) (ai (aA az ay (ac (pv 3)) (ac (pv 0)) (λ_ _=>rfl)) aH)))))))) (λb=>(ac (pv 0))) rfl (show BlkOk wm (aP xr) _ [0,3,4] by trivial)) (cp (by decide)))) (bV (dr am)) (nomark _))
  (aF (a9 ce))
  bT))))
 (aF (a9 ce)))))
noncomputable def qq:DS :=
 (bb 2 (ae bX (aa 2) (ae ap (aE (aD jQ (ah (aa 2) (ah (ae ap (aa 3) (aC (.int 1))) aB)))) (aC (.int 1)))))
noncomputable def pb:DP :=
 (bj (af (ae ap (aa 1) (aa 0)) (af (ae bX (ae ap (ae ap (ae ap (ae ap (aa 3) (aC (.int 0))) (aa 0)) (aC (.int 0))) (aC (.int 0))) (ae iC (aa 2) (ae ap (ae ap (ae ap (ae ap (aa 3) (aC (.int 0))) (aa 0)) (aC (.int 0))) (aC (.int 1))))) ak)))
def kW:DT:=bv 2 4
 (au (bO (bu (ae dP (aa 1) (bj ak)))
  (ka (cW (af (aE (aD kX (ah (aa 0) aB))) (af (aC (.int 1)) ak))))
  bM)
 (au (bb 2 (aC (.int 1)))
 (au (dR (cz (ae ap (aa 1) (aC (.int 0)))) (bD (aJ (ao 3) (aJ (ao 4) bo))) qq)
 (au (bb 5 (bE (gE hV (af (aE (aD kX (ah (aa 0) aB))) ak))))
 (ka (cW (af (bc iG (af (bE (dA (gm (af (bc cj (af (aa 5) ak)) ak)) 1 [5,2,1] (ao 0) pb)) ak)) (af (aa 2) ak))))))))
theorem Zff (T:Txt K mg):ACal (bw cn) P w K mg base "_law_later" 3 ["_law_shop_here","_law_rows"] kW:=bF T.Zmm kA rfl λf cdv A outer sh H E hr=>by
 exact (av (bU (bL (ii hr) g9 (ac (pv 1)) (bn am) (nomark _))
 (aF (nK (dr (ag (aK (aG (zI T) (hr.mono (by decide)) rfl (ai (ac (pv 0)) aH))) (ag aj am)))))
 bT)
 (av (bf (ba (i:=2) kA.nd rfl (.inr rfl) aj))
 (av (eD Ba rfl (df (aA az ay (ac (pv 1)) aj (λ_ _=>rfl))) (cS rfl (br (aV (aT (i:=3) kA.nd rfl (.inl rfl))) (br (aV (aT (i:=4) kA.nd rfl (.inl rfl))) cJ)) (bq (bq cH)))
  (aF (bf (ba (i:=2) kA.nd rfl (.inr rfl) (aw b7 b6 (ac (pv 2)) (aA az ay (aK (aG (zE T) (hr.mono (by decide)) rfl (ai (ac (pv 2)) (ai (aA az ay (ac (pv 3)) aj (λ_ _=>rfl)) aH)))) aj (λ_ _=>rfl)))))))
 (av (bf (ba (i:=5) kA.nd rfl (.inr rfl) (bV (vP (t:=aS) (aX (vH rfl) rfl T.pN boot_sorted (ag (aK (aG (zI T) (hr.mono (by decide)) rfl (ai (ac (pv 0)) aH))) am)) (oi notup)))))
 (aF (nK (dr (ag (bd (t:=aS) (da (zu hr.units rfl) rfl T.yg boot_dict (ag (bV (fe (eW wk ["_law_k"] [5,2,1] rfl (gY (gO rfl T.eZ (ag (bd (t:=aS) (aX cI rfl T.cF boot_len (ag (ac (pv 5)) am)) cY) am))) (λb=>(aV (aT (i:=0) (show ((bN wk ["_law_k"] [5,2,1])).Nodup by trivial) rfl (.inl rfl)))) (λb=>(bn (ag (aA az ay (ac (pv 1)) (ac (pv 0)) (λ_ _=>rfl)) (ag (aw b7 b6 (aA az ay (aA az ay (aA az ay (aA az ay (ac (pv 3)) aj (λ_ _=>rfl)) (ac (pv 0)) (λ_ _=>rfl)) aj (λ_ _=>rfl)) aj (λ_ _=>rfl)) (aw mG l4 (ac (pv 2)) (aA az ay (aA az ay (aA az ay (aA az ay (ac (pv 3)) aj (λ_ _=>rfl)) (ac (pv 0)) (λ_ _=>rfl)) aj (λ_ _=>rfl)) aj (λ_ _=>rfl)))) am)))) rfl (show BlkOk wk (aP xp) _ [5,2,1] by trivial)) (cp (by decide)))) am)) wC) (ag (ac (pv 2)) am)))))))))
noncomputable def xM : List Sl -> Tr PyData :=
 (bc dN (af (aa 0) ak))
noncomputable def xL : List Sl -> Tr PyData :=
 (bj (af (aa 0) (af (aE (aD mR (ah (aa 1) (ah (aa 2) (ah (aa 3) (ah (aa 4) (ah (aa 0) aB))))))) ak)))
noncomputable def lf : List Sl -> Tr Ou :=
 (bO (vY (bu (ae (cD λi j=>decide (i ≥ j)) (ae ap (aa 11) (aC (.int 0))) (ae ap (aa 8) (aC (.int 0))))) (bu (ae (cD λi j=>decide (i ≥ j)) (ae ap (aa 11) (aC (.int 1))) (ae ap (aa 8) (aC (.int 1))))))
  (bO (bu (ae (cD λi j=>decide (i < j)) (ae bX (ae bg (ae eO (aa 7) (aa 11)) (ae bX (aE (aD ja (ah (aa 0) (ah (aa 8) (ah (aa 11) aB))))) (aa 5))) (ae ap (aa 9) (aC (.int 1)))) (ae bX (ae ap (aa 9) (aC (.int 0))) (aa 5))))
  (aZ (aC (.bool false)))
  bM)
  bM)
noncomputable def mZ : List Sl -> Tr Ou :=
 (au (bO (bu (ae cQ (ae bX (ae bg (ae eO (aa 7) (aa 10)) (ae bX (aE (aD ja (ah (aa 0) (ah (aa 8) (ah (aa 10) aB))))) (aa 5))) (ae ap (aa 9) (aC (.int 1)))) (ae bX (ae ap (aa 9) (aC (.int 0))) (aa 5))))
  (aZ (aC (.bool false)))
  bM)
 (dR (cz (aa 6)) (ao 11) lf))
noncomputable def mP : List Sl -> Tr Re := bv 5 7
 (au (bb 5 (ae bX (aa 4) (bc dN (af (bE (dA (cz (aa 1)) 1 [] (ao 0) xM)) ak))))
 (au (bb 6 (bE (gE hV (af (aa 3) ak))))
 (au (bb 7 (bc iG (af (bE (dA (cz (aa 6)) 1 [0, 1, 3, 4] (ao 0) xL)) ak)))
 (au (dR (iJ (aa 6) (aa 2)) (bD (aJ (ao 8) (aJ (bD (aJ (ao 9) (aJ (ao 10) bo))) bo))) mZ)
 (aZ (aC (.bool true)))))))
theorem Zm4 (T : Txt K mg) : ACal (bw cn) P w K mg base "_law_row_holds" 3 ["_law_shop_here", "_law_one", "_law_row", "_law_later_here", "_law_bottom"] mP := bF T.Zme iR rfl fun f cdv A outer sh H E hr => by
 exact (av (bf (ba (i := 5) iR.nd rfl (.inl rfl) (aw b7 b6 (ac (pv 4)) (bd (t := aS) (aX (jr rfl) rfl T.i6 boot_sum (ag (bV (fe (eW kg ["_law_line"] [] rfl (df (ac (pv 1))) (λb => (aV (aT (i := 0) (show ((bN kg ["_law_line"] [])).Nodup by trivial) rfl (.inl rfl)))) (λb => (bd (t := aS) (aX (jr rfl) rfl T.i6 boot_sum (ag (ac (pv 0)) am)) iN)) rfl (show BlkOk kg (aP oV) _ [] from ⟨rfl, by trivial, by trivial, by trivial, by trivial⟩)) (cp (by decide)))) am)) iN))))
 (av (bf (ba (i := 6) iR.nd rfl (.inl rfl) (bV (vP (t := aS) (aX (vH rfl) rfl T.pN boot_sorted (ag (ac (pv 3)) am)) (oi notup)))))
 (av (bf (ba (i := 7) iR.nd rfl (.inl rfl) (bd (t := aS) (da (zu hr.units rfl) rfl T.yg boot_dict (ag (bV (fe (eW kg ["_law_goal"] [0, 1, 3, 4] rfl (df (ac (pv 6))) (λb => (aV (aT (i := 0) (show ((bN kg ["_law_goal"] [0, 1, 3, 4])).Nodup by trivial) rfl (.inl rfl)))) (λb => (bn (ag (ac (pv 0)) (ag (aK (aG (Zfe T) (hr.mono (by decide)) rfl (ai (ac (pv 1)) (ai (ac (pv 2)) (ai (ac (pv 3)) (ai (ac (pv 4)) (ai (ac (pv 0)) aH))))))) am)))) rfl (show BlkOk kg (aP oV) _ [0, 1, 3, 4] from ⟨rfl, by trivial, by trivial, by trivial, by trivial⟩)) (cp (by decide)))) am)) wC)))
 (av (eD Ba rfl (lL (kH rfl rfl T.kM (ac (pv 6)) (ac (pv 2)))) (cS rfl (br (aV (aT (i := 8) iR.nd rfl (.inl rfl))) (br (cS rfl (br (aV (aT (i := 9) iR.nd rfl (.inl rfl))) (br (aV (aT (i := 10) iR.nd rfl (.inl rfl))) cJ)) (bq (bq cH))) cJ)) (bq (bq cH)))
  (av (bU (bL (eX hr) eT (aw b7 b6 (aw bC bB (ju (iY (fR hr) (ac (pv 7)) (ac (pv 10)) (λ_ _=>rfl))) (aw b7 b6 (aK (aG (zG T) (hr.mono (by decide)) rfl (ai (ac (pv 0)) (ai (ac (pv 8)) (ai (ac (pv 10)) aH))))) (ac (pv 5)))) (aA az ay (ac (pv 9)) aj (λ_ _=>rfl))) (aw b7 b6 (aA az ay (ac (pv 9)) aj (λ_ _=>rfl)) (ac (pv 5))) (nomark _))
  (aF (a9 ce))
  bT)
 (aF (eD Ba rfl (df (ac (pv 6))) (aV (aT (i := 11) iR.nd rfl (.inl rfl)))
  (aF (bU (eQ (Zfy (bL mF cO (aA az ay (ac (pv 11)) aj (λ_ _=>rfl)) (aA az ay (ac (pv 8)) aj (λ_ _=>rfl)) (nomark _)) (Zfx (bL mF cO (aA az ay (ac (pv 11)) aj (λ_ _=>rfl)) (aA az ay (ac (pv 8)) aj (λ_ _=>rfl)) (nomark _)))))
  (aF (bU (bL gQ cO (aw b7 b6 (aw bC bB (ju (iY (fR hr) (ac (pv 7)) (ac (pv 11)) (λ_ _=>rfl))) (aw b7 b6 (aK (aG (zG T) (hr.mono (by decide)) rfl (ai (ac (pv 0)) (ai (ac (pv 8)) (ai (ac (pv 11)) aH))))) (ac (pv 5)))) (aA az ay (ac (pv 9)) aj (λ_ _=>rfl))) (aw b7 b6 (aA az ay (ac (pv 9)) aj (λ_ _=>rfl)) (ac (pv 5))) (nomark _))
  (aF (a9 ce))
  bT))
  bT))))))
 (aF (a9 ce))))))
def qc:DT:=bv 3 6
 (au (bb 3 (aE (aD cG (cg 0 (ah (aC (.int 10)) aB)))))
 (au (bb 4 (aE (aD cG (cg 0 (ah (bc cj (af (aa 2) ak)) aB)))))
 (au (bb 5 (ae ap (aa 2) (aa 4)))
 (au (bb 6 (aE (aD cG (cg 0 (ah (bc cj (af (aa 5) ak)) aB)))))
 (au (bb 7 (aE (aD qb (cg 0 (ah (aa 1) (ah (ae ap (aa 5) (aa 6)) aB))))))
 (au (bO (bu (ae (cD λi j=>decide (i < j)) (aa 3) (aC (.int 6))))
  (aZ (ae dJ (ae dJ (cV (aa 2) dg (cK (aa 4))) (bj (af (ae dJ (ae dJ (cV (aa 5) dg (cK (aa 6))) (bj (af (aa 7) ak))) (cV (aa 5) (cK (ae bg (aa 6) (aC (.int 1)))) dg)) ak))) (cV (aa 2) (cK (ae bg (aa 4) (aC (.int 1)))) dg)))
  bM)
 (au (bO (bu (ae dP (aa 3) (aC (.int 6))))
  (aZ (ae dJ (cV (aa 2) (cK (aa 4)) dg) (cV (aa 2) dg (cK (aa 4)))))
  bM)
 (au (bO (bu (ae dP (aa 3) (aC (.int 7))))
  (aZ (ae dJ (ae dJ (cV (aa 2) dg (cK (aa 4))) (bj (af (ae dJ (cV (aa 5) dg (cK (aa 6))) (cV (aa 5) (cK (ae bg (aa 6) (aC (.int 1)))) dg)) ak))) (cV (aa 2) (cK (ae bg (aa 4) (aC (.int 1)))) dg)))
  bM)
 (au (bO (bu (ae dP (aa 3) (aC (.int 8))))
  (aZ (ae dJ (ae dJ (cV (aa 2) dg (cK (aa 4))) (bj (af (ae dJ (ae dJ (cV (aa 5) dg (cK (aa 6))) (cV (aa 5) (cK (aa 6)) (cK (ae bg (aa 6) (aC (.int 1)))))) (cV (aa 5) (cK (aa 6)) dg)) ak))) (cV (aa 2) (cK (ae bg (aa 4) (aC (.int 1)))) dg)))
  bM)
 (au (bb 8 (bE (cW (af (bE (gE jU (af (aa 2) ak))) (af (aC .none) (af (aC (.bool true)) (af (aC (.int 0)) (af (aC (.str "")) (af (bj ak) (af (ae bg (aa 2) (cV (aa 2) dg (cK (aC (.int 1))))) (af (cV (aa 2) (cK (aC (.int 1))) dg) (af (ae dJ (ae dJ (cV (aa 2) dg (cK (aa 4))) (bj (af (bE (gE jU (af (aa 5) ak))) ak))) (cV (aa 2) (cK (ae bg (aa 4) (aC (.int 1)))) dg)) ak))))))))))))
 (aZ (ae ap (ae bg (aa 8) (bE (cW (af (aC (.dict [])) ak)))) (aE (aD cG (cg 0 (ah (aC (.int 10)) aB))))))))))))))))
theorem Znd (T:Txt K mg):ACal (bw cn) P w K mg base "_law_bent" 3 ["_law_pen_here","_law_shop_here","_law_paper"] qc:=bF T.Zmw jI rfl λf cdv A outer sh H E hr=>by
 exact (av (bf (ba (i:=3) jI.nd rfl (.inl rfl) (aK (aG (cR T) (hr.mono (by decide)) rfl (cv (pv 0) (ai aj aH))))))
 (av (bf (ba (i:=4) jI.nd rfl (.inl rfl) (aK (aG (cR T) (hr.mono (by decide)) rfl (cv (pv 0) (ai (bd (t:=aS) (aX cI rfl T.cF boot_len (ag (ac (pv 2)) am)) cY) aH))))))
 (av (bf (ba (i:=5) jI.nd rfl (.inl rfl) (aA az ay (ac (pv 2)) (ac (pv 4)) (λ_ _=>rfl))))
 (av (bf (ba (i:=6) jI.nd rfl (.inl rfl) (aK (aG (cR T) (hr.mono (by decide)) rfl (cv (pv 0) (ai (bd (t:=aS) (aX cI rfl T.cF boot_len (ag (ac (pv 5)) am)) cY) aH))))))
 (av (bf (ba (i:=7) jI.nd rfl (.inl rfl) (aK (aG (Znc T) (hr.mono (by decide)) rfl (cv (pv 0) (ai (ac (pv 1)) (ai (aA az ay (ac (pv 5)) (ac (pv 6)) (λ_ _=>rfl)) aH)))))))
 (av (bU (bL gQ cO (ac (pv 3)) aj (nomark _))
  (aF (a9 (aw eY eU (aw eY eU (dt (ac (pv 2)) dI (de (ac (pv 4)))) (bn (ag (aw eY eU (aw eY eU (dt (ac (pv 5)) dI (de (ac (pv 6)))) (bn (ag (ac (pv 7)) am))) (dt (ac (pv 5)) (de (aw bC bB (ac (pv 6)) aj)) dI)) am))) (dt (ac (pv 2)) (de (aw bC bB (ac (pv 4)) aj)) dI))))
  bT)
 (av (bU (bL (ii hr) g9 (ac (pv 3)) aj (nomark _))
  (aF (a9 (aw eY eU (dt (ac (pv 2)) (de (ac (pv 4))) dI) (dt (ac (pv 2)) dI (de (ac (pv 4)))))))
  bT)
 (av (bU (bL (ii hr) g9 (ac (pv 3)) aj (nomark _))
  (aF (a9 (aw eY eU (aw eY eU (dt (ac (pv 2)) dI (de (ac (pv 4)))) (bn (ag (aw eY eU (dt (ac (pv 5)) dI (de (ac (pv 6)))) (dt (ac (pv 5)) (de (aw bC bB (ac (pv 6)) aj)) dI)) am))) (dt (ac (pv 2)) (de (aw bC bB (ac (pv 4)) aj)) dI))))
  bT)
 (av (bU (bL (ii hr) g9 (ac (pv 3)) aj (nomark _))
  (aF (a9 (aw eY eU (aw eY eU (dt (ac (pv 2)) dI (de (ac (pv 4)))) (bn (ag (aw eY eU (aw eY eU (dt (ac (pv 5)) dI (de (ac (pv 6)))) (dt (ac (pv 5)) (de (ac (pv 6))) (de (aw bC bB (ac (pv 6)) aj)))) (dt (ac (pv 5)) (de (ac (pv 6))) dI)) am))) (dt (ac (pv 2)) (de (aw bC bB (ac (pv 4)) aj)) dI))))
  bT)
 (av (bf (ba (i:=8) jI.nd rfl (.inl rfl) (bV (dr (ag (bV (zQ (t:=aS) (da vJ rfl T.mI boot_list (ag (ac (pv 2)) am)) wB)) (ag iI (ag ce (ag aj (ag zV (ag (bn am) (ag (aw bC bB (ac (pv 2)) (dt (ac (pv 2)) dI (de aj))) (ag (dt (ac (pv 2)) (de aj) dI) (ag (aw eY eU (aw eY eU (dt (ac (pv 2)) dI (de (ac (pv 4)))) (bn (ag (bV (zQ (t:=aS) (da vJ rfl T.mI boot_list (ag (ac (pv 5)) am)) wB)) am))) (dt (ac (pv 2)) (de (aw bC bB (ac (pv 4)) aj)) dI)) am)))))))))))))
 (aF (a9 (aA az ay (aw bC bB (ac (pv 8)) (bV (dr (ag ZnK am)))) (aK (aG (cR T) (hr.mono (by decide)) rfl (cv (pv 0) (ai aj aH)))) (λ_ _=>rfl))))))))))))))
noncomputable def xX:DP :=
 (aa 0)
noncomputable def xW:DP :=
 (aE (aD pZ (ah (aa 1) (ah (aa 2) (ah (aa 0) (ah (aa 3) (ah (aa 4) aB)))))))
def mW:DT:=bv 4 0
 (aZ (jw (cz (aE (aD gg (ah (aa 0) aB)))) 1 [0,1,2,3] (ao 0) xX xW))
theorem Zfm (T:Txt K mg):ACal (bw cn) P w K mg base "behind_raises" 4 ["shop","day","ahead","scale"] mW:=bF T.Zma ZhE rfl λf cdv A outer sh H E hr=>by
 exact (aF (a9 (ZfW (ZcP wg ["raised"] [0,1,2,3] hr.units0 rfl (df (aK (aG (lF T) (hr.mono (by decide)) rfl (ai (ac (pv 0)) aH)))) (λb=>(aV (aT (i:=0) (show ((bN wg ["raised"] [0,1,2,3])).Nodup by trivial) rfl (.inl rfl)))) (λb=>(ac (pv 0))) (λb=>(aK (aG (Zm0 T) (hr.mono (by decide)) rfl (ai (ac (pv 1)) (ai (ac (pv 2)) (ai (ac (pv 0)) (ai (ac (pv 3)) (ai (ac (pv 4)) aH)))))))) rfl (show BlkOk wg (aP xn) _ [0,1,2,3] by trivial)) (cp (by decide)))))
noncomputable def mv:DP :=
 (aE (aD qf (ah (aa 2) (ah (aa 0) (ah (aa 1) aB)))))
def jb:DT:=bv 3 0
 (au (bO (eE (dw (cU (eS "tuple" (aa 2)))) (bu (ae cQ (bc cj (af (aa 2) ak)) (aC (.int 2)))))
  (aZ (aC (.bool false)))
  bM)
 (aZ (bc js (af (bE (dA (iJ (aa 1) (aa 2)) 2 [0] (bD (aJ (ao 0) (aJ (ao 1) bo))) mv)) ak))))
theorem Zng (T:Txt K mg):ACal (bw cn) P w K mg base "is_raise" 4 ["shop","stand","thing"] jb:=bF T.ZlX Zhx rfl λf cdv A outer sh H E hr=>by
 exact (av (bU (eQ (eP (dQ (dq (fI (T:="tuple") (Or.inr (Or.inr (Or.inr (Or.inr (.inl rfl))))) rfl (aX fG rfl T.fx boot_isinstance (bx (ac (pv 2)) (bx (fv (v:=.ty "tuple") rfl T.dX boot_tuple rfl) cf)))))) (fH (bL (eX hr) eT (bd (t:=aS) (aX cI rfl T.cF boot_len (ag (ac (pv 2)) am)) cY) aj (nomark _)))))
 (aF (a9 ce))
 bT)
 (aF (a9 (bd (t:=aS) (aX (zw rfl) rfl T.yh boot_all (ag (bV (fe (eW nY ["stock","level"] [0] rfl (lL (kH rfl rfl T.kM (ac (pv 1)) (ac (pv 2)))) (λb=>(cS rfl (br (aV (aT (i:=0) (show ((bN nY ["stock","level"] [0])).Nodup by trivial) rfl (.inl rfl))) (br (aV (aT (i:=1) (show ((bN nY ["stock","level"] [0])).Nodup by trivial) rfl (.inl rfl))) cJ)) (bq (bq cH)))) (λb=>(aK (aG (Znh T) (hr.mono (by decide)) rfl (ai (ac (pv 2)) (ai (ac (pv 0)) (ai (ac (pv 1)) aH)))))) rfl (show BlkOk nY (aP xf) _ [0] by trivial)) (kF (ge (cp (by decide)) (ge (cp (by decide)) kG))))) am)) wD))))
noncomputable def qp:DS :=
 (au (gF (lr (aJ (ao 4) (aJ (ao 5) bo))) (aE (aD kW (ah (aa 0) (ah (cV (aa 2) (cK (ae bg (aa 3) (aC (.int 1)))) dg) aB)))))
 (bO (dw (cU (aE (aD mP (ah (aa 0) (ah (ae ap (aa 1) (aa 3)) (ah (ae ap (aa 2) (aa 3)) (ah (aa 4) (ah (aa 5) aB)))))))))
  (aZ (aC (.bool false)))
  bM))
def jR:DT:=bv 3 3
 (au (bO (dw (cU (aE (aD jS (ah (aa 0) (ah (aa 1) (ah (aa 2) aB)))))))
  (aZ (aC (.bool false)))
  bM)
 (au (dR (gm (af (bc cj (af (aa 1) ak)) ak)) (ao 3) qp)
 (aZ (aC (.bool true)))))
theorem Zm6 (T:Txt K mg):ACal (bw cn) P w K mg base "_law_lets" 4 ["_law_shop_here","_law_double_here","_law_thing"] jR:=bF T.Zml oS rfl λf cdv A outer sh H E hr=>by
 exact (av (bU (dQ (dq (aK (aG (Zm9 T) (hr.mono (by decide)) rfl (ai (ac (pv 0)) (ai (ac (pv 1)) (ai (ac (pv 2)) aH)))))))
 (aF (a9 ce))
 bT)
 (av (eD Ba rfl (gY (gO rfl T.eZ (ag (bd (t:=aS) (aX cI rfl T.cF boot_len (ag (ac (pv 1)) am)) cY) am))) (aV (aT (i:=3) oS.nd rfl (.inl rfl)))
  (av (iH (fu (aK (aG (Zff T) (hr.mono (by decide)) rfl (ai (ac (pv 0)) (ai (dt (ac (pv 2)) (de (aw bC bB (ac (pv 3)) aj)) dI) aH)))) (ZfU rfl (br (aV (aT (i:=4) oS.nd rfl (.inl rfl))) (br (aV (aT (i:=5) oS.nd rfl (.inl rfl))) cJ)) (bq (bq cH)))))
 (aF (bU (dQ (dq (aK (aG (Zm4 T) (hr.mono (by decide)) rfl (ai (ac (pv 0)) (ai (aA az ay (ac (pv 1)) (ac (pv 3)) (λ_ _ => rfl)) (ai (aA az ay (ac (pv 2)) (ac (pv 3)) (λ_ _ => rfl)) (ai (ac (pv 4)) (ai (ac (pv 5)) aH)))))))))
  (aF (a9 ce))
  bT))))
 (aF (a9 ce))))
noncomputable def xO:DP :=
 (bc dN (af (aa 0) ak))
noncomputable def xN:DP :=
 (bj (af (aa 0) (af (aE (aD mR (ah (aa 1) (ah (ae ap (aa 4) (aa 5)) (ah (aa 2) (ah (aa 3) (ah (aa 0) aB))))))) ak)))
noncomputable def mq:DP :=
 (aa 0)
noncomputable def mC:DR :=
 (vY (bu (ae (cD λi j=>decide (i ≥ j)) (ae ap (aa 0) (aC (.int 0))) (ae ap (aa 1) (aC (.int 0))))) (bu (ae (cD λi j=>decide (i ≥ j)) (ae ap (aa 0) (aC (.int 1))) (ae ap (aa 1) (aC (.int 1))))))
noncomputable def o9:DP :=
 (aa 0)
noncomputable def pC:DR :=
 (bu (ae dP (ae bX (ae bg (ae eO (aa 3) (aa 0)) (ae bX (aE (aD ja (ah (aa 5) (ah (aa 6) (ah (aa 0) aB))))) (aa 4))) (ae ap (aa 2) (aC (.int 1)))) (aa 1)))
noncomputable def ZdE:DS :=
 (au (bb 15 (bE (jv (cz (aa 9)) 1 [12] (ao 0) mC mq)))
 (au (bb 16 (ae bX (ae ap (aa 13) (aC (.int 0))) (aa 8)))
 (au (bb 15 (bE (jv (cz (aa 15)) 1 [16,13,10,8,1,12] (ao 0) pC o9)))
 (lU 11 (bj (af (aa 13) (af (ae ap (aa 15) (aE (aD cG (cg 0 (ah (bc cj (af (aa 15) ak)) aB))))) ak)))))))
noncomputable def yx:DS :=
 (au (gF (lr (aJ (ao 6) (aJ (ao 7) bo))) (aE (aD kW (ah (aa 1) (ah (cV (aa 3) (cK (ae bg (aa 5) (aC (.int 1)))) dg) aB)))))
 (au (bb 8 (ae bX (aa 7) (bc dN (af (bE (dA (cz (ae ap (aa 2) (aa 5))) 1 [] (ao 0) xO)) ak))))
 (au (bb 9 (bE (gE hV (af (aa 6) ak))))
 (au (bb 10 (bc iG (af (bE (dA (cz (aa 9)) 1 [1,6,7,2,5] (ao 0) xN)) ak)))
 (au (j9 11 (cW ak))
 (au (dR (iJ (aa 9) (ae ap (aa 3) (aa 5))) (bD (aJ (ao 12) (aJ (bD (aJ (ao 13) (aJ (ao 14) bo))) bo))) ZdE)
 (lQ 11 (lU 4 (bc ga (af (aa 11) ak))))))))))
def p7:DT:=bv 4 13
 (au (j9 4 (cW ak))
 (au (dR (gm (af (bc cj (af (aa 2) ak)) ak)) (ao 5) yx)
 (lQ 4 (aZ (bc ga (af (aa 4) ak))))))
theorem Zm5 (T:Txt K mg):ACal (bw cn) P w K mg base "_law_other_raises" 4 ["_law_pen_here","_law_shop_here","_law_double_here","_law_paper"] p7:=bF T.Zmh eV rfl λf cdv A outer sh H E hr=>by
 exact (av (vL (ba (i:=4) eV.nd rfl (.inl rfl) (dr am)))
 (av (eD Ba rfl (gY (gO rfl T.eZ (ag (bd (t:=aS) (aX cI rfl T.cF boot_len (ag (ac (pv 2)) am)) cY) am))) (aV (aT (i:=5) eV.nd rfl (.inr rfl)))
  (av (iH (fu (aK (aG (Zff T) (hr.mono (by decide)) rfl (ai (ac (pv 1)) (ai (dt (ac (pv 3)) (de (aw bC bB (ac (pv 5)) aj)) dI) aH)))) (ZfU rfl (br (aV (aT (i:=6) eV.nd rfl (.inr rfl))) (br (aV (aT (i:=7) eV.nd rfl (.inr rfl))) cJ)) (bq (bq cH)))))
 (av (bf (ba (i:=8) eV.nd rfl (.inr rfl) (aw b7 b6 (ac (pv 7)) (bd (t:=aS) (aX (jr rfl) rfl T.i6 boot_sum (ag (bV (fe (eW fZ ["_law_line"] [] rfl (df (aA az ay (ac (pv 2)) (ac (pv 5)) (λ_ _=>rfl))) (λb=>(aV (aT (i:=0) (show ((bN fZ ["_law_line"] [])).Nodup by trivial) rfl (.inl rfl)))) (λb=>(bd (t:=aS) (aX (jr rfl) rfl T.i6 boot_sum (ag (ac (pv 0)) am)) iN)) rfl (show BlkOk fZ (aP kC) _ [] by trivial)) (cp (by decide)))) am)) iN))))
 (av (bf (ba (i:=9) eV.nd rfl (.inl rfl) (bV (vP (t:=aS) (aX (vH rfl) rfl T.pN boot_sorted (ag (ac (pv 6)) am)) (oi notup)))))
 (av (bf (ba (i:=10) eV.nd rfl (.inr rfl) (bd (t:=aS) (da (zu hr.units rfl) rfl T.yg boot_dict (ag (bV (fe (eW fZ ["_law_goal"] [1,6,7,2,5] rfl (df (ac (pv 9))) (λb=>(aV (aT (i:=0) (show ((bN fZ ["_law_goal"] [1,6,7,2,5])).Nodup by trivial) rfl (.inl rfl)))) (λb=>(bn (ag (ac (pv 0)) (ag (aK (aG (Zfe T) (hr.mono (by decide)) rfl (ai (ac (pv 1)) (ai (aA az ay (ac (pv 4)) (ac (pv 5)) (λ_ _=>rfl)) (ai (ac (pv 2)) (ai (ac (pv 3)) (ai (ac (pv 0)) aH))))))) am)))) rfl (show BlkOk fZ (aP kC) _ [1,6,7,2,5] by trivial)) (cp (by decide)))) am)) wC)))
 (av (vL (ba (i:=11) eV.nd rfl (.inl rfl) (dr am)))
 (av (eD Ba rfl (lL (kH rfl rfl T.kM (ac (pv 9)) (aA az ay (ac (pv 3)) (ac (pv 5)) (λ_ _=>rfl)))) (cS rfl (br (aV (aT (i:=12) eV.nd rfl (.inr rfl))) (br (cS rfl (br (aV (aT (i:=13) eV.nd rfl (.inr rfl))) (br (aV (aT (i:=14) eV.nd rfl (.inl rfl))) cJ)) (bq (bq cH))) cJ)) (bq (bq cH)))
  (av (ZfF (ZcA (i:=15) fZ ["_law_one"] [12] rfl eV.nd rfl rfl (df (ac (pv 9))) (λb=>(aV (aT (i:=0) (show ((bN fZ ["_law_one"] [12])).Nodup by trivial) rfl (.inl rfl)))) (λb=>(eQ (Zfy (bL mF cO (aA az ay (ac (pv 0)) aj (λ_ _=>rfl)) (aA az ay (ac (pv 1)) aj (λ_ _=>rfl)) (nomark _)) (Zfx (bL mF cO (aA az ay (ac (pv 0)) aj (λ_ _=>rfl)) (aA az ay (ac (pv 1)) aj (λ_ _=>rfl)) (nomark _)))))) (λb=>(ac (pv 0))) rfl (show BlkOk fZ (aP kC) _ [12] by trivial) rfl) (cp (by decide)))
 (av (bf (ba (i:=16) eV.nd rfl (.inr rfl) (aw b7 b6 (aA az ay (ac (pv 13)) aj (λ_ _=>rfl)) (ac (pv 8)))))
 (av (ZfF (ZcA (i:=15) fZ ["_law_one"] [16,13,10,8,1,12] rfl eV.nd rfl rfl (df (ac (pv 15))) (λb=>(aV (aT (i:=0) (show ((bN fZ ["_law_one"] [16,13,10,8,1,12])).Nodup by trivial) rfl (.inl rfl)))) (λb=>(bL (ii hr) g9 (aw b7 b6 (aw bC bB (ju (iY (fR hr) (ac (pv 3)) (ac (pv 0)) (λ_ _=>rfl))) (aw b7 b6 (aK (aG (zG T) (hr.mono (by decide)) rfl (ai (ac (pv 5)) (ai (ac (pv 6)) (ai (ac (pv 0)) aH))))) (ac (pv 4)))) (aA az ay (ac (pv 2)) aj (λ_ _=>rfl))) (ac (pv 1)) (nomark _))) (λb=>(ac (pv 0))) rfl (show BlkOk fZ (aP kC) _ [16,13,10,8,1,12] by trivial) rfl) (cp (by decide)))
 (aF (zP (pq (x3 Cs CW CV yj (pv 11) (bx (bn (ag (ac (pv 13)) (ag (aA az ay (ac (pv 15)) (aK (aG (cR T) (hr.mono (by decide)) rfl (cv (pv 0) (ai (bd (t:=aS) (aX cI rfl T.cF boot_len (ag (ac (pv 15)) am)) cY) aH)))) (λ_ _=>rfl)) am))) cf)))))))))
 (aF (vN (k:=11) (zP (pq (x3 Cs CW CV yj (pv 4) (bx (bd (t:=aS) (da jq rfl T.dX boot_tuple (ag (ac (pv 11)) am)) iM) cf)))))))))))))
 (aF (vN (k:=4) (a9 (bd (t:=aS) (da jq rfl T.dX boot_tuple (ag (ac (pv 4)) am)) iM))))))
noncomputable def xK:DP :=
 (aE (aD qh (ah (aa 1) (ah (aa 0) (ah (aa 2) (ah (aa 3) aB))))))
noncomputable def o7:DP :=
 (bj (af (aE (aD kQ (ah (aa 0) (ah (aa 2) aB)))) (af (aa 1) ak)))
noncomputable def xJ:DP :=
 (aa 0)
noncomputable def xI:DP :=
 (aa 1)
noncomputable def ZdC:DS :=
 (au (bb 6 (aE (aD mW (ah (aa 0) (ah (aa 5) (ah (aa 3) (ah (aa 4) aB)))))))
 (au (lT lm 4 (aE (aD mT (ah (aa 5) aB))))
 (au (bb 7 (bE (dA (cz (aE (aD gg (ah (aa 0) aB)))) 1 [0,6,4] (ao 0) xK)))
 (au (lU 2 (bc ga (af (bE (dA (cz (aa 7)) 2 [4] (bD (aJ (ao 0) (aJ (ao 1) bo))) o7)) ak)))
 (bb 3 (jw (iJ (aE (aD gg (ah (aa 0) aB))) (aa 7)) 3 [] (bD (aJ (ao 0) (aJ (bD (aJ (ao 1) (aJ (ao 2) bo))) bo))) xJ xI))))))
def mN:DT:=bv 2 6
 (au (j9 2 (cW ak))
 (au (bb 3 (aE (aD mS (ah (aa 0) aB))))
 (au (bb 4 (aC (.int 1)))
 (au (dR (Ab (aa 1)) (ao 5) ZdC)
 (au (vU 2)
 (lQ 2 (aZ (bc ga (af (aa 2) ak)))))))))
theorem Zm2 (T:Txt K mg):ACal (bw cn) P w K mg base "least_double" 5 ["shop","double"] mN:=bF T.ZlS hZ rfl λf cdv A outer sh H E hr=>by
 exact (av (vL (ba (i:=2) hZ.nd rfl (.inl rfl) (dr am)))
 (av (bf (ba (i:=3) hZ.nd rfl (.inl rfl) (aK (aG (Zfh T) (hr.mono (by decide)) rfl (ai (ac (pv 0)) aH)))))
 (av (bf (ba (i:=4) hZ.nd rfl (.inr rfl) aj))
 (av (eD Ba rfl (ZnH (ZcH rfl T.Zda (ac (pv 1)))) (aV (aT (i:=5) hZ.nd rfl (.inl rfl)))
  (av (bf (ba (i:=6) hZ.nd rfl (.inr rfl) (aK (aG (Zfm T) (hr.mono (by decide)) rfl (ai (ac (pv 0)) (ai (ac (pv 5)) (ai (ac (pv 3)) (ai (ac (pv 4)) aH))))))))
 (av (zO Zai (xZ (i:=4) hZ.nd rfl (.inr rfl) (aK (aG (Zfj T) (hr.mono (by decide)) rfl (ai (ac (pv 5)) aH))) (pip ZdV)))
 (av (Znu (xY (i:=7) fY ["stand"] [0,6,4] rfl hZ.nd rfl rfl (df (aK (aG (lF T) (hr.mono (by decide)) rfl (ai (ac (pv 0)) aH)))) (λb=>(aV (aT (i:=0) (show ((bN fY ["stand"] [0,6,4])).Nodup by trivial) rfl (.inl rfl)))) (λb=>(aK (aG (Znm T) (hr.mono (by decide)) rfl (ai (ac (pv 1)) (ai (ac (pv 0)) (ai (ac (pv 2)) (ai (ac (pv 3)) aH))))))) rfl (show BlkOk fY (aP mh) _ [0,6,4] by trivial) rfl) (cp (by decide)))
 (av (zP (pq (x3 Cs CW CV yj (pv 2) (bx (bd (t:=aS) (da jq rfl T.dX boot_tuple (ag (bV (fe (eW fY ["cost","raised"] [4] rfl (df (ac (pv 7))) (λb=>(cS rfl (br (aV (aT (i:=0) (show ((bN fY ["cost","raised"] [4])).Nodup by trivial) rfl (.inl rfl))) (br (aV (aT (i:=1) (show ((bN fY ["cost","raised"] [4])).Nodup by trivial) rfl (.inl rfl))) cJ)) (bq (bq cH)))) (λb=>(bn (ag (aK (aG (Ze9 T) (hr.mono (by decide)) rfl (ai (ac (pv 0)) (ai (ac (pv 2)) aH)))) (ag (ac (pv 1)) am)))) rfl (show BlkOk fY (aP mh) _ [4] by trivial)) (kF (ge (cp (by decide)) (ge (cp (by decide)) kG))))) am)) iM) cf))))
 (aF (Znx (Ziu (i:=3) fY ["stand","cost","raised"] [] hr.units0 rfl hZ.nd rfl rfl (lL (kH rfl rfl T.kM (aK (aG (lF T) (hr.mono (by decide)) rfl (ai (ac (pv 0)) aH))) (ac (pv 7)))) (λb=>(cS rfl (br (aV (aT (i:=0) (show ((bN fY ["stand","cost","raised"] [])).Nodup by trivial) rfl (.inl rfl))) (br (cS rfl (br (aV (aT (i:=1) (show ((bN fY ["stand","cost","raised"] [])).Nodup by trivial) rfl (.inl rfl))) (br (aV (aT (i:=2) (show ((bN fY ["stand","cost","raised"] [])).Nodup by trivial) rfl (.inl rfl))) cJ)) (bq (bq cH))) cJ)) (bq (bq cH)))) (λb=>(ac (pv 0))) (λb=>(ac (pv 1))) rfl (show BlkOk fY (aP mh) _ [] by trivial) rfl) (kF (ge (cp (by decide)) (ge (kF (ge (cp (by decide)) (ge (cp (by decide)) kG))) kG))))))))))
 (av (Zny (pq (ZiY Cs PySem.F.slot_list_reverse PySem.F.type_list_reverse Zjz (pv 2))))
 (aF (vN (k:=2) (a9 (bd (t:=aS) (da jq rfl T.dX boot_tuple (ag (ac (pv 2)) am)) iM)))))))))
def iw:DT:=bv 3 2
 (au (bO (eE (dw (cU (eS "tuple" (aa 2)))) (bu (ae cQ (bc cj (af (aa 2) ak)) (aC (.int 2)))))
  (aZ (aC (.bool false)))
  bM)
 (au (gF (bD (aJ (ao 3) (aJ (ao 4) bo))) (aa 2))
 (aZ (ke (aE (aD dC (ah (aa 3) aB))) (aE (aD jb (ah (aa 0) (ah (aa 1) (ah (aa 4) aB)))))))))
theorem Znk (T:Txt K mg):ACal (bw cn) P w K mg base "is_double_entry" 5 ["shop","stand","thing"] iw:=bF T.Zl1 wW rfl λf cdv A outer sh H E hr=>by
 exact (av (bU (eQ (eP (dQ (dq (fI (T:="tuple") (Or.inr (Or.inr (Or.inr (Or.inr (.inl rfl))))) rfl (aX fG rfl T.fx boot_isinstance (bx (ac (pv 2)) (bx (fv (v:=.ty "tuple") rfl T.dX boot_tuple rfl) cf)))))) (fH (bL (eX hr) eT (bd (t:=aS) (aX cI rfl T.cF boot_len (ag (ac (pv 2)) am)) cY) aj (nomark _)))))
 (aF (a9 ce))
 bT)
 (av (iH (fu (ac (pv 2)) (cS rfl (br (aV (aT (i:=3) wW.nd rfl (.inl rfl))) (br (aV (aT (i:=4) wW.nd rfl (.inl rfl))) cJ)) (bq (bq cH)))))
 (aF (a9 (nP (aK (aG (Znf T) (hr.mono (by decide)) rfl (ai (ac (pv 3)) aH))) (nN (aK (aG (Zng T) (hr.mono (by decide)) rfl (ai (ac (pv 0)) (ai (ac (pv 1)) (ai (ac (pv 4)) aH)))))))))))
noncomputable def xQ:DP :=
 (aE (aD iw (ah (aa 2) (ah (aa 0) (ah (aa 1) aB)))))
def kZ:DT:=bv 2 1
 (au (bb 2 (aE (aD gg (ah (aa 0) aB))))
 (au (bO (eE (dw (cU (eS "tuple" (aa 1)))) (bu (ae cQ (bc cj (af (aa 1) ak)) (bc cj (af (aa 2) ak)))))
  (aZ (aC (.bool false)))
  bM)
 (aZ (bc js (af (bE (dA (iJ (aa 2) (aa 1)) 2 [0] (bD (aJ (ao 0) (aJ (ao 1) bo))) xQ)) ak)))))
theorem Zni (T:Txt K mg):ACal (bw cn) P w K mg base "is_double_paper_day" 6 ["shop","thing"] kZ:=bF T.ZlZ Za3 rfl λf cdv A outer sh H E hr=>by
 exact (av (bf (ba (i:=2) Za3.nd rfl (.inl rfl) (aK (aG (lF T) (hr.mono (by decide)) rfl (ai (ac (pv 0)) aH)))))
 (av (bU (eQ (eP (dQ (dq (fI (T:="tuple") (Or.inr (Or.inr (Or.inr (Or.inr (.inl rfl))))) rfl (aX fG rfl T.fx boot_isinstance (bx (ac (pv 1)) (bx (fv (v:=.ty "tuple") rfl T.dX boot_tuple rfl) cf)))))) (fH (bL (eX hr) eT (bd (t:=aS) (aX cI rfl T.cF boot_len (ag (ac (pv 1)) am)) cY) (bd (t:=aS) (aX cI rfl T.cF boot_len (ag (ac (pv 2)) am)) cY) (nomark _)))))
  (aF (a9 ce))
  bT)
 (aF (a9 (bd (t:=aS) (aX (zw rfl) rfl T.yh boot_all (ag (bV (fe (eW nZ ["stand","entry"] [0] rfl (lL (kH rfl rfl T.kM (ac (pv 2)) (ac (pv 1)))) (λb=>(cS rfl (br (aV (aT (i:=0) (show ((bN nZ ["stand","entry"] [0])).Nodup by trivial) rfl (.inl rfl))) (br (aV (aT (i:=1) (show ((bN nZ ["stand","entry"] [0])).Nodup by trivial) rfl (.inl rfl))) cJ)) (bq (bq cH)))) (λb=>(aK (aG (Znk T) (hr.mono (by decide)) rfl (ai (ac (pv 2)) (ai (ac (pv 0)) (ai (ac (pv 1)) aH)))))) rfl (show BlkOk nZ (aP xg) _ [0] by trivial)) (kF (ge (cp (by decide)) (ge (cp (by decide)) kG))))) am)) wD)))))
noncomputable def mw:DP :=
 (aE (aD kZ (ah (aa 1) (ah (aa 0) aB))))
def la:DT:=bv 3 0
 (au (bO (eE (dw (cU (eS "tuple" (aa 2)))) (bu (ae cQ (bc cj (af (aa 2) ak)) (bc cj (af (aa 1) ak)))))
  (aZ (aC (.bool false)))
  bM)
 (aZ (bc js (af (bE (dA (cz (aa 2)) 1 [0] (ao 0) mw)) ak))))
theorem Znj (T:Txt K mg):ACal (bw cn) P w K mg base "is_double_paper" 7 ["shop","double","thing"] la:=bF T.Zl0 Zhz rfl λf cdv A outer sh H E hr=>by
 exact (av (bU (eQ (eP (dQ (dq (fI (T:="tuple") (Or.inr (Or.inr (Or.inr (Or.inr (.inl rfl))))) rfl (aX fG rfl T.fx boot_isinstance (bx (ac (pv 2)) (bx (fv (v:=.ty "tuple") rfl T.dX boot_tuple rfl) cf)))))) (fH (bL (eX hr) eT (bd (t:=aS) (aX cI rfl T.cF boot_len (ag (ac (pv 2)) am)) cY) (bd (t:=aS) (aX cI rfl T.cF boot_len (ag (ac (pv 1)) am)) cY) (nomark _)))))
 (aF (a9 ce))
 bT)
 (aF (a9 (bd (t:=aS) (aX (zw rfl) rfl T.yh boot_all (ag (bV (fe (eW wb ["entries"] [0] rfl (df (ac (pv 2))) (λb=>(aV (aT (i:=0) (show ((bN wb ["entries"] [0])).Nodup by trivial) rfl (.inl rfl)))) (λb=>(aK (aG (Zni T) (hr.mono (by decide)) rfl (ai (ac (pv 1)) (ai (ac (pv 0)) aH))))) rfl (show BlkOk wb (aP xh) _ [0] by trivial)) (cp (by decide)))) am)) wD))))
noncomputable def qo:DS :=
 (au (bb 6 (aE (aD mW (ah (aa 0) (ah (ae ap (aa 1) (aa 5)) (ah (aa 3) (ah (aa 4) aB)))))))
 (au (lT lm 4 (aE (aD mT (ah (ae ap (aa 1) (aa 5)) aB))))
 (au (bb 3 (aE (aD mU (ah (aa 0) (ah (ae ap (aa 2) (aa 5)) (ah (aa 6) (ah (aa 4) aB)))))))
 (bO (bu (ae qv (aa 3) (aC .none)))
  (aZ (aC (.bool false)))
  bM))))
def gR:DT:=bv 3 4
 (au (bO (dw (cU (aE (aD la (ah (aa 0) (ah (aa 1) (ah (aa 2) aB)))))))
  (aZ (aC (.bool false)))
  bM)
 (au (bb 3 (aE (aD mS (ah (aa 0) aB))))
 (au (bb 4 (aC (.int 1)))
 (au (dR (Aa (af (bc cj (af (aa 1) ak)) ak)) (ao 5) qo)
 (aZ (aC (.bool true)))))))
theorem Zfb (T:Txt K mg):ACal (bw cn) P w K mg base "lets_double" 8 ["shop","double","thing"] gR:=bF T.ZlR jG rfl λf cdv A outer sh H E hr=>by
 exact (av (bU (dQ (dq (aK (aG (Znj T) (hr.mono (by decide)) rfl (ai (ac (pv 0)) (ai (ac (pv 1)) (ai (ac (pv 2)) aH)))))))
 (aF (a9 ce))
 bT)
 (av (bf (ba (i:=3) jG.nd rfl (.inl rfl) (aK (aG (Zfh T) (hr.mono (by decide)) rfl (ai (ac (pv 0)) aH)))))
 (av (bf (ba (i:=4) jG.nd rfl (.inl rfl) aj))
 (av (eD Ba rfl (ZnG (ZcH rfl T.Zda (da ZmT rfl T.eZ boot_range (ag (bd (t:=aS) (aX cI rfl T.cF boot_len (ag (ac (pv 1)) am)) cY) am)))) (aV (aT (i:=5) jG.nd rfl (.inl rfl)))
  (av (bf (ba (i:=6) jG.nd rfl (.inl rfl) (aK (aG (Zfm T) (hr.mono (by decide)) rfl (ai (ac (pv 0)) (ai (aA az ay (ac (pv 1)) (ac (pv 5)) (λ_ _=>rfl)) (ai (ac (pv 3)) (ai (ac (pv 4)) aH))))))))
 (av (zO Zai (xZ (i:=4) jG.nd rfl (.inl rfl) (aK (aG (Zfj T) (hr.mono (by decide)) rfl (ai (aA az ay (ac (pv 1)) (ac (pv 5)) (λ_ _=>rfl)) aH))) (pip ZdV)))
 (av (bf (ba (i:=3) jG.nd rfl (.inl rfl) (aK (aG (Znl T) (hr.mono (by decide)) rfl (ai (ac (pv 0)) (ai (aA az ay (ac (pv 2)) (ac (pv 5)) (λ_ _=>rfl)) (ai (ac (pv 6)) (ai (ac (pv 4)) aH))))))))
 (aF (bU (bL Zjb Zgj (ac (pv 3)) iI (nomark _))
  (aF (a9 ce))
  bT))))))
 (aF (a9 ce))))))
noncomputable def ZdD:DS :=
 (bO (eE (bu (ae cQ (bc jJ (af (aE (aD gR (ah (aa 0) (ah (aa 1) (ah (aa 2) aB))))) ak)) (aa 4))) (bu (ae cQ (bc jJ (af (bj (af (aa 0) (af (aa 1) (af (aa 2) ak)))) ak)) (aa 3))))
  (aZ (aC (.bool false)))
  bM)
def kU:DT:=bv 3 3
 (au (bb 3 (bc jJ (af (bj (af (aa 0) (af (aa 1) (af (aa 2) ak)))) ak)))
 (au (bb 4 (bc jJ (af (aE (aD jR (ah (aa 0) (ah (aa 1) (ah (aa 2) aB))))) ak)))
 (au (dR (gm (af (aC (.int 2)) ak)) (ao 5) ZdD)
 (aZ (aC (.bool true))))))
theorem zF (T:Txt K mg):ACal (bw cn) P w K mg base "_law_right" 9 ["_law_shop_here","_law_double_here","_law_thing"] kU:=bF T.Zmf oR rfl λf cdv A outer sh H E hr=>by
 exact (av (bf (ba (i:=3) oR.nd rfl (.inl rfl) (bd (t:=aS) (aX (vI hr) rfl T.pO boot_repr (ag (bn (ag (ac (pv 0)) (ag (ac (pv 1)) (ag (ac (pv 2)) am)))) am)) oj)))
 (av (bf (ba (i:=4) oR.nd rfl (.inl rfl) (bd (t:=aS) (aX (vI hr) rfl T.pO boot_repr (ag (aK (aG (Zm6 T) (hr.mono (by decide)) rfl (ai (ac (pv 0)) (ai (ac (pv 1)) (ai (ac (pv 2)) aH))))) am)) oj)))
 (av (eD Ba rfl (gY (gO rfl T.eZ (ag aj am))) (aV (aT (i:=5) oR.nd rfl (.inl rfl)))
  (aF (bU (eQ (eP (bL (eX hr) eT (bd (t:=aS) (aX (vI hr) rfl T.pO boot_repr (ag (aK (aG (Zfb T) (hr.mono (by decide)) rfl (ai (ac (pv 0)) (ai (ac (pv 1)) (ai (ac (pv 2)) aH))))) am)) oj) (ac (pv 4)) (nomark _)) (fH (bL (eX hr) eT (bd (t:=aS) (aX (vI hr) rfl T.pO boot_repr (ag (bn (ag (ac (pv 0)) (ag (ac (pv 1)) (ag (ac (pv 2)) am)))) am)) oj) (ac (pv 3)) (nomark _)))))
  (aF (a9 ce))
  bT)))
 (aF (a9 ce)))))
noncomputable def ZdH:DS :=
 (bO (dw (cU (aE (aD kU (ah (aa 2) (ah (aa 3) (ah (aE (aD qc (cg 1 (ah (aa 2) (ah (ae ap (aa 5) (ae i7 (aa 6) (aC (.int 2)))) aB))))) aB)))))))
  (aZ (aC (.bool false)))
  bM)
noncomputable def qd:DS :=
 (au (bb 2 (aE (aD p6 (cg 1 aB))))
 (au (bb 3 (aE (aD qa (cg 1 aB))))
 (au (bb 4 (aE (aD mN (ah (aa 2) (ah (aa 3) aB)))))
 (au (bO (eE (bu (ae qu (aE (aD gR (ah (aa 2) (ah (aa 3) (ah (aa 4) aB))))) (aC (.bool true)))) (dw (cU (aE (aD kU (ah (aa 2) (ah (aa 3) (ah (aa 4) aB))))))))
  (aZ (aC (.bool false)))
  bM)
 (au (bb 5 (bE (cW (af (aa 4) (af (aE (aD p7 (cg 1 (ah (aa 2) (ah (aa 3) (ah (aa 4) aB)))))) ak)))))
 (au (bO (dw (cU (aE (aD kU (ah (aa 2) (ah (aa 3) (ah (ae ap (aa 5) (aC (.int 1))) aB)))))))
  (aZ (aC (.bool false)))
  bM)
 (au (dR (gm (af (aC (.int 12)) ak)) (ao 6) ZdH)
 (aZ (aC (.bool true))))))))))
noncomputable abbrev yu:D5:=.un::.pen::List.replicate 5 .un
theorem Zji (T:Txt K mg) {f:Addr} {fd:FuncData} (F:Fun K "law" "law" xc f fd) (hl:(qd yu).ok 0 λ_ o=>o=.ret (.d (.bool true))):FnOk P w K mg base jA 10 f fd ["_law_script"] (ZaM K):=by
 refine F.ok jH (λvs H Q E h=>?_) (λcdv A outer s H vs Q E hr h=>?_)
 ·obtain ⟨a,ns,rfl,_⟩:=h
  rfl
 ·obtain ⟨a,ns,rfl,hS,hlen,k⟩:=h
  have hu:=fR hr
  refine ⟨_,(fr (ba (i:=1) jH.nd rfl (.inl rfl) (ZcQ (Zjh T) (hr.mono (by decide)) rfl (bx (pv 0) cf)))
 (Zis (t:=λcn=>bH (bw cn) qd) λcn=>(av (bf (ba (i:=2) jH.nd rfl (.inl rfl) (aK (aG (Zm3 T) (hr.mono (by decide)) rfl (cv (pv 1) aH)))))
 (av (bf (ba (i:=3) jH.nd rfl (.inl rfl) (aK (aG (Znb T) (hr.mono (by decide)) rfl (cv (pv 1) aH)))))
 (av (bf (ba (i:=4) jH.nd rfl (.inl rfl) (aK (aG (Zm2 T) (hr.mono (by decide)) rfl (ai (ac (pv 2)) (ai (ac (pv 3)) aH))))))
 (av (bU (eQ (eP (bL Zja Zgi (aK (aG (Zfb T) (hr.mono (by decide)) rfl (ai (ac (pv 2)) (ai (ac (pv 3)) (ai (ac (pv 4)) aH))))) ce (nomark _)) (fH (dQ (dq (aK (aG (zF T) (hr.mono (by decide)) rfl (ai (ac (pv 2)) (ai (ac (pv 3)) (ai (ac (pv 4)) aH))))))))))
  (aF (a9 ce))
  bT)
 (av (bf (ba (i:=5) jH.nd rfl (.inl rfl) (bV (dr (ag (ac (pv 4)) (ag (aK (aG (Zm5 T) (hr.mono (by decide)) rfl (cv (pv 1) (ai (ac (pv 2)) (ai (ac (pv 3)) (ai (ac (pv 4)) aH)))))) am))))))
 (av (bU (dQ (dq (aK (aG (zF T) (hr.mono (by decide)) rfl (ai (ac (pv 2)) (ai (ac (pv 3)) (ai (aA az ay (ac (pv 5)) aj (λ_ _=>rfl)) aH)))))))
  (aF (a9 ce))
  bT)
 (av (eD Ba rfl (gY (gO rfl T.eZ (ag aj am))) (aV (aT (i:=6) jH.nd rfl (.inl rfl)))
  (aF (bU (dQ (dq (aK (aG (zF T) (hr.mono (by decide)) rfl (ai (ac (pv 2)) (ai (ac (pv 3)) (ai (aK (aG (Znd T) (hr.mono (by decide)) rfl (cv (pv 1) (ai (ac (pv 2)) (ai (aA az ay (ac (pv 5)) (aw x6 wA (ac (pv 6)) aj) (λ_ _=>rfl)) aH))))) aH)))))))
  (aF (a9 ce))
  bT)))
 (aF (a9 ce))))))))))),?_⟩
  refine ⟨_,rfl,a,ns,rfl,hS,hlen,λp c H' hp hP hs=>?_⟩
  exact Zj4 (n:=5) hP rfl rfl (λH'=>k H') hl
end
end My
local macro_rules | `(tactic| simp_arith [$ls,*] $[$loc]?) => do let b : Lean.TSyntaxArray ``Lean.Parser.Tactic.simpLemma ← (("L2.qV L2.qU L2.vp L2.uQ L2.uP L2.vd L2.nu L2.vc L2.rz L2.uF L2.uw L2.sZ L2.ux L2.uv L2.sY L2.tR L2.tU L2.tN L2.fU L2.j7 L2.lJ L2.lI L2.nI L2.nH L2.nG L2.nF L2.nE L2.nD L2.sX L2.sW L2.rq L2.ra L2.rn L2.rm L2.rj L2.rh L2.re L2.rf L2.va L2.sP L2.sU L2.u8 L2.u9 L2.sN L2.sO L2.sT L2.u7 L2.sS L2.uY L2.uZ L2.sR L2.uf L2.ud L2.ue L2.uG L2.uL L2.uK L2.uJ L2.uH L2.uI L2.sV L2.uE L2.uD L2.uC L2.q9 L2.qZ L2.tz L2.tw L2.tD L2.tB L2.bW L2.uN L2.uM L2.tF L2.tE L2.ve L2.tj L2.tV L2.tW L2.qY L2.qW L2.tu L2.tm L2.jY L2.jl L2.lz L2.nr L2.tT L2.tS L2.rE L2.rD L2.rC L2.rB L2.rA L2.sK L2.sJ L2.sI L2.qX L2.np L2.tq L2.nq L2.vh L2.vm L2.vo L2.vn L2.sF L2.sE L2.vg L2.vf L2.uO L2.sD L2.sC L2.uB L2.ut L2.ur L2.rS L2.rP L2.rO L2.rR L2.rQ L2.rF L2.t5 L2.tY L2.tZ L2.sB L2.sA L2.sy L2.sx L2.sw L2.sv L2.su L2.sn L2.sj L2.rN L2.rM L2.rL L2.rK L2.ql L2.qj L2.uT L2.uS L2.uR L2.ug L2.sM L2.sL L2.uX L2.uW L2.ly L2.si L2.r8 L2.uh L2.qK L2.qL L2.qJ L2.qI L2.qM L2.uV L2.uU L2.sQ L2.qE L2.qC L2.qF L2.qH L2.qD L2.sH L2.sG L2.tQ L2.tP L2.tO L2.rY L2.rX L2.qT L2.qS L2.qR L2.qQ L2.qP L2.uy L2.uA L2.uz L2.uq L2.uo L2.qN L2.um L2.gX L2.uj L2.uk L2.ui L2.tM L2.tL L2.tK L2.pQ L2.pR L2.pV L2.pU L2.tG L2.tJ L2.tH L2.t6 L2.t9 L2.uc L2.t7 L2.rJ L2.rH L2.rG L2.ny L2.nv L2.qG L2.r6 L2.rW L2.rV L2.rZ L2.rT Tw.oK Tw.oJ Tw.oI Tw.oH Tw.oG Tw.oF Tw.oE Tw.oD Tw.oC L2.tf L2.tX L2.oZ L2.Tr.of_some L2.Tr.bind_assoc L2.Tr.draw_bind List.cons_append List.nil_append List.replicate_succ List.replicate_zero List.length_cons List.length_nil L2.Re.val_d L2.Re.val_own L2.blk L2.lG List.map_cons List.map_nil List.getElem?_cons_zero List.getElem?_cons_succ Option.getD_some Nat.reduceAdd Nat.reduceLeDiff List.isEmpty_cons".splitOn " ").toArray.map fun s => Lean.mkIdent s.toName).mapM fun i => `(Lean.Parser.Tactic.simpLemma| $i:ident); `(tactic| simp only [$b,*, $ls,*] $[$loc]?)
local macro_rules | `(tactic| simp_arith only [$ls,*] $[$loc]?) => do let b : Lean.TSyntaxArray ``Lean.Parser.Tactic.simpLemma ← (("L2.qV L2.qU L2.vp L2.uQ L2.uP L2.vd L2.nu L2.vc L2.rz L2.uF L2.uw L2.sZ L2.ux L2.uv L2.sY L2.tR L2.tU L2.tN L2.fU L2.j7 L2.lJ L2.lI L2.nI L2.nH L2.nG L2.nF L2.nE L2.nD L2.sX L2.sW L2.rq L2.ra L2.rn L2.rm L2.rj L2.rh L2.re L2.rf L2.va L2.sP L2.sU L2.u8 L2.u9 L2.sN L2.sO L2.sT L2.u7 L2.sS L2.uY L2.uZ L2.sR L2.uf L2.ud L2.ue L2.uG L2.uL L2.uK L2.uJ L2.uH L2.uI L2.sV L2.uE L2.uD L2.uC L2.q9 L2.qZ L2.tz L2.tw L2.tD L2.tB L2.bW L2.uN L2.uM L2.tF L2.tE L2.ve L2.tj L2.tV L2.tW L2.qY L2.qW L2.tu L2.tm L2.jY L2.jl L2.lz L2.nr L2.tT L2.tS L2.rE L2.rD L2.rC L2.rB L2.rA L2.sK L2.sJ L2.sI L2.qX L2.np L2.tq L2.nq L2.vh L2.vm L2.vo L2.vn L2.sF L2.sE L2.vg L2.vf L2.uO L2.sD L2.sC L2.uB L2.ut L2.ur L2.rS L2.rP L2.rO L2.rR L2.rQ L2.rF L2.t5 L2.tY L2.tZ L2.sB L2.sA L2.sy L2.sx L2.sw L2.sv L2.su L2.sn L2.sj L2.rN L2.rM L2.rL L2.rK L2.ql L2.qj L2.uT L2.uS L2.uR L2.ug L2.sM L2.sL L2.uX L2.uW L2.ly L2.si L2.r8 L2.uh L2.qK L2.qL L2.qJ L2.qI L2.qM L2.uV L2.uU L2.sQ L2.qE L2.qC L2.qF L2.qH L2.qD L2.sH L2.sG L2.tQ L2.tP L2.tO L2.rY L2.rX L2.qT L2.qS L2.qR L2.qQ L2.qP L2.uy L2.uA L2.uz L2.uq L2.uo L2.qN L2.um L2.gX L2.uj L2.uk L2.ui L2.tM L2.tL L2.tK L2.pQ L2.pR L2.pV L2.pU L2.tG L2.tJ L2.tH L2.t6 L2.t9 L2.uc L2.t7 L2.rJ L2.rH L2.rG L2.ny L2.nv L2.qG L2.r6 L2.rW L2.rV L2.rZ L2.rT Tw.oK Tw.oJ Tw.oI Tw.oH Tw.oG Tw.oF Tw.oE Tw.oD Tw.oC L2.tf L2.tX L2.oZ L2.Tr.of_some L2.Tr.bind_assoc L2.Tr.draw_bind List.cons_append List.nil_append List.replicate_succ List.replicate_zero List.length_cons List.length_nil L2.Re.val_d L2.Re.val_own L2.blk L2.lG List.map_cons List.map_nil List.getElem?_cons_zero List.getElem?_cons_succ Option.getD_some Nat.reduceAdd Nat.reduceLeDiff List.isEmpty_cons".splitOn " ").toArray.map fun s => Lean.mkIdent s.toName).mapM fun i => `(Lean.Parser.Tactic.simpLemma| $i:ident); `(tactic| simp -implicitDefEqProofs only [$b,*, $ls,*] $[$loc]?)
namespace My
open L2 Tw
theorem Zet {s:Shp} (h:s.Ok):kP [.d s.d]=.ret (.d (.tuple (bi (-s.depth) (s.top+1)))):=by
 have:=h.t0
 have:=h.d0
 have:=h.td
 have hr:iU (-s.depth) (s.top+1)=true:=by
  unfold iU
  rw [fc (by omega) (by omega),fc (by omega) (by omega)]
  simp
  omega
 simp_arith [kP,np hr]
theorem y9 (s:Shp) (y f:Int):kT [.d s.d,.d (.int y),.d (.int f)]=.ret (.d (.int (s.nx y f))):=by
 simp_arith [kT,Shp.nx]
theorem ZeE {s:Shp} (h:s.Ok) {x:Int} (hx:nb 20 x):lb [.d s.d,.d (.int x)]=.ret (.d (.int (s.fin x))):=by
 have f1:=aY (ir h.back) (by decide)
 have f2:=aY h.late (by decide)
 have f3:=aY hx (by decide)
 have f4:=aY (ir hx) (by decide)
 by_cases hp:x > 0
 ·simp_arith [lb,decide_eq_true hp,f1,f3,Shp.fin,if_pos hp]
 ·simp_arith [lb,decide_eq_false hp,f2,f4,Shp.fin,if_neg hp]
theorem Zlp {s:Shp} (h:s.Ok) {x y:Int} (hx:nb 20 x) (hy:nb 20 y):mM [.d s.d,.d (.int x),.d (.int y)]=.ret (.d (.int (s.ord x y))):=by
 have f1:=aY h.piece (by decide)
 have f2:=aY (ip hy hx) (by decide)
 by_cases hp:y<=x
 ·simp_arith [mM,decide_eq_true hp,Shp.ord,if_pos hp]
 ·simp_arith [mM,decide_eq_false hp,f1,f2,Shp.ord,if_neg hp]
theorem ZeF {s:Shp} (h:s.Ok) {y f:Int} (hy:nb 20 y) (hf:nb 40 f):lc [.d s.d,.d (.int y),.d (.int f)]=.ret (.d (.int (s.day y f))):=by
 have hd:nb 7 s.depth:=by have:=h.t0; have:=h.d0; have:=h.td; exact bS (by show -128 < _; omega) (by show _ < 128; omega)
 have hn:nb 50 (s.nx y f):=by
  unfold Shp.nx eL
  exact jP (aO (ir hd) (by decide)) (aO (ip hy hf) (by decide))
 have f1:=aY h.keep (by decide)
 have f2:=aY hn (by decide)
 have f3:=aY (ir hn) (by decide)
 have f4:=aY h.lack (by decide)
 have f5:=aY h.lost (by decide)
 have f6:=aY (ip hn (ip hy hf)) (by decide)
 have e:=y9 s y f
 by_cases hp:s.nx y f > 0
 ·simp_arith [lc,e,decide_eq_true hp,f1,f2,f5,f6,Shp.day,if_pos hp]
 ·simp_arith [lc,e,decide_eq_false hp,f3,f4,f5,f6,Shp.day,if_neg hp]
theorem ZeD {a b:Int} (hb:nb 8000 b):mV [.d (.int a),.d (.int b)]=.ret (.d (.int (Nat.gcd a.natAbs b.natAbs:Nat))):=by
 have key:=euclid (p:=wy) (s:=yA) (E:=λa b=>[.d (.int a),.d (.int b)]) (λa b=>by
  simp_arith [wy]
  by_cases h:b=0
  ·subst h; rfl
  ·rw [decide_eq_true h]
   congr 1
   simp [h]) (λa b h=>by
  have h':(b:Int)≠0:=by omega
  simp_arith [yA,yW h',Zei]) 8000 83999 a.natAbs b.natAbs hb
 have e:2 * 8000+1+83999=100000:=rfl
 rw [e] at key
 simp_arith [mV,ZfX,key]
theorem Zeu {t b:Int} (h0:b≠0) (hb:nb 7000 b):kQ [.d (.int t),.d (.int b)]=.ret (.d (gK t b)):=by
 have e:=ZeD (a:=t) (b:=b) (aO hb (by decide))
 have e0:(b == 0)=false:=beq_eq_false_iff_ne.mpr h0
 have hd:=Gc.nz (t:=t) h0
 have hf:=aY (ZeO (t:=t) hb h0) (by decide)
 unfold gK Gc.cB Gc.bQ
 by_cases hn:b < 0
 ·have ed:Gc.den t b=-((Nat.gcd t.natAbs b.natAbs:Nat):Int):=by unfold Gc.den Gc.iA; rw [if_pos hn]
  rw [ed] at hd hf ⊢
  simp_arith [kQ,e0,e,decide_eq_true hn,uu hd hf]
 ·have ed:Gc.den t b=((Nat.gcd t.natAbs b.natAbs:Nat):Int):=by unfold Gc.den Gc.iA; rw [if_neg hn]
  rw [ed] at hd hf ⊢
  simp_arith [kQ,e0,e,decide_eq_false hn,uu hd hf]
noncomputable def bm (ds:List (List DZ)):PyData:=.tuple (ds.map fD)
theorem sml {n:Nat} {s:Shp} (h7:s.n<=7) (h:n<=s.n * s.n):n<=100:=by
 have:s.n * s.n<=7 * 7:=Cc h7 h7
 omega
theorem Zev {day:List DZ} (hd:DdB day):mT [.d (fD day)]=.ret (.d (.int (aN day))):=by
 have hs:small (day.map tI).length=true:=bW (by rw [At]; have:=hd.len; omega)
 have e:bJ (dD (ao 0) xT [.un]) (day.map tI)=.ret (day.map λl=>PyData.int l.sum):=e9 λl _=>by
  have e1:bR dN [tI l]=.ret (.int l.sum):=jl l
  simp_arith [xT,e1]
 have e2:bR dN [.list (day.map λl=>PyData.int l.sum)]=.ret (.int (aN day)):=by rw [yU]; exact jY _
 simp_arith [mT,lh,hs,e,e2]
theorem iD {s:Shp} (h:s.Ok) (h7:s.n<=7):gg [.d s.d]=.ret (.own (s.sts.map aq)):=by
 have e0:bi (-s.depth) (s.top+1)=(aQ (-s.depth) s.n).map PyData.int:=rfl
 have hit:cz (aE (aD kP (ah (aa 0) aB))) [.d s.d]=.ret ((aQ (-s.depth) s.n).map PyData.int):=by
  simp_arith [Zet h,e0]
 have e:=Zdv (n:=2) (ix:=[0]) (a:=0) (b:=1) (is1:=qz) (el:=o5) (f:=PyData.int) (g:=λx=>(aQ (-s.depth) s.n).map λy=>aq (x,y)) hit (by rw [fO]; omega) λx _=>by
  refine Zdw (f:=PyData.int) ?_ (by rw [fO]; omega) λy _=>?_
  ·show qz [.d (.int x),.un,.d s.d]=_
   simp_arith [qz,Zet h,e0]
  ·show o5 [.d (.int x),.d (.int y),.d s.d]=_
   simp_arith [o5]
   rfl
 rw [Zg7] at e
 simp_arith [gg,e]
theorem y8 {s:Shp} (h:s.Ok) {p q:Pt} (hp:nb 20 (p.1+p.2)) (hq:nb 20 (q.1+q.2)):kR [.d s.d,.d (aq p),.d (aq q)]=.ret (.d (.int (s.ord (p.1+p.2) (q.1+q.2)))):=by
 have e:=Zlp h hp hq
 simp_arith [kR,Zg4,e]
theorem y6 {s:Shp} (h:s.Ok) (h7:s.n<=7) {p:Pt} (hp:p∈s.sts):mL [.d s.d,.d (aq p)]=.ret (.own ((s.rzs p).map aq)):=by
 have ht:=h.t0
 have hd0:=h.d0
 have htd:=h.td
 have hn:=h.n_eq
 obtain ⟨⟨a1,a2⟩,b1,b2⟩:=(b8 h).mp hp
 have r1:gi p.1=true:=fc (by omega) (by omega)
 have r2:gi p.2=true:=fc (by omega) (by omega)
 have r3:gi (s.top+1)=true:=fc (by omega) (by omega)
 have e0:∀ x:Int,bi x (s.top+1)=(aQ x (s.top+1 - x).toNat).map PyData.int:=λ_=>rfl
 have hit:nR (af (aa 2) (af (ae bg (aa 4) (aC (.int 1))) ak)) [.d s.d,.d (aq p),.d (.int p.1),.d (.int p.2),.d (.int s.top)]=.ret ((aQ p.1 (s.top+1 - p.1).toNat).map PyData.int):=by
  simp_arith [Zel r1 r3,e0]
 have e:=Zdv (n:=2) (ix:=[3,4]) (a:=0) (b:=1) (is1:=qA) (el:=o6) (f:=PyData.int) (g:=λx=>(aQ p.2 (s.top+1 - p.2).toNat).map λy=>aq (x,y)) hit (by rw [fO]; omega) λx _=>by
  refine Zdw (f:=PyData.int) ?_ (by rw [fO]; omega) λy _=>?_
  ·show qA [.d (.int x),.un,.d (.int p.2),.d (.int s.top)]=_
   simp_arith [qA,Zel r2 r3,e0]
  ·show o6 [.d (.int x),.d (.int y),.d (.int p.2),.d (.int s.top)]=_
   simp_arith [o6]
   rfl
 rw [ZhT] at e
 have eg:bD (aJ (ao 2) (aJ (ao 3) bo)) (aq p) [.d s.d,.d (aq p),.un,.un,.un]=some [.d s.d,.d (aq p),.d (.int p.1),.d (.int p.2),.un]:=rfl
 simp_arith [mL,eg,e]
theorem zc {s:Shp} (h:s.Ok) (h7:s.n<=7):mS [.d s.d]=.ret (.d (pD (s.tb λa b=>s.fin a+s.fin b))):=by
 have hit:cz (aE (aD gg (ah (aa 0) aB))) [.d s.d]=.ret (s.sts.map aq):=by simp_arith [iD h h7]
 have e:=zm (n:=2) (ix:=[0]) (g:=bD (aJ (ao 0) (aJ (ao 1) bo))) (kx:=xS) (i:=xR) (f:=aq) (kv:=λp:Pt=>(kS p,PyData.int (s.fin p.1+s.fin p.2))) hit (AL (sml h7 (by rw [fi]; exact Aw _)) (by decide)) (l8 h) (mX (jE s)) λp hp=>by
  obtain ⟨⟨a1,a2⟩,b1,b2⟩:=(b8 h).mp hp
  show iE _ _ [.d (.int p.1),.d (.int p.2),.d s.d]=_
  refine ze ?_ ?_
  ·simp_arith [xS]
   rfl
  ·simp_arith [xR,ZeE h (gw h a1 a2),ZeE h (gw h b1 b2)]
 simp_arith [mS,e]
 rfl
theorem Zlo {s:Shp} (h:s.Ok) {day:List DZ} (hd:DdB day) {F:Int->Int->Int} {b:Nat} (hF:eI s b F) {c:Int} (hc:nb b c) (hb:b<=3000) {q:Pt} (hq:q∈s.sts) :
  pZ [.d s.d,.d (fD day),.d (aq q),.d (pD (s.tb F)),.d (.int c)]=.ret (.d (.int (s.w2 day F c q.1 q.2))):=by
 obtain ⟨⟨a1,a2⟩,b1,b2⟩:=(b8 h).mp hq
 have hlen:=hd.len
 have eg:bD (aJ (ao 5) (aJ (ao 6) bo)) (aq q) [.d s.d,.d (fD day),.d (aq q),.d (pD (s.tb F)),.d (.int c),.un,.un,.un,.un,.un,.un,.un,.un,.un]=some [.d s.d,.d (fD day),.d (aq q),.d (pD (s.tb F)),.d (.int c),.d (.int q.1),.d (.int q.2),.un,.un,.un,.un,.un,.un,.un]:=rfl
 have hq1:=gw h a1 a2
 have hq2:=gw h b1 b2
 have gbs:∀ i j:Nat,i<=3->j<=3->nb (b+102) (s.c2 F c q.1 q.2 i j):=λi j hi hj=>zK h hF hc a1 a2 b1 b2 (by omega) (by omega)
 have inner:∀ (i:Nat) (line:DZ) (T:Int) (J10 J11 J12 J13:Sl),i<=3->line.length<=3->(∀ w∈line,0<=w/\w<=1000) ->
   Al (ck (bD (aJ (ao 10) (aJ (ao 11) bo))) yv (fF (line.map PyData.int)) [.d s.d,.d (fD day),.d (aq q),.d (pD (s.tb F)),.d (.int c),.d (.int q.1),.d (.int q.2),.d (.int T),.d (.int i),.d (tI line),J10,J11,J12,J13]) 0
    λo=>∃ J10 J11 J12 J13:Sl,o=.next [.d s.d,.d (fD day),.d (aq q),.d (pD (s.tb F)),.d (.int c),.d (.int q.1),.d (.int q.2),.d (.int (T+ws (s.c2 F c q.1 q.2 i) 0 line)),.d (.int i),.d (tI line),J10,J11,J12,J13]:=by
  intro i line T J10 J11 J12 J13 hi hl hw
  refine jt (n:=0) (λpre ρ=>∃ J10 J11 J12 J13:Sl,ρ=[.d s.d,.d (fD day),.d (aq q),.d (pD (s.tb F)),.d (.int c),.d (.int q.1),.d (.int q.2),.d (.int (T+ws (s.c2 F c q.1 q.2 i) 0 line - ws (s.c2 F c q.1 q.2 i) pre.length (line.drop pre.length))),.d (.int i),.d (tI line),J10,J11,J12,J13]) ⟨J10,J11,J12,J13,?_⟩ (by simp) ?_ ?_
  ·have e:T+ws (s.c2 F c q.1 q.2 i) 0 line - ws (s.c2 F c q.1 q.2 i) 0 line=T:=by omega
   simp only [AE,BP,e]
  ·rintro pre x post ρ e ⟨J10,J11,J12,J13,rfl⟩
   obtain ⟨w,hw',rfl⟩:=vq e
   rw [AM] at hw'
   obtain ⟨v,hv,rfl⟩:=Bs.mp hw'
   refine ⟨_,rfl,?_⟩
   have hpl:pre.length < line.length:=(Ay.mp hv).1
   have e1:=ZeF h hq1 (jj (k:=i) (by omega))
   have e2:=ZeF h hq2 (jj (k:=pre.length) (by omega))
   have e3:=y9 s q.1 i
   have e4:=y9 s q.2 pre.length
   have e5:=jD h (F:=F) (im s q.1 i) (il h a2 (show (0:Int)<=i by omega)) (im s q.2 pre.length) (il h b2 (show (0:Int)<=pre.length by omega))
   have f1:=aY hc (by omega)
   have f2:=aY (dO (lC h hq1 (jj (k:=i) (by omega))) (lC h hq2 (jj (k:=pre.length) (by omega)))) (by decide)
   have f3:=aY (oh (hw v (Bj hv))) (by decide)
   have f4:fit (c * (s.day q.1 i+s.day q.2 pre.length)+F (s.nx q.1 i) (s.nx q.2 pre.length))=true:=aY (gbs i pre.length (by omega) (by omega)) (by omega)
   simp_arith [yv,e1,e2,e3,e4,e5,f1,f2,f3,f4]
   have ed:line.drop pre.length=v::line.drop (pre.length+1):=by
    rw [AZ hpl]
    congr 1
    exact (Ay.mp hv).2
   have el:(pre++[PyData.tuple [PyData.int pre.length,PyData.int v]]).length=pre.length+1:=by simp
   have ee:T+ws (s.c2 F c q.1 q.2 i) 0 line - ws (s.c2 F c q.1 q.2 i) pre.length (line.drop pre.length)+v * (c * (s.day q.1 i+s.day q.2 pre.length)+F (s.nx q.1 i) (s.nx q.2 pre.length)) =
     T+ws (s.c2 F c q.1 q.2 i) 0 line - ws (s.c2 F c q.1 q.2 i) (pre++[PyData.tuple [PyData.int pre.length,PyData.int v]]).length (line.drop (pre++[PyData.tuple [PyData.int pre.length,PyData.int v]]).length):=by
    rw [el,ed,ws]
    show _=T+_ - _
    unfold Shp.c2
    omega
   rw [ee]
   exact b9 ⟨_,rfl,_,_,_,_,rfl⟩
  ·rintro ρ ⟨J10,J11,J12,J13,rfl⟩
   refine ⟨J10,J11,J12,J13,?_⟩
   rw [vz,At,Br,ws,CT]
 apply nM
 simp_arith [pZ,eg,lh]
 refine eA (n:=0) (n':=0) (P:=λo=>∃ J8 J9 J10 J11 J12 J13:Sl,o=.next [.d s.d,.d (fD day),.d (aq q),.d (pD (s.tb F)),.d (.int c),.d (.int q.1),.d (.int q.2),.d (.int (s.w2 day F c q.1 q.2)),J8,J9,J10,J11,J12,J13]) ?_ (by decide) ?_
 ·refine jt (n:=0) (λpre ρ=>∃ J8 J9 J10 J11 J12 J13:Sl,ρ=[.d s.d,.d (fD day),.d (aq q),.d (pD (s.tb F)),.d (.int c),.d (.int q.1),.d (.int q.2),.d (.int (s.w2 day F c q.1 q.2 - wss (s.c2 F c q.1 q.2) pre.length (day.drop pre.length))),J8,J9,J10,J11,J12,J13]) ⟨.un,.un,.un,.un,.un,.un,?_⟩ (by simp) ?_ ?_
  ·have e:s.w2 day F c q.1 q.2 - wss (s.c2 F c q.1 q.2) 0 day=0:=by unfold Shp.w2; omega
   simp only [AE,BP,e]
  ·rintro pre x post ρ e ⟨J8,J9,J10,J11,J12,J13,rfl⟩
   obtain ⟨w,hw',rfl⟩:=vq e
   rw [AM] at hw'
   obtain ⟨line,hv,rfl⟩:=Bs.mp hw'
   refine ⟨_,rfl,?_⟩
   have hpl:pre.length < day.length:=(Ay.mp hv).1
   obtain ⟨l1,l2⟩:=hd.row line (Bj hv)
   have ed:day.drop pre.length=line::day.drop (pre.length+1):=by
    rw [AZ hpl]
    congr 1
    exact (Ay.mp hv).2
   have el:(pre++[PyData.tuple [PyData.int pre.length,tI line]]).length=pre.length+1:=by simp
   simp_arith [ZdB,ZdP]
   refine lK (inner pre.length line _ _ _ _ _ (by omega) l1 l2) (Aw _) ?_
   rintro _ ⟨J10,J11,J12,J13,rfl⟩
   have ee:s.w2 day F c q.1 q.2 - wss (s.c2 F c q.1 q.2) pre.length (day.drop pre.length)+ws (s.c2 F c q.1 q.2 pre.length) 0 line=s.w2 day F c q.1 q.2 - wss (s.c2 F c q.1 q.2) (pre++[PyData.tuple [PyData.int pre.length,tI line]]).length (day.drop (pre++[PyData.tuple [PyData.int pre.length,tI line]]).length):=by
    rw [el,ed,wss]
    omega
   rw [ee]
   exact ⟨_,rfl,_,_,J10,J11,J12,J13,rfl⟩
  ·rintro ρ ⟨J8,J9,J10,J11,J12,J13,rfl⟩
   refine ⟨J8,J9,J10,J11,J12,J13,?_⟩
   rw [vz,At,Br,wss,CT]
 ·rintro _ ⟨J8,J9,J10,J11,J12,J13,rfl⟩
  simp_arith [Ci]
  exact b9 rfl
theorem ZeG {s:Shp} (h:s.Ok) (h7:s.n<=7) {day:List DZ} (hd:DdB day) {F:Int->Int->Int} {b:Nat} (hF:eI s b F) {c:Int} (hc:nb b c) (hb:b<=3000) :
  mW [.d s.d,.d (fD day),.d (pD (s.tb F)),.d (.int c)]=.ret (.d (pD (s.tb (s.w2 day F c)))):=by
 have hit:cz (aE (aD gg (ah (aa 0) aB))) [.d s.d,.d (fD day),.d (pD (s.tb F)),.d (.int c)]=.ret (s.sts.map aq):=by simp_arith [iD h h7]
 have e:=zm (n:=1) (ix:=[0,1,2,3]) (g:=ao 0) (kx:=xX) (i:=xW) (f:=aq) (kv:=λp:Pt=>(kS p,PyData.int (s.w2 day F c p.1 p.2))) hit (AL (sml h7 (by rw [fi]; exact Aw _)) (by decide)) (l8 h) (mX (jE s)) λp hp=>by
  show iE _ _ [.d (aq p),.d s.d,.d (fD day),.d (pD (s.tb F)),.d (.int c)]=_
  refine ze ?_ ?_
  ·simp_arith [xX]
   rfl
  ·simp_arith [xW,Zlo h hd hF hc hb hp]
 simp_arith [mW,e]
 rfl
theorem Zlv {s:Shp} (h:s.Ok) (h7:s.n<=7) {W:Int->Int->Int} {c:Int} {b:Nat} (hc:nb b c) (hb:b<=3000) {p:Pt} (hp:p∈s.sts) :
  qh [.d s.d,.d (aq p),.d (pD (s.tb W)),.d (.int c)]=.ret (.d (eF (s.bp W c p))):=by
 obtain ⟨⟨a1,a2⟩,b1,b2⟩:=(b8 h).mp hp
 have hsub:∀ q∈s.rzs p,q∈s.sts/\nb 20 (p.1+p.2)/\nb 20 (q.1+q.2):=λq hq=>by
  have ht:=h.t0
  have hd0:=h.d0
  have htd:=h.td
  obtain ⟨⟨q1,q2⟩,q3,q4⟩:=(gM a2 b2).mp hq
  exact ⟨(b8 h).mpr ⟨⟨by omega,q2⟩,by omega,q4⟩,bS (by show -1048576 < _; omega) (by show _ < 1048576; omega),bS (by show -1048576 < _; omega) (by show _ < 1048576; omega)⟩
 have hsm:small ((s.rzs p).map aq).length=true:=bW (by
  rw [At,<- ku h hp]
  exact AL (CG _ _) (AL (sml h7 (by rw [fi]; exact Aw _)) (by decide)))
 have e:bJ (dD (ao 0) xV [.un,.d (.int c),.d (pD (s.tb W)),.d s.d,.d (aq p)]) ((s.rzs p).map aq)=.ret ((s.rzs p).map λq=>eF (c * s.ord (p.1+p.2) (q.1+q.2)+W q.1 q.2,kS q)):=e9 λq hq=>by
  obtain ⟨q0,q1,q2⟩:=hsub q hq
  obtain ⟨⟨c1,c2⟩,d1,d2⟩:=(b8 h).mp q0
  have e1:=y8 h q1 q2
  have e2:aU eO (pD (s.tb W)) (aq q)=.ret (.int (W q.1 q.2)):=jD h c1 c2 d1 d2
  have f1:=aY hc (by omega)
  have f2:=aY (gP h q1 q2) (by decide)
  simp_arith [xV,e1,e2,f1,f2]
  rfl
 have e2:(s.rzs p).map (λq=>eF (c * s.ord (p.1+p.2) (q.1+q.2)+W q.1 q.2,kS q))=(s.cand W c p).map eF:=by unfold Shp.cand; rw [AS]; rfl
 have hn:s.cand W c p≠[]:=λe=>ZbA h hp (B8.mp e)
 rw [e2] at e
 simp_arith [qh,y6 h h7 hp,hsm,e,Zld hn]
 rfl
theorem Zlt {s:Shp} (h:s.Ok) (h7:s.n<=7) {ds:List (List DZ)} (hd:∀ d∈ds,DdB d) (hl:ds.length<=3):mN [.d s.d,.d (bm ds)]=.ret (.d (.tuple (s.dtab ds))):=by
 have hsub:∀ k,∀ d∈ds.drop k,DdB d:=λk d h=>hd d (BB h)
 have it_ddD:dF (bm ds)=.ret (ds.map fD):=rfl
 have dlen:∀ R:List (List DZ),(s.dtab R).length=R.length:=λR=>by
  induction R with
  | nil=>rfl
  | cons d R ih=>rw [Shp.dtab,Au,Au,ih]
 have hsm:small (s.sts.map aq).length=true:=bW (by rw [At]; exact AL (sml h7 (by rw [fi]; exact Aw _)) (by decide))
 have hst:s.sts.length<=100:=sml h7 (by rw [fi]; exact Aw _)
 apply nM
 simp_arith [mN,zc h h7,it_ddD]
 refine eA (n:=0) (n':=0) (P:=λo=>∃ J3 J4 J5 J6 J7:Sl,o=.next [.d s.d,.d (bm ds),.own (s.dtab ds).reverse,J3,J4,J5,J6,J7]) ?_ (by decide) ?_
 ·refine jt (n:=0) (λpre ρ=>∃ J5 J6 J7:Sl,ρ=[.d s.d,.d (bm ds),.own (s.dtab (ds.drop (ds.length - pre.length))).reverse,.d (pD (s.tb (s.dk (ds.drop (ds.length - pre.length))).1)),.d (.int (s.dk (ds.drop (ds.length - pre.length))).2),J5,J6,J7]) ⟨.un,.un,.un,?_⟩ (by simp) ?_ ?_
  ·rw [AE,Dt,Br]
   rfl
  ·rintro pre x post ρ e ⟨J5,J6,J7,rfl⟩
   obtain ⟨d,rfl,hpl,hdr⟩:=Zh8 e
   refine ⟨_,rfl,?_⟩
   have hdd:DdB d:=hsub (ds.length - (pre.length+1)) d (by rw [hdr]; simp)
   obtain ⟨k1,k2,k3⟩:=jZ h (hsub (ds.length - pre.length))
   have el:(pre++[fD d]).length=pre.length+1:=by simp
   rw [el,hdr]
   have hrl:(ds.drop (ds.length - pre.length)).length<=3:=by rw [AH]; omega
   generalize ds.drop (ds.length - pre.length)=R at *
   have hpos:=CB k3 hdd.pos
   have n2:nb 600 ((s.dk R).2 * aN d):=aO (db k2 (gJ hdd)) (by omega)
   have e1:=ZeG h h7 hdd k1 k2 (by omega)
   have e2:=Zev hdd
   have f1:=aY k2 (by omega)
   have f2:=aY (gJ hdd) (by decide)
   have e3:bJ (dD (ao 0) xK [.un,.d s.d,.d (pD (s.tb (s.w2 d (s.dk R).1 (s.dk R).2))),.d (.int ((s.dk R).2 * aN d))]) (s.sts.map aq)=.ret (s.sts.map λp=>eF (s.pick d R p)):=e9 λp hp=>by
    have e:=Zlv h h7 (W:=s.w2 d (s.dk R).1 (s.dk R).2) n2 (by decide) hp
    simp_arith [xK,e]
    rfl
   have hsm3:small (s.sts.map λp=>eF (s.pick d R p)).length=true:=bW (by rw [At]; omega)
   have e4:bJ (dD (bD (aJ (ao 0) (aJ (ao 1) bo))) o7 [.un,.un,.d (.int ((s.dk R).2 * aN d))]) (s.sts.map λp=>eF (s.pick d R p))=.ret (s.ddayL d R):=e9 λp _=>by
    have es:=Zeu (t:=(s.pick d R p).1) (b:=(s.dk R).2 * aN d) (Int.ne_of_gt hpos) (aO n2 (by decide))
    show o7 [.d (.int (s.pick d R p).1),.d (.tuple ((s.pick d R p).2.map PyData.int)),.d (.int ((s.dk R).2 * aN d))]=_
    simp_arith [o7,es]
   have hsm4:small ((s.dtab R).reverse.length+1)=true:=bW (by rw [Bv,dlen]; omega)
   have hit:∀ τ:D5,iJ (aE (aD gg (ah (aa 0) aB))) (aa 7) [.d s.d,.d (bm ds),.own ((s.dtab R).reverse++[.tuple (s.ddayL d R)]),.d (pD (s.tb (s.dk R).1)),.d (.int ((s.dk R).2 * aN d)),.d (fD d),.d (pD (s.tb (s.w2 d (s.dk R).1 (s.dk R).2))),.d (.list (s.sts.map λp=>eF (s.pick d R p)))]=.ret (s.sts.map λp=>.tuple [aq p,eF (s.pick d R p)]):=λ_=>by
    simp_arith [iD h h7,Zab]
   have e5:=zm (n:=3) (ix:=[]) (g:=bD (aJ (ao 0) (aJ (bD (aJ (ao 1) (aJ (ao 2) bo))) bo))) (kx:=xJ) (i:=xI) (kv:=λp:Pt=>(kS p,PyData.int (s.pick d R p).1)) (hit []) (AL hst (by decide)) (l8 h) (mX (jE s)) λp hp=>by
    show iE _ _ [.d (aq p),.d (.int (s.pick d R p).1),.d (.tuple ((s.pick d R p).2.map PyData.int))]=_
    refine ze ?_ ?_
    ·simp_arith [xJ]
     rfl
    ·simp_arith [xI]
   simp_arith [ZdC,e1,e2,f1,f2,iD h h7,hsm,e3,hsm3,e4,hsm4,e5]
   rw [Shp.dtab,CA]
   exact b9 ⟨_,rfl,_,_,_,rfl⟩
  ·rintro ρ ⟨J5,J6,J7,rfl⟩
   rw [Bv,At,Du,BP]
   exact Exists.intro _ (Exists.intro _ ⟨J5,J6,J7,rfl⟩)
 ·rintro _ ⟨J3,J4,J5,J6,J7,rfl⟩
  simp_arith [List.reverse_reverse]
  exact b9 rfl
theorem pY {z:Int} {k:Nat} (h:nb k z):nb k (eL z 0):=by
 unfold eL
 exact jP (show (0:Int).natAbs < 2 ^ k from BW (by simp)) h
theorem ZlG (s:Shp) (y f:Int):s.keep * eL (s.nx y f) 0+s.lack * eL (0 - s.nx y f) 0+s.lost * (s.nx y f - y+f)=s.day y f:=by
 unfold Shp.day
 have e:s.nx y f - y+f=s.nx y f - (y - f):=by omega
 rw [e]
 generalize s.nx y f=z
 unfold eL
 by_cases hz:z > 0
 ·rw [if_neg (by omega),if_pos (by omega),if_pos hz,B7,Int.add_zero]
 ·rw [if_neg hz]
  by_cases h0:z=0
  ·subst h0; simp
  ·rw [if_pos (by omega),if_neg (by omega),B7,C3]
   have e2:0 - z=-z:=by omega
   rw [e2]
theorem Zk3 (s:Shp) (x:Int):s.late * eL (0 - x) 0 - s.back * eL x 0=s.fin x:=by
 unfold Shp.fin eL
 by_cases hx:x > 0
 ·rw [if_pos (by omega),if_neg (by omega),if_pos hx,B7,Int.neg_mul]
  omega
 ·rw [if_neg hx]
  by_cases h0:x=0
  ·subst h0; simp
  ·rw [if_neg (by omega),if_pos (by omega),B7,CT]
   have e2:0 - x=-x:=by omega
   rw [e2]
theorem Zjm (s:Shp) (y f:Int):eL (y - f) (0 - s.depth)=s.nx y f:=by
 unfold Shp.nx
 have e:0 - s.depth=-s.depth:=by omega
 rw [e]
theorem ZeB {s:Shp} (h:s.Ok) {x:Int} (x1:-s.depth<=x) (x2:x<=s.top):jT [.d s.d,.d (.int x)]=.ret (.d (.int (s.fin x))):=by
 have:=h.t0
 have:=h.d0
 have:=h.td
 have n1:nb 20 (0 - x):=bS (by show -1048576 < _; omega) (by show _ < 1048576; omega)
 have n2:nb 20 x:=bS (by show -1048576 < _; omega) (by show _ < 1048576; omega)
 have g1:=aY h.late (by decide)
 have g2:=aY (pY n1) (by decide)
 have g3:=aY h.back (by decide)
 have g4:=aY (pY n2) (by decide)
 simp_arith [jT,g1,g2,g3,g4,Zk3]
theorem Zew {s:Shp} (h:s.Ok):mO [.d s.d]=.ret (.own (bi (-s.depth) (s.top+1))):=by
 have:=h.t0
 have:=h.d0
 have:=h.td
 have e:0 - s.depth=-s.depth:=by omega
 have hr:iU (-s.depth) (s.top+1)=true:=by
  unfold iU
  rw [fc (by omega) (by omega),fc (by omega) (by omega)]
  simp
  omega
 simp_arith [mO,e,nq hr]
theorem za {t b:Int} (hb:0 < b) (nB:nb 7000 b):jQ [.d (.int t),.d (.int b)]=.ret (.d (gK t b)):=by
 obtain ⟨z,rfl⟩:∃ z:Nat,b=(z:Int):=⟨b.toNat,by omega⟩
 have key:=euclid (p:=wx) (s:=yw) (E:=λa b'=>[.d (.int t),.d (.int z),.d (.int a),.d (.int b')]) (λa b=>by
  simp_arith [wx]
  by_cases h:b=0
  ·subst h; rfl
  ·rw [decide_eq_true h]
   congr 1
   simp
   omega) (λa b h=>by
  have h':(b:Int)≠0:=by omega
  simp_arith [yw,yW h',Zei]) 8000 83999 t.natAbs z (AD (show z < 2 ^ 7000 from by unfold nb at nB; rwa [Int.natAbs_natCast] at nB) (C7 (by decide) (by decide)))
 have e:2 * 8000+1+83999=100000:=rfl
 rw [e] at key
 have hd:=Gc.nz (t:=t) (b:=(z:Int)) (by omega)
 have hf:=aY (ZeO (t:=t) nB (by omega)) (by decide)
 have ed:Gc.den t (z:Int)=((Nat.gcd t.natAbs z:Nat):Int):=by unfold Gc.den Gc.iA; rw [if_neg (by omega),Int.natAbs_natCast]
 unfold gK Gc.cB Gc.bQ
 rw [ed] at hd hf ⊢
 simp_arith [jQ,ZfX,key,uu hd hf]
theorem fq (p:Pt):aU ap (aq p) (.int 0)=.ret (.int p.1):=rfl
theorem fo (p:Pt):aU ap (aq p) (.int 1)=.ret (.int p.2):=rfl
theorem Zey {s:Shp} (h:s.Ok) {y:Int} {f:Nat} (y1:-s.depth<=y) (y2:y<=s.top) (f1:f<=16):mQ [.d s.d,.d (.int y),.d (.int f)]=.ret (.d (.tuple [.int (s.day y f),.int (s.nx y f)])):=by
 have:=h.t0
 have:=h.d0
 have:=h.td
 have n1:=im s y f
 have n2:=il h y2 (show (0:Int)<=f by omega)
 have hn:nb 20 (s.nx y f):=bS (by show -1048576 < _; omega) (by show _ < 1048576; omega)
 have hn2:nb 20 (0 - s.nx y f):=bS (by show -1048576 < _; omega) (by show _ < 1048576; omega)
 have hn3:nb 20 (s.nx y f - y+f):=bS (by show -1048576 < _; omega) (by show _ < 1048576; omega)
 have g1:=aY h.keep (by decide)
 have g2:=aY (pY hn) (by decide)
 have g3:=aY h.lack (by decide)
 have g4:=aY (pY hn2) (by decide)
 have g5:=aY h.lost (by decide)
 have g6:=aY hn3 (by decide)
 simp_arith [mQ,Zjm,g1,g2,g3,g4,g5,g6,ZlG]
theorem Zex {s:Shp} (h:s.Ok) {p q:Pt} (hp:p∈s.sts) (hq:q∈s.rzs p):ja [.d s.d,.d (aq p),.d (aq q)]=.ret (.d (.int (s.ord (p.1+p.2) (q.1+q.2)))):=by
 have:=h.t0
 have:=h.d0
 have:=h.td
 obtain ⟨⟨a1,a2⟩,b1,b2⟩:=(b8 h).mp hp
 obtain ⟨⟨q1,q2⟩,q3,q4⟩:=(gM a2 b2).mp hq
 have em:q.1 - p.1+q.2 - p.2=q.1+q.2 - (p.1+p.2):=by omega
 have n1:nb 20 (q.1+q.2 - (p.1+p.2)):=bS (by show -1048576 < _; omega) (by show _ < 1048576; omega)
 have g2:=aY (show nb 20 (1:Int) from bS (by decide) (by decide)) (by decide)
 have g3:=aY (show nb 20 (0:Int) from bS (by decide) (by decide)) (by decide)
 have g4:=aY h.piece (by decide)
 have g5:=aY n1 (by decide)
 have g6:=aY (dO h.start (db h.piece n1)) (by decide)
 unfold Shp.ord
 by_cases hc:q.1+q.2 - (p.1+p.2) > 0
 ·rw [if_neg (by omega)]
  simp_arith [ja,fq,fo,em,decide_eq_true hc,if_true,g2,g4,g5,g6,Db]
 ·rw [if_pos (by omega)]
  simp_arith [ja,fq,fo,em,decide_eq_false hc,g3,g4,g5,g6,B7,Bl,if_false]
theorem Zez {s:Shp} (h:s.Ok) {day:List DZ} (hd:DdB day) {F:Int->Int->Int} {b:Nat} (hF:eI s b F) {c:Int} (hc:nb b c) (hb:b<=3000) {q:Pt} (hq:q∈s.sts) :
  mR [.d s.d,.d (fD day),.d (pD (s.tb F)),.d (.int c),.d (aq q)]=.ret (.d (.int (s.w2 day F c q.1 q.2))):=by
 obtain ⟨⟨a1,a2⟩,b1,b2⟩:=(b8 h).mp hq
 have hlen:=hd.len
 have hq1:=gw h a1 a2
 have hq2:=gw h b1 b2
 have gbs:∀ i j:Nat,i<=3->j<=3->nb (b+102) (s.c2 F c q.1 q.2 i j):=λi j hi hj=>zK h hF hc a1 a2 b1 b2 (by omega) (by omega)
 have inner:∀ (i:Nat) (line:DZ) (T:Int) (J10 J11 J12 J13 J14:Sl),i<=3->line.length<=3->(∀ w∈line,0<=w/\w<=1000) ->
   Al (ck (bD (aJ (ao 10) (aJ (ao 11) bo))) yy (fF (line.map PyData.int)) [.d s.d,.d (fD day),.d (pD (s.tb F)),.d (.int c),.d (aq q),.d (.int T),.d (.int i),.d (tI line),.d (.int (s.day q.1 i)),.d (.int (s.nx q.1 i)),J10,J11,J12,J13,J14]) 0
    λo=>∃ J10 J11 J12 J13 J14:Sl,o=.next [.d s.d,.d (fD day),.d (pD (s.tb F)),.d (.int c),.d (aq q),.d (.int (T+ws (s.c2 F c q.1 q.2 i) 0 line)),.d (.int i),.d (tI line),.d (.int (s.day q.1 i)),.d (.int (s.nx q.1 i)),J10,J11,J12,J13,J14]:=by
  intro i line T J10 J11 J12 J13 J14 hi hl hw
  refine jt (n:=0) (λpre ρ=>∃ J10 J11 J12 J13 J14:Sl,ρ=[.d s.d,.d (fD day),.d (pD (s.tb F)),.d (.int c),.d (aq q),.d (.int (T+ws (s.c2 F c q.1 q.2 i) 0 line - ws (s.c2 F c q.1 q.2 i) pre.length (line.drop pre.length))),.d (.int i),.d (tI line),.d (.int (s.day q.1 i)),.d (.int (s.nx q.1 i)),J10,J11,J12,J13,J14]) ⟨J10,J11,J12,J13,J14,?_⟩ (by simp) ?_ ?_
  ·have e:T+ws (s.c2 F c q.1 q.2 i) 0 line - ws (s.c2 F c q.1 q.2 i) 0 line=T:=by omega
   simp only [AE,BP,e]
  ·rintro pre x post ρ e ⟨J10,J11,J12,J13,J14,rfl⟩
   obtain ⟨w,hw',rfl⟩:=vq e
   rw [AM] at hw'
   obtain ⟨v,hv,rfl⟩:=Bs.mp hw'
   refine ⟨_,rfl,?_⟩
   have hpl:pre.length < line.length:=(Ay.mp hv).1
   have e1:=Zey h b1 b2 (f:=pre.length) (by omega)
   have eg:∀ (a b:Int) (ρ:D5),bD (aJ (ao 12) (aJ (ao 13) bo)) (.tuple [.int a,.int b]) ρ=some ((ρ.set 12 (.d (.int a))).set 13 (.d (.int b))):=λ_ _ _=>rfl
   have e5:=jD h (F:=F) (im s q.1 i) (il h a2 (show (0:Int)<=i by omega)) (im s q.2 pre.length) (il h b2 (show (0:Int)<=pre.length by omega))
   have f1:=aY hc (by omega)
   have f2:=aY (dO (lC h hq1 (jj (k:=i) (by omega))) (lC h hq2 (jj (k:=pre.length) (by omega)))) (by decide)
   have f3:=aY (oh (hw v (Bj hv))) (by decide)
   have em:(s.day q.1 i+s.day q.2 pre.length) * c+F (s.nx q.1 i) (s.nx q.2 pre.length)=s.c2 F c q.1 q.2 i pre.length:=by unfold Shp.c2; rw [BI]
   have f4:fit (s.c2 F c q.1 q.2 i pre.length)=true:=aY (gbs i pre.length (by omega) (by omega)) (by omega)
   simp_arith [yy,fo,e1,eg,e5,f1,f2,f3,em,f4]
   have ed:line.drop pre.length=v::line.drop (pre.length+1):=by
    rw [AZ hpl]
    congr 1
    exact (Ay.mp hv).2
   have el:(pre++[PyData.tuple [PyData.int pre.length,PyData.int v]]).length=pre.length+1:=by simp
   have ee:T+ws (s.c2 F c q.1 q.2 i) 0 line - ws (s.c2 F c q.1 q.2 i) pre.length (line.drop pre.length)+v * s.c2 F c q.1 q.2 i pre.length =
     T+ws (s.c2 F c q.1 q.2 i) 0 line - ws (s.c2 F c q.1 q.2 i) (pre++[PyData.tuple [PyData.int pre.length,PyData.int v]]).length (line.drop (pre++[PyData.tuple [PyData.int pre.length,PyData.int v]]).length):=by
    rw [el,ed,ws]
    omega
   rw [ee]
   exact b9 ⟨_,rfl,_,_,_,_,_,rfl⟩
  ·rintro ρ ⟨J10,J11,J12,J13,J14,rfl⟩
   refine ⟨J10,J11,J12,J13,J14,?_⟩
   rw [vz,At,Br,ws,CT]
 apply nM
 simp_arith [mR,lh]
 refine eA (n:=0) (n':=0) (P:=λo=>∃ J6 J7 J8 J9 J10 J11 J12 J13 J14:Sl,o=.next [.d s.d,.d (fD day),.d (pD (s.tb F)),.d (.int c),.d (aq q),.d (.int (s.w2 day F c q.1 q.2)),J6,J7,J8,J9,J10,J11,J12,J13,J14]) ?_ (by decide) ?_
 ·refine jt (n:=0) (λpre ρ=>∃ J6 J7 J8 J9 J10 J11 J12 J13 J14:Sl,ρ=[.d s.d,.d (fD day),.d (pD (s.tb F)),.d (.int c),.d (aq q),.d (.int (s.w2 day F c q.1 q.2 - wss (s.c2 F c q.1 q.2) pre.length (day.drop pre.length))),J6,J7,J8,J9,J10,J11,J12,J13,J14]) ⟨.un,.un,.un,.un,.un,.un,.un,.un,.un,?_⟩ (by simp) ?_ ?_
  ·have e:s.w2 day F c q.1 q.2 - wss (s.c2 F c q.1 q.2) 0 day=0:=by unfold Shp.w2; omega
   simp only [AE,BP,e]
  ·rintro pre x post ρ e ⟨J6,J7,J8,J9,J10,J11,J12,J13,J14,rfl⟩
   obtain ⟨w,hw',rfl⟩:=vq e
   rw [AM] at hw'
   obtain ⟨line,hv,rfl⟩:=Bs.mp hw'
   refine ⟨_,rfl,?_⟩
   have hpl:pre.length < day.length:=(Ay.mp hv).1
   obtain ⟨l1,l2⟩:=hd.row line (Bj hv)
   have ed:day.drop pre.length=line::day.drop (pre.length+1):=by
    rw [AZ hpl]
    congr 1
    exact (Ay.mp hv).2
   have el:(pre++[PyData.tuple [PyData.int pre.length,tI line]]).length=pre.length+1:=by simp
   have e1:=Zey h a1 a2 (f:=pre.length) (by omega)
   have eg:∀ (a b:Int) (ρ:D5),bD (aJ (ao 8) (aJ (ao 9) bo)) (.tuple [.int a,.int b]) ρ=some ((ρ.set 8 (.d (.int a))).set 9 (.d (.int b))):=λ_ _ _=>rfl
   simp_arith [ZdF,fq,e1,eg,ZdP]
   refine lK (inner pre.length line _ _ _ _ _ _ (by omega) l1 l2) (Aw _) ?_
   rintro _ ⟨J10,J11,J12,J13,J14,rfl⟩
   have ee:s.w2 day F c q.1 q.2 - wss (s.c2 F c q.1 q.2) pre.length (day.drop pre.length)+ws (s.c2 F c q.1 q.2 pre.length) 0 line=s.w2 day F c q.1 q.2 - wss (s.c2 F c q.1 q.2) (pre++[PyData.tuple [PyData.int pre.length,tI line]]).length (day.drop (pre++[PyData.tuple [PyData.int pre.length,tI line]]).length):=by
    rw [el,ed,wss]
    omega
   rw [ee]
   exact ⟨_,rfl,_,_,_,_,J10,J11,J12,J13,J14,rfl⟩
  ·rintro ρ ⟨J6,J7,J8,J9,J10,J11,J12,J13,J14,rfl⟩
   refine ⟨J6,J7,J8,J9,J10,J11,J12,J13,J14,?_⟩
   rw [vz,At,Br,wss,CT]
 ·rintro _ ⟨J6,J7,J8,J9,J10,J11,J12,J13,J14,rfl⟩
  simp_arith [Ci]
  exact b9 rfl
theorem Zc4 {a b c d:Sl} (ha:bZ a=false) (hc:bZ c=false) (hd:bZ d=false):io 1 [a,b,c,d]=true:=by
 show (!bZ a && (!bZ .un && (!bZ c && (!bZ d && true))))=true
 rw [ha,hc,hd]
 rfl
theorem zb {s:Shp} (h:s.Ok) (h7:s.n<=7):kX [.d s.d]=.ret (.d (pD (s.tb λa b=>s.fin a+s.fin b))):=by
 have ht:=h.t0
 have hd0:=h.d0
 have htd:=h.td
 have hn:=h.n_eq
 let kv:Pt->List Int×PyData:=λp=>(kS p,.int (s.fin p.1+s.fin p.2))
 have inner:∀ (k:Nat) (J3:Sl),bZ J3=false->k < s.n->Al (ck (ao 3) yz (bi (-s.depth) (s.top+1)) [.d s.d,.dip ((cP (aQ (-s.depth) k) (aQ (-s.depth) s.n)).map kv),.d (.int (-s.depth+k)),J3]) 0
   λo=>∃ J3:Sl,bZ J3=false/\o=.next [.d s.d,.dip ((cP (aQ (-s.depth) (k+1)) (aQ (-s.depth) s.n)).map kv),.d (.int (-s.depth+k)),J3]:=by
  intro k J3 h3 hk
  refine jt (n:=0) (λpre ρ=>∃ J3:Sl,bZ J3=false/\ρ=[.d s.d,.dip ((cP (aQ (-s.depth) k) (aQ (-s.depth) s.n)).map kv++((aQ (-s.depth) pre.length).map λy=>kv (-s.depth+k,y))),.d (.int (-s.depth+k)),J3]) ⟨J3,h3,?_⟩ (by simp) ?_ ?_
  ·show _=[_,Sl.dip (_++[]),_,_]
   rw [A4]
  ·rintro pre x post ρ e ⟨J3,h3,rfl⟩
   obtain ⟨rfl,hpre⟩:=ZbL e
   refine ⟨_,rfl,?_⟩
   have e1:=ZeB h (x:=-s.depth+k) (by omega) (by omega)
   have e2:=ZeB h (x:=-s.depth+(pre.length:Int)) (by omega) (by omega)
   have el:(pre++[PyData.int (-s.depth+pre.length)]).length=pre.length+1:=by simp
   have hlen:((cP (aQ (-s.depth) k) (aQ (-s.depth) s.n)).map kv++((aQ (-s.depth) pre.length).map λy=>kv (-s.depth+k,y))).length<=5000:=by
    have hp:(cP (aQ (-s.depth) k) (aQ (-s.depth) s.n)).length=k * s.n:=by
     unfold cP
     rw [List.length_flatMap]
     have:((aQ (-s.depth) k).map λx=>((aQ (-s.depth) s.n).map λy=>(x,y)).length)=(aQ (-s.depth) k).map λ_=>s.n:=BD λx _=>by rw [At,fO]
     rw [this,List.map_const',List.sum_replicate_nat,fO]
    rw [Av,At,At,fO,hp]
    have:k * s.n<=7 * 7:=Cc (by omega) h7
    omega
   have hni:kS (-s.depth+k,-s.depth+pre.length) ∉ ((cP (aQ (-s.depth) k) (aQ (-s.depth) s.n)).map kv++((aQ (-s.depth) pre.length).map λy=>kv (-s.depth+k,y))).map (·.1):=by
    rw [Bu,AS,AS]
    intro z
    rcases Bi.mp z with z | z
    ·obtain ⟨p,hp,e⟩:=AV.mp z
     have e:kS p=kS (-s.depth+k,-s.depth+pre.length):=e
     rw [ZdM e] at hp
     have:=gN (pw.mp hp).1
     omega
    ·obtain ⟨y,hy,e⟩:=AV.mp z
     have e:kS (-s.depth+k,y)=kS (-s.depth+k,-s.depth+pre.length):=e
     injection e with _ e
     injection e with e _
     have:=gN hy
     omega
   have ep:=ZcD (k:=1) (ρ:=[.d s.d,.dip ((cP (aQ (-s.depth) k) (aQ (-s.depth) s.n)).map kv++((aQ (-s.depth) pre.length).map λy=>kv (-s.depth+k,y))),.d (.int (-s.depth+k)),.d (.int (-s.depth+pre.length))])
    (i:=(ae bg (aE (aD jT (ah (aa 0) (ah (aa 2) aB)))) (aE (aD jT (ah (aa 0) (ah (aa 3) aB)))))) (nn:=(bj (af (aa 2) (af (aa 3) ak)))) (x:=.int (s.fin (-s.depth+k)+s.fin (-s.depth+pre.length))) (ns:=kS (-s.depth+k,-s.depth+pre.length))
    (by simp_arith [e1,e2]) rfl (by simp only [qV,qU,vp,uQ,uP,vd,nu,vc,rz,uF,uw,sZ,ux,uv,sY,tR,tU,tN,fU,j7,lJ,lI,nI,nH,nG,nF,nE,nD,sX,sW,rq,ra,rn,rm,rj,rh,re,rf,va,sP,sU,u8,u9,sN,sO,sT,u7,sS,uY,uZ,sR,uf,ud,ue,uG,uL,uK,uJ,uH,uI,sV,uE,uD,uC,q9,qZ,tz,tw,tD,tB,bW,uN,uM,tF,tE,ve,tj,tV,tW,qY,qW,tu,tm,jY,jl,lz,nr,tT,tS,rE,rD,rC,rB,rA,sK,sJ,sI,qX,np,tq,nq,vh,vm,vo,vn,sF,sE,vg,vf,uO,sD,sC,uB,ut,ur,rS,rP,rO,rR,rQ,rF,t5,tY,tZ,sB,sA,sy,sx,sw,sv,su,sn,sj,rN,rM,rL,rK,ql,qj,uT,uS,uR,ug,sM,sL,uX,uW,ly,si,r8,uh,qK,qL,qJ,qI,qM,uV,uU,sQ,qE,qC,qF,qH,qD,sH,sG,tQ,tP,tO,rY,rX,qT,qS,qR,qQ,qP,uy,uA,uz,uq,uo,qN,um,gX,uj,uk,ui,tM,tL,tK,pQ,pR,pV,pU,tG,tJ,tH,t6,t9,uc,t7,rJ,rH,rG,ny,nv,qG,r6,rW,rV,rZ,rT,Tw.oK,Tw.oJ,Tw.oI,Tw.oH,Tw.oG,Tw.oF,Tw.oE,Tw.oD,Tw.oC,tf,tX,oZ,Tr.of_some,Tr.bind_assoc,Tr.draw_bind,Dz,Cf,Be,List.replicate_zero,Au,AE,Re.val_d,Re.val_own,blk,lG,Ax,BO,DL,A7,Option.getD_some,Nat.reduceAdd,Nat.reduceLeDiff,Ci]; rfl) hlen (Zc4 rfl rfl rfl) hni
   unfold yz
   show Al (lN 1 _ _ [.d s.d,.dip _,.d (.int (-s.depth+k)),.d (.int (-s.depth+pre.length))]) _ _
   rw [ep]
   refine b9 ⟨_,rfl,.d (.int (-s.depth+pre.length)),rfl,?_⟩
   rw [el,Zb1,Bu,<- Bh]
   rfl
  ·rintro ρ ⟨J3,h3,rfl⟩
   rw [di]
   refine ⟨J3,h3,?_⟩
   have en:(s.top+1 - -s.depth).toNat=s.n:=rfl
   rw [en,Zb1]
   have:cP (aQ (-s.depth) k++[-s.depth+(k:Int)]) (aQ (-s.depth) s.n)=cP (aQ (-s.depth) k) (aQ (-s.depth) s.n)++(aQ (-s.depth) s.n).map λy=>(-s.depth+(k:Int),y):=by
    unfold cP
    rw [List.flatMap_append,Dp,List.flatMap_nil,A4]
   rw [this,Bu,AS]
   rfl
 apply nM
 simp_arith [kX,yV,Zew h]
 refine eA (n:=0) (n':=0) (P:=λo=>∃ J2 J3:Sl,bZ J2=false/\bZ J3=false/\o=.next [.d s.d,.dip (s.sts.map kv),J2,J3]) ?_ (by decide) ?_
 ·refine jt (n:=0) (λpre ρ=>∃ J2 J3:Sl,bZ J2=false/\bZ J3=false/\ρ=[.d s.d,.dip ((cP (aQ (-s.depth) pre.length) (aQ (-s.depth) s.n)).map kv),J2,J3]) ⟨.un,.un,rfl,rfl,rfl⟩ (by simp) ?_ ?_
  ·rintro pre x post ρ e ⟨J2,J3,h2,h3,rfl⟩
   obtain ⟨rfl,hpre⟩:=ZbL e
   refine ⟨_,rfl,?_⟩
   have el:(pre++[PyData.int (-s.depth+pre.length)]).length=pre.length+1:=by simp
   have hk:pre.length < s.n:=by unfold Shp.n; omega
   simp_arith [ZdG,Zew h]
   refine lK (inner pre.length J3 h3 hk) (Aw _) ?_
   rintro _ ⟨J3',h3',rfl⟩
   rw [el]
   exact ⟨_,rfl,_,J3',rfl,h3',rfl⟩
  ·rintro ρ ⟨J2,J3,h2,h3,rfl⟩
   rw [di]
   exact ⟨J2,J3,h2,h3,rfl⟩
 ·rintro _ ⟨J2,J3,h2,h3,rfl⟩
  have ef:=Zeo (s:=fX 1) (k:=1) (ρ:=[.d s.d,.dip (s.sts.map kv),J2,J3]) (l:=s.sts.map kv) rfl (Zc4 rfl h2 h3) (λe=>l8 h (B8.mp e))
  simp_arith [ef]
  exact b9 rfl
theorem bh (n:Int):cG [.pen,.d (.int n)]=.draw n λr=>.ret (.d (.int r)):=rfl
noncomputable abbrev rl (rows:List DY):Sl:=.d (.list (rows.map PyData.list))
section
variable {A:List Sl->Tr (List DY)} {v i j:DP} {t:DS} {a b c d:Sl} {rows:List DY} {x y z:PyData}
noncomputable def xu (t:DS) (a b c:Sl) (rows:List DY):Tr Ou:=t [a,b,c,rl rows]
noncomputable def xv (t:DS) (a b c:Sl) (rows:List DY) (x y z:PyData):Tr Ou:=(Tr.of (jL rows y z x)).bind (xu t a b c)
noncomputable def xw (j:DP) (t:DS) (a b c:Sl) (rows:List DY) (x y:PyData):Tr Ou:=(j [a,b,c,rl rows]).bind (xv t a b c rows x y)
noncomputable def xx (i j:DP) (t:DS) (a b c:Sl) (rows:List DY) (x:PyData):Tr Ou:=(i [a,b,c,rl rows]).bind (xw j t a b c rows x)
noncomputable def rw1 (v i j:DP) (t:DS) (a b c:Sl) (rows:List DY):Tr Ou:=(v [a,b,c,rl rows]).bind (xx i j t a b c rows)
theorem Zlc:z9 3 A v i j t [a,b,c,d]=(A [a,b,c,d]).bind (rw1 v i j t a b c):=rfl
theorem Zlb:rw1 v i j t a b c rows=(v [a,b,c,rl rows]).bind (xx i j t a b c rows):=rfl
theorem Zla:xx i j t a b c rows x=(i [a,b,c,rl rows]).bind (xw j t a b c rows x):=rfl
theorem Zk9:xw j t a b c rows x y=(j [a,b,c,rl rows]).bind (xv t a b c rows x y):=rfl
theorem Zk8:xv t a b c rows x y z=(Tr.of (jL rows y z x)).bind (xu t a b c):=rfl
theorem Zk7:xu t a b c rows=t [a,b,c,rl rows]:=rfl
end
noncomputable def ym (el:DQ) (ρ:D5) (x:PyData):Tr DY:=el (.d x::ρ)
noncomputable def lr0 (el:DQ) (ρ:D5) (xs:DY):Tr (List DY):=if small xs.length=true then i9 (ym el ρ) xs else .fail
theorem Znn {x y:PyData} {d:Sl}:blk 1 [0,1,2] [.pen,.d x,.d y,d]=[.un,.pen,.d x,.d y]:=rfl
theorem Zlg {is el:DQ} {x y:PyData} {d:Sl}:nS is 1 [0,1,2] (ao 0) el [.pen,.d x,.d y,d]=(is [.pen,.d x,.d y,d]).bind (lr0 el [.pen,.d x,.d y]):=by
 unfold nS
 rw [Znn]
 rfl
theorem Zlf {el:DQ} {ρ:D5} {xs:DY} (h:small xs.length=true):lr0 el ρ xs=i9 (ym el ρ) xs:=if_pos h
theorem Zle {el:DQ} {ρ:D5} {x:PyData}:ym el ρ x=el (.d x::ρ):=rfl
theorem ZfQ {h:PyData->Tr DY} {P:List PyData->Prop} {n:Nat}:∀ {xs:DY},(∀ x∈xs,Al (h x) n P)->Al (i9 h xs) (xs.length * n) λys=>ys.length=xs.length/\∀ y∈ys,P y
 | [],_=>b9 ⟨rfl,λ_ h=>nomatch h⟩
 | x::xs,hx=>by
  unfold i9
  refine eA (n:=n) (n':=xs.length * n) (hx x AB) (by rw [Au,Cp]; omega) λy hy=>?_
  refine eA (n:=xs.length * n) (n':=0) (ZfQ λz hz=>hx z (Az _ hz)) (by omega) λys hys=>?_
  refine b9 ⟨by rw [Au,Au,hys.1],λz hz=>?_⟩
  rcases AO.mp hz with e | e
  ·subst e; exact hy
  ·exact hys.2 z e
structure Rowd (R:List DY) (w:Nat):Prop where
 l1:1<=R.length
 l3:R.length<=3
 w1:1<=w
 w3:w<=3
 row:∀ r∈R,r.length=w/\∀ y∈r,gh 0 1000 y
theorem ZdW:∀ {r:DY},(∀ y∈r,gh 0 1000 y)->∃ l:DZ,r=l.map PyData.int/\∀ w∈l,0<=w/\w<=1000
 | [],_=>⟨[],rfl,nofun⟩
 | y::r,h=>by
  obtain ⟨n,rfl,a,b⟩:=h y (AB ..)
  obtain ⟨l,rfl,hl⟩:=ZdW (r:=r) λz hz=>h z (Az _ hz)
  refine ⟨n::l,rfl,λw hw=>?_⟩
  rcases AO.mp hw with rfl | hw
  ·exact ⟨a,b⟩
  ·exact hl w hw
theorem ZbJ:∀ {R:List DY},(∀ r∈R,r.length<=3/\∀ y∈r,gh 0 1000 y)->∃ day:List DZ,R=day.map (List.map PyData.int)/\∀ l∈day,l.length<=3/\∀ w∈l,0<=w/\w<=1000
 | [],_=>⟨[],rfl,nofun⟩
 | r::R,h=>by
  obtain ⟨h1,h2⟩:=h r (AB ..)
  obtain ⟨l,rfl,hl⟩:=ZdW h2
  obtain ⟨day,rfl,hd⟩:=ZbJ (R:=R) λz hz=>h z (Az _ hz)
  refine ⟨l::day,rfl,λw hw=>?_⟩
  rcases AO.mp hw with rfl | hw
  ·exact ⟨by rw [At] at h1; exact h1,hl⟩
  ·exact hd w hw
theorem ZaJ:∀ {l:DZ},(∀ w∈l,0<=w/\w<=1000)->∀ n∈l,n<=l.sum
 | [],_,n,h=>by cases h
 | w::l,h,n,hn=>by
  have h1:=h w (AB ..)
  have h2:=oy (l:=l) λv hv=>h v (Az _ hv)
  rw [BX]
  rcases AO.mp hn with rfl | hn
  ·omega
  ·have:=ZaJ (l:=l) (λv hv=>h v (Az _ hv)) n hn
   omega
theorem ZaQ:∀ {L:List DZ},(∀ l∈L,l.length<=3/\∀ w∈l,0<=w/\w<=1000)->∀ l∈L,∀ n∈l,n<=aN L
 | [],_,l,h,_,_=>by cases h
 | a::L,h,l,hl,n,hn=>by
  obtain ⟨l1,l2⟩:=h a (AB ..)
  have h1:=oy l2
  have h2:=wR (L:=L) λv hv=>h v (Az _ hv)
  have e:aN (a::L)=a.sum+aN L:=by unfold aN; rw [Ax,BX]
  rw [e]
  rcases AO.mp hl with rfl | hl
  ·have:=ZaJ l2 n hn
   omega
  ·have:=ZaQ (L:=L) (λv hv=>h v (Az _ hv)) l hl n hn
   omega
theorem Rowd.dd {R:List DY} {w:Nat} (h:Rowd R w) {r:DY} {n:Int} (hr:r∈R) (hn:.int n∈r) (h0:0 < n):∃ day,PyData.tuple (R.map PyData.tuple)=fD day/\DdB day:=by
 obtain ⟨day,rfl,hd⟩:=ZbJ (R:=R) λr hr=>⟨by rw [(h.row r hr).1]; exact h.w3,(h.row r hr).2⟩
 refine ⟨day,?_,?_,hd,?_⟩
 ·unfold fD
  rw [AS]
  rfl
 ·have:=h.l3
  rw [At] at this
  exact this
 ·obtain ⟨l,hl,rfl⟩:=AV.mp hr
  obtain ⟨m,hm,e⟩:=AV.mp hn
  have e:m=n:=by injection e
  have:=ZaQ hd l hl m hm
  omega
theorem ZhO:Al (p9 [.pen]) 15 λr=>∃ day,r=.d (fD day)/\DdB day:=by
 simp_arith [p9,bh]
 refine cM (n:=14) (by decide) (by decide) (by decide) λq q0 q1=>?_
 obtain ⟨b,hb,b0,b1⟩:=x0 (xs:=[PyData.int 2,.int 4,.int 20,.int 1001]) (lo:=2) (hi:=1001) (by simp [gh]) q0 q1
 simp_arith [bh,hb]
 refine cM (n:=13) (by decide) (by decide) (by decide) λw w0 w1=>?_
 simp_arith [bh,Zlc,Zlg]
 refine cM (n:=12) (by decide) (by decide) (by decide) λc c0 c1=>?_
 have rr:eK [.int (1+c)]=.ret (bi 0 (1+c)):=gB (fc (by omega) (by omega))
 have hs:small (bi 0 (1+c)).length=true:=bW (by rw [di]; omega)
 have rw':eK [.int (1+w)]=.ret (bi 0 (1+w)):=gB (fc (by omega) (by omega))
 have hw:small (bi 0 (1+w)).length=true:=bW (by rw [di]; omega)
 simp_arith [bh,rr,Zlf hs]
 refine eA (n:=9) (n':=3) (P:=λR=>Rowd R (1+w).toNat) (lK (ZfQ (n:=3) (P:=λr=>r.length=(1+w).toNat/\∀ y∈r,gh 0 1000 y) λx hx=>?_) (by rw [di]; omega) λR hR=>?_) (by decide) ?_
 ·rw [Zle]
  simp_arith [Zct,bh,rw',hw]
  refine zU (n:=1) (P:=gh 0 1000) (by rw [di]; omega) (λy hy=>?_) λys hl hys=>⟨by rw [hl,di]; omega,hys⟩
  simp_arith [Zcu,bh]
  refine cM (n:=0) (by omega) (by omega) (by decide) λv v0 v1=>?_
  try simp_arith [bh]
  exact b9 ⟨v,rfl,v0,by omega⟩
 ·rw [di] at hR
  exact ⟨by omega,by omega,by omega,by omega,hR.2⟩
 ·intro R hR
  simp_arith [bh,Zlb]
  refine cM (n:=2) (by omega) (by omega) (by decide) λv v0 v1=>?_
  simp_arith [bh,Zla,At]
  have l1:=hR.l1
  have l3:=hR.l3
  refine cM (n:=1) (by omega) (by omega) (by decide) λi i0 i1=>?_
  simp_arith [bh,Zk9]
  refine cM (n:=0) (by omega) (by omega) (by decide) λj j0 j1=>?_
  obtain ⟨i,rfl⟩:=BM i0
  obtain ⟨j,rfl⟩:=BM j0
  have hi:i < R.length:=by omega
  obtain ⟨el,ei⟩:=hR.row R[i] (AX hi)
  have hj:j < R[i].length:=by rw [el]; omega
  have n1:L2.cy R.length (i:Int)=some i:=by
   unfold L2.cy
   rw [if_pos (by omega),if_pos (by omega),A0]
  have n2:L2.cy R[i].length (j:Int)=some j:=by
   unfold L2.cy
   rw [if_pos (by omega),if_pos (by omega),A0]
  have ep:jL R (.int (i:Int)) (.int (j:Int)) (.int (1+v))=some (R.set i (R[i].set j (.int (1+v)))):=by
   show ((L2.cy R.length (i:Int)).bind λn=>(R[n]?).bind λr=>(L2.cy r.length (j:Int)).bind λl=>if gA (.int (1+v))=true then some (R.set n (r.set l (.int (1+v)))) else none)=_
   rw [n1]
   show ((R[i]?).bind λr=>(L2.cy r.length (j:Int)).bind λl=>if gA (.int (1+v))=true then some (R.set i (r.set l (.int (1+v)))) else none)=_
   rw [As hi]
   show ((L2.cy R[i].length (j:Int)).bind λl=>if gA (.int (1+v))=true then some (R.set i (R[i].set l (.int (1+v)))) else none)=_
   rw [n2]
   rfl
  have hR2:Rowd (R.set i (R[i].set j (.int (1+v)))) (1+w).toNat:=by
   refine ⟨by rw [A2]; exact l1,by rw [A2]; exact l3,hR.w1,hR.w3,λr hr=>?_⟩
   rcases DE hr with q | q
   ·exact hR.row r q
   ·subst q
    refine ⟨by rw [A2]; exact el,λy hy=>?_⟩
    rcases DE hy with q | q
    ·exact ei y q
    ·subst q; exact ⟨1+v,rfl,by omega,by omega⟩
  have hin:R[i].set j (.int (1+v))∈R.set i (R[i].set j (.int (1+v))):=List.mem_set hi _
  have hin2:PyData.int (1+v)∈R[i].set j (.int (1+v)):=List.mem_set hj _
  obtain ⟨day,ed,hdd⟩:=hR2.dd hin hin2 (by omega)
  have hlen:(R.set i (R[i].set j (.int (1+v)))).length=R.length:=A2 ..
  generalize R.set i (R[i].set j (.int (1+v)))=R' at ep hR2 ed hlen
  have hs2:small (R'.map PyData.list).length=true:=bW (by rw [At]; omega)
  have em:bJ (dD (ao 0) xP [.un]) (R'.map PyData.list)=.ret (R'.map PyData.tuple):=e9 λr _=>by
   simp_arith [xP]
  simp_arith [bh,Zk8,ep,Zk7,hs2,em,ed]
  exact b9 ⟨day,rfl,hdd⟩
theorem ZeV:∀ {ys:DY},(∀ y∈ys,∃ day,y=fD day/\DdB day)->∃ ds:List (List DZ),ys=ds.map fD/\∀ d∈ds,DdB d
 | [],_=>⟨[],rfl,nofun⟩
 | y::ys,h=>by
  obtain ⟨d,rfl,hd⟩:=h y (AB ..)
  obtain ⟨ds,rfl,hds⟩:=ZeV (ys:=ys) λz hz=>h z (Az _ hz)
  refine ⟨d::ds,rfl,λz hz=>?_⟩
  rcases AO.mp hz with rfl | hz
  ·exact hd
  ·exact hds z hz
theorem ZhN:Al (qa [.pen]) 46 λr=>∃ ds,r=.d (bm ds)/\1<=ds.length/\ds.length<=3/\∀ d∈ds,DdB d:=by
 simp_arith [qa,bh]
 refine cM (n:=45) (by decide) (by decide) (by decide) λc c0 c1=>?_
 have rr:eK [.int (1+c)]=.ret (bi 0 (1+c)):=gB (fc (by omega) (by omega))
 have hs:small (bi 0 (1+c)).length=true:=bW (by rw [di]; omega)
 simp_arith [bh,rr,hs]
 refine eA (n:=45) (n':=0) (zU (n:=15) (P:=λy=>∃ day,y=fD day/\DdB day) (Q:=λys=>∃ ds:List (List DZ),ys=ds.map fD/\1<=ds.length/\ds.length<=3/\∀ d∈ds,DdB d) (by rw [di]; omega) (λx hx=>?_) λys hl hys=>?_) (by decide) ?_
 ·simp_arith [Zcv,bh]
  refine eA (n:=15) (n':=0) ZhO (by decide) ?_
  rintro _ ⟨day,rfl,hy⟩
  simp_arith [bh]
  exact b9 ⟨day,rfl,hy⟩
 ·obtain ⟨ds,rfl,hd⟩:=ZeV hys
  rw [At,di] at hl
  exact ⟨ds,rfl,by omega,by omega,hd⟩
 ·rintro _ ⟨ds,rfl,h1,h3,hd⟩
  try simp_arith [bh]
  exact b9 ⟨ds,rfl,h1,h3,hd⟩
theorem ZhK:Al (p6 [.pen]) 11 λr=>∃ s:Shp,r=.d s.d/\s.Ok/\s.n<=5:=by
 have r7:eK [.int 7]=.ret (bi 0 7):=gB rfl
 have h7:small (bi 0 7).length=true:=bW (by rw [di]; decide)
 simp_arith [p6,bh]
 refine cM (n:=10) (by decide) (by decide) (by decide) λq q0 q1=>?_
 obtain ⟨b,hb,b0,b1⟩:=x0 (xs:=[PyData.int 2,.int 3,.int 10,.int 60]) (lo:=2) (hi:=60) (by simp [gh]) q0 q1
 simp_arith [bh,hb]
 refine cM (n:=9) (by decide) (by decide) (by decide) λt t0 t1=>?_
 simp_arith [bh,r7,h7]
 refine eA (n:=7) (n':=2) (zU (n:=1) (P:=gh 0 1000000) (Q:=λys=>ys.length=7/\∀ y∈ys,gh 0 1000000 y) (by rw [di]; decide) (λx hx=>?_) λys hl hys=>⟨by rw [hl,di]; rfl,hys⟩) (by decide) ?_
 ·simp_arith [Zcs,bh]
  refine cM (n:=0) (by omega) (by omega) (by decide) λv v0 v1=>?_
  try simp_arith [bh]
  exact b9 ⟨v,rfl,v0,by omega⟩
 rintro ys ⟨hl,hys⟩
 obtain ⟨a,b',c,d,e,f,g,rfl⟩:=ZjR hl
 have hm:∀ y∈[a,b',c,d,e,f,g],gh 0 1000000 y:=hys
 simp only [AO,BU,or_false,forall_eq_or_imp,forall_eq] at hm
 obtain ⟨⟨a,rfl,a0,a1⟩,⟨b',rfl,b0',b1'⟩,⟨c,rfl,c0,c1⟩,⟨d,rfl,d0,d1⟩,⟨e,rfl,e0,e1⟩,⟨f,rfl,f0,f1⟩,⟨g,rfl,g0,g1⟩⟩:=hm
 try simp_arith [bh]
 refine cM (n:=1) (by decide) (by decide) (by decide) λr r0 r1=>?_
 have fin:∀ a:Int,0<=a->a<=1000000->∀ u:Int,0<=u->u < 5 - t->(Shp.mk t u a b' c d e f g).Ok/\(Shp.mk t u a b' c d e f g).n<=5:=λa a0 a1 u u0 u1=>by
  have hd:(Shp.mk t u a b' c d e f g).Dr:=⟨t0,u0,by show t+u<=39; omega,λn hn=>by
   have hn:n∈[a,b',c,d,e,f,g]:=hn
   simp only [AO,BU,or_false] at hn
   omega⟩
  refine ⟨hd.ok,?_⟩
  show (t+1 - -u).toNat<=5
  omega
 have hs:small ([PyData.int t,.int 0].length+[PyData.int a,.int b',.int c,.int d,.int e,.int f,.int g].length)=true:=bW (by show 9<=10000; decide)
 cases hb:(r == 0)
 ·simp_arith [bh,hb]
  refine cM (n:=0) (by omega) (by omega) (by decide) λu u0 u1=>?_
  try simp_arith [bh]
  rw [ZaX]
  exact b9 ⟨_,rfl,fin a a0 a1 u u0 u1⟩
 ·simp_arith [bh,hb,Zk6 (xs:=[PyData.int a,.int b',.int c,.int d,.int e,.int f,.int g]) (y:=0) (t:=0) rfl]
  refine cM (n:=0) (by omega) (by omega) (by decide) λu u0 u1=>?_
  try simp_arith [bh]
  rw [ZaX]
  exact b9 ⟨_,rfl,fin 0 (by decide) (by decide) u u0 u1⟩
noncomputable def bK:PyData->Bool
 | .int _=>true
 | _=>false
noncomputable def cA (x:PyData) (a b:Int):Bool:=match x with
 | .int n=>decide (a<=n) && decide (n<=b)
 | _=>false
noncomputable def cu:PyData->Bool
 | .tuple [.int t,.int b]=>decide (1<=b) && (((Nat.gcd t.natAbs b.natAbs:Nat):Int) == 1)
 | _=>false
theorem cw:((((2:Nat):Int)) == 2)=true:=rfl
theorem bz (xs:DY):ll "tuple" (iO (.tuple xs))=true:=rfl
theorem cC (x:PyData):kY [.d x]=.ret (.d (.bool (bK x))):=by
 cases x <;> (simp_arith [kY]; rfl)
theorem ZkE (x:PyData) (a b:Int):gS [.d x,.d (.int a),.d (.int b)]=.ret (.d (.bool (cA x a b))):=by
 cases x with
 | int n =>
  have e:=cC (.int n)
  simp_arith [gS,e,bK,cA]
  cases h1:decide (a<=n) <;> cases h2:decide (n<=b) <;> simp_arith [h1,h2,Bq,Bc,Ck,CD]
 | none=>have e:=cC .none; simp_arith [gS,e,bK,cA]
 | bool c=>have e:=cC (.bool c); simp_arith [gS,e,bK,cA]
 | str c=>have e:=cC (.str c); simp_arith [gS,e,bK,cA]
 | list c=>have e:=cC (.list c); simp_arith [gS,e,bK,cA]
 | tuple c=>have e:=cC (.tuple c); simp_arith [gS,e,bK,cA]
 | dict c=>have e:=cC (.dict c); simp_arith [gS,e,bK,cA]
def Sm (x:PyData):Prop:=∀ t b,x=.tuple [.int t,.int b]->nb 7000 b
theorem gW {x:PyData} (h:∀ xs,x≠.tuple xs):ll "tuple" (iO x)=false:=by
 cases x with
 | tuple xs=>exact absurd rfl (h xs)
 | none=>rfl
 | bool _=>rfl
 | int _=>rfl
 | str _=>rfl
 | list _=>rfl
 | dict _=>rfl
theorem oq (n:Nat):((((n+1+1+1:Nat):Int)) == 2)=false:=by
 rw [beq_eq_false_iff_ne]
 omega
theorem ZkF {x:PyData} (hs:Sm x):dC [.d x]=.ret (.d (.bool (cu x))):=by
 by_cases ht:∃ xs,x=.tuple xs
 ·obtain ⟨xs,rfl⟩:=ht
  have z0:((((0:Nat):Int)) == 2)=false:=rfl
  have z1:((((1:Nat):Int)) == 2)=false:=rfl
  rcases xs with _ | ⟨a,_ | ⟨b,_ | ⟨c,r⟩⟩⟩
  ·simp_arith [dC,bz,z0,AF,AI,cu]
  ·have l1:([a].length:Int)=((1:Nat):Int):=rfl
   simp_arith [dC,bz,AF,Bp,z1,AI,cu]
  ·cases a with
   | int t =>
    cases b with
    | int b =>
     have w1:=cC (.int t)
     have w2:=cC (.int b)
     by_cases h1:b < 1
     ·have e:cu (.tuple [.int t,.int b])=false:=by
       show (decide (1<=b) && _)=false
       rw [decide_eq_false (by omega)]
       rfl
      rw [e]
      simp_arith [dC,bz,cw,AF,w1,w2,bK,decide_eq_true h1]
     ·have e:cu (.tuple [.int t,.int b])=(((Nat.gcd t.natAbs b.natAbs:Nat):Int) == 1):=by
       show (decide (1<=b) && _)=_
       rw [decide_eq_true (by omega)]
       rfl
      have g:=ZeD (a:=t) (b:=b) (aO (hs t b rfl) (by decide))
      rw [e]
      simp_arith [dC,bz,cw,AF,w1,w2,bK,decide_eq_false h1,g]
    | none =>
     have w1:=cC (.int t)
     have w2:=cC .none
     simp_arith [dC,bz,cw,AF,AI,w1,w2,bK,cu]
    | bool y =>
     have w1:=cC (.int t)
     have w2:=cC (.bool y)
     simp_arith [dC,bz,cw,AF,AI,w1,w2,bK,cu]
    | str y =>
     have w1:=cC (.int t)
     have w2:=cC (.str y)
     simp_arith [dC,bz,cw,AF,AI,w1,w2,bK,cu]
    | list y =>
     have w1:=cC (.int t)
     have w2:=cC (.list y)
     simp_arith [dC,bz,cw,AF,AI,w1,w2,bK,cu]
    | tuple y =>
     have w1:=cC (.int t)
     have w2:=cC (.tuple y)
     simp_arith [dC,bz,cw,AF,AI,w1,w2,bK,cu]
    | dict y =>
     have w1:=cC (.int t)
     have w2:=cC (.dict y)
     simp_arith [dC,bz,cw,AF,AI,w1,w2,bK,cu]
   | none=>have w1:=cC .none; simp_arith [dC,bz,cw,AF,AI,w1,bK,cu]
   | bool y=>have w1:=cC (.bool y); simp_arith [dC,bz,cw,AF,AI,w1,bK,cu]
   | str y=>have w1:=cC (.str y); simp_arith [dC,bz,cw,AF,AI,w1,bK,cu]
   | list y=>have w1:=cC (.list y); simp_arith [dC,bz,cw,AF,AI,w1,bK,cu]
   | tuple y=>have w1:=cC (.tuple y); simp_arith [dC,bz,cw,AF,AI,w1,bK,cu]
   | dict y=>have w1:=cC (.dict y); simp_arith [dC,bz,cw,AF,AI,w1,bK,cu]
  ·simp_arith [dC,bz,AF,AI,oq,cu]
 ·have hn:∀ xs,x≠.tuple xs:=λxs e=>ht ⟨xs,e⟩
  have e:cu x=false:=by
   cases x with
   | tuple xs=>exact absurd rfl (hn xs)
   | _=>rfl
  have i:=gW hn
  rw [e]
  simp_arith [dC,i,AI]
noncomputable def fj (s:Shp) (p:Pt):PyData->Bool
 | .tuple [a,b]=>cA a p.1 s.top && cA b p.2 s.top
 | _=>false
noncomputable def cL (s:Shp) (p:Pt):PyData->Bool
 | .tuple [c,r]=>cu c && fj s p r
 | _=>false
noncomputable def eh (s:Shp):PyData->Bool
 | .tuple es=>decide (es.length=s.sts.length) && (s.sts.zip es).all λq=>cL s q.1 q.2
 | _=>false
noncomputable def gu (s:Shp) (m:Nat):PyData->Bool
 | .tuple ds=>decide (ds.length=m) && ds.all (eh s)
 | _=>false
theorem vA (s:Shp) (es:DY):eh s (.tuple es)=(decide (es.length=s.sts.length) && (s.sts.zip es).all λq=>cL s q.1 q.2):=rfl
theorem pz (s:Shp) (m:Nat) (ds:DY):gu s m (.tuple ds)=(decide (ds.length=m) && ds.all (eh s)):=rfl
def gq (x:PyData):Prop:=∀ xs,x=.tuple xs->xs.length<=200
def SmC (x:PyData):Prop:=gq x/\∀ t b,x=.tuple [.int t,.int b]->nb 900 t/\nb 900 b
def fK (e:PyData):Prop:=gq e/\∀ c r,e=.tuple [c,r]->SmC c/\gq r
def Ak (d:PyData):Prop:=∀ es,d=.tuple es->es.length<=200/\∀ e∈es,fK e
def nU (x:PyData):Prop:=∀ ds,x=.tuple ds->ds.length<=200/\∀ d∈ds,Ak d
theorem SmC.sm {c:PyData} (h:SmC c):Sm c:=λt b e=>aO (h.2 t b e).2 (by decide)
theorem wq {α:Type} {f:α->PyData}:∀ (l:List α) (es:DY),f9 (l.map f) es=(l.zip es).map λq=>.tuple [f q.1,q.2]
 | [],es=>by cases es <;> rfl
 | x::l,[]=>rfl
 | x::l,e::es=>by
  have ih:=wq (f:=f) l es
  unfold f9 at ih ⊢
  rw [Ax,A1,Ax,ih,A1,Ax]
theorem zT {α:Type} {f:α->Bool}:∀ l:List α,(l.map f).all id=l.all f
 | []=>rfl
 | x::l=>by rw [Ax,BG,BG,zT l]; rfl
theorem le (n m:Nat):((n:Int) == (m:Int))=decide (n=m):=by
 by_cases h:n=m
 ·subst h; simp
 ·rw [decide_eq_false h,beq_eq_false_iff_ne]; omega
theorem yO (s:Shp) (x:Int) (a:PyData):qf [.d s.d,.d (.int x),.d a]=.ret (.d (.bool (cA a x s.top))):=by
 have e:=ZkE a x s.top
 simp_arith [qf,e]
theorem ZbB {s:Shp} {p:Pt} {r:PyData} (h:∀ xs,r≠.tuple xs):fj s p r=false:=by
 cases r with
 | tuple xs=>exact absurd rfl (h xs)
 | _=>rfl
theorem ZkG {s:Shp} {p:Pt} {r:PyData}:jb [.d s.d,.d (aq p),.d r]=.ret (.d (.bool (fj s p r))):=by
 by_cases ht:∃ xs,r=.tuple xs
 ·obtain ⟨xs,rfl⟩:=ht
  have z0:((((0:Nat):Int)) == 2)=false:=rfl
  have z1:((((1:Nat):Int)) == 2)=false:=rfl
  rcases xs with _ | ⟨a,_ | ⟨b,_ | ⟨c,r⟩⟩⟩
  ·simp_arith [jb,bz,z0,AF,AI,fj]
  ·simp_arith [jb,bz,AF,Bp,z1,AI,fj]
  ·have e1:=yO s p.1 a
   have e2:=yO s p.2 b
   have ez:f9 [PyData.int p.1,.int p.2] [a,b]=[.tuple [.int p.1,a],.tuple [.int p.2,b]]:=rfl
   have it1':dF (aq p)=.ret [.int p.1,.int p.2]:=rfl
   have h2:small 2=true:=bW (by decide)
   have em:bJ (dD (bD (aJ (ao 0) (aJ (ao 1) bo))) mv [.un,.un,.d s.d]) [PyData.tuple [.int p.1,a],.tuple [.int p.2,b]]=.ret ([cA a p.1 s.top,cA b p.2 s.top].map PyData.bool):=by
    have q:∀ (x:Int) (y:PyData),dD (bD (aJ (ao 0) (aJ (ao 1) bo))) mv [.un,.un,.d s.d] (.tuple [.int x,y])=.ret (.bool (cA y x s.top)):=λx y=>by
     show mv [.d (.int x),.d y,.d s.d]=_
     simp_arith [mv,yO]
    rw [bJ,q,Tr.ret_bind,bJ,q,Tr.ret_bind,bJ]
    rfl
   have ea:bR js [.list [.bool (cA a p.1 s.top),.bool (cA b p.2 s.top)]]=.ret (.bool (fj s p (.tuple [a,b]))):=by
    have q:=lz [cA a p.1 s.top,cA b p.2 s.top]
    refine Eq.trans q ?_
    show Tr.ret (PyData.bool (cA a p.1 s.top && (cA b p.2 s.top && true)))=Tr.ret (PyData.bool (cA a p.1 s.top && cA b p.2 s.top))
    rw [Ck]
   have l2:((([a,b]:DY).length:Nat):Int)=((2:Nat):Int):=rfl
   simp_arith [jb,bz,AF,Bp,cw,it1',ez,h2,em,ea]
  ·simp_arith [jb,bz,AF,AI,oq,fj]
 ·have hn:=gW (x:=r) λxs e=>ht ⟨xs,e⟩
  rw [ZbB λxs e=>ht ⟨xs,e⟩]
  simp_arith [jb,hn,AI]
theorem Zes {s:Shp} {p:Pt} {r:PyData} (h:∀ xs,r≠.tuple xs):cL s p r=false:=by
 cases r with
 | tuple xs=>exact absurd rfl (h xs)
 | _=>rfl
theorem ZkK {s:Shp} {p:Pt} {e:PyData} (h:fK e):iw [.d s.d,.d (aq p),.d e]=.ret (.d (.bool (cL s p e))):=by
 by_cases ht:∃ xs,e=.tuple xs
 ·obtain ⟨xs,rfl⟩:=ht
  have z0:((((0:Nat):Int)) == 2)=false:=rfl
  have z1:((((1:Nat):Int)) == 2)=false:=rfl
  rcases xs with _ | ⟨a,_ | ⟨b,_ | ⟨c,r⟩⟩⟩
  ·simp_arith [iw,bz,z0,AF,AI,cL]
  ·simp_arith [iw,bz,AF,Bp,z1,AI,cL]
  ·have e1:=ZkF (h.2 a b rfl).1.sm
   have e2:=ZkG (s:=s) (p:=p) (r:=b)
   have eg:∀ J3 J4:Sl,bD (aJ (ao 3) (aJ (ao 4) bo)) (.tuple [a,b]) [.d s.d,.d (aq p),.d (.tuple [a,b]),J3,J4]=some [.d s.d,.d (aq p),.d (.tuple [a,b]),.d a,.d b]:=λ_ _=>rfl
   have ee:cL s p (.tuple [a,b])=(cu a && fj s p b):=rfl
   rw [ee]
   cases hs:cu a
   ·simp_arith [iw,bz,AF,Bp,cw,eg,e1,hs,Bc]
   ·simp_arith [iw,bz,AF,Bp,cw,eg,e1,hs,e2,Bq]
  ·simp_arith [iw,bz,AF,AI,oq,cL]
 ·have hn:=gW (x:=e) λxs q=>ht ⟨xs,q⟩
  rw [Zes λxs q=>ht ⟨xs,q⟩]
  simp_arith [iw,hn,AI]
theorem ZkL {s:Shp} (h:s.Ok) (h7:s.n<=7) {d:PyData} (hd:Ak d):kZ [.d s.d,.d d]=.ret (.d (.bool (eh s d))):=by
 have hst:s.sts.length<=100:=sml h7 (by rw [fi]; exact Aw _)
 by_cases ht:∃ es,d=.tuple es
 ·obtain ⟨es,rfl⟩:=ht
  obtain ⟨h1,h2⟩:=hd es rfl
  have el:=le es.length s.sts.length
  rw [vA]
  by_cases hl:es.length=s.sts.length
  ·rw [decide_eq_true hl] at el ⊢
   have em:bJ (dD (bD (aJ (ao 0) (aJ (ao 1) bo))) xQ [.un,.un,.d s.d]) ((s.sts.zip es).map λq=>PyData.tuple [aq q.1,q.2])=.ret ((s.sts.zip es).map λq=>PyData.bool (cL s q.1 q.2)):=e9 λq hq=>by
    have e1:=ZkK (s:=s) (p:=q.1) (h2 q.2 (Cu hq).2)
    simp_arith [xQ,e1]
   have hs:small (s.sts.zip es).length=true:=bW (by rw [Bz]; omega)
   have ea:bR js [.list ((s.sts.zip es).map λq=>PyData.bool (cL s q.1 q.2))]=.ret (.bool ((s.sts.zip es).all λq=>cL s q.1 q.2)):=by
    have q:(s.sts.zip es).map (λq=>PyData.bool (cL s q.1 q.2))=((s.sts.zip es).map λq=>cL s q.1 q.2).map PyData.bool:=by rw [AS]; rfl
    rw [q,lz,zT]
   simp_arith [kZ,iD h h7,bz,AF,At,el,wq,hs,em,ea,Bq]
  ·rw [decide_eq_false hl] at el ⊢
   simp_arith [kZ,iD h h7,bz,AF,At,el,AI,Bc]
 ·have hn:=gW (x:=d) λxs q=>ht ⟨xs,q⟩
  have e0:eh s d=false:=by
   cases d with
   | tuple xs=>exact absurd ⟨xs,rfl⟩ ht
   | _=>rfl
  rw [e0]
  simp_arith [kZ,iD h h7,hn,AI]
theorem ZkH {s:Shp} (h:s.Ok) (h7:s.n<=7) {ds:List (List DZ)} {x:PyData} (hx:nU x):la [.d s.d,.d (bm ds),.d x]=.ret (.d (.bool (gu s ds.length x))):=by
 have ld:bR cj [bm ds]=.ret (.int ds.length):=by
  show Tr.ret (PyData.int ((ds.map fD).length:Nat))=_
  rw [At]
 by_cases ht:∃ es,x=.tuple es
 ·obtain ⟨es,rfl⟩:=ht
  obtain ⟨h1,h2⟩:=hx es rfl
  have el:=le es.length ds.length
  rw [pz]
  by_cases hl:es.length=ds.length
  ·rw [decide_eq_true hl] at el ⊢
   have em:bJ (dD (ao 0) mw [.un,.d s.d]) es=.ret ((es.map (eh s)).map PyData.bool):=by
    have q:∀ l:DY,(∀ d∈l,Ak d)->bJ (dD (ao 0) mw [.un,.d s.d]) l=.ret ((l.map (eh s)).map PyData.bool):=λl hl=>by
     induction l with
     | nil=>rfl
     | cons d l ih =>
      have e1:=ZkL h h7 (hl d (AB ..))
      have e2:dD (ao 0) mw [.un,.d s.d] d=.ret (.bool (eh s d)):=by
       simp_arith [mw,e1]
      rw [bJ,e2,Tr.ret_bind,ih λe he=>hl e (Az _ he)]
      rfl
    exact q es h2
   have hs:small es.length=true:=bW (by omega)
   simp_arith [la,bz,AF,ld,el,hs,em,zT,Bq]
  ·rw [decide_eq_false hl] at el ⊢
   simp_arith [la,bz,AF,ld,el,AI,Bc]
 ·have hn:=gW (x:=x) λxs q=>ht ⟨xs,q⟩
  have e0:gu s ds.length x=false:=by
   cases x with
   | tuple xs=>exact absurd ⟨xs,rfl⟩ ht
   | _=>rfl
  rw [e0]
  simp_arith [la,hn,AI]
theorem nonwh:∀ l:DY,(l.filterMap λy=>if bK y=true then none else some y).isEmpty=l.all bK
 | []=>rfl
 | y::l=>by
  rw [B9,BG]
  cases h:bK y
  ·rfl
  ·rw [Bq]
   exact nonwh l
theorem iL {x:PyData} (h:bK x=true):∃ n,x=.int n:=by
 cases x with
 | int n=>exact ⟨n,rfl⟩
 | _=>cases h
theorem og {x:PyData} {a b:Int} (h:cA x a b=true):bK x=true:=by
 cases x with
 | int n=>rfl
 | _=>cases h
theorem Za0 {a b:PyData} (h:cu (.tuple [a,b])=true):bK a=true/\bK b=true:=by
 cases a with
 | int t =>
  cases b with
  | int b=>exact ⟨rfl,rfl⟩
  | _=>cases h
 | _=>cases h
theorem Zhp {r:PyData} (h:∀ xs,r≠.tuple xs):cu r=false:=by
 cases r with
 | tuple xs=>exact absurd rfl (h xs)
 | _=>rfl
theorem Za1 {cs:DY} (h:cs.length≠2):cu (.tuple cs)=false:=by
 rcases cs with _ | ⟨a,_ | ⟨b,_ | ⟨c,r⟩⟩⟩
 ·rfl
 ·cases a <;> rfl
 ·exact absurd rfl h
 ·cases a <;> cases b <;> rfl
theorem ZbC {s:Shp} {p:Pt} {cs:DY} (h:cs.length≠2):fj s p (.tuple cs)=false:=by
 rcases cs with _ | ⟨a,_ | ⟨b,_ | ⟨c,r⟩⟩⟩
 ·rfl
 ·rfl
 ·exact absurd rfl h
 ·rfl
theorem ff {xs ys:DY} (h1:xs.length<=200) (h2:ys.length<=200):aU dJ (.tuple xs) (.tuple ys)=.ret (.tuple (xs++ys)):=by
 cases xs with
 | nil=>exact ny
 | cons x xs=>exact nv (bW (by omega))
theorem Zc7 (a b c d:Int):aU cQ (.tuple [.int a,.int b]) (.tuple [.int c,.int d])=.ret (.bool (!(decide (a=c/\b=d)))):=by
 rw [Zjv rfl rfl (λx y z=>by cases z.1)]
 have e:PyData.eqv (.tuple [.int a,.int b]) (.tuple [.int c,.int d])=decide (a=c/\b=d):=by
  simp only [PyData.eqv,PyData.eqvAll]
  by_cases h1:a=c
  ·by_cases h2:b=d
   ·simp [h1,h2]
   ·simp [h1,h2]
  ·simp [h1]
 rw [e]
theorem Zjt {t b:Int} (hb:1<=b):aU cQ (gK t b) (.tuple [.int t,.int b])=.ret (.bool (!(((Nat.gcd t.natAbs b.natAbs:Nat):Int) == 1))):=by
 unfold gK
 rw [Zc7]
 congr 3
 by_cases hg:Nat.gcd t.natAbs b.natAbs=1
 ·obtain ⟨h1,h2⟩:=Gc.ZjO (by omega) hg
  rw [h1,h2,hg]
  simp
 ·have hn:¬ (Gc.cB t b=t/\Gc.bQ t b=b):=λ⟨h1,h2⟩=>by
   obtain ⟨_,_,_,h3⟩:=Gc.jc (t:=t) (b:=b) (by omega)
   rw [h1,h2] at h3
   exact hg h3
  rw [decide_eq_false hn]
  symm
  rw [beq_eq_false_iff_ne]
  omega
theorem ZkI (x:PyData):p8 [.d x]=.ret (.d (.bool (bK x))):=by
 cases x <;> (simp_arith [p8]; rfl)
theorem ZkJ {s:Shp} {p:Pt} {e:PyData} (h:fK e):eC [.d s.d,.d (aq p),.d e]=.ret (.d (.bool (cL s p e))):=by
 by_cases ht:∃ xs,e=.tuple xs
 ·obtain ⟨xs,rfl⟩:=ht
  have z0:((((0:Nat):Int)) == 2)=false:=rfl
  have z1:((((1:Nat):Int)) == 2)=false:=rfl
  rcases xs with _ | ⟨c,_ | ⟨r,_ | ⟨d,q⟩⟩⟩
  ·simp_arith [eC,bz,z0,AF,AI,cL]
  ·simp_arith [eC,bz,AF,Bp,z1,AI,cL]
  ·obtain ⟨⟨hc,hcn⟩,hr⟩:=h.2 c r rfl
   have ee:cL s p (.tuple [c,r])=(cu c && fj s p r):=rfl
   rw [ee]
   by_cases tc:∃ cs,c=.tuple cs
   ·obtain ⟨cs,rfl⟩:=tc
    by_cases tr:∃ rs,r=.tuple rs
    ·obtain ⟨rs,rfl⟩:=tr
     have l1:=hc cs rfl
     have l2:=hr rs rfl
     have ea:=ff l1 l2
     have c1:=le cs.length 2
     have c2:=le rs.length 2
     have cc:((2:Nat):Int)=2:=rfl
     rw [cc] at c1 c2
     have hs:small (cs++rs).length=true:=bW (by rw [Av]; omega)
     have hf:eM (jf (ao 0) mD mr [.un]) (cs++rs)=.ret ((cs++rs).filterMap λy=>if bK y=true then none else some y):=mJ λy hm=>by
      have e:=ZkI y
      cases hq:bK y
      ·rw [hq] at e
       simp_arith [mD,mr,e,AI,Bl,↓reduceIte]
      ·rw [hq] at e
       simp_arith [mD,mr,e,AF,↓reduceIte]
     by_cases k1:cs.length=2
     ·rw [decide_eq_true k1] at c1
      by_cases k2:rs.length=2
      ·rw [decide_eq_true k2] at c2
       have en:=Zen ((cs++rs).filterMap λy=>if bK y=true then none else some y)
       rw [nonwh] at en
       cases ha:(cs++rs).all bK
       ·rw [ha] at en
        have hz:(cu (.tuple cs) && fj s p (.tuple rs))=false:=by
         cases hz:(cu (.tuple cs) && fj s p (.tuple rs)) with
         | false=>rfl
         | true =>
          exfalso
          obtain ⟨q1,q2⟩:=A3.mp hz
          rcases cs with _ | ⟨a,_ | ⟨b,_ | ⟨d,q⟩⟩⟩ <;> try (cases k1)
          rcases rs with _ | ⟨u,_ | ⟨v,_ | ⟨d,q⟩⟩⟩ <;> try (cases k2)
          obtain ⟨w1,w2⟩:=Za0 q1
          have q2:(cA u p.1 s.top && cA v p.2 s.top)=true:=q2
          obtain ⟨q3,q4⟩:=A3.mp q2
          have:([a,b]++[u,v]).all bK=true:=by
           show (bK a && (bK b && (bK u && (bK v && true))))=true
           rw [w1,w2,og q3,og q4]
           rfl
          rw [this] at ha
          cases ha
        rw [hz]
        simp_arith [eC,bz,cw,AF,Bp,ea,c1,c2,hs,hf,en,AI]
       ·rw [ha] at en
        rcases cs with _ | ⟨a,_ | ⟨b,_ | ⟨d,q⟩⟩⟩ <;> try (cases k1)
        rcases rs with _ | ⟨u,_ | ⟨v,_ | ⟨d,q⟩⟩⟩ <;> try (cases k2)
        have ha:(bK a && (bK b && (bK u && (bK v && true))))=true:=ha
        simp only [AU,Ck] at ha
        obtain ⟨w1,w2,w3,w4⟩:=ha
        obtain ⟨t,rfl⟩:=iL w1
        obtain ⟨b,rfl⟩:=iL w2
        obtain ⟨u,rfl⟩:=iL w3
        obtain ⟨v,rfl⟩:=iL w4
        obtain ⟨nt,nB⟩:=hcn t b rfl
        have es:cu (.tuple [.int t,.int b])=(decide (1<=b) && (((Nat.gcd t.natAbs b.natAbs:Nat):Int) == 1)):=rfl
        have er:fj s p (.tuple [.int u,.int v])=((decide (p.1<=u) && decide (u<=s.top)) && (decide (p.2<=v) && decide (v<=s.top))):=rfl
        rw [es,er]
        have hs4:small ([PyData.int t,.int b]++[PyData.int u,.int v]).length=true:=hs
        have hs4':small 4=true:=bW (by decide)
        have ea':aU dJ (.tuple [.int t,.int b]) (.tuple [.int u,.int v])=.ret (.tuple [.int t,.int b,.int u,.int v]):=ea
        have hf':eM (jf (ao 0) mD mr [.un]) [.int t,.int b,.int u,.int v]=.ret []:=hf
        have en':aU kL (.list []) (.list [])=.ret (.bool false):=rfl
        by_cases hb:b < 1
        ·rw [decide_eq_false (show ¬ 1<=b by omega),Bc,Bc]
         simp_arith [eC,bz,cw,AF,Bp,ea',hs4',hf',en',decide_eq_true hb]
        ·rw [decide_eq_true (show 1<=b by omega),Bq]
         have e1:=za (t:=t) (b:=b) (by omega) (aO nB (by decide))
         have e2:=Zjt (t:=t) (b:=b) (by omega)
         cases hg:(((Nat.gcd t.natAbs b.natAbs:Nat):Int) == 1)
         ·rw [hg] at e2
          simp_arith [eC,bz,cw,AF,Bp,ea',hs4',hf',en',decide_eq_false hb,e1,e2,AI,Bc]
         ·rw [hg] at e2
          cases d1:decide (p.1<=u)
          ·simp_arith [eC,bz,cw,AF,Bp,ea',hs4',hf',en',decide_eq_false hb,e1,e2,fq,fo,d1,Bq,Bc]
          ·cases d2:decide (u<=s.top)
           ·simp_arith [eC,bz,cw,AF,Bp,ea',hs4',hf',en',decide_eq_false hb,e1,e2,fq,fo,d1,d2,Bq,Bc]
           ·cases d3:decide (p.2<=v)
            ·simp_arith [eC,bz,cw,AF,Bp,ea',hs4',hf',en',decide_eq_false hb,e1,e2,fq,fo,d1,d2,d3,Bq,Bc]
            ·simp_arith [eC,bz,cw,AF,Bp,ea',hs4',hf',en',decide_eq_false hb,e1,e2,fq,fo,d1,d2,d3,Bq]
      ·rw [decide_eq_false k2] at c2
       rw [ZbC k2,CD]
       simp_arith [eC,bz,cw,AF,Bp,ea,c1,c2,AI]
     ·rw [decide_eq_false k1] at c1
      rw [Za1 k1,Bc]
      simp_arith [eC,bz,cw,AF,Bp,ea,c1,AI]
    ·have hn:=gW (x:=r) λxs q=>tr ⟨xs,q⟩
     rw [ZbB λxs q=>tr ⟨xs,q⟩,CD]
     simp_arith [eC,bz,cw,AF,Bp,hn,AI]
   ·have hn:=gW (x:=c) λxs q=>tc ⟨xs,q⟩
    rw [Zhp λxs q=>tc ⟨xs,q⟩,Bc]
    simp_arith [eC,bz,cw,AF,Bp,hn,AI]
  ·simp_arith [eC,bz,AF,AI,oq,cL]
 ·have hn:=gW (x:=e) λxs q=>ht ⟨xs,q⟩
  rw [Zes λxs q=>ht ⟨xs,q⟩]
  simp_arith [eC,hn,AI]
noncomputable def lH {α:Type} (L:List α) (u:α->Bool):PyData->Option PyData
 | .int k=>match L[k.toNat]? with
  | some q=>if u q=true then none else some (.int k)
  | none=>some (.int k)
 | _=>none
theorem xB {n:Nat} {a:PyData} (h:a∈bi 0 n):∃ k:Nat,k < n/\a=.int k:=by
 obtain ⟨x,hx,rfl⟩:=AV.mp h
 have:=gN hx
 have e:((n:Int) - 0).toNat=n:=by omega
 rw [e] at this
 exact ⟨x.toNat,by omega,by congr 1; omega⟩
theorem Zh5 {n k:Nat} (h:k < n):PyData.int k∈bi 0 n:=by
 refine AV.mpr ⟨(k:Int),?_,rfl⟩
 unfold aQ
 exact AV.mpr ⟨k,Bw.mpr (by omega),by omega⟩
theorem Zk2 {α:Type} (L:List α) (u:α->Bool):((bi 0 L.length).filterMap (lH L u)).isEmpty=L.all u:=by
 rw [B5,Dx,List.filterMap_eq_nil_iff,Bm]
 constructor
 ·intro h q hq
  obtain ⟨k,hk,rfl⟩:=BJ.mp hq
  have:=h (.int k) (Zh5 hk)
  unfold lH at this
  dsimp only at this
  rw [A0,As hk] at this
  dsimp only at this
  split at this
  ·assumption
  ·cases this
 ·intro h a ha
  obtain ⟨k,hk,rfl⟩:=xB ha
  unfold lH
  dsimp only
  rw [A0,As hk]
  dsimp only
  rw [if_pos (h _ (AX hk))]
theorem Zd7 {s:Shp} (h:s.Ok) (h7:s.n<=7) {ds:List (List DZ)} {x:PyData} (hx:nU x):jS [.d s.d,.d (bm ds),.d x]=.ret (.d (.bool (gu s ds.length x))):=by
 have hst:s.sts.length<=100:=sml h7 (by rw [fi]; exact Aw _)
 have ld:bR cj [bm ds]=.ret (.int ds.length):=by
  show Tr.ret (PyData.int ((ds.map fD).length:Nat))=_
  rw [At]
 by_cases ht:∃ es,x=.tuple es
 ·obtain ⟨es,rfl⟩:=ht
  obtain ⟨h1,h2⟩:=hx es rfl
  have el:=le es.length ds.length
  rw [pz]
  by_cases hl:es.length=ds.length
  ·rw [decide_eq_true hl] at el ⊢
   have turn:∀ d∈es,∀ ρ:D5,(∃ J4:Sl,ρ=[.d s.d,.d (bm ds),.d (.tuple es),.d (.list (s.sts.map aq)),J4])->∃ ρ1,ao 4 d ρ=some ρ1/\((∃ r,(if eh s d=true then none else some (Re.d (.bool false)))=some r/\ji ρ1=.ret (.ret r)) \/
     ((if eh s d=true then none else some (Re.d (.bool false)))=none/\∃ ρ2,ji ρ1=.ret (.next ρ2)/\∃ J4:Sl,ρ2=[.d s.d,.d (bm ds),.d (.tuple es),.d (.list (s.sts.map aq)),J4])):=by
    rintro d hd ρ ⟨J4,rfl⟩
    refine ⟨_,rfl,?_⟩
    by_cases td:∃ row,d=.tuple row
    ·obtain ⟨row,rfl⟩:=td
     obtain ⟨r1,r2⟩:=h2 _ hd row rfl
     have er:=le row.length s.sts.length
     rw [vA]
     by_cases hr:row.length=s.sts.length
     ·rw [decide_eq_true hr] at er ⊢
      have zl:(s.sts.zip row).length=row.length:=by rw [Bz]; omega
      have rr:eK [.int (row.length:Int)]=.ret (bi 0 row.length):=gB (fc (by omega) (by omega))
      have hs:small (bi 0 row.length).length=true:=bW (by rw [di]; omega)
      have hf:eM (jf (ao 0) pF pc [.un,.d s.d,.d (.list (s.sts.map aq)),.d (.tuple row)]) (bi 0 row.length)=.ret ((bi 0 row.length).filterMap (lH (s.sts.zip row) λq=>cL s q.1 q.2)):=mJ λy hy=>by
       obtain ⟨k,hk,rfl⟩:=xB hy
       have hk2:k < s.sts.length:=by omega
       have a1:bG (s.sts.map aq) (k:Int)=some (aq s.sts[k]):=fW (by omega) (by rw [A0,AM,As hk2]; rfl)
       have a2:bG row (k:Int)=some row[k]:=fW (by omega) (by rw [A0,As hk])
       have e1:=ZkJ (s:=s) (p:=s.sts[k]) (r2 row[k] (AX hk))
       have ez:(s.sts.zip row)[k]?=some (s.sts[k],row[k]):=by
        rw [BZ]
        exact ⟨As hk2,As hk⟩
       unfold lH
       dsimp only
       rw [A0,ez]
       dsimp only
       by_cases hq:cL s s.sts[k] row[k]=true
       ·rw [hq] at e1
        rw [if_pos hq]
        simp_arith only [pF,pc,a1,a2,e1,AF,Bl,↓reduceIte]
       ·rw [Bool.eq_false_iff.mpr hq] at e1
        rw [if_neg hq]
        simp_arith only [pF,pc,a1,a2,e1,AI,↓reduceIte]
      have en:=Zen ((bi 0 row.length).filterMap (lH (s.sts.zip row) λq=>cL s q.1 q.2))
      have ef:=Zk2 (s.sts.zip row) (λq=>cL s q.1 q.2)
      rw [zl] at ef
      rw [ef] at en
      cases ha:(s.sts.zip row).all λq=>cL s q.1 q.2
      ·rw [ha] at en
       refine .inl ⟨_,rfl,?_⟩
       simp_arith only [ji,bz,AF,At,er,rr,hs,hf,en,AI]
      ·rw [ha] at en
       refine .inr ⟨rfl,?_⟩
       simp_arith only [ji,bz,AF,At,er,rr,hs,hf,en]
       exact ⟨_,rfl,_,rfl⟩
     ·rw [decide_eq_false hr] at er ⊢
      refine .inl ⟨_,rfl,?_⟩
      simp_arith only [ji,bz,AF,At,er,AI]
    ·have hn:=gW (x:=d) λxs q=>td ⟨xs,q⟩
     have e0:eh s d=false:=by
      cases d with
      | tuple xs=>exact absurd ⟨xs,rfl⟩ td
      | _=>rfl
     rw [e0]
     refine .inl ⟨_,rfl,?_⟩
     simp_arith only [ji,hn,AI]
   have key:=Zea (g:=ao 4) (s:=ji) (f:=λd=>if eh s d=true then none else some (Re.d (.bool false))) (λρ=>∃ J4:Sl,ρ=[.d s.d,.d (bm ds),.d (.tuple es),.d (.list (s.sts.map aq)),J4]) (xs:=es) (ρ:=[.d s.d,.d (bm ds),.d (.tuple es),.d (.list (s.sts.map aq)),.un]) turn ⟨_,rfl⟩
   have sr:=ot h h7 λa b=>s.fin a+s.fin b
   rcases key with ⟨r,k1,k2⟩ | ⟨k1,ρ2,k2,J4,rfl⟩
   ·obtain ⟨d,hd,hr⟩:=List.exists_of_findSome?_eq_some k1
    have ha:es.all (eh s)=false:=by
     cases ha:es.all (eh s) with
     | false=>rfl
     | true =>
      have:=Bm.mp ha d hd
      rw [if_pos this] at hr
      cases hr
    have hr':r=Re.d (.bool false):=by
     split at hr
     ·cases hr
     ·cases hr; rfl
    subst hr'
    rw [ha]
    simp_arith only [jS,bz,AF,ld,el,zb h h7,sr,k2,CD]
   ·have ha:es.all (eh s)=true:=Bm.mpr λd hd=>by
     have:=List.findSome?_eq_none_iff.mp k1 d hd
     split at this
     ·assumption
     ·cases this
    rw [ha]
    simp_arith only [jS,bz,AF,ld,el,zb h h7,sr,k2,Ck]
  ·rw [decide_eq_false hl] at el ⊢
   simp_arith only [jS,bz,AF,ld,el,AI,Bc]
 ·have hn:=gW (x:=x) λxs q=>ht ⟨xs,q⟩
  have e0:gu s ds.length x=false:=by
   cases x with
   | tuple xs=>exact absurd ⟨xs,rfl⟩ ht
   | _=>rfl
  rw [e0]
  simp_arith only [jS,hn,AI]
noncomputable def dE (es:List E2):PyData:=.tuple (es.map E2.d)
noncomputable def pE (P:List (List E2)):PyData:=.tuple (P.map dE)
theorem Zc3 {a b c d x f g h i:Sl} (ha:bZ a=false) (hb:bZ b=false) (hc:bZ c=false) (hd:bZ d=false) (hf:bZ f=false) (hg:bZ g=false) (hh:bZ h=false) (hi:bZ i=false):io 4 [a,b,c,d,x,f,g,h,i]=true:=by
 show (!bZ a && (!bZ b && (!bZ c && (!bZ d && (!bZ .un && (!bZ f && (!bZ g && (!bZ h && (!bZ i && true)))))))))=true
 rw [ha,hb,hc,hd,hf,hg,hh,hi]
 rfl
theorem ZfO {α:Type} (f:α->Bool):∀ l:List α,((l.map f).any id)=!(l.all λo=>!f o)
 | []=>rfl
 | x::l=>by
  rw [Ax,Cj,BG,ZfO f l,Bool.not_and,Bool.not_not]
  rfl
theorem lZ {s:Shp} {es:List E2}:f9 (s.sts.map aq) (es.map E2.d)=(s.sts.zip es).map λx=>PyData.tuple [aq x.1,x.2.d]:=by
 rw [wq]
 have:s.sts.zip (es.map E2.d)=(s.sts.zip es).map λx=>(x.1,x.2.d):=by
  rw [List.zip_map_right]
  rfl
 rw [this,AS]
 rfl
theorem li (es:List E2):dF (dE es)=.ret (es.map E2.d):=rfl
theorem Zlu {s:Shp} (h:s.Ok) (h7:s.n<=7) {es:List E2} (hes:cE s es) {W:Int->Int->Int} {b:Nat} (hW:eI s b W) {c:Int} (hc:nb b c) (hc0:0 < c) (hb:b<=3000) :
  mU [.d s.d,.d (dE es),.d (pD (s.tb W)),.d (.int c)]=.ret (.d (if s.dayB W c es=true then pD (s.tb (s.ownF W c es)) else .none)):=by
 have hst:s.sts.length<=100:=sml h7 (by rw [fi]; exact Aw _)
 have key:=nj (g:=bD (aJ (ao 5) (aJ (bD (aJ (ao 6) (aJ (ao 7) bo))) bo))) (s:=m8) (r:=Re.d .none) (mk:=λx:Pt×E2=>PyData.tuple [aq x.1,x.2.d]) (full:=s.sts.zip es)
  (λx=>s.okB W c x.1 x.2) (λpre ρ=>∃ J5 J6 J7 J8:Sl,bZ J5=false/\bZ J6=false/\bZ J7=false/\bZ J8=false/\ρ=[.d s.d,.d (dE es),.d (pD (s.tb W)),.d (.int c),.dip (pre.map λx=>(kS x.1,.int (s.own2 W c x.1 x.2.q))),J5,J6,J7,J8]) (λpre x post ρ e hI=>by
   obtain ⟨J5,J6,J7,J8,h5,h6,h7',h8,rfl⟩:=hI
   have hx:x∈s.sts.zip es:=by rw [e]; simp
   obtain ⟨z1,z2,z3,_⟩:=gH hes hx
   obtain ⟨⟨a1,a2⟩,b1,b2⟩:=(b8 h).mp z1
   have hsub:∀ q∈s.rzs x.1,q∈s.sts/\nb 20 (x.1.1+x.1.2)/\nb 20 (q.1+q.2):=λq hq=>vG h hW hc z1 hq
   obtain ⟨y1,y2,y3⟩:=hsub x.2.q z3
   obtain ⟨⟨c1,c2⟩,d1,d2⟩:=(b8 h).mp y1
   have er:=y8 h y2 y3
   have eg:aU eO (pD (s.tb W)) (aq x.2.q)=.ret (.int (W x.2.q.1 x.2.q.2)):=jD h c1 c2 d1 d2
   have f1:=aY hc (by omega)
   have f2:=aY (gP h y2 y3) (by decide)
   have eo:c * s.ord (x.1.1+x.1.2) (x.2.q.1+x.2.q.2)+W x.2.q.1 x.2.q.2=s.own2 W c x.1 x.2.q:=rfl
   have es':=Zeu (t:=s.own2 W c x.1 x.2.q) (b:=c) (by omega) (aO hc (by omega))
   have en:aU cQ (gK (s.own2 W c x.1 x.2.q) c) (.tuple [.int x.2.t,.int x.2.b])=.ret (.bool (!(decide (Gc.cB (s.own2 W c x.1 x.2.q) c=x.2.t/\Gc.bQ (s.own2 W c x.1 x.2.q) c=x.2.b)))):=Zc7 _ _ _ _
   have hsm:small (s.rzs x.1).length=true:=bW (by
    rw [<- ku h z1]
    exact AL (CG _ _) (by omega))
   have hm:bJ (dD (ao 0) xU [.un,.d (.int (s.own2 W c x.1 x.2.q)),.d (.int c),.d (pD (s.tb W)),.d s.d,.d (aq x.1)]) ((s.rzs x.1).map aq)=.ret ((s.rzs x.1).map λo=>PyData.bool (decide (s.own2 W c x.1 o < s.own2 W c x.1 x.2.q))):=e9 λo ho=>by
    obtain ⟨o1,o2,o3⟩:=hsub o ho
    obtain ⟨⟨u1,u2⟩,v1,v2⟩:=(b8 h).mp o1
    have g1:=y8 h o2 o3
    have g2:aU eO (pD (s.tb W)) (aq o)=.ret (.int (W o.1 o.2)):=jD h u1 u2 v1 v2
    have g3:=aY (gP h o2 o3) (by decide)
    have eo:c * s.ord (x.1.1+x.1.2) (o.1+o.2)+W o.1 o.2=s.own2 W c x.1 o:=rfl
    simp_arith [xU,g1,g2,f1,g3,eo]
   have ea:bR nL [.list ((s.rzs x.1).map λo=>PyData.bool (decide (s.own2 W c x.1 o < s.own2 W c x.1 x.2.q)))]=.ret (.bool (!((s.rzs x.1).all λo=>!decide (s.own2 W c x.1 o < s.own2 W c x.1 x.2.q)))):=by
    have q:(s.rzs x.1).map (λo=>PyData.bool (decide (s.own2 W c x.1 o < s.own2 W c x.1 x.2.q)))=((s.rzs x.1).map λo=>decide (s.own2 W c x.1 o < s.own2 W c x.1 x.2.q)).map PyData.bool:=by rw [AS]; rfl
    rw [q,nr,ZfO]
   have ek:s.okB W c x.1 x.2=(decide (Gc.cB (s.own2 W c x.1 x.2.q) c=x.2.t/\Gc.bQ (s.own2 W c x.1 x.2.q) c=x.2.b) && (s.rzs x.1).all λo=>!decide (s.own2 W c x.1 o < s.own2 W c x.1 x.2.q)):=rfl
   refine ⟨[.d s.d,.d (dE es),.d (pD (s.tb W)),.d (.int c),.dip (pre.map λx=>(kS x.1,.int (s.own2 W c x.1 x.2.q))),.d (aq x.1),.d (.tuple [.int x.2.t,.int x.2.b]),.d (aq x.2.q),J8],rfl,?_⟩
   rw [ek]
   cases k1:decide (Gc.cB (s.own2 W c x.1 x.2.q) c=x.2.t/\Gc.bQ (s.own2 W c x.1 x.2.q) c=x.2.b)
   ·rw [k1] at en
    refine .inr ⟨Bc _,?_⟩
    simp_arith [m8,er,eg,f1,f2,eo,es',en,AI]
   ·rw [k1] at en
    cases k2:(s.rzs x.1).all λo=>!decide (s.own2 W c x.1 o < s.own2 W c x.1 x.2.q)
    ·rw [k2] at ea
     refine .inr ⟨rfl,?_⟩
     simp_arith [m8,er,eg,f1,f2,eo,es',en,AF,y6 h h7 z1,At,hsm,hm,ea,AI]
    ·rw [k2] at ea
     have nd:((s.sts.zip es).map λx=>kS x.1).Nodup:=by
      have q:(s.sts.zip es).map (λx=>kS x.1)=s.sts.map kS:=by
       have e:(s.sts.zip es).map (·.1)=s.sts:=List.map_fst_zip (by rw [hes.1]; exact Aw _)
       have e2:(s.sts.zip es).map (λx=>kS x.1)=((s.sts.zip es).map (·.1)).map kS:=by rw [AS]; rfl
       rw [e2,e]
      rw [q]
      exact mX (jE s)
     have hni:kS x.1 ∉ (pre.map λx=>(kS x.1,PyData.int (s.own2 W c x.1 x.2.q))).map (·.1):=by
      rw [AS]
      intro z
      have z:kS x.1∈pre.map λx=>kS x.1:=z
      rw [e,Bu,Ax,Dm] at nd
      exact nd.2.2 _ z _ (AB ..) rfl
     have hl:(pre.map λx=>(kS x.1,PyData.int (s.own2 W c x.1 x.2.q))).length<=5000:=by
      have:=congrArg List.length e
      rw [Bz,Av] at this
      rw [At]
      omega
     have ep:=ZcD (k:=4) (ρ:=[.d s.d,.d (dE es),.d (pD (s.tb W)),.d (.int c),.dip (pre.map λx=>(kS x.1,.int (s.own2 W c x.1 x.2.q))),.d (aq x.1),.d (.tuple [.int x.2.t,.int x.2.b]),.d (aq x.2.q),.d (.int (s.own2 W c x.1 x.2.q))])
      (i:=aa 8) (nn:=aa 5) (x:=.int (s.own2 W c x.1 x.2.q)) (ns:=kS x.1)
      (by simp_arith [Ci]) rfl (by simp only [qV,qU,vp,uQ,uP,vd,nu,vc,rz,uF,uw,sZ,ux,uv,sY,tR,tU,tN,fU,j7,lJ,lI,nI,nH,nG,nF,nE,nD,sX,sW,rq,ra,rn,rm,rj,rh,re,rf,va,sP,sU,u8,u9,sN,sO,sT,u7,sS,uY,uZ,sR,uf,ud,ue,uG,uL,uK,uJ,uH,uI,sV,uE,uD,uC,q9,qZ,tz,tw,tD,tB,bW,uN,uM,tF,tE,ve,tj,tV,tW,qY,qW,tu,tm,jY,jl,lz,nr,tT,tS,rE,rD,rC,rB,rA,sK,sJ,sI,qX,np,tq,nq,vh,vm,vo,vn,sF,sE,vg,vf,uO,sD,sC,uB,ut,ur,rS,rP,rO,rR,rQ,rF,t5,tY,tZ,sB,sA,sy,sx,sw,sv,su,sn,sj,rN,rM,rL,rK,ql,qj,uT,uS,uR,ug,sM,sL,uX,uW,ly,si,r8,uh,qK,qL,qJ,qI,qM,uV,uU,sQ,qE,qC,qF,qH,qD,sH,sG,tQ,tP,tO,rY,rX,qT,qS,qR,qQ,qP,uy,uA,uz,uq,uo,qN,um,gX,uj,uk,ui,tM,tL,tK,pQ,pR,pV,pU,tG,tJ,tH,t6,t9,uc,t7,rJ,rH,rG,ny,nv,qG,r6,rW,rV,rZ,rT,Tw.oK,Tw.oJ,Tw.oI,Tw.oH,Tw.oG,Tw.oF,Tw.oE,Tw.oD,Tw.oC,tf,tX,oZ,Tr.of_some,Tr.bind_assoc,Tr.draw_bind,Dz,Cf,Be,List.replicate_zero,Au,AE,Re.val_d,Re.val_own,blk,lG,Ax,BO,DL,A7,Option.getD_some,Nat.reduceAdd,Nat.reduceLeDiff,Ci]; rfl) hl (Zc3 rfl rfl rfl rfl rfl rfl rfl rfl) hni
     refine .inl ⟨rfl,_,?_,.d (aq x.1),.d (.tuple [.int x.2.t,.int x.2.b]),.d (aq x.2.q),.d (.int (s.own2 W c x.1 x.2.q)),rfl,rfl,rfl,rfl,rfl⟩
     simp_arith [m8,er,eg,f1,f2,eo,es',en,AF,y6 h h7 z1,At,hsm,hm,ea,ep,Bu]
     ) (xs:=s.sts.zip es) (pre:=[]) (ρ:=[.d s.d,.d (dE es),.d (pD (s.tb W)),.d (.int c),.dip [],.un,.un,.un,.un]) rfl ⟨_,_,_,_,rfl,rfl,rfl,rfl,rfl⟩
 rcases key with ⟨k1,ρ2,k2,J5,J6,J7,J8,h5,h6,h7',h8,rfl⟩ | ⟨k1,k2⟩
 ·have k1:s.dayB W c es=true:=k1
  rw [if_pos k1,Zau hes]
  have ne:(s.sts.zip es).map (λx=>(kS x.1,PyData.int (s.own2 W c x.1 x.2.q)))≠[]:=by
   rw [<- Zau hes]
   exact l5 h _
  have ef:=Zeo (s:=fX 4) (k:=4) (ρ:=[.d s.d,.d (dE es),.d (pD (s.tb W)),.d (.int c),.dip ((s.sts.zip es).map λx=>(kS x.1,.int (s.own2 W c x.1 x.2.q))),J5,J6,J7,J8]) rfl (Zc3 rfl rfl rfl rfl h5 h6 h7' h8) ne
  simp_arith [mU,yV,iD h h7,li,lZ,k2,ef]
 ·have k1:s.dayB W c es=false:=k1
  rw [k1]
  simp_arith [mU,yV,iD h h7,li,lZ,k2,Bl,↓reduceIte]
theorem Zh4 {n:Nat} {pre post:DY} {x:PyData} (h:(bi 0 n).reverse=pre++x::post):x=.int ((n - 1 - pre.length:Nat):Int)/\pre.length < n:=by
 have h1:(bi 0 n).reverse[pre.length]?=some x:=by rw [h]; simp
 have hl:pre.length < (bi 0 n).reverse.length:=(Ay.mp h1).1
 rw [Bv,di] at hl
 have e0:((n:Int) - 0).toNat=n:=by omega
 rw [e0] at hl
 rw [CH (by rw [di]; omega),di,e0] at h1
 unfold bi aQ at h1
 rw [e0,AS,AM,Co (by omega)] at h1
 cases h1
 refine ⟨?_,hl⟩
 show PyData.int (0+((n - 1 - pre.length:Nat):Int))=_
 rw [C3]
theorem ZkZ {s:Shp} {d:PyData} (h:eh s d=true):∃ es:List E2,d=dE es/\cE s es:=by
 cases d with
 | tuple xs =>
  rw [vA,AU] at h
  obtain ⟨h1,h2⟩:=h
  have h1:=of_decide_eq_true h1
  have key:∀ (l:List Pt) (xs:DY),(∀ p∈l,p.1<=s.top/\p.2<=s.top)->xs.length=l.length->((l.zip xs).all λq=>cL s q.1 q.2)=true->∃ es:List E2,xs=es.map E2.d/\es.length=l.length/\∀ (k:Nat) (p:Pt) (e:E2),l[k]?=some p->es[k]?=some e->e.Sh/\e.q∈s.rzs p:=by
   intro l
   induction l with
   | nil =>
    intro xs _ hl _
    cases xs with
    | nil=>exact ⟨[],rfl,rfl,λk p e h=>by cases h⟩
    | cons _ _=>cases hl
   | cons p l ih =>
    intro xs hb hl ha
    cases xs with
    | nil=>cases hl
    | cons x xs =>
     rw [A1,BG,AU] at ha
     obtain ⟨ha1,ha2⟩:=ha
     obtain ⟨es,rfl,q1,q2⟩:=ih xs (λp hp=>hb p (Az _ hp)) (BV hl) ha2
     have ha1:cL s p x=true:=ha1
     have:∃ e:E2,x=e.d/\e.Sh/\e.q∈s.rzs p:=by
      cases x with
      | tuple ys =>
       rcases ys with _ | ⟨c,_ | ⟨r,_ | ⟨z,w⟩⟩⟩
       ·cases ha1
       ·cases ha1
       ·have ha1:(cu c && fj s p r)=true:=ha1
        obtain ⟨b1,b2⟩:=A3.mp ha1
        cases c with
        | tuple cs =>
         by_cases hcl:cs.length=2
         ·rcases cs with _ | ⟨a,_ | ⟨b,_ | ⟨z,w⟩⟩⟩ <;> try (cases hcl)
          obtain ⟨w1,w2⟩:=Za0 b1
          obtain ⟨t,rfl⟩:=iL w1
          obtain ⟨b,rfl⟩:=iL w2
          have b1:(decide (1<=b) && (((Nat.gcd t.natAbs b.natAbs:Nat):Int) == 1))=true:=b1
          obtain ⟨c1,c2⟩:=A3.mp b1
          cases r with
          | tuple rs =>
           by_cases hrl:rs.length=2
           ·rcases rs with _ | ⟨u,_ | ⟨v,_ | ⟨z,w⟩⟩⟩ <;> try (cases hrl)
            have b2:(cA u p.1 s.top && cA v p.2 s.top)=true:=b2
            obtain ⟨d1,d2⟩:=A3.mp b2
            obtain ⟨u,rfl⟩:=iL (og d1)
            obtain ⟨v,rfl⟩:=iL (og d2)
            have d1:(decide (p.1<=u) && decide (u<=s.top))=true:=d1
            have d2:(decide (p.2<=v) && decide (v<=s.top))=true:=d2
            obtain ⟨f1,f2⟩:=A3.mp d1
            obtain ⟨f3,f4⟩:=A3.mp d2
            have c2:=beq_iff_eq.mp c2
            obtain ⟨g1,g2⟩:=hb p (AB ..)
            exact ⟨⟨t,b,(u,v)⟩,rfl,⟨of_decide_eq_true c1,by show Nat.gcd t.natAbs b.natAbs=1; omega⟩,(gM g1 g2).mpr ⟨⟨of_decide_eq_true f1,of_decide_eq_true f2⟩,of_decide_eq_true f3,of_decide_eq_true f4⟩⟩
           ·rw [ZbC hrl] at b2; cases b2
          | _=>cases b2
         ·rw [Za1 hcl] at b1; cases b1
        | _=>cases b1
       ·cases ha1
      | _=>cases ha1
     obtain ⟨e,rfl,he1,he2⟩:=this
     refine ⟨e::es,rfl,by rw [Au,Au,q1],λk p' e' k1 k2=>?_⟩
     cases k with
     | zero =>
      cases k1
      cases k2
      exact ⟨he1,he2⟩
     | succ k =>
      rw [A7] at k1 k2
      exact q2 k p' e' k1 k2
  have hb:∀ p∈s.sts,p.1<=s.top/\p.2<=s.top:=λp hp=>by
   have q:=pw.mp hp
   have r1:=gN q.1
   have r2:=gN q.2
   have hn:(0:Int) < s.n:=by omega
   have e:(s.n:Int)=s.top+1 - -s.depth:=by unfold Shp.n at hn ⊢; omega
   omega
  obtain ⟨es,rfl,q1,q2⟩:=key s.sts xs hb h1 h2
  exact ⟨es,rfl,q1,q2⟩
 | _=>cases h
theorem Zd9 {s:Shp}:∀ {xs:DY},xs.all (eh s)=true->∃ P:List (List E2),xs=P.map dE/\∀ es∈P,cE s es
 | [],_=>⟨[],rfl,nofun⟩
 | x::xs,h=>by
  rw [BG,AU] at h
  obtain ⟨es,rfl,he⟩:=ZkZ h.1
  obtain ⟨P,rfl,hP⟩:=Zd9 h.2
  refine ⟨es::P,rfl,λz hz=>?_⟩
  rcases AO.mp hz with rfl | hz
  ·exact he
  ·exact hP z hz
theorem ZeA {s:Shp} (h:s.Ok) (h7:s.n<=7) {ds:List (List DZ)} (hd:∀ d∈ds,DdB d) (hl:ds.length<=3) {x:PyData} (hx:nU x) :
  (gu s ds.length x=false/\gR [.d s.d,.d (bm ds),.d x]=.ret (.d (.bool false)))\/∃ P:List (List E2),x=pE P/\P.length=ds.length/\(∀ es∈P,cE s es)/\gu s ds.length x=true/\gR [.d s.d,.d (bm ds),.d x]=.ret (.d (.bool (s.chk ds P).isSome)):=by
 have ep:=ZkH h h7 (ds:=ds) hx
 cases hp:gu s ds.length x
 ·rw [hp] at ep
  refine .inl ⟨rfl,?_⟩
  simp_arith only [gR,ep,AI]
 ·refine .inr ?_
  obtain ⟨P,rfl,hPl,hP⟩:∃ P:List (List E2),x=pE P/\P.length=ds.length/\∀ es∈P,cE s es:=by
   cases x with
   | tuple xs =>
    rw [pz,AU] at hp
    obtain ⟨P,rfl,hP⟩:=Zd9 hp.2
    refine ⟨P,rfl,?_,hP⟩
    have:=of_decide_eq_true hp.1
    rw [At] at this
    exact this
   | _=>cases hp
  rw [hp] at ep
  refine ⟨P,rfl,hPl,hP,rfl,?_⟩
  have ld:bR cj [bm ds]=.ret (.int ds.length):=by
   show Tr.ret (PyData.int ((ds.map fD).length:Nat))=_
   rw [At]
  have hsub:∀ k,∀ d∈ds.drop k,DdB d:=λk d h=>hd d (BB h)
  have hsubP:∀ k,∀ es∈P.drop k,cE s es:=λk d h=>hP d (BB h)
  have rr:eK [.int (ds.length:Int)]=.ret (bi 0 ds.length):=gB (fc (by omega) (by omega))
  have key:=Zk0 (g:=ao 5) (s:=qo) (r:=Re.d (.bool false)) (xs:=(bi 0 ds.length).reverse) (ρ:=[.d s.d,.d (bm ds),.d (pE P),.d (pD (s.tb λa b=>s.fin a+s.fin b)),.d (.int 1),.un,.un])
   (λpre _=>s.chk (ds.drop (ds.length - (pre.length+1))) (P.drop (ds.length - (pre.length+1)))=none)
   (λpre ρ=>∃ (F:Int->Int->Int) (c:Int) (J5 J6:Sl),s.chk (ds.drop (ds.length - pre.length)) (P.drop (ds.length - pre.length))=some (F,c)/\ρ=[.d s.d,.d (bm ds),.d (pE P),.d (pD (s.tb F)),.d (.int c),J5,J6]) ⟨_,_,.un,.un,by
    rw [AE,Dt,Br]
    rfl,rfl⟩ (λpre y post ρ e hI=>by
    obtain ⟨F,c,J5,J6,hc,rfl⟩:=hI
    obtain ⟨rfl,hpl⟩:=Zh4 e
    refine ⟨_,rfl,?_⟩
    have e1:ds.length - (pre.length+1)=ds.length - 1 - pre.length:=by omega
    have e2:ds.length - pre.length=ds.length - 1 - pre.length+1:=by omega
    rw [e1]
    rw [e2] at hc
    generalize hk:ds.length - 1 - pre.length=k at *
    have hk1:k < ds.length:=by omega
    have hk2:k < P.length:=by omega
    have d1:ds.drop k=ds[k]::ds.drop (k+1):=AZ hk1
    have d2:P.drop k=P[k]::P.drop (k+1):=AZ hk2
    have hdd:=hd _ (AX hk1)
    have hes:=hP _ (AX hk2)
    obtain ⟨k1,k2,k3⟩:=Ze3 h (hsub (k+1)) (hsubP (k+1)) hc
    have hlen:(ds.drop (k+1)).length<=2:=by rw [AH]; omega
    have n1:nb (102+250 * (ds.drop (k+1)).length+20) (c * aN ds[k]):=db k2 (gJ hdd)
    have hW:eI s (102+250 * (ds.drop (k+1)).length+120) (s.w2 ds[k] F c):=l0 h hdd k1 k2
    have i1:aU ap (bm ds) (.int k)=.ret (fD ds[k]):=by
     show Tr.of (bG (ds.map fD) (k:Int))=_
     rw [fW (by omega) (by rw [A0,AM,As hk1]; rfl)]
     rfl
    have i2:aU ap (pE P) (.int k)=.ret (dE P[k]):=by
     show Tr.of (bG (P.map dE) (k:Int))=_
     rw [fW (by omega) (by rw [A0,AM,As hk2]; rfl)]
     rfl
    have g1:=ZeG h h7 hdd k1 k2 (by omega)
    have g2:=Zev hdd
    have g3:=aY k2 (by omega)
    have g4:=aY (gJ hdd) (by decide)
    have g5:=Zlu h h7 hes hW (aO n1 (by omega)) (CB k3 hdd.pos) (by omega)
    have ec:s.chk (ds.drop k) (P.drop k)=if s.dayB (s.w2 ds[k] F c) (c * aN ds[k]) P[k]=true then some (s.ownF (s.w2 ds[k] F c) (c * aN ds[k]) P[k],c * aN ds[k]) else none:=by
     rw [d1,d2]
     unfold Shp.chk
     rw [hc]
     rfl
    rw [ec]
    by_cases hz:s.dayB (s.w2 ds[k] F c) (c * aN ds[k]) P[k]=true
    ·rw [if_pos hz] at g5 ⊢
     have n0:jX (pD (s.tb (s.ownF (s.w2 ds[k] F c) (c * aN ds[k]) P[k])))=false:=rfl
     refine .inr ⟨λz=>(by cases z),?_⟩
     simp_arith only [qo,i1,i2,g1,g2,g3,g4,g5,n0]
     refine ⟨_,rfl,_,_,_,_,?_,rfl⟩
     have el:(pre++[PyData.int (k:Int)]).length=pre.length+1:=by simp
     rw [el,e1,ec,if_pos hz]
    ·rw [if_neg hz] at g5 ⊢
     have n0:jX PyData.none=true:=rfl
     refine .inl ⟨rfl,?_⟩
     simp_arith only [qo,i1,i2,g1,g2,g3,g4,g5,n0])
  rcases key with ⟨⟨p,y,q,e,hb⟩,k2⟩ | ⟨_,ρ2,k2,F,c,J5,J6,hc,rfl⟩
  ·rw [Ze2 _ hPl hb]
   have e1:=zc h h7
   simp_arith only [gR,ep,AF,e1,ld,rr,k2]
   rfl
  ·rw [Bv,di] at hc
   have e0:ds.length - ((ds.length:Int) - 0).toNat=0:=by omega
   rw [e0,BP,BP] at hc
   rw [hc]
   have e1:=zc h h7
   simp_arith only [gR,ep,AF,e1,ld,rr,k2]
   rfl
structure StB (S:Int) (es:List E2):Prop where
 pos:0 < S
 nb:nb 1500 S
 t:∀ e∈es,Tw.nb 900 e.t
 b:∀ e∈es,1<=e.b/\Tw.nb 900 e.b/\e.b ∣ S
theorem pM {a S:Int} {k:Nat} (hS:0 < S) (h:nb k S) (ha:0 < a) (d:a ∣ S):nb k a:=by
 have:=Int.le_of_dvd hS d
 unfold nb at h ⊢
 omega
theorem Zc8 {B b:Int} {k:Nat} (hB:0 < B) (h:nb k B) (hb:0 < b) (d:b ∣ B):nb k (B.fdiv b):=by
 obtain ⟨w,rfl⟩:=d
 rw [Cq _ (by omega)]
 have hw:0 < w:=by
  rcases Int.lt_trichotomy 0 w with z | z | z
  ·exact z
  ·subst z; rw [B7] at hB; omega
  ·have:=Int.mul_neg_of_pos_of_neg hb z
   omega
 exact pM hB h hw ⟨b,BI _ _⟩
theorem vD (xs:DY) (t:Nat):L2.dH xs (some ((t:Int)+1)) none=xs.drop (t+1):=by
 unfold L2.dH
 have e1:HT.aR xs.length 0 (some ((t:Int)+1))=min (t+1) xs.length:=by
  unfold HT.aR
  simp only
  split <;> omega
 have e2:HT.aR xs.length xs.length none=xs.length:=by
  unfold HT.aR
  rfl
 rw [e1,e2]
 rcases Dv (t+1) xs.length with hle | hle
 ·rw [Ct hle,Cd (by rw [AH]; exact Aw _)]
 ·rw [Cm hle,BS (Aw _),BS hle]
  simp
theorem Zj3 (e:E2):e.d.canLay0=true:=rfl
theorem Zdy:∀ es:List E2,PyData.canLayAll0 (es.map E2.d)=true
 | []=>rfl
 | e::es=>by rw [Ax,PyData.canLayAll0,Zj3,Zdy es]; rfl
theorem Zj2 (es:List E2):(dE es).canLay0=true:=by unfold dE; rw [PyData.canLay0,Zdy]
theorem Zdz:∀ P:List (List E2),PyData.canLayAll0 (P.map dE)=true
 | []=>rfl
 | e::P=>by rw [Ax,PyData.canLayAll0,Zj2,Zdz P]; rfl
theorem zi {k:Nat}:∀ {l:DY},(∀ x∈l,x.depth<=k)->PyData.depthAll l<=k
 | [],_=>Bg _
 | x::l,h=>by
  rw [PyData.depthAll]
  exact Nat.max_le.mpr ⟨h x (AB ..),zi λy hy=>h y (Az _ hy)⟩
theorem Zhm (P:List (List E2)):SeqAt.shaped (pE P)=true:=by
 have h1:(pE P).canLay0=true:=by unfold pE; rw [PyData.canLay0,Zdz]
 have d1:∀ e:E2,e.d.depth<=2:=λe=>by show PyData.depth (.tuple [.tuple [.int e.t,.int e.b],.tuple [.int e.q.1,.int e.q.2]])<=2; exact Nat.le_of_eq rfl
 have d2:∀ es:List E2,(dE es).depth<=3:=λes=>by
  unfold dE
  rw [PyData.depth]
  have:=zi (k:=2) (l:=es.map E2.d) λx hx=>by
   obtain ⟨e,_,rfl⟩:=AV.mp hx
   exact d1 e
  omega
 have d3:(pE P).depth<=4:=by
  unfold pE
  rw [PyData.depth]
  have:=zi (k:=3) (l:=P.map dE) λx hx=>by
   obtain ⟨e,_,rfl⟩:=AV.mp hx
   exact d2 e
  omega
 unfold SeqAt.shaped
 rw [h1,decide_eq_true (AL d3 (by decide))]
 rfl
theorem Zli (P:List (List E2)):aU dP (pE P) (.tuple [])=.ret (.bool P.isEmpty):=by
 rw [Zlj (Zhm P) rfl (λa b z=>by cases z.1)]
 cases P with
 | nil=>rfl
 | cons es P =>
  have:PyData.eqv (pE (es::P)) (.tuple [])=false:=by
   show PyData.eqv (.tuple (dE es::P.map dE)) (.tuple [])=false
   simp only [PyData.eqv,PyData.eqvAll]
  rw [this]
  rfl
theorem Zkr (es:List E2) (P:List (List E2)):aU ap (pE (es::P)) (.int 0)=.ret (dE es):=by
 show Tr.of (bG (dE es::P.map dE) 0)=_
 rw [j7]
 rfl
theorem Zho (t b:Int):aU ap (gK t b) (.int 1)=.ret (.int (Gc.bQ t b)):=rfl
theorem ZeC {s:Shp} (h:s.Ok) (h7:s.n<=7) {P:List (List E2)} (hP:∀ es∈P,cE s es) {S:Int} (hS:∀ es∈P,StB S es):kW [.d s.d,.d (pE P)]=.ret (.own [pD (s.tb (s.later P).1),.int (s.later P).2]):=by
 have hst:s.sts.length<=100:=sml h7 (by rw [fi]; exact Aw _)
 have tn:aU dP (pE P) (.tuple [])=.ret (.bool P.isEmpty):=Zli P
 have en:=zb h h7
 have s2:small 2=true:=bW (by decide)
 cases P with
 | nil =>
  have tn:aU dP (pE []) (.tuple [])=.ret (.bool true):=tn
  simp_arith only [kW,tn,en,s2]
  rfl
 | cons es P =>
  have tn:aU dP (pE (es::P)) (.tuple [])=.ret (.bool false):=tn
  have hes:=hP es (AB ..)
  have st:=hS es (AB ..)
  have hpos:∀ e∈es,1<=e.b:=λe he=>(st.b e he).1
  obtain ⟨k1,_,k3⟩:=nC es 1 (by decide) hpos
  have kS:bot es ∣ S:=vK es 1 (by decide) (λe he=>⟨(st.b e he).1,(st.b e he).2.2⟩) ⟨S,by rw [Int.one_mul]⟩
  have nB:nb 1500 (bot es):=pM st.pos st.nb k1 kS
  have loop:∀ (pre post:List E2) (J3 J4:Sl),es=pre++post->∃ K3 K4:Sl,ck (bD (aJ (ao 3) (aJ (ao 4) bo))) qq (post.map E2.d) [.d s.d,.d (pE (es::P)),.d (.int (bot pre)),J3,J4,.un]=.ret (.next [.d s.d,.d (pE (es::P)),.d (.int (bot es)),K3,K4,.un]):=by
   intro pre post
   induction post generalizing pre with
   | nil =>
    intro J3 J4 e
    rw [A4] at e
    subst e
    exact ⟨J3,J4,rfl⟩
   | cons e post ih =>
    intro J3 J4 he
    have hb:=st.b e (by rw [he]; simp)
    have hsub:∀ x∈pre,x∈es:=λx hx=>by rw [he]; exact Bf _ hx
    obtain ⟨p1,_,_⟩:=nC pre 1 (by decide) λx hx=>hpos x (hsub x hx)
    have pS:bot pre ∣ S:=vK pre 1 (by decide) (λx hx=>⟨(st.b x (hsub x hx)).1,(st.b x (hsub x hx)).2.2⟩) ⟨S,by rw [Int.one_mul]⟩
    have pn:nb 1500 (bot pre):=pM st.pos st.nb p1 pS
    have es1:=za (t:=bot pre) (b:=e.b) (by omega) (aO hb.2.1 (by decide))
    have f1:=aY pn (by decide)
    have f2:=aY (yn pn hb.2.1 (show e.b≠0 by omega)).2 (by decide)
    have el:qq [.d s.d,.d (pE (es::P)),.d (.int (bot pre)),.d (.tuple [.int e.t,.int e.b]),.d (aq e.q),.un]=.ret (.next [.d s.d,.d (pE (es::P)),.d (.int (bot (pre++[e]))),.d (.tuple [.int e.t,.int e.b]),.d (aq e.q),.un]):=by
     have eb:bot (pre++[e])=bot pre * Gc.bQ (bot pre) e.b:=by unfold bot; rw [Do]; rfl
     simp_arith only [qq,es1,Zho,f1,f2,eb]
    obtain ⟨J3',J4',q⟩:=ih (pre++[e]) (.d (.tuple [.int e.t,.int e.b])) (.d (aq e.q)) (by rw [he,Bh]; rfl)
    refine ⟨J3',J4',?_⟩
    rw [Ax,lu]
    have eg:bD (aJ (ao 3) (aJ (ao 4) bo)) e.d [.d s.d,.d (pE (es::P)),.d (.int (bot pre)),J3,J4,.un]=some [.d s.d,.d (pE (es::P)),.d (.int (bot pre)),.d (.tuple [.int e.t,.int e.b]),.d (aq e.q),.un]:=rfl
    rw [eg,Tr.of_some,Tr.ret_bind]
    unfold iB
    rw [el,Tr.ret_bind,gX]
    exact q
  obtain ⟨J3,J4,lp⟩:=loop [] es .un .un rfl
  have b0:bot []=1:=rfl
  rw [b0] at lp
  have i0:=Zkr es P
  have sr:=ot h h7 λa b=>s.fin a+s.fin b
  have rr:eK [.int (s.sts.length:Int)]=.ret (bi 0 s.sts.length):=gB (fc (by omega) (by omega))
  have hs:small (bi 0 s.sts.length).length=true:=bW (by rw [di]; omega)
  have fB:=aY nB (by decide)
  have ei:bi 0 s.sts.length=(List.range s.sts.length).map λk:Nat=>PyData.int (k:Int):=by
   have e0:((s.sts.length:Int) - 0).toNat=s.sts.length:=by omega
   unfold bi aQ
   rw [e0,AS]
   refine BD λk _=>?_
   show PyData.int (0+(k:Int))=_
   rw [C3]
  have hm:bJ (dD (ao 0) pb [.un,.d (.list (s.sts.map aq)),.d (.int (bot es)),.d (pE (es::P))]) (bi 0 s.sts.length)=.ret ((s.tb (s.stF es)).map dG):=by
   rw [ei,ZgE hes]
   have q:=e9 (h:=dD (ao 0) pb [.un,.d (.list (s.sts.map aq)),.d (.int (bot es)),.d (pE (es::P))]) (f:=λk:Nat=>PyData.int (k:Int)) (g:=λk:Nat=>match (s.sts.zip es)[k]? with | some x=>dG (Tw.kS x.1,.int (x.2.t * (bot es).fdiv x.2.b)) | none=>.none) (l:=List.range s.sts.length) λk hk=>by
    have hk:=Bw.mp hk
    have hk2:k < es.length:=by rw [hes.1]; exact hk
    have ez:(s.sts.zip es)[k]?=some (s.sts[k],es[k]):=by
     rw [BZ]
     exact ⟨As hk,As hk2⟩
    have a1:bG (s.sts.map aq) (k:Int)=some (aq s.sts[k]):=fW (by omega) (by rw [A0,AM,As hk]; rfl)
    have a2:aU ap (dE es) (.int k)=.ret es[k].d:=by
     show Tr.of (bG (es.map E2.d) (k:Int))=_
     rw [fW (by omega) (by rw [A0,AM,As hk2]; rfl)]
     rfl
    have a3:aU ap es[k].d (.int 0)=.ret (.tuple [.int es[k].t,.int es[k].b]):=rfl
    have hb:=st.b _ (AX hk2)
    have f1:=aY (st.t _ (AX hk2)) (by decide)
    have f2:=aY (Zc8 k1 nB (by omega) (k3 _ (AX hk2))) (by decide)
    have f3:=aY hb.2.1 (by decide)
    have fd:=uu (m:=bot es) (n:=es[k].b) (by omega) f3
    rw [ez]
    have f2':fit ((bot es).fdiv es[k].b)=true:=f2
    simp_arith only [pb,a1,i0,a2,a3,fd,f1,f2']
    rfl
   rw [q]
   refine congrArg Tr.ret ?_
   rw [AS]
   apply Dq
   intro k
   rw [AM,AM]
   by_cases hk:k < s.sts.length
   ·have hk2:k < es.length:=by rw [hes.1]; exact hk
    have ez:(s.sts.zip es)[k]?=some (s.sts[k],es[k]):=by
     rw [BZ]
     exact ⟨As hk,As hk2⟩
    rw [Co hk,ez]
    show some (match (s.sts.zip es)[k]? with | some x=>_ | none=>_)=_
    rw [ez]
    rfl
   ·rw [CI (by rw [B4]; omega),CI (by rw [Bz]; omega)]
    rfl
  have ed:bR iG [.list ((s.tb (s.stF es)).map dG)]=.ret (pD (s.tb (s.stF es))):=yX (l5 h _) (ou s _)
  simp_arith only [kW,tn,i0,li,lp,en,sr,At,rr,hs,hm,ed,s2]
  rfl
theorem ZdA {s:Shp} (h:s.Ok) {P:List (List E2)} (hP:∀ es∈P,cE s es) {S:Int} (hS:∀ es∈P,StB S es):eI s 2500 (s.later P).1/\nb 1500 (s.later P).2/\0 < (s.later P).2:=by
 cases P with
 | nil=>exact ⟨λx y a1 a2 b1 b2=>aO (dO (lx h x a1 a2) (lx h y b1 b2)) (by decide),aO (show nb 102 (1:Int) from bS (by decide) (by decide)) (by decide),show (0:Int) < 1 by decide⟩
 | cons es P =>
  have hes:=hP es (AB ..)
  have st:=hS es (AB ..)
  obtain ⟨k1,_,k3⟩:=nC es 1 (by decide) λe he=>(st.b e he).1
  have kS:bot es ∣ S:=vK es 1 (by decide) (λe he=>⟨(st.b e he).1,(st.b e he).2.2⟩) ⟨S,by rw [Int.one_mul]⟩
  have nB:nb 1500 (bot es):=pM st.pos st.nb k1 kS
  refine ⟨λx y a1 a2 b1 b2=>?_,nB,k1⟩
  obtain ⟨e,he,hz⟩:=oA h hes (p:=(x,y)) ((b8 h).mpr ⟨⟨a1,a2⟩,b1,b2⟩)
  obtain ⟨_,_,_,lk⟩:=gH hes hz
  have lk:look (s.sts.zip es) (x,y)=some e:=lk
  show nb 2500 (s.stF es x y)
  unfold Shp.stF
  rw [lk]
  have hb:=(st.b e he).1
  exact aO (db (st.t e he) (Zc8 k1 nB (by omega) (k3 e he))) (by decide)
theorem jn (e:E2):aU ap (.tuple [.int e.t,.int e.b]) (.int 0)=.ret (.int e.t):=rfl
theorem jm (e:E2):aU ap (.tuple [.int e.t,.int e.b]) (.int 1)=.ret (.int e.b):=rfl
theorem Zlq {s:Shp} (h:s.Ok) (h7:s.n<=7) {day:List DZ} (hd:DdB day) {es:List E2} (hes:cE s es) {S:Int} (st:StB S es) {L:Int->Int->Int} {B:Int} (hL:eI s 2500 L) (hB:nb 1500 B) :
  mP [.d s.d, .d (fD day), .d (dE es), .d (pD (s.tb L)), .d (.int B)] = .ret (.d (.bool (s.rowB day (L, B) es))) := by
 have hst:s.sts.length<=100:=sml h7 (by rw [fi]; exact Aw _)
 have hs:small (day.map tI).length=true:=bW (by rw [At]; have:=hd.len; omega)
 have e0 : bJ (dD (ao 0) xM [.un]) (day.map tI) = .ret (day.map λl => PyData.int l.sum) := e9 λl _ => by
  have e1:bR dN [tI l]=.ret (.int l.sum):=jl l
  simp_arith [xM, e1]
 have e1:bR dN [.list (day.map λl=>PyData.int l.sum)]=.ret (.int (aN day)):=by rw [yU]; exact jY _
 have f1:=aY hB (by decide)
 have f2:=aY (gJ hd) (by decide)
 have nw:nb 1520 (B * aN day):=db hB (gJ hd)
 have fw:=aY nw (by decide)
 have sr:=ot h h7 L
 have hsm:small (s.sts.map aq).length=true:=bW (by rw [At]; omega)
 have e2 : bJ (dD (ao 0) xL [.un, .d s.d, .d (fD day), .d (pD (s.tb L)), .d (.int B)]) (s.sts.map aq) = .ret ((s.tb (s.w2 day L B)).map dG) := by
  have q:(s.tb (s.w2 day L B)).map dG=s.sts.map λp=>dG (kS p,.int (s.w2 day L B p.1 p.2)):=by unfold Shp.tb; rw [AS]; rfl
  rw [q]
  refine e9 λp hp=>?_
  have em:=Zez h hd hL (aO hB (by decide)) (by decide) hp
  simp_arith [xL, em]
  rfl
 have ed:bR iG [.list ((s.tb (s.w2 day L B)).map dG)]=.ret (pD (s.tb (s.w2 day L B))):=yX (l5 h _) (ou s _)
 have hM:eI s 2620 (s.w2 day L B):=l0 h hd hL (aO hB (by decide))
 have erow:s.rowB day (L,B) es=(s.sts.zip es).all λx=>s.rowE (s.w2 day L B) (B * aN day) x.1 x.2:=rfl
 rw [erow]
 generalize s.w2 day L B=M at *
 obtain ⟨w,hw⟩:∃ w,B * aN day=w:=⟨_,rfl⟩
 rw [hw] at nw fw ⊢
 have key := nj (g := bD (aJ (ao 8) (aJ (bD (aJ (ao 9) (aJ (ao 10) bo))) bo))) (s := mZ) (r := Re.d (.bool false)) (mk := λx : Pt × E2 => PyData.tuple [aq x.1, x.2.d]) (full := s.sts.zip es)
  (λx=>s.rowE M w x.1 x.2) (λ_ ρ=>∃ J8 J9 J10 J11:Sl,ρ=[.d s.d,.d (fD day),.d (dE es),.d (pD (s.tb L)),.d (.int B),.d (.int w),.d (.list (s.sts.map aq)),.d (pD (s.tb M)),J8,J9,J10,J11]) (λpre x post ρ e hI=>by
   obtain ⟨J8,J9,J10,J11,rfl⟩:=hI
   have hx:x∈s.sts.zip es:=by rw [e]; simp
   have hxe:x.2∈es:=(Cu hx).2
   obtain ⟨z1,z2,z3,_⟩:=gH hes hx
   obtain ⟨⟨a1,a2⟩,b1,b2⟩:=(b8 h).mp z1
   have hsub:∀ q∈s.rzs x.1,q∈s.sts/\nb 20 (x.1.1+x.1.2)/\nb 20 (q.1+q.2):=λq hq=>vG h hM (aO hB (by decide)) z1 hq
   have nt:=st.t x.2 hxe
   have nb':=(st.b x.2 hxe).2.1
   have ft:=aY nt (by decide)
   have fb:=aY nb' (by decide)
   have cost:∀ q∈s.rzs x.1,aU eO (pD (s.tb M)) (aq q)=.ret (.int (M q.1 q.2))/\ja [.d s.d,.d (aq x.1),.d (aq q)]=.ret (.d (.int (s.ord (x.1.1+x.1.2) (q.1+q.2))))/\fit (s.ord (x.1.1+x.1.2) (q.1+q.2))=true/\fit (s.xF M w x.1 q)=true:=λq hq=>by
    obtain ⟨y1,y2,y3⟩:=hsub q hq
    obtain ⟨⟨c1,c2⟩,d1,d2⟩:=(b8 h).mp y1
    refine ⟨jD h c1 c2 d1 d2,Zex h z1 hq,aY (gP h y2 y3) (by decide),?_⟩
    unfold Shp.xF
    exact aY (dO (hM _ _ c1 c2 d1 d2) (db (gP h y2 y3) nw)) (by decide)
   obtain ⟨g1,g2,g3,g4⟩:=cost x.2.q z3
   have ex:∀ q:Pt,M q.1 q.2+s.ord (x.1.1+x.1.2) (q.1+q.2) * w=s.xF M w x.1 q:=λ_=>rfl
   have ek:s.rowE M w x.1 x.2=(decide (s.xF M w x.1 x.2.q * x.2.b=x.2.t * w) && (s.rzs x.1).all λo=>!decide (s.xF M w x.1 o * x.2.b < x.2.t * w)):=rfl
   refine ⟨[.d s.d,.d (fD day),.d (dE es),.d (pD (s.tb L)),.d (.int B),.d (.int w),.d (.list (s.sts.map aq)),.d (pD (s.tb M)),.d (aq x.1),.d (.tuple [.int x.2.t,.int x.2.b]),.d (aq x.2.q),J11],rfl,?_⟩
   rw [ek]
   by_cases k1:s.xF M w x.1 x.2.q * x.2.b=x.2.t * w
   ·rw [decide_eq_true k1,Bq]
    have kb:(s.xF M w x.1 x.2.q * x.2.b == x.2.t * w)=true:=beq_iff_eq.mpr k1
    have inn := nj (g := ao 11) (s := lf) (r := Re.d (.bool false)) (mk := aq) (full := s.sts)
     (λo=>!(decide (x.1.1<=o.1) && decide (x.1.2<=o.2)) || !decide (s.xF M w x.1 o * x.2.b < x.2.t * w)) (λ_ ρ=>∃ J11:Sl,ρ=[.d s.d,.d (fD day),.d (dE es),.d (pD (s.tb L)),.d (.int B),.d (.int w),.d (.list (s.sts.map aq)),.d (pD (s.tb M)),.d (aq x.1),.d (.tuple [.int x.2.t,.int x.2.b]),.d (aq x.2.q),J11]) (λpre o post ρ e hI=>by
      obtain ⟨J11,rfl⟩:=hI
      have ho:o∈s.sts:=by rw [e]; simp
      refine ⟨_,rfl,?_⟩
      have c1:decide (o.1 ≥ x.1.1)=decide (x.1.1<=o.1):=rfl
      have c2:decide (o.2 ≥ x.1.2)=decide (x.1.2<=o.2):=rfl
      cases d1:decide (x.1.1<=o.1)
      ·refine .inl ⟨rfl,?_⟩
       simp_arith [lf, fq, fo, c1, d1]
       exact ⟨_,rfl,_,rfl⟩
      ·cases d2:decide (x.1.2<=o.2)
       ·refine .inl ⟨rfl,?_⟩
        simp_arith [lf, fq, fo, c1, c2, d1, d2]
        exact ⟨_,rfl,_,rfl⟩
       ·have hor:o∈s.rzs x.1:=by
         rw [<- ku h z1]
         exact CO.mpr ⟨ho,by rw [d1,d2]; rfl⟩
        obtain ⟨u1,u2,u3,u4⟩:=cost o hor
        cases d3:decide (s.xF M w x.1 o * x.2.b < x.2.t * w)
        ·refine .inl ⟨rfl,?_⟩
         simp_arith [lf, fq, fo, c1, c2, d1, d2, u1, u2, u3, ex, u4, fw, ft, fb, jn, jm, d3]
         exact ⟨_,rfl,_,rfl⟩
        ·refine .inr ⟨rfl,?_⟩
         simp_arith [lf, fq, fo, c1, c2, d1, d2, u1, u2, u3, ex, u4, fw, ft, fb, jn, jm, d3])
     (xs:=s.sts) (pre:=[]) (ρ:=[.d s.d,.d (fD day),.d (dE es),.d (pD (s.tb L)),.d (.int B),.d (.int w),.d (.list (s.sts.map aq)),.d (pD (s.tb M)),.d (aq x.1),.d (.tuple [.int x.2.t,.int x.2.b]),.d (aq x.2.q),J11]) rfl ⟨J11,rfl⟩
    have ef:(s.sts.all λo=>!(decide (x.1.1<=o.1) && decide (x.1.2<=o.2)) || !decide (s.xF M w x.1 o * x.2.b < x.2.t * w))=(s.rzs x.1).all λo=>!decide (s.xF M w x.1 o * x.2.b < x.2.t * w):=by
     rw [<- ku h z1,List.all_filter]
    rw [ef] at inn
    rcases inn with ⟨i1,ρ2,i2,J11',rfl⟩ | ⟨i1,i2⟩
    ·refine .inl ⟨i1,?_⟩
     simp_arith [mZ, g1, g2, g3, ex, g4, fw, ft, fb, jn, jm, kb, AF, i2]
     exact ⟨_,rfl,_,_,_,_,rfl⟩
    ·refine .inr ⟨i1,?_⟩
     simp_arith [mZ, g1, g2, g3, ex, g4, fw, ft, fb, jn, jm, kb, AF, i2]
   ·rw [decide_eq_false k1,Bc]
    have kb:(s.xF M w x.1 x.2.q * x.2.b == x.2.t * w)=false:=beq_eq_false_iff_ne.mpr k1
    refine .inr ⟨rfl,?_⟩
    simp_arith [mZ, g1, g2, g3, ex, g4, fw, ft, fb, jn, jm, kb, AI])
  (xs:=s.sts.zip es) (pre:=[]) (ρ:=[.d s.d,.d (fD day),.d (dE es),.d (pD (s.tb L)),.d (.int B),.d (.int w),.d (.list (s.sts.map aq)),.d (pD (s.tb M)),.un,.un,.un,.un]) rfl ⟨_,_,_,_,rfl⟩
 rcases key with ⟨k1,ρ2,k2,J8,J9,J10,J11,rfl⟩ | ⟨k1,k2⟩
 ·rw [k1]
  simp_arith [mP, lh, hs, e0, e1, f1, f2, hw, fw, sr, hsm, e2, ed, li, lZ, k2]
 ·rw [k1]
  simp_arith [mP, lh, hs, e0, e1, f1, f2, hw, fw, sr, hsm, e2, ed, li, lZ, k2]
noncomputable def ik (s:Shp) (ds:List (List DZ)) (P:List (List E2)) (k:Nat):Bool:=match ds[k]?,P[k]? with
 | some d,some es=>s.rowB d (s.later (P.drop (k+1))) es
 | _,_=>true
theorem yb {s:Shp}:∀ {ds:List (List DZ)} {P:List (List E2)},P.length=ds.length->(List.range ds.length).all (ik s ds P)=s.lawB ds P
 | [],[],_=>rfl
 | [],_::_,h=>by cases h
 | _::_,[],h=>by cases h
 | d::ds,es::P,h=>by
  rw [Au,List.range_succ_eq_map,BG,List.all_map]
  have e:ik s (d::ds) (es::P) ∘ Nat.succ=ik s ds P:=by
   funext k
   show ik s (d::ds) (es::P) (k+1)=_
   unfold ik
   rw [A7,A7,Da]
  rw [e,yb (BV h)]
  rfl
theorem Zlr {s:Shp} (h:s.Ok) (h7:s.n<=7) {ds:List (List DZ)} (hd:∀ d∈ds,DdB d) (hl:ds.length<=3) {P:List (List E2)} (hPl:P.length=ds.length) (hP:∀ es∈P,cE s es) {S:Int} (hS:∀ es∈P,StB S es) (hx:nU (pE P)) (hp:gu s ds.length (pE P)=true) :
  jR [.d s.d,.d (bm ds),.d (pE P)]=.ret (.d (.bool (s.lawB ds P))):=by
 have ef:=Zd7 h h7 (ds:=ds) hx
 rw [hp] at ef
 have ld:bR cj [bm ds]=.ret (.int ds.length):=by
  show Tr.ret (PyData.int ((ds.map fD).length:Nat))=_
  rw [At]
 have rr:eK [.int (ds.length:Int)]=.ret (bi 0 ds.length):=gB (fc (by omega) (by omega))
 have ei:bi 0 ds.length=(List.range ds.length).map λk:Nat=>PyData.int (k:Int):=by
  have e0:((ds.length:Int) - 0).toNat=ds.length:=by omega
  unfold bi aQ
  rw [e0,AS]
  refine BD λk _=>?_
  show PyData.int (0+(k:Int))=_
  rw [C3]
 have key:=nj (g:=ao 3) (s:=qp) (r:=Re.d (.bool false)) (mk:=λk:Nat=>PyData.int (k:Int)) (full:=List.range ds.length)
  (ik s ds P) (λ_ ρ=>∃ J3 J4 J5:Sl,ρ=[.d s.d,.d (bm ds),.d (pE P),J3,J4,J5]) (λpre k post ρ e hI=>by
   obtain ⟨J3,J4,J5,rfl⟩:=hI
   have hk:k < ds.length:=Bw.mp (by rw [e]; simp)
   have hk2:k < P.length:=by omega
   refine ⟨_,rfl,?_⟩
   have sl:ky (pE P) (some ((k:Int)+1)) none=.ret (pE (P.drop (k+1))):=by
    show Tr.ret (PyData.tuple (L2.dH (P.map dE) (some ((k:Int)+1)) none))=_
    rw [vD]
    unfold pE
    rw [List.map_drop]
   have hP':∀ es∈P.drop (k+1),cE s es:=λes hes=>hP es (BB hes)
   have hS':∀ es∈P.drop (k+1),StB S es:=λes hes=>hS es (BB hes)
   have el:=ZeC h h7 hP' hS'
   obtain ⟨n1,n2,n3⟩:=ZdA h hP' hS'
   have i1:aU ap (bm ds) (.int k)=.ret (fD ds[k]):=by
    show Tr.of (bG (ds.map fD) (k:Int))=_
    rw [fW (by omega) (by rw [A0,AM,As hk]; rfl)]
    rfl
   have i2:aU ap (pE P) (.int k)=.ret (dE P[k]):=by
    show Tr.of (bG (P.map dE) (k:Int))=_
    rw [fW (by omega) (by rw [A0,AM,As hk2]; rfl)]
    rfl
   have er:=Zlq h h7 (hd _ (AX hk)) (hP _ (AX hk2)) (hS _ (AX hk2)) n1 n2
   have eo:ik s ds P k=s.rowB ds[k] ((s.later (P.drop (k+1))).1,(s.later (P.drop (k+1))).2) P[k]:=by
    unfold ik
    rw [As hk,As hk2]
   have eg:∀ a b:PyData,lr (aJ (ao 4) (aJ (ao 5) bo)) (.list [a,b]) [.d s.d,.d (bm ds),.d (pE P),.d (.int k),J4,J5]=some [.d s.d,.d (bm ds),.d (pE P),.d (.int k),.d a,.d b]:=λ_ _=>rfl
   rw [eo]
   cases hz:s.rowB ds[k] ((s.later (P.drop (k+1))).1,(s.later (P.drop (k+1))).2) P[k]
   ·rw [hz] at er
    refine .inr ⟨rfl,?_⟩
    simp_arith only [qp,sl,el,eg,i1,i2,er,AI]
   ·rw [hz] at er
    refine .inl ⟨rfl,?_⟩
    simp_arith only [qp,sl,el,eg,i1,i2,er,AF]
    exact ⟨_,rfl,_,_,_,rfl⟩)
  (xs:=List.range ds.length) (pre:=[]) (ρ:=[.d s.d,.d (bm ds),.d (pE P),.un,.un,.un]) rfl ⟨_,_,_,rfl⟩
 rw [yb hPl] at key
 rw [<- ei] at key
 rcases key with ⟨k1,ρ2,k2,J3,J4,J5,rfl⟩ | ⟨k1,k2⟩
 ·rw [k1]
  simp_arith only [jR,ef,AF,ld,rr,k2]
 ·rw [k1]
  simp_arith only [jR,ef,AF,ld,rr,k2]
theorem okX {d:PyData} (h:oY d=true):iV d=true:=by
 unfold oY at h
 unfold iV
 simp only [AU] at h ⊢
 obtain ⟨⟨⟨h1,h2⟩,h3⟩,h4⟩:=h
 refine ⟨⟨⟨?_,h2⟩,h3⟩,h4⟩
 rw [h1]
 rfl
theorem jB {a k n:Nat} (h:a<=k):a * n+2 * a+10<=k * n+2 * k+10:=by
 have:=Nat.mul_le_mul_right n h
 omega
theorem ZhZ {day:List DZ} (h:DdB day):Rp (fD day) 2 18000:=by
 refine cm (iS (k:=1) (n:=5800) λy hy=>?_) (Aw _) (AL (jB (by rw [At]; exact h.len)) (by decide))
 obtain ⟨l,hl,rfl⟩:=AV.mp hy
 obtain ⟨l1,l2⟩:=h.row l hl
 exact cm (xz (m:=3) (λn hn=>aO (oh (l2 n hn)) (by decide)) l1) (Aw _) (by decide)
theorem Zh0 {ds:List (List DZ)} (h:∀ d∈ds,DdB d) (hl:ds.length<=3):Rp (bm ds) 3 60000:=by
 refine cm (iS (k:=2) (n:=18000) λy hy=>?_) (Aw _) (AL (jB (by rw [At]; exact hl)) (by decide))
 obtain ⟨d,hd,rfl⟩:=AV.mp hy
 exact ZhZ (h d hd)
theorem mj {a b:Int} (ha:nb 1900 a) (hb:nb 1900 b):Rp (.tuple [.int a,.int b]) 1 4000:=by
 refine cm (xz (l:=[a,b]) (m:=2) (λn hn=>?_) (Aw _)) (Aw _) (by decide)
 simp only [AO,BU,or_false] at hn
 rcases hn with rfl | rfl
 ·exact ha
 ·exact hb
def GoE (S:Int) (y e:PyData):Prop:=(∃ e':E2,e=e'.d/\nb 560 e'.t/\nb 560 e'.b/\1<=e'.b/\e'.b ∣ S/\nb 20 e'.q.1/\nb 20 e'.q.2)\/e=y
def n9 (S:Int) (y d:PyData):Prop:=∀ es,d=.tuple es->es.length<=200/\∀ e∈es,GoE S y e
def GoP (S:Int) (y x:PyData):Prop:=∀ ds,x=.tuple ds->ds.length<=200/\∀ d∈ds,n9 S y d
theorem Zhf {e:E2} (h1:nb 900 e.t) (h2:nb 900 e.b):fK e.d:=by
 refine ⟨λxs q=>?_,λc r q=>?_⟩
 ·unfold E2.d at q
  cases q
  show 2<=200
  omega
 ·unfold E2.d at q
  cases q
  refine ⟨⟨λxs q=>?_,λt b q=>?_⟩,λxs q=>?_⟩
  ·cases q; show 2<=200; omega
  ·cases q; exact ⟨h1,h2⟩
  ·unfold aq at q; cases q; show 2<=200; omega
theorem GoE.sm {S:Int} {y e:PyData} (h:GoE S y e) (hy:fK y):fK e:=by
 rcases h with ⟨e',rfl,h1,h2,_⟩ | rfl
 ·exact Zhf (aO h1 (by decide)) (aO h2 (by decide))
 ·exact hy
theorem GoP.sm {S:Int} {y x:PyData} (h:GoP S y x) (hy:fK y):nU x:=λds e=>⟨(h ds e).1,λd hd es e2=>⟨((h ds e).2 d hd es e2).1,λz hz=>(((h ds e).2 d hd es e2).2 z hz).sm hy⟩⟩
theorem ZeH {a b:E2} (h:a.d=b.d):a.t=b.t/\a.b=b.b:=by
 unfold E2.d at h
 simp only [PyData.tuple.injEq,List.cons.injEq,PyData.int.injEq] at h
 exact ⟨h.1.1,h.1.2.1⟩
theorem GoP.st {s:Shp} {S:Int} {y x:PyData} (h:GoP S y x) (hy:fK y) (hS:0 < S) (hn:nb 560 S) {P:List (List E2)} (e:x=pE P) (hd:∀ es∈P,cE s es):∃ S',∀ es∈P,StB S' es:=by
 subst e
 have hent:∀ es∈P,∀ e∈es,1<=e.b/\nb 900 e.t/\nb 900 e.b/\(e.b ∣ S\/e.d=y):=λes hes e he=>by
  have h1:=(h (P.map dE) rfl).2 (dE es) (AV.mpr ⟨es,hes,rfl⟩) (es.map E2.d) rfl
  have h2:=h1.2 e.d (AV.mpr ⟨e,he,rfl⟩)
  have pos:1<=e.b:=by
   obtain ⟨k,hk,rfl⟩:=Cn he
   have hk2:k < s.sts.length:=by rw [<- (hd es hes).1]; exact hk
   exact ((hd es hes).2 k s.sts[k] es[k] (As hk2) (As hk)).1.pos
  have h3:=((h2.sm hy).2 (.tuple [.int e.t,.int e.b]) (aq e.q) rfl).1.2 e.t e.b rfl
  refine ⟨pos,h3.1,h3.2,?_⟩
  rcases h2 with ⟨e',q,_,_,_,h4,_⟩ | q
  ·refine .inl ?_
   rw [(ZeH q).2]
   exact h4
  ·exact .inr q
 by_cases hz:∃ es∈P,∃ e∈es,e.d=y
 ·obtain ⟨es0,hes0,e0,he0,q0⟩:=hz
  obtain ⟨p1,_,p3,_⟩:=hent es0 hes0 e0 he0
  refine ⟨S * e0.b,λes hes=>⟨CB hS (by omega),aO (db hn p3) (by decide),λe he=>(hent es hes e he).2.1,λe he=>?_⟩⟩
  obtain ⟨q1,_,q3,q4⟩:=hent es hes e he
  refine ⟨q1,q3,?_⟩
  rcases q4 with q4 | q4
  ·exact Dg q4 ⟨_,rfl⟩
  ·rw [(ZeH (q4.trans q0.symm)).2]
   exact ⟨S,BI _ _⟩
 ·refine ⟨S,λes hes=>⟨hS,aO hn (by decide),λe he=>(hent es hes e he).2.1,λe he=>?_⟩⟩
  obtain ⟨q1,_,q3,q4⟩:=hent es hes e he
  refine ⟨q1,q3,?_⟩
  rcases q4 with q4 | q4
  ·exact q4
  ·exact absurd ⟨es,hes,e,he,q4⟩ hz
theorem ZhY {e:E2} (h1:nb 560 e.t) (h2:nb 560 e.b) (h3:nb 20 e.q.1) (h4:nb 20 e.q.2):Rp e.d 5 30000:=by
 have r1:=mj (aO h1 (show 560<=1900 by decide)) (aO h2 (show 560<=1900 by decide))
 have r2:=mj (aO h3 (show 20<=1900 by decide)) (aO h4 (show 20<=1900 by decide))
 refine cm (iS (xs:=[.tuple [.int e.t,.int e.b],aq e.q]) (k:=1) (n:=4000) λz hz=>?_) (by decide) (by show 2 * 4000+2 * 2+10<=30000; decide)
 simp only [AO,BU,or_false] at hz
 rcases hz with rfl | rfl
 ·exact r1
 ·exact r2
theorem GoE.rp {S:Int} {y e:PyData} (h:GoE S y e) (hy:Rp y 5 30000):Rp e 5 30000:=by
 rcases h with ⟨e',rfl,h1,h2,_,_,h3,h4⟩ | rfl
 ·exact ZhY h1 h2 h3 h4
 ·exact hy
theorem ml {S:Int} {y:PyData} {es:DY} (l:es.length<=27) (h:∀ e∈es,GoE S y e) (hy:Rp y 5 30000):n9 S y (.tuple es)/\Rp (.tuple es) 6 820000 :=
 ⟨λxs e=>by cases e; exact ⟨by omega,h⟩,cm (iS λz hz=>(h z hz).rp hy) (Aw _) (AL (jB l) (by decide))⟩
theorem Zh2 {S:Int} {y:PyData} {es:DY} (l:es.length<=27) (h:∀ e∈es,GoE S y e) (hy:Rp y 5 30000):n9 S y (.list es)/\Rp (.list es) 6 820000 :=
 ⟨λxs e=>(by cases e),cm (ZbH λz hz=>(h z hz).rp hy) (Aw _) (AL (jB l) (by decide))⟩
structure Thg (S:Int) (x:PyData):Prop where
 go:∃ y,fK y/\GoP S y x
 rp:Rp x 7 3300000\/x=.dict []
theorem hU {S:Int} {y:PyData} {ds:DY} (l:ds.length<=4) (hy:fK y) (h:∀ d∈ds,n9 S y d/\Rp d 6 820000):Thg S (.tuple ds) :=
 ⟨⟨y,hy,λxs e=>by cases e; exact ⟨by omega,λd hd=>(h d hd).1⟩⟩,.inl (cm (iS λz hz=>(h z hz).2) (Aw _) (AL (jB l) (by decide)))⟩
theorem ZaP:fK .none:=⟨λxs e=>(by cases e),λc r e=>(by cases e)⟩
theorem km {S:Int} {x:PyData} (h:∀ xs,x≠.tuple xs) (hr:Rp x 7 3300000\/x=.dict []):Thg S x:=⟨⟨.none,ZaP,λds e=>absurd e (h ds)⟩,hr⟩
theorem Zd3 (l:DZ):dY (tI l)=false:=by
 have:∀ l:DZ,fE (l.map PyData.int)=false:=λl=>by
  induction l with
  | nil=>simp only [BO,fE]
  | cons a l ih=>rw [Ax,fE,ih]; simp only [dY,Di]
 unfold tI
 rw [dY,this]
theorem yL:∀ {xs:DY},(∀ x∈xs,dY x=false)->fE xs=false
 | [],_=>by simp only [fE]
 | x::xs,h=>by rw [fE,h x (AB ..),yL λy hy=>h y (Az _ hy)]; rfl
theorem ZhX {s:Shp} (h:s.Ok) {ds:List (List DZ)} (hd:∀ d∈ds,DdB d) (hl:ds.length<=3) {x:PyData} (hr:Rp x 7 3300000\/x=.dict []):iV (.tuple [s.d,bm ds,x])=true:=by
 have r1:=ZhV h
 have r2:=Zh0 hd hl
 rcases hr with r3 | rfl
 ·refine okX (ZbG (iS (k:=7) (n:=3300000) λz hz=>?_) (by decide) (by show 3 * 3300000+2 * 3+10<=_; decide))
  simp only [AO,BU,or_false] at hz
  rcases hz with rfl | rfl | rfl
  ·exact cm r1 (by decide) (by decide)
  ·exact cm r2 (by decide) (by decide)
  ·exact r3
 ·have e:s.d=tI s.l:=by unfold Shp.d; rfl
  have l1:dY s.d=false:=by rw [e]; exact Zd3 _
  have l2:dY (bm ds)=false:=by
   unfold bm
   rw [dY]
   refine yL λz hz=>?_
   obtain ⟨d,_,rfl⟩:=AV.mp hz
   unfold fD
   rw [dY]
   refine yL λz hz=>?_
   obtain ⟨l,_,rfl⟩:=AV.mp hz
   exact Zd3 l
  have z0:(PyData.dict []).shown.length=2:=by trivial
  have key:=tupleText_len_le (PyData.shownAll [s.d,bm ds,.dict []])
  have a1:=r1.ln
  have a2:=r2.ln
  have a3:=r1.dp
  have a4:=r2.dp
  unfold iV
  simp only [AU,Bool.or_eq_true,decide_eq_true_eq]
  refine ⟨⟨⟨.inr ?_,?_⟩,?_⟩,?_⟩
  ·simp only [dY,fE,jk,l1,l2,Di,AI]
  ·simp only [PyData.showable,PyData.showableAll,PyData.showableKv,r1.sh,r2.sh,Ck]
  ·simp only [PyData.depth,PyData.depthAll,PyData.depthKv]
   omega
  ·simp only [PyData.shownAll,Ax,BO,BX,List.sum_nil,Au,AE,z0] at key
   rw [PyData.shown]
   simp only [PyData.shownAll]
   rw [sizeLine_eq]
   omega
theorem yZ {s:Shp} (h:s.Ok) (h7:s.n<=7) {ds:List (List DZ)} (hd:∀ d∈ds,DdB d) (hl:ds.length<=3) {S:Int} (hS:0 < S) (hn:nb 560 S) {x:PyData} (hx:Thg S x) :
  kU [.d s.d,.d (bm ds),.d x]=.ret (.d (.bool true)):=by
 obtain ⟨y,hy,hg⟩:=hx.go
 have hsm:=hg.sm hy
 have key:∃ b:Bool,gR [.d s.d,.d (bm ds),.d x]=.ret (.d (.bool b))/\jR [.d s.d,.d (bm ds),.d x]=.ret (.d (.bool b)):=by
  rcases ZeA h h7 hd hl hsm with ⟨hp,e1⟩ | ⟨P,rfl,hPl,hP,hp,e1⟩
  ·have ef:=Zd7 h h7 (ds:=ds) hsm
   rw [hp] at ef
   refine ⟨false,e1,?_⟩
   simp_arith [jR,ef,AI]
  ·obtain ⟨S',hst⟩:=hg.st hy hS hn rfl hP
   refine ⟨_,e1,?_⟩
   rw [<- (yt h (λd hd'=>(hd d hd').pos) hP hPl).1]
   exact Zlr h h7 hd hl hPl hP hst hsm hp
 obtain ⟨b,k1,k2⟩:=key
 have rb:=Zem (okX (ZbG (ZbI b) (by decide) (by decide)))
 have rk:=Zem (ZhX h hd hl hx.rp)
 have g2:eK [.int 2]=.ret (bi 0 2):=gB rfl
 refine nM ?_
 simp_arith [kU,bh,rk,k2,rb,g2]
 refine eA (n:=0) (n':=0) (P:=λo=>∃ f:Sl,o=.next [.d s.d,.d (bm ds),.d x,.d (.str (PyData.tuple [s.d,bm ds,x]).shown),.d (.str (PyData.bool b).shown),f]) ?_ (by decide) ?_
 ·refine ZfS (n:=0) (λρ=>∃ f:Sl,ρ=[.d s.d,.d (bm ds),.d x,.d (.str (PyData.tuple [s.d,bm ds,x]).shown),.d (.str (PyData.bool b).shown),f]) ⟨_,rfl⟩ (by simp) ?_ ?_
  ·rintro z ρ hz ⟨f,rfl⟩
   refine ⟨_,rfl,?_⟩
   simp_arith [ZdD,bh,k1,rb,rk,Zg8,AF]
   exact b9 ⟨_,rfl,_,rfl⟩
  ·rintro ρ ⟨f,rfl⟩
   exact ⟨f,rfl⟩
 ·rintro _ ⟨f,rfl⟩
  simp_arith [bh]
  exact b9 rfl
noncomputable def pI (u:Pt->Bool):PyData->Option PyData
 | .tuple [.int a,.int b]=>if u (a,b)=true then some (.tuple [.int a,.int b]) else none
 | _=>none
theorem yT (u:Pt->Bool):∀ l:List Pt,(l.map aq).filterMap (pI u)=(l.filter u).map aq
 | []=>rfl
 | p::l=>by
  rw [Ax,B9,Dy,yT u l]
  have e:pI u (aq p)=if u p=true then some (aq p) else none:=rfl
  rw [e]
  cases u p <;> rfl
theorem ZfR {α:Type} {n N:Nat} {g:DV} {s:DS} {mk:α->PyData} {full:List α} {ρ:D5} {Q:Ou->Prop} (I:List α->List Sl->Prop) (h0:I [] ρ) (hN:full.length * n<=N)
  (ht:∀ pre x post ρ,full=pre++x::post->I pre ρ->∃ ρ1,g (mk x) ρ=some ρ1/\Al (s ρ1) n λo=>∃ ρ2,o=.next ρ2/\I (pre++[x]) ρ2) (hq:∀ ρ,I full ρ->Q (.next ρ)):Al (ck g s (full.map mk) ρ) N Q:=by
 refine jt (n:=n) (λpre' ρ=>∀ a post,full=a++post->a.map mk=pre'->I a ρ) (λa post e1 e2=>?_) (by rw [At]; exact hN) (λpre' y post' ρ e h=>?_) (λρ h=>hq ρ (h full [] (A4 _).symm rfl))
 ·rw [B8.mp e2]; exact h0
 ·obtain ⟨a,b,e1,e2,e3⟩:=List.map_eq_append_iff.mp e
  cases b with
  | nil=>cases e3
  | cons x post =>
   rw [Ax] at e3
   injection e3 with e3 e4
   subst e3
   obtain ⟨ρ1,g1,k⟩:=ht a x post ρ e1 (h a (x::post) e1 e2)
   refine ⟨ρ1,g1,lK k (Aw _) ?_⟩
   rintro _ ⟨ρ2,rfl,hI⟩
   refine ⟨ρ2,rfl,λa2 post2 f1 f2=>?_⟩
   have hl:a2.length=(a++[x]).length:=by
    have:=congrArg List.length f2
    rw [At,Av,<- e2,At] at this
    rw [this,Av]
    rfl
   have f3:(a++[x])++post=a2++post2:=by rw [<- f1,e1,Bh]; rfl
   have:=(List.append_inj f3 hl.symm).1
   rw [<- this]
   exact hI
theorem ZhL {s:Shp} (h:s.Ok) (h5:s.n<=5) {ds:List (List DZ)} (hd:∀ d∈ds,DdB d) (hl:ds.length<=3) {S:Int} {P:List (List E2)} (G:GdB s S ds.length P) (hlaw:s.lawB ds P=true) {t:Nat} (ht:t < ds.length) (acc:List (List E2)) (ha:acc.length<=10) (J6 J7 J8 J9 J10 J11 J12 J13 J14 J15 J16:Sl) :
  Al (yx [.pen,.d s.d,.d (bm ds),.d (pE P),.own (acc.map dE),.d (.int t),J6,J7,J8,J9,J10,J11,J12,J13,J14,J15,J16]) 25 λo=>∃ (es':List E2) (K6 K7 K8 K9 K10 K11 K12 K13 K14 K15 K16:Sl),o=.next [.pen,.d s.d,.d (bm ds),.d (pE P),.own ((acc++[es']).map dE),.d (.int t),K6,K7,K8,K9,K10,K11,K12,K13,K14,K15,K16]/\cE s es'/\∀ e∈es',nb 560 e.t/\1<=e.b/\nb 560 e.b/\e.b ∣ S:=by
 have h7:s.n<=7:=by omega
 have hst:s.sts.length<=25:=by rw [fi]; exact AL (Cc h5 h5) (by decide)
 have hk2:t < P.length:=by rw [G.len]; exact ht
 have hSt:∀ es∈P,StB S es:=λes hes=>⟨G.pos,aO G.nb (by decide),λe he=>aO (G.ent es hes e he).1 (by decide),λe he=>⟨(G.ent es hes e he).2.1,aO (G.ent es hes e he).2.2.1 (by decide),(G.ent es hes e he).2.2.2⟩⟩
 have hP':∀ es∈P.drop (t+1),cE s es:=λes hes=>G.day es (BB hes)
 have hS':∀ es∈P.drop (t+1),StB S es:=λes hes=>hSt es (BB hes)
 have el:=ZeC h h7 hP' hS'
 obtain ⟨n1,n2,n3⟩:=ZdA h hP' hS'
 have hday:=hd _ (AX ht)
 have hes:=G.day _ (AX hk2)
 have hent:=G.ent _ (AX hk2)
 have hrow:s.rowB ds[t] ((s.later (P.drop (t+1))).1,(s.later (P.drop (t+1))).2) P[t]=true:=by
  have q:=yb (s:=s) (ds:=ds) (P:=P) G.len
  rw [hlaw,Bm] at q
  have q:=q t (Bw.mpr ht)
  unfold ik at q
  rw [As ht,As hk2] at q
  exact q
 have sl:ky (pE P) (some ((t:Int)+1)) none=.ret (pE (P.drop (t+1))):=by
  show Tr.ret (PyData.tuple (L2.dH (P.map dE) (some ((t:Int)+1)) none))=_
  rw [vD]
  unfold pE
  rw [List.map_drop]
 have i1:aU ap (bm ds) (.int t)=.ret (fD ds[t]):=by
  show Tr.of (bG (ds.map fD) (t:Int))=_
  rw [fW (by omega) (by rw [A0,AM,As ht]; rfl)]
  rfl
 have i2:aU ap (pE P) (.int t)=.ret (dE P[t]):=by
  show Tr.of (bG (P.map dE) (t:Int))=_
  rw [fW (by omega) (by rw [A0,AM,As hk2]; rfl)]
  rfl
 generalize hes0:P[t]=es at *
 generalize hday0:ds[t]=day at *
 generalize hL0:(s.later (P.drop (t+1))).1=L at *
 generalize hB0:(s.later (P.drop (t+1))).2=B at *
 have eg:∀ a b:PyData,lr (aJ (ao 6) (aJ (ao 7) bo)) (.list [a,b]) [.pen,.d s.d,.d (bm ds),.d (pE P),.own (acc.map dE),.d (.int t),J6,J7,J8,J9,J10,J11,J12,J13,J14,J15,J16]=some [.pen,.d s.d,.d (bm ds),.d (pE P),.own (acc.map dE),.d (.int t),.d a,.d b,J8,J9,J10,J11,J12,J13,J14,J15,J16]:=λ_ _=>rfl
 have hs:small (day.map tI).length=true:=bW (by rw [At]; have:=hday.len; omega)
 have e0:bJ (dD (ao 0) xO [.un]) (day.map tI)=.ret (day.map λl=>PyData.int l.sum):=e9 λl _=>by
  have e1:bR dN [tI l]=.ret (.int l.sum):=jl l
  simp_arith [xO,e1]
 have e1:bR dN [.list (day.map λl=>PyData.int l.sum)]=.ret (.int (aN day)):=by rw [yU]; exact jY _
 have f1:=aY n2 (by decide)
 have f2:=aY (gJ hday) (by decide)
 have nw:nb 1520 (B * aN day):=db n2 (gJ hday)
 have fw:=aY nw (by decide)
 have sr:=ot h h7 L
 have hsm:small (s.sts.map aq).length=true:=bW (by rw [At]; omega)
 have e2:bJ (dD (ao 0) xN [.un,.d s.d,.d (pD (s.tb L)),.d (.int B),.d (bm ds),.d (.int t)]) (s.sts.map aq)=.ret ((s.tb (s.w2 day L B)).map dG):=by
  have q:(s.tb (s.w2 day L B)).map dG=s.sts.map λp=>dG (kS p,.int (s.w2 day L B p.1 p.2)):=by unfold Shp.tb; rw [AS]; rfl
  rw [q]
  refine e9 λp hp=>?_
  have em:=Zez h hday n1 (aO n2 (by decide)) (by decide) hp
  simp_arith [xN,i1,em]
  rfl
 have ed:bR iG [.list ((s.tb (s.w2 day L B)).map dG)]=.ret (pD (s.tb (s.w2 day L B))):=yX (l5 h _) (ou s _)
 have hM:eI s 2620 (s.w2 day L B):=l0 h hday n1 (aO n2 (by decide))
 have erow:s.rowB day (L,B) es=(s.sts.zip es).all λx=>s.rowE (s.w2 day L B) (B * aN day) x.1 x.2:=rfl
 rw [erow] at hrow
 generalize s.w2 day L B=M at *
 obtain ⟨w,hw⟩:∃ w,B * aN day=w:=⟨_,rfl⟩
 rw [hw] at nw fw hrow
 simp_arith [yx,bh,sl,el,eg,i1,i2,lh,hs,e0,e1,f1,f2,hw,fw,sr,hsm,e2,ed,li,lZ]
 refine eA (n:=25) (n':=0) (P:=λo=>∃ (es':List E2) (K12 K13 K14 K15 K16:Sl),o=.next [.pen,.d s.d,.d (bm ds),.d (pE P),.own (acc.map dE),.d (.int t),.d (pD (s.tb L)),.d (.int B),.d (.int w),.d (.list (s.sts.map aq)),.d (pD (s.tb M)),.own (es'.map E2.d),K12,K13,K14,K15,K16]/\cE s es'/\∀ e∈es',nb 560 e.t/\1<=e.b/\nb 560 e.b/\e.b ∣ S) ?_ (by decide) ?_
 ·refine ZfR (n:=1) (mk:=λx:Pt×E2=>PyData.tuple [aq x.1,x.2.d]) (full:=s.sts.zip es) (λpre ρ=>∃ (es':List E2) (K12 K13 K14 K15 K16:Sl),ρ=[.pen,.d s.d,.d (bm ds),.d (pE P),.own (acc.map dE),.d (.int t),.d (pD (s.tb L)),.d (.int B),.d (.int w),.d (.list (s.sts.map aq)),.d (pD (s.tb M)),.own (es'.map E2.d),K12,K13,K14,K15,K16]/\es'.length=pre.length/\∀ (k:Nat) (x:Pt×E2) (e':E2),pre[k]?=some x->es'[k]?=some e'->e'.t=x.2.t/\e'.b=x.2.b/\e'.q∈s.rzs x.1) ⟨[],_,_,_,_,_,rfl,rfl,λk x e' q _=>by cases q⟩ (by rw [Bz]; omega) ?_ ?_
  ·rintro pre x post ρ e ⟨es',K12,K13,K14,K15,K16,rfl,hlen,hI⟩
   have hx:x∈s.sts.zip es:=by rw [e]; simp
   have hpre:pre.length<=25:=by
    have q:=congrArg List.length e
    rw [Bz,Av] at q
    omega
   have hxe:x.2∈es:=(Cu hx).2
   obtain ⟨z1,z2,z3,_⟩:=gH hes hx
   obtain ⟨⟨a1,a2⟩,b1,b2⟩:=(b8 h).mp z1
   have hsub:∀ q∈s.rzs x.1,q∈s.sts/\nb 20 (x.1.1+x.1.2)/\nb 20 (q.1+q.2):=λq hq=>vG h hM (aO n2 (by decide)) z1 hq
   obtain ⟨y1,y2,y3,y4⟩:=hent x.2 hxe
   have ft:=aY y1 (by decide)
   have fb:=aY y3 (by decide)
   have nt:nb 2080 (x.2.t * w):=aO (db y1 nw) (by decide)
   have ftw:=aY nt (by decide)
   refine ⟨[.pen,.d s.d,.d (bm ds),.d (pE P),.own (acc.map dE),.d (.int t),.d (pD (s.tb L)),.d (.int B),.d (.int w),.d (.list (s.sts.map aq)),.d (pD (s.tb M)),.own (es'.map E2.d),.d (aq x.1),.d (.tuple [.int x.2.t,.int x.2.b]),.d (aq x.2.q),K15,K16],rfl,?_⟩
   have m1:eM (jf (ao 0) mC mq [.un,.d (aq x.1)]) (s.sts.map aq)=.ret ((s.rzs x.1).map aq):=by
    rw [<- ku h z1,<- yT]
    refine mJ λy hy=>?_
    obtain ⟨o,ho,rfl⟩:=AV.mp hy
    have c1:decide (o.1 ≥ x.1.1)=decide (x.1.1<=o.1):=rfl
    have c2:decide (o.2 ≥ x.1.2)=decide (x.1.2<=o.2):=rfl
    have eo:pI (λo=>decide (x.1.1<=o.1) && decide (x.1.2<=o.2)) (aq o)=if (decide (x.1.1<=o.1) && decide (x.1.2<=o.2))=true then some (aq o) else none:=rfl
    rw [eo]
    cases d1:decide (x.1.1<=o.1)
    ·simp_arith [mC,mq,fq,fo,c1,d1,Bc,Bl,↓reduceIte]
    ·cases d2:decide (x.1.2<=o.2)
     ·simp_arith [mC,mq,fq,fo,c1,c2,d1,d2,Bq,Bl,↓reduceIte]
     ·simp_arith [mC,mq,fq,fo,c1,c2,d1,d2,Bq,↓reduceIte]
   have m2:eM (jf (ao 0) pC o9 [.un,.d (.int (x.2.t * w)),.d (.tuple [.int x.2.t,.int x.2.b]),.d (pD (s.tb M)),.d (.int w),.d s.d,.d (aq x.1)]) ((s.rzs x.1).map aq)=.ret (((s.rzs x.1).filter λo=>s.xF M w x.1 o * x.2.b == x.2.t * w).map aq):=by
    rw [<- yT]
    refine mJ λy hy=>?_
    obtain ⟨o,ho,rfl⟩:=AV.mp hy
    obtain ⟨v1,v2,v3⟩:=hsub o ho
    obtain ⟨⟨c1,c2⟩,d1,d2⟩:=(b8 h).mp v1
    have g1:aU eO (pD (s.tb M)) (aq o)=.ret (.int (M o.1 o.2)):=jD h c1 c2 d1 d2
    have g2:=Zex h z1 ho
    have g3:=aY (gP h v2 v3) (by decide)
    have g4:nb 2622 (s.xF M w x.1 o):=by
     unfold Shp.xF
     exact aO (dO (hM _ _ c1 c2 d1 d2) (db (gP h v2 v3) nw)) (by decide)
    have g4:=aY g4 (by decide)
    have ex:M o.1 o.2+s.ord (x.1.1+x.1.2) (o.1+o.2) * w=s.xF M w x.1 o:=rfl
    have eo:pI (λo=>s.xF M w x.1 o * x.2.b == x.2.t * w) (aq o)=if (s.xF M w x.1 o * x.2.b == x.2.t * w)=true then some (aq o) else none:=rfl
    rw [eo]
    cases d3:s.xF M w x.1 o * x.2.b == x.2.t * w
    ·simp_arith [pC,o9,g1,g2,g3,ex,g4,fw,ft,fb,jn,jm,d3,Bl,↓reduceIte]
    ·simp_arith [pC,o9,g1,g2,g3,ex,g4,fw,ft,fb,jn,jm,d3,↓reduceIte]
   have hrz:(s.rzs x.1).length<=25:=by
    rw [<- ku h z1]
    exact AL (CG _ _) hst
   have hin:x.2.q∈(s.rzs x.1).filter λo=>s.xF M w x.1 o * x.2.b == x.2.t * w:=by
    refine CO.mpr ⟨z3,?_⟩
    have q:=Bm.mp hrow x hx
    unfold Shp.rowE at q
    rw [AU] at q
    exact beq_iff_eq.mpr (of_decide_eq_true q.1)
   have hf:∀ o∈(s.rzs x.1).filter λo=>s.xF M w x.1 o * x.2.b == x.2.t * w,o∈s.rzs x.1:=λo ho=>(CO.mp ho).1
   have hfl:((s.rzs x.1).filter λo=>s.xF M w x.1 o * x.2.b == x.2.t * w).length<=25:=AL (CG _ _) hrz
   have hs1:small ((s.rzs x.1).map aq).length=true:=bW (by rw [At]; omega)
   generalize (s.rzs x.1).filter (λo=>s.xF M w x.1 o * x.2.b == x.2.t * w)=fl at *
   have hpos:=List.length_pos_of_mem hin
   have hs2:small (fl.map aq).length=true:=bW (by rw [At]; omega)
   have hs3:small ((es'.map E2.d).length+1)=true:=bW (by rw [At]; omega)
   simp_arith [ZdE,bh,m1,m2,ft,fw,jn,jm,hsm,hs1,hs2]
   refine cM (n:=0) (by rw [At]; omega) (by rw [At]; omega) (by decide) λr r0 r1=>?_
   obtain ⟨v,hv,hvm⟩:=pick (xs:=fl.map aq) r0 r1
   obtain ⟨o,ho,rfl⟩:=AV.mp hvm
   simp_arith [bh,hv]
   rw [ly hs3]
   refine b9 ⟨_,rfl,es'++[⟨x.2.t,x.2.b,o⟩],_,_,_,_,_,by rw [Bu]; rfl,by rw [Av,Av,hlen]; rfl,λk x' e' q1 q2=>?_⟩
   by_cases hk:k < pre.length
   ·rw [AW hk] at q1
    rw [AW (by omega)] at q2
    exact hI k x' e' q1 q2
   ·rw [A5 (by omega)] at q1
    rw [A5 (by omega),hlen] at q2
    cases hz:k - pre.length with
    | zero =>
     rw [hz] at q1 q2
     cases q1
     cases q2
     exact ⟨rfl,rfl,hf o ho⟩
    | succ m =>
     rw [hz] at q1
     cases q1
  ·rintro ρ ⟨es',K12,K13,K14,K15,K16,rfl,hlen,hI⟩
   rw [Bz,hes.1,Nat.min_self] at hlen
   have hz:∀ (k:Nat) (p:Pt) (e':E2),s.sts[k]?=some p->es'[k]?=some e'->∃ e0,es[k]?=some e0/\e0∈es/\e'.t=e0.t/\e'.b=e0.b/\e'.q∈s.rzs p:=λk p e' q1 q2=>by
    obtain ⟨hk,_⟩:=Ay.mp q1
    have hk2:k < es.length:=by rw [hes.1]; exact hk
    have ez:(s.sts.zip es)[k]?=some (p,es[k]):=by
     rw [BZ]
     exact ⟨q1,As hk2⟩
    obtain ⟨w1,w2,w3⟩:=hI k _ e' ez q2
    exact ⟨es[k],As hk2,AX hk2,w1,w2,w3⟩
   refine ⟨es',_,_,_,_,_,rfl,⟨hlen,λk p e' q1 q2=>?_⟩,λe' he'=>?_⟩
   ·obtain ⟨e0,w0,w1,w2,w3,w4⟩:=hz k p e' q1 q2
    have sh:=(hes.2 k p e0 q1 w0).1
    exact ⟨⟨by rw [w3]; exact sh.pos,by rw [w2,w3]; exact sh.one⟩,w4⟩
   ·obtain ⟨k,hk,rfl⟩:=Cn he'
    have hk2:k < s.sts.length:=by omega
    obtain ⟨e0,w0,w1,w2,w3,w4⟩:=hz k s.sts[k] es'[k] (As hk2) (As hk)
    rw [w2,w3]
    exact hent e0 w1
 ·rintro _ ⟨es',K12,K13,K14,K15,K16,rfl,hD,hE⟩
  have hs4:small ((acc.map dE).length+1)=true:=bW (by rw [At]; omega)
  simp_arith [bh]
  rw [ly hs4]
  rw [show acc.map dE++[PyData.tuple (es'.map E2.d)]=(acc++[es']).map dE from by rw [Bu]; rfl]
  exact b9 ⟨es',_,_,_,_,_,_,_,_,_,_,_,rfl,hD,hE⟩
theorem ZhM {s:Shp} (h:s.Ok) (h5:s.n<=5) {ds:List (List DZ)} (hd:∀ d∈ds,DdB d) (hl:ds.length<=3) {S:Int} {P:List (List E2)} (G:GdB s S ds.length P) (hlaw:s.lawB ds P=true) :
  Al (p7 [.pen,.d s.d,.d (bm ds),.d (pE P)]) 75 λr=>∃ P':List (List E2),r=.d (pE P')/\GdB s S ds.length P':=by
 have ld:bR cj [bm ds]=.ret (.int ds.length):=by
  show Tr.ret (PyData.int ((ds.map fD).length:Nat))=_
  rw [At]
 have rr:eK [.int (ds.length:Int)]=.ret (bi 0 ds.length):=gB (fc (by omega) (by omega))
 have ei:bi 0 ds.length=(List.range ds.length).map λk:Nat=>PyData.int (k:Int):=by
  have e0:((ds.length:Int) - 0).toNat=ds.length:=by omega
  unfold bi aQ
  rw [e0,AS]
  refine BD λk _=>?_
  show PyData.int (0+(k:Int))=_
  rw [C3]
 simp_arith only [p7,bh,ld,rr,ei]
 refine eA (n:=75) (n':=0) (P:=λo=>∃ (P':List (List E2)) (K5 K6 K7 K8 K9 K10 K11 K12 K13 K14 K15 K16:Sl),o=.next [.pen,.d s.d,.d (bm ds),.d (pE P),.own (P'.map dE),K5,K6,K7,K8,K9,K10,K11,K12,K13,K14,K15,K16]/\GdB s S ds.length P') ?_ (by decide) ?_
 ·refine ZfR (n:=25) (mk:=λk:Nat=>PyData.int (k:Int)) (full:=List.range ds.length) (λpre ρ=>∃ (P':List (List E2)) (K5 K6 K7 K8 K9 K10 K11 K12 K13 K14 K15 K16:Sl),ρ=[.pen,.d s.d,.d (bm ds),.d (pE P),.own (P'.map dE),K5,K6,K7,K8,K9,K10,K11,K12,K13,K14,K15,K16]/\GdB s S pre.length P') ⟨[],_,_,_,_,_,_,_,_,_,_,_,_,rfl,⟨G.pos,G.nb,rfl,nofun,nofun⟩⟩ (by rw [B4]; omega) ?_ ?_
  ·rintro pre t post ρ e ⟨P',K5,K6,K7,K8,K9,K10,K11,K12,K13,K14,K15,K16,rfl,G'⟩
   have ht:t < ds.length:=Bw.mp (by rw [e]; simp)
   have hpre:pre.length<=3:=by
    have q:=congrArg List.length e
    rw [B4,Av] at q
    omega
   refine ⟨_,rfl,lK (ZhL h h5 hd hl G hlaw ht P' (by rw [G'.len]; omega) K6 K7 K8 K9 K10 K11 K12 K13 K14 K15 K16) (Aw _) ?_⟩
   rintro _ ⟨es',L6,L7,L8,L9,L10,L11,L12,L13,L14,L15,L16,rfl,q1,q2⟩
   refine ⟨_,rfl,P'++[es'],_,_,_,_,_,_,_,_,_,_,_,_,rfl,⟨G.pos,G.nb,by rw [Av,Av,G'.len]; rfl,λes hes=>?_,λes hes=>?_⟩⟩
   ·rcases Bi.mp hes with hes | hes
    ·exact G'.day es hes
    ·rw [Ce.mp hes]; exact q1
   ·rcases Bi.mp hes with hes | hes
    ·exact G'.ent es hes
    ·rw [Ce.mp hes]; exact q2
  ·rintro ρ ⟨P',K5,K6,K7,K8,K9,K10,K11,K12,K13,K14,K15,K16,rfl,G'⟩
   rw [B4] at G'
   exact ⟨P',_,_,_,_,_,_,_,_,_,_,_,_,rfl,G'⟩
 ·rintro _ ⟨P',K5,K6,K7,K8,K9,K10,K11,K12,K13,K14,K15,K16,rfl,G'⟩
  simp_arith only [bh]
  exact b9 ⟨P',rfl,G'⟩
theorem fa {p:PyData->Prop} {a:PyData} {l:DY} (h:p a) (k:∀ x∈l,p x):∀ x∈a::l,p x:=λx hx=>by
 rcases AO.mp hx with rfl | hx
 ·exact h
 ·exact k x hx
theorem fn {p:PyData->Prop}:∀ x∈([]:DY),p x:=nofun
theorem hX {xs:DY} (h:xs.length<=200):gq (.tuple xs):=λys e=>by cases e; exact h
theorem iQ {x:PyData} (h:∀ xs,x≠.tuple xs):gq x:=λys e=>absurd e (h ys)
theorem wQ {x:PyData} (ht:gq x) (h:∀ t b,x≠.tuple [.int t,.int b]):SmC x:=⟨ht,λt b e=>absurd e (h t b)⟩
theorem kw {t b:Int} (h1:nb 900 t) (h2:nb 900 b):SmC (.tuple [.int t,.int b]):=⟨hX (by show 2<=200; decide),λu v e=>by cases e; exact ⟨h1,h2⟩⟩
theorem oB {y:PyData} (ht:gq y) (h:∀ c r,y≠.tuple [c,r]):fK y:=⟨ht,λc r e=>absurd e (h c r)⟩
theorem ZaO {c r:PyData} (hc:SmC c) (hr:gq r):fK (.tuple [c,r]):=⟨hX (by show 2<=200; decide),λu v e=>by cases e; exact ⟨hc,hr⟩⟩
theorem pT {xs:DY} {k k' n n' m:Nat} (h:∀ x∈xs,Rp x k n) (hl:xs.length<=m) (hk:k+1<=k') (hn:m * n+2 * m+10<=n'):Rp (.tuple xs) k' n':=cm (iS h) hk (AL (jB hl) hn)
theorem pL {xs:DY} {k k' n n' m:Nat} (h:∀ x∈xs,Rp x k n) (hl:xs.length<=m) (hk:k+1<=k') (hn:m * n+2 * m+10<=n'):Rp (.list xs) k' n':=cm (ZbH h) hk (AL (jB hl) hn)
theorem fm {i:Int} (h:nb 1900 i):Rp (.int i) 0 5800:=cm (oX h) (Aw _) (by decide)
theorem jK:Rp .none 0 5800:=cm ZhW (Aw _) (by decide)
theorem o0 (b:Bool):Rp (.bool b) 0 5800:=cm (ZbI b) (Aw _) (by decide)
theorem Zdj {i:Int} (h:nb 1900 i):i.natAbs.log2 < 1920:=by
 by_cases h0:i.natAbs=0
 ·rw [h0]; decide
 ·exact Nat.lt_trans ((C8 h0).mpr h) (by decide)
theorem r_s {i:Int} (h:nb 560 i):Rp (.str (toString i)) 0 5800:=by
 have h1:i.natAbs.log2 < 560:=by
  by_cases h0:i.natAbs=0
  ·rw [h0]; decide
  ·exact (C8 h0).mpr h
 have h2:=int_text_length_le (k:=560) (by decide) h1
 have h3:((toString i:String):Str).length<=561:=by rw [PySem.ofString_length]; exact h2
 have h4:=PySem.StrLaws.reprText_len ((toString i:String):Str) (Codes.of _)
 refine ⟨rfl,rfl,Bg _,?_⟩
 rw [PyData.shown]
 omega
theorem xD (x:Str) (h:(PyData.str x).shown.length<=5800):Rp (.str x) 0 5800:=⟨rfl,rfl,Bg _,h⟩
def Oc (x:PyData):Prop:=SmC x/\Rp x 2 12000
def Oy (y:PyData):Prop:=fK y/\Rp y 5 30000
theorem kK {a b:PyData} (ha:Rp a 1 5800) (hb:Rp b 1 5800) (hc:SmC (.tuple [a,b])):Oc (.tuple [a,b]):=⟨hc,pT (m:=2) (fa ha (fa hb fn)) (Aw _) (by decide) (by decide)⟩
theorem w1 {x:PyData} (h:Rp x 0 5800):Rp x 1 5800:=cm h (by decide) (Aw _)
theorem mH {c r:PyData} (h:Oc c) (hr:gq r) (hr2:Rp r 2 12000):Oy (.tuple [c,r]):=⟨ZaO h.1 hr,pT (m:=2) (fa h.2 (fa hr2 fn)) (Aw _) (by decide) (by decide)⟩
theorem pJ {x:PyData} (h:∀ xs,x≠.tuple xs) {k n:Nat} (hr:Rp x k n) (hk:k<=2) (hn:n<=12000):Oc x:=⟨wQ (iQ h) λt b e=>h _ e,cm hr hk hn⟩
theorem jO {xs:DY} (h:∀ t b,PyData.tuple xs≠.tuple [.int t,.int b]) (hr:∀ x∈xs,Rp x 1 5800) (hl:xs.length<=2):Oc (.tuple xs):=⟨wQ (hX (by omega)) h,pT hr hl (Aw _) (by decide)⟩
theorem mE {c r:PyData} (h:Oc c) (hr:gq r) {k n:Nat} (hr2:Rp r k n) (hk:k<=2) (hn:n<=12000):Oy (.tuple [c,r]):=mH h hr (cm hr2 hk hn)
theorem Zmy (a b:PyData):L2.dH [a,b] none (some 1)=[a]:=rfl
theorem ZhP {s:Shp} (h:s.Ok) (h5:s.n<=5) {e:E2} (h1:nb 560 e.t) (h2:nb 560 e.b) (h3:1<=e.b) (h4:nb 20 e.q.1) (h6:nb 20 e.q.2):Al (qb [.pen,.d s.d,.d e.d]) 5 λr=>∃ y,r=.d y/\Oy y:=by
 have st:bR jF [.int e.t]=.ret (.str (toString e.t)):=Zek (Zdj (aO h1 (by decide)))
 have st2:bR jF [.int e.q.1]=.ret (.str (toString e.q.1)):=Zek (Zdj (aO h4 (by decide)))
 have f1:=aY h1 (by decide)
 have f2:=aY h2 (by decide)
 have t0:=h.t0
 have d0:=h.d0
 have hn:=h.n_eq
 have f3:fit s.top=true:=aY (gw h (by omega) (B0 _)) (by decide)
 have f4:fit s.depth=true:=aY (bS (k:=20) (by show -1048576 < _; omega) (by show _ < 1048576; omega)) (by decide)
 have f5:fit (s.top+s.depth)=true:=aY (bS (k:=20) (by show -1048576 < _; omega) (by show _ < 1048576; omega)) (by decide)
 have f6:fit (2:Int)=true:=rfl
 have f7:fit (0:Int)=true:=rfl
 have c1:Rp (.tuple [.int e.t,.int e.b]) 1 4000:=mj (aO h1 (by decide)) (aO h2 (by decide))
 have g1:Rp (aq e.q) 1 4000:=mj (aO h4 (by decide)) (aO h6 (by decide))
 have it:=fm (aO h1 (show 560<=1900 by decide))
 have ib:=fm (aO h2 (show 560<=1900 by decide))
 have iq:=fm (aO h4 (show 20<=1900 by decide))
 have iq2:=fm (aO h6 (show 20<=1900 by decide))
 have oc0:Oc (.tuple [.int e.t,.int e.b]):=kK (w1 it) (w1 ib) (kw (aO h1 (by decide)) (aO h2 (by decide)))
 have sg:gq (aq e.q):=hX (by show 2<=200; decide)
 have rg:Rp (aq e.q) 2 12000:=cm g1 (by decide) (by decide)
 have ed:e.d=.tuple [.tuple [.int e.t,.int e.b],.tuple [.int e.q.1,.int e.q.2]]:=rfl
 have es:∀ z:Int,nb 20 z->jQ [.d (.int (e.t+z)),.d (.int e.b)]=.ret (.d (gK (e.t+z) e.b)):=λz hz=>za (by omega) (aO h2 (by decide))
 rw [ed]
 simp_arith [qb,bh]
 refine cM (n:=4) (by decide) (by decide) (by decide) λw w0 w1'=>?_
 refine cM (n:=3) (by decide) (by decide) (by decide) λq q0 q1=>?_
 obtain ⟨b,hb,b0,b1⟩:=x0 (xs:=[PyData.int 1,.int (-1)]) (lo:=-1) (hi:=1) (by simp [gh]) q0 q1
 have nb1:nb 20 b:=bS (by show -1048576 < _; omega) (by show _ < 1048576; omega)
 have eg:bD (aJ (ao 5) (aJ (ao 6) bo)) (.tuple [.tuple [.int e.t,.int e.b],.tuple [.int e.q.1,.int e.q.2]]) [.pen,.d s.d,.d (.tuple [.tuple [.int e.t,.int e.b],.tuple [.int e.q.1,.int e.q.2]]),.d (.int w),.d (.int b),.un,.un,.un,.un,.un]=some [.pen,.d s.d,.d (.tuple [.tuple [.int e.t,.int e.b],.tuple [.int e.q.1,.int e.q.2]]),.d (.int w),.d (.int b),.d (.tuple [.int e.t,.int e.b]),.d (.tuple [.int e.q.1,.int e.q.2]),.un,.un,.un]:=rfl
 simp_arith [bh,hb,eg,f3,f4,f5,f6]
 refine cM (n:=2) (by omega) (by omega) (by decide) λu u0 u1=>?_
 refine cM (n:=1) (by omega) (by omega) (by decide) λv v0 v1=>?_
 by_cases k1:w < 3
 ·have fb:=aY (dO h1 (aO nb1 (show 20<=560 by decide))) (by decide)
  have ne:=yn (dO h1 (aO nb1 (show 20<=560 by decide))) h2 (show e.b≠0 by omega)
  have e1:=decide_eq_true k1
  simp_arith [bh,st,e1,es b nb1]
  refine b9 ⟨_,rfl,mH ?_ sg rg⟩
  exact kK (w1 (fm (aO ne.1 (by decide)))) (w1 (fm (aO ne.2 (by decide)))) (kw (aO ne.1 (by decide)) (aO ne.2 (by decide)))
 have e1:=decide_eq_false k1
 by_cases k2:w < 6
 ·have e2:=decide_eq_true k2
  have n1:nb 1900 (u - s.depth):=aO (bS (k:=20) (by show -1048576 < _; omega) (by show _ < 1048576; omega)) (by decide)
  have n2:nb 1900 (v - s.depth):=aO (bS (k:=20) (by show -1048576 < _; omega) (by show _ < 1048576; omega)) (by decide)
  simp_arith [bh,st,e1,e2]
  refine b9 ⟨_,rfl,mH oc0 (hX (by show 2<=200; decide)) (cm (mj n1 n2) (by decide) (by decide))⟩
 have e2:=decide_eq_false k2
 by_cases k3:w=6
 ·subst k3
  have n1:nb 570 (2 * e.t):=by unfold nb at *; omega
  have n2:nb 570 (2 * e.b):=by unfold nb at *; omega
  have z6:((6:Int) == 6)=true:=rfl
  simp_arith [bh,st,e1,e2,z6,f6,f1,f2]
  refine b9 ⟨_,rfl,mH ?_ sg rg⟩
  exact kK (w1 (fm (aO n1 (by decide)))) (w1 (fm (aO n2 (by decide)))) (kw (aO n1 (by decide)) (aO n2 (by decide)))
 have e3:(w == 6)=false:=beq_eq_false_iff_ne.mpr k3
 by_cases k4:w < 9
 ·have e4:=decide_eq_true k4
  simp_arith [bh,st,e1,e2,e3,e4]
  refine cM (n:=0) (by decide) (by decide) (by decide) λy y0 y1=>?_
  obtain ⟨x,hx,hm⟩:=pick (xs:=[PyData.none,.bool true,.list [.int e.t,.int e.b],.int e.t,.tuple [.int e.t],.tuple [.str (toString e.t),.int e.b],.tuple [.int e.t,.int 0],.tuple [.int e.t,.bool true],.tuple [.int (0 - e.t),.int (0 - e.b)],.tuple [],.tuple [.int e.t,.none],.tuple [.int e.t,.str (Str.ofString "1")],.tuple [.list [.int 1],.int e.b]]) y0 y1
  simp_arith [bh,hx]
  refine b9 ⟨_,rfl,mH ?_ sg rg⟩
  have z0:Rp (.int 0) 0 5800:=fm (bS (k:=1900) (by trivial) (by trivial))
  have z1:Rp (.int 1) 0 5800:=fm (bS (k:=1900) (by trivial) (by trivial))
  have l1:Rp (.list [.int 1]) 1 5800:=pL (m:=1) (fa (oX (bS (k:=1900) (by trivial) (by trivial))) fn) (Aw _) (by decide) (by decide)
  have m1:nb 560 (0 - e.t):=by unfold nb at *; omega
  have m2:nb 560 (0 - e.b):=by unfold nb at *; omega
  have zs:Rp (.str (Str.ofString "1")) 0 5800:=xD _ (by trivial)
  refine (fa (p:=Oc) (pJ (by intro xs e; cases e) jK (by decide) (by decide)) (fa (pJ (by intro xs e; cases e) (o0 true) (by decide) (by decide)) (fa (pJ (by intro xs e; cases e) (pL (k':=2) (n':=12000) (m:=2) (fa it (fa ib fn)) (Aw _) (by decide) (by decide)) (by decide) (by decide)) (fa (pJ (by intro xs e; cases e) it (by decide) (by decide)) (fa (jO (by intro t b e; cases e) (fa (w1 it) fn) (by simp)) ?_))))) x hm
  refine fa (jO (by intro t b e; cases e) (fa (w1 (r_s h1)) (fa (w1 ib) fn)) (by simp)) (fa (kK (w1 it) (w1 z0) (kw (aO h1 (by decide)) (bS (k:=900) (by trivial) (by trivial)))) (fa (jO (by intro t b e; cases e) (fa (w1 it) (fa (w1 (o0 true)) fn)) (by simp)) ?_))
  refine fa (kK (w1 (fm (aO m1 (by decide)))) (w1 (fm (aO m2 (by decide)))) (kw (aO m1 (by decide)) (aO m2 (by decide)))) (fa (jO (by intro t b e; cases e) fn (by simp)) (fa (jO (by intro t b e; cases e) (fa (w1 it) (fa (w1 jK) fn)) (by simp)) ?_))
  exact fa (jO (by intro t b e; cases e) (fa (w1 it) (fa (w1 zs) fn)) (by simp)) (fa (jO (by intro t b e; cases e) (fa l1 (fa (w1 ib) fn)) (by simp)) fn)
 have e4:=decide_eq_false k4
 have z0:Rp (.int 0) 0 5800:=fm (bS (k:=1900) (by trivial) (by trivial))
 have l1:Rp (.list [.int 1]) 1 5800:=pL (m:=1) (fa (oX (bS (k:=1900) (by trivial) (by trivial))) fn) (Aw _) (by decide) (by decide)
 have z01:Rp (.str (Str.ofString "01")) 0 5800:=xD _ (by trivial)
 have og0:Oc (aq e.q):=kK (w1 iq) (w1 iq2) (kw (aO h4 (by decide)) (aO h6 (by decide)))
 have cT:gq (.tuple [.int e.t,.int e.b]):=hX (by show 2<=200; decide)
 simp_arith [bh,st,st2,e1,e2,e3,e4,Zmy]
 refine cM (n:=0) (by decide) (by decide) (by decide) λy y0 y1=>?_
 obtain ⟨x,hx,hm⟩:=pick (xs:=[PyData.tuple [.tuple [.int e.t,.int e.b],.list [.int e.q.1,.int e.q.2]],.tuple [.tuple [.int e.t,.int e.b],.tuple [.int e.q.1]],.tuple [.tuple [.int e.t,.int e.b],.none],.tuple [.tuple [.int e.t,.int e.b],.tuple [.int e.q.1,.bool true]],.tuple [.tuple [.int e.t,.int e.b]],.list [.tuple [.int e.t,.int e.b],.tuple [.int e.q.1,.int e.q.2]],.tuple [.tuple [.int e.t,.int e.b],.tuple [.int e.q.1,.none]],.tuple [.tuple [.int e.t,.int e.b],.tuple [.str (toString e.q.1),.int e.q.2]],.tuple [.tuple [.int e.t,.int e.b],.tuple [.list [.int 1],.int e.q.2]],.tuple [.tuple [.int e.t,.int e.b],.str (Str.ofString "01")],.tuple [.tuple [.int e.q.1,.int e.q.2],.tuple [.int e.t,.int e.b]],.tuple [.tuple [.int e.t,.int e.b],.tuple [.int e.q.1,.int e.q.2],.int 0],.none,.tuple [.int e.t,.int e.b]]) y0 y1
 simp_arith [bh,hx]
 refine b9 ⟨x,rfl,?_⟩
 have tt:∀ {xs:DY},xs.length<=2->(∀ x∈xs,Rp x 1 5800)->∀ {c:PyData},Oc c->Oy (.tuple [c,.tuple xs]):=λhl hr c hc=>mE hc (hX (by omega)) (pT hr hl (Aw _) (show 2 * 5800+2 * 2+10<=12000 by decide)) (Aw _) (Aw _)
 refine (fa (p:=Oy) (mE oc0 (iQ (by intro xs e; cases e)) (pL (n':=12000) (m:=2) (fa iq (fa iq2 fn)) (by simp) (Aw _) (by decide)) (by decide) (Aw _)) (fa (tt (by simp) (fa (w1 iq) fn) oc0) (fa (mE oc0 (iQ (by intro xs e; cases e)) jK (by decide) (by decide)) (fa (tt (by simp) (fa (w1 iq) (fa (w1 (o0 true)) fn)) oc0) ?_)))) x hm
 refine fa ⟨oB (hX (by simp)) (by intro c r e; cases e),pT (m:=1) (fa c1 fn) (by simp) (by decide) (by decide)⟩ (fa ⟨oB (iQ (by intro xs e; cases e)) (by intro c r e; cases e),pL (m:=2) (fa c1 (fa g1 fn)) (by simp) (by decide) (by decide)⟩ (fa (tt (by simp) (fa (w1 iq) (fa (w1 jK) fn)) oc0) (fa (tt (by simp) (fa (w1 (r_s (aO h4 (by decide)))) (fa (w1 iq2) fn)) oc0) (fa (tt (by simp) (fa l1 (fa (w1 iq2) fn)) oc0) ?_))))
 refine fa (mE oc0 (iQ (by intro xs e; cases e)) z01 (by decide) (by decide)) (fa (mE og0 cT c1 (by decide) (by decide)) (fa ⟨oB (hX (by simp)) (by intro c r e; cases e),pT (m:=3) (n:=5800) (k:=1) (fa (cm c1 (by decide) (by decide)) (fa (cm g1 (by decide) (by decide)) (fa (w1 z0) fn))) (by simp) (by decide) (by decide)⟩ (fa ⟨oB (iQ (by intro xs e; cases e)) (by intro c r e; cases e),cm jK (by decide) (by decide)⟩ ?_)))
 exact fa ⟨ZaO (wQ (iQ (by intro xs e; cases e)) (by intro t b e; cases e)) (iQ (by intro xs e; cases e)),cm c1 (by decide) (by decide)⟩ fn
theorem zn (xs:DY) (t:Nat):L2.dH xs none (some (t:Int))=xs.take t:=by
 unfold L2.dH
 have e1:HT.aR xs.length 0 none=0:=by
  unfold HT.aR
  rfl
 have e2:HT.aR xs.length xs.length (some (t:Int))=min t xs.length:=by
  unfold HT.aR
  simp only
  split <;> omega
 rw [e1,e2,BP,Dt]
 rcases Dv t xs.length with hle | hle
 ·rw [Ct hle]
 ·rw [Cm hle,CK,Cd hle]
theorem zo (xs:DY) (t:Nat):L2.dH xs (some (t:Int)) none=xs.drop t:=by
 unfold L2.dH
 have e1:HT.aR xs.length 0 (some (t:Int))=min t xs.length:=by
  unfold HT.aR
  simp only
  split <;> omega
 have e2:HT.aR xs.length xs.length none=xs.length:=by
  unfold HT.aR
  rfl
 rw [e1,e2]
 rcases Dv t xs.length with hle | hle
 ·rw [Ct hle,Cd (by rw [AH]; exact Aw _)]
 ·rw [Cm hle,BS (Aw _),BS hle]
  simp
theorem Zmx (xs:DY) (t:Nat):L2.dH xs (some (t:Int)) (some ((t:Int)+1))=(xs.drop t).take 1:=by
 unfold L2.dH
 have e1:HT.aR xs.length 0 (some (t:Int))=min t xs.length:=by
  unfold HT.aR
  simp only
  split <;> omega
 have e2:HT.aR xs.length xs.length (some ((t:Int)+1))=min (t+1) xs.length:=by
  unfold HT.aR
  simp only
  split <;> omega
 rw [e1,e2]
 rcases Nat.lt_or_ge t xs.length with hle | hle
 ·rw [Ct (by omega),Ct (by omega)]
  congr 1
  omega
 ·rw [Cm hle,BS (Aw _),BS hle]
  simp
theorem fap {p:PyData->Prop} {a b:DY} (h:∀ x∈a,p x) (k:∀ x∈b,p x):∀ x∈a++b,p x:=λx hx=>(Bi.mp hx).elim (h x) (k x)
theorem fat {p:PyData->Prop} {a:DY} {t:Nat} (h:∀ x∈a,p x):∀ x∈a.take t,p x:=λx hx=>h x (List.mem_of_mem_take hx)
theorem fad {p:PyData->Prop} {a:DY} {t:Nat} (h:∀ x∈a,p x):∀ x∈a.drop t,p x:=λx hx=>h x (BB hx)
def ZnT (S:Int) (d:PyData):Prop:=∃ RM:DY,d=.tuple RM/\1<=RM.length/\RM.length<=25/\∀ x∈RM,∃ e:E2,x=e.d/\nb 560 e.t/\nb 560 e.b/\1<=e.b/\e.b ∣ S/\nb 20 e.q.1/\nb 20 e.q.2
theorem Zd6 {s:Shp} (h:s.Ok) (h5:s.n<=5) {n:Nat} {S:Int} {P:List (List E2)} (G:GdB s S n P):∀ d∈P.map dE,ZnT S d:=λd hd=>by
 obtain ⟨es,hes,rfl⟩:=AV.mp hd
 have hday:=G.day es hes
 have hn:=h.n_eq
 have t0:=h.t0
 have d0:=h.d0
 have hst:s.sts.length<=25:=by rw [fi]; exact AL (Cc h5 h5) (by decide)
 have hs1:1<=s.sts.length:=by
  rw [fi]
  exact Cc (show 1<=s.n by omega) (show 1<=s.n by omega)
 refine ⟨es.map E2.d,rfl,by rw [At,hday.1]; exact hs1,by rw [At,hday.1]; exact hst,λx hx=>?_⟩
 obtain ⟨e,he,rfl⟩:=AV.mp hx
 obtain ⟨q1,q2,q3,q4⟩:=G.ent es hes e he
 obtain ⟨k,hk,rfl⟩:=Cn he
 have hk2:k < s.sts.length:=by rw [<- hday.1]; exact hk
 have hq:=(hday.2 k s.sts[k] es[k] (As hk2) (As hk)).2
 obtain ⟨⟨a1,a2⟩,b1,b2⟩:=(b8 h).mp (AX hk2)
 obtain ⟨⟨c1,c2⟩,d1,d2⟩:=(gM a2 b2).mp hq
 exact ⟨_,rfl,q1,q3,q2,q4,gw h (by omega) c2,gw h (by omega) d2⟩
theorem ZhQ {s:Shp} (h:s.Ok) (h5:s.n<=5) {n:Nat} {S:Int} {P:List (List E2)} (G:GdB s S n P) (hn:1<=n) (hn3:n<=3):Al (qc [.pen,.d s.d,.d (pE P)]) 9 λr=>∃ x,r=.d x/\Thg S x:=by
 have hr:=Zd6 h h5 G
 have hl:(P.map dE).length=n:=by rw [At]; exact G.len
 have ep:pE P=.tuple (P.map dE):=rfl
 rw [ep]
 generalize P.map dE=PM at *
 simp_arith [qc,bh]
 refine cM (n:=8) (by decide) (by decide) (by decide) λw w0 w1'=>?_
 refine cM (n:=7) (by omega) (by omega) (by decide) λt t0 t1=>?_
 obtain ⟨t,rfl⟩:=BM t0
 have ht:t < PM.length:=by omega
 have hrow:=hr _ (AX ht)
 obtain ⟨RM,eR,r1,r25,hE⟩:=hrow
 have it:bG PM (t:Int)=some (.tuple RM):=fW (by omega) (by rw [A0,As ht,eR])
 simp_arith [bh,it]
 refine cM (n:=6) (by omega) (by omega) (by decide) λa a0 a1=>?_
 obtain ⟨a,rfl⟩:=BM a0
 have ha:a < RM.length:=by omega
 obtain ⟨e,ee,v1,v2,v3,v4,v5,v6⟩:=hE _ (AX ha)
 have ia:bG RM (a:Int)=some e.d:=fW (by omega) (by rw [A0,As ha,ee])
 simp_arith [bh,ia]
 refine eA (n:=5) (n':=1) (ZhP h h5 v1 v2 v3 v5 v6) (by decide) ?_
 rintro _ ⟨y,rfl,hy,hy2⟩
 have hgo:∀ x∈RM,GoE S y x:=λx hx=>by
  obtain ⟨e,ee,u1,u2,u3,u4,u5,u6⟩:=hE x hx
  exact .inl ⟨e,ee,u1,u2,u3,u4,u5,u6⟩
 have hPM:∀ d∈PM,n9 S y d/\Rp d 6 820000:=λd hd=>by
  obtain ⟨RM',rfl,l1,l2,hE'⟩:=hr d hd
  refine ml (by omega) (λx hx=>?_) hy2
  obtain ⟨e,ee,u1,u2,u3,u4,u5,u6⟩:=hE' x hx
  exact .inl ⟨e,ee,u1,u2,u3,u4,u5,u6⟩
 have c1:=zn PM t
 have c2:=vD PM t
 have c3:=zo PM t
 have c4:=zn RM a
 have c5:=vD RM a
 have c6:=zo RM a
 have c7:=Zmx RM a
 by_cases k1:w < 6
 ·have e1:=decide_eq_true k1
  have j1:=ff (xs:=RM.take a) (ys:=[y]) (by simp only [Av,AJ,AH,Au,AE]; omega) (by simp only [Av,AJ,AH,Au,AE]; omega)
  have j2:=ff (xs:=RM.take a++[y]) (ys:=RM.drop (a+1)) (by simp only [Av,AJ,AH,Au,AE]; omega) (by simp only [Av,AJ,AH,Au,AE]; omega)
  have j3:=ff (xs:=PM.take t) (ys:=[.tuple (RM.take a++[y]++RM.drop (a+1))]) (by simp only [Av,AJ,AH,Au,AE]; omega) (by simp only [Av,AJ,AH,Au,AE]; omega)
  have j4:=ff (xs:=PM.take t++[.tuple (RM.take a++[y]++RM.drop (a+1))]) (ys:=PM.drop (t+1)) (by simp only [Av,AJ,AH,Au,AE]; omega) (by simp only [Av,AJ,AH,Au,AE]; omega)
  simp_arith [bh,e1,c1,c2,c4,c5,j1,j2,j3,j4]
  refine b9 ⟨_,rfl,hU (y:=y) (by simp only [Av,AJ,AH,Au,AE]; omega) hy (fap (fap (fat hPM) (fa (ml (by simp only [Av,AJ,AH,Au,AE]; omega) (fap (fap (fat hgo) (fa (.inr rfl) fn)) (fad hgo)) hy2) fn)) (fad hPM))⟩
 have e1:=decide_eq_false k1
 by_cases k2:w=6
 ·subst k2
  have z6:((6:Int) == 6)=true:=rfl
  have j1:=ff (xs:=PM.drop t) (ys:=PM.take t) (by simp only [Av,AJ,AH,Au,AE]; omega) (by simp only [Av,AJ,AH,Au,AE]; omega)
  simp_arith [bh,e1,z6,c1,c3,j1]
  refine b9 ⟨_,rfl,hU (y:=y) (by simp only [Av,AJ,AH,Au,AE]; omega) hy (fap (fad hPM) (fat hPM))⟩
 have e2:(w == 6)=false:=beq_eq_false_iff_ne.mpr k2
 by_cases k3:w=7
 ·subst k3
  have z7:((7:Int) == 7)=true:=rfl
  have j1:=ff (xs:=RM.take a) (ys:=RM.drop (a+1)) (by simp only [Av,AJ,AH,Au,AE]; omega) (by simp only [Av,AJ,AH,Au,AE]; omega)
  have j3:=ff (xs:=PM.take t) (ys:=[.tuple (RM.take a++RM.drop (a+1))]) (by simp only [Av,AJ,AH,Au,AE]; omega) (by simp only [Av,AJ,AH,Au,AE]; omega)
  have j4:=ff (xs:=PM.take t++[.tuple (RM.take a++RM.drop (a+1))]) (ys:=PM.drop (t+1)) (by simp only [Av,AJ,AH,Au,AE]; omega) (by simp only [Av,AJ,AH,Au,AE]; omega)
  simp_arith [bh,e1,e2,z7,c1,c2,c4,c5,j1,j3,j4]
  refine b9 ⟨_,rfl,hU (y:=y) (by simp only [Av,AJ,AH,Au,AE]; omega) hy (fap (fap (fat hPM) (fa (ml (by simp only [Av,AJ,AH,Au,AE]; omega) (fap (fat hgo) (fad hgo)) hy2) fn)) (fad hPM))⟩
 have e3:(w == 7)=false:=beq_eq_false_iff_ne.mpr k3
 by_cases k4:w=8
 ·subst k4
  have z8:((8:Int) == 8)=true:=rfl
  have j1:=ff (xs:=RM.take a) (ys:=(RM.drop a).take 1) (by simp only [Av,AJ,AH,Au,AE]; omega) (by simp only [Av,AJ,AH,Au,AE]; omega)
  have j2:=ff (xs:=RM.take a++(RM.drop a).take 1) (ys:=RM.drop a) (by simp only [Av,AJ,AH,Au,AE]; omega) (by simp only [Av,AJ,AH,Au,AE]; omega)
  have j3:=ff (xs:=PM.take t) (ys:=[.tuple (RM.take a++(RM.drop a).take 1++RM.drop a)]) (by simp only [Av,AJ,AH,Au,AE]; omega) (by simp only [Av,AJ,AH,Au,AE]; omega)
  have j4:=ff (xs:=PM.take t++[.tuple (RM.take a++(RM.drop a).take 1++RM.drop a)]) (ys:=PM.drop (t+1)) (by simp only [Av,AJ,AH,Au,AE]; omega) (by simp only [Av,AJ,AH,Au,AE]; omega)
  simp_arith [bh,e1,e2,e3,z8,c1,c2,c4,c6,c7,j1,j2,j3,j4]
  refine b9 ⟨_,rfl,hU (y:=y) (by simp only [Av,AJ,AH,Au,AE]; omega) hy (fap (fap (fat hPM) (fa (ml (by simp only [Av,AJ,AH,Au,AE]; omega) (fap (fap (fat hgo) (fat (fad hgo))) (fad hgo)) hy2) fn)) (fad hPM))⟩
 have e4:(w == 8)=false:=beq_eq_false_iff_ne.mpr k4
 have d1:L2.dH PM none (some 1)=PM.take 1:=zn PM 1
 have d2:L2.dH PM (some 1) none=PM.drop 1:=zo PM 1
 have j3:=ff (xs:=PM.take t) (ys:=[.list RM]) (by simp only [Av,AJ,AH,Au,AE]; omega) (by simp only [Av,AJ,AH,Au,AE]; omega)
 have j4:=ff (xs:=PM.take t++[.list RM]) (ys:=PM.drop (t+1)) (by simp only [Av,AJ,AH,Au,AE]; omega) (by simp only [Av,AJ,AH,Au,AE]; omega)
 have hs1:small PM.length=true:=bW (by omega)
 have hs2:small RM.length=true:=bW (by omega)
 have hs3:small (PM++PM.take 1).length=true:=bW (by simp only [Av,AJ,AH,Au,AE]; omega)
 have hne:PM.isEmpty=false:=by
  cases PM with
  | nil=>exact absurd ht (Nat.not_lt_zero _)
  | cons _ _=>rfl
 have j5:aU bg (.tuple PM) (.tuple (PM.take 1))=.ret (.tuple (PM++PM.take 1)):=nu hne (bW (by simp only [Av,AJ,AH,Au,AE]; omega))
 simp_arith [bh,e1,e2,e3,e4,c1,c2,d1,d2,j3,j4,j5]
 refine cM (n:=0) (by decide) (by decide) (by decide) λr r0 r1'=>?_
 obtain ⟨x,hx,hm⟩:=pick (xs:=[PyData.list PM,.none,.bool true,.int 0,.str (Str.ofString ""),.tuple [],.tuple (PM++PM.take 1),.tuple (PM.drop 1),.tuple (PM.take t++[.list RM]++PM.drop (t+1)),.dict []]) r0 r1'
 simp_arith [bh,hx]
 refine b9 ⟨x,rfl,?_⟩
 have z0:Rp (.int 0) 0 5800:=fm (bS (k:=1900) (by trivial) (by trivial))
 refine (fa (p:=Thg S) (km (by intro xs e; cases e) (.inl (pL (n':=3300000) (m:=4) (λd hd=>(hPM d hd).2) (by omega) (Aw _) (by decide)))) (fa (km (by intro xs e; cases e) (.inl (cm jK (by decide) (by decide)))) (fa (km (by intro xs e; cases e) (.inl (cm (o0 true) (by decide) (by decide)))) (fa (km (by intro xs e; cases e) (.inl (cm z0 (by decide) (by decide)))) ?_)))) x hm
 refine fa (km (by intro xs e; cases e) (.inl (cm (xD _ (by trivial)) (by decide) (by decide)))) (fa (hU (y:=y) (by simp) hy fn) (fa (hU (y:=y) (by simp only [Av,AJ,AH,Au,AE]; omega) hy (fap hPM (fat hPM))) ?_))
 exact fa (hU (y:=y) (by simp only [Av,AJ,AH,Au,AE]; omega) hy (fad hPM)) (fa (hU (y:=y) (by simp only [Av,AJ,AH,Au,AE]; omega) hy (fap (fap (fat hPM) (fa (Zh2 (by omega) hgo hy2) fn)) (fad hPM))) (fa (km (by intro xs e; cases e) (.inr rfl)) fn))
theorem Zge (l:List Pt) (es:List E2):l.zip (es.map E2.d)=(l.zip es).map λx=>(x.1,x.2.d):=by
 induction l generalizing es with
 | nil=>rfl
 | cons p l ih =>
  cases es with
  | nil=>rfl
  | cons e es=>rw [Ax,A1,A1,Ax,ih]
theorem ZlH {s:Shp} (h:s.Ok) {es:List E2} (hd:cE s es):eh s (dE es)=true:=by
 show eh s (.tuple (es.map E2.d))=true
 rw [vA,AU]
 refine ⟨decide_eq_true (by rw [At]; exact hd.1),?_⟩
 rw [Zge,Bm]
 intro q hq
 obtain ⟨x,hx,rfl⟩:=AV.mp hq
 obtain ⟨z1,z2,z3,_⟩:=gH hd hx
 obtain ⟨⟨a1,a2⟩,b1,b2⟩:=(b8 h).mp z1
 obtain ⟨⟨c1,c2⟩,d1,d2⟩:=(gM a2 b2).mp z3
 show (decide (1<=x.2.b) && (((Nat.gcd x.2.t.natAbs x.2.b.natAbs:Nat):Int) == 1) && (decide (x.1.1<=x.2.q.1) && decide (x.2.q.1<=s.top) && (decide (x.1.2<=x.2.q.2) && decide (x.2.q.2<=s.top))))=true
 rw [decide_eq_true z2.pos,z2.one,decide_eq_true c1,decide_eq_true c2,decide_eq_true d1,decide_eq_true d2]
 rfl
theorem Zi2 {s:Shp} (h:s.Ok) {P:List (List E2)} {m:Nat} (hl:P.length=m) (hd:∀ es∈P,cE s es):gu s m (pE P)=true:=by
 show gu s m (.tuple (P.map dE))=true
 rw [pz,AU]
 refine ⟨decide_eq_true (by rw [At]; exact hl),?_⟩
 rw [Bm]
 intro d hm
 obtain ⟨es,hes,rfl⟩:=AV.mp hm
 exact ZlH h (hd es hes)
theorem wL {s:Shp} (h:s.Ok) (h5:s.n<=5) {n:Nat} {S:Int} {P:List (List E2)} (G:GdB s S n P) (hn:n<=3):Thg S (pE P):=by
 have hl:(P.map dE).length=n:=by rw [At]; exact G.len
 refine hU (y:=.none) (by omega) ZaP λd hd=>?_
 obtain ⟨RM',rfl,l1,l2,hE'⟩:=Zd6 h h5 G d hd
 refine ml (by omega) (λx hx=>?_) (cm jK (by decide) (by decide))
 obtain ⟨e,ee,u1,u2,u3,u4,u5,u6⟩:=hE' x hx
 exact .inl ⟨e,ee,u1,u2,u3,u4,u5,u6⟩
noncomputable def unE:PyData->E2
 | .tuple [.tuple [.int t,.int b],.tuple [.int x,.int y]]=>⟨t,b,(x,y)⟩
 | _=>⟨0,0,(0,0)⟩
noncomputable def oo:PyData->List E2
 | .tuple es=>es.map unE
 | _=>[]
noncomputable def wG:PyData->List (List E2)
 | .tuple ds=>ds.map oo
 | _=>[]
theorem Zgs (es:List E2):oo (dE es)=es:=by
 show (es.map E2.d).map unE=es
 rw [AS]
 induction es with
 | nil=>rfl
 | cons e es ih=>rw [Ax,ih]; rfl
theorem Zao (P:List (List E2)):wG (pE P)=P:=by
 show (P.map dE).map oo=P
 rw [AS]
 induction P with
 | nil=>rfl
 | cons es P ih =>
  rw [Ax,ih]
  show oo (dE es)::P=_
  rw [Zgs]
theorem Zls {s:Shp} (h:s.Ok) (h5:s.n<=5) {ds:List (List DZ)} (hd:∀ d∈ds,DdB d) (hl:ds.length<=3):gR [.d s.d,.d (bm ds),.d (pE (s.tbE ds))]=.ret (.d (.bool true)):=by
 have h7:s.n<=7:=by omega
 have G:=wM h hd hl
 obtain ⟨y,hy,hg⟩:=(wL h h5 G hl).go
 have hform:=Zi2 h G.len G.day
 obtain ⟨F,hc,_⟩:=wN h hd
 rcases ZeA h h7 hd hl (hg.sm hy) with ⟨hp,_⟩ | ⟨P,e,hPl,hP,hp,e1⟩
 ·rw [hform] at hp
  cases hp
 ·have eq:s.tbE ds=P:=?_
  ·rw [<- eq,hc] at e1
   exact e1
  ·rw [<- Zao (s.tbE ds),<- Zao P,e]
theorem ZgF {s:Shp} (h:s.Ok) {ds:List (List DZ)} (hd:∀ d∈ds,DdB d) (hl:ds.length<=3):s.lawB ds (s.tbE ds)=true:=by
 have G:=wM h hd hl
 obtain ⟨F,hc,_⟩:=wN h hd
 rw [(yt h (λd hd'=>(hd d hd').pos) G.day G.len).1,hc]
 rfl
theorem law_true:Al (qd yu) 300 λo=>o=.ret (.d (.bool true)):=by
 have g2:eK [.int 12]=.ret (bi 0 12):=gB rfl
 simp_arith only [qd,yu,bh,g2]
 refine eA (n:=11) (n':=289) ZhK (by decide) ?_
 rintro _ ⟨s,rfl,h,h5⟩
 have h7:s.n<=7:=by omega
 simp_arith only [bh]
 refine eA (n:=46) (n':=243) ZhN (by decide) ?_
 rintro _ ⟨ds,rfl,l1,l3,hd⟩
 have G:=wM h hd l3
 have e1:mN [.d s.d,.d (bm ds)]=.ret (.d (pE (s.tbE ds))):=by
  rw [Zlt h h7 hd l3,Zax h ds]
  rfl
 have zt:((true:Bool) == true)=true:=rfl
 have e2:=Zls h h5 hd l3
 have e3:=yZ h h7 hd l3 G.pos G.nb (wL h h5 G l3)
 simp_arith only [bh,e1,e2,e3,zt,AF]
 refine eA (n:=75) (n':=168) (ZhM h h5 hd l3 G (ZgF h hd l3)) (by decide) ?_
 rintro _ ⟨P',rfl,G'⟩
 have e4:=yZ h h7 hd l3 G.pos G.nb (wL h h5 G' l3)
 simp_arith only [bh,e4,zt,AF,g2]
 refine eA (n:=108) (n':=60) (P:=λo=>∃ ρ,o=.next ρ) ?_ (by decide) ?_
 ·refine ZfS (n:=9) (λρ=>∃ x:Sl,ρ=[.un,.pen,.d s.d,.d (bm ds),.d (pE (s.tbE ds)),.d (.list [pE (s.tbE ds),pE P']),x]) ⟨_,rfl⟩ (by rw [di]; decide) ?_ (λρ _=>⟨ρ,rfl⟩)
  rintro x ρ hx ⟨J,rfl⟩
  obtain ⟨k,hk,rfl⟩:=xB (n:=12) hx
  refine ⟨_,rfl,?_⟩
  have em:aU i7 (.int (k:Int)) (.int 2)=.ret (.int ((k:Int).fmod 2)):=yW (by decide)
  obtain ⟨Q,hQ,GQ⟩:∃ Q,bG [pE (s.tbE ds),pE P'] ((k:Int).fmod 2)=some (pE Q)/\GdB s (s.dk ds).2 ds.length Q:=by
   have:(k:Int).fmod 2=0\/(k:Int).fmod 2=1:=by
    rw [CQ _ (by decide)]
    omega
   rcases this with z | z
   ·rw [z]; exact ⟨_,rfl,G⟩
   ·rw [z]; exact ⟨_,rfl,G'⟩
  simp_arith only [ZdH,bh,em,hQ]
  refine eA (n:=9) (n':=0) (ZhQ h h5 GQ l1 l3) (by decide) ?_
  rintro _ ⟨y,rfl,hy⟩
  have e5:=yZ h h7 hd l3 G.pos G.nb hy
  simp_arith only [bh,e5,zt,AF]
  exact b9 ⟨_,rfl,_,rfl⟩
 ·rintro _ ⟨ρ,rfl⟩
  simp_arith only [bh]
  exact b9 rfl
end My
open PySem.W L2
theorem My.g_mk {K:DO} {mg:D4} {h:Heap} (X:K.In h) (G:h.Ns mainGlobals mg) {n:Str} {v:Int} {t:Tok} (z:PySem.W.nsIn K mainGlobals n=some (some (.int v t))):∃ t,mg n=some (.int v t):=⟨_,PySem.W.mg_of X G z⟩
set_option maxRecDepth 100000 in
set_option maxHeartbeats 0 in
theorem PySem.Challenge.cw_twomarks_k48_double_papers_holds : PySem.Challenge.rw_twomarks_k48_double_papers.Holds := by
 refine My.hd ?_
 k_fill
 refine L2.Zgg (l:=PySem.Challenge.rw_twomarks_k48_double_papers) (n:=63) (k:=10) (x:="_law_script") (CX:=jA) (sp:=L2.ZaM) rfl (by decide) rfl ⟨rfl,by decide,by decide,rfl⟩ (λw h Y=>PySem.W.kIn_of Y) ?F ?S ?C
 case F =>
  intro w mg fa h KX G hmg
  have T:My.Txt (L2.KOf KX) mg:=by
   dsimp only [L2.KOf]
   constructor
   all_goals first
    | (refine PySem.W.mg_none_of KX G ?_; k_is)
    | (refine' My.g_mk KX G ?z; (case z=>k_is))
    | (refine' L2.ZlF KX G ?a ?l ?c ?k ?b; (case a=>k_is); (case l=>k_is); (case c=>k_is); (case k=>k_is); (case b=>intro _ _ _ _ _ _ us hl; first | (obtain ⟨_,rfl⟩:=L2.Zdq hl; rfl) | (obtain ⟨_,_,rfl⟩:=L2.Zdp hl; rfl) | (obtain ⟨_,_,_,rfl⟩:=L2.Zdo hl; rfl) | (obtain ⟨_,_,_,_,rfl⟩:=L2.Zdn hl; rfl) | (obtain ⟨_,_,_,_,_,rfl⟩:=L2.ZjX hl; rfl)))
  obtain ⟨f,fd,F,hm,_⟩:=T.ZlT.ex
  have e0:=hmg.symm.trans hm
  cases e0
  refine ⟨fd,?_,λbase _ _=>My.Zji T F (L2.Tr.ok_mono (L2.Tr.all_ok My.law_true.out (by decide)) λ_ _ h=>h.2)⟩
  obtain ⟨oc,od,kV,doc,pm,an,cdv,ct,osl,rfl,lk,hcd⟩:=F.ex
  exact λs u=>.of_eq rfl
 case S=>exact λK H a ns hl _ hS=>⟨a,ns,rfl,hS,hl,λ_=>rfl⟩
 case C=>exact λ_ _ _ _ z=>z
