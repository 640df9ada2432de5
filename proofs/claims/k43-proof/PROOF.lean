import PyProof.Rows.All
import Wide.All
import OpenK.AllK
import Wide.FinOn
import Lean
import PyProof.EqAt
import PyProof.EqKinds
import PyProof.TupleCall
import PySem.Challenge.RW_twomarks_k43_short_tables_told
set_option Elab.async false
set_option linter.all false
set_option maxRecDepth 100000
set_option maxHeartbeats 0
noncomputable abbrev My.vw : PySem.Program := PySem.W.view
 PySem.Challenge.rw_twomarks_k43_short_tables_told.row.prog [1, 2, 3, 4, 5, 6, 7, 8, 9, 11, 12, 14, 15, 16, 17, 18, 19, 20, 21, 22, 23, 24, 25, 26, 28, 30, 32, 33, 34, 35, 36, 37, 38, 39, 40, 41, 42, 43, 45, 46, 47, 48, 49, 50, 51, 52, 53, 54, 55, 56, 57, 58, 59, 60, 61, 62]
open PySem PySem.W in
theorem My.hd_s {p:Program} {N:Nat} {α β:Type} {S:Shared->α×β} {G:α×β} (a:∀ w,(openEnds treeTable p w N).map (λs=>(S s).1)=some G.1) (b:∀ w,(openEnds treeTable p w N).map (λs=>(S s).2)=some G.2):∀ w,(openEnds treeTable p w N).map S=some G:=λw=>by
 have h:=a w
 have g:=b w
 cases e:openEnds treeTable p w N with
 | none=>rw [e] at h;exact nomatch h
 | some s=>rw [e,Option.map_some] at h g;rw [Option.map_some];exact congrArg some (Prod.ext (Option.some.inj h) (Option.some.inj g))
open PySem PySem.W in
theorem My.hd_l {p q:Program} {loose:List Str} {Xt:Shared->Bool} {α:Type} {Yf:Shared->α} {Ya:World->α} {N:Nat} (a:∀ w,(openEnds treeTable p w N).map (λs=>openSeen q loose (importedModules p.main.body) Xt true s)=some (openGood q loose)) (b:∀ w,(openEnds treeTable p w N).map Yf=some (Ya w)):LeftO p q loose Xt Yf Ya N:=λw=>by
 have h:=a w
 have g:=b w
 cases e:openEnds treeTable p w N with
 | none=>rw [e] at h;exact nomatch h
 | some s=>rw [e,Option.map_some] at h g;rw [Option.map_some,Option.some.inj h,Option.some.inj g]
theorem My.hd_b {A B C H:Prop} (f:A->B->C->H) (p:A∧B∧C):H:=f p.1 p.2.1 p.2.2
local macro_rules
 | `(tactic| o_head $H:term) => `(tactic| (
  refine My.hd_b (λa b c => PySem.W.holds_open (q := My.vw) (loose := [])
   (Xt := λs => PySem.W.xlAt My.vw [] s && PySem.W.recOk
    (PySem.W.RowW.records PySem.Challenge.rw_twomarks_k43_short_tables_told.row.toRowW) s)
   (XP := PySem.W.XL My.vw []) (Yf := ($H).obs)
   (Ya := ($H).val) (YP := ($H).says) (N := 20000) (My.hd_l a b)
   ($H).of ($H).keeps (λs e => PySem.W.xl_of s
    (Bool.and_eq_true_iff.mp e).1) PySem.W.XL.keeps
   (by rfl) (by rfl) (by rfl)
   (λs e => PySem.W.recFacts_of
    (Bool.and_eq_true_iff.mp e).2)
   (by rfl) ?k1 (by decide +kernel)
   ⟨rfl, rfl, rfl, rfl, rfl, by decide +kernel⟩ ?hw c) ?hc
  (case k1 => assumption)))
open_top My.hd_0 for PySem.Challenge.rw_twomarks_k43_short_tables_told
noncomputable def My.hd_n:=λx0 x1 x2 x3 b c=>My.hd_0 ⟨(My.hd_s x0 (My.hd_s x1 (My.hd_s x2 x3))),b,c⟩
noncomputable def My.hd_n0:=λx1 x2 x3 b c=>My.hd_n (λw=>by kernel_rfl) x1 x2 x3 b c
noncomputable def My.hd_n1:=λx2 x3 b c=>My.hd_n0 (λw=>by kernel_rfl) x2 x3 b c
noncomputable def My.hd_n2:=λx3 b c=>My.hd_n1 (λw=>by kernel_rfl) x3 b c
noncomputable def My.hd_n3:=λb c=>My.hd_n2 (λw=>by kernel_rfl) b c
noncomputable def My.hd_1:=My.hd_n3
noncomputable def My.hd:=λc=>My.hd_1 (λw=>by kernel_rfl) c
set_option maxHeartbeats 4000000
open PySem PySem.Spec PyProof.Rows
def Mt:=@List.mem_cons_of_mem
def pi:=@PySem.Heap.get?_push_of_some
def zm:=@List.map_cons
def zn:=@List.length_cons
def zo:=@List.length_map
def zp:=@Nat.le_refl
def zq:=@List.mem_cons
def zr:=@List.size_toArray
def zt:=@Nat.lt_of_lt_of_le
def zu:=@List.getElem?_eq_some_iff
def zw:=@PySem.Heap.get?_push_size
def zx:=@List.mem_append_right
def zy:=@List.getElem?_set_ne
def zA:=@PySem.Heap.lt_size
def zB:=@List.length_append
def zC:=@Bool.false_ne_true
def zD:=@Nat.ne_of_lt
def zE:=@Nat.le_trans
def zF:=@List.getElem?_set_self
def zG:=@List.replicate_succ
def zH:=@List.getElem?_map
def zI:=@PySem.PassesOwn.never
def zJ:=@Option.some.inj
def zK:=@Nat.lt_irrefl
def zL:=@Bool.and_eq_true
def zM:=@List.lookup_cons
def zN:=@List.append_nil
def zO:=@PySem.W.mg_none_of
def zP:=@List.getElem?_eq_getElem
def zQ:=@List.length_reverse
def zR:=@List.length_set
def zS:=@List.length_nil
def zT:=@List.sum_cons
def zU:=@Int.le_refl
def zV:=@PySem.W.mg_of
def zW:=@List.getElem?_replicate
def zX:=@List.getElem?_append_left
def zY:=@Nat.ne_of_gt
def zZ:=@List.getElem?_cons_succ
def z7:=@List.mem_cons_self
def z8:=@PySem.Heap.size_push
def z9:=@PySem.Heap.get?_update_other
def Aa:=@PySem.F.plainAttrs_list
def Ab:=@PyProof.Rows.slot_tuple_getitem
def Ac:=@List.isEmpty_cons
def Ad:=@List.flatten_cons
def Ae:=@List.append_assoc
def Af:=@List.getElem?_append_right
def Ag:=@List.mem_of_mem_drop
def Ah:=@List.map_map
def Ai:=@List.getElem?_range
def Aj:=@PyProof.Rows.callWith_type1
def Ak:=@Nat.pos_of_ne_zero
def Am:=@List.map_append
def An:=@List.find?_cons
def Ao:=@List.not_mem_nil
def Ap:=@List.cons_append
def Aq:=@Int.add_zero
def Ar:=@PySem.mem_of_lookup
def As:=@Int.toNat_natCast
def At:=@List.nil_append
def Au:=@List.mem_append
def Av:=@Nat.lt_of_le_of_lt
def Aw:=@List.length_drop
def Ax:=@List.getElem?_cons_zero
def Ay:=@Nat.zero_le
def Az:=@List.map_congr_left
def AA:=@List.foldl_cons
def AB:=@List.filterMap_cons
def AC:=@List.take_of_length_le
def AD:=@Option.getD_some
def AE:=@List.zip_cons_cons
def AF:=@List.mem_singleton
def AG:=@List.mem_map
def AH:=@List.map_nil
def AI:=@Int.mul_zero
def AJ:=@List.drop_zero
def AK:=@List.drop_eq_getElem_cons
def AL:=@List.mem_append_left
def AM:=@PySem.F.plain_min_loop
def AN:=@PySem.F.type_list_append
def AO:=@PySem.F.slot_list_append
def AQ:=@Nat.lt_succ_of_lt
def AR:=@List.reverse_cons
def AS:=@PySem.Heap.get?_update_self
def AT:=@Int.zero_add
def AU:=@List.replicate_zero
def AV:=@PySem.Around.under_plainId
def AW:=@List.length_take
def AX:=@Int.emod_lt_of_pos
def AY:=@Nat.le_of_lt
def AZ:=@List.length_replicate
def A0:=@Int.zero_mul
def A1:=@List.length_range
def A2:=@Int.add_assoc
def A3:=@PySem.Obj.data_mapFields
def A4:=@List.mem_of_mem_take
def A5:=@Nat.le_of_not_lt
def A6:=@Array.length_toList
def A7:=@Nat.succ_mul
def A8:=@PySem.F.slot_tuple_iterator_next
def A9:=@List.contains_cons
def Ba:=@Int.emod_nonneg
def Bb:=@PySem.Heap.SameBut.update
def Bc:=@PySem.PyData.hasDict_of_canLay
def Bd:=@Nat.le_of_succ_le
def Be:=@Int.mul_one
def Bf:=@Bool.not_eq_true'
def Bg:=@Int.mul_nonneg
def Bh:=@List.getElem?_eq_none
def Bi:=@List.drop_length
def Bj:=@Int.natCast_zero
def Bk:=@PySem.SeqAt.canLay_of_shaped
def Bl:=@Nat.pow_le_pow_right
def Bm:=@Nat.mul_le_mul_right
def Bn:=@List.mem_of_getElem?
def Bo:=@Int.mul_assoc
def Bp:=@Nat.min_eq_left
def Bq:=@List.take_succ_cons
def Br:=@List.length_pos_iff
def Bs:=@Int.one_mul
def Bt:=@Int.mul_add
def Bu:=@Int.fmod_eq_emod_of_nonneg
def Bv:=@Int.natAbs_mul
def Bw:=@List.any_cons
def Bx:=@Int.eq_ofNat_of_zero_le
def By:=@PySem.Calls.Name_function_global
def Bz:=@Bool.not_true
def BA:=@Nat.lt_succ_self
def BB:=@List.take_length
def BC:=@List.nodup_cons
def BD:=@List.getElem?_reverse
def BE:=@Int.mul_comm
def BF:=@Bool.eq_iff_iff
def BG:=@List.mem_range
def BH:=@PySem.W.callWith_K
def BI:=@PySem.Obj.isFreed_of_fields
def BJ:=@Int.natCast_nonneg
def BK:=@PySem.F.typeOf_object_class
def BL:=@PySem.F.attrBase_ValueError
def BM:=@Bool.false_eq_true
def BN:=@List.take_add_one
def BO:=@Nat.succ.inj
def BP:=@Nat.mul_succ
def BQ:=@Int.ne_of_gt
def BR:=@Nat.min_le_right
def BS:=@Nat.min_eq_right
def BT:=@PySem.Paired.length
def BU:=@Nat.le_succ
def BV:=@List.range_succ
def BW:=@List.of_mem_zip
def BX:=@Int.fdiv_eq_ediv_of_nonneg
def BY:=@Array.getElem?_eq_some_iff
def BZ:=@PySem.F.type_list_reverse
def B0:=@PySem.F.slot_list_reverse
def B1:=@Nat.mul_le_mul
def B2:=@List.take_zero
def B3:=@PySem.F.args_tuple_add_2
def B4:=@Lean.Omega.Int.ofNat_min
def B5:=@Int.mul_fdiv_cancel_left
def B6:=@PySem.F.entry_tuple_add
def B7:=@List.take_nil
def B8:=@List.map_take
def B9:=@List.drop_nil
def Ca:=@PySem.F.entry_min_loop
abbrev Cb:=PySem.W.Frag
abbrev Cj:=PyData->PyData->Option PyData
abbrev Ck:=Value->Shared->Prop
abbrev Cl:=List PyData
abbrev Cm:=List Int
abbrev Cn:=List Value
abbrev Co:=List Str
abbrev Cq:=Str->Option Value
local macro_rules | `(tactic| trivial) => `(tactic| first | decide +kernel | exact ⟨rfl,rfl,rfl,by decide +kernel,rfl,by decide +kernel,by decide +kernel⟩ | exact ⟨rfl,by decide +kernel,by decide +kernel,by decide +kernel,by decide +kernel⟩ | fail "x")
namespace L2
noncomputable abbrev aD:=Sum Int Str
noncomputable def ik:aD->Value->Bool
 | .inl k,v=>Value.isInt k v
 | .inr x,v=>Value.isStrOf x v
noncomputable def Zi9 (w:World):aD->Int
 | .inl k=>hashInt k
 | .inr x=>hashStr w x
theorem fS:∀ {k:aD} {v:Value},ik k v=true->(∃ i t,k=Sum.inl i/\v=Value.int i t)\/(∃ x t,k=Sum.inr x/\v=Value.str x t)
 | .inl i,v,h=>by
  obtain ⟨t,e⟩:=Value.isInt_shape (k:=i) (v:=v) h
  exact .inl ⟨i,t,rfl,e⟩
 | .inr x,v,h=>by
  obtain ⟨t,e⟩:=Value.isStrOf_shape (x:=x) (v:=v) h
  exact .inr ⟨x,t,rfl,e⟩
theorem Zi8 (i:Int) (t:Tok):ik (.inl i) (.int i t)=true:=by simp [ik,Value.isInt]
theorem Zi7 (x:Str) (t:Tok):ik (.inr x) (.str x t)=true:=by simp [ik,Value.isStrOf]
theorem Zi6 (a b:Int):decide ((Sum.inl a:aD)=Sum.inl b)=(a == b):=by
 by_cases e:a=b
 ·subst e; simp
 ·have h:¬ (Sum.inl a:aD)=Sum.inl b:=λq=>e (Sum.inl.inj q)
  rw [decide_eq_false h]
  exact (beq_eq_false_iff_ne.mpr e).symm
theorem Zi3 (a b:Str):decide ((Sum.inr a:aD)=Sum.inr b)=decide (a=b):=by
 by_cases e:a=b
 ·subst e; simp
 ·have h:¬ (Sum.inr a:aD)=Sum.inr b:=λq=>e (Sum.inr.inj q)
  rw [decide_eq_false h,decide_eq_false e]
theorem Zi5 (a:Int) (b:Str):decide ((Sum.inl a:aD)=Sum.inr b)=false:=decide_eq_false (λq=>nomatch q)
theorem Zi4 (a:Str) (b:Int):decide ((Sum.inr a:aD)=Sum.inl b)=false:=decide_eq_false (λq=>nomatch q)
noncomputable def bY (prog:Program) (w:World):PySem.KeyKind prog w aD where
 is:=ik
 hash:=Zi9 w
 inj:=λv a b ha hb=>by
  rcases fS ha with ⟨i,t,rfl,rfl⟩ | ⟨x,t,rfl,rfl⟩
  ·rcases fS hb with ⟨j,u,rfl,e⟩ | ⟨y,u,rfl,e⟩
   ·injection e with e1 _; rw [e1]
   ·exact nomatch e
  ·rcases fS hb with ⟨j,u,rfl,e⟩ | ⟨y,u,rfl,e⟩
   ·exact nomatch e
   ·injection e with e1 _; rw [e1]
 byValue:=λk v h=>by
  rcases fS h with ⟨i,t,rfl,rfl⟩ | ⟨x,t,rfl,rfl⟩ <;> rfl
 pyHash:=λhv h=>by
  rcases fS hv with ⟨i,t,rfl,rfl⟩ | ⟨x,t,rfl,rfl⟩
  ·exact wpAny_pyHash_int h
  ·exact wpAny_pyHash_str h
 eqBool:=λhu hv h=>by
  rcases fS hu with ⟨i,t,rfl,rfl⟩ | ⟨x,t,rfl,rfl⟩
  ·rcases fS hv with ⟨j,u,rfl,rfl⟩ | ⟨y,u,rfl,rfl⟩
   ·rw [Zi6] at h; exact wpAny_eqBool_int h
   ·rw [Zi5] at h; exact SeqAt.EqAt.int_str i t y u _ _ _ _ h
  ·rcases fS hv with ⟨j,u,rfl,rfl⟩ | ⟨y,u,rfl,rfl⟩
   ·rw [Zi4] at h; exact SeqAt.EqAt.str_int x t j u _ _ _ _ h
   ·rw [Zi3] at h; exact wpAny_eqBool_str h
 «strs»:=λk x t v h=>by
  rcases fS h with ⟨i,u,rfl,e⟩ | ⟨y,u,rfl,e⟩
  ·exact nomatch e
  ·injection e with e1 _
   subst e1
   cases v <;> rfl
theorem Zit (prog:Program) (w:World) (k:aD) (v:Value):(bY prog w).is k v=ik k v:=rfl
theorem Zcy (prog:Program) (w:World) (i:Int) (t:Tok):(bY prog w).is (.inl i) (.int i t)=true:=Zi8 i t
theorem Zis (prog:Program) (w:World) (x:Str) (t:Tok):(bY prog w).is (.inr x) (.str x t)=true:=Zi7 x t
inductive V where
 | non | bl (b:Bool) | int (i:Int) | str (x:Str) | byt (b:Array UInt8) | flt (b:UInt64) | ref (a:Addr) | ty (n:String)
 deriving DecidableEq
abbrev Cp:=List V
noncomputable def RelV:V->Value->Prop
 | .non,u=>u=Value.none
 | .bl b,u=>u=Value.bool b
 | .int i,u=>∃ t,u=Value.int i t
 | .str x,u=>∃ t,u=Value.str x t
 | .byt b,u=>∃ t,u=Value.bytes b t
 | .flt b,u=>∃ t,u=Value.float b t
 | .ref a,u=>u=Value.ref a
 | .ty n,u=>u=Value.type n
noncomputable abbrev Vals:List V->List Value->Prop:=Paired RelV
theorem Vals.length {xs:Cp} {us:Cn} (r:Vals xs us):xs.length=us.length:=BT r
theorem Vals.get {xs:Cp} {us:Cn} {i:Nat} {x:V} (h:Vals xs us) (e:xs[i]?=some x):∃ u,us[i]?=some u/\RelV x u:=by
 induction h generalizing i with
 | nil=>cases e
 | cons r t ih=>cases i with | zero=>cases e; exact ⟨_,rfl,r⟩ | succ i=>exact ih (i:=i) e
theorem Vals.set {x:V} {u:Value} (r:RelV x u) {xs:Cp} {us:Cn} (i:Nat) (h:Vals xs us):Vals (xs.set i x) (us.set i u):=by
 induction h generalizing i with
 | nil=>exact .nil
 | cons q t ih=>cases i with | zero=>exact .cons r t | succ i=>exact .cons q (ih i)
theorem Vals.append {xs ys:Cp} {us ws:Cn} (h:Vals xs us) (s:Vals ys ws):Vals (xs++ys) (us++ws):=by
 induction h with
 | nil=>exact s
 | cons r t ih=>exact .cons r ih
theorem Vals.take {xs:Cp} {us:Cn} (n:Nat) (h:Vals xs us):Vals (xs.take n) (us.take n):=by
 induction h generalizing n with
 | nil=>rw [B7,B7]; exact .nil
 | cons r t ih=>cases n with | zero=>exact .nil | succ n=>exact .cons r (ih n)
theorem Vals.drop {xs:Cp} {us:Cn} (n:Nat) (h:Vals xs us):Vals (xs.drop n) (us.drop n):=by
 induction h generalizing n with
 | nil=>rw [B9,B9]; exact .nil
 | cons r t ih=>cases n with | zero=>exact .cons r t | succ n=>exact ih n
noncomputable def RelO:Option V->Option Value->Prop
 | some v,some u=>RelV v u
 | none,none=>True
 | _,_=>False
noncomputable def KV {κ:Type}:List (κ×V)->List (κ×Value)->Prop:=Paired λ(p:κ×V) (q:κ×Value)=>p.1=q.1/\RelV p.2 q.2
noncomputable def kV:aD->V
 | .inl i=>.int i
 | .inr x=>.str x
inductive HO where
 /-- a list -/
 | lst (xs:Cp)
 /-- a tuple (never changes) -/
 | tup (xs:Cp)
 /-- a dict whose keys are ints and texts; one whose keys are tuples of ints and texts (the empty one is both) -/
 | dK (kvs:List (aD×V)) | dT (kvs:List (List aD×V))
 /-- a set of ints: its members,its size -/
 | set (S:Int->Bool) (n:Nat)
 /-- an instance of the class at C,its dict at dx,its attributes -/
 | ins (C dx:Addr) (fs:List (Str×V))
 /-- the dict of the instance at x -/
 | own (x:Addr)
 /-- the dict of an exception -/
 | xd (fs:List (Str×V))
 /-- a bound method,f of x -/
 | met (f x:Addr)
 /-- a range object lo,lo+1,.. below hi -/
 | rng (lo hi:Int)
 /-- a thing that is known to the object (the script; a dict while a loop walks it): read,never written while it is so -/
 | frz (o:Obj) (u:HO)
 /-- a code object's table -/
 | tbl (ps:Array Value)
 /-- any other thing,by what is true of its one object (a def of one's own: SetO a S n:=HO.ext λh=>..) -/
 | ext (φ:Heap->Prop)
noncomputable abbrev Hp:=Addr->Option HO
noncomputable def upd (H:Hp) (a:Addr) (o:HO):Hp:=λb=>if b=a then some o else H b
theorem bH {H:Hp} {a:Addr} {o:HO}:upd H a o a=some o:=by unfold upd; rw [if_pos rfl]
theorem ay {H:Hp} {a b:Addr} {o:HO} (h:b≠a):upd H a o b=H b:=by unfold upd; rw [if_neg h]
theorem Zil {H:Hp} {a b:Addr} {o u:HO} (h:H a=some o) (h':H b=some u) (d:o≠u):a≠b:=by
 intro e; subst e; rw [h] at h'; exact d (zJ h')
theorem dt {H:Hp} {a b:Addr} {o:HO} (h:H a=some o) (h':H b=none):a≠b:=by
 intro e; subst e; rw [h] at h'; cases h'
section
variable (P:Program) (w:World)
noncomputable def ObjOk (H:Hp) (h:Heap) (a:Addr):HO->Prop
 | .lst xs=>xs.length<=sizeLine/\∃ (its:Cn) (n:Nat),Vals xs its/\h.get? a=some { cls:=.type "list",data:=.seq its.toArray n }
 | .tup xs=>xs.length<=sizeLine/\∃ its:Cn,Vals xs its/\IsTup h a its.toArray
 | .dK kvs=>kvs.length<=sizeLine/\(a == sysModules)=false/\∃ vs,KV kvs vs/\h.DictOf (bY P w) a vs
 | .dT kvs=>kvs.length<=sizeLine/\(a == sysModules)=false/\∃ xs:List (List aD×Addr×Value),
   Paired (λ(p:List aD×V) (q:List aD×Addr×Value)=>p.1=q.1/\H q.2.1=some (.tup (p.1.map kV))/\RelV p.2 q.2.2) kvs xs /\
   ∃ o es ep,h.get? a=some o/\o.ExactDict/\o.data=.dict es ep/\es.toList=xs.map (entryOfKey (tupleKind (bY P w)))/\(xs.map (·.1)).Nodup
 | .set S n=>h.SetOf (intKind P w) a S n
 | .ins C dx fs=>H dx=some (.own a)/\fs.length<=1000/\dx≠a/\h.get? a=some (PySem.W.instObj C dx) /\
   ∃ mA,h.Ns1 dx mA/\(∀ f,RelO (fs.lookup f) (mA f))/\PySem.Within mA (fs.map (·.1))
 | .own _=>∃ o,h.get? a=some o
 | .xd fs=>∃ mA,h.Ns1 a mA/\∀ f,RelO (fs.lookup f) (mA f)
 | .rng lo hi=>∃ t u v,h.get? a=some { cls:=.type "range",data:=.fields #[.int lo t,.int hi u,.int 1 v] }
 | .frz o u=>h.get? a=some o/\ObjOk H h a u
 | .tbl ps=>h.get? a=some { cls:=.none,data:=.fields ps }
 | .met f x=>h.get? a=some (PySem.W.methodObj (.ref f) (.ref x))
 | .ext φ=>φ h/\(∃ o,h.get? a=some o)/\∀ h1 h2:Heap,φ h1->(∀ o,h1.get? a=some o->h2.get? a=some o)->φ h2
def HOk (H:Hp) (h:Heap):Prop:=∀ a o,H a=some o->ObjOk P w H h a o
end
section
variable {P:Program} {w:World} {H H':Hp} {h h':Heap} {a:Addr} {o:HO}
theorem ObjOk.lt (x:ObjOk P w H h a o):a < h.objs.size:=by
 cases o with
 | lst xs=>obtain ⟨_,_,_,_,e⟩:=x; exact zA e
 | tup xs=>obtain ⟨_,_,_,p⟩:=x; exact p.lt
 | dK kvs=>obtain ⟨_,_,_,_,o,_,_,e,_⟩:=x; exact zA e
 | dT kvs=>obtain ⟨_,_,_,_,o,_,_,e,_⟩:=x; exact zA e
 | set S n=>obtain ⟨o,_,_,_,e,_⟩:=x; exact zA e
 | ins C dx fs=>obtain ⟨_,_,_,e,_⟩:=x; exact zA e
 | own y=>obtain ⟨_,e⟩:=x; exact zA e
 | xd fs=>obtain ⟨_,⟨_,_,_,e,_⟩,_⟩:=x; exact zA e
 | rng lo hi=>obtain ⟨_,_,_,e⟩:=x; exact zA e
 | frz ob u=>obtain ⟨e,_⟩:=x; exact zA e
 | tbl ps=>exact zA (show h.get? a=some _ from x)
 | met f y=>exact zA (show h.get? a=some _ from x)
 | ext φ=>obtain ⟨_,⟨_,e⟩,_⟩:=x; exact zA e
theorem Paired.mapP {α β:Type} {F G:α->β->Prop} {l₁:List α} {l₂:List β} (h:Paired F l₁ l₂) (f:∀ a b,F a b->G a b):Paired G l₁ l₂:=by
 induction h with
 | nil=>exact .nil
 | cons r t ih=>exact .cons (f _ _ r) ih
theorem ObjOk.stay (x:ObjOk P w H h a o) (k:∀ b u,(b=a\/H b=some (.own a))->h.get? b=some u->h'.get? b=some u)
  (ho:∀ b,H b=some (.own a)->H' b=some (.own a)) (ht:∀ b xs,H b=some (.tup xs)->H' b=some (.tup xs)):ObjOk P w H' h' a o:=by
 induction o with
 | lst xs=>obtain ⟨z,its,n,r,e⟩:=x; exact ⟨z,its,n,r,k _ _ (.inl rfl) e⟩
 | tup xs=>obtain ⟨z,its,r,ob,e,c⟩:=x; exact ⟨z,its,r,ob,k _ _ (.inl rfl) e,c⟩
 | dK kvs=>obtain ⟨z,y,vs,r,ob,es,ep,e,c⟩:=x; exact ⟨z,y,vs,r,ob,es,ep,k _ _ (.inl rfl) e,c⟩
 | dT kvs =>
  obtain ⟨z,y,xs,r,ob,es,ep,e,c⟩:=x
  exact ⟨z,y,xs,Paired.mapP r λp q z=>⟨z.1,ht _ _ z.2.1,z.2.2⟩,ob,es,ep,k _ _ (.inl rfl) e,c⟩
 | set S n=>obtain ⟨ob,es,ep,t,e,c⟩:=x; exact ⟨ob,es,ep,t,k _ _ (.inl rfl) e,c⟩
 | ins C dx fs =>
  obtain ⟨d,z,ne,e,mA,⟨od,es,ep,e2,c⟩,r⟩:=x
  exact ⟨ho _ d,z,ne,k _ _ (.inl rfl) e,mA,⟨od,es,ep,k _ _ (.inr d) e2,c⟩,r⟩
 | own y=>obtain ⟨ob,e⟩:=x; exact ⟨ob,k _ _ (.inl rfl) e⟩
 | xd fs=>obtain ⟨mA,⟨od,es,ep,e,c⟩,r⟩:=x; exact ⟨mA,⟨od,es,ep,k _ _ (.inl rfl) e,c⟩,r⟩
 | rng lo hi=>obtain ⟨t,u,v,e⟩:=x; exact ⟨t,u,v,k _ _ (.inl rfl) e⟩
 | frz ob u ih=>obtain ⟨e,q⟩:=x; exact ⟨k _ _ (.inl rfl) e,ih q⟩
 | tbl ps =>
  have e:h.get? a=some { cls:=.none,data:=.fields ps }:=x
  show h'.get? a=some { cls:=.none,data:=.fields ps }
  exact k a _ (.inl rfl) e
 | met f y =>
  have e:h.get? a=some (PySem.W.methodObj (.ref f) (.ref y)):=x
  show h'.get? a=some (PySem.W.methodObj (.ref f) (.ref y))
  exact k a _ (.inl rfl) e
 | ext φ=>obtain ⟨p,⟨o,e⟩,st⟩:=x; exact ⟨st _ _ p λo q=>k _ _ (.inl rfl) q,⟨o,k _ _ (.inl rfl) e⟩,st⟩
theorem HOk.lt (x:HOk P w H h) (e:H a=some o):a < h.objs.size:=(x a o e).lt
theorem HOk.fresh (x:HOk P w H h) (e:h.objs.size<=a):H a=none:=by
 cases q:H a with
 | none=>rfl
 | some u=>exact absurd (zt (x.lt q) e) (zK _)
theorem HOk.kept (x:HOk P w H h) (k:∀ b u,h.get? b=some u->h'.get? b=some u):HOk P w H h':=λa o e =>
 (x a o e).stay (λb u _ q=>k b u q) (λ_ q=>q) λ_ _ q=>q
theorem HOk.laid (x:HOk P w H h) (k:∀ b u,h.get? b=some u->h'.get? b=some u) (hp:h.objs.size<=a) (new:ObjOk P w (upd H a o) h' a o):HOk P w (upd H a o) h':=λb u e=>by
 have hn:=x.fresh hp
 by_cases hb:b=a
 ·subst hb; rw [bH] at e; cases e; exact new
 ·rw [ay hb] at e
  exact (x b u e).stay (λc v _ q=>k c v q) (λc q=>by rw [ay (dt q hn)]; exact q) λc xs q=>by rw [ay (dt q hn)]; exact q
end
def Rd (H:Hp) (a:Addr) (u:HO):Prop:=H a=some u\/∃ o,H a=some (.frz o u)
theorem Rd.ok {P:Program} {w:World} {H:Hp} {h:Heap} {a:Addr} {u:HO} (r:Rd H a u) (x:HOk P w H h):ObjOk P w H h a u:=by
 rcases r with r | ⟨o,r⟩
 ·exact x a u r
 ·obtain ⟨_,q⟩:=x a _ r
  exact q
noncomputable def sD:Option HO->Prop
 | some (.lst _)=>True
 | some (.dK _)=>True
 | some (.dT _)=>True
 | some (.set _ _)=>True
 | some (.ins _ _ _)=>True
 | some (.ext _)=>True
 | _=>False
section
variable {P:Program} {w:World} {H:Hp} {h h':Heap} {x e:Addr} {o':HO}
theorem HOk.write (ok:HOk P w H h) (mu:sD (H x)) (he:e=x\/H e=some (.own x)) (k:∀ b u,b≠e->h.get? b=some u->h'.get? b=some u) (heo:∃ u,h'.get? e=some u)
  (new:ObjOk P w (upd H x o') h' x o'):HOk P w (upd H x o') h':=λb u q=>by
 have nown:∀ c y,H c=some (.own y)->c≠x:=λc y r z=>by subst z; rw [r] at mu; exact mu
 have ntup:∀ c xs,H c=some (.tup xs)->c≠x:=λc xs r z=>by subst z; rw [r] at mu; exact mu
 by_cases hb:b=x
 ·subst hb; rw [bH] at q; cases q; exact new
 ·rw [ay hb] at q
  by_cases hbe:b=e
  ·have q':H b=some (.own x):=by
    rcases he with z | z
    ·exact absurd (hbe.trans z) hb
    ·rw [hbe]; exact z
   rw [q] at q'; cases q'
   obtain ⟨v,hv⟩:=heo
   exact ⟨v,by rw [hbe]; exact hv⟩
  ·refine (ok b u q).stay (λc v hc r=>k c v ?_ r) (λc r=>by rw [ay (nown c b r)]; exact r) λc xs r=>by rw [ay (ntup c xs r)]; exact r
   rcases hc with rfl | hc
   ·exact hbe
   ·rintro rfl
    rcases he with z | z
    ·exact nown c b hc z
    ·rw [hc] at z; cases z; exact hb rfl
end
structure Un (fs ex:List Addr) (H H':Hp) (h h':Heap):Prop where
 keep:∀ b o,h.get? b=some o->H b=none->b ∉ fs->b ∉ ex->h'.get? b=some o
 slot:∀ b o,h.get? b=some o->H b=none->b∈fs->b ∉ ex->∃ sl,h'.get? b=some { o with slots:=sl }
 free:∀ b o,h.get? b=some o->H b=none->b ∉ ex->H' b=none
 there:∀ b o,h.get? b=some o->b ∉ ex->∃ o',h'.get? b=some o'
 tups:∀ b xs,H b=some (.tup xs)->H' b=some (.tup xs)
 frzs:∀ b o u,H b=some (.frz o u)->H' b=some (.frz o u)
 tbls:∀ b ps,H b=some (.tbl ps)->∃ more,H' b=some (.tbl (ps++more))
section
variable {fs fs' ex ex':List Addr} {H H1 H2:Hp} {h h1 h2 h':Heap} {a x e:Addr} {o:HO}
theorem Un.any (u:Un fs ex H H1 h h1) {b:Addr} {ob:Obj} (q:h.get? b=some ob) (n:H b=none) (hx:b ∉ ex):∃ sl,h1.get? b=some { ob with slots:=sl }:=by
 by_cases hb:b∈fs
 ·exact u.slot b ob q n hb hx
 ·exact ⟨ob.slots,u.keep b ob q n hb hx⟩
theorem Un.kept (k:∀ b u,h.get? b=some u->h'.get? b=some u):Un fs ex H H h h' :=
 ⟨λb ob q _ _ _=>k b ob q,λb ob q _ _ _=>⟨ob.slots,k b ob q⟩,λ_ _ _ n _=>n,λb ob q _=>⟨ob,k b ob q⟩,λ_ _ q=>q,λ_ _ _ q=>q,λ_ ps q=>⟨#[],by rw [q]; simp⟩⟩
theorem Un.refl:Un fs ex H H h h:=Un.kept λ_ _ q=>q
theorem Un.laid (k:∀ b u,h.get? b=some u->h'.get? b=some u) (hp:h.objs.size<=a) (hn:H a=none):Un fs ex H (upd H a o) h h' where
 keep:=λb u q _ _ _=>k b u q
 slot:=λb u q _ _ _=>⟨u.slots,k b u q⟩
 free:=λb u q n _=>by rw [ay (zD (zt (zA q) hp))]; exact n
 there:=λb u q _=>⟨u,k b u q⟩
 tups:=λb xs q=>by rw [ay (dt q hn)]; exact q
 frzs:=λb u xs q=>by rw [ay (dt q hn)]; exact q
 tbls:=λb ps q=>⟨#[],by rw [ay (dt q hn),q]; simp⟩
theorem Un.write (mu:sD (H x)) (he:e=x\/H e=some (.own x)) (k:∀ b u,b≠e->h.get? b=some u->h'.get? b=some u) (heo:∃ u,h'.get? e=some u):Un fs ex H (upd H x o) h h':=by
 have hx:∀ b,H b=none->b≠x:=λb n z=>by subst z; rw [n] at mu; exact mu
 have hb:∀ b,H b=none->b≠e:=λb n z=>by
  subst z
  rcases he with r | r
  ·exact hx b n r
  ·rw [n] at r; cases r
 have hm:∀ b u,H b=some u->¬ sD (some u)->b≠x:=λb u q nm z=>by subst z; rw [q] at mu; exact nm mu
 refine ⟨λb u q n _ _=>k b u (hb b n) q,λb u q n _ _=>⟨u.slots,k b u (hb b n) q⟩,λb u q n _=>by rw [ay (hx b n)]; exact n,λb u q _=>?_,
  λb xs q=>by rw [ay (hm b _ q λz=>z)]; exact q,λb u xs q=>by rw [ay (hm b _ q λz=>z)]; exact q,λb ps q=>⟨#[],by rw [ay (hm b _ q λz=>z),q]; simp⟩⟩
 by_cases hbe:b=e
 ·subst hbe; exact heo
 ·exact ⟨u,k b u hbe q⟩
end
noncomputable def trk (h:Heap) (H:Hp):List Addr:=(List.range h.objs.size).filter λa=>(H a).isSome
noncomputable def gw (h:Heap) (H:Hp):Heap:=PySem.W.hideAll h (trk h H)
theorem Zjs (h:Heap) (H:Hp):(gw h H).objs.size=h.objs.size:=PySem.W.hideAll_size _ _
theorem Zjt {h:Heap} {H:Hp} {b:Addr} {o:Obj} (e:h.get? b=some o) (n:H b=none):(gw h H).get? b=some o :=
 PySem.W.hideAll_get _ e λhm=>by
  have q:(H b).isSome=true:=(List.mem_filter.mp hm).2
  rw [n] at q; simp at q
theorem Zic {h:Heap} {H:Hp} {b:Addr} {o:Obj} (e:(gw h H).get? b=some o):h.get? b=some o/\H b=none:=by
 have e':h.get? b=some o:=PySem.W.of_hideAll (trk h H) e
 refine ⟨e',?_⟩
 cases q:H b with
 | none=>rfl
 | some x =>
  have hm:b∈trk h H:=List.mem_filter.mpr ⟨BG.mpr (zA e'),by simp [q]⟩
  have z:(gw h H).get? b=none:=PySem.W.hideAll_none (trk h H) hm
  rw [z] at e; cases e
noncomputable def Zmb (g h:Heap) (L:Addr):List (Addr×Obj):=(List.range h.objs.size).filterMap λa=>if a=L\/(g.get? a).isSome=true then none else (h.get? a).map λo=>(a,o)
noncomputable def rest (g h:Heap) (L d:Addr):List (Addr×Obj):=(Zmb g h L).filter λp=>decide (p.1≠d)
structure Mod (K:Cb) (mg:Cq) (base:Heap):Prop where
 kin:K.In base
 glob:base.Ns mainGlobals mg
 blt:∃ mb,base.Ns builtinsNs mb/\∀ x:Str,x≠"__name__"->mb x=bootBuiltins x
 nolimit:base.NoLimit
 nodig:base.NoDigits
structure Cx where
 prog:Program
 w:World
 K:Cb
 mg:Cq
 base:Heap
 A:Around
 N:Co
 s₀:Shared
 H₀:Hp
 env:Env
 outer:List Env
 stack:List Env
 ex:List Addr
 fn:Str->Bool
 calm:Bool
 pn:List (Addr×Obj)
 xe:Ck
noncomputable def frs (l:List Env):List Addr:=l.filterMap (·.frame)
noncomputable abbrev Cx.fs (X:Cx):List Addr:=frs X.outer
def vR (sc:Scope) (x:Str):Prop:=sc.names.lookup x=some .local\/sc.names.lookup x=some .cell\/sc.names.lookup x=some .free
def qi (sc:Scope) (x:Str):Prop:=sc.names.lookup x=some .local\/sc.names.lookup x=some .cell
noncomputable def Znc (env:Env) (h:Heap) (m:Cq) (x:Str) (u:Value):Prop :=
 (env.kindOf x=some .local/\m x=some u)\/((env.kindOf x=some .cell\/env.kindOf x=some .free)/\∃ c,env.cells.lookup x=some c/\h.IsCell c (some u))
structure Cx.Ok (X:Cx):Prop where
 mod:Mod X.K X.mg X.base
 kind:X.env.scope.kind=.function
 glob:X.env.globals=mainGlobals
 blt:X.env.builtins=builtinsNs
 above:X.s₀.heap.objs.size<=X.env.locals
 inj:∀ x y c,X.env.cells.lookup x=some c->X.env.cells.lookup y=some c->x=y
 has:∀ x,(X.env.kindOf x=some .cell\/X.env.kindOf x=some .free)->∃ c,X.env.cells.lookup x=some c
 cab:∀ x c,X.fn x=true->X.env.cells.lookup x=some c->X.s₀.heap.objs.size<=c
 hd:X.calm=true->X.A.handled=none
 frames:X.A.frames=some X.stack
 stk:X.stack=X.outer\/(X.stack=X.env::X.outer/\X.env.frame=some X.env.locals)
 exf:∀ b∈X.ex,b≠X.env.locals/\∀ x c,X.env.cells.lookup x=some c->c≠b
 bs:∀ b o,X.base.get? b=some o->X.s₀.heap.get? b=some o/\X.H₀ b=none
 bsz:X.base.objs.size<=X.s₀.heap.objs.size
 noex:∀ b o,X.base.get? b=some o->b ∉ X.ex
 exfs:∀ b∈X.ex,b ∉ X.fs
 funs:X.s₀.heap.FunFrames X.base X.outer
 frf:∀ b∈X.fs,X.H₀ b=none
structure Inv (X:Cx) (pins:List (Addr×Obj)) (σ:List (Option V)) (H:Hp) (s:Shared):Prop where
 ok:X.Ok
 os:s.os=X.s₀.os
 bare:AllBare s.gens
 base:Un X.fs X.ex X.H₀ H X.s₀.heap s.heap
 loc:∃ m,s.heap.Ns X.env.locals m/\∀ (i:Nat) (x:Str) (v:V),X.N[i]?=some x->σ[i]?=some (some v)->vR X.env.scope x->∃ u,RelV v u/\Znc X.env s.heap m x u
 cell:∀ x c,X.env.cells.lookup x=some c->∃ v,s.heap.IsCell c v
 free:H X.env.locals=none
 freeC:∀ x c,X.env.cells.lookup x=some c->H c=none
 pin:∀ p∈X.pn++pins,s.heap.get? p.1=some p.2/\H p.1=none/\p.1≠X.env.locals/\p.1 ∉ X.fs/\∀ v,p.2.data≠.cell v
 hok:HOk X.prog X.w H s.heap
 len:σ.length=X.N.length
section
variable {X:Cx} {pins:List (Addr×Obj)} {σ:List (Option V)} {H H':Hp} {s:Shared} {h':Heap}
theorem Cx.Ok.nofr (ok:X.Ok) {b:Addr} {o:Obj} (e:X.base.get? b=some o):b ∉ X.fs:=λhb=>by
 have:=(ok.funs.mem hb).1
 rw [e] at this; cases this
theorem Inv.bs (I:Inv X pins σ H s):∀ b o,X.base.get? b=some o->s.heap.get? b=some o/\H b=none:=λb o e =>
 ⟨I.base.keep b o (I.ok.bs b o e).1 (I.ok.bs b o e).2 (I.ok.nofr e) (I.ok.noex b o e),I.base.free b o (I.ok.bs b o e).1 (I.ok.bs b o e).2 (I.ok.noex b o e)⟩
theorem Inv.bk (I:Inv X pins σ H s):∀ b o,X.base.get? b=some o->s.heap.get? b=some o:=λb o e=>(I.bs b o e).1
theorem Inv.mod (I:Inv X pins σ H s):Mod X.K X.mg X.base:=I.ok.mod
theorem Inv.kIn (I:Inv X pins σ H s):X.K.In s.heap:=I.ok.mod.kin.keeps I.bk
theorem Inv.lt (I:Inv X pins σ H s):X.env.locals < s.heap.objs.size:=let ⟨_,hn,_⟩:=I.loc; hn.lt
theorem Inv.sz (I:Inv X pins σ H s):X.s₀.heap.objs.size<=s.heap.objs.size:=zE I.ok.above (AY I.lt)
theorem Inv.nofs (I:Inv X pins σ H s) {a:Addr} (h:s.heap.objs.size<=a):a ∉ X.fs:=λhb=>by
 obtain ⟨_,o,ho,_⟩:=I.ok.funs.mem hb
 exact absurd (zt (zA ho) (zE I.sz h)) (zK _)
theorem Inv.cne (I:Inv X pins σ H s):∀ x c,X.env.cells.lookup x=some c->c≠X.env.locals:=λx c e z=>by
 obtain ⟨v,o,ho,hd⟩:=I.cell x c e
 obtain ⟨m,⟨o',es,ep,ho',hd',_⟩,_⟩:=I.loc
 rw [z,ho'] at ho; cases ho; rw [hd'] at hd; cases hd
theorem Inv.funs (I:Inv X pins σ H s):s.heap.FunFrames X.base X.outer:=by
 have all:∀ (l:List Env),(∀ b∈frs l,b∈X.fs)->X.s₀.heap.FunFrames X.base l->s.heap.FunFrames X.base l:=by
  intro l
  induction l with
  | nil=>intro _ _; trivial
  | cons env r ih =>
   intro hs hl
   obtain ⟨hk,⟨L,o,hf,hn,ho,hd⟩,hr⟩:=hl
   have hL:L∈X.fs:=hs L (by unfold frs; rw [AB,hf]; exact z7)
   obtain ⟨sl,e⟩:=I.base.slot L o ho (I.ok.frf L hL) hL λz=>I.ok.exfs L z hL
   exact ⟨hk,⟨L,_,hf,hn,e,hd⟩,ih (λb hb=>hs b (by unfold frs; rw [AB,hf]; exact Mt _ hb)) hr⟩
 exact all X.outer (λ_ hb=>hb) I.ok.funs
theorem Inv.stack (I:Inv X pins σ H s):s.heap.FunFrames X.base X.stack:=by
 rcases I.ok.stk with e | ⟨e,hf⟩
 ·rw [e]; exact I.funs
 ·rw [e]
  obtain ⟨m,hn,_⟩:=I.loc
  refine .cons (by rw [I.ok.kind]; decide) hf hn ?_ I.funs
  exact Heap.get?_none_of_le (zE I.ok.bsz I.ok.above)
theorem Inv.stkSub (I:Inv X pins σ H s):∀ b∈frs X.stack,b∈X.env.locals::X.fs:=λb hb=>by
 rcases I.ok.stk with e | ⟨e,hf⟩
 ·rw [e] at hb; exact Mt _ hb
 ·rw [e] at hb
  unfold frs at hb
  rw [AB,hf] at hb
  exact hb
theorem Inv.stkFree (I:Inv X pins σ H s):∀ b∈frs X.stack,H b=none:=λb hb=>by
 rcases zq.mp (I.stkSub b hb) with e | hb
 ·rw [e]; exact I.free
 ·obtain ⟨_,o,ho,_⟩:=I.ok.funs.mem hb
  exact I.base.free b o ho (I.ok.frf b hb) λz=>I.ok.exfs b z hb
theorem Inv.step {g':Array GenState} {t':Nat} {d':Drawn} {ch:List Addr} (I:Inv X pins σ H s)
  (hch:∀ b∈ch,(b∈X.ex\/X.s₀.heap.objs.size<=b)/\b≠X.env.locals/\(∀ x c,X.env.cells.lookup x=some c->c≠b)/\∀ p∈X.pn++pins,p.1≠b)
  (keep:∀ b o,b≠X.env.locals->b ∉ X.fs->b ∉ ch->s.heap.get? b=some o->H b=none->h'.get? b=some o)
  (slot:∀ b o,b≠X.env.locals->b∈X.fs->b ∉ ch->s.heap.get? b=some o->H b=none->∃ sl,h'.get? b=some { o with slots:=sl }) (free:∀ b o,b ∉ ch->s.heap.get? b=some o->H b=none->H' b=none)
  (there:∀ b o,b ∉ ch->s.heap.get? b=some o->∃ o',h'.get? b=some o')
  (tups:∀ b xs,H b=some (.tup xs)->H' b=some (.tup xs)) (frzs:∀ b o u,H b=some (.frz o u)->H' b=some (.frz o u)) (tbls:∀ b ps,H b=some (.tbl ps)->∃ more,H' b=some (.tbl (ps++more)))
  (ns:∀ m,s.heap.Ns X.env.locals m->h'.Ns X.env.locals m) (hok:HOk X.prog X.w H' h') (hg:AllBare g') :
  Inv X pins σ H' { s with heap:=h',gens:=g',drawn:=d',toks:=t' }:=by
 have neL:∀ b o,X.s₀.heap.get? b=some o->b≠X.env.locals:=λb o e=>zD (zt (zA e) I.ok.above)
 have neC:∀ b o,X.s₀.heap.get? b=some o->b ∉ X.ex->b ∉ ch:=λb o e hx hb=>by
  rcases (hch b hb).1 with z | z
  ·exact hx z
  ·exact absurd (zt (zA e) z) (zK _)
 have cellK:∀ x c,X.env.cells.lookup x=some c->∀ v,s.heap.IsCell c v->h'.IsCell c v:=λx c e v hz0=>by
  obtain ⟨o,ho,hd⟩:=hz0
  have nch:c ∉ ch:=λz=>(hch c z).2.2.1 x c e rfl
  by_cases hc:c∈X.fs
  ·obtain ⟨sl,q⟩:=slot c o (I.cne x c e) hc nch ho (I.freeC x c e)
   exact ⟨_,q,hd⟩
  ·exact ⟨o,keep c o (I.cne x c e) hc nch ho (I.freeC x c e),hd⟩
 refine ⟨I.ok,I.os,hg,⟨λb o e n hb hx=>?_,λb o e n hb hx=>?_,λb o e n hx=>?_,λb o e hx=>?_,λb xs e=>tups b xs (I.base.tups b xs e),λb o xs e=>frzs b o xs (I.base.frzs b o xs e),λb ps e=>?_⟩,?_,λx c e=>?_,?_,λx c e=>?_,λp hp=>?_,hok,I.len⟩
 ·exact keep b o (neL b o e) hb (neC b o e hx) (I.base.keep b o e n hb hx) (I.base.free b o e n hx)
 ·obtain ⟨sl,e1⟩:=I.base.slot b o e n hb hx
  obtain ⟨sl',e2⟩:=slot b _ (neL b o e) hb (neC b o e hx) e1 (I.base.free b o e n hx)
  exact ⟨sl',e2⟩
 ·obtain ⟨o',e1⟩:=I.base.there b o e hx
  exact free b o' (neC b o e hx) e1 (I.base.free b o e n hx)
 ·obtain ⟨o',e1⟩:=I.base.there b o e hx
  exact there b o' (neC b o e hx) e1
 ·obtain ⟨m1,e1⟩:=I.base.tbls b ps e
  obtain ⟨m2,e2⟩:=tbls b _ e1
  exact ⟨m1++m2,by rw [e2,Array.append_assoc]⟩
 ·obtain ⟨m,hn,hl⟩:=I.loc
  refine ⟨m,ns m hn,λi x v e1 e2 e3=>?_⟩
  obtain ⟨u,r,l⟩:=hl i x v e1 e2 e3
  refine ⟨u,r,?_⟩
  rcases l with l | ⟨k,c,e,z⟩
  ·exact .inl l
  ·exact .inr ⟨k,c,e,cellK x c e _ z⟩
 ·obtain ⟨v,z⟩:=I.cell x c e
  exact ⟨v,cellK x c e v z⟩
 ·obtain ⟨m,⟨o,_,_,ho,_⟩,_⟩:=I.loc
  exact free _ o (λz=>(hch _ z).2.1 rfl) ho I.free
 ·obtain ⟨v,o,ho,hd⟩:=I.cell x c e
  exact free c o (λz=>(hch c z).2.2.1 x c e rfl) ho (I.freeC x c e)
 ·obtain ⟨e,n,ne,nf,d⟩:=I.pin p hp
  have nch:p.1 ∉ ch:=λz=>(hch p.1 z).2.2.2 p hp rfl
  exact ⟨keep p.1 p.2 ne nf nch e n,free p.1 p.2 nch e n,ne,nf,d⟩
theorem Inv.un {t':Nat} (I:Inv X pins σ H s) (u:Un X.fs [] H H' s.heap h') (hok:HOk X.prog X.w H' h'):Inv X pins σ H' { s with heap:=h',toks:=t' }:=by
 obtain ⟨m,⟨o,es,ep,ho,r⟩,_⟩:=id I.loc
 obtain ⟨sl,hL⟩:=u.any ho I.free (by simp)
 exact I.step (g':=s.gens) (d':=s.drawn) (ch:=[]) (λ_ z=>nomatch z) (λb o _ hb _ e n=>u.keep b o e n hb (by simp)) (λb o _ hb _ e n=>u.slot b o e n hb (by simp)) (λb o _ e n=>u.free b o e n (by simp)) (λb o _ e=>u.there b o e (by simp)) u.tups u.frzs u.tbls (λm' hm=>by
  obtain ⟨o',es',ep',ho',r'⟩:=hm
  rw [ho] at ho'; cases ho'
  exact ⟨_,es',ep',hL,r'⟩) hok I.bare
theorem Inv.call {g':Array GenState} {t':Nat} {d':Drawn} {ch:List Addr} (I:Inv X pins σ H s) (u:Un (frs X.stack) ch H H' s.heap h') (hok:HOk X.prog X.w H' h') (hg:AllBare g')
  (hch:∀ b∈ch,(b∈X.ex\/X.s₀.heap.objs.size<=b)/\b≠X.env.locals/\(∀ x c,X.env.cells.lookup x=some c->c≠b)/\∀ p∈X.pn++pins,p.1≠b) :
  Inv X pins σ H' { s with heap:=h',gens:=g',drawn:=d',toks:=t' }:=by
 obtain ⟨m,⟨o,es,ep,ho,r⟩,_⟩:=id I.loc
 obtain ⟨sl,hL⟩:=u.any ho I.free λz=>(hch _ z).2.1 rfl
 exact I.step (ch:=ch) hch (λb o hL hb hc e n=>u.keep b o e n (λz=>(zq.mp (I.stkSub b z)).elim hL hb) hc) (λb o _ _ hc e n=>u.any e n hc) (λb o hc e n=>u.free b o e n hc) (λb o hc e=>u.there b o e hc) u.tups u.frzs u.tbls (λm' hm=>by
  obtain ⟨o',es',ep',ho',r'⟩:=hm
  rw [ho] at ho'; cases ho'
  exact ⟨_,es',ep',hL,r'⟩) hok hg
theorem Inv.turned {t':Nat} {it:Addr} (I:Inv X pins σ H s) (k:∀ b o,b≠it->s.heap.get? b=some o->h'.get? b=some o) (hn:H it=none) (hL:it≠X.env.locals)
  (h1:it∈X.ex\/X.s₀.heap.objs.size<=it) (h2:∀ x c,X.env.cells.lookup x=some c->c≠it) (h3:∀ p∈X.pn++pins,p.1≠it):Inv X pins σ H { s with heap:=h',toks:=t' }:=by
 have nit:∀ b u,H b=some u->b≠it:=λb u e z=>by rw [z,hn] at e; cases e
 refine I.step (g':=s.gens) (d':=s.drawn) (ch:=[it]) (λb hb=>?_) (λb o _ _ hc e _=>k b o (λz=>hc (by simp [z])) e) (λb o _ _ hc e _=>⟨o.slots,k b o (λz=>hc (by simp [z])) e⟩) (λ_ _ _ _ n=>n)
  (λb o hc e=>⟨o,k b o (λz=>hc (by simp [z])) e⟩) (λ_ _ e=>e) (λ_ _ _ e=>e) (λb ps e=>⟨#[],by rw [e]; simp⟩) (λm hm=>?_) (λb u e=>?_) I.bare
 ·have e:b=it:=by simpa using hb
  subst e
  exact ⟨h1,hL,h2,h3⟩
 ·obtain ⟨o,es,ep,ho,r⟩:=hm
  exact ⟨o,es,ep,k _ o (Ne.symm hL) ho,r⟩
 ·refine (I.hok b u e).stay (λc v hc q=>k c v ?_ q) (λ_ q=>q) λ_ _ q=>q
  rcases hc with z | z
  ·rw [z]; exact nit b u e
  ·exact nit c _ z
theorem Inv.tok (I:Inv X pins σ H s) (t:Nat):Inv X pins σ H { s with toks:=t }:=I.un (h':=s.heap) (t':=t) Un.refl I.hok
theorem Inv.kept {t':Nat} (I:Inv X pins σ H s) (k:∀ b u,s.heap.get? b=some u->h'.get? b=some u):Inv X pins σ H { s with heap:=h',toks:=t' }:=I.un (Un.kept k) (I.hok.kept k)
theorem Inv.laid {a:Addr} {o:HO} {t':Nat} (I:Inv X pins σ H s) (k:∀ b u,s.heap.get? b=some u->h'.get? b=some u) (hp:s.heap.objs.size<=a) (new:ObjOk X.prog X.w (upd H a o) h' a o) :
  Inv X pins σ (upd H a o) { s with heap:=h',toks:=t' }:=I.un (Un.laid k hp (I.hok.fresh hp)) (I.hok.laid k hp new)
theorem Inv.write {x e:Addr} {o:HO} {t':Nat} (I:Inv X pins σ H s) (mu:sD (H x)) (he:e=x\/H e=some (.own x)) (k:∀ b u,b≠e->s.heap.get? b=some u->h'.get? b=some u) (heo:∃ u,h'.get? e=some u)
  (new:ObjOk X.prog X.w (upd H x o) h' x o):Inv X pins σ (upd H x o) { s with heap:=h',toks:=t' }:=I.un (Un.write mu he k heo) (I.hok.write mu he k heo new)
theorem Inv.pins_of {pins':List (Addr×Obj)} (I:Inv X pins σ H s) (h:∀ p∈pins',s.heap.get? p.1=some p.2/\H p.1=none/\p.1≠X.env.locals/\p.1 ∉ X.fs/\∀ v,p.2.data≠.cell v):Inv X pins' σ H s :=
 ⟨I.ok,I.os,I.bare,I.base,I.loc,I.cell,I.free,I.freeC,λp hp=>(Au.mp hp).elim (λz=>I.pin p (AL _ z)) (h p),I.hok,I.len⟩
theorem xA {N:Co} (hN:N.Nodup) {i j:Nat} {x:Str} (a:N[i]?=some x) (b:N[j]?=some x):i=j:=by
 obtain ⟨h1,e1⟩:=zu.mp a
 obtain ⟨h2,e2⟩:=zu.mp b
 exact (List.getElem_inj hN).mp (e1.trans e2.symm)
theorem wI {M:Model} {A:Around} {E:Ck} {i:Nat} {x:Str} {v:V} {u:Value} {Q:Unit->Shared->Prop} (I:Inv X pins σ H s) (hN:X.N.Nodup) (hi:X.N[i]?=some x) (hx:qi X.env.scope x) (r:RelV v u)
  (h:∀ s',Inv X pins (σ.set i (some v)) H s'->(∃ a,Heap.SameBut a s.heap s'.heap/\(a=X.env.locals\/X.env.cells.lookup x=some a))->Q () s') (hf:X.fn x=true\/X.env.scope.names.lookup x=some .local:=by first | exact .inl rfl | exact .inr rfl | assumption):wpAny M A (storeName X.env x u) Q E s:=by
 obtain ⟨m,hn,hl⟩:=id I.loc
 have hcls:(X.env.scope.kind == .class || (X.env.scope.kind == .module && X.env.locals != X.env.globals))=false:=by rw [I.ok.kind]; rfl
 have hiσ:i < σ.length:=by rw [I.len]; exact (zu.mp hi).1
 have cne:=I.cne
 have tracked:∀ {a:Addr} {h':Heap},(∃ o,s.heap.get? a=some o/\H a=none)->Heap.SameBut a s.heap h'->HOk X.prog X.w H h':=λ{a h'} ha hs b ob e=>by
  obtain ⟨_,_,hfree⟩:=ha
  refine (I.hok b ob e).stay (λc w' hc q=>(hs.2 c ?_).trans q) (λ_ q=>q) λ_ _ q=>q
  rintro rfl
  rcases hc with rfl | hc
  ·rw [hfree] at e; cases e
  ·rw [hfree] at hc; cases hc
 rcases hx with hk | hk
 ·refine wpAny_storeName_local hk hn (λh' hn' hs=>?_) hcls
  obtain ⟨oL,_,_,hoL,_⟩:=id hn
  refine h _ ⟨I.ok,I.os,I.bare,⟨λb o e n hb hx=>?_,λb o e n hb hx=>?_,I.base.free,λb o e hx=>?_,I.base.tups,I.base.frzs,I.base.tbls⟩,⟨_,hn',λj y v' e1 e2 e3=>?_⟩,λy c e=>?_,I.free,I.freeC,λp hp=>?_,tracked ⟨oL,hoL,I.free⟩ hs,by simpa using I.len⟩ ⟨_,hs,.inl rfl⟩
  ·exact (hs.2 b (zD (zt (zA e) I.ok.above))).trans (I.base.keep b o e n hb hx)
  ·obtain ⟨sl,e1⟩:=I.base.slot b o e n hb hx
   exact ⟨sl,(hs.2 b (zD (zt (zA e) I.ok.above))).trans e1⟩
  ·obtain ⟨o',e1⟩:=I.base.there b o e hx
   exact ⟨o',(hs.2 b (zD (zt (zA e) I.ok.above))).trans e1⟩
  ·by_cases hj:j=i
   ·subst hj
    rw [hi] at e1; cases e1
    rw [zF hiσ] at e2
    cases e2
    exact ⟨u,r,.inl ⟨hk,by simp⟩⟩
   ·rw [zy (Ne.symm hj)] at e2
    obtain ⟨u',r',q⟩:=hl j y v' e1 e2 e3
    refine ⟨u',r',?_⟩
    rcases q with ⟨k,e⟩ | ⟨k,c,e,z⟩
    ·refine .inl ⟨k,?_⟩
     have:y≠x:=λe=>hj (xA hN e1 (e ▸ hi))
     simp [this,e]
    ·exact .inr ⟨k,c,e,z.sameBut hs (cne y c e)⟩
  ·obtain ⟨w',z⟩:=I.cell y c e
   exact ⟨w',z.sameBut hs (cne y c e)⟩
  ·obtain ⟨e,n,ne,nf,d⟩:=I.pin p hp
   exact ⟨(hs.2 p.1 ne).trans e,n,ne,nf,d⟩
 ·have hfn:X.fn x=true:=by
   rcases hf with z | z
   ·exact z
   ·rw [z] at hk; cases hk
  obtain ⟨c,hc⟩:=I.ok.has x (.inl hk)
  obtain ⟨w',z⟩:=I.cell x c hc
  refine wpAny_storeName_cell I.ok.kind hk hc z (λh' hc' hs=>?_)
  obtain ⟨oc,hoc,hocd⟩:=id z
  refine h { s with heap:=h' } ⟨I.ok,I.os,I.bare,⟨λb o e n hb hx=>?_,λb o e n hb hx=>?_,I.base.free,λb o e hx=>?_,I.base.tups,I.base.frzs,I.base.tbls⟩,⟨m,hn.sameBut hs (Ne.symm (cne x c hc)),λj y v' e1 e2 e3=>?_⟩,λy c' e=>?_,I.free,I.freeC,λp hp=>?_,tracked ⟨oc,hoc,I.freeC x c hc⟩ hs,by simpa using I.len⟩ ⟨c,hs,.inr hc⟩
  ·exact (hs.2 b (zD (zt (zA e) (I.ok.cab x c hfn hc)))).trans (I.base.keep b o e n hb hx)
  ·obtain ⟨sl,e1⟩:=I.base.slot b o e n hb hx
   exact ⟨sl,(hs.2 b (zD (zt (zA e) (I.ok.cab x c hfn hc)))).trans e1⟩
  ·obtain ⟨o',e1⟩:=I.base.there b o e hx
   exact ⟨o',(hs.2 b (zD (zt (zA e) (I.ok.cab x c hfn hc)))).trans e1⟩
  ·by_cases hj:j=i
   ·subst hj
    rw [hi] at e1; cases e1
    rw [zF hiσ] at e2
    cases e2
    exact ⟨u,r,.inr ⟨.inl hk,c,hc,hc'⟩⟩
   ·rw [zy (Ne.symm hj)] at e2
    obtain ⟨u',r',q⟩:=hl j y v' e1 e2 e3
    refine ⟨u',r',?_⟩
    rcases q with q | ⟨k,c',e,z'⟩
    ·exact .inl q
    ·refine .inr ⟨k,c',e,z'.sameBut hs ?_⟩
     rintro rfl
     exact hj (xA hN e1 (I.ok.inj _ _ _ e hc ▸ hi))
  ·by_cases hcc:c'=c
   ·subst hcc; exact ⟨_,hc'⟩
   ·obtain ⟨w2,z2⟩:=I.cell y c' e
    exact ⟨w2,z2.sameBut hs hcc⟩
  ·obtain ⟨e,n,ne,nf,d⟩:=I.pin p hp
   refine ⟨(hs.2 p.1 ?_).trans e,n,ne,nf,d⟩
   intro q
   rw [q,hoc] at e
   have q':oc=p.2:=zJ e
   exact d w' (by rw [<- q']; exact hocd)
theorem oR {M:Model} {A:Around} {E:Ck} {i:Nat} {x:Str} {v:V} {u:Value} {Q:Unit->Shared->Prop} (I:Inv X pins σ H s) (hN:X.N.Nodup) (hi:X.N[i]?=some x) (hx:qi X.env.scope x) (r:RelV v u)
  (h:∀ s',Inv X pins (σ.set i (some v)) H s'->Q () s') (hf:X.fn x=true\/X.env.scope.names.lookup x=some .local:=by first | exact .inl rfl | exact .inr rfl | assumption):wpAny M A (storeName X.env x u) Q E s :=
 wI I hN hi hx r (λs' I' _=>h s' I') hf
theorem Inv.call' {s':Shared} {ch:List Addr} (I:Inv X pins σ H s) (ho:s'.os=s.os) (u:Un (frs X.stack) ch H H' s.heap s'.heap) (hok:HOk X.prog X.w H' s'.heap) (hg:AllBare s'.gens)
  (hch:∀ b∈ch,(b∈X.ex\/X.s₀.heap.objs.size<=b)/\b≠X.env.locals/\(∀ x c,X.env.cells.lookup x=some c->c≠b)/\∀ p∈X.pn++pins,p.1≠b):Inv X pins σ H' s':=by
 obtain ⟨h',g',d',t',o'⟩:=s'
 have e:o'=s.os:=ho
 subst e
 exact I.call (g':=g') (t':=t') (d':=d') u hok hg hch
end
noncomputable abbrev XK:=Value->Option Addr->Hp->Prop
noncomputable abbrev St:=List (Option V)
noncomputable abbrev VK:=V->Hp->Prop
noncomputable abbrev TE:=St->Hp->VK->Prop
noncomputable abbrev TT:=St->Hp->(Bool->Hp->Prop)->Prop
noncomputable abbrev TA:=St->Hp->(List V->Hp->Prop)->Prop
structure Ends where
 nx:St->Hp->Prop
 rt:VK
 bk:St->Hp->Prop:=λ_ _=>False
 ct:St->Hp->Prop:=λ_ _=>False
noncomputable abbrev TS:=Ends->St->Hp->Prop
def EP (X:Cx) (pins:List (Addr×Obj)) (σ:St) (Q:VK) (u:Value) (s':Shared):Prop:=∃ v H',Inv X pins σ H' s'/\RelV v u/\Q v H'
def TP (X:Cx) (pins:List (Addr×Obj)) (σ:St) (Q:Bool->Hp->Prop) (b:Bool) (s':Shared):Prop:=∃ H',Inv X pins σ H' s'/\Q b H'
def AP (X:Cx) (pins:List (Addr×Obj)) (σ:St) (Q:List V->Hp->Prop) (us:Cn) (s':Shared):Prop:=∃ vs H',Inv X pins σ H' s'/\Vals vs us/\Q vs H'
noncomputable def SP (X:Cx) (pins:List (Addr×Obj)) (D:Ends) (f:Flow) (s':Shared):Prop :=
 match f with
 | .next=>∃ σ' H',Inv X pins σ' H' s'/\D.nx σ' H'
 | .brk=>∃ σ' H',Inv X pins σ' H' s'/\D.bk σ' H'
 | .cont=>∃ σ' H',Inv X pins σ' H' s'/\D.ct σ' H'
 | .ret u=>∃ v σ' H',Inv X pins σ' H' s'/\RelV v u/\D.rt v H'
noncomputable def PE (X:Cx) (e:Expr) (t:TE):Prop :=
 ∀ (pins:List (Addr×Obj)) (s:Shared) (σ:St) (H:Hp) (Q:VK),Inv X pins σ H s->t σ H Q->wpAny (model X.prog X.w) X.A (eval e X.env) (EP X pins σ Q) X.xe s
noncomputable def PT (X:Cx) (e:Expr) (t:TT):Prop :=
 ∀ (pins:List (Addr×Obj)) (s:Shared) (σ:St) (H:Hp) (Q:Bool->Hp->Prop),Inv X pins σ H s->t σ H Q->wpAny (model X.prog X.w) X.A (isTrue e X.env (eval e X.env)) (TP X pins σ Q) X.xe s
noncomputable def PW (X:Cx) (e:Expr) (t:TT):Prop :=
 ∀ (whole:Sem Value) (pins:List (Addr×Obj)) (s:Shared) (σ:St) (H:Hp) (Q:Bool->Hp->Prop),Inv X pins σ H s->t σ H Q->wpAny (model X.prog X.w) X.A (isTrue e X.env whole) (TP X pins σ Q) X.xe s
theorem PW.pt {X:Cx} {e:Expr} {t:TT} (h:PW X e t):PT X e t:=h _
noncomputable def PA (X:Cx) (es:List Expr) (t:TA):Prop :=
 ∀ (pos:Pos) (pins:List (Addr×Obj)) (s:Shared) (σ:St) (H:Hp) (Q:List V->Hp->Prop),Inv X pins σ H s->t σ H Q->wpAny (model X.prog X.w) X.A (spliced (backTo pos (starEach es X.env))) (AP X pins σ Q) X.xe s
noncomputable def PS (X:Cx) (st:Stmt) (t:TS):Prop :=
 ∀ (pins:List (Addr×Obj)) (s:Shared) (σ:St) (H:Hp) (D:Ends),Inv X pins σ H s->t D σ H->wpAny (model X.prog X.w) X.A (exec st X.env) (SP X pins D) X.xe s
noncomputable def PSs (X:Cx) (st:List Stmt) (t:TS):Prop :=
 ∀ (pins:List (Addr×Obj)) (s:Shared) (σ:St) (H:Hp) (D:Ends),Inv X pins σ H s->t D σ H->wpAny (model X.prog X.w) X.A (execs st X.env) (SP X pins D) X.xe s
theorem thn {α:Type} {t:Sem α} {Q Q':α->Shared->Prop} {M:Model} {A:Around} {E:Ck} {s:Shared} (h:wpAny M A t Q E s) (hQ:∀ a s,Q a s->Q' a s):wpAny M A t Q' E s:=wpAny_mono h hQ λ_ _ x=>x
section
variable {X:Cx}
def eD (i:Nat):TE:=λσ H Q=>∃ v,σ[i]?=some (some v)/\Q v H
def tC (v:V):TE:=λ_ H Q=>Q v H
theorem ZhE {i:Nat} {x:Str} {pos:Pos} (hN:X.N[i]?=some x) (hv:vR X.env.scope x) (hd:(x == ("__debug__":Str))=false:=by decide) (hcd:(x == ("__classdict__":Str))=false:=by decide):PE X (.Name x pos) (eD i):=by
 intro pins s σ H Q I h
 obtain ⟨v,e,h⟩:=h
 obtain ⟨m,hn,hl⟩:=I.loc
 obtain ⟨u,r,l⟩:=hl i x v hN e hv
 have fin:EP X pins σ Q u s:=⟨v,H,I,r,h⟩
 rcases l with ⟨hk,hm⟩ | ⟨hk,c,hc,hcell⟩
 ·exact wpAny_Name (wpAny_loadName_local I.ok.kind hk hn hm fin) hd
 ·rcases hk with hk | hk
  ·exact wpAny_Name (wpAny_loadName_cell I.ok.kind hk hc hcell fin) hd
  ·exact wpAny_Name (wpAny_loadName_free I.ok.kind hk hc hcell fin hcd) hd
theorem bS {i j pos}:PE X (.Constant (.int i) j pos) (tC (.int i)):=λ_ _ _ H _ I h=>wpAny_Constant_int ⟨.int i,H,I.tok _,⟨_,rfl⟩,h⟩
theorem Zci {b j pos}:PE X (.Constant (.bool b) j pos) (tC (.bl b)):=λ_ _ _ H _ I h=>Constant_bool ⟨.bl b,H,I,rfl,h⟩
theorem ZhJ {j pos}:PE X (.Constant .none j pos) (tC .non):=λ_ _ _ H _ I h=>Constant_none ⟨.non,H,I,rfl,h⟩
theorem ZhG {x j pos}:PE X (.Constant (.str x) j pos) (tC (.str x)):=λ_ _ _ H _ I h=>Calls.Constant_str ⟨.str x,H,I.tok _,⟨_,rfl⟩,h⟩
def Gl (X:Cx) (x:Str):Prop:=X.env.kindOf x=some .globalImplicit
theorem xO {E:Ck} {pins:List (Addr×Obj)} {s:Shared} {σ:St} {H:Hp} {x:Str} {u:Value} {pos:Pos} {Q:Ck} (I:Inv X pins σ H s) (hg:Gl X x) (hm:X.mg x=some u) (h:Q u s)
  (hd:(x == ("__debug__":Str))=false:=by decide):wpAny (model X.prog X.w) X.A (eval (.Name x pos) X.env) Q E s :=
 By I.ok.kind hg (Calls.loadGlobal_global (by rw [I.ok.glob]; exact I.mod.glob.keeps I.bk) hm h) hd
theorem ij {E:Ck} {pins:List (Addr×Obj)} {s:Shared} {σ:St} {H:Hp} {x:Str} {u:Value} {pos:Pos} {Q:Ck} (I:Inv X pins σ H s) (hg:Gl X x) (hm:X.mg x=none) (hv:bootBuiltins x=some u) (h:Q u s)
  (hn:x≠"__name__":=by decide) (hd:(x == ("__debug__":Str))=false:=by decide):wpAny (model X.prog X.w) X.A (eval (.Name x pos) X.env) Q E s:=by
 obtain ⟨mb,h1,h2⟩:=I.mod.blt
 exact By I.ok.kind hg (Calls.loadGlobal_builtin (by rw [I.ok.glob]; exact I.mod.glob.keeps I.bk) hm (by rw [I.ok.blt]; exact h1.keeps I.bk) ((h2 x hn).trans hv) h) hd
theorem gj {x:Str} {v:V} {u:Value} {pos:Pos} (hg:Gl X x) (hm:X.mg x=some u) (r:RelV v u) (hd:(x == ("__debug__":Str))=false:=by decide):PE X (.Name x pos) (tC v) :=
 λ_ _ _ H _ I h=>xO I hg hm ⟨v,H,I,r,h⟩ hd
theorem ZhP {x:Str} {v:V} {u:Value} {pos:Pos} (hg:Gl X x) (hm:X.mg x=none) (hv:bootBuiltins x=some u) (r:RelV v u) (hn:x≠"__name__":=by decide) (hd:(x == ("__debug__":Str))=false:=by decide):PE X (.Name x pos) (tC v) :=
 λ_ _ _ H _ I h=>ij I hg hm hv ⟨v,H,I,r,h⟩ hn hd
variable {a b:Expr} {ta tb:TE} {pos:Pos}
def tB (t:TE):TT:=λσ H Q=>t σ H λx H1=>∃ c,x=.bl c/\Q c H1
theorem Zhi {e:Expr} {t:TE} (h:PE X e t) (he:∀ whole,isTrue e X.env whole=(do let v <- whole; standAt e.pos; holding [v] (truthy v)):=by intro _; rfl):PT X e (tB t):=by
 intro pins s σ H Q I hw
 refine isTrue_plain (thn (h pins s σ H _ I hw) λv s1 hz0=>?_) (he _)
 obtain ⟨x,H1,I1,r1,q1⟩:=hz0
 obtain ⟨d,rfl,q⟩:=q1
 cases r1
 exact wpAny_truthy_bool ⟨H1,I1,q⟩
variable {tA tB':TT} {rest:List Expr}
def Zgd (t u:TT):TT:=λσ H Q=>t σ H λc H1=>if c=true then u σ H1 Q else Q false H1
def tOr (t u:TT):TT:=λσ H Q=>t σ H λc H1=>if c=true then Q true H1 else u σ H1 Q
def Zf3 (t:TT):TT:=λσ H Q=>t σ H λc H1=>Q (!c) H1
theorem Zb4 (ha:PT X a tA):PW X (.BoolOp .And [a] pos) tA:=by
 intro wh pins s σ H Q I h
 refine isTrue_and (thn (ha pins s σ H Q I h) λc s1 e=>?_)
 cases c with
 | true=>exact isTrue_and_nil e
 | false=>exact e
theorem Zhf (ha:PT X a tA):PW X (.BoolOp .Or [a] pos) tA:=by
 intro wh pins s σ H Q I h
 refine isTrue_or (thn (ha pins s σ H Q I h) λc s1 e=>?_)
 cases c with
 | false=>exact isTrue_or_nil e
 | true=>exact e
theorem Zb5 (ha:PT X a tA) (hb:PW X (.BoolOp .And (b::rest) pos) tB'):PW X (.BoolOp .And (a::b::rest) pos) (Zgd tA tB'):=by
 intro wh pins s σ H Q I h
 refine isTrue_and (thn (ha pins s σ H _ I h) λc s1 hz0=>?_)
 obtain ⟨H1,I1,q1⟩:=hz0
 cases c with
 | true=>exact hb wh pins s1 σ H1 Q I1 q1
 | false=>exact ⟨H1,I1,q1⟩
theorem Zhg (ha:PT X a tA) (hb:PW X (.BoolOp .Or (b::rest) pos) tB'):PW X (.BoolOp .Or (a::b::rest) pos) (tOr tA tB'):=by
 intro wh pins s σ H Q I h
 refine isTrue_or (thn (ha pins s σ H _ I h) λc s1 hz0=>?_)
 obtain ⟨H1,I1,q1⟩:=hz0
 cases c with
 | true=>exact ⟨H1,I1,q1⟩
 | false=>exact hb wh pins s1 σ H1 Q I1 q1
theorem Zhk (ha:PT X a tA):PT X (.UnaryOp .Not a pos) (Zf3 tA):=by
 intro pins s σ H Q I h
 exact isTrue_not (ha pins s σ H (λc H1=>Q (!c) H1) I h)
def Zgc (ta tb:TE):TE:=λσ H Q=>ta σ H λx H1=>∃ c,x=.bl c/\if c=true then tb σ H1 Q else Q (.bl false) H1
theorem ZhI {op} {t:TE} (h:PE X a t):PE X (.BoolOp op [a] pos) t:=λpins s σ H Q I hw=>BoolOp_one (h pins s σ H Q I hw)
theorem ZhQ (ha:PE X a ta) (hb:PE X (.BoolOp .And (b::rest) pos) tb):PE X (.BoolOp .And (a::b::rest) pos) (Zgc ta tb):=by
 intro pins s σ H Q I h
 refine BoolOp_and (thn (ha pins s σ H _ I h) λv s1 hz0=>?_)
 obtain ⟨x,H1,I1,r1,q1⟩:=hz0
 obtain ⟨c,rfl,q1⟩:=q1
 cases r1
 refine wpAny_truthy_bool ?_
 cases c with
 | true=>exact hb pins s1 σ H1 Q I1 q1
 | false=>exact ⟨.bl false,H1,I1,rfl,q1⟩
def tIf (t:TT) (ta tb:TE):TE:=λσ H Q=>t σ H λc H1=>if c=true then ta σ H1 Q else tb σ H1 Q
theorem ZhK {c:Expr} (hc:PT X c tA) (ha:PE X a ta) (hb:PE X b tb):PE X (.IfExp c a b pos) (tIf tA ta tb):=by
 intro pins s σ H Q I h
 refine wpAny_IfExp (thn (hc pins s σ H _ I h) λd s1 hz0=>?_)
 obtain ⟨H1,I1,q1⟩:=hz0
 cases d with
 | true=>exact ha pins s1 σ H1 Q I1 q1
 | false=>exact hb pins s1 σ H1 Q I1 q1
end
noncomputable def SqL (K:Cb) (H:Hp) (a:Addr) (xs:Cp):Prop :=
 Rd H a (.lst xs) \/
  ∃ (o:Obj) (its:Array Value) (n:Nat),K.lookup a=some o/\o.cls=.type "list"/\o.dict=none/\o.data=.seq its n/\its.size<=sizeLine/\Vals xs its.toList
noncomputable def SqT (K:Cb) (H:Hp) (a:Addr) (xs:Cp):Prop :=
 Rd H a (.tup xs) \/
  ∃ (o:Obj) (its:Array Value) (n:Nat),K.lookup a=some o/\o.cls=.type "tuple"/\o.data=.seq its n/\its.size<=sizeLine/\Vals xs its.toList
noncomputable def Zmn:Value->Option V
 | .none=>some .non
 | .bool b=>some (.bl b)
 | .int i _=>some (.int i)
 | .str x _=>some (.str x)
 | .bytes b _=>some (.byt b)
 | .float b _=>some (.flt b)
 | .ref a=>some (.ref a)
 | .type n=>some (.ty n)
 | _=>none
theorem RelV.abs {x:V} {u:Value} (r:RelV x u):Zmn u=some x:=by
 cases x with
 | non=>cases r; rfl
 | bl _=>cases r; rfl
 | int _=>obtain ⟨t,rfl⟩:=r; rfl
 | str _=>obtain ⟨t,rfl⟩:=r; rfl
 | byt _=>obtain ⟨t,rfl⟩:=r; rfl
 | flt _=>obtain ⟨t,rfl⟩:=r; rfl
 | ref _=>cases r; rfl
 | ty _=>cases r; rfl
theorem RelV.inj {x y:V} {u:Value} (r:RelV x u) (q:RelV y u):x=y:=zJ (r.abs.symm.trans q.abs)
theorem Vals.inj {xs ys:Cp} {us:Cn} (h:Vals xs us) (h':Vals ys us):xs=ys:=by
 induction h generalizing ys with
 | nil=>cases h'; rfl
 | cons r t ih=>cases h' with | cons r' t'=>rw [r.inj r',ih t']
section
variable {X:Cx} {pins:List (Addr×Obj)} {σ:St} {H:Hp} {s:Shared} {a:Addr} {xs ys:Cp}
theorem SqL.of {K:Cb} (h:H a=some (.lst xs)):SqL K H a xs:=.inl (.inl h)
theorem SqT.of {K:Cb} (h:H a=some (.tup xs)):SqT K H a xs:=.inl (.inl h)
theorem Inv.list (I:Inv X pins σ H s) (h:SqL X.K H a xs):∃ its:Cn,Vals xs its/\PlainL s.heap a its.toArray/\xs.length<=sizeLine:=by
 rcases h with h | ⟨o,its,n,hk,hc,hd,hs,hz,r⟩
 ·obtain ⟨z,its,n,r,e⟩:=h.ok I.hok
  exact ⟨its,r,⟨_,n,e,rfl,rfl,rfl⟩,z⟩
 ·refine ⟨its.toList,r,⟨o,n,I.kIn a o hk,hc,hd,by simpa using hs⟩,?_⟩
  have e:=r.length
  simp only [A6] at e
  omega
theorem Inv.tuple (I:Inv X pins σ H s) (h:SqT X.K H a xs):∃ its:Cn,Vals xs its/\IsTup s.heap a its.toArray/\xs.length<=sizeLine:=by
 rcases h with h | ⟨o,its,n,hk,hc,hs,hz,r⟩
 ·obtain ⟨z,its,r,p⟩:=h.ok I.hok
  exact ⟨its,r,p,z⟩
 ·refine ⟨its.toList,r,⟨o,I.kIn a o hk,hc,n,by simpa using hs⟩,?_⟩
  have e:=r.length
  simp only [A6] at e
  omega
theorem Inv.list_inj (I:Inv X pins σ H s) (h:SqL X.K H a xs) (h':SqL X.K H a ys):xs=ys:=by
 obtain ⟨its,r,⟨o,n,e,_,_,d⟩,_⟩:=I.list h
 obtain ⟨its',r',⟨o',n',e',_,_,d'⟩,_⟩:=I.list h'
 rw [e] at e'; cases e'
 rw [d] at d'
 injection d' with d1 _
 have:its=its':=by simpa using congrArg Array.toList d1
 subst this
 exact r.inj r'
theorem Inv.tuple_inj (I:Inv X pins σ H s) (h:SqT X.K H a xs) (h':SqT X.K H a ys):xs=ys:=by
 obtain ⟨its,r,⟨o,e,_,n,d⟩,_⟩:=I.tuple h
 obtain ⟨its',r',⟨o',e',_,n',d'⟩,_⟩:=I.tuple h'
 rw [e] at e'; cases e'
 rw [d] at d'
 injection d' with d1 _
 have:its=its':=by simpa using congrArg Array.toList d1
 subst this
 exact r.inj r'
end
noncomputable abbrev Cx.wish (X:Cx) (E:Ck):Cx:={ X with xe:=E }
noncomputable abbrev Cx.nox (X:Cx):Cx:=X.wish λ_ _=>False
theorem Cx.Ok.wish {X:Cx} (ok:X.Ok) (E:Ck):(X.wish E).Ok :=
 ⟨ok.mod,ok.kind,ok.glob,ok.blt,ok.above,ok.inj,ok.has,ok.cab,ok.hd,ok.frames,ok.stk,ok.exf,ok.bs,ok.bsz,ok.noex,ok.exfs,ok.funs,ok.frf⟩
theorem Cx.Ok.unwish {X:Cx} {E:Ck} (ok:(X.wish E).Ok):X.Ok :=
 ⟨ok.mod,ok.kind,ok.glob,ok.blt,ok.above,ok.inj,ok.has,ok.cab,ok.hd,ok.frames,ok.stk,ok.exf,ok.bs,ok.bsz,ok.noex,ok.exfs,ok.funs,ok.frf⟩
section
variable {X:Cx} {pins:List (Addr×Obj)} {σ:St} {H:Hp} {s:Shared} {E:Ck}
theorem Inv.wish (I:Inv X pins σ H s) (E:Ck):Inv (X.wish E) pins σ H s:=⟨I.ok.wish E,I.os,I.bare,I.base,I.loc,I.cell,I.free,I.freeC,I.pin,I.hok,I.len⟩
theorem Inv.unwish (I:Inv (X.wish E) pins σ H s):Inv X pins σ H s:=⟨I.ok.unwish,I.os,I.bare,I.base,I.loc,I.cell,I.free,I.freeC,I.pin,I.hok,I.len⟩
theorem SP.unwish {D:Ends} {f:Flow} {s':Shared} (h:SP (X.wish E) pins D f s'):SP X pins D f s':=by
 cases f with
 | next=>obtain ⟨σ',H',I,q⟩:=h; exact ⟨σ',H',I.unwish,q⟩
 | brk=>obtain ⟨σ',H',I,q⟩:=h; exact ⟨σ',H',I.unwish,q⟩
 | cont=>obtain ⟨σ',H',I,q⟩:=h; exact ⟨σ',H',I.unwish,q⟩
 | ret u=>obtain ⟨v,σ',H',I,r,q⟩:=h; exact ⟨v,σ',H',I.unwish,r,q⟩
theorem PSs.nox {st:List Stmt} {t:TS} (h:PSs X.nox st t):PSs X st t:=λpins s σ H D I hw =>
 wpAny_mono (h pins s σ H D (I.wish _) hw) (λ_ _ q=>q.unwish) λ_ _ z=>False.elim z
end
section
variable {X:Cx} {st:Stmt} {rest:List Stmt} {t u:TS} {e:Expr} {te:TE} {pos:Pos}
def Zf5:TS:=λD σ H=>D.nx σ H
def ZaD (t u:TS):TS:=λD σ H=>t { D with nx:=u D } σ H
theorem pb:PSs X [] Zf5:=λ_ _ σ H _ I h=>wpAny_execs_nil ⟨σ,H,I,h⟩
theorem dq (h1:PS X st t) (h2:PSs X rest u):PSs X (st::rest) (ZaD t u):=by
 intro pins s σ H D I h
 refine wpAny_execs_cons (thn (h1 pins s σ H { D with nx:=u D } I h) λf s1 q=>?_)
 cases f with
 | next =>
  obtain ⟨σ',H',I',q⟩:=q
  exact h2 pins s1 σ' H' D I' q
 | ret v=>exact q
 | brk=>exact q
 | cont=>exact q
theorem fr (h1:PS X st t):PSs X [st] t:=by
 intro pins s σ H D I h
 refine wpAny_execs_cons (thn (h1 pins s σ H D I h) λf s1 q=>?_)
 cases f with
 | next=>exact wpAny_execs_nil q
 | ret v=>exact q
 | brk=>exact q
 | cont=>exact q
theorem Inv.quiet {pins:List (Addr×Obj)} {σ:St} {H:Hp} {s:Shared} (I:Inv X pins σ H s):interactive X.env=false:=by simp [interactive,I.ok.kind]
def sO (te:TE):TS:=λD σ H=>te σ H λ_ H1=>D.nx σ H1
theorem gh (he:PE X e te) (hs:swapsWith e none pos.line X.env=pure false:=by rfl):PS X (.Expr e pos) (sO te):=by
 intro pins s σ H D I h
 exact wpAny_Expr_any (thn (he pins s σ H _ I h) λv s1 ⟨x,H1,I1,r1,q1⟩=>⟨σ,H1,I1,q1⟩) I.quiet hs
def Zf0 (te:TE):TS:=λD σ H=>te σ H D.rt
theorem gg (he:PE X e te):PS X (.Return (some e) pos) (Zf0 te):=by
 intro pins s σ H D I h
 exact wpAny_Return_some (thn (he pins s σ H _ I h) λv s1 ⟨x,H1,I1,r1,q1⟩=>⟨x,σ,H1,I1,r1,q1⟩)
def ZaG (c:TT) (t u:TS):TS:=λD σ H=>c σ H λb H1=>if b=true then t D σ H1 else u D σ H1
theorem pd {c:Expr} {a b:List Stmt} {tc:TT} (hc:PT X c tc) (ha:PSs X a t) (hb:PSs X b u):PS X (.If c a b pos) (ZaG tc t u):=by
 intro pins s σ H D I h
 refine wpAny_If (thn (hc pins s σ H _ I h) λd s1 hz0=>?_)
 obtain ⟨H1,I1,q1⟩:=hz0
 cases d with
 | true=>exact ha pins s1 σ H1 D I1 q1
 | false=>exact hb pins s1 σ H1 D I1 q1
def Zf6:TS:=λ_ _ _=>False
theorem Zhl {sts:List Stmt}:PSs X sts Zf6:=λ_ _ _ _ _ _ h=>h.elim
end
noncomputable abbrev TG:=V->St->Hp->(St->Hp->Prop)->Prop
noncomputable abbrev gK:=List V->St->Hp->(St->Hp->Prop)->Prop
noncomputable def PG (X:Cx) (target:Expr) (t:TG):Prop :=
 ∀ (pins:List (Addr×Obj)) (s:Shared) (σ:St) (H:Hp) (v:V) (u:Value) (Q:St->Hp->Prop),Inv X pins σ H s->RelV v u->t v σ H Q ->
  wpAny (model X.prog X.w) X.A (assign target X.env u) (λ_ s'=>∃ σ' H',Inv X pins σ' H' s'/\Q σ' H') X.xe s
noncomputable def PGs (X:Cx) (ts:List Expr) (t:gK):Prop :=
 ∀ (pins:List (Addr×Obj)) (s:Shared) (σ:St) (H:Hp) (vs:Cp) (us:Cn) (Q:St->Hp->Prop),Inv X pins σ H s->Vals vs us->t vs σ H Q ->
  wpAny (model X.prog X.w) X.A (assignInOrder ((assignEach ts X.env).map (·.2)) us) (λ_ s'=>∃ σ' H',Inv X pins σ' H' s'/\Q σ' H') X.xe s
noncomputable abbrev su:=V->V->V->Hp->(Hp->Prop)->Prop
noncomputable def zd (X:Cx) (t:su):Prop :=
 ∀ (pins:List (Addr×Obj)) (s:Shared) (σ:St) (H:Hp) (o i v:V) (ov iv u:Value) (Q:Hp->Prop),Inv X pins σ H s->RelV o ov->RelV i iv->RelV v u->t o i v H Q ->
  wpAny (model X.prog X.w) X.A (setItem ov iv u) (λ_ s'=>∃ H',Inv X pins σ H' s'/\Q H') X.xe s
noncomputable abbrev qf:=V->V->Hp->VK->Prop
noncomputable def vU (X:Cx) (op:Operator) (t:qf):Prop :=
 ∀ (pins:List (Addr×Obj)) (s:Shared) (σ:St) (H:Hp) (x y:V) (v u:Value) (Q:VK),Inv X pins σ H s->RelV x v->RelV y u->t x y H Q ->
  wpAny (model X.prog X.w) X.A (inplaceOp op v u) (EP X pins σ Q) X.xe s
section
variable {X:Cx} {pos:Pos}
def eM (i:Nat):TG:=λv σ H Q=>Q (σ.set i (some v)) H
theorem aT {i:Nat} {x:Str} (hN:X.N.Nodup) (hi:X.N[i]?=some x) (hx:qi X.env.scope x) (hf:X.fn x=true\/X.env.scope.names.lookup x=some .local:=by first | exact .inl rfl | exact .inr rfl | assumption):PG X (.Name x pos) (eM i):=by
 intro pins s σ H v u Q I r h
 exact wpAny_assign_Name (oR I hN hi hx r (λs' I'=>⟨_,H,I',h⟩) hf)
noncomputable def ZjG:gK:=λvs σ H Q=>vs=[]/\Q σ H
noncomputable def ZjI (t:TG) (u:gK):gK:=λvs σ H Q=>∃ v r,vs=v::r/\t v σ H λσ' H'=>u r σ' H' Q
theorem ZhB:PGs X [] ZjG:=by
 intro pins s σ H vs us Q I r h
 obtain ⟨e,h⟩:=h
 subst e
 cases r
 exact assignInOrder_nil ⟨σ,H,I,h⟩
theorem ZhC {e:Expr} {es:List Expr} {t:TG} {u:gK} (h1:PG X e t) (h2:PGs X es u)
  (hs:(assignEach (e::es) X.env).map (·.2)=assign e X.env::(assignEach es X.env).map (·.2):=by rfl):PGs X (e::es) (ZjI t u):=by
 intro pins s σ H vs us Q I r h
 obtain ⟨v,vr,e1,h⟩:=h
 subst e1
 cases r with
 | cons r rr =>
  rw [hs]
  refine assignInOrder_cons (thn (h1 pins s σ H _ _ _ I r h) λ_ s1 hz0=>?_)
  obtain ⟨σ1,H1,I1,q1⟩:=hz0
  exact h2 pins s1 σ1 H1 _ _ Q I1 rr q1
def ZjF (K:Cb) (n:Nat) (t:gK):TG:=λv σ H Q=>∃ a xs,v=.ref a/\SqT K H a xs/\xs.length=n/\t xs σ H Q
theorem ZhD {es:List Expr} {k:Nat} {t:gK} {n:Nat} (hc:X.calm=true) (h:PGs X es t)
  (hn:(assignEach es X.env).length=n:=by rfl) (hst:(assignEach es X.env).findIdx? (·.1)=none:=by rfl):PG X (.Tuple es k pos) (ZjF X.K n t):=by
 intro pins s σ H v u Q I r hw
 obtain ⟨a,xs,e1,hq,hl,hw⟩:=hw
 subst e1
 cases r
 obtain ⟨its,rv,ht,hz⟩:=I.tuple hq
 refine assign_Tuple_tuple (I.ok.hd hc) ht (by simp [hn,<- hl,rv.length]) hst λh' hx=>?_
 have I1:Inv X pins σ H { s with heap:=h' }:=I.kept (t':=s.toks) λb o e=>hx b o (zD (zA e)) e
 exact h pins _ σ H xs _ Q I1 (by simpa using rv) hw
def Zdn (to ti:TE) (t:su):TG:=λv σ H Q=>to σ H λo H1=>ti σ H1 λi H2=>t o i v H2 λH3=>Q σ H3
theorem qT {o i:Expr} {to ti:TE} {t:su} (ho:PE X o to) (hi:PE X i ti) (hs:zd X t)
  (ha:∀ v,assign (.Subscript o i pos) X.env v=(do
   let ov <- holding [v] (eval o X.env)
   let iv <- holding [v,ov] (eval i X.env)
   standAt pos
   holding [v,ov,iv] (setItem ov iv v)
   release [v,ov,iv] []):=by intro _; rfl):PG X (.Subscript o i pos) (Zdn to ti t):=by
 intro pins s σ H v u Q I r h
 rw [ha]
 refine wpAny_bind (wpAny_holding (thn (ho pins s σ H _ I h) λov s1 hz0=>?_))
 obtain ⟨x,H1,I1,r1,q1⟩:=hz0
 refine wpAny_bind (wpAny_holding (thn (hi pins s1 σ H1 _ I1 q1) λiv s2 hz0=>?_))
 obtain ⟨y,H2,I2,r2,q2⟩:=hz0
 refine wpAny_bind (wpAny_standAt (wpAny_bind (wpAny_holding (thn (hs pins s2 σ H2 x y v ov iv u _ I2 r1 r2 r q2) λ_ s3 hz0=>?_))))
 obtain ⟨H3,I3,q3⟩:=hz0
 exact wpAny_release ⟨σ,H3,I3,q3⟩
def dR (te:TE) (g:TG):TS:=λD σ H=>te σ H λx H1=>g x σ H1 D.nx
theorem fP {tg e:Expr} {te:TE} {g:TG} (he:PE X e te) (hg:PG X tg g) (hs:swapsWithSole [tg] e pos.line X.env=pure false:=by rfl) (hw:swappedStores [tg] e X.env=pure none:=by rfl)
  (h1:(assignEach [tg] X.env).map (·.2)=[assign tg X.env]:=by rfl):PS X (.Assign [tg] e pos) (dR te g):=by
 intro pins s σ H D I h
 refine wpAny_Assign_stores (thn (he pins s σ H _ I h) λv s1 hz0=>?_) hs hw
 obtain ⟨x,H1,I1,r1,q1⟩:=hz0
 rw [h1]
 exact thn (hg pins s1 σ H1 x v _ I1 r1 q1) λ_ s2 q=>q
theorem aJ {i:Nat} {x:Str} {e:Expr} {te:TE} {pos':Pos} (hN:X.N.Nodup) (hi:X.N[i]?=some x) (hx:qi X.env.scope x) (he:PE X e te) (hs:swapsWith e (some (.Name x pos')) pos.line X.env=pure false:=by rfl) (hf:X.fn x=true\/X.env.scope.names.lookup x=some .local:=by first | exact .inl rfl | exact .inr rfl | assumption) :
  PS X (.Assign [.Name x pos'] e pos) (dR te (eM i)):=by
 intro pins s σ H D I h
 refine wpAny_Assign_Name (thn (he pins s σ H _ I h) λv s1 hz0=>?_) hs
 obtain ⟨y,H1,I1,r1,q1⟩:=hz0
 exact oR I1 hN hi hx r1 (λs2 I2=>⟨_,H1,I2,q1⟩) hf
def ZaF (i j:Nat) (ta:TA):TS:=λD σ H=>ta σ H λvs H1=>∃ v w,vs=[v,w]/\D.nx ((σ.set i (some v)).set j (some w)) H1
theorem ue {i j:Nat} {x y:Str} {a b:Expr} {ta:TA} {px py pt:Pos} {kt k2 pt2} (hc:X.calm=true) (hN:X.N.Nodup) (hi:X.N[i]?=some x) (hj:X.N[j]?=some y) (hij:i≠j)
  (hx:X.env.scope.names.lookup x=some .local) (hy:X.env.scope.names.lookup y=some .local) (ha:PA X [a,b] ta)
  (hw:swappedStores [.Tuple [.Name x px,.Name y py] kt pt] (.Tuple [a,b] k2 pt2) X.env=pure (some [x,y]))
  (hs:swapsWithSole [.Tuple [.Name x px,.Name y py] kt pt] (.Tuple [a,b] k2 pt2) pos.line X.env=pure false:=by rfl) :
  PS X (.Assign [.Tuple [.Name x px,.Name y py] kt pt] (.Tuple [a,b] k2 pt2) pos) (ZaF i j ta):=by
 intro pins s σ H D I h
 rw [exec_Assign_arm]
 refine wpAny_bind (wpAny_standAt ?_)
 rw [hs]
 refine wpAny_bind (wpAny_pure ?_)
 rw [if_neg (by decide)]
 refine wpAny_bind (Tuple_ (thn (ha _ pins s σ H _ I h) λus s1 hz0=>?_))
 obtain ⟨vs,H1,I1,r1,q1⟩:=hz0
 obtain ⟨v,w,e1,q1⟩:=q1
 subst e1
 obtain ⟨u1,u2,rfl,rv,rw'⟩:∃ u1 u2,us=[u1,u2]/\RelV v u1/\RelV w u2:=by
  cases r1 with
  | cons p q =>
   cases q with
   | cons p' q' =>
    cases q'
    exact ⟨_,_,rfl,p,p'⟩
 refine wpAny_newObj_type ?_ (by show 2<=sizeLine; decide)
 have I2:Inv X pins σ H1 { s1 with heap:=s1.heap.push { cls:=.type "tuple",data:=.seq [u1,u2].toArray } }:=I1.kept (t':=s1.toks) λb o e=>pi _ e
 rw [hw]
 refine wpAny_bind (wpAny_pure ?_)
 show wpAny (model X.prog X.w) X.A (do rule "assign.swapped-stores"; let items <- unpackItems (.ref s1.heap.objs.size) 2 none; assignInOrder [λv=>bindName X.env y v,λv=>bindName X.env x v] items.reverse; pure Flow.next) _ _ _
 refine wpAny_bind (wpAny_rule (wpAny_bind (unpackItems_tuple (items:=#[u1,u2]) (I.ok.hd hc) (IsTup.new s1.heap _) λh' hx'=>?_)))
 have I3:=I2.kept (h':=h') (t':=s1.toks) λb o e=>hx' b o (zD (zA e)) e
 show wpAny _ _ (assignInOrder [λv=>bindName X.env y v,λv=>bindName X.env x v] [u2,u1] >>= λ_=>pure Flow.next) _ _ _
 refine wpAny_bind (assignInOrder_cons (wpAny_bindName (oR I3 hN hj (.inl hy) rw' (λs2 I4=>?_) (.inr hy))))
 refine assignInOrder_cons (wpAny_bindName (oR I4 hN hi (.inl hx) rv (λs3 I5=>assignInOrder_nil (wpAny_pure ?_)) (.inr hx)))
 rw [List.set_comm _ _ (Ne.symm hij)] at I5
 exact ⟨_,H1,I5,q1⟩
def ZaM (i:Nat) (te:TE) (ti:qf):TS:=λD σ H=>∃ x,σ[i]?=some (some x)/\te σ H λy H1=>ti x y H1 λz H2=>D.nx (σ.set i (some z)) H2
theorem Zb7 {i:Nat} {x:Str} {e:Expr} {te:TE} {op:Operator} {ti:qf} {pos':Pos} (hN:X.N.Nodup) (hi:X.N[i]?=some x) (hx:qi X.env.scope x) (he:PE X e te) (ho:vU X op ti) (hf:X.fn x=true\/X.env.scope.names.lookup x=some .local:=by first | exact .inl rfl | exact .inr rfl | assumption) :
  PS X (.AugAssign (.Name x pos') op e pos) (ZaM i te ti):=by
 intro pins s σ H D I h
 obtain ⟨v,e1,h⟩:=h
 obtain ⟨m,hn,hl⟩:=I.loc
 have vis:vR X.env.scope x:=by rcases hx with k | k; exact .inl k; exact .inr (.inl k)
 obtain ⟨u,r,l⟩:=hl i x v hi e1 vis
 refine wpAny_AugAssign_Name ?_
 have go:wpAny (model X.prog X.w) X.A (eval e X.env) (λw s₂=>wpAny (model X.prog X.w) X.A (inplaceOp op u w) (λr s₃=>wpAny (model X.prog X.w) X.A (storeName X.env x r) (λ_=>SP X pins D .next) X.xe s₃) X.xe s₂) X.xe s:=by
  refine thn (he pins s σ H _ I h) λw s1 hz0=>?_
  obtain ⟨y,H1,I1,r1,q1⟩:=hz0
  refine thn (ho pins s1 σ H1 v y u w _ I1 r r1 q1) λz s2 hz0=>?_
  obtain ⟨zv,H2,I2,r2,q2⟩:=hz0
  exact oR I2 hN hi hx r2 (λs3 I3=>⟨_,H2,I3,q2⟩) hf
 rcases l with ⟨hk,hm⟩ | ⟨hk,c,hc,hcell⟩
 ·exact wpAny_loadName_local I.ok.kind hk hn hm go
 ·rcases hk with hk | hk
  ·exact wpAny_loadName_cell I.ok.kind hk hc hcell go
  ·rcases hx with k | k
   ·have:X.env.scope.names.lookup x=some .free:=hk
    rw [k] at this; cases this
   ·have:X.env.scope.names.lookup x=some .free:=hk
    rw [k] at this; cases this
def ZaL (to ti te:TE) (tget:V->V->Hp->VK->Prop) (tip:qf) (tset:su):TS:=λD σ H=>to σ H λo H1=>ti σ H1 λi H2=>tget o i H2 λx H3=>te σ H3 λy H4=>tip x y H4 λz H5=>tset o i z H5 λH6=>D.nx σ H6
noncomputable def Zff (X:Cx) (t:V->V->Hp->VK->Prop):Prop :=
 ∀ (pins:List (Addr×Obj)) (s:Shared) (σ:St) (H:Hp) (o i:V) (ov iv:Value) (Q:VK),Inv X pins σ H s->RelV o ov->RelV i iv->t o i H Q ->
  wpAny (model X.prog X.w) X.A (getItem ov iv) (EP X pins σ Q) X.xe s
theorem Zhu {o i e:Expr} {to ti te:TE} {tget:V->V->Hp->VK->Prop} {tip:qf} {tset:su} {op:Operator} {tpos:Pos} (ho:PE X o to) (hi:PE X i ti) (hg:Zff X tget) (he:PE X e te) (hp:vU X op tip) (hs:zd X tset)
  (ha:∀ ov iv new,augStore i ov iv new=(do holding [new,ov,iv] (setItem ov iv new); release [new,ov,iv] []; pure .next):=by intros; rfl):PS X (.AugAssign (.Subscript o i tpos) op e pos) (ZaL to ti te tget tip tset):=by
 intro pins s σ H D I h
 refine wpAny_AugAssign_SubscriptAny (thn (ho pins s σ H _ I h) λov s1 hz0=>?_) ha
 obtain ⟨x1,H1,I1,r1,q1⟩:=hz0
 refine thn (hi pins s1 σ H1 _ I1 q1) λiv s2 hz0=>?_
 obtain ⟨x2,H2,I2,r2,q2⟩:=hz0
 refine thn (hg pins s2 σ H2 x1 x2 ov iv _ I2 r1 r2 q2) λold s3 hz0=>?_
 obtain ⟨x3,H3,I3,r3,q3⟩:=hz0
 refine thn (he pins s3 σ H3 _ I3 q3) λv s4 hz0=>?_
 obtain ⟨x4,H4,I4,r4,q4⟩:=hz0
 refine thn (hp pins s4 σ H4 x3 x4 old v _ I4 r3 r4 q4) λnew s5 hz0=>?_
 obtain ⟨x5,H5,I5,r5,q5⟩:=hz0
 exact thn (hs pins s5 σ H5 x1 x2 x5 ov iv new _ I5 r1 r2 r5 q5) λ_ s6 hz0=>by
  obtain ⟨H6,I6,q6⟩:=hz0
  exact ⟨σ,H6,I6,q6⟩
noncomputable def ipI (f:Int->Int->Int):qf:=λx y H Q=>∃ i j,x=.int i/\y=.int j/\Q (.int (f i j)) H
theorem Zjm:vU X .Add (ipI λi j=>i+j):=by
 intro pins s σ H x y v u Q I r1 r2 h
 obtain ⟨i,j,e1,e2,q⟩:=h
 subst e1; subst e2
 obtain ⟨t,rfl⟩:=r1
 obtain ⟨t',rfl⟩:=r2
 exact iadd_int ⟨.int _,H,I.tok _,⟨_,rfl⟩,q⟩
end
section
variable {X:Cx} {pos:Pos}
def ZfR (c:TT) (tb:TS):TS:=λD σ H=>∃ W:Nat->St->Hp->Prop,(∃ m,W m σ H)/\∀ m σ H,W m σ H ->
 c σ H λb H1=>if b=true then ∃ N:St->Hp->Prop,(∀ σ' H',N σ' H'->∃ m',m' < m/\W m' σ' H')/\tb { D with nx:=N,ct:=N,bk:=D.nx } σ H1 else D.nx σ H1
theorem Zhn {c:Expr} {body:List Stmt} {tc:TT} {tb:TS} (hp:PassesOwn (model X.prog X.w) X.A X.env X.xe) (hc:PT X c tc) (hb:PSs X body tb):PS X (.While c body [] pos) (ZfR tc tb):=by
 intro pins s σ H D I h
 obtain ⟨W,⟨m0,w0⟩,turn⟩:=h
 refine wpAny_While (codeAny_whileLoop (λn s'=>∃ σ' H',Inv X pins σ' H' s'/\W n σ' H') ?_ m0 ⟨σ,H,I,w0⟩)
 rintro n s1 ⟨σ1,H1,I1,w1⟩
 refine wpAny_passesOwn hp (thn (hc pins s1 σ1 H1 _ I1 (turn n σ1 H1 w1)) λb s2 hz0=>?_)
 obtain ⟨H2,I2,q2⟩:=hz0
 cases b with
 | true =>
  obtain ⟨N,hN,q2⟩:=q2
  rw [if_pos rfl]
  refine wpAny_passesOwn hp (thn (hb pins s2 σ1 H2 _ I2 q2) λf s3 q3=>?_)
  cases f with
  | next =>
   obtain ⟨σ3,H3,I3,n3⟩:=q3
   obtain ⟨m',hm,w3⟩:=hN σ3 H3 n3
   exact ⟨m',hm,σ3,H3,I3,w3⟩
  | cont =>
   obtain ⟨σ3,H3,I3,n3⟩:=q3
   obtain ⟨m',hm,w3⟩:=hN σ3 H3 n3
   exact ⟨m',hm,σ3,H3,I3,w3⟩
  | brk=>exact q3
  | ret v=>exact q3
 | false =>
  rw [if_neg zC]
  exact wpAny_execs_nil ⟨σ1,H2,I2,q2⟩
end
structure It where
 go:Nat->Hp->Prop
 yld:Nat->Hp->V->Hp->Prop
 stop:Nat->Hp->Prop
noncomputable def fh (X:Cx) (pins:List (Addr×Obj)) (H:Hp) (b:Addr):Prop :=
 H b=none/\b≠X.env.locals/\b ∉ X.fs/\(b∈X.ex\/X.s₀.heap.objs.size<=b)/\(∀ x c,X.env.cells.lookup x=some c->c≠b)/\∀ p∈X.pn++pins,p.1≠b
theorem Inv.fpOk {X:Cx} {pins:List (Addr×Obj)} {σ:St} {H H':Hp} {s:Shared} {b:Addr} (I:Inv X pins σ H s) (hb:s.heap.objs.size<=b) (hn:H' b=none):fh X pins H' b:=by
 refine ⟨hn,zY (zt I.lt hb),I.nofs hb,.inr (zE I.sz hb),λx c e z=>?_,λp hp z=>?_⟩
 ·obtain ⟨v,q⟩:=I.cell x c e
  exact absurd (zt q.lt (by rw [z]; exact hb)) (zK _)
 ·exact absurd (zt (zA (I.pin p hp).1) (by rw [z]; exact hb)) (zK _)
structure Turn (P:Program) (w:World) (K:Cb) (tg:Expr) (J:It) (fp:List Addr) (it:Addr) (tn:Nat->Heap->Prop):Prop where
 mem:it∈fp
 obj:∀ i h,tn i h->∀ b∈fp,∃ o,h.get? b=some o/\∀ v,o.data≠.cell v
 keep:∀ i h h',tn i h->(∀ b∈fp,∀ o,h.get? b=some o->h'.get? b=some o)->tn i h'
 item:∀ (X:Cx),X.prog=P->X.w=w->X.K=K->X.calm=true->∀ (i:Nat) (pins:List (Addr×Obj)) (s:Shared) (σ:St) (H:Hp) (E:Ck),Inv X pins σ H s->(∀ b∈fp,fh X pins H b)->tn i s.heap->J.go i H ->
  wpAny (model P w) X.A (pyNext (.ref it)) (λr s1=>∃ u,r=some u /\
   wpAny (model P w) X.A (letOwnedTupleGo tg (.ref it) u) (λ_ s2=>∃ x H',Inv X pins σ H' s2/\RelV x u/\J.yld i H x H'/\tn (i+1) s2.heap/\∀ b∈fp,H' b=none) E s1) E s
 done:∀ (X:Cx),X.prog=P->X.w=w->X.K=K->X.calm=true->∀ (i:Nat) (pins:List (Addr×Obj)) (s:Shared) (σ:St) (H:Hp) (E:Ck),Inv X pins σ H s->(∀ b∈fp,fh X pins H b)->tn i s.heap->J.stop i H ->
  wpAny (model P w) X.A (pyNext (.ref it)) (λr s1=>r=none/\Inv X pins σ H s1) E s
 self:∀ (A:Around) (i:Nat) (s:Shared) (Q:Ck) (E:Ck),tn i s.heap->Q (.ref it) s->wpAny (model P w) A (pyIter (.ref it)) Q E s
noncomputable abbrev TI:=St->Hp->(It->Hp->Prop)->Prop
noncomputable def qg (X:Cx) (pins:List (Addr×Obj)) (σ:St) (tg:Expr) (R:It->Hp->Prop) (itv:Value) (s2:Shared):Prop :=
 ∃ (it:Addr) (fp:List Addr) (tn:Nat->Heap->Prop) (J:It) (H':Hp),itv=.ref it/\Inv X pins σ H' s2/\Turn X.prog X.w X.K tg J fp it tn/\tn 0 s2.heap/\(∀ b∈fp,fh X pins H' b)/\R J H'
noncomputable def PI (X:Cx) (tg iter:Expr) (wi:TI):Prop :=
 ∀ (pins:List (Addr×Obj)) (s:Shared) (σ:St) (H:Hp) (R:It->Hp->Prop),Inv X pins σ H s->wi σ H R ->
  wpAny (model X.prog X.w) X.A (eval iter X.env) (λv s1=>wpAny (model X.prog X.w) X.A (pyIter v) (qg X pins σ tg R) X.xe s1) X.xe s
theorem pP {M:Model} {A:Around} {E:Ck} {s:Shared} {tg:Expr} {it:Addr} {u:Value} {o:Obj} {n:String} {vs:Array Value} {Q:Unit->Shared->Prop} (ho:s.heap.get? it=some o) (hc:o.cls=.type n) (hd:o.data=.fields vs)
  (hn:["enumerate","zip","dict_itemiterator","dict_reverseitemiterator","odict_iterator","itertools.zip_longest","itertools.pairwise"].contains n=false) (hQ:Q () s):wpAny M A (letOwnedTupleGo tg (.ref it) u) Q E s:=by
 unfold letOwnedTupleGo
 cases tg <;> first
  | exact wpAny_pure hQ
  | (cases u <;> first
    | exact wpAny_pure hQ
    | (refine wpAny_bind (wpAny_load ho ?_)
       rw [hc,hd]
       show wpAny M A (if (["enumerate","zip","dict_itemiterator","dict_reverseitemiterator","odict_iterator","itertools.zip_longest","itertools.pairwise"].contains n && vs[0]? == some (rawInt _))=true then _ else _) Q E s
       rw [if_neg (by intro h; rw [hn,Bool.false_and] at h; cases h)]
       exact wpAny_pure hQ))
noncomputable def zh (K:Cb) (a:Addr):It :=
 ⟨λi H=>∃ xs x,SqL K H a xs/\xs[i]?=some x,λi H x H'=>H'=H/\∀ xs,SqL K H a xs->xs[i]?=some x,λi H=>∃ xs,SqL K H a xs/\xs.length<=i⟩
noncomputable def zg (K:Cb) (a:Addr):It :=
 ⟨λi H=>∃ xs x,SqT K H a xs/\xs[i]?=some x,λi H x H'=>H'=H/\∀ xs,SqT K H a xs->xs[i]?=some x,λi H=>∃ xs,SqT K H a xs/\xs.length<=i⟩
noncomputable def oH (lo:Int) (n:Nat):It:=⟨λi _=>i < n,λi H x H'=>H'=H/\x=.int (lo+i),λi _=>n<=i⟩
theorem ZfK {P:Program} {w:World} {K:Cb} {tg:Expr} (a it:Addr):Turn P w K tg (zh K a) [it] it (λi h=>h.IsListIter it a i) where
 mem:=by simp
 obj:=λi h st b hb=>by
  have e:b=it:=by simpa using hb
  subst e
  obtain ⟨o,e,c,d⟩:=st
  exact ⟨o,e,λv z=>by rw [d] at z; cases z⟩
 keep:=λi h h' st k=>st.at λo e=>k it (by simp) o e
 item:=by
  intro X hP hw hK hc i pins s σ H E I hf st hg
  subst hP hw hK
  obtain ⟨xs,x,hq,hx⟩:=hg
  obtain ⟨its,rv,p,hz⟩:=I.list hq
  obtain ⟨u,hu,ru⟩:=rv.get hx
  obtain ⟨f0,f1,f2,f3,f4,f5⟩:=hf it (by simp)
  refine wpAny_pyNext_list_item st p.isList (x:=u) (by simpa using hu) λh' st' sb=>?_
  have I1:Inv X pins σ H { s with heap:=h' }:=I.turned (t':=s.toks) (λb o hb e=>(sb.2 b hb).trans e) f0 f1 f3 f4 f5
  obtain ⟨o,e,c,d⟩:=id st'
  exact ⟨u,rfl,pP (s:={ s with heap:=h' }) e c d (by decide) ⟨x,H,I1,ru,⟨rfl,λys hy=>by rw [I.list_inj hy hq]; exact hx⟩,st',λb hb=>(hf b hb).1⟩⟩
 done:=by
  intro X hP hw hK hc i pins s σ H E I hf st hg
  subst hP hw hK
  obtain ⟨xs,hq,hx⟩:=hg
  obtain ⟨its,rv,p,hz⟩:=I.list hq
  obtain ⟨f0,f1,f2,f3,f4,f5⟩:=hf it (by simp)
  have hl:=rv.length
  exact wpAny_pyNext_list_end (I.ok.hd hc) st p.isList (by simp; omega) λh' eb=>⟨rfl,I.turned (t':=s.toks) (λb o hb e=>eb b o hb e) f0 f1 f3 f4 f5⟩
 self:=λ_ _ _ _ _ st h=>wpAny_pyIter_listiter st h
theorem ZfG {P:Program} {w:World} {K:Cb} {tg:Expr} (a it:Addr):Turn P w K tg (zg K a) [it] it (λi h=>h.IsTupleIter it a i) where
 mem:=by simp
 obj:=λi h st b hb=>by
  have e:b=it:=by simpa using hb
  subst e
  obtain ⟨o,e,c,d⟩:=st
  exact ⟨o,e,λv z=>by rw [d] at z; cases z⟩
 keep:=λi h h' st k=>st.at λo e=>k it (by simp) o e
 item:=by
  intro X hP hw hK hc i pins s σ H E I hf st hg
  subst hP hw hK
  obtain ⟨xs,x,hq,hx⟩:=hg
  obtain ⟨its,rv,p,hz⟩:=I.tuple hq
  obtain ⟨u,hu,ru⟩:=rv.get hx
  obtain ⟨f0,f1,f2,f3,f4,f5⟩:=hf it (by simp)
  refine wpAny_pyNext_tuple_item st (show s.heap.IsTuple a its.toArray from p) (x:=u) (by simpa using hu) λh' st' sb=>?_
  have I1:Inv X pins σ H { s with heap:=h' }:=I.turned (t':=s.toks) (λb o hb e=>(sb.2 b hb).trans e) f0 f1 f3 f4 f5
  obtain ⟨o,e,c,d⟩:=id st'
  exact ⟨u,rfl,pP (s:={ s with heap:=h' }) e c d (by decide) ⟨x,H,I1,ru,⟨rfl,λys hy=>by rw [I.tuple_inj hy hq]; exact hx⟩,st',λb hb=>(hf b hb).1⟩⟩
 done:=by
  intro X hP hw hK hc i pins s σ H E I hf st hg
  subst hP hw hK
  obtain ⟨xs,hq,hx⟩:=hg
  obtain ⟨its,rv,p,hz⟩:=I.tuple hq
  obtain ⟨f0,f1,f2,f3,f4,f5⟩:=hf it (by simp)
  have hl:=rv.length
  exact wpAny_pyNext_tuple_end (I.ok.hd hc) st (show s.heap.IsTuple a its.toArray from p) (by simp; omega) λh' eb=>⟨rfl,I.turned (t':=s.toks) (λb o hb e=>eb b o hb e) f0 f1 f3 f4 f5⟩
 self:=λ_ _ _ _ _ st h=>wpAny_pyIter_tupleiter st h
theorem ZfJ {P:Program} {w:World} {K:Cb} {tg:Expr} (it:Addr) (lo:Int) (n:Nat):Turn P w K tg (oH lo n) [it] it (λi h=>IsRangeIter h it (lo+(i:Nat) * 1) ((n:Int) - (i:Nat)) 1) where
 mem:=by simp
 obj:=λi h st b hb=>by
  have e:b=it:=by simpa using hb
  subst e
  exact ⟨_,st,λv z=>by
   have z':Data.fields _=Data.cell v:=z
   cases z'⟩
 keep:=λi h h' st k=>k it (by simp) _ st
 item:=by
  intro X hP hw hK hc i pins s σ H E I hf st hg
  subst hP hw hK
  obtain ⟨f0,f1,f2,f3,f4,f5⟩:=hf it (by simp)
  have W:=Walks.range (prog:=X.prog) (w:=X.w) (I.ok.hd hc) it lo 1 n
  refine W.item i s _ _ hg st λv h' tk hv st' kk=>?_
  obtain ⟨t,rfl⟩:=hv
  have I1:Inv X pins σ H { s with heap:=h',toks:=tk }:=I.turned (λb o hb e=>kk b o (by simpa using hb) e) f0 f1 f3 f4 f5
  refine ⟨_,rfl,pP (s:={ s with heap:=h',toks:=tk }) (n:="range_iterator") st' rfl rfl (by decide) ⟨.int (lo+i),H,I1,⟨t,?_⟩,⟨rfl,rfl⟩,st',λb hb=>(hf b hb).1⟩⟩
  rw [Be]
 done:=by
  intro X hP hw hK hc i pins s σ H E I hf st hg
  subst hP hw hK
  obtain ⟨f0,f1,f2,f3,f4,f5⟩:=hf it (by simp)
  exact wpAny_pyNext_range_end (I.ok.hd hc) st (by have:n<=i:=hg; omega) λh' eb=>⟨rfl,I.turned (t':=s.toks) (λb o hb e=>eb b o hb e) f0 f1 f3 f4 f5⟩
 self:=λ_ _ _ _ _ st h=>wpAny_pyIter_rangeiter st h
section
variable {X:Cx} {tg:Expr}
theorem Zbz {pins:List (Addr×Obj)} {σ:St} {H:Hp} {s:Shared} {R:It->Hp->Prop} {E:Ck} {lo hi:Int} {t u v:Tok} {tk:Nat} (I:Inv X pins σ H s) (h1:-(2 ^ 62)<=lo) (h2:lo < 2 ^ 62) (h3:-(2 ^ 62)<=hi) (h4:hi < 2 ^ 62)
  (q:R (oH lo (hi - lo).toNat) H):wpAny (model X.prog X.w) X.A (pyIter (.ref s.heap.objs.size)) (qg X pins σ tg R) E { s with heap:=s.heap.push { cls:=.type "range",data:=.fields #[.int lo t,.int hi u,.int 1 v] },toks:=tk }:=by
 refine wpAny_pyIter_range (IsRange.new ..) (small_one h1 h2 h3 h4) ?_
 have I1:Inv X pins σ H { s with heap:=s.heap.push { cls:=.type "range",data:=.fields #[.int lo t,.int hi u,.int 1 v] },toks:=tk }:=I.kept λb o e=>pi _ e
 refine ⟨(s.heap.push { cls:=.type "range",data:=.fields #[.int lo t,.int hi u,.int 1 v] }).objs.size,[(s.heap.push { cls:=.type "range",data:=.fields #[.int lo t,.int hi u,.int 1 v] }).objs.size],_,_,H,rfl,
  I1.kept (t':=tk) λb o e=>pi _ e,ZfJ _ lo (hi - lo).toNat,?_,λb hb=>?_,q⟩
 ·have e1:lo+((0:Nat):Int) * 1=lo:=by simp
  have e2:(((hi - lo).toNat:Nat):Int) - ((0:Nat):Int)=Builtin.Range.rangeSize lo hi 1:=by rw [rangeSize_one]; split <;> omega
  show IsRangeIter _ _ (lo+((0:Nat):Int) * 1) ((((hi - lo).toNat:Nat):Int) - ((0:Nat):Int)) 1
  rw [e1,e2]
  exact zw _ rfl
 ·have e:b=(s.heap.push { cls:=.type "range",data:=.fields #[.int lo t,.int hi u,.int 1 v] }).objs.size:=by simpa using hb
  subst e
  exact I1.fpOk (zp _) (I1.hok.fresh (zp _))
def Zdh (ta:TA):TI:=λσ H R=>ta σ H λvs H1=>∃ j:Int,vs=[.int j]/\-(2 ^ 62)<=j/\j < 2 ^ 62/\R (oH 0 j.toNat) H1
def Zdg (ta:TA):TI:=λσ H R=>ta σ H λvs H1=>∃ i j:Int,vs=[.int i,.int j]/\(-(2 ^ 62)<=i/\i < 2 ^ 62/\-(2 ^ 62)<=j/\j < 2 ^ 62)/\R (oH i (j - i).toNat) H1
theorem iU {a:Expr} {ta:TA} {p pos:Pos} (hg:Gl X "range") (hm:X.mg "range"=none) (ha:PA X [a] ta) (hs:starEach [a] X.env=[(false,eval a X.env)]:=by rfl):PI X tg (.Call (.Name "range" p) [a] [] pos) (Zdh ta):=by
 intro pins s σ H R I h
 refine Call_ (ij I hg hm boot_range (Aj (thn (ha pos pins s σ H _ I h) λus s1 hz0=>?_) hs rfl))
 obtain ⟨vs,H1,I1,r1,q1⟩:=hz0
 obtain ⟨j,e,q1,q2,q⟩:=q1
 subst e
 cases r1 with
 | cons r rr =>
  cases rr
  obtain ⟨t,rfl⟩:=r
  exact call_range_1 (Zbz I1 (by omega) (by omega) q1 q2 (by simpa using q))
theorem pf {a b:Expr} {ta:TA} {p pos:Pos} (hg:Gl X "range") (hm:X.mg "range"=none) (ha:PA X [a,b] ta) (hs:starEach [a,b] X.env=[(false,eval a X.env),(false,eval b X.env)]:=by rfl) (hs2:starEach [b] X.env=[(false,eval b X.env)]:=by rfl) :
  PI X tg (.Call (.Name "range" p) [a,b] [] pos) (Zdg ta):=by
 intro pins s σ H R I h
 refine Call_ (ij I hg hm boot_range (Aj (thn (ha pos pins s σ H _ I h) λus s1 hz0=>?_) (by rw [hs,hs2]) (by rw [hs2]; rfl)))
 obtain ⟨vs,H1,I1,r1,q1⟩:=hz0
 obtain ⟨i,j,e,⟨q1,q2,q3,q4⟩,q⟩:=q1
 subst e
 cases r1 with
 | cons r rr =>
  cases rr with
  | cons r' rr =>
   cases rr
   obtain ⟨t,rfl⟩:=r
   obtain ⟨t',rfl⟩:=r'
   exact call_range_2 (Zbz I1 q1 q2 q3 q4 q)
def Zgb (wi:TI) (g:TG) (tb:TS):TS:=λD σ H=>wi σ H λJ H1=>∃ W:Nat->Nat->St->Hp->Prop,(∃ m,W 0 m σ H1)/\∀ i m σ H,W i m σ H ->
 (J.stop i H/\D.nx σ H)\/(J.go i H/\∃ N:St->Hp->Prop,(∀ σ' H',N σ' H'->∃ m',m' < m/\W (i+1) m' σ' H')/\∀ x H',J.yld i H x H'->g x σ H' λσ2 H2=>tb { D with nx:=N,ct:=N,bk:=D.nx } σ2 H2)
noncomputable def uh (fp:List Addr) (h:Heap):List (Addr×Obj):=fp.filterMap λb=>(h.get? b).map λo=>(b,o)
theorem fQ {fp:List Addr} {h:Heap} {b:Addr} {o:Obj} (hb:b∈fp) (e:h.get? b=some o):(b,o)∈uh fp h:=List.mem_filterMap.mpr ⟨b,hb,by rw [e]; rfl⟩
theorem Zib {fp:List Addr} {h:Heap} {p:Addr×Obj} (hp:p∈uh fp h):p.1∈fp/\h.get? p.1=some p.2:=by
 obtain ⟨b,hb,e⟩:=List.mem_filterMap.mp hp
 cases q:h.get? b with
 | none=>rw [q] at e; cases e
 | some o =>
  rw [q] at e
  have e':(b,o)=p:=zJ e
  subst e'
  exact ⟨hb,q⟩
theorem Inv.pinned {pins:List (Addr×Obj)} {σ:St} {H:Hp} {s:Shared} {fp:List Addr} (I:Inv X pins σ H s) (hf:∀ b∈fp,fh X pins H b) (ho:∀ b∈fp,∃ o,s.heap.get? b=some o/\∀ v,o.data≠.cell v):Inv X (pins++uh fp s.heap) σ H s :=
 I.pins_of λp hp=>(Au.mp hp).elim (λz=>I.pin p (zx _ z)) λz=>by
  obtain ⟨hb,e⟩:=Zib z
  obtain ⟨f0,f1,f2,_⟩:=hf p.1 hb
  obtain ⟨o,e',d⟩:=ho p.1 hb
  rw [e] at e'; cases e'
  exact ⟨e,f0,f1,f2,d⟩
theorem Inv.unpinned {pins pl:List (Addr×Obj)} {σ:St} {H:Hp} {s:Shared} (I:Inv X (pins++pl) σ H s):Inv X pins σ H s:=I.pins_of λp hp=>I.pin p (zx _ (AL _ hp))
theorem Zhs {iter:Expr} {body:List Stmt} {wi:TI} {g:TG} {tb:TS} {pos:Pos} (hp:PassesOwn (model X.prog X.w) X.A X.env X.xe) (hc:X.calm=true) (hi:PI X tg iter wi) (hg:PG X tg g) (hb:PSs X body tb)
  (hs:∀ x,foldedSetIterable iter X.env x=pure x:=by intro _; rfl):PS X (.For tg iter body [] pos) (Zgb wi g tb):=by
 intro pins s σ H D I h
 refine wpAny_For (thn (hi pins s σ H _ I h) λv s1 h1=>thn h1 λitv s2 h2=>?_) hs
 obtain ⟨it,fp,tn,J,H2,e,I2,T,st2,f2,W,⟨m0,w0⟩,turn⟩:=h2
 subst e
 -- what stays true of the iterator's objects through the loop
 have stat:∀ {H':Hp},(∀ b∈fp,H' b=none)->∀ b∈fp,fh X pins H' b:=λhn b hb=>⟨hn b hb,(f2 b hb).2⟩
 refine codeAny_forLoop_any (λn s'=>∃ i σ' H',Inv X pins σ' H' s'/\tn i s'.heap/\(∀ b∈fp,H' b=none)/\W i n σ' H') ?_ m0 ⟨0,σ,H2,I2,st2,λb hb=>(f2 b hb).1,w0⟩
 rintro n s3 ⟨i,σ3,H3,I3,st3,fr3,w3⟩
 rcases turn i n σ3 H3 w3 with ⟨stop,qn⟩ | ⟨go,N,hN,step⟩
 ·refine wpAny_passesOwn hp (thn (T.done X rfl rfl rfl hc i pins s3 σ3 H3 X.xe I3 (stat fr3) st3 stop) λr s4 hz0=>?_)
  obtain ⟨hr,I4⟩:=hz0
  subst hr
  exact wpAny_execs_nil ⟨σ3,H3,I4,qn⟩
 ·refine wpAny_passesOwn hp (thn (T.item X rfl rfl rfl hc i pins s3 σ3 H3 X.xe I3 (stat fr3) st3 go) λr s4 hz0=>?_)
  obtain ⟨u,hr,h4⟩:=hz0
  subst hr
  refine wpAny_passesOwn hp (thn h4 λ_ s5 hz0=>?_)
  obtain ⟨x,H5,I5,r5,y5,st5,fr5⟩:=hz0
  have I5':=I5.pinned (stat fr5) (T.obj _ _ st5)
  refine wpAny_passesOwn hp (thn (hg _ s5 σ3 H5 x u _ I5' r5 (step x H5 y5)) λ_ s6 hz0=>?_)
  obtain ⟨σ6,H6,I6,q6⟩:=hz0
  refine wpAny_passesOwn hp (thn (hb _ s6 σ6 H6 _ I6 q6) λf s7 q7=>?_)
  have again:∀ {σ7:St} {H7:Hp},Inv X (pins++uh fp s5.heap) σ7 H7 s7->N σ7 H7->∃ m,m < n/\∃ i σ' H',Inv X pins σ' H' s7/\tn i s7.heap/\(∀ b∈fp,H' b=none)/\W i m σ' H':=λ{σ7 H7} I7 n7=>by
   obtain ⟨m',hm,w7⟩:=hN σ7 H7 n7
   refine ⟨m',hm,i+1,σ7,H7,I7.unpinned,T.keep _ _ _ st5 λb hb o e=>(I7.pin (b,o) (zx _ (zx _ (fQ hb e)))).1,λb hb=>?_,w7⟩
   obtain ⟨o,e,d⟩:=T.obj _ _ st5 b hb
   exact (I7.pin (b,o) (zx _ (zx _ (fQ hb e)))).2.1
  cases f with
  | next=>obtain ⟨σ7,H7,I7,n7⟩:=q7; exact again I7 n7
  | cont=>obtain ⟨σ7,H7,I7,n7⟩:=q7; exact again I7 n7
  | brk=>obtain ⟨σ7,H7,I7,q7⟩:=q7; exact ⟨σ7,H7,I7.unpinned,q7⟩
  | ret v=>obtain ⟨x7,σ7,H7,I7,r7,q7⟩:=q7; exact ⟨x7,σ7,H7,I7.unpinned,r7,q7⟩
end
noncomputable abbrev R2:=V->V->Hp->VK->Prop
noncomputable def OpR (X:Cx) (f:Value->Value->Sem Value) (r:R2):Prop :=
 ∀ (pins:List (Addr×Obj)) (s:Shared) (σ:St) (H:Hp) (x y:V) (v u:Value) (Q:VK),Inv X pins σ H s->RelV x v->RelV y u->r x y H Q ->
  wpAny (model X.prog X.w) X.A (f v u) (EP X pins σ Q) X.xe s
noncomputable def y9 (X:Cx) (f:Value->Sem Value) (r:V->Hp->VK->Prop):Prop :=
 ∀ (pins:List (Addr×Obj)) (s:Shared) (σ:St) (H:Hp) (x:V) (v:Value) (Q:VK),Inv X pins σ H s->RelV x v->r x H Q ->
  wpAny (model X.prog X.w) X.A (f v) (EP X pins σ Q) X.xe s
noncomputable def cS (X:Cx) (f:Value) (r:List V->Hp->VK->Prop):Prop :=
 ∀ (pins:List (Addr×Obj)) (s:Shared) (σ:St) (H:Hp) (xs:Cp) (us:Cn) (Q:VK),Inv X pins σ H s->Vals xs us->r xs H Q ->
  wpAny (model X.prog X.w) X.A (call f us) (EP X pins σ Q) X.xe s
noncomputable def ZmM (X:Cx) (r:V->Hp->(Bool->Hp->Prop)->Prop):Prop :=
 ∀ (pins:List (Addr×Obj)) (s:Shared) (σ:St) (H:Hp) (x:V) (v:Value) (Q:Bool->Hp->Prop),Inv X pins σ H s->RelV x v->r x H Q ->
  wpAny (model X.prog X.w) X.A (truthy v) (TP X pins σ Q) X.xe s
def iJ (r:R2) (ta tb:TE):TE:=λσ H Q=>ta σ H λx H1=>tb σ H1 λy H2=>r x y H2 Q
def tUn (r:V->Hp->VK->Prop) (ta:TE):TE:=λσ H Q=>ta σ H λx H1=>r x H1 Q
noncomputable def rI (C:Int->Int->Prop) (g:Int->Int->V):R2:=λx y H Q=>∃ i j,x=.int i/\y=.int j/\C i j/\Q (g i j) H
noncomputable def eU (g:Int->Int->V):R2:=λx y H Q=>∃ i j,x=.int i/\y=.int j/\Q (g i j) H
noncomputable def rU (g:Int->V):V->Hp->VK->Prop:=λx H Q=>∃ i,x=.int i/\Q (g i) H
section
variable {X:Cx} {a b c:Expr} {ta tb tc:TE} {pos:Pos}
theorem yI (ha:PE X a ta) (hb:PE X b tb) {pins:List (Addr×Obj)} {s:Shared} {σ:St} {H:Hp} {R:V->V->Hp->Prop} (I:Inv X pins σ H s)
  (h:ta σ H λx H1=>tb σ H1 λy H2=>R x y H2) {Q:Ck} {f:Value->Value->Sem Value}
  (hf:∀ v u s2 x y H2,Inv X pins σ H2 s2->RelV x v->RelV y u->R x y H2->wpAny (model X.prog X.w) X.A (f v u) Q X.xe s2) :
  wpAny (model X.prog X.w) X.A (eval a X.env) (λv s₁=>wpAny (model X.prog X.w) X.A (eval b X.env) (λu s₂=>wpAny (model X.prog X.w) X.A (f v u) Q X.xe s₂) X.xe s₁) X.xe s:=by
 refine thn (ha pins s σ H _ I h) λv s1 hz0=>?_
 obtain ⟨x,H1,I1,r1,q1⟩:=hz0
 refine thn (hb pins s1 σ H1 _ I1 q1) λu s2 hz0=>?_
 obtain ⟨y,H2,I2,r2,q2⟩:=hz0
 exact hf v u s2 x y H2 I2 r1 r2 q2
theorem cw {op:Operator} {r:R2} (ho:OpR X (binaryOp op) r) (ha:PE X a ta) (hb:PE X b tb):PE X (.BinOp a op b pos) (iJ r ta tb):=by
 intro pins s σ H Q I h
 exact wpAny_BinOp (yI ha hb I h λv u s2 x y H2 I2 rx ry q=>ho pins s2 σ H2 x y v u Q I2 rx ry q)
theorem ZhF {op:UnaryOp} {r:V->Hp->VK->Prop} (ho:y9 X (unaryOp op) r) (ha:PE X a ta):PE X (.UnaryOp op a pos) (tUn r ta):=by
 intro pins s σ H Q I h
 exact UnaryOp_ (thn (ha pins s σ H _ I h) λv s1 ⟨x,H1,I1,r1,q1⟩=>ho pins s1 σ H1 x v Q I1 r1 q1)
theorem hU {f:Value->Value->Sem Value} {C:Int->Int->Prop} {g:Int->Int->Int}
  (rule:∀ (i j:Int) (t u:Tok) (s:Shared) (Q:Ck) (E:Ck),C i j->Q (.int (g i j) s.toks) { s with toks:=s.toks+1 }->wpAny (model X.prog X.w) X.A (f (.int i t) (.int j u)) Q E s) :
  OpR X f (rI C λi j=>.int (g i j)):=by
 intro pins s σ H x y v u Q I rx ry h
 obtain ⟨i,j,rfl,rfl,hc,q⟩:=h
 obtain ⟨t,rfl⟩:=rx
 obtain ⟨t',rfl⟩:=ry
 exact rule i j t t' s _ _ hc ⟨.int (g i j),H,I.tok _,⟨_,rfl⟩,q⟩
theorem xv {f:Value->Value->Sem Value} {g:Int->Int->Int}
  (rule:∀ (i j:Int) (t u:Tok) (s:Shared) (Q:Ck) (E:Ck),Q (.int (g i j) s.toks) { s with toks:=s.toks+1 }->wpAny (model X.prog X.w) X.A (f (.int i t) (.int j u)) Q E s) :
  OpR X f (eU λi j=>.int (g i j)):=by
 intro pins s σ H x y v u Q I rx ry h
 obtain ⟨i,j,rfl,rfl,q⟩:=h
 obtain ⟨t,rfl⟩:=rx
 obtain ⟨t',rfl⟩:=ry
 exact rule i j t t' s _ _ ⟨.int (g i j),H,I.tok _,⟨_,rfl⟩,q⟩
theorem xw {f:Value->Value->Sem Value} {g:Int->Int->Bool}
  (rule:∀ (i j:Int) (t u:Tok) (s:Shared) (Q:Ck) (E:Ck),Q (.bool (g i j)) s->wpAny (model X.prog X.w) X.A (f (.int i t) (.int j u)) Q E s) :
  OpR X f (eU λi j=>.bl (g i j)):=by
 intro pins s σ H x y v u Q I rx ry h
 obtain ⟨i,j,rfl,rfl,q⟩:=h
 obtain ⟨t,rfl⟩:=rx
 obtain ⟨t',rfl⟩:=ry
 exact rule i j t t' s _ _ ⟨.bl (g i j),H,I,rfl,q⟩
def Znd (i j:Int):Prop:=0 < j/\j < 1073741824
def Zfj (i j:Int):Prop:=0<=j/\j<=1000000/\i.natAbs < 2 ^ 64
def CMul (i j:Int):Prop:=(-(2 ^ 64) < i/\i < 2 ^ 64)\/(-(2 ^ 64) < j/\j < 2 ^ 64)
theorem CMul.ok {i j:Int} (h:CMul i j):IntMulOk i j:=by
 rcases h with ⟨h1,h2⟩ | ⟨h1,h2⟩
 ·exact .of_left (intBits_le_64 h1 h2)
 ·exact .of_right (intBits_le_64 h1 h2)
theorem iV:OpR X (binaryOp .Add) (eU λi j=>.int (i+j)):=xv λ_ _ _ _ _ _ _ q=>add_int q
theorem bQ:OpR X (binaryOp .Sub) (eU λi j=>.int (i - j)):=xv λ_ _ _ _ _ _ _ q=>sub_int q
theorem xr:OpR X (binaryOp .Mult) (rI CMul λi j=>.int (i * j)):=hU λ_ _ _ _ _ _ _ hc q=>mul_int q hc.ok
theorem xu:OpR X (binaryOp .FloorDiv) (rI Znd λi j=>.int (i / j)):=hU λi j _ _ _ _ _ hc q=>by
 have h1:(0:Int) < j:=hc.1
 have h2:j < 1073741824:=hc.2
 exact floordiv_int (by omega) (by rw [BX i (by omega)]; exact q) (.inl (PyProof.noPylong_small (by omega)))
theorem hI:OpR X (binaryOp .Mod) (rI (λ_ j=>0 < j) λi j=>.int (i % j)):=hU λi j _ _ _ _ _ hc q=>by
 have h1:(0:Int) < j:=hc
 exact mod_int' (by omega) (by rw [Bu i (by omega)]; exact q)
theorem xt:OpR X (binaryOp .Mod) (rI (λ_ j=>j≠0) λi j=>.int (i.fmod j)):=hU λ_ _ _ _ _ _ _ hc q=>mod_int' hc q
theorem xq:OpR X (binaryOp .Pow) (rI Zfj λi j=>.int (i ^ j.toNat)):=hU λ_ _ _ _ _ _ _ hc q=>pow_int_small hc.1 hc.2.1 hc.2.2 q
theorem Zjo:OpR X (inplaceOp .Add) (eU λi j=>.int (i+j)):=xv λ_ _ _ _ _ _ _ q=>iadd_int q
theorem unI {f:Value->Sem Value} {g:Int->Int}
  (rule:∀ (i:Int) (t:Tok) (s:Shared) (Q:Ck) (E:Ck),Q (.int (g i) s.toks) { s with toks:=s.toks+1 }->wpAny (model X.prog X.w) X.A (f (.int i t)) Q E s) :
  y9 X f (rU λi=>.int (g i)):=by
 intro pins s σ H x v Q I rx h
 obtain ⟨i,rfl,q⟩:=h
 obtain ⟨t,rfl⟩:=rx
 exact rule i t s _ _ ⟨.int (g i),H,I.tok _,⟨_,rfl⟩,q⟩
theorem ZfD:y9 X (unaryOp .USub) (rU λi=>.int (-i)):=unI λ_ _ _ _ _ q=>neg_int q
end
noncomputable def scal:V->V->Bool
 | .non,.non=>true | .non,.int _=>true | .int _,.non=>true | .non,.bl _=>true | .bl _,.non=>true | .non,.str _=>true | .str _,.non=>true
 | .int _,.int _=>true | .bl _,.bl _=>true | .str _,.str _=>true | .byt _,.byt _=>true
 | .int _,.str _=>true | .str _,.int _=>true | .bl _,.str _=>true | .str _,.bl _=>true
 | _,_=>false
noncomputable def rEq:R2:=λx y H Q=>scal x y=true/\Q (.bl (decide (x=y))) H
noncomputable def rNe:R2:=λx y H Q=>scal x y=true/\Q (.bl (!decide (x=y))) H
theorem ZdZ {i j:Int}:decide (V.int i=V.int j)=(i == j):=by
 rw [BF]
 simp
theorem Zd1 {i j:Bool}:decide (V.bl i=V.bl j)=(i == j):=by
 rw [BF]
 simp
theorem vn {i j:Str}:decide (V.str i=V.str j)=(i == j):=by
 rw [BF]
 simp
theorem Zd0 {i j:Array UInt8}:decide (V.byt i=V.byt j)=(i.toList == j.toList):=by
 rw [BF]
 cases i
 cases j
 simp
section
variable {X:Cx} {a b c:Expr} {ta tb tc:TE} {pos:Pos}
theorem bU {pins:List (Addr×Obj)} {σ:St} {H:Hp} {s:Shared} {Q:VK} {k k':Bool} (I:Inv X pins σ H s) (q:Q (.bl k) H) (e:k=k'):EP X pins σ Q (.bool k') s:=by
 subst e
 exact ⟨.bl k,H,I,rfl,q⟩
theorem Zh5:OpR X (compareOp .Eq) rEq:=by
 intro pins s σ H x y v u Q I rx ry h
 obtain ⟨hs,q⟩:=h
 cases x with
 | non =>
  cases rx
  cases y with
  | non=>cases ry; exact PySem.EqNone.eq_none_none (bU I q (by simp))
  | bl j=>cases ry; exact PySem.EqNone.eq_none_bool (bU I q (by simp))
  | int j=>obtain ⟨t',rfl⟩:=ry; exact PySem.EqNone.eq_none_int (bU I q (by simp))
  | str j=>obtain ⟨t',rfl⟩:=ry; exact PySem.EqNone.eq_none_str (bU I q (by simp))
  | _=>exact absurd (show false=true from hs) zC
 | bl i =>
  cases rx
  cases y with
  | non=>cases ry; exact PySem.EqNone.eq_bool_none (bU I q (by simp))
  | bl j=>cases ry; exact eq_bool (bU I q Zd1)
  | str j=>obtain ⟨t',rfl⟩:=ry; exact PySem.EqMixed.eq_bool_str (bU I q (by simp))
  | _=>exact absurd (show false=true from hs) zC
 | int i =>
  obtain ⟨t,rfl⟩:=rx
  cases y with
  | non=>cases ry; exact PySem.EqNone.eq_int_none (bU I q (by simp))
  | int j=>obtain ⟨t',rfl⟩:=ry; exact eq_int (bU I q ZdZ)
  | str j=>obtain ⟨t',rfl⟩:=ry; exact PySem.EqMixed.eq_int_str (bU I q (by simp))
  | _=>exact absurd (show false=true from hs) zC
 | str i =>
  obtain ⟨t,rfl⟩:=rx
  cases y with
  | non=>cases ry; exact PySem.EqNone.eq_str_none (bU I q (by simp))
  | bl j=>cases ry; exact PySem.EqMixed.eq_str_bool (bU I q (by simp))
  | int j=>obtain ⟨t',rfl⟩:=ry; exact PySem.EqMixed.eq_str_int (bU I q (by simp))
  | str j=>obtain ⟨t',rfl⟩:=ry; exact eq_str (bU I q vn)
  | _=>exact absurd (show false=true from hs) zC
 | byt i =>
  obtain ⟨t,rfl⟩:=rx
  cases y with
  | byt j=>obtain ⟨t',rfl⟩:=ry; exact PySem.W.eq_bytes (bU I q Zd0)
  | _=>exact absurd (show false=true from hs) zC
 | _=>cases y <;> exact absurd (show false=true from hs) zC
theorem Zh1:OpR X (compareOp .NotEq) rNe:=by
 intro pins s σ H x y v u Q I rx ry h
 obtain ⟨hs,q⟩:=h
 cases x with
 | non =>
  cases rx
  cases y with
  | non=>cases ry; exact PySem.EqNone.ne_none_none (bU I q (by simp))
  | bl j=>cases ry; exact PySem.EqNone.ne_none_bool (bU I q (by simp))
  | int j=>obtain ⟨t',rfl⟩:=ry; exact PySem.EqNone.ne_none_int (bU I q (by simp))
  | str j=>obtain ⟨t',rfl⟩:=ry; exact PySem.EqNone.ne_none_str (bU I q (by simp))
  | _=>exact absurd (show false=true from hs) zC
 | bl i =>
  cases rx
  cases y with
  | non=>cases ry; exact PySem.EqNone.ne_bool_none (bU I q (by simp))
  | bl j=>cases ry; exact ne_bool (bU I q (congrArg not Zd1))
  | str j=>obtain ⟨t',rfl⟩:=ry; exact PySem.EqMixed.ne_bool_str (bU I q (by simp))
  | _=>exact absurd (show false=true from hs) zC
 | int i =>
  obtain ⟨t,rfl⟩:=rx
  cases y with
  | non=>cases ry; exact PySem.EqNone.ne_int_none (bU I q (by simp))
  | int j=>obtain ⟨t',rfl⟩:=ry; exact ne_int (bU I q (congrArg not ZdZ))
  | str j=>obtain ⟨t',rfl⟩:=ry; exact PySem.EqMixed.ne_int_str (bU I q (by simp))
  | _=>exact absurd (show false=true from hs) zC
 | str i =>
  obtain ⟨t,rfl⟩:=rx
  cases y with
  | non=>cases ry; exact PySem.EqNone.ne_str_none (bU I q (by simp))
  | bl j=>cases ry; exact PySem.EqMixed.ne_str_bool (bU I q (by simp))
  | int j=>obtain ⟨t',rfl⟩:=ry; exact PySem.EqMixed.ne_str_int (bU I q (by simp))
  | str j=>obtain ⟨t',rfl⟩:=ry; exact ne_str (bU I q (congrArg not vn))
  | _=>exact absurd (show false=true from hs) zC
 | byt i =>
  obtain ⟨t,rfl⟩:=rx
  cases y with
  | byt j=>obtain ⟨t',rfl⟩:=ry; exact PySem.W.ne_bytes (bU I q (congrArg not Zd0))
  | _=>exact absurd (show false=true from hs) zC
 | _=>cases y <;> exact absurd (show false=true from hs) zC
theorem qW:OpR X (compareOp .Lt) (eU λi j=>.bl (decide (i < j))):=xw λ_ _ _ _ _ _ _ q=>lt_int q
theorem eV:OpR X (compareOp .Gt) (eU λi j=>.bl (decide (j < i))):=xw λ_ _ _ _ _ _ _ q=>gt_int q
theorem Zh3:OpR X (compareOp .GtE) (eU λi j=>.bl (decide (j<=i))):=xw λ_ _ _ _ _ _ _ q=>ge_int q
theorem OpR.or {f:Value->Value->Sem Value} {r r':R2} (h:OpR X f r) (h':OpR X f r'):OpR X f (λx y H Q=>r x y H Q\/r' x y H Q):=by
 intro pins s σ H x y v u Q I rx ry q
 rcases q with q | q
 ·exact h pins s σ H x y v u Q I rx ry q
 ·exact h' pins s σ H x y v u Q I rx ry q
theorem nomark (b:Expr) {op:CmpOp} (h:op≠.In:=by decide) (h2:op≠.NotIn:=by decide):behindInMarks op b=false:=by
 have e1:(op == CmpOp.In)=false:=by cases op <;> first | rfl | exact absurd rfl h
 have e2:(op == CmpOp.NotIn)=false:=by cases op <;> first | rfl | exact absurd rfl h2
 cases b <;> first | rfl | (show (_ && (op == CmpOp.In || op == CmpOp.NotIn) && _)=false; rw [e1,e2,Bool.or_false,Bool.and_false,Bool.false_and])
theorem ZhN {op:CmpOp} {r:R2} (ho:OpR X (compareOp op) r) (ha:PE X a ta) (hb:PE X b tb) (hm:behindInMarks op b=false):PE X (.Compare a [op] [b] pos) (iJ r ta tb):=by
 intro pins s σ H Q I h
 exact wpAny_Compare1 (yI ha hb I h λv u s2 x y H2 I2 rx ry q=>ho pins s2 σ H2 x y v u Q I2 rx ry q) hm
def sN (t:TE):TT:=λσ H Q=>t σ H λx H'=>∃ k,x=.bl k/\Q k H'
theorem qS {op:CmpOp} {r:R2} (ho:OpR X (compareOp op) r) (ha:PE X a ta) (hb:PE X b tb) (hm:behindInMarks op b=false):PT X (.Compare a [op] [b] pos) (sN (iJ r ta tb)):=by
 intro pins s σ H Q I h
 refine wpAny_isTrue_Compare1 (thn (ha pins s σ H _ I h) λv s1 ⟨x,H1,I1,r1,q1⟩=>thn (hb pins s1 σ H1 _ I1 q1) λu s2 ⟨y,H2,I2,r2,q2⟩ =>
  thn (ho pins s2 σ H2 x y v u _ I2 r1 r2 q2) λc s3 ⟨z,H3,I3,r3,k,e,q3⟩=>?_) hm
 subst e
 cases r3
 exact wpAny_truthy_bool ⟨H3,I3,q3⟩
noncomputable def Zfe (K:Cb) (x:V) (H:Hp) (k:Bool):Prop :=
 match x with
 | .non=>k=false
 | .bl b=>k=b
 | .int i=>k=(i != 0)
 | .str y=>y.length<=sizeLine/\k=((y.length:Int) != 0)
 | .byt y=>y.size<=sizeLine/\k=((y.size:Int) != 0)
 | .ref p=>(∃ xs,SqL K H p xs/\k=!xs.isEmpty)\/(∃ xs,SqT K H p xs/\k=!xs.isEmpty)\/∃ kvs,H p=some (.dK kvs)/\k=!kvs.isEmpty
 | _=>False
theorem Zjk {κ:Type} {kvs:List (κ×V)} {vs:List (κ×Value)} (r:KV kvs vs):(!vs.isEmpty)=!kvs.isEmpty:=by
 cases r <;> rfl
theorem Zc8 {xs:Cp} {its:Cn} (r:Vals xs its):(!its.toArray.isEmpty)=!xs.isEmpty:=by
 cases r <;> simp
theorem ii:(sizeLine:Nat) < 2 ^ 63:=by rw [sizeLine_eq]; decide
theorem ZfO:ZmM X (λx H Q=>∃ k,Zfe X.K x H k/\Q k H):=by
 intro pins s σ H x v Q I rx h
 obtain ⟨k,e,q⟩:=h
 have hl:=ii
 have hs:sizeLine=16777216:=sizeLine_eq
 cases x with
 | non =>
  cases rx
  have e':k=false:=e
  subst e'
  exact truthy_none ⟨H,I,q⟩
 | bl b =>
  cases rx
  have e':k=b:=e
  subst e'
  exact wpAny_truthy_bool ⟨H,I,q⟩
 | int i =>
  obtain ⟨t,rfl⟩:=rx
  have e':k=(i != 0):=e
  subst e'
  exact PySem.P.truthy_int ⟨H,I,q⟩
 | str y =>
  obtain ⟨t,rfl⟩:=rx
  obtain ⟨hy,e'⟩:y.length<=sizeLine/\k=((y.length:Int) != 0):=e
  subst e'
  exact PySem.P.truthy_str (by omega) ⟨H,I.tok _,q⟩
 | byt y =>
  obtain ⟨t,rfl⟩:=rx
  obtain ⟨hy,e'⟩:y.size<=sizeLine/\k=((y.size:Int) != 0):=e
  subst e'
  exact PySem.W.truthy_bytes (by omega) ⟨H,I.tok _,q⟩
 | ref p =>
  cases rx
  have e':(∃ xs,SqL X.K H p xs/\k=!xs.isEmpty)\/(∃ xs,SqT X.K H p xs/\k=!xs.isEmpty)\/∃ kvs,H p=some (.dK kvs)/\k=!kvs.isEmpty:=e
  rcases e' with ⟨xs,hx,e'⟩ | ⟨xs,hx,e'⟩ | ⟨kvs,hx,e'⟩
  ·subst e'
   obtain ⟨its,r,pl,hz⟩:=I.list hx
   have hlen:=r.length
   exact wpAny_truthy_list pl.isList (by simp only [zr]; omega) ⟨H,I.tok _,by rw [Zc8 r]; exact q⟩
  ·subst e'
   obtain ⟨its,r,pl,hz⟩:=I.tuple hx
   have hlen:=r.length
   exact truthy_tuple pl (by simp only [zr]; omega) ⟨H,I.tok _,by rw [Zc8 r]; exact q⟩
  ·subst e'
   obtain ⟨hz,hS,vs,r,m⟩:kvs.length<=sizeLine/\(p == sysModules)=false/\∃ vs,KV kvs vs/\s.heap.DictOf (bY X.prog X.w) p vs:=I.hok p _ hx
   have hlen:kvs.length=vs.length:=BT r
   exact wpAny_truthy_dict hS m (by omega) ⟨H,I.tok _,by rw [Zjk r]; exact q⟩
 | _=>exact (show False from e).elim
theorem Zhj (ha:PE X a ta) (he:∀ whole,isTrue a X.env whole=(do let v <- whole; standAt a.pos; holding [v] (truthy v))) :
  PT X a (λσ H Q=>ta σ H λx H'=>∃ k,Zfe X.K x H' k/\Q k H'):=by
 intro pins s σ H Q I h
 exact isTrue_plain (thn (ha pins s σ H _ I h) λv s1 ⟨x,H1,I1,r1,q1⟩=>ZfO pins s1 σ H1 x v Q I1 r1 q1) (he _)
theorem eB {x:V} {us:Cn} (r:Vals [x] us):∃ u,us=[u]/\RelV x u:=by
 cases r with
 | cons r1 r2=>cases r2; exact ⟨_,rfl,r1⟩
theorem oO {x y:V} {us:Cn} (r:Vals [x,y] us):∃ u w',us=[u,w']/\RelV x u/\RelV y w':=by
 cases r with
 | cons r1 r2 =>
  cases r2 with
  | cons r3 r4=>cases r4; exact ⟨_,_,rfl,r1,r3⟩
theorem pX:cS X (.builtin "abs") (λxs H Q=>∃ i,xs=[.int i]/\Q (.int (if i < 0 then -i else i)) H):=by
 intro pins s σ H xs us Q I r h
 obtain ⟨i,rfl,q⟩:=h
 obtain ⟨u,rfl,t,rfl⟩:=eB r
 exact call_abs_int λu tk=>⟨.int (if i < 0 then -i else i),H,I.tok _,⟨_,rfl⟩,q⟩
theorem rT (hc:X.calm=true):cS X (.builtin "max") (λxs H Q=>∃ i j,xs=[.int i,.int j]/\Q (.int (if j > i then j else i)) H):=by
 intro pins s σ H xs us Q I r h
 obtain ⟨i,j,rfl,q⟩:=h
 obtain ⟨u,w',rfl,⟨t,rfl⟩,⟨t',rfl⟩⟩:=oO r
 refine max_two_ints (I.ok.hd hc) λh' tk k=>⟨_,H,I.kept k,?_,q⟩
 by_cases hj:j > i
 ·rw [if_pos hj,if_pos hj]; exact ⟨_,rfl⟩
 ·rw [if_neg hj,if_neg hj]; exact ⟨_,rfl⟩
theorem Zep (hc:X.calm=true):cS X (.builtin "min") (λxs H Q=>∃ i j,xs=[.int i,.int j]/\Q (.int (if j < i then j else i)) H):=by
 intro pins s σ H xs us Q I r h
 obtain ⟨i,j,rfl,q⟩:=h
 obtain ⟨u,w',rfl,⟨t,rfl⟩,⟨t',rfl⟩⟩:=oO r
 refine min_two_ints (I.ok.hd hc) λh' tk k=>⟨_,H,I.kept k,?_,q⟩
 by_cases hj:j < i
 ·rw [if_pos hj,if_pos hj]; exact ⟨_,rfl⟩
 ·rw [if_neg hj,if_neg hj]; exact ⟨_,rfl⟩
theorem Zer:cS X (.type "int") (λxs H Q=>(∃ i,xs=[.int i]/\Q (.int i) H)\/∃ k,xs=[.bl k]/\Q (.int (if k then 1 else 0)) H):=by
 intro pins s σ H xs us Q I r h
 rcases h with ⟨i,rfl,q⟩ | ⟨k,rfl,q⟩
 ·obtain ⟨u,rfl,t,rfl⟩:=eB r
  exact call_int_int ⟨.int i,H,I,⟨_,rfl⟩,q⟩
 ·obtain ⟨u,rfl,r1⟩:=eB r
  cases r1
  exact call_int_bool ⟨.int (if k then 1 else 0),H,I.tok _,⟨_,rfl⟩,q⟩
end
theorem RelO.some_of {v:V} {o:Option Value} (r:RelO (some v) o):∃ u,o=some u/\RelV v u:=by
 cases o with
 | none=>exact (show False from r).elim
 | some u=>exact ⟨u,rfl,r⟩
structure Room (k:Nat) (A:Around):Prop where
 hd:A.handled=none
 dp:A.depth+3 * k+5 < recursionLimit
 un:A.units+16 * k+200 < cLine
 gd:A.guards=some []
theorem Room.mono {j k:Nat} {A:Around} (r:Room k A) (h:j<=k):Room j A:=⟨r.hd,by have:=r.dp; omega,by have:=r.un; omega,r.gd⟩
theorem Room.deeper {k:Nat} {A:Around} (r:Room (k+1) A) (env:Env):Room k (A.deeper env) :=
 ⟨r.hd,by have:=r.dp; show A.depth+1+3 * k+5 < _; omega,by have:=r.un; show A.units+3+16 * k+200 < _; omega,r.gd⟩
theorem Room.depth {k:Nat} {A:Around} (r:Room k A):A.depth < recursionLimit:=by have:=r.dp; omega
theorem Room.units {k:Nat} {A:Around} (r:Room k A):A.units+64 < cLine:=by have:=r.un; omega
def aX:TA:=λ_ H Q=>Q [] H
def iK (ta:TE) (tr:TA):TA:=λσ H Q=>ta σ H λx H1=>tr σ H1 λxs H2=>Q (x::xs) H2
section
variable {X:Cx} {e:Expr} {es:List Expr} {te:TE} {t:TA} {pos:Pos}
theorem cz:PA X [] aX:=λ_ _ _ _ H Q I h=>Calls.spliced_nil ⟨[],H,I,.nil,h⟩
theorem bG (ha:PE X e te) (hr:PA X es t) (hs:starEach (e::es) X.env=(false,eval e X.env)::starEach es X.env:=by rfl):PA X (e::es) (iK te t):=by
 intro pos pins s σ H Q I h
 rw [hs]
 show wpAny _ _ (spliced ((false,eval e X.env)::backTo pos (starEach es X.env))) _ _ s
 refine Calls.spliced_cons (thn (ha pins s σ H _ I h) λu s1 hz0=>?_)
 obtain ⟨x,H1,I1,r1,q1⟩:=hz0
 exact thn (hr pos pins s1 σ H1 _ I1 q1) λus s2 hz0=>by
  obtain ⟨xs,H2,I2,r2,q2⟩:=hz0
  exact ⟨x::xs,H2,I2,.cons r1 r2,q2⟩
def ZfT (t:TA):TE:=λσ H Q=>t σ H λxs H1=>xs.length<=sizeLine/\∀ p,H1 p=none->Q (.ref p) (upd H1 p (.tup xs))
def Zf7 (t:TA):TE:=λσ H Q=>t σ H λxs H1=>xs.length<=sizeLine/\∀ p,H1 p=none->Q (.ref p) (upd H1 p (.lst xs))
theorem Zcc {x1} (h:PA X es t):PE X (.Tuple es x1 pos) (ZfT t):=by
 intro pins s σ H Q I hq
 refine wpAny_Tuple_spliced (thn (h pos pins s σ H _ I hq) λus s1 ⟨xs,H1,I1,r,z,q⟩=>⟨by rw [<- r.length]; exact z,?_⟩)
 have hf:H1 s1.heap.objs.size=none:=I1.hok.fresh (zp _)
 refine ⟨.ref s1.heap.objs.size,upd H1 s1.heap.objs.size (.tup xs),I1.laid (t':=s1.toks) (λb u e=>pi _ e) (zp _) ?_,rfl,q _ hf⟩
 exact ⟨z,us,r,⟨_,zw _ rfl,rfl,_,rfl⟩⟩
theorem Zce (h:PA X es t):PE X (.List es pos) (Zf7 t):=by
 intro pins s σ H Q I hq
 refine wpAny_List_spliced (thn (h pos pins s σ H _ I hq) λus s1 ⟨xs,H1,I1,r,z,q⟩=>⟨by rw [<- r.length]; exact z,?_⟩)
 have hf:H1 s1.heap.objs.size=none:=I1.hok.fresh (zp _)
 refine ⟨.ref s1.heap.objs.size,upd H1 s1.heap.objs.size (.lst xs),I1.laid (t':=s1.toks) (λb u e=>pi _ e) (zp _) ?_,rfl,q _ hf⟩
 exact ⟨z,us,0,r,zw _ rfl⟩
end
noncomputable abbrev Sp:=List V->Hp->VK->XK->Prop
noncomputable abbrev eA:=List Env->Hp->Shared->XK->Value->Shared->Prop
structure Env0 (P:Program) (w:World) (K:Cb) (mg:Cq) (base:Heap) (A:Around) (outer:List Env) (s:Shared) (H:Hp):Prop where
 frames:A.frames=some outer
 mod:Mod K mg base
 bs:∀ b o,base.get? b=some o->s.heap.get? b=some o/\H b=none
 bsz:base.objs.size<=s.heap.objs.size
 funs:s.heap.FunFrames base outer
 frf:∀ b∈frs outer,H b=none
 hok:HOk P w H s.heap
 bare:AllBare s.gens
noncomputable def CE (outer:List Env) (P:Program) (w:World) (H:Hp) (s:Shared) (Q:VK) (u:Value) (s':Shared):Prop :=
 ∃ v H',s'.os=s.os/\AllBare s'.gens/\Un (frs outer) [] H H' s.heap s'.heap/\HOk P w H' s'.heap/\RelV v u/\Q v H'
noncomputable def CR (CX:eA) (outer:List Env) (P:Program) (w:World) (H:Hp) (s:Shared) (Q:VK) (E:XK) (r:Result) (s':Shared):Prop :=
 match r with
 | .ok (.ret u)=>CE outer P w H s Q u s'
 | .ok _=>False
 | .error e=>CX outer H s E e s'
structure FnOk (P:Program) (w:World) (K:Cb) (mg:Cq) (base:Heap) (CX:eA) (k:Nat) (f:Addr) (fd:FuncData) (ps:Co) (sp:Sp):Prop where
 len:∀ vs H Q E,sp vs H Q E->vs.length=ps.length
 run:∀ (A:Around) (outer:List Env) (s:Shared) (H:Hp) (args:Args) (us:Cn) (vs:Cp) (Q:VK) (E:XK),Room k A->Env0 P w K mg base A outer s H->BindsTo s fd args (ps.zip us)->Vals vs us->sp vs H Q E ->
  codeAny (model P w) A (.call (.ref f) args) (CR CX outer P w H s Q E) s
theorem FnOk.imp {P:Program} {w:World} {K:Cb} {mg:Cq} {base:Heap} {CX:eA} {k:Nat} {f:Addr} {fd:FuncData} {ps:Co} {sp sp':Sp} (F:FnOk P w K mg base CX k f fd ps sp)
  (h:∀ vs H Q E,sp' vs H Q E->sp vs H Q E):FnOk P w K mg base CX k f fd ps sp' :=
 ⟨λvs H Q E q=>F.len vs H Q E (h _ _ _ _ q),λA outer s H args us vs Q E hr he hb hv hs=>F.run A outer s H args us vs Q E hr he hb hv (h _ _ _ _ hs)⟩
section
variable {X:Cx} {pins:List (Addr×Obj)} {σ:St} {H:Hp} {s s':Shared}
theorem Inv.env0 (I:Inv X pins σ H s):Env0 X.prog X.w X.K X.mg X.base X.A X.stack s H :=
 ⟨I.ok.frames,I.ok.mod,I.bs,zE I.ok.bsz I.sz,I.stack,I.stkFree,I.hok,I.bare⟩
theorem Inv.after {Q:VK} {u:Value} (I:Inv X pins σ H s) (h:CE X.stack X.prog X.w H s Q u s'):EP X pins σ Q u s':=by
 obtain ⟨v,H',os,bare,un,hok,r,q⟩:=h
 obtain ⟨hh,g,d,t,os'⟩:=s'
 obtain rfl:os'=s.os:=os
 exact ⟨v,H',I.call (h':=hh) (g':=g) (d':=d) (t':=t) (ch:=[]) un hok bare (λb z=>absurd z (by simp)),r,q⟩
end
def ZaJ (sp:Sp) (dvs:Cp) (E:XK) (t:TA):TE:=λσ H Q=>t σ H λvs H1=>sp (vs++dvs) H1 Q E
noncomputable def Binds (K:Cb) (fd:FuncData) (ps:Co) (ds:Cn):Prop :=
 ∀ (s:Shared) (us:Cn),K.In s.heap->(us++ds).length=ps.length->BindsTo s fd ⟨us,[]⟩ (ps.zip (us++ds))
theorem Binds.all {K:Cb} {fd:FuncData} {ps:Co} (h:∀ us:Cn,us.length=ps.length->bindArgs fd ⟨us,[]⟩=pure (ps.zip us)):Binds K fd ps []:=λs us _ hl=>by
 rw [zN] at hl ⊢
 exact .of_eq (h us hl)
def zc (CX:eA) (X:Cx) (E:XK):Prop:=∀ (pins:List (Addr×Obj)) (σ:St) (H:Hp) (s:Shared) (e:Value) (s':Shared),Inv X pins σ H s->CX X.stack H s E e s'->X.xe e s'
section
variable {X:Cx} {CX:eA} {k:Nat} {f C:Addr} {fd:FuncData} {ps:Co} {sp:Sp} {dvs:Cp} {ds:Cn} {E:XK} {x m:Str} {p pos apos:Pos} {e o:Expr} {es:List Expr} {ta:TE} {t:TA}
theorem ZgP {pins:List (Addr×Obj)} {σ:St} {H:Hp} {s:Shared} {Q:VK} {us:Cn} {vs:Cp} (F:FnOk X.prog X.w X.K X.mg X.base CX k f fd ps sp) (hr:Room k X.A) (hb:Binds X.K fd ps ds) (hd:Vals dvs ds) (hx:zc CX X E)
  (I:Inv X pins σ H s) (r:Vals vs us) (h:sp (vs++dvs) H Q E):wpAny (model X.prog X.w) X.A (call (.ref f) us) (EP X pins σ Q) X.xe s:=by
 have r2:Vals (vs++dvs) (us++ds):=r.append hd
 have hl:(us++ds).length=ps.length:=by rw [<- r2.length]; exact F.len _ _ _ _ h
 refine wpAny_call (codeAny_mono (F.run X.A X.stack s H ⟨us,[]⟩ (us++ds) (vs++dvs) Q E hr I.env0 (hb s us I.kIn hl) r2 h) λr s' hq=>?_)
 cases r with
 | error e=>exact hx pins σ H s e s' I hq
 | ok fl =>
  cases fl with
  | ret u=>exact I.after hq
  | next=>exact False.elim hq
  | brk=>exact False.elim hq
  | cont=>exact False.elim hq
theorem ZhO (F:FnOk X.prog X.w X.K X.mg X.base CX k f fd ps sp) (hr:Room k X.A) (hg:Gl X x) (hm:X.mg x=some (.ref f)) (hk:PySem.W.keepIn X.K (.ref f)=true) (hb:Binds X.K fd ps ds) (hd:Vals dvs ds) (hx:zc CX X E)
  (ha:PA X (e::es) t) (hdb:(x == ("__debug__":Str))=false:=by decide) (he:starEach (e::es) X.env=(false,eval e X.env)::starEach es X.env:=by rfl) (hpl:(backTo pos (starEach es X.env)).any (·.1)=false:=by rfl) :
  PE X (.Call (.Name x p) (e::es) [] pos) (ZaJ sp dvs E t):=by
 intro pins s σ H Q I h
 refine wpAny_Call_Name_kw (xO I hg hm ?_ hdb)
 refine BH (h₀:=X.base) I.ok.mod.kin hk (thn (ha pos pins s σ H _ I h) λus s1 ⟨vs,H1,I1,r,q⟩=>⟨I1.kIn,?_⟩) he hpl
 exact ZgP F hr hb hd hx I1 r q
end
noncomputable def PK (X:Cx) (kws:List Keyword) (t:TA):Prop :=
 ∀ (pos:Pos) (pins:List (Addr×Obj)) (s:Shared) (σ:St) (H:Hp) (Q:List V->Hp->Prop),Inv X pins σ H s->t σ H Q->wpAny (model X.prog X.w) X.A (evalAll ((backToKw pos (keywordEach kws X.env)).map (·.2))) (AP X pins σ Q) X.xe s
section
variable {X:Cx} {CX:eA} {k:Nat} {f C:Addr} {fd:FuncData} {ps ks:Co} {sp:Sp} {E:XK} {x m:Str} {p pos apos kpos:Pos} {e o:Expr} {es:List Expr} {kws:List Keyword} {te ta:TE} {t tk:TA} {nm:Option Str}
variable {g:List Value->List Value->List Value} {gV:List V->List V->List V}
end
structure FnScope (N P:Co) (sc:Scope):Prop where
 kind:sc.kind=.function
 co:sc.isCoroutine=false
 gen:sc.isGenerator=false
 nd:N.Nodup
 pre:N.take P.length=P
 par:∀ x∈P,sc.names.lookup x=some .local\/sc.names.lookup x=some .cell
 nofree:∀ y∈sc.names,y.2≠.free
theorem ZeF {kindOf:Str->Option NameKind} {x:Str}:∀ {binds:List (Str×Value)} {m:Cq},(∀ v,(x,v) ∉ binds)->bindL kindOf binds m x=m x
 | [],_,_=>rfl
 | (n,v)::r,m,h=>by
  unfold bindL
  rw [ZeF λw hw=>h w (Mt _ hw)]
  split
  ·have:x≠n:=by rintro rfl; exact h v z7
   simp [this]
  ·rfl
theorem ZeH {kindOf:Str->Option NameKind} {x:Str}:∀ {binds:List (Str×Value)} {m:Cq},(∀ v,(x,v) ∉ binds)->bindC kindOf binds m x=m x
 | [],_,_=>rfl
 | (n,v)::r,m,h=>by
  unfold bindC
  rw [ZeH λw hw=>h w (Mt _ hw)]
  split
  ·rfl
  ·have:x≠n:=by rintro rfl; exact h v z7
   simp [this]
theorem ZeG {kindOf:Str->Option NameKind} {x:Str} {v:Value}:∀ {P:Co} {vs:Cn} {i:Nat} {m:Cq},P.Nodup->P[i]?=some x->vs[i]?=some v->kindOf x=some .local ->
  bindL kindOf (P.zip vs) m x=some v
 | [],_,_,_,_,h,_,_=>by simp at h
 | _::_,[],_,_,_,_,h,_=>by simp at h
 | p::P,w::vs,0,m,nd,h1,h2,hk=>by
  simp at h1 h2; subst h1; subst h2
  show bindL kindOf ((p,w)::P.zip vs) m p=_
  unfold bindL
  rw [ZeF λv hv=>(BC.mp nd).1 (BW hv).1,if_pos hk]
  simp
 | p::P,w::vs,i+1,m,nd,h1,h2,hk=>by
  show bindL kindOf ((p,w)::P.zip vs) m x=_
  unfold bindL
  exact ZeG (i:=i) (BC.mp nd).2 (by simpa using h1) (by simpa using h2) hk
theorem ZeI {kindOf:Str->Option NameKind} {x:Str} {v:Value}:∀ {P:Co} {vs:Cn} {i:Nat} {m:Cq},P.Nodup->P[i]?=some x->vs[i]?=some v->kindOf x≠some .local ->
  bindC kindOf (P.zip vs) m x=some v
 | [],_,_,_,_,h,_,_=>by simp at h
 | _::_,[],_,_,_,_,h,_=>by simp at h
 | p::P,w::vs,0,m,nd,h1,h2,hk=>by
  simp at h1 h2; subst h1; subst h2
  show bindC kindOf ((p,w)::P.zip vs) m p=_
  unfold bindC
  rw [ZeH λv hv=>(BC.mp nd).1 (BW hv).1,if_neg hk]
  simp
 | p::P,w::vs,i+1,m,nd,h1,h2,hk=>by
  show bindC kindOf ((p,w)::P.zip vs) m x=_
  unfold bindC
  exact ZeI (i:=i) (BC.mp nd).2 (by simpa using h1) (by simpa using h2) hk
noncomputable def start (N:Co) (vs:Cp):St:=vs.map some++List.replicate (N.length - vs.length) none
noncomputable def cQ (CX:eA) (P:Program) (w:World) (K:Cb) (mg:Cq) (base:Heap) (N:Co) (qual:Str) (scope:Scope) (f:Addr) (cd:Value) (A:Around) (outer:List Env) (s:Shared) (H:Hp) (E:XK):Cx where
 prog:=P
 w:=w
 K:=K
 mg:=mg
 base:=base
 A:=A.deeper (envOfC qual scope s.heap.objs.size f cd)
 N:=N
 s₀:=s
 H₀:=H
 env:=envOfC qual scope s.heap.objs.size f cd
 outer:=outer
 stack:=envOfC qual scope s.heap.objs.size f cd::outer
 ex:=[]
 calm:=true
 fn:=λ_=>true
 pn:=[]
 xe:=λe s'=>wpAny (model P w) (A.deeper (envOfC qual scope s.heap.objs.size f cd)) (leaving (envOfC qual scope s.heap.objs.size f cd) e) (λ_ s''=>CX outer H s E e s'') (λe' s''=>CX outer H s E e' s'') s'
theorem Zel {sc:Scope} {n:Nat} {x:Str} (h:sc.names.lookup x=some .cell):∃ c,(cellsFrom n sc.names []).lookup x=some c:=by
 have q:=PySem.W.cellsFrom_some sc.names n [] (.inl h)
 exact Option.isSome_iff_exists.mp q
theorem Zjp {CX:eA} {P:Program} {w:World} {K:Cb} {mg:Cq} {base:Heap} {N ps:Co} {qual:Str} {scope:Scope} {f:Addr} {cd:Value} {A:Around} {outer:List Env} {s s1:Shared} {H:Hp} {E:XK} {us:Cn} {vs:Cp}
  (S:FnScope N ps scope) (hd:A.handled=none) (e0:Env0 P w K mg base A outer s H) (hl:vs.length=ps.length) (r:Vals vs us)
  (x:InCallC s s.heap.objs.size (bindL (envOfC qual scope s.heap.objs.size f cd).kindOf (ps.zip us) λ_=>none) (cellsFrom (s.heap.objs.size+1) scope.names []) (bindC (envOfC qual scope s.heap.objs.size f cd).kindOf (ps.zip us) λ_=>none) s1) :
  Inv (cQ CX P w K mg base N qual scope f cd A outer s H E) [] (start N vs) H s1:=by
 have hpl:ps.length<=N.length:=by have:=congrArg List.length S.pre; rw [AW] at this; omega
 obtain ⟨h1,tk,rfl,hk⟩:=x.done
 have noA:∀ b:Addr,b ∉ (cQ CX P w K mg base N qual scope f cd A outer s H E).ex:=λb z=>absurd (show b∈([]:List Addr) from z) (by simp)
 refine ⟨⟨e0.mod,S.kind,rfl,rfl,zp _,λy z c h1 h2=>?_,λy hy=>?_,λy c _ h=>?_,λ_=>hd,Around.frames_deeper e0.frames,.inr ⟨rfl,rfl⟩,λb z=>absurd z (noA b),e0.bs,e0.bsz,λb _ _=>noA b,λb z=>absurd z (noA b),e0.funs,e0.frf⟩,
  rfl,e0.bare,Un.kept hk,⟨_,x.toInCall.ns,λi y v h1 h2 h3=>?_⟩,λy c h=>⟨_,x.cell y c h⟩,e0.hok.fresh (zp _),λy c h=>?_,λp hp=>absurd (show p∈([]:List (Addr×Obj)) from hp) (by simp),e0.hok.kept hk,?_⟩
 ·exact name_of_addr x.apart (Ar h1) (Ar h2)
 ·have hy:scope.names.lookup y=some .cell\/scope.names.lookup y=some .free:=hy
  rcases hy with hy | hy
  ·exact Zel hy
  ·exact absurd rfl (S.nofree _ (Ar hy))
 ·exact AY (x.above y c (Ar h))
 ·have hi:i < vs.length:=by
   unfold start at h2
   by_cases hi:i < vs.length
   ·exact hi
   ·rw [Af (by simpa using hi)] at h2
    rw [zW] at h2
    split at h2 <;> cases h2
  have ha:vs[i]?=some v:=by
   unfold start at h2
   rw [zX (by simpa using hi),zH] at h2
   cases e:vs[i]? with
   | none=>rw [e] at h2; cases h2
   | some a=>rw [e] at h2; cases h2; rfl
  obtain ⟨u,hu,rv⟩:=r.get ha
  have hp:ps[i]?=some y:=by
   rw [<- S.pre,List.getElem?_take_of_lt (by omega)]; exact h1
  have ndP:ps.Nodup:=by rw [<- S.pre]; exact S.nd.sublist (List.take_sublist _ _)
  refine ⟨u,rv,?_⟩
  rcases S.par y (Bn hp) with k | k
  ·exact .inl ⟨k,ZeG ndP hp hu k⟩
  ·obtain ⟨c,e⟩:=Zel (n:=s.heap.objs.size+1) k
   refine .inr ⟨.inl k,c,e,?_⟩
   have q:=x.cell y c e
   rw [ZeI ndP hp hu (by show scope.names.lookup y≠_; rw [k]; decide)] at q
   exact q
 ·exact e0.hok.fresh (AY (x.above y c (Ar h)))
 ·unfold start
  show _=N.length
  rw [zB,zo,AZ]
  omega
theorem Zdt {CX:eA} {P:Program} {w:World} {K:Cb} {mg:Cq} {base:Heap} {k:Nat} {f:Addr} {name qual:Str} {params:Arguments} {body:List Stmt} {scope:Scope} {dV kV doc pm cdv ct oc:Value} {an od:Option Addr}
  {osl:Array (Option Value)} {N ps:Co} {sp:Sp} (lk:K.lookup f=some ⟨oc,od,.func (PySem.W.fnOf name qual params body scope dV kV doc pm an cdv ct),osl⟩) (hcd:PySem.W.codeIn K cdv qual=true) (S:FnScope N ps scope)
  (len:∀ vs H Q E,sp vs H Q E->vs.length=ps.length)
  (hbody:∀ (A:Around) (outer:List Env) (s:Shared) (H:Hp) (vs:Cp) (Q:VK) (E:XK),Room k (A.deeper (envOfC qual scope s.heap.objs.size f cdv))->sp vs H Q E ->
   ∃ t,PSs (cQ CX P w K mg base N qual scope f cdv A outer s H E) body t/\t { nx:=λ_ H'=>Q .non H',rt:=Q } (start N vs) H) :
  FnOk P w K mg base CX (k+1) f (PySem.W.fnOf name qual params body scope dV kV doc pm an cdv ct) ps sp:=by
 refine ⟨len,λA outer s H args us vs Q E hr e0 hb r hsp=>?_⟩
 have hl:=len _ _ _ _ hsp
 have KX:K.In s.heap:=e0.mod.kin.keeps λb o e=>(e0.bs b o e).1
 have lim:s.heap.NoLimit:=e0.mod.nolimit.keeps λb o e=>(e0.bs b o e).1
 have hkind:∀ y∈ps.zip us,scope.names.lookup y.1=some .local\/(scope.names.lookup y.1=some .cell/\((cellsFrom (s.heap.objs.size+1) scope.names []).lookup y.1).isSome=true):=λ⟨n,v⟩ hy=>by
  rcases S.par n (BW hy).1 with q | q
  ·exact .inl q
  ·exact .inr ⟨q,PySem.W.cellsFrom_some _ _ _ (.inl q)⟩
 refine codeAny_call_function hr.depth (KX _ _ lk) rfl S.co S.gen rfl (PySem.W.codeRec_of KX hcd) (hb _ _ _ _ ?_)
 refine wpAny_newFunctionEnv_cells S.kind hkind λenv he s1 x=>?_
 subst he
 refine ⟨lim.keeps x.toInCall.keep,codeAny_func ?_⟩
 obtain ⟨t,ht,hq⟩:=hbody A outer s H vs Q E (hr.deeper _) hsp
 have I:Inv (cQ CX P w K mg base N qual scope f cdv A outer s H E) [] (start N vs) H s1:=Zjp S hr.hd e0 hl r x
 refine wpAny_mono (ht [] s1 (start N vs) H _ I hq) (λfl s' hs=>?_) λe s' hs=>hs
 have fin:∀ {σ':St} {H':Hp} {v:V} {u:Value},Inv (cQ CX P w K mg base N qual scope f cdv A outer s H E) [] σ' H' s'->RelV v u->Q v H'->CE outer P w H s Q u s' :=
  λ{σ' H' v u} J rv q=>⟨v,H',J.os,J.bare,J.base,J.hok,rv,q⟩
 cases fl with
 | ret u =>
  obtain ⟨v,σ',H',J,rv,q⟩:=hs
  exact fin J rv q
 | next =>
  obtain ⟨σ',H',J,q⟩:=hs
  exact fin (v:=V.non) (u:=Value.none) J rfl q
 | brk =>
  obtain ⟨_,_,_,q⟩:=hs
  exact False.elim q
 | cont =>
  obtain ⟨_,_,_,q⟩:=hs
  exact False.elim q
section
variable {X:Cx} {x:Str} {p pos:Pos} {e:Expr} {es:List Expr} {t:TA} {id T:String} {r:List V->Hp->VK->Prop}
def gP (r:List V->Hp->VK->Prop) (t:TA):TE:=λσ H Q=>t σ H λvs H1=>r vs H1 Q
theorem bj (hc:cS X (.builtin id) r) (hg:Gl X x) (hm:X.mg x=none) (hv:bootBuiltins x=some (.builtin id)) (ha:PA X (e::es) t) (hn:x≠"__name__":=by decide) (hdb:(x == ("__debug__":Str))=false:=by decide)
  (he:starEach (e::es) X.env=(false,eval e X.env)::starEach es X.env:=by rfl) (hpl:(backTo pos (starEach es X.env)).any (·.1)=false:=by rfl):PE X (.Call (.Name x p) (e::es) [] pos) (gP r t):=by
 intro pins s σ H Q I h
 refine wpAny_Call_Name_kw (ij I hg hm hv ?_ hn hdb)
 exact PyProof.Rows.callWith_builtin1 (thn (ha pos pins s σ H _ I h) λus s1 ⟨vs,H1,I1,r1,q1⟩=>hc pins s1 σ H1 vs us Q I1 r1 q1) he hpl
theorem fu (hc:cS X (.type T) r) (hg:Gl X x) (hm:X.mg x=none) (hv:bootBuiltins x=some (.type T)) (ha:PA X (e::es) t) (hn:x≠"__name__":=by decide) (hdb:(x == ("__debug__":Str))=false:=by decide)
  (he:starEach (e::es) X.env=(false,eval e X.env)::starEach es X.env:=by rfl) (hpl:(backTo pos (starEach es X.env)).any (·.1)=false:=by rfl):PE X (.Call (.Name x p) (e::es) [] pos) (gP r t):=by
 intro pins s σ H Q I h
 refine wpAny_Call_Name_kw (ij I hg hm hv ?_ hn hdb)
 exact Aj (thn (ha pos pins s σ H _ I h) λus s1 ⟨vs,H1,I1,r1,q1⟩=>hc pins s1 σ H1 vs us Q I1 r1 q1) he hpl
end
end L2
namespace HT
noncomputable def bT:List Int->List Int->Bool
 | [],[]=>false
 | [],_::_=>true
 | _::_,[]=>false
 | x::xs,y::ys=>if x=y then bT xs ys else decide (x < y)
theorem xM (x y:Int) (xs ys:Cm):bT (x::xs) (y::ys)=if x=y then bT xs ys else decide (x < y):=rfl
theorem xL:bT [] []=false:=rfl
theorem ZiN (y:Int) (ys:Cm):bT [] (y::ys)=true:=rfl
theorem ZiO (x:Int) (xs:Cm):bT (x::xs) []=false:=rfl
theorem ZjX (A:Around) (s:Shared) (a:Int) (t:Tok) (c:Int) (u:Tok):∃ e,SeqAt.EqAt A s (.int a t) (.int c u) e/\(e=true ↔ a=c) :=
 ⟨(a == c),SeqAt.EqAt.int_int a t c u,by simp⟩
theorem Zg8 (A:Around) (s:Shared) (a:Int) (t:Tok) (c:Int) (u:Tok) (prog:Program) (w:World) (E:Ck) (Q:Ck) (h:Q (.bool (decide (a < c))) s) :
  wpAny (model prog w) A (richCompare .Lt (.int a t) (.int c u)) Q E s :=
 (PyProof.Rows.lt_int h:wpAny (model prog w) A (compareOp .Lt (.int a t) (.int c u)) Q E s)
section
open PySem.SeqAt
open PySem.AutoSeq1 (wpAny_loadPart')
open PySem.MeetsSeq PySem.MeetsSeq2 PySem.MeetsSeq3
theorem ZfM (l b:Addr) (items items2:Array Value) (n n2:Nat) (dd dd2:Option Addr) (sl dI:Array (Option Value)) (ns ms:Cm) (hi:IntsAre items.toList ns) (hj:IntsAre items2.toList ms) :
  Meets (Builtin.«tuple.__lt__» ⟨[.ref l,.ref b],[]⟩)
   (λ_ R s=>s.heap.get? l=some { cls:=.type "tuple",dict:=dd,data:=.seq items n,slots:=sl }/\s.heap.get? b=some { cls:=.type "tuple",dict:=dd2,data:=.seq items2 n2,slots:=dI } /\
    R (.ok (.ret (.bool (bT ns ms)))) s) :=
 .of_wp λprog w A R s h=>by
  obtain ⟨hp,g,d,tk,os⟩:=s; obtain ⟨hl,hb,h⟩:=h
  have f2:=AutoSeq1.sub_tuple_tuple
  have z1:items.size=ns.length:=by rw [<- hi.length]; simp
  have z2:items2.size=ms.length:=by rw [<- hj.length]; simp
  wp_walk using wpAny_loadPart' hl,wpAny_loadPart' hb,wpAny_forIn_list _ (λrest b s'=>b.1=none/\s'=⟨hp,g,d,tk,os⟩/\∃ (vs ws:Cn) (ns' ms':Cm),rest=vs.zip ws /\
   IntsAre vs ns'/\IntsAre ws ms'/\ns'.length+items2.size=ms'.length+items.size/\R (.ok (.ret (.bool (bT ns' ms')))) ⟨hp,g,d,tk,os⟩) _
  case turn =>
   rintro ⟨y,x⟩ rest b s' ⟨hb',rfl,vs,ws,ns',ms',hz,hvi,hwi,hlen,hR⟩
   cases hvi with
   | nil=>rw [List.zip_nil_left] at hz; cases hz
   | cons a t hvi' =>
    cases hwi with
    | nil=>rw [List.zip_nil_right] at hz; cases hz
    | cons c u hwi' =>
     rw [AE] at hz
     injection hz with hyx hrest
     injection hyx with hy hx
     subst hy hx
     rw [xM] at hR
     simp only [zn] at hlen
     obtain ⟨e,he,hiff⟩:=ZjX A.in1 ⟨hp,g,d,tk,os⟩ a t c u
     refine wpAny_bind (he prog w _ _ ?_)
     cases e with
     | true =>
      rw [if_pos (hiff.mp rfl)] at hR
      wp_walk
      exact ⟨rfl,rfl,_,_,_,_,hrest,hvi',hwi',by omega,hR⟩
     | false =>
      rw [if_neg (λq=>absurd (hiff.mpr q) zC)] at hR
      have hri:=Zg8 A.in1 ⟨hp,g,d,tk,os⟩ a t c u prog w
      wp_walk using hri
      exact ⟨_,rfl,by simpa using hR⟩
  case fin =>
   rintro ⟨b1,b2⟩ s' ⟨hb',rfl,vs,ws,ns',ms',hz,hvi,hwi,hlen,hR⟩
   simp only at hb'
   subst hb'
   have hv:bT ns' ms'=decide (items.size < items2.size):=by
    cases hvi with
    | nil =>
     cases hwi with
     | nil =>
      simp only [zS] at hlen
      rw [xL]
      exact (decide_eq_false (by omega)).symm
     | cons c u hw =>
      simp only [zS,zn] at hlen
      rw [ZiN]
      exact (decide_eq_true (by omega)).symm
    | cons a t hv =>
     cases hwi with
     | nil =>
      simp only [zS,zn] at hlen
      rw [ZiO]
      exact (decide_eq_false (by omega)).symm
     | cons c u hw =>
      rw [AE] at hz
      cases hz
   rw [hv] at hR
   wp_walk
   exact ⟨_,rfl,by simpa [Builtin.Tuple.tupleCompareSizes] using hR⟩
  case h =>
   exact ⟨rfl,rfl,items.toList,items2.toList,ns,ms,rfl,hi,hj,by omega,h⟩
end
section
variable {prog:Program} {w:World} {A:Around} {E:Ck} {s:Shared}
theorem ZcJ {l b:Addr} {items items2:Array Value} {ns ms:Cm} {Q:Ck} (hl:IsTup s.heap l items) (hb:IsTup s.heap b items2) (hi:IntsAre items.toList ns) (hj:IntsAre items2.toList ms)
  (hu:A.units < cLine) (h:Q (.bool (bT ns ms)) s):wpAny (model prog w) A (compareOp .Lt (.ref l) (.ref b)) Q E s:=by
 obtain ⟨⟨cls,dd,data,sl⟩,ho,hc,n,hd⟩:=id hl
 obtain ⟨⟨cls2,dd2,data2,dI⟩,ho2,hc2,n2,hd2⟩:=id hb
 simp only at hc hd hc2 hd2
 subst hc hd hc2 hd2
 exact richCompare_meets_room (op:=.Lt) ⟨_,ho,rfl⟩ ⟨_,ho2,rfl⟩ PySem.F.slot_tuple_lt PySem.F.entry_tuple_lt (PySem.F.args_tuple_lt_2 _ _) (ZfM l b items items2 n n2 dd dd2 sl dI ns ms hi hj)
  ⟨ho,ho2,show Value.bool (bT ns ms)≠Value.notImplemented/\Q (.bool (bT ns ms)) s from ⟨(λx=>nomatch x),h⟩⟩ hu
theorem Zlh {t b:Addr} {vs ws:Cn} {Q:Ck} (ht:IsTup s.heap t vs.toArray) (hb:IsTup s.heap b ws.toArray) (hv:vs≠[])
  (h1:ws=[]->Q (.ref t) s) (h2:ws≠[]->Q (.ref s.heap.objs.size) { s with heap:=s.heap.push { cls:=.type "tuple",data:=.seq (vs++ws).toArray } })
  (hsz:vs.length+ws.length<=sizeLine):wpAny (model prog w) A (binaryOp .Add (.ref t) (.ref b)) Q E s:=by
 obtain ⟨⟨cls,dd,data,sl⟩,ho,hc,n,hd⟩:=id ht
 obtain ⟨⟨cls2,dd2,data2,dI⟩,ho2,hc2,n2,hd2⟩:=id hb
 simp only at hc hd hc2 hd2
 subst hc hd hc2 hd2
 have e:vs.toArray++ws.toArray=(vs++ws).toArray:=by simp
 by_cases hw:ws=[]
 ·exact concat_meets ⟨_,ho,rfl⟩ ⟨_,ho2,rfl⟩ noFill_tuple_add seq_tuple_add PySem.F.slot_tuple_add B6 (B3 _ _)
   (tuple_addW1 t b vs.toArray ws.toArray n n2 dd dd2 sl dI (by simpa using hv) (by simp [hw])) ⟨ho,ho2,h1 hw⟩
 ·refine concat_meets ⟨_,ho,rfl⟩ ⟨_,ho2,rfl⟩ noFill_tuple_add seq_tuple_add PySem.F.slot_tuple_add B6 (B3 _ _)
   (tuple_addW2 t b vs.toArray ws.toArray n n2 dd dd2 sl dI (by simpa using hv) (by simpa using hw) (by rw [zr,zr]; exact hsz)) ⟨ho,ho2,?_⟩
  rw [e]
  exact h2 hw
noncomputable def aP (n d:Nat):Option Int->Nat
 | none=>d
 | some v=>if v < 0 then (v+(n:Int)).toNat else min v.toNat n
theorem wZ (n d:Nat):aP n d none=d:=rfl
theorem oW (n d k:Nat):aP n d (some (k:Int))=min k n:=by
 show (if (k:Int) < 0 then ((k:Int)+(n:Int)).toNat else min (k:Int).toNat n)=min k n
 rw [if_neg (by omega),As]
theorem ZgO (n d:Nat) (hd:d<=n) (o:Option Int):aP n d o<=n:=by
 cases o with
 | none=>exact hd
 | some v =>
  show (if v < 0 then (v+(n:Int)).toNat else min v.toNat n)<=n
  by_cases hv:v < 0
  ·rw [if_pos hv]; omega
  ·rw [if_neg hv]; exact BR _ _
theorem Zei (v:Int) (n d:Nat):(if v < 0 then max (v+(n:Int)) 0 else min v (n:Int))=((aP n d (some v):Nat):Int):=by
 show (if v < 0 then max (v+(n:Int)) 0 else min v (n:Int))=(((if v < 0 then (v+(n:Int)).toNat else min v.toNat n):Nat):Int)
 by_cases hv:v < 0
 ·rw [if_pos hv,if_pos hv,Int.ofNat_toNat]
 ·rw [if_neg hv,if_neg hv]
  obtain ⟨k,rfl⟩:=Bx (Int.not_lt.mp hv)
  rw [As,<- B4]
theorem Zmm (lo hi:Option Int) (n:Nat):Builtin.Slice.sliceAdjust lo hi 1 (n:Int)=(((aP n 0 lo:Nat):Int),((aP n n hi:Nat):Int)):=by
 have h1:¬ ((1:Int) < 0):=by omega
 unfold Builtin.Slice.sliceAdjust
 simp only [h1,if_false]
 refine Prod.ext ?_ ?_
 ·cases lo with
  | none=>rfl
  | some v=>exact Zei v n 0
 ·cases hi with
  | none=>rfl
  | some v=>exact Zei v n n
theorem Zhw (i j:Nat):Builtin.Slice.slicePlaces (i:Int) (j:Int) 1=j - i:=by
 unfold Builtin.Slice.slicePlaces
 have h1:(1:Int) > 0:=by omega
 simp only [h1,if_true,Int.ediv_one]
 split <;> omega
theorem qv {v:Value} {o:Option Int} {Q:Option Int->Shared->Prop} (p:IsPart v o) (h:Q o s):wpAny (model prog w) A (Builtin.Slice.slicePartIndex v) Q E s:=by
 cases p with
 | none=>exact slicePart_none h
 | int i t=>exact slicePart_int h
theorem Za1 {sl:Addr} {vl vu:Value} {lo hi:Option Int} {n:Nat} {Q:Int×Int×Nat->Shared->Prop} (hs:s.heap.IsSliceOf sl vl vu .none) (pl:IsPart vl lo) (pu:IsPart vu hi)
  (h:Q (((aP n 0 lo:Nat):Int),1,aP n n hi - aP n 0 lo) s):wpAny (model prog w) A (Builtin.Slice.sliceApplied (.ref sl) (pure (n:Int))) Q E s:=by
 obtain ⟨os,hos,hcs,hds⟩:=id hs
 unfold Builtin.Slice.sliceApplied Builtin.Slice.sliceFields
 refine wpAny_bind (wpAny_bind (wpAny_field hos hds (x:=vl) rfl (wpAny_bind (wpAny_field hos hds (x:=vu) rfl (wpAny_bind (wpAny_field hos hds (x:=.none) rfl (wpAny_pure ?_)))))))
 refine wpAny_bind (slicePart_none ?_)
 show wpAny _ _ (if ((1:Int) == 0)=true then _ else _) _ _ s
 rw [if_neg (by decide)]
 refine wpAny_bind (qv pl (wpAny_bind (qv pu (wpAny_bind (wpAny_pure ?_)))))
 show wpAny _ _ (match Builtin.Slice.sliceAdjust lo hi 1 (n:Int) with | (lo,hi)=>pure (lo,(1:Int),Builtin.Slice.slicePlaces lo hi 1)) _ _ s
 rw [Zmm lo hi n]
 show wpAny _ _ (pure (((aP n 0 lo:Nat):Int),(1:Int),Builtin.Slice.slicePlaces ((aP n 0 lo:Nat):Int) ((aP n n hi:Nat):Int) 1)) _ _ s
 rw [Zhw]
 exact wpAny_pure h
theorem Zhy (xs:Array Value) (i k:Nat):((List.range k).filterMap λ(m:Nat)=>xs[((i:Int)+(m:Int) * 1).toNat]?).toArray=((xs.toList.drop i).take k).toArray:=by
 have e:(λ(m:Nat)=>xs[((i:Int)+(m:Int) * 1).toNat]?)=λm=>xs[i+m]?:=by
  funext m
  have:((i:Int)+(m:Int) * 1).toNat=i+m:=by omega
  rw [this]
 rw [e]
 have:=pick_run xs i k
 rw [List.filterMap_map] at this
 have e2:((λx=>xs[x]?) ∘ λx=>i+x)=λm=>xs[i+m]?:=rfl
 rw [e2] at this
 rw [this]
theorem Zjy {t sl:Addr} {items:Array Value} {vl vu:Value} {lo hi:Option Int} {Q:Ck} (ht:IsTup s.heap t items) (hs:s.heap.IsSliceOf sl vl vu .none) (pl:IsPart vl lo) (pu:IsPart vu hi)
  (hw:¬ (aP items.size 0 lo=0/\aP items.size items.size hi=items.size))
  (h:Q (.ref s.heap.objs.size) { s with heap:=s.heap.push { cls:=.type "tuple",data:=.seq ((items.toList.drop (aP items.size 0 lo)).take (aP items.size items.size hi - aP items.size 0 lo)).toArray } })
  (hsz:items.size<=sizeLine):wpAny (model prog w) A (getItem (.ref t) (.ref sl)) Q E s:=by
 have htake:sizeOk (.seq ((items.toList.drop (aP items.size 0 lo)).take (aP items.size items.size hi - aP items.size 0 lo)).toArray):=by
  show ((items.toList.drop (aP items.size 0 lo)).take (aP items.size items.size hi - aP items.size 0 lo)).toArray.size<=sizeLine
  rw [zr,AW,Aw,A6]
  exact zE (BR _ _) (zE (Nat.sub_le _ _) hsz)
 have hj:aP items.size items.size hi<=items.size:=ZgO _ _ (zp _) hi
 obtain ⟨os,hos,hcs,hds⟩:=id hs
 have hTs:s.TypeIs (.ref sl) "slice":=⟨os,hos,hcs⟩
 unfold getItem
 try with_reducible refine wpAny_holding ?_
 first | refine wpAny_bind (wpAny_pure ?_) | skip
 refine wpAny_bind (wpAny_sequenceKey ht.typeIs (by decide) ?_)
 refine wpAny_bind (wpAny_callSpecial?_slot (name:=Str.ofString "__getitem__") ht.typeIs Ab
  (wpAny_call_entry Ab ht.typeIs entry_tuple_getitem ?_ (args_tuple_getitem _ _)))
 show wpAny _ _ (Builtin.Tuple.tupleItemsOf (.ref t) >>= _) _ _ s
 refine wpAny_bind (tupleItemsOf_ ht ?_)
 refine wpAny_bind (wpAny_typeOf hTs ?_)
 rw [if_pos (by decide)]
 refine wpAny_bind (Za1 hs pl pu ?_)
 have hno:¬ ((((aP items.size 0 lo:Nat):Int) == 0 && (1:Int) == 1 && (aP items.size items.size hi - aP items.size 0 lo) == items.size)=true):=by
  intro q
  rw [zL,zL] at q
  have q1:((aP items.size 0 lo:Nat):Int)=0:=eq_of_beq q.1.1
  have q2:aP items.size items.size hi - aP items.size 0 lo=items.size:=eq_of_beq q.2
  exact hw ⟨by omega,by omega⟩
 show wpAny _ _ (if (((aP items.size 0 lo:Nat):Int) == 0 && (1:Int) == 1 && (aP items.size items.size hi - aP items.size 0 lo) == items.size)=true then _ else _) _ _ s
 rw [if_neg hno,Zhy]
 first
  | exact wpAny_bind (m:=Builtin.Tuple.tupleExact _) (wpAny_newObj_type (wpAny_pure ⟨_,rfl,wpAny_pure h⟩) htake)
  | exact wpAny_bind (m:=Builtin.Tuple.tupleExact _) (wpAny_newObj_type (wpAny_bind (wpAny_pure (wpAny_pure ⟨_,rfl,wpAny_pure h⟩))) htake)
  | exact wpAny_bind (wpAny_bind (m:=Builtin.Tuple.tupleExact _) (wpAny_newObj_type (wpAny_pure (wpAny_pure ⟨_,rfl,wpAny_pure h⟩)) htake))
  | exact wpAny_bind (wpAny_bind (m:=Builtin.Tuple.tupleExact _) (wpAny_newObj_type (wpAny_pure ⟨_,rfl,wpAny_pure h⟩) htake))
end
end HT
namespace L2
noncomputable abbrev TO:=St->Hp->(Option Int->Hp->Prop)->Prop
noncomputable def PO (X:Cx) (e:Option Expr) (t:TO):Prop :=
 ∀ (pins:List (Addr×Obj)) (s:Shared) (σ:St) (H:Hp) (Q:Option Int->Hp->Prop),Inv X pins σ H s->t σ H Q ->
  wpAny (model X.prog X.w) X.A (evalPart e X.env) (λu s'=>∃ o H',Inv X pins σ H' s'/\IsPart u o/\Q o H') X.xe s
noncomputable def Zf4:TO:=λ_ H Q=>Q none H
noncomputable def Zf1 (t:TE):TO:=λσ H Q=>t σ H λx H1=>∃ i,x=.int i/\Q (some i) H1
theorem u0 {ns:Cm}:∀ {us:Cn},Vals (ns.map V.int) us->IntsAre us ns:=by
 induction ns with
 | nil=>intro us r; rw [AH] at r; cases r; exact .nil
 | cons n ns ih =>
  intro us r
  rw [zm] at r
  cases r with
  | cons r1 r2 =>
   obtain ⟨t,e⟩:=r1
   subst e
   exact .cons n t (ih r2)
section
variable {X:Cx} {e:Expr} {te:TE} {lo hi:Option Expr} {tl th:TO} {pos p2:Pos}
theorem Zb9:PO X none Zf4:=by
 intro pins s σ H Q I h
 rw [evalPart_none]
 exact wpAny_pure ⟨none,H,I,.none,h⟩
theorem Zb8 (h:PE X e te):PO X (some e) (Zf1 te):=by
 intro pins s σ H Q I hw
 rw [evalPart_some]
 refine thn (h pins s σ H _ I hw) λu s1 hz0=>?_
 obtain ⟨x,H1,I1,r1,q1⟩:=hz0
 obtain ⟨i,rfl,q⟩:=q1
 obtain ⟨t,rfl⟩:=r1
 exact ⟨some i,H1,I1,.int i t,q⟩
noncomputable def SlR (X:Cx) (r:V->Option Int->Option Int->Hp->VK->Prop):Prop :=
 ∀ (pins:List (Addr×Obj)) (s:Shared) (σ:St) (H:Hp) (x:V) (v vl vu:Value) (lo hi:Option Int) (sl:Addr) (Q:VK),Inv X pins σ H s->RelV x v->s.heap.IsSliceOf sl vl vu .none->IsPart vl lo->IsPart vu hi->r x lo hi H Q ->
  ∃ T id,typeLookup (.type T) "__getitem__"=pure (some (.builtin id))/\s.TypeIs v T/\wpAny (model X.prog X.w) X.A (getItem v (.ref sl)) (EP X pins σ Q) X.xe s
theorem SlR.or {r r':V->Option Int->Option Int->Hp->VK->Prop} (h:SlR X r) (h':SlR X r'):SlR X (λx lo hi H Q=>r x lo hi H Q\/r' x lo hi H Q):=by
 intro pins s σ H x v vl vu lo hi sl Q I rx hs pl pu q
 rcases q with q | q
 ·exact h pins s σ H x v vl vu lo hi sl Q I rx hs pl pu q
 ·exact h' pins s σ H x v vl vu lo hi sl Q I rx hs pl pu q
def tSl (r:V->Option Int->Option Int->Hp->VK->Prop) (te:TE) (tl th:TO):TE:=λσ H Q=>te σ H λx H1=>tl σ H1 λl H2=>th σ H2 λu H3=>r x l u H3 Q
theorem Zcd {r:V->Option Int->Option Int->Hp->VK->Prop} (hr:SlR X r) (he:PE X e te) (hl:PO X lo tl) (hu:PO X hi th):PE X (.Subscript e (.Slice lo hi none p2) pos) (tSl r te tl th):=by
 intro pins s σ H Q I h
 refine Subscript_ (thn (he pins s σ H _ I h) λv s1 hz0=>?_)
 obtain ⟨x,H1,I1,r1,q1⟩:=hz0
 refine wpAny_Slice (thn (hl pins s1 σ H1 _ I1 q1) λvl s2 ⟨l,H2,I2,pl,q2⟩=>thn (hu pins s2 σ H2 _ I2 q2) λvu s3 hz0=>?_)
 obtain ⟨u,H3,I3,pu,q3⟩:=hz0
 rw [evalPart_none]
 refine wpAny_pure ?_
 have I4:Inv X pins σ H3 { s3 with heap:=s3.heap.push { cls:=.type "slice",data:=.fields #[vl,vu,.none] } }:=I3.kept (t':=s3.toks) λb ob q=>pi _ q
 obtain ⟨T,id,hT,ht,hg⟩:=hr pins { s3 with heap:=s3.heap.push { cls:=.type "slice",data:=.fields #[vl,vu,.none] } } σ H3 x v vl vu l u s3.heap.objs.size Q I4 r1 (Heap.IsSliceOf.new ..) pl pu q3
 show wpAny (model X.prog X.w) X.A (subscriptTail e (.Slice lo hi none p2) v (.ref s3.heap.objs.size)) (EP X pins σ Q) X.xe { s3 with heap:=s3.heap.push { cls:=.type "slice",data:=.fields #[vl,vu,.none] } }
 exact tail_any (ops:=[.ref s3.heap.objs.size,v]) ht hT hg (by with_unfolding_all rfl)
noncomputable def e7 (xs:Cp) (lo hi:Option Int):Cp:=(xs.drop (HT.aP xs.length 0 lo)).take (HT.aP xs.length xs.length hi - HT.aP xs.length 0 lo)
theorem Zed (xs:Cp) (lo hi:Option Int):(e7 xs lo hi).length<=xs.length:=by
 unfold e7
 rw [AW,Aw]
 exact zE (BR _ _) (Nat.sub_le _ _)
noncomputable def ZbF (K:Cb):V->Option Int->Option Int->Hp->VK->Prop:=λx lo hi H Q=>∃ a xs,x=.ref a/\SqT K H a xs /\
 ¬ (HT.aP xs.length 0 lo=0/\HT.aP xs.length xs.length hi=xs.length)/\∀ p,H p=none->Q (.ref p) (upd H p (.tup (e7 xs lo hi)))
theorem Zgt:SlR X (ZbF X.K):=by
 intro pins s σ H x v vl vu lo hi sl Q I rx hs pl pu h
 obtain ⟨a,xs,rfl,hx,hw,q⟩:=h
 cases rx
 obtain ⟨its,r,ht,hz⟩:=I.tuple hx
 have hlen:its.toArray.size=xs.length:=by rw [zr]; exact r.length.symm
 refine ⟨"tuple",_,PyProof.Rows.slot_tuple_getitem.lookup,ht.typeIs,?_⟩
 refine HT.Zjy ht hs pl pu (by rw [hlen]; exact hw) ?_ (by rw [hlen]; exact hz)
 rw [hlen]
 refine ⟨.ref s.heap.objs.size,_,I.laid (t':=s.toks) (o:=.tup (e7 xs lo hi)) (λb ob q=>pi _ q) (zp _) ?_,rfl,q _ (I.hok.fresh (zp _))⟩
 exact ⟨zE (Zed xs lo hi) hz,_,(r.drop (HT.aP xs.length 0 lo)).take (HT.aP xs.length xs.length hi - HT.aP xs.length 0 lo),IsTup.new _ _⟩
noncomputable def ZbW (K:Cb):R2:=λx y H Q=>∃ a b xs ys,x=.ref a/\y=.ref b/\SqT K H a xs/\SqT K H b ys/\xs≠[]/\xs.length+ys.length<=sizeLine /\
 (ys=[]->Q (.ref a) H)/\(ys≠[]->∀ p,H p=none->Q (.ref p) (upd H p (.tup (xs++ys))))
theorem Vals.nil_iff {xs:Cp} {us:Cn} (r:Vals xs us):us=[] ↔ xs=[]:=by
 cases r with
 | nil=>simp
 | cons _ _=>simp
theorem Zh6:OpR X (binaryOp .Add) (ZbW X.K):=by
 intro pins s σ H x y v u Q I rx ry h
 obtain ⟨a,b,xs,ys,rfl,rfl,ha,hb,hx,hz,q1,q2⟩:=h
 cases rx
 cases ry
 obtain ⟨its,r1,p1,_⟩:=I.tuple ha
 obtain ⟨its2,r2,p2,_⟩:=I.tuple hb
 refine HT.Zlh p1 p2 (λz=>hx (r1.nil_iff.mp z)) (λz=>⟨.ref a,H,I,rfl,q1 (r2.nil_iff.mp z)⟩) (λz=>?_) (by rw [<- r1.length,<- r2.length]; exact hz)
 refine ⟨.ref s.heap.objs.size,_,I.laid (t':=s.toks) (o:=.tup (xs++ys)) (λb ob q=>pi _ q) (zp _) ?_,rfl,q2 (λw=>z (r2.nil_iff.mpr w)) _ (I.hok.fresh (zp _))⟩
 exact ⟨by rw [zB]; exact hz,_,r1.append r2,IsTup.new _ _⟩
end
noncomputable def dA (n:Nat) (i:Int):Option Nat:=if 0<=i then (if i < n then some i.toNat else none) else if -(n:Int)<=i then some (i+n).toNat else none
noncomputable def bp {α:Type} (xs:List α) (i:Int):Option α:=(dA xs.length i).bind λj=>xs[j]?
theorem Zc5 {n:Nat} {i:Int} {j:Nat} (h:dA n i=some j):seqIndex? i n=some j/\j < n/\-(n:Int)<=i/\i < n:=by
 unfold dA at h
 by_cases h0:0<=i
 ·rw [if_pos h0] at h
  by_cases h1:i < n
  ·rw [if_pos h1] at h
   have e:i.toNat=j:=zJ h
   exact ⟨by rw [seqIndex_of h0 h1,e],by omega,by omega,h1⟩
  ·rw [if_neg h1] at h; cases h
 ·rw [if_neg h0] at h
  by_cases h1:-(n:Int)<=i
  ·rw [if_pos h1] at h
   have e:(i+n).toNat=j:=zJ h
   exact ⟨by rw [seqIndex_neg (by omega) h1,e],by omega,h1,by omega⟩
  ·rw [if_neg h1] at h; cases h
theorem vD {α:Type} {xs:List α} {i:Int} {v:α} (h:bp xs i=some v):∃ j,seqIndex? i xs.length=some j/\xs[j]?=some v/\j < xs.length/\-(xs.length:Int)<=i/\i < xs.length:=by
 unfold bp at h
 cases e:dA xs.length i with
 | none=>rw [e] at h; cases h
 | some j =>
  rw [e] at h
  obtain ⟨h1,h2,h3,h4⟩:=Zc5 e
  exact ⟨j,h1,h,h2,h3,h4⟩
theorem fI {α:Type} {xs:List α} {j:Nat} {v:α} (h:xs[j]?=some v):bp xs (j:Int)=some v:=by
 have hj:j < xs.length:=(zu.mp h).1
 have e:dA xs.length (j:Int)=some j:=by
  unfold dA
  rw [if_pos (by omega),if_pos (by omega)]; simp
 unfold bp; rw [e]; exact h
def zb (b:Expr):Prop:=∀ o i,subscripted b false o i=operate [o,i] (getItem o i)
noncomputable def IxR (X:Cx) (r:R2):Prop :=
 ∀ (value slice:Expr) (pins:List (Addr×Obj)) (s:Shared) (σ:St) (H:Hp) (x y:V) (v u:Value) (Q:VK),Inv X pins σ H s->RelV x v->RelV y u->r x y H Q ->
  subscripted slice false v u=operate [v,u] (getItem v u)->wpAny (model X.prog X.w) X.A (subscriptTail value slice v u) (EP X pins σ Q) X.xe s
noncomputable def MtR (X:Cx) (id:String) (r:V->List V->Hp->VK->Prop):Prop :=
 ∀ (pins:List (Addr×Obj)) (s:Shared) (σ:St) (H:Hp) (x:V) (xs:Cp) (v:Value) (us:Cn) (Q:VK),Inv X pins σ H s->RelV x v->Vals xs us->r x xs H Q ->
  wpAny (model X.prog X.w) X.A (call (.builtin id) (v::us)) (EP X pins σ Q) X.xe s
section
variable {X:Cx} {a b:Expr} {ta tb:TE} {pos:Pos}
theorem IxR.or {r r':R2} (h:IxR X r) (h':IxR X r'):IxR X (λx y H Q=>r x y H Q\/r' x y H Q):=by
 intro value slice pins s σ H x y v u Q I rx ry q hs
 rcases q with q | q
 ·exact h value slice pins s σ H x y v u Q I rx ry q hs
 ·exact h' value slice pins s σ H x y v u Q I rx ry q hs
theorem ft {r:R2} (hr:IxR X r) (ha:PE X a ta) (hb:PE X b tb) (hs:zb b):PE X (.Subscript a b pos) (iJ r ta tb):=by
 intro pins s σ H Q I h
 exact Subscript_ (yI ha hb I h λv u s2 x y H2 I2 rx ry q=>hr a b pins s2 σ H2 x y v u Q I2 rx ry q (hs _ _))
noncomputable def xf (K:Cb):R2:=λx y H Q=>∃ p xs i v,x=.ref p/\y=.int i/\SqL K H p xs/\bp xs i=some v/\Q v H
noncomputable def ZbP (K:Cb):R2:=λx y H Q=>∃ p xs i v,x=.ref p/\y=.int i/\SqT K H p xs/\bp xs i=some v/\Q v H
noncomputable def ZbQ:R2:=λx y H Q=>∃ z i c,x=.str z/\y=.int i/\z.length<=sizeLine/\bp z.cps.toList i=some c/\Q (.str ⟨#[c]⟩) H
theorem fF:IxR X (xf X.K):=by
 intro value slice pins s σ H x y v u Q I rx ry h hs
 obtain ⟨p,xs,i,z,rfl,rfl,hq,he,q⟩:=h
 cases rx
 obtain ⟨t,rfl⟩:=ry
 obtain ⟨its,r,pl,hz⟩:=I.list hq
 obtain ⟨j,h1,h2,h3,h4,h5⟩:=vD he
 obtain ⟨w,ew,rw'⟩:=r.get h2
 have hl:=r.length
 have hn:=ii
 have fin:EP X pins σ Q w s:=⟨z,H,I,rw',q⟩
 by_cases h0:0<=i
 ·have hj:i.toNat=j:=by
   rw [seqIndex_of h0 h5] at h1
   exact zJ h1
  exact item_listR pl.isList h0 (by omega) (by rw [hj]; simpa using ew) fin hs
 ·have hj:(i+(its.toArray.size:Int)).toNat=j:=by
   rw [seqIndex_neg (by omega) h4] at h1
   rw [zr,<- hl]
   exact zJ h1
  exact subscriptTail_builtinR (x:=w) pl.isList.typeIs slot_list_getitem.lookup
   (wpAny_getItem_list_neg (Q:=λr s'=>r=w/\EP X pins σ Q r s') pl.isList (by omega) (by rw [zr] <;> omega) (by omega) (by rw [hj]; simpa using ew) ⟨rfl,fin⟩) hs
theorem Zje:IxR X (ZbP X.K):=by
 intro value slice pins s σ H x y v u Q I rx ry h hs
 obtain ⟨p,xs,i,z,rfl,rfl,hq,he,q⟩:=h
 cases rx
 obtain ⟨t,rfl⟩:=ry
 obtain ⟨its,r,pl,hz⟩:=I.tuple hq
 obtain ⟨j,h1,h2,h3,h4,h5⟩:=vD he
 obtain ⟨w,ew,rw'⟩:=r.get h2
 have hl:=r.length
 have hn:=ii
 have fin:EP X pins σ Q w s:=⟨z,H,I,rw',q⟩
 exact subscriptTail_builtinR (x:=w) pl.typeIs slot_tuple_getitem.lookup
  (getItem_tuple (j:=j) (Q:=λr s'=>r=w/\EP X pins σ Q r s') pl (by omega) (by omega) (by rw [zr,<- hl]; exact h1) (by simpa using ew) ⟨rfl,fin⟩) hs
theorem Zjf:IxR X ZbQ:=by
 intro value slice pins s σ H x y v u Q I rx ry h hs
 obtain ⟨z,i,c,rfl,rfl,hz,he,q⟩:=h
 obtain ⟨t,rfl⟩:=rx
 obtain ⟨t',rfl⟩:=ry
 obtain ⟨j,h1,h2,h3,h4,h5⟩:=vD he
 have hl:z.cps.toList.length=z.length:=by simp [Str.length]
 rw [hl] at h1 h4 h5
 have hn:=ii
 exact tail_any (typeIs_str s z t) slot_str_getitem.lookup (getItem_str (c:=c) (by
  have e1:decide (i < -(2 ^ 63:Int))=false:=decide_eq_false (by omega)
  have e2:decide (i ≥ 2 ^ 63)=false:=decide_eq_false (by omega)
  rw [e1,e2,Bool.or_false]) (by rw [h1]; simpa using h2) ⟨.str ⟨#[c]⟩,H,I.tok _,⟨_,rfl⟩,q⟩) hs
noncomputable def rIx (K:Cb):R2:=λx y H Q=>xf K x y H Q\/ZbP K x y H Q\/ZbQ x y H Q
theorem bg:IxR X (rIx X.K):=fF.or (Zje.or Zjf)
theorem ZiD (its:Cn) (n j:Nat) (u:Value):Obj.mapSeq (·.setIfInBounds j u) { cls:=.type "list",data:=.seq its.toArray n }={ cls:=.type "list",data:=.seq (its.set j u).toArray n }:=by
 simp [Obj.mapSeq]
theorem Inv.lst {pins:List (Addr×Obj)} {σ:St} {H:Hp} {s:Shared} {p:Addr} {xs:Cp} (I:Inv X pins σ H s) (h:H p=some (.lst xs)) :
  ∃ (its:Cn) (n:Nat),Vals xs its/\s.heap.get? p=some { cls:=.type "list",data:=.seq its.toArray n }/\xs.length<=sizeLine:=by
 obtain ⟨z,its,n,r,e⟩:=I.hok p _ h
 exact ⟨its,n,r,e,z⟩
theorem Inv.lstUpd {pins:List (Addr×Obj)} {σ:St} {H:Hp} {s:Shared} {p:Addr} {xs ys:Cp} {its its':Cn} {n n':Nat} {f:Obj->Obj} (I:Inv X pins σ H s) (h:H p=some (.lst xs))
  (ho:s.heap.get? p=some { cls:=.type "list",data:=.seq its.toArray n }) (hf:f { cls:=.type "list",data:=.seq its.toArray n }={ cls:=.type "list",data:=.seq its'.toArray n' }) (r:Vals ys its') (hz:ys.length<=sizeLine) (t:Nat) :
  Inv X pins σ (upd H p (.lst ys)) { s with heap:=s.heap.update p f,toks:=t }:=by
 have e:(s.heap.update p f).get? p=some { cls:=.type "list",data:=.seq its'.toArray n' }:=by
  rw [AS f ho (by rw [hf] <;> rfl),hf]
 refine I.write (x:=p) (e:=p) (by rw [h]; trivial) (.inl rfl) (λb u hb q=>(z9 _ _ (Ne.symm hb)).trans q) ⟨_,e⟩ ?_
 exact ⟨hz,its',n',r,e⟩
noncomputable def xa:V->V->V->Hp->(Hp->Prop)->Prop:=λo i v H Q=>∃ p xs k j,o=.ref p/\i=.int k/\H p=some (.lst xs)/\dA xs.length k=some j/\Q (upd H p (.lst (xs.set j v)))
theorem oS:zd X xa:=by
 intro pins s σ H o i v ov iv u Q I ro ri rv h
 obtain ⟨p,xs,k,j,rfl,rfl,hp,hj,q⟩:=h
 cases ro
 obtain ⟨t,rfl⟩:=ri
 obtain ⟨its,n,r,ho,hz⟩:=I.lst hp
 obtain ⟨h1,h2,h3,h4⟩:=Zc5 hj
 have hl:=r.length
 have hn:=ii
 have I':Inv X pins σ (upd H p (.lst (xs.set j v))) { s with heap:=s.heap.update p (Obj.mapSeq (·.setIfInBounds j u)) } :=
  I.lstUpd hp ho (ZiD its n j u) (r.set rv j) (by rw [zR]; exact hz) s.toks
 by_cases h0:0<=k
 ·have hk:k.toNat=j:=by
   rw [seqIndex_of h0 h4] at h1
   exact zJ h1
  exact PySem.W.ki_setAt ho h0 (by omega) (by rw [zr,<- hl]; exact h4) (by rw [hk]; exact ⟨_,I',q⟩)
 ·have hk:(k+(its.toArray.size:Int)).toNat=j:=by
   rw [seqIndex_neg (by omega) h3] at h1
   rw [zr,<- hl]
   exact zJ h1
  exact PySem.W.ki_setBack ho (by omega) (by rw [zr,<- hl]; exact h3) (by omega) (by rw [hk]; exact ⟨_,I',q⟩)
theorem Zec {n:Nat} {i:Int} (h:i < 0):max 0 (min (i+(n:Int)) n)=(((i+n).toNat:Nat):Int):=by
 rw [Int.min_eq_left (by omega),Int.ofNat_toNat,Int.max_comm]
theorem vp {n:Nat} {i:Int} (h:¬ i < 0):max 0 (min i (n:Int))=((min i.toNat n:Nat):Int):=by
 obtain ⟨k,rfl⟩:=Bx (Int.not_lt.mp h)
 rw [As,<- B4]
 exact Int.max_eq_right (BJ _)
theorem Zgp (lo hi:Option Int) (n:Nat):(sliceBounds lo hi none n).1=((HT.aP n 0 lo:Nat):Int)/\(sliceBounds lo hi none n).2.1=((HT.aP n n hi:Nat):Int)/\(sliceBounds lo hi none n).2.2=1:=by
 refine ⟨?_,?_,rfl⟩
 ·cases lo with
  | none=>simp [sliceBounds,HT.aP]
  | some i =>
   simp only [sliceBounds,HT.aP,Option.getD_none,show (1:Int) > 0 by decide,if_true]
   by_cases h:i < 0
   ·simp only [h,if_true]
    exact Zec h
   ·simp only [h,if_false]
    exact vp h
 ·cases hi with
  | none=>simp [sliceBounds,HT.aP]
  | some i =>
   simp only [sliceBounds,HT.aP,Option.getD_none,show (1:Int) > 0 by decide,if_true]
   by_cases h:i < 0
   ·simp only [h,if_true]
    exact Zec h
   ·simp only [h,if_false]
    exact vp h
theorem Zgq (its:Cn) (lo hi:Option Int):slicePick its.toArray lo hi none=((its.drop (HT.aP its.length 0 lo)).take (HT.aP its.length its.length hi - HT.aP its.length 0 lo)).toArray:=by
 obtain ⟨h1,h2,h3⟩:=Zgp lo hi its.toArray.size
 unfold slicePick
 rw [h1,h2,h3]
 simp only [sliceRange_one,pick_run,zr] <;> rfl
noncomputable def ZbG (K:Cb):V->Option Int->Option Int->Hp->VK->Prop:=λx lo hi H Q=>∃ a xs,x=.ref a/\SqL K H a xs/\∀ p,H p=none->Q (.ref p) (upd H p (.lst (e7 xs lo hi)))
theorem Za2:SlR X (ZbG X.K):=by
 intro pins s σ H x v vl vu lo hi sl Q I rx hs pl pu h
 obtain ⟨a,xs,rfl,hx,q⟩:=h
 cases rx
 obtain ⟨its,r,ht,hz⟩:=I.list hx
 have hlen:=r.length
 refine ⟨"list",_,slot_list_getitem.lookup,ht.isList.typeIs,?_⟩
 refine wpAny_getItem_list_slice ht.isList hs pl pu .none (by simp) ?_ (by rw [zr] <;> omega)
 rw [Zgq,<- hlen]
 refine ⟨.ref s.heap.objs.size,_,I.laid (t':=s.toks) (o:=.lst (e7 xs lo hi)) (λb ob q=>pi _ q) (zp _) ?_,rfl,q _ (I.hok.fresh (zp _))⟩
 exact ⟨zE (Zed xs lo hi) hz,_,0,(r.drop (HT.aP xs.length 0 lo)).take (HT.aP xs.length xs.length hi - HT.aP xs.length 0 lo),zw _ rfl⟩
theorem fH:cS X (.builtin "len") (λxs H Q=>∃ p ys,xs=[.ref p]/\(SqL X.K H p ys\/SqT X.K H p ys)/\Q (.int ys.length) H):=by
 intro pins s σ H xs us Q I r h
 obtain ⟨p,ys,rfl,hq,q⟩:=h
 obtain ⟨u,rfl,rx⟩:=eB r
 cases rx
 have hn:=ii
 rcases hq with hq | hq
 ·obtain ⟨its,r',pl,hz⟩:=I.list hq
  have hlen:=r'.length
  exact Calls.call_len_list pl.isList (by simp only [zr] <;> omega) ⟨.int ys.length,H,I.tok _,⟨s.toks+1,by rw [zr,hlen]⟩,q⟩
 ·obtain ⟨its,r',pl,hz⟩:=I.tuple hq
  have hlen:=r'.length
  exact len_tuple pl (by simp only [zr] <;> omega) ⟨.int ys.length,H,I.tok _,⟨s.toks+1,by rw [zr,hlen]⟩,q⟩
theorem Zlp:cS X (.type "list") (λxs H Q=>∃ p ys,xs=[.ref p]/\(SqL X.K H p ys\/SqT X.K H p ys)/\∀ l,H l=none->Q (.ref l) (upd H l (.lst ys))):=by
 intro pins s σ H xs us Q I r h
 obtain ⟨p,ys,rfl,hq,q⟩:=h
 obtain ⟨u,rfl,rx⟩:=eB r
 cases rx
 have fin:∀ (its:Cn),Vals ys its->ys.length<=sizeLine->∀ (h':Heap) (c':Nat),(∀ b o',s.heap.get? b=some o'->h'.get? b=some o') ->
   h'.get? s.heap.objs.size=some { cls:=.type "list",dict:=none,data:=.seq its.toArray c',slots:=#[] }->EP X pins σ Q (.ref s.heap.objs.size) { s with heap:=h' }:=λits r' hz h' c' kp e =>
  ⟨.ref s.heap.objs.size,_,I.laid (t':=s.toks) kp (zp _) (show ObjOk X.prog X.w _ h' _ (.lst ys) from ⟨hz,its,c',r',e⟩),rfl,q _ (I.hok.fresh (zp _))⟩
 rcases hq with hq | hq
 ·obtain ⟨its,r',pl,hz⟩:=I.list hq
  have hlen:=r'.length
  obtain ⟨o,ho,hc,n,hd⟩:=pl.isList
  exact call_list_seq p (.inl rfl) ho hc hd (λh' c' kp e=>fin its r' hz h' c' kp e) (by simp only [zr] <;> omega)
 ·obtain ⟨its,r',pl,hz⟩:=I.tuple hq
  have hlen:=r'.length
  obtain ⟨o,ho,hc,n,hd⟩:=pl
  exact call_list_seq p (.inr rfl) ho hc hd (λh' c' kp e=>fin its r' hz h' c' kp e) (by simp only [zr] <;> omega)
theorem pW:cS X (.type "tuple") (λxs H Q=>∃ p ys,xs=[.ref p]/\((SqL X.K H p ys/\∀ l,H l=none->Q (.ref l) (upd H l (.tup ys)))\/(SqT X.K H p ys/\Q (.ref p) H))):=by
 intro pins s σ H xs us Q I r h
 obtain ⟨p,ys,rfl,h⟩:=h
 obtain ⟨u,rfl,rx⟩:=eB r
 cases rx
 rcases h with ⟨hq,q⟩ | ⟨hq,q⟩
 ·obtain ⟨its,r',pl,hz⟩:=I.list hq
  have hlen:=r'.length
  refine call_tuple_list pl.isList (λh' kp=>?_) (by simp only [zr] <;> omega)
  have I1:Inv X pins σ H { s with heap:=h' }:=I.kept (t':=s.toks) kp
  have I2:Inv X pins σ (upd H h'.objs.size (.tup ys)) { s with heap:=h'.push { cls:=.type "tuple",data:=.seq its.toArray } } :=
   I1.laid (t':=s.toks) (λb o e=>pi _ e) (zp _) (show ObjOk X.prog X.w _ _ _ (.tup ys) from ⟨hz,its,r',IsTup.new _ _⟩)
  exact ⟨.ref h'.objs.size,_,I2,rfl,q _ (I1.hok.fresh (zp _))⟩
 ·obtain ⟨its,r',pl,hz⟩:=I.tuple hq
  exact call_tuple_same pl ⟨.ref p,H,I,rfl,q⟩
def wv (K:Cb) (T:String) (x:V) (H:Hp):Prop:=match x with
 | .str _=>T="str"
 | .int _=>T="int"
 | .ref p=>(T="list"/\∃ xs,SqL K H p xs)\/(T="tuple"/\∃ o,K.lookup p=some o/\o.cls=.type "tuple"/\o.dict=none) \/
   (T="dict"/\((∃ kvs,H p=some (.dK kvs))\/∃ kvs,H p=some (.dT kvs)))\/(T="set"/\∃ S n,H p=some (.set S n))
 | _=>False
theorem Zav {pins:List (Addr×Obj)} {σ:St} {H:Hp} {s:Shared} {T:String} {x:V} {v:Value} (I:Inv X pins σ H s) (r:RelV x v) (ty:wv X.K T x H) :
  s.TypeIs v T/\∀ a,v=.ref a->∃ ob,s.heap.get? a=some ob/\ob.dict=none:=by
 cases x with
 | str z =>
  obtain ⟨t,rfl⟩:=r
  cases (show T="str" from ty)
  exact ⟨typeIs_str s z t,λ_ e=>nomatch e⟩
 | int i =>
  obtain ⟨t,rfl⟩:=r
  cases (show T="int" from ty)
  exact ⟨typeIs_int s i t,λ_ e=>nomatch e⟩
 | ref p =>
  cases r
  rcases ty with ⟨rfl,xs,hq⟩ | ⟨rfl,o,hk,hc,hd⟩ | ⟨rfl,hk⟩ | ⟨rfl,S,n,hk⟩
  ·obtain ⟨its,_,pl,_⟩:=I.list hq
   refine ⟨pl.isList.typeIs,λa e=>?_⟩
   cases e
   obtain ⟨o,n,e,c,hd,_⟩:=pl
   exact ⟨o,e,hd⟩
  ·refine ⟨⟨o,I.kIn p o hk,hc⟩,λa e=>?_⟩
   cases e
   exact ⟨o,I.kIn _ o hk,hd⟩
  ·have z:∃ o,s.heap.get? p=some o/\o.ExactDict:=by
    rcases hk with ⟨kvs,hk⟩ | ⟨kvs,hk⟩
    ·obtain ⟨_,_,_,_,o,_,_,e,ex,_⟩:=I.hok p _ hk
     exact ⟨o,e,ex⟩
    ·obtain ⟨_,_,_,_,o,_,_,e,ex,_⟩:=I.hok p _ hk
     exact ⟨o,e,ex⟩
   obtain ⟨o,e,ex⟩:=z
   refine ⟨⟨o,e,ex.1⟩,λa e2=>?_⟩
   cases e2
   exact ⟨o,e,ex.2.1⟩
  ·obtain ⟨o,_,_,_,e,ex,_⟩:=I.hok p _ hk
   refine ⟨⟨o,e,ex.1⟩,λa e2=>?_⟩
   cases e2
   exact ⟨o,e,ex.2.1⟩
 | _=>exact False.elim ty
def ZaK (K:Cb) (T:String) (r:V->List V->Hp->VK->Prop) (to:TE):TE:=λσ H Q=>to σ H λx H1=>wv K T x H1/\r x [] H1 Q
def wC (K:Cb) (T:String) (r:V->List V->Hp->VK->Prop) (to:TE) (t:TA):TE:=λσ H Q=>to σ H λx H1=>wv K T x H1/\t σ H1 λxs H2=>r x xs H2 Q
variable {o e:Expr} {es:List Expr} {to:TE} {t:TA} {name:Str} {apos cpos:Pos} {T id:String} {r:V->List V->Hp->VK->Prop}
theorem Zch (pa:PlainAttrs T) (slot:Slot T name id) (hty:typeOf (.builtin id)=pure (.type "method_descriptor")) (hm:MtR X id r) (ho:PE X o to)
  (hbase:attributeBase o name X.env (eval o X.env)=eval o X.env:=by rfl) (hline:(apos.endLine == cpos.line)=true:=by rfl):PE X (.Call (.Attribute o name apos) [] [] cpos) (ZaK X.K T r to):=by
 intro pins s σ H Q I h
 refine wpAny_Call_method0_late hbase hline (thn (ho pins s σ H _ I h) λv s1 hz0=>?_)
 obtain ⟨x,H1,I1,r1,ty,q1⟩:=hz0
 obtain ⟨h1,h2⟩:=Zav I1 r1 ty
 exact ⟨T,id,pa,slot,hty,h1,h2,Calls.callWith_builtin rfl (PySem.evalArgs_none (hm pins s1 σ H1 x [] v [] Q I1 r1 .nil q1))⟩
theorem pj (pa:PlainAttrs T) (slot:Slot T name id) (hty:typeOf (.builtin id)=pure (.type "method_descriptor")) (hm:MtR X id r) (ho:PE X o to) (ha:PA X (e::es) t)
  (hbase:attributeBase o name X.env (eval o X.env)=eval o X.env:=by rfl)
  (hfew:((backTo cpos (starEach (e::es) X.env)).all (λx=>!x.1) && (backToKw cpos (keywordEach [] X.env)).all (λx=>x.1.isSome)
   && decide ((e::es).length+([]:List Keyword).length+(if ([]:List Keyword).isEmpty then 0 else 1) < 30))=true:=by rfl)
  (hline:(apos.endLine == cpos.line)=true:=by rfl) (hs:starEach (e::es) X.env=(false,eval e X.env)::starEach es X.env:=by rfl) (hplain:(backTo cpos (starEach es X.env)).any (·.1)=false:=by rfl) :
  PE X (.Call (.Attribute o name apos) (e::es) [] cpos) (wC X.K T r to t):=by
 intro pins s σ H Q I h
 refine wpAny_Call_method_late hbase hfew hline rfl (thn (ho pins s σ H _ I h) λv s1 hz0=>?_)
 obtain ⟨x,H1,I1,r1,ty,q1⟩:=hz0
 obtain ⟨h1,h2⟩:=Zav I1 r1 ty
 refine ⟨T,id,pa,slot,hty,h1,h2,?_⟩
 have hA:=ha cpos pins s1 σ H1 _ I1 q1
 rw [hs] at hA ⊢
 refine Calls.callWith_builtin (by show (false || (backTo cpos (starEach es X.env)).any (·.1))=false; rw [hplain] <;> rfl) (Calls.evalArgs_plain ?_)
 exact thn hA λus s2 hz0=>by
  obtain ⟨vs,H2,I2,r2,q2⟩:=hz0
  exact hm pins s2 σ H2 x vs v us Q I2 r1 r2 q2
end
noncomputable def ze (X:Cx) (id:String) (r:V->List V->Hp->VK->Prop):Prop :=
 ∀ (pins:List (Addr×Obj)) (s:Shared) (σ:St) (H:Hp) (x:V) (xs:Cp) (v:Value) (us:Cn) (Q:VK),Inv X pins σ H s->RelV x v->Vals xs us->r x xs H Q ->
  wpAny (model X.prog X.w) X.A (call (.builtin id) (v::us)) (EP X pins σ Q) X.xe s
theorem Vals.one {x:V} {us:Cn} (h:Vals [x] us):∃ u,us=[u]/\RelV x u:=by
 cases h with
 | cons r t=>cases t; exact ⟨_,rfl,r⟩
theorem Vals.zero:∀ {us:Cn},Vals [] us->us=[]
 | _,.nil=>rfl
theorem Vals.reverse {xs:Cp} {us:Cn} (h:Vals xs us):Vals xs.reverse us.reverse:=by
 induction h with
 | nil=>exact .nil
 | cons r t ih=>rw [AR,AR]; exact Vals.append ih (.cons r .nil)
theorem Vals.rep {xs:Cp} {us:Cn} (h:Vals xs us):∀ k:Nat,Vals (List.replicate k xs).flatten (List.replicate k us).flatten
 | 0=>.nil
 | k+1=>by
  rw [zG,zG,Ad,Ad]
  exact Vals.append h (Vals.rep h k)
theorem Zds (its:Cn):∀ (k:Nat) (acc:Cn),
  List.foldl (λx1 x2=>x1++x2) acc.toArray (List.replicate k its.toArray)=(acc++(List.replicate k its).flatten).toArray
 | 0,acc=>by simp
 | k+1,acc=>by
  have e:acc.toArray++its.toArray=(acc++its).toArray:=by simp
  have e2:(acc++its)++(List.replicate k its).flatten=acc++(List.replicate (k+1) its).flatten:=by
   rw [zG,Ad,Ae]
  rw [<- e2,<- Zds its k (acc++its),<- e,zG,AA]
section
variable {X:Cx} {pins:List (Addr×Obj)} {σ:St} {H:Hp} {s:Shared} {l b:Addr} {xs ys zs:Cp}
theorem Inv.lset {its its':Cn} {n:Nat} {f:Array Value->Array Value} {t':Nat} (I:Inv X pins σ H s) (hH:H l=some (.lst xs))
  (e:s.heap.get? l=some { cls:=.type "list",data:=.seq its.toArray n }) (hf:f its.toArray=its'.toArray) (hv:Vals ys its') (hz:ys.length<=sizeLine) :
  Inv X pins σ (upd H l (.lst ys)) { s with heap:=s.heap.update l (Obj.mapSeq f),toks:=t' }:=by
 have q:=PySem.IsL.update e f
 rw [hf] at q
 refine I.write (x:=l) (e:=l) (by rw [hH]; exact trivial) (.inl rfl) (λb' u hb hu=>(z9 s.heap (Obj.mapSeq f) (Ne.symm hb)).trans hu) ⟨_,q⟩ ?_
 exact ⟨hz,its',_,hv,q⟩
theorem Inv.lnew {its:Cn} {t':Nat} (I:Inv X pins σ H s) (hv:Vals ys its) (hz:ys.length<=sizeLine) :
  Inv X pins σ (upd H s.heap.objs.size (.lst ys)) { s with heap:=s.heap.push { cls:=.type "list",data:=.seq its.toArray },toks:=t' } :=
 I.laid (λ_ _ q=>pi _ q) (zp _) ⟨hz,its,0,hv,zw _ rfl⟩
theorem Inv.fresh (I:Inv X pins σ H s):H s.heap.objs.size=none:=I.hok.fresh (zp _)
theorem Inv.lstM (I:Inv X pins σ H s) (hH:H l=some (.lst xs)):xs.length<=sizeLine/\∃ (its:Cn) (n:Nat),Vals xs its/\xs.length=its.length/\s.heap.get? l=some { cls:=.type "list",data:=.seq its.toArray n }:=by
 obtain ⟨z,its,n,r,e⟩:=I.hok l _ hH
 exact ⟨z,its,n,r,r.length,e⟩
theorem Zcq {n:Nat} (h:n<=sizeLine):Builtin.List.listTooLong n=false:=by
 unfold Builtin.List.listTooLong
 exact decide_eq_false (by omega)
end
section
variable {X:Cx}
noncomputable def ZbY:V->List V->Hp->VK->Prop:=λx vs H Q=>∃ l xs y,x=.ref l/\vs=[y]/\H l=some (.lst xs)/\xs.length < sizeLine/\Q .non (upd H l (.lst (xs++[y])))
theorem q9:ze X "list.append" ZbY:=by
 intro pins s σ H x vs v us Q I rx rv h
 obtain ⟨l,xs,y,rfl,rfl,hH,hz,q⟩:=h
 cases rx
 obtain ⟨u,rfl,ru⟩:=rv.one
 obtain ⟨z,its,n,r,hl,e⟩:=I.lstM hH
 refine call_meets F.slot_list_append ⟨_,e,rfl⟩ F.entry_list_append (F.args_list_append_2 _ _) (PySem.list_append l its.toArray n u (by rw [zr]; omega)) ⟨e,?_⟩
 refine ⟨.non,_,I.lset (its':=its++[u]) hH e (by simp) (r.append (.cons ru .nil)) ?_,rfl,q⟩
 rw [zB,List.length_singleton]
 omega
noncomputable def ZbT:V->List V->Hp->VK->Prop:=λx vs H Q=>∃ l b xs zs,x=.ref l/\vs=[.ref b]/\H l=some (.lst xs)/\H b=some (.lst zs)/\xs.length+zs.length<=sizeLine/\Q .non (upd H l (.lst (xs++zs)))
theorem Zir:ze X "list.extend" ZbT:=by
 intro pins s σ H x vs v us Q I rx rv h
 obtain ⟨l,b,xs,zs,rfl,rfl,hH,hB,hz,q⟩:=h
 cases rx
 obtain ⟨u,rfl,ru⟩:=rv.one
 cases ru
 obtain ⟨z,its,n,r,hl,e⟩:=I.lstM hH
 obtain ⟨z2,its2,n2,r2,hl2,e2⟩:=I.lstM hB
 have hsz:its.toArray.size+its2.toArray.size<=sizeLine:=by rw [zr,zr]; omega
 have hlong:¬ (!its.toArray.isEmpty && Builtin.List.listTooLong (its.toArray.size+its2.toArray.size))=true:=by
  rw [Zcq hsz,Bool.and_false]
  exact zC
 refine call_meets F.slot_list_extend ⟨_,e,rfl⟩ F.entry_list_extend (F.args_list_extend_2 _ _)
  (AutoSeq1.list_extend_list_list_0 l its.toArray n b its2.toArray n2 hlong (by rw [zr]; omega) (by omega)) ⟨e,e2,?_⟩
 refine ⟨.non,_,I.lset (its':=its++its2) hH e (by simp) (r.append r2) ?_,rfl,q⟩
 rw [zB]
 omega
noncomputable def ZbH:V->List V->Hp->VK->Prop:=λx vs H Q=>∃ l xs,x=.ref l/\vs=[]/\H l=some (.lst xs)/\Q .non (upd H l (.lst xs.reverse))
theorem Zcw:ze X "list.reverse" ZbH:=by
 intro pins s σ H x vs v us Q I rx rv h
 obtain ⟨l,xs,rfl,rfl,hH,q⟩:=h
 cases rx
 have hus:=rv.zero
 subst hus
 obtain ⟨z,its,n,r,hl,e⟩:=I.lstM hH
 refine call_meets F.slot_list_reverse ⟨_,e,rfl⟩ F.entry_list_reverse (F.args_list_reverse_1 _) (AutoSeq1.list_reverse_list_0 l its.toArray n (by rw [zr]; omega)) ⟨e,?_⟩
 refine ⟨.non,_,I.lset (its':=its.reverse) hH e (by simp) r.reverse ?_,rfl,q⟩
 rw [zQ]
 omega
noncomputable def ZbX:R2:=λx y H Q=>∃ l b xs zs,x=.ref l/\y=.ref b/\H l=some (.lst xs)/\H b=some (.lst zs)/\xs.length+zs.length<=sizeLine/\∀ p,H p=none->Q (.ref p) (upd H p (.lst (xs++zs)))
theorem Zh7:OpR X (binaryOp .Add) ZbX:=by
 intro pins s σ H x y v u Q I rx ry h
 obtain ⟨l,b,xs,zs,rfl,rfl,hH,hB,hz,q⟩:=h
 cases rx
 cases ry
 obtain ⟨z,its,n,r,hl,e⟩:=I.lstM hH
 obtain ⟨z2,its2,n2,r2,hl2,e2⟩:=I.lstM hB
 refine PySem.P.add_list e e2 ?_ (by rw [zr,zr]; omega)
 have ea:its.toArray++its2.toArray=(its++its2).toArray:=by simp
 rw [ea]
 exact ⟨.ref _,_,I.lnew (t':=s.toks) (r.append r2) (by rw [zB]; omega),rfl,q _ I.fresh⟩
noncomputable def xb:R2:=λx y H Q=>∃ l k xs,x=.ref l/\y=.int k/\H l=some (.lst xs)/\-(2 ^ 63)<=k/\k < 2 ^ 63/\xs.length * k.toNat<=sizeLine /\
 ∀ p,H p=none->Q (.ref p) (upd H p (.lst (List.replicate k.toNat xs).flatten))
theorem ZiQ {α:Type} (xs:List α) (k:Nat):(List.replicate k xs).flatten.length=k * xs.length:=by
 induction k with
 | zero=>simp
 | succ k ih=>rw [zG,Ad,zB,ih,A7,Nat.add_comm]
theorem Zcm:OpR X (binaryOp .Mult) xb:=by
 intro pins s σ H x y v u Q I rx ry h
 obtain ⟨l,k,xs,rfl,rfl,hH,h1,h2,hz,q⟩:=h
 cases rx
 obtain ⟨t,rfl⟩:=ry
 obtain ⟨z,its,n,r,hl,e⟩:=I.lstM hH
 have hlen:its.toArray.size * k.toNat<=sizeLine:=by rw [zr,<- hl]; exact hz
 have hcap:¬ its.toArray.size * k.toNat > (2 ^ 63 - 1) / 8:=by
  have:(sizeLine:Nat)<=(2 ^ 63 - 1) / 8:=by decide
  omega
 have hfit:¬ (!Builtin.List.listFitsIndex k)=true:=by
  rw [fitsIndex_both h1 h2]
  exact zC
 have hlong:¬ Builtin.List.listTooLong (its.toArray.size * k.toNat)=true:=by
  rw [Zcq hlen]
  exact zC
 have hnew:List.foldl (λx1 x2=>x1++x2) #[] (List.replicate (if its.toArray.isEmpty=true then 0 else k.toNat) its.toArray)=(List.replicate k.toNat its).flatten.toArray:=by
  have f0:∀ m:Nat,List.foldl (λx1 x2=>x1++x2) #[] (List.replicate m its.toArray)=(List.replicate m its).flatten.toArray:=λm=>by
   have:=Zds its m []
   rw [At] at this
   exact this
  rw [f0]
  cases its with
  | nil=>simp
  | cons a r'=>rw [if_neg (by simp)]
 refine wpAny_binaryOp_repeat_ref (T:="list") (U:="int") (by decide) ⟨_,e,rfl⟩ (λs'=>typeIs_int s' k t) noFill_list_mul F.fills_int_mul F.slot_int_rmul repeat_list F.slot_int_index.lookup
  (call_meets F.slot_int_rmul (typeIs_int s k t) F.entry_int_rmul (F.args_int_rmul_2 _ _) (int___rmul___int_list k t l its.toArray n)
   ⟨e,rfl,⟨_,e,rfl⟩,call_meets F.slot_list_mul ⟨_,e,rfl⟩ F.entry_list_mul (F.args_list_mul_2 _ _) (AutoListH.list___mul___list_int_3 l its.toArray n k t hfit hcap hlong) ⟨e,?_⟩⟩)
 rw [hnew]
 exact ⟨.ref _,_,I.lnew (t':=s.toks) (r.rep k.toNat) (by rw [ZiQ,Nat.mul_comm]; exact hz),rfl,q _ I.fresh⟩
end
section
variable {κ:Type} [DecidableEq κ]
noncomputable def eC (kvs:List (κ×V)) (k:κ):Option V:=(kvs.find? λkv=>decide (kv.1=k)).map (·.2)
noncomputable def dm (kvs:List (κ×V)) (k:κ) (v:V):List (κ×V) :=
 if (kvs.any λkv=>decide (kv.1=k))=true then kvs.map (λkv=>if kv.1=k then (kv.1,v) else kv) else kvs++[(k,v)]
theorem sJ {p:κ×V} {r:List (κ×V)} {k:κ} (e:p.1=k):eC (p::r) k=some p.2:=by simp [eC,An,e]
theorem wu {p:κ×V} {r:List (κ×V)} {k:κ} (e:¬ p.1=k):eC (p::r) k=eC r k:=by simp [eC,An,e]
theorem Zau (k:κ):∀ kvs:List (κ×V),(kvs.any λkv=>decide (kv.1=k))=(eC kvs k).isSome
 | []=>rfl
 | p::r=>by
  rw [Bw]
  by_cases e:p.1=k
  ·simp only [sJ e,decide_eq_true e,Bool.true_or,Option.isSome_some]
  ·rw [wu e,decide_eq_false e,Bool.false_or]; exact Zau k r
theorem uK (kvs:List (κ×V)) (k:κ) (v:V):(dm kvs k v).length<=kvs.length+1:=by
 unfold dm
 split
 ·rw [zo]; omega
 ·rw [zB,zn,zS]; omega
theorem RelO.isSome_eq {o:Option V} {u:Option Value} (r:RelO o u):o.isSome=u.isSome:=by
 cases o with
 | none=>cases u with
  | none=>rfl
  | some _=>exact (show False from r).elim
 | some _=>cases u with
  | none=>exact (show False from r).elim
  | some _=>rfl
theorem KV.val {kvs:List (κ×V)} {vs:List (κ×Value)} (r:KV kvs vs) (k:κ):RelO (eC kvs k) (valueAt vs k):=by
 unfold KV at r
 induction r with
 | nil=>exact True.intro
 | @cons p q ps qs h t ih =>
  obtain ⟨h1,h2⟩:=h
  by_cases e:p.1=k
  ·have e':q.1=k:=h1.symm.trans e
   have b:valueAt (q::qs) k=some q.2:=by simp [valueAt,An,e']
   rw [sJ e,b]; exact h2
  ·have e':¬ q.1=k:=λz=>e (h1.trans z)
   have b:valueAt (q::qs) k=valueAt qs k:=by simp [valueAt,An,e']
   rw [wu e,b]; exact ih
theorem KV.any {kvs:List (κ×V)} {vs:List (κ×Value)} (r:KV kvs vs) (k:κ):(kvs.any λkv=>decide (kv.1=k))=vs.any λkv=>decide (kv.1=k):=by
 unfold KV at r
 induction r with
 | nil=>rfl
 | cons h t ih=>rw [Bw,Bw,ih,h.1]
theorem KV.repl {kvs:List (κ×V)} {vs:List (κ×Value)} (r:KV kvs vs) (k:κ) {y:V} {u:Value} (ry:RelV y u) :
  KV (kvs.map λkv=>if kv.1=k then (kv.1,y) else kv) (vs.map λkv=>if kv.1=k then (kv.1,u) else kv):=by
 unfold KV at r ⊢
 induction r with
 | nil=>exact .nil
 | @cons p q ps qs h t ih =>
  rw [zm,zm]
  refine .cons ?_ ih
  obtain ⟨h1,h2⟩:=h
  by_cases e:p.1=k
  ·rw [if_pos e,if_pos (h1.symm.trans e)]; exact ⟨h1,ry⟩
  ·rw [if_neg e,if_neg (λz=>e (h1.trans z))]; exact ⟨h1,h2⟩
theorem KV.put {kvs:List (κ×V)} {vs:List (κ×Value)} (r:KV kvs vs) (k:κ) {y:V} {u:Value} (ry:RelV y u):KV (dm kvs k y) (stored vs k u):=by
 unfold dm stored
 rw [r.any k]
 by_cases e:(vs.any λkv=>decide (kv.1=k))=true
 ·rw [if_pos e,if_pos e]; exact r.repl k ry
 ·rw [if_neg e,if_neg e]; exact Paired.snoc r ⟨rfl,ry⟩
theorem KV.length {kvs:List (κ×V)} {vs:List (κ×Value)} (r:KV kvs vs):kvs.length=vs.length:=BT r
end
theorem x6 {P:Program} {w:World} {k:aD} {u:Value} (r:RelV (kV k) u):(bY P w).is k u=true:=by
 cases k with
 | inl i=>obtain ⟨t,e⟩:=(show ∃ t,u=Value.int i t from r); subst e; exact Zcy P w i t
 | inr x=>obtain ⟨t,e⟩:=(show ∃ t,u=Value.str x t from r); subst e; exact Zis P w x t
theorem Zc6 {P:Program} {w:World}:∀ {ks:List aD} {us:Cn},Vals (ks.map kV) us->ItemsAre (bY P w) ks us
 | [],_,r=>by rw [AH] at r; cases r; exact .nil
 | k::ks,_,r=>by
  rw [zm] at r
  cases r with
  | cons h t=>exact .cons (x6 h) (Zc6 t)
noncomputable abbrev KT (H:Hp):List (List aD×V)->List (List aD×Addr×Value)->Prop:=Paired λp q=>p.1=q.1/\H q.2.1=some (.tup (p.1.map kV))/\RelV p.2 q.2.2
theorem KT.val {H:Hp} {kvs:List (List aD×V)} {xs:List (List aD×Addr×Value)} (r:KT H kvs xs) (k:List aD):RelO (eC kvs k) ((atKey xs k).map (·.2)):=by
 induction r with
 | nil=>exact True.intro
 | @cons p q ps qs h t ih =>
  obtain ⟨h1,_,h2⟩:=h
  by_cases e:p.1=k
  ·have e':q.1=k:=h1.symm.trans e
   have b:atKey (q::qs) k=some q.2:=by simp [atKey,An,e']
   rw [sJ e,b]; exact h2
  ·have e':¬ q.1=k:=λz=>e (h1.trans z)
   have b:atKey (q::qs) k=atKey qs k:=by simp [atKey,An,e']
   rw [wu e,b]; exact ih
theorem KT.repl {H:Hp} {kvs:List (List aD×V)} {xs:List (List aD×Addr×Value)} (r:KT H kvs xs) (k:List aD) {y:V} {u:Value} (ry:RelV y u) :
  KT H (kvs.map λkv=>if kv.1=k then (kv.1,y) else kv) (xs.map (putAt k u)):=by
 induction r with
 | nil=>exact .nil
 | @cons p q ps qs h t ih =>
  rw [zm,zm]
  refine .cons ?_ ih
  obtain ⟨h1,h2,h3⟩:=h
  unfold putAt
  by_cases e:p.1=k
  ·rw [if_pos e,if_pos (h1.symm.trans e)]; exact ⟨h1,h2,ry⟩
  ·rw [if_neg e,if_neg (λz=>e (h1.trans z))]; exact ⟨h1,h2,h3⟩
theorem KT.put {H:Hp} {kvs:List (List aD×V)} {xs:List (List aD×Addr×Value)} (r:KT H kvs xs) (k:List aD) {b:Addr} {y:V} {u:Value} (hb:H b=some (.tup (k.map kV))) (ry:RelV y u) :
  KT H (dm kvs k y) (storedH xs k b u):=by
 have e:(kvs.any λkv=>decide (kv.1=k))=(atKey xs k).isSome:=by
  rw [Zau,(r.val k).isSome_eq,Option.isSome_map]
 unfold dm storedH
 rw [e]
 by_cases q:(atKey xs k).isSome=true
 ·rw [if_pos q,if_pos q]; exact r.repl k ry
 ·rw [if_neg q,if_neg q]; exact Paired.snoc r ⟨rfl,hb,ry⟩
theorem KT.keeps {H H':Hp} {kvs:List (List aD×V)} {xs:List (List aD×Addr×Value)} (r:KT H kvs xs) (ht:∀ b ys,H b=some (.tup ys)->H' b=some (.tup ys)):KT H' kvs xs :=
 Paired.mapP r λ_ _ z=>⟨z.1,ht _ _ z.2.1,z.2.2⟩
section
variable {P:Program} {w:World} {H:Hp} {h:Heap} {a:Addr}
theorem Zby {u:HO} (ok:HOk P w H h) (e:Rd H a u):ObjOk P w H h a u:=e.ok ok
theorem vm {kvs:List (aD×V)} (ok:HOk P w H h) (e:Rd H a (.dK kvs)):kvs.length<=sizeLine/\(a == sysModules)=false/\∃ vs,KV kvs vs/\h.DictOf (bY P w) a vs :=
 show ObjOk P w H h a (.dK kvs) from Zby ok e
theorem Zkl {kvs:List (aD×V)} (ok:HOk P w H h) (e:H a=some (.dK kvs)):kvs.length<=sizeLine/\(a == sysModules)=false/\∃ vs,KV kvs vs/\h.DictOf (bY P w) a vs:=vm ok (.inl e)
theorem x0 {ks:List aD} (ok:HOk P w H h) (e:H a=some (.tup (ks.map kV))):(tupleKind (bY P w)).is h ks a:=by
 obtain ⟨_,its,r,o,h1,h2,n,h3⟩:=(show ObjOk P w H h a (.tup (ks.map kV)) from ok a _ e)
 exact ⟨o,its.toArray,n,h1,h2,h3,by simpa using Zc6 r⟩
theorem yw {kvs:List (List aD×V)} (ok:HOk P w H h) (e:Rd H a (.dT kvs)):kvs.length<=sizeLine/\(a == sysModules)=false /\
  ∃ xs,KT H kvs xs/\h.DictOfH (tupleKind (bY P w)) a xs:=by
 obtain ⟨z,y,xs,r,o,es,ep,h1,h2,h3,h4,h5⟩:=(show ObjOk P w H h a (.dT kvs) from Zby ok e)
 refine ⟨z,y,xs,r,o,es,ep,h1,h2,h3,h4,λx hx=>?_,h5⟩
 have all:∀ {l:List (List aD×V)} {m:List (List aD×Addr×Value)},KT H l m->∀ x∈m,(tupleKind (bY P w)).is h x.1 x.2.1:=by
  intro l m q
  induction q with
  | nil=>intro x hx; exact nomatch hx
  | @cons p q ps qs hq t ih =>
   intro x hx
   rcases zq.mp hx with e | hx
   ·subst e
    exact x0 ok (by rw [<- hq.1]; exact hq.2.1)
   ·exact ih x hx
 exact all r x hx
theorem Zki {kvs:List (List aD×V)} (ok:HOk P w H h) (e:H a=some (.dT kvs)):kvs.length<=sizeLine/\(a == sysModules)=false /\
  ∃ xs,KT H kvs xs/\h.DictOfH (tupleKind (bY P w)) a xs:=yw ok (.inl e)
end
noncomputable def zj (H:Hp) (a:Addr) (y:V) (r:Option V):Prop :=
 (∃ kvs k,Rd H a (.dK kvs)/\y=kV k/\r=eC kvs k)\/∃ kvs k b,Rd H a (.dT kvs)/\y=.ref b/\H b=some (.tup (k.map kV))/\r=eC kvs k
noncomputable def DPut (H:Hp) (a:Addr) (y v:V) (H':Hp):Prop :=
 (∃ kvs k,H a=some (.dK kvs)/\y=kV k/\kvs.length < sizeLine/\H'=upd H a (.dK (dm kvs k v))) \/
 ∃ kvs k b,H a=some (.dT kvs)/\y=.ref b/\H b=some (.tup (k.map kV))/\kvs.length < sizeLine/\H'=upd H a (.dT (dm kvs k v))
theorem DPut.k {H:Hp} {a:Addr} {kvs:List (aD×V)} {k:aD} {v:V} (e:H a=some (.dK kvs)) (hl:kvs.length < sizeLine):DPut H a (kV k) v (upd H a (.dK (dm kvs k v))):=.inl ⟨kvs,k,e,rfl,hl,rfl⟩
section
variable {X:Cx} {pins:List (Addr×Obj)} {σ:St} {H:Hp} {s:Shared} {a:Addr} {y v:V} {u r:Value} {o:Option V} {A:Around} {E:Ck}
theorem Inv.big (I:Inv X pins σ H s):sysModules < s.heap.objs.size:=by
 have h:mainGlobals < s.heap.objs.size:=(I.mod.glob.keeps I.bk).lt
 exact Nat.lt_trans (by decide) h
theorem ZkF {Q:Ck} (hu:A.units+1 < cLine) (I:Inv X pins σ H s) (g:zj H a y (some v)) (ry:RelV y u) (h:∀ w' s',Inv X pins σ H s'->RelV v w'->Q w' s') :
  wpAny (model X.prog X.w) A (getItem (.ref a) u) Q E s:=by
 rcases g with ⟨kvs,k,e,ey,l⟩ | ⟨kvs,k,b,e,ey,eb,l⟩
 ·subst ey
  obtain ⟨z,hd,vs,rel,dd⟩:=vm I.hok e
  obtain ⟨w',hw,rw'⟩:=RelO.some_of (v:=v) (o:=valueAt vs k) (by rw [l]; exact rel.val k)
  exact wpAny_getItem_of (x6 ry) dd.mapOf hw (h w' _ (I.tok _) rw')
 ·subst ey
  cases (show u=Value.ref b from ry)
  obtain ⟨z,hd,xs,rel,dd⟩:=yw I.hok e
  obtain ⟨w',hw,rw'⟩:=RelO.some_of (v:=v) (o:=(atKey xs k).map (·.2)) (by rw [l]; exact rel.val k)
  obtain ⟨p,hp,hp2⟩:=Option.map_eq_some_iff.mp hw
  refine wpAny_getItem_heap (tupleKind_room_in1 hu) (x0 I.hok eb) dd hp ?_
  rw [hp2]
  exact h w' _ (I.tok _) rw'
theorem Zd6 {h':Heap} {t':Nat} {ob:HO} (I:Inv X pins σ H s) (mu:sD (H a)) (hs:Heap.SameBut a s.heap h') (he:∃ q,h'.get? a=some q) (new:ObjOk X.prog X.w (upd H a ob) h' a ob) :
  Inv X pins σ (upd H a ob) { s with heap:=h',toks:=t' } :=
 I.write (x:=a) (e:=a) mu (.inl rfl) (λb q hb z=>(hs.2 b hb).trans z) he new
theorem Zkm {P:Program} {w:World} {H':Hp} {h':Heap} {kvs:List (aD×V)} {vs:List (aD×Value)} (z:kvs.length<=sizeLine) (hd:(a == sysModules)=false) (rel:KV kvs vs) (dd:h'.DictOf (bY P w) a vs) :
  ObjOk P w H' h' a (.dK kvs):=⟨z,hd,vs,rel,dd⟩
theorem Zky {H':Hp} {Q:Unit->Shared->Prop} (hu:A.units+1 < cLine) (I:Inv X pins σ H s) (g:DPut H a y v H') (ry:RelV y u) (rv:RelV v r) (h:∀ s',Inv X pins σ H' s'->Q () s') :
  wpAny (model X.prog X.w) A (setItem (.ref a) u r) Q E s:=by
 rcases g with ⟨kvs,k,e,ey,l,eH⟩ | ⟨kvs,k,b,e,ey,eb,l,eH⟩
 ·subst ey eH
  obtain ⟨z,hd,vs,rel,dd⟩:=Zkl I.hok e
  have hz:vs.length<=sizeLine:=by rw [<- rel.length]; exact z
  have hl:(dm kvs k v).length<=sizeLine:=by have:=uK kvs k v; omega
  refine wpAny_setItem_pairs (hsz:=hz) (x6 ry) dd λh' dd' hs=>h _ ?_
  have he:∃ q,h'.get? a=some q:=let ⟨q,_,_,hq,_⟩:=dd'; ⟨q,hq⟩
  exact Zd6 I (by rw [e]; exact True.intro) hs he (Zkm hl hd (rel.put k rv) dd')
 ·subst ey eH
  cases (show u=Value.ref b from ry)
  obtain ⟨z,hd,xs,rel,dd⟩:=Zki I.hok e
  have hz:xs.length<=sizeLine:=by rw [<- BT rel]; exact z
  have hl:(dm kvs k v).length<=sizeLine:=by have:=uK kvs k v; omega
  refine wpAny_setItem_heap (hsz:=hz) (tupleKind_room_in1 hu) (x0 I.hok eb) dd λh' dd' hs=>h _ ?_
  obtain ⟨q,es,ep,hq,h2,h3,h4,_,h5⟩:=dd'
  refine Zd6 I (by rw [e]; exact True.intro) hs ⟨q,hq⟩ ⟨hl,hd,_,(rel.put k eb rv).keeps λc ys ec=>?_,q,es,ep,hq,h2,h3,h4,h5⟩
  rw [ay (Zil ec e (λz=>nomatch z))]
  exact ec
end
def Zfg (i:Expr):Prop:=∀ ov iv,subscripted i false ov iv=operate [ov,iv] (getItem ov iv)
theorem Zgi {prog:Program} {w:World} {A:Around} {E:Ck} {s:Shared} {env:Env} {value slice:Expr} {pos:Pos} {T id:String} {Q:Ck}
  (hl:typeLookup (.type T) "__getitem__"=pure (some (.builtin id))) (hs:Zfg slice)
  (h:wpAny (model prog w) A (eval value env) (λo s₁=>wpAny (model prog w) A (eval slice env) (λi s₂=>s₂.TypeIs o T/\wpAny (model prog w) A (getItem o i) Q E s₂) E s₁) E s) :
  wpAny (model prog w) A (eval (.Subscript value slice pos) env) Q E s:=by
 refine Subscript_ (wpAny_mono h (λo s₁ h₁=>wpAny_mono h₁ (λi s₂ h₂=>?_) λ_ _ x=>x) λ_ _ x=>x)
 obtain ⟨hT,h₂⟩:=h₂
 unfold subscriptTail
 refine wpAny_bind ?_
 rw [getitemInPython_of_ne hT.not_modules]
 refine wpAny_bind (wpAny_specialOf hT hl ?_)
 have fin:wpAny (model prog w) A (subscripted slice false o i) (λr s₃=>wpAny (model prog w) A (letTemporaryGo value o r >>= λ_=>pure r) Q E s₃) E s₂:=by
  rw [hs o i]
  exact wpAny_operating (wpAny_mono h₂ (λr s₃ h₃=>wpAny_bind (wpAny_letTemporaryGo (wpAny_pure h₃))) λ_ _ x=>x)
 first
  | exact wpAny_pure (wpAny_bind fin)
  | exact wpAny_bind (wpAny_pure (wpAny_bind fin))
  | exact wpAny_bind fin
theorem Zko {X:Cx} {pins:List (Addr×Obj)} {σ:St} {H:Hp} {s:Shared} {a:Addr} {y:V} {o:Option V} (I:Inv X pins σ H s) (g:zj H a y o):s.TypeIs (.ref a) "dict":=by
 rcases g with ⟨kvs,k,e,_,_⟩ | ⟨kvs,k,b,e,_,_,_⟩
 ·obtain ⟨_,_,vs,_,dd⟩:=vm I.hok e
  exact dd.typeIs
 ·obtain ⟨_,_,xs,_,dd⟩:=yw I.hok e
  exact dd.typeIs
def ZaI (td ty:TE):TE:=λσ H Q=>td σ H λx H1=>ty σ H1 λy H2=>∃ a v,x=.ref a/\zj H2 a y (some v)/\Q v H2
def Zbc (td ty tv:TE):TS:=λD σ H=>tv σ H λv H1=>td σ H1 λx H2=>ty σ H2 λy H3=>∃ a H4,x=.ref a/\DPut H3 a y v H4/\D.nx σ H4
section
variable {X:Cx} {o i e value:Expr} {pos pos' tpos:Pos} {td ty tv:TE}
theorem ph (hu:X.A.units+1 < cLine) (ho:PE X o td) (hi:PE X i ty) (hs:Zfg i):PE X (.Subscript o i pos) (ZaI td ty):=by
 intro pins s σ H Q I h
 refine Zgi PySem.F.slot_dict_getitem.lookup hs (thn (ho pins s σ H _ I h) λu s1 ⟨x,H1,I1,rx,q1⟩=>thn (hi pins s1 σ H1 _ I1 q1) λiv s2 hz0=>?_)
 obtain ⟨y,H2,I2,ry,a,v,ex,g,q2⟩:=hz0
 subst ex
 obtain rfl:u=Value.ref a:=rx
 exact ⟨Zko I2 g,ZkF hu I2 g ry λw' s3 I3 rw'=>⟨v,H2,I3,rw',q2⟩⟩
theorem Zht (hu:X.A.units+1 < cLine) (ho:PE X o td) (hi:PE X i ty) (hv:PE X value tv) (hs:swapsWith value (some (.Subscript o i pos')) pos.line X.env=pure false) :
  PS X (.Assign [.Subscript o i pos'] value pos) (Zbc td ty tv):=by
 intro pins s σ H D I h
 refine wpAny_Assign_Subscript (thn (hv pins s σ H _ I h) λr s1 ⟨v,H1,I1,rv,q1⟩=>thn (ho pins s1 σ H1 _ I1 q1) λu s2 ⟨x,H2,I2,rx,q2⟩=>thn (hi pins s2 σ H2 _ I2 q2) λiv s3 hz0=>?_) hs
 obtain ⟨y,H3,I3,ry,a,H4,ex,g,q3⟩:=hz0
 subst ex
 obtain rfl:u=Value.ref a:=rx
 exact Zky hu I3 g ry rv λs4 I4=>⟨σ,H4,I4,q3⟩
end
theorem Zkn {P:Program} {w:World} {H:Hp} (h:Heap) (hb:sysModules < h.objs.size):ObjOk P w H (h.push { cls:=.type "dict",data:=.dict #[] }) h.objs.size (.dK []) :=
 ⟨Ay _,beq_eq_false_iff_ne.mpr (Ne.symm (zD hb)),[],.nil,Heap.DictOf.new h⟩
def ZaH:TE:=λ_ H Q=>∀ p,H p=none->Q (.ref p) (upd H p (.dK []))
section
variable {X:Cx} {pos:Pos}
theorem Zcf:PE X (.Dict [] [] pos) ZaH:=λpins s σ H Q I h =>
 wpAny_Dict_empty ⟨.ref s.heap.objs.size,_,I.laid (a:=s.heap.objs.size) (o:=.dK []) (t':=s.toks) (λ_ _ q=>pi _ q) (zp _) (Zkn s.heap I.big),rfl,h _ (I.hok.fresh (zp _))⟩
end
end L2
namespace Att
open PySem.W PySem.Calls
theorem ints_of_wellAll {P:Params} {h:Heap}:∀ (ns:Cm) (vs:Cn),WellAll P h vs (ns.map WData.int)->IntsAre vs ns:=by
 intro ns
 induction ns with
 | nil =>
  intro vs w
  rw [AH] at w
  cases w
  exact .nil
 | cons n ns ih =>
  intro vs w
  rw [zm] at w
  cases w with
  | cons a b =>
   cases a
   exact .cons _ _ (ih _ b)
theorem script_of {l:OpenLaw} {n:Nat} (hn:l.most=some n) {P:Params} {h:Heap} {args:List WData} {vals:Cn}
  (hpre:l.row.toRowW.claim.pre args=true) (hwl:WellAll P h vals args) :
  ∃ a vs ns,vals=[Value.ref a]/\args=[WData.list (ns.map WData.int)]/\h.get? a=some { cls:=.type "list",data:=.seq vs.toArray }/\IntsAre vs ns/\ns.length<=n:=by
 have hsh:WShape.hasAll [] args [.list .int]=true:=(pre_splitW hpre).1
 have hc:l.pre.holds [] { args:=args }=true:=(pre_splitW hpre).2
 obtain ⟨d,r,rfl,h1,h2⟩:=hasAllW_cons hsh
 obtain rfl:=hasAllW_nil h2
 obtain ⟨xs,rfl,h3⟩:=hasW_list h1
 obtain ⟨ns,rfl⟩:=items_int h3
 have hlen:ns.length<=n:=by
  unfold OpenLaw.pre at hc
  have h4:(WTm.not (.lt (.lit (.int (n:Int))) (.len (.arg 0)))).holds [] { args:=[.list (ns.map .int)] }=true:=by
   have h4:=(holds_andW hc).1
   rw [hn] at h4
   exact h4
  have h5:=condW_of h4 (w_not (w_lt w_lit (w_len_list (w_arg rfl))))
  rw [zo] at h5
  refine A5 λq=>?_
  have q':(n:Int) < ((ns.length:Nat):Int):=by omega
  first
   | (rw [decide_eq_true q'] at h5; exact absurd h5 (by decide))
   | (simp at h5; omega)
 cases hwl with
 | cons w1 w2 =>
  cases w2
  cases w1 with
  | list ho hall=>exact ⟨_,_,ns,rfl,rfl,ho,ints_of_wellAll ns _ hall,hlen⟩
theorem post_true (l:OpenLaw) (args:List WData):l.row.toRowW.claim.post args (.bool true) args=true :=
 postW_of (r:=l.row.toRowW) (X:=(true == true))
  (show WShape.has [] (.bool true) .bool=true by first | rfl | decide | simp [WShape.has,WShape.arms,WShape.armsAll])
  (show (WTm.eq .res (.lit (.bool true))).value [] { args:=args,res:=some (.bool true),after:=args }=some (.bool (true == true)) from w_eq_bool (w_res rfl) w_lit) rfl
theorem attach_call {l:OpenLaw} {n:Nat} {q:Program} {loose:Co} {XP:Cq->Heap->Prop} {YP:World->Heap->Prop} {d:DefRec}
  (hn:l.most=some n) (hdf:d.params.defaults=[])
  (call:∀ (w:World) (s₀ s₁:Shared) (mg mb:Cq) (fa:Addr) (o:Obj) (pm cd doc:Value) (a:Addr) (vs:Cn) (ns:Cm),
   Ground q loose [] XP w s₀ mg mb s₁.heap->YP w s₁.heap ->
   s₁.heap.get? fa=some o->o.data=.func (docDef d.name d.params d.body d.scope pm cd doc)->s₁.heap.CodeRec cd d.name->mg d.name=some (.ref fa) ->
   s₁.heap.get? a=some { cls:=.type "list",data:=.seq vs.toArray }->IntsAre vs ns->ns.length<=n->s₁.gens=#[] ->
   codeAny (model l.prog w) callerA (.call (.ref fa) ⟨[.ref a],[]⟩) (λr s'=>r=.ok (.ret (.bool true))/\OldK s₁.heap s'.heap/\s'.os=s₁.os/\AllBare s'.gens) s₁) :
  WalkO q loose XP YP l.row.toRowW d [] (λf vs=>PySem.call f vs):=by
 intro w s₀ s₁ mg mb G Y fa o pm cd doc dV kV ho hd hcd hD hmg hg args vals as hpre hlay hrd hwl hlo
 obtain rfl:dV=.none:=Dflts.none hD hdf
 obtain rfl:kV=.none:=Dflts.noKw hD
 obtain ⟨a,vs,ns,rfl,rfl,hobj,hints,hlen⟩:=script_of hn hpre hwl
 refine enter_call (codeAny_mono (call w s₀ s₁ mg mb fa o pm cd doc a vs ns G Y ho (fd_plain hd) hcd hmg hobj hints hlen hg) λr s' hq=>?_)
 obtain ⟨rfl,h2,h3,h4⟩:=hq
 exact ⟨.inl ⟨.bool true,.bool true,[],rfl,λ_=>rfl,.bool true,post_true l _,λ_=>⟨List.Pairwise.nil,λ_ hm=>(nomatch hm)⟩⟩,h2,h3,h4⟩
end Att
namespace L2
theorem ZfA {vs:Cn} {ns:Cm} (h:IntsAre vs ns):Vals (ns.map V.int) vs:=by
 induction h with
 | nil=>exact .nil
 | cons n t h ih=>exact .cons ⟨t,rfl⟩ ih
def vV (H:Hp):Prop:=∀ b,H b=none\/∃ o xs,H b=some (.frz o (.lst xs))
theorem ZiV {P:Program} {w:World} {K:Cb} {mg mb:Cq} {CX:eA} {k:Nat} {fa a:Addr} {fd:FuncData} {x:Str} {sp:Sp} {s₁:Shared} {vs:Cn} {ns:Cm}
  (KX:K.In s₁.heap) (hns:s₁.heap.Ns mainGlobals mg) (hb:s₁.heap.Ns builtinsNs mb) (hbb:∀ x:Str,x≠"__name__"->mb x=bootBuiltins x) (hlim:s₁.heap.NoLimit) (hdig:s₁.heap.NoDigits) (hg:s₁.gens=#[])
  (ha:s₁.heap.get? a=some { cls:=.type "list",data:=.seq vs.toArray }) (hi:IntsAre vs ns) (hl:ns.length<=sizeLine) (hr:Room k callerA)
  (F:∀ base:Heap,K.In base->base.Ns mainGlobals mg->FnOk P w K mg base CX k fa fd [x] sp) (hbind:∀ (s:Shared) (u:Value),BindsTo s fd ⟨[u],[]⟩ [(x,u)])
  (hsp:∀ H:Hp,vV H->SqL K H a (ns.map V.int)->sp [.ref a] H (λv _=>v=.bl true) λ_ _ _=>False)
  (hCX:∀ H e s',CX [] H s₁ (λ_ _ _=>False) e s'->False) :
  codeAny (model P w) callerA (.call (.ref fa) ⟨[.ref a],[]⟩) (λr s'=>r=.ok (.ret (.bool true))/\OldK s₁.heap s'.heap/\s'.os=s₁.os/\AllBare s'.gens) s₁:=by
 have rv:=ZfA hi
 have lenV:=hi.length
 -- from an abstract heap in which nothing but the script may be tracked
 have core:∀ H:Hp,vV H->SqL K H a (ns.map V.int)->HOk P w H s₁.heap->(∀ b,H b≠none->b=a)->(H a≠none->K.lookup a=none) ->
   codeAny (model P w) callerA (.call (.ref fa) ⟨[.ref a],[]⟩) (λr s'=>r=.ok (.ret (.bool true))/\OldK s₁.heap s'.heap/\s'.os=s₁.os/\AllBare s'.gens) s₁:=by
  intro H hO hS hok hA hK
  have base_of:∀ {b:Addr} {o:Obj},s₁.heap.get? b=some o->H b=none->(gw s₁.heap H).get? b=some o:=λe n=>Zjt e n
  have noA:∀ {b:Addr} {o:Obj} {es:Array DictEntry} {ep:Nat},s₁.heap.get? b=some o->o.data=.dict es ep->H b=none:=λ{b o es ep} e d=>by
   cases q:H b with
   | none=>rfl
   | some u =>
    have e':b=a:=hA b (by rw [q]; simp)
    subst e'
    rw [ha] at e; cases e
    have d':Data.seq vs.toArray _=Data.dict es ep:=d
    cases d'
  have nsK:∀ {b:Addr} {m:Cq},s₁.heap.Ns b m->(gw s₁.heap H).Ns b m:=λ{b m} hz0=>by
   obtain ⟨o,es,ep,e,d,r⟩:=hz0
   exact ⟨o,es,ep,base_of e (noA e d),d,r⟩
  have hKb:K.In (gw s₁.heap H):=λb o e=>base_of (KX b o e) (by
   cases q:H b with
   | none=>rfl
   | some u =>
    have e':b=a:=hA b (by rw [q]; simp)
    subst e'
    rw [hK (by rw [q]; simp)] at e; cases e)
  have hM:Mod K mg (gw s₁.heap H):=⟨hKb,nsK hns,⟨mb,nsK hb,hbb⟩,let ⟨mc,h1,h2⟩:=hlim; ⟨mc,nsK h1,h2⟩,let ⟨mc,h1,h2⟩:=hdig; ⟨mc,nsK h1,h2⟩⟩
  have e0:Env0 P w K mg (gw s₁.heap H) callerA [] s₁ H:=⟨rfl,hM,λb o e=>Zic e,Nat.le_of_eq (Zjs _ _),trivial,λb hb=>absurd (show b∈([]:List Addr) from hb) (by simp),hok,.of_eq hg⟩
  refine codeAny_mono ((F _ hKb (nsK hns)).run callerA [] s₁ H ⟨[.ref a],[]⟩ [.ref a] [.ref a] _ _ hr e0 (hbind s₁ (.ref a)) (.cons rfl .nil) (hsp H hO hS)) λr s' h=>?_
  cases r with
  | error e=>exact (hCX H e s' h).elim
  | ok fl =>
   cases fl with
   | next=>exact False.elim h
   | brk=>exact False.elim h
   | cont=>exact False.elim h
   | ret u =>
    obtain ⟨v,H',os,bare,un,hok',r',q⟩:=h
    have q':v=.bl true:=q
    subst q'
    obtain rfl:u=Value.bool true:=r'
    refine ⟨rfl,OldK.of_keep λb o e=>?_,os,bare⟩
    cases q:H b with
    | none=>exact un.keep b o e q (by intro z; exact absurd (show b∈([]:List Addr) from z) (by simp)) (by simp)
    | some u =>
     rcases hO b with z | ⟨ob,xs,z⟩
     ·rw [q] at z; cases z
     ·have z2:=un.frzs b ob _ z
      obtain ⟨e1,_⟩:=hok b _ z
      obtain ⟨e2,_⟩:=hok' b _ z2
      rw [e] at e1; cases e1
      exact e2
 cases hk:K.lookup a with
 | some o =>
  -- the script is one of the module's own objects
  have e:=KX a o hk
  rw [ha] at e
  cases e
  refine core (λ_=>none) (λ_=>.inl rfl) (.inr ⟨_,vs.toArray,_,hk,rfl,rfl,rfl,by rw [zr,lenV]; exact hl,by simpa using rv⟩) (λb u z=>by have z':(none:Option HO)=some u:=z; cases z') (λb z=>absurd rfl z) λz=>absurd rfl z
 | none =>
  refine core (λb=>if b=a then some (.frz { cls:=.type "list",data:=.seq vs.toArray } (.lst (ns.map V.int))) else none) (λb=>?_) (.inl (.inr ⟨{ cls:=.type "list",data:=.seq vs.toArray },if_pos rfl⟩)) (λb u z=>?_) (λb z=>?_) λ_=>hk
  ·by_cases hb:b=a
   ·exact .inr ⟨_,_,if_pos hb⟩
   ·exact .inl (if_neg hb)
  ·by_cases hb:b=a
   ·have z':=(if_pos hb).symm.trans z
    cases z'
    subst hb
    exact ⟨ha,by rw [zo]; exact hl,vs,_,rv,ha⟩
   ·have z':=(if_neg hb).symm.trans z
    cases z'
  ·by_cases hb:b=a
   ·exact hb
   ·exact absurd (if_neg hb) z
noncomputable abbrev aG {K:Cb} {h:Heap} (_:K.In h):Cb:=K
theorem Zft {l:PySem.W.OpenLaw} {n k:Nat} {q:Program} {loose:Co} {XP:Cq->Heap->Prop} {YP:World->Heap->Prop} {d:DefRec} {K:Params->Cb} {CX:World->eA} {sp:World->Sp} {x:Str}
  (hn:l.most=some n) (hn2:n<=sizeLine) (hdf:d.params.defaults=[]) (hr:Room k callerA)
  (hY:∀ (w:World) (h:Heap),YP w h->(K w.params).In h)
  (F:∀ (w:World) (mg:Cq) (fa:Addr) (h:Heap),(K w.params).In h->h.Ns mainGlobals mg->mg d.name=some (.ref fa) ->
   ∃ fd:FuncData,(∀ (s:Shared) (u:Value),BindsTo s fd ⟨[u],[]⟩ [(x,u)]) /\
    ∀ base:Heap,(K w.params).In base->base.Ns mainGlobals mg->FnOk l.prog w (K w.params) mg base (CX w) k fa fd [x] (sp w))
  (hsp:∀ (w:World) (H:Hp) (a:Addr) (ns:Cm),ns.length<=n->vV H->SqL (K w.params) H a (ns.map V.int)->sp w [.ref a] H (λv _=>v=.bl true) λ_ _ _=>False)
  (hCX:∀ (w:World) (H:Hp) (s:Shared) (e:Value) (s':Shared),CX w [] H s (λ_ _ _=>False) e s'->False) :
  PySem.W.WalkO q loose XP YP l.row.toRowW d [] (λf vs=>PySem.call f vs):=by
 refine Att.attach_call hn hdf λw s₀ s₁ mg mb fa o pm cd doc a vs ns G Y ho hd hcd hmg hobj hints hlen hg=>?_
 have KX:=hY w _ Y
 obtain ⟨fd,hb,hF⟩:=F w mg fa _ KX G.T.g hmg
 exact ZiV KX G.T.g G.T.b G.T.builtins G.T.nolimit G.T.nodigits hg hobj hints (zE hlen hn2) hr hF hb (λH hO hS=>hsp w H a ns hlen hO hS) λH e s'=>hCX w H s₁ e s'
theorem Zfs {l:PySem.W.OpenLaw} {n k:Nat} {q:Program} {loose:Co} {XP:Cq->Heap->Prop} {YP:World->Heap->Prop} {d:DefRec} {K:Params->Cb} {CX:eA} {sp:Cb->Sp} {x:Str}
  (hn:l.most=some n) (hn2:n<=sizeLine) (hdf:d.params.defaults=[]) (hr:Room k callerA)
  (hY:∀ (w:World) (h:Heap),YP w h->(K w.params).In h)
  (F:∀ (w:World) (mg:Cq) (fa:Addr) (h:Heap),(K w.params).In h->h.Ns mainGlobals mg->mg d.name=some (.ref fa) ->
   ∃ fd:FuncData,(∀ (s:Shared) (u:Value),BindsTo s fd ⟨[u],[]⟩ [(x,u)]) /\
    ∀ base:Heap,(K w.params).In base->base.Ns mainGlobals mg->FnOk l.prog w (K w.params) mg base CX k fa fd [x] (sp (K w.params)))
  (hsp:∀ (K:Cb) (H:Hp) (a:Addr) (ns:Cm),ns.length<=n->vV H->SqL K H a (ns.map V.int)->sp K [.ref a] H (λv _=>v=.bl true) λ_ _ _=>False)
  (hCX:∀ (H:Hp) (s:Shared) (e:Value) (s':Shared),CX [] H s (λ_ _ _=>False) e s'->False) :
  PySem.W.WalkO q loose XP YP l.row.toRowW d [] (λf vs=>PySem.call f vs) :=
 Zft (K:=K) (CX:=λ_=>CX) (sp:=λw=>sp (K w.params)) hn hn2 hdf hr hY F (λw H a ns h1 h2 h3=>hsp (K w.params) H a ns h1 h2 h3) λ_ H s e s'=>hCX H s e s'
noncomputable def pU (s:Stmt):Arguments:=match s with
 | .FunctionDef _ a _ _ _ _ _ _ _ _=>a
 | _=>{ posonlyargs:=[],args:=[],vararg:=none,kwonlyargs:=[],kw_defaults:=[],kwarg:=none,defaults:=[] }
noncomputable def fZ (s:Stmt):List Stmt:=match s with
 | .FunctionDef _ _ b _ _ _ _ _ _ _=>b
 | _=>[]
noncomputable def aN (s:Stmt):Scope:=match s with
 | .FunctionDef _ _ _ _ _ _ sc _ _ _=>sc
 | _=>{ kind:=.function,names:=[],isGenerator:=false,isCoroutine:=false }
noncomputable abbrev iI:eA:=λ_ _ _ _ _ _=>False
noncomputable abbrev E0:XK:=λ_ _ _=>False
theorem ZhW {X:Cx}:zc iI X E0:=λ_ _ _ _ _ _ _ h=>h.elim
structure Fun (K:Cb) (x qual:Str) (st:Stmt) (f:Addr) (fd:FuncData):Prop where
 ex:∃ (oc:Value) (od:Option Addr) (kV doc pm:Value) (an:Option Addr) (cdv ct:Value) (osl:Array (Option Value)),
  fd=PySem.W.fnOf x qual (pU st) (fZ st) (aN st) .none kV doc pm an cdv ct/\K.lookup f=some ⟨oc,od,.func fd,osl⟩/\PySem.W.codeIn K cdv qual=true
 kp:PySem.W.keepIn K (.ref f)=true
section
variable {P:Program} {w:World} {K:Cb} {mg:Cq} {base:Heap}
theorem Fun.ok {x qual:Str} {st:Stmt} {f:Addr} {fd:FuncData} {N ps:Co} {k:Nat} {sp:Sp} (F:Fun K x qual st f fd) (S:FnScope N ps (aN st)) (len:∀ vs H Q E,sp vs H Q E->vs.length=ps.length)
  (hbody:∀ (cdv:Value) (A:Around) (outer:List Env) (s:Shared) (H:Hp) (vs:Cp) (Q:VK) (E:XK),Room k (A.deeper (envOfC qual (aN st) s.heap.objs.size f cdv))->sp vs H Q E ->
   ∃ t,PSs (cQ iI P w K mg base N qual (aN st) f cdv A outer s H E).nox (fZ st) t/\t { nx:=λ_ H'=>Q .non H',rt:=Q } (start N vs) H):FnOk P w K mg base iI (k+1) f fd ps sp:=by
 obtain ⟨oc,od,kV,doc,pm,an,cdv,ct,osl,rfl,lk,hcd⟩:=F.ex
 refine Zdt lk hcd S len λA outer s H vs Q E hr hsp=>?_
 obtain ⟨t,h,q⟩:=hbody cdv A outer s H vs Q E hr hsp
 exact ⟨t,h.nox,q⟩
theorem Fun.binds {x qual:Str} {st:Stmt} {f:Addr} {fd:FuncData} {ps:Co} (F:Fun K x qual st f fd)
  (h:∀ (kV doc pm:Value) (an:Option Addr) (cdv ct:Value) (us:Cn),us.length=ps.length->bindArgs (PySem.W.fnOf x qual (pU st) (fZ st) (aN st) .none kV doc pm an cdv ct) ⟨us,[]⟩=pure (ps.zip us)):Binds K fd ps []:=by
 obtain ⟨oc,od,kV,doc,pm,an,cdv,ct,osl,rfl,lk,hcd⟩:=F.ex
 exact .all (h kV doc pm an cdv ct)
theorem ZjJ {x qual:Str} {st:Stmt} {f:Addr} {oc:Value} {od an:Option Addr} {osl:Array (Option Value)} {kV doc pm cdv ct:Value} (l:K.lookup f=some ⟨oc,od,.func (PySem.W.fnOf x qual (pU st) (fZ st) (aN st) .none kV doc pm an cdv ct),osl⟩)
  (c:PySem.W.codeIn K cdv qual=true) (k:PySem.W.keepIn K (.ref f)=true):Fun K x qual st f (PySem.W.fnOf x qual (pU st) (fZ st) (aN st) .none kV doc pm an cdv ct):=⟨⟨oc,od,kV,doc,pm,an,cdv,ct,osl,rfl,l,c⟩,k⟩
end
theorem fT {A:Around} {k:Nat} (hr:Room k A):A.units+1 < cLine:=Av (Nat.add_le_add_left (by decide:1<=64) _) hr.units
section
variable {X:Cx}
theorem pv (i:Nat) {x:Str} {pos:Pos} (hN:X.N[i]?=some x:=by rfl) (hv:vR X.env.scope x:=by first | exact Or.inl rfl | exact Or.inr (.inl rfl) | exact Or.inr (.inr rfl)) (hd:(x == ("__debug__":Str))=false:=by decide)
  (hcd:(x == ("__classdict__":Str))=false:=by decide):PE X (.Name x pos) (eD i):=ZhE hN hv hd hcd
end
theorem uZ {c A B:Prop} [Decidable c] (h1:c->A) (h2:¬ c->B):if c then A else B:=by
 by_cases h:c
 ·rw [if_pos h]
  exact h1 h
 ·rw [if_neg h]
  exact h2 h
def Same (H H':Hp):Prop:=∀ b o,H b=some o->H' b=some o
theorem Same.refl (H:Hp):Same H H:=λ_ _ h=>h
theorem Same.free {H H':Hp} (e:Same H H') {l:Addr} (h:H' l=Option.none):H l=Option.none:=by
 cases q:H l with
 | none=>rfl
 | some o =>
  rw [e l o q] at h
  cases h
structure Blk where
 cl:List (Str×Addr)
 C:Addr
 s:Shared
 H:Hp
 fp:List Addr
 pn:List (Addr×Obj)
noncomputable def a9 (X:Cx) (N:Co) (scope:Scope) (b:Blk):Cx where
 prog:=X.prog
 w:=X.w
 K:=X.K
 mg:=X.mg
 base:=X.base
 A:=X.A
 N:=N
 s₀:=b.s
 H₀:=b.H
 env:=compEnvC scope b.cl b.C X.env
 outer:=X.stack
 stack:=X.stack
 ex:=b.fp
 fn:=λx=>scope.names.lookup x == some .cell
 calm:=X.calm
 pn:=b.pn
 xe:=λ_ _=>False
def bN (Nx ts:Co) (ix:List Nat):Co:=ts++ix.map λj=>(Nx[j]?).getD Str.empty
noncomputable def cR (n:Nat) (ix:List Nat) (σ:St):St:=List.replicate n none++ix.map λj=>(σ[j]?).getD none
structure BlkOk (Nx:Co) (sc scope:Scope) (ix:List Nat):Prop where
 kind:scope.kind=.function
 cells:∀ y∈scope.names,y.2=.cell->scope.names.lookup y.1=some .cell
 locs:∀ y∈scope.names,y.2=.local->scope.names.lookup y.1=some .local
 frees:∀ y∈scope.names,y.2=.free->sc.names.lookup y.1=some .cell\/sc.names.lookup y.1=some .free
 caps:∀ j∈ix,j < Nx.length/\scope.names.lookup ((Nx[j]?).getD Str.empty)=some .free
theorem yo {env:Env} {f:Str×NameKind->List (Str×Addr)->Sem (ForInStep (List (Str×Addr)))}
  (h1:∀ n k r,k≠NameKind.free->f (n,k) r=pure (.yield r)) (h2:∀ n r c,env.cells.lookup n=some c->f (n,NameKind.free) r=pure (.yield ((n,c)::r))) :
  ∀ (names:List (Str×NameKind)) (acc:List (Str×Addr)),(∀ y∈names,y.2=.free->∃ c,env.cells.lookup y.1=some c)->(∀ x c,acc.lookup x=some c->env.cells.lookup x=some c) ->
   ∃ cl,forIn names acc f=pure cl/\(∀ x c,cl.lookup x=some c->env.cells.lookup x=some c)/\(∀ y∈names,y.2=.free->∃ c,cl.lookup y.1=some c)/\∀ x c,acc.lookup x=some c->∃ c',cl.lookup x=some c'
 | [],acc,_,ha=>⟨acc,rfl,ha,(λ_ h=>nomatch h),λx c h=>⟨c,h⟩⟩
 | (n,k)::names,acc,hn,ha=>by
  have hn':∀ y∈names,y.2=.free->∃ c,env.cells.lookup y.1=some c:=λy hy=>hn y (Mt _ hy)
  by_cases hk:k=.free
  ·subst hk
   obtain ⟨c,hc⟩:=hn (n,.free) z7 rfl
   have ha':∀ x d,((n,c)::acc).lookup x=some d->env.cells.lookup x=some d:=λx d e=>by
    rw [zM] at e
    cases hx:x == n with
    | true =>
     rw [hx] at e
     have hxn:x=n:=by simpa using hx
     subst hxn
     cases e
     exact hc
    | false =>
     rw [hx] at e
     exact ha x d e
   obtain ⟨cl,e,p1,p2,p3⟩:=yo h1 h2 names ((n,c)::acc) hn' ha'
   refine ⟨cl,?_,p1,λy hy hf=>?_,λx d hx=>?_⟩
   ·rw [List.forIn_cons,h2 n acc c hc,pure_bind]
    exact e
   ·rcases zq.mp hy with rfl | hy
    ·exact p3 n c (by simp)
    ·exact p2 y hy hf
   ·by_cases e1:x=n
    ·subst e1
     exact p3 x c (by simp)
    ·exact p3 x d (by rw [zM,beq_false_of_ne e1]; exact hx)
  ·obtain ⟨cl,e,p1,p2,p3⟩:=yo h1 h2 names acc hn' ha
   refine ⟨cl,?_,p1,λy hy hf=>?_,p3⟩
   ·rw [List.forIn_cons,h1 n k acc hk,pure_bind]
    exact e
   ·rcases zq.mp hy with rfl | hy
    ·exact absurd hf hk
    ·exact p2 y hy hf
theorem rR {scope:Scope} {env:Env} (hn:∀ y∈scope.names,y.2=.free->∃ c,env.cells.lookup y.1=some c) :
  ∃ cl,closureFor scope env=pure cl/\(∀ x c,cl.lookup x=some c->env.cells.lookup x=some c)/\∀ y∈scope.names,y.2=.free->∃ c,cl.lookup y.1=some c:=by
 unfold closureFor
 have key:=yo (env:=env) (f:=λ(x:Str×NameKind) (r:List (Str×Addr))=>match x with
  | (name,kind)=>if (kind == NameKind.free)=true then (do let a <- cellOf env name; pure (ForInStep.yield ((name,a)::r))) else pure (ForInStep.yield r))
  (λn k r hk=>by
   have hb:(k == NameKind.free)=false:=by simpa using hk
   show (if (k == NameKind.free)=true then _ else _)=_
   rw [hb]
   rfl)
  (λn r c hc=>by
   show (do let a <- cellOf env n; pure (ForInStep.yield ((n,a)::r)))=_
   unfold cellOf
   rw [hc]
   rfl) scope.names [] hn (λx c h=>by simp at h)
 obtain ⟨cl,e,p1,p2,_⟩:=key
 refine ⟨cl,?_,p1,p2⟩
 show (forIn scope.names [] _ >>= λr=>pure r)=pure cl
 exact (congrArg (λt=>t >>= λr=>pure r) e).trans (pure_bind _ _)
section
variable {X:Cx} {pins:List (Addr×Obj)} {σ:St} {H:Hp} {s:Shared}
theorem Zbt {scope:Scope} {env:Env} {x:Str} (h:scope.names.lookup x=some .free):(relabel scope env).names.lookup x=some .cell\/(relabel scope env).names.lookup x=some .free:=by
 unfold relabel
 show List.lookup x (scope.names.map _)=_\/List.lookup x (scope.names.map _)=_
 generalize scope.names=l at h
 induction l with
 | nil=>simp at h
 | cons p r ih =>
  obtain ⟨n,k⟩:=p
  rw [zm]
  cases hx:x == n with
  | true =>
   rw [zM,hx] at h
   have hk:k=.free:=by simpa using h
   subst hk
   by_cases hc:(NameKind.free == NameKind.free && env.scope.kind == .function && env.kindOf n == some .cell)=true
   ·refine .inl ?_
    show List.lookup x ((if (NameKind.free == NameKind.free && env.scope.kind == .function && env.kindOf n == some .cell)=true then (n,NameKind.cell) else (n,NameKind.free))::_)=_
    rw [if_pos hc,zM,hx]
   ·refine .inr ?_
    show List.lookup x ((if (NameKind.free == NameKind.free && env.scope.kind == .function && env.kindOf n == some .cell)=true then (n,NameKind.cell) else (n,NameKind.free))::_)=_
    rw [if_neg hc,zM,hx]
  | false =>
   rw [zM,hx] at h
   have key:∀ q:Str×NameKind,(q=(n,NameKind.cell)\/q=(n,k))->∀ l',List.lookup x (q::l')=List.lookup x l':=λq hq l'=>by
    rcases hq with rfl | rfl <;> rw [zM,hx]
   have hq:(if (k == NameKind.free && env.scope.kind == .function && env.kindOf n == some .cell)=true then (n,NameKind.cell) else (n,k))=(n,NameKind.cell)\/(if (k == NameKind.free && env.scope.kind == .function && env.kindOf n == some .cell)=true then (n,NameKind.cell) else (n,k))=(n,k):=by
    split
    ·exact .inl rfl
    ·exact .inr rfl
   rcases ih h with z | z
   ·exact .inl ((key _ hq _).trans z)
   ·exact .inr ((key _ hq _).trans z)
theorem Zg7 {scope:Scope} {env:Env} {x:Str} (h:(relabel scope env).names.lookup x=some .cell\/(relabel scope env).names.lookup x=some .free):∃ y∈scope.names,y.1=x/\(y.2=.free\/y.2=.cell):=by
 unfold relabel at h
 have h':List.lookup x (scope.names.map λ(n,k)=>if (k == .free && env.scope.kind == .function && env.kindOf n == some .cell) then (n,NameKind.cell) else (n,k))=some .cell\/List.lookup x (scope.names.map λ(n,k)=>if (k == .free && env.scope.kind == .function && env.kindOf n == some .cell) then (n,NameKind.cell) else (n,k))=some .free:=h
 clear h
 generalize scope.names=l at h'
 induction l with
 | nil=>simp at h'
 | cons p r ih =>
  obtain ⟨n,k⟩:=p
  rw [zm] at h'
  cases hx:x == n with
  | true =>
   have hxn:x=n:=by simpa using hx
   by_cases hk:k=.free
   ·exact ⟨(n,k),z7,hxn.symm,.inl hk⟩
   ·
    have hb:(k == NameKind.free)=false:=by simpa using hk
    have e:(if (k == NameKind.free && env.scope.kind == .function && env.kindOf n == some .cell)=true then (n,NameKind.cell) else (n,k))=(n,k):=by
     rw [hb]
     rfl
    have h2:List.lookup x ((n,k)::r.map λ(n,k)=>if (k == .free && env.scope.kind == .function && env.kindOf n == some .cell) then (n,NameKind.cell) else (n,k))=some .cell\/List.lookup x ((n,k)::r.map λ(n,k)=>if (k == .free && env.scope.kind == .function && env.kindOf n == some .cell) then (n,NameKind.cell) else (n,k))=some .free:=by
     rw [<- e]
     exact h'
    rw [zM,hx] at h2
    rcases h2 with z | z
    ·exact ⟨(n,k),z7,hxn.symm,.inr (zJ z)⟩
    ·exact absurd (zJ z) hk
  | false =>
   have hq:∀ q:Str×NameKind,(q=(n,NameKind.cell)\/q=(n,k))->∀ l',List.lookup x (q::l')=List.lookup x l':=λq hq l'=>by
    rcases hq with rfl | rfl <;> rw [zM,hx]
   have hqq:(if (k == NameKind.free && env.scope.kind == .function && env.kindOf n == some .cell)=true then (n,NameKind.cell) else (n,k))=(n,NameKind.cell)\/(if (k == NameKind.free && env.scope.kind == .function && env.kindOf n == some .cell)=true then (n,NameKind.cell) else (n,k))=(n,k):=by
    split
    ·exact .inl rfl
    ·exact .inr rfl
   obtain ⟨y,hy,e⟩:=ih (by
    rcases h' with z | z
    ·exact .inl ((hq _ hqq _).symm.trans z)
    ·exact .inr ((hq _ hqq _).symm.trans z))
   exact ⟨y,Mt _ hy,e⟩
theorem yF:∀ (names:List (Str×NameKind)) (h:Heap) (acc:List (Str×Addr)),
  (∀ x c,(cellsFrom h.objs.size names acc).lookup x=some c->acc.lookup x=some c\/(h.objs.size<=c/\(pushCells h names).IsCell c none/\(x,NameKind.cell)∈names)) /\
  (∀ x,((x,NameKind.cell)∈names\/∃ c,acc.lookup x=some c)->∃ c,(cellsFrom h.objs.size names acc).lookup x=some c) /\
  (∀ x c,(x,NameKind.cell)∈names->(cellsFrom h.objs.size names acc).lookup x=some c->h.objs.size<=c) /\
  ((∀ x c,acc.lookup x=some c->c < h.objs.size)->(∀ x y c,acc.lookup x=some c->acc.lookup y=some c->x=y)->∀ x y c,(cellsFrom h.objs.size names acc).lookup x=some c->(cellsFrom h.objs.size names acc).lookup y=some c->x=y):=by
 intro names
 induction names with
 | nil=>intro h acc; exact ⟨λx c e=>.inl e,λx e=>by rcases e with e | e; cases e; exact e,λx c e=>(by cases e),λ_ i=>i⟩
 | cons p r ih =>
  obtain ⟨name,kind⟩:=p
  intro h acc
  unfold cellsFrom pushCells
  by_cases hk:kind=.cell
  ·subst hk
   have hk':((NameKind.cell == NameKind.cell)=true):=rfl
   rw [if_pos hk',if_pos hk']
   have ih':=ih (h.push { cls:=.type "cell",data:=.cell none }) ((name,h.objs.size)::acc)
   rw [z8] at ih'
   obtain ⟨i1,i2,i4,i3⟩:=ih'
   refine ⟨λx c e=>?_,λx e=>?_,λx c e1 e2=>?_,λhb hi=>i3 (λx c e=>?_) λx y c e1 e2=>?_⟩
   ·rcases i1 x c e with z | ⟨z1,z2,z3⟩
    ·rw [zM] at z
     cases hx:x == name with
     | true =>
      rw [hx] at z
      have hxn:x=name:=by simpa using hx
      cases z
      exact .inr ⟨zp _,⟨_,pushCells_keeps _ _ _ _ (zw _ rfl),rfl⟩,by rw [hxn]; exact z7⟩
     | false=>rw [hx] at z; exact .inl z
    ·exact .inr ⟨by omega,z2,Mt _ z3⟩
   ·refine i2 x ?_
    by_cases hx:x=name
    ·exact .inr ⟨h.objs.size,by rw [zM,hx]; simp⟩
    ·rcases e with e | ⟨c,e⟩
     ·rcases zq.mp e with q | q
      ·exact absurd (congrArg Prod.fst q) hx
      ·exact .inl q
     ·exact .inr ⟨c,by rw [zM,beq_false_of_ne hx]; exact e⟩
   ·rcases i1 x c e2 with z | ⟨z,_,_⟩
    ·rw [zM] at z
     cases hx:x == name with
     | true=>rw [hx] at z; cases z; exact zp _
     | false =>
      have hxn:x≠name:=by simpa using hx
      rcases zq.mp e1 with q | q
      ·exact absurd (congrArg Prod.fst q) hxn
      ·exact Bd (i4 x c q e2)
    ·exact Bd z
   ·rw [zM] at e
    cases hx:x == name with
    | true=>rw [hx] at e; cases e; exact BA _
    | false=>rw [hx] at e; exact AQ (hb x c e)
   ·rw [zM] at e1 e2
    cases hx:x == name with
    | true =>
     have hxn:x=name:=by simpa using hx
     rw [hx] at e1
     cases e1
     cases hy:y == name with
     | true =>
      have hyn:y=name:=by simpa using hy
      rw [hxn,hyn]
     | false=>rw [hy] at e2; exact absurd (hb y _ e2) (zK _)
    | false =>
     rw [hx] at e1
     cases hy:y == name with
     | true=>rw [hy] at e2; cases e2; exact absurd (hb x _ e1) (zK _)
     | false=>rw [hy] at e2; exact hi x y c e1 e2
  ·have hk':¬ ((kind == NameKind.cell)=true):=by simpa using hk
   rw [if_neg hk',if_neg hk']
   obtain ⟨i1,i2,i4,i3⟩:=ih h acc
   refine ⟨λx c e=>?_,λx e=>i2 x ?_,λx c e1 e2=>?_,i3⟩
   ·rcases i1 x c e with z | ⟨z1,z2,z3⟩
    ·exact .inl z
    ·exact .inr ⟨z1,z2,Mt _ z3⟩
   ·rcases e with e | e
    ·rcases zq.mp e with q | q
     ·exact absurd (congrArg Prod.snd q).symm hk
     ·exact .inl q
    ·exact .inr e
   ·rcases zq.mp e1 with q | q
    ·exact absurd (congrArg Prod.snd q).symm hk
    ·exact i4 x c q e2
theorem wk {M:Model} {A:Around} {E:Ck} {s:Shared} {scope:Scope} {globals:Addr} {cl:List (Str×Addr)} {qual:Str} {outer:Env} {Q:Env->Shared->Prop}
  (h:Q { scope:=scope,locals:=s.heap.objs.size,globals:=globals,cells:=cellsFrom (s.heap.objs.size+1) scope.names cl,qual:=qual,func:=none,code:=outer.code,frame:=outer.frame,builtins:=outer.builtins } { s with heap:=pushCells (s.heap.push { cls:=.type "dict",data:=.dict #[] }) scope.names }) :
  wpAny M A (newFunctionEnv scope globals cl [] qual none .none (some outer)) Q E s:=by
 simp only [newFunctionEnv,Option.isSome_some,if_true]
 refine wpAny_bind (wpAny_alloc ?_)
 refine wpAny_bind (wpAny_layCells _ (λname kind cells=>by cases hkc:kind == NameKind.cell <;> simp [hkc]) _ _ _ _ ?_)
 rw [show ({ s with heap:=s.heap.push { cls:=.type "dict",data:=.dict #[] } }:Shared).heap.objs.size=s.heap.objs.size+1 from z8 ..]
 rw [List.forIn_nil]
 exact wpAny_bind (wpAny_pure (wpAny_pure h))
theorem ZlV {Nx ts:Co} {ix:List Nat} {i:Nat} {x:Str} (h:(bN Nx ts ix)[i]?=some x) (hi:ts.length<=i):∃ j,ix[i - ts.length]?=some j/\x=(Nx[j]?).getD Str.empty:=by
 unfold bN at h
 rw [Af hi,zH] at h
 cases e:ix[i - ts.length]? with
 | none=>rw [e] at h; cases h
 | some j=>rw [e] at h; exact ⟨j,rfl,(zJ h).symm⟩
theorem ya {scope:Scope} {cl:List (Str×Addr)} {fp:List Addr} {C:Addr} {h3:Heap} {tk:Nat} {m:Cq} {Nx ts:Co} {ix:List Nat}
  (I:Inv X pins σ H s) (hNx:X.N=Nx) (ok:BlkOk Nx X.env.scope scope ix) (cs1:∀ x c,cl.lookup x=some c->X.env.cells.lookup x=some c\/(C < c/\h3.IsCell c none/\(x,NameKind.cell)∈scope.names)) (csI:∀ x y c,cl.lookup x=some c->cl.lookup y=some c->x=y) (cl2:∀ y∈scope.names,(y.2=.free\/y.2=.cell)->∃ c,cl.lookup y.1=some c) (csA:∀ x c,(x,NameKind.cell)∈scope.names->cl.lookup x=some c->C<=c)
  (hf:∀ b∈fp,fh X pins H b) (hfs:∀ b∈fp,b < s.heap.objs.size) (hC:s.heap.objs.size<=C) (kp:∀ b o,s.heap.get? b=some o->h3.get? b=some o) (hns:h3.Ns C m) :
  Inv (a9 X (bN Nx ts ix) scope ⟨cl,C,s,H,fp,X.pn++pins⟩) [] (cR ts.length ix σ) H { s with heap:=h3,toks:=tk }:=by
 have below:∀ {b:Addr},b < s.heap.objs.size->b≠C:=λhb=>zD (zt hb hC)
 have nstk:∀ b,b≠X.env.locals->b ∉ X.fs->b ∉ frs X.stack:=λb h1 h2 hb=>by
  rcases zq.mp (I.stkSub b hb) with z | z
  ·exact h1 z
  ·exact h2 z
 refine ⟨⟨I.ok.mod,?_,I.ok.glob,I.ok.blt,hC,csI,λx hx=>?_,λx c hfn e=>zE hC (csA x c (Ar (eq_of_beq hfn)) e),I.ok.hd,I.ok.frames,.inl rfl,λb hb=>⟨below (hfs b hb),λx c e=>by
  rcases cs1 x c e with z | ⟨z,_,_⟩
  ·exact (hf b hb).2.2.2.2.1 x c z
  ·exact zY (zt (hfs b hb) (zE hC (AY z)))⟩,I.bs,zE I.ok.bsz I.sz,λb o e hb=>?_,λb hb=>nstk b (hf b hb).2.1 (hf b hb).2.2.1,I.stack,I.stkFree⟩,
  rfl,I.bare,Un.kept kp,⟨m,hns,λi x v h1 h2 h3'=>?_⟩,λx c e=>?_,I.hok.fresh hC,λx c e=>by
  rcases cs1 x c e with z | ⟨z,_,_⟩
  ·exact I.freeC x c z
  ·exact I.hok.fresh (zE hC (AY z)),λp hp=>?_,I.hok.kept kp,?_⟩
 ·exact ok.kind
 ·have hx':(relabel scope X.env).names.lookup x=some .cell\/(relabel scope X.env).names.lookup x=some .free:=hx
  obtain ⟨y,hy,e1,e2⟩:=Zg7 hx'
  obtain ⟨c,hc⟩:=cl2 y hy e2
  exact ⟨c,by rw [<- e1]; exact hc⟩
 ·rcases (hf b hb).2.2.2.1 with z | z
  ·exact I.ok.noex b o e z
  ·exact absurd (zt (zA e) (zE I.ok.bsz z)) (zK _)
 ·have hi:ts.length<=i:=by
   rcases Nat.lt_or_ge i ts.length with z | z
   ·exfalso
    have h2':(cR ts.length ix σ)[i]?=some (some v):=h2
    unfold cR at h2'
    rw [zX (by simpa using z),zW] at h2'
    split at h2' <;> cases h2'
   ·exact z
  obtain ⟨j,hj,ex⟩:=ZlV h1 hi
  have h2':(cR ts.length ix σ)[i]?=some (some v):=h2
  unfold cR at h2'
  rw [Af (by simpa using hi),zH,AZ,hj] at h2'
  have hσ:σ[j]?=some (some v):=by
   have q:(σ[j]?).getD none=some v:=zJ h2'
   cases e:σ[j]? with
   | none=>rw [e] at q; cases q
   | some w=>rw [e] at q; exact congrArg some q
  obtain ⟨hjl,hfree⟩:=ok.caps j (Bn hj)
  have hNj:X.N[j]?=some x:=by
   rw [hNx,ex,zP hjl]
   rfl
  rw [<- ex] at hfree
  obtain ⟨c,hc⟩:=cl2 (x,.free) (Ar hfree) (.inl rfl)
  have cl1:X.env.cells.lookup x=some c:=by
   rcases cs1 x c hc with z | ⟨_,_,z⟩
   ·exact z
   ·have:=ok.cells _ z rfl
    rw [hfree] at this
    cases this
  have kx:=ok.frees (x,.free) (Ar hfree) rfl
  obtain ⟨m0,hn0,hl0⟩:=I.loc
  obtain ⟨u,ru,look⟩:=hl0 j x v hNj hσ (by rcases kx with z | z; exact .inr (.inl z); exact .inr (.inr z))
  refine ⟨u,ru,.inr ⟨Zbt hfree,c,hc,?_⟩⟩
  rcases look with ⟨k1,_⟩ | ⟨_,c',hc',z⟩
  ·have k1':X.env.scope.names.lookup x=some .local:=k1
   rcases kx with z | z
   ·rw [k1'] at z; cases z
   ·rw [k1'] at z; cases z
  ·have e:=cl1
   rw [hc'] at e
   cases e
   obtain ⟨o,ho,hd⟩:=z
   exact ⟨o,kp _ _ ho,hd⟩
 ·rcases cs1 x c e with z | ⟨_,z,_⟩
  ·obtain ⟨v,o,ho,hd⟩:=I.cell x c z
   exact ⟨v,o,kp _ _ ho,hd⟩
  ·exact ⟨_,z⟩
 ·have hp':p∈X.pn++pins:=by simpa [a9] using hp
  obtain ⟨e,n,ne,nf,d⟩:=I.pin p hp'
  exact ⟨kp _ _ e,n,below (zA e),nstk _ ne nf,d⟩
 ·show (cR ts.length ix σ).length=(bN Nx ts ix).length
  unfold cR bN
  simp
theorem Inv.track {D:Addr} {ys:Cp} {its:Cn} {n:Nat} (I:Inv X pins σ H s) (hD:H D=none) (ho:s.heap.get? D=some { cls:=.type "list",data:=.seq its.toArray n }) (r:Vals ys its) (hz:ys.length<=sizeLine)
  (hL:D≠X.env.locals) (hs0:X.s₀.heap.objs.size<=D) (hc:∀ x c,X.env.cells.lookup x=some c->c≠D) (hp:∀ p∈X.pn++pins,p.1≠D):Inv X pins σ (upd H D (.lst ys)) s:=by
 have ne:∀ {b:Addr} {o:HO},H b=some o->b≠D:=λe=>dt e hD
 refine I.step (g':=s.gens) (d':=s.drawn) (t':=s.toks) (h':=s.heap) (ch:=[D]) (λb hb=>?_) (λb o _ _ _ e _=>e) (λb o _ _ _ e _=>⟨o.slots,e⟩) (λb o hb e n=>?_) (λb o _ e=>⟨o,e⟩)
  (λb xs e=>by rw [ay (ne e)]; exact e) (λb o u e=>by rw [ay (ne e)]; exact e) (λb ps e=>⟨#[],by rw [ay (ne e),e]; simp⟩) (λm hm=>hm) (λb u e=>?_) I.bare
 ·have e:b=D:=by simpa using hb
  subst e
  exact ⟨.inr hs0,hL,hc,hp⟩
 ·have hb':b≠D:=by simpa using hb
  rw [ay hb']
  exact n
 ·by_cases hb:b=D
  ·subst hb
   rw [bH] at e
   cases e
   exact ⟨hz,its,n,r,ho⟩
  ·rw [ay hb] at e
   exact (I.hok b u e).stay (λc v _ q=>q) (λc q=>by rw [ay (ne q)]; exact q) λc xs q=>by rw [ay (ne q)]; exact q
end
theorem Zld {prog:Program} {w:World} {A:Around} {R:Result->Shared->Prop} {s:Shared} {elt target iter:Expr} {scope:Scope} {pos:Pos} {it acc:Value} {env:Env} (J:Nat->Shared->Prop)
  (step:∀ k s0,J k s0->wpAny (model prog w) A (pyNext it) (λgot s1=>match got with
   | none=>R (.ok .next) s1
   | some v=>wpAny (model prog w) A (letOwnedTupleGo target it v) (λ_ s2=>wpAny (model prog w) A (assign target env v) (λ_ s3=>wpAny (model prog w) A (eval elt env) (λy s4 =>
     wpAny (model prog w) A (call (.builtin "list.append") [acc,y]) (λ_ s5=>∃ j,j < k/\J j s5) (λ_ _=>False) s4) (λ_ _=>False) s3) (λ_ _=>False) s2) (λ_ _=>False) s1) (λ_ _=>False) s0)
  (k:Nat) (h:J k s):codeAny (model prog w) A (.compLoop (.ListComp elt [⟨target,iter,[],0⟩] scope pos) 0 it acc env) R s:=by
 refine codeAny_loop rfl J (λk0 s0 hJ=>?_) k h
 show wpAny _ _ ((compTurn (.ListComp elt [⟨target,iter,[],0⟩] scope pos) 0 it acc env).onRaise (λx=>do noteFrame x env; theTreesLotGoes x)) _ _ s0
 apply wpAny_noted
 rw [compTurn_list1]
 refine wpAny_bind (wpAny_standAt (wpAny_bind (wpAny_mono (step k0 s0 hJ) (λgot s1 h1=>?_) λ_ _ z=>z.elim)))
 cases got with
 | none=>exact wpAny_pure h1
 | some v =>
  refine wpAny_bind (wpAny_mono h1 (λ_ s2 h2=>?_) λ_ _ z=>z.elim)
  refine wpAny_bind (wpAny_mono h2 (λ_ s3 h3=>?_) λ_ _ z=>z.elim)
  refine wpAny_bind (wpAny_bind (wpAny_mono h3 (λy s4 h4=>?_) λ_ _ z=>z.elim))
  exact wpAny_bind (wpAny_mono h4 (λ_ s5 h5=>wpAny_pure (wpAny_pure ⟨rfl,h5⟩)) λ_ _ z=>z.elim)
def oQ (wi:TI) (n:Nat) (ix:List Nat) (g:Blk->TG) (te:Blk->TE):TE:=λσ H Q=>wi σ H λJ H1=>∀ b:Blk,∃ W:Nat->Nat->St->List V->Hp->Prop,(∃ m,W 0 m (cR n ix σ) [] H1)/\∀ i m τ ys H2,W i m τ ys H2 ->
 (J.stop i H2/\∀ p v H',H2 p=none->v=V.ref p->H'=upd H2 p (.lst ys)->Q v H') \/
 (J.go i H2/\ys.length < sizeLine/\∀ x H3,J.yld i H2 x H3->g b x τ H3 λτ2 H4=>te b τ2 H4 λy H5=>∃ m',m' < m/\W (i+1) m' τ2 (ys++[y]) H5)
section
variable {X:Cx} {pins:List (Addr×Obj)} {σ:St} {H:Hp} {s:Shared}
theorem ZcW {elt target iter:Expr} {scope:Scope} {pos:Pos} {Nx ts:Co} {ix:List Nat} {g:Blk->TG} {te:Blk->TE} {cl:List (Str×Addr)} {s2:Shared} {itv:Value} {R:Value->Addr->Result->Shared->Prop}
  {E:Ck} {Q:VK}
  (hc:X.calm=true) (hg:∀ b,PG (a9 X (bN Nx ts ix) scope b) target (g b)) (he:∀ b,PE (a9 X (bN Nx ts ix) scope b) elt (te b))
  (hNx:X.N=Nx) (ok:BlkOk Nx X.env.scope scope ix) (cl1:∀ x c,cl.lookup x=some c->X.env.cells.lookup x=some c) (cl2:∀ y∈scope.names,y.2=.free->∃ c,cl.lookup y.1=some c)
  (h2:qg X pins σ target (λJ H1=>∀ b:Blk,∃ W:Nat->Nat->St->List V->Hp->Prop,(∃ m,W 0 m (cR ts.length ix σ) [] H1)/\∀ i m τ ys H2,W i m τ ys H2 ->
   (J.stop i H2/\∀ p v H',H2 p=none->v=V.ref p->H'=upd H2 p (.lst ys)->Q v H') \/
   (J.go i H2/\ys.length < sizeLine/\∀ x H3,J.yld i H2 x H3->g b x τ H3 λτ2 H4=>te b τ2 H4 λy H5=>∃ m',m' < m/\W (i+1) m' τ2 (ys++[y]) H5)) itv s2)
  (hR:∀ (D C:Addr) (H':Hp) (s':Shared) (v:V),Inv X pins σ H' s'->v=.ref D->Q v H'->(∃ m,s'.heap.Ns C m)->H' C=none->C≠X.env.locals->X.s₀.heap.objs.size<=C->(∀ x c,X.env.cells.lookup x=some c->c≠C)->(∀ p∈X.pn++pins,p.1≠C) ->
   R (.ref D) C (.ok .next) s') :
  wpAny (model X.prog X.w) X.A (newList []) (λacc s₃=>wpAny (model X.prog X.w) X.A (newFunctionEnv scope X.env.globals cl [] X.env.qual none .none (some X.env)) (λcenv s₄ =>
   codeAny (model X.prog X.w) X.A (.compStart (.ListComp elt [⟨target,iter,[],0⟩] scope pos) 0 itv acc { cenv with scope:=relabel scope X.env }) (R acc cenv.locals) s₄) E s₃) E s2:=by
 obtain ⟨it,fp,tn,J,H1,e,I2,T,st2,f2,q2⟩:=h2
 subst e
 refine wpAny_newObj_type (wk ?_)
 dsimp only
 generalize hG:s2.heap.push { cls:=.type "list",dict:=none,data:=.seq ([]:Cn).toArray }=G
 have hGs:G.objs.size=s2.heap.objs.size+1:=by rw [<- hG,z8]
 have hfs:∀ b∈fp,b < s2.heap.objs.size:=λb hb=>let ⟨o,e,_⟩:=T.obj _ _ st2 b hb; zA e
 have kpG:∀ b o,G.get? b=some o->(pushCells (G.push { cls:=.type "dict",data:=.dict #[] }) scope.names).get? b=some o:=λb o e=>pushCells_keeps _ _ _ _ (pi _ e)
 have hns3:(pushCells (G.push { cls:=.type "dict",data:=.dict #[] }) scope.names).Ns G.objs.size (λ_=>none):=(Heap.Ns.new G (.type "dict")).keeps (pushCells_keeps _ _)
 obtain ⟨sp1,sp2,sp4,sp3⟩:=yF scope.names (G.push { cls:=.type "dict",data:=.dict #[] }) cl
 rw [z8] at sp1 sp2 sp3 sp4
 generalize hh3:pushCells (G.push { cls:=.type "dict",data:=.dict #[] }) scope.names=h3 at kpG hns3 sp1 ⊢
 have kp:∀ b o,s2.heap.get? b=some o->h3.get? b=some o:=λb o e=>kpG b o (by rw [<- hG]; exact pi _ e)
 have hD3:h3.get? s2.heap.objs.size=some { cls:=.type "list",data:=.seq ([]:Cn).toArray }:=kpG _ _ (by rw [<- hG]; exact zw _ rfl)
 have clB:∀ x c,cl.lookup x=some c->c < G.objs.size+1:=λx c e=>by
  obtain ⟨v,q⟩:=I2.cell x c (cl1 x c e)
  exact AQ (zt q.lt (by rw [hGs]; exact BU _))
 have csI:=sp3 clB λx y c e1 e2=>I2.ok.inj x y c (cl1 x c e1) (cl1 y c e2)
 have cs1:∀ x c,(cellsFrom (G.objs.size+1) scope.names cl).lookup x=some c->X.env.cells.lookup x=some c\/(G.objs.size < c/\h3.IsCell c none/\(x,NameKind.cell)∈scope.names):=λx c e=>by
  rcases sp1 x c e with z | ⟨z1,z2,z3⟩
  ·exact .inl (cl1 x c z)
  ·exact .inr ⟨by omega,z2,z3⟩
 have cs2:∀ y∈scope.names,(y.2=.free\/y.2=.cell)->∃ c,(cellsFrom (G.objs.size+1) scope.names cl).lookup y.1=some c:=λy hy hk=>by
  refine sp2 y.1 ?_
  rcases hk with z | z
  ·exact .inr (cl2 y hy z)
  ·exact .inl (by rw [<- z]; exact hy)
 have csA:∀ x c,(x,NameKind.cell)∈scope.names->(cellsFrom (G.objs.size+1) scope.names cl).lookup x=some c->G.objs.size<=c:=λx c e1 e2=>Bd (sp4 x c e1 e2)
 generalize hcs:cellsFrom (G.objs.size+1) scope.names cl=cs at csI cs1 cs2 csA ⊢
 generalize hCe:G.objs.size=C at hns3 cs1 csA ⊢
 have hC:s2.heap.objs.size<=C:=by omega
 have hDC:s2.heap.objs.size≠C:=by omega
 let B:Blk:=⟨cs,C,s2,H1,fp,X.pn++pins⟩
 have I3:Inv (a9 X (bN Nx ts ix) scope B) [] (cR ts.length ix σ) H1 { s2 with heap:=h3 }:=ya I2 hNx ok cs1 csI cs2 csA f2 hfs hC kp hns3
 have fC:H1 s2.heap.objs.size=none:=I2.hok.fresh (zp _)
 have cellIn:∀ x c,cs.lookup x=some c->c≠s2.heap.objs.size:=λx c e=>by
  rcases cs1 x c e with z | ⟨z,_,_⟩
  ·obtain ⟨v,q⟩:=I2.cell x c z
   exact zD q.lt
  ·exact zY (Av hC z)
 have pinIn:∀ p∈X.pn++pins,p.1 < s2.heap.objs.size:=λp hp=>zA (I2.pin p hp).1
 have nofrs:s2.heap.objs.size ∉ frs X.stack:=λhb=>by
  rcases zq.mp (I2.stkSub _ hb) with z | z
  ·exact absurd I2.lt (by rw [<- z]; exact zK _)
  ·exact I2.nofs (zp _) z
 -- a state with the list at its place,pinned
 have pinD:∀ {τ:St} {H':Hp} {s':Shared} {ob:Obj},Inv (a9 X (bN Nx ts ix) scope B) [] τ H' s'->s'.heap.get? s2.heap.objs.size=some ob->H' s2.heap.objs.size=none->(∀ v,ob.data≠.cell v)->Inv (a9 X (bN Nx ts ix) scope B) [(s2.heap.objs.size,ob)] τ H' s' :=
  λ{τ H' s' ob} I' ho hn hd=>I'.pins_of λp hp=>by
   have e:p=(s2.heap.objs.size,ob):=by simpa using hp
   subst e
   exact ⟨ho,hn,hDC,nofrs,hd⟩
 obtain ⟨W,⟨m0,w0⟩,turn⟩:=q2 B
 have stat:∀ {H':Hp} {ob:Obj},(∀ b∈fp,H' b=none)->∀ b∈fp,fh (a9 X (bN Nx ts ix) scope B) [(s2.heap.objs.size,ob)] H' b:=λ{H' ob} hn b hb=>by
  refine ⟨hn b hb,zD (zt (hfs b hb) hC),λz=>?_,.inl hb,λx c e=>by
   rcases cs1 x c e with z | ⟨z,_,_⟩
   ·exact (f2 b hb).2.2.2.2.1 x c z
   ·exact zY (zt (hfs b hb) (zE hC (AY z))),λp hp=>?_⟩
  ·rcases zq.mp (I2.stkSub _ z) with q | q
   ·exact (f2 b hb).2.1 q
   ·exact (f2 b hb).2.2.1 q
  ·rcases Au.mp hp with z | z
   ·exact (f2 b hb).2.2.2.2.2 p z
   ·have e:p=(s2.heap.objs.size,ob):=by simpa using z
    subst e
    exact zY (hfs b hb)
 have loop:∀ s4:Shared,s4={ s2 with heap:=h3 } ->
   codeAny (model X.prog X.w) X.A (.compLoop (.ListComp elt [⟨target,iter,[],0⟩] scope pos) 0 (.ref it) (.ref s2.heap.objs.size) (compEnvC scope cs C X.env)) (R (.ref s2.heap.objs.size) C) s4:=by
  rintro s4 rfl
  refine Zld (λk s'=>∃ i τ ys its n H',Inv (a9 X (bN Nx ts ix) scope B) [(s2.heap.objs.size,({ cls:=.type "list",data:=.seq (List.toArray its) n }:Obj))] τ H' s'/\tn i s'.heap/\(∀ b∈fp,H' b=none)/\Vals ys its/\ys.length<=sizeLine/\W i k τ ys H') ?_ m0
   ⟨0,_,[],[],_,H1,pinD I3 hD3 fC (λv z=>by cases z),T.keep _ _ _ st2 λb hb o e=>kp b o e,λb hb=>(f2 b hb).1,.nil,Ay _,w0⟩
  rintro k s5 ⟨i,τ,ys,its,n,H5,I5,st5,fr5,rv,hz,w5⟩
  rcases turn i k τ ys H5 w5 with ⟨stop,qn⟩ | ⟨go,hlt,step⟩
  ·refine thn (T.done (a9 X (bN Nx ts ix) scope B) rfl rfl rfl hc i _ s5 τ H5 _ I5 (stat fr5) st5 stop) λgot s6 hz0=>?_
   obtain ⟨hr,I6⟩:=hz0
   subst hr
   obtain ⟨ho,hn,_,_,_⟩:=I6.pin (s2.heap.objs.size,({ cls:=.type "list",data:=.seq (List.toArray its) n }:Obj)) (zx _ (by simp))
   have I7:Inv X pins σ H5 s6:=I2.call' (ch:=fp) (H':=H5) (by exact I6.os) I6.base I6.hok I6.bare λb hb=>⟨(f2 b hb).2.2.2.1,(f2 b hb).2.1,(f2 b hb).2.2.2.2.1,(f2 b hb).2.2.2.2.2⟩
   have hs0:X.s₀.heap.objs.size<=s2.heap.objs.size:=I2.sz
   have I8:=I7.track hn ho rv hz (zY I2.lt) hs0 (λx c e z=>by
    obtain ⟨v,q⟩:=I2.cell x c e
    exact absurd q.lt (by rw [z]; exact zK _)) (λp hp=>zD (pinIn p hp))
   obtain ⟨m6,hm6,_⟩:=I6.loc
   refine hR _ C _ s6 _ I8 rfl (qn _ _ _ hn rfl rfl) ⟨m6,hm6⟩ ?_ (λz=>?_) (zE hs0 hC) (λx c e z=>?_) λp hp=>zD (zt (pinIn p hp) hC)
   ·rw [ay (Ne.symm hDC)]
    exact I6.free
   ·exact absurd (zt I2.lt hC) (by rw [z]; exact zK _)
   ·obtain ⟨v,q⟩:=I2.cell x c e
    exact absurd (zt q.lt hC) (by rw [z]; exact zK _)
  ·refine thn (T.item (a9 X (bN Nx ts ix) scope B) rfl rfl rfl hc i _ s5 τ H5 _ I5 (stat fr5) st5 go) λgot s6 hz0=>?_
   obtain ⟨u,hr,h6⟩:=hz0
   subst hr
   refine thn h6 λ_ s7 hz0=>?_
   obtain ⟨x,H7,I7,r7,y7,st7,fr7⟩:=hz0
   have I7':=I7.pinned (stat fr7) (T.obj _ _ st7)
   refine thn (hg B _ s7 τ H7 x u _ I7' r7 (step x H7 y7)) λ_ s8 hz0=>?_
   obtain ⟨τ8,H8,I8,q8⟩:=hz0
   refine thn (he B _ s8 τ8 H8 _ I8 q8) λy s9 hz0=>?_
   obtain ⟨vy,H9,I9,r9,m',hm',w9⟩:=hz0
   obtain ⟨ho,hn,_,_,_⟩:=I9.pin (s2.heap.objs.size,({ cls:=.type "list",data:=.seq (List.toArray its) n }:Obj)) (zx _ (AL _ (by simp)))
   have lenv:=rv.length
   refine wpAny_list_append_plain (l:=s2.heap.objs.size) ⟨n,ho⟩ (λh' hpl hsb=>?_) (by rw [zr]; omega)
   obtain ⟨n',ho'⟩:=hpl
   have eobj:(its.toArray.push y)=List.toArray (its++[y]):=by simp
   rw [eobj] at ho'
   have I9':Inv (a9 X (bN Nx ts ix) scope B) [] τ8 H9 s9:=I9.pins_of λp hp=>absurd hp (by simp)
   have I10:Inv (a9 X (bN Nx ts ix) scope B) [] τ8 H9 { s9 with heap:=h' }:=I9'.turned (it:=s2.heap.objs.size) (t':=s9.toks) (λb o hb e=>(hsb.2 b hb).trans e) hn hDC (.inr (zp _)) cellIn (λp hp=>by
    have hp':p∈(X.pn++pins)++[]:=hp
    rw [zN] at hp'
    exact zD (pinIn p hp'))
   refine ⟨m',hm',i+1,τ8,ys++[vy],its++[y],n',H9,pinD I10 ho' hn (λv z=>by cases z),?_,λb hb=>?_,rv.append (.cons r9 .nil),by rw [zB]; show ys.length+1<=_; omega,w9⟩
   ·refine T.keep _ _ _ st7 λb hb o e=>?_
    have q:=(I9.pin (b,o) (zx _ (zx _ (fQ hb e)))).1
    exact (hsb.2 b (zD (hfs b hb))).trans q
   ·obtain ⟨o,e,d⟩:=T.obj _ _ st7 b hb
    exact (I9.pin (b,o) (zx _ (zx _ (fQ hb e)))).2.1
 exact codeAny_compStart_list (loop _ rfl) (T.self X.A 0 _ _ _ (T.keep _ _ _ st2 λb hb o e=>kp b o e) (loop _ rfl))
theorem g9 {elt target iter:Expr} {scope:Scope} {pos:Pos} {wi:TI} {g:Blk->TG} {te:Blk->TE} (Nx:Co) (ts:Co) (ix:List Nat)
  (hc:X.calm=true) (hi:PI X target iter wi) (hg:∀ b,PG (a9 X (bN Nx ts ix) scope b) target (g b)) (he:∀ b,PE (a9 X (bN Nx ts ix) scope b) elt (te b))
  (hNx:X.N=Nx) (ok:BlkOk Nx X.env.scope scope ix) (hs:∀ x,foldedSetIterable iter X.env x=pure x:=by intro _; rfl) :
  PE X (.ListComp elt [⟨target,iter,[],0⟩] scope pos) (oQ wi ts.length ix g te):=by
 intro pins s σ H Q I h
 obtain ⟨cl,hcl,cl1,cl2⟩:=rR (scope:=scope) (env:=X.env) λy hy hf=>I.ok.has y.1 (ok.frees y hy hf)
 rw [eval_ListComp]
 refine wpAny_comprehension_free (use:=none) rfl hs hcl ok.kind ok.locs (thn (hi pins s σ H _ I h) λv s1 h1=>thn h1 λitv s2 h2=>?_)
 refine ZcW (R:=λacc C=>compPost (model X.prog X.w) X.A X.xe none (EP X pins σ Q) acc C) hc hg he hNx ok cl1 cl2 h2 ?_
 rintro D C H' s' v I' rfl q ⟨m,hm⟩ hn hL h0 hcl' hp
 exact ⟨m,hm,λh' hsb=>⟨.ref D,H',I'.turned (it:=C) (t':=s'.toks) (λb o hb e=>(hsb.2 b hb).trans e) hn hL (.inr h0) hcl' hp,rfl,q⟩⟩
theorem Zb6 {elt target iter:Expr} {scope:Scope} {pos pos' spos:Pos} {wi:TI} {g:Blk->TG} {te:Blk->TE} {i:Nat} {x:Str} (Nx:Co) (ts:Co) (ix:List Nat)
  (hc:X.calm=true) (hN:X.N.Nodup) (hix:X.N[i]?=some x) (hx:X.env.scope.names.lookup x=some .local) (hi:PI X target iter wi) (hg:∀ b,PG (a9 X (bN Nx ts ix) scope b) target (g b)) (he:∀ b,PE (a9 X (bN Nx ts ix) scope b) elt (te b))
  (hNx:X.N=Nx) (ok:BlkOk Nx X.env.scope scope ix) (hsw:swapsWith (.ListComp elt [⟨target,iter,[],0⟩] scope pos) (some (.Name x pos')) spos.line X.env=pure true) (hs:∀ x,foldedSetIterable iter X.env x=pure x:=by intro _; rfl) :
  PS X (.Assign [.Name x pos'] (.ListComp elt [⟨target,iter,[],0⟩] scope pos) spos) (dR (oQ wi ts.length ix g te) (eM i)):=by
 intro pins s σ H D0 I h
 obtain ⟨cl,hcl,cl1,cl2⟩:=rR (scope:=scope) (env:=X.env) λy hy hf=>I.ok.has y.1 (ok.frees y hy hf)
 rw [exec_Assign_Name_used _ _ _ _ hsw]
 refine wpAny_bind (wpAny_standAt (wpAny_bind ?_))
 show wpAny _ X.A (do let _ <- comprehension (.ListComp elt [⟨target,iter,[],0⟩] scope pos) scope X.env _ (newList []) false (eval iter X.env) (some (assign (.Name x pos') X.env))) _ _ s
 refine wpAny_bind (thn (wpAny_comprehension_free (use:=some (assign (.Name x pos') X.env)) (Q:=λ_ s'=>SP X pins D0 .next s') rfl hs hcl ok.kind ok.locs (thn (hi pins s σ H _ I h) λv s1 h1=>thn h1 λitv s2 h2=>?_)) λ_ s' hq=>wpAny_pure (wpAny_pure hq))
 refine ZcW (R:=λacc C=>compPost (model X.prog X.w) X.A X.xe (some (assign (.Name x pos') X.env)) (λ_ s'=>SP X pins D0 .next s') acc C) (Q:=λx H1=>eM i x σ H1 D0.nx) hc hg he hNx ok cl1 cl2 h2 ?_
 rintro D C H' s' v I' rfl q ⟨m,hm⟩ hn hL h0 hcl' hp
 show wpAny _ X.A (assign (.Name x pos') X.env (.ref D)) _ _ _
 refine wpAny_assign_Name (wI I' hN hix (.inl hx) (show RelV (.ref D) (.ref D) from rfl) (λs'' I'' hch=>?_) (.inr hx))
 obtain ⟨a,hsb,ha⟩:=hch
 have haC:C≠a:=by
  rcases ha with z | z
  ·rw [z]; exact hL
  ·exact λe=>hcl' _ _ z e.symm
 exact ⟨m,hm.sameBut hsb haC,λh'' hs''=>⟨_,H',I''.turned (it:=C) (t':=s''.toks) (λb o hb e=>(hs''.2 b hb).trans e) hn hL (.inr h0) hcl' hp,q⟩⟩
end
theorem Zg6 {scope:Scope} {env:Env} {x:Str} (h:scope.names.lookup x=some .cell\/scope.names.lookup x=some .free):(relabel scope env).names.lookup x=some .cell\/(relabel scope env).names.lookup x=some .free:=by
 rcases h with h | h
 ·refine .inl ?_
  unfold relabel
  show List.lookup x (scope.names.map _)=_
  generalize scope.names=l at h
  induction l with
  | nil=>simp at h
  | cons p r ih =>
   obtain ⟨n,k⟩:=p
   rw [zm]
   show List.lookup x ((if (k == NameKind.free && env.scope.kind == .function && env.kindOf n == some .cell)=true then (n,NameKind.cell) else (n,k))::_)=_
   cases hx:x == n with
   | true =>
    rw [zM,hx] at h
    have hk:k=.cell:=by simpa using h
    subst hk
    rw [if_neg (by rw [show (NameKind.cell == NameKind.free)=false from rfl]; simp),zM,hx]
   | false =>
    rw [zM,hx] at h
    split <;> rw [zM,hx] <;> exact ih h
 ·exact Zbt h
theorem BlkOk.nest {Nx:Co} {sc scope:Scope} {env:Env} {ix:List Nat} (h:BlkOk Nx sc scope ix):BlkOk Nx (relabel sc env) scope ix :=
 ⟨h.kind,h.cells,h.locs,λy hy z=>Zg6 (h.frees y hy z),h.caps⟩
mutual
/-- the value bears the datum -/
inductive Dn (H:Hp):V->PyData->Prop
 | non:Dn H .non .none
 | bl (b:Bool):Dn H (.bl b) (.bool b)
 | int (i:Int):Dn H (.int i) (.int i)
 | str (x:Str):Dn H (.str x) (.str x)
 | tup {a:Addr} {xs:Cp} {ds:Cl}:H a=some (.tup xs)->DnAll H xs ds->Dn H (.ref a) (.tuple ds)
 | lst {a:Addr} {xs:Cp} {ds:Cl}:H a=some (.lst xs)->DnAll H xs ds->Dn H (.ref a) (.list ds)
 | dct {a:Addr} {ks:List (aD×V)} {ds:Cl}:Rd H a (.dK ks)->DnAll H (ks.map (·.2)) ds->Dn H (.ref a) (.dict ((ks.map λk=>match k.1 with | .inl i=>PyData.int i | .inr x=>PyData.str x).zip ds))
inductive DnAll (H:Hp):List V->List PyData->Prop
 | nil:DnAll H [] []
 | cons {v:V} {vs:Cp} {d:PyData} {ds:Cl}:Dn H v d->DnAll H vs ds->DnAll H (v::vs) (d::ds)
end
mutual
theorem Dn.mono {H H':Hp} (e:∀ b o,H b=some o->H' b=some o):∀ {v:V} {d:PyData},Dn H v d->Dn H' v d
 | _,_,.non=>.non
 | _,_,.bl b=>.bl b
 | _,_,.int i=>.int i
 | _,_,.str x=>.str x
 | _,_,.tup h r=>.tup (e _ _ h) (DnAll.mono e r)
 | _,_,.lst h r=>.lst (e _ _ h) (DnAll.mono e r)
 | _,_,.dct h r=>.dct (h.imp (e _ _) λ⟨o,h⟩=>⟨o,e _ _ h⟩) (DnAll.mono e r)
theorem DnAll.mono {H H':Hp} (e:∀ b o,H b=some o->H' b=some o):∀ {vs:Cp} {ds:Cl},DnAll H vs ds->DnAll H' vs ds
 | _,_,.nil=>.nil
 | _,_,.cons r t=>.cons (Dn.mono e r) (DnAll.mono e t)
end
theorem DnAll.ints {H:Hp}:∀ ns:Cm,DnAll H (ns.map V.int) (ns.map PyData.int)
 | []=>.nil
 | n::ns=>.cons (.int n) (DnAll.ints ns)
theorem DnAll.length {H:Hp} {vs:Cp} {ds:Cl} (h:DnAll H vs ds):vs.length=ds.length:=by
 induction vs generalizing ds with
 | nil=>cases h; rfl
 | cons v vs ih=>cases h with | cons r t=>exact congrArg (·+1) (ih t)
theorem DnAll.append {H:Hp} {vs ws:Cp} {ds es:Cl} (h:DnAll H vs ds) (s:DnAll H ws es):DnAll H (vs++ws) (ds++es):=by
 induction vs generalizing ds with
 | nil=>cases h; exact s
 | cons v vs ih=>cases h with | cons r t=>exact .cons r (ih t)
mutual
/-- data without dicts -/
theorem Dn.reads {P:Program} {w:World} {H:Hp} {h:Heap} (ok:HOk P w H h):∀ {v:V} {d:PyData} {u:Value},Dn H v d->d.hasDict=false->RelV v u->∃ as,Reads h u d as
 | _,_,_,.non,_,r=>by cases r; exact ⟨_,.none⟩
 | _,_,_,.bl b,_,r=>by cases r; exact ⟨_,.bool b⟩
 | _,_,_,.int i,_,r=>by obtain ⟨t,rfl⟩:=r; exact ⟨_,.int i t⟩
 | _,_,_,.str x,_,r=>by obtain ⟨t,rfl⟩:=r; exact ⟨_,.str x t⟩
 | _,_,_,.tup e rs,hd,r=>by
  cases r
  obtain ⟨z,its,rv,o,h1,h2,n,h3⟩:=ok _ _ e
  obtain ⟨as,q⟩:=DnAll.reads ok rs (by simpa [PyData.hasDict] using hd) rv
  exact ⟨_,.tuple h1 h2 h3 (by simpa using q)⟩
 | _,_,_,.lst e rs,hd,r=>by
  cases r
  obtain ⟨z,its,n,rv,h1⟩:=ok _ _ e
  obtain ⟨as,q⟩:=DnAll.reads ok rs (by simpa [PyData.hasDict] using hd) rv
  exact ⟨_,.list h1 rfl rfl (by simpa using q)⟩
 | _,_,_,.dct e rs,hd,r=>by simp [PyData.hasDict] at hd
theorem DnAll.reads {P:Program} {w:World} {H:Hp} {h:Heap} (ok:HOk P w H h):∀ {vs:Cp} {ds:Cl} {us:Cn},DnAll H vs ds->PyData.hasDictAll ds=false->Vals vs us->∃ as,ReadsAll h us ds as
 | _,_,_,.nil,_,r=>by cases r; exact ⟨_,.nil⟩
 | _,_,_,.cons p t,hd,r=>by
  cases r with
  | cons r1 r2 =>
   simp only [PyData.hasDictAll,Bool.or_eq_false_iff] at hd
   obtain ⟨as,q⟩:=Dn.reads ok p hd.1 r1
   obtain ⟨bs,q2⟩:=DnAll.reads ok t hd.2 r2
   exact ⟨_,.cons q q2⟩
end
section
variable {X:Cx}
theorem Zh4 {k:Nat} (hr:Room k X.A):OpR X (compareOp .Eq) (λx y H Q=>∃ d e,Dn H x d/\Dn H y e/\SeqAt.shaped d=true/\SeqAt.shaped e=true/\Q (.bl (PyData.eqv d e)) H):=by
 intro pins s σ H x y v u Q I rx ry h
 obtain ⟨d,e,hd,he,sd,se,q⟩:=h
 obtain ⟨as,r1⟩:=Dn.reads I.hok hd (Bc _ (Bk sd)) rx
 obtain ⟨bs,r2⟩:=Dn.reads I.hok he (Bc _ (Bk se)) ry
 exact SeqAt.compareEq_shaped r1 r2 sd se hr.units ⟨.bl _,H,I,rfl,q⟩
theorem Zh0 {k:Nat} (hr:Room k X.A):OpR X (compareOp .NotEq) (λx y H Q=>∃ d e,Dn H x d/\Dn H y e/\SeqAt.shaped d=true/\SeqAt.shaped e=true/\Q (.bl (!PyData.eqv d e)) H):=by
 intro pins s σ H x y v u Q I rx ry h
 obtain ⟨d,e,hd,he,sd,se,q⟩:=h
 obtain ⟨as,r1⟩:=Dn.reads I.hok hd (Bc _ (Bk sd)) rx
 obtain ⟨bs,r2⟩:=Dn.reads I.hok he (Bc _ (Bk se)) ry
 exact SeqAt.compareNe_shaped r1 r2 sd se hr.units ⟨.bl _,H,I,rfl,q⟩
theorem Zlm:cS X (.type "range") (λxs H Q=>∃ i j:Int,xs=[.int i,.int j]/\∀ p,H p=none->Q (.ref p) (upd H p (.rng i j))):=by
 intro pins s σ H xs us Q I r h
 obtain ⟨i,j,rfl,q⟩:=h
 cases r with
 | cons r1 rr =>
  cases rr with
  | cons r2 rr =>
   cases rr
   obtain ⟨t,rfl⟩:=r1
   obtain ⟨u,rfl⟩:=r2
   refine call_range_2 ?_
   exact ⟨.ref s.heap.objs.size,_,I.laid (t':=s.toks+1) (λb o e=>pi _ e) (zp _) (show ObjOk X.prog X.w _ _ _ (.rng i j) from ⟨t,u,s.toks,zw _ rfl⟩),rfl,q _ (I.hok.fresh (zp _))⟩
end
end L2
set_option Elab.async false
set_option linter.all false
set_option maxRecDepth 100000
namespace L2
structure Def (K:Cb) (mg:Cq) (x:Str) (st:Stmt) (ps:Co):Prop where
 ex:∃ f fd,Fun K x x st f fd/\mg x=some (.ref f)/\Binds K fd ps []
structure Callee (P:Program) (w:World) (K:Cb) (mg:Cq) (base:Heap) (x:Str) (k:Nat) (ps:Co) (sp:Sp):Prop where
 ex:∃ f fd,FnOk P w K mg base iI k f fd ps sp/\mg x=some (.ref f)/\PySem.W.keepIn K (.ref f)=true/\Binds K fd ps []
section
variable {P:Program} {w:World} {K:Cb} {mg:Cq} {base:Heap}
theorem Def.ok {x:Str} {st:Stmt} {N ps:Co} {k:Nat} {sp:Sp} (D:Def K mg x st ps) (S:FnScope N ps (aN st)) (len:∀ vs H Q E,sp vs H Q E->vs.length=ps.length)
  (hbody:∀ (f:Addr) (cdv:Value) (A:Around) (outer:List Env) (s:Shared) (H:Hp) (vs:Cp) (Q:VK) (E:XK),Room k (A.deeper (envOfC x (aN st) s.heap.objs.size f cdv))->sp vs H Q E ->
   ∃ t,PSs (cQ iI P w K mg base N x (aN st) f cdv A outer s H E).nox (fZ st) t/\t { nx:=λ_ H'=>Q .non H',rt:=Q } (start N vs) H):Callee P w K mg base x (k+1) ps sp:=by
 obtain ⟨f,fd,F,hm,hb⟩:=D.ex
 exact ⟨f,fd,F.ok S len λcdv A outer s H vs Q E hr h=>hbody f cdv A outer s H vs Q E hr h,hm,F.kp,hb⟩
theorem bE {x:Str} {st:Stmt} {ps:Co} {h:Heap} {f:Addr} {oc:Value} {od an:Option Addr} {osl:Array (Option Value)} {kV doc pm cdv ct:Value} (X:K.In h) (G:h.Ns mainGlobals mg)
  (a:PySem.W.nsIn K mainGlobals x=some (some (.ref f))) (l:K.lookup f=some ⟨oc,od,.func (PySem.W.fnOf x x (pU st) (fZ st) (aN st) .none kV doc pm an cdv ct),osl⟩)
  (c:PySem.W.codeIn K cdv x=true) (k:PySem.W.keepIn K (.ref f)=true)
  (hb:∀ (kV doc pm:Value) (an:Option Addr) (cdv ct:Value) (us:Cn),us.length=ps.length->bindArgs (PySem.W.fnOf x x (pU st) (fZ st) (aN st) .none kV doc pm an cdv ct) ⟨us,[]⟩=pure (ps.zip us)):Def K mg x st ps:=by
 have F:=ZjJ (st:=st) l c k
 exact ⟨f,_,F,zV X G a,F.binds hb⟩
end
section
variable {X:Cx} {x:Str} {k:Nat} {ps:Co} {sp:Sp} {e:Expr} {es:List Expr} {t:TA} {p pos:Pos}
theorem Zcg (C:Callee X.prog X.w X.K X.mg X.base x k ps sp) (hr:Room k X.A) (hg:Gl X x) (ha:PA X (e::es) t) (hdb:(x == ("__debug__":Str))=false:=by decide)
  (he:starEach (e::es) X.env=(false,eval e X.env)::starEach es X.env:=by rfl) (hpl:(backTo pos (starEach es X.env)).any (·.1)=false:=by rfl):PE X (.Call (.Name x p) (e::es) [] pos) (ZaJ sp [] E0 t):=by
 obtain ⟨f,fd,F,hm,hk,hb⟩:=C.ex
 exact ZhO F hr hg hm hk hb .nil ZhW ha hdb he hpl
theorem ZhL {i:Int} (hg:Gl X x) (h:∃ t,X.mg x=some (.int i t)) (hd:(x == ("__debug__":Str))=false:=by decide):PE X (.Name x pos) (tC (.int i)):=by
 obtain ⟨t,e⟩:=h
 exact gj hg e ⟨t,rfl⟩ hd
end
def Zf9 (t:TS):TS:=λD σ H=>∃ J:St->Hp->Prop,t { D with nx:=J } σ H/\∀ σ' H',J σ' H'->D.nx σ' H'
def Zf8 (t:TT):TT:=λσ H Q=>∃ J:Bool->Hp->Prop,t σ H J/\∀ b H',J b H'->Q b H'
section
variable {X:Cx} {st:Stmt} {e:Expr}
theorem PS.join {t:TS} (h:PS X st t):PS X st (Zf9 t):=by
 rintro pins s σ H D I ⟨J,q,hJ⟩
 refine thn (h pins s σ H _ I q) λf s' z=>?_
 cases f with
 | next=>obtain ⟨σ',H',I',q'⟩:=z; exact ⟨σ',H',I',hJ _ _ q'⟩
 | brk=>exact z
 | cont=>exact z
 | ret u=>exact z
theorem PT.join {t:TT} (h:PT X e t):PT X e (Zf8 t):=by
 rintro pins s σ H Q I ⟨J,q,hJ⟩
 refine thn (h pins s σ H _ I q) λb s' ⟨H',I',q'⟩=>⟨H',I',hJ _ _ q'⟩
end
def Kept (p:Addr) (H H':Hp):Prop:=∀ b o,H b=some o->b≠p->H' b=some o
theorem Kept.refl {p:Addr} {H:Hp}:Kept p H H:=λ_ _ h _=>h
theorem Kept.pen {p:Addr} {H H':Hp} {o:HO} (a:Kept p H H'):Kept p H (upd H' p o):=λc u h n=>by
 rw [ay n]
 exact a c u h n
theorem Same.new {q:Addr} {H H':Hp} {o:HO} (a:Same H H') (hq:H' q=none):Same H (upd H' q o):=λc u h=>by
 have e:=a c u h
 rw [ay (dt e hq)]
 exact e
end L2
set_option Elab.async false
set_option linter.all false
set_option maxRecDepth 100000
namespace L2
section
variable {X:Cx}
theorem Zig:fillsNumberSlot (.type "tuple") "mul"=pure false :=
 PySem.fillsNumberSlot_seq (id:="tuple.__mul__") (r:=some (.builtin "tuple.__rmul__")) PySem.F.slot_tuple_mul.lookup (by trivial) PySem.F.slot_tuple_rmul.lookup (by trivial)
theorem Zg3:seqRepeat? (.type "tuple")=pure (some (.builtin "tuple.__mul__")):=by
 unfold seqRepeat?
 rw [PySem.seqSlot_of (T:="tuple") (name:="__mul__") (id:="tuple.__mul__") PySem.F.slot_tuple_mul.lookup (by trivial),PySem.seqSlot_of (T:="tuple") (name:="__rmul__") (id:="tuple.__rmul__") PySem.F.slot_tuple_rmul.lookup (by trivial)]; rfl
theorem Zg0 (x:Int) (t:Tok) (l:Addr) (items:Array Value) (n:Nat) (dd:Option Addr) (sl:Array (Option Value)) :
  Meets (Builtin.«int.__rmul__» ⟨[.int x t,.ref l],[]⟩) (λ_ R s=>s.heap.get? l=some { cls:=.type "tuple",dict:=dd,data:=.seq items n,slots:=sl }/\R (.ok (.ret Value.notImplemented)) s):=by
 refine .of_wp λprog w A R s h=>?_
 obtain ⟨hp,g,d,tk,os⟩:=s
 obtain ⟨hl,h⟩:=h
 wp_walk
 exact ⟨_,rfl,h⟩
theorem Ziq (x:Int) (t:Tok) (l:Addr) (items:Array Value) (n:Nat) (dd:Option Addr) (sl:Array (Option Value)) (h1:1 < x) (h2:x<=1000) (h3:items.isEmpty=false) (h4:items.size<=1000) :
  Meets (Builtin.«tuple.__mul__» ⟨[.ref l,.int x t],[]⟩) (λ_ R s=>s.heap.get? l=some { cls:=.type "tuple",dict:=dd,data:=.seq items n,slots:=sl } /\
   R (.ok (.ret (.ref s.heap.objs.size))) { s with heap:=s.heap.push { cls:=.type "tuple",data:=.seq ((List.replicate x.toNat items).foldl (·++·) #[]) } }):=by
 refine .of_wp λprog w A R s h=>?_
 obtain ⟨hp,g,d,tk,os⟩:=s
 obtain ⟨hl,h⟩:=h
 have hp0:0<=(items.size:Int) * x:=Bg (by omega) (by omega)
 have hp1:(items.size:Int) * x<=1000 * 1000:=Int.mul_le_mul (by omega) h2 (by omega) (by omega)
 have hne:items.size≠0:=λe=>by simp [Array.isEmpty,e] at h3
 wp_walk
 refine wpAny_ite_split (λz=>absurd z (by simp; omega)) (λ_=>?_)
 refine wpAny_bind ?_
 unfold Builtin.Tuple.tupleItemsOf
 refine wpAny_bind (wpAny_seqItems hl rfl (wpAny_pure ?_))
 refine wpAny_ite_split (λz=>absurd z (by rw [h3]; simp; omega)) (λ_=>?_)
 refine wpAny_ite_split (λz=>absurd z (by rw [h3]; simp; omega)) (λ_=>?_)
 refine wpAny_ite_split (λz=>absurd z (by omega)) (λ_=>?_)
 refine wpAny_ite_split (λz=>absurd z (by unfold Builtin.Tuple.tupleTooMany; rw [sizeLine_eq]; simp; omega)) (λ_=>?_)
 unfold Builtin.Tuple.tupleExact
 have hlen:∀ k:Nat,((List.replicate k items).foldl (·++·) #[]).size=k * items.size:=λk=>by
  have key:∀ (k:Nat) (acc:Array Value),((List.replicate k items).foldl (·++·) acc).size=acc.size+k * items.size:=by
   intro k
   induction k with
   | zero=>intro acc; simp
   | succ k ih =>
    intro acc
    rw [zG,AA,ih,Array.size_append,A7]
    omega
  simpa using key k #[]
 refine wpAny_bind (wpAny_newObj_type (wpAny_pure ⟨_,rfl,h⟩) ?_)
 show ((List.replicate x.toNat items).foldl (·++·) #[]).size<=sizeLine
 rw [hlen,sizeLine_eq]
 have hx:x.toNat<=1000:=by omega
 exact zE (B1 hx h4) (by decide)
noncomputable def ZbJ (K:Cb):R2:=λx y H Q=>∃ a k xs,x=.ref a/\y=.int k/\SqT K H a xs/\1 < k/\k<=1000/\xs≠[]/\xs.length<=1000/\∀ p,H p=none->Q (.ref p) (upd H p (.tup (List.replicate k.toNat xs).flatten))
theorem Zar {xs:Cp} {us:Cn} (r:Vals xs us):∀ k:Nat,Vals (List.replicate k xs).flatten (List.replicate k us).flatten
 | 0=>.nil
 | k+1=>by
  rw [zG,zG,Ad,Ad]
  exact r.append (Zar r k)
theorem ZhZ:OpR X (binaryOp .Mult) (ZbJ X.K):=by
 intro pins s σ H x y v u Q I rx ry h
 obtain ⟨a,k,xs,rfl,rfl,hq,h1,h2,hne,hl,q⟩:=h
 cases rx
 obtain ⟨t,rfl⟩:=ry
 obtain ⟨its,rv,p,hz⟩:=I.tuple hq
 obtain ⟨o,ho,hc,n,hd⟩:=p
 obtain ⟨oc,od,odd,osl⟩:=o
 have hc':oc=.type "tuple":=hc
 have hd':odd=.seq its.toArray n:=hd
 subst hc' hd'
 have hlen:=rv.length
 have hemp:its.toArray.isEmpty=false:=by
  cases its with
  | nil=>cases rv; exact absurd rfl hne
  | cons i r=>rfl
 have efl:(List.replicate k.toNat its.toArray).foldl (·++·) #[]=(List.replicate k.toNat its).flatten.toArray:=by
  have key:∀ (k:Nat) (acc:Array Value),(List.replicate k its.toArray).foldl (·++·) acc=acc++(List.replicate k its).flatten.toArray:=by
   intro k
   induction k with
   | zero=>intro acc; simp
   | succ k ih =>
    intro acc
    rw [zG,AA,ih,zG,Ad]
    simp
  simpa using key k.toNat #[]
 refine wpAny_binaryOp_repeat_ref (T:="tuple") (U:="int") (by decide) ⟨_,ho,rfl⟩ (λs'=>typeIs_int s' k t) Zig PySem.F.fills_int_mul PySem.F.slot_int_rmul Zg3 PySem.F.slot_int_index.lookup ?_
 refine call_meets PySem.F.slot_int_rmul (typeIs_int s k t) PySem.F.entry_int_rmul (PySem.F.args_int_rmul_2 _ _) (Zg0 k t a its.toArray n od osl) ⟨ho,rfl,⟨_,ho,rfl⟩,?_⟩
 refine call_meets PySem.F.slot_tuple_mul ⟨_,ho,rfl⟩ PySem.F.entry_tuple_mul (PySem.F.args_tuple_mul_2 _ _) (Ziq k t a its.toArray n od osl h1 h2 hemp (by rw [zr]; omega)) ⟨ho,?_⟩
 rw [efl]
 have hzz:(List.replicate k.toNat xs).flatten.length<=sizeLine:=by
  have hx:k.toNat<=1000:=by omega
  have e:(List.replicate k.toNat xs).flatten.length=k.toNat * xs.length:=by simp
  rw [e,sizeLine_eq]
  exact zE (B1 hx hl) (by decide)
 exact ⟨.ref s.heap.objs.size,_,I.laid (t':=s.toks) (λb o e=>pi _ e) (zp _) (show ObjOk X.prog X.w _ _ _ (.tup (List.replicate k.toNat xs).flatten) from ⟨hzz,_,Zar rv k.toNat,IsTup.new _ _⟩),rfl,q _ (I.hok.fresh (zp _))⟩
end
end L2
set_option Elab.async false
set_option linter.all false
set_option maxRecDepth 100000
namespace L2
theorem ZcS {n:Nat} (h:n < 2 ^ 1900):n.log2 < 1900:=by
 by_cases h0:n=0
 ·rw [h0]; decide
 ·exact (Nat.log2_lt h0).mpr h
theorem Zgv {i:Int} (h:i.natAbs < 2 ^ 1900):(PyData.int i).shown.length<=1901:=by
 have e:=int_text_length_le (k:=1900) (by decide) (ZcS h)
 have q:(Str.ofString (toString i)).length<=1901:=by rw [PySem.ofString_length]; exact e
 simpa [PyData.shown] using q
theorem Za5:∀ (ns:Cm),(∀ n∈ns,n.natAbs < 2 ^ 1900)->((PyData.shownAll (ns.map PyData.int)).map (·.length)).sum<=ns.length * 1901/\(PyData.shownAll (ns.map PyData.int)).length=ns.length
 | [],_=>⟨by simp [PyData.shownAll],rfl⟩
 | n::r,h=>by
  obtain ⟨h1,h2⟩:=Za5 r λx hx=>h x (Mt _ hx)
  have h3:=Zgv (h n z7)
  rw [zm,PyData.shownAll,zm,zT,zn,zn,h2,A7]
  exact ⟨by omega,rfl⟩
theorem Za6:∀ (ns:Cm),(∀ n∈ns,n.natAbs < 2 ^ 1900)->PyData.showableAll (ns.map PyData.int)=true
 | [],_=>rfl
 | n::r,h=>by
  rw [zm,PyData.showableAll,Za6 r λx hx=>h x (Mt _ hx),Bool.and_true]
  have q:=ZcS (h n z7)
  simp only [PyData.showable,decide_eq_true_eq]
  omega
noncomputable def ap (lo:Int) (n:Nat):Cm:=(List.range n).map λ(k:Nat)=>lo+(k:Int)
theorem eT (lo:Int) (n:Nat):(ap lo n).length=n:=by
 unfold ap
 rw [zo,A1]
theorem qN {lo x:Int} {n:Nat} (h:x∈ap lo n):lo<=x/\x < lo+n:=by
 unfold ap at h
 obtain ⟨k,hk,rfl⟩:=AG.mp h
 have:=BG.mp hk
 omega
end L2
set_option Elab.async false
set_option linter.all false
set_option maxRecDepth 100000
namespace L2
def CMulG (i j:Int):Prop:=i.natAbs < 2 ^ 8000/\j.natAbs < 2 ^ 8000
def Zfk (i j:Int):Prop:=j≠0/\j.natAbs < 2 ^ 8000
theorem ZeD {x:Int} (h:x.natAbs < 2 ^ 8000):Builtin.Int.intBits x<=8000:=by
 unfold Builtin.Int.intBits
 split
 ·exact Ay _
 ·rename_i hx
  have h0:x.natAbs≠0:=by
   intro z
   have e:x=0:=Int.natAbs_eq_zero.mp z
   rw [e] at hx
   exact hx rfl
  exact (Nat.log2_lt h0).mpr h
theorem CMulG.ok {i j:Int} (h:CMulG i j):IntMulOk i j:=by
 have h1:=ZeD h.1
 have h2:=ZeD h.2
 unfold IntMulOk
 have e:Builtin.Int.intTooBig ((Builtin.Int.intBits i+Builtin.Int.intBits j:Nat):Int)=false:=by
  unfold Builtin.Int.intTooBig
  refine decide_eq_false ?_
  have hb:((16000:Nat):Int)<=(bitsLine:Int):=by decide
  omega
 intro z
 rw [zL] at z
 have z2:Builtin.Int.intTooBig ((Builtin.Int.intBits i+Builtin.Int.intBits j:Nat):Int)=true:=z.2
 rw [e] at z2
 cases z2
section
variable {X:Cx}
theorem Zh2:OpR X (binaryOp .Mult) (rI CMulG λi j=>.int (i * j)):=hU λ_ _ _ _ _ _ _ hc q=>mul_int q hc.ok
theorem qX:OpR X (binaryOp .FloorDiv) (rI Zfk λi j=>.int (i.fdiv j)):=hU λi j _ _ _ _ _ hc q=>by
 refine floordiv_int hc.1 q (.inl (PyProof.noPylong_of_log2 ?_))
 by_cases h0:j.natAbs=0
 ·exact absurd (Int.natAbs_eq_zero.mp h0) hc.1
 ·exact Nat.lt_trans ((Nat.log2_lt h0).mpr hc.2) (by decide)
end
end L2
set_option Elab.async false
set_option linter.all false
set_option maxRecDepth 100000
namespace Gc
noncomputable def im (a b:Int):Int:=((Nat.gcd a.natAbs b.natAbs:Nat):Int)
noncomputable def den (t b:Int):Int:=if b < 0 then -im t b else im t b
noncomputable def ig (t b:Int):Int:=t.fdiv (den t b)
noncomputable def gp (t b:Int):Int:=b.fdiv (den t b)
theorem ym {t b:Int} (h:b≠0):0 < Nat.gcd t.natAbs b.natAbs:=Nat.gcd_pos_of_pos_right _ (by omega)
theorem yy {t b:Int} (h:b≠0):den t b≠0:=by
 have:=ym (t:=t) h
 unfold den im
 split <;> omega
theorem yz (t b:Int):(den t b).natAbs=Nat.gcd t.natAbs b.natAbs:=by
 unfold den im
 split <;> omega
theorem ZiK {t b:Int} (h:b≠0):t=den t b * ig t b/\b=den t b * gp t b/\0 < gp t b/\Nat.gcd (ig t b).natAbs (gp t b).natAbs=1:=by
 have hd:=yy (t:=t) h
 have ha:=yz t b
 have hg:=ym (t:=t) h
 have d1:den t b ∣ t:=Int.natAbs_dvd_natAbs.mp (by rw [ha]; exact Nat.gcd_dvd_left _ _)
 have d2:den t b ∣ b:=Int.natAbs_dvd_natAbs.mp (by rw [ha]; exact Nat.gcd_dvd_right _ _)
 obtain ⟨x,hx⟩:=d1
 obtain ⟨y,hy⟩:=d2
 have e1:ig t b=x:=by
  show t.fdiv (den t b)=x
  generalize den t b=d at hd hx
  rw [hx]
  exact B5 _ hd
 have e2:gp t b=y:=by
  show b.fdiv (den t b)=y
  generalize den t b=d at hd hy
  rw [hy]
  exact B5 _ hd
 rw [e1,e2]
 refine ⟨hx,hy,?_,?_⟩
 ·have hb:(0 < b/\0 < den t b)\/(b < 0/\den t b < 0):=by
   unfold den im
   split <;> omega
  rcases hb with ⟨p,q⟩ | ⟨p,q⟩
  ·rcases (show 0 < y\/y<=0 by omega) with z | z
   ·exact z
   ·exfalso
    have:=Bg (Int.le_of_lt q) (show 0<=-y by omega)
    rw [Int.mul_neg,<- hy] at this
    omega
  ·rcases (show 0 < y\/y<=0 by omega) with z | z
   ·exact z
   ·exfalso
    have:=Bg (show 0<=-den t b by omega) (show 0<=-y by omega)
    rw [Int.neg_mul_neg,<- hy] at this
    omega
 ·have h1:t.natAbs=Nat.gcd t.natAbs b.natAbs * x.natAbs:=by
   have:=congrArg Int.natAbs hx
   rw [Bv,ha] at this
   exact this
  have h2:b.natAbs=Nat.gcd t.natAbs b.natAbs * y.natAbs:=by
   have:=congrArg Int.natAbs hy
   rw [Bv,ha] at this
   exact this
  have h3:Nat.gcd t.natAbs b.natAbs=Nat.gcd t.natAbs b.natAbs * Nat.gcd x.natAbs y.natAbs:=by
   rw [<- Nat.gcd_mul_left,<- h1,<- h2]
  have h4:Nat.gcd t.natAbs b.natAbs * 1=Nat.gcd t.natAbs b.natAbs * Nat.gcd x.natAbs y.natAbs:=by rw [Nat.mul_one]; exact h3
  exact (Nat.eq_of_mul_eq_mul_left hg h4).symm
theorem ZiM {t b:Int} (h:b≠0):(ig t b).natAbs<=t.natAbs/\(gp t b).natAbs<=b.natAbs:=by
 obtain ⟨h1,h2,_,_⟩:=ZiK (t:=t) h
 have hg:=ym (t:=t) h
 have ha:=yz t b
 constructor
 ·have e:=congrArg Int.natAbs h1
  rw [Bv,ha] at e
  rw [e]
  exact Nat.le_mul_of_pos_left _ hg
 ·have e:=congrArg Int.natAbs h2
  rw [Bv,ha] at e
  rw [e]
  exact Nat.le_mul_of_pos_left _ hg
end Gc
set_option Elab.async false
set_option linter.all false
set_option maxRecDepth 100000
namespace L2
theorem Zat:∀ {us:Cn} {ns:Cm},IntsAre us ns->Vals (ns.map V.int) us
 | _,_,.nil=>.nil
 | _,_,.cons n t r=>.cons ⟨t,rfl⟩ (Zat r)
end L2
set_option Elab.async false
set_option linter.all false
set_option maxRecDepth 100000
namespace L2
inductive Tr (α:Type) where
 | ret (a:α)
 | draw (n:Int) (k:Int->Tr α)
 | fail
namespace Tr
variable {α β γ:Type}
noncomputable def bind:Tr α->(α->Tr β)->Tr β
 | .ret a,f=>f a
 | .draw n k,f=>.draw n λr=>(k r).bind f
 | .fail,_=>.fail
@[simp] theorem ret_bind (a:α) (f:α->Tr β):(Tr.ret a).bind f=f a:=rfl
@[simp] theorem draw_bind (n:Int) (k:Int->Tr α) (f:α->Tr β):(Tr.draw n k).bind f=.draw n λr=>(k r).bind f:=rfl
@[simp] theorem fail_bind (f:α->Tr β):(Tr.fail:Tr α).bind f=.fail:=rfl
@[simp] theorem bind_assoc:∀ (t:Tr α) (f:α->Tr β) (g:β->Tr γ),(t.bind f).bind g=t.bind λa=>(f a).bind g
 | .ret a,f,g=>rfl
 | .draw n k,f,g=>by simp only [draw_bind]; congr 1; funext r; exact bind_assoc (k r) f g
 | .fail,f,g=>rfl
noncomputable def of:Option α->Tr α
 | some a=>.ret a
 | none=>.fail
@[simp] theorem of_some (a:α):Tr.of (some a)=.ret a:=rfl
@[simp] theorem of_none:Tr.of (none:Option α)=.fail:=rfl
noncomputable def ok:Tr α->Nat->(Nat->α->Prop)->Prop
 | .ret a,m,Q=>Q m a
 | .draw n k,m,Q=>m < 400000/\0 < n/\n < 1073741824/\∀ r,0<=r->r < n->(k r).ok (m+1) Q
 | .fail,_,_=>False
theorem ok_mono:∀ {t:Tr α} {m:Nat} {Q Q':Nat->α->Prop},t.ok m Q->(∀ m a,Q m a->Q' m a)->t.ok m Q'
 | .ret a,m,_,_,h,hq=>hq m a h
 | .draw n k,m,_,_,⟨h1,h2,h3,h⟩,hq=>⟨h1,h2,h3,λr h0 h1=>ok_mono (h r h0 h1) hq⟩
theorem ok_bind:∀ {t:Tr α} {f:α->Tr β} {m:Nat} {Q:Nat->β->Prop},(t.bind f).ok m Q ↔ t.ok m λm' a=>(f a).ok m' Q
 | .ret a,f,m,Q=>Iff.rfl
 | .draw n k,f,m,Q=>by
  show (_/\_/\_/\∀ r,_) ↔ (_/\_/\_/\∀ r,_)
  refine and_congr_right λ_=>and_congr_right λ_=>and_congr_right λ_=>forall_congr' λr=>forall_congr' λ_=>forall_congr' λ_=>ok_bind
 | .fail,f,m,Q=>Iff.rfl
theorem ok_of {o:Option α} {m:Nat} {Q:Nat->α->Prop} (h:(Tr.of o).ok m Q):∃ a,o=some a/\Q m a:=by
 cases o with
 | none=>exact h.elim
 | some a=>exact ⟨a,rfl,h⟩
noncomputable def all:Tr α->Nat->(α->Prop)->Prop
 | .ret a,_,P=>P a
 | .draw w k,n+1,P=>0 < w/\w < 1073741824/\∀ r,0<=r->r < w->(k r).all n P
 | .draw _ _,0,_=>False
 | .fail,_,_=>False
theorem all_ok:∀ {t:Tr α} {n m:Nat} {P:α->Prop},t.all n P->m+n<=400000->t.ok m λm' a=>m'<=m+n/\P a
 | .ret a,n,m,P,h,hm=>⟨by omega,h⟩
 | .draw w k,n+1,m,P,⟨h1,h2,h⟩,hm=>⟨by omega,h1,h2,λr a b=>ok_mono (all_ok (h r a b) (by omega)) λm' x hz0=>by
  obtain ⟨p,q⟩:=hz0
  exact ⟨by omega,q⟩⟩
theorem all_mono:∀ {t:Tr α} {n n':Nat} {P P':α->Prop},t.all n P->n<=n'->(∀ a,P a->P' a)->t.all n' P'
 | .ret a,n,n',P,P',h,hn,hp=>hp a h
 | .draw w k,n+1,n'+1,P,P',⟨h1,h2,h⟩,hn,hp=>⟨h1,h2,λr a b=>all_mono (h r a b) (by omega) hp⟩
 | .draw w k,n+1,0,P,P',h,hn,hp=>by omega
theorem all_bind:∀ {t:Tr α} {f:α->Tr β} {n n':Nat} {P:α->Prop} {P':β->Prop},t.all n P->(∀ a,P a->(f a).all n' P')->(t.bind f).all (n+n') P'
 | .ret a,f,n,n',P,P',h,hf=>all_mono (hf a h) (by omega) λ_ x=>x
 | .draw w k,f,n+1,n',P,P',⟨h1,h2,h⟩,hf=>by
  have e:n+1+n'=(n+n')+1:=by omega
  rw [e]
  exact ⟨h1,h2,λr a b=>all_bind (h r a b) hf⟩
end Tr
abbrev Sub (G H:Hp):Prop:=∀ b o,G b=some o->H b=some o
structure Pk where
 is:HO->Hp->Nat->Prop
 mono:∀ {o:HO} {G G':Hp} {m:Nat},Sub G G'->is o G m->is o G' m
structure Wd (PK:Pk) (pa:Addr) (m:Nat) (G H:Hp):Prop where
 sub:Sub G H
 gpa:G pa=none
 pen:∃ o,H pa=some o/\PK.is o G m
structure Stp (pa:Addr) (G H G' H':Hp):Prop where
 gs:Sub G G'
 gn:∀ b o,G' b=some o->G b=some o\/H b=none
 hk:∀ b o,H b=some o->b≠pa->H' b=some o
theorem Stp.refl {pa:Addr} {G H:Hp}:Stp pa G H G H:=⟨λ_ _ h=>h,λ_ _ h=>.inl h,λ_ _ h _=>h⟩
theorem Stp.trans {pa:Addr} {G H G1 H1 G2 H2:Hp} (a:Stp pa G H G1 H1) (b:Stp pa G1 H1 G2 H2) (hp:∃ o,H1 pa=some o):Stp pa G H G2 H2:=by
 refine ⟨λc o h=>b.gs c o (a.gs c o h),λc o h=>?_,λc o h n=>b.hk c o (a.hk c o h n) n⟩
 rcases b.gn c o h with z | z
 ·exact a.gn c o z
 ·refine .inr ?_
  cases e:H c with
  | none=>rfl
  | some u =>
   by_cases hc:c=pa
   ·subst hc
    obtain ⟨o',z'⟩:=hp
    rw [z'] at z; cases z
   ·rw [a.hk c u e hc] at z; cases z
section
variable {PK:Pk} {pa:Addr} {m:Nat} {G H:Hp}
theorem Wd.some (w:Wd PK pa m G H):∃ o,H pa=some o:=let ⟨o,h,_⟩:=w.pen; ⟨o,h⟩
theorem Wd.ne (w:Wd PK pa m G H) {p:Addr} (hp:H p=none):pa≠p:=λe=>by
 obtain ⟨o,h⟩:=w.some
 rw [e,hp] at h; cases h
theorem Sub.new {p:Addr} {o:HO} (hp:G p=none):Sub G (upd G p o):=λb u h=>by rw [ay (dt h hp)]; exact h
theorem Wd.gnone (w:Wd PK pa m G H) {p:Addr} (hp:H p=none):G p=none:=by
 cases e:G p with
 | none=>rfl
 | some o=>rw [w.sub p o e] at hp; cases hp
theorem Sub.upd2 {p:Addr} {o:HO} (s:Sub G H):Sub (upd G p o) (upd H p o):=λb u h=>by
 by_cases e:b=p
 ·subst e; rw [bH] at h ⊢; exact h
 ·rw [ay e] at h ⊢; exact s b u h
theorem Wd.new (w:Wd PK pa m G H) {p:Addr} {o:HO} (hp:H p=none):Wd PK pa m (upd G p o) (upd H p o)/\Stp pa G H (upd G p o) (upd H p o):=by
 have hg:=w.gnone hp
 have hne:=w.ne hp
 refine ⟨⟨w.sub.upd2,by rw [ay hne]; exact w.gpa,?_⟩,⟨Sub.new hg,λb u h=>?_,λb u h _=>by rw [ay (dt h hp)]; exact h⟩⟩
 ·obtain ⟨u,h,q⟩:=w.pen
  exact ⟨u,by rw [ay hne]; exact h,PK.mono (Sub.new hg) q⟩
 ·by_cases e:b=p
  ·subst e; exact .inr hp
  ·rw [ay e] at h; exact .inl h
theorem Wd.own (w:Wd PK pa m G H) {p:Addr} {o:HO} (hp:H p=none):Wd PK pa m G (upd H p o)/\Stp pa G H G (upd H p o):=by
 have hne:=w.ne hp
 refine ⟨⟨λb u h=>by rw [ay (dt (w.sub b u h) hp)]; exact w.sub b u h,w.gpa,?_⟩,⟨λ_ _ h=>h,λ_ _ h=>.inl h,λb u h _=>by rw [ay (dt h hp)]; exact h⟩⟩
 obtain ⟨u,h,q⟩:=w.pen
 exact ⟨u,by rw [ay hne]; exact h,q⟩
theorem Wd.freeze (w:Wd PK pa m G H) {p:Addr} {o:HO} (hp:H p=Option.some o) (hg:G p=none) (hne:pa≠p):Wd PK pa m (upd G p o) H:=by
 refine ⟨λb u h=>?_,by rw [ay hne]; exact w.gpa,?_⟩
 ·by_cases e:b=p
  ·subst e; rw [bH] at h; rw [hp]; exact h
  ·rw [ay e] at h; exact w.sub b u h
 ·obtain ⟨u,h,q⟩:=w.pen
  exact ⟨u,h,PK.mono (Sub.new hg) q⟩
def Kn (PK:Pk) (pa:Addr) (m:Nat) (G H:Hp) (x:PyData) (Q:VK):Prop:=∀ v G' H',Stp pa G H G' H'->Wd PK pa m G' H'->Dn G' v x->Q v H'
variable {x:PyData} {Q:VK} {v:V} {vs:Cp} {ds:Cl} {p:Addr}
theorem Kn.here (k:Kn PK pa m G H x Q) (w:Wd PK pa m G H) (d:Dn G v x):Q v H:=k v G H .refl w d
theorem Kn.tup (k:Kn PK pa m G H (.tuple ds) Q) (w:Wd PK pa m G H) (d:DnAll G vs ds) (hp:H p=none):Q (.ref p) (upd H p (.tup vs)):=by
 obtain ⟨w1,s1⟩:=w.new (o:=.tup vs) hp
 exact k _ _ _ s1 w1 (.tup bH (DnAll.mono s1.gs d))
theorem Kn.lst (k:Kn PK pa m G H (.list ds) Q) (w:Wd PK pa m G H) (d:DnAll G vs ds) (hp:H p=none):Q (.ref p) (upd H p (.lst vs)):=by
 obtain ⟨w1,s1⟩:=w.new (o:=.lst vs) hp
 exact k _ _ _ s1 w1 (.lst bH (DnAll.mono s1.gs d))
theorem Kn.later {G1 H1:Hp} (k:Kn PK pa m G H x Q) (s:Stp pa G H G1 H1) (hp:∃ o,H1 pa=Option.some o):Kn PK pa m G1 H1 x Q:=λv G' H' s' w d=>k v G' H' (s.trans s' hp) w d
end
inductive Sl where
 | un | d (x:PyData) | own (xs:Cl) | pen | dic (kvs:List (Int×PyData))
inductive KD (G:Hp):List (aD×V)->List (Int×PyData)->Prop
 | nil:KD G [] []
 | cons {i:Int} {v:V} {d:PyData} {ks:List (aD×V)} {kvs:List (Int×PyData)}:Dn G v d->KD G ks kvs->KD G ((.inl i,v)::ks) ((i,d)::kvs)
theorem KD.mono {G G':Hp} (s:Sub G G') {ks:List (aD×V)} {kvs:List (Int×PyData)} (h:KD G ks kvs):KD G' ks kvs:=by
 induction h with
 | nil=>exact .nil
 | cons h _ ih=>exact .cons (h.mono s) ih
inductive SlOk (pa:Addr) (H₀ G H:Hp):Option V->Sl->Prop
 | un {o:Option V}:SlOk pa H₀ G H o .un
 | d {v:V} {x:PyData}:Dn G v x->SlOk pa H₀ G H (some v) (.d x)
 | own {p:Addr} {vs:Cp} {xs:Cl}:H p=some (.lst vs)->G p=none->H₀ p=none->DnAll G vs xs->SlOk pa H₀ G H (some (.ref p)) (.own xs)
 | pen:SlOk pa H₀ G H (some (.ref pa)) .pen
 | dic {p:Addr} {ks:List (aD×V)} {kvs:List (Int×PyData)}:H p=some (.dK ks)->G p=none->H₀ p=none->KD G ks kvs->SlOk pa H₀ G H (some (.ref p)) (.dic kvs)
structure Rl (PK:Pk) (pa:Addr) (Cs H₀:Hp) (m:Nat) (σ:St) (ρ:List Sl) (G H:Hp):Prop where
 wd:Wd PK pa m G H
 st:Stp pa Cs H₀ G H
 p0:∃ o,H₀ pa=some o
 sl:∀ (i:Nat) (s:Sl),ρ[i]?=some s->∃ o,σ[i]?=some o/\SlOk pa H₀ G H o s
 len:ρ.length=σ.length
 dj:∀ (i j:Nat) (xs ys:Cl),i≠j->ρ[i]?=some (.own xs)->ρ[j]?=some (.own ys)->σ[i]?≠σ[j]?
 dj2:∀ (i j:Nat) (xs ys:List (Int×PyData)),i≠j->ρ[i]?=some (.dic xs)->ρ[j]?=some (.dic ys)->σ[i]?≠σ[j]?
section
variable {PK:Pk} {pa:Addr} {Cs H₀ G H:Hp} {m:Nat} {σ:St} {ρ:List Sl}
theorem sS {α:Type} {l:List α} {k i:Nat} {x y:α} (h:(l.set k x)[i]?=some y) (hn:x≠y):k≠i/\l[i]?=some y:=by
 have hi:k≠i:=λe=>by
  subst e
  have hl:k < l.length:=by
   have:=(zu.mp h).1
   rwa [zR] at this
  rw [zF hl] at h
  exact hn (zJ h)
 rw [zy hi] at h
 exact ⟨hi,h⟩
theorem yx {α:Type} {T:α->Sl} {k:Nat} {x:Sl} {v:Option V} (dj:∀ (i j:Nat) (a b:α),i≠j->ρ[i]?=some (T a)->ρ[j]?=some (T b)->σ[i]?≠σ[j]?) (hn:∀ a,x≠T a) :
  ∀ (i j:Nat) (a b:α),i≠j->(ρ.set k x)[i]?=some (T a)->(ρ.set k x)[j]?=some (T b)->(σ.set k v)[i]?≠(σ.set k v)[j]?:=λi j a b hij h1 h2=>by
 obtain ⟨hi,h1⟩:=sS h1 (hn a)
 obtain ⟨hj,h2⟩:=sS h2 (hn b)
 rw [zy hi,zy hj]
 exact dj i j a b hij h1 h2
theorem rO {α:Type} {T:α->Sl} {k:Nat} {x:Sl} (dj:∀ (i j:Nat) (a b:α),i≠j->ρ[i]?=some (T a)->ρ[j]?=some (T b)->σ[i]?≠σ[j]?) (hn:∀ a,x≠T a) :
  ∀ (i j:Nat) (a b:α),i≠j->(ρ.set k x)[i]?=some (T a)->(ρ.set k x)[j]?=some (T b)->σ[i]?≠σ[j]?:=λi j a b hij h1 h2 =>
 dj i j a b hij (sS h1 (hn a)).2 (sS h2 (hn b)).2
theorem SlOk.step {G' H':Hp} {o:Option V} {s:Sl} (k:SlOk pa H₀ G H o s) (hp0:∃ o,H₀ pa=some o) (st:Stp pa G H G' H'):SlOk pa H₀ G' H' o s:=by
 cases k with
 | un=>exact .un
 | d h=>exact .d (h.mono st.gs)
 | pen=>exact .pen
 | @own p vs xs h1 h2 h3 h4 =>
  have hne:p≠pa:=λe=>by
   obtain ⟨u,hu⟩:=hp0
   rw [<- e,h3] at hu; cases hu
  refine .own (st.hk _ _ h1 hne) ?_ h3 (DnAll.mono st.gs h4)
  cases e:G' p with
  | none=>rfl
  | some u =>
   rcases st.gn p u e with z | z
   ·rw [h2] at z; cases z
   ·rw [h1] at z; cases z
 | @dic p ks kvs h1 h2 h3 h4 =>
  have hne:p≠pa:=λe=>by
   obtain ⟨u,hu⟩:=hp0
   rw [<- e,h3] at hu; cases hu
  refine .dic (st.hk _ _ h1 hne) ?_ h3 (h4.mono st.gs)
  cases e:G' p with
  | none=>rfl
  | some u =>
   rcases st.gn p u e with z | z
   ·rw [h2] at z; cases z
   ·rw [h1] at z; cases z
theorem Rl.step {G' H':Hp} {m':Nat} (r:Rl PK pa Cs H₀ m σ ρ G H) (s:Stp pa G H G' H') (w:Wd PK pa m' G' H'):Rl PK pa Cs H₀ m' σ ρ G' H' :=
 ⟨w,r.st.trans s r.wd.some,r.p0,λi sl h=>let ⟨o,h1,h2⟩:=r.sl i sl h; ⟨o,h1,h2.step r.p0 s⟩,r.len,r.dj,r.dj2⟩
theorem Rl.set (r:Rl PK pa Cs H₀ m σ ρ G H) {v:V} {x:PyData} (d:Dn G v x) (k:Nat):Rl PK pa Cs H₀ m (σ.set k (some v)) (ρ.set k (.d x)) G H:=by
 refine ⟨r.wd,r.st,r.p0,λi s h=>?_,by rw [zR,zR]; exact r.len,λi j xs ys hij h1 h2=>?_,yx r.dj2 λa h=>by cases h⟩
 ·by_cases e:k=i
  ·subst e
   have hl:k < ρ.length:=by
    have:=(zu.mp h).1
    rwa [zR] at this
   rw [zF hl] at h
   cases h
   exact ⟨_,zF (by rw [<- r.len]; exact hl),.d d⟩
  ·rw [zy e] at h ⊢
   exact r.sl i s h
 ·have hi:k≠i:=λe=>by
   subst e
   have hl:k < ρ.length:=by
    have:=(zu.mp h1).1
    rwa [zR] at this
   rw [zF hl] at h1; cases h1
  have hj:k≠j:=λe=>by
   subst e
   have hl:k < ρ.length:=by
    have:=(zu.mp h2).1
    rwa [zR] at this
   rw [zF hl] at h2; cases h2
  rw [zy hi] at h1 ⊢
  rw [zy hj] at h2 ⊢
  exact r.dj i j xs ys hij h1 h2
theorem Rl.setO (r:Rl PK pa Cs H₀ m σ ρ G H) {p:Addr} {vs:Cp} {xs:Cl} (h1:H p=some (.lst vs)) (h2:G p=none) (h3:H₀ p=none) (h4:DnAll G vs xs)
  (hd:∀ (i:Nat) (ys:Cl),ρ[i]?=some (.own ys)->σ[i]?≠some (some (.ref p))) (k:Nat):Rl PK pa Cs H₀ m (σ.set k (some (.ref p))) (ρ.set k (.own xs)) G H:=by
 have up:∀ {i:Nat} {s:Sl},(ρ.set k (.own xs))[i]?=some s->i=k->s=.own xs/\(σ.set k (some (V.ref p)))[i]?=some (some (.ref p)):=λ{i s} h e=>by
  subst e
  have hl:i < ρ.length:=by
   have:=(zu.mp h).1
   rwa [zR] at this
  rw [zF hl] at h
  cases h
  exact ⟨rfl,zF (by rw [<- r.len]; exact hl)⟩
 refine ⟨r.wd,r.st,r.p0,λi s h=>?_,by rw [zR,zR]; exact r.len,λi j ys zs hij e1 e2=>?_,yx r.dj2 λa h=>by cases h⟩
 ·by_cases e:i=k
  ·obtain ⟨e1,e2⟩:=up h e
   subst e1
   exact ⟨_,e2,.own h1 h2 h3 h4⟩
  ·rw [zy (Ne.symm e)] at h ⊢
   exact r.sl i s h
 ·by_cases ei:i=k
  ·have q:=(up e1 ei).2
   have hj:k≠j:=λe=>hij (ei.trans e)
   rw [q]
   rw [zy hj] at e2 ⊢
   exact λz=>hd j zs e2 z.symm
  ·rw [zy (Ne.symm ei)] at e1 ⊢
   by_cases ej:j=k
   ·rw [(up e2 ej).2]
    exact hd i ys e1
   ·rw [zy (Ne.symm ej)] at e2 ⊢
    exact r.dj i j ys zs hij e1 e2
theorem Rl.h0 (r:Rl PK pa Cs H₀ m σ ρ G H) {p:Addr} (hp:H p=none):H₀ p=none:=by
 cases e:H₀ p with
 | none=>rfl
 | some u =>
  by_cases hc:p=pa
  ·subst hc
   obtain ⟨o,h⟩:=r.wd.some
   rw [hp] at h; cases h
  ·rw [r.st.hk p u e hc] at hp; cases hp
theorem Rl.apart (r:Rl PK pa Cs H₀ m σ ρ G H) {p:Addr} (hp:H p=none) (i:Nat) (ys:Cl) (h:ρ[i]?=some (.own ys)):σ[i]?≠some (some (.ref p)):=λe=>by
 obtain ⟨o,h1,h2⟩:=r.sl i _ h
 rw [e] at h1
 cases h1
 cases h2 with
 | own a _ _ _=>rw [hp] at a; cases a
theorem Rl.change (r:Rl PK pa Cs H₀ m σ ρ G H) {k:Nat} {xs ys:Cl} {p:Addr} {ws:Cp} (hk:ρ[k]?=some (.own xs)) (hσ:σ[k]?=some (some (.ref p))) (d:DnAll G ws ys) :
  Rl PK pa Cs H₀ m σ (ρ.set k (.own ys)) G (upd H p (.lst ws)):=by
 obtain ⟨o,h1,h2⟩:=r.sl k _ hk
 rw [hσ] at h1
 cases h1
 cases h2 with
 | @own _ vs _ a1 a2 a3 a4 =>
  have hne:pa≠p:=λe=>by
   obtain ⟨u,hu⟩:=r.p0
   rw [e,a3] at hu; cases hu
  have hl:k < ρ.length:=(zu.mp hk).1
  refine ⟨⟨λb o h=>?_,r.wd.gpa,?_⟩,⟨r.st.gs,r.st.gn,λb o h hb=>?_⟩,r.p0,λi s h=>?_,by rw [zR]; exact r.len,λi j us ws hij e1 e2=>?_,rO r.dj2 λa h=>by cases h⟩
  ·rw [ay (λe=>by subst e; rw [a2] at h; cases h)]
   exact r.wd.sub b o h
  ·obtain ⟨u,h,q⟩:=r.wd.pen
   exact ⟨u,by rw [ay hne]; exact h,q⟩
  ·rw [ay (λe=>by subst e; rw [a3] at h; cases h)]
   exact r.st.hk b o h hb
  ·by_cases e:k=i
   ·subst e
    rw [zF hl] at h
    cases h
    exact ⟨_,hσ,.own bH a2 a3 d⟩
   ·rw [zy e] at h
    obtain ⟨o,q1,q2⟩:=r.sl i s h
    refine ⟨o,q1,?_⟩
    cases q2 with
    | un=>exact .un
    | d z=>exact .d z
    | pen=>exact .pen
    | dic b1 b2 b3 b4=>exact .dic (by rw [ay (λe2=>by subst e2; rw [a1] at b1; cases b1)]; exact b1) b2 b3 b4
    | own b1 b2 b3 b4 =>
     refine .own ?_ b2 b3 b4
     rw [ay]
     ·exact b1
     ·intro e2
      subst e2
      exact r.dj k i _ _ e hk h (by rw [hσ,q1])
  ·by_cases ei:k=i
   ·subst ei
    rw [zy hij] at e2
    exact r.dj k j _ _ hij hk e2
   ·rw [zy ei] at e1
    by_cases ej:k=j
    ·subst ej
     exact r.dj i k _ _ hij e1 hk
    ·rw [zy ej] at e2
     exact r.dj i j _ _ hij e1 e2
noncomputable def fz (k:Nat) (ρ:List Sl):List Sl:=match ρ[k]? with
 | some (.own xs)=>ρ.set k (.d (.list xs))
 | _=>ρ
theorem Rl.freeze (r:Rl PK pa Cs H₀ m σ ρ G H) (k:Nat):∃ G',Sub G G'/\Rl PK pa Cs H₀ m σ (fz k ρ) G' H:=by
 unfold fz
 split
 ·rename_i xs hk
  obtain ⟨o,h1,h2⟩:=r.sl k _ hk
  cases h2 with
  | @own p vs _ a1 a2 a3 a4 =>
   have hne:pa≠p:=λe=>by
    obtain ⟨u,hu⟩:=r.p0
    rw [e,a3] at hu; cases hu
   have hl:k < ρ.length:=(zu.mp hk).1
   have sb:Sub G (upd G p (.lst vs)):=Sub.new a2
   refine ⟨upd G p (.lst vs),sb,r.wd.freeze a1 a2 hne,⟨λb o h=>sb b o (r.st.gs b o h),λb o h=>?_,r.st.hk⟩,r.p0,λi s h=>?_,by rw [zR]; exact r.len,λi j us ws hij e1 e2=>?_,rO r.dj2 λa h=>by cases h⟩
   ·by_cases e:b=p
    ·subst e; exact .inr a3
    ·rw [ay e] at h; exact r.st.gn b o h
   ·by_cases e:k=i
    ·subst e
     rw [zF hl] at h
     cases h
     exact ⟨_,h1,.d (.lst bH (DnAll.mono sb a4))⟩
    ·rw [zy e] at h
     obtain ⟨o,q1,q2⟩:=r.sl i s h
     refine ⟨o,q1,?_⟩
     cases q2 with
     | un=>exact .un
     | d z=>exact .d (z.mono sb)
     | pen=>exact .pen
     | dic b1 b2 b3 b4=>exact .dic b1 (by rw [ay (λe2=>by subst e2; rw [a1] at b1; cases b1)]; exact b2) b3 (b4.mono sb)
     | own b1 b2 b3 b4 =>
      refine .own b1 ?_ b3 (DnAll.mono sb b4)
      rw [ay]
      ·exact b2
      ·intro e2
       subst e2
       exact r.dj k i _ _ e hk h (by rw [h1,q1])
   ·have hi:k≠i:=λe=>by subst e; rw [zF hl] at e1; cases e1
    have hj:k≠j:=λe=>by subst e; rw [zF hl] at e2; cases e2
    rw [zy hi] at e1
    rw [zy hj] at e2
    exact r.dj i j _ _ hij e1 e2
 ·exact ⟨G,λ_ _ h=>h,r⟩
end
end L2
set_option Elab.async false
set_option linter.all false
set_option maxRecDepth 100000
namespace L2
def TAe (PK:Pk) (i:List Sl->Tr PyData):TE:=λσ H Q=>∃ pa Cs H₀ m ρ G,Rl PK pa Cs H₀ m σ ρ G H/\(i ρ).ok m λm' x=>Kn PK pa m' G H x Q
def TAt (PK:Pk) (i:List Sl->Tr Bool):TT:=λσ H Q=>∃ pa Cs H₀ m ρ G,Rl PK pa Cs H₀ m σ ρ G H/\(i ρ).ok m λm' b=>∀ G' H',Stp pa G H G' H'->Wd PK pa m' G' H'->Q b H'
def TAd (PK:Pk) (i:List Sl->Tr Cl):TA:=λσ H Q=>∃ pa Cs H₀ m ρ G,Rl PK pa Cs H₀ m σ ρ G H/\(i ρ).ok m λm' xs=>∀ vs G' H',Stp pa G H G' H'->Wd PK pa m' G' H'->DnAll G' vs xs->Q vs H'
def Ko1 (PK:Pk) (pa:Addr) (m:Nat) (G H:Hp) (xs:Cl) (Q:VK):Prop:=∀ p vs G' H',Stp pa G H G' H'->Wd PK pa m G' H'->H p=none->G' p=none->H' p=some (.lst vs)->DnAll G' vs xs->Q (.ref p) H'
def ff (PK:Pk) (i:List Sl->Tr Cl):TE:=λσ H Q=>∃ pa Cs H₀ m ρ G,Rl PK pa Cs H₀ m σ ρ G H/\(i ρ).ok m λm' xs=>Ko1 PK pa m' G H xs Q
inductive ArOk (pa:Addr) (G:Hp):V->Sl->Prop
 | d {v:V} {x:PyData}:Dn G v x->ArOk pa G v (.d x)
 | pen:ArOk pa G (.ref pa) .pen
inductive ArsOk (pa:Addr) (G:Hp):List V->List Sl->Prop
 | nil:ArsOk pa G [] []
 | cons {v:V} {vs:Cp} {s:Sl} {ss:List Sl}:ArOk pa G v s->ArsOk pa G vs ss->ArsOk pa G (v::vs) (s::ss)
theorem ArsOk.length {pa:Addr} {G:Hp} {vs:Cp} {ss:List Sl} (h:ArsOk pa G vs ss):vs.length=ss.length:=by
 induction h with
 | nil=>rfl
 | cons h t ih=>exact congrArg (·+1) ih
def TAa (PK:Pk) (i:List Sl->Tr (List Sl)):TA:=λσ H Q=>∃ pa Cs H₀ m ρ G,Rl PK pa Cs H₀ m σ ρ G H/\(i ρ).ok m λm' as=>∀ vs G' H',Stp pa G H G' H'->Wd PK pa m' G' H'->ArsOk pa G' vs as->Q vs H'
inductive Re where
 | d (x:PyData) | own (xs:Cl)
noncomputable def Re.val:Re->PyData
 | .d x=>x
 | .own xs=>.list xs
@[simp] theorem Re.val_d (x:PyData):(Re.d x).val=x:=rfl
@[simp] theorem Re.val_own (xs:Cl):(Re.own xs).val=.list xs:=rfl
inductive Ou where
 | next (ρ:List Sl) | ret (r:Re) | brk (ρ:List Sl) | cont (ρ:List Sl)
abbrev Cc:=List Sl->Tr PyData
abbrev Cd:=List Sl->Tr (List PyData)
abbrev Ce:=List Sl->Tr Bool
abbrev Cf:=List Sl->Tr Ou
abbrev Cg:=List Sl->Tr Re
abbrev Ch:=List PyData->List Sl->Option (List Sl)
abbrev Ci:=PyData->List Sl->Option (List Sl)
abbrev Cr:=List Sl
noncomputable def ZmN (H₀ G H:Hp) (v:V):Re->Prop
 | .d x=>Dn G v x
 | .own xs=>∃ p vs,v=.ref p/\H p=some (.lst vs)/\G p=none/\H₀ p=none/\DnAll G vs xs
def Kr (PK:Pk) (pa:Addr) (m:Nat) (Cs H₀:Hp) (r:Re) (Q:VK):Prop:=∀ v G H,Stp pa Cs H₀ G H->Wd PK pa m G H->ZmN H₀ G H v r->Q v H
noncomputable def Ko (PK:Pk) (pa:Addr) (Cs H₀ Gs:Hp) (D:Ends) (m:Nat):Ou->Prop
 | .next ρ=>∀ σ G H,Sub Gs G->Rl PK pa Cs H₀ m σ ρ G H->D.nx σ H
 | .ret r=>Kr PK pa m Cs H₀ r D.rt
 | .brk ρ=>∀ σ G H,Sub Gs G->Rl PK pa Cs H₀ m σ ρ G H->D.bk σ H
 | .cont ρ=>∀ σ G H,Sub Gs G->Rl PK pa Cs H₀ m σ ρ G H->D.ct σ H
def br (PK:Pk) (i:Cf):TS:=λD σ H=>∃ pa Cs H₀ m ρ G,Rl PK pa Cs H₀ m σ ρ G H/\(i ρ).ok m (Ko PK pa Cs H₀ G D)
theorem PE.imp {X:Cx} {e:Expr} {t t':TE} (h:PE X e t) (q:∀ σ H Q,t' σ H Q->t σ H Q):PE X e t':=λpins s σ H Q I z=>h pins s σ H Q I (q σ H Q z)
theorem PT.imp {X:Cx} {e:Expr} {t t':TT} (h:PT X e t) (q:∀ σ H Q,t' σ H Q->t σ H Q):PT X e t':=λpins s σ H Q I z=>h pins s σ H Q I (q σ H Q z)
theorem PW.imp {X:Cx} {e:Expr} {t t':TT} (h:PW X e t) (q:∀ σ H Q,t' σ H Q->t σ H Q):PW X e t':=λwh pins s σ H Q I z=>h wh pins s σ H Q I (q σ H Q z)
theorem PA.imp {X:Cx} {e:List Expr} {t t':TA} (h:PA X e t) (q:∀ σ H Q,t' σ H Q->t σ H Q):PA X e t':=λpos pins s σ H Q I z=>h pos pins s σ H Q I (q σ H Q z)
theorem PS.imp {X:Cx} {e:Stmt} {t t':TS} (h:PS X e t) (q:∀ D σ H,t' D σ H->t D σ H):PS X e t':=λpins s σ H D I z=>h pins s σ H D I (q D σ H z)
theorem PSs.imp {X:Cx} {e:List Stmt} {t t':TS} (h:PSs X e t) (q:∀ D σ H,t' D σ H->t D σ H):PSs X e t':=λpins s σ H D I z=>h pins s σ H D I (q D σ H z)
variable {PK:Pk} {X:Cx} {a b c e:Expr} {es:List Expr} {pos:Pos} {i j l:Cc}
theorem TAe.then {σ:St} {H:Hp} {β:Type} {k:PyData->Tr β} {Z:Nat->β->Prop} {Q:VK} {pa:Addr} {Cs H₀ G:Hp} {m:Nat} {ρ:Cr} (R:Rl PK pa Cs H₀ m σ ρ G H) (h:((i ρ).bind k).ok m Z)
  (hq:∀ m1 x v G1 H1,Stp pa G H G1 H1->Wd PK pa m1 G1 H1->Rl PK pa Cs H₀ m1 σ ρ G1 H1->Dn G1 v x->(k x).ok m1 Z->Q v H1):TAe PK i σ H Q:=by
 refine ⟨pa,Cs,H₀,m,ρ,G,R,Tr.ok_mono (Tr.ok_bind.mp h) λm1 x hx v G1 H1 s1 w1 d1=>?_⟩
 exact hq m1 x v G1 H1 s1 w1 (R.step s1 w1) d1 hx
noncomputable def aa (k:Nat):Cc:=λρ=>match ρ[k]? with
 | some (.d x)=>.ret x
 | _=>.fail
noncomputable def aC (d:PyData):Cc:=λ_=>.ret d
theorem ac {k:Nat} (h:PE X e (eD k)):PE X e (TAe PK (aa k)):=h.imp λσ H Q hz0=>by
 obtain ⟨pa,Cs,H₀,m,ρ,G,R,q⟩:=hz0
 unfold aa at q
 split at q
 ·rename_i x hx
  obtain ⟨o,h1,h2⟩:=R.sl k _ hx
  cases h2 with
  | d z=>exact ⟨_,h1,Kn.here q R.wd z⟩
 ·exact q.elim
theorem yU {v:V} {d:PyData} (h:PE X e (tC v)) (hd:∀ G,Dn G v d):PE X e (TAe PK (aC d)):=h.imp λσ H Q hz0=>by
 obtain ⟨pa,Cs,H₀,m,ρ,G,R,q⟩:=hz0
 exact Kn.here q R.wd (hd G)
theorem ak {n:Int} {k pos}:PE X (.Constant (.int n) k pos) (TAe PK (aC (.int n))):=yU bS λ_=>.int n
theorem qa {n:Bool} {k pos}:PE X (.Constant (.bool n) k pos) (TAe PK (aC (.bool n))):=yU Zci λ_=>.bl n
theorem d7 {x:Str} {n:Int} (hg:Gl X x) (h:∃ t,X.mg x=some (.int n t)) (hd:(x == ("__debug__":Str))=false:=by decide):PE X (.Name x pos) (TAe PK (aC (.int n))):=yU (ZhL hg h hd) λ_=>.int n
def dg (r:R2) (f:Cj):Prop:=∀ (PK:Pk) (pa:Addr) (m:Nat) (G H:Hp) (x y:V) (dx dy dz:PyData) (Q:VK),Wd PK pa m G H->Dn G x dx->Dn G y dy->f dx dy=some dz->Kn PK pa m G H dz Q->r x y H Q
noncomputable def ae (f:Cj) (i j:Cc):Cc:=λρ=>(i ρ).bind λx=>(j ρ).bind λy=>Tr.of (f x y)
theorem vO {r:R2} {f:Cj} (hv:dg r f):∀ σ H Q,TAe PK (ae f i j) σ H Q->iJ r (TAe PK i) (TAe PK j) σ H Q:=by
 rintro σ H Q ⟨pa,Cs,H₀,m,ρ,G,R,q⟩
 refine TAe.then R q λm1 x v G1 H1 s1 w1 R1 d1 q1=>?_
 refine TAe.then R1 q1 λm2 y u G2 H2 s2 w2 R2 d2 q2=>?_
 obtain ⟨z,hz,k⟩:=Tr.ok_of q2
 exact hv PK pa m2 G2 H2 v u x y z Q w2 (d1.mono s2.gs) d2 hz (Kn.later k (s1.trans s2 w1.some) w2.some)
theorem al {op:Operator} {r:R2} {f:Cj} (ho:OpR X (binaryOp op) r) (hv:dg r f) (ha:PE X a (TAe PK i)) (hb:PE X b (TAe PK j)):PE X (.BinOp a op b pos) (TAe PK (ae f i j)) :=
 (cw ho ha hb).imp (vO hv)
theorem Ze7 {op:CmpOp} {r:R2} {f:Cj} (ho:OpR X (compareOp op) r) (hv:dg r f) (ha:PE X a (TAe PK i)) (hb:PE X b (TAe PK j)) (hm:behindInMarks op b=false):PE X (.Compare a [op] [b] pos) (TAe PK (ae f i j)) :=
 (ZhN ho ha hb hm).imp (vO hv)
theorem bh {r:R2} {f:Cj} (hr:IxR X r) (hv:dg r f) (ha:PE X a (TAe PK i)) (hb:PE X b (TAe PK j)) (hs:zb b):PE X (.Subscript a b pos) (TAe PK (ae f i j)) :=
 (ft hr ha hb hs).imp (vO hv)
noncomputable def qo:PyData->Option Bool
 | .bool b=>some b
 | _=>none
@[simp] theorem Zne (b:Bool):qo (.bool b)=some b:=rfl
noncomputable def bX (i:Cc):Ce:=λρ=>(i ρ).bind λx=>Tr.of (qo x)
theorem Zms:∀ σ H Q,TAt PK (bX i) σ H Q->sN (TAe PK i) σ H Q:=by
 rintro σ H Q ⟨pa,Cs,H₀,m,ρ,G,R,q⟩
 refine TAe.then R q λm1 x v G1 H1 s1 w1 R1 d1 q1=>?_
 obtain ⟨b,hb,k⟩:=Tr.ok_of q1
 cases d1 <;> simp only [qo] at hb <;> cases hb
 exact ⟨_,rfl,k G1 H1 s1 w1⟩
theorem ZfV {t t':TE} (h:∀ σ H Q,t' σ H Q->t σ H Q):∀ σ H Q,sN t' σ H Q->sN t σ H Q:=λσ H Q z=>h σ H _ z
theorem cW {op:CmpOp} {r:R2} {f:Cj} (ho:OpR X (compareOp op) r) (hv:dg r f) (ha:PE X a (TAe PK i)) (hb:PE X b (TAe PK j)) (hm:behindInMarks op b=false):PT X (.Compare a [op] [b] pos) (TAt PK (bX (ae f i j))) :=
 (qS ho ha hb hm).imp λσ H Q z=>ZfV (vO hv) σ H Q (Zms σ H Q z)
noncomputable def Zax:PyData->Option Bool
 | .bool b=>some b
 | .int n=>some (n != 0)
 | .none=>some false
 | .list xs=>some (!xs.isEmpty)
 | .tuple xs=>some (!xs.isEmpty)
 | _=>none
noncomputable def qc (i:Cc):Ce:=λρ=>(i ρ).bind λx=>Tr.of (Zax x)
theorem DnAll.isEmpty {H:Hp} {vs:Cp} {ds:Cl} (h:DnAll H vs ds):vs.isEmpty=ds.isEmpty:=by
 cases h <;> rfl
theorem vC (h:PE X e (TAe PK i)) (he:∀ whole,isTrue e X.env whole=(do let v <- whole; standAt e.pos; holding [v] (truthy v)):=by intro _; rfl):PT X e (TAt PK (qc i)):=(Zhj h he).imp λσ H Q hz0=>by
 obtain ⟨pa,Cs,H₀,m,ρ,G,R,q⟩:=hz0
 refine TAe.then R q λm1 x v G1 H1 s1 w1 R1 d1 q1=>?_
 obtain ⟨b,hb,k⟩:=Tr.ok_of q1
 have fin:=k G1 H1 s1 w1
 cases d1 with
 | non=>cases hb; exact ⟨_,rfl,fin⟩
 | bl b=>cases hb; exact ⟨_,rfl,fin⟩
 | int n=>cases hb; exact ⟨_,rfl,fin⟩
 | str _=>cases hb
 | tup h1 h2=>cases hb; exact ⟨_,.inr (.inl ⟨_,SqT.of (w1.sub _ _ h1),rfl⟩),by rw [h2.isEmpty]; exact fin⟩
 | lst h1 h2=>cases hb; exact ⟨_,.inl ⟨_,SqL.of (w1.sub _ _ h1),rfl⟩,by rw [h2.isEmpty]; exact fin⟩
 | dct _ _=>cases hb
noncomputable def vQ (i j:Ce):Ce:=λρ=>(i ρ).bind λx=>if x=true then j ρ else .ret false
noncomputable def yZ (i j:Ce):Ce:=λρ=>(i ρ).bind λx=>if x=true then .ret true else j ρ
noncomputable def si (i:Ce):Ce:=λρ=>(i ρ).bind λx=>.ret (!x)
variable {p q:Ce} {rest:List Expr}
theorem TAt.then {σ:St} {H:Hp} {β:Type} {k:Bool->Tr β} {Z:Nat->β->Prop} {Q:Bool->Hp->Prop} {pa:Addr} {Cs H₀ G:Hp} {m:Nat} {ρ:Cr} (R:Rl PK pa Cs H₀ m σ ρ G H) (h:((p ρ).bind k).ok m Z)
  (hq:∀ m1 x G1 H1,Stp pa G H G1 H1->Wd PK pa m1 G1 H1->Rl PK pa Cs H₀ m1 σ ρ G1 H1->(k x).ok m1 Z->Q x H1):TAt PK p σ H Q:=by
 refine ⟨pa,Cs,H₀,m,ρ,G,R,Tr.ok_mono (Tr.ok_bind.mp h) λm1 x hx G1 H1 s1 w1=>?_⟩
 exact hq m1 x G1 H1 s1 w1 (R.step s1 w1) hx
theorem ZeP {Cs H₀ G H G1 H1:Hp} {m:Nat} {σ:St} {ρ:Cr} {pa:Addr} {Q:Bool->Hp->Prop} (R1:Rl PK pa Cs H₀ m σ ρ G1 H1) (s1:Stp pa G H G1 H1) (h:(q ρ).ok m λm' b=>∀ G' H',Stp pa G H G' H'->Wd PK pa m' G' H'->Q b H'):TAt PK q σ H1 Q :=
 ⟨pa,Cs,H₀,m,ρ,G1,R1,Tr.ok_mono h λm2 b k G2 H2 s2 w2=>k G2 H2 (s1.trans s2 R1.wd.some) w2⟩
theorem Ze5 {Cs H₀ G H G1 H1:Hp} {m:Nat} {σ:St} {ρ:Cr} {pa:Addr} {Q:VK} (R1:Rl PK pa Cs H₀ m σ ρ G1 H1) (s1:Stp pa G H G1 H1) (h:(i ρ).ok m λm' x=>Kn PK pa m' G H x Q):TAe PK i σ H1 Q :=
 ⟨pa,Cs,H₀,m,ρ,G1,R1,Tr.ok_mono h λm2 b k=>Kn.later k s1 R1.wd.some⟩
theorem ZeM (ha:PT X a (TAt PK p)):PW X (.BoolOp .And [a] pos) (TAt PK p):=Zb4 ha
theorem ZlW (ha:PT X a (TAt PK p)):PW X (.BoolOp .Or [a] pos) (TAt PK p):=Zhf ha
theorem ZeN (ha:PT X a (TAt PK p)) (hb:PW X (.BoolOp .And (b::rest) pos) (TAt PK q)):PW X (.BoolOp .And (a::b::rest) pos) (TAt PK (vQ p q)):=(Zb5 ha hb).imp λσ H Q hz0=>by
 obtain ⟨pa,Cs,H₀,m,ρ,G,R,z⟩:=hz0
 refine TAt.then R z λm1 x G1 H1 s1 w1 R1 q1=>?_
 cases x with
 | true=>rw [if_pos rfl] at q1 ⊢; exact ZeP R1 s1 q1
 | false=>rw [if_neg zC] at q1 ⊢; exact q1 G1 H1 s1 w1
theorem ZlX (ha:PT X a (TAt PK p)) (hb:PW X (.BoolOp .Or (b::rest) pos) (TAt PK q)):PW X (.BoolOp .Or (a::b::rest) pos) (TAt PK (yZ p q)):=(Zhg ha hb).imp λσ H Q hz0=>by
 obtain ⟨pa,Cs,H₀,m,ρ,G,R,z⟩:=hz0
 refine TAt.then R z λm1 x G1 H1 s1 w1 R1 q1=>?_
 cases x with
 | true=>rw [if_pos rfl] at q1 ⊢; exact q1 G1 H1 s1 w1
 | false=>rw [if_neg zC] at q1 ⊢; exact ZeP R1 s1 q1
theorem yL (h:PW X e (TAt PK p)):PT X e (TAt PK p):=h.pt
theorem yM (ha:PT X a (TAt PK p)):PT X (.UnaryOp .Not a pos) (TAt PK (si p)):=(Zhk ha).imp λσ H Q hz0=>by
 obtain ⟨pa,Cs,H₀,m,ρ,G,R,z⟩:=hz0
 refine TAt.then R z λm1 x G1 H1 s1 w1 R1 q1=>?_
 exact q1 G1 H1 s1 w1
noncomputable def ZmL (i j:Cc):Cc:=λρ=>(bX i ρ).bind λx=>if x=true then j ρ else .ret (.bool false)
noncomputable def Zmx (i j:Cc):Cc:=λρ=>(bX i ρ).bind λx=>if x=true then .ret (.bool true) else j ρ
noncomputable def Zmy (i:Cc):Cc:=λρ=>(bX i ρ).bind λx=>.ret (.bool (!x))
noncomputable def y4 (p:Ce) (i j:Cc):Cc:=λρ=>(p ρ).bind λx=>if x=true then i ρ else j ρ
theorem Zmj (hc:PT X c (TAt PK p)) (ha:PE X a (TAe PK i)) (hb:PE X b (TAe PK j)):PE X (.IfExp c a b pos) (TAe PK (y4 p i j)):=(ZhK hc ha hb).imp λσ H Q hz0=>by
 obtain ⟨pa,Cs,H₀,m,ρ,G,R,z⟩:=hz0
 refine TAt.then R z λm1 x G1 H1 s1 w1 R1 q1=>?_
 cases x with
 | true=>rw [if_pos rfl] at q1 ⊢; exact Ze5 R1 s1 q1
 | false=>rw [if_neg zC] at q1 ⊢; exact Ze5 R1 s1 q1
variable {is:Cd}
noncomputable def am:Cd:=λ_=>.ret []
noncomputable def ag (i:Cc) (is:Cd):Cd:=λρ=>(i ρ).bind λx=>(is ρ).bind λxs=>.ret (x::xs)
theorem ao:PA X [] (TAd PK am):=cz.imp λσ H Q hz0=>by
 obtain ⟨pa,Cs,H₀,m,ρ,G,R,z⟩:=hz0
 exact z [] G H .refl R.wd .nil
theorem TAd.then {σ:St} {H:Hp} {β:Type} {k:List PyData->Tr β} {Z:Nat->β->Prop} {Q:List V->Hp->Prop} {pa:Addr} {Cs H₀ G:Hp} {m:Nat} {ρ:Cr} (R:Rl PK pa Cs H₀ m σ ρ G H) (h:((is ρ).bind k).ok m Z)
  (hq:∀ m1 xs vs G1 H1,Stp pa G H G1 H1->Wd PK pa m1 G1 H1->Rl PK pa Cs H₀ m1 σ ρ G1 H1->DnAll G1 vs xs->(k xs).ok m1 Z->Q vs H1):TAd PK is σ H Q:=by
 refine ⟨pa,Cs,H₀,m,ρ,G,R,Tr.ok_mono (Tr.ok_bind.mp h) λm1 x hx v G1 H1 s1 w1 d1=>?_⟩
 exact hq m1 x v G1 H1 s1 w1 (R.step s1 w1) d1 hx
theorem ai (ha:PE X e (TAe PK i)) (hr:PA X es (TAd PK is)) (hs:starEach (e::es) X.env=(false,eval e X.env)::starEach es X.env:=by rfl):PA X (e::es) (TAd PK (ag i is)):=(bG ha hr hs).imp λσ H Q hz0=>by
 obtain ⟨pa,Cs,H₀,m,ρ,G,R,z⟩:=hz0
 refine TAe.then R z λm1 x v G1 H1 s1 w1 R1 d1 q1=>?_
 refine TAd.then R1 q1 λm2 xs vs G2 H2 s2 w2 R2 d2 q2=>?_
 exact q2 _ _ _ (s1.trans s2 w1.some) w2 (.cons (d1.mono s2.gs) d2)
noncomputable def small (n:Nat):Bool:=decide (n<=sizeLine)
noncomputable def bR (is:Cd):Cc:=λρ=>(is ρ).bind λxs=>if small xs.length=true then .ret (.tuple xs) else .fail
noncomputable def cb (is:Cd):Cc:=λρ=>(is ρ).bind λxs=>.ret (.list xs)
noncomputable def di (is:Cd):Cd:=λρ=>(is ρ).bind λxs=>if small xs.length=true then .ret xs else .fail
theorem dS {α:Type} {c:Bool} {t:Tr α} {m:Nat} {Q:Nat->α->Prop} (h:(if c=true then t else .fail).ok m Q):c=true/\t.ok m Q:=by
 cases c with
 | true=>exact ⟨rfl,h⟩
 | false=>exact h.elim
theorem bV {x1} (h:PA X es (TAd PK is)):PE X (.Tuple es x1 pos) (TAe PK (bR is)):=(Zcc h).imp λσ H Q hz0=>by
 obtain ⟨pa,Cs,H₀,m,ρ,G,R,z⟩:=hz0
 refine TAd.then R z λm1 xs vs G1 H1 s1 w1 R1 d1 q1=>?_
 obtain ⟨hs,k⟩:=dS q1
 exact ⟨by rw [d1.length]; exact of_decide_eq_true hs,λp hp=>(Kn.later k s1 w1.some).tup w1 d1 hp⟩
theorem Ko1.new {pa:Addr} {m:Nat} {G H:Hp} {xs:Cl} {vs:Cp} {Q:VK} {p:Addr} (k:Ko1 PK pa m G H xs Q) (w:Wd PK pa m G H) (d:DnAll G vs xs) (hp:H p=none):Q (.ref p) (upd H p (.lst vs)):=by
 obtain ⟨w1,s1⟩:=w.own (o:=.lst vs) hp
 exact k p vs G _ s1 w1 hp (w.gnone hp) bH d
theorem Ko1.later {pa:Addr} {m:Nat} {G H G1 H1:Hp} {xs:Cl} {Q:VK} (k:Ko1 PK pa m G H xs Q) (s:Stp pa G H G1 H1) (hp:∃ o,H1 pa=some o):Ko1 PK pa m G1 H1 xs Q:=λp vs G' H' s' w' h1 h2 h3 h4=>by
 refine k p vs G' H' (s.trans s' hp) w' ?_ h2 h3 h4
 cases e:H p with
 | none=>rfl
 | some u =>
  by_cases hc:p=pa
  ·subst hc
   obtain ⟨o,z⟩:=hp
   rw [h1] at z; cases z
  ·rw [s.hk p u e hc] at h1; cases h1
theorem dM (h:PA X es (TAd PK is)):PE X (.List es pos) (ff PK (di is)):=(Zce h).imp λσ H Q hz0=>by
 obtain ⟨pa,Cs,H₀,m,ρ,G,R,z⟩:=hz0
 refine TAd.then R z λm1 xs vs G1 H1 s1 w1 R1 d1 q1=>?_
 obtain ⟨hs,k⟩:=dS q1
 exact ⟨by rw [d1.length]; exact of_decide_eq_true hs,λp hp=>(Ko1.later k s1 w1.some).new w1 d1 hp⟩
theorem Ko1.of {pa:Addr} {m:Nat} {G H:Hp} {xs:Cl} {Q:VK} (k:Kn PK pa m G H (.list xs) Q) (hp:∃ o,H pa=some o):Ko1 PK pa m G H xs Q:=λp vs G' H' s w h1 h2 h3 h4=>by
 have hne:pa≠p:=λe=>by
  obtain ⟨o,z⟩:=hp
  rw [e,h1] at z; cases z
 have sb:Sub G' (upd G' p (.lst vs)):=Sub.new h2
 refine k _ (upd G' p (.lst vs)) H' ⟨λb o h=>sb b o (s.gs b o h),λb o h=>?_,s.hk⟩ (w.freeze h3 h2 hne) (.lst bH (DnAll.mono sb h4))
 by_cases e:b=p
 ·subst e; exact .inr h1
 ·rw [ay e] at h; exact s.gn b o h
theorem cI (h:PE X e (ff PK is)):PE X e (TAe PK (cb is)):=h.imp λσ H Q hz0=>by
 obtain ⟨pa,Cs,H₀,m,ρ,G,R,z⟩:=hz0
 refine ⟨pa,Cs,H₀,m,ρ,G,R,Tr.ok_mono (Tr.ok_bind.mp z) λm1 xs k=>Ko1.of k R.wd.some⟩
def eO (r:List V->Hp->VK->Prop) (f:List PyData->Option PyData):Prop:=∀ (PK:Pk) (pa:Addr) (m:Nat) (G H:Hp) (vs:Cp) (ds:Cl) (d:PyData) (Q:VK),Wd PK pa m G H->DnAll G vs ds->f ds=some d->Kn PK pa m G H d Q->r vs H Q
def y8 (r:List V->Hp->VK->Prop) (f:List PyData->Option Cl):Prop:=∀ (PK:Pk) (pa:Addr) (m:Nat) (G H:Hp) (vs:Cp) (ds:Cl) (d:Cl) (Q:VK),Wd PK pa m G H->DnAll G vs ds->f ds=some d->Ko1 PK pa m G H d Q->r vs H Q
noncomputable def bi (f:List PyData->Option PyData) (is:Cd):Cc:=λρ=>(is ρ).bind λxs=>Tr.of (f xs)
noncomputable def vN (f:List PyData->Option Cl) (is:Cd):Cd:=λρ=>(is ρ).bind λxs=>Tr.of (f xs)
theorem ZmH {r:List V->Hp->VK->Prop} {f:List PyData->Option PyData} (hv:eO r f):∀ σ H Q,TAe PK (bi f is) σ H Q->gP r (TAd PK is) σ H Q:=by
 rintro σ H Q ⟨pa,Cs,H₀,m,ρ,G,R,z⟩
 refine TAd.then R z λm1 xs vs G1 H1 s1 w1 R1 d1 q1=>?_
 obtain ⟨d,hd,k⟩:=Tr.ok_of q1
 exact hv PK pa m1 G1 H1 vs xs d Q w1 d1 hd (Kn.later k s1 w1.some)
theorem ZmG {r:List V->Hp->VK->Prop} {f:List PyData->Option Cl} (hv:y8 r f):∀ σ H Q,ff PK (vN f is) σ H Q->gP r (TAd PK is) σ H Q:=by
 rintro σ H Q ⟨pa,Cs,H₀,m,ρ,G,R,z⟩
 refine TAd.then R z λm1 xs vs G1 H1 s1 w1 R1 d1 q1=>?_
 obtain ⟨d,hd,k⟩:=Tr.ok_of q1
 exact hv PK pa m1 G1 H1 vs xs d Q w1 d1 hd (Ko1.later k s1 w1.some)
theorem bq {t:TA} {r:List V->Hp->VK->Prop} {f:List PyData->Option PyData} (h:PE X e (gP r (TAd PK is))) (hv:eO r f):PE X e (TAe PK (bi f is)):=h.imp (ZmH hv)
theorem Zma {t:TA} {r:List V->Hp->VK->Prop} {f:List PyData->Option Cl} (h:PE X e (gP r (TAd PK is))) (hv:y8 r f):PE X e (ff PK (vN f is)):=h.imp (ZmG hv)
variable {as:List Sl->Tr Cr}
noncomputable def az:List Sl->Tr Cr:=λ_=>.ret []
noncomputable def af (i:Cc) (as:List Sl->Tr Cr):List Sl->Tr Cr:=λρ=>(i ρ).bind λx=>(as ρ).bind λxs=>.ret (.d x::xs)
noncomputable def b5 (k:Nat) (as:List Sl->Tr Cr):List Sl->Tr Cr:=λρ=>match ρ[k]? with
 | some .pen=>(as ρ).bind λxs=>.ret (.pen::xs)
 | _=>.fail
theorem aB:PA X [] (TAa PK az):=cz.imp λσ H Q hz0=>by
 obtain ⟨pa,Cs,H₀,m,ρ,G,R,z⟩:=hz0
 exact z [] G H .refl R.wd .nil
theorem TAa.then {σ:St} {H:Hp} {β:Type} {k:List Sl->Tr β} {Z:Nat->β->Prop} {Q:List V->Hp->Prop} {pa:Addr} {Cs H₀ G:Hp} {m:Nat} {ρ:Cr} (R:Rl PK pa Cs H₀ m σ ρ G H) (h:((as ρ).bind k).ok m Z)
  (hq:∀ m1 xs vs G1 H1,Stp pa G H G1 H1->Wd PK pa m1 G1 H1->Rl PK pa Cs H₀ m1 σ ρ G1 H1->ArsOk pa G1 vs xs->(k xs).ok m1 Z->Q vs H1):TAa PK as σ H Q:=by
 refine ⟨pa,Cs,H₀,m,ρ,G,R,Tr.ok_mono (Tr.ok_bind.mp h) λm1 x hx v G1 H1 s1 w1 d1=>?_⟩
 exact hq m1 x v G1 H1 s1 w1 (R.step s1 w1) d1 hx
theorem ah (ha:PE X e (TAe PK i)) (hr:PA X es (TAa PK as)) (hs:starEach (e::es) X.env=(false,eval e X.env)::starEach es X.env:=by rfl):PA X (e::es) (TAa PK (af i as)):=(bG ha hr hs).imp λσ H Q hz0=>by
 obtain ⟨pa,Cs,H₀,m,ρ,G,R,z⟩:=hz0
 refine TAe.then R z λm1 x v G1 H1 s1 w1 R1 d1 q1=>?_
 refine TAa.then R1 q1 λm2 xs vs G2 H2 s2 w2 R2 d2 q2=>?_
 exact q2 _ _ _ (s1.trans s2 w1.some) w2 (.cons (.d (d1.mono s2.gs)) d2)
theorem cq {k:Nat} (ha:PE X e (eD k)) (hr:PA X es (TAa PK as)) (hs:starEach (e::es) X.env=(false,eval e X.env)::starEach es X.env:=by rfl):PA X (e::es) (TAa PK (b5 k as)):=(bG ha hr hs).imp λσ H Q hz0=>by
 obtain ⟨pa,Cs,H₀,m,ρ,G,R,z⟩:=hz0
 unfold b5 at z
 split at z
 ·rename_i hk
  obtain ⟨o,h1,h2⟩:=R.sl k _ hk
  cases h2
  refine ⟨_,h1,?_⟩
  refine TAa.then R z λm2 xs vs G2 H2 s2 w2 R2 d2 q2=>?_
  exact q2 _ _ _ s2 w2 (.cons .pen d2)
 ·exact z.elim
def aSp (PK:Pk) (n:Nat) (f:Cg):Sp:=λvs H Q _=>vs.length=n/\∃ pa m G as,Wd PK pa m G H/\ArsOk pa G vs as/\(f as).ok m λm' r=>Kr PK pa m' G H r Q
noncomputable def aA (f:Cg) (as:List Sl->Tr Cr):Cg:=λρ=>(as ρ).bind f
noncomputable def aE (f:Cg):Cc:=λρ=>(f ρ).bind λr=>.ret r.val
def za (PK:Pk) (i:Cg):TE:=λσ H Q=>∃ pa Cs H₀ m ρ G,Rl PK pa Cs H₀ m σ ρ G H/\(i ρ).ok m λm' r=>Kr PK pa m' G H r Q
theorem Kr.later {pa:Addr} {m:Nat} {G H G1 H1:Hp} {r:Re} {Q:VK} (k:Kr PK pa m G H r Q) (s:Stp pa G H G1 H1) (hp:∃ o,H1 pa=some o):Kr PK pa m G1 H1 r Q:=λv G' H' s' w' d=>by
 refine k v G' H' (s.trans s' hp) w' ?_
 cases r with
 | d x=>exact d
 | own xs =>
  obtain ⟨p,vs,e,h1,h2,h3,h4⟩:=d
  refine ⟨p,vs,e,h1,h2,?_,h4⟩
  cases e:H p with
  | none=>rfl
  | some u =>
   by_cases hc:p=pa
   ·subst hc
    obtain ⟨o,z⟩:=hp
    rw [h3] at z; cases z
   ·rw [s.hk p u e hc] at h3; cases h3
theorem Kr.of {pa:Addr} {m:Nat} {G H:Hp} {r:Re} {Q:VK} (k:Kn PK pa m G H r.val Q) (hp:∃ o,H pa=some o):Kr PK pa m G H r Q:=λv G' H' s w d=>by
 cases r with
 | d x=>exact k v G' H' s w d
 | own xs =>
  obtain ⟨p,vs,rfl,h1,h2,h3,h4⟩:=d
  exact Ko1.of k hp p vs G' H' s w h3 h2 h1 h4
theorem aI {f:Cg} (h:PE X e (za PK f)):PE X e (TAe PK (aE f)):=h.imp (by
 intro σ H Q z
 obtain ⟨pa,Cs,H₀,m,ρ,G,R,z⟩:=z
 exact ⟨pa,Cs,H₀,m,ρ,G,R,Tr.ok_mono (Tr.ok_bind.mp z) λm1 r k=>Kr.of k R.wd.some⟩)
structure ACal (PK:Pk) (P:Program) (w:World) (K:Cb) (mg:Cq) (base:Heap) (x:Str) (k:Nat) (ps:Co) (f:Cg):Prop where
 cal:Callee P w K mg base x k ps (aSp PK ps.length f)
 len:∀ as m Z,(f as).ok m Z->as.length=ps.length
theorem aH {x:Str} {k:Nat} {ps:Co} {f:Cg} {pp:Pos} (C:ACal PK X.prog X.w X.K X.mg X.base x k ps f) (hr:Room k X.A) (hg:Gl X x) (ha:PA X (e::es) (TAa PK as))
  (hdb:(x == ("__debug__":Str))=false:=by decide)
  (he:starEach (e::es) X.env=(false,eval e X.env)::starEach es X.env:=by rfl) (hpl:(backTo pos (starEach es X.env)).any (·.1)=false:=by rfl):PE X (.Call (.Name x pp) (e::es) [] pos) (za PK (aA f as)) :=
 (Zcg C.cal hr hg ha hdb he hpl).imp λσ H Q hz0=>by
  obtain ⟨pa,Cs,H₀,m,ρ,G,R,z⟩:=hz0
  refine TAa.then R z λm1 xs vs G1 H1 s1 w1 R1 d1 q1=>?_
  show aSp PK ps.length f (vs++[]) H1 Q E0
  rw [zN]
  exact ⟨by rw [d1.length]; exact C.len _ _ _ q1,pa,m1,G1,xs,w1,d1,Tr.ok_mono q1 λm2 r k=>Kr.later k s1 w1.some⟩
end L2
set_option Elab.async false
set_option linter.all false
set_option maxRecDepth 100000
namespace L2
variable {PK:Pk} {X:Cx} {a b c e:Expr} {es:List Expr} {pos:Pos} {i j l:Cc} {is:Cd} {as:List Sl->Tr Cr} {f:Cg} {p q:Ce} {st:Stmt} {sts:List Stmt} {s t u:Cf}
noncomputable def aq (s t:Cf):Cf:=λρ=>(s ρ).bind λo=>match o with
 | .next ρ'=>t ρ'
 | o=>.ret o
noncomputable def d8:Cf:=λρ=>.ret (.next ρ)
theorem Ko.later {pa:Addr} {Cs H₀ Gs G:Hp} {D:Ends} {m:Nat} {o:Ou} (k:Ko PK pa Cs H₀ Gs D m o) (sb:Sub Gs G):Ko PK pa Cs H₀ G D m o:=by
 cases o with
 | next ρ=>exact λσ G' H s R=>k σ G' H (λb o h=>s b o (sb b o h)) R
 | ret r=>exact k
 | brk ρ=>exact λσ G' H s R=>k σ G' H (λb o h=>s b o (sb b o h)) R
 | cont ρ=>exact λσ G' H s R=>k σ G' H (λb o h=>s b o (sb b o h)) R
theorem Sub.refl {G:Hp}:Sub G G:=λ_ _ h=>h
theorem Sub.trans {G G1 G2:Hp} (a:Sub G G1) (b:Sub G1 G2):Sub G G2:=λc o h=>b c o (a c o h)
theorem e8:PSs X [] (br PK d8):=pb.imp λD σ H hz0=>by
 obtain ⟨pa,Cs,H₀,m,ρ,G,R,z⟩:=hz0
 exact z σ G H .refl R
theorem Zmu:∀ D σ H,br PK (aq s t) D σ H->ZaD (br PK s) (br PK t) D σ H:=by
 rintro D σ H ⟨pa,Cs,H₀,m,ρ,G,R,z⟩
 refine ⟨pa,Cs,H₀,m,ρ,G,R,Tr.ok_mono (Tr.ok_bind.mp z) λm1 o k=>?_⟩
 cases o with
 | next ρ'=>exact λσ' G' H' sb R'=>⟨pa,Cs,H₀,m1,ρ',G',R',Tr.ok_mono k λ_ _ k'=>Ko.later k' sb⟩
 | ret r=>exact k
 | brk ρ'=>exact k
 | cont ρ'=>exact k
theorem au (h1:PS X st (br PK s)) (h2:PSs X sts (br PK t)):PSs X (st::sts) (br PK (aq s t)):=(dq h1 h2).imp Zmu
theorem aO (h1:PS X st (br PK s)):PSs X [st] (br PK s):=fr h1
noncomputable def ZmJ:Cf:=λρ=>.ret (.brk ρ)
noncomputable def ZmD:Cf:=λρ=>.ret (.cont ρ)
noncomputable def y3:Cf:=λ_=>.fail
theorem ZeV:PS X st (br PK y3):=λ_ _ _ _ _ _ h=>by
 obtain ⟨pa,Cs,H₀,m,ρ,G,R,z⟩:=h
 exact z.elim
noncomputable def vL (i:Cc):Cf:=λρ=>(i ρ).bind λ_=>.ret (.next ρ)
theorem ZeW (he:PE X e (TAe PK i)) (hs:swapsWith e none pos.line X.env=pure false:=by rfl):PS X (.Expr e pos) (br PK (vL i)):=(gh he hs).imp λD σ H hz0=>by
 obtain ⟨pa,Cs,H₀,m,ρ,G,R,z⟩:=hz0
 refine TAe.then R z λm1 x v G1 H1 s1 w1 R1 d1 q1=>?_
 exact q1 σ G1 H1 s1.gs R1
noncomputable def bW (i:Cc):Cf:=λρ=>(i ρ).bind λx=>.ret (.ret (.d x))
theorem bZ (he:PE X e (TAe PK i)):PS X (.Return (some e) pos) (br PK (bW i)):=(gg he).imp λD σ H hz0=>by
 obtain ⟨pa,Cs,H₀,m,ρ,G,R,z⟩:=hz0
 refine TAe.then R z λm1 x v G1 H1 s1 w1 R1 d1 q1=>?_
 exact q1 v G1 H1 R1.st w1 d1
noncomputable def Zmw (is:Cd):Cf:=λρ=>(is ρ).bind λx=>.ret (.ret (.own x))
noncomputable def vJ (f:Cg):Cf:=λρ=>(f ρ).bind λr=>.ret (.ret r)
theorem ZeU (he:PE X e (za PK f)):PS X (.Return (some e) pos) (br PK (vJ f)):=(gg he).imp (by
 intro D σ H z
 obtain ⟨pa,Cs,H₀,m,ρ,G,R,z⟩:=z
 exact ⟨pa,Cs,H₀,m,ρ,G,R,Tr.ok_mono (Tr.ok_bind.mp z) λm1 r k=>Kr.later k R.st R.wd.some⟩)
noncomputable def dE (k:Nat):Cf:=λρ=>match ρ[k]? with
 | some (.d x)=>.ret (.ret (.d x))
 | some (.own xs)=>.ret (.ret (.own xs))
 | _=>.fail
theorem gE {k:Nat} (he:PE X e (eD k)):PS X (.Return (some e) pos) (br PK (dE k)):=(gg he).imp λD σ H hz0=>by
 obtain ⟨pa,Cs,H₀,m,ρ,G,R,z⟩:=hz0
 unfold dE at z
 split at z
 ·rename_i x hx
  obtain ⟨o,h1,h2⟩:=R.sl k _ hx
  cases h2 with
  | d d1=>exact ⟨_,h1,z _ G H R.st R.wd d1⟩
 ·rename_i xs hx
  obtain ⟨o,h1,h2⟩:=R.sl k _ hx
  cases h2 with
  | own a1 a2 a3 a4=>exact ⟨_,h1,z _ G H R.st R.wd ⟨_,_,rfl,a1,a2,a3,a4⟩⟩
 ·exact z.elim
noncomputable def eh (p:Ce) (s t:Cf):Cf:=λρ=>(p ρ).bind λx=>if x=true then s ρ else t ρ
theorem e9 {xs ys:List Stmt} (hc:PT X c (TAt PK p)) (ha:PSs X xs (br PK s)) (hb:PSs X ys (br PK t)):PS X (.If c xs ys pos) (br PK (eh p s t)):=(pd hc ha hb).imp λD σ H hz0=>by
 obtain ⟨pa,Cs,H₀,m,ρ,G,R,z⟩:=hz0
 refine TAt.then R z λm1 x G1 H1 s1 w1 R1 q1=>?_
 cases x with
 | true=>rw [if_pos rfl] at q1 ⊢; exact ⟨pa,Cs,H₀,m1,ρ,G1,R1,Tr.ok_mono q1 λ_ _ k'=>Ko.later k' s1.gs⟩
 | false=>rw [if_neg zC] at q1 ⊢; exact ⟨pa,Cs,H₀,m1,ρ,G1,R1,Tr.ok_mono q1 λ_ _ k'=>Ko.later k' s1.gs⟩
noncomputable def aS (k:Nat) (i:Cc):Cf:=λρ=>(i ρ).bind λx=>.ret (.next (ρ.set k (.d x)))
theorem aV {k:Nat} (h:PS X st (dR (TAe PK i) (eM k))):PS X st (br PK (aS k i)):=h.imp λD σ H hz0=>by
 obtain ⟨pa,Cs,H₀,m,ρ,G,R,z⟩:=hz0
 refine TAe.then R z λm1 x v G1 H1 s1 w1 R1 d1 q1=>?_
 exact q1 _ G1 H1 s1.gs (R1.set d1 k)
noncomputable def fJ (k:Nat) (is:Cd):Cf:=λρ=>(is ρ).bind λx=>.ret (.next (ρ.set k (.own x)))
theorem iF {k:Nat} (h:PS X st (dR (ff PK is) (eM k))):PS X st (br PK (fJ k is)):=h.imp λD σ H hz0=>by
 obtain ⟨pa,Cs,H₀,m,ρ,G,R,z⟩:=hz0
 refine ⟨pa,Cs,H₀,m,ρ,G,R,Tr.ok_mono (Tr.ok_bind.mp z) λm1 xs k' p vs G1 H1 s1 w1 h1 h2 h3 h4=>?_⟩
 exact k' _ G1 H1 s1.gs ((R.step s1 w1).setO h3 h2 (R.h0 h1) h4 (λn ys e=>R.apart h1 n ys e) k)
noncomputable def Za3:Re->Sl
 | .d x=>.d x
 | .own xs=>.own xs
noncomputable def Zmt (k:Nat) (f:Cg):Cf:=λρ=>(f ρ).bind λr=>.ret (.next (ρ.set k (Za3 r)))
noncomputable def sr (f:Cj) (k:Nat) (i:Cc):Cf:=λρ=>(aa k ρ).bind λx=>(i ρ).bind λy=>(Tr.of (f x y)).bind λz=>.ret (.next (ρ.set k (.d z)))
theorem ZeX {k:Nat} {r:R2} {g:Cj} (hv:dg r g) (h:PS X st (ZaM k (TAe PK i) r)):PS X st (br PK (sr g k i)):=h.imp λD σ H hz0=>by
 obtain ⟨pa,Cs,H₀,m,ρ,G,R,z⟩:=hz0
 unfold sr aa at z
 split at z
 ·rename_i x hx
  obtain ⟨o,h1,h2⟩:=R.sl k _ hx
  cases h2 with
  | d d0 =>
   refine ⟨_,h1,?_⟩
   refine TAe.then R z λm1 y v G1 H1 s1 w1 R1 d1 q1=>?_
   rw [Tr.ok_bind] at q1
   obtain ⟨w,hw,q1⟩:=Tr.ok_of q1
   refine hv PK pa m1 G1 H1 _ v x y w _ w1 (d0.mono s1.gs) d1 hw λu G2 H2 s2 w2 d2=>?_
   exact q1 _ G2 H2 (s1.gs.trans s2.gs) ((R1.step s2 w2).set d2 k)
 ·exact z.elim
noncomputable def iH (k:Nat) (i:Cc):Cf:=λρ=>match ρ[k]? with
 | some (.own xs)=>(i ρ).bind λx=>if small (xs.length+1)=true then .ret (.next (ρ.set k (.own (xs++[x])))) else .fail
 | _=>.fail
theorem DnAll.snoc {H:Hp} {vs:Cp} {ds:Cl} {v:V} {d:PyData} (h:DnAll H vs ds) (h1:Dn H v d):DnAll H (vs++[v]) (ds++[d]):=h.append (.cons h1 .nil)
theorem r6 {k:Nat} {K:Cb} {st:Stmt} (h:PS X st (sO (wC K "list" ZbY (eD k) (iK (TAe PK i) aX)))):PS X st (br PK (iH k i)):=h.imp λD σ H hz0=>by
 obtain ⟨pa,Cs,H₀,m,ρ,G,R,z⟩:=hz0
 unfold iH at z
 split at z
 ·rename_i xs hx
  obtain ⟨o,h1,h2⟩:=R.sl k _ hx
  cases h2 with
  | @own p vs _ a1 a2 a3 a4 =>
   refine ⟨_,h1,.inl ⟨rfl,_,SqL.of a1⟩,?_⟩
   refine TAe.then R z λm1 x v G1 H1 s1 w1 R1 d1 q1=>?_
   obtain ⟨hs,q1⟩:=dS q1
   obtain ⟨o,h1',h2⟩:=R1.sl k _ hx
   rw [h1] at h1'
   cases h1'
   cases h2 with
   | @own _ vs1 _ b1 b2 b3 b4 =>
    have hs':xs.length+1<=sizeLine:=of_decide_eq_true hs
    refine ⟨p,vs1,v,rfl,rfl,b1,by rw [b4.length]; omega,?_⟩
    exact q1 σ G1 _ s1.gs (R1.change hx h1 (b4.snoc d1))
 ·exact z.elim
theorem DnAll.set {H:Hp}:∀ {vs:Cp} {ds:Cl} {v:V} {d:PyData} (n:Nat),DnAll H vs ds->Dn H v d->DnAll H (vs.set n v) (ds.set n d)
 | _,_,_,_,_,.nil,_=>.nil
 | _,_,_,_,0,.cons _ t,h=>.cons h t
 | _,_,_,_,n+1,.cons g t,h=>.cons g (DnAll.set n t h)
noncomputable def sf (k:Nat) (n i:Cc):Cf:=λρ=>(i ρ).bind λx=>match ρ[k]? with
 | some (.own xs)=>(n ρ).bind λy=>match y with
  | .int y=>(Tr.of (dA xs.length y)).bind λt=>.ret (.next (ρ.set k (.own (xs.set t x))))
  | _=>.fail
 | _=>.fail
theorem ZeS {k:Nat} {n:Cc} (h:PS X st (dR (TAe PK i) (Zdn (eD k) (TAe PK n) xa))):PS X st (br PK (sf k n i)):=h.imp λD σ H hz0=>by
 obtain ⟨pa,Cs,H₀,m,ρ,G,R,z⟩:=hz0
 refine TAe.then R z λm1 x v G1 H1 s1 w1 R1 d1 q1=>?_
 split at q1
 ·rename_i xs hx
  obtain ⟨o,h1,h2⟩:=R1.sl k _ hx
  cases h2 with
  | @own p vs _ a1 a2 a3 a4 =>
   refine ⟨_,h1,?_⟩
   refine TAe.then R1 q1 λm2 y u G2 H2 s2 w2 R2 d2 q2=>?_
   obtain ⟨o,h1',h2⟩:=R2.sl k _ hx
   rw [h1] at h1'
   cases h1'
   cases h2 with
   | @own _ vs2 _ b1 b2 b3 b4 =>
    cases d2 with
    | int y =>
     rw [Tr.ok_bind] at q2
     obtain ⟨n',hn,q2⟩:=Tr.ok_of q2
     refine ⟨p,vs2,y,n',rfl,rfl,b1,by rw [b4.length]; exact hn,?_⟩
     exact q2 σ G2 _ (s1.gs.trans s2.gs) (R2.change hx h1 (b4.set n' (d1.mono s2.gs)))
    | _=>exact q2.elim
 ·exact q1.elim
theorem DnAll.reverse {H:Hp} {vs:Cp} {ds:Cl} (h:DnAll H vs ds):DnAll H vs.reverse ds.reverse:=by
 induction vs generalizing ds with
 | nil=>cases h; exact .nil
 | cons v vs ih=>cases h with | cons r t=>rw [AR,AR]; exact DnAll.append (ih t) (.cons r .nil)
noncomputable def sg (k:Nat):Cf:=λρ=>match ρ[k]? with
 | some (.own xs)=>.ret (.next (ρ.set k (.own xs.reverse)))
 | _=>.fail
theorem ZeT {k:Nat} {K:Cb} (h:PS X st (sO (ZaK K "list" ZbH (eD k)))):PS X st (br PK (sg k)):=h.imp λD σ H hz0=>by
 obtain ⟨pa,Cs,H₀,m,ρ,G,R,z⟩:=hz0
 unfold sg at z
 split at z
 ·rename_i xs hx
  obtain ⟨o,h1,h2⟩:=R.sl k _ hx
  cases h2 with
  | @own p vs _ a1 a2 a3 a4 =>
   refine ⟨_,h1,.inl ⟨rfl,_,SqL.of a1⟩,p,vs,rfl,rfl,a1,?_⟩
   exact z σ G _ .refl (R.change hx h1 a4.reverse)
 ·exact z.elim
noncomputable def oE (k:Nat) (s:Cf):Cf:=λρ=>s (fz k ρ)
theorem rY {k:Nat} (h:PS X st (br PK s)):PS X st (br PK (oE k s)):=h.imp λD σ H hz0=>by
 obtain ⟨pa,Cs,H₀,m,ρ,G,R,z⟩:=hz0
 obtain ⟨G',sb,R'⟩:=R.freeze k
 exact ⟨pa,Cs,H₀,m,_,G',R',Tr.ok_mono z λ_ _ k'=>Ko.later k' sb⟩
def eu (PK:Pk) (g:Ci):TG:=λv σ H Q=>∃ pa Cs H₀ m ρ G x ρ',Rl PK pa Cs H₀ m σ ρ G H/\Dn G v x/\g x ρ=some ρ'/\∀ σ',Rl PK pa Cs H₀ m σ' ρ' G H->Q σ' H
noncomputable def vS (PK:Pk) (g:Ch):gK:=λvs σ H Q=>∃ pa Cs H₀ m ρ G xs ρ',Rl PK pa Cs H₀ m σ ρ G H/\DnAll G vs xs/\g xs ρ=some ρ'/\∀ σ',Rl PK pa Cs H₀ m σ' ρ' G H->Q σ' H
theorem PG.imp {tg:Expr} {t t':TG} (h:PG X tg t) (q:∀ v σ H Q,t' v σ H Q->t v σ H Q):PG X tg t':=λpins s σ H v u Q I r z=>h pins s σ H v u Q I r (q v σ H Q z)
theorem PGs.imp {tg:List Expr} {t t':gK} (h:PGs X tg t) (q:∀ v σ H Q,t' v σ H Q->t v σ H Q):PGs X tg t':=λpins s σ H v u Q I r z=>h pins s σ H v u Q I r (q v σ H Q z)
noncomputable def aj (k:Nat):Ci:=λx ρ=>some (ρ.set k (.d x))
theorem aU {k:Nat} (h:PG X e (eM k)):PG X e (eu PK (aj k)):=h.imp λv σ H Q hz0=>by
 obtain ⟨pa,Cs,H₀,m,ρ,G,x,ρ',R,d,e,q⟩:=hz0
 cases e
 exact q _ (R.set d k)
noncomputable def bb:Ch:=λxs ρ=>match xs with
 | []=>some ρ
 | _=>none
noncomputable def aw (g:Ci) (gs:Ch):Ch:=λxs ρ=>match xs with
 | x::xs=>(g x ρ).bind λρ'=>gs xs ρ'
 | []=>none
theorem cX:PGs X [] (vS PK bb):=ZhB.imp λvs σ H Q hz0=>by
 obtain ⟨pa,Cs,H₀,m,ρ,G,xs,ρ',R,d,e,q⟩:=hz0
 cases d with
 | nil=>cases e; exact ⟨rfl,q _ R⟩
 | cons _ _=>cases e
theorem bC {g:Ci} {gs:Ch} (h1:PG X e (eu PK g)) (h2:PGs X es (vS PK gs))
  (hs:(assignEach (e::es) X.env).map (·.2)=assign e X.env::(assignEach es X.env).map (·.2):=by rfl):PGs X (e::es) (vS PK (aw g gs)):=(ZhC h1 h2 hs).imp λvs σ H Q hz0=>by
 obtain ⟨pa,Cs,H₀,m,ρ,G,xs,ρ',R,d,e,q⟩:=hz0
 cases d with
 | nil=>cases e
 | cons d1 d2 =>
  have e':(g _ ρ).bind (λρ'=>gs _ ρ')=some ρ':=e
  cases h:g _ ρ with
  | none=>rw [h] at e'; cases e'
  | some ρ1 =>
   rw [h] at e'
   exact ⟨_,_,rfl,pa,Cs,H₀,m,ρ,G,_,ρ1,R,d1,h,λσ1 R1=>⟨pa,Cs,H₀,m,ρ1,G,_,ρ',R1,d2,e',q⟩⟩
noncomputable def bc (gs:Ch):Ci:=λx ρ=>match x with
 | .tuple xs=>gs xs ρ
 | _=>none
def u4 (n:Nat) (gs:Ch):Prop:=∀ xs ρ ρ',gs xs ρ=some ρ'->xs.length=n
theorem cU:u4 0 bb:=λxs ρ ρ' h=>by cases xs with | nil=>rfl | cons _ _=>cases h
theorem bB {n:Nat} {g:Ci} {gs:Ch} (h:u4 n gs):u4 (n+1) (aw g gs):=λxs ρ ρ' e=>by
 cases xs with
 | nil=>cases e
 | cons x xs =>
  have e':(g x ρ).bind (λρ'=>gs xs ρ')=some ρ':=e
  cases h1:g x ρ with
  | none=>rw [h1] at e'; cases e'
  | some ρ1 =>
   rw [h1] at e'
   exact congrArg (·+1) (h xs ρ1 ρ' e')
theorem cY {k:Nat} {gs:Ch} {n:Nat} (hc:X.calm=true) (h:PGs X es (vS PK gs)) (hl:u4 n gs)
  (hn:(assignEach es X.env).length=n:=by rfl) (hst:(assignEach es X.env).findIdx? (·.1)=none:=by rfl):PG X (.Tuple es k pos) (eu PK (bc gs)):=(ZhD hc h hn hst).imp λv σ H Q hz0=>by
 obtain ⟨pa,Cs,H₀,m,ρ,G,x,ρ',R,d,e,q⟩:=hz0
 cases d with
 | tup h1 h2=>exact ⟨_,_,rfl,SqT.of (R.wd.sub _ _ h1),by rw [h2.length]; exact hl _ _ _ e,pa,Cs,H₀,m,ρ,G,_,ρ',R,h2,e,q⟩
 | _=>cases e
noncomputable def oF (g:Ci) (i:Cc):Cf:=λρ=>(i ρ).bind λx=>(Tr.of (g x ρ)).bind λρ'=>.ret (.next ρ')
theorem rZ {g:Ci} (h:PS X st (dR (TAe PK i) (eu PK g))):PS X st (br PK (oF g i)):=h.imp λD σ H hz0=>by
 obtain ⟨pa,Cs,H₀,m,ρ,G,R,z⟩:=hz0
 refine TAe.then R z λm1 x v G1 H1 s1 w1 R1 d1 q1=>?_
 rw [Tr.ok_bind] at q1
 obtain ⟨ρ',hg,q1⟩:=Tr.ok_of q1
 exact ⟨pa,Cs,H₀,m1,ρ,G1,x,ρ',R1,d1,hg,λσ' R'=>q1 σ' G1 H1 s1.gs R'⟩
noncomputable def oC (k n:Nat) (is:Cd):Cf:=λρ=>(is ρ).bind λxs=>match xs with
 | [x,y]=>.ret (.next ((ρ.set k (.d x)).set n (.d y)))
 | _=>.fail
theorem vE {k n:Nat} (h:PS X st (ZaF k n (TAd PK is))):PS X st (br PK (oC k n is)):=h.imp λD σ H hz0=>by
 obtain ⟨pa,Cs,H₀,m,ρ,G,R,z⟩:=hz0
 refine TAd.then R z λm1 xs vs G1 H1 s1 w1 R1 d1 q1=>?_
 split at q1
 ·cases d1 with
  | cons e1 d1 =>
   cases d1 with
   | cons e2 d1 =>
    cases d1
    exact ⟨_,_,rfl,q1 _ G1 H1 s1.gs ((R1.set e1 k).set e2 n)⟩
 ·exact q1.elim
def oG (PK:Pk) (pa:Addr) (J:It) (G:Hp) (xs:Cl):Prop:=∀ m G2 H2,Sub G G2->Wd PK pa m G2 H2 ->
 (∀ (n:Nat) (d:PyData),xs[n]?=some d->J.go n H2/\∀ x H3,J.yld n H2 x H3->∃ G3,Stp pa G2 H2 G3 H3/\Wd PK pa m G3 H3/\Dn G3 x d)/\J.stop xs.length H2
def dk (PK:Pk) (is:Cd):TI:=λσ H R=>∃ pa Cs H₀ m ρ G,Rl PK pa Cs H₀ m σ ρ G H/\(is ρ).ok m λm' xs=>∀ J G' H',Stp pa G H G' H'->Wd PK pa m' G' H'->oG PK pa J G' xs->R J H'
theorem PI.imp {tg iter:Expr} {t t':TI} (h:PI X tg iter t) (q:∀ σ H R,t' σ H R->t σ H R):PI X tg iter t':=λpins s σ H R I z=>h pins s σ H R I (q σ H R z)
noncomputable def bJ (g:Ci) (s:Cf):List PyData->List Sl->Tr Ou
 | [],ρ=>.ret (.next ρ)
 | x::xs,ρ=>(Tr.of (g x ρ)).bind λρ1=>(s ρ1).bind λo=>match o with
  | .next ρ2=>bJ g s xs ρ2
  | .cont ρ2=>bJ g s xs ρ2
  | .brk ρ2=>.ret (.next ρ2)
  | .ret r=>.ret (.ret r)
noncomputable def cF (is:Cd) (g:Ci) (s:Cf):Cf:=λρ=>(is ρ).bind λxs=>bJ g s xs ρ
theorem cN {tg iter:Expr} {body:List Stmt} {g:Ci} (hp:PassesOwn (model X.prog X.w) X.A X.env X.xe) (hc:X.calm=true) (hi:PI X tg iter (dk PK is)) (hg:PG X tg (eu PK g)) (hb:PSs X body (br PK s))
  (hs:∀ x,foldedSetIterable iter X.env x=pure x:=by intro _; rfl):PS X (.For tg iter body [] pos) (br PK (cF is g s)):=(Zhs hp hc hi hg hb hs).imp λD σ H hz0=>by
 obtain ⟨pa,Cs,H₀,m,ρ,G,R,z⟩:=hz0
 refine ⟨pa,Cs,H₀,m,ρ,G,R,Tr.ok_mono (Tr.ok_bind.mp z) λm1 xs k J G1 H1 s1 w1 jo=>?_⟩
 let W:Nat->Nat->St->Hp->Prop:=λn mm σ H=>mm=xs.length - n/\n<=xs.length/\∃ m ρ G,Sub G1 G/\Rl PK pa Cs H₀ m σ ρ G H/\(bJ g s (xs.drop n) ρ).ok m (Ko PK pa Cs H₀ G1 D)
 refine ⟨W,⟨xs.length,rfl,Ay _,m1,ρ,G1,λ_ _ h=>h,R.step s1 w1,Tr.ok_mono k λ_ _ k'=>Ko.later k' s1.gs⟩,?_⟩
 rintro n mm σ2 H2 ⟨rfl,hn,m2,ρ2,G2,sb,R2,k2⟩
 obtain ⟨j1,j2⟩:=jo m2 G2 H2 sb R2.wd
 by_cases hlt:n < xs.length
 ·have hx:xs[n]?=some xs[n]:=by simp [hlt]
  obtain ⟨jg,jy⟩:=j1 n _ hx
  refine .inr ⟨jg,W (n+1) (xs.length - (n+1)),λσ' H' h'=>⟨_,by omega,h'⟩,λx H3 y=>?_⟩
  obtain ⟨G3,s3,w3,d3⟩:=jy x H3 y
  rw [AK hlt] at k2
  unfold bJ at k2
  rw [Tr.ok_bind] at k2
  obtain ⟨ρ3,hg3,k3⟩:=Tr.ok_of k2
  refine ⟨pa,Cs,H₀,m2,ρ2,G3,_,ρ3,R2.step s3 w3,d3,hg3,λσ4 R4=>?_⟩
  refine ⟨pa,Cs,H₀,m2,ρ3,G3,R4,Tr.ok_mono (Tr.ok_bind.mp k3) λm5 o ko=>?_⟩
  have again:∀ ρ5,(bJ g s (xs.drop (n+1)) ρ5).ok m5 (Ko PK pa Cs H₀ G1 D)->∀ σ5 G5 H5,Sub G3 G5->Rl PK pa Cs H₀ m5 σ5 ρ5 G5 H5->W (n+1) (xs.length - (n+1)) σ5 H5:=λρ5 k5 σ5 G5 H5 sb5 R5 =>
   ⟨rfl,hlt,m5,ρ5,G5,(sb.trans s3.gs).trans sb5,R5,k5⟩
  cases o with
  | next ρ5=>exact again ρ5 ko
  | cont ρ5=>exact again ρ5 ko
  | brk ρ5=>exact λσ5 G5 H5 sb5 R5=>ko σ5 G5 H5 ((sb.trans s3.gs).trans sb5) R5
  | ret r=>exact ko
 ·have e:n=xs.length:=by omega
  subst e
  refine .inl ⟨j2,?_⟩
  rw [Bi] at k2
  exact k2 σ2 G2 H2 sb R2
end L2
set_option Elab.async false
set_option linter.all false
set_option maxRecDepth 100000
namespace L2
variable {PK:Pk} {X:Cx} {a b c e:Expr} {es:List Expr} {pos:Pos} {i j l:Cc} {is:Cd} {as:List Sl->Tr Cr} {f:Cg} {p q:Ce} {st:Stmt} {sts:List Stmt} {s t u:Cf}
noncomputable def dP (p:Ce) (s:Cf):Nat->List Sl->Tr Ou
 | 0,_=>.fail
 | n+1,ρ=>(p ρ).bind λb=>if b=true then (s ρ).bind λo=>match o with
   | .next ρ2=>dP p s n ρ2
   | .cont ρ2=>dP p s n ρ2
   | .brk ρ2=>.ret (.next ρ2)
   | .ret r=>.ret (.ret r)
  else .ret (.next ρ)
theorem ZeR {body:List Stmt} (n:Nat) (hp:PassesOwn (model X.prog X.w) X.A X.env X.xe) (hc:PT X c (TAt PK p)) (hb:PSs X body (br PK s)):PS X (.While c body [] pos) (br PK (dP p s n)):=(Zhn hp hc hb).imp λD σ H hz0=>by
 obtain ⟨pa,Cs,H₀,m,ρ,G,R,z⟩:=hz0
 let W:Nat->St->Hp->Prop:=λn σ H=>∃ m ρ G1,Sub G G1/\Rl PK pa Cs H₀ m σ ρ G1 H/\(dP p s n ρ).ok m (Ko PK pa Cs H₀ G D)
 refine ⟨W,⟨n,m,ρ,G,.refl,R,z⟩,?_⟩
 rintro n σ2 H2 ⟨m2,ρ2,G2,sb,R2,k2⟩
 cases n with
 | zero=>exact k2.elim
 | succ n =>
  unfold dP at k2
  refine TAt.then R2 k2 λm3 x G3 H3 s3 w3 R3 k3=>?_
  cases x with
  | false =>
   rw [if_neg zC] at k3 ⊢
   exact k3 σ2 G3 H3 (sb.trans s3.gs) R3
  | true =>
   rw [if_pos rfl] at k3 ⊢
   refine ⟨W n,λσ' H' h=>⟨n,by omega,h⟩,pa,Cs,H₀,m3,ρ2,G3,R3,Tr.ok_mono (Tr.ok_bind.mp k3) λm4 o ko=>?_⟩
   have again:∀ ρ5,(dP p s n ρ5).ok m4 (Ko PK pa Cs H₀ G D)->∀ σ5 G5 H5,Sub G3 G5->Rl PK pa Cs H₀ m4 σ5 ρ5 G5 H5->W n σ5 H5:=λρ5 k5 σ5 G5 H5 sb5 R5 =>
    ⟨m4,ρ5,G5,(sb.trans s3.gs).trans sb5,R5,k5⟩
   cases o with
   | next ρ5=>exact again ρ5 ko
   | cont ρ5=>exact again ρ5 ko
   | brk ρ5=>exact λσ5 G5 H5 sb5 R5=>ko σ5 G5 H5 ((sb.trans s3.gs).trans sb5) R5
   | ret r=>exact ko
noncomputable def gB:Sl->Sl
 | .own _=>.un
 | .dic _=>.un
 | s=>s
noncomputable def blk (n:Nat) (ix:List Nat) (ρ:Cr):Cr:=List.replicate n .un++ix.map λj=>gB ((ρ[j]?).getD .un)
theorem Rl.blk {pa:Addr} {Cs H₀ G H:Hp} {m:Nat} {σ:St} {ρ:Cr} (R:Rl PK pa Cs H₀ m σ ρ G H) (n:Nat) (ix:List Nat):Rl PK pa Cs H₀ m (cR n ix σ) (blk n ix ρ) G H:=by
 have key:∀ (k:Nat) (s:Sl),(L2.blk n ix ρ)[k]?=some s->(∃ o,(cR n ix σ)[k]?=some o/\SlOk pa H₀ G H o s)/\(∀ xs,s≠.own xs)/\∀ xs,s≠.dic xs:=λk s h=>by
  unfold L2.blk at h
  unfold cR
  by_cases hk:k < n
  ·rw [zX (by simpa using hk),zW,if_pos hk] at h
   rw [zX (by simpa using hk),zW,if_pos hk]
   cases h
   exact ⟨⟨_,rfl,.un⟩,(λxs h=>by cases h),λxs h=>by cases h⟩
  ·rw [Af (by simpa using A5 hk),AZ,zH] at h
   rw [Af (by simpa using A5 hk),AZ,zH]
   cases hj:ix[k - n]? with
   | none=>rw [hj] at h; cases h
   | some j =>
    rw [hj] at h
    have h':gB ((ρ[j]?).getD .un)=s:=zJ h
    subst h'
    show (∃ o,some ((σ[j]?).getD none)=some o/\_)/\_
    cases hr:ρ[j]? with
    | none=>exact ⟨⟨_,rfl,.un⟩,(λxs h=>by cases h),λxs h=>by cases h⟩
    | some s' =>
     obtain ⟨o,h1,h2⟩:=R.sl j s' hr
     rw [h1]
     cases h2 with
     | un=>exact ⟨⟨_,rfl,.un⟩,(λxs h=>by cases h),λxs h=>by cases h⟩
     | d z=>exact ⟨⟨_,rfl,.d z⟩,(λxs h=>by cases h),λxs h=>by cases h⟩
     | own _ _ _ _=>exact ⟨⟨_,rfl,.un⟩,(λxs h=>by cases h),λxs h=>by cases h⟩
     | dic _ _ _ _=>exact ⟨⟨_,rfl,.un⟩,(λxs h=>by cases h),λxs h=>by cases h⟩
     | pen=>exact ⟨⟨_,rfl,.pen⟩,(λxs h=>by cases h),λxs h=>by cases h⟩
 refine ⟨R.wd,R.st,R.p0,λk s h=>(key k s h).1,?_,λk n' xs ys _ h1 _=>absurd rfl ((key k _ h1).2.1 xs),λk n' xs ys _ h1 _=>absurd rfl ((key k _ h1).2.2 xs)⟩
 unfold L2.blk cR
 simp
def fg (n:Nat) (g:Ci):Prop:=∀ x ρ ρ',g x ρ=some ρ'->ρ'.length=ρ.length/\∀ k,n<=k->ρ'[k]?=ρ[k]?
def vT (n:Nat) (g:Ch):Prop:=∀ x ρ ρ',g x ρ=some ρ'->ρ'.length=ρ.length/\∀ k,n<=k->ρ'[k]?=ρ[k]?
theorem cv {n k:Nat} (h:k < n):fg n (aj k):=λx ρ ρ' e=>by
 cases e
 exact ⟨zR,λj hj=>zy (by omega)⟩
theorem g7 {n:Nat}:vT n bb:=λx ρ ρ' e=>by
 cases x with
 | nil=>cases e; exact ⟨rfl,λ_ _=>rfl⟩
 | cons _ _=>cases e
theorem dr {n:Nat} {g:Ci} {gs:Ch} (h1:fg n g) (h2:vT n gs):vT n (aw g gs):=λx ρ ρ' e=>by
 cases x with
 | nil=>cases e
 | cons x xs =>
  have e':(g x ρ).bind (λρ'=>gs xs ρ')=some ρ':=e
  cases h:g x ρ with
  | none=>rw [h] at e'; cases e'
  | some ρ1 =>
   rw [h] at e'
   obtain ⟨a1,a2⟩:=h1 x ρ ρ1 h
   obtain ⟨b1,b2⟩:=h2 xs ρ1 ρ' e'
   exact ⟨b1.trans a1,λk hk=>(b2 k hk).trans (a2 k hk)⟩
theorem gZ {n:Nat} {gs:Ch} (h2:vT n gs):fg n (bc gs):=λx ρ ρ' e=>by
 cases x with
 | tuple xs=>exact h2 xs ρ ρ' e
 | _=>cases e
noncomputable def bI (h:PyData->Tr PyData):List PyData->Tr Cl
 | []=>.ret []
 | x::xs=>(h x).bind λy=>(bI h xs).bind λys=>.ret (y::ys)
noncomputable def dO (is:Cd) (n:Nat) (ix:List Nat) (g:Ci) (el:Cc):Cd:=λρ =>
 (is ρ).bind λxs=>if small xs.length=true then bI (λx=>(Tr.of (g x (blk n ix ρ))).bind el) xs else .fail
theorem Rl.weak {pa:Addr} {Cs H₀ G H:Hp} {m:Nat} {σ:St} {ρ ρ':Cr} (R:Rl PK pa Cs H₀ m σ ρ' G H) (hl:ρ'.length=ρ.length) (h:∀ (k:Nat) (s:Sl),ρ[k]?=some s->s=.un\/ρ'[k]?=some s):Rl PK pa Cs H₀ m σ ρ G H:=by
 refine ⟨R.wd,R.st,R.p0,λk s hk=>?_,hl.symm.trans R.len,λk n xs ys hkn h1 h2=>?_,λk n xs ys hkn h1 h2=>?_⟩
 ·rcases h k s hk with e | e
  ·subst e
   have hlt:k < σ.length:=by
    rw [<- R.len,hl]
    exact (zu.mp hk).1
   exact ⟨σ[k],by simp [hlt],.un⟩
  ·exact R.sl k s e
 ·rcases h k _ h1 with e | e
  ·cases e
  ·rcases h n _ h2 with e' | e'
   ·cases e'
   ·exact R.dj k n xs ys hkn e e'
 ·rcases h k _ h1 with e | e
  ·cases e
  ·rcases h n _ h2 with e' | e'
   ·cases e'
   ·exact R.dj2 k n xs ys hkn e e'
theorem xQ {n:Nat} {ix:List Nat} {g:Ci} (hn:fg n g):∀ σ H Q,ff PK (dO is n ix g i) σ H Q->oQ (dk PK is) n ix (λ_=>eu PK g) (λ_=>TAe PK i) σ H Q:=by
 rintro σ H Q ⟨pa,Cs,H₀,m,ρ,G,R,z⟩
 refine ⟨pa,Cs,H₀,m,ρ,G,R,Tr.ok_mono (Tr.ok_bind.mp z) λm1 xs k J G1 H1 s1 w1 jo=>λB=>?_⟩
 obtain ⟨hs,k⟩:=dS k
 have hs:xs.length<=sizeLine:=of_decide_eq_true hs
 let el:PyData->Tr PyData:=λx=>(Tr.of (g x (blk n ix ρ))).bind i
 let W:Nat->Nat->St->List V->Hp->Prop:=λk mm τ ys H2=>mm=xs.length - k/\k<=xs.length/\ys.length=k/\∃ m G2 ds,Sub G1 G2/\Stp pa G H G2 H2/\Rl PK pa Cs H₀ m τ (blk n ix ρ) G2 H2 /\
  DnAll G2 ys ds/\(bI el (xs.drop k)).ok m λm' zs=>Ko1 PK pa m' G H (ds++zs) Q
 refine ⟨W,⟨xs.length,rfl,Ay _,rfl,m1,G1,[],.refl,s1,(R.step s1 w1).blk n ix,.nil,k⟩,?_⟩
 rintro k mm τ ys H2 ⟨rfl,hk,hy,m2,G2,ds,sb,st2,R2,dn,k2⟩
 obtain ⟨j1,j2⟩:=jo m2 G2 H2 sb R2.wd
 by_cases hlt:k < xs.length
 ·have hx:xs[k]?=some xs[k]:=by simp [hlt]
  obtain ⟨jg,jy⟩:=j1 k _ hx
  refine .inr ⟨jg,by omega,λx H3 y=>?_⟩
  obtain ⟨G3,s3,w3,d3⟩:=jy x H3 y
  rw [AK hlt] at k2
  unfold bI at k2
  rw [Tr.ok_bind,Tr.ok_bind] at k2
  obtain ⟨ρ3,hg3,k3⟩:=Tr.ok_of k2
  refine ⟨pa,Cs,H₀,m2,_,G3,_,ρ3,R2.step s3 w3,d3,hg3,λτ4 R4=>?_⟩
  refine ⟨pa,Cs,H₀,m2,ρ3,G3,R4,Tr.ok_mono k3 λm5 yd k5=>?_⟩
  intro v G5 H5 s5 w5 d5
  have s35:=s3.trans s5 w3.some
  obtain ⟨pl,pk⟩:=hn _ _ _ hg3
  refine ⟨xs.length - (k+1),by omega,rfl,hlt,by rw [zB,hy]; rfl,m5,G5,ds++[yd],sb.trans s35.gs,st2.trans s35 R2.wd.some,?_,(DnAll.mono s35.gs dn).snoc d5,?_⟩
  ·refine (R4.step s5 w5).weak pl λq sl hq=>?_
   by_cases hqn:q < n
   ·left
    unfold blk at hq
    rw [zX (by simpa using hqn),zW,if_pos hqn] at hq
    cases hq
    rfl
   ·right
    rw [pk q (A5 hqn)]
    exact hq
  ·refine Tr.ok_mono (Tr.ok_bind.mp k5) λm6 zs k6=>?_
   rw [Ae]
   exact k6
 ·have e:k=xs.length:=by omega
  subst e
  refine .inl ⟨j2,λp v H' hp ev eH=>?_⟩
  subst ev eH
  rw [Bi] at k2
  have k2':Ko1 PK pa m2 G H (ds++[]) Q:=k2
  rw [zN] at k2'
  exact (Ko1.later k2' st2 R2.wd.some).new R2.wd dn hp
theorem iG {n:Nat} {ix:List Nat} {g:Ci} (h:PE X e (oQ (dk PK is) n ix (λ_=>eu PK g) (λ_=>TAe PK i))) (hn:fg n g):PE X e (ff PK (dO is n ix g i)):=h.imp (xQ hn)
theorem wD {te te':TE} {g:TG} (h:∀ σ H Q,te' σ H Q->te σ H Q):∀ D σ H,dR te' g D σ H->dR te g D σ H:=λD σ H z=>h σ H _ z
theorem Zl1 {n k:Nat} {ix:List Nat} {g:Ci} (h:PS X st (dR (oQ (dk PK is) n ix (λ_=>eu PK g) (λ_=>TAe PK i)) (eM k))) (hn:fg n g):PS X st (br PK (fJ k (dO is n ix g i))) :=
 iF (h.imp (wD (xQ hn)))
noncomputable def vc:Ou->Tr Re
 | .next _=>.ret (.d .none)
 | .ret r=>.ret r
 | _=>.fail
noncomputable def bA (n k:Nat) (s:Cf):Cg:=λas=>if decide (as.length=n)=true then (s (as++List.replicate k .un)).bind vc else .fail
theorem Rl.start {pa:Addr} {G H:Hp} {m:Nat} {N:Co} {vs:Cp} {as:Cr} {k:Nat} (w:Wd PK pa m G H) (ar:ArsOk pa G vs as) (hk:N.length - vs.length=k):Rl PK pa G H m (L2.start N vs) (as++List.replicate k .un) G H:=by
 have key:∀ {vs:Cp} {as:Cr},ArsOk pa G vs as->∀ (q:Nat) (s:Sl),as[q]?=some s->(∃ o,(vs.map some)[q]?=some o/\SlOk pa H G H o s)/\(∀ xs,s≠.own xs)/\∀ xs,s≠.dic xs:=by
  intro vs as h
  induction h with
  | nil=>intro q s h; simp at h
  | cons h1 h2 ih =>
   intro q s h
   cases q with
   | zero =>
    simp at h
    subst h
    cases h1 with
    | d z=>exact ⟨⟨_,rfl,.d z⟩,(λxs h=>by cases h),λxs h=>by cases h⟩
    | pen=>exact ⟨⟨_,rfl,.pen⟩,(λxs h=>by cases h),λxs h=>by cases h⟩
   | succ q =>
    obtain ⟨⟨o,p1,p2⟩,p3⟩:=ih q s (by simpa using h)
    exact ⟨⟨o,by simpa using p1,p2⟩,p3⟩
 have hl:=ar.length
 have key2:∀ (q:Nat) (s:Sl),(as++List.replicate k .un)[q]?=some s->(∃ o,(L2.start N vs)[q]?=some o/\SlOk pa H G H o s)/\(∀ xs,s≠.own xs)/\∀ xs,s≠.dic xs:=λq s h=>by
  unfold L2.start
  by_cases hq:q < as.length
  ·rw [zX hq] at h
   rw [zX (by rw [zo,hl]; exact hq)]
   exact key ar q s h
  ·rw [Af (by omega),zW] at h
   rw [Af (by rw [zo]; omega),zW,zo,hl]
   split at h
   ·rename_i hq2
    cases h
    rw [if_pos (by omega)]
    exact ⟨⟨_,rfl,.un⟩,(λxs h=>by cases h),λxs h=>by cases h⟩
   ·cases h
 refine ⟨w,.refl,w.some,λq s h=>(key2 q s h).1,?_,λq n xs ys _ h1 _=>absurd rfl ((key2 q _ h1).2.1 xs),λq n xs ys _ h1 _=>absurd rfl ((key2 q _ h1).2.2 xs)⟩
 unfold L2.start
 simp [hl,hk]
 omega
theorem bK {P:Program} {w:World} {K:Cb} {mg:Cq} {base:Heap} {x:Str} {N ps:Co} {kk k:Nat} (D:Def K mg x st ps) (S:FnScope N ps (aN st)) (hk:N.length - ps.length=k)
  (hbody:∀ (f:Addr) (cdv:Value) (A:Around) (outer:List Env) (sh:Shared) (H:Hp) (E:XK),Room kk (A.deeper (envOfC x (aN st) sh.heap.objs.size f cdv)) ->
   PSs (cQ iI P w K mg base N x (aN st) f cdv A outer sh H E).nox (fZ st) (br PK s)):ACal PK P w K mg base x (kk+1) ps (bA ps.length k s):=by
 have len:∀ as m Z,(bA ps.length k s as).ok m Z->as.length=ps.length:=λas m Z h=>by
  unfold bA at h
  exact of_decide_eq_true (dS h).1
 refine ⟨D.ok S (λvs H Q E h=>h.1) λf cdv A outer sh H vs Q E hr hsp=>?_,len⟩
 obtain ⟨hv,pa,m,G,as,wd,ar,z⟩:=hsp
 refine ⟨_,hbody f cdv A outer sh H E hr,?_⟩
 unfold bA at z
 obtain ⟨_,z⟩:=dS z
 refine ⟨pa,G,H,m,_,G,Rl.start wd ar (by rw [hv]; exact hk),Tr.ok_mono (Tr.ok_bind.mp z) λm1 o ko=>?_⟩
 cases o with
 | next ρ=>exact λσ G1 H1 sb R1=>ko .non G1 H1 R1.st R1.wd .non
 | ret r=>exact ko
 | brk ρ=>exact ko.elim
 | cont ρ=>exact ko.elim
theorem Zhz {tg l:Expr} {tl:TE} (hl:PE X l tl):PI X tg l (λσ H R=>tl σ H λx H1=>∃ a,x=.ref a/\((∃ xs,SqL X.K H1 a xs/\R (zh X.K a) H1)\/(∃ xs,SqT X.K H1 a xs/\R (zg X.K a) H1))):=by
 intro pins s σ H R I h
 refine thn (hl pins s σ H _ I h) λv s1 hz0=>?_
 obtain ⟨x,H1,I1,r1,q1⟩:=hz0
 obtain ⟨a,e,q⟩:=q1
 subst e
 cases r1
 rcases q with ⟨xs,hq,q⟩ | ⟨xs,hq,q⟩
 ·obtain ⟨its,rv,p,hz⟩:=I1.list hq
  refine wpAny_pyIter_list p.isList ?_
  refine ⟨s1.heap.objs.size,[s1.heap.objs.size],_,_,H1,rfl,I1.kept (t':=s1.toks) λb o e=>pi _ e,ZfK a _,⟨_,zw _ rfl,rfl,rfl⟩,λb hb=>?_,q⟩
  have e:b=s1.heap.objs.size:=by simpa using hb
  subst e
  exact I1.fpOk (zp _) (I1.hok.fresh (zp _))
 ·obtain ⟨its,rv,p,hz⟩:=I1.tuple hq
  refine wpAny_pyIter_tuple (show s1.heap.IsTuple a its.toArray from p) ?_
  refine ⟨s1.heap.objs.size,[s1.heap.objs.size],_,_,H1,rfl,I1.kept (t':=s1.toks) λb o e=>pi _ e,ZfG a _,⟨_,zw _ rfl,rfl,rfl⟩,λb hb=>?_,q⟩
  have e:b=s1.heap.objs.size:=by simpa using hb
  subst e
  exact I1.fpOk (zp _) (I1.hok.fresh (zp _))
theorem DnAll.get {H:Hp}:∀ {vs:Cp} {ds:Cl} (n:Nat) {d:PyData},DnAll H vs ds->ds[n]?=some d->∃ v,vs[n]?=some v/\Dn H v d
 | _,_,_,_,.nil,e=>by simp at e
 | _,_,0,_,.cons g t,e=>by simp at e; subst e; exact ⟨_,rfl,g⟩
 | _,_,n+1,_,.cons g t,e=>by
  obtain ⟨v,h1,h2⟩:=DnAll.get n t (by simpa using e)
  exact ⟨v,by simpa using h1,h2⟩
theorem Zjc {K:Cb} {pa a:Addr} {G:Hp} {vs:Cp} {xs:Cl} (h:G a=some (.lst vs)) (d:DnAll G vs xs):oG PK pa (zh K a) G xs:=λm G2 H2 sb w=>by
 have hq:SqL K H2 a vs:=SqL.of (w.sub _ _ (sb _ _ h))
 refine ⟨λn x hx=>?_,vs,hq,by rw [d.length]; exact zp _⟩
 obtain ⟨v,hv,dv⟩:=d.get n hx
 refine ⟨⟨vs,v,hq,hv⟩,λy H3 hz0=>?_⟩
 obtain ⟨e,hy⟩:=hz0
 subst e
 have:=hy vs hq
 rw [hv] at this
 cases this
 exact ⟨G2,.refl,w,dv.mono sb⟩
theorem Zja {K:Cb} {pa a:Addr} {G:Hp} {vs:Cp} {xs:Cl} (h:G a=some (.tup vs)) (d:DnAll G vs xs):oG PK pa (zg K a) G xs:=λm G2 H2 sb w=>by
 have hq:SqT K H2 a vs:=SqT.of (w.sub _ _ (sb _ _ h))
 refine ⟨λn x hx=>?_,vs,hq,by rw [d.length]; exact zp _⟩
 obtain ⟨v,hv,dv⟩:=d.get n hx
 refine ⟨⟨vs,v,hq,hv⟩,λy H3 hz0=>?_⟩
 obtain ⟨e,hy⟩:=hz0
 subst e
 have:=hy vs hq
 rw [hv] at this
 cases this
 exact ⟨G2,.refl,w,dv.mono sb⟩
noncomputable def eX:PyData->Option Cl
 | .list xs=>some xs
 | .tuple xs=>some xs
 | _=>none
@[simp] theorem Zng (xs:Cl):eX (.list xs)=some xs:=rfl
@[simp] theorem Znf (xs:Cl):eX (.tuple xs)=some xs:=rfl
noncomputable def d9 (i:Cc):Cd:=λρ=>(i ρ).bind λx=>Tr.of (eX x)
theorem fb {tg l:Expr} (hl:PE X l (TAe PK i)):PI X tg l (dk PK (d9 i)):=(Zhz hl).imp λσ H R0 hz0=>by
 obtain ⟨pa,Cs,H₀,m,ρ,G,R,z⟩:=hz0
 refine TAe.then R z λm1 x v G1 H1 s1 w1 R1 d1 q1=>?_
 obtain ⟨xs,hx,q1⟩:=Tr.ok_of q1
 cases d1 with
 | lst h1 h2=>cases hx; exact ⟨_,rfl,.inl ⟨_,SqL.of (w1.sub _ _ h1),q1 _ G1 H1 s1 w1 (Zjc h1 h2)⟩⟩
 | tup h1 h2=>cases hx; exact ⟨_,rfl,.inr ⟨_,SqT.of (w1.sub _ _ h1),q1 _ G1 H1 s1 w1 (Zja h1 h2)⟩⟩
 | _=>cases hx
noncomputable def aZ (lo hi:Int):Cl:=(ap lo (hi - lo).toNat).map PyData.int
theorem Zc4 {pa:Addr} {G:Hp} {lo:Int} {n:Nat}:oG PK pa (oH lo n) G ((ap lo n).map PyData.int):=λm G2 H2 sb w=>by
 refine ⟨λk x hx=>?_,by show n<=_; rw [zo,eT]; exact zp _⟩
 have hk:k < n:=by
  have:=(zu.mp hx).1
  rwa [zo,eT] at this
 refine ⟨hk,λy H3 hz0=>?_⟩
 obtain ⟨e1,e2⟩:=hz0
 subst e1 e2
 have:x=.int (lo+k):=by
  unfold ap at hx
  simp [hk] at hx
  exact hx.symm
 subst this
 exact ⟨G2,.refl,w,.int _⟩
noncomputable def cL (n:Int):Bool:=decide (-(2 ^ 62)<=n/\n < 2 ^ 62)
noncomputable def oZ:List PyData->Option Cl
 | [.int n]=>if cL n=true then some (aZ 0 n) else none
 | _=>none
noncomputable def oY:List PyData->Option Cl
 | [.int k,.int n]=>if (cL k && cL n)=true then some (aZ k n) else none
 | _=>none
noncomputable def gI (is:Cd):Cd:=λρ=>(is ρ).bind λxs=>Tr.of (oZ xs)
noncomputable def gH (is:Cd):Cd:=λρ=>(is ρ).bind λxs=>Tr.of (oY xs)
theorem Zbo {G:Hp} {vs:Cp} {xs ys:Cl} (d:DnAll G vs xs) (h:oZ xs=some ys):∃ n:Int,vs=[.int n]/\-(2 ^ 62)<=n/\n < 2 ^ 62/\ys=aZ 0 n:=by
 unfold oZ at h
 split at h
 ·rename_i n
  split at h
  ·rename_i hn
   cases h
   cases d with
   | cons d1 d2 =>
    cases d2
    cases d1
    have:=of_decide_eq_true hn
    exact ⟨n,rfl,this.1,this.2,rfl⟩
  ·cases h
 ·cases h
theorem Zbn {G:Hp} {vs:Cp} {xs ys:Cl} (d:DnAll G vs xs) (h:oY xs=some ys):∃ k n:Int,vs=[.int k,.int n]/\(-(2 ^ 62)<=k/\k < 2 ^ 62/\-(2 ^ 62)<=n/\n < 2 ^ 62)/\ys=aZ k n:=by
 unfold oY at h
 split at h
 ·rename_i k n
  split at h
  ·rename_i hn
   cases h
   cases d with
   | cons d1 d2 =>
    cases d2 with
    | cons d2 d3 =>
     cases d3
     cases d1
     cases d2
     rw [zL] at hn
     have h1:=of_decide_eq_true hn.1
     have h2:=of_decide_eq_true hn.2
     exact ⟨k,n,rfl,⟨h1.1,h1.2,h2.1,h2.2⟩,rfl⟩
  ·cases h
 ·cases h
theorem oB {tg e:Expr} (h:PI X tg e (Zdh (TAd PK is))):PI X tg e (dk PK (gI is)):=h.imp λσ H R0 hz0=>by
 obtain ⟨pa,Cs,H₀,m,ρ,G,R,z⟩:=hz0
 refine TAd.then R z λm1 xs vs G1 H1 s1 w1 R1 d1 q1=>?_
 obtain ⟨ys,hy,q1⟩:=Tr.ok_of q1
 obtain ⟨n,e,h1,h2,rfl⟩:=Zbo d1 hy
 refine ⟨n,e,h1,h2,?_⟩
 have q:=q1 (oH 0 n.toNat) G1 H1 s1 w1
 unfold aZ at q
 rw [Int.sub_zero] at q
 exact q Zc4
theorem pZ {tg e:Expr} (h:PI X tg e (Zdg (TAd PK is))):PI X tg e (dk PK (gH is)):=h.imp λσ H R0 hz0=>by
 obtain ⟨pa,Cs,H₀,m,ρ,G,R,z⟩:=hz0
 refine TAd.then R z λm1 xs vs G1 H1 s1 w1 R1 d1 q1=>?_
 obtain ⟨ys,hy,q1⟩:=Tr.ok_of q1
 obtain ⟨k,n,e,h1,rfl⟩:=Zbn d1 hy
 exact ⟨k,n,e,h1,q1 (oH k (n - k).toNat) G1 H1 s1 w1 Zc4⟩
end L2
set_option Elab.async false
set_option linter.all false
set_option maxRecDepth 100000
namespace L2
variable {PK:Pk} {X:Cx} {a b c e:Expr} {es:List Expr} {pos:Pos} {i j l:Cc} {is:Cd}
noncomputable def fit (n:Int):Bool:=decide (n.natAbs < 2 ^ 8000)
noncomputable def aQ:Cj
 | .int m,.int n=>some (.int (m+n))
 | .tuple xs,.tuple ys=>if (!xs.isEmpty && small (xs.length+ys.length))=true then some (.tuple (xs++ys)) else none
 | .list xs,.list ys=>if small (xs.length+ys.length)=true then some (.list (xs++ys)) else none
 | _,_=>none
noncomputable def ZbZ (K:Cb):R2:=λx y H Q=>eU (λi j=>.int (i+j)) x y H Q\/ZbW K x y H Q\/ZbX x y H Q
theorem aY:OpR X (binaryOp .Add) (ZbZ X.K):=iV.or (Zh6.or Zh7)
theorem aW {K:Cb}:dg (ZbZ K) aQ:=λPK pa m G H x y dx dy dz Q w hx hy hz k=>by
 unfold aQ at hz
 split at hz
 ·cases hz; cases hx; cases hy
  exact .inl ⟨_,_,rfl,rfl,k.here w (.int _)⟩
 ·rename_i xs ys
  split at hz
  ·rename_i hc
   rw [zL] at hc
   have h1:xs.isEmpty=false:=by simpa using hc.1
   have h2:xs.length+ys.length<=sizeLine:=of_decide_eq_true hc.2
   cases hz
   cases hx with
   | tup a1 a2 =>
    cases hy with
    | tup b1 b2 =>
     refine .inr (.inl ⟨_,_,_,_,rfl,rfl,SqT.of (w.sub _ _ a1),SqT.of (w.sub _ _ b1),?_,by rw [a2.length,b2.length]; exact h2,λe=>?_,λe p hp=>k.tup w (a2.append b2) hp⟩)
     ·intro e
      rw [<- a2.isEmpty,e] at h1
      cases h1
     ·subst e
      cases b2
      refine k.here w ?_
      rw [zN]
      exact .tup a1 a2
  ·cases hz
 ·rename_i xs ys
  split at hz
  ·rename_i hc
   have h2:xs.length+ys.length<=sizeLine:=of_decide_eq_true hc
   cases hz
   cases hx with
   | lst a1 a2 =>
    cases hy with
    | lst b1 b2=>exact .inr (.inr ⟨_,_,_,_,rfl,rfl,w.sub _ _ a1,w.sub _ _ b1,by rw [a2.length,b2.length]; exact h2,λp hp=>k.lst w (a2.append b2) hp⟩)
  ·cases hz
 ·cases hz
noncomputable def bF:Cj
 | .int m,.int n=>some (.int (m - n))
 | _,_=>none
theorem bP:dg (eU λi j=>.int (i - j)) bF:=λPK pa m G H x y dx dy dz Q w hx hy hz k=>by
 unfold bF at hz
 split at hz
 ·cases hz; cases hx; cases hy
  exact ⟨_,_,rfl,rfl,k.here w (.int _)⟩
 ·cases hz
theorem DnAll.rep {H:Hp} {vs:Cp} {ds:Cl} (h:DnAll H vs ds):∀ k:Nat,DnAll H (List.replicate k vs).flatten (List.replicate k ds).flatten
 | 0=>.nil
 | k+1=>by
  rw [zG,zG,Ad,Ad]
  exact h.append (h.rep k)
noncomputable def ZbM (K:Cb):R2:=λx y H Q=>rI CMulG (λi j=>.int (i * j)) x y H Q\/ZbJ K x y H Q\/xb x y H Q
theorem bO:OpR X (binaryOp .Mult) (ZbM X.K):=Zh2.or (ZhZ.or Zcm)
noncomputable def bz:Cj
 | .int m,.int n=>if (fit m && fit n)=true then some (.int (m * n)) else none
 | .tuple xs,.int n=>if (decide (1 < n) && decide (n<=1000) && !xs.isEmpty && decide (xs.length<=1000))=true then some (.tuple (List.replicate n.toNat xs).flatten) else none
 | .list xs,.int n=>if (decide (-(2 ^ 63)<=n) && decide (n < 2 ^ 63) && small (xs.length * n.toNat))=true then some (.list (List.replicate n.toNat xs).flatten) else none
 | _,_=>none
theorem bL {K:Cb}:dg (ZbM K) bz:=λPK pa m G H x y dx dy dz Q w hx hy hz k=>by
 unfold bz at hz
 split at hz
 ·split at hz
  ·rename_i hc
   rw [zL] at hc
   cases hz; cases hx; cases hy
   exact .inl ⟨_,_,rfl,rfl,⟨of_decide_eq_true hc.1,of_decide_eq_true hc.2⟩,k.here w (.int _)⟩
  ·cases hz
 ·split at hz
  ·rename_i hc
   simp only [zL,decide_eq_true_eq,Bf] at hc
   cases hz; cases hy
   cases hx with
   | tup a1 a2 =>
    refine .inr (.inl ⟨_,_,_,rfl,rfl,SqT.of (w.sub _ _ a1),hc.1.1.1,hc.1.1.2,?_,by rw [a2.length]; exact hc.2,λp hp=>k.tup w (a2.rep _) hp⟩)
    intro e
    have:=hc.1.2
    rw [<- a2.isEmpty,e] at this
    cases this
  ·cases hz
 ·split at hz
  ·rename_i hc
   simp only [zL,decide_eq_true_eq] at hc
   cases hz; cases hy
   cases hx with
   | lst a1 a2=>exact .inr (.inr ⟨_,_,_,rfl,rfl,w.sub _ _ a1,hc.1.1,hc.1.2,by rw [a2.length]; exact of_decide_eq_true hc.2,λp hp=>k.lst w (a2.rep _) hp⟩)
  ·cases hz
 ·cases hz
noncomputable def fU:Cj
 | .int m,.int n=>if (decide (n≠0) && fit n)=true then some (.int (m.fdiv n)) else none
 | _,_=>none
theorem qj:dg (rI Zfk λi j=>.int (i.fdiv j)) fU:=λPK pa m G H x y dx dy dz Q w hx hy hz k=>by
 unfold fU at hz
 split at hz
 ·split at hz
  ·rename_i hc
   rw [zL] at hc
   cases hz; cases hx; cases hy
   exact ⟨_,_,rfl,rfl,⟨of_decide_eq_true hc.1,of_decide_eq_true hc.2⟩,k.here w (.int _)⟩
  ·cases hz
 ·cases hz
noncomputable def hZ:Cj
 | .int m,.int n=>if decide (n≠0)=true then some (.int (m.fmod n)) else none
 | _,_=>none
theorem wo:dg (rI (λ_ j=>j≠0) λi j=>.int (i.fmod j)) hZ:=λPK pa m G H x y dx dy dz Q w hx hy hz k=>by
 unfold hZ at hz
 split at hz
 ·split at hz
  ·rename_i hc
   cases hz; cases hx; cases hy
   exact ⟨_,_,rfl,rfl,of_decide_eq_true hc,k.here w (.int _)⟩
  ·cases hz
 ·cases hz
noncomputable def ug:Cj
 | .int m,.int n=>if (decide (0<=n) && decide (n<=1000000) && decide (m.natAbs < 2 ^ 64))=true then some (.int (m ^ n.toNat)) else none
 | _,_=>none
theorem Zfv:dg (rI Zfj λi j=>.int (i ^ j.toNat)) ug:=λPK pa m G H x y dx dy dz Q w hx hy hz k=>by
 unfold ug at hz
 split at hz
 ·split at hz
  ·rename_i hc
   simp only [zL,decide_eq_true_eq] at hc
   cases hz; cases hx; cases hy
   exact ⟨_,_,rfl,rfl,⟨hc.1.1,hc.1.2,hc.2⟩,k.here w (.int _)⟩
  ·cases hz
 ·cases hz
noncomputable def fc (i:Cc):Cc:=λρ=>(i ρ).bind λx=>match x with
 | .int n=>.ret (.int (-n))
 | _=>.fail
theorem gG (ha:PE X a (TAe PK i)):PE X (.UnaryOp .USub a pos) (TAe PK (fc i)):=(ZhF ZfD ha).imp λσ H Q hz0=>by
 obtain ⟨pa,Cs,H₀,m,ρ,G,R,z⟩:=hz0
 refine TAe.then R z λm1 x v G1 H1 s1 w1 R1 d1 q1=>?_
 cases d1 with
 | int n=>exact ⟨n,rfl,(Kn.later q1 s1 w1.some).here w1 (.int _)⟩
 | _=>exact q1.elim
noncomputable def df (f:Int->Int->Bool):Cj
 | .int m,.int n=>some (.bool (f m n))
 | _,_=>none
theorem dQ {f:Int->Int->Bool}:dg (eU λi j=>.bl (f i j)) (df f):=λPK pa m G H x y dx dy dz Q w hx hy hz k=>by
 unfold df at hz
 split at hz
 ·cases hz; cases hx; cases hy
  exact ⟨_,_,rfl,rfl,k.here w (.bl _)⟩
 ·cases hz
noncomputable def fW:Cj
 | .str m,.str n=>some (.bool (m == n))
 | x,y=>if (SeqAt.shaped x && SeqAt.shaped y)=true then some (.bool (PyData.eqv x y)) else none
noncomputable def pB:Cj
 | .str m,.str n=>some (.bool (!(m == n)))
 | x,y=>if (SeqAt.shaped x && SeqAt.shaped y)=true then some (.bool (!PyData.eqv x y)) else none
noncomputable def ZbU:R2:=λx y H Q=>rEq x y H Q\/∃ d e,Dn H x d/\Dn H y e/\SeqAt.shaped d=true/\SeqAt.shaped e=true/\Q (.bl (PyData.eqv d e)) H
noncomputable def ZbK:R2:=λx y H Q=>rNe x y H Q\/∃ d e,Dn H x d/\Dn H y e/\SeqAt.shaped d=true/\SeqAt.shaped e=true/\Q (.bl (!PyData.eqv d e)) H
theorem qY {k:Nat} (hr:Room k X.A):OpR X (compareOp .Eq) ZbU:=Zh5.or (Zh4 hr)
theorem Zcn {k:Nat} (hr:Room k X.A):OpR X (compareOp .NotEq) ZbK:=Zh1.or (Zh0 hr)
theorem ql:dg ZbU fW:=λPK pa m G H x y dx dy dz Q w hx hy hz k=>by
 unfold fW at hz
 split at hz
 ·cases hz; cases hx; cases hy
  exact .inl ⟨rfl,by rw [vn]; exact k.here w (.bl _)⟩
 ·split at hz
  ·rename_i hc
   rw [zL] at hc
   cases hz
   exact .inr ⟨_,_,hx.mono w.sub,hy.mono w.sub,hc.1,hc.2,k.here w (.bl _)⟩
  ·cases hz
theorem Zal:dg ZbK pB:=λPK pa m G H x y dx dy dz Q w hx hy hz k=>by
 unfold pB at hz
 split at hz
 ·cases hz; cases hx; cases hy
  exact .inl ⟨rfl,by rw [vn]; exact k.here w (.bl _)⟩
 ·split at hz
  ·rename_i hc
   rw [zL] at hc
   cases hz
   exact .inr ⟨_,_,hx.mono w.sub,hy.mono w.sub,hc.1,hc.2,k.here w (.bl _)⟩
  ·cases hz
noncomputable def Zjl:Cj
 | .bool m,.bool n=>some (.bool (m == n))
 | _,_=>none
noncomputable def Zji:Cj
 | .bool m,.bool n=>some (.bool (!(m == n)))
 | _,_=>none
noncomputable def pL:PyData->Bool
 | .none=>true
 | _=>false
noncomputable def Zjj:Cj:=λx y=>if pL y=true then some (.bool (pL x)) else none
noncomputable def Zjh:Cj:=λx y=>if pL y=true then some (.bool (!pL x)) else none
noncomputable def aR:Cj
 | .list xs,.int n=>bp xs n
 | .tuple xs,.int n=>bp xs n
 | _,_=>none
theorem DnAll.at {H:Hp} {vs:Cp} {ds:Cl} {n:Int} {d:PyData} (h:DnAll H vs ds) (e:bp ds n=some d):∃ v,bp vs n=some v/\Dn H v d:=by
 unfold bp at e ⊢
 rw [<- h.length] at e
 cases hn:dA vs.length n with
 | none=>rw [hn] at e; cases e
 | some j =>
  rw [hn] at e
  exact h.get j e
theorem bf {K:Cb}:dg (rIx K) aR:=λPK pa m G H x y dx dy dz Q w hx hy hz k=>by
 unfold aR at hz
 split at hz
 ·cases hy
  cases hx with
  | lst a1 a2 =>
   obtain ⟨v,h1,h2⟩:=a2.at hz
   exact .inl ⟨_,_,_,v,rfl,rfl,SqL.of (w.sub _ _ a1),h1,k.here w h2⟩
 ·cases hy
  cases hx with
  | tup a1 a2 =>
   obtain ⟨v,h1,h2⟩:=a2.at hz
   exact .inr (.inl ⟨_,_,_,v,rfl,rfl,SqT.of (w.sub _ _ a1),h1,k.here w h2⟩)
 ·cases hz
noncomputable def db:List PyData->Option PyData
 | [.list xs]=>some (.int xs.length)
 | [.tuple xs]=>some (.int xs.length)
 | _=>none
theorem gO {K:Cb}:eO (λxs H Q=>∃ p ys,xs=[.ref p]/\(SqL K H p ys\/SqT K H p ys)/\Q (.int ys.length) H) db:=λPK pa m G H vs ds d Q w hv hd k=>by
 unfold db at hd
 split at hd
 ·cases hd
  cases hv with
  | cons h1 h2 =>
   cases h2
   cases h1 with
   | lst a1 a2=>exact ⟨_,_,rfl,.inl (SqL.of (w.sub _ _ a1)),by rw [a2.length]; exact k.here w (.int _)⟩
 ·cases hd
  cases hv with
  | cons h1 h2 =>
   cases h2
   cases h1 with
   | tup a1 a2=>exact ⟨_,_,rfl,.inr (SqT.of (w.sub _ _ a1)),by rw [a2.length]; exact k.here w (.int _)⟩
 ·cases hd
noncomputable def vH (n:Int):Int:=if n < 0 then -n else n
noncomputable def qb:List PyData->Option PyData
 | [.int n]=>some (.int (vH n))
 | _=>none
theorem wq:eO (λxs H Q=>∃ i,xs=[.int i]/\Q (.int (if i < 0 then -i else i)) H) qb:=λPK pa m G H vs ds d Q w hv hd k=>by
 unfold qb at hd
 split at hd
 ·cases hd
  cases hv with
  | cons h1 h2=>cases h2; cases h1; exact ⟨_,rfl,k.here w (.int _)⟩
 ·cases hd
noncomputable def c9 (m n:Int):Int:=if n > m then n else m
noncomputable def i6 (m n:Int):Int:=if n < m then n else m
noncomputable def h9:List PyData->Option PyData
 | [.int m,.int n]=>some (.int (c9 m n))
 | _=>none
noncomputable def rb:List PyData->Option PyData
 | [.int m,.int n]=>some (.int (i6 m n))
 | _=>none
theorem qm:eO (λxs H Q=>∃ i j,xs=[.int i,.int j]/\Q (.int (if j > i then j else i)) H) h9:=λPK pa m G H vs ds d Q w hv hd k=>by
 unfold h9 at hd
 split at hd
 ·cases hd
  cases hv with
  | cons h1 h2=>cases h2 with | cons h2 h3=>cases h3; cases h1; cases h2; exact ⟨_,_,rfl,k.here w (.int _)⟩
 ·cases hd
theorem Zan:eO (λxs H Q=>∃ i j,xs=[.int i,.int j]/\Q (.int (if j < i then j else i)) H) rb:=λPK pa m G H vs ds d Q w hv hd k=>by
 unfold rb at hd
 split at hd
 ·cases hd
  cases hv with
  | cons h1 h2=>cases h2 with | cons h2 h3=>cases h3; cases h1; cases h2; exact ⟨_,_,rfl,k.here w (.int _)⟩
 ·cases hd
noncomputable def pM:List PyData->Option PyData
 | [.int n]=>some (.int n)
 | [.bool n]=>some (.int (if n then 1 else 0))
 | _=>none
theorem Zap:eO (λxs H Q=>(∃ i,xs=[.int i]/\Q (.int i) H)\/∃ k,xs=[.bl k]/\Q (.int (if k then 1 else 0)) H) pM:=λPK pa m G H vs ds d Q w hv hd k=>by
 unfold pM at hd
 split at hd
 ·cases hd
  cases hv with
  | cons h1 h2=>cases h2; cases h1; exact .inl ⟨_,rfl,k.here w (.int _)⟩
 ·cases hd
  cases hv with
  | cons h1 h2=>cases h2; cases h1; exact .inr ⟨_,rfl,k.here w (.int _)⟩
 ·cases hd
noncomputable def fN:List PyData->Option PyData
 | [.list xs]=>some (.tuple xs)
 | [.tuple xs]=>some (.tuple xs)
 | _=>none
theorem oN {K:Cb}:eO (λxs H Q=>∃ p ys,xs=[.ref p]/\((SqL K H p ys/\∀ l,H l=none->Q (.ref l) (upd H l (.tup ys)))\/(SqT K H p ys/\Q (.ref p) H))) fN:=λPK pa m G H vs ds d Q w hv hd k=>by
 unfold fN at hd
 split at hd
 ·cases hd
  cases hv with
  | cons h1 h2 =>
   cases h2
   cases h1 with
   | lst a1 a2=>exact ⟨_,_,rfl,.inl ⟨SqL.of (w.sub _ _ a1),λp hp=>k.tup w a2 hp⟩⟩
 ·cases hd
  cases hv with
  | cons h1 h2 =>
   cases h2
   cases h1 with
   | tup a1 a2=>exact ⟨_,_,rfl,.inr ⟨SqT.of (w.sub _ _ a1),k.here w (.tup a1 a2)⟩⟩
 ·cases hd
noncomputable def ZcK:List PyData->Option Cl
 | [.list xs]=>some xs
 | [.tuple xs]=>some xs
 | _=>none
noncomputable def ww:PyData->String
 | .none=>"NoneType"
 | .bool _=>"bool"
 | .int _=>"int"
 | .str _=>"str"
 | .list _=>"list"
 | .tuple _=>"tuple"
 | .dict _=>"dict"
noncomputable def x9 (T:String) (t:String):Bool:=decide (t=T) || (decide (T="int") && decide (t="bool"))
noncomputable def ZmC (T:String) (i:Cc):Cc:=λρ=>(i ρ).bind λx=>.ret (.bool (x9 T (ww x)))
noncomputable def dB (xs:Cl) (lo hi:Option Int):Cl:=(xs.drop (HT.aP xs.length 0 lo)).take (HT.aP xs.length xs.length hi - HT.aP xs.length 0 lo)
theorem DnAll.take {H:Hp}:∀ {vs:Cp} {ds:Cl} (n:Nat),DnAll H vs ds->DnAll H (vs.take n) (ds.take n)
 | _,_,0,_=>.nil
 | _,_,_+1,.nil=>.nil
 | _,_,n+1,.cons r t=>.cons r (DnAll.take n t)
theorem DnAll.drop {H:Hp}:∀ {vs:Cp} {ds:Cl} (n:Nat),DnAll H vs ds->DnAll H (vs.drop n) (ds.drop n)
 | _,_,0,r=>r
 | _,_,_+1,.nil=>.nil
 | _,_,n+1,.cons r t=>DnAll.drop n t
theorem DnAll.cut {H:Hp} {vs:Cp} {ds:Cl} (h:DnAll H vs ds) (lo hi:Option Int):DnAll H (e7 vs lo hi) (dB ds lo hi):=by
 unfold e7 dB
 rw [h.length]
 exact (h.drop _).take _
noncomputable abbrev fK:=List Sl->Tr (Option Int)
noncomputable def dF:fK:=λ_=>.ret none
noncomputable def cZ (i:Cc):fK:=λρ=>(i ρ).bind λx=>match x with
 | .int n=>.ret (some n)
 | _=>.fail
noncomputable def TAp (PK:Pk) (i:fK):TO:=λσ H Q=>∃ pa Cs H₀ m ρ G,Rl PK pa Cs H₀ m σ ρ G H/\(i ρ).ok m λm' x=>∀ G' H',Stp pa G H G' H'->Wd PK pa m' G' H'->Q x H'
theorem PO.imp {e:Option Expr} {t t':TO} (h:PO X e t) (q:∀ σ H Q,t' σ H Q->t σ H Q):PO X e t':=λpins s σ H Q I z=>h pins s σ H Q I (q σ H Q z)
theorem dY:PO X none (TAp PK dF):=Zb9.imp λσ H Q hz0=>by
 obtain ⟨pa,Cs,H₀,m,ρ,G,R,z⟩:=hz0
 exact z G H .refl R.wd
theorem dC (h:PE X e (TAe PK i)):PO X (some e) (TAp PK (cZ i)):=(Zb8 h).imp λσ H Q hz0=>by
 obtain ⟨pa,Cs,H₀,m,ρ,G,R,z⟩:=hz0
 refine TAe.then R z λm1 x v G1 H1 s1 w1 R1 d1 q1=>?_
 cases d1 with
 | int n=>exact ⟨n,rfl,q1 G1 H1 s1 w1⟩
 | _=>exact q1.elim
theorem Zjw {prog:Program} {w:World} {A:Around} {E:Ck} {s:Shared} {t sl:Addr} {items:Array Value} {vl vu:Value} {lo hi:Option Int} {Q:Ck} (ht:IsTup s.heap t items) (hs:s.heap.IsSliceOf sl vl vu .none) (pl:IsPart vl lo) (pu:IsPart vu hi)
  (hw:HT.aP items.size 0 lo=0/\HT.aP items.size items.size hi=items.size) (h:Q (.ref t) s):wpAny (model prog w) A (getItem (.ref t) (.ref sl)) Q E s:=by
 obtain ⟨os,hos,hcs,hds⟩:=id hs
 have hTs:s.TypeIs (.ref sl) "slice":=⟨os,hos,hcs⟩
 unfold getItem
 try with_reducible refine wpAny_holding ?_
 first | refine wpAny_bind (wpAny_pure ?_) | skip
 refine wpAny_bind (wpAny_sequenceKey ht.typeIs (by decide) ?_)
 refine wpAny_bind (wpAny_callSpecial?_slot (name:=Str.ofString "__getitem__") ht.typeIs Ab
  (wpAny_call_entry Ab ht.typeIs entry_tuple_getitem ?_ (args_tuple_getitem _ _)))
 show wpAny _ _ (Builtin.Tuple.tupleItemsOf (.ref t) >>= _) _ _ s
 refine wpAny_bind (tupleItemsOf_ ht ?_)
 refine wpAny_bind (wpAny_typeOf hTs ?_)
 rw [if_pos (by decide)]
 refine wpAny_bind (HT.Za1 hs pl pu ?_)
 have hyes:(((HT.aP items.size 0 lo:Nat):Int) == 0 && (1:Int) == 1 && (HT.aP items.size items.size hi - HT.aP items.size 0 lo) == items.size)=true:=by
  rw [hw.1,hw.2]
  simp
 show wpAny _ _ (if (((HT.aP items.size 0 lo:Nat):Int) == 0 && (1:Int) == 1 && (HT.aP items.size items.size hi - HT.aP items.size 0 lo) == items.size)=true then _ else _) _ _ s
 rw [if_pos hyes]
 refine wpAny_bind (m:=Builtin.Tuple.tupleIsExact (.ref t)) ?_
 unfold Builtin.Tuple.tupleIsExact
 refine wpAny_bind (wpAny_typeOf ht.typeIs ?_)
 refine wpAny_pure ?_
 rw [if_pos (by decide)]
 refine wpAny_bind (wpAny_rule ?_)
 exact wpAny_pure ⟨_,rfl,wpAny_pure h⟩
noncomputable def ZbE (K:Cb):V->Option Int->Option Int->Hp->VK->Prop:=λx lo hi H Q=>∃ a xs,x=.ref a/\SqT K H a xs/\(HT.aP xs.length 0 lo=0/\HT.aP xs.length xs.length hi=xs.length)/\Q (.ref a) H
theorem Zgs:SlR X (ZbE X.K):=by
 intro pins s σ H x v vl vu lo hi sl Q I rx hs pl pu h
 obtain ⟨a,xs,rfl,hx,hw,q⟩:=h
 cases rx
 obtain ⟨its,r,ht,hz⟩:=I.tuple hx
 have hlen:its.toArray.size=xs.length:=by rw [zr]; exact r.length.symm
 refine ⟨"tuple",_,PyProof.Rows.slot_tuple_getitem.lookup,ht.typeIs,?_⟩
 exact Zjw ht hs pl pu (by rw [hlen]; exact hw) ⟨.ref a,H,I,rfl,q⟩
noncomputable def Zhc (K:Cb):V->Option Int->Option Int->Hp->VK->Prop:=λx lo hi H Q=>ZbG K x lo hi H Q\/ZbF K x lo hi H Q\/ZbE K x lo hi H Q
theorem Zgu:SlR X (Zhc X.K):=Za2.or (Zgt.or Zgs)
noncomputable def Za0 (x:PyData) (lo hi:Option Int):Option PyData:=match x with
 | .list xs=>some (.list (dB xs lo hi))
 | .tuple xs=>some (.tuple (dB xs lo hi))
 | _=>none
noncomputable def dh (i:Cc) (p q:fK):Cc:=λρ=>(i ρ).bind λx=>(p ρ).bind λlo=>(q ρ).bind λhi=>Tr.of (Za0 x lo hi)
theorem TAp.then {p:fK} {σ:St} {H:Hp} {β:Type} {k:Option Int->Tr β} {Z:Nat->β->Prop} {Q:Option Int->Hp->Prop} {pa:Addr} {Cs H₀ G:Hp} {m:Nat} {ρ:Cr} (R:Rl PK pa Cs H₀ m σ ρ G H) (h:((p ρ).bind k).ok m Z)
  (hq:∀ m1 x G1 H1,Stp pa G H G1 H1->Wd PK pa m1 G1 H1->Rl PK pa Cs H₀ m1 σ ρ G1 H1->(k x).ok m1 Z->Q x H1):TAp PK p σ H Q:=by
 refine ⟨pa,Cs,H₀,m,ρ,G,R,Tr.ok_mono (Tr.ok_bind.mp h) λm1 x hx G1 H1 s1 w1=>?_⟩
 exact hq m1 x G1 H1 s1 w1 (R.step s1 w1) hx
theorem dN {p q:fK} {lo hi:Option Expr} {p2:Pos} (he:PE X e (TAe PK i)) (hl:PO X lo (TAp PK p)) (hu:PO X hi (TAp PK q)):PE X (.Subscript e (.Slice lo hi none p2) pos) (TAe PK (dh i p q)):=(Zcd Zgu he hl hu).imp λσ H Q hz0=>by
 obtain ⟨pa,Cs,H₀,m,ρ,G,R,z⟩:=hz0
 refine TAe.then R z λm1 x v G1 H1 s1 w1 R1 d1 q1=>?_
 refine TAp.then R1 q1 λm2 lo G2 H2 s2 w2 R2 q2=>?_
 refine TAp.then R2 q2 λm3 hi G3 H3 s3 w3 R3 q3=>?_
 obtain ⟨d,hd,k⟩:=Tr.ok_of q3
 have s13:=(s1.trans s2 w1.some).trans s3 w2.some
 have k':=Kn.later k s13 w3.some
 have d3:=d1.mono (s2.gs.trans s3.gs)
 cases d3 with
 | lst a1 a2=>cases hd; exact .inl ⟨_,_,rfl,SqL.of (w3.sub _ _ a1),λp hp=>k'.lst w3 (a2.cut lo hi) hp⟩
 | @tup a xs ds a1 a2 =>
  cases hd
  by_cases hw:HT.aP xs.length 0 lo=0/\HT.aP xs.length xs.length hi=xs.length
  ·refine .inr (.inr ⟨_,_,rfl,SqT.of (w3.sub _ _ a1),hw,k'.here w3 ?_⟩)
   have e:dB ds lo hi=ds:=by
    unfold dB
    rw [<- a2.length,hw.1,hw.2]
    simp
    rw [a2.length]
    exact BB
   rw [e]
   exact .tup a1 a2
  ·exact .inr (.inl ⟨_,_,rfl,SqT.of (w3.sub _ _ a1),hw,λp hp=>k'.tup w3 (a2.cut lo hi) hp⟩)
 | _=>cases hd
noncomputable def t5 (lo hi:Int):Bool:=cL lo && cL hi && decide ((hi - lo).toNat<=1000)
noncomputable def oX:List PyData->Option Cl
 | [.int lo,.int hi]=>if t5 lo hi=true then some (aZ lo hi) else none
 | _=>none
noncomputable def t4:List PyData->Option Cl
 | [.int hi]=>if t5 0 hi=true then some (aZ 0 hi) else none
 | _=>none
noncomputable def Zmr (is:Cd):Cc:=λρ=>(is ρ).bind λxs=>(Tr.of (oX xs)).bind λys=>.ret (.tuple ys)
noncomputable def ZmA (is:Cd):Cd:=λρ=>(is ρ).bind λxs=>Tr.of (oX xs)
noncomputable def ints?:List PyData->Option Cm
 | []=>some []
 | .int n::xs=>(ints? xs).bind λns=>some (n::ns)
 | _=>none
@[simp] theorem ints?_map:∀ ns:Cm,ints? (ns.map PyData.int)=some ns
 | []=>rfl
 | n::ns=>by rw [zm,ints?,ints?_map ns]; rfl
theorem DnAll.ints_inv {H:Hp} {vs:Cp} {ds:Cl} {ns:Cm} (a:DnAll H vs ds) (h:ints? ds=some ns):vs=ns.map V.int/\ds=ns.map PyData.int:=by
 induction vs generalizing ds ns with
 | nil=>cases a; cases h; exact ⟨rfl,rfl⟩
 | cons v vs ih =>
  cases a with
  | cons g t =>
   cases g with
   | int n =>
    unfold ints? at h
    rename_i ds
    cases e:ints? ds with
    | none=>rw [e] at h; cases h
    | some ms =>
     rw [e] at h
     cases h
     obtain ⟨h1,h2⟩:=ih t e
     exact ⟨by rw [h1]; rfl,by rw [h2]; rfl⟩
   | _=>unfold ints? at h; cases h
noncomputable def fi (ns:Cm):Cm:=ns.mergeSort λa b=>decide (a<=b)
theorem wJ (ns:Cm):(fi ns).Perm ns:=List.mergeSort_perm ..
theorem ZaW (ns:Cm):(fi ns).Pairwise (·<=·):=by
 have:=List.pairwise_mergeSort (le:=λ(a b:Int)=>decide (a<=b)) (λa b c h1 h2=>by simp at *; omega) (λa b=>by simp; omega) ns
 exact this.imp λh=>by simpa using h
theorem ZaV {a b:Cm} (hp:a.Perm b) (ha:a.Pairwise (·<=·)) (hb:b.Pairwise (·<=·)):a=b:=by
 first
  | exact hp.eq_of_pairwise (λx y _ _ h1 h2=>Int.le_antisymm h1 h2) ha hb
  | exact List.Perm.eq_of_pairwise (λx y _ _ h1 h2=>Int.le_antisymm h1 h2) ha hb hp
end L2
set_option Elab.async false
set_option linter.all false
set_option maxRecDepth 100000
namespace L2
section
variable {prog:Program} {w:World} {A:Around} {E:Ck} {s:Shared}
def ItAt (b:Bool) (h:Heap) (it a:Addr) (k:Nat):Prop:=match b with
 | true=>h.IsListIter it a k
 | false=>h.IsTupleIter it a k
def SqAt (b:Bool) (h:Heap) (a:Addr) (items:Array Value):Prop:=match b with
 | true=>h.IsList a items
 | false=>h.IsTuple a items
theorem ItAt.at {b:Bool} {h h':Heap} {it a:Addr} {k:Nat} (x:ItAt b h it a k) (e:∀ o,h.get? it=some o->h'.get? it=some o):ItAt b h' it a k:=by
 cases b with
 | true=>exact Heap.IsListIter.at x e
 | false=>obtain ⟨o,ho,r⟩:=(show h.IsTupleIter it a k from x); exact ⟨o,e o ho,r⟩
theorem SqAt.at {b:Bool} {h h':Heap} {a:Addr} {items:Array Value} (x:SqAt b h a items) (e:∀ o,h.get? a=some o->h'.get? a=some o):SqAt b h' a items:=by
 cases b with
 | true=>exact Heap.IsList.at x e
 | false=>exact Heap.IsTuple.at x e
theorem ItAt.there {b:Bool} {h:Heap} {it a:Addr} {k:Nat} (x:ItAt b h it a k):∃ o,h.get? it=some o/\∀ v,o.data≠.cell v:=by
 cases b with
 | true=>obtain ⟨o,ho,_,hd⟩:=(show h.IsListIter it a k from x); exact ⟨o,ho,λv z=>by rw [hd] at z; cases z⟩
 | false=>obtain ⟨o,ho,_,hd⟩:=(show h.IsTupleIter it a k from x); exact ⟨o,ho,λv z=>by rw [hd] at z; cases z⟩
theorem Zih {it l:Addr} {i:Nat} {items:Array Value} {x:Value} {Q:Ck} (hit:s.heap.IsTupleIter it l i) (hl:s.heap.IsTuple l items) (hx:items[i]?=some x)
  (hQ:∀ h',h'.IsTupleIter it l (i+1)->Heap.SameBut it s.heap h'->Q x { s with heap:=h' }):wpAny (model prog w) A (Builtin.SmallTypes.nextOf (.ref it)) Q E s:=by
 obtain ⟨o,ho,hc,hd⟩:=id hit; obtain ⟨ol,hol,_,nl,hdl⟩:=hl
 unfold Builtin.SmallTypes.nextOf
 refine wpAny_bind (wpAny_callSpecial?_slot (name:=Str.ofString "__next__") hit.typeIs A8 (wpAny_call_entry A8 hit.typeIs F.entry_tuple_iterator_next ?_ (F.args_tuple_iterator_next_1 _)))
 show wpAny _ _ (field (.ref it) 0 >>= _) _ _ s; refine wpAny_bind (wpAny_field ho hd (x:=.ref l) rfl ?_)
 show wpAny _ _ (if (Value.ref l == Value.none)=true then _ else _) _ _ s; rw [if_neg (show ¬ ((Value.ref l == Value.none)=true) from zC)]
 show wpAny _ _ (field (.ref it) 1 >>= _) _ _ s; refine wpAny_bind (wpAny_field ho hd (x:=.int i 0) rfl ?_)
 show wpAny _ _ (seqItems? (.ref l) >>= _) _ _ s; refine wpAny_bind (wpAny_seqItems hol hdl ?_); simp only [As,hx]
 refine wpAny_bind (wpAny_setField ho hd (by simp) (wpAny_pure ⟨x,rfl,wpAny_pure (hQ _ ⟨_,AS _ ho (BI (A3 hd _)),(Obj.cls_mapFields ..).trans hc,?_⟩ (Bb ..))⟩))
 rw [A3 hd]; simp [rawInt]
theorem Zii {it l:Addr} {i:Nat} {items:Array Value} {Q:Ck} (hh:A.handled=none) (hit:s.heap.IsTupleIter it l i) (hl:s.heap.IsTuple l items) (hx:items[i]?=none)
  (hE:∀ h' e,Heap.ExtBut it s.heap h'->(∃ o,h'.get? e=some o/\o.cls=.type "StopIteration")->E (.ref e) { s with heap:=h' }):wpAny (model prog w) A (Builtin.SmallTypes.nextOf (.ref it)) Q E s:=by
 obtain ⟨o,ho,hc,hd⟩:=id hit; obtain ⟨ol,hol,_,nl,hdl⟩:=hl
 unfold Builtin.SmallTypes.nextOf
 refine wpAny_bind (wpAny_callSpecial?_slot (name:=Str.ofString "__next__") hit.typeIs A8 (wpAny_call_entry A8 hit.typeIs F.entry_tuple_iterator_next ?_ (F.args_tuple_iterator_next_1 _)))
 show wpAny _ _ (field (.ref it) 0 >>= _) _ _ s; refine wpAny_bind (wpAny_field ho hd (x:=.ref l) rfl ?_)
 show wpAny _ _ (if (Value.ref l == Value.none)=true then _ else _) _ _ s; rw [if_neg (show ¬ ((Value.ref l == Value.none)=true) from zC)]
 show wpAny _ _ (field (.ref it) 1 >>= _) _ _ s; refine wpAny_bind (wpAny_field ho hd (x:=.int i 0) rfl ?_)
 show wpAny _ _ (seqItems? (.ref l) >>= _) _ _ s; refine wpAny_bind (wpAny_seqItems hol hdl ?_); simp only [As,hx]
 refine wpAny_bind (wpAny_rule (wpAny_bind (wpAny_setField ho hd (by simp) ?_))); show wpAny _ _ (newExc (.type "StopIteration") [] >>= _) _ _ _
 refine wpAny_bind ?_; simp only [newExc,newTuple]; refine wpAny_bind (wpAny_newObj_type ?_ (by size_fits))
 refine wpAny_bind (m:=firstArgMember _ _) (wpAny_of_eq (a:=Value.none) (by first | rfl | (simp only [firstArgMember]; rfl)) ?_); refine wpAny_newObj_type ?_ (by size_fits); simp only [raiseNew]
 refine wpAny_bind (wpAny_handled ?_); first | rw [show A.in1.handled=none from hh] | rw [hh]
 refine wpAny_bind (wpAny_pure (wpAny_throw (hE _ _ (((Bb ..).extBut.push _).push _) ⟨_,zw _ rfl,rfl⟩)))
theorem Zij {b:Bool} {it l:Addr} {i:Nat} {items:Array Value} {x:Value} {Q:Ck} (hit:ItAt b s.heap it l i) (hl:SqAt b s.heap l items) (hx:items[i]?=some x)
  (hQ:∀ h',ItAt b h' it l (i+1)->Heap.SameBut it s.heap h'->Q x { s with heap:=h' }):wpAny (model prog w) A (Builtin.SmallTypes.nextOf (.ref it)) Q E s:=by
 cases b with
 | true=>exact wpAny_nextOf_list_item hit hl hx hQ
 | false=>exact Zih hit hl hx hQ
theorem Zik {b:Bool} {it l:Addr} {i:Nat} {items:Array Value} {Q:Ck} (hh:A.handled=none) (hit:ItAt b s.heap it l i) (hl:SqAt b s.heap l items) (hx:items[i]?=none)
  (hE:∀ h' e,Heap.ExtBut it s.heap h'->(∃ o,h'.get? e=some o/\o.cls=.type "StopIteration")->E (.ref e) { s with heap:=h' }):wpAny (model prog w) A (Builtin.SmallTypes.nextOf (.ref it)) Q E s:=by
 cases b with
 | true=>exact wpAny_nextOf_list_end hh hit hl hx hE
 | false=>exact Zii hh hit hl hx hE
theorem SqAt.bt {b:Bool} {h h':Heap} {a c:Addr} {items:Array Value} (x:SqAt b h a items) (e:Heap.ExtBut c h h') (n:a≠c):SqAt b h' a items:=x.at λo q=>e a o n q
noncomputable def gv (b:Bool) (l:Addr):Obj:=match b with
 | true=>{ cls:=.type "list_iterator",data:=.fields #[.ref l,.int 0 0] }
 | false=>{ cls:=.type "tuple_iterator",data:=.fields #[.ref l,.int 0 0] }
theorem qR {b:Bool} {l:Addr} {items:Array Value} {Q:Ck} (hl:SqAt b s.heap l items) (hQ:Q (.ref s.heap.objs.size) { s with heap:=s.heap.push (gv b l) }):wpAny (model prog w) A (pyIter (.ref l)) Q E s:=by
 cases b with
 | true=>exact wpAny_pyIter_list hl hQ
 | false=>exact wpAny_pyIter_tuple hl hQ
theorem SqAt.push {b:Bool} {h:Heap} {l:Addr} {items:Array Value} (x:SqAt b h l items) (o:Obj):SqAt b (h.push o) l items:=x.at λ_ q=>pi _ q
theorem x8 {b:Bool} {h:Heap} {it l:Addr} (e:h.get? it=some (gv b l)):ItAt b h it l 0:=by
 cases b with
 | true=>exact ⟨_,e,rfl,rfl⟩
 | false=>exact ⟨_,e,rfl,rfl⟩
end
section
variable {X:Cx} {pins:List (Addr×Obj)} {σ:St} {H:Hp} {s:Shared} {h':Heap}
theorem Inv.turns {t':Nat} {ch:List Addr} (I:Inv X pins σ H s) (k:∀ b o,b ∉ ch->s.heap.get? b=some o->h'.get? b=some o) (hf:∀ b∈ch,fh X pins H b):Inv X pins σ H { s with heap:=h',toks:=t' }:=by
 have nit:∀ b u,H b=some u->b ∉ ch:=λb u e z=>by rw [(hf b z).1] at e; cases e
 refine I.step (g':=s.gens) (d':=s.drawn) (ch:=ch) (λb hb=>?_) (λb o _ _ hc e _=>k b o hc e) (λb o _ _ hc e _=>⟨o.slots,k b o hc e⟩) (λ_ _ _ _ n=>n)
  (λb o hc e=>⟨o,k b o hc e⟩) (λ_ _ e=>e) (λ_ _ _ e=>e) (λb ps e=>⟨#[],by rw [e]; simp⟩) (λm hm=>?_) (λb u e=>?_) I.bare
 ·obtain ⟨_,f1,_,f3,f4,f5⟩:=hf b hb
  exact ⟨f3,f1,f4,f5⟩
 ·obtain ⟨o,es,ep,ho,r⟩:=hm
  exact ⟨o,es,ep,k _ o (λz=>(hf _ z).2.1 rfl) ho,r⟩
 ·refine (I.hok b u e).stay (λc v hc q=>k c v ?_ q) (λ_ q=>q) λ_ _ q=>q
  rcases hc with z | z
  ·rw [z]; exact nit b u e
  ·exact nit c _ z
theorem Inv.pair {T:Addr} {x y:V} {u v:Value} (I:Inv X pins σ H s) (hT:H T=none) (ho:IsPair s.heap T u v) (r1:RelV x u) (r2:RelV y v)
  (hL:T≠X.env.locals) (hs0:X.s₀.heap.objs.size<=T) (hc:∀ x c,X.env.cells.lookup x=some c->c≠T) (hp:∀ p∈X.pn++pins,p.1≠T):Inv X pins σ (upd H T (.tup [x,y])) s:=by
 have ne:∀ {b:Addr} {o:HO},H b=some o->b≠T:=λe=>dt e hT
 refine I.step (g':=s.gens) (d':=s.drawn) (t':=s.toks) (h':=s.heap) (ch:=[T]) (λb hb=>?_) (λb o _ _ _ e _=>e) (λb o _ _ _ e _=>⟨o.slots,e⟩) (λb o hb e n=>?_) (λb o _ e=>⟨o,e⟩)
  (λb xs e=>by rw [ay (ne e)]; exact e) (λb o u e=>by rw [ay (ne e)]; exact e) (λb ps e=>⟨#[],by rw [ay (ne e),e]; simp⟩) (λm hm=>hm) (λb u e=>?_) I.bare
 ·have e:b=T:=by simpa using hb
  subst e
  exact ⟨.inr hs0,hL,hc,hp⟩
 ·have hb':b≠T:=by simpa using hb
  rw [ay hb']
  exact n
 ·by_cases hb:b=T
  ·subst hb
   rw [bH] at e
   cases e
   exact ⟨by show 2<=sizeLine; decide,[_,_],.cons r1 (.cons r2 .nil),⟨_,ho,rfl,_,rfl⟩⟩
  ·rw [ay hb] at e
   exact (I.hok b u e).stay (λc v _ q=>q) (λc q=>by rw [ay (ne q)]; exact q) λc xs q=>by rw [ay (ne q)]; exact q
end
noncomputable def ck (b:Bool) (xs:Cp):HO:=match b with
 | true=>.lst xs
 | false=>.tup xs
theorem eE {P:Program} {w:World} {H:Hp} {h:Heap} (ok:HOk P w H h) {b:Bool} {a:Addr} {xs:Cp} (e:H a=some (ck b xs)):∃ its:Cn,Vals xs its/\SqAt b h a its.toArray:=by
 cases b with
 | true=>obtain ⟨_,its,n,r,q⟩:=ok a _ e; exact ⟨its,r,⟨_,q,rfl,n,rfl⟩⟩
 | false=>obtain ⟨_,its,r,q⟩:=ok a _ e; exact ⟨its,r,q⟩
end L2
set_option Elab.async false
set_option linter.all false
set_option maxRecDepth 100000
namespace L2
open AutoSeq1 (wpAny_loadPart')
section
variable {X:Cx} {tg:Expr} {PK:Pk} {a b:Expr} {i j:Cc} {p pos:Pos}
noncomputable def v9 (xs ys:Cl):Cl:=(xs.zip ys).map λ(x,y)=>.tuple [x,y]
theorem Zdj {G:Hp} {v:V} {x:PyData} {xs:Cl} (d:Dn G v x) (h:eX x=some xs):∃ b a vs,v=.ref a/\G a=some (ck b vs)/\DnAll G vs xs:=by
 cases d with
 | lst h1 h2=>cases h; exact ⟨true,_,_,rfl,h1,h2⟩
 | tup h1 h2=>cases h; exact ⟨false,_,_,rfl,h1,h2⟩
 | _=>cases h
theorem Zjr {b:Bool} {xs ys:Cp} (h:some (ck b xs)=some (ck b ys)):xs=ys:=by
 cases b <;> (cases h; rfl)
noncomputable def Zmp (i j:Cc):Cd:=λρ=>(i ρ).bind λx=>(j ρ).bind λy=>(Tr.of (eX x)).bind λxs=>(Tr.of (eX y)).bind λys=>.ret (v9 xs ys)
end
theorem ZdR {prog:Program} {w:World} {A:Around} (hh:A.handled=none) (b:Bool) (it l:Addr) (hne:l≠it) (items:Array Value):Draws prog w A it [it,l] items.size (λi v=>items[i]?=some v) (λi h=>ItAt b h it l i/\SqAt b h l items) where
 live:=λ_ _ st=>let ⟨o,ho,_⟩:=st.1.there; ⟨o,ho⟩
 frame:=λ_ _ _ st hk=>⟨st.1.at λo e=>hk it (by simp) o e,st.2.at λo e=>hk l (by simp) o e⟩
 item:=λi s Q E hi st hQ=>Zij st.1 st.2 (x:=items[i]) (by simp [hi]) λh' hit' hs'=>hQ _ h' s.toks (by simp [hi]) ⟨hit',st.2.bt hs'.extBut hne⟩ hs'
 done:=λs Q E st hE=>Zik hh st.1 st.2 (by simp) hE
theorem ZiA (b:Bool) (l:Addr) (items:Array Value) :
  Meets (Builtin.«enumerate.__new__» ⟨[.type "enumerate",.ref l],[]⟩) (λ_ R s=>SqAt b s.heap l items /\
   R (.ok (.ret (.ref (s.heap.push (gv b l)).objs.size))) { s with heap:=(s.heap.push (gv b l)).push { cls:=.type "enumerate",data:=.fields #[.none,.bool false,.ref s.heap.objs.size,rawInt 0,.none,.none] } }) :=
 .of_wp λprog w A R s h=>by
  obtain ⟨hp,g,d,tk,os⟩:=s
  obtain ⟨hl,h⟩:=h
  have hsub:=sub_enumerate
  have q:SqAt b (Shared.heap ⟨hp,g,d,tk,os⟩) l items:=hl
  have ho:∃ ob,hp.get? l=some ob:=by
   cases b with
   | true=>obtain ⟨ob,e,_⟩:=hl; exact ⟨ob,e⟩
   | false=>obtain ⟨ob,e,_⟩:=hl; exact ⟨ob,e⟩
  obtain ⟨ob,ho⟩:=ho
  wp_walk using wpAny_loadPart' ho
  refine wpAny_stack_any λst=>wpAny_pure ?_
  split
  ·rename_i c _ _ _ _ _
   cases (c == Value.type "enumerate")
   ·wp_walk using wpAny_loadPart' ho,qR q
    exact ⟨_,rfl,h⟩
   ·wp_walk using wpAny_loadPart' ho,qR q
    exact ⟨_,rfl,h⟩
  ·wp_walk using wpAny_loadPart' ho,qR q
   exact ⟨_,rfl,h⟩
section
variable {prog:Program} {w:World} {A:Around} {E:Ck} {s:Shared}
theorem Zlt {b:Bool} {l:Addr} {items:Array Value} {Q:Ck} (hl:SqAt b s.heap l items)
  (h:∀ h',IsEnum h' (s.heap.objs.size+1) s.heap.objs.size 0 .none->ItAt b h' s.heap.objs.size l 0->(∀ c o,s.heap.get? c=some o->h'.get? c=some o)->Q (.ref (s.heap.objs.size+1)) { s with heap:=h' }) :
  wpAny (model prog w) A (call (.type "enumerate") [.ref l]) Q E s:=by
 refine callType_new F.called_enumerate (by decide) (F.typeCall_enumerate_1 _) (F.newCall_enumerate_1 _) (λobj=>F.args_object_init_2 obj _) F.entry_enumerate_new (ZiA b l items) ⟨hl,?_⟩
 have n1:(s.heap.push (gv b l)).objs.size=s.heap.objs.size+1:=z8 ..
 have a2:IsEnum ((s.heap.push (gv b l)).push { cls:=.type "enumerate",data:=.fields #[.none,.bool false,.ref s.heap.objs.size,rawInt 0,.none,.none] }) (s.heap.push (gv b l)).objs.size s.heap.objs.size 0 .none:=zw _ rfl
 have a1:((s.heap.push (gv b l)).push { cls:=.type "enumerate",data:=.fields #[.none,.bool false,.ref s.heap.objs.size,rawInt 0,.none,.none] }).get? s.heap.objs.size=some (gv b l):=pi _ (zw _ (by cases b <;> rfl))
 rw [n1] at a2
 show _/\_
 rw [n1]
 exact ⟨⟨_,a2,rfl⟩,h _ a2 (x8 a1) λc o x=>pi _ (pi _ x)⟩
end
noncomputable def oI (b:Bool) (l:Addr):It :=
 ⟨λi H=>∃ xs x,H l=some (ck b xs)/\xs[i]?=some x,
  λi H v H'=>∃ xs x p,H l=some (ck b xs)/\xs[i]?=some x/\H p=none/\v=.ref p/\H'=upd H p (.tup [.int i,x]),
  λi H=>∃ xs,H l=some (ck b xs)/\xs.length=i⟩
theorem ZfL {P:Program} {w:World} {K:Cb} {elts:List Expr} {x1:Nat} {pos:Pos} {b:Bool} {l:Addr} (e it:Addr) (hne:e≠it) :
  Turn P w K (.Tuple elts x1 pos) (oI b l) [e,it] e (λi h=>(∃ old,IsEnum h e it i old)/\ItAt b h it l i) where
 mem:=by simp
 obj:=λi h st c hb=>by
  obtain ⟨⟨old,he⟩,h1⟩:=st
  simp at hb
  rcases hb with rfl | rfl
  ·exact ⟨_,he,λv q=>by cases q⟩
  ·exact h1.there
 keep:=λi h h' st k=>by
  obtain ⟨⟨old,he⟩,h1⟩:=st
  exact ⟨⟨old,k _ (by simp) _ he⟩,h1.at λo q=>k _ (by simp) o q⟩
 item:=by
  intro X hP hw hK hc i pins s σ H E I hf st hg
  subst hP hw hK
  obtain ⟨xs,x,e1,hx⟩:=hg
  obtain ⟨⟨old,he⟩,h1⟩:=st
  obtain ⟨us,r1,q1⟩:=eE I.hok e1
  obtain ⟨u,hu,ru⟩:=r1.get hx
  have nl:∀ c∈[e,it],l≠c:=λc hc=>dt e1 (hf c hc).1
  have hlt:i < us.toArray.size:=by
   have:=(zu.mp hu).1
   simpa using this
  refine wpAny_pyNext_enum_itemD (ZdR (A:=X.A.in1) (show X.A.in1.handled=none from I.ok.hd hc) b it l (nl it (by simp)) us.toArray) he ⟨h1,q1⟩ hlt hne (by simp only [zq,Ao,or_false,not_or]; exact ⟨hne,(nl e (by simp)).symm⟩) λx' h' tk hP' ho st' hT hsz kk=>?_
  have hxu:x'=u:=by
   have q:us[i]?=some x':=by simpa using hP'
   rw [hu] at q
   cases q
   rfl
  subst hxu
  refine ⟨_,rfl,wpAny_letOwnedTupleGo_enum ho λh2' z2 sb=>?_⟩
  have lt:∀ {c:Addr} {o:Obj},s.heap.get? c=some o->s.heap.objs.size≠c:=λq=>zY (zA q)
  have I1:Inv X pins σ H { s with heap:=h2',toks:=tk+1 }:=I.turns (ch:=[e,it]) (λc o hb q=>by
   simp at hb
   exact sb.extBut _ _ hb.1 (kk c o hb.1 hb.2 q)) hf
  have hTn:H s.heap.objs.size=none:=I.hok.fresh (zp _)
  have I2:=I1.pair (T:=s.heap.objs.size) (x:=.int i) (y:=x) hTn (sb.extBut _ _ (lt he) hT) ⟨tk,rfl⟩ ru (zY I.lt) I.sz
   (λq cc ee hq=>by obtain ⟨vv,zz⟩:=I.cell q cc ee; exact absurd zz.lt (by rw [hq]; exact zK _)) (λp hp hq=>absurd (zA (I.pin p hp).1) (by rw [hq]; exact zK _))
  refine ⟨.ref s.heap.objs.size,_,I2,rfl,⟨xs,x,_,e1,hx,hTn,rfl,rfl⟩,⟨⟨_,z2⟩,st'.1.at λo q=>sb.extBut _ _ (Ne.symm hne) q⟩,λc hb=>?_⟩
  have hbn:c≠s.heap.objs.size:=by
   simp at hb
   obtain ⟨o1,g1,_⟩:=h1.there
   rcases hb with rfl | rfl
   ·exact (lt he).symm
   ·exact (lt g1).symm
  rw [ay hbn]
  exact (hf c hb).1
 done:=by
  intro X hP hw hK hc i pins s σ H E I hf st hg
  subst hP hw hK
  obtain ⟨xs,e1,hend⟩:=hg
  obtain ⟨⟨old,he⟩,h1⟩:=st
  obtain ⟨us,r1,q1⟩:=eE I.hok e1
  have nl:∀ c∈[e,it],l≠c:=λc hc=>dt e1 (hf c hc).1
  have hsz:us.toArray.size=i:=by rw [zr,<- r1.length]; exact hend
  subst hsz
  refine wpAny_pyNext_enum_endD (ZdR (A:=X.A.in1) (show X.A.in1.handled=none from I.ok.hd hc) b it l (nl it (by simp)) us.toArray) he ⟨h1,q1⟩ λh' eb=>⟨rfl,?_⟩
  exact I.turns (ch:=[e,it]) (t':=s.toks) (λc o hb q=>by
   simp at hb
   exact eb c o hb.2 q) hf
 self:=λ_ _ _ _ _ st h=>by
  obtain ⟨⟨old,he⟩,_⟩:=st
  exact wpAny_pyIter_enum he h
section
variable {X:Cx} {tg:Expr} {PK:Pk} {a b:Expr} {i j:Cc} {p pos:Pos}
def Zdi (ta:TE):TI:=λσ H R=>ta σ H λx H1=>∃ b l xs,x=.ref l/\H1 l=some (ck b xs)/\R (oI b l) H1
theorem gi {elts:List Expr} {x1:Nat} {tpos:Pos} {ta:TE} (hc:X.calm=true) (hg:Gl X "enumerate") (hm:X.mg "enumerate"=none) (ha:PE X a ta)
  (hs:starEach [a] X.env=[(false,eval a X.env)]:=by rfl):PI X (.Tuple elts x1 tpos) (.Call (.Name "enumerate" p) [a] [] pos) (Zdi ta):=by
 intro pins s σ H R I h
 have hab:PA X [a] (iK ta aX):=bG ha cz (by rw [hs]; rfl)
 have h':iK ta aX σ H λvs H1=>∃ x,vs=[x]/\∃ b l xs,x=.ref l/\H1 l=some (ck b xs)/\R (oI b l) H1:=by
  have e:(λ(x:V) (H1:Hp)=>∃ b l xs,x=.ref l/\H1 l=some (ck b xs)/\R (oI b l) H1)=λx H1=>aX σ H1 λxs H2=>∃ y,x::xs=[y]/\∃ b l xs,y=.ref l/\H2 l=some (ck b xs)/\R (oI b l) H2:=by
   funext x H1
   apply propext
   constructor
   ·exact λq=>⟨x,rfl,q⟩
   ·rintro ⟨y,e,q⟩
    have e':x=y:=by simpa using e
    subst e'
    exact q
  have h0:ta σ H λx H1=>∃ b l xs,x=.ref l/\H1 l=some (ck b xs)/\R (oI b l) H1:=h
  rw [e] at h0
  exact h0
 refine Call_ (ij I hg hm boot_enumerate (Aj (thn (hab pos pins s σ H _ I h') λus s1 hz0=>?_) (by rw [hs]; rfl) rfl))
 obtain ⟨vs,H1,I1,r1,q1⟩:=hz0
 obtain ⟨x,rfl,b,l,xs,rfl,e1,q⟩:=q1
 obtain ⟨u,rfl,ru⟩:=eB r1
 cases ru
 obtain ⟨us,ru,q1⟩:=eE I1.hok e1
 refine Zlt q1 λh' z t1 kk=>?_
 have I2:Inv X pins σ H1 { s1 with heap:=h' }:=I1.kept (t':=s1.toks) kk
 refine wpAny_pyIter_enum z ⟨s1.heap.objs.size+1,[s1.heap.objs.size+1,s1.heap.objs.size],_,_,H1,rfl,I2,ZfL _ _ (λq=>absurd (show (s1.heap.objs.size+1:Nat)=s1.heap.objs.size from q) (by omega)),⟨⟨_,z⟩,t1⟩,λc hb=>?_,q⟩
 have hle:s1.heap.objs.size<=c:=by
  simp at hb
  rcases hb with rfl | rfl <;> first | exact Nat.le_add_right _ _ | exact zp _
 exact I1.fpOk hle (I1.hok.fresh hle)
noncomputable def cG (xs:Cl):Cl:=(List.range xs.length).zipWith (λ(n:Nat) x=>.tuple [.int n,x]) xs
theorem Zjd {pa:Addr} {G:Hp} {b:Bool} {l:Addr} {us:Cp} {xs:Cl} (h1:G l=some (ck b us)) (d1:DnAll G us xs):oG PK pa (oI b l) G (cG xs):=λm G2 H2 sb w=>by
 have e1:H2 l=some (ck b us):=w.sub _ _ (sb _ _ h1)
 have hlen:(cG xs).length=xs.length:=by unfold cG; simp
 refine ⟨λn d hd=>?_,us,e1,by rw [hlen,d1.length]⟩
 have hn:n < xs.length:=by rw [<- hlen]; exact (zu.mp hd).1
 have hd':d=.tuple [.int n,xs[n]]:=by
  unfold cG at hd
  rw [List.getElem?_zipWith] at hd
  simp [hn] at hd
  exact hd.symm
 subst hd'
 obtain ⟨u,hu,du⟩:=d1.get n (show xs[n]?=some xs[n] by simp [hn])
 refine ⟨⟨us,u,e1,hu⟩,λx H3 hz0=>?_⟩
 obtain ⟨us',u',p,f1,hu',hp,ex,eH⟩:=hz0
 rw [e1] at f1
 have:=Zjr f1
 subst us'
 rw [hu] at hu'
 cases hu'
 subst ex eH
 obtain ⟨w3,s3⟩:=w.new (o:=.tup [.int n,u]) hp
 exact ⟨_,s3,w3,.tup bH (.cons (.int n) (.cons ((du.mono sb).mono s3.gs) .nil))⟩
noncomputable def fe (i:Cc):Cd:=λρ=>(i ρ).bind λx=>(Tr.of (eX x)).bind λxs=>.ret (cG xs)
theorem gF {iter:Expr} (h:PI X tg iter (Zdi (TAe PK i))):PI X tg iter (dk PK (fe i)):=h.imp λσ H R0 hz0=>by
 obtain ⟨pa,Cs,H₀,m,ρ,G,R,z⟩:=hz0
 refine TAe.then R z λm1 x v G1 H1 s1 w1 R1 d1 q1=>?_
 rw [Tr.ok_bind] at q1
 obtain ⟨xs,hx,q1⟩:=Tr.ok_of q1
 obtain ⟨b1,l1,us,rfl,e1,f1⟩:=Zdj d1 hx
 exact ⟨b1,l1,us,rfl,w1.sub _ _ e1,q1 _ G1 H1 s1 w1 (Zjd e1 f1)⟩
end
end L2
set_option Elab.async false
set_option linter.all false
set_option maxRecDepth 100000
namespace L2
section
variable {prog:Program} {w:World} {A:Around}
theorem Zak (hh:A.handled=none) (b:Bool) (I ax:Addr) (hne:ax≠I) (items:Array Value):Walks prog w A I [I,ax] [I] items.size (λi v=>items[i]?=some v) (λi h=>ItAt b h I ax i/\SqAt b h ax items):=by
 cases b with
 | true=>exact Walks.list hh I ax hne items
 | false=>exact Walks.tuple hh I ax hne items
end
theorem yc {ns:Cm} {us:Cn} (r:Vals (ns.map V.int) us) {i:Nat} {v:Value} (h:us[i]?=some v):∃ t,v=.int ((ns[i]?).getD 0) t:=by
 have hi:i < us.length:=(zu.mp h).1
 have hl:us.length=ns.length:=by rw [<- r.length,zo]
 obtain ⟨u,e1,e2⟩:=r.get (i:=i) (x:=V.int ns[i]) (by simp [show i < ns.length by omega])
 rw [h] at e1
 cases e1
 obtain ⟨t,e2⟩:=e2
 exact ⟨t,by simp [show i < ns.length by omega,e2]⟩
theorem Zhv (ns:Cm):preSum (λi=>(ns[i]?).getD 0) ns.length=ns.sum:=by
 have key:∀ k,k<=ns.length->preSum (λi=>(ns[i]?).getD 0) k=(ns.take k).sum:=by
  intro k
  induction k with
  | zero=>intro _; simp [preSum]
  | succ k ih =>
   intro hk
   rw [preSum,ih (by omega),BN,List.sum_append]
   simp [show k < ns.length by omega]
 rw [key _ (zp _),BB]
section
variable {X:Cx} {PK:Pk}
theorem iw (hc:X.calm=true):cS X (.builtin "sum") (λxs H Q=>∃ (b:Bool) (l:Addr) (ns:Cm),xs=[.ref l]/\H l=some (ck b (ns.map V.int))/\Q (.int ns.sum) H):=by
 intro pins s σ H xs us Q I r h
 obtain ⟨b,l,ns,rfl,e1,q⟩:=h
 obtain ⟨u,rfl,ru⟩:=eB r
 cases ru
 obtain ⟨vs,rv,sq⟩:=eE I.hok e1
 have hlt:l < s.heap.objs.size:=I.hok.lt e1
 refine call_sum_walkG (qR sq ?_)
 refine ⟨s.heap.objs.size,[s.heap.objs.size,l],[s.heap.objs.size],vs.toArray.size,_,_,λi=>(ns[i]?).getD 0,rfl,Zak (A:=X.A.in1) (I.ok.hd hc) b _ l (zD hlt) vs.toArray,
  ⟨x8 (zw _ (by cases b <;> rfl)),sq.push _⟩,λc hc=>?_,λi v hv=>yc rv (by simpa using hv),λh' tk t' hk=>?_⟩
 ·rw [z8]
  simp at hc
  rcases hc with rfl | rfl
  ·exact BA _
  ·exact AQ hlt
 ·refine ⟨.int ns.sum,H,I.kept (t':=tk) λc o e=>hk c o (λz=>?_) (pi _ e),⟨t',?_⟩,q⟩
  ·have:c=s.heap.objs.size:=by simpa using z
   subst this
   exact zK _ (zA e)
  ·have e:vs.toArray.size=ns.length:=by rw [zr,<- rv.length,zo]
   rw [e,Zhv]
noncomputable def eK:List Int->Int
 | []=>0
 | [n]=>n
 | n::m::r=>c9 (eK (m::r)) n
theorem rf:∀ {ns:Cm},ns≠[]->eK ns∈ns/\∀ m∈ns,m<=eK ns
 | [],h=>absurd rfl h
 | [n],_=>⟨by simp [eK],by simp [eK]⟩
 | n::m::r,_=>by
  obtain ⟨h1,h2⟩:=rf (ns:=m::r) (by simp)
  unfold eK c9
  split
  ·refine ⟨by simp,λk hk=>?_⟩
   rcases zq.mp hk with rfl | hk
   ·exact zU _
   ·have:=h2 k hk; omega
  ·refine ⟨Mt _ h1,λk hk=>?_⟩
   rcases zq.mp hk with rfl | hk
   ·omega
   ·exact h2 k hk
theorem ZeK (f:Nat->Int):∀ k,argBest (λi j=>decide (f i > f j)) k<=k/\∀ j,j<=k->f j<=f (argBest (λi j=>decide (f i > f j)) k)
 | 0=>⟨zp _,λj hj=>by
  have:j=0:=by omega
  subst this
  exact zU _⟩
 | k+1=>by
  obtain ⟨h1,h2⟩:=ZeK f k
  unfold argBest
  by_cases hc:f (k+1) > f (argBest (λi j=>decide (f i > f j)) k)
  ·rw [if_pos (by simpa using hc)]
   refine ⟨zp _,λj hj=>?_⟩
   rcases Nat.lt_or_eq_of_le hj with h | h
   ·have:=h2 j (by omega); omega
   ·subst h; exact zU _
  ·rw [if_neg (by simpa using hc)]
   refine ⟨by omega,λj hj=>?_⟩
   rcases Nat.lt_or_eq_of_le hj with h | h
   ·exact h2 j (by omega)
   ·subst h; omega
theorem Zeq (hc:X.calm=true):cS X (.builtin "max") (λxs H Q=>∃ (b:Bool) (l:Addr) (ns:Cm),xs=[.ref l]/\H l=some (ck b (ns.map V.int))/\ns≠[]/\Q (.int (eK ns)) H):=by
 intro pins s σ H xs us Q I r h
 obtain ⟨b,l,ns,rfl,e1,hne,q⟩:=h
 obtain ⟨u,rfl,ru⟩:=eB r
 cases ru
 obtain ⟨vs,rv,sq⟩:=eE I.hok e1
 have hlt:l < s.heap.objs.size:=I.hok.lt e1
 have hsz:vs.toArray.size=ns.length:=by rw [zr,<- rv.length,zo]
 have hpos:0 < ns.length:=Br.mpr hne
 refine call_max_walk (qR sq ?_)
 refine ⟨s.heap.objs.size,[s.heap.objs.size,l],[s.heap.objs.size],vs.toArray.size,_,_,λi j=>decide ((ns[i]?).getD 0 > (ns[j]?).getD 0),rfl,Zak (A:=X.A.in1) (I.ok.hd hc) b _ l (zD hlt) vs.toArray,
  ⟨x8 (zw _ (by cases b <;> rfl)),sq.push _⟩,λc hc=>?_,by omega,CmpOf.ints_gt (λi=>(ns[i]?).getD 0) (λi v hv=>yc rv (by simpa using hv)),λv h' tk hv hk=>?_⟩
 ·rw [z8]
  simp at hc
  rcases hc with rfl | rfl
  ·exact BA _
  ·exact AQ hlt
 ·obtain ⟨t,rfl⟩:=yc rv (by rw [<- List.getElem?_toArray]; exact hv)
  obtain ⟨b1,b2⟩:=ZeK (λi=>(ns[i]?).getD 0) (vs.toArray.size - 1)
  obtain ⟨m1,m2⟩:=rf hne
  refine ⟨.int (eK ns),H,I.kept (t':=tk) λc o e=>hk c o (λz=>?_) (pi _ e),⟨t,?_⟩,q⟩
  ·have:c=s.heap.objs.size:=by simpa using z
   subst this
   exact zK _ (zA e)
  ·congr 1
   obtain ⟨i,hi,ei⟩:=List.getElem_of_mem m1
   have h1:=b2 i (by omega)
   simp only [hi,zP,AD,ei] at h1
   have hb:argBest (λi j=>decide ((ns[i]?).getD 0 > (ns[j]?).getD 0)) (vs.toArray.size - 1) < ns.length:=by omega
   have h2:=m2 _ (List.getElem_mem hb)
   simp only [hb,zP,AD] at h1 ⊢
   omega
noncomputable def bools?:List PyData->Option (List Bool)
 | []=>some []
 | .bool n::xs=>(bools? xs).bind λns=>some (n::ns)
 | _=>none
@[simp] theorem bools?_map:∀ ns:List Bool,bools? (ns.map PyData.bool)=some ns
 | []=>rfl
 | n::ns=>by rw [zm,bools?,bools?_map ns]; rfl
noncomputable def eW {α:Type} (p:List PyData->Option α) (f:α->Option PyData):List PyData->Option PyData
 | [x]=>(eX x).bind λxs=>(p xs).bind f
 | _=>none
noncomputable def c6:List PyData->Option PyData:=eW ints? λns=>some (.int ns.sum)
noncomputable def ia:List PyData->Option PyData:=eW ints? λns=>if (!ns.isEmpty)=true then some (.int (eK ns)) else none
noncomputable def Ze2:List PyData->Option PyData:=eW bools? λns=>some (.bool (ns.all id))
noncomputable def Ze1:List PyData->Option PyData:=eW bools? λns=>some (.bool (ns.any id))
theorem Zco {α:Type} {p:List PyData->Option α} {f:α->Option PyData} {G:Hp} {vs:Cp} {ds:Cl} {d:PyData} (hv:DnAll G vs ds) (h:eW p f ds=some d):∃ b l us xs y,vs=[.ref l]/\G l=some (ck b us)/\DnAll G us xs/\p xs=some y/\f y=some d:=by
 unfold eW at h
 split at h
 ·rename_i x
  cases hx:eX x with
  | none=>rw [hx] at h; cases h
  | some xs =>
   rw [hx] at h
   have h':(p xs).bind f=some d:=h
   cases hp:p xs with
   | none=>rw [hp] at h'; cases h'
   | some y =>
    rw [hp] at h'
    cases hv with
    | cons h1 h2 =>
     cases h2
     obtain ⟨b,l,us,rfl,e1,e2⟩:=Zdj h1 hx
     exact ⟨b,l,us,xs,y,rfl,e1,e2,hp,h'⟩
 ·cases h
theorem gN:eO (λxs H Q=>∃ (b:Bool) (l:Addr) (ns:Cm),xs=[.ref l]/\H l=some (ck b (ns.map V.int))/\Q (.int ns.sum) H) c6:=λPK pa m G H vs ds d Q w hv hd k=>by
 obtain ⟨b,l,us,xs,ns,rfl,e1,e2,hp,hf⟩:=Zco hv hd
 obtain ⟨rfl,rfl⟩:=e2.ints_inv hp
 cases hf
 exact ⟨b,l,ns,rfl,w.sub _ _ e1,k.here w (.int _)⟩
theorem Zao:eO (λxs H Q=>∃ (b:Bool) (l:Addr) (ns:Cm),xs=[.ref l]/\H l=some (ck b (ns.map V.int))/\ns≠[]/\Q (.int (eK ns)) H) ia:=λPK pa m G H vs ds d Q w hv hd k=>by
 obtain ⟨b,l,us,xs,ns,rfl,e1,e2,hp,hf⟩:=Zco hv hd
 obtain ⟨rfl,rfl⟩:=e2.ints_inv hp
 split at hf
 ·rename_i hc
  cases hf
  exact ⟨b,l,ns,rfl,w.sub _ _ e1,(λz=>by subst z; cases hc),k.here w (.int _)⟩
 ·cases hf
variable {a b c e:Expr} {pos:Pos} {i j l:Cc}
noncomputable def ZmE (f g:Cj) (i j l:Cc):Cc:=λρ=>(i ρ).bind λx=>(j ρ).bind λy=>(Tr.of (f x y)).bind λz=>(Tr.of (qo z)).bind λk =>
 if k=true then (l ρ).bind λu=>Tr.of (g y u) else .ret (.bool false)
theorem Zjn:OpR X (inplaceOp .Mult) (rI CMulG λi j=>.int (i * j)):=hU λ_ _ _ _ _ _ _ hc q=>imul_int q hc.ok
theorem pip {op:Operator} {r:R2} (h:OpR X (inplaceOp op) r):vU X op r:=h
noncomputable def u3:Cj
 | .int m,.int n=>some (.int (m+n))
 | _,_=>none
theorem Zfx:dg (eU λi j=>.int (i+j)) u3:=λPK pa m G H x y dx dy dz Q w hx hy hz k=>by
 unfold u3 at hz
 split at hz
 ·cases hz; cases hx; cases hy
  exact ⟨_,_,rfl,rfl,k.here w (.int _)⟩
 ·cases hz
noncomputable def rJ:Cj
 | .int m,.int n=>if (fit m && fit n)=true then some (.int (m * n)) else none
 | _,_=>none
theorem Zfw:dg (rI CMulG λi j=>.int (i * j)) rJ:=λPK pa m G H x y dx dy dz Q w hx hy hz k=>by
 unfold rJ at hz
 split at hz
 ·split at hz
  ·rename_i hc
   rw [zL] at hc
   cases hz; cases hx; cases hy
   exact ⟨_,_,rfl,rfl,⟨of_decide_eq_true hc.1,of_decide_eq_true hc.2⟩,k.here w (.int _)⟩
  ·cases hz
 ·cases hz
end
theorem Zid {PK:Pk} {is:Cd}:∀ σ H Q,TAe PK (cb is) σ H Q->ff PK is σ H Q:=by
 intro σ H Q z
 obtain ⟨pa,Cs,H₀,m,ρ,G,R,z⟩:=z
 exact ⟨pa,Cs,H₀,m,ρ,G,R,Tr.ok_mono (Tr.ok_bind.mp z) λm1 xs k=>Ko1.of k R.wd.some⟩
theorem Zl0 {PK:Pk} {X:Cx} {st:Stmt} {is:Cd} {i:Cc} {n k:Nat} {ix:List Nat} {g:Ci} (h:PS X st (dR (oQ (dk PK is) n ix (λ_=>eu PK g) (λ_=>TAe PK i)) (eM k))) (hn:fg n g):PS X st (br PK (aS k (cb (dO is n ix g i)))) :=
 aV (h.imp (wD λσ H Q z=>xQ hn σ H Q (Zid σ H Q z)))
end L2
set_option Elab.async false
set_option linter.all false
set_option maxRecDepth 100000
namespace L2
variable {ρ:Cr} {s t:Cf} {i j l:Cc} {is:Cd} {as:List Sl->Tr Cr} {f:Cg} {p q:Ce} {k n:Nat} {x y d:PyData} {xs ys:Cl} {sl:Sl}
theorem jD:aa 0 (.d x::ρ)=.ret x:=rfl
theorem jC:aa (k+1) (sl::ρ)=aa k ρ:=rfl
theorem oA:aC d ρ=.ret d:=rfl
noncomputable def aK (g:Cj) (x y:PyData):Tr PyData:=Tr.of (g x y)
noncomputable def ZeJ (g:Cj) (j:Cc) (ρ:Cr) (x:PyData):Tr PyData:=(j ρ).bind (aK g x)
theorem nT {g:Cj}:ae g i j ρ=(i ρ).bind (ZeJ g j ρ):=rfl
theorem nS {g:Cj}:ZeJ g j ρ x=(j ρ).bind (aK g x):=rfl
theorem oo (m n:Int):aK aQ (.int m) (.int n)=.ret (.int (m+n)):=rfl
theorem gz (h1:xs.isEmpty=false) (h2:small (xs.length+ys.length)=true):aK aQ (.tuple xs) (.tuple ys)=.ret (.tuple (xs++ys)):=by
 simp [aK,aQ,h1,h2]
theorem gA (h2:small (xs.length+ys.length)=true):aK aQ (.list xs) (.list ys)=.ret (.list (xs++ys)):=by
 simp [aK,aQ,h2]
theorem jT (m n:Int):aK bF (.int m) (.int n)=.ret (.int (m - n)):=rfl
theorem lz {m n:Int} (h1:fit m=true) (h2:fit n=true):aK bz (.int m) (.int n)=.ret (.int (m * n)):=by
 simp [aK,bz,h1,h2]
theorem ve {m n:Int} (h1:n≠0) (h2:fit n=true):aK fU (.int m) (.int n)=.ret (.int (m.fdiv n)):=by
 simp [aK,fU,h1,h2]
theorem yt {m n:Int} (h1:n≠0):aK hZ (.int m) (.int n)=.ret (.int (m.fmod n)):=by
 simp [aK,hZ,h1]
theorem nz {g:Int->Int->Bool} (m n:Int):aK (df g) (.int m) (.int n)=.ret (.bool (g m n)):=rfl
theorem nc (m n:Int):aK fW (.int m) (.int n)=.ret (.bool (m == n)):=rfl
theorem ly (m n:Int):aK pB (.int m) (.int n)=.ret (.bool (!(m == n))):=rfl
theorem ng (m n:Bool):aK fW (.bool m) (.bool n)=.ret (.bool (m == n)):=rfl
theorem na (m n:Str):aK fW (.str m) (.str n)=.ret (.bool (m == n)):=rfl
theorem lx (m n:Str):aK pB (.str m) (.str n)=.ret (.bool (!(m == n))):=rfl
theorem mr (m n:Bool):aK Zjl (.bool m) (.bool n)=.ret (.bool (m == n)):=rfl
theorem mj (m n:Bool):aK Zji (.bool m) (.bool n)=.ret (.bool (!(m == n))):=rfl
theorem mq:aK Zjj x .none=.ret (.bool (pL x)):=rfl
theorem mi:aK Zjh x .none=.ret (.bool (!pL x)):=rfl
theorem md (n:Int):aK aR (.list xs) (.int n)=Tr.of (bp xs n):=rfl
theorem cV (n:Int):aK aR (.tuple xs) (.int n)=Tr.of (bp xs n):=rfl
theorem pY {α:Type} {xs:List α} {n:Int} {v:α} (h0:0<=n) (h:xs[n.toNat]?=some v):bp xs n=some v:=by
 have e:(n.toNat:Int)=n:=Int.toNat_of_nonneg h0
 rw [<- e]
 exact fI h
section
variable {α:Type} {a0 a1 a2 a3 a4 a5 a6 a7 a8:α} {r:List α}
theorem f8:bp (a0::r) 0=some a0:=fI (j:=0) rfl
theorem gD:bp (a0::a1::r) 1=some a1:=fI (j:=1) rfl
theorem gC:bp (a0::a1::a2::r) 2=some a2:=fI (j:=2) rfl
theorem iE:bp (a0::a1::a2::a3::r) 3=some a3:=fI (j:=3) rfl
theorem iD:bp (a0::a1::a2::a3::a4::r) 4=some a4:=fI (j:=4) rfl
theorem iC:bp (a0::a1::a2::a3::a4::a5::r) 5=some a5:=fI (j:=5) rfl
theorem iB:bp (a0::a1::a2::a3::a4::a5::a6::r) 6=some a6:=fI (j:=6) rfl
theorem iA:bp (a0::a1::a2::a3::a4::a5::a6::a7::r) 7=some a7:=fI (j:=7) rfl
theorem iz:bp (a0::a1::a2::a3::a4::a5::a6::a7::a8::r) 8=some a8:=fI (j:=8) rfl
end
noncomputable def Zct:PyData->Tr PyData
 | .int n=>.ret (.int (-n))
 | _=>.fail
theorem lv:fc i ρ=(i ρ).bind Zct:=by
 unfold fc
 refine congrArg (Tr.bind (i ρ)) (funext λx=>?_)
 cases x <;> rfl
theorem lu (n:Int):Zct (.int n)=.ret (.int (-n)):=rfl
noncomputable def wA (x:PyData):Tr Bool:=Tr.of (qo x)
theorem jS:bX i ρ=(i ρ).bind wA:=rfl
theorem jL (b:Bool):wA (.bool b)=.ret b:=rfl
noncomputable def oP (x:PyData):Tr Bool:=Tr.of (Zax x)
theorem jR:qc i ρ=(i ρ).bind oP:=rfl
theorem jQ (b:Bool):oP (.bool b)=.ret b:=rfl
theorem jP (n:Int):oP (.int n)=.ret (n != 0):=rfl
theorem jO:oP (.list xs)=.ret (!xs.isEmpty):=rfl
theorem jM:oP (.tuple xs)=.ret (!xs.isEmpty):=rfl
theorem jN:oP .none=.ret false:=rfl
noncomputable def yO (q:Ce) (ρ:Cr) (b:Bool):Tr Bool:=if b=true then q ρ else .ret false
noncomputable def xp (q:Ce) (ρ:Cr) (b:Bool):Tr Bool:=if b=true then .ret true else q ρ
noncomputable def Zcr (b:Bool):Tr Bool:=.ret (!b)
theorem oh:vQ p q ρ=(p ρ).bind (yO q ρ):=rfl
theorem li:yZ p q ρ=(p ρ).bind (xp q ρ):=rfl
theorem lq:si p ρ=(p ρ).bind Zcr:=rfl
theorem oa:yO q ρ true=q ρ:=rfl
theorem og:yO q ρ false=.ret false:=rfl
theorem lg:xp q ρ true=.ret true:=rfl
theorem lh:xp q ρ false=q ρ:=rfl
theorem lp (b:Bool):Zcr b=.ret (!b):=rfl
noncomputable def yN (j:Cc) (ρ:Cr) (b:Bool):Tr PyData:=if b=true then j ρ else .ret (.bool false)
noncomputable def xo (j:Cc) (ρ:Cr) (b:Bool):Tr PyData:=if b=true then .ret (.bool true) else j ρ
noncomputable def Zcp (b:Bool):Tr PyData:=.ret (.bool (!b))
theorem n9:ZmL i j ρ=(bX i ρ).bind (yN j ρ):=rfl
theorem lf:Zmx i j ρ=(bX i ρ).bind (xo j ρ):=rfl
theorem lm:Zmy i ρ=(bX i ρ).bind Zcp:=rfl
theorem n6:yN j ρ true=j ρ:=rfl
theorem n8:yN j ρ false=.ret (.bool false):=rfl
theorem lb:xo j ρ true=.ret (.bool true):=rfl
theorem lc:xo j ρ false=j ρ:=rfl
theorem ll (b:Bool):Zcp b=.ret (.bool (!b)):=rfl
noncomputable def yj (i j:Cc) (ρ:Cr) (b:Bool):Tr PyData:=if b=true then i ρ else j ρ
theorem mO:y4 p i j ρ=(p ρ).bind (yj i j ρ):=rfl
theorem mL:yj i j ρ true=i ρ:=rfl
theorem mM:yj i j ρ false=j ρ:=rfl
noncomputable def vq (g:Cj) (l:Cc) (ρ:Cr) (y:PyData) (k:Bool):Tr PyData:=if k=true then (l ρ).bind (aK g y) else .ret (.bool false)
noncomputable def yD (g:Cj) (l:Cc) (ρ:Cr) (y z:PyData):Tr PyData:=(wA z).bind (vq g l ρ y)
noncomputable def yE (f g:Cj) (l:Cc) (ρ:Cr) (x y:PyData):Tr PyData:=(aK f x y).bind (yD g l ρ y)
noncomputable def ch1 (f g:Cj) (j l:Cc) (ρ:Cr) (x:PyData):Tr PyData:=(j ρ).bind (yE f g l ρ x)
theorem nA {f g:Cj}:ZmE f g i j l ρ=(i ρ).bind (ch1 f g j l ρ):=rfl
theorem nG {f g:Cj}:ch1 f g j l ρ x=(j ρ).bind (yE f g l ρ x):=rfl
theorem nF {f g:Cj}:yE f g l ρ x y=(aK f x y).bind (yD g l ρ y):=rfl
theorem nE {g:Cj} (b:Bool):yD g l ρ y (.bool b)=vq g l ρ y b:=rfl
theorem nC {g:Cj}:vq g l ρ y true=(l ρ).bind (aK g y):=rfl
theorem nD {g:Cj}:vq g l ρ y false=.ret (.bool false):=rfl
noncomputable def yC (x:PyData) (xs:Cl):Tr Cl:=.ret (x::xs)
noncomputable def Zeg (is:Cd) (ρ:Cr) (x:PyData):Tr Cl:=(is ρ).bind (yC x)
theorem lr:am ρ=.ret []:=rfl
theorem nw:ag i is ρ=(i ρ).bind (Zeg is ρ):=rfl
theorem nv:Zeg is ρ x=(is ρ).bind (yC x):=rfl
theorem nu:yC x xs=.ret (x::xs):=rfl
noncomputable def wz (xs:Cl):Tr PyData:=if small xs.length=true then .ret (.tuple xs) else .fail
theorem jK:bR is ρ=(is ρ).bind wz:=rfl
theorem jJ (h:small xs.length=true):wz xs=.ret (.tuple xs):=by unfold wz; rw [if_pos h]
noncomputable def ZcL (xs:Cl):Tr PyData:=.ret (.list xs)
theorem lK:cb is ρ=(is ρ).bind ZcL:=rfl
theorem lJ:ZcL xs=.ret (.list xs):=rfl
noncomputable def xI (xs:Cl):Tr Cl:=if small xs.length=true then .ret xs else .fail
theorem lM:di is ρ=(is ρ).bind xI:=rfl
theorem lL (h:small xs.length=true):xI xs=.ret xs:=by unfold xI; rw [if_pos h]
theorem bM {n:Nat} (h:n<=10000):small n=true:=decide_eq_true (zE h (by decide))
noncomputable def bw (g:List PyData->Option PyData) (xs:Cl):Tr PyData:=Tr.of (g xs)
noncomputable def rS (g:List PyData->Option Cl) (xs:Cl):Tr Cl:=Tr.of (g xs)
theorem nM {g:List PyData->Option PyData}:bi g is ρ=(is ρ).bind (bw g):=rfl
theorem nJ {g:List PyData->Option Cl}:vN g is ρ=(is ρ).bind (rS g):=rfl
theorem lP:bw db [.list xs]=.ret (.int xs.length):=rfl
theorem eN:bw db [.tuple xs]=.ret (.int xs.length):=rfl
theorem oq (n:Int):bw qb [.int n]=.ret (.int (vH n)):=rfl
theorem lC (m n:Int):bw h9 [.int m,.int n]=.ret (.int (c9 m n)):=rfl
theorem lA (m n:Int):bw rb [.int m,.int n]=.ret (.int (i6 m n)):=rfl
theorem mv (n:Int):bw pM [.int n]=.ret (.int n):=rfl
theorem mw (b:Bool):bw pM [.bool b]=.ret (.int (if b then 1 else 0)):=rfl
theorem jI:bw fN [.list xs]=.ret (.tuple xs):=rfl
theorem jE:bw fN [.tuple xs]=.ret (.tuple xs):=rfl
theorem lH:rS ZcK [.list xs]=.ret xs:=rfl
theorem lD:rS ZcK [.tuple xs]=.ret xs:=rfl
theorem fV (ns:Cm):bw c6 [.list (ns.map .int)]=.ret (.int ns.sum):=by
 unfold bw c6 eW
 simp
theorem gx (ns:Cm):bw c6 [.tuple (ns.map .int)]=.ret (.int ns.sum):=by
 unfold bw c6 eW
 simp
theorem lB (ns:Cm) (h:ns.isEmpty=false):bw ia [.list (ns.map .int)]=.ret (.int (eK ns)):=by
 have h':ns≠[]:=λz=>by subst z; cases h
 unfold bw ia eW
 simp [h']
theorem oi (ns:List Bool):bw Ze2 [.list (ns.map .bool)]=.ret (.bool (ns.all id)):=by
 unfold bw Ze2 eW
 simp
theorem n5 (ns:List Bool):bw Ze1 [.list (ns.map .bool)]=.ret (.bool (ns.any id)):=by
 unfold bw Ze1 eW
 simp
noncomputable def Zc7 (T:String) (x:PyData):Tr PyData:=.ret (.bool (x9 T (ww x)))
theorem mn {T:String}:ZmC T i ρ=(i ρ).bind (Zc7 T):=rfl
theorem ml {T:String}:Zc7 T x=.ret (.bool (x9 T (ww x))):=rfl
noncomputable def dH (x:PyData) (lo:Option Int) (hi:Option Int):Tr PyData:=Tr.of (Za0 x lo hi)
noncomputable def dI (q:fK) (ρ:Cr) (x:PyData) (lo:Option Int):Tr PyData:=(q ρ).bind (dH x lo)
noncomputable def sl1 (p q:fK) (ρ:Cr) (x:PyData):Tr PyData:=(p ρ).bind (dI q ρ x)
theorem jY {p q:fK}:dh i p q ρ=(i ρ).bind (sl1 p q ρ):=rfl
theorem jX {p q:fK}:sl1 p q ρ x=(p ρ).bind (dI q ρ x):=rfl
theorem jW {q:fK} {lo:Option Int}:dI q ρ x lo=(q ρ).bind (dH x lo):=rfl
theorem jV {lo hi:Option Int}:dH (.list xs) lo hi=.ret (.list (dB xs lo hi)):=rfl
theorem jU {lo hi:Option Int}:dH (.tuple xs) lo hi=.ret (.tuple (dB xs lo hi)):=rfl
theorem k7:dF ρ=.ret none:=rfl
noncomputable def pa1:PyData->Tr (Option Int)
 | .int n=>.ret (some n)
 | _=>.fail
theorem kZ:cZ i ρ=(i ρ).bind pa1:=by
 unfold cZ
 refine congrArg (Tr.bind (i ρ)) (funext λx=>?_)
 cases x <;> rfl
theorem kY (n:Int):pa1 (.int n)=.ret (some n):=rfl
noncomputable def wx (xs:Cl):Tr PyData:=(Tr.of (oX xs)).bind λys=>.ret (.tuple ys)
theorem jH:Zmr is ρ=(is ρ).bind wx:=rfl
theorem jG {lo hi:Int} (h:t5 lo hi=true):wx [.int lo,.int hi]=.ret (.tuple (aZ lo hi)):=by
 simp [wx,oX,h]
noncomputable def xG (xs:Cl):Tr Cl:=Tr.of (oX xs)
theorem lG:ZmA is ρ=(is ρ).bind xG:=rfl
theorem lF {lo hi:Int} (h:t5 lo hi=true):xG [.int lo,.int hi]=.ret (aZ lo hi):=by
 simp [xG,oX,h]
theorem ow:az ρ=.ret []:=rfl
noncomputable def sa (x:Sl) (xs:Cr):Tr Cr:=.ret (x::xs)
noncomputable def vI (as:List Sl->Tr Cr) (ρ:Cr) (x:PyData):Tr Cr:=(as ρ).bind (sa (.d x))
theorem ox:af i as ρ=(i ρ).bind (vI as ρ):=rfl
theorem oz:vI as ρ x=(as ρ).bind (sa (.d x)):=rfl
theorem oy {xs:Cr}:sa sl xs=.ret (sl::xs):=rfl
noncomputable def pg:Nat->List Sl->Tr Unit
 | 0,.pen::_=>.ret ()
 | k+1,_::ρ=>pg k ρ
 | _,_=>.fail
theorem kU:pg 0 (.pen::ρ)=.ret ():=rfl
theorem kT:pg (k+1) (sl::ρ)=pg k ρ:=rfl
noncomputable def aap (as:List Sl->Tr Cr) (ρ:Cr) (_:Unit):Tr Cr:=(as ρ).bind (sa .pen)
theorem ou:b5 k as ρ=(pg k ρ).bind (aap as ρ):=by
 have key:∀ (k:Nat) (σ:Cr) (as:List Sl->Tr Cr) (ρ:Cr),(match σ[k]? with | some Sl.pen=>(as ρ).bind λxs=>Tr.ret (Sl.pen::xs) | _=>Tr.fail)=(pg k σ).bind (aap as ρ):=by
  intro k
  induction k with
  | zero =>
   intro σ as ρ
   cases σ with
   | nil=>rfl
   | cons s r=>cases s <;> rfl
  | succ k ih =>
   intro σ as ρ
   cases σ with
   | nil=>rfl
   | cons s r=>exact ih r as ρ
 exact key k ρ as ρ
theorem ot (u:Unit):aap as ρ u=(as ρ).bind (sa .pen):=rfl
theorem nO:aA f as ρ=(as ρ).bind f:=rfl
noncomputable def re1 (r:Re):Tr PyData:=.ret r.val
theorem kS:aE f ρ=(f ρ).bind re1:=rfl
theorem kR (r:Re):re1 r=.ret r.val:=rfl
theorem nk {as:Cr} (h:as.length=n):bA n k s as=(s (as++List.replicate k .un)).bind vc:=by
 unfold bA
 rw [if_pos (decide_eq_true h)]
theorem m7:vc (.next ρ)=.ret (.d .none):=rfl
theorem mZ (r:Re):vc (.ret r)=.ret r:=rfl
noncomputable def qx (t:Cf):Ou->Tr Ou
 | .next ρ=>t ρ
 | o=>.ret o
theorem kn:aq s t ρ=(s ρ).bind (qx t):=by
 unfold aq
 refine congrArg (Tr.bind (s ρ)) (funext λo=>?_)
 cases o <;> rfl
theorem kj:qx t (.next ρ)=t ρ:=rfl
theorem ki (r:Re):qx t (.ret r)=.ret (.ret r):=rfl
theorem km:qx t (.brk ρ)=.ret (.brk ρ):=rfl
theorem kl:qx t (.cont ρ)=.ret (.cont ρ):=rfl
theorem jZ:d8 ρ=.ret (.next ρ):=rfl
theorem nP:ZmJ ρ=.ret (.brk ρ):=rfl
theorem nr:ZmD ρ=.ret (.cont ρ):=rfl
noncomputable def yg (s t:Cf) (ρ:Cr) (b:Bool):Tr Ou:=if b=true then s ρ else t ρ
theorem mG:eh p s t ρ=(p ρ).bind (yg s t ρ):=rfl
theorem mE:yg s t ρ true=s ρ:=rfl
theorem mF:yg s t ρ false=t ρ:=rfl
noncomputable def Zbs (x:PyData):Tr Ou:=.ret (.ret (.d x))
theorem kQ:bW i ρ=(i ρ).bind Zbs:=rfl
theorem kP:Zbs x=.ret (.ret (.d x)):=rfl
noncomputable def Zbr (xs:Cl):Tr Ou:=.ret (.ret (.own xs))
theorem kO:Zmw is ρ=(is ρ).bind Zbr:=rfl
theorem kN:Zbr xs=.ret (.ret (.own xs)):=rfl
noncomputable def Zbq (r:Re):Tr Ou:=.ret (.ret r)
theorem kM:vJ f ρ=(f ρ).bind Zbq:=rfl
theorem kL (r:Re):Zbq r=.ret (.ret r):=rfl
theorem kK:dE 0 (.d x::ρ)=.ret (.ret (.d x)):=rfl
theorem kJ:dE 0 (.own xs::ρ)=.ret (.ret (.own xs)):=rfl
theorem kI:dE (k+1) (sl::ρ)=dE k ρ:=rfl
noncomputable def sT (k:Nat) (ρ:Cr) (x:PyData):Tr Ou:=.ret (.next (ρ.set k (.d x)))
theorem kh:aS k i ρ=(i ρ).bind (sT k ρ):=rfl
theorem kg:sT k ρ x=.ret (.next (ρ.set k (.d x))):=rfl
noncomputable def Za7 (k:Nat) (ρ:Cr) (x:Cl):Tr Ou:=.ret (.next (ρ.set k (.own x)))
theorem ke:fJ k is ρ=(is ρ).bind (Za7 k ρ):=rfl
theorem kc:Za7 k ρ xs=.ret (.next (ρ.set k (.own xs))):=rfl
noncomputable def wT (k:Nat) (ρ:Cr) (r:Re):Tr Ou:=.ret (.next (ρ.set k (Za3 r)))
theorem ka:Zmt k f ρ=(f ρ).bind (wT k ρ):=rfl
theorem j9:wT k ρ (.d x)=.ret (.next (ρ.set k (.d x))):=rfl
theorem j8:wT k ρ (.own xs)=.ret (.next (ρ.set k (.own xs))):=rfl
theorem jc {α:Type} {a b:α} {r:List α}:(a::r).set 0 b=b::r:=rfl
theorem jb {α:Type} {a b:α} {r:List α}:(a::r).set (k+1) b=a::r.set k b:=rfl
noncomputable def yK (g:Cj) (k:Nat) (ρ:Cr) (x y:PyData):Tr Ou:=(aK g x y).bind (sT k ρ)
noncomputable def ZeO (g:Cj) (k:Nat) (i:Cc) (ρ:Cr) (x:PyData):Tr Ou:=(i ρ).bind (yK g k ρ x)
theorem nW {g:Cj}:sr g k i ρ=(aa k ρ).bind (ZeO g k i ρ):=rfl
theorem nV {g:Cj}:ZeO g k i ρ x=(i ρ).bind (yK g k ρ x):=rfl
theorem nU {g:Cj}:yK g k ρ x y=(aK g x y).bind (sT k ρ):=rfl
theorem mP (m n:Int):aK u3 (.int m) (.int n)=.ret (.int (m+n)):=rfl
theorem mD {m n:Int} (h1:fit m=true) (h2:fit n=true):aK rJ (.int m) (.int n)=.ret (.int (m * n)):=by
 simp [aK,rJ,h1,h2]
noncomputable def fv:Nat->List Sl->Tr Cl
 | 0,.own xs::_=>.ret xs
 | k+1,_::ρ=>fv k ρ
 | _,_=>.fail
theorem la:fv 0 (.own xs::ρ)=.ret xs:=rfl
theorem k9:fv (k+1) (sl::ρ)=fv k ρ:=rfl
theorem pA {β:Type} {g:List PyData->Tr β}:∀ (k:Nat) (σ:Cr),(match σ[k]? with | some (Sl.own xs)=>g xs | _=>Tr.fail)=(fv k σ).bind g
 | 0,[]=>rfl
 | 0,s::r=>by cases s <;> rfl
 | k+1,[]=>rfl
 | k+1,s::r=>pA k r
noncomputable def vF (k:Nat) (ρ:Cr) (xs:Cl) (x:PyData):Tr Ou:=if small (xs.length+1)=true then .ret (.next (ρ.set k (.own (xs++[x])))) else .fail
noncomputable def Ze0 (k:Nat) (i:Cc) (ρ:Cr) (xs:Cl):Tr Ou:=(i ρ).bind (vF k ρ xs)
theorem n4:iH k i ρ=(fv k ρ).bind (Ze0 k i ρ):=pA k ρ
theorem n0:Ze0 k i ρ xs=(i ρ).bind (vF k ρ xs):=rfl
theorem nZ (h:small (xs.length+1)=true):vF k ρ xs x=.ret (.next (ρ.set k (.own (xs++[x])))):=by unfold vF; rw [if_pos h]
noncomputable def Zbp (k:Nat) (ρ:Cr) (xs:Cl):Tr Ou:=.ret (.next (ρ.set k (.own xs.reverse)))
theorem kH:sg k ρ=(fv k ρ).bind (Zbp k ρ):=pA k ρ
theorem kG:Zbp k ρ xs=.ret (.next (ρ.set k (.own xs.reverse))):=rfl
theorem mQ:oE k s ρ=s (fz k ρ):=rfl
theorem jt:fz 0 (.own xs::ρ)=.d (.list xs)::ρ:=rfl
theorem ju:fz 0 (.d x::ρ)=.d x::ρ:=rfl
theorem js:fz 0 (.pen::ρ)=.pen::ρ:=rfl
theorem jr:fz 0 (.un::ρ)=.un::ρ:=rfl
theorem jv:fz (k+1) (sl::ρ)=sl::fz k ρ:=by
 unfold fz
 rw [zZ]
 cases h:ρ[k]? with
 | none=>rfl
 | some s=>cases s <;> rfl
noncomputable def xx (ρ:Cr):Tr Ou:=.ret (.next ρ)
noncomputable def ZeQ (g:Ci) (ρ:Cr) (x:PyData):Tr Ou:=(Tr.of (g x ρ)).bind xx
theorem nY {g:Ci}:oF g i ρ=(i ρ).bind (ZeQ g ρ):=rfl
theorem nX {g:Ci}:ZeQ g ρ x=(Tr.of (g x ρ)).bind xx:=rfl
theorem lj:xx ρ=.ret (.next ρ):=rfl
theorem jm:aj k x ρ=some (ρ.set k (.d x)):=rfl
theorem jk {gs:Ch}:bc gs (.tuple xs) ρ=gs xs ρ:=rfl
theorem jn:bb [] ρ=some ρ:=rfl
theorem jq {g:Ci} {gs:Ch}:aw g gs (x::xs) ρ=(g x ρ).bind (gs xs):=rfl
theorem jl {α β:Type} {a:α} {g:α->Option β}:(some a).bind g=g a:=rfl
noncomputable def Zcj (k n:Nat) (ρ:Cr):List PyData->Tr Ou
 | [x,y]=>.ret (.next ((ρ.set k (.d x)).set n (.d y)))
 | _=>.fail
theorem kX:oC k n is ρ=(is ρ).bind (Zcj k n ρ):=by
 unfold oC
 refine congrArg (Tr.bind (is ρ)) (funext λxs=>?_)
 match xs with
 | []=>rfl
 | [_]=>rfl
 | [_,_]=>rfl
 | _::_::_::_=>rfl
theorem kW:Zcj k n ρ [x,y]=.ret (.next ((ρ.set k (.d x)).set n (.d y))):=rfl
noncomputable def dW (x:PyData):Tr Cl:=Tr.of (eX x)
theorem mh:d9 i ρ=(i ρ).bind dW:=rfl
theorem mf:dW (.list xs)=.ret xs:=rfl
theorem me:dW (.tuple xs)=.ret xs:=rfl
noncomputable def eI (xs:Cl):Tr Cl:=Tr.of (oZ xs)
noncomputable def gY (xs:Cl):Tr Cl:=Tr.of (oY xs)
theorem kA:gI is ρ=(is ρ).bind eI:=rfl
theorem kz:gH is ρ=(is ρ).bind gY:=rfl
theorem cK {n:Int} (h1:-1000000000000<=n) (h2:n<=1000000000000):cL n=true:=decide_eq_true (by omega)
theorem ip {n:Int} (h:cL n=true):eI [.int n]=.ret (aZ 0 n):=by
 simp [eI,oZ,h]
theorem pS {m n:Int} (h1:cL m=true) (h2:cL n=true):gY [.int m,.int n]=.ret (aZ m n):=by
 simp [gY,oY,h1,h2]
noncomputable def wa (xs:Cl) (ys:Cl):Tr Cl:=.ret (v9 xs ys)
noncomputable def wb (y:PyData) (xs:Cl):Tr Cl:=(dW y).bind (wa xs)
noncomputable def wc (x y:PyData):Tr Cl:=(dW x).bind (wb y)
noncomputable def Zab (j:Cc) (ρ:Cr) (x:PyData):Tr Cl:=(j ρ).bind (wc x)
theorem jB:Zmp i j ρ=(i ρ).bind (Zab j ρ):=rfl
theorem jA:Zab j ρ x=(j ρ).bind (wc x):=rfl
theorem jz:wc x y=(dW x).bind (wb y):=rfl
theorem jx:wb y xs=(dW y).bind (wa xs):=rfl
theorem jw:wa xs ys=.ret (v9 xs ys):=rfl
noncomputable def yu (xs:Cl):Tr Cl:=.ret (cG xs)
noncomputable def ZdC (x:PyData):Tr Cl:=(dW x).bind yu
theorem nh:fe i ρ=(i ρ).bind ZdC:=rfl
theorem nj:ZdC x=(dW x).bind yu:=rfl
theorem ni:yu xs=.ret (cG xs):=rfl
noncomputable def Zdr (g:Ci) (s:Cf) (ρ:Cr) (xs:Cl):Tr Ou:=bJ g s xs ρ
theorem mV {g:Ci}:cF is g s ρ=(is ρ).bind (Zdr g s ρ):=rfl
theorem mU {g:Ci}:Zdr g s ρ xs=bJ g s xs ρ:=rfl
noncomputable def pQ (g:Ci) (s:Cf) (xs:Cl):Ou->Tr Ou
 | .next ρ=>bJ g s xs ρ
 | .cont ρ=>bJ g s xs ρ
 | .brk ρ=>.ret (.next ρ)
 | .ret r=>.ret (.ret r)
noncomputable def rK (g:Ci) (s:Cf) (xs:Cl) (ρ:Cr):Tr Ou:=(s ρ).bind (pQ g s xs)
theorem io {g:Ci}:bJ g s [] ρ=.ret (.next ρ):=rfl
theorem cP {g:Ci}:bJ g s (x::xs) ρ=(Tr.of (g x ρ)).bind (rK g s xs):=by
 rw [bJ]
 refine congrArg (Tr.bind (Tr.of (g x ρ))) (funext λρ1=>?_)
 unfold rK
 refine congrArg (Tr.bind (s ρ1)) (funext λo=>?_)
 cases o <;> rfl
theorem cC {g:Ci}:rK g s xs ρ=(s ρ).bind (pQ g s xs):=rfl
theorem cm {g:Ci}:pQ g s xs (.next ρ)=bJ g s xs ρ:=rfl
theorem mS {g:Ci}:pQ g s xs (.cont ρ)=bJ g s xs ρ:=rfl
theorem mT {g:Ci}:pQ g s xs (.brk ρ)=.ret (.next ρ):=rfl
theorem mR {g:Ci} (r:Re):pQ g s xs (.ret r)=.ret (.ret r):=rfl
noncomputable def dU (g:Ci) (el:Cc) (τ:Cr) (x:PyData):Tr PyData:=(Tr.of (g x τ)).bind el
noncomputable def xS (n:Nat) (ix:List Nat) (g:Ci) (el:Cc) (ρ:Cr) (xs:Cl):Tr Cl:=if small xs.length=true then bI (dU g el (blk n ix ρ)) xs else .fail
theorem lX {ix:List Nat} {g:Ci}:dO is n ix g i ρ=(is ρ).bind (xS n ix g i ρ):=rfl
theorem lW {ix:List Nat} {g:Ci} (h:small xs.length=true):xS n ix g i ρ xs=bI (dU g i (blk n ix ρ)) xs:=by unfold xS; rw [if_pos h]
theorem lV {τ:Cr} {g:Ci}:dU g i τ x=(Tr.of (g x τ)).bind i:=rfl
theorem ZcC {h:PyData->Tr PyData} {n:Nat} {P:PyData->Prop}:∀ {xs:Cl},(∀ x∈xs,(h x).all n P)->(bI h xs).all (xs.length * n) λys=>ys.length=xs.length/\∀ y∈ys,P y
 | [],_=>⟨rfl,λy hy=>by cases hy⟩
 | x::xs,hx=>by
  have e:(x::xs).length * n=n+(xs.length * n+0):=by rw [zn,A7]; omega
  rw [e,bI]
  refine Tr.all_bind (hx x (by simp)) λy hy=>Tr.all_bind (ZcC λz hz=>hx z (Mt _ hz)) λys hys=>?_
  exact ⟨by simp [hys.1],λz hz=>by
   rcases zq.mp hz with rfl | hz
   ·exact hy
   ·exact hys.2 z hz⟩
theorem Zdq {g:Ci} {n:Nat} (I:List PyData->List Sl->Prop) {Q:Ou->Prop} :
  ∀ {xs pre:Cl} {ρ:Cr},I pre ρ->(∀ pre x post ρ,pre++x::post=pre++x::post->I pre ρ->x∈xs->∃ ρ1,g x ρ=some ρ1/\(s ρ1).all n λo=>∃ ρ2,o=.next ρ2/\I (pre++[x]) ρ2)->(∀ ρ,I (pre++xs) ρ->Q (.next ρ))->(bJ g s xs ρ).all (xs.length * n) Q
 | [],pre,ρ,h0,_,hq=>hq ρ (by rw [zN]; exact h0)
 | x::xs,pre,ρ,h0,ht,hq=>by
  obtain ⟨ρ1,e,ha⟩:=ht pre x xs ρ rfl h0 (by simp)
  have en:(x::xs).length * n=n+xs.length * n:=by rw [zn,A7]; omega
  rw [en,cP,e,Tr.of_some,Tr.ret_bind]
  unfold rK
  refine Tr.all_bind ha λo ⟨ρ2,eo,h2⟩=>?_
  subst eo
  rw [cm]
  exact Zdq I h2 (λpre y post ρ e h hy=>ht pre y post ρ e h (Mt _ hy)) (λρ h=>hq ρ (by rw [Ae] at h; exact h))
theorem Zkj {α:Type} {w:Int} {k:Int->Tr α} {n:Nat} {P:α->Prop} (h1:0 < w) (h2:w < 1073741824) (h:∀ r,0<=r->r < w->(k r).all n P):(Tr.draw w k).all (n+1) P:=⟨h1,h2,h⟩
noncomputable def xC (y:PyData) (ys:Cl):Tr Cl:=.ret (y::ys)
noncomputable def mt1 (h:PyData->Tr PyData) (xs:Cl) (y:PyData):Tr Cl:=(bI h xs).bind (xC y)
theorem iX {h:PyData->Tr PyData}:bI h []=.ret []:=rfl
theorem iY {h:PyData->Tr PyData} {x:PyData} {xs:Cl}:bI h (x::xs)=(h x).bind (mt1 h xs):=rfl
theorem i5 {h:PyData->Tr PyData} {y:PyData} {xs:Cl}:mt1 h xs y=(bI h xs).bind (xC y):=rfl
theorem iZ {y:PyData} {ys:Cl}:xC y ys=.ret (y::ys):=rfl
theorem pick {α:Type} {xs:List α} {r:Int} (h0:0<=r) (h1:r < xs.length):∃ v,bp xs r=some v/\v∈xs:=by
 have h:r.toNat < xs.length:=by omega
 exact ⟨xs[r.toNat],pY h0 (by simp [h]),List.getElem_mem h⟩
theorem xK {α:Type} {xs:List α} (h:xs.length=7):∃ a b c d e f g,xs=[a,b,c,d,e,f,g]:=by
 rcases xs with _ | ⟨a,_ | ⟨b,_ | ⟨c,_ | ⟨d,_ | ⟨e,_ | ⟨f,_ | ⟨g,_ | ⟨k,xs⟩⟩⟩⟩⟩⟩⟩⟩
 ·cases h
 ·cases h
 ·cases h
 ·cases h
 ·cases h
 ·cases h
 ·cases h
 ·exact ⟨a,b,c,d,e,f,g,rfl⟩
 ·exact absurd h (by simp)
end L2
namespace L2
@[irreducible] noncomputable def Al {α:Type} (t:Tr α) (n:Nat) (P:α->Prop):Prop:=t.all n P
section
variable {α β:Type} {t:Tr α} {n n' N:Nat} {P:α->Prop} {P':β->Prop}
theorem Al.of (h:t.all n P):Al t n P:=by unfold Al; exact h
theorem Al.out (h:Al t n P):t.all n P:=by unfold Al at h; exact h
theorem cH {a:α} (h:P a):Al (.ret a) n P:=.of h
theorem cE {w:Int} {k:Int->Tr α} (h1:0 < w) (h2:w < 1073741824) (hN:n+1<=N) (h:∀ r,0<=r->r < w->Al (k r) n P):Al (.draw w k) N P:=.of (Tr.all_mono (Zkj h1 h2 λr a b=>(h r a b).out) hN λ_ h=>h)
theorem dZ {f:α->Tr β} (h:Al t n P) (hN:n+n'<=N) (hf:∀ a,P a->Al (f a) n' P'):Al (t.bind f) N P':=.of (Tr.all_mono (Tr.all_bind h.out λa ha=>(hf a ha).out) hN λ_ h=>h)
theorem Zmc {Q:α->Prop} (h:Al t n P) (hN:n<=N) (hq:∀ a,P a->Q a):Al t N Q:=.of (Tr.all_mono h.out hN hq)
theorem Zmd {g:Ci} {s:Cf} {xs:Cl} {ρ:Cr} {Q:Ou->Prop} (I:List Sl->Prop) (h0:I ρ) (hN:xs.length * n<=N) (ht:∀ x ρ,x∈xs->I ρ->∃ ρ1,g x ρ=some ρ1/\Al (s ρ1) n λo=>∃ ρ2,o=.next ρ2/\I ρ2) (hq:∀ ρ,I ρ->Q (.next ρ)):Al (bJ g s xs ρ) N Q :=
 .of (Tr.all_mono (Zdq (λ_ ρ=>I ρ) (pre:=[]) h0 (λpre x post ρ _ h hx=>let ⟨ρ1,e,a⟩:=ht x ρ hx h; ⟨ρ1,e,a.out⟩) λρ h=>hq ρ h) hN λ_ h=>h)
theorem yP {h:PyData->Tr PyData} {P:PyData->Prop} {xs:Cl} {Q:List PyData->Prop} (hN:xs.length * n<=N) (hx:∀ x∈xs,Al (h x) n P) (hq:∀ ys,ys.length=xs.length->(∀ y∈ys,P y)->Q ys):Al (bI h xs) N Q :=
 .of (Tr.all_mono (ZcC λx m=>(hx x m).out) hN λys ⟨a,b⟩=>hq ys a b)
end
def ji (lo hi:Int) (x:PyData):Prop:=∃ z:Int,x=.int z/\lo<=z/\z<=hi
theorem yb {lo hi:Int}:∀ {xs:Cl},(∀ x∈xs,ji lo hi x)->∃ ns:Cm,xs=ns.map PyData.int/\∀ n∈ns,lo<=n/\n<=hi
 | [],_=>⟨[],rfl,λn hn=>by cases hn⟩
 | x::xs,h=>by
  obtain ⟨ns,e,hn⟩:=yb (xs:=xs) λy hy=>h y (Mt _ hy)
  obtain ⟨z,rfl,h1,h2⟩:=h x (by simp)
  exact ⟨z::ns,by rw [e]; rfl,λn hn'=>by
   rcases zq.mp hn' with rfl | hn'
   ·exact ⟨h1,h2⟩
   ·exact hn n hn'⟩
theorem c7 {lo hi:Int}:(aZ lo hi).length=(hi - lo).toNat:=by unfold aZ; rw [zo,eT]
theorem xl {xs:Cl} {lo hi r:Int} (h:∀ x∈xs,ji lo hi x) (h0:0<=r) (h1:r < xs.length):∃ z:Int,bp xs r=some (.int z)/\lo<=z/\z<=hi:=by
 obtain ⟨v,e,m⟩:=pick h0 h1
 obtain ⟨z,rfl,a,b⟩:=h v m
 exact ⟨z,e,a,b⟩
end L2
set_option Elab.async false
set_option linter.all false
set_option maxRecDepth 100000
namespace L2
variable {PK:Pk} {X:Cx} {a b c e:Expr} {es:List Expr} {pos:Pos} {i j l:Cc} {is:Cd} {p q:Ce} {st:Stmt}
noncomputable def u7:PyData->Bool
 | .none=>true
 | .bool _=>true
 | .int _=>true
 | .str _=>true
 | _=>false
noncomputable def inD (neg:Bool):Cj:=λx y=>(eX y).bind λys=>if (u7 x && ys.all u7)=true then some (.bool (if neg then !(ys.any λz=>PyData.eqv z x) else ys.any λz=>PyData.eqv z x)) else none
end L2
set_option Elab.async false
set_option linter.all false
set_option maxRecDepth 100000
namespace L2
variable {PK:Pk} {X:Cx} {a b c e:Expr} {es:List Expr} {pos:Pos} {i j l:Cc} {as:List Sl->Tr Cr}
noncomputable def Zmo (k:Nat) (as:List Sl->Tr Cr):List Sl->Tr Cr:=λρ=>match ρ[k]? with
 | some (.own xs)=>(as ρ).bind λys=>.ret (.d (.list xs)::ys)
 | some (.d x)=>(as ρ).bind λys=>.ret (.d x::ys)
 | _=>.fail
noncomputable def rL (r:Re):Tr PyData:=match r with
 | .d x=>if u7 x=true then .ret x else .fail
 | _=>.fail
noncomputable def ZmF (f:Cg) (as:List Sl->Tr Cr):Cc:=λρ=>(as ρ).bind λxs=>(f xs).bind rL
variable {ρ:Cr} {k:Nat} {xs:Cl} {x:PyData} {sl:Sl} {f:Cg}
noncomputable def cf1 (f:Cg) (xs:Cr):Tr PyData:=(f xs).bind rL
theorem nN:ZmF f as ρ=(as ρ).bind (cf1 f):=rfl
theorem nI {ys:Cr}:cf1 f ys=(f ys).bind rL:=rfl
theorem mX (b:Bool):rL (.d (.bool b))=.ret (.bool b):=rfl
theorem mW (n:Int):rL (.d (.int n))=.ret (.int n):=rfl
noncomputable def jd:Nat->List Sl->Tr PyData
 | 0,.own xs::_=>.ret (.list xs)
 | 0,.d x::_=>.ret x
 | k+1,_::ρ=>jd k ρ
 | _,_=>.fail
theorem lQ:jd 0 (.own xs::ρ)=.ret (.list xs):=rfl
theorem lR:jd 0 (.d x::ρ)=.ret x:=rfl
theorem lO:jd (k+1) (sl::ρ)=jd k ρ:=rfl
theorem lN:Zmo k as ρ=(jd k ρ).bind (vI as ρ):=by
 have key:∀ (k:Nat) (σ:Cr) (as:List Sl->Tr Cr) (ρ:Cr),(match σ[k]? with | some (.own xs)=>(as ρ).bind λys=>Tr.ret (Sl.d (.list xs)::ys) | some (.d x)=>(as ρ).bind λys=>Tr.ret (Sl.d x::ys) | _=>Tr.fail)=(jd k σ).bind (vI as ρ):=by
  intro k
  induction k with
  | zero =>
   intro σ as ρ
   cases σ with
   | nil=>rfl
   | cons s r=>cases s <;> rfl
  | succ k ih =>
   intro σ as ρ
   cases σ with
   | nil=>rfl
   | cons s r=>exact ih r as ρ
 exact key k ρ as ρ
theorem mC {y:PyData} {neg:Bool}:aK (inD neg) x y=Tr.of (inD neg x y):=rfl
end L2
set_option Elab.async false
set_option linter.all false
set_option maxRecDepth 100000
namespace L2
theorem Zlb {prog:Program} {w:World} {A:Around} {R:Result->Shared->Prop} {s:Shared} {elt target iter cnd:Expr} {scope:Scope} {pos:Pos} {it acc:Value} {env:Env} (J:Nat->Shared->Prop)
  (step:∀ k s0,J k s0->wpAny (model prog w) A (pyNext it) (λgot s1=>match got with
   | none=>R (.ok .next) s1
   | some v=>wpAny (model prog w) A (letOwnedTupleGo target it v) (λ_ s2=>wpAny (model prog w) A (assign target env v) (λ_ s3=>wpAny (model prog w) A (isTrue cnd env (eval cnd env)) (λok s3'=>if ok=true then wpAny (model prog w) A (eval elt env) (λy s4 =>
     wpAny (model prog w) A (call (.builtin "list.append") [acc,y]) (λ_ s5=>∃ j,j < k/\J j s5) (λ_ _=>False) s4) (λ_ _=>False) s3' else ∃ j,j < k/\J j s3') (λ_ _=>False) s3) (λ_ _=>False) s2) (λ_ _=>False) s1) (λ_ _=>False) s0)
  (k:Nat) (h:J k s):codeAny (model prog w) A (.compLoop (.ListComp elt [⟨target,iter,[cnd],0⟩] scope pos) 0 it acc env) R s:=by
 refine codeAny_loop rfl J (λk0 s0 hJ=>?_) k h
 show wpAny _ _ ((compTurn (.ListComp elt [⟨target,iter,[cnd],0⟩] scope pos) 0 it acc env).onRaise (λx=>do noteFrame x env; theTreesLotGoes x)) _ _ s0
 apply wpAny_noted
 rw [compTurn_list]
 refine wpAny_bind (wpAny_standAt (wpAny_bind (wpAny_mono (step k0 s0 hJ) (λgot s1 h1=>?_) λ_ _ z=>z.elim)))
 cases got with
 | none=>exact wpAny_pure h1
 | some v =>
  refine wpAny_bind (wpAny_mono h1 (λ_ s2 h2=>?_) λ_ _ z=>z.elim)
  refine wpAny_bind (wpAny_mono h2 (λ_ s3 h3=>?_) λ_ _ z=>z.elim)
  refine wpAny_bind (wpAny_mono (wpAny_tests_one h3) (λok s3' h3'=>?_) λ_ _ z=>z.elim)
  cases ok with
  | false=>exact wpAny_pure ⟨rfl,h3'⟩
  | true =>
   refine wpAny_bind (wpAny_bind (wpAny_mono h3' (λy s4 h4=>?_) λ_ _ z=>z.elim))
   exact wpAny_bind (wpAny_mono h4 (λ_ s5 h5=>wpAny_pure (wpAny_pure ⟨rfl,h5⟩)) λ_ _ z=>z.elim)
def wB (wi:TI) (n:Nat) (ix:List Nat) (g:Blk->TG) (tc:Blk->TT) (te:Blk->TE):TE:=λσ H Q=>wi σ H λJ H1=>∀ b:Blk,∃ W:Nat->Nat->St->List V->Hp->Prop,(∃ m,W 0 m (cR n ix σ) [] H1)/\∀ i m τ ys H2,W i m τ ys H2 ->
 (J.stop i H2/\∀ p v H',H2 p=none->v=V.ref p->H'=upd H2 p (.lst ys)->Q v H') \/
 (J.go i H2/\ys.length < sizeLine/\∀ x H3,J.yld i H2 x H3->g b x τ H3 λτ2 H4=>tc b τ2 H4 λok H4'=>if ok=true then te b τ2 H4' λy H5=>∃ m',m' < m/\W (i+1) m' τ2 (ys++[y]) H5 else ∃ m',m' < m/\W (i+1) m' τ2 ys H4')
section
variable {X:Cx} {pins:List (Addr×Obj)} {σ:St} {H:Hp} {s:Shared}
theorem ZiT {elt target iter cnd:Expr} {scope:Scope} {pos:Pos} {Nx ts:Co} {ix:List Nat} {g:Blk->TG} {tc:Blk->TT} {te:Blk->TE} {cl:List (Str×Addr)} {s2:Shared} {itv:Value} {R:Value->Addr->Result->Shared->Prop}
  {E:Ck} {Q:VK}
  (hc:X.calm=true) (hg:∀ b,PG (a9 X (bN Nx ts ix) scope b) target (g b)) (hcn:∀ b,PT (a9 X (bN Nx ts ix) scope b) cnd (tc b)) (he:∀ b,PE (a9 X (bN Nx ts ix) scope b) elt (te b))
  (hNx:X.N=Nx) (ok:BlkOk Nx X.env.scope scope ix) (cl1:∀ x c,cl.lookup x=some c->X.env.cells.lookup x=some c) (cl2:∀ y∈scope.names,y.2=.free->∃ c,cl.lookup y.1=some c)
  (h2:qg X pins σ target (λJ H1=>∀ b:Blk,∃ W:Nat->Nat->St->List V->Hp->Prop,(∃ m,W 0 m (cR ts.length ix σ) [] H1)/\∀ i m τ ys H2,W i m τ ys H2 ->
   (J.stop i H2/\∀ p v H',H2 p=none->v=V.ref p->H'=upd H2 p (.lst ys)->Q v H') \/
   (J.go i H2/\ys.length < sizeLine/\∀ x H3,J.yld i H2 x H3->g b x τ H3 λτ2 H4=>tc b τ2 H4 λok H4'=>if ok=true then te b τ2 H4' λy H5=>∃ m',m' < m/\W (i+1) m' τ2 (ys++[y]) H5 else ∃ m',m' < m/\W (i+1) m' τ2 ys H4')) itv s2)
  (hR:∀ (D C:Addr) (H':Hp) (s':Shared) (v:V),Inv X pins σ H' s'->v=.ref D->Q v H'->(∃ m,s'.heap.Ns C m)->H' C=none->C≠X.env.locals->X.s₀.heap.objs.size<=C->(∀ x c,X.env.cells.lookup x=some c->c≠C)->(∀ p∈X.pn++pins,p.1≠C) ->
   R (.ref D) C (.ok .next) s') :
  wpAny (model X.prog X.w) X.A (newList []) (λacc s₃=>wpAny (model X.prog X.w) X.A (newFunctionEnv scope X.env.globals cl [] X.env.qual none .none (some X.env)) (λcenv s₄ =>
   codeAny (model X.prog X.w) X.A (.compStart (.ListComp elt [⟨target,iter,[cnd],0⟩] scope pos) 0 itv acc { cenv with scope:=relabel scope X.env }) (R acc cenv.locals) s₄) E s₃) E s2:=by
 obtain ⟨it,fp,tn,J,H1,e,I2,T,st2,f2,q2⟩:=h2
 subst e
 refine wpAny_newObj_type (wk ?_)
 dsimp only
 generalize hG:s2.heap.push { cls:=.type "list",dict:=none,data:=.seq ([]:Cn).toArray }=G
 have hGs:G.objs.size=s2.heap.objs.size+1:=by rw [<- hG,z8]
 have hfs:∀ b∈fp,b < s2.heap.objs.size:=λb hb=>let ⟨o,e,_⟩:=T.obj _ _ st2 b hb; zA e
 have kpG:∀ b o,G.get? b=some o->(pushCells (G.push { cls:=.type "dict",data:=.dict #[] }) scope.names).get? b=some o:=λb o e=>pushCells_keeps _ _ _ _ (pi _ e)
 have hns3:(pushCells (G.push { cls:=.type "dict",data:=.dict #[] }) scope.names).Ns G.objs.size (λ_=>none):=(Heap.Ns.new G (.type "dict")).keeps (pushCells_keeps _ _)
 obtain ⟨sp1,sp2,sp4,sp3⟩:=yF scope.names (G.push { cls:=.type "dict",data:=.dict #[] }) cl
 rw [z8] at sp1 sp2 sp3 sp4
 generalize hh3:pushCells (G.push { cls:=.type "dict",data:=.dict #[] }) scope.names=h3 at kpG hns3 sp1 ⊢
 have kp:∀ b o,s2.heap.get? b=some o->h3.get? b=some o:=λb o e=>kpG b o (by rw [<- hG]; exact pi _ e)
 have hD3:h3.get? s2.heap.objs.size=some { cls:=.type "list",data:=.seq ([]:Cn).toArray }:=kpG _ _ (by rw [<- hG]; exact zw _ rfl)
 have clB:∀ x c,cl.lookup x=some c->c < G.objs.size+1:=λx c e=>by
  obtain ⟨v,q⟩:=I2.cell x c (cl1 x c e)
  exact AQ (zt q.lt (by rw [hGs]; exact BU _))
 have csI:=sp3 clB λx y c e1 e2=>I2.ok.inj x y c (cl1 x c e1) (cl1 y c e2)
 have cs1:∀ x c,(cellsFrom (G.objs.size+1) scope.names cl).lookup x=some c->X.env.cells.lookup x=some c\/(G.objs.size < c/\h3.IsCell c none/\(x,NameKind.cell)∈scope.names):=λx c e=>by
  rcases sp1 x c e with z | ⟨z1,z2,z3⟩
  ·exact .inl (cl1 x c z)
  ·exact .inr ⟨by omega,z2,z3⟩
 have cs2:∀ y∈scope.names,(y.2=.free\/y.2=.cell)->∃ c,(cellsFrom (G.objs.size+1) scope.names cl).lookup y.1=some c:=λy hy hk=>by
  refine sp2 y.1 ?_
  rcases hk with z | z
  ·exact .inr (cl2 y hy z)
  ·exact .inl (by rw [<- z]; exact hy)
 have csA:∀ x c,(x,NameKind.cell)∈scope.names->(cellsFrom (G.objs.size+1) scope.names cl).lookup x=some c->G.objs.size<=c:=λx c e1 e2=>Bd (sp4 x c e1 e2)
 generalize hcs:cellsFrom (G.objs.size+1) scope.names cl=cs at csI cs1 cs2 csA ⊢
 generalize hCe:G.objs.size=C at hns3 cs1 csA ⊢
 have hC:s2.heap.objs.size<=C:=by omega
 have hDC:s2.heap.objs.size≠C:=by omega
 let B:Blk:=⟨cs,C,s2,H1,fp,X.pn++pins⟩
 have I3:Inv (a9 X (bN Nx ts ix) scope B) [] (cR ts.length ix σ) H1 { s2 with heap:=h3 }:=ya I2 hNx ok cs1 csI cs2 csA f2 hfs hC kp hns3
 have fC:H1 s2.heap.objs.size=none:=I2.hok.fresh (zp _)
 have cellIn:∀ x c,cs.lookup x=some c->c≠s2.heap.objs.size:=λx c e=>by
  rcases cs1 x c e with z | ⟨z,_,_⟩
  ·obtain ⟨v,q⟩:=I2.cell x c z
   exact zD q.lt
  ·exact zY (Av hC z)
 have pinIn:∀ p∈X.pn++pins,p.1 < s2.heap.objs.size:=λp hp=>zA (I2.pin p hp).1
 have nofrs:s2.heap.objs.size ∉ frs X.stack:=λhb=>by
  rcases zq.mp (I2.stkSub _ hb) with z | z
  ·exact absurd I2.lt (by rw [<- z]; exact zK _)
  ·exact I2.nofs (zp _) z
 -- a state with the list at its place,pinned
 have pinD:∀ {τ:St} {H':Hp} {s':Shared} {ob:Obj},Inv (a9 X (bN Nx ts ix) scope B) [] τ H' s'->s'.heap.get? s2.heap.objs.size=some ob->H' s2.heap.objs.size=none->(∀ v,ob.data≠.cell v)->Inv (a9 X (bN Nx ts ix) scope B) [(s2.heap.objs.size,ob)] τ H' s' :=
  λ{τ H' s' ob} I' ho hn hd=>I'.pins_of λp hp=>by
   have e:p=(s2.heap.objs.size,ob):=by simpa using hp
   subst e
   exact ⟨ho,hn,hDC,nofrs,hd⟩
 obtain ⟨W,⟨m0,w0⟩,turn⟩:=q2 B
 have stat:∀ {H':Hp} {ob:Obj},(∀ b∈fp,H' b=none)->∀ b∈fp,fh (a9 X (bN Nx ts ix) scope B) [(s2.heap.objs.size,ob)] H' b:=λ{H' ob} hn b hb=>by
  refine ⟨hn b hb,zD (zt (hfs b hb) hC),λz=>?_,.inl hb,λx c e=>by
   rcases cs1 x c e with z | ⟨z,_,_⟩
   ·exact (f2 b hb).2.2.2.2.1 x c z
   ·exact zY (zt (hfs b hb) (zE hC (AY z))),λp hp=>?_⟩
  ·rcases zq.mp (I2.stkSub _ z) with q | q
   ·exact (f2 b hb).2.1 q
   ·exact (f2 b hb).2.2.1 q
  ·rcases Au.mp hp with z | z
   ·exact (f2 b hb).2.2.2.2.2 p z
   ·have e:p=(s2.heap.objs.size,ob):=by simpa using z
    subst e
    exact zY (hfs b hb)
 have loop:∀ s4:Shared,s4={ s2 with heap:=h3 } ->
   codeAny (model X.prog X.w) X.A (.compLoop (.ListComp elt [⟨target,iter,[cnd],0⟩] scope pos) 0 (.ref it) (.ref s2.heap.objs.size) (compEnvC scope cs C X.env)) (R (.ref s2.heap.objs.size) C) s4:=by
  rintro s4 rfl
  refine Zlb (λk s'=>∃ i τ ys its n H',Inv (a9 X (bN Nx ts ix) scope B) [(s2.heap.objs.size,({ cls:=.type "list",data:=.seq (List.toArray its) n }:Obj))] τ H' s'/\tn i s'.heap/\(∀ b∈fp,H' b=none)/\Vals ys its/\ys.length<=sizeLine/\W i k τ ys H') ?_ m0
   ⟨0,_,[],[],_,H1,pinD I3 hD3 fC (λv z=>by cases z),T.keep _ _ _ st2 λb hb o e=>kp b o e,λb hb=>(f2 b hb).1,.nil,Ay _,w0⟩
  rintro k s5 ⟨i,τ,ys,its,n,H5,I5,st5,fr5,rv,hz,w5⟩
  rcases turn i k τ ys H5 w5 with ⟨stop,qn⟩ | ⟨go,hlt,step⟩
  ·refine thn (T.done (a9 X (bN Nx ts ix) scope B) rfl rfl rfl hc i _ s5 τ H5 _ I5 (stat fr5) st5 stop) λgot s6 hz0=>?_
   obtain ⟨hr,I6⟩:=hz0
   subst hr
   obtain ⟨ho,hn,_,_,_⟩:=I6.pin (s2.heap.objs.size,({ cls:=.type "list",data:=.seq (List.toArray its) n }:Obj)) (zx _ (by simp))
   have I7:Inv X pins σ H5 s6:=I2.call' (ch:=fp) (H':=H5) (by exact I6.os) I6.base I6.hok I6.bare λb hb=>⟨(f2 b hb).2.2.2.1,(f2 b hb).2.1,(f2 b hb).2.2.2.2.1,(f2 b hb).2.2.2.2.2⟩
   have hs0:X.s₀.heap.objs.size<=s2.heap.objs.size:=I2.sz
   have I8:=I7.track hn ho rv hz (zY I2.lt) hs0 (λx c e z=>by
    obtain ⟨v,q⟩:=I2.cell x c e
    exact absurd q.lt (by rw [z]; exact zK _)) (λp hp=>zD (pinIn p hp))
   obtain ⟨m6,hm6,_⟩:=I6.loc
   refine hR _ C _ s6 _ I8 rfl (qn _ _ _ hn rfl rfl) ⟨m6,hm6⟩ ?_ (λz=>?_) (zE hs0 hC) (λx c e z=>?_) λp hp=>zD (zt (pinIn p hp) hC)
   ·rw [ay (Ne.symm hDC)]
    exact I6.free
   ·exact absurd (zt I2.lt hC) (by rw [z]; exact zK _)
   ·obtain ⟨v,q⟩:=I2.cell x c e
    exact absurd (zt q.lt hC) (by rw [z]; exact zK _)
  ·refine thn (T.item (a9 X (bN Nx ts ix) scope B) rfl rfl rfl hc i _ s5 τ H5 _ I5 (stat fr5) st5 go) λgot s6 hz0=>?_
   obtain ⟨u,hr,h6⟩:=hz0
   subst hr
   refine thn h6 λ_ s7 hz0=>?_
   obtain ⟨x,H7,I7,r7,y7,st7,fr7⟩:=hz0
   have I7':=I7.pinned (stat fr7) (T.obj _ _ st7)
   refine thn (hg B _ s7 τ H7 x u _ I7' r7 (step x H7 y7)) λ_ s8 hz0=>?_
   obtain ⟨τ8,H8,I8,q8⟩:=hz0
   refine thn (hcn B _ s8 τ8 H8 _ I8 q8) λokk s8' hz0=>?_
   obtain ⟨H8',I8',q8'⟩:=hz0
   cases okk with
   | false =>
    obtain ⟨m',hm',w9⟩:=q8'
    obtain ⟨ho,hn,_,_,_⟩:=I8'.pin (s2.heap.objs.size,({ cls:=.type "list",data:=.seq (List.toArray its) n }:Obj)) (zx _ (AL _ (by simp)))
    have I9':Inv (a9 X (bN Nx ts ix) scope B) [] τ8 H8' s8':=I8'.pins_of λp hp=>absurd hp (by simp)
    refine ⟨m',hm',i+1,τ8,ys,its,n,H8',pinD I9' ho hn (λv z=>by cases z),?_,λb hb=>?_,rv,hz,w9⟩
    ·refine T.keep _ _ _ st7 λb hb o e=>?_
     exact (I8'.pin (b,o) (zx _ (zx _ (fQ hb e)))).1
    ·obtain ⟨o,e,d⟩:=T.obj _ _ st7 b hb
     exact (I8'.pin (b,o) (zx _ (zx _ (fQ hb e)))).2.1
   | true =>
   refine thn (he B _ s8' τ8 H8' _ I8' q8') λy s9 hz0=>?_
   obtain ⟨vy,H9,I9,r9,m',hm',w9⟩:=hz0
   obtain ⟨ho,hn,_,_,_⟩:=I9.pin (s2.heap.objs.size,({ cls:=.type "list",data:=.seq (List.toArray its) n }:Obj)) (zx _ (AL _ (by simp)))
   have lenv:=rv.length
   refine wpAny_list_append_plain (l:=s2.heap.objs.size) ⟨n,ho⟩ (λh' hpl hsb=>?_) (by rw [zr]; omega)
   obtain ⟨n',ho'⟩:=hpl
   have eobj:(its.toArray.push y)=List.toArray (its++[y]):=by simp
   rw [eobj] at ho'
   have I9':Inv (a9 X (bN Nx ts ix) scope B) [] τ8 H9 s9:=I9.pins_of λp hp=>absurd hp (by simp)
   have I10:Inv (a9 X (bN Nx ts ix) scope B) [] τ8 H9 { s9 with heap:=h' }:=I9'.turned (it:=s2.heap.objs.size) (t':=s9.toks) (λb o hb e=>(hsb.2 b hb).trans e) hn hDC (.inr (zp _)) cellIn (λp hp=>by
    have hp':p∈(X.pn++pins)++[]:=hp
    rw [zN] at hp'
    exact zD (pinIn p hp'))
   refine ⟨m',hm',i+1,τ8,ys++[vy],its++[y],n',H9,pinD I10 ho' hn (λv z=>by cases z),?_,λb hb=>?_,rv.append (.cons r9 .nil),by rw [zB]; show ys.length+1<=_; omega,w9⟩
   ·refine T.keep _ _ _ st7 λb hb o e=>?_
    have q:=(I9.pin (b,o) (zx _ (zx _ (fQ hb e)))).1
    exact (hsb.2 b (zD (hfs b hb))).trans q
   ·obtain ⟨o,e,d⟩:=T.obj _ _ st7 b hb
    exact (I9.pin (b,o) (zx _ (zx _ (fQ hb e)))).2.1
 exact codeAny_compStart_list (loop _ rfl) (T.self X.A 0 _ _ _ (T.keep _ _ _ st2 λb hb o e=>kp b o e) (loop _ rfl))
theorem ui {elt target iter cnd:Expr} {scope:Scope} {pos:Pos} {wi:TI} {g:Blk->TG} {tc:Blk->TT} {te:Blk->TE} (Nx:Co) (ts:Co) (ix:List Nat)
  (hc:X.calm=true) (hi:PI X target iter wi) (hg:∀ b,PG (a9 X (bN Nx ts ix) scope b) target (g b)) (hcn:∀ b,PT (a9 X (bN Nx ts ix) scope b) cnd (tc b)) (he:∀ b,PE (a9 X (bN Nx ts ix) scope b) elt (te b))
  (hNx:X.N=Nx) (ok:BlkOk Nx X.env.scope scope ix) (hs:∀ x,foldedSetIterable iter X.env x=pure x:=by intro _; rfl) :
  PE X (.ListComp elt [⟨target,iter,[cnd],0⟩] scope pos) (wB wi ts.length ix g tc te):=by
 intro pins s σ H Q I h
 obtain ⟨cl,hcl,cl1,cl2⟩:=rR (scope:=scope) (env:=X.env) λy hy hf=>I.ok.has y.1 (ok.frees y hy hf)
 rw [eval_ListComp]
 refine wpAny_comprehension_free (use:=none) rfl hs hcl ok.kind ok.locs (thn (hi pins s σ H _ I h) λv s1 h1=>thn h1 λitv s2 h2=>?_)
 refine ZiT (R:=λacc C=>compPost (model X.prog X.w) X.A X.xe none (EP X pins σ Q) acc C) hc hg hcn he hNx ok cl1 cl2 h2 ?_
 rintro D C H' s' v I' rfl q ⟨m,hm⟩ hn hL h0 hcl' hp
 exact ⟨m,hm,λh' hsb=>⟨.ref D,H',I'.turned (it:=C) (t':=s'.toks) (λb o hb e=>(hsb.2 b hb).trans e) hn hL (.inr h0) hcl' hp,rfl,q⟩⟩
end
section
variable {PK:Pk} {X:Cx} {e:Expr} {st:Stmt} {i:Cc} {is:Cd} {p:Ce}
noncomputable def rg (y:Option PyData) (ys:Cl):Tr Cl:=.ret (match y with
 | some y=>y::ys
 | none=>ys)
noncomputable def cO (h:PyData->Tr (Option PyData)):List PyData->Tr Cl
 | []=>.ret []
 | x::xs=>(h x).bind λy=>(cO h xs).bind (rg y)
noncomputable def pN (p:Ce) (i:Cc) (τ:Cr):Tr (Option PyData):=(p τ).bind λok=>if ok=true then (i τ).bind λy=>.ret (some y) else .ret none
noncomputable def oD (is:Cd) (n:Nat) (ix:List Nat) (g:Ci) (p:Ce) (el:Cc):Cd:=λρ =>
 (is ρ).bind λxs=>if small xs.length=true then cO (λx=>(Tr.of (g x (blk n ix ρ))).bind (pN p el)) xs else .fail
theorem ZiS {n:Nat} {ix:List Nat} {g:Ci} (hn:fg n g):∀ σ H Q,ff PK (oD is n ix g p i) σ H Q->wB (dk PK is) n ix (λ_=>eu PK g) (λ_=>TAt PK p) (λ_=>TAe PK i) σ H Q:=by
 rintro σ H Q ⟨pa,Cs,H₀,m,ρ,G,R,z⟩
 refine ⟨pa,Cs,H₀,m,ρ,G,R,Tr.ok_mono (Tr.ok_bind.mp z) λm1 xs k J G1 H1 s1 w1 jo=>λB=>?_⟩
 obtain ⟨hs,k⟩:=dS k
 have hs:xs.length<=sizeLine:=of_decide_eq_true hs
 let el:PyData->Tr (Option PyData):=λx=>(Tr.of (g x (blk n ix ρ))).bind (pN p i)
 let W:Nat->Nat->St->List V->Hp->Prop:=λk mm τ ys H2=>mm=xs.length - k/\k<=xs.length/\ys.length<=k/\∃ m G2 ds,Sub G1 G2/\Stp pa G H G2 H2/\Rl PK pa Cs H₀ m τ (blk n ix ρ) G2 H2 /\
  DnAll G2 ys ds/\(cO el (xs.drop k)).ok m λm' zs=>Ko1 PK pa m' G H (ds++zs) Q
 refine ⟨W,⟨xs.length,rfl,Ay _,zp _,m1,G1,[],.refl,s1,(R.step s1 w1).blk n ix,.nil,k⟩,?_⟩
 rintro k mm τ ys H2 ⟨rfl,hk,hy,m2,G2,ds,sb,st2,R2,dn,k2⟩
 obtain ⟨j1,j2⟩:=jo m2 G2 H2 sb R2.wd
 by_cases hlt:k < xs.length
 ·have hx:xs[k]?=some xs[k]:=by simp [hlt]
  obtain ⟨jg,jy⟩:=j1 k _ hx
  refine .inr ⟨jg,by omega,λx H3 y=>?_⟩
  obtain ⟨G3,s3,w3,d3⟩:=jy x H3 y
  rw [AK hlt] at k2
  unfold cO at k2
  rw [Tr.ok_bind,Tr.ok_bind] at k2
  obtain ⟨ρ3,hg3,k3⟩:=Tr.ok_of k2
  refine ⟨pa,Cs,H₀,m2,_,G3,_,ρ3,R2.step s3 w3,d3,hg3,λτ4 R4=>?_⟩
  obtain ⟨pl,pk⟩:=hn _ _ _ hg3
  have hback:∀ (q:Nat) (sl:Sl),(blk n ix ρ)[q]?=some sl->sl=.un\/ρ3[q]?=some sl:=λq sl hq=>by
   by_cases hqn:q < n
   ·left
    unfold blk at hq
    rw [zX (by simpa using hqn),zW,if_pos hqn] at hq
    cases hq
    rfl
   ·right
    rw [pk q (A5 hqn)]
    exact hq
  unfold pN at k3
  rw [Tr.ok_bind] at k3
  refine ⟨pa,Cs,H₀,m2,ρ3,G3,R4,Tr.ok_mono k3 λm4 ok k4 G4 H4 s4 w4=>?_⟩
  have R4':=R4.step s4 w4
  have s34:=s3.trans s4 w3.some
  cases ok with
  | false =>
   have k4':((cO el (xs.drop (k+1))).bind (rg none)).ok m4 λm' zs=>Ko1 PK pa m' G H (ds++zs) Q:=k4
   refine ⟨xs.length - (k+1),by omega,rfl,hlt,by omega,m4,G4,ds,sb.trans s34.gs,st2.trans s34 R2.wd.some,R4'.weak pl hback,DnAll.mono s34.gs dn,?_⟩
   exact Tr.ok_mono (Tr.ok_bind.mp k4') λm6 zs k6=>k6
  | true =>
   have k4':((i ρ3).bind λy=>.ret (some y)).ok m4 λm' y=>((cO el (xs.drop (k+1))).bind (rg y)).ok m' λm' zs=>Ko1 PK pa m' G H (ds++zs) Q:=k4
   rw [Tr.ok_bind] at k4'
   refine ⟨pa,Cs,H₀,m4,ρ3,G4,R4',Tr.ok_mono k4' λm5 yd k5=>?_⟩
   intro v G5 H5 s5 w5 d5
   have s35:=s34.trans s5 w4.some
   refine ⟨xs.length - (k+1),by omega,rfl,hlt,by rw [zB]; show ys.length+1<=_; omega,m5,G5,ds++[yd],sb.trans s35.gs,st2.trans s35 R2.wd.some,(R4'.step s5 w5).weak pl hback,(DnAll.mono s35.gs dn).snoc d5,?_⟩
   have k5':((cO el (xs.drop (k+1))).bind (rg (some yd))).ok m5 λm' zs=>Ko1 PK pa m' G H (ds++zs) Q:=k5
   refine Tr.ok_mono (Tr.ok_bind.mp k5') λm6 zs k6=>?_
   rw [Ae]
   exact k6
 ·have e:k=xs.length:=by omega
  subst e
  refine .inl ⟨j2,λp v H' hp ev eH=>?_⟩
  subst ev eH
  rw [Bi] at k2
  have k2':Ko1 PK pa m2 G H (ds++[]) Q:=k2
  rw [zN] at k2'
  exact (Ko1.later k2' st2 R2.wd.some).new R2.wd dn hp
theorem vG {n:Nat} {ix:List Nat} {g:Ci} (h:PE X e (wB (dk PK is) n ix (λ_=>eu PK g) (λ_=>TAt PK p) (λ_=>TAe PK i))) (hn:fg n g):PE X e (ff PK (oD is n ix g p i)):=h.imp (ZiS hn)
end
end L2
set_option Elab.async false
set_option linter.all false
set_option maxRecDepth 100000
namespace L2
section
variable {X:Cx}
noncomputable def ZjH (gs:Ch) (x:PyData) (ρ:Cr):Option Cr:=match x with
 | .list xs=>gs xs ρ
 | _=>none
section
variable {ρ:Cr} {is:Cd} {n:Nat} {i:Cc} {p:Ce} {xs:Cl} {x:PyData}
noncomputable def fE (g:Ci) (p:Ce) (el:Cc) (τ:Cr) (x:PyData):Tr (Option PyData):=(Tr.of (g x τ)).bind (pN p el)
noncomputable def xP (n:Nat) (ix:List Nat) (g:Ci) (p:Ce) (el:Cc) (ρ:Cr) (xs:Cl):Tr Cl:=if small xs.length=true then cO (fE g p el (blk n ix ρ)) xs else .fail
theorem lS {ix:List Nat} {g:Ci}:oD is n ix g p i ρ=(is ρ).bind (xP n ix g p i ρ):=rfl
theorem lU {ix:List Nat} {g:Ci} (h:small xs.length=true):xP n ix g p i ρ xs=cO (fE g p i (blk n ix ρ)) xs:=by unfold xP; rw [if_pos h]
theorem lT {τ:Cr} {g:Ci}:fE g p i τ x=(Tr.of (g x τ)).bind (pN p i):=rfl
noncomputable def yh (y:PyData):Tr (Option PyData):=.ret (some y)
noncomputable def yi (i:Cc) (τ:Cr) (b:Bool):Tr (Option PyData):=if b=true then (i τ).bind yh else .ret none
theorem mH {τ:Cr}:pN p i τ=(p τ).bind (yi i τ):=rfl
theorem mJ {τ:Cr}:yi i τ true=(i τ).bind yh:=rfl
theorem mK {τ:Cr}:yi i τ false=.ret none:=rfl
theorem mI:yh x=.ret (some x):=rfl
end
end
end L2
set_option Elab.async false
set_option linter.all false
set_option maxRecDepth 100000
namespace L2
section
variable {PK:Pk} {X:Cx} {e:Expr} {as:List Sl->Tr Cr}
noncomputable def wP:List Sl->Option Cl
 | []=>some []
 | .d x::r=>(wP r).bind λxs=>some (x::xs)
 | _=>none
noncomputable def u8 (d:PyData):Tr PyData:=if u7 d=true then .ret d else .fail
noncomputable def ZmI (f:List PyData->Option PyData) (as:List Sl->Tr Cr):Cc:=λρ=>(as ρ).bind λss=>(Tr.of ((wP ss).bind f)).bind u8
end
section
variable {ρ:Cr} {as:List Sl->Tr Cr} {f:List PyData->Option PyData} {x:PyData} {xs:Cl} {i j:Cc} {k:Nat} {p:Ce} {s:Cf}
noncomputable def Zem (f:List PyData->Option PyData) (ss:Cr):Tr PyData:=(Tr.of ((wP ss).bind f)).bind u8
theorem nL:ZmI f as ρ=(as ρ).bind (Zem f):=rfl
theorem nK:Zem f [.d x]=(bw f [x]).bind u8:=rfl
theorem mY (n:Int):u8 (.int n)=.ret (.int n):=rfl
noncomputable def qw (k:Nat) (ρ:Cr) (x:PyData) (xs:Cl):PyData->Tr Ou
 | .int y=>(Tr.of (dA xs.length y)).bind λt=>.ret (.next (ρ.set k (.own (xs.set t x))))
 | _=>.fail
noncomputable def wQ (k:Nat) (n:Cc) (ρ:Cr) (x:PyData) (xs:Cl):Tr Ou:=(n ρ).bind (qw k ρ x xs)
noncomputable def wR (k:Nat) (n:Cc) (ρ:Cr) (x:PyData):Tr Ou:=(fv k ρ).bind (wQ k n ρ x)
theorem j7:sf k j i ρ=(i ρ).bind (wR k j ρ):=by
 unfold sf
 refine congrArg (Tr.bind (i ρ)) (funext λx=>?_)
 rw [wR,<- pA k ρ]
 cases ρ[k]? with
 | none=>rfl
 | some sl =>
  cases sl with
  | own xs =>
   show ((j ρ).bind _:Tr Ou)=(j ρ).bind (qw k ρ x xs)
   refine congrArg (Tr.bind (j ρ)) (funext λy=>?_)
   cases y <;> rfl
  | _=>rfl
theorem j6 {n:Cc}:wR k n ρ x=(fv k ρ).bind (wQ k n ρ x):=rfl
theorem j4 {n:Cc}:wQ k n ρ x xs=(n ρ).bind (qw k ρ x xs):=rfl
theorem yq {y:Int} {t:Nat} (h:dA xs.length y=some t):qw k ρ x xs (.int y)=.ret (.next (ρ.set k (.own (xs.set t x)))):=by
 simp only [qw,h]
 rfl
end
end L2
set_option Elab.async false
set_option linter.all false
set_option maxRecDepth 100000
namespace L2
open AutoSeq1 (wpAny_loadPart')
noncomputable def oJ (hi:Int) (n:Nat):It:=⟨λi _=>i < n,λi H x H'=>H'=H/\x=.int (hi - i),λi _=>n<=i⟩
theorem ZfH {P:Program} {w:World} {K:Cb} {tg:Expr} (it:Addr) (hi:Int) (n:Nat):Turn P w K tg (oJ hi n) [it] it (λi h=>IsRangeIter h it (hi+(i:Nat) * (-1)) ((n:Int) - (i:Nat)) (-1)) where
 mem:=by simp
 obj:=λi h st b hb=>by
  have e:b=it:=by simpa using hb
  subst e
  exact ⟨_,st,λv z=>by
   have z':Data.fields _=Data.cell v:=z
   cases z'⟩
 keep:=λi h h' st k=>k it (by simp) _ st
 item:=by
  intro X hP hw hK hc i pins s σ H E I hf st hg
  subst hP hw hK
  obtain ⟨f0,f1,f2,f3,f4,f5⟩:=hf it (by simp)
  have W:=Walks.range (prog:=X.prog) (w:=X.w) (I.ok.hd hc) it hi (-1) n
  refine W.item i s _ _ hg st λv h' tk hv st' kk=>?_
  obtain ⟨t,rfl⟩:=hv
  have I1:Inv X pins σ H { s with heap:=h',toks:=tk }:=I.turned (λb o hb e=>kk b o (by simpa using hb) e) f0 f1 f3 f4 f5
  refine ⟨_,rfl,pP (s:={ s with heap:=h',toks:=tk }) (n:="range_iterator") st' rfl rfl (by decide) ⟨.int (hi - i),H,I1,⟨t,?_⟩,⟨rfl,rfl⟩,st',λb hb=>(hf b hb).1⟩⟩
  have e:hi+(i:Int) * -1=hi - i:=by omega
  rw [e]
 done:=by
  intro X hP hw hK hc i pins s σ H E I hf st hg
  subst hP hw hK
  obtain ⟨f0,f1,f2,f3,f4,f5⟩:=hf it (by simp)
  exact wpAny_pyNext_range_end (I.ok.hd hc) st (by have:n<=i:=hg; omega) λh' eb=>⟨rfl,I.turned (t':=s.toks) (λb o hb e=>eb b o hb e) f0 f1 f3 f4 f5⟩
 self:=λ_ _ _ _ _ st h=>wpAny_pyIter_rangeiter st h
theorem Ziz (r:Addr) (a b c:Int) (t u v:Tok) (hs:¬ (!(Builtin.Range.rangeFitsLong a && Builtin.Range.rangeFitsLong b && Builtin.Range.rangeFitsLong c && Builtin.Range.rangeFitsLong (-c) && Builtin.Range.rangeFitsLong (a - c) && Builtin.Range.rangeFitsLong (Builtin.Range.rangeSize a b c)))=true) :
  Meets (Builtin.«range.__reversed__» ⟨[.ref r],[]⟩) (λ_ R s=>s.heap.get? r=some { cls:=.type "range",dict:=none,data:=.fields #[.int a t,.int b u,.int c v],slots:=#[] } /\
   R (.ok (.ret (.ref s.heap.objs.size))) { s with heap:=s.heap.push { cls:=.type "range_iterator",data:=.fields #[rawInt (a+(Builtin.Range.rangeSize a b c - 1) * c),rawInt (Builtin.Range.rangeSize a b c),rawInt (-c)] },toks:=s.toks }) :=
 .of_wp λprog w A R s h=>by
  obtain ⟨hp,g,d,tk,os⟩:=s
  obtain ⟨hl,h⟩:=h
  have hs':=hs
  rw [Bf,Bool.not_eq_false] at hs'
  wp_walk
  rw [if_pos hs']
  exact ⟨_,rfl,h⟩
theorem pR {n:Int} (h1:-(2 ^ 63)<=n) (h2:n < 2 ^ 63):Builtin.Range.rangeFitsLong n=true:=by
 unfold Builtin.Range.rangeFitsLong
 simp
 omega
section
variable {prog:Program} {w:World} {A:Around} {E:Ck} {s:Shared}
theorem Zlf {r:Addr} {a b:Int} {t u v:Tok} {Q₁:Ck} (hr:IsRange s.heap r a b 1 t u v) (ha:-(2 ^ 62)<=a) (ha':a < 2 ^ 62) (hb:-(2 ^ 62)<=b) (hb':b < 2 ^ 62)
  (h:Q₁ (.ref s.heap.objs.size) { s with heap:=s.heap.push { cls:=.type "range_iterator",data:=.fields #[rawInt (a+(Builtin.Range.rangeSize a b 1 - 1) * 1),rawInt (Builtin.Range.rangeSize a b 1),rawInt (-1)] } }) :
  codeAny (model prog w) A (.call (.builtin "reversed.__new__") ⟨[.type "reversed",.ref r],[]⟩) (wants Q₁ E) s:=by
 have hT:s.TypeIs (.ref r) "range":=⟨_,hr,rfl⟩
 refine codeAny_of_tree ?_
 show wpAny _ A.in1 (do checkBuiltinCall "reversed.__new__" ⟨[.type "reversed",.ref r],[]⟩; again (.builtin "reversed.__new__" ⟨[.type "reversed",.ref r],[]⟩)) _ _ s
 refine wpAny_bind (wpAny_of_eq (F.newCall_reversed_1 _) (wpAny_pure ⟨plainId_quiet F.plain_reversed_new _,codeAny_builtin F.entry_reversed_new ?_⟩))
 rw [AV F.plain_reversed_new _]
 unfold Builtin.«reversed.__new__»
 refine wpAny_bind (wpAny_of_eq (newClass_reversed _) ?_)
 try dsimp only
 refine wpAny_bind (wpAny_of_eq (a:=()) (by first | rfl | kernel_rfl) ?_)
 refine wpAny_bind (wpAny_of_eq (a:=()) (by first | rfl | kernel_rfl) ?_)
 try dsimp only
 refine wpAny_bind (wpAny_specialOf hT F.slot_range_reversed.lookup ?_)
 try dsimp only
 refine wpAny_bind (wpAny_of_eq (F.slot_range_reversed.bind _) ?_)
 try dsimp only
 first
 | rw [if_neg (show ¬ ((Value.builtin "range.__reversed__" == Value.none)=true) from zC)]
 | (show wpAny _ _ (if (Value.builtin "range.__reversed__" == Value.none)=true then _ else _) _ _ _; rw [if_neg (show ¬ ((Value.builtin "range.__reversed__" == Value.none)=true) from zC)])
 refine wpAny_bind (wpAny_rule ?_)
 have hsz:Builtin.Range.rangeSize a b 1=if a < b then b - a else 0:=rangeSize_one a b
 refine wpAny_bind (m:=runValue (.call (.builtin "range.__reversed__") ⟨[.ref r],[]⟩)) (show wpAny _ _ (call (.builtin "range.__reversed__") [.ref r]) _ _ _ from
  call_meets F.slot_range_reversed hT F.entry_range_reversed (F.args_range_reversed_1 _) (Ziz r a b 1 t u v ?_) ⟨hr,?_⟩)
 ·rw [Bf,Bool.not_eq_false,pR (by omega) (by omega),pR (by omega) (by omega),pR (by decide) (by decide),pR (by decide) (by decide),pR (n:=a - 1) (by omega) (by omega),pR (n:=Builtin.Range.rangeSize a b 1) (by rw [hsz]; split <;> omega) (by rw [hsz]; split <;> omega)]
  rfl
 ·first
  | exact wpAny_pure h
  | exact wpAny_bind (wpAny_pure (wpAny_pure h))
theorem Zgh:isSubtype (.type "range_iterator") (.type "reversed")=pure false:=by rw [isSubtype_type]; kernel_rfl
theorem Zll {r:Addr} {a b:Int} {t u v:Tok} {Q:Ck} (hr:IsRange s.heap r a b 1 t u v) (ha:-(2 ^ 62)<=a) (ha':a < 2 ^ 62) (hb:-(2 ^ 62)<=b) (hb':b < 2 ^ 62)
  (h:Q (.ref s.heap.objs.size) { s with heap:=s.heap.push { cls:=.type "range_iterator",data:=.fields #[rawInt (a+(Builtin.Range.rangeSize a b 1 - 1) * 1),rawInt (Builtin.Range.rangeSize a b 1),rawInt (-1)] } }):wpAny (model prog w) A (call (.type "reversed") [.ref r]) Q E s:=by
 refine callType_other (U:="range_iterator") (Q₁:=λobj s₁=>obj=.ref s.heap.objs.size/\s₁={ s with heap:=s.heap.push { cls:=.type "range_iterator",data:=.fields #[rawInt (a+(Builtin.Range.rangeSize a b 1 - 1) * 1),rawInt (Builtin.Range.rangeSize a b 1),rawInt (-1)] } }) (by trivial) F.create_reversed ⟨_,_,F.mro_reversed⟩ F.made_reversed Zgh (F.typeCall_reversed_1 _) (Zlf hr ha ha' hb hb' ⟨rfl,rfl⟩) ?_
 rintro obj s₁ ⟨rfl,rfl⟩
 exact ⟨⟨_,zw _ rfl,rfl⟩,h⟩
end
theorem Zcl:Manifest.owners.lookup (String.ofList ['d','e','s','r','e','v','e','r'].reverse)=some Manifest.sig_reversed:=by kernel_rfl
theorem Zgo:Slot "reversed" "__init__" "object.__init__" :=
 .of (owner:="object") (n:="__init__") (by rw [typeLookup_type,builtinLookup_eq_fast]; kernel_rfl) (by trivial) (by trivial) (by trivial)
  (by first | exact .inl (by trivial) | exact .inr (by trivial)) (by rw [isSubtype_type]; kernel_rfl)
theorem qu:Slot "reversed" "__next__" "reversed.__next__" :=
 .of (owner:="reversed") (n:="__next__") (by rw [typeLookup_type,builtinLookup_eq_fast]; kernel_rfl) (by trivial) (by trivial) (by trivial)
  (by first | exact .inl (by trivial) | exact .inr (by trivial)) (by rw [isSubtype_type]; kernel_rfl)
theorem ZdE:entryFor table "reversed.__next__"=some Builtin.«reversed.__next__»:=entryFor_of_tree (by kernel_rfl)
theorem ZeY (a:Value):argsOk "reversed.__next__" ⟨[a],[]⟩:=by
 unfold argsOk; rw [signature?_of (id:="reversed.__next__") (n:=['_','_','t','x','e','n','_','_']) (o:=['d','e','s','r','e','v','e','r']) (by kernel_rfl) Zcl]; kernel_rfl
theorem ZaZ:Slot "reversed" "__iter__" "reversed.__iter__" :=
 .of (owner:="reversed") (n:="__iter__") (by rw [typeLookup_type,builtinLookup_eq_fast]; kernel_rfl) (by trivial) (by trivial) (by trivial)
  (by first | exact .inl (by trivial) | exact .inr (by trivial)) (by rw [isSubtype_type]; kernel_rfl)
theorem Zl8 (a:Value):argsOk "reversed.__iter__" ⟨[a],[]⟩:=by
 unfold argsOk; rw [signature?_of (id:="reversed.__iter__") (n:=['_','_','r','e','t','i','_','_']) (o:=['d','e','s','r','e','v','e','r']) (by kernel_rfl) Zcl]; kernel_rfl
theorem ZjZ:entryFor table "reversed.__iter__"=some Builtin.«dict_keyiterator.__iter__» :=
 entryFor_alias (id':="dict_keyiterator.__iter__") (by kernel_rfl) (by first | rfl | decide +kernel | (unfold String.splitOn; simp +decide [String.splitOnAux])) (by trivial) (by kernel_rfl)
theorem Zli:TypeCalled "reversed" "reversed.__new__" "object.__init__" :=
 ⟨by trivial,by trivial,⟨_,_,F.mro_reversed⟩,F.made_reversed,by trivial,by rw [isSubtype_type]; kernel_rfl,Zgo⟩
theorem Zif:typeLookup (.type "tuple") "__reversed__"=pure none:=by rw [typeLookup_type,builtinLookup_eq_fast]; kernel_rfl
theorem Ziy (l:Addr) (items:Array Value) (hfit:(items.size:Int) < 2 ^ 63) :
  Meets (Builtin.«reversed.__new__» ⟨[.type "reversed",.ref l],[]⟩) (λ_ R s=>IsTup s.heap l items /\
   R (.ok (.ret (.ref s.heap.objs.size))) { s with heap:=s.heap.push { cls:=.type "reversed",data:=.fields #[.ref l,rawInt ((items.size:Int) - 1)] },toks:=s.toks+1+1 }) :=
 .of_wp λprog w A R s h=>by
  obtain ⟨hp,g,d,tk,os⟩:=s
  obtain ⟨hl,h⟩:=h
  have hl':(Shared.mk hp g d tk os).heap.IsTuple l items:=hl
  unfold Builtin.«reversed.__new__»
  refine wpAny_bind (wpAny_of_eq (newClass_reversed _) ?_)
  try dsimp only
  refine wpAny_bind (wpAny_of_eq (a:=()) (by first | rfl | kernel_rfl) ?_)
  refine wpAny_bind (wpAny_of_eq (a:=()) (by first | rfl | kernel_rfl) ?_)
  try dsimp only
  refine wpAny_bind (wpAny_specialOf hl'.typeIs Zif ?_)
  try dsimp only
  refine wpAny_bind ?_
  show wpAny _ _ (isInstance (Value.ref l) (.type "dict") >>= _) _ _ _
  refine wpAny_bind (wpAny_isInstance (T:="tuple") (b:=false) hl'.typeIs (by rw [isSubtype_type]; kernel_rfl) ?_)
  show wpAny _ _ (specialOf (Value.ref l) "__getitem__" >>= _) _ _ _
  refine wpAny_bind (wpAny_specialOf hl'.typeIs F.slot_tuple_getitem.lookup ?_)
  refine wpAny_pure ?_
  show wpAny _ _ (call (Value.builtin "len") [Value.ref l] >>= _) _ _ _
  refine wpAny_bind (len_tuple hl hfit ?_)
  refine wpAny_bind (wpAny_of_eq (a:=some (items.size:Int)) rfl ?_)
  show wpAny _ _ (newObj (.type "reversed") (.fields #[.ref l,rawInt ((items.size:Int) - 1)]) >>= _) _ _ _
  refine wpAny_bind (wpAny_newObj_type ?_)
  exact wpAny_pure ⟨_,rfl,h⟩
def IsTRev (h:Heap) (a l:Addr) (i:Int):Prop:=∃ o,h.get? a=some o/\o.cls=.type "reversed"/\o.data=.fields #[.ref l,rawInt i]
theorem IsTRev.at {h h':Heap} {a l:Addr} {i:Int} (x:IsTRev h a l i) (e:∀ o,h.get? a=some o->h'.get? a=some o):IsTRev h' a l i:=let ⟨o,ho,r⟩:=x; ⟨o,e _ ho,r⟩
section
variable {prog:Program} {w:World} {A:Around} {E:Ck} {s:Shared}
theorem Zlj {l:Addr} {items:Array Value} {Q:Ck} (hl:IsTup s.heap l items) (hfit:(items.size:Int) < 2 ^ 63)
  (h:Q (.ref s.heap.objs.size) { s with heap:=s.heap.push { cls:=.type "reversed",data:=.fields #[.ref l,rawInt ((items.size:Int) - 1)] },toks:=s.toks+1+1 }) :
  wpAny (model prog w) A (call (.type "reversed") [.ref l]) Q E s :=
 callType_new Zli (by decide) (F.typeCall_reversed_1 _) (F.newCall_reversed_1 _) (λobj=>F.args_object_init_2 obj _) F.entry_reversed_new (Ziy l items hfit) ⟨hl,⟨_,zw _ rfl,rfl⟩,h⟩
theorem Zhd {it l:Addr} {i:Nat} {items:Array Value} {x:Value} {Q:Option Value->Shared->Prop} (hit:IsTRev s.heap it l (i:Int)) (hl:IsTup s.heap l items) (hne:l≠it) (hx:items[i]?=some x) (hfit:(items.size:Int) < 2 ^ 63)
  (hQ:∀ h',IsTRev h' it l ((i:Int) - 1)->Heap.SameBut it s.heap h'->Q (some x) { s with heap:=h',toks:=s.toks+1 }):wpAny (model prog w) A (pyNext (.ref it)) Q E s:=by
 obtain ⟨o,ho,hc,hd⟩:=id hit
 have hT:s.TypeIs (.ref it) "reversed":=⟨o,ho,hc⟩
 have hl':s.heap.IsTuple l items:=hl
 have hlt:i < items.size:=(BY.mp hx).1
 unfold pyNext
 refine wpAny_bind (wpAny_attempt (wpAny_callSpecial?_slot (name:=Str.ofString "__next__") hT qu
  (wpAny_call_entry qu hT ZdE ?_ (ZeY _))))
 unfold Builtin.«reversed.__next__»
 refine wpAny_bind (wpAny_of_eq (a:=(Value.ref it,[])) rfl ?_)
 try dsimp only
 refine wpAny_bind (wpAny_field ho hd (x:=.ref l) rfl ?_)
 refine wpAny_bind (wpAny_field ho hd (x:=rawInt (i:Int)) rfl ?_)
 show wpAny _ _ (if (i:Int) < 0 then _ else _) _ _ s
 rw [if_neg (by omega)]
 refine wpAny_bind (wpAny_specialOf hl'.typeIs F.slot_tuple_getitem.lookup ?_)
 show wpAny _ _ (mkInt (i:Int) >>= _) _ _ s
 refine wpAny_bind (wpAny_mkInt ?_)
 refine wpAny_bind (wpAny_attempt (getItem_tuple (j:=i) (x:=x) hl (by omega) (by omega) ?_ hx ?_))
 ·unfold seqIndex?
  simp
  omega
 ·dsimp only
  refine wpAny_bind (wpAny_field ho hd (x:=rawInt (i:Int)) rfl ?_)
  show wpAny _ _ (setField (.ref it) 1 (rawInt ((i:Int) - 1)) >>= _) _ _ _
  refine wpAny_bind (wpAny_setField ho hd (by simp) ?_)
  refine wpAny_pure ⟨x,rfl,wpAny_pure (hQ _ ?_ (Bb ..))⟩
  exact ⟨_,AS _ ho (BI (A3 hd _)),(Obj.cls_mapFields ..).trans hc,by
   rw [A3 hd]; simp⟩
theorem Zhe {it l:Addr} {Q:Option Value->Shared->Prop} (hh:A.handled=none) (hit:IsTRev s.heap it l (-1))
  (hQ:∀ h',Heap.ExtBut it s.heap h'->Q none { s with heap:=h' }):wpAny (model prog w) A (pyNext (.ref it)) Q E s:=by
 obtain ⟨o,ho,hc,hd⟩:=id hit
 have hT:s.TypeIs (.ref it) "reversed":=⟨o,ho,hc⟩
 unfold pyNext
 refine wpAny_bind (wpAny_attempt (wpAny_callSpecial?_slot (name:=Str.ofString "__next__") hT qu
  (wpAny_call_entry qu hT ZdE ?_ (ZeY _))))
 unfold Builtin.«reversed.__next__»
 refine wpAny_bind (wpAny_of_eq (a:=(Value.ref it,[])) rfl ?_)
 try dsimp only
 refine wpAny_bind (wpAny_field ho hd (x:=.ref l) rfl ?_)
 refine wpAny_bind (wpAny_field ho hd (x:=rawInt (-1)) rfl ?_)
 show wpAny _ _ (if (-1:Int) < 0 then _ else _) _ _ s
 rw [if_pos (by decide)]
 refine wpAny_bind (wpAny_rule ?_)
 refine wpAny_bind ?_
 show wpAny _ _ (setField (.ref it) 1 (rawInt (-1)) >>= _) _ _ _
 refine wpAny_bind (wpAny_setField ho hd (by simp) ?_)
 have ho2:=AS (Obj.mapFields λx_1=>x_1.setIfInBounds 1 (rawInt (-1))) ho (BI (A3 hd _))
 refine wpAny_setField ho2 (A3 hd _) (by simp) ?_
 have eb:Heap.ExtBut it s.heap ((s.heap.update it (Obj.mapFields λx_1=>x_1.setIfInBounds 1 (rawInt (-1)))).update it (Obj.mapFields λx_1=>x_1.setIfInBounds 0 Value.none)):=λb o' hb e=>(Bb _ _ _).extBut b o' hb ((Bb _ _ _).extBut b o' hb e)
 show wpAny _ _ (newExc (.type "StopIteration") [] >>= _ >>= _) _ _ _
 refine wpAny_bind ?_
 refine wpAny_bind ?_
 simp only [newExc,newTuple]
 refine wpAny_bind (wpAny_newObj_type ?_ (by size_fits))
 refine wpAny_bind (m:=firstArgMember _ _) (wpAny_of_eq (a:=Value.none) (by first | rfl | (simp only [firstArgMember]; rfl)) ?_)
 refine wpAny_newObj_type ?_ (by size_fits)
 simp only [raiseNew]
 refine wpAny_bind (wpAny_handled ?_)
 first | rw [show A.in1.handled=none from hh] | rw [hh]
 refine wpAny_bind (wpAny_pure (wpAny_throw ?_))
 refine wpAny_bind (wpAny_isInstance (T:="StopIteration") (b:=true) ⟨_,zw _ rfl,rfl⟩ isSubtype_stop ?_)
 exact wpAny_pure (hQ _ ((eb.push _).push _))
theorem Zb3 {it l:Addr} {i:Int} {Q:Ck} (hit:IsTRev s.heap it l i) (h:Q (.ref it) s):wpAny (model prog w) A (pyIter (.ref it)) Q E s:=by
 obtain ⟨o,ho,hc,hd⟩:=id hit
 have hT:s.TypeIs (.ref it) "reversed":=⟨o,ho,hc⟩
 refine wpAny_pyIter_slot hT ZaZ (wpAny_call_entry ZaZ hT ZjZ ?_ (Zl8 _))
 show wpAny _ _ (ret (.ref it)) _ _ s
 exact wpAny_pure ⟨_,rfl,"reversed",_,hT,qu.lookup,h⟩
end
noncomputable def sF (b:Bool) (l:Addr) (n:Nat):It :=
 ⟨λi H=>i < n/\∃ xs,H l=some (ck b xs)/\xs.length=n,λi H x H'=>H'=H/\∃ xs,H l=some (ck b xs)/\xs[n - 1 - i]?=some x,λi _=>i=n⟩
def RvAt (b:Bool) (h:Heap) (it l:Addr) (i:Int):Prop:=match b with
 | true=>h.IsRevIter it l i
 | false=>IsTRev h it l i
theorem RvAt.there {b:Bool} {h:Heap} {it l:Addr} {i:Int} (x:RvAt b h it l i):∃ o n vs,h.get? it=some o/\o.cls=.type n/\o.data=.fields vs/\["enumerate","zip","dict_itemiterator","dict_reverseitemiterator","odict_iterator","itertools.zip_longest","itertools.pairwise"].contains n=false:=by
 cases b with
 | true=>obtain ⟨o,h1,h2,h3⟩:=x; exact ⟨o,_,_,h1,h2,h3,by decide⟩
 | false=>obtain ⟨o,h1,h2,h3⟩:=x; exact ⟨o,_,_,h1,h2,h3,by decide⟩
theorem RvAt.at {b:Bool} {h h':Heap} {it l:Addr} {i:Int} (x:RvAt b h it l i) (e:∀ o,h.get? it=some o->h'.get? it=some o):RvAt b h' it l i:=by
 cases b with
 | true=>exact Heap.IsRevIter.at x e
 | false=>exact IsTRev.at x e
theorem Zaw {P:Program} {w:World} {K:Cb} {tg:Expr} {b:Bool} {l:Addr} {n:Nat} (it:Addr) (hn:(n:Int) < 2 ^ 63):Turn P w K tg (sF b l n) [it] it (λi h=>RvAt b h it l ((n:Int) - 1 - (i:Nat))) where
 mem:=by simp
 obj:=λi h st c hb=>by
  have e:c=it:=by simpa using hb
  subst e
  obtain ⟨o,_,_,h1,_,h3,_⟩:=st.there
  exact ⟨o,h1,λv z=>by rw [h3] at z; cases z⟩
 keep:=λi h h' st k=>st.at λo e=>k it (by simp) o e
 item:=by
  intro X hP hw hK hc i pins s σ H E I hf st hg
  subst hP hw hK
  obtain ⟨hi,xs,e1,hlen⟩:=hg
  obtain ⟨us,r1,q1⟩:=eE I.hok e1
  obtain ⟨f0,f1,f2,f3,f4,f5⟩:=hf it (by simp)
  have hxl:n - 1 - i < xs.length:=by omega
  have hx:xs[n - 1 - i]?=some xs[n - 1 - i]:=zP hxl
  obtain ⟨u,hu,ru⟩:=r1.get hx
  have ne:l≠it:=dt e1 f0
  have ei:(n:Int) - 1 - (i:Nat)=((n - 1 - i:Nat):Int):=by omega
  have ei2:((n - 1 - i:Nat):Int) - 1=(n:Int) - 1 - ((i+1:Nat):Int):=by omega
  rw [ei] at st
  have usz:us.toArray.size=n:=by rw [zr,<- r1.length]; exact hlen
  have fin:∀ (h':Heap) (tk:Nat),RvAt b h' it l ((n:Int) - 1 - ((i+1:Nat):Int))->Heap.SameBut it s.heap h'->∃ u',some u=some u'/\wpAny (model X.prog X.w) X.A (letOwnedTupleGo tg (.ref it) u') (λ_ s2=>∃ x H',Inv X pins σ H' s2/\RelV x u'/\(sF b l n).yld i H x H'/\RvAt b s2.heap it l ((n:Int) - 1 - ((i+1:Nat):Int))/\∀ b∈[it],H' b=none) E { s with heap:=h',toks:=tk }:=λh' tk st' sb=>by
   have I1:Inv X pins σ H { s with heap:=h',toks:=tk }:=I.turned (λb o hb e=>(sb.2 b hb).trans e) f0 f1 f3 f4 f5
   obtain ⟨o,nm,vs,g1,g2,g3,g4⟩:=st'.there
   exact ⟨u,rfl,pP (s:={ s with heap:=h',toks:=tk }) g1 g2 g3 g4 ⟨_,H,I1,ru,⟨rfl,xs,e1,hx⟩,st',λb hb=>(hf b hb).1⟩⟩
  cases b with
  | true =>
   refine wpAny_pyNext_rev_item (i:=n - 1 - i) st q1 (x:=u) (by simpa using hu) λh' st' sb=>?_
   rw [ei2] at st'
   exact fin h' s.toks st' sb
  | false =>
   refine Zhd (i:=n - 1 - i) st q1 ne (x:=u) (by simpa using hu) (by rw [usz]; exact hn) λh' st' sb=>?_
   rw [ei2] at st'
   exact fin h' (s.toks+1) st' sb
 done:=by
  intro X hP hw hK hc i pins s σ H E I hf st hg
  subst hP hw hK
  obtain ⟨f0,f1,f2,f3,f4,f5⟩:=hf it (by simp)
  have hi:i=n:=hg
  subst hi
  have e:(i:Int) - 1 - (i:Nat)=-1:=by omega
  rw [e] at st
  cases b with
  | true=>exact wpAny_pyNext_rev_end (I.ok.hd hc) st λh' eb=>⟨rfl,I.turned (t':=s.toks) (λb o hb e=>eb b o hb e) f0 f1 f3 f4 f5⟩
  | false=>exact Zhe (I.ok.hd hc) st λh' eb=>⟨rfl,I.turned (t':=s.toks) (λb o hb e=>eb b o hb e) f0 f1 f3 f4 f5⟩
 self:=λ_ _ _ _ _ st h=>by
  cases b with
  | true=>exact wpAny_pyIter_revIter st h
  | false=>exact Zb3 st h
section
variable {X:Cx} {tg:Expr} {PK:Pk} {a b:Expr} {i j:Cc} {p pos:Pos}
def yk (ta:TE):TI:=λσ H R=>ta σ H λx H1=>(∃ b l xs,x=.ref l/\H1 l=some (ck b xs)/\R (sF b l xs.length) H1) \/
 (∃ l lo hi,x=.ref l/\H1 l=some (.rng lo hi)/\-(2 ^ 62)<=lo/\lo < 2 ^ 62/\-(2 ^ 62)<=hi/\hi < 2 ^ 62/\R (oJ (lo+(hi - lo).toNat - 1) (hi - lo).toNat) H1)
theorem Zca {ta:TE} (hg:Gl X "reversed") (hm:X.mg "reversed"=none) (ha:PE X a ta)
  (hs:starEach [a] X.env=[(false,eval a X.env)]:=by rfl):PI X tg (.Call (.Name "reversed" p) [a] [] pos) (yk ta):=by
 intro pins s σ H R I h
 have hab:PA X [a] (iK ta aX):=bG ha cz (by rw [hs]; rfl)
 have h':iK ta aX σ H λvs H1=>∃ x,vs=[x]/\((∃ b l xs,x=.ref l/\H1 l=some (ck b xs)/\R (sF b l xs.length) H1) \/
   (∃ l lo hi,x=.ref l/\H1 l=some (.rng lo hi)/\-(2 ^ 62)<=lo/\lo < 2 ^ 62/\-(2 ^ 62)<=hi/\hi < 2 ^ 62/\R (oJ (lo+(hi - lo).toNat - 1) (hi - lo).toNat) H1)):=by
  have h0:ta σ H λx H1=>(∃ b l xs,x=.ref l/\H1 l=some (ck b xs)/\R (sF b l xs.length) H1) \/
   (∃ l lo hi,x=.ref l/\H1 l=some (.rng lo hi)/\-(2 ^ 62)<=lo/\lo < 2 ^ 62/\-(2 ^ 62)<=hi/\hi < 2 ^ 62/\R (oJ (lo+(hi - lo).toNat - 1) (hi - lo).toNat) H1):=h
  refine cast (congrArg (ta σ H) ?_) h0
  funext x H1
  apply propext
  constructor
  ·exact λq=>⟨x,rfl,q⟩
  ·rintro ⟨y,e,q⟩
   have e':x=y:=by simpa using e
   subst e'
   exact q
 refine Call_ (ij I hg hm boot_reversed (Aj (thn (hab pos pins s σ H _ I h') λus s1 hz0=>?_) (by rw [hs]; rfl) rfl))
 obtain ⟨vs,H1,I1,r1,q1⟩:=hz0
 obtain ⟨x,rfl,q1⟩:=q1
 obtain ⟨u,rfl,ru⟩:=eB r1
 have fp:∀ c∈[s1.heap.objs.size],fh X pins H1 c:=λc hb=>by
  have e:c=s1.heap.objs.size:=by simpa using hb
  subst e
  exact I1.fpOk (zp _) (I1.hok.fresh (zp _))
 have hn:=ii
 rcases q1 with ⟨b,l,xs,rfl,e1,q⟩ | ⟨l,lo,hi,rfl,e1,b1,b2,b3,b4,q⟩
 ·cases ru
  obtain ⟨us,r2,q2⟩:=eE I1.hok e1
  have usz:us.toArray.size=xs.length:=by rw [zr,<- r2.length]
  have hz:xs.length<=sizeLine:=by
   cases b with
   | true=>exact (I1.hok _ _ e1).1
   | false=>exact (I1.hok _ _ e1).1
  cases b with
  | true =>
   refine call_reversed_list q2 (wpAny_pyIter_revIter ⟨_,zw _ rfl,rfl,rfl⟩ ?_)
   refine ⟨_,_,_,_,H1,rfl,I1.kept (t':=s1.toks) λb o e=>pi _ e,Zaw (b:=true) (l:=l) (n:=xs.length) s1.heap.objs.size (by omega),?_,fp,q⟩
   refine ⟨_,zw _ rfl,rfl,?_⟩
   rw [usz]
   show Data.fields #[_,rawInt ((xs.length:Int) - 1)]=Data.fields #[_,rawInt ((xs.length:Int) - 1 - ((0:Nat):Int))]
   simp
  | false =>
   refine Zlj q2 (by rw [usz]; omega) (Zb3 ⟨_,zw _ rfl,rfl,rfl⟩ ?_)
   refine ⟨_,_,_,_,H1,rfl,I1.kept (t':=s1.toks+1+1) λb o e=>pi _ e,Zaw (b:=false) (l:=l) (n:=xs.length) s1.heap.objs.size (by omega),?_,fp,q⟩
   refine ⟨_,zw _ rfl,rfl,?_⟩
   rw [usz]
   show Data.fields #[_,rawInt ((xs.length:Int) - 1)]=Data.fields #[_,rawInt ((xs.length:Int) - 1 - ((0:Nat):Int))]
   simp
 ·cases ru
  obtain ⟨t,u,v,e⟩:=I1.hok _ _ e1
  have hsz:Builtin.Range.rangeSize lo hi 1=((hi - lo).toNat:Int):=by rw [rangeSize_one]; split <;> omega
  refine Zll e b1 b2 b3 b4 (wpAny_pyIter_rangeiter (zw _ rfl) ?_)
  refine ⟨_,_,_,_,H1,rfl,I1.kept (t':=s1.toks) λb o e=>pi _ e,ZfH s1.heap.objs.size (lo+(hi - lo).toNat - 1) (hi - lo).toNat,?_,fp,q⟩
  rw [hsz]
  have e1:lo+(((hi - lo).toNat:Int) - 1) * 1=lo+(hi - lo).toNat - 1+((0:Nat):Int) * (-1):=by simp; omega
  have e2:((hi - lo).toNat:Int)=((hi - lo).toNat:Int) - ((0:Nat):Int):=by simp
  rw [e1]
  show IsRangeIter _ _ _ (((hi - lo).toNat:Int) - ((0:Nat):Int)) (-1)
  rw [<- e2]
  exact zw _ rfl
end
end L2
set_option Elab.async false
set_option linter.all false
set_option maxRecDepth 100000
namespace L2
section
variable {X:Cx} {tg:Expr} {PK:Pk} {e:Expr} {i j:Cc} {is:Cd} {p pos:Pos}
noncomputable def Zmv (i:Cc):Cd:=λρ=>(i ρ).bind λx=>(Tr.of (eX x)).bind λxs=>.ret xs.reverse
theorem Zln:cS X (.type "range") (λxs H Q=>∃ j:Int,xs=[.int j]/\∀ p,H p=none->Q (.ref p) (upd H p (.rng 0 j))):=by
 intro pins s σ H xs us Q I r h
 obtain ⟨j,rfl,q⟩:=h
 cases r with
 | cons r1 rr =>
  cases rr
  obtain ⟨t,rfl⟩:=r1
  refine call_range_1 ?_
  exact ⟨.ref s.heap.objs.size,_,I.laid (t':=s.toks+1+1) (λb o e=>pi _ e) (zp _) (show ObjOk X.prog X.w _ _ _ (.rng 0 j) from ⟨s.toks,t,s.toks+1,zw _ rfl⟩),rfl,q _ (I.hok.fresh (zp _))⟩
theorem Zc3 {pa:Addr} {G:Hp} {lo:Int} {n:Nat}:oG PK pa (oJ (lo+n - 1) n) G ((ap lo n).map PyData.int).reverse:=λm G2 H2 sb w=>by
 have hl:((ap lo n).map PyData.int).length=n:=by rw [zo,eT]
 refine ⟨λk x hx=>?_,by show n<=_; rw [zQ,hl]; exact zp _⟩
 have hk:k < n:=by
  have:=(zu.mp hx).1
  rwa [zQ,hl] at this
 refine ⟨hk,λy H3 hz0=>?_⟩
 obtain ⟨e1,e2⟩:=hz0
 subst e1 e2
 have:x=.int (lo+n - 1 - k):=by
  rw [BD (by rw [hl]; exact hk),hl] at hx
  unfold ap at hx
  rw [Ah,zH,Ai (by omega)] at hx
  cases hx
  show PyData.int (lo+((n - 1 - k:Nat):Int))=_
  congr 1
  omega
 subst this
 exact ⟨G2,.refl,w,.int _⟩
noncomputable def yY (is:Cd):Cd:=λρ=>(is ρ).bind λxs=>(Tr.of (oZ xs)).bind λys=>.ret ys.reverse
noncomputable def yX (is:Cd):Cd:=λρ=>(is ρ).bind λxs=>(Tr.of (oY xs)).bind λys=>.ret ys.reverse
def ZfZ (t:TA):TE:=gP (λxs H Q=>∃ j:Int,xs=[.int j]/\∀ p,H p=none->Q (.ref p) (upd H p (.rng 0 j))) t
def ZfY (t:TA):TE:=gP (λxs H Q=>∃ i j:Int,xs=[.int i,.int j]/\∀ p,H p=none->Q (.ref p) (upd H p (.rng i j))) t
theorem Zmg {iter:Expr} (h:PI X tg iter (yk (ZfZ (TAd PK is)))):PI X tg iter (dk PK (yY is)):=h.imp λσ H R0 hz0=>by
 obtain ⟨pa,Cs,H₀,m,ρ,G,R,z⟩:=hz0
 refine TAd.then R z λm1 xs vs G1 H1 s1 w1 R1 d1 q1=>?_
 rw [Tr.ok_bind] at q1
 obtain ⟨ys,hy,q1⟩:=Tr.ok_of q1
 obtain ⟨n,e,h1,h2,rfl⟩:=Zbo d1 hy
 refine ⟨n,e,λp hp=>?_⟩
 obtain ⟨w2,s2⟩:=w1.own (o:=.rng 0 n) hp
 refine .inr ⟨p,0,n,rfl,bH,by decide,by decide,h1,h2,?_⟩
 have q:=q1 (oJ (0+(n - 0).toNat - 1) (n - 0).toNat) G1 _ (s1.trans s2 w1.some) w2
 unfold aZ at q
 exact q Zc3
theorem Zmf {iter:Expr} (h:PI X tg iter (yk (ZfY (TAd PK is)))):PI X tg iter (dk PK (yX is)):=h.imp λσ H R0 hz0=>by
 obtain ⟨pa,Cs,H₀,m,ρ,G,R,z⟩:=hz0
 refine TAd.then R z λm1 xs vs G1 H1 s1 w1 R1 d1 q1=>?_
 rw [Tr.ok_bind] at q1
 obtain ⟨ys,hy,q1⟩:=Tr.ok_of q1
 obtain ⟨k,n,e,⟨h1,h2,h3,h4⟩,rfl⟩:=Zbn d1 hy
 refine ⟨k,n,e,λp hp=>?_⟩
 obtain ⟨w2,s2⟩:=w1.own (o:=.rng k n) hp
 refine .inr ⟨p,k,n,rfl,bH,h1,h2,h3,h4,?_⟩
 exact q1 (oJ (k+(n - k).toNat - 1) (n - k).toNat) G1 _ (s1.trans s2 w1.some) w2 Zc3
end
section
variable {X:Cx} {PK:Pk} {i n:Cc}
noncomputable def sj (k:Nat) (i:Cc):Cf:=λρ=>match ρ[k]? with
 | some (.own xs)=>(i ρ).bind λx=>match x with
  | .list ys=>if small (xs.length+ys.length)=true then .ret (.next (ρ.set k (.own (xs++ys)))) else .fail
  | _=>.fail
 | _=>.fail
theorem Zl5 {k:Nat} {K:Cb} {st:Stmt} (h:PS X st (sO (wC K "list" ZbT (eD k) (iK (TAe PK i) aX)))):PS X st (br PK (sj k i)):=h.imp λD σ H hz0=>by
 obtain ⟨pa,Cs,H₀,m,ρ,G,R,z⟩:=hz0
 unfold sj at z
 split at z
 ·rename_i xs hx
  obtain ⟨o,h1,h2⟩:=R.sl k _ hx
  cases h2 with
  | @own p vs _ a1 a2 a3 a4 =>
   refine ⟨_,h1,.inl ⟨rfl,_,SqL.of a1⟩,?_⟩
   refine TAe.then R z λm1 x v G1 H1 s1 w1 R1 d1 q1=>?_
   cases d1 with
   | @lst l us ds b1 b2 =>
    obtain ⟨hs,q1⟩:=dS q1
    obtain ⟨o,h1',h2⟩:=R1.sl k _ hx
    rw [h1] at h1'
    cases h1'
    cases h2 with
    | @own _ vs1 _ c1 c2 c3 c4 =>
     have hs':xs.length+ds.length<=sizeLine:=of_decide_eq_true hs
     refine ⟨p,l,vs1,us,rfl,rfl,c1,w1.sub _ _ b1,by rw [c4.length,b2.length]; exact hs',?_⟩
     exact q1 σ G1 _ s1.gs (R1.change hx h1 (c4.append b2))
   | _=>exact q1.elim
 ·exact z.elim
noncomputable def Zfb (k:Nat) (n i:Cc):Cf:=λρ=>match ρ[k]? with
 | some (.own xs)=>(n ρ).bind λy=>(i ρ).bind λx=>match y with
  | .int t=>if (decide (0<=t) && decide (t<=1000) && decide (xs.length<=1000))=true then .ret (.next (ρ.set k (.own (xs.take t.toNat++x::xs.drop t.toNat)))) else .fail
  | _=>.fail
 | _=>.fail
end
section
variable {prog:Program} {w:World} {A:Around} {E:Ck} {s:Shared}
theorem Zgr {sl:Addr} {vk:Value} {n:Nat} {Q:Int×Int×Nat->Shared->Prop} (hs:s.heap.IsSliceOf sl .none .none vk) (pk:IsPart vk (some (-1)))
  (h:Q ((n:Int) - 1,-1,n) s):wpAny (model prog w) A (Builtin.Slice.sliceApplied (.ref sl) (pure (n:Int))) Q E s:=by
 obtain ⟨os,hos,hcs,hds⟩:=id hs
 unfold Builtin.Slice.sliceApplied Builtin.Slice.sliceFields
 refine wpAny_bind (wpAny_bind (wpAny_field hos hds (x:=.none) rfl (wpAny_bind (wpAny_field hos hds (x:=.none) rfl (wpAny_bind (wpAny_field hos hds (x:=vk) rfl (wpAny_pure ?_)))))))
 refine wpAny_bind (HT.qv pk ?_)
 show wpAny _ _ (if ((-1:Int) == 0)=true then _ else _) _ _ s
 rw [if_neg (by decide)]
 refine wpAny_bind (HT.qv .none (wpAny_bind (HT.qv .none (wpAny_bind (wpAny_pure ?_)))))
 show wpAny _ _ (match Builtin.Slice.sliceAdjust none none (-1) (n:Int) with | (lo,hi)=>pure (lo,(-1:Int),Builtin.Slice.slicePlaces lo hi (-1))) _ _ s
 have ea:Builtin.Slice.sliceAdjust none none (-1) (n:Int)=((n:Int) - 1,-1):=by
  unfold Builtin.Slice.sliceAdjust
  simp
 rw [ea]
 show wpAny _ _ (pure ((n:Int) - 1,(-1:Int),Builtin.Slice.slicePlaces ((n:Int) - 1) (-1) (-1))) _ _ s
 have ep:Builtin.Slice.slicePlaces ((n:Int) - 1) (-1) (-1)=n:=by
  unfold Builtin.Slice.slicePlaces
  rw [if_neg (by decide)]
  split
  ·have e:(-(-1:Int))=1:=by decide
   rw [e,Int.ediv_one]
   omega
  ·omega
 rw [ep]
 exact wpAny_pure h
theorem Zhx (xs:Array Value):((List.range xs.size).filterMap λ(m:Nat)=>xs[((xs.size:Int) - 1+(m:Int) * (-1)).toNat]?).toArray=xs.toList.reverse.toArray:=by
 have h1:=PySem.W.krv_pick xs
 unfold slicePick at h1
 rw [PySem.W.krv_bounds] at h1
 have h2:((sliceRange ((xs.size:Int) - 1) (-1) (-1)).filterMap (xs[·]?)).toArray=xs.toList.reverse.toArray:=h1
 rw [PySem.W.krv_sliceRange,List.filterMap_map] at h2
 rw [<- h2]
 congr 2
 funext m
 show xs[((xs.size:Int) - 1+(m:Int) * (-1)).toNat]?=xs[xs.size - 1 - m]?
 congr 1
 omega
theorem Zjx {t sl:Addr} {items:Array Value} {vk:Value} {Q:Ck} (ht:IsTup s.heap t items) (hs:s.heap.IsSliceOf sl .none .none vk) (pk:IsPart vk (some (-1)))
  (h:Q (.ref s.heap.objs.size) { s with heap:=s.heap.push { cls:=.type "tuple",data:=.seq items.toList.reverse.toArray } })
  (hsz:items.size<=sizeLine):wpAny (model prog w) A (getItem (.ref t) (.ref sl)) Q E s:=by
 have htake:sizeOk (.seq items.toList.reverse.toArray):=by
  show items.toList.reverse.toArray.size<=sizeLine
  rw [zr,zQ,A6]
  exact hsz
 obtain ⟨os,hos,hcs,hds⟩:=id hs
 have hTs:s.TypeIs (.ref sl) "slice":=⟨os,hos,hcs⟩
 unfold getItem
 try with_reducible refine wpAny_holding ?_
 first | refine wpAny_bind (wpAny_pure ?_) | skip
 refine wpAny_bind (wpAny_sequenceKey ht.typeIs (by decide) ?_)
 refine wpAny_bind (wpAny_callSpecial?_slot (name:=Str.ofString "__getitem__") ht.typeIs Ab
  (wpAny_call_entry Ab ht.typeIs entry_tuple_getitem ?_ (args_tuple_getitem _ _)))
 show wpAny _ _ (Builtin.Tuple.tupleItemsOf (.ref t) >>= _) _ _ s
 refine wpAny_bind (tupleItemsOf_ ht ?_)
 refine wpAny_bind (wpAny_typeOf hTs ?_)
 rw [if_pos (by decide)]
 refine wpAny_bind (Zgr hs pk ?_)
 show wpAny _ _ (if (((items.size:Int) - 1) == 0 && (-1:Int) == 1 && items.size == items.size)=true then _ else _) _ _ s
 rw [if_neg (by simp),Zhx]
 first
  | exact wpAny_bind (m:=Builtin.Tuple.tupleExact _) (wpAny_newObj_type (wpAny_pure ⟨_,rfl,wpAny_pure h⟩) htake)
  | exact wpAny_bind (m:=Builtin.Tuple.tupleExact _) (wpAny_newObj_type (wpAny_bind (wpAny_pure (wpAny_pure ⟨_,rfl,wpAny_pure h⟩))) htake)
  | exact wpAny_bind (wpAny_bind (m:=Builtin.Tuple.tupleExact _) (wpAny_newObj_type (wpAny_pure (wpAny_pure ⟨_,rfl,wpAny_pure h⟩)) htake))
  | exact wpAny_bind (wpAny_bind (m:=Builtin.Tuple.tupleExact _) (wpAny_newObj_type (wpAny_pure ⟨_,rfl,wpAny_pure h⟩) htake))
end
section
variable {X:Cx} {PK:Pk} {e st:Expr} {te ts:TE} {i j:Cc} {p2 pos:Pos}
def ZfW (te ts:TE):TE:=λσ H Q=>te σ H λx H1=>ts σ H1 λk H2=>k=.int (-1)/\∃ b a xs,x=.ref a/\H2 a=some (ck b xs)/\∀ p,H2 p=none->Q (.ref p) (upd H2 p (ck b xs.reverse))
theorem Zaq {xs:Cp} {us:Cn} (h:Vals xs us):Vals xs.reverse us.reverse:=by
 induction h with
 | nil=>exact .nil
 | cons a b ih =>
  rw [AR,AR]
  exact ih.append (.cons a .nil)
theorem ZhH (he:PE X e te) (hk:PE X st ts):PE X (.Subscript e (.Slice none none (some st) p2) pos) (ZfW te ts):=by
 intro pins s σ H Q I h
 refine Subscript_ (thn (he pins s σ H _ I h) λv s1 hz0=>?_)
 obtain ⟨x,H1,I1,r1,q1⟩:=hz0
 refine wpAny_Slice ?_
 rw [evalPart_none]
 refine wpAny_pure (wpAny_pure ?_)
 rw [evalPart_some]
 refine thn (hk pins s1 σ H1 _ I1 q1) λvk s3 hz0=>?_
 obtain ⟨y,H3,I3,r3,q3⟩:=hz0
 obtain ⟨rfl,b,a,xs,rfl,e1,q⟩:=q3
 obtain ⟨t,rfl⟩:=r3
 cases r1
 have I4:Inv X pins σ H3 { s3 with heap:=s3.heap.push { cls:=.type "slice",data:=.fields #[.none,.none,.int (-1) t] } }:=I3.kept (t':=s3.toks) λb ob q=>pi _ q
 have hsl:({ s3 with heap:=s3.heap.push { cls:=.type "slice",data:=.fields #[.none,.none,.int (-1) t] } }:Shared).heap.IsSliceOf s3.heap.objs.size .none .none (.int (-1) t):=Heap.IsSliceOf.new ..
 show wpAny (model X.prog X.w) X.A (subscriptTail e (.Slice none none (some st) p2) (.ref a) (.ref s3.heap.objs.size)) (EP X pins σ Q) X.xe { s3 with heap:=s3.heap.push { cls:=.type "slice",data:=.fields #[.none,.none,.int (-1) t] } }
 generalize hs4:({ s3 with heap:=s3.heap.push { cls:=.type "slice",data:=.fields #[.none,.none,.int (-1) t] } }:Shared)=s4 at I4 hsl ⊢
 obtain ⟨us,r2,q2⟩:=eE I4.hok e1
 have hlen:=r2.length
 cases b with
 | true =>
  have hz:xs.length<=sizeLine:=(I4.hok _ _ e1).1
  have q2':s4.heap.IsList a us.toArray:=q2
  refine tail_any (ops:=[.ref a,.ref s3.heap.objs.size]) q2'.typeIs slot_list_getitem.lookup ?_ (by with_unfolding_all rfl)
  refine wpAny_getItem_list_slice q2' hsl .none .none (.int (-1) t) (by decide) ?_ (by rw [zr]; omega)
  rw [PySem.W.krv_pick]
  refine ⟨.ref s4.heap.objs.size,_,I4.laid (t':=s4.toks) (o:=.lst xs.reverse) (λb ob q=>pi _ q) (zp _) ?_,rfl,q _ (I4.hok.fresh (zp _))⟩
  exact ⟨by rw [zQ]; exact hz,_,0,Zaq r2,zw _ rfl⟩
 | false =>
  have hz:xs.length<=sizeLine:=(I4.hok _ _ e1).1
  have q2':IsTup s4.heap a us.toArray:=q2
  refine tail_any (ops:=[.ref a,.ref s3.heap.objs.size]) q2'.typeIs PyProof.Rows.slot_tuple_getitem.lookup ?_ (by with_unfolding_all rfl)
  refine Zjx q2' hsl (.int (-1) t) ?_ (by rw [zr]; omega)
  refine ⟨.ref s4.heap.objs.size,_,I4.laid (t':=s4.toks) (o:=.tup xs.reverse) (λb ob q=>pi _ q) (zp _) ?_,rfl,q _ (I4.hok.fresh (zp _))⟩
  exact ⟨by rw [zQ]; exact hz,_,Zaq r2,IsTup.new _ _⟩
noncomputable def o0:Cj
 | .list xs,.int (-1)=>some (.list xs.reverse)
 | .tuple xs,.int (-1)=>some (.tuple xs.reverse)
 | _,_=>none
theorem Zmi (he:PE X e (TAe PK i)) (hk:PE X st (TAe PK j)):PE X (.Subscript e (.Slice none none (some st) p2) pos) (TAe PK (ae o0 i j)):=(ZhH he hk).imp λσ H Q hz0=>by
 obtain ⟨pa,Cs,H₀,m,ρ,G,R,z⟩:=hz0
 refine TAe.then R z λm1 x v G1 H1 s1 w1 R1 d1 q1=>?_
 refine TAe.then R1 q1 λm2 y u G2 H2 s2 w2 R2 d2 q2=>?_
 obtain ⟨d,hd,k⟩:=Tr.ok_of q2
 have k':=Kn.later k (s1.trans s2 w1.some) w2.some
 have d1':=d1.mono s2.gs
 unfold o0 at hd
 split at hd
 ·cases hd
  cases d2
  cases d1' with
  | lst a1 a2=>exact ⟨rfl,true,_,_,rfl,w2.sub _ _ a1,λp hp=>k'.lst w2 a2.reverse hp⟩
 ·cases hd
  cases d2
  cases d1' with
  | tup a1 a2=>exact ⟨rfl,false,_,_,rfl,w2.sub _ _ a1,λp hp=>k'.tup w2 a2.reverse hp⟩
 ·cases hd
end
end L2
set_option Elab.async false
set_option linter.all false
set_option maxRecDepth 100000
namespace L2
abbrev gL (h0 h:Heap):Prop:=∀ c o,h0.get? c=some o->h.get? c=some o
noncomputable def zl (prog:Program) (w:World) (A:Around) (h0:Heap) (P:Nat->Value->Prop) (bt:Nat->Nat->Bool):Prop :=
 ∀ i j vi vj (s:Shared) (Q:Ck) (E:Ck),j < i->gL h0 s.heap->P i vi->P j vj->Q (.bool (bt i j)) s->wpAny (model prog w) A (richCompare .Lt vi vj) Q E s
theorem ZeZ (bt:Nat->Nat->Bool):∀ j,argBest bt j<=j
 | 0=>zp _
 | j+1=>by
  have:=ZeZ bt j
  unfold argBest
  split <;> omega
section
variable {prog:Program} {w:World} {A:Around} {R:Result->Shared->Prop} {I S:Addr} {fp wr:List Addr} {n:Nat} {P:Nat->Value->Prop} {St:Nat->Heap->Prop} {h0:Heap}
theorem ra:(toString "min"++toString ".loop":String)="min.loop":=by decide
theorem Zix (W:Walks prog w A.in1 I fp wr n P St) (bt:Nat->Nat->Bool) (hcmp:zl prog w A.in1 h0 P bt) (hSf:S ∉ fp) (h0w:∀ c o,h0.get? c=some o->c ∉ wr/\c≠S) :
  ∀ (k j:Nat) (s:Shared) (vb:Value) (c:Nat),n - (j+1)=k->j+1<=n->gL h0 s.heap->St (j+1) s.heap->P (argBest bt j) vb ->
  s.heap.get? S=some { cls:=.type "list",data:=.seq #[vb,vb] c } ->
  (∀ v h' tk,P (argBest bt (n - 1)) v->(∀ b o,b ∉ wr->b≠S->s.heap.get? b=some o->h'.get? b=some o)->R (.ok (.ret v)) { s with heap:=h',toks:=tk }) ->
  codeAny (model prog w) A (.builtin "min.loop" ⟨[.ref I,.none,.ref S],[]⟩) R s:=by
 have hSw:S ∉ wr:=λh=>hSf (W.sub _ h)
 intro k
 induction k with
 | zero =>
  intro j s vb c hk hj kp hst hPb hS hR
  have hin:j+1=n:=by omega
  refine codeAny_builtin Ca (by
   rw [AV AM _]
   show wpAny _ A.in1 (seqItems? (.ref S) >>= _) _ _ s
   refine wpAny_bind (wpAny_seqItems hS rfl ?_)
   show wpAny _ A.in1 (tryCatch (pyNext (.ref I)) _ >>= _) _ _ s
   refine wpAny_bind (wpAny_tryCatch (W.done s _ _ (hin ▸ hst) λh' tk hk'=>?_))
   have hS':=hk' S _ hSw hS
   show wpAny _ A.in1 (updateSeq S (λ_=>#[]) >>= _) _ _ _
   refine wpAny_bind (wpAny_updateSeq hS' rfl (wpAny_bind (wpAny_letGo (wpAny_pure ?_))))
   exact hR vb _ tk (by rw [<- hin]; exact hPb) λb o hbw hbS e=>(z9 _ _ (Ne.symm hbS)).trans (hk' b o hbw e))
 | succ k ih =>
  intro j s vb c hk hj kp hst hPb hS hR
  have hlt:j+1 < n:=by omega
  refine codeAny_builtin Ca (by
   rw [AV AM _]
   show wpAny _ A.in1 (seqItems? (.ref S) >>= _) _ _ s
   refine wpAny_bind (wpAny_seqItems hS rfl ?_)
   show wpAny _ A.in1 (tryCatch (pyNext (.ref I)) _ >>= _) _ _ s
   refine wpAny_bind (wpAny_tryCatch (W.item (j+1) s _ _ hlt hst λv h' tk hP hst' hk'=>?_))
   have hS':=hk' S _ hSw hS
   have kp':gL h0 h':=λc o e=>hk' c o (h0w c o e).1 (kp c o e)
   show wpAny _ A.in1 (tryCatch (holding [v,v] (richCompare .Lt v vb >>= _)) _ >>= _) _ _ _
   refine wpAny_bind (wpAny_tryCatch (wpAny_holding (wpAny_bind (hcmp (j+1) (argBest bt j) v vb _ _ _ (Nat.lt_succ_of_le (ZeZ bt j)) kp' hP hPb (wpAny_bind (wpAny_holding (wpAny_truthy_bool (wpAny_bind (wpAny_letGo (wpAny_pure ?_))))))))))
   cases hb:bt (j+1) (argBest bt j) with
   | true =>
    simp only [if_true]
    refine wpAny_bind (wpAny_updateSeq hS' rfl (wpAny_bind (wpAny_letGo ?_)))
    rw [ra]
    refine wpAny_pure ⟨plainId_quiet AM _,ih (j+1) _ v _ (by omega) hlt (λc o e=>(z9 _ _ (Ne.symm (h0w c o e).2)).trans (kp' c o e)) (W.frame _ _ _ hst' λb hbf o e=>?_) (by simp only [argBest,hb,if_true]; exact hP) (AS _ hS' rfl)
     λv' h'' tk'' hP' hk''=>hR v' h'' tk'' hP' λb o hbw hbS e=>hk'' b o hbw hbS ((z9 _ _ (Ne.symm hbS)).trans (hk' b o hbw e))⟩
    exact (z9 _ _ (λh:S=b=>hSf (by rw [h]; exact hbf))).trans e
   | false =>
    simp only [BM,if_false]
    refine wpAny_bind (wpAny_letGo ?_)
    rw [ra]
    exact wpAny_pure ⟨plainId_quiet AM _,ih (j+1) _ vb c (by omega) hlt kp' hst' (by simp only [argBest,hb,BM,if_false]; exact hPb) hS' λv' h'' tk'' hP' hk'' =>
     hR v' h'' tk'' hP' λb o hbw hbS e=>hk'' b o hbw hbS (hk' b o hbw e)⟩)
theorem Zcz (W:Walks prog w A.in1 I fp wr n P St) (bt:Nat->Nat->Bool) (hcmp:zl prog w A.in1 h0 P bt) (hSf:S ∉ fp) (h0w:∀ c o,h0.get? c=some o->c ∉ wr/\c≠S) (hn:0 < n) {s:Shared} {c:Nat} (kp:gL h0 s.heap) (hst:St 0 s.heap)
  (hS:s.heap.get? S=some { cls:=.type "list",data:=.seq #[] c })
  (hR:∀ v h' tk,P (argBest bt (n - 1)) v->(∀ b o,b ∉ wr->b≠S->s.heap.get? b=some o->h'.get? b=some o)->R (.ok (.ret v)) { s with heap:=h',toks:=tk }) :
  codeAny (model prog w) A (.builtin "min.loop" ⟨[.ref I,.none,.ref S],[]⟩) R s:=by
 have hSw:S ∉ wr:=λh=>hSf (W.sub _ h)
 refine codeAny_builtin Ca (by
  rw [AV AM _]
  show wpAny _ A.in1 (seqItems? (.ref S) >>= _) _ _ s
  refine wpAny_bind (wpAny_seqItems hS rfl ?_)
  show wpAny _ A.in1 (tryCatch (pyNext (.ref I)) _ >>= _) _ _ s
  refine wpAny_bind (wpAny_tryCatch (W.item 0 s _ _ hn hst λv h' tk hP hst' hk'=>?_))
  have hS':=hk' S _ hSw hS
  have kp':gL h0 h':=λc o e=>hk' c o (h0w c o e).1 (kp c o e)
  show wpAny _ A.in1 (updateSeq S (λ_=>#[v,v]) >>= _) _ _ _
  refine wpAny_bind (wpAny_updateSeq hS' rfl ?_)
  rw [ra]
  refine wpAny_pure ⟨plainId_quiet AM _,Zix W bt hcmp hSf h0w _ 0 _ v _ rfl hn (λc o e=>(z9 _ _ (Ne.symm (h0w c o e).2)).trans (kp' c o e)) (W.frame _ _ _ hst' λb hbf o e=>?_) hP (AS _ hS' rfl)
   λv' h'' tk'' hP' hk''=>hR v' h'' tk'' hP' λb o hbw hbS e=>hk'' b o hbw hbS ((z9 _ _ (Ne.symm hbS)).trans (hk' b o hbw e))⟩
  exact (z9 _ _ (λh:S=b=>hSf (by rw [h]; exact hbf))).trans e)
end
section
variable {prog:Program} {w:World} {A:Around} {E:Ck} {s:Shared}
theorem Ziu {a b:Value} {Q:Ck} {c:Bool} (hh:A.handled=none) (hcmp:∀ (s':Shared) (Q:Ck) (E:Ck),gL s.heap s'.heap->Q (.bool c) s'->wpAny (model prog w) A.in1 (richCompare .Lt b a) Q E s')
  (h:∀ h' tk,gL s.heap h'->Q (if c=true then b else a) { s with heap:=h',toks:=tk }):wpAny (model prog w) A (call (.builtin "min") [a,b]) Q E s:=by
 refine call_function_tree F.kind_min F.plain_min F.entry_min (F.args_min2 _ _) (by
  show wpAny _ A.in1 (Builtin.Builtins.bindParams "min" ["key","default"] 0 ⟨[],[]⟩ >>= _) _ _ s
  refine wpAny_bind (wpAny_of_eq (a:=[none,none]) rfl ?_)
  show wpAny _ A.in1 (newTuple [a,b] >>= _) _ _ s
  refine wpAny_bind (wpAny_newObj_type ?_)
  have hT:(s.heap.push { cls:=.type "tuple",data:=.seq #[a,b] }).IsTuple s.heap.objs.size #[a,b]:=⟨_,zw _ rfl,rfl,0,rfl⟩
  have hsz:(s.heap.push { cls:=.type "tuple",data:=.seq #[a,b] }).objs.size=s.heap.objs.size+1:=z8 ..
  have hgk:gL s.heap (s.heap.push { cls:=.type "tuple",data:=.seq #[a,b] }):=λc o e=>pi _ e
  generalize (s.heap.push { cls:=.type "tuple",data:=.seq #[a,b] })=g at hT hsz hgk ⊢
  refine wpAny_bind (wpAny_pyIter_tuple hT (wpAny_bind (wpAny_newObj_type ?_)))
  rw [ra]
  have hlt:∀ {c:Nat} {o:Obj},s.heap.get? c=some o->c < s.heap.objs.size:=λe=>zA e
  have hsz2:∀ ob:Obj,(g.push ob).objs.size=s.heap.objs.size+2:=λob=>by rw [z8,hsz]
  have W:=Walks.tuple (prog:=prog) (w:=w) (A:=A.in1) hh g.objs.size s.heap.objs.size (by rw [hsz]; exact zD (BA _)) #[a,b]
  refine wpAny_pure ⟨plainId_quiet AM _,Zcz (A:=A) (h0:=s.heap) W (λi j=>if i=1/\j=0 then c else false) ?_ ?_ ?_ (show 0 < 2 by decide) ?_ ⟨?_,?_⟩ (zw _ rfl) ?_⟩
  ·intro i j vi vj s' Q' E' hji kp hi hj hq
   have hi2:i < 2:=by
    have:=(BY.mp hi).1
    simpa using this
   have e1:i=1:=by omega
   have e2:j=0:=by omega
   subst e1 e2
   have e3:b=vi:=by simpa using hi
   have e4:a=vj:=by simpa using hj
   subst e3 e4
   exact hcmp s' Q' E' kp (by simpa using hq)
  ·intro hm
   have hm':(g.push { cls:=.type "tuple_iterator",data:=.fields #[.ref s.heap.objs.size,.int 0 0] }).objs.size∈[g.objs.size,s.heap.objs.size]:=hm
   rw [hsz2,hsz] at hm'
   simp at hm'
  ·intro (c:Nat) o e
   have hc:=hlt e
   refine ⟨λhm=>?_,?_⟩
   ·have hm':c=g.objs.size:=by simpa using hm
    rw [hm',hsz] at hc
    omega
   ·show c≠(g.push { cls:=.type "tuple_iterator",data:=.fields #[.ref s.heap.objs.size,.int 0 0] }).objs.size
    rw [hsz2]
    omega
  ·exact λc o e=>pi _ (pi _ (hgk c o e))
  ·exact ⟨_,pi _ (zw _ rfl),rfl,rfl⟩
  ·exact hT.at λo e=>pi _ (pi _ e)
  ·intro v h' tk hP hk
   have hv:v=if c=true then b else a:=by
    cases c with
    | true =>
     have e:argBest (λi j=>if i=1/\j=0 then true else false) ((#[a,b]:Array Value).size - 1)=1:=rfl
     rw [e] at hP
     simpa using hP.symm
    | false =>
     have e:argBest (λi j=>if i=1/\j=0 then false else false) ((#[a,b]:Array Value).size - 1)=0:=rfl
     rw [e] at hP
     simpa using hP.symm
   rw [hv]
   refine h h' tk λ(c:Nat) o e=>hk c o (λhm=>?_) ?_ (pi _ (pi _ (hgk c o e)))
   ·have hc:=hlt e
    have hm':c=g.objs.size:=by simpa using hm
    rw [hm',hsz] at hc
    omega
   ·have hc:=hlt e
    show c≠(g.push { cls:=.type "tuple_iterator",data:=.fields #[.ref s.heap.objs.size,.int 0 0] }).objs.size
    rw [hsz2]
    omega)
end
section
variable {X:Cx}
noncomputable def ZbN:List V->Hp->VK->Prop:=λxs H Q=>∃ a b ns ms,xs=[.ref a,.ref b]/\H a=some (.tup (ns.map V.int))/\H b=some (.tup (ms.map V.int))/\Q (if HT.bT ms ns=true then .ref b else .ref a) H
theorem Zeo {k:Nat} (hr:Room k X.A) (hc:X.calm=true):cS X (.builtin "min") ZbN:=by
 intro pins s σ H xs us Q I r h
 obtain ⟨a,b,ns,ms,rfl,ha,hb,q⟩:=h
 obtain ⟨u,w',rfl,ru,rw'⟩:=oO r
 cases ru
 cases rw'
 obtain ⟨u1,r1,p1⟩:=eE (b:=false) I.hok ha
 obtain ⟨u2,r2,p2⟩:=eE (b:=false) I.hok hb
 have i1:IntsAre u1.toArray.toList ns:=u0 r1
 have i2:IntsAre u2.toArray.toList ms:=u0 r2
 refine Ziu (c:=HT.bT ms ns) (I.ok.hd hc) (λs' Q' E' kp hq=>?_) λh' tk kp=>⟨_,H,I.kept kp,?_,q⟩
 ·have q1:IsTup s'.heap a u1.toArray:=SqAt.at (b:=false) p1 λo e=>kp a o e
  have q2:IsTup s'.heap b u2.toArray:=SqAt.at (b:=false) p2 λo e=>kp b o e
  exact HT.ZcJ q2 q1 i2 i1 (show X.A.units+1 < cLine from by have:=hr.units; omega) hq
 ·cases HT.bT ms ns
  ·exact rfl
  ·exact rfl
noncomputable def h7:List PyData->Option PyData
 | [.tuple xs,.tuple ys]=>(ints? xs).bind λns=>(ints? ys).bind λms=>some (if HT.bT ms ns=true then .tuple (ms.map PyData.int) else .tuple (ns.map PyData.int))
 | _=>none
theorem Zam:eO ZbN h7:=λPK pa m G H vs ds d Q w hv hd k=>by
 unfold h7 at hd
 split at hd
 ·rename_i xs ys
  cases e1:ints? xs with
  | none=>rw [e1] at hd; cases hd
  | some ns =>
   cases e2:ints? ys with
   | none=>rw [e1,e2] at hd; cases hd
   | some ms =>
    rw [e1,e2] at hd
    have hd':(if HT.bT ms ns=true then PyData.tuple (ms.map PyData.int) else .tuple (ns.map PyData.int))=d:=zJ hd
    cases hv with
    | cons h1 h2 =>
     cases h2 with
     | cons h2 h3 =>
      cases h3
      cases h1 with
      | @tup a us _ a1 a2 =>
       cases h2 with
       | @tup b ws _ b1 b2 =>
        obtain ⟨rfl,rfl⟩:=a2.ints_inv e1
        obtain ⟨rfl,rfl⟩:=b2.ints_inv e2
        refine ⟨a,b,ns,ms,rfl,w.sub _ _ a1,w.sub _ _ b1,?_⟩
        subst hd'
        cases hl:HT.bT ms ns
        ·rw [hl] at k
         exact k.here w (.tup a1 (DnAll.ints _))
        ·rw [hl] at k
         exact k.here w (.tup b1 (DnAll.ints _))
 ·cases hd
end
section
variable {X:Cx} {PK:Pk} {e:Expr} {is:Cd}
noncomputable def Zmq (is:Cd):Cc:=λρ=>(is ρ).bind λxs=>(Tr.of (t4 xs)).bind λys=>.ret (.tuple ys)
noncomputable def Zmz (is:Cd):Cd:=λρ=>(is ρ).bind λxs=>Tr.of (t4 xs)
end
end L2
set_option Elab.async false
set_option linter.all false
set_option maxRecDepth 100000
namespace L2
section
variable {prog:Program} {w:World} {A:Around} {E:Ck} {s:Shared}
theorem Ziw {l:Addr} {items:Array Value} {Q:Ck} {bt:Nat->Nat->Bool} (hh:A.handled=none) (hl:s.heap.IsList l items) (hn:0 < items.size)
  (hcmp:zl prog w A.in1 s.heap (λi v=>items[i]?=some v) bt)
  (h:∀ h' tk v,gL s.heap h'->items[argBest bt (items.size - 1)]?=some v->Q v { s with heap:=h',toks:=tk }):wpAny (model prog w) A (call (.builtin "min") [.ref l]) Q E s:=by
 refine call_function_tree F.kind_min F.plain_min F.entry_min (F.args_min1 _) (by
  show wpAny _ A.in1 (Builtin.Builtins.bindParams "min" ["key","default"] 0 ⟨[],[]⟩ >>= _) _ _ s
  refine wpAny_bind (wpAny_of_eq (a:=[none,none]) rfl ?_)
  refine wpAny_bind (wpAny_pure ?_)
  refine wpAny_bind (wpAny_pyIter_list hl (wpAny_bind (wpAny_newObj_type ?_)))
  rw [ra]
  have hlt:∀ {c:Nat} {o:Obj},s.heap.get? c=some o->c < s.heap.objs.size:=λe=>zA e
  obtain ⟨ol,hol,_⟩:=id hl
  have hll:(l:Nat) < s.heap.objs.size:=zA hol
  have hsz:∀ ob:Obj,(s.heap.push ob).objs.size=s.heap.objs.size+1:=λob=>z8 ..
  have W:=Walks.list (prog:=prog) (w:=w) (A:=A.in1) hh s.heap.objs.size l (show (l:Nat)≠s.heap.objs.size from zD hll) items
  refine wpAny_pure ⟨plainId_quiet AM _,Zcz (A:=A) (h0:=s.heap) W bt hcmp ?_ ?_ hn ?_ ⟨?_,?_⟩ (zw _ rfl) ?_⟩
  ·intro hm
   have hm':((s.heap.push { cls:=.type "list_iterator",data:=.fields #[.ref l,.int 0 0] }).objs.size:Nat)∈([s.heap.objs.size,l]:List Nat):=hm
   rw [hsz] at hm'
   rcases zq.mp hm' with z | z
   ·exact absurd z (Nat.succ_ne_self _)
   ·rcases zq.mp z with z | z
    ·have hll':=hll
     rw [<- z] at hll'
     exact absurd hll' (Nat.not_lt.mpr (BU _))
    ·cases z
  ·intro (c:Nat) o e
   have hc:=hlt e
   refine ⟨λhm=>?_,?_⟩
   ·have hm':c=s.heap.objs.size:=by simpa using hm
    omega
   ·show c≠(s.heap.push { cls:=.type "list_iterator",data:=.fields #[.ref l,.int 0 0] }).objs.size
    rw [hsz]
    omega
  ·exact λc o e=>pi _ (pi _ e)
  ·exact ⟨_,pi _ (zw _ rfl),rfl,rfl⟩
  ·exact hl.at λo e=>pi _ (pi _ e)
  ·intro v h' tk hP hk
   refine h h' tk v (λ(c:Nat) o e=>hk c o (λhm=>?_) ?_ (pi _ (pi _ e))) hP
   ·have hc:=hlt e
    have hm':c=s.heap.objs.size:=by simpa using hm
    omega
   ·have hc:=hlt e
    show c≠(s.heap.push { cls:=.type "list_iterator",data:=.fields #[.ref l,.int 0 0] }).objs.size
    rw [hsz]
    omega)
end
noncomputable def dX:List Cm->List Int
 | []=>[]
 | x::r=>r.foldl (λb y=>if HT.bT y b=true then y else b) x
theorem ZeL:∀ (nss:List Cm) (k:Nat),k < nss.length->nss[argBest (λi j=>HT.bT (nss[i]?.getD []) (nss[j]?.getD [])) k]?=some (dX (nss.take (k+1)))
 | [],k,h=>by cases h
 | x::r,0,h=>by simp [argBest,dX]
 | x::r,k+1,h=>by
  have ih:=ZeL (x::r) k (by omega)
  have hk:k < r.length:=by simpa using h
  have et:(x::r).take (k+1+1)=(x::r).take (k+1)++[r[k]]:=by
   rw [Bq,Bq,BN,zP hk]
   rfl
  have eb:dX ((x::r).take (k+1+1))=if HT.bT r[k] (dX ((x::r).take (k+1)))=true then r[k] else dX ((x::r).take (k+1)):=by
   rw [et,Bq]
   show (r.take k++[r[k]]).foldl (λb y=>if HT.bT y b=true then y else b) x=_
   rw [List.foldl_append]
   rfl
  have ex:(x::r)[k+1]?=some r[k]:=by rw [zZ,zP hk]
  rw [eb]
  unfold argBest
  have e1:((x::r)[k+1]?).getD []=r[k]:=by rw [ex]; rfl
  have e2:((x::r)[argBest (λi j=>HT.bT ((x::r)[i]?.getD []) ((x::r)[j]?.getD [])) k]?).getD []=dX ((x::r).take (k+1)):=by rw [ih]; rfl
  rw [e1,e2]
  split
  ·exact ex
  ·exact ih
section
variable {X:Cx}
noncomputable def ZbO:List V->Hp->VK->Prop:=λxs H Q=>∃ (l:Addr) (vs:Cp) (nss:List Cm),xs=[.ref l]/\H l=some (.lst vs)/\nss≠[]/\vs.length=nss.length /\
 (∀ i:Nat,∀ ns:Cm,nss[i]?=some ns->∃ a:Addr,vs[i]?=some (.ref a)/\H a=some (.tup (ns.map V.int))) /\
 ∀ a:Addr,.ref a∈vs->H a=some (.tup ((dX nss).map V.int))->Q (.ref a) H
theorem Zlo {k:Nat} (hr:Room k X.A) (hc:X.calm=true):cS X (.builtin "min") ZbO:=by
 intro pins s σ H xs us Q I r h
 obtain ⟨l,vs,nss,rfl,hl,hne,hlen,hat,q⟩:=h
 obtain ⟨u,rfl,ru⟩:=eB r
 cases ru
 obtain ⟨us,r1,p1⟩:=eE (b:=true) I.hok hl
 have hul:=r1.length
 have p1':s.heap.IsList l us.toArray:=p1
 have hpos:0 < nss.length:=Br.mpr hne
 have look:∀ (i:Nat) (v:Value),us.toArray[i]?=some v->∃ (a:Addr) (ns:Cm),v=.ref a/\nss[i]?=some ns/\vs[i]?=some (.ref a)/\H a=some (.tup (ns.map V.int)):=λi v hv=>by
  have hv':us[i]?=some v:=by simpa using hv
  have hi:i < us.length:=(zu.mp hv').1
  have hi2:i < nss.length:=by omega
  obtain ⟨a,ha,hH⟩:=hat i nss[i] (zP hi2)
  obtain ⟨u',hu',ru'⟩:=r1.get ha
  rw [hv'] at hu'
  cases hu'
  cases ru'
  exact ⟨a,nss[i],rfl,zP hi2,ha,hH⟩
 refine Ziw (bt:=λi j=>HT.bT (nss[i]?.getD []) (nss[j]?.getD [])) (I.ok.hd hc) p1' (by rw [zr]; omega) (λi j vi vj s' Q' E' _ kp hi hj hq=>?_) λh' tk v kp hv=>?_
 ·obtain ⟨a,ns,rfl,e1,_,hHa⟩:=look i vi hi
  obtain ⟨b,ms,rfl,e2,_,hHb⟩:=look j vj hj
  obtain ⟨u1,w1,t1⟩:=eE (b:=false) I.hok hHa
  obtain ⟨u2,w2,t2⟩:=eE (b:=false) I.hok hHb
  have i1:IntsAre u1.toArray.toList ns:=u0 w1
  have i2:IntsAre u2.toArray.toList ms:=u0 w2
  have q1:IsTup s'.heap a u1.toArray:=SqAt.at (b:=false) t1 λo e=>kp a o e
  have q2:IsTup s'.heap b u2.toArray:=SqAt.at (b:=false) t2 λo e=>kp b o e
  have hq':Q' (.bool (HT.bT ns ms)) s':=by
   have:HT.bT (nss[i]?.getD []) (nss[j]?.getD [])=HT.bT ns ms:=by rw [e1,e2]; rfl
   rw [<- this]
   exact hq
  exact HT.ZcJ q1 q2 i1 i2 (show X.A.units+1 < cLine from by have:=hr.units; omega) hq'
 ·obtain ⟨a,ns,rfl,e1,e2,hHa⟩:=look _ v hv
  have hsz:us.toArray.size - 1=nss.length - 1:=by rw [zr]; omega
  rw [hsz] at e1 e2
  have hb:=ZeL nss (nss.length - 1) (by omega)
  have et:nss.take (nss.length - 1+1)=nss:=AC (by omega)
  rw [et] at hb
  rw [hb] at e1
  cases e1
  exact ⟨.ref a,H,I.kept kp,rfl,q a (Bn e2) hHa⟩
noncomputable def tups?:List PyData->Option (List Cm)
 | []=>some []
 | .tuple x::xs=>(ints? x).bind λns=>(tups? xs).bind λr=>some (ns::r)
 | _=>none
theorem tups?_map:∀ nss:List Cm,tups? (nss.map λns=>.tuple (ns.map PyData.int))=some nss
 | []=>rfl
 | ns::r=>by rw [zm,tups?,ints?_map,tups?_map r]; rfl
theorem DnAll.tups_inv {H:Hp}:∀ {vs:Cp} {ds:Cl} {nss:List Cm},DnAll H vs ds->tups? ds=some nss->vs.length=nss.length/\∀ i:Nat,∀ ns:Cm,nss[i]?=some ns->∃ a:Addr,vs[i]?=some (.ref a)/\H a=some (.tup (ns.map V.int))
 | [],_,nss,.nil,h=>by cases h; exact ⟨rfl,λi ns h=>by cases h⟩
 | v::vs,_,nss,.cons (d:=d) hd ht,h=>by
  cases hd with
  | @tup a us x a1 a2 =>
   unfold tups? at h
   cases e1:ints? x with
   | none=>rw [e1] at h; cases h
   | some ms =>
    rename_i ds
    cases e2:tups? ds with
    | none=>rw [e1,e2] at h; cases h
    | some r =>
     rw [e1,e2] at h
     have h':ms::r=nss:=zJ h
     subst h'
     obtain ⟨k1,k2⟩:=DnAll.tups_inv ht e2
     obtain ⟨rfl,rfl⟩:=a2.ints_inv e1
     refine ⟨by simp [k1],λi ns hi=>?_⟩
     cases i with
     | zero=>cases hi; exact ⟨a,rfl,a1⟩
     | succ i=>exact k2 i ns hi
  | _=>unfold tups? at h; cases h
noncomputable def re:List PyData->Option PyData
 | [.list xs]=>(tups? xs).bind λnss=>if nss.isEmpty=true then none else some (.tuple ((dX nss).map PyData.int))
 | _=>none
theorem Zfz:eO ZbO re:=λPK pa m G H vs ds d Q w hv hd k=>by
 unfold re at hd
 split at hd
 ·rename_i xs
  cases e1:tups? xs with
  | none=>rw [e1] at hd; cases hd
  | some nss =>
   rw [e1] at hd
   have hd':(if nss.isEmpty=true then none else some (PyData.tuple ((dX nss).map PyData.int)))=some d:=hd
   cases hv with
   | cons h1 h2 =>
    cases h2
    cases h1 with
    | @lst l us _ a1 a2 =>
     obtain ⟨k1,k2⟩:=a2.tups_inv e1
     split at hd'
     ·cases hd'
     ·rename_i hne
      cases hd'
      refine ⟨l,us,nss,rfl,w.sub _ _ a1,λz=>hne (by rw [z]; rfl),k1,λi ns hi=>?_,λa ham hHa=>?_⟩
      ·obtain ⟨a,e1,e2⟩:=k2 i ns hi
       exact ⟨a,e1,w.sub _ _ e2⟩
      ·obtain ⟨i,hi,ei⟩:=List.getElem_of_mem ham
       have hi2:i < nss.length:=by omega
       obtain ⟨a',e1,e2⟩:=k2 i nss[i] (zP hi2)
       rw [zP hi,ei] at e1
       cases e1
       have e3:=w.sub _ _ e2
       rw [hHa] at e3
       have e4:G a=some (.tup ((dX nss).map V.int)):=by rw [e2]; exact e3.symm
       exact k.here w (.tup e4 (DnAll.ints _))
 ·cases hd
end
section
variable {X:Cx} {PK:Pk} {a b:Expr} {pos:Pos} {j:Cc}
noncomputable def jh (xs:Cl):PyData->Tr PyData
 | .int i=>Tr.of (bp xs i)
 | _=>.fail
noncomputable def qd (k:Nat) (j:Cc):Cc:=λρ=>(j ρ).bind λy=>match ρ[k]? with
 | some (.own xs)=>jh xs y
 | some (.d (.list xs))=>jh xs y
 | _=>.fail
theorem ZlZ {G:Hp} {vs:Cp} {xs:Cl} {i:Int} {d:PyData} (h:DnAll G vs xs) (e:bp xs i=some d):∃ v,bp vs i=some v/\Dn G v d:=by
 unfold bp at e ⊢
 rw [h.length]
 cases hi:dA xs.length i with
 | none=>rw [hi] at e; cases e
 | some n =>
  rw [hi] at e
  exact h.get n e
theorem vd {α β:Type}:∀ {t:Tr α} {m:Nat} {Z:Nat->β->Prop},(t.bind λ_=>(Tr.fail:Tr β)).ok m Z->False
 | .ret a,m,Z,h=>h
 | .draw n k,m,Z,h=>vd (t:=k 0) (h.2.2.2 0 (zU _) h.2.1)
 | .fail,m,Z,h=>h
theorem Ze6 {k:Nat} (hb:PE X b (TAe PK j)) (ha:PE X a (eD k)) (hs:zb b):PE X (.Subscript a b pos) (TAe PK (qd k j)):=(ft fF ha hb hs).imp λσ H Q hz0=>by
 obtain ⟨pa,Cs,H₀,m,ρ,G,R,z⟩:=hz0
 have key:∀ xs:Cl,(∃ (sl:Sl),ρ[k]?=some sl/\(sl=.own xs\/sl=.d (.list xs)))->((j ρ).bind λy=>jh xs y).ok m (λm1 x=>Kn PK pa m1 G H x Q)->iJ (xf X.K) (eD k) (TAe PK j) σ H Q:=λxs ⟨sl,hsl,hx⟩ z=>by
  obtain ⟨o,h1,h2⟩:=R.sl k _ hsl
  have hp:∃ p,o=some (.ref p):=by
   rcases hx with rfl | rfl
   ·cases h2; exact ⟨_,rfl⟩
   ·cases h2 with
    | d q=>cases q; exact ⟨_,rfl⟩
  obtain ⟨p,rfl⟩:=hp
  refine ⟨_,h1,?_⟩
  refine TAe.then R z λm1 y u G1 H1 s1 w1 R1 d1 q1=>?_
  obtain ⟨o',h1',h2'⟩:=R1.sl k _ hsl
  rw [h1] at h1'
  cases h1'
  have hl:∃ vs,H1 p=some (.lst vs)/\DnAll G1 vs xs:=by
   rcases hx with rfl | rfl
   ·cases h2' with
    | own a1 a2 a3 a4=>exact ⟨_,a1,a4⟩
   ·cases h2' with
    | d q=>cases q with
     | lst b1 b2=>exact ⟨_,w1.sub _ _ b1,b2⟩
  obtain ⟨vs,e1,e2⟩:=hl
  cases d1 with
  | int i =>
   obtain ⟨d,hd,kq⟩:=Tr.ok_of q1
   obtain ⟨v,hv,dv⟩:=ZlZ e2 hd
   exact ⟨p,vs,i,v,rfl,rfl,SqL.of e1,hv,kq v G1 H1 s1 w1 dv⟩
  | _=>exact q1.elim
 unfold qd at z
 cases hk:ρ[k]? with
 | none=>rw [hk] at z; exact (vd (t:=j ρ) z).elim
 | some sl =>
  rw [hk] at z
  cases sl with
  | own xs=>exact key xs ⟨_,hk,.inl rfl⟩ z
  | d x =>
   cases x with
   | list xs=>exact key xs ⟨_,hk,.inr rfl⟩ z
   | _=>exact (vd (t:=j ρ) z).elim
  | _=>exact (vd (t:=j ρ) z).elim
end
end L2
set_option Elab.async false
set_option linter.all false
set_option maxRecDepth 100000
namespace L2
section
variable {X:Cx}
noncomputable def Ze8:Cj
 | .tuple [],.tuple ys=>some (.tuple ys)
 | x,y=>aQ x y
theorem om {ys:Cl}:aK Ze8 (.tuple []) (.tuple ys)=.ret (.tuple ys):=rfl
theorem oj {x:PyData} {xs ys:Cl} (h:small ((x::xs).length+ys.length)=true):aK Ze8 (.tuple (x::xs)) (.tuple ys)=.ret (.tuple (x::xs++ys)):=by
 show Tr.of (aQ (.tuple (x::xs)) (.tuple ys))=_
 unfold aQ
 simp only [Ac,Bool.not_false,Bool.true_and,h,if_true]
 rfl
end
end L2
set_option Elab.async false
set_option linter.all false
set_option maxRecDepth 100000
namespace L2
section
variable {PK:Pk} {X:Cx} {a b:Expr} {pos:Pos} {i j:Cc}
def y6 (r:R2) (f:PyData->PyData->Option Cl):Prop:=∀ (PK:Pk) (pa:Addr) (m:Nat) (G H:Hp) (x y:V) (dx dy:PyData) (dz:Cl) (Q:VK),Wd PK pa m G H->Dn G x dx->Dn G y dy->f dx dy=some dz->Ko1 PK pa m G H dz Q->r x y H Q
noncomputable def vP (f:PyData->PyData->Option Cl) (i j:Cc):Cd:=λρ=>(i ρ).bind λx=>(j ρ).bind λy=>Tr.of (f x y)
theorem ZmK {r:R2} {f:PyData->PyData->Option Cl} (hv:y6 r f):∀ σ H Q,ff PK (vP f i j) σ H Q->iJ r (TAe PK i) (TAe PK j) σ H Q:=by
 rintro σ H Q ⟨pa,Cs,H₀,m,ρ,G,R,q⟩
 refine TAe.then R q λm1 x v G1 H1 s1 w1 R1 d1 q1=>?_
 refine TAe.then R1 q1 λm2 y u G2 H2 s2 w2 R2 d2 q2=>?_
 obtain ⟨z,hz,k⟩:=Tr.ok_of q2
 exact hv PK pa m2 G2 H2 v u x y z Q w2 (d1.mono s2.gs) d2 hz (Ko1.later k (s1.trans s2 w1.some) w2.some)
theorem Zl9 {op:Operator} {r:R2} {f:PyData->PyData->Option Cl} (ho:OpR X (binaryOp op) r) (hv:y6 r f) (ha:PE X a (TAe PK i)) (hb:PE X b (TAe PK j)):PE X (.BinOp a op b pos) (ff PK (vP f i j)) :=
 (cw ho ha hb).imp (ZmK hv)
noncomputable def o8:PyData->PyData->Option Cl
 | .list xs,.int k=>if (decide (-1000<=k) && decide (k<=1000) && decide (xs.length<=1000))=true then some (List.replicate k.toNat xs).flatten else none
 | _,_=>none
theorem ZdV {G:Hp}:∀ {vs:Cp} {ds:Cl} {us:Cp} {es:Cl},DnAll G vs ds->DnAll G us es->DnAll G (vs++us) (ds++es)
 | _,_,_,_,.nil,h=>h
 | _,_,_,_,.cons a b,h=>.cons a (ZdV b h)
theorem ZdU {G:Hp} {vs:Cp} {ds:Cl} (h:DnAll G vs ds):∀ k:Nat,DnAll G (List.replicate k vs).flatten (List.replicate k ds).flatten
 | 0=>.nil
 | k+1=>by
  rw [zG,zG,Ad,Ad]
  exact ZdV h (ZdU h k)
theorem Zfu:y6 xb o8:=λPK pa m G H x y dx dy dz Q w hx hy hz k=>by
 unfold o8 at hz
 split at hz
 ·split at hz
  ·rename_i hc
   cases hz
   simp only [zL,decide_eq_true_eq] at hc
   cases hx with
   | lst a1 a2 =>
    cases hy
    refine ⟨_,_,_,rfl,rfl,w.sub _ _ a1,by omega,by omega,?_,λp hp=>?_⟩
    ·rw [a2.length]
     have h0:∀ z:Int,z<=1000->z.toNat<=1000:=λz hz=>by omega
     exact zE (B1 hc.2 (h0 _ hc.1.2)) (show 1000 * 1000<=sizeLine by decide)
    ·exact k.new w (ZdU a2 _) hp
  ·cases hz
 ·cases hz
noncomputable def rX (f:PyData->PyData->Option Cl) (x y:PyData):Tr Cl:=Tr.of (f x y)
noncomputable def ZeE (f:PyData->PyData->Option Cl) (j:Cc) (ρ:Cr) (x:PyData):Tr Cl:=(j ρ).bind (rX f x)
theorem nR {f:PyData->PyData->Option Cl} {ρ:Cr}:vP f i j ρ=(i ρ).bind (ZeE f j ρ):=rfl
theorem nQ {f:PyData->PyData->Option Cl} {ρ:Cr} {x:PyData}:ZeE f j ρ x=(j ρ).bind (rX f x):=rfl
theorem Zg4 {xs:Cl} {k:Int} (h:(decide (-1000<=k) && decide (k<=1000) && decide (xs.length<=1000))=true):rX o8 (.list xs) (.int k)=.ret (List.replicate k.toNat xs).flatten:=by
 simp only [rX,o8,h,if_true]
 rfl
end
theorem pK {α:Type} {n:Nat}:∀ {us:List α},us.length=n+1->∃ (a:α) (t:List α),us=a::t/\t.length=n
 | a::t,h=>⟨a,t,rfl,BO h⟩
theorem ZiP {α:Type} {us:List α} (h:us.length=0):us=[]:=List.eq_nil_of_length_eq_zero h
theorem gq {α:Type} {us:List α} (h:us.length=1):∃ a,us=[a]:=by
 obtain ⟨a,t,rfl,h2⟩:=pK h
 exact ⟨a,by rw [ZiP h2]⟩
theorem fB {α:Type} {us:List α} (h:us.length=2):∃ a0 a1,us=[a0,a1]:=by
 obtain ⟨a0,t,rfl,h2⟩:=pK h
 obtain ⟨a1,rfl⟩:=gq h2
 exact ⟨a0,a1,rfl⟩
theorem fR {α:Type} {us:List α} (h:us.length=3):∃ a0 a1 a2,us=[a0,a1,a2]:=by
 obtain ⟨a0,t,rfl,h2⟩:=pK h
 obtain ⟨a1,a2,rfl⟩:=fB h2
 exact ⟨a0,a1,a2,rfl⟩
theorem fA {α:Type} {us:List α} (h:us.length=4):∃ a0 a1 a2 a3,us=[a0,a1,a2,a3]:=by
 obtain ⟨a0,t,rfl,h2⟩:=pK h
 obtain ⟨a1,a2,a3,rfl⟩:=fR h2
 exact ⟨a0,a1,a2,a3,rfl⟩
theorem ZcV {α:Type} {us:List α} (h:us.length=5):∃ a0 a1 a2 a3 a4,us=[a0,a1,a2,a3,a4]:=by
 obtain ⟨a0,t,rfl,h2⟩:=pK h
 obtain ⟨a1,a2,a3,a4,rfl⟩:=fA h2
 exact ⟨a0,a1,a2,a3,a4,rfl⟩
theorem ZiR {α:Type} {us:List α} (h:us.length=6):∃ a0 a1 a2 a3 a4 a5,us=[a0,a1,a2,a3,a4,a5]:=by
 obtain ⟨a0,t,rfl,h2⟩:=pK h
 obtain ⟨a1,a2,a3,a4,a5,rfl⟩:=ZcV h2
 exact ⟨a0,a1,a2,a3,a4,a5,rfl⟩
end L2
set_option Elab.async false
set_option linter.all false
set_option maxRecDepth 100000
namespace L2
def FS (K:Cb) (n:Nat) (σ:St) (H:Hp):Prop:=∃ a xs,σ[0]?=some (some (V.ref a))/\SqL K H a xs/\xs.length=n
end L2
set_option Elab.async false
set_option linter.all false
set_option maxRecDepth 100000
set_option exponentiation.threshold 9000
namespace Tw
open L2
def nb (k:Nat) (n:Int):Prop:=n.natAbs < 2 ^ k
theorem aM {k:Nat} {n:Int} (h:nb k n) (hk:k<=8000):fit n=true:=decide_eq_true (zt h (Bl (by decide) hk))
theorem ba {k l:Nat} {n:Int} (h:nb k n) (hk:k<=l):nb l n:=zt h (Bl (by decide) hk)
theorem cg {k l:Nat} {m n:Int} (h:nb k m) (h':nb l n):nb (k+l) (m * n):=by
 unfold nb at *
 rw [Bv,Nat.pow_add]
 exact Nat.mul_lt_mul'' h h'
theorem dJ {k l:Nat} {m n:Int} (h:nb k m) (h':nb l n):nb (max k l+1) (m+n):=by
 have h1:=ba h (Nat.le_max_left k l)
 have h2:=ba h' (Nat.le_max_right k l)
 unfold nb at *
 rw [Nat.pow_succ,Nat.mul_two]
 exact Av (Int.natAbs_add_le m n) (Nat.add_lt_add h1 h2)
theorem gl {k:Nat} {n:Int} (h:nb k n):nb k (-n):=by
 unfold nb at *
 omega
theorem fw {k l:Nat} {m n:Int} (h:nb k m) (h':nb l n):nb (max k l+1) (m - n):=by
 rw [Int.sub_eq_add_neg]
 exact dJ h (gl h')
theorem bv {k:Nat} {n:Int} (h1:-(2 ^ k:Nat) < n) (h2:n < (2 ^ k:Nat)):nb k n:=by
 unfold nb
 omega
theorem pC {k:Nat} {c:Prop} [Decidable c] {m n:Int} (h:nb k m) (h':nb k n):nb k (if c then m else n):=by split <;> assumption
noncomputable def ws (f:Int->Int):Nat->List Int->Int
 | _,[]=>0
 | k,w::l=>w * f k+ws f (k+1) l
theorem wg {f:Int->Int} {a b:Nat} (hf:∀ x:Int,0<=x->nb b (f x)):∀ {l:Cm} {k:Nat},(∀ w∈l,nb a w)->nb (a+b+l.length) (ws f k l)
 | [],k,h=>by unfold ws nb; exact Ak (by simp)
 | w::l,k,h=>by
  unfold ws
  have h1:=cg (h w (by simp)) (hf k (by omega))
  have h2:=wg hf (l:=l) (k:=k+1) λv hv=>h v (Mt _ hv)
  refine ba (dJ h1 h2) ?_
  rw [zn]
  omega
theorem fM {f g:Int->Int}:∀ {l:Cm} {k:Nat},(∀ x:Int,0<=x->f x=g x)->ws f k l=ws g k l
 | [],k,h=>rfl
 | w::l,k,h=>by
  unfold ws
  rw [h k (by omega),fM h]
theorem ZaQ {a:Nat}:∀ {l:Cm},(∀ w∈l,nb a w)->nb (a+l.length) l.sum
 | [],h=>by unfold nb; simp; exact Ak (by simp)
 | w::l,h=>by
  rw [zT]
  refine ba (dJ (h w (by simp)) (ZaQ (l:=l) λv hv=>h v (Mt _ hv))) ?_
  rw [zn]
  omega
structure Shp where
 top:Int
 depth:Int
 start:Int
 piece:Int
 keep:Int
 lack:Int
 lost:Int
 back:Int
 late:Int
noncomputable def Shp.l (s:Shp):Cm:=[s.top,s.depth,s.start,s.piece,s.keep,s.lack,s.lost,s.back,s.late]
@[irreducible] noncomputable def Shp.d (s:Shp):PyData:=.tuple (s.l.map PyData.int)
structure Shp.Ok (s:Shp):Prop where
 t0:0<=s.top
 d0:0<=s.depth
 td:s.top+s.depth<=100
 start0:0<=s.start
 start:nb 45 s.start
 piece:nb 45 s.piece
 keep:nb 45 s.keep
 lack:nb 45 s.lack
 lost:nb 45 s.lost
 back:nb 45 s.back
 late:nb 45 s.late
theorem gT (s:Shp):aK aR s.d (.int 0)=.ret (.int s.top):=by unfold Shp.d; rw [cV]; exact congrArg Tr.of f8
theorem gS (s:Shp):aK aR s.d (.int 1)=.ret (.int s.depth):=by unfold Shp.d; rw [cV]; exact congrArg Tr.of gD
theorem iQ (s:Shp):aK aR s.d (.int 2)=.ret (.int s.start):=by unfold Shp.d; rw [cV]; exact congrArg Tr.of gC
theorem gR (s:Shp):aK aR s.d (.int 3)=.ret (.int s.piece):=by unfold Shp.d; rw [cV]; exact congrArg Tr.of iE
theorem iP (s:Shp):aK aR s.d (.int 4)=.ret (.int s.keep):=by unfold Shp.d; rw [cV]; exact congrArg Tr.of iD
theorem iO (s:Shp):aK aR s.d (.int 5)=.ret (.int s.lack):=by unfold Shp.d; rw [cV]; exact congrArg Tr.of iC
theorem iN (s:Shp):aK aR s.d (.int 6)=.ret (.int s.lost):=by unfold Shp.d; rw [cV]; exact congrArg Tr.of iB
theorem iM (s:Shp):aK aR s.d (.int 7)=.ret (.int s.back):=by unfold Shp.d; rw [cV]; exact congrArg Tr.of iA
theorem iL (s:Shp):aK aR s.d (.int 8)=.ret (.int s.late):=by unfold Shp.d; rw [cV]; exact congrArg Tr.of iz
section
variable (s:Shp)
noncomputable def Shp.nx (y f:Int):Int:=c9 (y - f) (-s.depth)
noncomputable def Shp.day (y f:Int):Int:=(if s.nx y f > 0 then s.keep * s.nx y f else s.lack * -s.nx y f)+s.lost * (s.nx y f - (y - f))
noncomputable def Shp.ord (x y:Int):Int:=if y<=x then 0 else s.start+s.piece * (y - x)
noncomputable def Shp.fin (x:Int):Int:=if x > 0 then -s.back * x else s.late * -x
end
noncomputable def lI (l:Cm):PyData:=.list (l.map PyData.int)
noncomputable def tI (l:Cm):PyData:=.tuple (l.map PyData.int)
noncomputable def fD (fs:List Cm):PyData:=.tuple (fs.map tI)
end Tw
set_option Elab.async false
set_option linter.all false
set_option maxRecDepth 100000
namespace L2
variable {ρ:Cr} {s t:Cf} {i j l:Cc} {is:Cd} {k n:Nat} {x y d:PyData} {xs ys:Cl} {sl:Sl}
theorem iT {α β:Type} {a:α} {f:α->Tr β}:(Tr.ret a).bind f=f a:=Eq.trans (Tr.ret_bind a f) (Eq.refl _)
theorem jp {gs:Ch}:ZjH gs (.list xs) ρ=gs xs ρ:=by
 cases h:gs xs ρ <;> exact h
noncomputable def gW (xs:Cl):Tr Cl:=.ret xs.reverse
noncomputable def Zbf (x:PyData):Tr Cl:=(dW x).bind gW
theorem kF:Zmv i ρ=(i ρ).bind Zbf:=rfl
theorem ky:Zbf x=(dW x).bind gW:=rfl
theorem kw:gW xs=.ret xs.reverse:=rfl
noncomputable def Zbe (xs:Cl):Tr Cl:=(eI xs).bind gW
noncomputable def Zbd (xs:Cl):Tr Cl:=(gY xs).bind gW
theorem kD:yY is ρ=(is ρ).bind Zbe:=rfl
theorem kC:yX is ρ=(is ρ).bind Zbd:=rfl
theorem ku:Zbe xs=(eI xs).bind gW:=rfl
theorem kr:Zbd xs=(gY xs).bind gW:=rfl
theorem kE:aK o0 (.list xs) (.int (-1))=.ret (.list xs.reverse):=rfl
theorem kB:aK o0 (.tuple xs) (.int (-1))=.ret (.tuple xs.reverse):=rfl
noncomputable def yp (k:Nat) (ρ:Cr) (xs:Cl):PyData->Tr Ou
 | .list ys=>if small (xs.length+ys.length)=true then .ret (.next (ρ.set k (.own (xs++ys)))) else .fail
 | _=>.fail
noncomputable def Zdw (k:Nat) (i:Cc) (ρ:Cr) (xs:Cl):Tr Ou:=(i ρ).bind (yp k ρ xs)
theorem m9:sj k i ρ=(fv k ρ).bind (Zdw k i ρ):=by
 refine Eq.trans ?_ (pA k ρ)
 unfold sj
 cases ρ[k]? with
 | none=>rfl
 | some sl =>
  cases sl with
  | own xs=>exact congrArg (Tr.bind (i ρ)) (funext λx=>by cases x <;> rfl)
  | _=>rfl
theorem m8:Zdw k i ρ xs=(i ρ).bind (yp k ρ xs):=rfl
theorem iq (h:small (xs.length+ys.length)=true):yp k ρ xs (.list ys)=.ret (.next (ρ.set k (.own (xs++ys)))):=by
 show (if small (xs.length+ys.length)=true then _ else _)=_
 rw [if_pos h]
noncomputable def Zjq (k:Nat) (ρ:Cr) (xs:Cl) (x:PyData):PyData->Tr Ou
 | .int t=>if (decide (0<=t) && decide (t<=1000) && decide (xs.length<=1000))=true then .ret (.next (ρ.set k (.own (xs.take t.toNat++x::xs.drop t.toNat)))) else .fail
 | _=>.fail
noncomputable def ye (k:Nat) (ρ:Cr) (xs:Cl) (y x:PyData):Tr Ou:=Zjq k ρ xs x y
noncomputable def yf (k:Nat) (i:Cc) (ρ:Cr) (xs:Cl) (y:PyData):Tr Ou:=(i ρ).bind (ye k ρ xs y)
noncomputable def Zdd (k:Nat) (j i:Cc) (ρ:Cr) (xs:Cl):Tr Ou:=(j ρ).bind (yf k i ρ xs)
theorem mB:Zfb k j i ρ=(fv k ρ).bind (Zdd k j i ρ):=by
 refine Eq.trans ?_ (pA k ρ)
 unfold Zfb
 cases ρ[k]? with
 | none=>rfl
 | some sl =>
  cases sl with
  | own xs=>exact congrArg (Tr.bind (j ρ)) (funext λy=>congrArg (Tr.bind (i ρ)) (funext λx=>by cases y <;> rfl))
  | _=>rfl
theorem mz:Zdd k j i ρ xs=(j ρ).bind (yf k i ρ xs):=rfl
theorem my:yf k i ρ xs y=(i ρ).bind (ye k ρ xs y):=rfl
theorem mx (h:xs.length<=1000):ye k ρ xs (.int 0) x=.ret (.next (ρ.set k (.own (x::xs)))):=by
 show (if (decide ((0:Int)<=0) && decide ((0:Int)<=1000) && decide (xs.length<=1000))=true then _ else _)=_
 rw [if_pos (by simp [h])]
 rfl
theorem gy (a b c d:Int):bw h7 [.tuple [.int a,.int b],.tuple [.int c,.int d]]=.ret (if c < a\/c=a/\d < b then .tuple [.int c,.int d] else .tuple [.int a,.int b]):=by
 have h1:ints? [PyData.int a,.int b]=some [a,b]:=ints?_map [a,b]
 have h2:ints? [PyData.int c,.int d]=some [c,d]:=ints?_map [c,d]
 unfold bw h7
 simp only [h1,h2]
 show Tr.of (some _)=_
 rw [Tr.of_some]
 have e:HT.bT [c,d] [a,b]=true ↔ (c < a\/c=a/\d < b):=by
  simp only [HT.xM,HT.xL]
  by_cases hca:c=a
  ·subst hca
   by_cases hdb:d=b
   ·simp [hdb]
   ·simp [hdb]
  ·simp [hca]
 by_cases hc:(c < a\/c=a/\d < b)
 ·rw [if_pos (e.mpr hc),if_pos hc]; rfl
 ·rw [if_neg (λz=>hc (e.mp z)),if_neg hc]; rfl
theorem ZiB (ns:Cm) (h:ns≠[]):bw ia [.list (ns.map PyData.int)]=.ret (.int (eK ns)):=by
 unfold bw ia eW
 simp [h]
noncomputable def ZiH (xs:Cl):Tr Cl:=Tr.of (t4 xs)
theorem lE:Zmz is ρ=(is ρ).bind ZiH:=rfl
noncomputable def ZfN (xs:Cl):Tr PyData:=(Tr.of (t4 xs)).bind λys=>.ret (.tuple ys)
theorem jF:Zmq is ρ=(is ρ).bind ZfN:=rfl
noncomputable def jf:Nat->List Sl->PyData->Tr PyData
 | 0,.own xs::_,y=>jh xs y
 | 0,.d (.list xs)::_,y=>jh xs y
 | k+1,_::ρ,y=>jf k ρ y
 | _,_,_=>.fail
theorem ma:qd k j ρ=(j ρ).bind (jf k ρ):=by
 have key:∀ (k:Nat) (σ:Cr) (y:PyData),(match σ[k]? with | some (Sl.own xs)=>jh xs y | some (Sl.d (.list xs))=>jh xs y | _=>Tr.fail)=jf k σ y:=by
  intro k
  induction k with
  | zero =>
   intro σ y
   cases σ with
   | nil=>rfl
   | cons s r =>
    cases s with
    | d x=>cases x <;> rfl
    | _=>rfl
  | succ k ih =>
   intro σ y
   cases σ with
   | nil=>rfl
   | cons s r=>exact ih r y
 unfold qd
 exact congrArg (Tr.bind (j ρ)) (funext λy=>key k ρ y)
theorem l5 (n:Int):jf 0 (.own xs::ρ) (.int n)=Tr.of (bp xs n):=rfl
theorem lZ (n:Int):jf 0 (.d (.list xs)::ρ) (.int n)=Tr.of (bp xs n):=rfl
theorem lY:jf (k+1) (sl::ρ) y=jf k ρ y:=rfl
theorem Ze4 {α:Type} {t:Tr α} {P:α->Prop} (h:Al t 0 P):∃ a,t=.ret a/\P a:=by
 have h':=h.out
 cases t with
 | ret a=>exact ⟨a,rfl,h'⟩
 | draw w k=>exact h'.elim
 | fail=>exact h'.elim
theorem yQ {α:Type} {t:Tr α} {a:α} (h:Al t 0 λb=>b=a):t=.ret a:=by
 obtain ⟨b,e,rfl⟩:=Ze4 h
 exact e
theorem Ze3 {α:Type} {t:Tr α} {a:α} {P:α->Prop} {N:Nat} (h:t=.ret a) (hp:P a):Al t N P:=by rw [h]; exact cH hp
theorem Zdp {s:Cf} {g:Ci} {n:Nat} {full:Cl} (I:List PyData->List Sl->Prop) {Q:Ou->Prop} (ht:∀ pre x post ρ,full=pre++x::post->I pre ρ->∃ ρ1,g x ρ=some ρ1/\(s ρ1).all n λo=>∃ ρ2,o=.next ρ2/\I (pre++[x]) ρ2) (hq:∀ ρ,I full ρ->Q (.next ρ)) :
  ∀ {xs pre:Cl} {ρ:Cr},full=pre++xs->I pre ρ->(bJ g s xs ρ).all (xs.length * n) Q
 | [],pre,ρ,e,h0=>hq ρ (by rw [e,zN]; exact h0)
 | x::xs,pre,ρ,e0,h0=>by
  obtain ⟨ρ1,e,ha⟩:=ht pre x xs ρ e0 h0
  have en:(x::xs).length * n=n+xs.length * n:=by rw [zn,A7]; omega
  rw [en,cP,e,Tr.of_some,Tr.ret_bind]
  unfold rK
  refine Tr.all_bind ha λo ⟨ρ2,eo,h2⟩=>?_
  subst eo
  rw [cm]
  exact Zdp I ht hq (by rw [e0,Ae]; rfl) h2
theorem r8 {n N:Nat} {g:Ci} {s:Cf} {xs:Cl} {ρ:Cr} {Q:Ou->Prop} (I:List PyData->List Sl->Prop) (h0:I [] ρ) (hN:xs.length * n<=N) (ht:∀ pre x post ρ,xs=pre++x::post->I pre ρ->∃ ρ1,g x ρ=some ρ1/\Al (s ρ1) n λo=>∃ ρ2,o=.next ρ2/\I (pre++[x]) ρ2) (hq:∀ ρ,I xs ρ->Q (.next ρ)):Al (bJ g s xs ρ) N Q :=
 .of (Tr.all_mono (Zdp (full:=xs) I (λpre x post ρ e h=>let ⟨ρ1,e,a⟩:=ht pre x post ρ e h; ⟨ρ1,e,a.out⟩) hq (pre:=[]) rfl h0) hN λ_ h=>h)
theorem ZgY {lo hi:Int} {pre post:Cl} {x:PyData} (h:aZ lo hi=pre++x::post):x=.int (lo+pre.length)/\(pre.length:Int) < hi - lo:=by
 have h1:(aZ lo hi)[pre.length]?=some x:=by rw [h]; simp
 have hl:pre.length < (aZ lo hi).length:=(zu.mp h1).1
 rw [c7] at hl
 unfold aZ ap at h1
 rw [Ah,zH,Ai (by omega)] at h1
 refine ⟨?_,by omega⟩
 cases h1
 rfl
theorem Zbm {lo hi:Int} {pre post:Cl} {x:PyData} (h:(aZ lo hi).reverse=pre++x::post):x=.int (hi - 1 - pre.length)/\(pre.length:Int) < hi - lo:=by
 have h1:((aZ lo hi).reverse)[pre.length]?=some x:=by rw [h]; simp
 have hl:pre.length < ((aZ lo hi).reverse).length:=(zu.mp h1).1
 rw [zQ,c7] at hl
 rw [BD (by rw [c7]; exact hl),c7] at h1
 unfold aZ ap at h1
 rw [Ah,zH,Ai (by omega)] at h1
 refine ⟨?_,by omega⟩
 cases h1
 show PyData.int (lo+(((hi - lo).toNat - 1 - pre.length:Nat):Int))=_
 congr 1
 omega
theorem ZiC {h:PyData->Tr PyData} {f:Int->PyData} {lo hi:Int} (hx:∀ z:Int,lo<=z->z < hi->h (.int z)=.ret (f z)):bI h (aZ lo hi)=.ret ((ap lo (hi - lo).toNat).map f):=by
 have key:∀ l:Cm,(∀ z∈l,lo<=z/\z < hi)->bI h (l.map PyData.int)=.ret (l.map f):=by
  intro l
  induction l with
  | nil=>intro _; rfl
  | cons z l ih =>
   intro hz
   have hh:=hz z (by simp)
   rw [zm,bI,hx z hh.1 hh.2,Tr.ret_bind,ih λy hy=>hz y (Mt _ hy)]
   rfl
 unfold aZ
 refine key _ λz hz=>?_
 have:=qN hz
 omega
theorem ZjY (xs:Cl):(cG xs).length=xs.length:=by unfold cG; simp
end L2
set_option Elab.async false
set_option linter.all false
set_option maxRecDepth 100000
namespace Tw
open L2
noncomputable def bst (g:Int->Int) (top:Int):Nat->Int×Int
 | 0=>(g top,top)
 | n+1=>if (bst g top n).1 < g (top - ((n+1:Nat):Int)) then bst g top n else (g (top - ((n+1:Nat):Int)),top - ((n+1:Nat):Int))
theorem vB (g:Int->Int) (top:Int):∀ n:Nat,top - n<=(bst g top n).2/\(bst g top n).2<=top/\g (bst g top n).2=(bst g top n).1
 | 0=>by unfold bst; simp
 | n+1=>by
  have ih:=vB g top n
  unfold bst
  split
  ·exact ⟨by omega,ih.2.1,ih.2.2⟩
  ·exact ⟨zU _,by omega,rfl⟩
theorem yH (g:Int->Int) (top:Int):∀ (n:Nat) (y:Int),top - n<=y->y<=top->(bst g top n).1<=g y
 | 0,y,h1,h2=>by
  have:y=top:=by omega
  subst this
  unfold bst
  exact zU _
 | n+1,y,h1,h2=>by
  by_cases hy:y=top - ((n+1:Nat):Int)
  ·unfold bst
   split
   ·subst hy; omega
   ·subst hy; exact zU _
  ·have ih:=yH g top n y (by omega) h2
   unfold bst
   split
   ·exact ih
   ·omega
theorem ZeC (g:Int->Int) (top:Int):∀ (n:Nat) (y:Int),top - n<=y->y < (bst g top n).2->(bst g top n).1 < g y
 | 0,y,h1,h2=>by
  unfold bst at h2
  dsimp only at h2
  omega
 | n+1,y,h1,h2=>by
  by_cases hc:(bst g top n).1 < g (top - ((n+1:Nat):Int))
  ·have e:bst g top (n+1)=bst g top n:=by rw [bst,if_pos hc]
   rw [e] at h2 ⊢
   by_cases hy:y=top - ((n+1:Nat):Int)
   ·subst hy; exact hc
   ·exact ZeC g top n y (by omega) h2
  ·have e:bst g top (n+1)=(g (top - ((n+1:Nat):Int)),top - ((n+1:Nat):Int)):=by rw [bst,if_neg hc]
   rw [e] at h2
   dsimp only at h2
   omega
noncomputable def pck (g:Int->Int) (top K x:Int):Int×Int :=
 match (top - x).toNat with
 | 0=>(g x,x)
 | n+1=>if K+(bst g top n).1 < g x then (K+(bst g top n).1,(bst g top n).2) else (g x,x)
noncomputable def cst (g:Int->Int) (top K P x:Int):Int:=(pck g top K x).1 - P * x
noncomputable def lvl (g:Int->Int) (top K x:Int):Int:=(pck g top K x).2
theorem po (g:Int->Int) (top K:Int):pck g top K top=(g top,top):=by
 unfold pck
 rw [Int.sub_self]
 rfl
theorem pq (g:Int->Int) (top K:Int) (n:Nat):pck g top K (top - ((n+1:Nat):Int))=if K+(bst g top n).1 < g (top - ((n+1:Nat):Int)) then (K+(bst g top n).1,(bst g top n).2) else (g (top - ((n+1:Nat):Int)),top - ((n+1:Nat):Int)):=by
 unfold pck
 have e:(top - (top - ((n+1:Nat):Int))).toNat=n+1:=by omega
 rw [e]
theorem ZhT {g:Int->Int} {top K x:Int} (hx:x<=top):(pck g top K x).1<=g x/\∀ y,x < y->y<=top->(pck g top K x).1<=K+g y:=by
 by_cases ht:x=top
 ·subst ht
  rw [po]
  exact ⟨zU _,λy h1 h2=>by omega⟩
 ·obtain ⟨n,hn⟩:∃ n:Nat,x=top - ((n+1:Nat):Int):=⟨(top - x - 1).toNat,by omega⟩
  subst hn
  rw [pq]
  split
  ·rename_i hc
   exact ⟨by dsimp only; omega,λy h1 h2=>by have:=yH g top n y (by omega) h2; dsimp only; omega⟩
  ·rename_i hc
   exact ⟨zU _,λy h1 h2=>by have:=yH g top n y (by omega) h2; dsimp only; omega⟩
theorem xm {g:Int->Int} {top K x:Int} (hx:x<=top):x<=(pck g top K x).2/\(pck g top K x).2<=top/\(((pck g top K x).2=x/\(pck g top K x).1=g x)\/(x < (pck g top K x).2/\(pck g top K x).1=K+g (pck g top K x).2/\(pck g top K x).1 < g x)):=by
 by_cases ht:x=top
 ·subst ht
  rw [po]
  exact ⟨zU _,zU _,.inl ⟨rfl,rfl⟩⟩
 ·obtain ⟨n,hn⟩:∃ n:Nat,x=top - ((n+1:Nat):Int):=⟨(top - x - 1).toNat,by omega⟩
  subst hn
  rw [pq]
  have hb:=vB g top n
  split
  ·rename_i hc
   exact ⟨by dsimp only; omega,hb.2.1,.inr ⟨by dsimp only; omega,by dsimp only; rw [hb.2.2],hc⟩⟩
  ·exact ⟨zU _,by dsimp only; omega,.inl ⟨rfl,rfl⟩⟩
theorem ZhS {g:Int->Int} {top K x y:Int} (hx:x<=top) (h1:x < y) (h2:y < (pck g top K x).2):(pck g top K x).1 < K+g y:=by
 by_cases ht:x=top
 ·subst ht
  rw [po] at h2
  dsimp only at h2
  omega
 ·obtain ⟨n,hn⟩:∃ n:Nat,x=top - ((n+1:Nat):Int):=⟨(top - x - 1).toNat,by omega⟩
  subst hn
  rw [pq] at h2 ⊢
  split at h2
  ·rename_i hc
   rw [if_pos hc]
   have:=ZeC g top n y (by omega) h2
   dsimp only
   omega
  ·dsimp only at h2
   omega
theorem ZhR {g:Int->Int} {top K x:Int} {b:Nat} (hx:x<=top) (hg:∀ y,x<=y->y<=top->nb b (g y)) (hK:nb b K):nb (b+1) (pck g top K x).1:=by
 obtain ⟨h1,h2,h3⟩:=xm (g:=g) (K:=K) hx
 rcases h3 with ⟨e1,e2⟩ | ⟨e1,e2,e3⟩
 ·rw [e2]
  exact ba (hg x (zU _) hx) (by omega)
 ·rw [e2]
  exact ba (dJ hK (hg _ h1 h2)) (by omega)
theorem ZhU {g g':Int->Int} {top K x:Int} (h:∀ y,x<=y->y<=top->g y=g' y) (hx:x<=top):pck g top K x=pck g' top K x:=by
 have key:∀ n:Nat,x<=top - n->bst g top n=bst g' top n:=by
  intro n
  induction n with
  | zero=>intro hn; unfold bst; rw [h top (by omega) (by omega)]
  | succ n ih =>
   intro hn
   unfold bst
   rw [ih (by omega),h _ hn (by omega)]
 by_cases ht:x=top
 ·subst ht
  rw [po,po,h x (by omega) (by omega)]
 ·obtain ⟨n,hn⟩:∃ n:Nat,x=top - ((n+1:Nat):Int):=⟨(top - x - 1).toNat,by omega⟩
  subst hn
  rw [pq,pq,key n (by omega),h _ (by omega) (by omega)]
structure DayB (l:Cm):Prop where
 len:l.length<=16
 nb:∀ w∈l,nb 30 w
 w0:∀ w∈l,0<=w
 pos:0 < l.sum
theorem rP {s:Shp} (h:s.Ok) {y f:Int} (hy:nb 20 y) (hf:nb 40 f):nb 100 (s.day y f):=by
 have hd:nb 7 s.depth:=by have:=h.t0; have:=h.d0; have:=h.td; exact bv (by show -128 < _; omega) (by show _ < 128; omega)
 have hn:nb 50 (s.nx y f):=by
  unfold Shp.nx c9
  exact pC (ba (gl hd) (by decide)) (ba (fw hy hf) (by decide))
 unfold Shp.day
 refine ba (dJ (pC (k:=95) (cg h.keep hn) (cg h.lack (gl hn))) (cg h.lost (fw hn (fw hy hf)))) (by decide)
theorem wE {day:Cm} (hd:DayB day):nb 46 day.sum:=ba (ZaQ hd.nb) (by have:=hd.len; omega)
end Tw
set_option Elab.async false
set_option linter.all false
set_option maxRecDepth 100000
namespace Tw
open L2
noncomputable abbrev rng (lo hi:Int):Cm:=ap lo (hi - lo).toNat
variable {α:Type}
theorem ZbC (lo:Int) (a b:Nat):ap lo (a+b)=ap lo a++ap (lo+a) b:=by
 unfold ap
 rw [List.range_add,Am,Ah]
 congr 1
 apply Az
 intro k _
 show lo+((a+k:Nat):Int)=lo+(a:Int)+(k:Int)
 omega
theorem ZgW {lo hi x:Int} (h:x∈rng lo hi):lo<=x/\x < hi:=by
 have:=qN h
 omega
noncomputable def f3 (lo a b c:Int) (t:Int->Int->Int->Option α):Option α:=(rng lo a).findSome? λu=>(rng (u+1) b).findSome? λv=>(rng (v+1) c).findSome? λw=>t u v w
end Tw
set_option Elab.async false
set_option linter.all false
set_option maxRecDepth 100000
namespace Tw
open L2
noncomputable def enu:Nat->List Int->List PyData
 | _,[]=>[]
 | k,n::ns=>.tuple [.int k,.int n]::enu (k+1) ns
theorem ZdB:∀ (ns:Cm) (k:Nat),(List.range' k (ns.map PyData.int).length).zipWith (λ(n:Nat) x=>PyData.tuple [.int n,x]) (ns.map PyData.int)=enu k ns
 | [],k=>rfl
 | n::ns,k=>by
  rw [zm,zn,List.range'_succ,List.zipWith_cons_cons,ZdB ns (k+1)]
  rfl
theorem ir (ns:Cm):cG (ns.map PyData.int)=enu 0 ns:=by
 unfold cG
 rw [List.range_eq_range',ZdB]
theorem pT:∀ (ns:Cm) (k:Nat),(enu k ns).length=ns.length
 | [],k=>rfl
 | n::ns,k=>by rw [enu,zn,zn,pT ns]
noncomputable def bx:Nat->List Int->List Int
 | _,[]=>[]
 | k,n::ns=>if n > 0 then (k:Int)::bx (k+1) ns else bx (k+1) ns
theorem wK:∀ {ns:Cm} {k:Nat} {x:Int},x∈bx k ns->(k:Int)<=x/\x < k+ns.length
 | [],k,x,h=>by cases h
 | n::ns,k,x,h=>by
  unfold bx at h
  rw [zn]
  split at h
  ·rcases zq.mp h with rfl | h
   ·omega
   ·have:=wK h
    omega
  ·have:=wK h
   omega
theorem sP:∀ {ns:Cm} {k:Nat},(∃ n∈ns,n > 0)->bx k ns≠[]
 | [],k,h=>by obtain ⟨n,h,_⟩:=h; cases h
 | n::ns,k,h=>by
  unfold bx
  split
  ·simp
  ·rename_i hn
   obtain ⟨m,hm,hp⟩:=h
   rcases zq.mp hm with rfl | hm
   ·exact absurd hp hn
   ·exact sP ⟨m,hm,hp⟩
noncomputable def great (ls:Cm):Int:=eK (bx 0 ls)
noncomputable def reach (fs:List Cm):Int:=(fs.map great).sum
structure DayOk (most:Nat) (ls:Cm):Prop where
 len:ls.length<=most
 pos:∃ n∈ls,n > 0
 le:∀ n∈ls,0<=n/\n<=1001
theorem Zgf {ls:Cm} (h:∀ n∈ls,0<=n):∀ n∈ls,n<=ls.sum:=by
 induction ls with
 | nil=>intro n hn; cases hn
 | cons a l ih =>
  intro n hn
  have h0:0<=l.sum:=by
   clear ih hn
   have h':∀ n∈l,0<=n:=λm hm=>h m (Mt _ hm)
   clear h
   induction l with
   | nil=>decide
   | cons b l ih2 =>
    rw [zT]
    have:=h' b (by simp)
    have:=ih2 λm hm=>h' m (Mt _ hm)
    omega
  have ha:=h a (by simp)
  rw [zT]
  rcases zq.mp hn with rfl | hn
  ·omega
  ·have:=ih (λm hm=>h m (Mt _ hm)) n hn
   omega
theorem DayOk.B {m:Nat} {ls:Cm} (h:DayOk m ls) (hm:m<=16):DayB ls:=by
 refine ⟨zE h.len hm,λw hw=>?_,λw hw=>(h.le w hw).1,?_⟩
 ·have:=h.le w hw
  exact bv (by show -1073741824 < _; omega) (by show _ < 1073741824; omega)
 ·obtain ⟨n,hn,hp⟩:=h.pos
  have:=Zgf (λn hn=>(h.le n hn).1) n hn
  omega
theorem wS {a b c d e f g h i:Int}:PyData.tuple [.int a,.int b,.int c,.int d,.int e,.int f,.int g,.int h,.int i]=(Shp.mk a b c d e f g h i).d:=by
 unfold Shp.d
 rfl
theorem rG (l:Cm):dW (tI l)=.ret (l.map PyData.int):=rfl
theorem rH (l:List Cm):dW (fD l)=.ret (l.map tI):=rfl
end Tw
set_option Elab.async false
set_option linter.all false
set_option maxRecDepth 100000
set_option exponentiation.threshold 9000
namespace Tw
open L2
structure Rp (d:PyData) (k n:Nat):Prop where
 hd:d.hasDict=false
 sh:d.showable=true
 dp:d.depth<=k
 ln:d.shown.length<=n
theorem eQ {d:PyData} {k n k' n':Nat} (h:Rp d k n) (hk:k<=k') (hn:n<=n'):Rp d k' n':=⟨h.hd,h.sh,zE h.dp hk,zE h.ln hn⟩
theorem tX {i:Int} (h:nb 1900 i):Rp (.int i) 0 1901:=by
 have h1:=Za6 [i] λn hn=>by simp at hn; subst hn; exact h
 have h2:=(Za5 [i] λn hn=>by simp at hn; subst hn; exact h).1
 refine ⟨rfl,?_,Ay _,?_⟩
 ·simp only [zm,AH,PyData.showableAll,Bool.and_true] at h1
  exact h1
 ·simp only [zm,AH,PyData.shownAll,zT,List.sum_nil,zn,zS] at h2
  omega
theorem Zbk {k n:Nat}:∀ {xs:Cl},(∀ x∈xs,Rp x k n)->PyData.hasDictAll xs=false/\PyData.showableAll xs=true/\PyData.depthAll xs<=k/\((PyData.shownAll xs).map (·.length)).sum<=xs.length * n/\(PyData.shownAll xs).length=xs.length
 | [],_=>⟨rfl,rfl,Ay _,by simp [PyData.shownAll],rfl⟩
 | x::xs,h=>by
  obtain ⟨h1,h2,h3,h4,h5⟩:=Zbk (xs:=xs) λy hy=>h y (Mt _ hy)
  have hx:=h x (by simp)
  refine ⟨?_,?_,?_,?_,?_⟩
  ·rw [PyData.hasDictAll,hx.hd,h1]; rfl
  ·rw [PyData.showableAll,hx.sh,h2]; rfl
  ·rw [PyData.depthAll]; have:=hx.dp; omega
  ·rw [PyData.shownAll,zm,zT,zn,A7]; have:=hx.ln; omega
  ·rw [PyData.shownAll,zn,zn,h5]
theorem gX {xs:Cl} {k n:Nat} (h:∀ x∈xs,Rp x k n):Rp (.tuple xs) (k+1) (xs.length * n+2 * xs.length+10):=by
 obtain ⟨h1,h2,h3,h4,h5⟩:=Zbk h
 have c3:=tupleText_len_le (PyData.shownAll xs)
 refine ⟨?_,?_,?_,?_⟩
 ·rw [PyData.hasDict,h1]
 ·rw [PyData.showable,h2]
 ·rw [PyData.depth]; omega
 ·rw [PyData.shown]; omega
theorem Zbh {l:Cm} {m:Nat} (h:∀ n∈l,nb 1900 n) (hl:l.length<=m):Rp (tI l) 1 (m * 1903+10):=by
 refine eQ (gX (k:=0) (n:=1901) λx hx=>?_) (zp _) ?_
 ·obtain ⟨i,hi,rfl⟩:=AG.mp hx
  exact tX (h i hi)
 ·rw [zo]
  have:l.length * 1903<=m * 1903:=Bm _ hl
  omega
theorem ZgQ {s:Shp} (h:s.Ok):Rp s.d 1 20000:=by
 have e:s.d=tI s.l:=by unfold Shp.d; rfl
 rw [e]
 refine eQ (Zbh (m:=9) (λn hn=>?_) (zp _)) (zp _) (by decide)
 have:=h.t0
 have:=h.d0
 have:=h.td
 unfold Shp.l at hn
 simp only [zq,Ao,or_false] at hn
 have k:∀ n:Int,nb 45 n->nb 1900 n:=λn hn=>ba hn (by decide)
 have k1:nb 1900 s.top:=k _ (bv (by show -35184372088832 < _; omega) (by show _ < 35184372088832; omega))
 have k2:nb 1900 s.depth:=k _ (bv (by show -35184372088832 < _; omega) (by show _ < 35184372088832; omega))
 rcases hn with rfl | rfl | rfl | rfl | rfl | rfl | rfl | rfl | rfl
 ·exact k1
 ·exact k2
 ·exact k _ h.start
 ·exact k _ h.piece
 ·exact k _ h.keep
 ·exact k _ h.lack
 ·exact k _ h.lost
 ·exact k _ h.back
 ·exact k _ h.late
theorem ZgU {l:Cm} (h:DayB l):Rp (tI l) 1 40000:=eQ (Zbh (m:=16) (λn hn=>ba (h.nb n hn) (by decide)) h.len) (zp _) (by decide)
end Tw
set_option Elab.async false
set_option linter.all false
set_option maxRecDepth 100000
set_option exponentiation.threshold 9000
namespace Tw
open L2
theorem euclid {p:Ce} {s:Cf} {E:Nat->Nat->List Sl} (hp:∀ a b:Nat,p (E a b)=.ret (decide (b≠0))) (hs:∀ a b:Nat,b≠0->s (E a b)=.ret (.next (E b (a % b)))) :
  ∀ n k a b:Nat,b < 2 ^ n->dP p s (2 * n+1+k) (E a b)=.ret (.next (E (Nat.gcd a b) 0)):=by
 have stop:∀ k a:Nat,dP p s (k+1) (E a 0)=.ret (.next (E a 0)):=λk a=>by
  rw [dP,hp,Tr.ret_bind]
  rfl
 have go:∀ k a b:Nat,b≠0->dP p s (k+1) (E a b)=dP p s k (E b (a % b)):=λk a b hb=>by
  rw [dP,hp,Tr.ret_bind,decide_eq_true hb,if_pos rfl,hs a b hb,Tr.ret_bind]
 intro n
 induction n with
 | zero =>
  intro k a b hb
  have e:b=0:=by simp at hb; exact hb
  subst e
  rw [Nat.gcd_zero_right,Nat.add_comm (2 * 0+1) k]
  exact stop k a
 | succ n ih =>
  intro k a b hb
  by_cases h0:b=0
  ·subst h0
   have e:2 * (n+1)+1+k=(2 * (n+1)+k)+1:=by omega
   rw [Nat.gcd_zero_right,e]
   exact stop _ a
  ·have e:2 * (n+1)+1+k=(2 * n+2+k)+1:=by omega
   rw [e,go _ a b h0]
   have hr:a % b < b:=Nat.mod_lt _ (Ak h0)
   by_cases h1:a % b=0
   ·rw [h1]
    have e2:2 * n+2+k=(2 * n+1+k)+1:=by omega
    have eg:Nat.gcd a b=b:=by rw [Nat.gcd_comm,Nat.gcd_rec,h1,Nat.gcd_zero_left]
    rw [e2,eg]
    exact stop _ b
   ·have e2:2 * n+2+k=(2 * n+1+k)+1:=by omega
    rw [e2,go _ b (a % b) h1]
    have hlt:b % (a % b) < 2 ^ n:=by
     have h2:b % (a % b) < a % b:=Nat.mod_lt _ (Ak h1)
     have h3:b % (a % b)+a % b<=b:=by
      have h4:=Nat.div_add_mod b (a % b)
      have h5:1<=b / (a % b):=(Nat.le_div_iff_mul_le (Ak h1)).mpr (by omega)
      have h6:a % b<=(a % b) * (b / (a % b)):=Nat.le_mul_of_pos_right _ h5
      omega
     rw [Nat.pow_succ] at hb
     omega
    rw [ih k (a % b) (b % (a % b)) hlt]
    have eg:Nat.gcd a b=Nat.gcd (a % b) (b % (a % b)):=by
     rw [Nat.gcd_comm a b,Nat.gcd_rec b a,Nat.gcd_rec (a % b) b,Nat.gcd_comm]
    rw [eg]
theorem Zdu (a b:Nat):(a:Int).fmod (b:Int)=((a % b:Nat):Int):=by
 rw [Bu _ (BJ b)]
 rfl
theorem Ze9 (n:Int):vH n=(n.natAbs:Int):=by
 unfold vH
 split <;> omega
noncomputable def fj (t b:Int):PyData:=.tuple [.int (Gc.ig t b),.int (Gc.gp t b)]
theorem ZiL {t b:Int} {k l:Nat} (ht:nb k t) (hb:nb l b) (h0:b≠0):nb k (Gc.ig t b)/\nb l (Gc.gp t b):=by
 obtain ⟨h1,h2⟩:=Gc.ZiM (t:=t) h0
 exact ⟨Av h1 ht,Av h2 hb⟩
theorem ZdY {t b:Int} {l:Nat} (hb:nb l b) (h0:b≠0):nb l (Gc.den t b):=by
 unfold nb
 rw [Gc.yz]
 exact Av (Nat.gcd_le_right _ (by omega)) hb
noncomputable def fX (c sc l:Int):PyData:=.tuple [fj c sc,.int l]
noncomputable def pr (p:Int×Int):Cm:=[p.1,p.2]
def lxl (p q:Int×Int):Prop:=p.1 < q.1\/p.1=q.1/\p.2 < q.2
theorem ZcU (p q:Int×Int):HT.bT (pr p) (pr q)=true ↔ lxl p q:=by
 unfold pr lxl
 simp only [HT.xM,HT.xL]
 by_cases h1:p.1=q.1
 ·by_cases h2:p.2=q.2
  ·simp [h1,h2]
  ·simp [h1,h2]
 ·simp [h1]
theorem yJ:∀ (l:List (Int×Int)) (x:Int×Int),∃ q,(l.map pr).foldl (λb y=>if HT.bT y b=true then y else b) (pr x)=pr q/\(q=x\/q∈l)/\¬ lxl x q/\∀ p∈l,¬ lxl p q
 | [],x=>⟨x,rfl,.inl rfl,by unfold lxl; omega,λp hp=>by cases hp⟩
 | y::l,x=>by
  rw [zm,AA]
  by_cases h:lxl y x
  ·rw [if_pos ((ZcU y x).mpr h)]
   obtain ⟨q,h1,h2,h3,h4⟩:=yJ l y
   refine ⟨q,h1,?_,?_,λp hp=>?_⟩
   ·rcases h2 with rfl | h2
    ·exact .inr (by simp)
    ·exact .inr (Mt _ h2)
   ·unfold lxl at *; omega
   ·rcases zq.mp hp with rfl | hp
    ·exact h3
    ·exact h4 p hp
  ·rw [if_neg (λz=>h ((ZcU y x).mp z))]
   obtain ⟨q,h1,h2,h3,h4⟩:=yJ l x
   refine ⟨q,h1,?_,h3,λp hp=>?_⟩
   ·rcases h2 with rfl | h2
    ·exact .inl rfl
    ·exact .inr (Mt _ h2)
   ·rcases zq.mp hp with rfl | hp
    ·unfold lxl at *; omega
    ·exact h4 p hp
theorem ZlT {l:List (Int×Int)} {q:Int×Int} (hq:q∈l) (hm:∀ p∈l,¬ lxl p q):dX (l.map pr)=pr q:=by
 cases l with
 | nil=>cases hq
 | cons x l =>
  obtain ⟨q',h1,h2,h3,h4⟩:=yJ l x
  have e:dX ((x::l).map pr)=(l.map pr).foldl (λb y=>if HT.bT y b=true then y else b) (pr x):=rfl
  rw [e,h1]
  have hq':q'∈x::l:=by
   rcases h2 with rfl | h2
   ·simp
   ·exact Mt _ h2
  have a1:=hm q' hq'
  have a2:¬ lxl q q':=by
   rcases zq.mp hq with rfl | hq
   ·exact h3
   ·exact h4 q hq
  have:q'=q:=by
   obtain ⟨a,b⟩:=q
   obtain ⟨c,d⟩:=q'
   unfold lxl at a1 a2
   dsimp only at a1 a2
   have e1:c=a:=by omega
   have e2:d=b:=by omega
   rw [e1,e2]
  rw [this]
theorem ZlS {s:Shp} {W:Int->Int} {B x:Int} (hx:x<=s.top) (hK:0<=B * s.start):dX (((rng x (s.top+1)).map λy=>(s.ord x y * B+W y,y)).map pr)=pr (cst (λy=>B * s.piece * y+W y) s.top (B * s.start) (B * s.piece) x,lvl (λy=>B * s.piece * y+W y) s.top (B * s.start) x):=by
 have cost:∀ y,x < y->s.ord x y * B+W y=B * s.start+(B * s.piece * y+W y) - B * s.piece * x:=λy hy=>by
  unfold Shp.ord
  rw [if_neg (by omega)]
  grind
 have cost0:s.ord x x * B+W x=(B * s.piece * x+W x) - B * s.piece * x:=by
  unfold Shp.ord
  rw [if_pos (zU _)]
  omega
 obtain ⟨q1,q2,q3⟩:=xm (g:=λy=>B * s.piece * y+W y) (K:=B * s.start) hx
 obtain ⟨p1,p2⟩:=ZhT (g:=λy=>B * s.piece * y+W y) (K:=B * s.start) hx
 refine ZlT ?_ ?_
 ·refine AG.mpr ⟨lvl (λy=>B * s.piece * y+W y) s.top (B * s.start) x,?_,?_⟩
  ·unfold rng ap
   exact AG.mpr ⟨(lvl (λy=>B * s.piece * y+W y) s.top (B * s.start) x - x).toNat,BG.mpr (by unfold lvl; omega),by unfold lvl; omega⟩
  ·unfold cst
   congr 1
   rcases q3 with ⟨e1,e2⟩ | ⟨e1,e2,e3⟩
   ·have e4:lvl (λy=>B * s.piece * y+W y) s.top (B * s.start) x=x:=e1
    rw [e4,e2,cost0]
   ·have e4:x < lvl (λy=>B * s.piece * y+W y) s.top (B * s.start) x:=e1
    rw [cost _ e4,e2]
    rfl
 ·intro p hp
  obtain ⟨y,hy,rfl⟩:=AG.mp hp
  have hy':=ZgW hy
  unfold lxl cst lvl
  dsimp only
  by_cases hxy:y=x
  ·subst hxy
   rw [cost0]
   rcases q3 with ⟨e1,e2⟩ | ⟨e1,e2,e3⟩ <;> omega
  ·have hlt:x < y:=by omega
   rw [cost y hlt]
   have h1:=p2 y hlt (by omega)
   intro hc
   have h2:y < (pck (λy=>B * s.piece * y+W y) s.top (B * s.start) x).2:=by omega
   have h3:=ZhS (g:=λy=>B * s.piece * y+W y) (K:=B * s.start) hx hlt h2
   omega
end Tw
set_option Elab.async false
set_option linter.all false
set_option maxRecDepth 100000
namespace L2
noncomputable def gk (h:Heap) (fs:List Addr):Heap:=⟨h.objs.mapIdx λi o=>if i∈fs then { o with data:=.freed } else o,h.life⟩
theorem um {h:Heap} {fs:List Addr} {b:Addr} (hb:b∈fs):(gk h fs).get? b=none:=by
 unfold gk Heap.get?
 simp only [Array.getElem?_mapIdx]
 cases h.objs[b]? with
 | none=>rfl
 | some o=>simp [hb]
theorem hV {h:Heap} {fs:List Addr} {b:Addr} (hb:b ∉ fs):(gk h fs).get? b=h.get? b:=by
 unfold gk Heap.get?
 simp only [Array.getElem?_mapIdx]
 cases h.objs[b]? with
 | none=>rfl
 | some o=>simp [hb]
theorem Zcs (h:Heap) (fs:List Addr):(gk h fs).StaysIn h:=λb o e=>by
 by_cases hb:b∈fs
 ·rw [um hb] at e; cases e
 ·rw [hV hb] at e; exact e
theorem ffr {h base:Heap} {l:List Env} (hl:h.FunFrames base l) (fs:List Addr) (hf:∀ b∈frs l,b∈fs):h.FunFrames (gk h fs) l:=by
 induction l with
 | nil=>trivial
 | cons env rest ih =>
  obtain ⟨hk,⟨L,o,he,hn,ho,hd⟩,hr⟩:=hl
  have hm:∀ b∈frs rest,b∈frs (env::rest):=λb hb=>by
   unfold frs at hb ⊢
   rw [AB,he]
   exact Mt _ hb
  refine ⟨hk,⟨L,o,he,um (hf L ?_),ho,hd⟩,ih hr λb hb=>hf b (hm b hb)⟩
  unfold frs
  rw [AB,he]
  exact z7
theorem HOk.tracked {P:Program} {w:World} {H:Hp} {h h':Heap} (x:HOk P w H h) (k:∀ b u,H b≠none->h.get? b=some u->h'.get? b=some u):HOk P w H h':=λa o e =>
 (x a o e).stay (λb u hb q=>k b u (λz=>by rcases hb with r | r <;> (first | (subst r; rw [z] at e; cases e) | (rw [z] at r; cases r))) q) (λ_ q=>q) λ_ _ q=>q
theorem ObjOk.get {P:Program} {w:World} {H:Hp} {h:Heap} {a:Addr} {o:HO} (x:ObjOk P w H h a o):∃ u,h.get? a=some u:=by
 cases o with
 | lst xs=>obtain ⟨_,_,_,_,e⟩:=x; exact ⟨_,e⟩
 | tup xs=>obtain ⟨_,_,_,ob,e,_⟩:=x; exact ⟨_,e⟩
 | dK kvs=>obtain ⟨_,_,_,_,o,_,_,e,_⟩:=x; exact ⟨_,e⟩
 | dT kvs=>obtain ⟨_,_,_,_,o,_,_,e,_⟩:=x; exact ⟨_,e⟩
 | set S n=>obtain ⟨o,_,_,_,e,_⟩:=x; exact ⟨_,e⟩
 | ins C dx fs=>obtain ⟨_,_,_,e,_⟩:=x; exact ⟨_,e⟩
 | own y=>obtain ⟨_,e⟩:=x; exact ⟨_,e⟩
 | xd fs=>obtain ⟨_,⟨_,_,_,e,_⟩,_⟩:=x; exact ⟨_,e⟩
 | rng lo hi=>obtain ⟨_,_,_,e⟩:=x; exact ⟨_,e⟩
 | frz ob u=>obtain ⟨e,_⟩:=x; exact ⟨_,e⟩
 | tbl ps=>exact ⟨_,(show h.get? a=some _ from x)⟩
 | met f y=>exact ⟨_,(show h.get? a=some _ from x)⟩
 | ext φ=>obtain ⟨_,⟨_,e⟩,_⟩:=x; exact ⟨_,e⟩
noncomputable def cJ (P:Program) (w:World):eA:=λouter H s E e s'=>∃ (ea t:Addr) (cls:Value) (b':Heap) (H':Hp),e=.ref ea/\s'.os=s.os/\AllBare s'.gens/\Un (frs outer) [] H H' s.heap s'.heap/\HOk P w H' s'.heap /\
 Heap.FlyingW b' outer ea cls (.ref t) s'.heap/\(∀ b o,s.heap.get? b=some o->b ∉ frs outer->∃ o',b'.get? b=some o')/\(∀ b,H' b≠none->∃ o',b'.get? b=some o')/\E cls none H'
theorem Zhb {P:Program} {w:World} {K:Cb} {mg:Cq} {base:Heap} {N:Co} {qual:Str} {scope:Scope} {f:Addr} {cd:Value} {A:Around} {outer:List Env} {s₀:Shared} {H₀:Hp} {E:XK}
  {pins:List (Addr×Obj)} {σ:St} {H:Hp} {s:Shared} {h':Heap} {e:Addr} {cls:Value} {args:Cn}
  (I:Inv (cQ (cJ P w) P w K mg base N qual scope f cd A outer s₀ H₀ E) pins σ H s) (hx:Heap.MadeExcOf s.heap h' e cls args) (hE:E cls none H) :
  (cQ (cJ P w) P w K mg base N qual scope f cd A outer s₀ H₀ E).xe (.ref e) { s with heap:=h' }:=by
 let X:=cQ (cJ P w) P w K mg base N qual scope f cd A outer s₀ H₀ E
 have hst:s.heap.FunFrames base (envOfC qual scope s₀.heap.objs.size f cd::outer):=I.stack
 have hfree:∀ b∈frs (envOfC qual scope s₀.heap.objs.size f cd::outer),H b=none:=I.stkFree
 have hfr:(A.deeper (envOfC qual scope s₀.heap.objs.size f cd)).frames=some (envOfC qual scope s₀.heap.objs.size f cd::outer):=I.ok.frames
 have hbase:Un (frs outer) [] H₀ H s₀.heap s.heap:=I.base
 obtain ⟨_,⟨L,oL,hL,_,hoL,_⟩,_⟩:=id hst
 have hLe:L=s₀.heap.objs.size:=(zJ hL).symm
 have hfs:∀ b,b∈frs (envOfC qual scope s₀.heap.objs.size f cd::outer) ↔ b=L\/b∈frs outer:=λb=>by
  unfold frs
  rw [AB,hL]
  exact zq
 show wpAny (model P w) (A.deeper (envOfC qual scope s₀.heap.objs.size f cd)) (leaving (envOfC qual scope s₀.heap.objs.size f cd) (.ref e)) (λ_ s''=>cJ P w outer H₀ s₀ E (.ref e) s'') (λe' s''=>cJ P w outer H₀ s₀ E e' s'') { s with heap:=h' }
 refine wpAny_leaves_madeW (s:={ s with heap:=h' }) (base:=gk s.heap (frs (envOfC qual scope s₀.heap.objs.size f cd::outer))) hfr hL (Zcs _ _) (ffr hst _ λb hb=>hb) hx λh'' t fl tup tn ups=>?_
 have stay:∀ b o,s.heap.get? b=some o->b ∉ frs (envOfC qual scope s₀.heap.objs.size f cd::outer)->h''.get? b=some o:=λb o hb hn=>fl.1 b o (by rw [hV hn]; exact hb)
 have slot:∀ b o,s.heap.get? b=some o->b∈frs (envOfC qual scope s₀.heap.objs.size f cd::outer)->∃ sl,h''.get? b=some { o with slots:=sl }:=λb o hb hn=>by
  obtain ⟨_,o',ho',hd⟩:=hst.mem hn
  rw [hb] at ho'
  cases ho'
  exact ups b o (hx.keeps b o hb) hd
 have old:∀ b o,s₀.heap.get? b=some o->b≠L:=λb o hb z=>by
  have:=zA hb
  rw [z,hLe] at this
  exact absurd this (zK _)
 have un:Un (frs outer) [] H₀ H s₀.heap h'':=by
  refine ⟨λb o hb hn hf hx=>?_,λb o hb hn hf hx=>?_,hbase.free,λb o hb hx=>?_,hbase.tups,hbase.frzs,hbase.tbls⟩
  ·exact stay b o (hbase.keep b o hb hn hf hx) λz=>((hfs b).mp z).elim (old b o hb) hf
  ·obtain ⟨sl,e1⟩:=hbase.slot b o hb hn hf hx
   obtain ⟨dI,e2⟩:=slot b _ e1 ((hfs b).mpr (.inr hf))
   exact ⟨dI,e2⟩
  ·obtain ⟨o',e1⟩:=hbase.there b o hb hx
   by_cases hq:b∈frs (envOfC qual scope s₀.heap.objs.size f cd::outer)
   ·obtain ⟨dI,e2⟩:=slot b _ e1 hq
    exact ⟨_,e2⟩
   ·exact ⟨o',stay b o' e1 hq⟩
 refine ⟨e,t,cls,_,H,rfl,I.os,I.bare,un,HOk.tracked I.hok λb u hb q=>stay b u q λz=>hb (hfree b z),fl,λb o hb hf=>?_,λb hb=>?_,hE⟩
 ·obtain ⟨o',e1⟩:=hbase.there b o hb (by simp)
  exact ⟨o',by rw [hV λz=>((hfs b).mp z).elim (old b o hb) hf]; exact e1⟩
 ·cases e1:H b with
  | none=>exact absurd e1 hb
  | some u =>
   obtain ⟨o',e2⟩:=(I.hok b u e1).get
   exact ⟨o',by rw [hV λz=>hb (hfree b z)]; exact e2⟩
theorem rebase {b' h:Heap} {l:List Env} {e:Addr} {cls a0:Value} (x:Heap.FlyingW b' l e cls a0 h):∃ T,b'.get? T=none/\(∃ oT ts,h.get? T=some oT/\oT.data=.fields ts)/\(∃ oe vs,h.get? e=some oe/\oe.cls=cls/\oe.data=.fields vs)/\Heap.FlyingW (gk h (e::T::frs l)) l e cls a0 h:=by
 obtain ⟨f1,f2,f3,oe,vs,T,oT,ts,he,hc,hd,h1,hT,hTe,hoT,hdT,h3⟩:=x
 refine ⟨T,hT,⟨oT,ts,hoT,hdT⟩,⟨oe,vs,he,hc.1,hd⟩,Zcs _ _,um (by simp),ffr f3 _ λb hb=>Mt _ (Mt _ hb),oe,vs,T,oT,ts,he,hc,hd,h1,um (by simp),hTe,hoT,hdT,h3⟩
theorem lands {P:Program} {w:World} {A:Around} {env:Env} {outer:List Env} {L:Addr} {H:Hp} {s:Shared} {b':Heap} {e:Addr} {cls a0:Value} {Q:Unit->Shared->Prop} {E:Ck}
  (hfr:A.frames=some (env::outer)) (hf:env.frame=some L) (hfl:Heap.FlyingW b' (env::outer) e cls a0 s.heap) (hok:HOk P w H s.heap) (hst:∀ b∈frs (env::outer),H b=none) (ht:∀ b,H b≠none->∃ o',b'.get? b=some o')
  (k:∀ h' T,b'.get? T=none->T ∉ frs (env::outer)->Un (frs (env::outer)) [e,T] H H s.heap h'->HOk P w H h'->Heap.FlyingW (gk s.heap (e::T::frs (env::outer))) (env::outer) e cls a0 h'->Q () { s with heap:=h' }) :
  wpAny (model P w) A (noteFrame (.ref e) env) (λ_ s₂=>wpAny (model P w) A (setFlight (.ref e) none) Q E s₂) E s:=by
 obtain ⟨T,hT,⟨oT,ts,hoT,hdT⟩,⟨oe,vs,hoe,hoc,hod⟩,fl⟩:=rebase hfl
 have nof:∀ {b:Addr} {o:Obj} {us:Array Value},s.heap.get? b=some o->o.data=.fields us->b ∉ frs (env::outer):=λ{b o us} h1 h2 z=>by
  obtain ⟨_,o',ho',hd⟩:=hfl.2.2.1.mem z
  rw [h1] at ho'
  cases ho'
  exact hd us h2
 refine wpAny_looks_onW hfr hf fl λh₄ held ups₄=>?_
 refine wpAny_landsW held λh₅ fl₅ ups₅=>?_
 have ups:=ups₄.trans ups₅
 have stay:∀ b o,s.heap.get? b=some o->b ∉ frs (env::outer)->b ∉ [e,T]->h₅.get? b=some o:=λb o hb hn hx=>fl₅.1 b o (by
  rw [hV]
  ·exact hb
  ·intro z
   rcases zq.mp z with z | z
   ·exact hx (by simp [z])
   ·rcases zq.mp z with z | z
    ·exact hx (by simp [z])
    ·exact hn z)
 have slot:∀ b o,s.heap.get? b=some o->b∈frs (env::outer)->∃ sl,h₅.get? b=some { o with slots:=sl }:=λb o hb hn=>by
  obtain ⟨_,o',ho',hd⟩:=hfl.2.2.1.mem hn
  rw [hb] at ho'
  cases ho'
  exact ups b o hb hd
 have non:∀ b,b'.get? b=none->H b=none:=λb hb=>by
  cases e1:H b with
  | none=>rfl
  | some u =>
   obtain ⟨o',e2⟩:=ht b (by rw [e1]; simp)
   rw [hb] at e2; cases e2
 have he:H e=none:=non e hfl.2.1
 have hTn:H T=none:=non T hT
 refine k h₅ T hT (nof hoT hdT) ⟨λb o hb hn hf hx=>stay b o hb hf hx,λb o hb hn hf hx=>slot b o hb hf,λb o hb hn hx=>hn,λb o hb hx=>?_,λ_ _ z=>z,λ_ _ _ z=>z,λb ps z=>⟨#[],by rw [z,Array.append_empty]⟩⟩
  (HOk.tracked hok λb u hb q=>stay b u q (λz=>hb (hst b z)) λz=>?_) fl₅
 ·by_cases hq:b∈frs (env::outer)
  ·obtain ⟨sl,e1⟩:=slot b o hb hq
   exact ⟨_,e1⟩
  ·exact ⟨o,stay b o hb hq hx⟩
 ·rcases zq.mp z with z | z
  ·subst z; exact hb he
  ·rcases zq.mp z with z | z
   ·subst z; exact hb hTn
   ·cases z
end L2
set_option Elab.async false
set_option linter.all false
set_option maxRecDepth 100000
namespace L2
structure Xcl (K:Cb) (C:Addr) (bmB:Cn) (newId:String):Prop where
 ex:∃ (nm q:Str) (N:Addr) (bs bm:Cn) (hdct:Bool) (sn:Co) (sub:Cn) (ab:Bool) (col:Option Bool) (dd:Option Addr) (k0 k1 k2 k3 k5:Option Value) (mN:Cq),
  K.lookup C=some (excClassObj nm q C N bs bm hdct sn sub ab col dd k0 k1 k2 k3 k5 newId)/\(∀ h:Heap,K.In h->h.Ns N mN/\OwnTail h bmB bm)/\mN "__init__"=none/\bm.contains (.type "BaseException")=true
theorem Zha {X:Cx} {pins:List (Addr×Obj)} {σ:St} {H:Hp} {s:Shared} {x:Str} {np cpos pos:Pos} {arg:Expr} {C:Addr} {B newId initId:String} {bmB:Cn} {t:TE} {Q:Flow->Shared->Prop}
  (F:ExcBaseFacts B newId initId bmB) (c:Xcl X.K C bmB newId) (hg:Gl X x) (hm:X.mg x=some (.ref C)) (hc:X.calm=true) (ha:PE X arg t) (I:Inv X pins σ H s)
  (h:t σ H λv H1=>∀ s1 h' e args,Inv X pins σ H1 s1->Heap.MadeExcOf s1.heap h' e (.ref C) args->X.xe (.ref e) { s1 with heap:=h' })
  (hs:starEach [arg] X.env=[(false,eval arg X.env)]:=by rfl) (hdb:(x == ("__debug__":Str))=false:=by decide) :
  wpAny (model X.prog X.w) X.A (exec (.Raise (some (.Call (.Name x np) [arg] [] cpos)) none pos) X.env) Q X.xe s:=by
 obtain ⟨nm,q,N,bs,bm,hdct,sn,sub,ab,col,dd,k0,k1,k2,k3,k5,mN,lk,hn,hni,hb⟩:=c.ex
 refine wpAny_Raise_call_subT (C:=C) (nm:=nm) (q:=q) (N:=N) (bs:=bs) (bm:=bm) (hdct:=hdct) (sn:=sn) (sub:=sub) (ab:=ab) (col:=col) (dd:=dd) (k0:=k0) (k1:=k1) (k2:=k2) (k3:=k3) (k5:=k5) (mN:=mN) F hb (I.ok.hd hc) (by rw [hs]; rfl) hni ?_
 refine xO I hg hm ⟨rfl,?_⟩ (hd:=hdb)
 rw [hs]
 refine Calls.evalArgs_plain (Calls.spliced_cons (thn (ha pins s σ H _ I h) λu s1 hz0=>Calls.spliced_nil ?_))
 obtain ⟨v,H1,I1,r1,z⟩:=hz0
 have KX:X.K.In s1.heap:=I1.kIn
 exact ⟨rfl,by show 1<=sizeLine; decide,KX _ _ lk,(hn _ KX).1,(hn _ KX).2,λh' e hx=>z s1 h' e _ I1 hx⟩
theorem Zhr {P:Program} {w:World} {K:Cb} {mg:Cq} {base:Heap} {N:Co} {qual:Str} {scope:Scope} {f:Addr} {cd:Value} {A:Around} {outer:List Env} {s₀:Shared} {H₀:Hp} {E:XK}
  {x msg:Str} {np cpos pos mp:Pos} {mk:Nat} {C:Addr} {B newId initId:String} {bmB:Cn}
  (F:ExcBaseFacts B newId initId bmB) (c:Xcl K C bmB newId) (hg:Gl (cQ (cJ P w) P w K mg base N qual scope f cd A outer s₀ H₀ E) x) (hm:mg x=some (.ref C)) (hdb:(x == ("__debug__":Str))=false:=by decide) :
  PS (cQ (cJ P w) P w K mg base N qual scope f cd A outer s₀ H₀ E) (.Raise (some (.Call (.Name x np) [.Constant (.str msg) mk mp] [] cpos)) none pos) (λ_ _ H=>E (.ref C) none H):=by
 intro pins s σ H D I h
 exact Zha F c hg hm rfl ZhG I (λs1 h' e args I1 hx=>Zhb I1 hx h) rfl hdb
end L2
set_option Elab.async false
set_option linter.all false
set_option maxRecDepth 100000
namespace L2
theorem Un.skip {fs ex:List Addr} {H H1 H2:Hp} {h h1 h2:Heap} (a:Un fs [] H H1 h h1) (b:Un fs ex H1 H2 h1 h2) (hx:∀ c∈ex,h.get? c=none):Un fs [] H H2 h h2:=by
 have no:∀ {c:Addr} {o:Obj},h.get? c=some o->c ∉ ex:=λ{c o} e z=>by rw [hx c z] at e; cases e
 refine ⟨λc o e n f _=>?_,λc o e n f _=>?_,λc o e n _=>?_,λc o e _=>?_,λc xs e=>b.tups c xs (a.tups c xs e),λc o u e=>b.frzs c o u (a.frzs c o u e),λc ps e=>?_⟩
 ·exact b.keep c o (a.keep c o e n f (by simp)) (a.free c o e n (by simp)) f (no e)
 ·obtain ⟨sl,e1⟩:=a.slot c o e n f (by simp)
  obtain ⟨dI,e2⟩:=b.slot c _ e1 (a.free c o e n (by simp)) f (no e)
  exact ⟨dI,e2⟩
 ·obtain ⟨o',e1⟩:=a.there c o e (by simp)
  exact b.free c o' e1 (a.free c o e n (by simp)) (no e)
 ·obtain ⟨o',e1⟩:=a.there c o e (by simp)
  exact b.there c o' e1 (no e)
 ·obtain ⟨m1,e1⟩:=a.tbls c ps e
  obtain ⟨m2,e2⟩:=b.tbls c _ e1
  exact ⟨m1++m2,by rw [e2,Array.append_assoc]⟩
theorem Zen {X:Cx} {pins:List (Addr×Obj)} {σ:St} {H:Hp} {s s':Shared} {E:XK} {e:Value} {outer:List Env} {L:Addr} {Q:Unit->Shared->Prop} {EE:Ck}
  (I:Inv X pins σ H s) (hstk:X.stack=X.env::outer) (hL:X.env.frame=some L) (hq:cJ X.prog X.w X.stack H s E e s')
  (k:∀ (ea:Addr) (cls:Value) (H':Hp) (h':Heap),e=.ref ea->Inv X pins σ H' { s' with heap:=h' }->H' ea=none->(∃ oe,h'.get? ea=some oe/\oe.cls=cls)->(∃ b'' t,Heap.FlyingW b'' X.stack ea cls (.ref t) h'/\(∀ c,b''.get? c=none->c ∉ frs X.stack->s.heap.get? c=none)/\∀ b,H' b≠none->∃ o',b''.get? b=some o')->Un (frs X.stack) [] H H' s.heap h'->E cls none H'->Q () { s' with heap:=h' }) :
  wpAny (model X.prog X.w) X.A (noteFrame e X.env) (λ_ s₂=>wpAny (model X.prog X.w) X.A (setFlight e none) Q EE s₂) EE s':=by
 obtain ⟨ea,t,cls,b',H',rfl,os,bare,un,hok,fl,hb',ht,hE⟩:=hq
 have hst:∀ b∈frs X.stack,H b=none:=I.stkFree
 have funs:s.heap.FunFrames X.base X.stack:=I.stack
 have hst':∀ b∈frs X.stack,H' b=none:=λb hb=>by
  obtain ⟨_,o,ho,_⟩:=funs.mem hb
  exact un.free b o ho (hst b hb) (by simp)
 have hfr:X.A.frames=some X.stack:=I.ok.frames
 have notin:∀ c:Addr,b'.get? c=none->c ∉ frs X.stack->s.heap.get? c=none:=λc hc hf=>by
  cases e1:s.heap.get? c with
  | none=>rfl
  | some o =>
   obtain ⟨o',e2⟩:=hb' c o e1 hf
   rw [hc] at e2; cases e2
 have hea:ea ∉ frs X.stack:=λz=>by
  obtain ⟨_,o',ho',hd⟩:=fl.2.2.1.mem z
  obtain ⟨oe,vs,e1,_,e2,_⟩:=fl.first
  rw [e1] at ho'
  cases ho'
  exact hd vs e2
 rw [hstk] at hfr fl hst' un hea notin
 refine lands hfr hL fl hok hst' ht λh₅ T hT hTf un5 hok5 fl5=>?_
 have un':=un.skip un5 λc hc=>by
  rcases zq.mp hc with z | z
  ·subst z; exact notin c fl.2.1 hea
  ·rcases zq.mp z with z | z
   ·subst z; exact notin c hT hTf
   ·cases z
 rw [<- hstk] at un'
 have I5:Inv X pins σ H' { s' with heap:=h₅ }:=I.call' (s':={ s' with heap:=h₅ }) os un' hok5 bare λb hb=>absurd hb (by simp)
 have he:H' ea=none:=by
  cases e1:H' ea with
  | none=>rfl
  | some u =>
   obtain ⟨o',e2⟩:=ht ea (by rw [e1]; simp)
   rw [fl.2.1] at e2; cases e2
 refine k ea cls H' h₅ rfl I5 he fl5.there ⟨_,t,by rw [hstk]; exact fl5,λc hc hf=>?_,λb hb=>?_⟩ un' hE
 rotate_left
 ·cases e1:H' b with
  | none=>exact absurd e1 hb
  | some u =>
   obtain ⟨o',e2⟩:=(hok b u e1).get
   refine ⟨o',?_⟩
   rw [hV]
   ·exact e2
   ·intro z
    rcases zq.mp z with z | z
    ·subst z; exact hb he
    ·rcases zq.mp z with z | z
     ·subst z
      obtain ⟨o3,e3⟩:=ht b hb
      rw [hT] at e3; cases e3
     ·exact hb (hst' b z)
 by_cases h1:c=ea
 ·subst h1; exact notin c fl.2.1 hea
 ·by_cases h2:c=T
  ·subst h2; exact notin c hT hTf
  ·rw [hV (λz=>by
    rcases zq.mp z with z | z
    ·exact h1 z
    ·rcases zq.mp z with z | z
     ·exact h2 z
     ·rw [hstk] at hf; exact hf z)] at hc
   cases e1:s.heap.get? c with
   | none=>rfl
   | some o =>
    obtain ⟨o',e2⟩:=un.there c o e1 (by simp)
    rw [hc] at e2; cases e2
end L2
set_option Elab.async false
set_option linter.all false
set_option maxRecDepth 100000
namespace L2
open PySem.Calls
section
variable {M:Model} {A:Around} {E:Ck}
variable {nm q:Str} {C N:Addr} {bs bm:Cn} {hdct:Bool} {sn:Co} {sub:Cn} {ab:Bool} {col:Option Bool} {dd:Option Addr} {k0 k1 k2 k3 k5:Option Value} {newId:String}
variable {nm' q':Str} {D N':Addr} {bs' bm':Cn} {hdct':Bool} {sn':Co} {sub':Cn} {ab':Bool} {col':Option Bool} {dd':Option Addr} {j0 j1 j2 j3 j5:Option Value} {newId':String}
theorem ZjM {h:Heap} {g:Array GenState} {d:Drawn} {t:Nat} {os:OsState} {e:Addr} {oe:Obj} {Q:Bool->Shared->Prop}
  (hC:h.get? C=some (excClassObj nm q C N bs bm hdct sn sub ab col dd k0 k1 k2 k3 k5 newId)) (hD:h.get? D=some (excClassObj nm' q' D N' bs' bm' hdct' sn' sub' ab' col' dd' j0 j1 j2 j3 j5 newId')) (he:h.get? e=some oe) (hcls:oe.cls=.ref C)
  (hbase:bm'.contains (.type "BaseException")=true) (hin:bm.contains (.ref D)=true)
  (hq:Q true ⟨h,g,d,t,os⟩):wpAny M A (excMatches (.ref e) (.ref D)) Q E ⟨h,g,d,t,os⟩:=by
 have hcB:(Value.ref D::bm').contains (.type "BaseException")=true:=by rw [A9,hbase,Bool.or_true]
 have hcC:(Value.ref C::bm).contains (.ref D)=true:=by rw [A9,hin,Bool.or_true]
 have f:=tc_notTuple
 unfold excMatches
 repeat (first | (with_reducible refine wpAny_loadPart_at he ?_; rw [hcls]) | with_reducible refine wpAny_loadPart_at hD ?_ | (with_reducible refine wpAny_isSubtype_exc hD ?_; rw [hcB]) | (with_reducible refine wpAny_isSubtype_exc hC ?_; rw [hcC]) | wp_step)
 exact hq
end
section
variable {prog:Program} {w:World} {A:Around} {E:Ck} {s:Shared} {env:Env}
theorem Zju {e C D:Addr} {t:Expr} {n:Str} {b₀:Stmt} {suite:List Stmt} {pos:Pos} {rest:List ExceptHandler} {Q:Flow->Shared->Prop}
  {nm q:Str} {N:Addr} {bs bm:Cn} {hdct:Bool} {sn:Co} {sub:Cn} {ab:Bool} {col:Option Bool} {dd:Option Addr} {k0 k1 k2 k3 k5:Option Value} {newId:String}
  {nm' q':Str} {N':Addr} {bs' bm':Cn} {hdct':Bool} {sn':Co} {sub':Cn} {ab':Bool} {col':Option Bool} {dd':Option Addr} {j0 j1 j2 j3 j5:Option Value} {newId':String}
  (hbase:bm'.contains (.type "BaseException")=true) (hin:bm.contains (.ref D)=true)
  (h:wpAny (model prog w) (A.mark (some (.ref e))) (eval t env) (λc s₁=>c=.ref D/\s₁.heap.get? C=some (excClassObj nm q C N bs bm hdct sn sub ab col dd k0 k1 k2 k3 k5 newId)/\s₁.heap.get? D=some (excClassObj nm' q' D N' bs' bm' hdct' sn' sub' ab' col' dd' j0 j1 j2 j3 j5 newId')/\(∃ oe,s₁.heap.get? e=some oe/\oe.cls=.ref C) /\
   wpAny (model prog w) (A.mark (some (.ref e))) (setFlight (.ref e) none) (λ_ s₂ =>
     wpAny (model prog w) (A.mark (some (.ref e))) (storeName env n (.ref e)) (λ_ s₃ =>
      wpAny (model prog w) (A.mark (some (.ref e))) (execs (b₀::suite) env)
       (λf s₄=>wpAny (model prog w) A (do bindName env n .none; unbindBehindTheSuite env n pos) (λ_ s₅=>Q f s₅) E s₄)
       (AsSuiteRaised (model prog w) (A.mark (some (.ref e))) env n pos (notedBy (model prog w) (A.mark (some (.ref e))) env (cameBackBy (model prog w) A env E))) s₃) (notedBy (model prog w) (A.mark (some (.ref e))) env (cameBackBy (model prog w) A env E)) s₂) (notedBy (model prog w) (A.mark (some (.ref e))) env (cameBackBy (model prog w) A env E)) s₁) (notedBy (model prog w) (A.mark (some (.ref e))) env (cameBackBy (model prog w) A env E)) s) :
  wpAny (model prog w) A (handleBy (.ref e) env (.ExceptHandler (some t) (some n) (b₀::suite) pos::rest)) Q E s:=by
 refine wpAny_handleBy_cons (codeAny_handlers_test (wpAny_mono h (λc s₁ h₁=>?_) λ_ _ y=>y)) (by intro q; cases q)
 obtain ⟨rfl,hC,hD,⟨oe,he,hcls⟩,hk⟩:=h₁
 obtain ⟨hh,g,d,tk,os⟩:=s₁
 exact ZjM hC hD he hcls hbase hin (codeAny_handlers_suite_as hk)
end
end L2
set_option Elab.async false
set_option linter.all false
set_option maxRecDepth 100000
namespace L2
section
variable {X:Cx} {pins:List (Addr×Obj)} {σ:St} {H:Hp} {s:Shared}
theorem xN {A:Around} {E:Ck} {x:Str} {u:Value} {pos:Pos} {Q:Ck} (I:Inv X pins σ H s) (hg:Gl X x) (hm:X.mg x=some u) (h:Q u s)
  (hd:(x == ("__debug__":Str))=false:=by decide):wpAny (model X.prog X.w) A (eval (.Name x pos) X.env) Q E s :=
 By I.ok.kind hg (Calls.loadGlobal_global (by rw [I.ok.glob]; exact I.mod.glob.keeps I.bk) hm h) hd
theorem Zim {M:Model} {A:Around} {E:Ck} {i:Nat} {x:Str} {pos:Pos} {Q:Unit->Shared->Prop} (I:Inv X pins σ H s) (hN:X.N.Nodup) (hi:X.N[i]?=some x) (hk:X.env.kindOf x=some .local)
  (h:∀ s',Inv X pins (σ.set i none) H s'->Q () s'):wpAny M A (do bindName X.env x .none; unbindBehindTheSuite X.env x pos) Q E s:=by
 obtain ⟨m,hn,hl⟩:=id I.loc
 have hcls:(X.env.scope.kind == .class || (X.env.scope.kind == .module && X.env.locals != X.env.globals))=false:=by rw [I.ok.kind]; rfl
 have hiσ:i < σ.length:=by rw [I.len]; exact (zu.mp hi).1
 have cne:=I.cne
 have tracked:∀ {a:Addr} {h':Heap},(∃ o,s.heap.get? a=some o/\H a=none)->Heap.SameBut a s.heap h'->HOk X.prog X.w H h':=λ{a h'} ha hs b ob e=>by
  obtain ⟨_,_,hfree⟩:=ha
  refine (I.hok b ob e).stay (λc w' hc q=>(hs.2 c ?_).trans q) (λ_ q=>q) λ_ _ q=>q
  rintro rfl
  rcases hc with rfl | hc
  ·rw [hfree] at e; cases e
  ·rw [hfree] at hc; cases hc
 refine wpAny_nameGoes_keeps hk hn hcls λh' v hn' hs=>?_
 obtain ⟨oL,_,_,hoL,_⟩:=id hn
 refine h _ ⟨I.ok,I.os,I.bare,⟨λb o e n hb hx=>?_,λb o e n hb hx=>?_,I.base.free,λb o e hx=>?_,I.base.tups,I.base.frzs,I.base.tbls⟩,⟨_,hn',λj y v' e1 e2 e3=>?_⟩,λy c e=>?_,I.free,I.freeC,λp hp=>?_,tracked ⟨oL,hoL,I.free⟩ hs,by simpa using I.len⟩
 ·exact (hs.2 b (zD (zt (zA e) I.ok.above))).trans (I.base.keep b o e n hb hx)
 ·obtain ⟨sl,e1⟩:=I.base.slot b o e n hb hx
  exact ⟨sl,(hs.2 b (zD (zt (zA e) I.ok.above))).trans e1⟩
 ·obtain ⟨o',e1⟩:=I.base.there b o e hx
  exact ⟨o',(hs.2 b (zD (zt (zA e) I.ok.above))).trans e1⟩
 ·by_cases hj:j=i
  ·subst hj
   rw [zF hiσ] at e2
   cases e2
  ·rw [zy (Ne.symm hj)] at e2
   obtain ⟨u',r',q⟩:=hl j y v' e1 e2 e3
   refine ⟨u',r',?_⟩
   rcases q with ⟨k,e⟩ | ⟨k,c,e,z⟩
   ·refine .inl ⟨k,?_⟩
    have:y≠x:=λe=>hj (xA hN e1 (e ▸ hi))
    simp [this,e]
   ·exact .inr ⟨k,c,e,z.sameBut hs (cne y c e)⟩
 ·obtain ⟨w',z⟩:=I.cell y c e
  exact ⟨w',z.sameBut hs (cne y c e)⟩
 ·obtain ⟨e,n,ne,nf,d⟩:=I.pin p hp
  exact ⟨(hs.2 p.1 ne).trans e,n,ne,nf,d⟩
def dG (e:Addr) (cls:Value) (h:Heap):Prop:=∃ oe,h.get? e=some oe/\oe.cls=cls
theorem ZiX {A:Around} {H0:Hp} {s0:Shared} {b':Heap} {e t:Addr} {cls:Value} {Q:Unit->Shared->Prop} {E:Ck}
  (I0:Inv X pins σ H0 s0) (I:Inv X pins σ H s) (un:Un (frs X.stack) [] H0 H s0.heap s.heap) (he:H e=none) (fl:Heap.FlyingW b' X.stack e cls (.ref t) s.heap) (hf:∀ c,b'.get? c=none->c ∉ frs X.stack->s0.heap.get? c=none)
  (hb:∀ b,H b≠none->∃ o',b'.get? b=some o') (hos:s.os=s0.os)
  (k:∀ h',Inv X pins σ (upd H e (.ext (dG e cls))) { s with heap:=h' }->Q () { s with heap:=h' }):wpAny (model X.prog X.w) A (setFlight (.ref e) none) Q E s:=by
 obtain ⟨T,hT,⟨oT,ts,hoT,hdT⟩,⟨oe,vs,hoe,hoc,hod⟩,fl'⟩:=rebase fl
 have hst:∀ b∈frs X.stack,H b=none:=I.stkFree
 have nof:∀ {b:Addr} {o:Obj} {us:Array Value},s.heap.get? b=some o->o.data=.fields us->b ∉ frs X.stack:=λ{b o us} h1 h2 z=>by
  obtain ⟨_,o',ho',hd⟩:=fl.2.2.1.mem z
  rw [h1] at ho'
  cases ho'
  exact hd us h2
 refine lands_againW fl' λh₅ fl₅ ups=>?_
 have stay:∀ b o,s.heap.get? b=some o->b ∉ frs X.stack->b ∉ [e,T]->h₅.get? b=some o:=λb o hb hn hx=>fl₅.1 b o (by
  rw [hV]
  ·exact hb
  ·intro z
   rcases zq.mp z with z | z
   ·exact hx (by simp [z])
   ·rcases zq.mp z with z | z
    ·exact hx (by simp [z])
    ·exact hn z)
 have slot:∀ b o,s.heap.get? b=some o->b∈frs X.stack->∃ sl,h₅.get? b=some { o with slots:=sl }:=λb o hb hn=>by
  obtain ⟨_,o',ho',hd⟩:=fl.2.2.1.mem hn
  rw [hb] at ho'
  cases ho'
  exact ups b o hb hd
 have hTn:H T=none:=by
  cases e1:H T with
  | none=>rfl
  | some u =>
   obtain ⟨o',e2⟩:=hb T (by rw [e1]; simp)
   rw [hT] at e2; cases e2
 have un5:Un (frs X.stack) [e,T] H H s.heap h₅:=⟨λb o hb hn hf hx=>stay b o hb hf hx,λb o hb hn hf hx=>slot b o hb hf,λb o hb hn hx=>hn,λb o hb hx=>by
  by_cases hq:b∈frs X.stack
  ·obtain ⟨sl,e1⟩:=slot b o hb hq
   exact ⟨_,e1⟩
  ·exact ⟨o,stay b o hb hq hx⟩,λ_ _ z=>z,λ_ _ _ z=>z,λb ps z=>⟨#[],by rw [z,Array.append_empty]⟩⟩
 have hok5:HOk X.prog X.w H h₅:=HOk.tracked I.hok λb u hb q=>stay b u q (λz=>hb (hst b z)) λz=>by
  rcases zq.mp z with z | z
  ·subst z; exact hb he
  ·rcases zq.mp z with z | z
   ·subst z; exact hb hTn
   ·cases z
 have un':=un.skip un5 λc hc=>by
  rcases zq.mp hc with z | z
  ·subst z; exact hf c fl.2.1 (nof hoe hod)
  ·rcases zq.mp z with z | z
   ·subst z; exact hf c hT (nof hoT hdT)
   ·cases z
 obtain ⟨oe5,hoe5,hoc5⟩:=fl₅.there
 have hs0:s0.heap.get? e=none:=hf e fl.2.1 (nof hoe hod)
 have ne0:∀ {b:Addr} {o:Obj},s0.heap.get? b=some o->b≠e:=λ{b o} h1 z=>by rw [z,hs0] at h1; cases h1
 have nH:∀ {b:Addr} {o:HO},H b=some o->b≠e:=λ{b o} h1 z=>by rw [z,he] at h1; cases h1
 have un2:Un (frs X.stack) [] H0 (upd H e (.ext (dG e cls))) s0.heap h₅:=⟨un'.keep,un'.slot,λb o hb hn hx=>by rw [ay (ne0 hb)]; exact un'.free b o hb hn hx,un'.there,
  λb xs z=>by rw [ay (nH (un'.tups b xs z))]; exact un'.tups b xs z,λb o u z=>by rw [ay (nH (un'.frzs b o u z))]; exact un'.frzs b o u z,λb ps z=>by
   obtain ⟨m,z⟩:=un'.tbls b ps z
   exact ⟨m,by rw [ay (nH z)]; exact z⟩⟩
 have hok2:HOk X.prog X.w (upd H e (.ext (dG e cls))) h₅:=λb o hb=>by
  by_cases hbe:b=e
  ·subst hbe
   rw [bH] at hb
   cases hb
   exact ⟨⟨oe5,hoe5,hoc5⟩,⟨oe5,hoe5⟩,λh1 h2 ⟨o1,e1,c1⟩ kk=>⟨o1,kk o1 e1,c1⟩⟩
  ·rw [ay hbe] at hb
   exact (hok5 b o hb).stay (λ_ _ _ q=>q) (λc z=>by rw [ay (nH z)]; exact z) λc xs z=>by rw [ay (nH z)]; exact z
 exact k h₅ (I0.call' (s':={ s with heap:=h₅ }) hos un2 hok2 I.bare λb hb=>absurd hb (by simp))
end
end L2
set_option Elab.async false
set_option linter.all false
set_option maxRecDepth 100000
namespace L2
noncomputable abbrev Cx.marked (X:Cx) (ea:Addr):Cx:={ X with A:=X.A.mark (some (.ref ea)),calm:=false,xe:=λ_ _=>False }
theorem Inv.marked {X:Cx} {pins:List (Addr×Obj)} {σ:St} {H:Hp} {s:Shared} (I:Inv X pins σ H s) (ea:Addr):Inv (X.marked ea) pins σ H s :=
 ⟨⟨I.ok.mod,I.ok.kind,I.ok.glob,I.ok.blt,I.ok.above,I.ok.inj,I.ok.has,I.ok.cab,λz=>(by cases z),I.ok.frames,I.ok.stk,I.ok.exf,I.ok.bs,I.ok.bsz,I.ok.noex,I.ok.exfs,I.ok.funs,I.ok.frf⟩,I.os,I.bare,I.base,I.loc,I.cell,I.free,I.freeC,I.pin,I.hok,I.len⟩
theorem Inv.unmarked {X:Cx} {pins:List (Addr×Obj)} {σ:St} {H:Hp} {s:Shared} {ea:Addr} (I:Inv (X.marked ea) pins σ H s) (I0:X.Ok):Inv X pins σ H s :=
 ⟨I0,I.os,I.bare,I.base,I.loc,I.cell,I.free,I.freeC,I.pin,I.hok,I.len⟩
structure Under (K:Cb) (C D:Addr):Prop where
 ex:∃ (nm q:Str) (N:Addr) (bs bm:Cn) (hdct:Bool) (sn:Co) (sub:Cn) (ab:Bool) (col:Option Bool) (dd:Option Addr) (k0 k1 k2 k3 k5:Option Value) (newId:String),K.lookup C=some (excClassObj nm q C N bs bm hdct sn sub ab col dd k0 k1 k2 k3 k5 newId)/\bm.contains (.ref D)=true
 top:∃ (nm q:Str) (N:Addr) (bs bm:Cn) (hdct:Bool) (sn:Co) (sub:Cn) (ab:Bool) (col:Option Bool) (dd:Option Addr) (k0 k1 k2 k3 k5:Option Value) (newId:String),K.lookup D=some (excClassObj nm q D N bs bm hdct sn sub ab col dd k0 k1 k2 k3 k5 newId)/\bm.contains (.type "BaseException")=true
def ZfU (t:TA) (sp:Sp) (C:Addr) (i:Nat) (tb:Addr->TS):TS:=λD σ H=>t σ H λvs H1=>sp vs H1 (λ_ _=>False) λcls _ H'=>cls=.ref C/\∀ ea,H' ea=none ->
 tb ea { nx:=λσ' H2=>D.nx (σ'.set i none) H2,rt:=λ_ _=>False } (σ.set i (some (.ref ea))) (upd H' ea (.ext (dG ea (.ref C))))
theorem Zho {X:Cx} {k:Nat} {f:Addr} {fd:FuncData} {ps:Co} {sp:Sp} {x c n:Str} {C D' L:Addr} {outer:List Env} {i:Nat} {e:Expr} {es:List Expr} {t:TA} {tb:Addr->TS} {p cpos epos cp hpos pos:Pos} {b₀:Stmt} {suite:List Stmt}
  (hstk:X.stack=X.env::outer) (hL:X.env.frame=some L) (hN:X.N.Nodup)
  (F:FnOk X.prog X.w X.K X.mg X.base (cJ X.prog X.w) k f fd ps sp) (hr:Room k X.A) (hg:Gl X x) (hm:X.mg x=some (.ref f)) (hk:PySem.W.keepIn X.K (.ref f)=true) (hb:Binds X.K fd ps []) (ha:PA X.nox (e::es) t)
  (U:Under X.K C D') (hgc:Gl X c) (hmc:X.mg c=some (.ref D')) (hi:X.N[i]?=some n) (hn:X.env.kindOf n=some .local) (hln:qi X.env.scope n) (hfn:X.fn n=true\/X.env.scope.names.lookup n=some .local) (hsu:∀ ea,PSs (X.marked ea) (b₀::suite) (tb ea))
  (hdb:(x == ("__debug__":Str))=false:=by decide) (hdc:(c == ("__debug__":Str))=false:=by decide)
  (he:starEach (e::es) X.env=(false,eval e X.env)::starEach es X.env:=by rfl) (hpl:(backTo cpos (starEach es X.env)).any (·.1)=false:=by rfl) (hs:swapsWith (.Call (.Name x p) (e::es) [] cpos) none epos.line X.env=pure false:=by rfl) :
  PS X (.Try [.Expr (.Call (.Name x p) (e::es) [] cpos) epos] [.ExceptHandler (some (.Name c cp)) (some n) (b₀::suite) hpos] [] [] pos) (ZfU t sp C i tb):=by
 intro pins s σ H D I h
 refine wpAny_Try_except (wpAny_execs_cons (wpAny_Expr_any ?_ I.quiet hs))
 refine wpAny_Call_Name_kw (xN I hg hm ?_ hdb)
 refine BH (h₀:=X.base) I.ok.mod.kin hk (wpAny_mono (ha cpos pins s σ H _ (I.wish _) h) (λus s1 ⟨vs,H1,I1',r,q⟩=>⟨I1'.unwish.kIn,?_⟩) λ_ _ z=>z.elim) he hpl
 have I1:Inv X pins σ H1 s1:=I1'.unwish
 have hl:us.length=ps.length:=by rw [<- r.length]; exact F.len _ _ _ _ q
 have hbb:=hb s1 us I1.kIn (by rw [zN]; exact hl)
 rw [zN] at hbb
 refine wpAny_call (codeAny_mono (F.run X.A X.stack s1 H1 ⟨us,[]⟩ us vs _ _ hr I1.env0 hbb r q) λrr s' hq=>?_)
 cases rr with
 | ok fl =>
  cases fl with
  | ret u =>
   obtain ⟨_,_,_,_,_,_,_,z⟩:=hq
   exact z.elim
  | next=>exact False.elim hq
  | brk=>exact False.elim hq
  | cont=>exact False.elim hq
 | error ex =>
  have hq':cJ X.prog X.w X.stack H1 s1 (λcls _ H'=>cls=.ref C/\∀ ea,H' ea=none ->
   tb ea { nx:=λσ' H2=>D.nx (σ'.set i none) H2,rt:=λ_ _=>False } (σ.set i (some (.ref ea))) (upd H' ea (.ext (dG ea (.ref C))))) ex s':=hq
  refine Zen I1 hstk hL hq' λea cls H' h' eq I5 hea hcl fly un hE=>?_
  subst eq
  obtain ⟨hcls,hE⟩:=hE
  subst hcls
  obtain ⟨b'',tt,fl,hf,hbt⟩:=fly
  obtain ⟨nm,q0,N0,bs,bm,hdct,sn,sub,ab,col,dd,k0,k1,k2,k3,k5,newId,lkC,hin⟩:=U.ex
  obtain ⟨nm',q',N',bs',bm',hdct',sn',sub',ab',col',dd',j0,j1,j2,j3,j5,newId',lkD,hbase⟩:=U.top
  have KX:=I5.kIn
  refine Zju hbase hin (xN I5 hgc hmc ⟨rfl,KX _ _ lkC,KX _ _ lkD,hcl,?_⟩ hdc)
  refine ZiX I1 I5 un hea fl hf hbt (I5.os.trans I1.os.symm) λh6 I6=>?_
  refine oR I6 hN hi hln (show RelV (.ref ea) (.ref ea) from rfl) (λs7 I7=>?_) hfn
  refine wpAny_mono (hsu ea pins s7 _ _ _ (I7.marked ea) (hE ea hea)) (λfl8 s8 h8=>?_) λ_ _ z=>z.elim
  cases fl8 with
  | next =>
   obtain ⟨σ8,H8,I8,q8⟩:=h8
   exact Zim (I8.unmarked I5.ok) hN hi hn λs9 I9=>⟨_,_,I9,q8⟩
  | ret u=>obtain ⟨_,_,_,_,_,z⟩:=h8; exact z.elim
  | brk=>obtain ⟨_,_,_,z⟩:=h8; exact z.elim
  | cont=>obtain ⟨_,_,_,z⟩:=h8; exact z.elim
end L2
set_option Elab.async false
set_option linter.all false
set_option maxRecDepth 100000
namespace PySem
def clsNames:Co:=["__getattribute__","__getattr__","__class__"]
inductive OwnTailN (h:Heap) (bmB:Cn):List Value->Prop
 | base:OwnTailN h bmB bmB
 | own {A:Addr} {c0:Value} {dd:Option Addr} {cd:ClassData} {sl:Array (Option Value)} {mA:Cq} {tl:Cn} :
   h.get? A=some { cls:=c0,dict:=dd,data:=.cls cd,slots:=sl }->h.Ns cd.ns mA->(∀ n∈clsNames,mA n=none)->OwnTailN h bmB tl->OwnTailN h bmB (.ref A::tl)
theorem OwnTailN.hasType {h:Heap} {bmB tl:Cn} (T:OwnTailN h bmB tl) {X:String} {b:Bool} (hb:bmB.contains (.type X)=b):tl.contains (.type X)=b:=by
 induction T with
 | base=>exact hb
 | own _ _ _ _ ih=>rw [A9,ih]; rfl
section
variable {M:Model} {A:Around} {E:Ck} {h:Heap} {g:Array GenState} {d:Drawn} {t:Nat} {os:OsState}
theorem wpAny_lookupAlong_tailN {bmB tl:Cn} {n:Str} {y:Option Value} {Q:Option Value->Shared->Prop} (hn:n∈clsNames) (T:OwnTailN h bmB tl) (hrest:lookupAlong bmB n=pure y) (hq:Q y ⟨h,g,d,t,os⟩) :
  wpAny M A (lookupAlong tl n) Q E ⟨h,g,d,t,os⟩:=by
 induction T with
 | base=>rw [hrest]; exact wpAny_pure hq
 | own hA hN hni _ ih =>
  rw [lookupAlong_cons]
  refine wpAny_bind (wpAny_classOwn_cls hA hN ?_)
  rw [hni n hn]
  exact ih
variable {nm q:Str} {C N:Addr} {bs bm bmB:Cn} {hdct:Bool} {sn:Co} {sub:Cn} {ab:Bool} {col:Option Bool} {dd:Option Addr} {k0 k1 k2 k3 k5:Option Value} {B newId:String}
theorem wpAny_typeLookup_tailN {mN:Cq} {n:Str} {y:Option Value} {Q:Option Value->Shared->Prop} (hn:n∈clsNames)
  (hC:h.get? C=some (excClassObj nm q C N bs bm hdct sn sub ab col dd k0 k1 k2 k3 k5 newId)) (hN:h.Ns N mN) (hmN:∀ n∈clsNames,mN n=none) (T:OwnTailN h bmB bm) (hbm:mroOf (.type B)=pure bmB)
  (hB:typeLookup (.type B) n=pure y) (hq:Q y ⟨h,g,d,t,os⟩):wpAny M A (typeLookup (.ref C) n) Q E ⟨h,g,d,t,os⟩:=by
 have hrest:lookupAlong bmB n=pure y:=by rw [typeLookup_eq,hbm] at hB; exact hB
 rw [typeLookup_eq]
 refine wpAny_bind (wpAny_mroOf_exc hC ?_)
 rw [lookupAlong_cons]
 refine wpAny_bind (wpAny_classOwn_exc hC hN ?_)
 rw [hmN n hn]
 exact wpAny_lookupAlong_tailN hn T hrest hq
end
section
variable {prog:Program} {w:World} {A:Around} {E:Ck} {h:Heap} {g:Array GenState} {d:Drawn} {t:Nat} {os:OsState} {a:Addr} {o:Obj}
 {nm q:Str} {C N:Addr} {bs bm bmB:Cn} {hdct:Bool} {sn:Co} {sub:Cn} {ab:Bool} {col:Option Bool} {dd:Option Addr} {k0 k1 k2 k3 k5:Option Value} {B newId:String} {mN:Cq}
theorem class_get_exc {R:Result->Shared->Prop} (hC:h.get? C=some (excClassObj nm q C N bs bm hdct sn sub ab col dd k0 k1 k2 k3 k5 newId)) (hob:bm.contains (.type "object")=true)
  (hx:h.get? a=some o) (hc:o.cls=.ref C) (hq:R (.ok (.ret (.ref C))) ⟨h,g,d,t,os⟩) :
  codeAny (model prog w) A (.call (.builtin "getset_descriptor.__get__") ⟨[.builtin "object.__class__",.ref a,.ref C],[]⟩) R ⟨h,g,d,t,os⟩:=by
 have hT5:(⟨h,g,d,t,os⟩:Shared).TypeIs (.builtin "object.__class__") "getset_descriptor":=BK
 have hcB:(Value.ref C::bm).contains (.type (".".intercalate ("object.__class__".cutAt '.').dropLast))=true:=by
  rw [F.owner_object_class,A9,hob]; rfl
 refine codeAny_call_builtin F.slot_gs_get.plain F.entry_gs_get (F.slot_gs_get.check _ _ _ _ _ _ _ _ hT5 (F.args_gs_get _ _ _) ?_)
 repeat (any_goals (first | assumption | (with_reducible refine wpAny_loadPart_at hx ?_; rw [hc]) | (with_reducible refine wpAny_isSubtype_exc hC ?_; rw [hcB]) | wp_step))
 refine ⟨Code.quiet_builtin _ (by trivial),codeAny_builtin F.entry_object_class ?_⟩
 repeat (any_goals (first | assumption | (with_reducible refine wpAny_loadPart_at hx ?_; rw [hc]) | wp_step))
theorem class_entry_exc {tk:Tok} {Q:Fin->Shared->Prop} (hC:h.get? C=some (excClassObj nm q C N bs bm hdct sn sub ab col dd k0 k1 k2 k3 k5 newId)) (hob:bm.contains (.type "object")=true) (hN:h.Ns N mN)
  (hmN:∀ n∈clsNames,mN n=none) (T:OwnTailN h bmB bm) (hmro:mroOf (.type B)=pure bmB) (hlk:typeLookup (.type B) "__class__"=pure (some (.builtin "object.__class__"))) (hx:h.get? a=some o) (hc:o.cls=.ref C) (hq:Q (.done (.ret (.ref C))) ⟨h,g,d,t,os⟩) :
  wpAny (model prog w) A (Builtin.«object.__getattribute__» ⟨[.ref a,.str "__class__" tk],[]⟩) Q E ⟨h,g,d,t,os⟩:=by
 have hT5:(⟨h,g,d,t,os⟩:Shared).TypeIs (.builtin "object.__class__") "getset_descriptor":=BK
 have f5:=BK
 have f6:=F.slot_gs_get.lookup
 have f7:=F.slot_gs_set.lookup
 have hmA:("__class__":Str)∈clsNames:=.tail _ (.tail _ (.head _))
 repeat (any_goals (first | assumption | (with_reducible refine wpAny_loadPart_at hx ?_; rw [hc]) | with_reducible refine wpAny_typeLookup_tailN hmA hC hN hmN T hmro hlk ?_ | wp_step))
 refine class_get_exc hC hob hx hc ?_
 repeat (any_goals (first | assumption | wp_step))
theorem check_ga_exc {M:Model} {nameV:Value} {Q:Unit->Shared->Prop} (hC:h.get? C=some (excClassObj nm q C N bs bm hdct sn sub ab col dd k0 k1 k2 k3 k5 newId)) (hbase:bm.contains (.type "BaseException")=true)
  (hx:h.get? a=some o) (hc:o.cls=.ref C) (hq:Q () ⟨h,g,d,t,os⟩):wpAny M A (checkBuiltinCall "BaseException.__getattribute__" ⟨[.ref a,nameV],[]⟩) Q E ⟨h,g,d,t,os⟩:=by
 have hk:builtinKind "BaseException.__getattribute__"=some .slot:=by trivial
 have hsplit:splitId "BaseException.__getattribute__"=some ("BaseException","__getattribute__"):=by trivial
 have hcB:(Value.ref C::bm).contains (.type "BaseException")=true:=by rw [A9,hbase]; rfl
 have ha:=F.args_bexc_ga (.ref a) nameV
 simp only [checkBuiltinCall,hk,hsplit]
 refine wpAny_bind ?_
 ·unfold isInstance
  repeat (first | (with_reducible refine wpAny_loadPart_at hx ?_; rw [hc]) | (with_reducible refine wpAny_isSubtype_exc hC ?_; rw [hcB]) | wp_step)
  exact hq
theorem class_by_exc {tk:Tok} {Q:Ck} (FB:ExcAttrBase B bmB) (hC:h.get? C=some (excClassObj nm q C N bs bm hdct sn sub ab col dd k0 k1 k2 k3 k5 newId)) (hob:bmB.contains (.type "object")=true) (hN:h.Ns N mN)
  (hmN:∀ n∈clsNames,mN n=none) (T:OwnTailN h bmB bm) (hlk:typeLookup (.type B) "__class__"=pure (some (.builtin "object.__class__"))) (hx:h.get? a=some o) (hc:o.cls=.ref C) (hq:Q (.ref C) ⟨h,g,d,t,os⟩) :
  wpAny (model prog w) A (getAttrBy (.ref a) (.str "__class__" tk) false) Q E ⟨h,g,d,t,os⟩:=by
 have f3:=FB.ga.bind (.ref a)
 have hx2:(Value.builtin "BaseException.__getattribute__" == Value.builtin "object.__getattribute__")=false:=by trivial
 have hx1:(onTheHeap (Value.ref C) && Value.builtin "BaseException.__getattribute__" == Value.builtin "object.__getattribute__")=false:=by rw [hx2]; rfl
 have hm1:("__getattribute__":Str)∈clsNames:=.head _
 have hm2:("__getattr__":Str)∈clsNames:=.tail _ (.head _)
 repeat (any_goals (first | assumption | (with_reducible refine wpAny_loadPart_at hx ?_; rw [hc]) | with_reducible refine wpAny_typeLookup_tailN hm1 hC hN hmN T FB.mro FB.ga.lookup ?_ | with_reducible refine wpAny_typeLookup_tailN hm2 hC hN hmN T FB.mro FB.noGetattr ?_ | wp_step))
 refine codeAny_call_builtin FB.ga.plain F.entry_bexc_ga (check_ga_exc hC (T.hasType FB.hasBase) hx hc (class_entry_exc hC (T.hasType hob) hN hmN T FB.mro hlk hx hc ?_))
 repeat (any_goals (first | assumption | wp_step))
theorem class_attr_exc {Q:Option Value->Shared->Prop} (FB:ExcAttrBase B bmB) (hC:h.get? C=some (excClassObj nm q C N bs bm hdct sn sub ab col dd k0 k1 k2 k3 k5 newId)) (hob:bmB.contains (.type "object")=true) (hN:h.Ns N mN)
  (hmN:∀ n∈clsNames,mN n=none) (T:OwnTailN h bmB bm) (hlk:typeLookup (.type B) "__class__"=pure (some (.builtin "object.__class__"))) (hx:h.get? a=some o) (hc:o.cls=.ref C) (hq:Q (some (.ref C)) ⟨h,g,d,t+1,os⟩) :
  wpAny (model prog w) A (getAttr? (.ref a) "__class__") Q E ⟨h,g,d,t,os⟩:=by
 unfold getAttr? getAttrBy?
 repeat (any_goals (first | assumption | with_reducible apply class_by_exc FB hC hob hN hmN T hlk hx hc | wp_step))
end
end PySem
set_option Elab.async false
set_option linter.all false
set_option maxRecDepth 100000
namespace L2
structure Xci (K:Cb) (C:Addr) (bmB:Cn):Prop where
 ex:∃ (nm q:Str) (N:Addr) (bs bm:Cn) (hdct:Bool) (sn:Co) (sub:Cn) (ab:Bool) (col:Option Bool) (dd:Option Addr) (k0 k1 k2 k3 k5:Option Value) (newId:String) (mN:Cq),
  K.lookup C=some (excClassObj nm q C N bs bm hdct sn sub ab col dd k0 k1 k2 k3 k5 newId)/\(∀ h:Heap,K.In h->h.Ns N mN/\OwnTailN h bmB bm)/\∀ n∈clsNames,mN n=none
theorem xJ:typeLookup (.type "ValueError") "__class__"=pure (some (.builtin "object.__class__")):=by rw [typeLookup_type,builtinLookup_eq_fast]; kernel_rfl
theorem xZ {K:Cb} {ea C:Addr} {B:String} {bmB:Cn} (c:Xci K C bmB) (FB:ExcAttrBase B bmB) (hob:bmB.contains (.type "object")=true) (hlk:typeLookup (.type B) "__class__"=pure (some (.builtin "object.__class__"))) :
  PySem.W.KitX K (.ref ea) (.ref C) (dG ea (.ref C)) where
 ty:=λM h _ p=>by
  obtain ⟨o,h1,h2⟩:=p
  exact h2 ▸ (PySem.W.Looks.ld h1).andThen .now
 it:=λ_ _ X _=>by
  obtain ⟨nm,q,N,bs,bm,hdct,sn,sub,ab,col,dd,k0,k1,k2,k3,k5,newId,mN,lk,_⟩:=c.ex
  intro A' Q' E' s' k q
  unfold isType loadHead
  exact wpAny_bind (wpAny_loadPart (k _ _ (X _ _ lk)) (wpAny_pure q))
 ne:=λh tp dd its n sl X htp=>by
  obtain ⟨nm,q,N,bs,bm,hdct,sn,sub,ab,col,dd',k0,k1,k2,k3,k5,newId,mN,lk,_⟩:=c.ex
  refine Bool.eq_false_iff.mpr λq=>?_
  have e:C=tp:=Value.ref.inj (beq_iff_eq.mp q)
  subst e
  have z:=(X _ _ lk).symm.trans htp
  have z2:=congrArg (λo=>(o.getD default).cls) z
  exact absurd z2 (by simp)
 ca:=λ{prog w A E Q s} X p k=>by
  obtain ⟨nm,q,N,bs,bm,hdct,sn,sub,ab,col,dd',k0,k1,k2,k3,k5,newId,mN,lk,hn,hmN⟩:=c.ex
  obtain ⟨h,g,d,t,os⟩:=s
  obtain ⟨o,h1,h2⟩:=p
  exact class_attr_exc FB (X _ _ lk) hob (hn _ X).1 hmN (hn _ X).2 hlk h1 h2 k
section
variable {X:Cx} {C:Addr} {B:String} {bmB:Cn}
theorem Zls (c:Xci X.K C bmB) (FB:ExcAttrBase B bmB) (hob:bmB.contains (.type "object")=true) (hlk:typeLookup (.type B) "__class__"=pure (some (.builtin "object.__class__"))) :
  cS X (.builtin "isinstance") (λxs H Q=>∃ ea D b,xs=[.ref ea,.ref D]/\H ea=some (.ext (dG ea (.ref C)))/\PySem.W.kitOne X.K (.ref C) (.ref D)=some b/\Q (.bl b) H):=by
 intro pins s σ H xs us Q I r h
 obtain ⟨ea,D,b,rfl,he,e,q⟩:=h
 obtain ⟨u,v,rfl,ru,rv⟩:=oO r
 cases ru
 cases rv
 have p:dG ea (.ref C) s.heap:=(I.hok ea _ he).1
 exact PySem.W.kia_one (xZ c FB hob hlk) I.kIn p e (λz=>nomatch z) λtk=>⟨.bl b,H,I.tok tk,rfl,q⟩
theorem Zlr (c:Xci X.K C bmB) (FB:ExcAttrBase B bmB) (hob:bmB.contains (.type "object")=true) (hlk:typeLookup (.type B) "__class__"=pure (some (.builtin "object.__class__"))) :
  cS X (.builtin "isinstance") (λxs H Q=>∃ ea T b,xs=[.ref ea,.ty T]/\H ea=some (.ext (dG ea (.ref C)))/\PySem.W.kitOne X.K (.ref C) (.type T)=some b/\Q (.bl b) H):=by
 intro pins s σ H xs us Q I r h
 obtain ⟨ea,T,b,rfl,he,e,q⟩:=h
 obtain ⟨u,v,rfl,ru,rv⟩:=oO r
 cases ru
 cases rv
 have p:dG ea (.ref C) s.heap:=(I.hok ea _ he).1
 exact PySem.W.kia_one (xZ c FB hob hlk) I.kIn p e (λz=>nomatch z) λtk=>⟨.bl b,H,I.tok tk,rfl,q⟩
theorem Zas:∀ {ds:List Addr} {us:Cn},Vals (ds.map V.ref) us->us=ds.map Value.ref
 | [],_,r=>by cases r; rfl
 | d::ds,_,r=>by
  cases r with
  | cons r1 rr =>
   cases r1
   rw [Zas rr]
   rfl
theorem Zlq (c:Xci X.K C bmB) (FB:ExcAttrBase B bmB) (hob:bmB.contains (.type "object")=true) (hlk:typeLookup (.type B) "__class__"=pure (some (.builtin "object.__class__"))) :
  cS X (.builtin "isinstance") (λxs H Q=>∃ (ea tp:Addr) (ds:List Addr) (b:Bool),xs=[.ref ea,.ref tp]/\H ea=some (.ext (dG ea (.ref C)))/\H tp=some (.tup (ds.map V.ref))/\PySem.W.kitAny X.K (.ref C) (ds.map Value.ref)=some b/\Q (.bl b) H):=by
 intro pins s σ H xs us Q I r h
 obtain ⟨ea,tp,ds,b,rfl,he,ht,e,q⟩:=h
 obtain ⟨u,v,rfl,ru,rv⟩:=oO r
 cases ru
 cases rv
 have p:dG ea (.ref C) s.heap:=(I.hok ea _ he).1
 obtain ⟨_,its,rr,o,ho,hoc,n,hod⟩:=(show ObjOk X.prog X.w H s.heap tp (.tup (ds.map V.ref)) from I.hok tp _ ht)
 have hits:=Zas rr
 subst hits
 obtain ⟨oc,od,odt,osl⟩:=o
 cases hoc
 cases hod
 exact PySem.W.kia_tup (xZ c FB hob hlk) I.kIn p ho e (λz=>nomatch z) λtk=>⟨.bl b,H,I.tok tk,rfl,q⟩
end
end L2
set_option Elab.async false
set_option linter.all false
set_option maxRecDepth 100000
namespace L2
structure CalleeX (P:Program) (w:World) (K:Cb) (mg:Cq) (base:Heap) (x:Str) (k:Nat) (ps:Co) (sp:Sp):Prop where
 ex:∃ f fd,FnOk P w K mg base (cJ P w) k f fd ps sp/\mg x=some (.ref f)/\PySem.W.keepIn K (.ref f)=true/\Binds K fd ps []
theorem Def.okX {P:Program} {w:World} {K:Cb} {mg:Cq} {base:Heap} {x:Str} {st:Stmt} {N ps:Co} {k:Nat} {sp:Sp} (D:Def K mg x st ps) (S:FnScope N ps (aN st)) (len:∀ vs H Q E,sp vs H Q E->vs.length=ps.length)
  (hbody:∀ (f:Addr) (cdv:Value) (A:Around) (outer:List Env) (s:Shared) (H:Hp) (vs:Cp) (Q:VK) (E:XK),Room k (A.deeper (envOfC x (aN st) s.heap.objs.size f cdv))->sp vs H Q E ->
   ∃ t,PSs (cQ (cJ P w) P w K mg base N x (aN st) f cdv A outer s H E) (fZ st) t/\t { nx:=λ_ H'=>Q .non H',rt:=Q } (start N vs) H):CalleeX P w K mg base x (k+1) ps sp:=by
 obtain ⟨f,fd,F,hm,hb⟩:=D.ex
 obtain ⟨oc,od,kV,doc,pm,an,cdv,ct,osl,rfl,lk,hcd⟩:=F.ex
 exact ⟨f,_,Zdt lk hcd S len λA outer s H vs Q E hr hsp=>hbody f cdv A outer s H vs Q E hr hsp,hm,F.kp,hb⟩
end L2
set_option Elab.async false
set_option linter.all false
set_option maxRecDepth 100000
namespace L2
open PySem.W
theorem ZlR:bootBuiltins "ValueError"=some (.type "ValueError"):=by trivial
noncomputable def iy:Cn:=[.type "ValueError",.type "Exception",.type "BaseException",.type "object"]
noncomputable def sL (K:Frag) (bmB:Cn):List Value->Bool
 | []=>bmB == []
 | v::r=>(v::r) == bmB || match v with
  | .ref A=>(match K.lookup A with
   | some ⟨_,_,.cls cd,_⟩=>nsOkIn K cd.ns && (nsIn K cd.ns "__getattribute__" == some none && nsIn K cd.ns "__getattr__" == some none && nsIn K cd.ns "__class__" == some none) && sL K bmB r
   | _=>false)
  | _=>false
theorem Zeh {m:Cq} (a:m "__getattribute__"=none) (b:m "__getattr__"=none) (c:m "__class__"=none):∀ n∈clsNames,m n=none:=by
 intro n hn
 unfold clsNames at hn
 simp only [zq,Ao,or_false] at hn
 rcases hn with rfl | rfl | rfl
 ·exact a
 ·exact b
 ·exact c
theorem ZaC {K:Frag} {h:Heap} {bmB:Cn} (X:K.In h):∀ {l:Cn},sL K bmB l=true->OwnTailN h bmB l
 | [],e=>by rw [<- beq_iff_eq.mp e]; exact .base
 | v::r,e=>by
  unfold sL at e
  rcases Bool.or_eq_true_iff.mp e with q | q
  ·rw [beq_iff_eq.mp q]; exact .base
  ·split at q
   ·split at q
    ·rename_i ho
     simp only [zL,beq_iff_eq] at q
     exact .own (X _ _ ho) (.of_isNs (isNs_of_in X q.1.1)) (Zeh (nsMap_none_of_in X q.1.1 q.1.2.1.1) (nsMap_none_of_in X q.1.1 q.1.2.1.2) (nsMap_none_of_in X q.1.1 q.1.2.2)) (ZaC X q.2)
    ·cases q
   ·cases q
noncomputable def fL (K:Frag) (C:Addr) (bmB:Cn) (newId:String):Bool:=match K.lookup C with
 | some ⟨.type "type",_,.cls cd,sl⟩=>(match cd.mro,sl.toList with
  | .ref C'::bm,[_,_,_,_,some (.builtin n),_]=>C' == C && n == newId && !cd.hasDel && tailIn K bmB bm && sL K bmB bm && nsOkIn K cd.ns && nsIn K cd.ns "__init__" == some none
    && nsIn K cd.ns "__getattribute__" == some none && nsIn K cd.ns "__getattr__" == some none && nsIn K cd.ns "__class__" == some none && bm.contains (.type "BaseException")
  | _,_=>false)
 | _=>false
noncomputable def uq (K:Frag) (C D:Addr):Bool:=match K.lookup C with
 | some ⟨_,_,.cls cd,_⟩=>cd.mro.tail.contains (.ref D)
 | _=>false
theorem Zie {K:Frag} {N:Addr} {h h':Heap} {m:Cq} (X:K.In h) (X':K.In h') (e:nsOkIn K N=true) (n:h.Ns N m):h'.Ns N m:=by
 obtain ⟨o,es,ep,ho,r⟩:=n
 refine ⟨o,es,ep,?_,r⟩
 unfold nsOkIn at e
 cases hl:K.lookup N with
 | none=>rw [hl] at e; cases e
 | some u =>
  have h1:=X _ _ hl
  rw [ho] at h1
  cases h1
  exact X' _ _ hl
theorem sH {K:Frag} {h:Heap} {C:Addr} {bmB:Cn} {newId:String} (X:K.In h) (q:fL K C bmB newId=true) :
  ∃ (nm q:Str) (N:Addr) (bs bm:Cn) (hdct:Bool) (sn:Co) (sub:Cn) (ab:Bool) (col:Option Bool) (dd:Option Addr) (k0 k1 k2 k3 k5:Option Value) (mN:Cq),
  K.lookup C=some (excClassObj nm q C N bs bm hdct sn sub ab col dd k0 k1 k2 k3 k5 newId)/\(∀ h:Heap,K.In h->h.Ns N mN/\OwnTail h bmB bm/\OwnTailN h bmB bm)/\mN "__init__"=none/\(∀ n∈clsNames,mN n=none)/\bm.contains (.type "BaseException")=true:=by
 unfold fL at q
 split at q
 ·rename_i dd cd sl ho
  split at q
  ·rename_i C' bm k0 k1 k2 k3 n k5 hm hs
   simp only [zL,beq_iff_eq,Bf] at q
   obtain ⟨⟨⟨⟨⟨⟨⟨⟨⟨⟨rfl,rfl⟩,hdel⟩,ht⟩,htn⟩,hok⟩,hni⟩,n1⟩,n2⟩,n3⟩,hb⟩:=q
   obtain ⟨nm,bs,mro,ns,qn,hd,sn,sub,ab,col,del⟩:=cd
   dsimp only at hm hdel hok hni n1 n2 n3
   subst hm hdel
   have hsl:sl=#[k0,k1,k2,k3,some (.builtin n),k5]:=by
    obtain ⟨l⟩:=sl
    simp only at hs
    rw [hs]
   subst hsl
   exact ⟨nm,qn,ns,bs,bm,hd,sn,sub,ab,col,dd,k0,k1,k2,k3,k5,_,ho,λh' X'=>⟨Zie X X' hok (.of_isNs (isNs_of_in X hok)),tail_of_in X' ht,ZaC X' htn⟩,nsMap_none_of_in X hok hni,Zeh (nsMap_none_of_in X hok n1) (nsMap_none_of_in X hok n2) (nsMap_none_of_in X hok n3),hb⟩
  ·cases q
 ·cases q
theorem Zfl {K:Frag} {h:Heap} {C:Addr} {bmB:Cn} {newId:String} (X:K.In h) (q:fL K C bmB newId=true):Xcl K C bmB newId:=by
 obtain ⟨nm,q,N,bs,bm,hdct,sn,sub,ab,col,dd,k0,k1,k2,k3,k5,mN,lk,hn,hi,hc,hb⟩:=sH X q
 exact ⟨nm,q,N,bs,bm,hdct,sn,sub,ab,col,dd,k0,k1,k2,k3,k5,mN,lk,λh X=>⟨(hn h X).1,(hn h X).2.1⟩,hi,hb⟩
theorem Zfm {K:Frag} {h:Heap} {C:Addr} {bmB:Cn} {newId:String} (X:K.In h) (q:fL K C bmB newId=true):Xci K C bmB:=by
 obtain ⟨nm,q,N,bs,bm,hdct,sn,sub,ab,col,dd,k0,k1,k2,k3,k5,mN,lk,hn,hi,hc,hb⟩:=sH X q
 exact ⟨nm,q,N,bs,bm,hdct,sn,sub,ab,col,dd,k0,k1,k2,k3,k5,newId,mN,lk,λh X=>⟨(hn h X).1,(hn h X).2.2⟩,hc⟩
theorem ZfC {K:Frag} {h:Heap} {C D:Addr} {bmB:Cn} {newId:String} (X:K.In h) (q:fL K C bmB newId=true) (q':fL K D bmB newId=true) (u:uq K C D=true):Under K C D:=by
 obtain ⟨nm,qq,N,bs,bm,hdct,sn,sub,ab,col,dd,k0,k1,k2,k3,k5,mN,lk,hn,hi,hc,hb⟩:=sH X q
 obtain ⟨nm',qq',N',bs',bm',hdct',sn',sub',ab',col',dd',j0,j1,j2,j3,j5,mN',lk',hn',hi',hc',hb'⟩:=sH X q'
 refine ⟨⟨nm,qq,N,bs,bm,hdct,sn,sub,ab,col,dd,k0,k1,k2,k3,k5,newId,lk,?_⟩,⟨nm',qq',N',bs',bm',hdct',sn',sub',ab',col',dd',j0,j1,j2,j3,j5,newId,lk',hb'⟩⟩
 unfold uq at u
 rw [lk] at u
 exact u
structure Exc (K:Frag) (C D:Addr) (ds:List Addr):Prop where
 cl:Xcl K C iy "ValueError.__new__"
 ci:Xci K C iy
 un:Under K C D
 vt:kitOne K (.ref C) (.type "ValueError")=some true
 any:kitAny K (.ref C) (ds.map Value.ref)=some false
theorem ZjL {K:Frag} {h:Heap} {C D:Addr} {ds:List Addr} (X:K.In h) (q:fL K C iy "ValueError.__new__"=true) (q':fL K D iy "ValueError.__new__"=true) (u:uq K C D=true) (vt:kitOne K (.ref C) (.type "ValueError")=some true)
  (any:kitAny K (.ref C) (ds.map Value.ref)=some false):Exc K C D ds:=⟨Zfl X q,Zfm X q,ZfC X q q' u,vt,any⟩
theorem Zi1 {K:Frag} {C:Addr}:kitOne K (.ref C) (.ref C)=some true:=by
 unfold kitOne
 rw [if_pos (beq_self_eq_true _)]
end L2
set_option Elab.async false
set_option linter.all false
set_option maxRecDepth 100000
namespace L2
mutual
noncomputable def il:PyData->Bool
 | .none=>false
 | .bool _=>false
 | .int _=>false
 | .str _=>false
 | .list _=>true
 | .tuple xs=>jj xs
 | .dict kvs=>pO kvs
noncomputable def jj:List PyData->Bool
 | []=>false
 | x::xs=>il x || jj xs
noncomputable def pO:List (PyData×PyData)->Bool
 | []=>false
 | (_,v)::r=>il v || pO r
end
noncomputable def je:aD->PyData
 | .inl i=>.int i
 | .inr x=>.str x
theorem Zdk:∀ {ks ds:Cl},ks.length=ds.length->pO (ks.zip ds)=jj ds
 | [],[],_=>by simp only [List.zip_nil_left,pO,jj]
 | k::ks,d::ds,h=>by
  rw [AE,pO,jj,Zdk (BO h)]
 | [],_::_,h=>by cases h
 | _::_,[],h=>by cases h
theorem Zi2 {P:Program} {w:World} {h:Heap}:∀ {es:List DictEntry} {vs:List (aD×Value)},Pairs (bY P w) es vs->ReadsAll h (es.map (·.key)) (vs.map λq=>je q.1) []:=by
 intro es vs hp
 induction hp with
 | nil=>exact .nil
 | @cons e kv es kvs h1 h2 _ ih =>
  have h1':ik kv.1 e.key=true:=h1
  rcases fS h1' with ⟨i,t,e1,e2⟩ | ⟨x,t,e1,e2⟩
  ·rw [zm,zm,e1,e2]
   exact ReadsAll.cons (as:=[]) (bs:=[]) (.int i t) ih
  ·rw [zm,zm,e1,e2]
   exact ReadsAll.cons (as:=[]) (bs:=[]) (.str x t) ih
theorem ZhX {P:Program} {w:World} {es:List DictEntry} {vs:List (aD×Value)} (hp:Pairs (bY P w) es vs):es.map (·.val)=vs.map (·.2):=by
 induction hp with
 | nil=>rfl
 | @cons e kv es kvs h1 h2 _ ih=>rw [zm,zm,h2,ih]
theorem ZiY:∀ {ks:List (aD×V)} {vs:List (aD×Value)},KV ks vs->Vals (ks.map (·.2)) (vs.map (·.2))/\(ks.map (·.1))=vs.map (·.1):=by
 intro ks vs kv
 unfold KV at kv
 induction kv with
 | nil=>exact ⟨.nil,rfl⟩
 | cons h _ ih=>exact ⟨.cons h.2 ih.1,by rw [zm,zm,h.1,ih.2]⟩
theorem Zaa:∀ {ks ds:Cl},ks.length=ds.length->(ks.zip ds).map (·.1)=ks/\(ks.zip ds).map (·.2)=ds
 | [],[],_=>⟨rfl,rfl⟩
 | k::ks,d::ds,h=>by
  obtain ⟨h1,h2⟩:=Zaa (BO h)
  rw [AE,zm,zm,h1,h2]
  exact ⟨rfl,rfl⟩
 | [],_::_,h=>by cases h
 | _::_,[],h=>by cases h
mutual
/-- data without lists -/
theorem Dn.readsD {P:Program} {w:World} {H:Hp} {h:Heap} (ok:HOk P w H h):∀ {v:V} {d:PyData} {u:Value},Dn H v d->il d=false->RelV v u->∃ as,Reads h u d as/\∀ b∈as,b≠sysModules
 | _,_,_,.non,_,r=>by cases r; exact ⟨_,.none,λb hb=>nomatch hb⟩
 | _,_,_,.bl b,_,r=>by cases r; exact ⟨_,.bool b,λb hb=>nomatch hb⟩
 | _,_,_,.int i,_,r=>by obtain ⟨t,rfl⟩:=r; exact ⟨_,.int i t,λb hb=>nomatch hb⟩
 | _,_,_,.str x,_,r=>by obtain ⟨t,rfl⟩:=r; exact ⟨_,.str x t,λb hb=>nomatch hb⟩
 | _,_,_,.tup e rs,hd,r=>by
  cases r
  obtain ⟨z,its,rv,o,h1,h2,n,h3⟩:=ok _ _ e
  obtain ⟨as,q,hq⟩:=DnAll.readsD ok rs (by rw [il] at hd; exact hd) rv
  exact ⟨_,.tuple h1 h2 h3 (by simpa using q),hq⟩
 | _,_,_,.lst e rs,hd,r=>by rw [il] at hd; cases hd
 | _,_,_,.dct (ks:=ks) (ds:=ds) e rs,hd,r=>by
  cases r
  obtain ⟨z,hsys,vs,kv,o,es,ep,h1,⟨h2,_⟩,h3,_,hp,_⟩:=e.ok ok
  obtain ⟨k1,k2⟩:=ZiY kv
  have hl:(ks.map λk=>je k.1).length=ds.length:=by
   have:=rs.length
   rw [zo] at this ⊢
   exact this
  have hd2:pO ((ks.map λk=>je k.1).zip ds)=false:=by rw [il] at hd; exact hd
  rw [Zdk hl] at hd2
  obtain ⟨as,q,hq⟩:=DnAll.readsD ok rs hd2 k1
  obtain ⟨z1,z2⟩:=Zaa hl
  have k3:(ks.map λk=>je k.1)=vs.map λq=>je q.1:=by
   have:=congrArg (List.map je) k2
   rw [Ah,Ah] at this
   exact this
  show ∃ as,Reads h _ (.dict ((ks.map λk=>je k.1).zip ds)) as/\_
  refine ⟨_,.dict (as:=[]) (bs:=as) h1 h2 h3 ?_ ?_,λb hb=>?_⟩
  ·rw [z1,k3]
   exact Zi2 hp
  ·rw [z2,ZhX hp]
   exact q
  ·rcases Au.mp hb with hb | hb
   ·rw [AF] at hb
    rw [hb]
    exact beq_eq_false_iff_ne.mp hsys
   ·exact hq b hb
theorem DnAll.readsD {P:Program} {w:World} {H:Hp} {h:Heap} (ok:HOk P w H h):∀ {vs:Cp} {ds:Cl} {us:Cn},DnAll H vs ds->jj ds=false->Vals vs us->∃ as,ReadsAll h us ds as/\∀ b∈as,b≠sysModules
 | _,_,_,.nil,_,r=>by cases r; exact ⟨_,.nil,λb hb=>nomatch hb⟩
 | _,_,_,.cons p t,hd,r=>by
  cases r with
  | cons r1 r2 =>
   rw [jj,Bool.or_eq_false_iff] at hd
   obtain ⟨as,q,hq⟩:=Dn.readsD ok p hd.1 r1
   obtain ⟨bs,q2,hq2⟩:=DnAll.readsD ok t hd.2 r2
   refine ⟨_,.cons q q2,λb hb=>?_⟩
   rcases Au.mp hb with hb | hb
   ·exact hq b hb
   ·exact hq2 b hb
end
def ZbI (xs:Cp) (H:Hp) (Q:VK):Prop:=∃ v d,xs=[v]/\Dn H v d/\(d.hasDict=false\/il d=false)/\d.showable=true/\d.depth<=32/\d.shown.length<=sizeLine/\Q (.str d.shown) H
theorem vz {X:Cx} {k:Nat} (hr:Room k X.A):cS X (.builtin "repr") ZbI:=by
 intro pins s σ H xs us Q I r h
 obtain ⟨v,d,rfl,hd,hor,hs,hdp,hz,q⟩:=h
 obtain ⟨u,rfl,ru⟩:=eB r
 have hun:=hr.units
 have key:∀ (as:List Addr),Reads s.heap u d as->(d.hasDict=true->sysModules ∉ as)->wpAny (model X.prog X.w) X.A (call (.builtin "repr") [u]) (EP X pins σ Q) X.xe s:=by
  intro as rd hsm
  have viaRef:∀ {a:Addr},u=.ref a->wpAny (model X.prog X.w) X.A (call (.builtin "repr") [u]) (EP X pins σ Q) X.xe s:=λ{a} e=>by
   subst e
   exact repr_of_reads' rd hs hsm hr.gd (by omega) (λ_ _ e=>e) (λh' u' tk hk=>⟨.str d.shown,H,I.kept hk,⟨_,rfl⟩,q⟩) hz
  cases rd with
  | none=>exact PySem.P.repr_of_none ⟨.str "None",H,I.tok _,⟨_,rfl⟩,q⟩
  | bool b=>exact PySem.P.repr_of_bool ⟨.str (if b then "True" else "False"),H,I.tok _,⟨_,rfl⟩,q⟩
  | int i t=>exact PySem.P.repr_of_int (by simpa [PyData.showable] using hs) ⟨.str (toString i),H,I.tok _,⟨_,rfl⟩,q⟩
  | str x t=>exact PySem.P.repr_of_str ⟨.str (reprText x),H,I.tok _,⟨_,rfl⟩,q⟩ hz
  | list h1 h2 h3 h4=>exact viaRef rfl
  | tuple h1 h2 h3 h4=>exact viaRef rfl
  | dict h1 h2 h3 h4 h5=>exact viaRef rfl
 rcases hor with hn | hn
 ·obtain ⟨as,rd⟩:=Dn.reads I.hok hd hn ru
  exact key as rd (PyData.noDict_hsm hn)
 ·obtain ⟨as,rd,hsys⟩:=Dn.readsD I.hok hd hn ru
  exact key as rd λ_ hm=>hsys _ hm rfl
noncomputable def o7 (d:PyData):Bool:=(!d.hasDict || !il d) && d.showable && decide (d.depth<=32) && decide (d.shown.length<=sizeLine)
noncomputable def iS:List PyData->Option PyData
 | [d]=>if o7 d=true then some (.str d.shown) else none
 | _=>none
theorem sI:eO ZbI iS:=λPK pa m G H vs ds d Q w hv hd k=>by
 unfold iS at hd
 split at hd
 ·split at hd
  ·rename_i hc
   unfold o7 at hc
   simp only [zL,Bool.or_eq_true,decide_eq_true_eq,Bf] at hc
   cases hd
   cases hv with
   | cons h1 h2=>cases h2; exact ⟨_,_,rfl,h1.mono w.sub,hc.1.1.1,hc.1.1.2,hc.1.2,hc.2,k.here w (.str _)⟩
  ·cases hd
 ·cases hd
section
variable {PK:Pk} {X:Cx} {pos:Pos} {i j:Cc}
theorem Kn.dct {pa:Addr} {m:Nat} {G H:Hp} {ks:List (aD×V)} {ds:Cl} {Q:VK} {p:Addr} (k:Kn PK pa m G H (.dict ((ks.map λk=>match k.1 with | .inl i=>PyData.int i | .inr x=>PyData.str x).zip ds)) Q) (w:Wd PK pa m G H) (d:DnAll G (ks.map (·.2)) ds) (hp:H p=none):Q (.ref p) (upd H p (.dK ks)):=by
 obtain ⟨w1,s1⟩:=w.new (o:=.dK ks) hp
 exact k _ _ _ s1 w1 (.dct (.inl bH) (DnAll.mono s1.gs d))
theorem Zmk:PE X (.Dict [] [] pos) (TAe PK (aC (.dict []))):=Zcf.imp λσ H Q hz0=>by
 obtain ⟨pa,Cs,H₀,m,ρ,G,R,q⟩:=hz0
 exact λp hp=>Kn.dct (ks:=[]) (ds:=[]) q R.wd .nil hp
noncomputable def Zkp:Cj
 | .int k,v=>some (.dict [(.int k,v)])
 | _,_=>none
end
theorem Zdx {d:PyData} (h:o7 d=true):bw iS [d]=.ret (.str d.shown):=by
 show Tr.of (if o7 d=true then some (PyData.str d.shown) else none)=_
 rw [if_pos h]
 rfl
theorem nq {k:Int} {v:PyData}:aK Zkp (.int k) v=.ret (.dict [(.int k,v)]):=rfl
end L2
set_option Elab.async false
set_option linter.all false
set_option maxRecDepth 100000
namespace L2
noncomputable def sG (hi:Int) (n:Nat):It:=⟨λi _=>i < n,λi H x H'=>H'=H/\x=.int (hi - i),λi _=>n<=i⟩
theorem ZfI {P:Program} {w:World} {K:Cb} {tg:Expr} (it:Addr) (lo:Int) (n:Nat):Turn P w K tg (sG lo n) [it] it (λi h=>IsRangeIter h it (lo+(i:Nat) * (-1)) ((n:Int) - (i:Nat)) (-1)) where
 mem:=by simp
 obj:=λi h st b hb=>by
  have e:b=it:=by simpa using hb
  subst e
  exact ⟨_,st,λv z=>by
   have z':Data.fields _=Data.cell v:=z
   cases z'⟩
 keep:=λi h h' st k=>k it (by simp) _ st
 item:=by
  intro X hP hw hK hc i pins s σ H E I hf st hg
  subst hP hw hK
  obtain ⟨f0,f1,f2,f3,f4,f5⟩:=hf it (by simp)
  have W:=Walks.range (prog:=X.prog) (w:=X.w) (I.ok.hd hc) it lo (-1) n
  refine W.item i s _ _ hg st λv h' tk hv st' kk=>?_
  obtain ⟨t,rfl⟩:=hv
  have I1:Inv X pins σ H { s with heap:=h',toks:=tk }:=I.turned (λb o hb e=>kk b o (by simpa using hb) e) f0 f1 f3 f4 f5
  refine ⟨_,rfl,pP (s:={ s with heap:=h',toks:=tk }) (n:="range_iterator") st' rfl rfl (by decide) ⟨.int (lo - i),H,I1,⟨t,?_⟩,⟨rfl,rfl⟩,st',λb hb=>(hf b hb).1⟩⟩
  rw [show (lo+(i:Int) * (-1))=lo - i by omega]
 done:=by
  intro X hP hw hK hc i pins s σ H E I hf st hg
  subst hP hw hK
  obtain ⟨f0,f1,f2,f3,f4,f5⟩:=hf it (by simp)
  exact wpAny_pyNext_range_end (I.ok.hd hc) st (by have:n<=i:=hg; omega) λh' eb=>⟨rfl,I.turned (t':=s.toks) (λb o hb e=>eb b o hb e) f0 f1 f3 f4 f5⟩
 self:=λ_ _ _ _ _ st h=>wpAny_pyIter_rangeiter st h
theorem ZbA (a b:Int):Builtin.Range.rangeSize a b (-1)=if b < a then a - b else 0:=by
 unfold Builtin.Range.rangeSize
 simp only [show ¬ ((-1:Int) > 0) by decide,if_false,show (- -1:Int)=1 by decide,Int.ediv_one]
 split <;> omega
theorem Zgn {a b:Int} (ha:-(2 ^ 62)<=a) (ha':a < 2 ^ 62) (hb:-(2 ^ 62)<=b) (hb':b < 2 ^ 62):Builtin.Range.small a b (-1)=true:=by
 unfold Builtin.Range.small
 rw [ZbA]
 simp only [Builtin.Range.rangeFitsLong,zL,Bool.or_eq_true,decide_eq_true_eq,beq_iff_eq,show ¬ ((-1:Int) > 0) by decide,if_false]
 split <;> omega
section
variable {X:Cx} {tg:Expr}
theorem Zg9 {pins:List (Addr×Obj)} {σ:St} {H:Hp} {s:Shared} {R:It->Hp->Prop} {E:Ck} {lo hi:Int} {t u v:Tok} {tk:Nat} (I:Inv X pins σ H s) (h1:-(2 ^ 62)<=lo) (h2:lo < 2 ^ 62) (h3:-(2 ^ 62)<=hi) (h4:hi < 2 ^ 62)
  (q:R (sG lo (lo - hi).toNat) H):wpAny (model X.prog X.w) X.A (pyIter (.ref s.heap.objs.size)) (qg X pins σ tg R) E { s with heap:=s.heap.push { cls:=.type "range",data:=.fields #[.int lo t,.int hi u,.int (-1) v] },toks:=tk }:=by
 refine wpAny_pyIter_range (IsRange.new ..) (Zgn h1 h2 h3 h4) ?_
 have I1:Inv X pins σ H { s with heap:=s.heap.push { cls:=.type "range",data:=.fields #[.int lo t,.int hi u,.int (-1) v] },toks:=tk }:=I.kept λb o e=>pi _ e
 refine ⟨(s.heap.push { cls:=.type "range",data:=.fields #[.int lo t,.int hi u,.int (-1) v] }).objs.size,[(s.heap.push { cls:=.type "range",data:=.fields #[.int lo t,.int hi u,.int (-1) v] }).objs.size],_,_,H,rfl,
  I1.kept (t':=tk) λb o e=>pi _ e,ZfI _ lo (lo - hi).toNat,?_,λb hb=>?_,q⟩
 ·have e1:lo+((0:Nat):Int) * (-1)=lo:=by omega
  have e2:(((lo - hi).toNat:Nat):Int) - ((0:Nat):Int)=Builtin.Range.rangeSize lo hi (-1):=by rw [ZbA]; split <;> omega
  show IsRangeIter _ _ (lo+((0:Nat):Int) * (-1)) ((((lo - hi).toNat:Nat):Int) - ((0:Nat):Int)) (-1)
  rw [e1,e2]
  exact zw _ rfl
 ·have e:b=(s.heap.push { cls:=.type "range",data:=.fields #[.int lo t,.int hi u,.int (-1) v] }).objs.size:=by simpa using hb
  subst e
  exact I1.fpOk (zp _) (I1.hok.fresh (zp _))
def Zdf (ta:TA):TI:=λσ H R=>ta σ H λvs H1=>∃ i j:Int,vs=[.int i,.int j,.int (-1)]/\(-(2 ^ 62)<=i/\i < 2 ^ 62/\-(2 ^ 62)<=j/\j < 2 ^ 62)/\R (sG i (i - j).toNat) H1
theorem ZhA {a b c:Expr} {ta:TA} {p pos:Pos} (hg:Gl X "range") (hm:X.mg "range"=none) (ha:PA X [a,b,c] ta) (hs:starEach [a,b,c] X.env=[(false,eval a X.env),(false,eval b X.env),(false,eval c X.env)]:=by rfl) (hs2:starEach [b,c] X.env=[(false,eval b X.env),(false,eval c X.env)]:=by rfl) :
  PI X tg (.Call (.Name "range" p) [a,b,c] [] pos) (Zdf ta):=by
 intro pins s σ H R I h
 refine Call_ (ij I hg hm boot_range (Aj (thn (ha pos pins s σ H _ I h) λus s1 hz0=>?_) (by rw [hs,hs2]) (by rw [hs2]; rfl)))
 obtain ⟨vs,H1,I1,r1,q1⟩:=hz0
 obtain ⟨i,j,e,⟨q1,q2,q3,q4⟩,q⟩:=q1
 subst e
 cases r1 with
 | cons r rr =>
  cases rr with
  | cons r' rr =>
   cases rr with
   | cons r'' rr =>
    cases rr
    obtain ⟨t,rfl⟩:=r
    obtain ⟨t',rfl⟩:=r'
    obtain ⟨t'',rfl⟩:=r''
    exact call_range_3 (by decide) (Zg9 I1 q1 q2 q3 q4 q) (.inl (PyProof.noPylong_small (by omega)))
end
variable {PK:Pk} {X:Cx} {is:Cd} {ρ:Cr}
noncomputable def fG (hi:Int) (n:Nat):Cm:=(List.range n).map λ(k:Nat)=>hi - (k:Int)
theorem vh (hi:Int) (n:Nat):(fG hi n).length=n:=by unfold fG; rw [zo,A1]
theorem Zjb {pa:Addr} {G:Hp} {lo:Int} {n:Nat}:oG PK pa (sG lo n) G ((fG lo n).map PyData.int):=λm G2 H2 sb w=>by
 refine ⟨λk x hx=>?_,by show n<=_; rw [zo,vh]; exact zp _⟩
 have hk:k < n:=by
  have:=(zu.mp hx).1
  rwa [zo,vh] at this
 refine ⟨hk,λy H3 hz0=>?_⟩
 obtain ⟨e1,e2⟩:=hz0
 subst e1 e2
 have:x=.int (lo - k):=by
  unfold fG at hx
  simp [hk] at hx
  exact hx.symm
 subst this
 exact ⟨G2,.refl,w,.int _⟩
noncomputable def t6:List PyData->Option Cl
 | [.int k,.int n,.int m]=>if (cL k && cL n && (m == -1))=true then some ((fG k (k - n).toNat).map PyData.int) else none
 | _=>none
noncomputable def yW (is:Cd):Cd:=λρ=>(is ρ).bind λxs=>Tr.of (t6 xs)
theorem ZgZ {G:Hp} {vs:Cp} {xs ys:Cl} (d:DnAll G vs xs) (h:t6 xs=some ys):∃ k n:Int,vs=[.int k,.int n,.int (-1)]/\(-(2 ^ 62)<=k/\k < 2 ^ 62/\-(2 ^ 62)<=n/\n < 2 ^ 62)/\ys=(fG k (k - n).toNat).map PyData.int:=by
 unfold t6 at h
 split at h
 ·rename_i k n m
  split at h
  ·rename_i hn
   cases h
   cases d with
   | cons d1 d2 =>
    cases d2 with
    | cons d2 d3 =>
     cases d3 with
     | cons d3 d4 =>
      cases d4
      cases d1
      cases d2
      cases d3
      rw [zL,zL] at hn
      have h1:=of_decide_eq_true hn.1.1
      have h2:=of_decide_eq_true hn.1.2
      have h3:m=-1:=eq_of_beq hn.2
      subst h3
      exact ⟨k,n,rfl,⟨h1.1,h1.2,h2.1,h2.2⟩,rfl⟩
  ·cases h
 ·cases h
theorem Zme {tg e:Expr} (h:PI X tg e (Zdf (TAd PK is))):PI X tg e (dk PK (yW is)):=h.imp λσ H R0 hz0=>by
 obtain ⟨pa,Cs,H₀,m,ρ,G,R,z⟩:=hz0
 refine TAd.then R z λm1 xs vs G1 H1 s1 w1 R1 d1 q1=>?_
 obtain ⟨ys,hy,q1⟩:=Tr.ok_of q1
 obtain ⟨k,n,e,h1,rfl⟩:=ZgZ d1 hy
 exact ⟨k,n,e,h1,q1 (sG k (k - n).toNat) G1 H1 s1 w1 Zjb⟩
noncomputable def rngd (xs:Cl):Tr Cl:=Tr.of (t6 xs)
theorem ZjP:yW is ρ=(is ρ).bind rngd:=rfl
theorem ZjQ {m n:Int} (h1:cL m=true) (h2:cL n=true):rngd [.int m,.int n,.int (-1)]=.ret ((fG m (m - n).toNat).map PyData.int):=by
 show Tr.of (if (cL m && cL n && ((-1:Int) == -1))=true then some ((fG m (m - n).toNat).map PyData.int) else none)=_
 rw [h1,h2]
 rfl
end L2
set_option Elab.async false
set_option linter.all false
set_option maxRecDepth 100000
namespace L2
variable {PK:Pk} {X:Cx} {st:Stmt} {i n:Cc}
noncomputable def ZbS (K:Cb):V->V->Hp->VK->Prop:=λx y H Q=>∃ p xs i v,x=.ref p/\y=.int i/\SqL K H p xs/\0<=i/\bp xs i=some v/\Q v H
theorem Zjv:Zff X (ZbS X.K):=by
 intro pins s σ H x y v u Q I rx ry h
 obtain ⟨p,xs,i,z,rfl,rfl,hq,h0,he,q⟩:=h
 cases rx
 obtain ⟨t,rfl⟩:=ry
 obtain ⟨its,r,pl,hz⟩:=I.list hq
 obtain ⟨j,h1,h2,h3,h4,h5⟩:=vD he
 obtain ⟨w,ew,rw'⟩:=r.get h2
 have hl:=r.length
 have hn:=ii
 have fin:EP X pins σ Q w s:=⟨z,H,I,rw',q⟩
 have hj:i.toNat=j:=by
  rw [seqIndex_of h0 h5] at h1
  exact zJ h1
 exact wpAny_getItem_list pl.isList h0 (by omega) (by rw [hj]; simpa using ew) fin
noncomputable def xz (xs:Cl):PyData->Option (Nat×Int)
 | .int y=>if 0<=y then (match xs[y.toNat]? with | some (.int a)=>some (y.toNat,a) | _=>none) else none
 | _=>none
noncomputable def Zdc:PyData->Option Int
 | .int b=>some b
 | _=>none
noncomputable def sm (g:Int->Int->Int) (k:Nat) (n i:Cc):Cf:=λρ=>match ρ[k]? with
 | some (.own xs)=>(n ρ).bind λy=>(Tr.of (xz xs y)).bind λja=>(i ρ).bind λz=>(Tr.of (Zdc z)).bind λb=>.ret (.next (ρ.set k (.own (xs.set ja.1 (.int (g ja.2 b))))))
 | _=>.fail
theorem Zl7 {k:Nat} {g:Int->Int->Int} (h:PS X st (ZaL (eD k) (TAe PK n) (TAe PK i) (ZbS X.K) (ipI g) xa)):PS X st (br PK (sm g k n i)):=h.imp λD σ H hz0=>by
 obtain ⟨pa,Cs,H₀,m,ρ,G,R,z⟩:=hz0
 unfold sm at z
 split at z
 ·rename_i xs hx
  obtain ⟨o,h1,h2⟩:=R.sl k _ hx
  cases h2 with
  | @own p vs _ a1 a2 a3 a4 =>
   refine ⟨_,h1,?_⟩
   refine TAe.then R z λm1 y v G1 H1 s1 w1 R1 d1 q1=>?_
   rw [Tr.ok_bind] at q1
   obtain ⟨ja,hja,q1⟩:=Tr.ok_of q1
   cases d1 with
   | int y =>
    have hy:∃ a,0<=y/\xs[y.toNat]?=some (.int a)/\ja=(y.toNat,a):=by
     have hja:(if 0<=y then (match xs[y.toNat]? with | some (.int a)=>some (y.toNat,a) | _=>none) else none)=some ja:=hja
     by_cases h0:0<=y
     ·rw [if_pos h0] at hja
      cases e:xs[y.toNat]? with
      | none=>rw [e] at hja; cases hja
      | some u =>
       rw [e] at hja
       cases u with
       | int a=>cases hja; exact ⟨a,h0,rfl,rfl⟩
       | _=>cases hja
     ·rw [if_neg h0] at hja; cases hja
    obtain ⟨a,h0,hat,rfl⟩:=hy
    obtain ⟨o,h1',h2⟩:=R1.sl k _ hx
    rw [h1] at h1'
    cases h1'
    cases h2 with
    | @own _ vs1 _ b1 b2 b3 b4 =>
     obtain ⟨va,hva,da⟩:=DnAll.get y.toNat b4 hat
     cases da
     refine ⟨p,vs1,y,.int a,rfl,rfl,SqL.of b1,h0,pY h0 hva,?_⟩
     refine TAe.then R1 q1 λm2 z2 u G2 H2 s2 w2 R2 d2 q2=>?_
     rw [Tr.ok_bind] at q2
     obtain ⟨b,hb,q2⟩:=Tr.ok_of q2
     cases d2 with
     | int b' =>
      cases hb
      obtain ⟨o,h1',h2⟩:=R2.sl k _ hx
      rw [h1] at h1'
      cases h1'
      cases h2 with
      | @own _ vs2 _ c1 c2 c3 c4 =>
       have hlt:y.toNat < xs.length:=(zu.mp hat).1
       refine ⟨a,b,rfl,rfl,p,vs2,y,y.toNat,rfl,rfl,c1,?_,?_⟩
       ·unfold dA
        rw [if_pos h0,if_pos (by rw [c4.length]; omega)]
       ·exact q2 σ G2 _ (s1.gs.trans s2.gs) (R2.change hx h1 (c4.set y.toNat (.int _)))
     | _=>cases hb
   | _=>cases hja
 ·exact z.elim
variable {ρ:Cr} {k:Nat} {g:Int->Int->Int} {xs:Cl} {sl:Sl}
noncomputable def ag3 (g:Int->Int->Int) (k:Nat) (xs:Cl) (ρ:Cr) (ja:Nat×Int) (b:Int):Tr Ou:=.ret (.next (ρ.set k (.own (xs.set ja.1 (.int (g ja.2 b))))))
noncomputable def yR (g:Int->Int->Int) (k:Nat) (xs:Cl) (ρ:Cr) (ja:Nat×Int) (z:PyData):Tr Ou:=(Tr.of (Zdc z)).bind (ag3 g k xs ρ ja)
noncomputable def yS (g:Int->Int->Int) (k:Nat) (i:Cc) (xs:Cl) (ρ:Cr) (ja:Nat×Int):Tr Ou:=(i ρ).bind (yR g k xs ρ ja)
noncomputable def yT (g:Int->Int->Int) (k:Nat) (i:Cc) (xs:Cl) (ρ:Cr) (y:PyData):Tr Ou:=(Tr.of (xz xs y)).bind (yS g k i xs ρ)
theorem ZjS (h:ρ[k]?=some (.own xs)):sm g k n i ρ=(n ρ).bind (yT g k i xs ρ):=by
 unfold sm
 rw [h]
 rfl
theorem ZjV {y:Int} {a:Int} (h0:0<=y) (h:xs[y.toNat]?=some (.int a)):yT g k i xs ρ (.int y)=yS g k i xs ρ (y.toNat,a):=by
 have e:xz xs (.int y)=some (y.toNat,a):=by
  show (if 0<=y then (match xs[y.toNat]? with | some (.int a)=>some (y.toNat,a) | _=>none) else none)=_
  rw [if_pos h0,h]
 unfold yT
 rw [e]
 rfl
theorem ZjU {ja:Nat×Int}:yS g k i xs ρ ja=(i ρ).bind (yR g k xs ρ ja):=rfl
theorem ZjT {ja:Nat×Int} (b:Int):yR g k xs ρ ja (.int b)=.ret (.next (ρ.set k (.own (xs.set ja.1 (.int (g ja.2 b)))))):=rfl
end L2
set_option Elab.async false
set_option linter.all false
set_option maxRecDepth 100000
namespace L2
section
variable {prog:Program} {w:World} {A:Around} {R:Result->Shared->Prop} {K:Type} [DecidableEq K] {knd:KeyKind prog w K} {kf:Nat->K}
theorem zi {h h':Heap} {d:Addr} {kvs:List (K×Value)} (x:h.DictOf knd d kvs) (k:∀ o,h.get? d=some o->h'.get? d=some o):h'.DictOf knd d kvs :=
 let ⟨o,es,ep,ho,r⟩:=x; ⟨o,es,ep,k o ho,r⟩
end
end L2
set_option Elab.async false
set_option linter.all false
set_option maxRecDepth 100000
namespace L2
theorem ZiZ {ks:List (aD×V)} {vs:List (aD×Value)} (r:KV ks vs):ks.length=vs.length:=by
 induction r with
 | nil=>rfl
 | cons _ _ ih=>rw [zn,zn,ih]
end L2
set_option Elab.async false
set_option linter.all false
set_option maxRecDepth 100000
namespace L2
noncomputable def dD (kvs:List (Int×PyData)):PyData:=.dict (kvs.map λkv=>(.int kv.1,kv.2))
noncomputable def fq (kvs:List (Int×PyData)) (k:Int) (v:PyData):List (Int×PyData) :=
 if (kvs.any λkv=>decide (kv.1=k))=true then kvs.map (λkv=>if kv.1=k then (kv.1,v) else kv) else kvs++[(k,v)]
section
variable {G:Hp} {ks:List (aD×V)} {kvs:List (Int×PyData)}
theorem Zc2 (i k:Int):decide ((Sum.inl i:aD)=Sum.inl k)=decide (i=k):=by
 by_cases h:i=k
 ·subst h; simp
 ·rw [decide_eq_false h,decide_eq_false λe=>h (Sum.inl.inj e)]
theorem KD.len (h:KD G ks kvs):ks.length=kvs.length:=by
 induction h with
 | nil=>rfl
 | cons _ _ ih=>rw [zn,zn,ih]
theorem KD.any (h:KD G ks kvs) (k:Int):(ks.any λkv=>decide (kv.1=Sum.inl k))=kvs.any λkv=>decide (kv.1=k):=by
 induction h with
 | nil=>rfl
 | cons _ _ ih=>rw [Bw,Bw,ih]; dsimp only; rw [Zc2]
theorem KD.snoc (h:KD G ks kvs) {k:Int} {v:V} {d:PyData} (hd:Dn G v d):KD G (ks++[(.inl k,v)]) (kvs++[(k,d)]):=by
 induction h with
 | nil=>exact .cons hd .nil
 | cons h1 _ ih=>exact .cons h1 ih
theorem KD.map (h:KD G ks kvs) {k:Int} {v:V} {d:PyData} (hd:Dn G v d):KD G (ks.map λkv=>if kv.1=Sum.inl k then (kv.1,v) else kv) (kvs.map λkv=>if kv.1=k then (kv.1,d) else kv):=by
 induction h with
 | nil=>exact .nil
 | @cons i u x ks kvs h1 _ ih =>
  rw [zm,zm]
  by_cases hk:i=k
  ·subst hk
   rw [if_pos rfl,if_pos rfl]
   exact .cons hd ih
  ·rw [if_neg (λe=>hk (Sum.inl.inj e)),if_neg hk]
   exact .cons h1 ih
theorem KD.put (h:KD G ks kvs) (k:Int) {v:V} {d:PyData} (hd:Dn G v d):KD G (dm ks (.inl k) v) (fq kvs k d):=by
 unfold dm fq
 rw [h.any]
 split
 ·exact h.map hd
 ·exact h.snoc hd
theorem KD.vals (h:KD G ks kvs):DnAll G (ks.map (·.2)) (kvs.map (·.2)):=by
 induction h with
 | nil=>exact .nil
 | cons h1 _ ih=>exact .cons h1 ih
theorem KD.zip (h:KD G ks kvs):((ks.map λk=>match k.1 with | .inl i=>PyData.int i | .inr x=>PyData.str x).zip (kvs.map (·.2)))=kvs.map λkv=>(.int kv.1,kv.2):=by
 induction h with
 | nil=>rfl
 | cons h1 _ ih=>rw [zm,zm,AE,ih,zm]
theorem KD.dn (h:KD G ks kvs) {a:Addr} (r:Rd G a (.dK ks)):Dn G (.ref a) (dD kvs):=by
 exact Eq.mp (congrArg (λz=>Dn G (V.ref a) (PyData.dict z)) h.zip) (Dn.dct r h.vals)
end
section
variable {PK:Pk} {pa:Addr} {Cs H₀ G H:Hp} {m:Nat} {σ:St} {ρ:Cr}
theorem Rl.setD (r:Rl PK pa Cs H₀ m σ ρ G H) {p:Addr} {ks:List (aD×V)} {kvs:List (Int×PyData)} (h1:H p=some (.dK ks)) (h2:G p=none) (h3:H₀ p=none) (h4:KD G ks kvs)
  (hd:∀ (i:Nat) (ys:List (Int×PyData)),ρ[i]?=some (.dic ys)->σ[i]?≠some (some (.ref p))) (k:Nat):Rl PK pa Cs H₀ m (σ.set k (some (.ref p))) (ρ.set k (.dic kvs)) G H:=by
 have up:∀ {i:Nat} {s:Sl},(ρ.set k (.dic kvs))[i]?=some s->i=k->s=.dic kvs/\(σ.set k (some (V.ref p)))[i]?=some (some (.ref p)):=λ{i s} h e=>by
  subst e
  have hl:i < ρ.length:=by
   have:=(zu.mp h).1
   rwa [zR] at this
  rw [zF hl] at h
  cases h
  exact ⟨rfl,zF (by rw [<- r.len]; exact hl)⟩
 refine ⟨r.wd,r.st,r.p0,λi s h=>?_,by rw [zR,zR]; exact r.len,yx r.dj λa h=>(by cases h),λi j ys zs hij e1 e2=>?_⟩
 ·by_cases e:i=k
  ·obtain ⟨e1,e2⟩:=up h e
   subst e1
   exact ⟨_,e2,.dic h1 h2 h3 h4⟩
  ·rw [zy (Ne.symm e)] at h ⊢
   exact r.sl i s h
 ·by_cases ei:i=k
  ·have q:=(up e1 ei).2
   have hj:k≠j:=λe=>hij (ei.trans e)
   rw [q]
   rw [zy hj] at e2 ⊢
   exact λz=>hd j zs e2 z.symm
  ·rw [zy (Ne.symm ei)] at e1 ⊢
   by_cases ej:j=k
   ·rw [(up e2 ej).2]
    exact hd i ys e1
   ·rw [zy (Ne.symm ej)] at e2 ⊢
    exact r.dj2 i j ys zs hij e1 e2
theorem Rl.apartD (r:Rl PK pa Cs H₀ m σ ρ G H) {p:Addr} (hp:H p=none) (i:Nat) (ys:List (Int×PyData)) (h:ρ[i]?=some (.dic ys)):σ[i]?≠some (some (.ref p)):=λe=>by
 obtain ⟨o,h1,h2⟩:=r.sl i _ h
 rw [e] at h1
 cases h1
 cases h2 with
 | dic a _ _ _=>rw [hp] at a; cases a
theorem Rl.newD (r:Rl PK pa Cs H₀ m σ ρ G H) {p:Addr} {ks:List (aD×V)} {kvs:List (Int×PyData)} (hp:H p=none) (h4:KD G ks kvs) (k:Nat):Rl PK pa Cs H₀ m (σ.set k (some (.ref p))) (ρ.set k (.dic kvs)) G (upd H p (.dK ks)):=by
 obtain ⟨w1,s1⟩:=r.wd.own (o:=.dK ks) hp
 exact (r.step s1 w1).setD bH (r.wd.gnone hp) (r.h0 hp) h4 (λi ys h=>r.apartD hp i ys h) k
theorem Rl.changeD (r:Rl PK pa Cs H₀ m σ ρ G H) {k:Nat} {xs ys:List (Int×PyData)} {p:Addr} {ws:List (aD×V)} (hk:ρ[k]?=some (.dic xs)) (hσ:σ[k]?=some (some (.ref p))) (d:KD G ws ys) :
  Rl PK pa Cs H₀ m σ (ρ.set k (.dic ys)) G (upd H p (.dK ws)):=by
 obtain ⟨o,h1,h2⟩:=r.sl k _ hk
 rw [hσ] at h1
 cases h1
 cases h2 with
 | @dic _ vs _ a1 a2 a3 a4 =>
  have hne:pa≠p:=λe=>by
   obtain ⟨u,hu⟩:=r.p0
   rw [e,a3] at hu; cases hu
  have hl:k < ρ.length:=(zu.mp hk).1
  refine ⟨⟨λb o h=>?_,r.wd.gpa,?_⟩,⟨r.st.gs,r.st.gn,λb o h hb=>?_⟩,r.p0,λi s h=>?_,by rw [zR]; exact r.len,rO r.dj λa h=>(by cases h),λi j us ws hij e1 e2=>?_⟩
  ·rw [ay (λe=>by subst e; rw [a2] at h; cases h)]
   exact r.wd.sub b o h
  ·obtain ⟨u,h,q⟩:=r.wd.pen
   exact ⟨u,by rw [ay hne]; exact h,q⟩
  ·rw [ay (λe=>by subst e; rw [a3] at h; cases h)]
   exact r.st.hk b o h hb
  ·by_cases e:k=i
   ·subst e
    rw [zF hl] at h
    cases h
    exact ⟨_,hσ,.dic bH a2 a3 d⟩
   ·rw [zy e] at h
    obtain ⟨o,q1,q2⟩:=r.sl i s h
    refine ⟨o,q1,?_⟩
    cases q2 with
    | un=>exact .un
    | d z=>exact .d z
    | pen=>exact .pen
    | own b1 b2 b3 b4=>exact .own (by rw [ay (λe2=>by subst e2; rw [a1] at b1; cases b1)]; exact b1) b2 b3 b4
    | dic b1 b2 b3 b4 =>
     refine .dic ?_ b2 b3 b4
     rw [ay]
     ·exact b1
     ·intro e2
      subst e2
      exact r.dj2 k i _ _ e hk h (by rw [hσ,q1])
  ·by_cases ei:k=i
   ·subst ei
    rw [zy hij] at e2
    exact r.dj2 k j _ _ hij hk e2
   ·rw [zy ei] at e1
    by_cases ej:k=j
    ·subst ej
     exact r.dj2 i k _ _ hij e1 hk
    ·rw [zy ej] at e2
     exact r.dj2 i j _ _ hij e1 e2
theorem Rl.keepD (r:Rl PK pa Cs H₀ m σ ρ G H) {k:Nat} {xs:List (Int×PyData)} {p:Addr} {ks:List (aD×V)} (hk:ρ[k]?=some (.dic xs)) (hσ:σ[k]?=some (some (.ref p))) (hp:H p=some (.dK ks)) (u:HO) (hu:u=.dK ks\/∃ o,u=.frz o (.dK ks)) :
  Sub G (upd G p u)/\Rl PK pa Cs H₀ m σ (ρ.set k (.d (dD xs))) (upd G p u) (upd H p u):=by
 obtain ⟨o,h1,h2⟩:=r.sl k _ hk
 rw [hσ] at h1
 cases h1
 cases h2 with
 | @dic _ vs _ a1 a2 a3 a4 =>
  rw [hp] at a1
  cases a1
  have hne:pa≠p:=λe=>by
   obtain ⟨u,hu⟩:=r.p0
   rw [e,a3] at hu; cases hu
  have hl:k < ρ.length:=(zu.mp hk).1
  have sb:Sub G (upd G p u):=Sub.new a2
  have rd:Rd (upd G p u) p (.dK ks):=by
   rcases hu with rfl | ⟨o,rfl⟩
   ·exact .inl bH
   ·exact .inr ⟨o,bH⟩
  refine ⟨sb,⟨λb o h=>?_,by rw [ay hne]; exact r.wd.gpa,?_⟩,⟨λb o h=>sb b o (r.st.gs b o h),λb o h=>?_,λb o h hb=>?_⟩,r.p0,λi s h=>?_,by rw [zR]; exact r.len,rO r.dj λa h=>(by cases h),rO r.dj2 λa h=>(by cases h)⟩
  ·by_cases e:b=p
   ·subst e; rw [bH] at h ⊢; exact h
   ·rw [ay e] at h ⊢; exact r.wd.sub b o h
  ·obtain ⟨u',h,q⟩:=r.wd.pen
   exact ⟨u',by rw [ay hne]; exact h,PK.mono sb q⟩
  ·by_cases e:b=p
   ·subst e; exact .inr a3
   ·rw [ay e] at h; exact r.st.gn b o h
  ·rw [ay (λe=>by subst e; rw [a3] at h; cases h)]
   exact r.st.hk b o h hb
  ·by_cases e:k=i
   ·subst e
    rw [zF hl] at h
    cases h
    exact ⟨_,hσ,.d ((a4.mono sb).dn rd)⟩
   ·rw [zy e] at h
    obtain ⟨o,q1,q2⟩:=r.sl i s h
    refine ⟨o,q1,?_⟩
    cases q2 with
    | un=>exact .un
    | d z=>exact .d (z.mono sb)
    | pen=>exact .pen
    | own b1 b2 b3 b4 =>
     have hn:∀ {q:Addr} {ys:Cp},H q=some (.lst ys)->q≠p:=λ{q ys} z e2=>by subst e2; rw [hp] at z; cases z
     exact .own (by rw [ay (hn b1)]; exact b1) (by rw [ay (hn b1)]; exact b2) b3 (DnAll.mono sb b4)
    | @dic q ks' kvs' b1 b2 b3 b4 =>
     have hn:q≠p:=λe2=>by
      subst e2
      exact r.dj2 k i _ _ e hk h (by rw [hσ,q1])
     exact .dic (by rw [ay hn]; exact b1) (by rw [ay hn]; exact b2) b3 (b4.mono sb)
end
variable {PK:Pk} {X:Cx} {a b c e:Expr} {es:List Expr} {pos:Pos} {i j l:Cc} {is:Cd} {st:Stmt} {s:Cf}
noncomputable def yV (k:Nat):Cf:=λρ=>.ret (.next (ρ.set k (.dic [])))
theorem Zl3 {k:Nat} (h:PS X st (dR ZaH (eM k))):PS X st (br PK (yV k)):=h.imp λD σ H hz0=>by
 obtain ⟨pa,Cs,H₀,m,ρ,G,R,z⟩:=hz0
 intro p hp
 exact z _ G _ .refl (R.newD hp .nil k)
noncomputable def vM (k:Nat) (n i:Cc):Cf:=λρ=>(i ρ).bind λx=>match ρ[k]? with
 | some (.dic xs)=>(n ρ).bind λy=>match y with
  | .int y=>if small (xs.length+1)=true then .ret (.next (ρ.set k (.dic (fq xs y x)))) else .fail
  | _=>.fail
 | _=>.fail
theorem Zl6 {k:Nat} {n:Cc} (h:PS X st (Zbc (eD k) (TAe PK n) (TAe PK i))):PS X st (br PK (vM k n i)):=h.imp λD σ H hz0=>by
 obtain ⟨pa,Cs,H₀,m,ρ,G,R,z⟩:=hz0
 refine TAe.then R z λm1 x v G1 H1 s1 w1 R1 d1 q1=>?_
 split at q1
 ·rename_i xs hx
  obtain ⟨o,h1,h2⟩:=R1.sl k _ hx
  cases h2 with
  | @dic p ks _ a1 a2 a3 a4 =>
   refine ⟨_,h1,?_⟩
   refine TAe.then R1 q1 λm2 y u G2 H2 s2 w2 R2 d2 q2=>?_
   obtain ⟨o,h1',h2⟩:=R2.sl k _ hx
   rw [h1] at h1'
   cases h1'
   cases h2 with
   | @dic _ ks2 _ b1 b2 b3 b4 =>
    cases d2 with
    | int y =>
     obtain ⟨hs,q2⟩:=dS q2
     have hs':xs.length+1<=sizeLine:=of_decide_eq_true hs
     refine ⟨p,_,rfl,DPut.k (k:=.inl y) b1 (by rw [b4.len]; omega),?_⟩
     exact q2 σ G2 _ (s1.gs.trans s2.gs) (R2.changeD hx h1 (b4.put y (d1.mono s2.gs)))
    | _=>exact q2.elim
 ·exact q1.elim
noncomputable def dc:Cj
 | .dict kvs,.int k=>(kvs.find? λkv=>match kv.1 with | .int i=>decide (i=k) | _=>false).map (·.2)
 | _,_=>none
theorem yA {G:Hp} {k:Int} {d:PyData}:∀ {ks:List (aD×V)} {ds:Cl},DnAll G (ks.map (·.2)) ds->dc (.dict ((ks.map λk=>match k.1 with | .inl i=>PyData.int i | .inr x=>PyData.str x).zip ds)) (.int k)=some d->∃ v,eC ks (.inl k)=some v/\Dn G v d
 | [],_,h,e=>by cases h; cases e
 | kv::ks,_,h,e=>by
  rw [zm] at h
  cases h with
  | @cons _ _ x ds h1 h2 =>
   rw [zm,AE] at e
   obtain ⟨q,v⟩:=kv
   cases q with
   | inl i =>
    by_cases hk:i=k
    ·subst hk
     refine ⟨v,sJ rfl,?_⟩
     have e':some x=some d:=by
      rw [<- e]
      show _=Option.map _ (List.find? _ _)
      rw [An]
      simp
     cases e'
     exact h1
    ·have e2:dc (.dict ((ks.map λk=>match k.1 with | .inl i=>PyData.int i | .inr x=>PyData.str x).zip ds)) (.int k)=some d:=by
      rw [<- e]
      show Option.map _ (List.find? _ _)=Option.map _ (List.find? _ _)
      rw [An]
      simp [hk]
     obtain ⟨v',hv,dn⟩:=yA h2 e2
     refine ⟨v',?_,dn⟩
     rw [<- hv]
     unfold eC
     rw [An]
     dsimp only
     rw [Zc2,decide_eq_false hk]
   | inr y =>
    have e2:dc (.dict ((ks.map λk=>match k.1 with | .inl i=>PyData.int i | .inr x=>PyData.str x).zip ds)) (.int k)=some d:=by
     rw [<- e]
     show Option.map _ (List.find? _ _)=Option.map _ (List.find? _ _)
     rw [An]
    obtain ⟨v',hv,dn⟩:=yA h2 e2
    refine ⟨v',?_,dn⟩
    rw [<- hv]
    unfold eC
    rw [An]
    simp
theorem Rd.up {G H:Hp} (s:Sub G H) {a:Addr} {u:HO} (h:Rd G a u):Rd H a u:=h.imp (s _ _) λ⟨o,h⟩=>⟨o,s _ _ h⟩
theorem p9 (h:PE X e (ZaI (TAe PK i) (TAe PK j))):PE X e (TAe PK (ae dc i j)):=h.imp λσ H Q hz0=>by
 obtain ⟨pa,Cs,H₀,m,ρ,G,R,q⟩:=hz0
 refine TAe.then R q λm1 x v G1 H1 s1 w1 R1 d1 q1=>?_
 refine TAe.then R1 q1 λm2 y u G2 H2 s2 w2 R2 d2 q2=>?_
 obtain ⟨z,hz,k⟩:=Tr.ok_of q2
 cases d1 with
 | dct r1 r2 =>
  cases d2 with
  | int n =>
   obtain ⟨v',hv,dn⟩:=yA r2 hz
   exact ⟨_,v',rfl,.inl ⟨_,.inl n,(r1.up s2.gs).up w2.sub,rfl,hv.symm⟩,(Kn.later k (s1.trans s2 w1.some) w2.some).here w2 (dn.mono s2.gs)⟩
  | _=>cases hz
 | _=>cases hz
noncomputable def fzD (k:Nat) (ρ:Cr):Cr:=match ρ[k]? with
 | some (.dic xs)=>ρ.set k (.d (dD xs))
 | _=>ρ
noncomputable def vK (k:Nat) (s:Cf):Cf:=λρ=>s (fzD k ρ)
theorem ZfB {H:Hp} {p:Addr} {o:HO} (h:H p=some o):upd H p o=H:=by
 funext b
 by_cases e:b=p
 ·subst e; rw [bH,h]
 ·rw [ay e]
theorem Zl4 {k:Nat} (h:PS X st (br PK s)):PS X st (br PK (vK k s)):=h.imp λD σ H hz0=>by
 obtain ⟨pa,Cs,H₀,m,ρ,G,R,z⟩:=hz0
 unfold vK fzD at z
 split at z
 ·rename_i xs hx
  obtain ⟨o,h1,h2⟩:=R.sl k _ hx
  cases h2 with
  | @dic p ks _ a1 a2 a3 a4 =>
   obtain ⟨sb,R'⟩:=R.keepD hx h1 a1 _ (.inl rfl)
   rw [ZfB a1] at R'
   exact ⟨pa,Cs,H₀,m,_,_,R',Tr.ok_mono z λ_ _ k'=>Ko.later k' sb⟩
 ·exact ⟨pa,Cs,H₀,m,ρ,G,R,z⟩
end L2
set_option Elab.async false
set_option linter.all false
set_option maxRecDepth 100000
namespace L2
section
variable {X:Cx} {pins:List (Addr×Obj)} {σ:St} {H:Hp} {s:Shared}
theorem Inv.trackD {D:Addr} {ys:List (aD×V)} {us:List (aD×Value)} (I:Inv X pins σ H s) (hD:H D=none) (ho:s.heap.DictOf (bY X.prog X.w) D us) (r:KV ys us) (hz:ys.length<=sizeLine) (hsys:(D == sysModules)=false)
  (hL:D≠X.env.locals) (hs0:X.s₀.heap.objs.size<=D) (hc:∀ x c,X.env.cells.lookup x=some c->c≠D) (hp:∀ p∈X.pn++pins,p.1≠D):Inv X pins σ (upd H D (.dK ys)) s:=by
 have ne:∀ {b:Addr} {o:HO},H b=some o->b≠D:=λe=>dt e hD
 refine I.step (g':=s.gens) (d':=s.drawn) (t':=s.toks) (h':=s.heap) (ch:=[D]) (λb hb=>?_) (λb o _ _ _ e _=>e) (λb o _ _ _ e _=>⟨o.slots,e⟩) (λb o hb e n=>?_) (λb o _ e=>⟨o,e⟩)
  (λb xs e=>by rw [ay (ne e)]; exact e) (λb o u e=>by rw [ay (ne e)]; exact e) (λb ps e=>⟨#[],by rw [ay (ne e),e]; simp⟩) (λm hm=>hm) (λb u e=>?_) I.bare
 ·have e:b=D:=by simpa using hb
  subst e
  exact ⟨.inr hs0,hL,hc,hp⟩
 ·have hb':b≠D:=by simpa using hb
  rw [ay hb']
  exact n
 ·by_cases hb:b=D
  ·subst hb
   rw [bH] at e
   cases e
   exact ⟨hz,hsys,us,r,ho⟩
  ·rw [ay hb] at e
   exact (I.hok b u e).stay (λc v _ q=>q) (λc q=>by rw [ay (ne q)]; exact q) λc xs q=>by rw [ay (ne q)]; exact q
end
theorem Zla (kx vx target iter:Expr) (scope:Scope) (pos:Pos) (it:Value) (D:Addr) (env:Env) :
  compTurn (.DictComp kx vx [⟨target,iter,[],0⟩] scope pos) 0 it (.ref D) env=(standAt iter.pos >>= λ_=>pyNext it >>= λr=>match r with
   | none=>pure (.done .next)
   | some v=>letOwnedTupleGo target it v >>= λ_=>assign target env v >>= λ_ =>
    (eval kx env >>= λkv=>holding [kv] (eval vx env) >>= λvv=>standAt { kx.pos with endLine:=vx.pos.endLine,endCol:=vx.pos.endCol } >>= λ_=>holding [kv,vv] (dictSet D kv vv)) >>= λ_ =>
     again (.compLoop (.DictComp kx vx [⟨target,iter,[],0⟩] scope pos) 0 it (.ref D) env)):=by rfl
theorem Zlc {prog:Program} {w:World} {A:Around} {R:Result->Shared->Prop} {s:Shared} {kx vx target iter:Expr} {scope:Scope} {pos:Pos} {it:Value} {D:Addr} {env:Env} (J:Nat->Shared->Prop)
  (step:∀ k s0,J k s0->wpAny (model prog w) A (pyNext it) (λgot s1=>match got with
   | none=>R (.ok .next) s1
   | some v=>wpAny (model prog w) A (letOwnedTupleGo target it v) (λ_ s2=>wpAny (model prog w) A (assign target env v) (λ_ s3=>wpAny (model prog w) A (eval kx env) (λkv s4 =>
     wpAny (model prog w) A (eval vx env) (λy s5=>wpAny (model prog w) A (dictSet D kv y) (λ_ s6=>∃ j,j < k/\J j s6) (λ_ _=>False) s5) (λ_ _=>False) s4) (λ_ _=>False) s3) (λ_ _=>False) s2) (λ_ _=>False) s1) (λ_ _=>False) s0)
  (k:Nat) (h:J k s):codeAny (model prog w) A (.compLoop (.DictComp kx vx [⟨target,iter,[],0⟩] scope pos) 0 it (.ref D) env) R s:=by
 refine codeAny_loop rfl J (λk0 s0 hJ=>?_) k h
 show wpAny _ _ ((compTurn (.DictComp kx vx [⟨target,iter,[],0⟩] scope pos) 0 it (.ref D) env).onRaise (λx=>do noteFrame x env; theTreesLotGoes x)) _ _ s0
 apply wpAny_noted
 rw [Zla]
 refine wpAny_bind (wpAny_standAt (wpAny_bind (wpAny_mono (step k0 s0 hJ) (λgot s1 h1=>?_) λ_ _ z=>z.elim)))
 cases got with
 | none=>exact wpAny_pure h1
 | some v =>
  refine wpAny_bind (wpAny_mono h1 (λ_ s2 h2=>?_) λ_ _ z=>z.elim)
  refine wpAny_bind (wpAny_mono h2 (λ_ s3 h3=>?_) λ_ _ z=>z.elim)
  refine wpAny_bind (wpAny_bind (wpAny_mono h3 (λkv s4 h4=>?_) λ_ _ z=>z.elim))
  refine wpAny_bind (wpAny_holding (wpAny_mono h4 (λy s5 h5=>?_) λ_ _ z=>z.elim))
  refine wpAny_bind (wpAny_standAt (wpAny_holding (wpAny_mono h5 (λ_ s6 h6=>?_) λ_ _ z=>z.elim)))
  exact wpAny_pure ⟨rfl,h6⟩
def qp (wi:TI) (n:Nat) (ix:List Nat) (g:Blk->TG) (tk te:Blk->TE):TE:=λσ H Q=>wi σ H λJ H1=>∀ b:Blk,∃ W:Nat->Nat->St->List (aD×V)->Hp->Prop,(∃ m,W 0 m (cR n ix σ) [] H1)/\∀ i m τ ys H2,W i m τ ys H2 ->
 (J.stop i H2/\∀ p v H',H2 p=none->v=V.ref p->H'=upd H2 p (.dK ys)->Q v H') \/
 (J.go i H2/\ys.length < sizeLine/\∀ x H3,J.yld i H2 x H3->g b x τ H3 λτ2 H4=>tk b τ2 H4 λkv H5=>te b τ2 H5 λy H6=>∃ (z:Int) (m':Nat),kv=.int z/\m' < m/\W (i+1) m' τ2 (dm ys (.inl z) y) H6)
section
variable {X:Cx} {pins:List (Addr×Obj)} {σ:St} {H:Hp} {s:Shared}
theorem Zd3 {kx vx target iter:Expr} {scope:Scope} {pos:Pos} {Nx ts:Co} {ix:List Nat} {g:Blk->TG} {tk te:Blk->TE} {cl:List (Str×Addr)} {s2:Shared} {itv:Value} {R:Value->Addr->Result->Shared->Prop}
  {E:Ck} {Q:VK}
  (hc:X.calm=true) (hg:∀ b,PG (a9 X (bN Nx ts ix) scope b) target (g b)) (hk:∀ b,PE (a9 X (bN Nx ts ix) scope b) kx (tk b)) (he:∀ b,PE (a9 X (bN Nx ts ix) scope b) vx (te b))
  (hNx:X.N=Nx) (ok:BlkOk Nx X.env.scope scope ix) (cl1:∀ x c,cl.lookup x=some c->X.env.cells.lookup x=some c) (cl2:∀ y∈scope.names,y.2=.free->∃ c,cl.lookup y.1=some c)
  (h2:qg X pins σ target (λJ H1=>∀ b:Blk,∃ W:Nat->Nat->St->List (aD×V)->Hp->Prop,(∃ m,W 0 m (cR ts.length ix σ) [] H1)/\∀ i m τ ys H2,W i m τ ys H2 ->
   (J.stop i H2/\∀ p v H',H2 p=none->v=V.ref p->H'=upd H2 p (.dK ys)->Q v H') \/
   (J.go i H2/\ys.length < sizeLine/\∀ x H3,J.yld i H2 x H3->g b x τ H3 λτ2 H4=>tk b τ2 H4 λkv H5=>te b τ2 H5 λy H6=>∃ (z:Int) (m':Nat),kv=.int z/\m' < m/\W (i+1) m' τ2 (dm ys (.inl z) y) H6)) itv s2)
  (hR:∀ (D C:Addr) (H':Hp) (s':Shared) (v:V),Inv X pins σ H' s'->v=.ref D->Q v H'->(∃ m,s'.heap.Ns C m)->H' C=none->C≠X.env.locals->X.s₀.heap.objs.size<=C->(∀ x c,X.env.cells.lookup x=some c->c≠C)->(∀ p∈X.pn++pins,p.1≠C) ->
   R (.ref D) C (.ok .next) s') :
  wpAny (model X.prog X.w) X.A newDict (λacc s₃=>wpAny (model X.prog X.w) X.A (newFunctionEnv scope X.env.globals cl [] X.env.qual none .none (some X.env)) (λcenv s₄ =>
   codeAny (model X.prog X.w) X.A (.compStart (.DictComp kx vx [⟨target,iter,[],0⟩] scope pos) 0 itv acc { cenv with scope:=relabel scope X.env }) (R acc cenv.locals) s₄) E s₃) E s2:=by
 obtain ⟨it,fp,tn,J,H1,e,I2,T,st2,f2,q2⟩:=h2
 subst e
 refine wpAny_newObj_type (wk ?_)
 dsimp only
 generalize hG:s2.heap.push { cls:=.type "dict",dict:=none,data:=.dict #[] }=G
 have hGs:G.objs.size=s2.heap.objs.size+1:=by rw [<- hG,z8]
 have hfs:∀ b∈fp,b < s2.heap.objs.size:=λb hb=>let ⟨o,e,_⟩:=T.obj _ _ st2 b hb; zA e
 have kpG:∀ b o,G.get? b=some o->(pushCells (G.push { cls:=.type "dict",data:=.dict #[] }) scope.names).get? b=some o:=λb o e=>pushCells_keeps _ _ _ _ (pi _ e)
 have hns3:(pushCells (G.push { cls:=.type "dict",data:=.dict #[] }) scope.names).Ns G.objs.size (λ_=>none):=(Heap.Ns.new G (.type "dict")).keeps (pushCells_keeps _ _)
 obtain ⟨sp1,sp2,sp4,sp3⟩:=yF scope.names (G.push { cls:=.type "dict",data:=.dict #[] }) cl
 rw [z8] at sp1 sp2 sp3 sp4
 generalize hh3:pushCells (G.push { cls:=.type "dict",data:=.dict #[] }) scope.names=h3 at kpG hns3 sp1 ⊢
 have kp:∀ b o,s2.heap.get? b=some o->h3.get? b=some o:=λb o e=>kpG b o (by rw [<- hG]; exact pi _ e)
 have hD3:h3.get? s2.heap.objs.size=some { cls:=.type "dict",data:=.dict #[] }:=kpG _ _ (by rw [<- hG]; exact zw _ rfl)
 have hDo:h3.DictOf (bY X.prog X.w) s2.heap.objs.size []:=zi (h:=G) (by rw [<- hG]; exact Heap.DictOf.new _) λo e=>kpG _ o e
 have clB:∀ x c,cl.lookup x=some c->c < G.objs.size+1:=λx c e=>by
  obtain ⟨v,q⟩:=I2.cell x c (cl1 x c e)
  exact AQ (zt q.lt (by rw [hGs]; exact BU _))
 have csI:=sp3 clB λx y c e1 e2=>I2.ok.inj x y c (cl1 x c e1) (cl1 y c e2)
 have cs1:∀ x c,(cellsFrom (G.objs.size+1) scope.names cl).lookup x=some c->X.env.cells.lookup x=some c\/(G.objs.size < c/\h3.IsCell c none/\(x,NameKind.cell)∈scope.names):=λx c e=>by
  rcases sp1 x c e with z | ⟨z1,z2,z3⟩
  ·exact .inl (cl1 x c z)
  ·exact .inr ⟨by omega,z2,z3⟩
 have cs2:∀ y∈scope.names,(y.2=.free\/y.2=.cell)->∃ c,(cellsFrom (G.objs.size+1) scope.names cl).lookup y.1=some c:=λy hy hk=>by
  refine sp2 y.1 ?_
  rcases hk with z | z
  ·exact .inr (cl2 y hy z)
  ·exact .inl (by rw [<- z]; exact hy)
 have csA:∀ x c,(x,NameKind.cell)∈scope.names->(cellsFrom (G.objs.size+1) scope.names cl).lookup x=some c->G.objs.size<=c:=λx c e1 e2=>Bd (sp4 x c e1 e2)
 generalize hcs:cellsFrom (G.objs.size+1) scope.names cl=cs at csI cs1 cs2 csA ⊢
 generalize hCe:G.objs.size=C at hns3 cs1 csA ⊢
 have hC:s2.heap.objs.size<=C:=by omega
 have hDC:s2.heap.objs.size≠C:=by omega
 let B:Blk:=⟨cs,C,s2,H1,fp,X.pn++pins⟩
 have I3:Inv (a9 X (bN Nx ts ix) scope B) [] (cR ts.length ix σ) H1 { s2 with heap:=h3 }:=ya I2 hNx ok cs1 csI cs2 csA f2 hfs hC kp hns3
 have fC:H1 s2.heap.objs.size=none:=I2.hok.fresh (zp _)
 have cellIn:∀ x c,cs.lookup x=some c->c≠s2.heap.objs.size:=λx c e=>by
  rcases cs1 x c e with z | ⟨z,_,_⟩
  ·obtain ⟨v,q⟩:=I2.cell x c z
   exact zD q.lt
  ·exact zY (Av hC z)
 have pinIn:∀ p∈X.pn++pins,p.1 < s2.heap.objs.size:=λp hp=>zA (I2.pin p hp).1
 have nofrs:s2.heap.objs.size ∉ frs X.stack:=λhb=>by
  rcases zq.mp (I2.stkSub _ hb) with z | z
  ·exact absurd I2.lt (by rw [<- z]; exact zK _)
  ·exact I2.nofs (zp _) z
 -- a state with the list at its place,pinned
 have pinD:∀ {τ:St} {H':Hp} {s':Shared} {ob:Obj},Inv (a9 X (bN Nx ts ix) scope B) [] τ H' s'->s'.heap.get? s2.heap.objs.size=some ob->H' s2.heap.objs.size=none->(∀ v,ob.data≠.cell v)->Inv (a9 X (bN Nx ts ix) scope B) [(s2.heap.objs.size,ob)] τ H' s' :=
  λ{τ H' s' ob} I' ho hn hd=>I'.pins_of λp hp=>by
   have e:p=(s2.heap.objs.size,ob):=by simpa using hp
   subst e
   exact ⟨ho,hn,hDC,nofrs,hd⟩
 obtain ⟨W,⟨m0,w0⟩,turn⟩:=q2 B
 have stat:∀ {H':Hp} {ob:Obj},(∀ b∈fp,H' b=none)->∀ b∈fp,fh (a9 X (bN Nx ts ix) scope B) [(s2.heap.objs.size,ob)] H' b:=λ{H' ob} hn b hb=>by
  refine ⟨hn b hb,zD (zt (hfs b hb) hC),λz=>?_,.inl hb,λx c e=>by
   rcases cs1 x c e with z | ⟨z,_,_⟩
   ·exact (f2 b hb).2.2.2.2.1 x c z
   ·exact zY (zt (hfs b hb) (zE hC (AY z))),λp hp=>?_⟩
  ·rcases zq.mp (I2.stkSub _ z) with q | q
   ·exact (f2 b hb).2.1 q
   ·exact (f2 b hb).2.2.1 q
  ·rcases Au.mp hp with z | z
   ·exact (f2 b hb).2.2.2.2.2 p z
   ·have e:p=(s2.heap.objs.size,ob):=by simpa using z
    subst e
    exact zY (hfs b hb)
 have loop:∀ s4:Shared,s4={ s2 with heap:=h3 } ->
   codeAny (model X.prog X.w) X.A (.compLoop (.DictComp kx vx [⟨target,iter,[],0⟩] scope pos) 0 (.ref it) (.ref s2.heap.objs.size) (compEnvC scope cs C X.env)) (R (.ref s2.heap.objs.size) C) s4:=by
  rintro s4 rfl
  refine Zlc (λk s'=>∃ i τ ys us ob H',Inv (a9 X (bN Nx ts ix) scope B) [(s2.heap.objs.size,(ob:Obj))] τ H' s'/\tn i s'.heap/\(∀ b∈fp,H' b=none)/\KV ys us/\s'.heap.DictOf (bY X.prog X.w) s2.heap.objs.size us/\ys.length<=sizeLine/\W i k τ ys H') ?_ m0
   ⟨0,_,[],[],_,H1,pinD I3 hD3 fC (λv z=>by cases z),T.keep _ _ _ st2 λb hb o e=>kp b o e,λb hb=>(f2 b hb).1,.nil,hDo,Ay _,w0⟩
  rintro k s5 ⟨i,τ,ys,us,ob,H5,I5,st5,fr5,rv,hDO,hz,w5⟩
  rcases turn i k τ ys H5 w5 with ⟨stop,qn⟩ | ⟨go,hlt,step⟩
  ·have p5:=I5.pin (s2.heap.objs.size,ob) (zx _ (by simp))
   refine thn (T.done (a9 X (bN Nx ts ix) scope B) rfl rfl rfl hc i _ s5 τ H5 _ I5 (stat fr5) st5 stop) λgot s6 hz0=>?_
   obtain ⟨hr,I6⟩:=hz0
   subst hr
   obtain ⟨ho,hn,_,_,_⟩:=I6.pin (s2.heap.objs.size,ob) (zx _ (by simp))
   have hDO6:s6.heap.DictOf (bY X.prog X.w) s2.heap.objs.size us:=zi hDO λo e=>by
    rw [p5.1] at e
    cases e
    exact ho
   have I7:Inv X pins σ H5 s6:=I2.call' (ch:=fp) (H':=H5) (by exact I6.os) I6.base I6.hok I6.bare λb hb=>⟨(f2 b hb).2.2.2.1,(f2 b hb).2.1,(f2 b hb).2.2.2.2.1,(f2 b hb).2.2.2.2.2⟩
   have hs0:X.s₀.heap.objs.size<=s2.heap.objs.size:=I2.sz
   have I8:=I7.trackD hn hDO6 rv hz (beq_eq_false_iff_ne.mpr (zY I2.big)) (zY I2.lt) hs0 (λx c e z=>by
    obtain ⟨v,q⟩:=I2.cell x c e
    exact absurd q.lt (by rw [z]; exact zK _)) (λp hp=>zD (pinIn p hp))
   obtain ⟨m6,hm6,_⟩:=I6.loc
   refine hR _ C _ s6 _ I8 rfl (qn _ _ _ hn rfl rfl) ⟨m6,hm6⟩ ?_ (λz=>?_) (zE hs0 hC) (λx c e z=>?_) λp hp=>zD (zt (pinIn p hp) hC)
   ·rw [ay (Ne.symm hDC)]
    exact I6.free
   ·exact absurd (zt I2.lt hC) (by rw [z]; exact zK _)
   ·obtain ⟨v,q⟩:=I2.cell x c e
    exact absurd (zt q.lt hC) (by rw [z]; exact zK _)
  ·have p5:=I5.pin (s2.heap.objs.size,ob) (zx _ (by simp))
   refine thn (T.item (a9 X (bN Nx ts ix) scope B) rfl rfl rfl hc i _ s5 τ H5 _ I5 (stat fr5) st5 go) λgot s6 hz0=>?_
   obtain ⟨u,hr,h6⟩:=hz0
   subst hr
   refine thn h6 λ_ s7 hz0=>?_
   obtain ⟨x,H7,I7,r7,y7,st7,fr7⟩:=hz0
   have I7':=I7.pinned (stat fr7) (T.obj _ _ st7)
   refine thn (hg B _ s7 τ H7 x u _ I7' r7 (step x H7 y7)) λ_ s8 hz0=>?_
   obtain ⟨τ8,H8,I8,q8⟩:=hz0
   refine thn (hk B _ s8 τ8 H8 _ I8 q8) λkv sk hz0=>?_
   obtain ⟨vk,Hk,Ik,rk,qk⟩:=hz0
   refine thn (he B _ sk τ8 Hk _ Ik qk) λy s9 hz0=>?_
   obtain ⟨vy,H9,I9,r9,zk,m',ek,hm',w9⟩:=hz0
   subst ek
   obtain ⟨tk9,rfl⟩:=rk
   obtain ⟨ho,hn,_,_,_⟩:=I9.pin (s2.heap.objs.size,ob) (zx _ (AL _ (by simp)))
   have hDO9:s9.heap.DictOf (bY X.prog X.w) s2.heap.objs.size us:=zi hDO λo e=>by
    rw [p5.1] at e
    cases e
    exact ho
   have lenv:ys.length=us.length:=ZiZ rv
   refine wpAny_dictSet_pairs (knd:=bY X.prog X.w) (k:=(Sum.inl zk:aD)) (Zcy _ _ _ _) hDO9 (λh' hpl hsb=>?_) (by omega)
   obtain ⟨ob',es',ep',ho',hc',hd',_⟩:=hpl
   have hpl:h'.DictOf (bY X.prog X.w) s2.heap.objs.size (stored us (Sum.inl zk) y):=⟨ob',es',ep',ho',hc',hd',by assumption⟩
   have I9':Inv (a9 X (bN Nx ts ix) scope B) [] τ8 H9 s9:=I9.pins_of λp hp=>absurd hp (by simp)
   have I10:Inv (a9 X (bN Nx ts ix) scope B) [] τ8 H9 { s9 with heap:=h',toks:=s9.toks+1 }:=I9'.turned (it:=s2.heap.objs.size) (t':=s9.toks+1) (λb o hb e=>(hsb.2 b hb).trans e) hn hDC (.inr (zp _)) cellIn (λp hp=>by
    have hp':p∈(X.pn++pins)++[]:=hp
    rw [zN] at hp'
    exact zD (pinIn p hp'))
   refine ⟨m',hm',i+1,τ8,dm ys (.inl zk) vy,stored us (Sum.inl zk) y,ob',H9,pinD I10 ho' hn (λv z=>by rw [hd'] at z; cases z),?_,λb hb=>?_,rv.put _ r9,hpl,by have:=uK ys (Sum.inl zk:aD) vy; omega,w9⟩
   ·refine T.keep _ _ _ st7 λb hb o e=>?_
    have q:=(I9.pin (b,o) (zx _ (zx _ (fQ hb e)))).1
    exact (hsb.2 b (zD (hfs b hb))).trans q
   ·obtain ⟨o,e,d⟩:=T.obj _ _ st7 b hb
    exact (I9.pin (b,o) (zx _ (zx _ (fQ hb e)))).2.1
 exact codeAny_compStart_dict (loop _ rfl) (T.self X.A 0 _ _ _ (T.keep _ _ _ st2 λb hb o e=>kp b o e) (loop _ rfl))
theorem ZjN (kx vx gens scope pos) (env:Env):eval (.DictComp kx vx gens scope pos) env=comprehension (.DictComp kx vx gens scope pos) scope env (firstIterPos gens pos) newDict (firstAsync gens) (firstIter gens env):=by rw [eval]
theorem ZhM {kx vx target iter:Expr} {scope:Scope} {pos:Pos} {wi:TI} {g:Blk->TG} {tk te:Blk->TE} (Nx:Co) (ts:Co) (ix:List Nat)
  (hc:X.calm=true) (hi:PI X target iter wi) (hg:∀ b,PG (a9 X (bN Nx ts ix) scope b) target (g b)) (hk:∀ b,PE (a9 X (bN Nx ts ix) scope b) kx (tk b)) (he:∀ b,PE (a9 X (bN Nx ts ix) scope b) vx (te b))
  (hNx:X.N=Nx) (ok:BlkOk Nx X.env.scope scope ix) (hs:∀ x,foldedSetIterable iter X.env x=pure x:=by intro _; rfl) :
  PE X (.DictComp kx vx [⟨target,iter,[],0⟩] scope pos) (qp wi ts.length ix g tk te):=by
 intro pins s σ H Q I h
 obtain ⟨cl,hcl,cl1,cl2⟩:=rR (scope:=scope) (env:=X.env) λy hy hf=>I.ok.has y.1 (ok.frees y hy hf)
 rw [ZjN]
 refine wpAny_comprehension_free (use:=none) rfl hs hcl ok.kind ok.locs (thn (hi pins s σ H _ I h) λv s1 h1=>thn h1 λitv s2 h2=>?_)
 refine Zd3 (R:=λacc C=>compPost (model X.prog X.w) X.A X.xe none (EP X pins σ Q) acc C) hc hg hk he hNx ok cl1 cl2 h2 ?_
 rintro D C H' s' v I' rfl q ⟨m,hm⟩ hn hL h0 hcl' hp
 exact ⟨m,hm,λh' hsb=>⟨.ref D,H',I'.turned (it:=C) (t':=s'.toks) (λb o hb e=>(hsb.2 b hb).trans e) hn hL (.inr h0) hcl' hp,rfl,q⟩⟩
theorem Zhq {kx vx target iter:Expr} {scope:Scope} {pos pos' spos:Pos} {wi:TI} {g:Blk->TG} {tk te:Blk->TE} {i:Nat} {x:Str} (Nx:Co) (ts:Co) (ix:List Nat)
  (hc:X.calm=true) (hN:X.N.Nodup) (hix:X.N[i]?=some x) (hx:X.env.scope.names.lookup x=some .local) (hi:PI X target iter wi) (hg:∀ b,PG (a9 X (bN Nx ts ix) scope b) target (g b)) (hk:∀ b,PE (a9 X (bN Nx ts ix) scope b) kx (tk b)) (he:∀ b,PE (a9 X (bN Nx ts ix) scope b) vx (te b))
  (hNx:X.N=Nx) (ok:BlkOk Nx X.env.scope scope ix) (hsw:swapsWith (.DictComp kx vx [⟨target,iter,[],0⟩] scope pos) (some (.Name x pos')) spos.line X.env=pure true) (hs:∀ x,foldedSetIterable iter X.env x=pure x:=by intro _; rfl) :
  PS X (.Assign [.Name x pos'] (.DictComp kx vx [⟨target,iter,[],0⟩] scope pos) spos) (dR (qp wi ts.length ix g tk te) (eM i)):=by
 intro pins s σ H D0 I h
 obtain ⟨cl,hcl,cl1,cl2⟩:=rR (scope:=scope) (env:=X.env) λy hy hf=>I.ok.has y.1 (ok.frees y hy hf)
 rw [exec_Assign_Name_used _ _ _ _ hsw]
 refine wpAny_bind (wpAny_standAt (wpAny_bind ?_))
 show wpAny _ X.A (do let _ <- comprehension (.DictComp kx vx [⟨target,iter,[],0⟩] scope pos) scope X.env _ newDict false (eval iter X.env) (some (assign (.Name x pos') X.env))) _ _ s
 refine wpAny_bind (thn (wpAny_comprehension_free (use:=some (assign (.Name x pos') X.env)) (Q:=λ_ s'=>SP X pins D0 .next s') rfl hs hcl ok.kind ok.locs (thn (hi pins s σ H _ I h) λv s1 h1=>thn h1 λitv s2 h2=>?_)) λ_ s' hq=>wpAny_pure (wpAny_pure hq))
 refine Zd3 (R:=λacc C=>compPost (model X.prog X.w) X.A X.xe (some (assign (.Name x pos') X.env)) (λ_ s'=>SP X pins D0 .next s') acc C) (Q:=λx H1=>eM i x σ H1 D0.nx) hc hg hk he hNx ok cl1 cl2 h2 ?_
 rintro D C H' s' v I' rfl q ⟨m,hm⟩ hn hL h0 hcl' hp
 show wpAny _ X.A (assign (.Name x pos') X.env (.ref D)) _ _ _
 refine wpAny_assign_Name (wI I' hN hix (.inl hx) (show RelV (.ref D) (.ref D) from rfl) (λs'' I'' hch=>?_) (.inr hx))
 obtain ⟨a,hsb,ha⟩:=hch
 have haC:C≠a:=by
  rcases ha with z | z
  ·rw [z]; exact hL
  ·exact λe=>hcl' _ _ z e.symm
 exact ⟨m,hm.sameBut hsb haC,λh'' hs''=>⟨_,H',I''.turned (it:=C) (t':=s''.toks) (λb o hb e=>(hs''.2 b hb).trans e) hn hL (.inr h0) hcl' hp,q⟩⟩
end
end L2
set_option Elab.async false
set_option linter.all false
set_option maxRecDepth 100000
namespace L2
section
variable {PK:Pk} {X:Cx} {e:Expr} {is:Cd} {kx i:Cc}
noncomputable def fY:List (Int×PyData)->List PyData->Option PyData
 | kvs,[]=>some (dD kvs)
 | kvs,.tuple [.int k,v]::ps=>fY (fq kvs k v) ps
 | _,_=>none
noncomputable def Zd5 (i:Cc) (τ:Cr):PyData->Tr PyData
 | .int z=>(i τ).bind λv=>.ret (.tuple [.int z,v])
 | _=>.fail
noncomputable def iu (kx i:Cc) (τ:Cr):Tr PyData:=(kx τ).bind (Zd5 i τ)
noncomputable def gJ (is:Cd) (n:Nat) (ix:List Nat) (g:Ci) (kx i:Cc):Cc:=λρ =>
 (is ρ).bind λxs=>if small xs.length=true then (bI (λx=>(Tr.of (g x (blk n ix ρ))).bind (iu kx i)) xs).bind λps=>Tr.of (fY [] ps) else .fail
theorem Zd2 {n:Nat} {ix:List Nat} {g:Ci} (hn:fg n g):∀ σ H Q,TAe PK (gJ is n ix g kx i) σ H Q->qp (dk PK is) n ix (λ_=>eu PK g) (λ_=>TAe PK kx) (λ_=>TAe PK i) σ H Q:=by
 rintro σ H Q ⟨pa,Cs,H₀,m,ρ,G,R,z⟩
 refine ⟨pa,Cs,H₀,m,ρ,G,R,Tr.ok_mono (Tr.ok_bind.mp z) λm1 xs k J G1 H1 s1 w1 jo=>λB=>?_⟩
 obtain ⟨hs,k⟩:=dS k
 have hs:xs.length<=sizeLine:=of_decide_eq_true hs
 let el:PyData->Tr PyData:=λx=>(Tr.of (g x (blk n ix ρ))).bind (iu kx i)
 let W:Nat->Nat->St->List (aD×V)->Hp->Prop:=λk mm τ ks H2=>mm=xs.length - k/\k<=xs.length/\ks.length<=k/\∃ m G2 kvs,Sub G1 G2/\Stp pa G H G2 H2/\Rl PK pa Cs H₀ m τ (blk n ix ρ) G2 H2 /\
  KD G2 ks kvs/\((bI el (xs.drop k)).bind λzs=>Tr.of (fY kvs zs)).ok m λm' d=>Kn PK pa m' G H d Q
 refine ⟨W,⟨xs.length,rfl,Ay _,zp _,m1,G1,[],.refl,s1,(R.step s1 w1).blk n ix,.nil,k⟩,?_⟩
 rintro k mm τ ks H2 ⟨rfl,hk,hy,m2,G2,kvs,sb,st2,R2,dn,k2⟩
 obtain ⟨j1,j2⟩:=jo m2 G2 H2 sb R2.wd
 by_cases hlt:k < xs.length
 ·have hx:xs[k]?=some xs[k]:=by simp [hlt]
  obtain ⟨jg,jy⟩:=j1 k _ hx
  refine .inr ⟨jg,by omega,λx H3 y=>?_⟩
  obtain ⟨G3,s3,w3,d3⟩:=jy x H3 y
  rw [AK hlt] at k2
  unfold bI at k2
  rw [Tr.ok_bind,Tr.ok_bind,Tr.ok_bind] at k2
  obtain ⟨ρ3,hg3,k3⟩:=Tr.ok_of k2
  refine ⟨pa,Cs,H₀,m2,_,G3,_,ρ3,R2.step s3 w3,d3,hg3,λτ4 R4=>?_⟩
  unfold iu at k3
  refine ⟨pa,Cs,H₀,m2,ρ3,G3,R4,Tr.ok_mono (Tr.ok_bind.mp k3) λm5 kd k5=>?_⟩
  intro v G5 H5 s5 w5 d5
  have s35:=s3.trans s5 w3.some
  obtain ⟨pl,pk⟩:=hn _ _ _ hg3
  obtain ⟨z,rfl,k5⟩:∃ z:Int,kd=.int z/\((i ρ3).bind λv=>Tr.ret (PyData.tuple [.int z,v])).ok m5 λm' y=>((bI el (xs.drop (k+1))).bind λzs=>Tr.ret (y::zs)).ok m' λm' zs=>(Tr.of (fY kvs zs)).ok m' λm'' d=>Kn PK pa m'' G H d Q:=by
   cases kd with
   | int z=>exact ⟨z,rfl,k5⟩
   | _=>exact k5.elim
  have ev:v=.int z:=by cases d5; rfl
  refine ⟨pa,Cs,H₀,m5,ρ3,G5,R4.step s5 w5,Tr.ok_mono (Tr.ok_bind.mp k5) λm6 yd k6=>?_⟩
  intro u G6 H6 s6 w6 d6
  have s56:=s35.trans s6 w5.some
  have k8:((bI el (xs.drop (k+1))).bind λzs=>Tr.of (fY (fq kvs z yd) zs)).ok m6 λm' d=>Kn PK pa m' G H d Q:=by
   have k6':((bI el (xs.drop (k+1))).bind λzs=>Tr.ret (PyData.tuple [.int z,yd]::zs)).ok m6 λm' zs=>(Tr.of (fY kvs zs)).ok m' λm'' d=>Kn PK pa m'' G H d Q:=k6
   rw [Tr.ok_bind] at k6' ⊢
   exact Tr.ok_mono k6' λm' zs q=>q
  refine ⟨z,xs.length - (k+1),ev,by omega,rfl,hlt,by have:=uK ks (Sum.inl z:aD) u; omega,m6,G6,fq kvs z yd,sb.trans s56.gs,st2.trans s56 R2.wd.some,?_,(KD.mono s56.gs dn).put z d6,k8⟩
  refine ((R4.step s5 w5).step s6 w6).weak pl λq sl hq=>?_
  by_cases hqn:q < n
  ·left
   unfold blk at hq
   rw [zX (by simpa using hqn),zW,if_pos hqn] at hq
   cases hq
   rfl
  ·right
   rw [pk q (A5 hqn)]
   exact hq
 ·have e:k=xs.length:=by omega
  subst e
  refine .inl ⟨j2,λp v H' hp ev eH=>?_⟩
  subst ev eH
  rw [Bi] at k2
  have k2':Kn PK pa m2 G H (dD kvs) Q:=k2
  have k3:=Kn.later k2' st2 R2.wd.some
  refine Kn.dct (ks:=ks) (ds:=kvs.map (·.2)) ?_ R2.wd dn.vals hp
  exact Eq.mpr (congrArg (λz=>Kn PK pa m2 G2 H2 (PyData.dict z) Q) dn.zip) k3
theorem Zml {n:Nat} {ix:List Nat} {g:Ci} (h:PE X e (qp (dk PK is) n ix (λ_=>eu PK g) (λ_=>TAe PK kx) (λ_=>TAe PK i))) (hn:fg n g):PE X e (TAe PK (gJ is n ix g kx i)):=h.imp (Zd2 hn)
theorem Zl2 {st:Stmt} {n k:Nat} {ix:List Nat} {g:Ci} (h:PS X st (dR (qp (dk PK is) n ix (λ_=>eu PK g) (λ_=>TAe PK kx) (λ_=>TAe PK i)) (eM k))) (hn:fg n g):PS X st (br PK (aS k (gJ is n ix g kx i))) :=
 aV (h.imp (wD (Zd2 hn)))
end
end L2
set_option Elab.async false
set_option linter.all false
set_option maxRecDepth 100000
namespace PySem.F
end PySem.F
set_option Elab.async false
set_option linter.all false
set_option maxRecDepth 100000
namespace PySem.F
end PySem.F
set_option Elab.async false
set_option linter.all false
set_option maxRecDepth 100000
namespace L2
variable {PK:Pk} {X:Cx} {is:Cd} {e:Expr}
end L2
set_option Elab.async false
set_option linter.all false
set_option maxRecDepth 100000
namespace L2
section
variable {prog:Program} {w:World} {A:Around} {E:Ck} {s:Shared} {p:Addr}
noncomputable abbrev v8 (prog:Program) (w:World) (vs:List (aD×Value)):Nat->Value->Prop:=λi v=>∃ k x,vs[i]?=some (k,x)/\(bY prog w).is k v=true
theorem Zle {vs:List (aD×Value)} {ep:Nat} {R:List Value->Shared->Prop} (hh:A.handled=none) (lo:(p == sysModules)=false) (hD:s.heap.DictAt (bY prog w) p vs ep) (hk:vs.length<=sizeLine)
  (h:∀ h' tk acc,(∀ b o,s.heap.get? b=some o->h'.get? b=some o)->s.heap.objs.size<=h'.objs.size->ItemsOf (v8 prog w vs) acc vs.length->R acc.toList { s with heap:=h',toks:=tk }):wpAny (model prog w) A (collect (.ref p)) R E s:=by
 have src:=PySem.W.kdl_dict (prog:=prog) (w:=w) (knd:=bY prog w) (kvs:=vs) (ep:=ep) lo
 have hp:p < s.heap.objs.size:=(src.there _ hD).1
 have g0:(s.heap.push { cls:=.type "list",data:=.seq ([]:Cn).toArray }).get? s.heap.objs.size=some { cls:=.type "list",data:=.seq #[] }:=zw _ rfl
 have walk:=PySem.W.kdl_extend (A:=A) (s:={ s with heap:=s.heap.push { cls:=.type "list",data:=.seq ([]:Cn).toArray } })
  (R:=λ(q:Result) (s':Shared)=>∃ h' tk acc c,q=.ok (.ret (.ref s.heap.objs.size))/\s'={ s with heap:=h',toks:=tk }/\(∀ b o,s.heap.get? b=some o->h'.get? b=some o)/\h'.get? s.heap.objs.size=some { cls:=.type "list",dict:=none,data:=.seq acc c,slots:=#[] }/\ItemsOf (v8 prog w vs) acc vs.length)
  src hh (src.keep _ _ hD λb _ o q=>pi _ q) s.heap.objs.size (zY hp) (zY hp) (.ref s.heap.objs.size) 0 g0
  (λh' tk acc c k1 k2 k3=>⟨h',tk,acc,c,rfl,rfl,λb o q=>k1 b o (zD (zA q)) (pi _ q),k2,k3⟩) hk
 unfold collect
 refine wpAny_bind (wpAny_runValue (codeAny_builtin F.entry_proto_collect ?_))
 rw [AV F.plain_proto_collect _]
 show wpAny _ A.in1 (newList [] >>= λl=>again (.builtin "list.__iadd__" ⟨[l,.ref p],[]⟩)) _ _ s
 refine wpAny_bind (wpAny_newObj_type (wpAny_pure ⟨plainId_quiet F.plain_list_iadd _,codeAny_builtin F.entry_list_iadd ?_⟩))
 rw [AV F.plain_list_iadd _]
 refine wpAny_mono walk (λfl s' z=>?_) λe s' z=>?_
 ·have fin:∀ {q:Result} {s':Shared},(∃ h' tk acc c,q=.ok (.ret (.ref s.heap.objs.size))/\s'={ s with heap:=h',toks:=tk }/\(∀ b o,s.heap.get? b=some o->h'.get? b=some o)/\h'.get? s.heap.objs.size=some { cls:=.type "list",dict:=none,data:=.seq acc c,slots:=#[] }/\ItemsOf (v8 prog w vs) acc vs.length) ->
    q=.ok (.ret (.ref s.heap.objs.size))/\wpAny (model prog w) A (load s.heap.objs.size >>= λo=>match o.data with | .seq xs _=>pure xs.toList | _=>unsupported "internal:collect") R E s':=λz=>by
   obtain ⟨h',tk,acc,c,e,rfl,k1,k2,k3⟩:=z
   exact ⟨e,wpAny_bind (wpAny_load k2 (wpAny_pure (h h' tk acc k1 (AY (zA k2)) k3)))⟩
  cases fl with
  | done f =>
   obtain ⟨e,q⟩:=fin z
   cases e
   exact q
  | again c1 =>
   refine ⟨z.1,codeAny_mono z.2 λq s2 y=>?_⟩
   obtain ⟨e,q'⟩:=fin y
   subst e
   exact q'
 ·obtain ⟨_,_,_,_,e',_⟩:=z
  cases e'
theorem Zdb:∀ (vs:List (aD×Value)) (ns:Cm) (us:Cn),vs.map (·.1)=ns.map Sum.inl->us.length=vs.length->(∀ j v,us[j]?=some v->v8 prog w vs j v)->IntsAre us ns
 | [],[],[],_,_,_=>.nil
 | [],[],_::_,_,e,_=>by cases e
 | [],_::_,_,e,_,_=>by cases e
 | _::_,[],_,e,_,_=>by cases e
 | _::_,_::_,[],_,e,_=>by cases e
 | kv::vs,n::ns,u::us,e,l,h=>by
  rw [zm,zm] at e
  obtain ⟨e1,e2⟩:=List.cons.inj e
  obtain ⟨k,x,h1,h2⟩:=h 0 u rfl
  have h1:some kv=some (k,x):=h1
  cases h1
  have e1:k=Sum.inl n:=e1
  subst e1
  obtain ⟨t,rfl⟩:∃ t,u=.int n t:=by
   rw [Zit] at h2
   exact Value.isInt_shape (k:=n) (v:=u) h2
  exact .cons n t (Zdb vs ns us e2 (BO l) λj v q=>h (j+1) v q)
theorem Zgl {ns:Cm} {vs:List (aD×Value)} {ep:Nat} {Q:Ck} (hh:A.handled=none) (lo:(p == sysModules)=false) (hD:s.heap.DictAt (bY prog w) p vs ep) (hk:vs.map (·.1)=ns.map Sum.inl) (h64:ns.length < 64)
  (h:∀ h' tk q (out:Array Value) (ms:Cm) e,IntsAre out.toList ms->ms.Perm ns->ms.Pairwise (·<=·)->s.heap.objs.size<=q->h'.get? q=some (seqObj "list" out e)->(∀ b o,s.heap.get? b=some o->h'.get? b=some o)->Q (.ref q) { s with heap:=h',toks:=tk }) :
  wpAny (model prog w) A (call (.builtin "sorted") [.ref p]) Q E s:=by
 have hvl:vs.length=ns.length:=by have:=congrArg List.length hk; rwa [zo,zo] at this
 refine Calls.call_function_entry kind_sorted plain_sorted entry_sorted (args_sorted1 _) ?_
 unfold Builtin.«sorted»
 refine wpAny_bind (m:=checkCount "sorted" 1 1 _) (wpAny_pure (wpAny_bind (Zle (A:=A.in1) (by simp [hh]) lo hD (by rw [hvl,sizeLine_eq]; omega) λh1 tk acc kp hsz it=>?_)))
 have hl:acc.toList.length=vs.length:=by rw [A6]; exact it.1
 have i1:IntsAre acc.toList ns:=Zdb (prog:=prog) (w:=w) vs ns acc.toList hk hl λj v q=>it.2 j v (by rw [<- Array.getElem?_toList]; exact q)
 refine wpAny_bind (wpAny_newList ?_ (by rw [hl,hvl,sizeLine_eq]; omega))
 have g1:(h1.push (seqObj "list" acc.toList.toArray 0)).get? h1.objs.size=some (seqObj "list" acc.toList.toArray 0):=zw _ rfl
 refine wpAny_bind (wpAny_holding (wpAny_call_entry slot_list_sort ⟨_,g1,rfl⟩ entry_list_sort (list_sort_tree (s:={ s with heap:=h1.push (seqObj "list" acc.toList.toArray 0),toks:=tk }) g1 i1 (by rw [hl,hvl]; exact h64) λout ms a1 a2 a3=>⟨_,rfl,?_⟩) (args_list_sort _)))
 obtain ⟨e,he⟩:=sortedHeap_at (out:=out) g1
 refine wpAny_pure ⟨_,rfl,h _ tk _ out ms e a1 a2 a3 hsz he λb o q=>?_⟩
 have hb:=zA (kp b o q)
 rw [sortedHeap_old (zD hb) (by rw [z8]; exact AQ hb)]
 exact pi _ (kp b o q)
end
section
variable {X:Cx}
noncomputable def ZbD:List V->Hp->VK->Prop:=λxs H Q=>∃ p ks ns,xs=[.ref p]/\Rd H p (.dK ks)/\ks.map (·.1)=ns.map Sum.inl/\ns.length < 64 /\
  ∀ q,H q=none->Q (.ref q) (upd H q (.lst ((fi ns).map V.int)))
theorem Zi0 {ks:List (aD×V)} {vs:List (aD×Value)} (r:KV ks vs):vs.map (·.1)=ks.map (·.1):=by
 induction r with
 | nil=>rfl
 | cons a _ ih=>rw [zm,zm,ih,a.1]
theorem Zlk (hc:X.calm=true):cS X (.builtin "sorted") ZbD:=by
 intro pins s σ H xs us Q I r h
 obtain ⟨p,ks,ns,rfl,hp,hk,h64,q⟩:=h
 obtain ⟨u,rfl,ru⟩:=eB r
 cases ru
 obtain ⟨_,lo,vs,rv,o,es,ep,ho,d1,d2,d3⟩:=vm I.hok hp
 refine Zgl (ep:=ep) (I.ok.hd hc) lo ⟨o,es,ho,d1,d2,d3⟩ ((Zi0 rv).trans hk) h64 λh' tk a out ms e a1 a2 a3 ha he kp=>?_
 have em:ms=fi ns:=ZaV (a2.trans (wJ _).symm) a3 (ZaW _)
 subst em
 have hml:(fi ns).length < 64:=by rw [(wJ ns).length_eq]; exact h64
 refine ⟨.ref a,_,I.laid (a:=a) (o:=.lst ((fi ns).map V.int)) (h':=h') (t':=tk) kp ha ⟨?_,out.toList,e,Zat a1,by simpa using he⟩,rfl,q a (I.hok.fresh ha)⟩
 rw [zo,sizeLine_eq]
 omega
end
noncomputable def gu:List (PyData×PyData)->Option Cm
 | []=>some []
 | (.int n,_)::r=>(gu r).map (n::·)
 | _::_=>none
noncomputable def qr:List PyData->Option Cl
 | [.dict kvs]=>(gu kvs).bind λns=>if decide (ns.length < 64)=true then some ((fi ns).map PyData.int) else none
 | _=>none
theorem Zc1 {G:Hp}:∀ {ks:List (aD×V)} {ds:Cl} {ns:Cm},DnAll G (ks.map (·.2)) ds->gu ((ks.map λk=>match k.1 with | .inl i=>PyData.int i | .inr x=>PyData.str x).zip ds)=some ns->ks.map (·.1)=ns.map Sum.inl
 | [],_,ns,h,e=>by
  cases h
  have e:some []=some ns:=e
  cases e
  rfl
 | kv::ks,_,ns,h,e=>by
  rw [zm] at h
  cases h with
  | @cons _ _ x ds h1 h2 =>
   rw [zm,AE] at e
   obtain ⟨q,v⟩:=kv
   cases q with
   | inl i =>
    have e:(gu ((ks.map λk=>match k.1 with | .inl i=>PyData.int i | .inr x=>PyData.str x).zip ds)).map (i::·)=some ns:=e
    cases e2:gu ((ks.map λk=>match k.1 with | .inl i=>PyData.int i | .inr x=>PyData.str x).zip ds) with
    | none=>rw [e2] at e; cases e
    | some ms =>
     rw [e2] at e
     cases e
     rw [zm,Zc1 h2 e2]
     rfl
   | inr y=>cases e
variable {PK:Pk} {X:Cx} {is:Cd} {e:Expr}
theorem Zfy:y8 ZbD qr:=λPK pa m G H vs ds d Q w hv hd k=>by
 unfold qr at hd
 split at hd
 ·rename_i kvs
  cases ei:gu kvs with
  | none=>rw [ei] at hd; cases hd
  | some ns =>
   rw [ei] at hd
   have hd':(if decide (ns.length < 64)=true then some ((fi ns).map PyData.int) else none)=some d:=hd
   split at hd'
   ·rename_i hc
    cases hd'
    cases hv with
    | cons h1 h2 =>
     cases h2
     cases h1 with
     | dct a1 a2 =>
      refine ⟨_,_,ns,rfl,a1.up w.sub,Zc1 a2 ei,of_decide_eq_true hc,λq hq=>?_⟩
      exact k.new w (DnAll.ints _) hq
   ·cases hd'
 ·cases hd
end L2
set_option Elab.async false
set_option linter.all false
set_option maxRecDepth 100000
namespace L2
theorem ZhV {P:Program} {w:World} {K:Cb} {mg:Cq} {base:Heap} {N:Co} {qual:Str} {scope:Scope} {f:Addr} {cd:Value} {A:Around} {outer:List Env} {s₀:Shared} {H₀:Hp} {E E1:XK}
  {pins:List (Addr×Obj)} {σ:St} {H:Hp} {s s':Shared} {e:Value}
  (I:Inv (cQ (cJ P w) P w K mg base N qual scope f cd A outer s₀ H₀ E) pins σ H s) (hq:cJ P w (envOfC qual scope s₀.heap.objs.size f cd::outer) H s E1 e s') (hE:∀ cls H',E1 cls none H'->E cls none H') :
  (cQ (cJ P w) P w K mg base N qual scope f cd A outer s₀ H₀ E).xe e s':=by
 have hst:s.heap.FunFrames base (envOfC qual scope s₀.heap.objs.size f cd::outer):=I.stack
 have hbase:Un (frs outer) [] H₀ H s₀.heap s.heap:=I.base
 obtain ⟨_,⟨L,oL,hL,_,hoL,_⟩,_⟩:=id hst
 have hLe:L=s₀.heap.objs.size:=(zJ hL).symm
 have hfs:∀ b,b∈frs (envOfC qual scope s₀.heap.objs.size f cd::outer) ↔ b=L\/b∈frs outer:=λb=>by
  unfold frs
  rw [AB,hL]
  exact zq
 have old:∀ b o,s₀.heap.get? b=some o->b≠L:=λb o hb z=>by
  have:=zA hb
  rw [z,hLe] at this
  exact absurd this (zK _)
 show wpAny (model P w) (A.deeper (envOfC qual scope s₀.heap.objs.size f cd)) (leaving (envOfC qual scope s₀.heap.objs.size f cd) e) (λ_ s''=>cJ P w outer H₀ s₀ E e s'') (λe' s''=>cJ P w outer H₀ s₀ E e' s'') s'
 unfold leaving
 refine wpAny_bind (Zen (X:=cQ (cJ P w) P w K mg base N qual scope f cd A outer s₀ H₀ E) (outer:=outer) (L:=L) I rfl hL hq λea cls H' h' eq I5 hea hcl fly un hE1=>?_)
 obtain ⟨b'',t,fl,hf,hbt⟩:=fly
 obtain ⟨f1,f2,⟨_,_,f3⟩,f4⟩:=fl
 refine ⟨ea,t,cls,b'',H',eq,I5.os,I5.bare,I5.base,I5.hok,⟨f1,f2,f3,f4⟩,λb o hb hn=>?_,hbt,hE cls H' hE1⟩
 cases e1:b''.get? b with
 | some o'=>exact ⟨o',rfl⟩
 | none =>
  obtain ⟨o',e2⟩:=hbase.there b o hb (by simp)
  have:=hf b e1 λz=>((hfs b).mp z).elim (old b o hb) hn
  rw [e2] at this
  cases this
def ZaE (t:TA) (sp:Sp) (E:XK):TS:=λ_ σ H=>t σ H λvs H1=>sp vs H1 (λ_ _=>False) λcls _ H'=>E cls none H'
theorem Zhp {P:Program} {w:World} {K:Cb} {mg:Cq} {base:Heap} {N:Co} {qual:Str} {scope:Scope} {f:Addr} {cd:Value} {A:Around} {outer:List Env} {s₀:Shared} {H₀:Hp} {E:XK}
  {k:Nat} {g:Addr} {fd:FuncData} {ps:Co} {sp:Sp} {x:Str} {e:Expr} {es:List Expr} {t:TA} {p cpos epos:Pos}
  (F:FnOk P w K mg base (cJ P w) k g fd ps sp) (hr:Room k (A.deeper (envOfC qual scope s₀.heap.objs.size f cd))) (hg:Gl (cQ (cJ P w) P w K mg base N qual scope f cd A outer s₀ H₀ E) x) (hm:mg x=some (.ref g)) (hk:PySem.W.keepIn K (.ref g)=true) (hb:Binds K fd ps []) (ha:PA (cQ (cJ P w) P w K mg base N qual scope f cd A outer s₀ H₀ E).nox (e::es) t)
  (hdb:(x == ("__debug__":Str))=false:=by decide)
  (he:starEach (e::es) (envOfC qual scope s₀.heap.objs.size f cd)=(false,eval e (envOfC qual scope s₀.heap.objs.size f cd))::starEach es (envOfC qual scope s₀.heap.objs.size f cd):=by rfl) (hpl:(backTo cpos (starEach es (envOfC qual scope s₀.heap.objs.size f cd))).any (·.1)=false:=by rfl) (hs:swapsWith (.Call (.Name x p) (e::es) [] cpos) none epos.line (envOfC qual scope s₀.heap.objs.size f cd)=pure false:=by rfl) :
  PS (cQ (cJ P w) P w K mg base N qual scope f cd A outer s₀ H₀ E) (.Expr (.Call (.Name x p) (e::es) [] cpos) epos) (ZaE t sp E):=by
 intro pins s σ H D I h
 refine wpAny_Expr_any ?_ I.quiet hs
 refine wpAny_Call_Name_kw (xN I hg hm ?_ hdb)
 refine BH (h₀:=base) I.ok.mod.kin hk (wpAny_mono (ha cpos pins s σ H _ (I.wish _) h) (λus s1 ⟨vs,H1,I1',r,q⟩=>⟨I1'.unwish.kIn,?_⟩) λ_ _ z=>z.elim) he hpl
 have I1:=I1'.unwish
 have hl:us.length=ps.length:=by rw [<- r.length]; exact F.len _ _ _ _ q
 have hbb:=hb s1 us I1.kIn (by rw [zN]; exact hl)
 rw [zN] at hbb
 refine wpAny_call (codeAny_mono (F.run _ (envOfC qual scope s₀.heap.objs.size f cd::outer) s1 H1 ⟨us,[]⟩ us vs _ _ hr I1.env0 hbb r q) λrr s' hq=>?_)
 cases rr with
 | ok fl =>
  cases fl with
  | ret u =>
   obtain ⟨_,_,_,_,_,_,_,z⟩:=hq
   exact z.elim
  | next=>exact False.elim hq
  | brk=>exact False.elim hq
  | cont=>exact False.elim hq
 | error ex=>exact ZhV I1 hq λcls H' z=>z
def qt (PK:Pk) (n:Nat) (q:Ce) (C:Addr):Sp:=λvs H _ E=>vs.length=n/\∃ pa m G as,Wd PK pa m G H/\ArsOk pa G vs as/\(q as).ok m λm' b=>b=true/\∀ G' H',Stp pa G H G' H'->Wd PK pa m' G' H'->E (.ref C) none H'
noncomputable def eY (n k:Nat) (q:Ce):Ce:=λas=>if decide (as.length=n)=true then q (as++List.replicate k .un) else .fail
theorem yl {n k:Nat} {q:Ce} (as:Cr) (m:Nat) (Z:Nat->Bool->Prop) (h:(eY n k q as).ok m Z):as.length=n:=by
 unfold eY at h
 exact of_decide_eq_true (dS h).1
theorem Zfo {PK:Pk} {n k:Nat} {q:Ce} {C:Addr} {E:XK} {Q:VK} {D:Ends} {N:Co} {vs:Cp} {H:Hp} {u:TS} (hk:N.length - n=k) (h:qt PK n (eY n k q) C vs H Q E):ZaG (TAt PK q) (λ_ _ H'=>E (.ref C) none H') u D (L2.start N vs) H:=by
 obtain ⟨hv,pa,m,G,as,wd,ar,z⟩:=h
 unfold eY at z
 obtain ⟨_,z⟩:=dS z
 refine ⟨pa,G,H,m,_,G,Rl.start wd ar (by rw [hv]; exact hk),Tr.ok_mono z λm1 b hb G' H' s1 w1=>?_⟩
 obtain ⟨rfl,k1⟩:=hb
 exact k1 G' H' s1 w1
theorem Zfn {PK:Pk} {n k n':Nat} {i:List Sl->Tr Cr} {q:Ce} {C:Addr} {E:XK} {Q:VK} {D:Ends} {N:Co} {vs:Cp} {H:Hp} (hk:N.length - n=k) (hq:∀ as m Z,(q as).ok m Z->as.length=n') (h:qt PK n (eY n k λρ=>(i ρ).bind q) C vs H Q E):ZaE (TAa PK i) (qt PK n' q C) E D (L2.start N vs) H:=by
 obtain ⟨hv,pa,m,G,as,wd,ar,z⟩:=h
 unfold eY at z
 obtain ⟨_,z⟩:=dS z
 refine ⟨pa,G,H,m,_,G,Rl.start wd ar (by rw [hv]; exact hk),Tr.ok_mono (Tr.ok_bind.mp z) λm1 as1 z1 vs1 G1 H1 s1 w1 a1=>?_⟩
 exact ⟨by rw [a1.length]; exact hq _ _ _ z1,pa,m1,G1,as1,w1,a1,Tr.ok_mono z1 λm2 b hb=>⟨hb.1,λG' H' s2 w2=>hb.2 G' H' (s1.trans s2 w1.some) w2⟩⟩
end L2
set_option Elab.async false
set_option linter.all false
set_option maxRecDepth 100000
namespace Bar
variable (A:Nat->Nat->Int)
noncomputable def b9 (f:Nat->Int):Nat->Int
 | 0=>0
 | n+1=>b9 f n+f n
end Bar
set_option Elab.async false
set_option linter.all false
set_option maxRecDepth 100000
namespace Tw
open L2
end Tw
set_option Elab.async false
set_option linter.all false
set_option maxRecDepth 100000
namespace Tw
open L2
noncomputable def ce:Nat->List Int->List (Int×Int)
 | _,[]=>[]
 | k,w::l=>if w > 0 then ((k:Int),w)::ce (k+1) l else ce (k+1) l
theorem wO:∀ (l:Cm) (k:Nat),(ce k l).length<=l.length
 | [],k=>zp _
 | w::l,k=>by
  have:=wO l (k+1)
  unfold ce
  rw [zn]
  split
  ·rw [zn]; omega
  ·omega
theorem wN:∀ {l:Cm} {k:Nat} {q:Int×Int},q∈ce k l->(k:Int)<=q.1/\q.1 < k+l.length/\q.2∈l
 | [],k,q,h=>by cases h
 | w::l,k,q,h=>by
  unfold ce at h
  rw [zn]
  split at h
  ·rcases zq.mp h with rfl | h
   ·refine ⟨?_,?_,by simp⟩
    ·show (k:Int)<=(k:Int); omega
    ·show (k:Int) < _; omega
   ·obtain ⟨a,b,c⟩:=wN h
    exact ⟨by omega,by omega,Mt _ c⟩
  ·obtain ⟨a,b,c⟩:=wN h
   exact ⟨by omega,by omega,Mt _ c⟩
theorem wM {c:Int->Int}:∀ (l:Cm) (k:Nat),(∀ w∈l,0<=w)->((ce k l).map λq=>q.2 * c q.1).sum=ws c k l
 | [],k,_=>rfl
 | w::l,k,h=>by
  have ih:=wM (c:=c) l (k+1) λv hv=>h v (Mt _ hv)
  unfold ce ws
  by_cases hw:w > 0
  ·rw [if_pos hw,zm,zT,ih]
  ·have h0:=h w (by simp)
   have e:w=0:=by omega
   rw [if_neg hw,ih,e,A0,AT]
theorem ZgX {lo hi:Int} (h:lo < hi):aZ lo hi=.int lo::aZ (lo+1) hi:=by
 unfold aZ
 have e:(hi - lo).toNat=1+(hi - (lo+1)).toNat:=by omega
 rw [e,ZbC,Am]
 have e1:ap lo 1=[lo]:=by unfold ap; simp
 rw [e1]
 rfl
theorem ZcD {h:PyData->Tr (Option PyData)} {F:Int×Int->PyData}:∀ (l:Cm) (k:Nat),(∀ (i:Nat) (v:Int),l[i]?=some v->h (.int ((k:Int)+i))=.ret (if v > 0 then some (F ((k:Int)+i,v)) else none))->cO h (aZ k ((k:Int)+l.length))=.ret ((ce k l).map F)
 | [],k,_=>by
  have e:aZ (k:Int) ((k:Int)+(([]:Cm).length:Int))=[]:=by unfold aZ ap; simp
  rw [e]
  rfl
 | w::l,k,hh=>by
  have ih:=ZcD (h:=h) (F:=F) l (k+1) λi v hv=>by
   have:=hh (i+1) v (by rw [zZ]; exact hv)
   have e:(((k+1:Nat)):Int)+(i:Int)=(k:Int)+((i+1:Nat):Int):=by omega
   rw [e]
   exact this
  have h0:=hh 0 w (by simp)
  have e0:(k:Int)+((0:Nat):Int)=k:=by omega
  rw [e0] at h0
  rw [ZgX (by rw [zn]; omega),cO,h0,Tr.ret_bind]
  have e1:(k:Int)+(((w::l).length:Nat):Int)=((k+1:Nat):Int)+(l.length:Int):=by rw [zn]; omega
  have e2:(k:Int)+1=((k+1:Nat):Int):=by omega
  have eS:ce k (w::l)=if w > 0 then ((k:Int),w)::ce (k+1) l else ce (k+1) l:=rfl
  rw [e1,e2,ih,Tr.ret_bind,eS]
  by_cases hw:w > 0
  ·rw [if_pos hw,if_pos hw]; rfl
  ·rw [if_neg hw,if_neg hw]; rfl
noncomputable abbrev Rw:=Cm×Int
noncomputable def sw (X:List Rw) (d:Cm):List Rw:=X.flatMap λp=>(ce 0 d).map λq=>(p.1++[q.1],p.2 * q.2)
noncomputable def tot (X:List Rw) (c:List Int->Int):Int:=(X.map λp=>p.2 * c p.1).sum
theorem ZaR:∀ a b:Cm,(a++b).sum=a.sum+b.sum
 | [],b=>by simp
 | x::a,b=>by rw [Ap,zT,zT,ZaR a b]; omega
theorem ZfP (X Y:List Rw) (c:List Int->Int):tot (X++Y) c=tot X c+tot Y c:=by
 unfold tot
 rw [Am,ZaR]
theorem Zay {r:Cm} {w:Int} {c:List Int->Int}:∀ l:List (Int×Int),tot (l.map λq=>(r++[q.1],w * q.2)) c=w * (l.map λq=>q.2 * c (r++[q.1])).sum
 | []=>by simp [tot]
 | q::l=>by
  have ih:=Zay (r:=r) (w:=w) (c:=c) l
  unfold tot at ih ⊢
  rw [zm,zm,zT,ih,zm,zT,Bt,Bo]
theorem ZaB {d:Cm} (hd:∀ w∈d,0<=w) {c:List Int->Int}:∀ X:List Rw,tot (sw X d) c=tot X λr=>ws (λf=>c (r++[f])) 0 d
 | []=>rfl
 | p::X=>by
  have ih:=ZaB hd (c:=c) X
  have e:sw (p::X) d=((ce 0 d).map λq=>(p.1++[q.1],p.2 * q.2))++sw X d:=by unfold sw; rw [List.flatMap_cons]
  rw [e,ZfP,ih,Zay,wM d 0 hd (c:=λf=>c (p.1++[f]))]
  unfold tot
  rw [zm,zT]
noncomputable def av:List Cm->(List Int->Int)->Int
 | [],c=>c []
 | d::fs,c=>ws (λf=>av fs λr=>c (f::r)) 0 d
theorem sK:∀ {fs:List Cm} {X:List Rw} {c:List Int->Int},(∀ l∈fs,∀ w∈l,0<=w)->tot (fs.foldl sw X) c=tot X λr=>av fs λr'=>c (r++r')
 | [],X,c,_=>by
  unfold av
  simp
 | d::fs,X,c,h=>by
  rw [AA,sK λl hl=>h l (Mt _ hl),ZaB (h d (by simp))]
  simp only [av,Ae,Ap,At]
noncomputable def prd:List Cm->Int
 | []=>1
 | d::fs=>prd fs * d.sum
theorem wj {a:Int}:∀ (l:Cm) (k:Nat),ws (λ_=>a) k l=a * l.sum
 | [],k=>by simp [ws]
 | w::l,k=>by
  unfold ws
  rw [wj l,zT,Bt,BE]
theorem gM {f:Int->Int} {a b:Nat}:∀ {l:Cm} {k:Nat},(∀ w∈l,nb a w)->(∀ x:Int,(k:Int)<=x->x < k+l.length->nb b (f x))->nb (a+b+l.length) (ws f k l)
 | [],k,_,_=>by unfold ws nb; exact Ak (by simp)
 | w::l,k,hw,hf=>by
  rw [zn] at hf ⊢
  have h1:=cg (hw w (by simp)) (hf k (by omega) (by omega))
  have h2:=gM (f:=f) (a:=a) (b:=b) (l:=l) (k:=k+1) (λv hv=>hw v (Mt _ hv)) λx x1 x2=>hf x (by omega) (by omega)
  unfold ws
  exact ba (dJ h1 h2) (by omega)
end Tw
set_option Elab.async false
set_option linter.all false
set_option maxRecDepth 100000
namespace Tw
open L2
theorem oM {f g:Int->Int}:∀ {l:Cm} {k:Nat},(∀ w∈l,0<=w)->(∀ x∈bx k l,f x=g x)->ws f k l=ws g k l
 | [],k,_,_=>rfl
 | w::l,k,h0,h=>by
  unfold bx at h
  unfold ws
  by_cases hw:w > 0
  ·rw [if_pos hw] at h
   rw [h k (by simp),oM (l:=l) (k:=k+1) (λv hv=>h0 v (Mt _ hv)) λx hx=>h x (Mt _ hx)]
  ·rw [if_neg hw] at h
   have:=h0 w (by simp)
   have e:w=0:=by omega
   rw [e,A0,A0,oM (l:=l) (k:=k+1) (λv hv=>h0 v (Mt _ hv)) h]
theorem fo (d:Cm) (fs:List Cm):reach (d::fs)=great d+reach fs:=by
 unfold reach
 rw [zm,zT]
theorem fO:∀ {fs:List Cm},(∀ l∈fs,∃ n∈l,n > 0)->0<=reach fs
 | [],_=>by decide
 | d::fs,h=>by
  have:=fO (fs:=fs) λl hl=>h l (Mt _ hl)
  have h1:=(rf (sP (k:=0) (h d (by simp)))).1
  have h2:=wK h1
  rw [fo]
  unfold great
  omega
theorem ZaY:∀ (l:Cm) (k:Nat),(ce k l).map (λq=>PyData.int q.1)=(bx k l).map PyData.int
 | [],k=>rfl
 | w::l,k=>by
  have ih:=ZaY l (k+1)
  unfold ce bx
  by_cases hw:w > 0
  ·rw [if_pos hw,if_pos hw,zm,zm,ih]
  ·rw [if_neg hw,if_neg hw,ih]
end Tw
set_option Elab.async false
set_option linter.all false
set_option maxRecDepth 100000
namespace Tw
open L2
end Tw
set_option Elab.async false
set_option linter.all false
set_option maxRecDepth 100000
namespace Tw
open L2
end Tw
set_option Elab.async false
set_option linter.all false
set_option maxRecDepth 100000
namespace Tw
open L2
theorem u5 {d:Cm} {f:Int} (h:f∈bx 0 d):f<=great d:=by
 unfold great
 exact (rf (List.ne_nil_of_mem h)).2 f h
end Tw
set_option Elab.async false
set_option linter.all false
set_option maxRecDepth 100000
namespace L2
noncomputable def Zcb (c:Addr) (at' left:Int):HO:=.lst [.ref c,.int at',.int left]
structure Pen2 (H:Hp) (p c:Addr) (ns:Cm) (m:Nat):Prop where
 ex:∃ (k:Nat) (left:Int),H p=some (Zcb c k left)/\k<=m/\0<=left
 cells:H c=some (.lst (ns.map V.int))
 len:ns.length<=63
 ne:c≠p
def ZaU:Sp:=λvs H Q _=>∃ (p c:Addr) (ns:Cm) (m:Nat) (most:Int),vs=[.ref p,.int most]/\Pen2 H p c ns m/\m<=500000/\0 < most/\most < 1073741824 /\
 ∀ (r:Int) (H':Hp),0<=r->r < most->Pen2 H' p c ns (m+1)->Kept p H H'->Q (.int r) H'
def Zgk (K:Cb):Sp:=λvs H Q _=>∃ (a:Addr) (ns:Cm),vs=[.ref a]/\SqL K H a (ns.map V.int)/\ns.length<=63 /\
 ∀ (p c:Addr) (H':Hp),H p=none->Pen2 H' p c ns 0->Same H H'->Q (.ref p) H'
noncomputable def bu (cn:Addr×Cm):Pk where
 is:=λo G m=>∃ (k:Nat) (left:Int),o=Zcb cn.1 k left/\k<=m/\0<=left/\G cn.1=some (.lst (cn.2.map V.int))/\cn.2.length<=63
 mono:=λs ⟨k,left,e,h1,h2,h3,h4⟩=>⟨k,left,e,h1,h2,s _ _ h3,h4⟩
theorem Zhm {ι:Type} {X:Cx} {e:List Stmt} {t:ι->TS} (h:∀ i,PSs X e (t i)):PSs X e (λD σ H=>∃ i,t i D σ H):=λpins s σ H D I z=>by
 obtain ⟨i,z⟩:=z
 exact h i pins s σ H D I z
noncomputable def uG:Cg:=λas=>match as with
 | [.pen,.d (.int most)]=>.draw most λr=>.ret (.d (.int r))
 | _=>.fail
theorem ZdS {as:Cr} {m:Nat} {Z:Nat->Re->Prop} (h:(uG as).ok m Z):∃ most,as=[.pen,.d (.int most)]:=by
 unfold uG at h
 split at h
 ·exact ⟨_,rfl⟩
 ·exact h.elim
theorem Zkk {cn:Addr×Cm} {P:Program} {w:World} {K:Cb} {mg:Cq} {base:Heap} {x:Str} {k:Nat} {ps:Co} (hp:ps.length=2) (C:Callee P w K mg base x k ps ZaU):ACal (bu cn) P w K mg base x k ps uG:=by
 refine ⟨?_,λas m Z h=>by obtain ⟨most,rfl⟩:=ZdS h; exact hp.symm⟩
 obtain ⟨f,fd,F,hm,hk,hb⟩:=C.ex
 refine ⟨f,fd,F.imp λvs H Q E h=>?_,hm,hk,hb⟩
 obtain ⟨hv,pa,m,G,as,wd,ar,z⟩:=h
 obtain ⟨most,rfl⟩:=ZdS z
 obtain ⟨h1,h2,h3,h4⟩:=z
 cases ar with
 | cons a1 ar =>
  cases ar with
  | cons a2 ar =>
   cases ar
   cases a1
   cases a2 with
   | d d2 =>
    cases d2
    obtain ⟨c,ns⟩:=cn
    obtain ⟨o,ho,kk,left,rfl,q1,q2,q3,q4⟩:=wd.pen
    replace q3:G c=some (.lst (ns.map V.int)):=q3
    have ncp:c≠pa:=λz=>by rw [z,wd.gpa] at q3; cases q3
    refine ⟨pa,c,ns,m,most,rfl,⟨⟨kk,left,ho,q1,q2⟩,wd.sub _ _ q3,q4,ncp⟩,by omega,h2,h3,λr H' r0 r1 P' K'=>?_⟩
    refine h4 r r0 r1 (.int r) G H' ⟨λ_ _ q=>q,λ_ _ q=>.inl q,λb o e n=>K' b o e n⟩ ⟨λb o e=>K' b o (wd.sub b o e) (λz=>by subst z; rw [wd.gpa] at e; cases e),wd.gpa,?_⟩ (.int r)
    obtain ⟨⟨k2,l2,e2,g1,g2⟩,_,_,_⟩:=P'
    exact ⟨_,e2,k2,l2,rfl,g1,g2,q3,q4⟩
noncomputable def ZaT:Cb->Sp:=λK vs H Q _=>∃ (a:Addr) (ns:Cm),vs=[.ref a]/\SqL K H a (ns.map V.int)/\ns.length<=63/\∀ H',Q (.bl true) H'
theorem ZiU {D:Ends} {p c:Addr} {ns:Cm} {H:Hp} {σ:St} {s:Cf} {n:Nat} (P:Pen2 H p c ns 0) (hσ:σ.length=n+2) (h1:σ[1]?=some (some (.ref p))) (hrt:∀ H',D.rt (.bl true) H')
  (h:(s (.un::.pen::List.replicate n .un)).ok 0 λ_ o=>o=.ret (.d (.bool true))):∃ cn,br (bu cn) s D σ H:=by
 obtain ⟨⟨k,l,e,hk,hl⟩,hc,hn,ncp⟩:=P
 have npc:p≠c:=Ne.symm ncp
 have key:∀ (i:Nat) (sl:Sl),(Sl.un::.pen::List.replicate n .un)[i]?=some sl->sl=.un\/(i=1/\sl=.pen):=λi sl hi=>by
  match i with
  | 0=>simp at hi; exact .inl hi.symm
  | 1=>simp at hi; exact .inr ⟨rfl,hi.symm⟩
  | i+2 =>
   simp [zW] at hi
   exact .inl hi.2.symm
 refine ⟨(c,ns),p,λb=>if b=c then H c else none,H,0,_,λb=>if b=c then H c else none,⟨⟨λb o hb=>?_,if_neg npc,?_⟩,.refl,⟨_,e⟩,λi sl hi=>?_,by simp [hσ],λi j xs ys _ hi _=>?_,λi j xs ys _ hi _=>by rcases key i _ hi with z | ⟨_,z⟩ <;> cases z⟩,Tr.ok_mono h λm o ho=>?_⟩
 ·by_cases hbc:b=c
  ·subst hbc; simpa using hb
  ·simp [hbc] at hb
 ·exact ⟨_,e,k,l,rfl,hk,hl,by simp [hc],hn⟩
 ·have hlt:i < σ.length:=by
   have:=(zu.mp hi).1
   simp at this
   omega
  rcases key i sl hi with rfl | ⟨rfl,rfl⟩
  ·exact ⟨σ[i],by simp [hlt],.un⟩
  ·exact ⟨_,h1,.pen⟩
 ·rcases key i _ hi with z | ⟨_,z⟩ <;> cases z
 ·subst ho
  intro v G H' s' w' d
  cases (show Dn G v (.bool true) from d)
  exact hrt H'
end L2
set_option Elab.async false
set_option linter.all false
set_option maxRecDepth 100000
namespace My
open L2
noncomputable def top (i:Nat):Stmt:=PySem.Challenge.pw_twomarks_k43_short_tables_told.main.body.getD i (.Pass ⟨0,0,0,0⟩)
noncomputable abbrev tJ:Stmt:=top 11
abbrev ZmY:Co:=["one","other"]
theorem wW:FnScope ZmY ["one","other"] (aN tJ):=by trivial
noncomputable abbrev tw:Stmt:=top 12
abbrev ZmQ:Co:=["top","bottom","divisor"]
theorem wU:FnScope ZmQ ["top","bottom"] (aN tw):=by trivial
noncomputable abbrev qE:Stmt:=top 23
abbrev sB:Co:=["day"]
theorem ZgD:FnScope sB ["day"] (aN qE):=by trivial
noncomputable abbrev tD:Stmt:=top 24
abbrev ZmS:Co:=["shop","level","fall"]
theorem ZgB:FnScope ZmS ["shop","level","fall"] (aN tD):=by trivial
noncomputable abbrev tG:Stmt:=top 25
abbrev ZmW:Co:=["shop","level","fall","stock","sold_never","held"]
theorem sW:FnScope ZmW ["shop","level","fall"] (aN tG):=by trivial
noncomputable abbrev tF:Stmt:=top 26
abbrev ZmV:Co:=["shop","stock"]
theorem ZgF:FnScope ZmV ["shop","stock"] (aN tF):=by trivial
noncomputable abbrev tK:Stmt:=top 28
abbrev ZmZ:Co:=["shop","low","by_level","scale","picks","best","stock","own","cost","level"]
theorem gU:FnScope ZmZ ["shop","low","by_level","scale"] (aN tK):=by trivial
noncomputable abbrev qF:Stmt:=top 30
abbrev vX:Co:=["shop","falls","t"]
theorem ZgE:FnScope vX ["shop","falls","t"] (aN qF):=by trivial
noncomputable abbrev tL:Stmt:=top 32
abbrev Zm0:Co:=["shop","falls","stock"]
theorem Za9:FnScope Zm0 ["shop","falls","stock"] (aN tL):=by trivial
noncomputable abbrev tz:Stmt:=top 33
abbrev ZmR:Co:=["days","scale","day"]
theorem sV:FnScope ZmR ["days"] (aN tz):=by trivial
noncomputable abbrev tm:Stmt:=top 34
abbrev ZmO:Co:=["days","weights","day","longer","fallen","weight","fall","own"]
theorem gb:FnScope ZmO ["days"] (aN tm):=by trivial
noncomputable abbrev qA:Stmt:=top 35
abbrev sy:Co:=["shop","weights","stock"]
theorem Zgz:FnScope sy ["shop","weights","stock"] (aN qA):=by trivial
noncomputable abbrev qz:Stmt:=top 36
abbrev sx:Co:=["shop","weights","stock"]
theorem Zgy:FnScope sx ["shop","weights","stock"] (aN qz):=by trivial
noncomputable abbrev qB:Stmt:=top 37
abbrev sA:Co:=["day","ahead","level"]
theorem ZgA:FnScope sA ["day","ahead","level"] (aN qB):=by trivial
noncomputable abbrev tH:Stmt:=top 38
abbrev ZmX:Co:=["shop","falls","days","ahead","low","scale","later","weights","by_level","level","total"]
theorem iR:FnScope ZmX ["shop","falls","days","ahead","low"] (aN tH):=by trivial
noncomputable abbrev qC:Stmt:=top 39
abbrev vW:Co:=["falls","t","stock"]
theorem ZgC:FnScope vW ["falls","t","stock"] (aN qC):=by trivial
noncomputable abbrev qG:Stmt:=top 40
abbrev vY:Co:=["shop","falls","orders","stock","weights","low"]
theorem wV:FnScope vY ["shop","falls","orders","stock"] (aN qG):=by trivial
noncomputable abbrev oV:Stmt:=top 41
abbrev f9:Co:=["shop","falls","days","stock","orders","ahead","told","t","low","scale","picks"]
theorem gc:FnScope f9 ["shop","falls","days","stock"] (aN oV):=by trivial
noncomputable abbrev tE:Stmt:=top 42
abbrev ZmT:Co:=["shop","falls","days","stock","told","total","t"]
theorem qy:FnScope ZmT ["shop","falls","days","stock"] (aN tE):=by trivial
noncomputable abbrev tu:Stmt:=top 43
abbrev ZmP:Co:=["shop","falls","days","stock","told","total"]
theorem sU:FnScope ZmP ["shop","falls","days","stock"] (aN tu):=by trivial
noncomputable abbrev tR:Stmt:=top 45
abbrev Zm6:Co:=["_law_script"]
theorem ZgH:FnScope Zm6 ["_law_script"] (aN tR):=by trivial
noncomputable abbrev tV:Stmt:=top 46
abbrev Zna:Co:=["_law_pen_here","_law_many","_law_digit","_law_at","_law_cell","_law_mixed"]
theorem oU:FnScope Zna ["_law_pen_here","_law_many"] (aN tV):=by trivial
noncomputable abbrev qL:Stmt:=top 47
abbrev v6:Co:=["_law_pen_here","_law_most","_law_behind","_law_bound","_law_weights"]
theorem tf:FnScope v6 ["_law_pen_here","_law_most"] (aN qL):=by trivial
noncomputable abbrev qJ:Stmt:=top 48
abbrev qh:Co:=["_law_falls"]
theorem ZgJ:FnScope qh ["_law_falls"] (aN qJ):=by trivial
noncomputable abbrev qH:Stmt:=top 49
abbrev vZ:Co:=["_law_pen_here","_law_bound","_law_found"]
theorem wY:FnScope vZ ["_law_pen_here"] (aN qH):=by trivial
noncomputable abbrev qM:Stmt:=top 50
abbrev v7:Co:=["_law_pen_here","_law_shapes","_law_way","_law_most","_law_many","_law_falls","_law_more","_law_top","_law_depth","_law_stock"]
theorem fm:FnScope v7 ["_law_pen_here"] (aN qM):=by trivial
noncomputable abbrev tS:Stmt:=top 51
abbrev Zm7:Co:=["_law_shop","_law_pieces"]
theorem ZgI:FnScope Zm7 ["_law_shop","_law_pieces"] (aN tS):=by trivial
noncomputable abbrev tP:Stmt:=top 52
abbrev Zm4:Co:=["_law_shop","_law_rest"]
theorem ZgG:FnScope Zm4 ["_law_shop","_law_rest"] (aN tP):=by trivial
noncomputable abbrev tU:Stmt:=top 53
abbrev Zm9:Co:=["_law_shop","_law_rest"]
theorem ZgK:FnScope Zm9 ["_law_shop","_law_rest"] (aN tU):=by trivial
noncomputable abbrev tW:Stmt:=top 54
abbrev Znb:Co:=["_law_falls","_law_t","_law_found","_law_one"]
theorem tj:FnScope Znb ["_law_falls","_law_t"] (aN tW):=by trivial
noncomputable abbrev tN:Stmt:=top 55
abbrev Zm2:Co:=["_law_top","_law_bottom_here","_law_one","_law_other"]
theorem wX:FnScope Zm2 ["_law_top","_law_bottom_here"] (aN tN):=by trivial
noncomputable abbrev qI:Stmt:=top 56
abbrev sC:Co:=["_law_shop","_law_falls","_law_level","_law_has_end","_law_found","_law_rows","_law_one","_law_more","_law_many","_law_rest"]
theorem fk:FnScope sC ["_law_shop","_law_falls","_law_level","_law_has_end"] (aN qI):=by trivial
noncomputable abbrev tO:Stmt:=top 57
abbrev Zm3:Co:=["_law_shop","_law_falls","_law_days","_law_t","_law_lowest","_law_later","_law_last","_law_own_sums","_law_level","_law_own","_law_fall","_law_weight","_law_found","_law_stock","_law_costs"]
theorem eP:FnScope Zm3 ["_law_shop","_law_falls","_law_days","_law_t","_law_lowest","_law_later"] (aN tO):=by trivial
noncomputable abbrev tT:Stmt:=top 58
abbrev Zm8:Co:=["_law_shop","_law_falls","_law_days","_law_stock","_law_found","_law_t"]
theorem sZ:FnScope Zm8 ["_law_shop","_law_falls","_law_days","_law_stock"] (aN tT):=by trivial
noncomputable abbrev qK:Stmt:=top 59
abbrev v5:Co:=["_law_shop","_law_falls","_law_days","_law_stock","_law_found","_law_later","_law_t","_law_lowest","_law_bottom_here","_law_cost"]
theorem ge:FnScope v5 ["_law_shop","_law_falls","_law_days","_law_stock"] (aN qK):=by trivial
noncomputable abbrev tQ:Stmt:=top 60
abbrev Zm5:Co:=["_law_shop","_law_falls","_law_days","_law_stock","_law_caught","e"]
theorem sY:FnScope Zm5 ["_law_shop","_law_falls","_law_days","_law_stock"] (aN tQ):=by trivial
noncomputable abbrev tM:Stmt:=top 61
abbrev Zm1:Co:=["_law_pen_here","_law_shop","_law_falls","_law_room","_law_tight","_law_stock"]
theorem sX:FnScope Zm1 ["_law_pen_here","_law_shop","_law_falls"] (aN tM):=by trivial
noncomputable abbrev qD:Stmt:=top 62
abbrev ZmU:Co:=["_law_script","_law_pen_here","_law_turn","_law_shop","_law_falls","_law_stock","_law_kept","_law_lowest","_law_other","_law_days","_law_some","_law_here","_law_told"]
theorem eF:FnScope ZmU ["_law_script"] (aN qD):=by trivial
structure Txt (K:Cb) (mg:Cq):Prop where
 fx:mg "len"=none
 pE:mg "abs"=none
 iW:mg "max"=none
 qZ:mg "min"=none
 uo:mg "repr"=none
 Zcv:mg "int"=none
 Zio:mg "list"=none
 pD:mg "tuple"=none
 dw:mg "range"=none
 xB:mg "isinstance"=none
 Zin:mg "sorted"=none
 hW:mg "sum"=none
 gm:mg "enumerate"=none
 Zip:mg "ValueError"=none
 Zcu:mg "reversed"=none
 u6:∃ t,mg "TOP"=some (.int 0 t)
 Zdm:∃ t,mg "DEPTH"=some (.int 1 t)
 Zjz:∃ t,mg "START"=some (.int 2 t)
 Zdl:∃ t,mg "PIECE"=some (.int 3 t)
 ZjD:∃ t,mg "KEEP"=some (.int 4 t)
 ZjC:∃ t,mg "LACK"=some (.int 5 t)
 ZjA:∃ t,mg "LOST"=some (.int 6 t)
 ZjE:∃ t,mg "BACK"=some (.int 7 t)
 ZjB:∃ t,mg "LATE"=some (.int 8 t)
 ZkL:Def K mg "common_divisor" tJ ["one","other"]
 Zkx:Def K mg "share" tw ["top","bottom"]
 ZkE:Def K mg "greatest_seen" qE ["day"]
 ZkA:Def K mg "next_stock" tD ["shop","level","fall"]
 ZkJ:Def K mg "day_cost" tG ["shop","level","fall"]
 ZkH:Def K mg "end_cost" tF ["shop","stock"]
 ZkM:Def K mg "cheapest_from" tK ["shop","low","by_level","scale"]
 ZkG:Def K mg "free_from" qF ["shop","falls","t"]
 Zd8:Def K mg "ask_free" tL ["shop","falls","stock"]
 Zkz:Def K mg "scale_of" tz ["days"]
 Zks:Def K mg "weights_together" tm ["days"]
 Zku:Def K mg "weighed_day" qA ["shop","weights","stock"]
 Zkt:Def K mg "weighed_end" qz ["shop","weights","stock"]
 Zkv:Def K mg "weighed_ahead" qB ["day","ahead","level"]
 ZkK:Def K mg "counted_sums" tH ["shop","falls","days","ahead","low"]
 ZkC:Def K mg "least_counted" qC ["falls","t","stock"]
 ZkI:Def K mg "end_ahead" qG ["shop","falls","orders","stock"]
 Zkw:Def K mg "short_days" oV ["shop","falls","days","stock"]
 ZkB:Def K mg "least_late" tE ["shop","falls","days","stock"]
 Zd7:Def K mg "short_table" tu ["shop","falls","days","stock"]
 ZkT:Def K mg "_law_pen" tR ["_law_script"]
 Zk0:Def K mg "_law_draw" tV ["_law_pen_here","_law_many"]
 Zk1:Def K mg "_law_day" qL ["_law_pen_here","_law_most"]
 ZkW:Def K mg "_law_greatest" qJ ["_law_falls"]
 ZkS:Def K mg "_law_prices" qH ["_law_pen_here"]
 Zk3:Def K mg "_law_asked" qM ["_law_pen_here"]
 ZkU:Def K mg "_law_order" tS ["_law_shop","_law_pieces"]
 ZkQ:Def K mg "_law_rest_cost" tP ["_law_shop","_law_rest"]
 ZkY:Def K mg "_law_end" tU ["_law_shop","_law_rest"]
 Zk2:Def K mg "_law_bottom" tW ["_law_falls","_law_t"]
 ZkO:Def K mg "_law_share" tN ["_law_top","_law_bottom_here"]
 ZkV:Def K mg "_law_lying" qI ["_law_shop","_law_falls","_law_level","_law_has_end"]
 ZkP:Def K mg "_law_row" tO ["_law_shop","_law_falls","_law_days","_law_t","_law_lowest","_law_later"]
 ZkX:Def K mg "_law_first_days" tT ["_law_shop","_law_falls","_law_days","_law_stock"]
 ZkZ:Def K mg "_law_due" qK ["_law_shop","_law_falls","_law_days","_law_stock"]
 ZkR:Def K mg "_law_refused" tQ ["_law_shop","_law_falls","_law_days","_law_stock"]
 ZkN:Def K mg "_law_tight_right" tM ["_law_pen_here","_law_shop","_law_falls"]
 ZkD:Def K mg "law" qD ["_law_script"]
 Zfp:∃ C D a0 a1 a2 a3 a4 a5 a6:Addr,mg "NoStand"=some (.ref C)/\mg "ShopError"=some (.ref D)/\mg "NoBack"=some (.ref a0)/\mg "NoFall"=some (.ref a1)/\mg "NoLevel"=some (.ref a2)/\mg "NoMean"=some (.ref a3)/\mg "NoRow"=some (.ref a4)/\mg "NoShare"=some (.ref a5)/\mg "NoText"=some (.ref a6)/\Exc K C D [a0,a1,a2,a3,a4,a5,a6]
theorem ZjW {K:Cb} {mg:Cq} {h:Heap} {C D a0 a1 a2 a3 a4 a5 a6:Addr} (X:K.In h) (G:h.Ns mainGlobals mg)
  (c:PySem.W.nsIn K mainGlobals "NoStand"=some (some (.ref C))) (d:PySem.W.nsIn K mainGlobals "ShopError"=some (some (.ref D)))
  (z0:PySem.W.nsIn K mainGlobals "NoBack"=some (some (.ref a0))) (z1:PySem.W.nsIn K mainGlobals "NoFall"=some (some (.ref a1))) (z2:PySem.W.nsIn K mainGlobals "NoLevel"=some (some (.ref a2))) (z3:PySem.W.nsIn K mainGlobals "NoMean"=some (some (.ref a3))) (z4:PySem.W.nsIn K mainGlobals "NoRow"=some (some (.ref a4))) (z5:PySem.W.nsIn K mainGlobals "NoShare"=some (some (.ref a5))) (z6:PySem.W.nsIn K mainGlobals "NoText"=some (some (.ref a6)))
  (q:fL K C iy "ValueError.__new__"=true) (q2:fL K D iy "ValueError.__new__"=true) (u:uq K C D=true) (v:PySem.W.kitOne K (.ref C) (.type "ValueError")=some true) (y:PySem.W.kitAny K (.ref C) [.ref a0,.ref a1,.ref a2,.ref a3,.ref a4,.ref a5,.ref a6]=some false) :
  ∃ C D a0 a1 a2 a3 a4 a5 a6:Addr,mg "NoStand"=some (.ref C)/\mg "ShopError"=some (.ref D)/\mg "NoBack"=some (.ref a0)/\mg "NoFall"=some (.ref a1)/\mg "NoLevel"=some (.ref a2)/\mg "NoMean"=some (.ref a3)/\mg "NoRow"=some (.ref a4)/\mg "NoShare"=some (.ref a5)/\mg "NoText"=some (.ref a6)/\Exc K C D [a0,a1,a2,a3,a4,a5,a6] :=
 ⟨C,D,a0,a1,a2,a3,a4,a5,a6,zV X G c,zV X G d,zV X G z0,zV X G z1,zV X G z2,zV X G z3,zV X G z4,zV X G z5,zV X G z6,ZjL X q q2 u v y⟩
theorem ZfF {K:Cb} {mg:Cq} {h:Heap} (X:K.In h) (G:h.Ns mainGlobals mg)
  (z_len:PySem.W.nsIn K mainGlobals "len"=some none)
  (z_abs:PySem.W.nsIn K mainGlobals "abs"=some none)
  (z_max:PySem.W.nsIn K mainGlobals "max"=some none)
  (z_min:PySem.W.nsIn K mainGlobals "min"=some none)
  (z_repr:PySem.W.nsIn K mainGlobals "repr"=some none)
  (z_int:PySem.W.nsIn K mainGlobals "int"=some none)
  (z_list:PySem.W.nsIn K mainGlobals "list"=some none)
  (z_tuple:PySem.W.nsIn K mainGlobals "tuple"=some none)
  (z_range:PySem.W.nsIn K mainGlobals "range"=some none)
  (z_isinstance:PySem.W.nsIn K mainGlobals "isinstance"=some none)
  (z_sorted:PySem.W.nsIn K mainGlobals "sorted"=some none)
  (z_sum:PySem.W.nsIn K mainGlobals "sum"=some none)
  (z_enumerate:PySem.W.nsIn K mainGlobals "enumerate"=some none)
  (z_ValueError:PySem.W.nsIn K mainGlobals "ValueError"=some none)
  (z_reversed:PySem.W.nsIn K mainGlobals "reversed"=some none)
  {t_TOP:Tok} (z_TOP:PySem.W.nsIn K mainGlobals "TOP"=some (some (.int 0 t_TOP)))
  {t_DEPTH:Tok} (z_DEPTH:PySem.W.nsIn K mainGlobals "DEPTH"=some (some (.int 1 t_DEPTH)))
  {t_START:Tok} (z_START:PySem.W.nsIn K mainGlobals "START"=some (some (.int 2 t_START)))
  {t_PIECE:Tok} (z_PIECE:PySem.W.nsIn K mainGlobals "PIECE"=some (some (.int 3 t_PIECE)))
  {t_KEEP:Tok} (z_KEEP:PySem.W.nsIn K mainGlobals "KEEP"=some (some (.int 4 t_KEEP)))
  {t_LACK:Tok} (z_LACK:PySem.W.nsIn K mainGlobals "LACK"=some (some (.int 5 t_LACK)))
  {t_LOST:Tok} (z_LOST:PySem.W.nsIn K mainGlobals "LOST"=some (some (.int 6 t_LOST)))
  {t_BACK:Tok} (z_BACK:PySem.W.nsIn K mainGlobals "BACK"=some (some (.int 7 t_BACK)))
  {t_LATE:Tok} (z_LATE:PySem.W.nsIn K mainGlobals "LATE"=some (some (.int 8 t_LATE)))
  (z_common_divisor:Def K mg "common_divisor" tJ ["one","other"])
  (z_share:Def K mg "share" tw ["top","bottom"])
  (z_greatest_seen:Def K mg "greatest_seen" qE ["day"])
  (z_next_stock:Def K mg "next_stock" tD ["shop","level","fall"])
  (z_day_cost:Def K mg "day_cost" tG ["shop","level","fall"])
  (z_end_cost:Def K mg "end_cost" tF ["shop","stock"])
  (z_cheapest_from:Def K mg "cheapest_from" tK ["shop","low","by_level","scale"])
  (z_free_from:Def K mg "free_from" qF ["shop","falls","t"])
  (z_ask_free:Def K mg "ask_free" tL ["shop","falls","stock"])
  (z_scale_of:Def K mg "scale_of" tz ["days"])
  (z_weights_together:Def K mg "weights_together" tm ["days"])
  (z_weighed_day:Def K mg "weighed_day" qA ["shop","weights","stock"])
  (z_weighed_end:Def K mg "weighed_end" qz ["shop","weights","stock"])
  (z_weighed_ahead:Def K mg "weighed_ahead" qB ["day","ahead","level"])
  (z_counted_sums:Def K mg "counted_sums" tH ["shop","falls","days","ahead","low"])
  (z_least_counted:Def K mg "least_counted" qC ["falls","t","stock"])
  (z_end_ahead:Def K mg "end_ahead" qG ["shop","falls","orders","stock"])
  (z_short_days:Def K mg "short_days" oV ["shop","falls","days","stock"])
  (z_least_late:Def K mg "least_late" tE ["shop","falls","days","stock"])
  (z_short_table:Def K mg "short_table" tu ["shop","falls","days","stock"])
  (z__law_pen:Def K mg "_law_pen" tR ["_law_script"])
  (z__law_draw:Def K mg "_law_draw" tV ["_law_pen_here","_law_many"])
  (z__law_day:Def K mg "_law_day" qL ["_law_pen_here","_law_most"])
  (z__law_greatest:Def K mg "_law_greatest" qJ ["_law_falls"])
  (z__law_prices:Def K mg "_law_prices" qH ["_law_pen_here"])
  (z__law_asked:Def K mg "_law_asked" qM ["_law_pen_here"])
  (z__law_order:Def K mg "_law_order" tS ["_law_shop","_law_pieces"])
  (z__law_rest_cost:Def K mg "_law_rest_cost" tP ["_law_shop","_law_rest"])
  (z__law_end:Def K mg "_law_end" tU ["_law_shop","_law_rest"])
  (z__law_bottom:Def K mg "_law_bottom" tW ["_law_falls","_law_t"])
  (z__law_share:Def K mg "_law_share" tN ["_law_top","_law_bottom_here"])
  (z__law_lying:Def K mg "_law_lying" qI ["_law_shop","_law_falls","_law_level","_law_has_end"])
  (z__law_row:Def K mg "_law_row" tO ["_law_shop","_law_falls","_law_days","_law_t","_law_lowest","_law_later"])
  (z__law_first_days:Def K mg "_law_first_days" tT ["_law_shop","_law_falls","_law_days","_law_stock"])
  (z__law_due:Def K mg "_law_due" qK ["_law_shop","_law_falls","_law_days","_law_stock"])
  (z__law_refused:Def K mg "_law_refused" tQ ["_law_shop","_law_falls","_law_days","_law_stock"])
  (z__law_tight_right:Def K mg "_law_tight_right" tM ["_law_pen_here","_law_shop","_law_falls"])
  (z_law:Def K mg "law" qD ["_law_script"])
  (z_err:∃ C D a0 a1 a2 a3 a4 a5 a6:Addr,mg "NoStand"=some (.ref C)/\mg "ShopError"=some (.ref D)/\mg "NoBack"=some (.ref a0)/\mg "NoFall"=some (.ref a1)/\mg "NoLevel"=some (.ref a2)/\mg "NoMean"=some (.ref a3)/\mg "NoRow"=some (.ref a4)/\mg "NoShare"=some (.ref a5)/\mg "NoText"=some (.ref a6)/\Exc K C D [a0,a1,a2,a3,a4,a5,a6])
  : Txt K mg:=⟨zO X G z_len,zO X G z_abs,zO X G z_max,zO X G z_min,zO X G z_repr,zO X G z_int,zO X G z_list,zO X G z_tuple,zO X G z_range,zO X G z_isinstance,zO X G z_sorted,zO X G z_sum,zO X G z_enumerate,zO X G z_ValueError,zO X G z_reversed,⟨_,zV X G z_TOP⟩,⟨_,zV X G z_DEPTH⟩,⟨_,zV X G z_START⟩,⟨_,zV X G z_PIECE⟩,⟨_,zV X G z_KEEP⟩,⟨_,zV X G z_LACK⟩,⟨_,zV X G z_LOST⟩,⟨_,zV X G z_BACK⟩,⟨_,zV X G z_LATE⟩,z_common_divisor,z_share,z_greatest_seen,z_next_stock,z_day_cost,z_end_cost,z_cheapest_from,z_free_from,z_ask_free,z_scale_of,z_weights_together,z_weighed_day,z_weighed_end,z_weighed_ahead,z_counted_sums,z_least_counted,z_end_ahead,z_short_days,z_least_late,z_short_table,z__law_pen,z__law_draw,z__law_day,z__law_greatest,z__law_prices,z__law_asked,z__law_order,z__law_rest_cost,z__law_end,z__law_bottom,z__law_share,z__law_lying,z__law_row,z__law_first_days,z__law_due,z__law_refused,z__law_tight_right,z_law,z_err⟩
theorem Zlg (ns:Cm) (a:Nat) (h:ns≠[]):∃ z:Int,bp (ns.map V.int) ((a:Int) % ((ns.map V.int).length:Nat))=some (.int z):=by
 have hl:0 < ns.length:=Br.mpr h
 have hl':(ns.map V.int).length=ns.length:=zo ..
 have e:(a:Int) % ((ns.map V.int).length:Nat)=((a % ns.length:Nat):Int):=by rw [hl']; omega
 have hlt:a % ns.length < ns.length:=Nat.mod_lt _ hl
 rw [e]
 exact ⟨ns[a % ns.length],fI (by rw [zH,zP hlt]; rfl)⟩
section
variable {P:Program} {w:World} {K:Cb} {mg:Cq} {base:Heap}
theorem Zh8 (T:Txt K mg):Callee P w K mg base "_law_pen" 1 ["_law_script"] (Zgk K):=by
 refine T.ZkT.ok ZgH (λvs H Q E h=>?_) (λf cdv A outer s H vs Q E hr h=>?_)
 ·obtain ⟨a,ns,rfl,_⟩:=h
  rfl
 ·obtain ⟨a,ns,rfl,hS,hlen,k⟩:=h
  have hu:=fT hr
  refine ⟨_,(fr (gg (Zce (bG (fu (Zlp) rfl T.Zio boot_list (bG (Zcd Za2 (pv 0) Zb9 (Zb8 bS)) cz)) (bG bS (bG bS cz)))))),?_⟩
  refine ⟨_,rfl,63,rfl,a,_,rfl,hS,λq hq=>⟨q,_,rfl,Or.inl (SqL.of bH),λc hc=>⟨by show 3<=sizeLine; decide,λp hp=>?_⟩⟩⟩
  have hcut:e7 (ns.map V.int) none (some 63)=ns.map V.int:=by
   unfold e7
   have e:HT.aP (ns.map V.int).length (ns.map V.int).length (some 63)=(ns.map V.int).length:=by
    have q:=HT.oW (ns.map V.int).length (ns.map V.int).length 63
    rw [zo] at q ⊢
    exact q.trans (BS hlen)
   rw [e]
   show ((ns.map V.int).drop 0).take ((ns.map V.int).length - 0)=_
   rw [AJ,Nat.sub_zero,BB]
  have s1:Same H (upd H q (.lst (e7 (ns.map V.int) none (some 63)))):=(Same.refl _).new hq
  have s2:=s1.new (o:=.lst (e7 (ns.map V.int) none (some 63))) hc
  have s3:=s2.new (o:=.lst [.ref c,.int 0,.int 0]) hp
  have npc:c≠p:=λz=>by
   rw [<- z,bH] at hp
   cases hp
  refine k p c _ (s2.free hp) ⟨⟨0,0,bH,zp _,zU _⟩,?_,hlen,npc⟩ s3
  rw [ay npc,bH,hcut]
theorem ZlU {z a:Int} (h3:0<=a) (h4:a<=500000):(z % 2147483629+40503 * a+331).natAbs < 2 ^ 64:=by
 have:=Ba z (by decide:(2147483629:Int)≠0)
 have:=AX z (by decide:(0:Int) < 2147483629)
 omega
theorem Zia (T:Txt K mg):Callee P w K mg base "_law_draw" 1 ["_law_pen_here","_law_many"] ZaU:=by
 refine T.Zk0.ok oU (λvs H Q E h=>?_) (λf cdv A outer s H vs Q E hr h=>?_)
 ·obtain ⟨p,c,ns,m,most,rfl,_⟩:=h
  rfl
 ·obtain ⟨p,c,ns,m,most,rfl,hP,hm,h0,h1,k⟩:=h
  have hu:=fT hr
  refine ⟨_,(dq (pd (qS eV (ft fF (pv 0) bS (λ_ _=>rfl)) bS (nomark _)) (dq (aJ (i:=2) oU.nd rfl (.inl rfl) (cw hI (ft fF (pv 0) bS (λ_ _=>rfl)) (pv 1)))
 (dq (fP (cw xu (ft fF (pv 0) bS (λ_ _=>rfl)) (pv 1)) (qT (pv 0) bS oS))
 (fr (gg (pv 2))))) pb)
 (dq (aJ (i:=3) oU.nd rfl (.inl rfl) (ft fF (pv 0) bS (λ_ _=>rfl)))
 (dq (fP (cw iV (pv 3) bS) (qT (pv 0) bS oS))
 (dq (aJ (i:=4) oU.nd rfl (.inl rfl) (cw iV (cw xr bS (pv 3)) bS))
 (dq (PS.join (pd (qS eV (bj (fH) rfl T.fx boot_len (bG (ft fF (pv 0) bS (λ_ _=>rfl)) cz)) bS (nomark _)) (fr (aJ (i:=4) oU.nd rfl (.inl rfl) (ft fF (ft fF (pv 0) bS (λ_ _=>rfl)) (cw hI (pv 3) (bj (fH) rfl T.fx boot_len (bG (ft fF (pv 0) bS (λ_ _=>rfl)) cz))) (λ_ _=>rfl)))) pb))
 (dq (pd (PT.join (PW.pt (Zb5 (qS qW (pv 3) (bj (fH) rfl T.fx boot_len (bG (ft fF (pv 0) bS (λ_ _=>rfl)) cz)) (nomark _)) (Zb4 (qS Zh3 (bj (pX) rfl T.pE boot_abs (bG (pv 4) cz)) (cw xq bS bS) (nomark _)))))) (dq (fP (cw xu (bj (pX) rfl T.pE boot_abs (bG (pv 4) cz)) (pv 1)) (qT (pv 0) bS oS))
 (fr (gg (cw hI (bj (pX) rfl T.pE boot_abs (bG (pv 4) cz)) (pv 1))))) pb)
 (dq (aJ (i:=5) oU.nd rfl (.inl rfl) (cw hI (cw xq (cw iV (cw iV (cw hI (pv 4) bS) (cw xr bS (pv 3))) bS) bS) bS))
 (fr (gg (cw hI (cw xu (cw hI (cw xr (pv 5) (cw iV (cw iV (cw hI (pv 5) bS) (pv 3)) bS)) bS) bS) (pv 1))))))))))),?_⟩
  obtain ⟨⟨a,l,hd,ha,hl⟩,hc,hn,npc⟩:=hP
  have hd':H p=some (.lst [.ref c,.int a,.int l]):=hd
  have x2:bp [V.ref c,.int (a:Int),.int l] 2=some (.int l):=gC
  have x1:bp [V.ref c,.int (a:Int),.int l] 1=some (.int (a:Int)):=gD
  refine ⟨_,rfl,p,_,_,_,rfl,rfl,SqL.of hd',x2,_,_,rfl,rfl,_,rfl,?_⟩
  refine uZ (λhz=>?_) (λhz=>?_)
  ·refine ⟨_,rfl,p,_,_,_,rfl,rfl,SqL.of hd',x2,_,rfl,_,_,rfl,rfl,h0,?_⟩
   refine ⟨_,rfl,p,_,_,_,rfl,rfl,SqL.of hd',x2,_,rfl,_,_,rfl,rfl,⟨h0,h1⟩,_,rfl,p,_,2,2,rfl,rfl,hd',rfl,?_⟩
   refine ⟨_,rfl,k _ _ (Ba _ (by omega)) (AX _ h0) ⟨⟨a,l / most,bH,by omega,Int.ediv_nonneg hl (by omega)⟩,by rw [ay npc]; exact hc,hn,npc⟩ Kept.refl.pen⟩
  ·refine ⟨_,rfl,p,_,_,_,rfl,rfl,SqL.of hd',x1,?_⟩
   refine ⟨_,rfl,_,_,rfl,rfl,_,rfl,p,_,1,1,rfl,rfl,hd',rfl,?_⟩
   have hd1:(upd H p (.lst ([V.ref c,.int (a:Int),.int l].set 1 (.int ((a:Int)+1))))) p=some (.lst [.ref c,.int ((a:Int)+1),.int l]):=bH
   have hc1:(upd H p (.lst ([V.ref c,.int (a:Int),.int l].set 1 (.int ((a:Int)+1))))) c=some (.lst (ns.map V.int)):=by
    rw [ay npc]
    exact hc
   have k1:Kept p H (upd H p (.lst ([V.ref c,.int (a:Int),.int l].set 1 (.int ((a:Int)+1))))):=Kept.refl.pen
   generalize upd H p (.lst ([V.ref c,.int (a:Int),.int l].set 1 (.int ((a:Int)+1))))=H1 at hd1 hc1 k1
   have y0:bp [V.ref c,.int ((a:Int)+1),.int l] 0=some (.ref c):=f8
   refine ⟨_,rfl,_,_,rfl,rfl,.inl ⟨by decide,by decide⟩,_,_,rfl,rfl,?_⟩
   refine ⟨λσ' H'=>∃ (z:Int),σ'=[some (.ref p),some (.int most),none,some (.int a),some (.int z),none]/\H' p=some (.lst [.ref c,.int ((a:Int)+1),.int l])/\H' c=some (.lst (ns.map V.int))/\Kept p H H',?_,?_⟩
   ·refine ⟨_,rfl,p,_,_,_,rfl,rfl,SqL.of hd1,y0,c,_,rfl,.inl (SqL.of hc1),_,_,rfl,rfl,_,rfl,?_⟩
    refine uZ (λhne=>?_) (λ_=>?_)
    ·have hpos:0 < (((ns.map V.int).length:Nat):Int):=of_decide_eq_true hne
     have hne':ns≠[]:=by
      rintro rfl
      cases hpos
     obtain ⟨z,hz2⟩:=Zlg ns a hne'
     refine ⟨_,rfl,p,_,_,_,rfl,rfl,SqL.of hd1,y0,_,rfl,_,rfl,p,_,_,_,rfl,rfl,SqL.of hd1,y0,c,_,rfl,.inl (SqL.of hc1),_,_,rfl,rfl,hpos,c,_,_,_,rfl,rfl,SqL.of hc1,hz2,?_⟩
     exact ⟨z,rfl,hd1,hc1,k1⟩
    ·exact ⟨_,rfl,hd1,hc1,k1⟩
   ·rintro σ2 H2 ⟨z,rfl,hd2,hc2,k2⟩
    refine ⟨λ_ H'=>H'=H2,?_,?_⟩
    ·refine ⟨_,rfl,_,rfl,p,_,_,_,rfl,rfl,SqL.of hd2,y0,c,_,rfl,.inl (SqL.of hc2),_,_,rfl,rfl,_,rfl,?_⟩
     refine uZ (λ_=>?_) (λ_=>rfl)
     exact ⟨_,rfl,z,rfl,_,_,rfl,rfl,⟨by decide,by decide,by decide⟩,_,_,rfl,rfl,_,rfl,rfl⟩
    ·rintro b H3 rfl
     have ab:0<=(if z < 0 then -z else z):=by split <;> omega
     refine uZ (λ_=>?_) (λ_=>?_)
     ·refine ⟨_,rfl,z,rfl,_,rfl,_,_,rfl,rfl,⟨h0,h1⟩,_,rfl,p,_,2,2,rfl,rfl,hd2,rfl,?_⟩
      refine ⟨_,rfl,z,rfl,_,rfl,_,_,rfl,rfl,h0,?_⟩
      refine k _ _ (Ba _ (by omega)) (AX _ h0) ⟨⟨a+1,_,bH,by omega,Int.ediv_nonneg ab (by omega)⟩,by rw [ay npc]; exact hc2,hn,npc⟩ k2.pen
     ·refine ⟨_,rfl,_,_,rfl,rfl,(by show (0:Int) < 2147483629; decide),_,rfl,_,_,rfl,rfl,.inl ⟨by decide,by decide⟩,_,_,rfl,rfl,_,_,rfl,rfl,_,_,rfl,rfl,⟨by decide,by decide,ZlU (by omega) (by omega)⟩,_,_,rfl,rfl,(by show (0:Int) < 2147483647; decide),?_⟩
      have m0:0<=((z % 2147483629+40503 * (a:Int)+331) ^ (5:Int).toNat) % 2147483647:=Ba _ (by decide)
      have m1:((z % 2147483629+40503 * (a:Int)+331) ^ (5:Int).toNat) % 2147483647 < 2147483647:=AX _ (by decide)
      refine ⟨_,rfl,_,rfl,_,_,rfl,rfl,(by show (0:Int) < 65447; decide),_,rfl,_,_,rfl,rfl,_,_,rfl,rfl,_,_,rfl,rfl,.inl ⟨Int.lt_of_lt_of_le (by decide) m0,Int.lt_trans m1 (by decide)⟩,?_⟩
      refine ⟨_,_,rfl,rfl,(by show (0:Int) < 2147483587; decide),?_⟩
      refine ⟨_,_,rfl,rfl,⟨by decide,by decide⟩,_,rfl,_,_,rfl,rfl,h0,?_⟩
      exact k _ _ (Ba _ (by omega)) (AX _ h0) ⟨⟨a+1,l,hd2,by omega,hl⟩,hc2,hn,npc⟩ k2
end
end My
set_option Elab.async false
set_option linter.all false
set_option maxRecDepth 100000
namespace My
open L2
noncomputable section
variable {cn:Addr×Cm} {P:Program} {w:World} {K:Cb} {mg:Cq} {base:Heap}
noncomputable def wm:Ce :=
 (qc (aa 1))
noncomputable def xY:Cf :=
 (oC 0 1 (ag (aa 1) (ag (ae hZ (aa 0) (aa 1)) am)))
def uI:Cg:=bA 2 0
 (aq (oC 0 1 (ag (bi qb (ag (aa 0) am)) (ag (bi qb (ag (aa 1) am)) am)))
 (aq (dP wm xY 100000)
 (dE 0)))
theorem ZlO (T:Txt K mg):ACal (bu cn) P w K mg base "common_divisor" 1 ["one","other"] uI:=bK T.ZkL wW rfl λf cdv A outer sh H E hr=>by
 exact (au (vE (ue (i:=0) (j:=1) rfl wW.nd rfl rfl (by decide) rfl rfl (ai (bq (t:=aX) (bj pX rfl T.pE boot_abs (ai (ac (pv 0)) ao)) wq) (ai (bq (t:=aX) (bj pX rfl T.pE boot_abs (ai (ac (pv 1)) ao)) wq) ao)) rfl))
 (au (ZeR 100000 zI (vC (ac (pv 1)))
  (aO (vE (ue (i:=0) (j:=1) rfl wW.nd rfl rfl (by decide) rfl rfl (ai (ac (pv 1)) (ai (al xt wo (ac (pv 0)) (ac (pv 1))) ao)) rfl))))
 (aO (gE (pv 0)))))
noncomputable def qP:Cc :=
 (aa 0)
noncomputable def qV:Ce :=
 (bX (ae (df λi j=>decide (i > j)) (aa 1) (aC (.int 0))))
def rA:Cg:=bA 1 0
 (bW (bi ia (ag (cb (oD (fe (aa 0)) 2 [] (bc (aw (aj 0) (aw (aj 1) bb))) qV qP)) am)))
theorem Zez (T:Txt K mg):ACal (bu cn) P w K mg base "greatest_seen" 1 ["day"] rA:=bK T.ZkE ZgD rfl λf cdv A outer sh H E hr=>by
 exact (aO (bZ (bq (t:=aX) (bj (Zeq rfl) rfl T.iW boot_max (ai (cI (vG (ui sB ["fall","weight"] [] rfl (gF (gi rfl rfl T.gm (ac (pv 0)))) (λb=>(cY rfl (bC (aU (aT (i:=0) (show ((bN sB ["fall","weight"] [])).Nodup by trivial) rfl (.inl rfl))) (bC (aU (aT (i:=1) (show ((bN sB ["fall","weight"] [])).Nodup by trivial) rfl (.inl rfl))) cX)) (bB (bB cU)))) (λb=>(cW eV dQ (ac (pv 1)) ak (nomark _))) (λb=>(ac (pv 0))) rfl (show BlkOk sB (aN qE) _ [] by trivial)) (gZ (dr (cv (by decide)) (dr (cv (by decide)) g7))))) ao)) Zao)))
def uu:Cg:=bA 3 0
 (bW (bi h9 (ag (ae bF (aa 1) (aa 2)) (ag (fc (ae aR (aa 0) (aC (.int 1)))) am))))
theorem Zly (T:Txt K mg):ACal (bu cn) P w K mg base "next_stock" 1 ["shop","level","fall"] uu:=bK T.ZkA ZgB rfl λf cdv A outer sh H E hr=>by
 exact (aO (bZ (bq (t:=aX) (bj (rT rfl) rfl T.iW boot_max (ai (al bQ bP (ac (pv 1)) (ac (pv 2))) (ai (gG (bh bg bf (ac (pv 0)) (d7 rfl T.Zdm) (λ_ _=>rfl))) ao))) qm)))
def rB:Cg:=bA 2 0
 (aq (eh (bX (ae (df λi j=>decide (i > j)) (aa 1) (aC (.int 0))))
  (bW (ae bz (fc (ae aR (aa 0) (aC (.int 7)))) (aa 1)))
  d8)
 (bW (ae bz (ae aR (aa 0) (aC (.int 8))) (fc (aa 1)))))
theorem ZlK (T:Txt K mg):ACal (bu cn) P w K mg base "end_cost" 1 ["shop","stock"] rB:=bK T.ZkH ZgF rfl λf cdv A outer sh H E hr=>by
 exact (au (e9 (cW eV dQ (ac (pv 1)) ak (nomark _))
 (aO (bZ (al bO bL (gG (bh bg bf (ac (pv 0)) (d7 rfl T.ZjE) (λ_ _=>rfl))) (ac (pv 1)))))
 e8)
 (aO (bZ (al bO bL (bh bg bf (ac (pv 0)) (d7 rfl T.ZjB) (λ_ _=>rfl)) (gG (ac (pv 1)))))))
noncomputable def ZcZ:Cf :=
 (aq (aS 7 (bR (ag (ae aR (aa 2) (ae bF (aa 6) (aa 1))) (ag (aa 6) am))))
 (aq (oF (bc (aw (aj 8) (aw (aj 9) bb))) (bi h7 (ag (aa 7) (ag (bR (ag (ae aQ (ae bz (aa 3) (ae aR (aa 0) (aC (.int 2)))) (ae aR (aa 5) (aC (.int 0)))) (ag (ae aR (aa 5) (aC (.int 1))) am))) am))))
 (aq (iH 4 (bR (ag (ae bF (aa 8) (ae bz (ae bz (aa 3) (ae aR (aa 0) (aC (.int 3)))) (aa 6))) (ag (aa 9) am))))
 (aS 5 (bi h7 (ag (aa 7) (ag (aa 5) am)))))))
def uJ:Cg:=bA 4 6
 (aq (fJ 4 (di am))
 (aq (aS 5 (bR (ag (ae aR (aa 2) (fc (aC (.int 1)))) (ag (ae aR (aa 0) (aC (.int 0))) am))))
 (aq (cF (yX (ag (aa 1) (ag (ae aQ (ae aR (aa 0) (aC (.int 0))) (aC (.int 1))) am))) (aj 6) ZcZ)
 (aq (sg 4)
 (dE 4)))))
theorem ZlP (T:Txt K mg):ACal (bu cn) P w K mg base "cheapest_from" 1 ["shop","low","by_level","scale"] uJ:=bK T.ZkM gU rfl λf cdv A outer sh H E hr=>by
 exact (au (iF (aJ (i:=4) gU.nd rfl (.inl rfl) (dM ao)))
 (au (aV (aJ (i:=5) gU.nd rfl (.inl rfl) (bV (ai (bh bg bf (ac (pv 2)) (gG ak) (λ_ _=>rfl)) (ai (bh bg bf (ac (pv 0)) (d7 rfl T.u6) (λ_ _=>rfl)) ao)))))
 (au (cN zI rfl (Zmf (Zca rfl T.Zcu (fu Zlm rfl T.dw boot_range (ai (ac (pv 1)) (ai (al aY aW (bh bg bf (ac (pv 0)) (d7 rfl T.u6) (λ_ _=>rfl)) ak) ao))))) (aU (aT (i:=6) gU.nd rfl (.inl rfl)))
  (au (aV (aJ (i:=7) gU.nd rfl (.inl rfl) (bV (ai (bh bg bf (ac (pv 2)) (al bQ bP (ac (pv 6)) (ac (pv 1))) (λ_ _=>rfl)) (ai (ac (pv 6)) ao)))))
 (au (rZ (fP (bq (t:=aX) (bj (Zeo hr rfl) rfl T.qZ boot_min (ai (ac (pv 7)) (ai (bV (ai (al aY aW (al bO bL (ac (pv 3)) (bh bg bf (ac (pv 0)) (d7 rfl T.Zjz) (λ_ _=>rfl))) (bh bg bf (ac (pv 5)) ak (λ_ _=>rfl))) (ai (bh bg bf (ac (pv 5)) ak (λ_ _=>rfl)) ao))) ao))) Zam) (cY rfl (bC (aU (aT (i:=8) gU.nd rfl (.inl rfl))) (bC (aU (aT (i:=9) gU.nd rfl (.inl rfl))) cX)) (bB (bB cU)))))
 (au (r6 (gh (pj Aa AO AN q9 (pv 4) (bG (bV (ai (al bQ bP (ac (pv 8)) (al bO bL (al bO bL (ac (pv 3)) (bh bg bf (ac (pv 0)) (d7 rfl T.Zdl) (λ_ _=>rfl))) (ac (pv 6)))) (ai (ac (pv 9)) ao))) cz))))
 (aO (aV (aJ (i:=5) gU.nd rfl (.inl rfl) (bq (t:=aX) (bj (Zeo hr rfl) rfl T.qZ boot_min (ai (ac (pv 7)) (ai (ac (pv 5)) ao))) Zam))))))))
 (au (ZeT (gh (Zch Aa B0 BZ Zcw (pv 4))))
 (aO (gE (pv 4)))))))
noncomputable def uP:Cf :=
 (sr rJ 1 (bi c6 (ag (aa 2) am)))
def ib:Cg:=bA 1 2
 (aq (aS 1 (aC (.int 1)))
 (aq (cF (d9 (aa 0)) (aj 2) uP)
 (dE 1)))
theorem rV (T:Txt K mg):ACal (bu cn) P w K mg base "scale_of" 1 ["days"] ib:=bK T.Zkz sV rfl λf cdv A outer sh H E hr=>by
 exact (au (aV (aJ (i:=1) sV.nd rfl (.inl rfl) ak))
 (au (cN zI rfl (fb (ac (pv 0))) (aU (aT (i:=2) sV.nd rfl (.inl rfl)))
  (aO (ZeX Zfw (Zb7 (i:=1) sV.nd rfl (.inl rfl) (bq (t:=aX) (bj (iw rfl) rfl T.hW boot_sum (ai (ac (pv 2)) ao)) gN) (pip Zjn)))))
 (aO (gE (pv 1)))))
noncomputable def uN:Cf :=
 (sm (λi j=>i+j) 3 (ae aQ (aa 4) (aa 6)) (ae bz (aa 5) (aa 7)))
noncomputable def uM:Cf :=
 (cF (fe (aa 2)) (bc (aw (aj 6) (aw (aj 7) bb))) uN)
noncomputable def uL:Cf :=
 (aq (fJ 3 (vP o8 (cb (di (ag (aC (.int 0)) am))) (ae bF (ae aQ (bi db (ag (aa 1) am)) (bi db (ag (aa 2) am))) (aC (.int 1)))))
 (aq (cF (fe (aa 1)) (bc (aw (aj 4) (aw (aj 5) bb))) uM)
 (oE 3 (aS 1 (aa 3)))))
def pG:Cg:=bA 1 7
 (aq (aS 1 (cb (di (ag (aC (.int 1)) am))))
 (aq (cF (d9 (aa 0)) (aj 2) uL)
 (dE 1)))
theorem yG (T:Txt K mg):ACal (bu cn) P w K mg base "weights_together" 1 ["days"] pG:=bK T.Zks gb rfl λf cdv A outer sh H E hr=>by
 exact (au (aV (aJ (i:=1) gb.nd rfl (.inl rfl) (cI (dM (ai ak ao)))))
 (au (cN zI rfl (fb (ac (pv 0))) (aU (aT (i:=2) gb.nd rfl (.inl rfl)))
  (au (iF (aJ (i:=3) gb.nd rfl (.inl rfl) (Zl9 Zcm Zfu (cI (dM (ai ak ao))) (al bQ bP (al aY aW (bq (t:=aX) (bj fH rfl T.fx boot_len (ai (ac (pv 1)) ao)) gO) (bq (t:=aX) (bj fH rfl T.fx boot_len (ai (ac (pv 2)) ao)) gO)) ak))))
 (au (cN zI rfl (gF (gi rfl rfl T.gm (ac (pv 1)))) (cY rfl (bC (aU (aT (i:=4) gb.nd rfl (.inl rfl))) (bC (aU (aT (i:=5) gb.nd rfl (.inl rfl))) cX)) (bB (bB cU)))
  (aO (cN zI rfl (gF (gi rfl rfl T.gm (ac (pv 2)))) (cY rfl (bC (aU (aT (i:=6) gb.nd rfl (.inl rfl))) (bC (aU (aT (i:=7) gb.nd rfl (.inl rfl))) cX)) (bB (bB cU)))
  (aO (Zl7 (Zhu (pv 3) (al aY aW (ac (pv 4)) (ac (pv 6))) Zjv (al bO bL (ac (pv 5)) (ac (pv 7))) Zjm oS))))))
 (aO (rY (k:=3) (aV (aJ (i:=1) gb.nd rfl (.inl rfl) (ac (pv 3)))))))))
 (aO (gE (pv 1)))))
noncomputable def t8:Cc :=
 (ae bz (aa 1) (ae dc (aa 2) (ae bF (aa 3) (aa 0))))
noncomputable def uj:Ce :=
 (bX (ae (df λi j=>decide (i > j)) (aa 1) (aC (.int 0))))
def rh:Cg:=bA 3 0
 (bW (bi c6 (ag (cb (oD (fe (aa 0)) 2 [1,2] (bc (aw (aj 0) (aw (aj 1) bb))) uj t8)) am)))
theorem Zlv (T:Txt K mg):ACal (bu cn) P w K mg base "weighed_ahead" 1 ["day","ahead","level"] rh:=bK T.Zkv ZgA rfl λf cdv A outer sh H E hr=>by
 exact (aO (bZ (bq (t:=aX) (bj (iw rfl) rfl T.hW boot_sum (ai (cI (vG (ui sA ["fall","weight"] [1,2] rfl (gF (gi rfl rfl T.gm (ac (pv 0)))) (λb=>(cY rfl (bC (aU (aT (i:=0) (show ((bN sA ["fall","weight"] [1,2])).Nodup by trivial) rfl (.inl rfl))) (bC (aU (aT (i:=1) (show ((bN sA ["fall","weight"] [1,2])).Nodup by trivial) rfl (.inl rfl))) cX)) (bB (bB cU)))) (λb=>(cW eV dQ (ac (pv 1)) ak (nomark _))) (λb=>(al bO bL (ac (pv 1)) (p9 (ph (fT hr) (ac (pv 2)) (al bQ bP (ac (pv 3)) (ac (pv 0))) (λ_ _=>rfl))))) rfl (show BlkOk sA (aN qB) _ [1,2] by trivial)) (gZ (dr (cv (by decide)) (dr (cv (by decide)) g7))))) ao)) gN)))
noncomputable abbrev cA:=uG
theorem cM (T:Txt K mg):ACal (bu cn) P w K mg base "_law_draw" 1 ["_law_pen_here","_law_many"] cA:=Zkk rfl (Zia T)
noncomputable def qO:Cc :=
 (aa 0)
noncomputable def qU:Ce :=
 (bX (ae (df λi j=>decide (i > j)) (ae aR (aa 1) (aa 0)) (aC (.int 0))))
noncomputable def xj:Cc :=
 (bi ia (ag (cb (oD (gI (ag (bi db (ag (aa 0) am)) am)) 1 [0] (aj 0) qU qO)) am))
def i8:Cg:=bA 1 0
 (bW (bi c6 (ag (cb (dO (d9 (aa 0)) 1 [] (aj 0) xj)) am)))
theorem vA (T:Txt K mg):ACal (bu cn) P w K mg base "_law_greatest" 1 ["_law_falls"] i8:=bK T.ZkW ZgJ rfl λf cdv A outer sh H E hr=>by
 exact (aO (bZ (bq (t:=aX) (bj (iw rfl) rfl T.hW boot_sum (ai (cI (iG (g9 qh ["_law_one"] [] rfl (fb (ac (pv 0))) (λb=>(aU (aT (i:=0) (show ((bN qh ["_law_one"] [])).Nodup by trivial) rfl (.inr rfl)))) (λb=>(bq (t:=aX) (bj (Zeq rfl) rfl T.iW boot_max (ai (cI (vG (ui (bN qh ["_law_one"] []) ["_law_fall"] [0] rfl (oB (iU rfl T.dw (ai (bq (t:=aX) (bj fH rfl T.fx boot_len (ai (ac (pv 0)) ao)) gO) ao))) (λb=>(aU (aT (i:=0) (show ((bN (bN qh ["_law_one"] []) ["_law_fall"] [0])).Nodup by trivial) rfl (.inl rfl)))) (λb=>(cW eV dQ (bh bg bf (ac (pv 1)) (ac (pv 0)) (λ_ _=>rfl)) ak (nomark _))) (λb=>(ac (pv 0))) rfl (BlkOk.nest ⟨rfl,by trivial,by trivial,by trivial,by trivial⟩)) (cv (by decide)))) ao)) Zao)) rfl (show BlkOk qh (aN qJ) _ [] by trivial)) (cv (by decide)))) ao)) gN)))
def rq:Cg:=bA 2 0
 (bW (ae bz (ae aQ (ae aR (aa 0) (aC (.int 2))) (ae bz (ae aR (aa 0) (aC (.int 3))) (aa 1))) (bi pM (ag (ae (df λi j=>decide (i > j)) (aa 1) (aC (.int 0))) am))))
theorem ZlE (T:Txt K mg):ACal (bu cn) P w K mg base "_law_order" 1 ["_law_shop","_law_pieces"] rq:=bK T.ZkU ZgI rfl λf cdv A outer sh H E hr=>by
 exact (aO (bZ (al bO bL (al aY aW (bh bg bf (ac (pv 0)) ak (λ_ _=>rfl)) (al bO bL (bh bg bf (ac (pv 0)) ak (λ_ _=>rfl)) (ac (pv 1)))) (bq (t:=aX) (fu Zer rfl T.Zcv boot_int (ai (Ze7 eV dQ (ac (pv 1)) ak (nomark _)) ao)) Zap))))
def ux:Cg:=bA 2 0
 (bW (ae aQ (ae bz (ae aR (aa 0) (aC (.int 4))) (bi h9 (ag (aa 1) (ag (aC (.int 0)) am)))) (ae bz (ae aR (aa 0) (aC (.int 5))) (bi h9 (ag (ae bF (aC (.int 0)) (aa 1)) (ag (aC (.int 0)) am))))))
theorem ZlC (T:Txt K mg):ACal (bu cn) P w K mg base "_law_rest_cost" 1 ["_law_shop","_law_rest"] ux:=bK T.ZkQ ZgG rfl λf cdv A outer sh H E hr=>by
 exact (aO (bZ (al aY aW (al bO bL (bh bg bf (ac (pv 0)) ak (λ_ _=>rfl)) (bq (t:=aX) (bj (rT rfl) rfl T.iW boot_max (ai (ac (pv 1)) (ai ak ao))) qm)) (al bO bL (bh bg bf (ac (pv 0)) ak (λ_ _=>rfl)) (bq (t:=aX) (bj (rT rfl) rfl T.iW boot_max (ai (al bQ bP ak (ac (pv 1))) (ai ak ao))) qm)))))
def uA:Cg:=bA 2 0
 (bW (ae bF (ae bz (ae aR (aa 0) (aC (.int 8))) (bi h9 (ag (ae bF (aC (.int 0)) (aa 1)) (ag (aC (.int 0)) am)))) (ae bz (ae aR (aa 0) (aC (.int 7))) (bi h9 (ag (aa 1) (ag (aC (.int 0)) am))))))
theorem ZlG (T:Txt K mg):ACal (bu cn) P w K mg base "_law_end" 1 ["_law_shop","_law_rest"] uA:=bK T.ZkY ZgK rfl λf cdv A outer sh H E hr=>by
 exact (aO (bZ (al bQ bP (al bO bL (bh bg bf (ac (pv 0)) ak (λ_ _=>rfl)) (bq (t:=aX) (bj (rT rfl) rfl T.iW boot_max (ai (al bQ bP ak (ac (pv 1))) (ai ak ao))) qm)) (al bO bL (bh bg bf (ac (pv 0)) ak (λ_ _=>rfl)) (bq (t:=aX) (bj (rT rfl) rfl T.iW boot_max (ai (ac (pv 1)) (ai ak ao))) qm)))))
noncomputable def uW:Cf :=
 (aS 2 (ae bz (aa 2) (bi c6 (ag (aa 3) am))))
def ic:Cg:=bA 2 2
 (aq (aS 2 (aC (.int 1)))
 (aq (cF (d9 (dh (aa 0) (cZ (aa 1)) dF)) (aj 3) uW)
 (dE 2)))
theorem rW (T:Txt K mg):ACal (bu cn) P w K mg base "_law_bottom" 1 ["_law_falls","_law_t"] ic:=bK T.Zk2 tj rfl λf cdv A outer sh H E hr=>by
 exact (au (aV (aJ (i:=2) tj.nd rfl (.inl rfl) ak))
 (au (cN zI rfl (fb (dN (ac (pv 0)) (dC (ac (pv 1))) dY)) (aU (aT (i:=3) tj.nd rfl (.inl rfl)))
  (aO (aV (aJ (i:=2) tj.nd rfl (.inl rfl) (al bO bL (ac (pv 2)) (bq (t:=aX) (bj (iw rfl) rfl T.hW boot_sum (ai (ac (pv 3)) ao)) gN))))))
 (aO (gE (pv 2)))))
noncomputable def wl:Ce :=
 (bX (ae (df λi j=>decide (i > j)) (aa 3) (aC (.int 0))))
noncomputable def xU:Cf :=
 (oC 2 3 (ag (aa 3) (ag (ae hZ (aa 2) (aa 3)) am)))
def rp:Cg:=bA 2 2
 (aq (oC 2 3 (ag (bi qb (ag (aa 0) am)) (ag (aa 1) am)))
 (aq (dP wl xU 100000)
 (bW (bR (ag (ae fU (aa 0) (aa 2)) (ag (ae fU (aa 1) (aa 2)) am))))))
theorem Zew (T:Txt K mg):ACal (bu cn) P w K mg base "_law_share" 1 ["_law_top","_law_bottom_here"] rp:=bK T.ZkO wX rfl λf cdv A outer sh H E hr=>by
 exact (au (vE (ue (i:=2) (j:=3) rfl wX.nd rfl rfl (by decide) rfl rfl (ai (bq (t:=aX) (bj pX rfl T.pE boot_abs (ai (ac (pv 0)) ao)) wq) (ai (ac (pv 1)) ao)) rfl))
 (au (ZeR 100000 zI (cW eV dQ (ac (pv 3)) ak (nomark _))
  (aO (vE (ue (i:=2) (j:=3) rfl wX.nd rfl rfl (by decide) rfl rfl (ai (ac (pv 3)) (ai (al xt wo (ac (pv 2)) (ac (pv 3))) ao)) rfl))))
 (aO (bZ (bV (ai (al qX qj (ac (pv 0)) (ac (pv 2))) (ai (al qX qj (ac (pv 1)) (ac (pv 2))) ao)))))))
def pI:Cg:=bA 2 1
 (aq (eh (bX (ae fW (aa 1) (aC (.int 0))))
  y3
  d8)
 (aq (aS 2 (aE (aA uI (af (aa 0) (af (aa 1) az)))))
 (aq (eh (bX (ae (df λi j=>decide (i < j)) (aa 1) (aC (.int 0))))
  (aS 2 (fc (aa 2)))
  d8)
 (bW (bR (ag (ae fU (aa 0) (aa 2)) (ag (ae fU (aa 1) (aa 2)) am)))))))
theorem Zeu (T:Txt K mg):ACal (bu cn) P w K mg base "share" 2 ["top","bottom"] pI:=bK T.Zkx wU rfl λf cdv A outer sh H E hr=>by
 exact (au (e9 (cW (qY hr) ql (ac (pv 1)) ak (nomark _))
 (aO ZeV)
 e8)
 (au (aV (aJ (i:=2) wU.nd rfl (.inl rfl) (aI (aH (ZlO T) (hr.mono (by decide)) rfl (ah (ac (pv 0)) (ah (ac (pv 1)) aB))))))
 (au (e9 (cW qW dQ (ac (pv 1)) ak (nomark _))
  (aO (aV (aJ (i:=2) wU.nd rfl (.inl rfl) (gG (ac (pv 2))))))
  e8)
 (aO (bZ (bV (ai (al qX qj (ac (pv 0)) (ac (pv 2))) (ai (al qX qj (ac (pv 1)) (ac (pv 2))) ao))))))))
def rC:Cg:=bA 3 3
 (aq (aS 3 (aE (aA uu (af (aa 0) (af (aa 1) (af (aa 2) az))))))
 (aq (aS 4 (ae bF (aa 3) (ae bF (aa 1) (aa 2))))
 (aq (aS 5 (y4 (bX (ae (df λi j=>decide (i > j)) (aa 3) (aC (.int 0)))) (ae bz (ae aR (aa 0) (aC (.int 4))) (aa 3)) (ae bz (ae aR (aa 0) (aC (.int 5))) (fc (aa 3)))))
 (bW (ae aQ (aa 5) (ae bz (ae aR (aa 0) (aC (.int 6))) (aa 4)))))))
theorem ZlM (T:Txt K mg):ACal (bu cn) P w K mg base "day_cost" 2 ["shop","level","fall"] rC:=bK T.ZkJ sW rfl λf cdv A outer sh H E hr=>by
 exact (au (aV (aJ (i:=3) sW.nd rfl (.inl rfl) (aI (aH (Zly T) (hr.mono (by decide)) rfl (ah (ac (pv 0)) (ah (ac (pv 1)) (ah (ac (pv 2)) aB)))))))
 (au (aV (aJ (i:=4) sW.nd rfl (.inl rfl) (al bQ bP (ac (pv 3)) (al bQ bP (ac (pv 1)) (ac (pv 2))))))
 (au (aV (aJ (i:=5) sW.nd rfl (.inl rfl) (Zmj (cW eV dQ (ac (pv 3)) ak (nomark _)) (al bO bL (bh bg bf (ac (pv 0)) (d7 rfl T.ZjD) (λ_ _=>rfl)) (ac (pv 3))) (al bO bL (bh bg bf (ac (pv 0)) (d7 rfl T.ZjC) (λ_ _=>rfl)) (gG (ac (pv 3)))))))
 (aO (bZ (al aY aW (ac (pv 5)) (al bO bL (bh bg bf (ac (pv 0)) (d7 rfl T.ZjA) (λ_ _=>rfl)) (ac (pv 4)))))))))
noncomputable def xk:Cc :=
 (aE (aA rA (af (aa 0) az)))
def pJ:Cg:=bA 3 0
 (bW (ae bF (bi c6 (ag (cb (dO (d9 (dh (aa 1) (cZ (aa 2)) dF)) 1 [] (aj 0) xk)) am)) (ae aR (aa 0) (aC (.int 1)))))
theorem ZeA (T:Txt K mg):ACal (bu cn) P w K mg base "free_from" 2 ["shop","falls","t"] pJ:=bK T.ZkG ZgE rfl λf cdv A outer sh H E hr=>by
 exact (aO (bZ (al bQ bP (bq (t:=aX) (bj (iw rfl) rfl T.hW boot_sum (ai (cI (iG (g9 vX ["day"] [] rfl (fb (dN (ac (pv 1)) (dC (ac (pv 2))) dY)) (λb=>(aU (aT (i:=0) (show ((bN vX ["day"] [])).Nodup by trivial) rfl (.inl rfl)))) (λb=>(aI (aH (Zez T) (hr.mono (by decide)) rfl (ah (ac (pv 0)) aB)))) rfl (show BlkOk vX (aN qF) _ [] by trivial)) (cv (by decide)))) ao)) gN) (bh bg bf (ac (pv 0)) (d7 rfl T.Zdm) (λ_ _=>rfl)))))
noncomputable def xg:Cc :=
 (ae bz (aa 1) (aE (aA rB (af (aa 2) (af (ae bF (aa 3) (aa 0)) az)))))
def ur:Cg:=bA 3 0
 (bW (bi c6 (ag (cb (dO (fe (aa 1)) 2 [0,2] (bc (aw (aj 0) (aw (aj 1) bb))) xg)) am)))
theorem Zlu (T:Txt K mg):ACal (bu cn) P w K mg base "weighed_end" 2 ["shop","weights","stock"] ur:=bK T.Zkt Zgy rfl λf cdv A outer sh H E hr=>by
 exact (aO (bZ (bq (t:=aX) (bj (iw rfl) rfl T.hW boot_sum (ai (cI (iG (g9 sx ["fallen","weight"] [0,2] rfl (gF (gi rfl rfl T.gm (ac (pv 1)))) (λb=>(cY rfl (bC (aU (aT (i:=0) (show ((bN sx ["fallen","weight"] [0,2])).Nodup by trivial) rfl (.inl rfl))) (bC (aU (aT (i:=1) (show ((bN sx ["fallen","weight"] [0,2])).Nodup by trivial) rfl (.inl rfl))) cX)) (bB (bB cU)))) (λb=>(al bO bL (ac (pv 1)) (aI (aH (ZlK T) (hr.mono (by decide)) rfl (ah (ac (pv 2)) (ah (al bQ bP (ac (pv 3)) (ac (pv 0))) aB)))))) rfl (show BlkOk sx (aN qz) _ [0,2] by trivial)) (gZ (dr (cv (by decide)) (dr (cv (by decide)) g7))))) ao)) gN)))
noncomputable def xi:Cc :=
 (aE (aA rA (af (aa 0) az)))
def rl:Cg:=bA 3 0
 (bW (ae bF (aa 2) (bi c6 (ag (cb (dO (d9 (dh (aa 0) dF (cZ (aa 1)))) 1 [] (aj 0) xi)) am))))
theorem Zev (T:Txt K mg):ACal (bu cn) P w K mg base "least_counted" 2 ["falls","t","stock"] rl:=bK T.ZkC ZgC rfl λf cdv A outer sh H E hr=>by
 exact (aO (bZ (al bQ bP (ac (pv 2)) (bq (t:=aX) (bj (iw rfl) rfl T.hW boot_sum (ai (cI (iG (g9 vW ["day"] [] rfl (fb (dN (ac (pv 0)) dY (dC (ac (pv 1))))) (λb=>(aU (aT (i:=0) (show ((bN vW ["day"] [])).Nodup by trivial) rfl (.inl rfl)))) (λb=>(aI (aH (Zez T) (hr.mono (by decide)) rfl (ah (ac (pv 0)) aB)))) rfl (show BlkOk vW (aN qC) _ [] by trivial)) (cv (by decide)))) ao)) gN))))
noncomputable def Zb1:Cc :=
 (aE (aA cA (b5 1 (af (aa 2) az))))
def uC:Cg:=bA 2 3
 (aq (aS 2 (ae aR (cb (di (ag (aC (.int 0)) (ag (aC (.int 0)) (ag (aC (.int 1)) (ag (aC (.int 3)) am)))))) (aE (aA cA (b5 0 (af (aC (.int 4)) az))))))
 (aq (aS 3 (ae aR (cb (di (ag (aC (.int 2)) (ag (aC (.int 4)) (ag (aC (.int 20)) (ag (aC (.int 1001)) am)))))) (aE (aA cA (b5 0 (af (aC (.int 4)) az))))))
 (aq (aS 4 (cb (dO (gI (ag (aE (aA cA (b5 0 (af (aa 1) az)))) am)) 1 [0,3] (aj 0) Zb1)))
 (bW (bi fN (ag (dh (ae aQ (ae aQ (aa 4) (cb (di (ag (ae aQ (aC (.int 1)) (aE (aA cA (b5 0 (af (ae bF (aa 3) (aC (.int 1))) az))))) am)))) (ae bz (cb (di (ag (aC (.int 0)) am))) (aa 2))) dF (cZ (aC (.int 8)))) am))))))
theorem ZlI (T:Txt K mg):ACal (bu cn) P w K mg base "_law_day" 2 ["_law_pen_here","_law_most"] uC:=bK T.Zk1 tf rfl λf cdv A outer sh H E hr=>by
 exact (au (aV (aJ (i:=2) tf.nd rfl (.inl rfl) (bh bg bf (cI (dM (ai ak (ai ak (ai ak (ai ak ao)))))) (aI (aH (cM T) (hr.mono (by decide)) rfl (cq (pv 0) (ah ak aB)))) (λ_ _=>rfl))))
 (au (aV (aJ (i:=3) tf.nd rfl (.inr rfl) (bh bg bf (cI (dM (ai ak (ai ak (ai ak (ai ak ao)))))) (aI (aH (cM T) (hr.mono (by decide)) rfl (cq (pv 0) (ah ak aB)))) (λ_ _=>rfl))))
 (au (Zl0 (Zb6 (i:=4) v6 ["_law_k"] [0,3] rfl tf.nd rfl rfl (oB (iU rfl T.dw (ai (aI (aH (cM T) (hr.mono (by decide)) rfl (cq (pv 0) (ah (ac (pv 1)) aB)))) ao))) (λb=>(aU (aT (i:=0) (show ((bN v6 ["_law_k"] [0,3])).Nodup by trivial) rfl (.inl rfl)))) (λb=>(aI (aH (cM T) (hr.mono (by decide)) rfl (cq (pv 1) (ah (ac (pv 2)) aB))))) rfl (show BlkOk v6 (aN qL) _ [0,3] by trivial) rfl) (cv (by decide)))
 (aO (bZ (bq (t:=aX) (fu pW rfl T.pD boot_tuple (ai (dN (al aY aW (al aY aW (ac (pv 4)) (cI (dM (ai (al aY aW ak (aI (aH (cM T) (hr.mono (by decide)) rfl (cq (pv 0) (ah (al bQ bP (ac (pv 3)) ak) aB))))) ao)))) (al bO bL (cI (dM (ai ak ao))) (ac (pv 2)))) dY (dC ak)) ao)) oN))))))
noncomputable def Zb0:Cc :=
 (aE (aA cA (b5 1 (af (aa 2) az))))
def uy:Cg:=bA 1 2
 (aq (aS 1 (ae aR (cb (di (ag (aC (.int 3)) (ag (aC (.int 10)) (ag (aC (.int 60)) (ag (ae aQ (ae ug (aC (.int 10)) (aC (.int 6))) (aC (.int 1))) am)))))) (aE (aA cA (b5 0 (af (aC (.int 4)) az))))))
 (aq (fJ 2 (dO (gI (ag (aC (.int 7)) am)) 1 [0,1] (aj 0) Zb0))
 (aq (eh (bX (ae fW (aE (aA cA (b5 0 (af (aC (.int 3)) az)))) (aC (.int 0))))
  (sf 2 (aC (.int 0)) (aC (.int 0)))
  d8)
 (aq (eh (bX (ae fW (aE (aA cA (b5 0 (af (aC (.int 3)) az)))) (aC (.int 0))))
  (sf 2 (aC (.int 3)) (ae hZ (ae bz (qd 2 (aC (.int 3))) (aC (.int 3))) (aC (.int 1000001))))
  d8)
 (oE 2 (bW (bi fN (ag (aa 2) am))))))))
theorem ZlD (T:Txt K mg):ACal (bu cn) P w K mg base "_law_prices" 2 ["_law_pen_here"] uy:=bK T.ZkS wY rfl λf cdv A outer sh H E hr=>by
 exact (au (aV (aJ (i:=1) wY.nd rfl (.inr rfl) (bh bg bf (cI (dM (ai ak (ai ak (ai ak (ai (al aY aW (al xq Zfv ak ak) ak) ao)))))) (aI (aH (cM T) (hr.mono (by decide)) rfl (cq (pv 0) (ah ak aB)))) (λ_ _=>rfl))))
 (au (Zl1 (Zb6 (i:=2) vZ ["_law_k"] [0,1] rfl wY.nd rfl rfl (oB (iU rfl T.dw (ai ak ao))) (λb=>(aU (aT (i:=0) (show ((bN vZ ["_law_k"] [0,1])).Nodup by trivial) rfl (.inl rfl)))) (λb=>(aI (aH (cM T) (hr.mono (by decide)) rfl (cq (pv 1) (ah (ac (pv 2)) aB))))) rfl (show BlkOk vZ (aN qH) _ [0,1] by trivial) rfl) (cv (by decide)))
 (au (e9 (cW (qY hr) ql (aI (aH (cM T) (hr.mono (by decide)) rfl (cq (pv 0) (ah ak aB)))) ak (nomark _))
  (aO (ZeS (fP ak (qT (pv 2) ak oS))))
  e8)
 (au (e9 (cW (qY hr) ql (aI (aH (cM T) (hr.mono (by decide)) rfl (cq (pv 0) (ah ak aB)))) ak (nomark _))
  (aO (ZeS (fP (al xt wo (al bO bL (Ze6 ak (pv 2) (λ_ _=>rfl)) ak) ak) (qT (pv 2) ak oS))))
  e8)
 (aO (rY (k:=2) (bZ (bq (t:=aX) (fu pW rfl T.pD boot_tuple (ai (ac (pv 2)) ao)) oN))))))))
noncomputable def o9:Cc :=
 (bR (ag (ae bz (aa 2) (aa 1)) (ag (ae bF (aa 3) (aa 0)) am)))
noncomputable def pz:Ce :=
 (bX (ae (df λi j=>decide (i > j)) (aa 1) (aC (.int 0))))
noncomputable def xV:Cf :=
 (sj 7 (cb (oD (fe (aa 6)) 2 [8,9] (bc (aw (aj 0) (aw (aj 1) bb))) pz o9)))
noncomputable def rF:Cf :=
 (aq (fJ 7 (di am))
 (aq (cF (d9 (aa 5)) (bc (aw (aj 8) (aw (aj 9) bb))) xV)
 (oE 7 (aS 5 (aa 7)))))
noncomputable def uT:Cf :=
 (aS 4 (ae aQ (aa 4) (ae bz (aa 8) (ae aQ (aE (aA ux (af (aa 0) (af (aa 9) az)))) (ae bz (aE (aA uA (af (aa 0) (af (aa 9) az)))) (bi pM (ag (aa 3) am)))))))
def rz:Cg:=bA 4 6
 (aq (aS 4 (aC (.int 0)))
 (aq (aS 5 (cb (di (ag (bR (ag (aC (.int 1)) (ag (aa 2) am))) am))))
 (aq (cF (d9 (aa 1)) (aj 6) rF)
 (aq (cF (d9 (aa 5)) (bc (aw (aj 8) (aw (aj 9) bb))) uT)
 (dE 4)))))
theorem Zey (T:Txt K mg):ACal (bu cn) P w K mg base "_law_lying" 2 ["_law_shop","_law_falls","_law_level","_law_has_end"] rz:=bK T.ZkV fk rfl λf cdv A outer sh H E hr=>by
 exact (au (aV (aJ (i:=4) fk.nd rfl (.inl rfl) ak))
 (au (aV (aJ (i:=5) fk.nd rfl (.inl rfl) (cI (dM (ai (bV (ai ak (ai (ac (pv 2)) ao))) ao)))))
 (au (cN zI rfl (fb (ac (pv 1))) (aU (aT (i:=6) fk.nd rfl (.inl rfl)))
  (au (iF (aJ (i:=7) fk.nd rfl (.inl rfl) (dM ao)))
 (au (cN zI rfl (fb (ac (pv 5))) (cY rfl (bC (aU (aT (i:=8) fk.nd rfl (.inr rfl))) (bC (aU (aT (i:=9) fk.nd rfl (.inr rfl))) cX)) (bB (bB cU)))
  (aO (Zl5 (gh (pj Aa PySem.F.slot_list_extend PySem.F.type_list_extend Zir (pv 7) (bG (cI (vG (ui sC ["_law_fall","_law_weight"] [8,9] rfl (gF (gi rfl rfl T.gm (ac (pv 6)))) (λb=>(cY rfl (bC (aU (aT (i:=0) (show ((bN sC ["_law_fall","_law_weight"] [8,9])).Nodup by trivial) rfl (.inl rfl))) (bC (aU (aT (i:=1) (show ((bN sC ["_law_fall","_law_weight"] [8,9])).Nodup by trivial) rfl (.inl rfl))) cX)) (bB (bB cU)))) (λb=>(cW eV dQ (ac (pv 1)) ak (nomark _))) (λb=>(bV (ai (al bO bL (ac (pv 2)) (ac (pv 1))) (ai (al bQ bP (ac (pv 3)) (ac (pv 0))) ao)))) rfl (show BlkOk sC (aN qI) _ [8,9] by trivial)) (gZ (dr (cv (by decide)) (dr (cv (by decide)) g7))))) cz))))))
 (aO (rY (k:=7) (aV (aJ (i:=5) fk.nd rfl (.inl rfl) (ac (pv 7)))))))))
 (au (cN zI rfl (fb (ac (pv 5))) (cY rfl (bC (aU (aT (i:=8) fk.nd rfl (.inr rfl))) (bC (aU (aT (i:=9) fk.nd rfl (.inr rfl))) cX)) (bB (bB cU)))
  (aO (aV (aJ (i:=4) fk.nd rfl (.inl rfl) (al aY aW (ac (pv 4)) (al bO bL (ac (pv 8)) (al aY aW (aI (aH (ZlC T) (hr.mono (by decide)) rfl (ah (ac (pv 0)) (ah (ac (pv 9)) aB)))) (al bO bL (aI (aH (ZlG T) (hr.mono (by decide)) rfl (ah (ac (pv 0)) (ah (ac (pv 9)) aB)))) (bq (t:=aX) (fu Zer rfl T.Zcv boot_int (ai (ac (pv 3)) ao)) Zap)))))))))
 (aO (gE (pv 4)))))))
def rD:Cg:=bA 3 0
 (eh (bX (ae (df λi j=>decide (i < j)) (aa 2) (aE (aA pJ (af (aa 0) (af (aa 1) (af (aC (.int 0)) az)))))))
  y3
  d8)
theorem ZeB (T:Txt K mg):ACal (bu cn) P w K mg base "ask_free" 3 ["shop","falls","stock"] rD:=bK T.Zd8 Za9 rfl λf cdv A outer sh H E hr=>by
 exact (aO (e9 (cW qW dQ (ac (pv 2)) (aI (aH (ZeA T) (hr.mono (by decide)) rfl (ah (ac (pv 0)) (ah (ac (pv 1)) (ah ak aB))))) (nomark _))
 (aO ZeV)
 e8))
noncomputable def xh:Cc :=
 (ae bz (aa 1) (aE (aA rC (af (aa 2) (af (aa 3) (af (aa 0) az))))))
def pH:Cg:=bA 3 0
 (bW (bi c6 (ag (cb (dO (fe (aa 1)) 2 [0,2] (bc (aw (aj 0) (aw (aj 1) bb))) xh)) am)))
theorem Zes (T:Txt K mg):ACal (bu cn) P w K mg base "weighed_day" 3 ["shop","weights","stock"] pH:=bK T.Zku Zgz rfl λf cdv A outer sh H E hr=>by
 exact (aO (bZ (bq (t:=aX) (bj (iw rfl) rfl T.hW boot_sum (ai (cI (iG (g9 sy ["fallen","weight"] [0,2] rfl (gF (gi rfl rfl T.gm (ac (pv 1)))) (λb=>(cY rfl (bC (aU (aT (i:=0) (show ((bN sy ["fallen","weight"] [0,2])).Nodup by trivial) rfl (.inl rfl))) (bC (aU (aT (i:=1) (show ((bN sy ["fallen","weight"] [0,2])).Nodup by trivial) rfl (.inl rfl))) cX)) (bB (bB cU)))) (λb=>(al bO bL (ac (pv 1)) (aI (aH (ZlM T) (hr.mono (by decide)) rfl (ah (ac (pv 2)) (ah (ac (pv 3)) (ah (ac (pv 0)) aB))))))) rfl (show BlkOk sy (aN qA) _ [0,2] by trivial)) (gZ (dr (cv (by decide)) (dr (cv (by decide)) g7))))) ao)) gN)))
noncomputable def ud:Cc :=
 (aa 0)
noncomputable def qQ:Cc :=
 (aE (aA ur (af (aa 1) (af (aa 2) (af (aa 0) az)))))
def uF:Cg:=bA 4 2
 (aq (aS 4 (aE (aA pG (af (dh (aa 1) (cZ (aa 2)) dF) az))))
 (aq (aS 5 (aE (aA rl (af (aa 1) (af (aa 2) (af (aa 3) az))))))
 (bW (gJ (gH (ag (aa 5) (ag (ae aQ (ae aR (aa 0) (aC (.int 0))) (aC (.int 1))) am))) 1 [0,4] (aj 0) ud qQ))))
theorem ZlL (T:Txt K mg):ACal (bu cn) P w K mg base "end_ahead" 3 ["shop","falls","orders","stock"] uF:=bK T.ZkI wV rfl λf cdv A outer sh H E hr=>by
 exact (au (aV (aJ (i:=4) wV.nd rfl (.inr rfl) (aI (aH (yG T) (hr.mono (by decide)) rfl (ah (dN (ac (pv 1)) (dC (ac (pv 2))) dY) aB)))))
 (au (aV (aJ (i:=5) wV.nd rfl (.inl rfl) (aI (aH (Zev T) (hr.mono (by decide)) rfl (ah (ac (pv 1)) (ah (ac (pv 2)) (ah (ac (pv 3)) aB)))))))
 (aO (bZ (Zml (ZhM vY ["counted"] [0,4] rfl (pZ (pf rfl T.dw (ai (ac (pv 5)) (ai (al aY aW (bh bg bf (ac (pv 0)) (d7 rfl T.u6) (λ_ _=>rfl)) ak) ao)))) (λb=>(aU (aT (i:=0) (show ((bN vY ["counted"] [0,4])).Nodup by trivial) rfl (.inl rfl)))) (λb=>(ac (pv 0))) (λb=>(aI (aH (Zlu T) (hr.mono (by decide)) rfl (ah (ac (pv 1)) (ah (ac (pv 2)) (ah (ac (pv 0)) aB)))))) rfl (show BlkOk vY (aN qG) _ [0,4] by trivial)) (cv (by decide)))))))
noncomputable def Zb2:Cc :=
 (aE (aA uC (b5 1 (af (aa 2) az))))
def uD:Cg:=bA 1 9
 (aq (aS 1 (cb (di (ag (bR (ag (aC (.int 5)) (ag (ae aQ (aC (.int 2)) (aE (aA cA (b5 0 (af (aC (.int 4)) az))))) am))) (ag (bR (ag (aC (.int 2)) (ag (ae aQ (aC (.int 5)) (aE (aA cA (b5 0 (af (aC (.int 2)) az))))) am))) (ag (bR (ag (aC (.int 8)) (ag (aC (.int 2)) am))) (ag (bR (ag (aC (.int 2)) (ag (ae aQ (aC (.int 2)) (aE (aA cA (b5 0 (af (aC (.int 2)) az))))) am))) am)))))))
 (aq (aS 2 (ae fU (ae bz (aE (aA cA (b5 0 (af (aC (.int 8)) az)))) (aC (.int 3))) (aC (.int 7))))
 (aq (oF (bc (aw (aj 3) (aw (aj 4) bb))) (ae aR (aa 1) (aa 2)))
 (aq (aS 5 (bi fN (ag (cb (dO (gI (ag (aa 4) am)) 1 [0,3] (aj 0) Zb2)) am)))
 (aq (aS 6 (aE (aA cA (b5 0 (af (aC (.int 3)) az)))))
 (aq (aS 7 (aE (aA cA (b5 0 (af (aC (.int 6)) az)))))
 (aq (eh (bX (ae fW (aa 2) (aC (.int 3))))
  (aS 7 (ae aQ (aC (.int 6)) (aE (aA cA (b5 0 (af (aC (.int 25)) az))))))
  d8)
 (aq (aS 8 (ae aQ (aE (aA i8 (af (aa 5) az))) (aa 6)))
 (aq (aS 9 (ae bF (aE (aA cA (b5 0 (af (ae aQ (ae aQ (aa 7) (aa 6)) (aC (.int 1))) az)))) (aa 6)))
 (bW (bR (ag (ae aQ (bR (ag (aa 7) (ag (aa 8) am))) (aE (aA uy (b5 0 az)))) (ag (aa 5) (ag (aa 9) am))))))))))))))
theorem ZlJ (T:Txt K mg):ACal (bu cn) P w K mg base "_law_asked" 3 ["_law_pen_here"] uD:=bK T.Zk3 fm rfl λf cdv A outer sh H E hr=>by
 exact (au (aV (aJ (i:=1) fm.nd rfl (.inl rfl) (cI (dM (ai (bV (ai ak (ai (al aY aW ak (aI (aH (cM T) (hr.mono (by decide)) rfl (cq (pv 0) (ah ak aB))))) ao))) (ai (bV (ai ak (ai (al aY aW ak (aI (aH (cM T) (hr.mono (by decide)) rfl (cq (pv 0) (ah ak aB))))) ao))) (ai (bV (ai ak (ai ak ao))) (ai (bV (ai ak (ai (al aY aW ak (aI (aH (cM T) (hr.mono (by decide)) rfl (cq (pv 0) (ah ak aB))))) ao))) ao))))))))
 (au (aV (aJ (i:=2) fm.nd rfl (.inl rfl) (al qX qj (al bO bL (aI (aH (cM T) (hr.mono (by decide)) rfl (cq (pv 0) (ah ak aB)))) ak) ak)))
 (au (rZ (fP (bh bg bf (ac (pv 1)) (ac (pv 2)) (λ_ _=>rfl)) (cY rfl (bC (aU (aT (i:=3) fm.nd rfl (.inr rfl))) (bC (aU (aT (i:=4) fm.nd rfl (.inl rfl))) cX)) (bB (bB cU)))))
 (au (aV (aJ (i:=5) fm.nd rfl (.inl rfl) (bq (t:=aX) (fu pW rfl T.pD boot_tuple (ai (cI (iG (g9 v7 ["_law_k"] [0,3] rfl (oB (iU rfl T.dw (ai (ac (pv 4)) ao))) (λb=>(aU (aT (i:=0) (show ((bN v7 ["_law_k"] [0,3])).Nodup by trivial) rfl (.inl rfl)))) (λb=>(aI (aH (ZlI T) (hr.mono (by decide)) rfl (cq (pv 1) (ah (ac (pv 2)) aB))))) rfl (show BlkOk v7 (aN qM) _ [0,3] by trivial)) (cv (by decide)))) ao)) oN)))
 (au (aV (aJ (i:=6) fm.nd rfl (.inl rfl) (aI (aH (cM T) (hr.mono (by decide)) rfl (cq (pv 0) (ah ak aB))))))
 (au (aV (aJ (i:=7) fm.nd rfl (.inl rfl) (aI (aH (cM T) (hr.mono (by decide)) rfl (cq (pv 0) (ah ak aB))))))
 (au (e9 (cW (qY hr) ql (ac (pv 2)) ak (nomark _))
  (aO (aV (aJ (i:=7) fm.nd rfl (.inl rfl) (al aY aW ak (aI (aH (cM T) (hr.mono (by decide)) rfl (cq (pv 0) (ah ak aB))))))))
  e8)
 (au (aV (aJ (i:=8) fm.nd rfl (.inl rfl) (al aY aW (aI (aH (vA T) (hr.mono (by decide)) rfl (ah (ac (pv 5)) aB))) (ac (pv 6)))))
 (au (aV (aJ (i:=9) fm.nd rfl (.inl rfl) (al bQ bP (aI (aH (cM T) (hr.mono (by decide)) rfl (cq (pv 0) (ah (al aY aW (al aY aW (ac (pv 7)) (ac (pv 6))) ak) aB)))) (ac (pv 6)))))
 (aO (bZ (bV (ai (al aY aW (bV (ai (ac (pv 7)) (ai (ac (pv 8)) ao))) (aI (aH (ZlD T) (hr.mono (by decide)) rfl (cq (pv 0) aB)))) (ai (ac (pv 5)) (ai (ac (pv 9)) ao)))))))))))))))
noncomputable def gt:Cf :=
 (eh (vQ (bX (ae (df λi j=>decide (i > j)) (aa 11) (aC (.int 0)))) (si (qc (aa 6))))
  (aS 9 (ae aQ (aa 9) (ae bz (aa 11) (ae aR (ae dc (aa 5) (ae bF (aa 8) (aa 10))) (aC (.int 0))))))
  d8)
noncomputable def rE:Cf :=
 (aq (aS 9 (ae bz (aE (aA rz (af (aa 0) (af (dh (aa 1) (cZ (aa 3)) (cZ (ae aQ (ae aQ (aa 3) (aa 2)) (aC (.int 1))))) (af (aa 8) (af (aa 6) az)))))) (aE (aA ic (af (aa 1) (af (ae aQ (ae aQ (aa 3) (aa 2)) (aC (.int 1))) az))))))
 (aq (cF (fe (ae aR (aa 1) (aa 3))) (bc (aw (aj 10) (aw (aj 11) bb))) gt)
 (iH 7 (aa 9))))
noncomputable def uS:Cf :=
 (iH 14 (bR (ag (ae aQ (qd 7 (ae bF (aa 8) (aa 4))) (ae bz (aE (aA rq (af (aa 0) (af (ae bF (aa 8) (aa 13)) az)))) (aE (aA ic (af (aa 1) (af (aa 3) az)))))) (ag (aa 8) am))))
noncomputable def uR:Cf :=
 (aq (fJ 14 (di am))
 (aq (cF (gH (ag (aa 13) (ag (ae aQ (ae aR (aa 0) (aC (.int 0))) (aC (.int 1))) am))) (aj 8) uS)
 (oE 14 (vM 12 (aa 13) (bi re (ag (aa 14) am))))))
def uw:Cg:=bA 6 9
 (aq (aS 6 (ae fW (ae aQ (aa 3) (aa 2)) (ae bF (bi db (ag (aa 1) am)) (aC (.int 1)))))
 (aq (fJ 7 (di am))
 (aq (cF (gH (ag (aa 4) (ag (ae aQ (ae aR (aa 0) (aC (.int 0))) (aC (.int 1))) am))) (aj 8) rE)
 (aq (yV 12)
 (aq (cF (gH (ag (aa 4) (ag (ae aQ (ae aR (aa 0) (aC (.int 0))) (aC (.int 1))) am))) (aj 13) uR)
 (vK 12 (dE 12)))))))
theorem ZlB (T:Txt K mg):ACal (bu cn) P w K mg base "_law_row" 3 ["_law_shop","_law_falls","_law_days","_law_t","_law_lowest","_law_later"] uw:=bK T.ZkP eP rfl λf cdv A outer sh H E hr=>by
 exact (au (aV (aJ (i:=6) eP.nd rfl (.inl rfl) (Ze7 (qY hr) ql (al aY aW (ac (pv 3)) (ac (pv 2))) (al bQ bP (bq (t:=aX) (bj fH rfl T.fx boot_len (ai (ac (pv 1)) ao)) gO) ak) (nomark _))))
 (au (iF (aJ (i:=7) eP.nd rfl (.inl rfl) (dM ao)))
 (au (cN zI rfl (pZ (pf rfl T.dw (ai (ac (pv 4)) (ai (al aY aW (bh bg bf (ac (pv 0)) ak (λ_ _=>rfl)) ak) ao)))) (aU (aT (i:=8) eP.nd rfl (.inl rfl)))
  (au (aV (aJ (i:=9) eP.nd rfl (.inl rfl) (al bO bL (aI (aH (Zey T) (hr.mono (by decide)) rfl (ah (ac (pv 0)) (ah (dN (ac (pv 1)) (dC (ac (pv 3))) (dC (al aY aW (al aY aW (ac (pv 3)) (ac (pv 2))) ak))) (ah (ac (pv 8)) (ah (ac (pv 6)) aB)))))) (aI (aH (rW T) (hr.mono (by decide)) rfl (ah (ac (pv 1)) (ah (al aY aW (al aY aW (ac (pv 3)) (ac (pv 2))) ak) aB)))))))
 (au (cN zI rfl (gF (gi rfl rfl T.gm (bh bg bf (ac (pv 1)) (ac (pv 3)) (λ_ _=>rfl)))) (cY rfl (bC (aU (aT (i:=10) eP.nd rfl (.inl rfl))) (bC (aU (aT (i:=11) eP.nd rfl (.inl rfl))) cX)) (bB (bB cU)))
  (aO (e9 (yL (ZeN (cW eV dQ (ac (pv 11)) ak (nomark _)) (ZeM (yM (vC (ac (pv 6)))))))
  (aO (aV (aJ (i:=9) eP.nd rfl (.inl rfl) (al aY aW (ac (pv 9)) (al bO bL (ac (pv 11)) (bh bg bf (p9 (ph (fT hr) (ac (pv 5)) (al bQ bP (ac (pv 8)) (ac (pv 10))) (λ_ _=>rfl))) ak (λ_ _=>rfl)))))))
  e8)))
 (aO (r6 (gh (pj Aa AO AN q9 (pv 7) (bG (ac (pv 9)) cz))))))))
 (au (Zl3 (aJ (i:=12) eP.nd rfl (.inl rfl) Zcf))
 (au (cN zI rfl (pZ (pf rfl T.dw (ai (ac (pv 4)) (ai (al aY aW (bh bg bf (ac (pv 0)) ak (λ_ _=>rfl)) ak) ao)))) (aU (aT (i:=13) eP.nd rfl (.inl rfl)))
  (au (iF (aJ (i:=14) eP.nd rfl (.inl rfl) (dM ao)))
 (au (cN zI rfl (pZ (pf rfl T.dw (ai (ac (pv 13)) (ai (al aY aW (bh bg bf (ac (pv 0)) ak (λ_ _=>rfl)) ak) ao)))) (aU (aT (i:=8) eP.nd rfl (.inl rfl)))
  (aO (r6 (gh (pj Aa AO AN q9 (pv 14) (bG (bV (ai (al aY aW (Ze6 (al bQ bP (ac (pv 8)) (ac (pv 4))) (pv 7) (λ_ _=>rfl)) (al bO bL (aI (aH (ZlE T) (hr.mono (by decide)) rfl (ah (ac (pv 0)) (ah (al bQ bP (ac (pv 8)) (ac (pv 13))) aB)))) (aI (aH (rW T) (hr.mono (by decide)) rfl (ah (ac (pv 1)) (ah (ac (pv 3)) aB)))))) (ai (ac (pv 8)) ao))) cz))))))
 (aO (rY (k:=14) (Zl6 (Zht (fT hr) (pv 12) (ac (pv 13)) (bq (t:=aX) (bj (Zlo hr rfl) rfl T.qZ boot_min (ai (ac (pv 14)) ao)) Zfz) rfl)))))))
 (aO (Zl4 (k:=12) (gE (pv 12)))))))))
noncomputable def uU:Cf :=
 (aS 4 (ae aQ (aa 4) (ae bz (aE (aA rz (af (aa 0) (af (dh (aa 1) dF (cZ (ae aQ (aa 5) (aC (.int 1))))) (af (aa 3) (af (aC (.bool false)) az)))))) (aE (aA ic (af (aa 1) (af (ae aQ (aa 5) (aC (.int 1))) az)))))))
def uz:Cg:=bA 4 2
 (aq (aS 4 (aC (.int 0)))
 (aq (cF (gI (ag (aa 2) am)) (aj 5) uU)
 (dE 4)))
theorem ZlF (T:Txt K mg):ACal (bu cn) P w K mg base "_law_first_days" 3 ["_law_shop","_law_falls","_law_days","_law_stock"] uz:=bK T.ZkX sZ rfl λf cdv A outer sh H E hr=>by
 exact (au (aV (aJ (i:=4) sZ.nd rfl (.inl rfl) ak))
 (au (cN zI rfl (oB (iU rfl T.dw (ai (ac (pv 2)) ao))) (aU (aT (i:=5) sZ.nd rfl (.inl rfl)))
  (aO (aV (aJ (i:=4) sZ.nd rfl (.inl rfl) (al aY aW (ac (pv 4)) (al bO bL (aI (aH (Zey T) (hr.mono (by decide)) rfl (ah (ac (pv 0)) (ah (dN (ac (pv 1)) dY (dC (al aY aW (ac (pv 5)) ak))) (ah (ac (pv 3)) (ah qa aB)))))) (aI (aH (rW T) (hr.mono (by decide)) rfl (ah (ac (pv 1)) (ah (al aY aW (ac (pv 5)) ak) aB))))))))))
 (aO (gE (pv 4)))))
noncomputable def uY:Cf :=
 (aq (aS 10 (ae aQ (ae bz (ae bz (aa 5) (ae aR (aa 0) (aC (.int 3)))) (aa 9)) (ae bz (aa 6) (aE (aA pH (af (aa 0) (af (aa 7) (af (aa 9) az))))))))
 (iH 8 (ae aQ (aa 10) (aE (aA rh (af (ae aR (aa 1) (aC (.int 0))) (af (aa 3) (af (aa 9) az))))))))
def uH:Cg:=bA 5 6
 (aq (aS 5 (aE (aA ib (af (aa 1) az))))
 (aq (aS 6 (aE (aA ib (af (dh (aa 1) (cZ (ae aQ (aa 2) (aC (.int 1)))) dF) az))))
 (aq (aS 7 (aE (aA pG (af (dh (aa 1) dF (cZ (ae aQ (aa 2) (aC (.int 1))))) az))))
 (aq (fJ 8 (di am))
 (aq (cF (gH (ag (aa 4) (ag (ae aQ (ae aR (aa 0) (aC (.int 0))) (aC (.int 1))) am))) (aj 9) uY)
 (dE 8))))))
theorem ZlN (T:Txt K mg):ACal (bu cn) P w K mg base "counted_sums" 4 ["shop","falls","days","ahead","low"] uH:=bK T.ZkK iR rfl λf cdv A outer sh H E hr=>by
 exact (au (aV (aJ (i:=5) iR.nd rfl (.inl rfl) (aI (aH (rV T) (hr.mono (by decide)) rfl (ah (ac (pv 1)) aB)))))
 (au (aV (aJ (i:=6) iR.nd rfl (.inl rfl) (aI (aH (rV T) (hr.mono (by decide)) rfl (ah (dN (ac (pv 1)) (dC (al aY aW (ac (pv 2)) ak)) dY) aB)))))
 (au (aV (aJ (i:=7) iR.nd rfl (.inl rfl) (aI (aH (yG T) (hr.mono (by decide)) rfl (ah (dN (ac (pv 1)) dY (dC (al aY aW (ac (pv 2)) ak))) aB)))))
 (au (iF (aJ (i:=8) iR.nd rfl (.inl rfl) (dM ao)))
 (au (cN zI rfl (pZ (pf rfl T.dw (ai (ac (pv 4)) (ai (al aY aW (bh bg bf (ac (pv 0)) (d7 rfl T.u6) (λ_ _=>rfl)) ak) ao)))) (aU (aT (i:=9) iR.nd rfl (.inl rfl)))
  (au (aV (aJ (i:=10) iR.nd rfl (.inl rfl) (al aY aW (al bO bL (al bO bL (ac (pv 5)) (bh bg bf (ac (pv 0)) (d7 rfl T.Zdl) (λ_ _=>rfl))) (ac (pv 9))) (al bO bL (ac (pv 6)) (aI (aH (Zes T) (hr.mono (by decide)) rfl (ah (ac (pv 0)) (ah (ac (pv 7)) (ah (ac (pv 9)) aB)))))))))
 (aO (r6 (gh (pj Aa AO AN q9 (pv 8) (bG (al aY aW (ac (pv 10)) (aI (aH (Zlv T) (hr.mono (by decide)) rfl (ah (bh bg bf (ac (pv 1)) ak (λ_ _=>rfl)) (ah (ac (pv 3)) (ah (ac (pv 9)) aB)))))) cz)))))))
 (aO (gE (pv 8))))))))
noncomputable def uc:Cc :=
 (bR (ag (aE (aA rp (af (ae aR (ae dc (aa 2) (aa 0)) (aC (.int 0))) (af (aa 1) az)))) (ag (ae aR (ae dc (aa 2) (aa 0)) (aC (.int 1))) am)))
noncomputable def uV:Cf :=
 (aq (aS 7 (ae bF (aa 3) (aE (aA i8 (af (dh (aa 1) dF (cZ (aa 6))) az)))))
 (aq (aS 5 (aE (aA uw (af (aa 0) (af (aa 1) (af (aa 2) (af (aa 6) (af (aa 7) (af (aa 5) az)))))))))
 (aq (aS 8 (aE (aA ic (af (aa 1) (af (aa 6) az)))))
 (aS 4 (ae aQ (bR (ag (bi fN (ag (cb (dO (d9 (cb (vN qr (ag (aa 5) am)))) 1 [8,5] (aj 0) uc)) am)) am)) (aa 4))))))
def uB:Cg:=bA 4 6
 (aq (aS 4 (bR am))
 (aq (aS 5 (aC (.dict [])))
 (aq (cF (yW (ag (ae bF (ae bF (bi db (ag (aa 1) am)) (aC (.int 1))) (aa 2)) (ag (fc (aC (.int 1))) (ag (fc (aC (.int 1))) am)))) (aj 6) uV)
 (aq (aS 9 (ae aQ (aE (aA uz (af (aa 0) (af (aa 1) (af (aa 2) (af (aa 3) az)))))) (ae aR (ae dc (aa 5) (aa 3)) (aC (.int 0)))))
 (bW (bR (ag (aa 4) (ag (aE (aA rp (af (aa 9) (af (aE (aA ic (af (aa 1) (af (aC (.int 0)) az)))) az)))) am))))))))
theorem ZlH (T:Txt K mg):ACal (bu cn) P w K mg base "_law_due" 4 ["_law_shop","_law_falls","_law_days","_law_stock"] uB:=bK T.ZkZ ge rfl λf cdv A outer sh H E hr=>by
 exact (au (aV (aJ (i:=4) ge.nd rfl (.inl rfl) (bV ao)))
 (au (aV (aJ (i:=5) ge.nd rfl (.inr rfl) Zmk))
 (au (cN zI rfl (Zme (ZhA rfl T.dw (ai (al bQ bP (al bQ bP (bq (t:=aX) (bj fH rfl T.fx boot_len (ai (ac (pv 1)) ao)) gO) ak) (ac (pv 2))) (ai (gG ak) (ai (gG ak) ao))))) (aU (aT (i:=6) ge.nd rfl (.inl rfl)))
  (au (aV (aJ (i:=7) ge.nd rfl (.inl rfl) (al bQ bP (ac (pv 3)) (aI (aH (vA T) (hr.mono (by decide)) rfl (ah (dN (ac (pv 1)) dY (dC (ac (pv 6)))) aB))))))
 (au (aV (aJ (i:=5) ge.nd rfl (.inr rfl) (aI (aH (ZlB T) (hr.mono (by decide)) rfl (ah (ac (pv 0)) (ah (ac (pv 1)) (ah (ac (pv 2)) (ah (ac (pv 6)) (ah (ac (pv 7)) (ah (ac (pv 5)) aB))))))))))
 (au (aV (aJ (i:=8) ge.nd rfl (.inr rfl) (aI (aH (rW T) (hr.mono (by decide)) rfl (ah (ac (pv 1)) (ah (ac (pv 6)) aB))))))
 (aO (aV (aJ (i:=4) ge.nd rfl (.inl rfl) (al aY aW (bV (ai (bq (t:=aX) (fu pW rfl T.pD boot_tuple (ai (cI (iG (g9 v5 ["_law_k"] [8,5] rfl (fb (cI (Zma (t:=aX) (bj (Zlk rfl) rfl T.Zin boot_sorted (ai (ac (pv 5)) ao)) Zfy))) (λb=>(aU (aT (i:=0) (show ((bN v5 ["_law_k"] [8,5])).Nodup by trivial) rfl (.inl rfl)))) (λb=>(bV (ai (aI (aH (Zew T) (hr.mono (by decide)) rfl (ah (bh bg bf (p9 (ph (fT hr) (ac (pv 2)) (ac (pv 0)) (λ_ _=>rfl))) ak (λ_ _=>rfl)) (ah (ac (pv 1)) aB)))) (ai (bh bg bf (p9 (ph (fT hr) (ac (pv 2)) (ac (pv 0)) (λ_ _=>rfl))) ak (λ_ _=>rfl)) ao)))) rfl (show BlkOk v5 (aN qK) _ [8,5] by trivial)) (cv (by decide)))) ao)) oN) ao)) (ac (pv 4))))))))))
 (au (aV (aJ (i:=9) ge.nd rfl (.inl rfl) (al aY aW (aI (aH (ZlF T) (hr.mono (by decide)) rfl (ah (ac (pv 0)) (ah (ac (pv 1)) (ah (ac (pv 2)) (ah (ac (pv 3)) aB)))))) (bh bg bf (p9 (ph (fT hr) (ac (pv 5)) (ac (pv 3)) (λ_ _=>rfl))) ak (λ_ _=>rfl)))))
 (aO (bZ (bV (ai (ac (pv 4)) (ai (aI (aH (Zew T) (hr.mono (by decide)) rfl (ah (ac (pv 9)) (ah (aI (aH (rW T) (hr.mono (by decide)) rfl (ah (ac (pv 1)) (ah ak aB)))) aB)))) ao)))))))))
noncomputable def ub:Cc :=
 (bR (ag (aE (aA pI (af (aa 0) (af (aa 2) az)))) (ag (aa 1) am)))
noncomputable def ua:Cc :=
 (ae aQ (aa 3) (aa 0))
noncomputable def t9:Cc :=
 (aa 1)
noncomputable def uO:Cf :=
 (aq (aS 8 (aE (aA rl (af (aa 1) (af (aa 7) (af (aa 3) az))))))
 (aq (aS 9 (aE (aA ib (af (dh (aa 1) (cZ (aa 7)) dF) az))))
 (aq (aS 10 (aE (aA uJ (af (aa 0) (af (aa 8) (af (aE (aA uH (af (aa 0) (af (dh (aa 1) (cZ (aa 7)) dF) (af (aa 2) (af (aa 5) (af (aa 8) az))))))) (af (aa 9) az)))))))
 (aq (iH 6 (bi fN (ag (cb (dO (d9 (aa 10)) 2 [9] (bc (aw (aj 0) (aw (aj 1) bb))) ub)) am)))
 (aS 5 (gJ (fe (aa 10)) 3 [8] (bc (aw (aj 0) (aw (bc (aw (aj 1) (aw (aj 2) bb))) bb))) ua t9))))))
def rj:Cg:=bA 4 7
 (aq (aS 4 (ae bF (bi db (ag (aa 1) am)) (aa 2)))
 (aq (aS 5 (aE (aA uF (af (aa 0) (af (aa 1) (af (aa 4) (af (aa 3) az)))))))
 (aq (fJ 6 (di am))
 (aq (cF (yY (ag (aa 4) am)) (aj 7) uO)
 (aq (sg 6)
 (oE 6 (bW (bR (ag (aa 6) (ag (ae dc (aa 5) (aa 3)) am))))))))))
theorem Zet (T:Txt K mg):ACal (bu cn) P w K mg base "short_days" 5 ["shop","falls","days","stock"] rj:=bK T.Zkw gc rfl λf cdv A outer sh H E hr=>by
 exact (au (aV (aJ (i:=4) gc.nd rfl (.inl rfl) (al bQ bP (bq (t:=aX) (bj fH rfl T.fx boot_len (ai (ac (pv 1)) ao)) gO) (ac (pv 2)))))
 (au (aV (aJ (i:=5) gc.nd rfl (.inl rfl) (aI (aH (ZlL T) (hr.mono (by decide)) rfl (ah (ac (pv 0)) (ah (ac (pv 1)) (ah (ac (pv 4)) (ah (ac (pv 3)) aB))))))))
 (au (iF (aJ (i:=6) gc.nd rfl (.inl rfl) (dM ao)))
 (au (cN zI rfl (Zmg (Zca rfl T.Zcu (fu Zln rfl T.dw boot_range (ai (ac (pv 4)) ao)))) (aU (aT (i:=7) gc.nd rfl (.inl rfl)))
  (au (aV (aJ (i:=8) gc.nd rfl (.inr rfl) (aI (aH (Zev T) (hr.mono (by decide)) rfl (ah (ac (pv 1)) (ah (ac (pv 7)) (ah (ac (pv 3)) aB)))))))
 (au (aV (aJ (i:=9) gc.nd rfl (.inr rfl) (aI (aH (rV T) (hr.mono (by decide)) rfl (ah (dN (ac (pv 1)) (dC (ac (pv 7))) dY) aB)))))
 (au (aV (aJ (i:=10) gc.nd rfl (.inl rfl) (aI (aH (ZlP T) (hr.mono (by decide)) rfl (ah (ac (pv 0)) (ah (ac (pv 8)) (ah (aI (aH (ZlN T) (hr.mono (by decide)) rfl (ah (ac (pv 0)) (ah (dN (ac (pv 1)) (dC (ac (pv 7))) dY) (ah (ac (pv 2)) (ah (ac (pv 5)) (ah (ac (pv 8)) aB))))))) (ah (ac (pv 9)) aB))))))))
 (au (r6 (gh (pj Aa AO AN q9 (pv 6) (bG (bq (t:=aX) (fu pW rfl T.pD boot_tuple (ai (cI (iG (g9 f9 ["cost","level"] [9] rfl (fb (ac (pv 10))) (λb=>(cY rfl (bC (aU (aT (i:=0) (show ((bN f9 ["cost","level"] [9])).Nodup by trivial) rfl (.inl rfl))) (bC (aU (aT (i:=1) (show ((bN f9 ["cost","level"] [9])).Nodup by trivial) rfl (.inl rfl))) cX)) (bB (bB cU)))) (λb=>(bV (ai (aI (aH (Zeu T) (hr.mono (by decide)) rfl (ah (ac (pv 0)) (ah (ac (pv 2)) aB)))) (ai (ac (pv 1)) ao)))) rfl (show BlkOk f9 (aN oV) _ [9] by trivial)) (gZ (dr (cv (by decide)) (dr (cv (by decide)) g7))))) ao)) oN) cz))))
 (aO (Zl2 (Zhq (i:=5) f9 ["at","cost","level"] [8] rfl gc.nd rfl rfl (gF (gi rfl rfl T.gm (ac (pv 10)))) (λb=>(cY rfl (bC (aU (aT (i:=0) (show ((bN f9 ["at","cost","level"] [8])).Nodup by trivial) rfl (.inl rfl))) (bC (cY rfl (bC (aU (aT (i:=1) (show ((bN f9 ["at","cost","level"] [8])).Nodup by trivial) rfl (.inl rfl))) (bC (aU (aT (i:=2) (show ((bN f9 ["at","cost","level"] [8])).Nodup by trivial) rfl (.inl rfl))) cX)) (bB (bB cU))) cX)) (bB (bB cU)))) (λb=>(al aY aW (ac (pv 3)) (ac (pv 0)))) (λb=>(ac (pv 1))) rfl (show BlkOk f9 (aN oV) _ [8] by trivial) rfl) (gZ (dr (cv (by decide)) (dr (gZ (dr (cv (by decide)) (dr (cv (by decide)) g7))) g7))))))))))
 (au (ZeT (gh (Zch Aa B0 BZ Zcw (pv 6))))
 (aO (rY (k:=6) (bZ (bV (ai (ac (pv 6)) (ai (p9 (ph (fT hr) (ac (pv 5)) (ac (pv 3)) (λ_ _=>rfl))) ao)))))))))))
noncomputable def uQ:Cf :=
 (sr u3 5 (ae bz (aE (aA ib (af (dh (aa 1) (cZ (ae aQ (aa 6) (aC (.int 1)))) dF) az))) (aE (aA pH (af (aa 0) (af (aE (aA pG (af (dh (aa 1) dF (cZ (ae aQ (aa 6) (aC (.int 1))))) az))) (af (aa 3) az)))))))
def uv:Cg:=bA 4 3
 (aq (vL (aE (aA rD (af (aa 0) (af (aa 1) (af (aa 3) az))))))
 (aq (oF (bc (aw (aj 4) (aw (aj 5) bb))) (aE (aA rj (af (aa 0) (af (aa 1) (af (aa 2) (af (aa 3) az)))))))
 (aq (cF (gI (ag (aa 2) am)) (aj 6) uQ)
 (vJ (aA pI (af (aa 5) (af (aE (aA ib (af (aa 1) az))) az)))))))
theorem Zlz (T:Txt K mg):ACal (bu cn) P w K mg base "least_late" 6 ["shop","falls","days","stock"] uv:=bK T.ZkB qy rfl λf cdv A outer sh H E hr=>by
 exact (au (ZeW (aI (aH (ZeB T) (hr.mono (by decide)) rfl (ah (ac (pv 0)) (ah (ac (pv 1)) (ah (ac (pv 3)) aB))))))
 (au (rZ (fP (aI (aH (Zet T) (hr.mono (by decide)) rfl (ah (ac (pv 0)) (ah (ac (pv 1)) (ah (ac (pv 2)) (ah (ac (pv 3)) aB)))))) (cY rfl (bC (aU (aT (i:=4) qy.nd rfl (.inl rfl))) (bC (aU (aT (i:=5) qy.nd rfl (.inl rfl))) cX)) (bB (bB cU)))))
 (au (cN zI rfl (oB (iU rfl T.dw (ai (ac (pv 2)) ao))) (aU (aT (i:=6) qy.nd rfl (.inl rfl)))
  (aO (ZeX Zfx (Zb7 (i:=5) qy.nd rfl (.inl rfl) (al bO bL (aI (aH (rV T) (hr.mono (by decide)) rfl (ah (dN (ac (pv 1)) (dC (al aY aW (ac (pv 6)) ak)) dY) aB))) (aI (aH (Zes T) (hr.mono (by decide)) rfl (ah (ac (pv 0)) (ah (aI (aH (yG T) (hr.mono (by decide)) rfl (ah (dN (ac (pv 1)) dY (dC (al aY aW (ac (pv 6)) ak))) aB))) (ah (ac (pv 3)) aB)))))) (pip Zjo)))))
 (aO (ZeU (aH (Zeu T) (hr.mono (by decide)) rfl (ah (ac (pv 5)) (ah (aI (aH (rV T) (hr.mono (by decide)) rfl (ah (ac (pv 1)) aB))) aB))))))))
def ut:Cg:=bA 4 2
 (aq (vL (aE (aA rD (af (aa 0) (af (aa 1) (af (aa 3) az))))))
 (aq (oF (bc (aw (aj 4) (aw (aj 5) bb))) (aE (aA rj (af (aa 0) (af (aa 1) (af (aa 2) (af (aa 3) az)))))))
 (bW (bi fN (ag (aa 4) am)))))
theorem Zlx (T:Txt K mg):ACal (bu cn) P w K mg base "short_table" 6 ["shop","falls","days","stock"] ut:=bK T.Zd7 sU rfl λf cdv A outer sh H E hr=>by
 exact (au (ZeW (aI (aH (ZeB T) (hr.mono (by decide)) rfl (ah (ac (pv 0)) (ah (ac (pv 1)) (ah (ac (pv 3)) aB))))))
 (au (rZ (fP (aI (aH (Zet T) (hr.mono (by decide)) rfl (ah (ac (pv 0)) (ah (ac (pv 1)) (ah (ac (pv 2)) (ah (ac (pv 3)) aB)))))) (cY rfl (bC (aU (aT (i:=4) sU.nd rfl (.inl rfl))) (bC (aU (aT (i:=5) sU.nd rfl (.inl rfl))) cX)) (bB (bB cU)))))
 (aO (bZ (bq (t:=aX) (fu pW rfl T.pD boot_tuple (ai (ac (pv 4)) ao)) oN)))))
def ul:Ce:=eY 3 0
 (bX (ae (df λi j=>decide (i < j)) (aa 2) (aE (aA pJ (af (aa 0) (af (aa 1) (af (aC (.int 0)) az)))))))
theorem ZlQ (T:Txt K mg) {C:Addr} (hC:mg "NoStand"=some (.ref C)) (xc:Xcl K C iy "ValueError.__new__"):CalleeX P w K mg base "ask_free" 3 ["shop","falls","stock"] (qt (bu cn) 3 ul C):=by
 refine T.Zd8.okX Za9 (λvs H Q E h=>h.1) (λf cdv A outer s H vs Q E hr h=>?_)
 refine ⟨_,fr (pd (cW qW dQ (ac (pv 2)) (aI (aH (ZeA (cn:=cn) T) (hr.mono (by decide)) rfl (ah (ac (pv 0)) (ah (ac (pv 1)) (ah ak aB))))) (nomark _)) (fr (Zhr F.excBase_ValueError xc rfl hC)) pb),?_⟩
 exact Zfo rfl h
def uk:Ce:=eY 4 2
 λρ=>(af (aa 0) (af (aa 1) (af (aa 3) az)) ρ).bind ul
theorem Zlw (T:Txt K mg) {C:Addr} (hC:mg "NoStand"=some (.ref C)) (xc:Xcl K C iy "ValueError.__new__"):CalleeX P w K mg base "short_table" 4 ["shop","falls","days","stock"] (qt (bu cn) 4 uk C):=by
 obtain ⟨fs,fds,FS,hms,hks,hbs⟩:=(ZlQ (P:=P) (w:=w) (base:=base) (cn:=cn) T hC xc).ex
 refine T.Zd7.okX sU (λvs H Q E h=>h.1) (λf cdv A outer s H vs Q E hr h=>?_)
 refine ⟨_,dq (Zhp FS (hr.mono (by decide)) rfl hms hks hbs (ah (PK:=(bu cn)) (ac (pv 0)) (ah (ac (pv 1)) (ah (ac (pv 3)) aB)))) Zhl,?_⟩
 exact Zfn rfl yl h
def i7:Cg:=λas=>(eY 4 2 (λρ=>(af (aa 0) (af (aa 1) (af (aa 2) (af (aa 3) az))) (ρ.set 4 (.d .none))).bind uk) as).bind λb=>if b=true then .ret (.d (.bool true)) else .fail
theorem Zex (T:Txt K mg):ACal (bu cn) P w K mg base "_law_refused" 7 ["_law_shop","_law_falls","_law_days","_law_stock"] i7:=by
 have len:∀ as m Z,(i7 as).ok m Z->as.length=4:=λas m Z h=>yl _ _ _ (Tr.ok_bind.mp h)
 refine ⟨T.ZkR.ok sY (λvs H Q E h=>h.1) λf cdv A outer sh H vs Q E hr hsp=>?_,len⟩
 obtain ⟨hv,pa,m,G,as,wd,ar,z⟩:=hsp
 obtain ⟨v1,v2,v3,v4,rfl⟩:=L2.fA hv
 obtain ⟨C,D,a0,a1,a2,a3,a4,a5,a6,hC,hD,h0,h1,h2,h3,h4,h5,h6,xc⟩:=T.Zfp
 obtain ⟨fs,fds,FS,hms,hks,hbs⟩:=(Zlw (P:=P) (w:=w) (base:=base) (cn:=cn) T hC xc.cl).ex
 refine ⟨_,dq (aJ (i:=4) sY.nd rfl (.inl rfl) ZhJ)
  (dq (Zho (i:=5) rfl rfl sY.nd FS (hr.mono (by decide)) rfl hms hks hbs (ah (PK:=(bu cn)) (ac (pv 0)) (ah (ac (pv 1)) (ah (ac (pv 2)) (ah (ac (pv 3)) aB)))) xc.un rfl hD rfl rfl (.inl rfl) (.inl rfl) (λea=>fr (aJ (i:=4) sY.nd rfl (.inl rfl) (pv 5))))
  (dq (pd (Zhi (bj (Zlq xc.ci BL (by trivial) xJ) rfl T.xB rfl (bG (pv 4) (bG (Zcc (bG (gj (v:=.ref a0) rfl h0 rfl) (bG (gj (v:=.ref a1) rfl h1 rfl) (bG (gj (v:=.ref a2) rfl h2 rfl) (bG (gj (v:=.ref a3) rfl h3 rfl) (bG (gj (v:=.ref a4) rfl h4 rfl) (bG (gj (v:=.ref a5) rfl h5 rfl) (bG (gj (v:=.ref a6) rfl h6 rfl) cz)))))))) cz)))) (fr (gg Zci)) pb)
  (fr (gg (ZhQ (bj (Zls xc.ci BL (by trivial) xJ) rfl T.xB rfl (bG (pv 4) (bG (gj (v:=.ref C) rfl hC rfl) cz))) (ZhI (bj (Zlr xc.ci BL (by trivial) xJ) rfl T.xB rfl (bG (pv 4) (bG (ZhP (v:=.ty "ValueError") rfl T.Zip ZlR rfl) cz))))))))),?_⟩
 unfold i7 eY at z
 obtain ⟨_,z⟩:=dS (Tr.ok_bind.mp z)
 refine ⟨pa,G,H,m,_,G,(Rl.start wd ar rfl).set .non 4,Tr.ok_mono (Tr.ok_bind.mp z) λm1 as1 z1 vs1 G1 H1 s1 w1 ar1=>?_⟩
 refine ⟨by rw [ar1.length]; exact yl _ _ _ z1,pa,m1,G1,as1,w1,ar1,Tr.ok_mono z1 λm2 b kb=>?_⟩
 cases b with
 | false=>exact kb.elim
 | true =>
 refine ⟨rfl,λG2 H2 s2 w2=>⟨rfl,λea hea=>?_⟩⟩
 refine ⟨.ref ea,rfl,?_⟩
 refine ⟨.ref ea,rfl,by show 7<=sizeLine; decide,λp hp=>?_⟩
 have hne:ea≠p:=λe=>by rw [e,bH] at hp; cases hp
 obtain ⟨w3,s3⟩:=w2.own (o:=.ext (dG ea (.ref C))) hea
 obtain ⟨w4,s4⟩:=w3.own (o:=.tup [.ref a0,.ref a1,.ref a2,.ref a3,.ref a4,.ref a5,.ref a6]) hp
 have hat:upd (upd H2 ea (.ext (dG ea (.ref C)))) p (.tup [.ref a0,.ref a1,.ref a2,.ref a3,.ref a4,.ref a5,.ref a6]) ea=some (.ext (dG ea (.ref C))):=by rw [ay hne,bH]
 refine ⟨ea,p,[a0,a1,a2,a3,a4,a5,a6],false,rfl,hat,bH,xc.any,false,rfl,?_⟩
 refine ⟨.ref ea,rfl,ea,C,true,rfl,hat,Zi1,true,rfl,.ref ea,rfl,ea,"ValueError",true,rfl,hat,xc.vt,?_⟩
 exact kb (.bl true) G2 _ ((s1.trans s2 w1.some).trans (s3.trans s4 w3.some) w2.some) w4 (.bl true)
def rn:Cg:=bA 3 3
 (aq (aS 3 (ae bF (aE (aA i8 (af (aa 2) az))) (ae aR (aa 1) (aC (.int 0)))))
 (aq (eh (bX (ae (df λi j=>decide (i < j)) (aa 3) (aC (.int 1))))
  (bW (aC (.bool true)))
  d8)
 (aq (aS 4 (ae aQ (bR (ag (ae aR (aa 1) (aC (.int 0))) (ag (aE (aA cA (b5 0 (af (aa 3) az)))) am))) (dh (aa 1) (cZ (aC (.int 2))) dF)))
 (aq (aS 5 (ae bF (aE (aA cA (b5 0 (af (ae aQ (ae aQ (ae aR (aa 4) (aC (.int 0))) (ae aR (aa 4) (aC (.int 1)))) (aC (.int 1))) az)))) (ae aR (aa 4) (aC (.int 1)))))
 (vJ (aA i7 (af (aa 4) (af (aa 2) (af (ae aQ (aC (.int 1)) (aE (aA cA (b5 0 (af (bi rb (ag (aC (.int 3)) (ag (ae bF (bi db (ag (aa 2) am)) (aC (.int 1))) am))) az))))) (af (aa 5) az))))))))))
theorem ZlA (T:Txt K mg):ACal (bu cn) P w K mg base "_law_tight_right" 8 ["_law_pen_here","_law_shop","_law_falls"] rn:=bK T.ZkN sX rfl λf cdv A outer sh H E hr=>by
 exact (au (aV (aJ (i:=3) sX.nd rfl (.inl rfl) (al bQ bP (aI (aH (vA T) (hr.mono (by decide)) rfl (ah (ac (pv 2)) aB))) (bh bg bf (ac (pv 1)) ak (λ_ _=>rfl)))))
 (au (e9 (cW qW dQ (ac (pv 3)) ak (nomark _))
  (aO (bZ qa))
  e8)
 (au (aV (aJ (i:=4) sX.nd rfl (.inl rfl) (al aY aW (bV (ai (bh bg bf (ac (pv 1)) ak (λ_ _=>rfl)) (ai (aI (aH (cM T) (hr.mono (by decide)) rfl (cq (pv 0) (ah (ac (pv 3)) aB)))) ao))) (dN (ac (pv 1)) (dC ak) dY))))
 (au (aV (aJ (i:=5) sX.nd rfl (.inl rfl) (al bQ bP (aI (aH (cM T) (hr.mono (by decide)) rfl (cq (pv 0) (ah (al aY aW (al aY aW (bh bg bf (ac (pv 4)) ak (λ_ _=>rfl)) (bh bg bf (ac (pv 4)) ak (λ_ _=>rfl))) ak) aB)))) (bh bg bf (ac (pv 4)) ak (λ_ _=>rfl)))))
 (aO (ZeU (aH (Zex T) (hr.mono (by decide)) rfl (ah (ac (pv 4)) (ah (ac (pv 2)) (ah (al aY aW ak (aI (aH (cM T) (hr.mono (by decide)) rfl (cq (pv 0) (ah (bq (t:=aX) (bj (Zep rfl) rfl T.qZ boot_min (ai ak (ai (al bQ bP (bq (t:=aX) (bj fH rfl T.fx boot_len (ai (ac (pv 2)) ao)) gO) ak) ao))) Zan) aB))))) (ah (ac (pv 5)) aB)))))))))))
noncomputable def xX:Cf :=
 (aq (aS 12 (bR (ag (aE (aA ut (af (aa 3) (af (aa 10) (af (aa 9) (af (aa 11) az)))))) (ag (aE (aA uv (af (aa 3) (af (aa 10) (af (aa 9) (af (aa 11) az)))))) am))))
 (eh (bX (ae pB (bi iS (ag (aa 12) am)) (bi iS (ag (aE (aA uB (af (aa 3) (af (aa 10) (af (aa 9) (af (aa 11) az)))))) am))))
  (bW (aC (.bool false)))
  d8))
noncomputable def uX:Cf :=
 (aq (cF (d9 (bR (ag (bR (ag (aa 4) (ag (aa 5) am))) (ag (bR (ag (aa 4) (ag (aa 8) am))) (ag (bR (ag (ae o0 (aa 4) (fc (aC (.int 1)))) (ag (aa 5) am))) (ag (bR (ag (aa 4) (ag (aa 5) am))) am)))))) (bc (aw (aj 10) (aw (aj 11) bb))) xX)
 (eh (vQ (bX (ae (df λi j=>decide (i > j)) (aa 7) (ae bF (aC (.int 0)) (ae aR (aa 3) (aC (.int 1)))))) (si (qc (aE (aA i7 (af (aa 3) (af (aa 4) (af (aa 9) (af (ae bF (aa 7) (aC (.int 1))) az)))))))))
  (bW (aC (.bool false)))
  d8))
noncomputable def xW:Cf :=
 (aq (oF (bc (aw (aj 3) (aw (aj 4) (aw (aj 5) bb)))) (aE (aA uD (b5 1 az))))
 (aq (aS 6 (bi iS (ag (bR (ag (aa 3) (ag (aa 4) am))) am)))
 (aq (aS 7 (ae bF (aE (aA i8 (af (aa 4) az))) (ae aR (aa 3) (aC (.int 1)))))
 (aq (aS 8 (ae aQ (aa 7) (aE (aA cA (b5 1 (af (ae aQ (ae bF (ae aR (aa 3) (aC (.int 0))) (aa 7)) (aC (.int 1))) az))))))
 (aq (cF (gH (ag (aC (.int 1)) (ag (ae aQ (bi rb (ag (aC (.int 3)) (ag (ae bF (bi db (ag (aa 4) am)) (aC (.int 1))) am))) (aC (.int 1))) am))) (aj 9) uX)
 (eh (yZ (bX (ae pB (bi iS (ag (bR (ag (aa 3) (ag (aa 4) am))) am)) (aa 6))) (si (qc (aE (aA rn (b5 1 (af (aa 3) (af (aa 4) az))))))))
  (bW (aC (.bool false)))
  d8))))))
noncomputable def uE:Cf :=
 (aq (cF (gI (ag (aC (.int 2)) am)) (aj 2) xW)
 (bW (aC (.bool true))))
noncomputable abbrev xT:Cr:=.un::.pen::List.replicate 11 .un
theorem Zh9 (T:Txt K mg) {f:Addr} {fd:FuncData} (F:Fun K "law" "law" qD f fd) (hl:(uE xT).ok 0 λ_ o=>o=.ret (.d (.bool true))):FnOk P w K mg base iI 9 f fd ["_law_script"] (ZaT K):=by
 refine F.ok eF (λvs H Q E h=>?_) (λcdv A outer s H vs Q E hr h=>?_)
 ·obtain ⟨a,ns,rfl,_⟩:=h
  rfl
 ·obtain ⟨a,ns,rfl,hS,hlen,k⟩:=h
  have hu:=fT hr
  refine ⟨_,(dq (aJ (i:=1) eF.nd rfl (.inl rfl) (Zcg (Zh8 T) (hr.mono (by decide)) rfl (bG (pv 0) cz)))
 (Zhm (t:=λcn=>br (bu cn) uE) λcn=>(au (cN zI rfl (oB (iU rfl T.dw (ai ak ao))) (aU (aT (i:=2) eF.nd rfl (.inl rfl)))
  (au (rZ (fP (aI (aH (ZlJ T) (hr.mono (by decide)) rfl (cq (pv 1) aB))) (cY rfl (bC (aU (aT (i:=3) eF.nd rfl (.inl rfl))) (bC (aU (aT (i:=4) eF.nd rfl (.inl rfl))) (bC (aU (aT (i:=5) eF.nd rfl (.inl rfl))) cX))) (bB (bB (bB cU))))))
 (au (aV (aJ (i:=6) eF.nd rfl (.inl rfl) (bq (t:=aX) (bj (vz hr) rfl T.uo boot_repr (ai (bV (ai (ac (pv 3)) (ai (ac (pv 4)) ao))) ao)) sI)))
 (au (aV (aJ (i:=7) eF.nd rfl (.inl rfl) (al bQ bP (aI (aH (vA T) (hr.mono (by decide)) rfl (ah (ac (pv 4)) aB))) (bh bg bf (ac (pv 3)) ak (λ_ _=>rfl)))))
 (au (aV (aJ (i:=8) eF.nd rfl (.inl rfl) (al aY aW (ac (pv 7)) (aI (aH (cM T) (hr.mono (by decide)) rfl (cq (pv 1) (ah (al aY aW (al bQ bP (bh bg bf (ac (pv 3)) ak (λ_ _=>rfl)) (ac (pv 7))) ak) aB)))))))
 (au (cN zI rfl (pZ (pf rfl T.dw (ai ak (ai (al aY aW (bq (t:=aX) (bj (Zep rfl) rfl T.qZ boot_min (ai ak (ai (al bQ bP (bq (t:=aX) (bj fH rfl T.fx boot_len (ai (ac (pv 4)) ao)) gO) ak) ao))) Zan) ak) ao)))) (aU (aT (i:=9) eF.nd rfl (.inl rfl)))
  (au (cN zI rfl (fb (bV (ai (bV (ai (ac (pv 4)) (ai (ac (pv 5)) ao))) (ai (bV (ai (ac (pv 4)) (ai (ac (pv 8)) ao))) (ai (bV (ai (Zmi (ac (pv 4)) (gG ak)) (ai (ac (pv 5)) ao))) (ai (bV (ai (ac (pv 4)) (ai (ac (pv 5)) ao))) ao)))))) (cY rfl (bC (aU (aT (i:=10) eF.nd rfl (.inl rfl))) (bC (aU (aT (i:=11) eF.nd rfl (.inl rfl))) cX)) (bB (bB cU)))
  (au (aV (aJ (i:=12) eF.nd rfl (.inl rfl) (bV (ai (aI (aH (Zlx T) (hr.mono (by decide)) rfl (ah (ac (pv 3)) (ah (ac (pv 10)) (ah (ac (pv 9)) (ah (ac (pv 11)) aB)))))) (ai (aI (aH (Zlz T) (hr.mono (by decide)) rfl (ah (ac (pv 3)) (ah (ac (pv 10)) (ah (ac (pv 9)) (ah (ac (pv 11)) aB)))))) ao)))))
 (aO (e9 (cW (Zcn hr) Zal (bq (t:=aX) (bj (vz hr) rfl T.uo boot_repr (ai (ac (pv 12)) ao)) sI) (bq (t:=aX) (bj (vz hr) rfl T.uo boot_repr (ai (aI (aH (ZlH T) (hr.mono (by decide)) rfl (ah (ac (pv 3)) (ah (ac (pv 10)) (ah (ac (pv 9)) (ah (ac (pv 11)) aB)))))) ao)) sI) (nomark _))
  (aO (bZ qa))
  e8))))
 (aO (e9 (yL (ZeN (cW eV dQ (ac (pv 7)) (al bQ bP ak (bh bg bf (ac (pv 3)) ak (λ_ _=>rfl))) (nomark _)) (ZeM (yM (vC (aI (aH (Zex T) (hr.mono (by decide)) rfl (ah (ac (pv 3)) (ah (ac (pv 4)) (ah (ac (pv 9)) (ah (al bQ bP (ac (pv 7)) ak) aB)))))))))))
  (aO (bZ qa))
  e8))))
 (aO (e9 (yL (ZlX (cW (Zcn hr) Zal (bq (t:=aX) (bj (vz hr) rfl T.uo boot_repr (ai (bV (ai (ac (pv 3)) (ai (ac (pv 4)) ao))) ao)) sI) (ac (pv 6)) (nomark _)) (ZlW (yM (vC (aI (aH (ZlA T) (hr.mono (by decide)) rfl (cq (pv 1) (ah (ac (pv 3)) (ah (ac (pv 4)) aB))))))))))
  (aO (bZ qa))
  e8))))))))
 (aO (bZ qa))))),?_⟩
  refine ⟨_,rfl,a,ns,rfl,hS,hlen,λp c H' hp hP hs=>?_⟩
  exact ZiU (n:=11) hP rfl rfl (λH'=>k H') hl
end
end My
set_option Elab.async false
set_option linter.all false
set_option maxRecDepth 100000
local macro_rules | `(tactic| simp_arith [$ls,*] $[$loc]?) => do let b : Lean.TSyntaxArray ``Lean.Parser.Tactic.simpLemma ← (("L2.jD L2.jC L2.oA L2.nT L2.nS L2.oo L2.gz L2.gA L2.jT L2.nz L2.nc L2.ly L2.ng L2.na L2.lx L2.mr L2.mj L2.mq L2.mi L2.md L2.cV L2.f8 L2.gD L2.gC L2.iE L2.iD L2.iC L2.iB L2.iA L2.iz L2.lv L2.lu L2.jS L2.jL L2.jR L2.jQ L2.jP L2.jO L2.jM L2.jN L2.oh L2.li L2.lq L2.oa L2.og L2.lg L2.lh L2.lp L2.n9 L2.lf L2.lm L2.n6 L2.n8 L2.lb L2.lc L2.ll L2.mO L2.mL L2.mM L2.nA L2.nG L2.nF L2.nE L2.nC L2.nD L2.lr L2.nw L2.nv L2.nu L2.jK L2.jJ L2.lK L2.lJ L2.lM L2.lL L2.bM L2.nM L2.nJ L2.lP L2.eN L2.oq L2.lC L2.lA L2.mv L2.mw L2.jI L2.jE L2.lH L2.lD L2.fV L2.gx L2.lB L2.oi L2.n5 L2.mn L2.ml L2.jY L2.jX L2.jW L2.jV L2.jU L2.k7 L2.kZ L2.kY L2.jH L2.jG L2.lG L2.lF L2.ow L2.ox L2.oz L2.oy L2.kU L2.kT L2.ou L2.ot L2.nO L2.kS L2.kR L2.nk L2.m7 L2.mZ L2.kn L2.kj L2.ki L2.km L2.kl L2.jZ L2.nP L2.nr L2.mG L2.mE L2.mF L2.kQ L2.kP L2.kO L2.kN L2.kM L2.kL L2.kK L2.kJ L2.kI L2.kh L2.kg L2.ke L2.kc L2.ka L2.j9 L2.j8 L2.jc L2.jb L2.nW L2.nV L2.nU L2.mP L2.la L2.k9 L2.n4 L2.n0 L2.nZ L2.kH L2.kG L2.mQ L2.jt L2.ju L2.js L2.jr L2.jv L2.nY L2.nX L2.lj L2.jm L2.jk L2.jn L2.jq L2.jl L2.kX L2.kW L2.mh L2.mf L2.me L2.kA L2.kz L2.jB L2.jA L2.jz L2.jx L2.jw L2.nh L2.nj L2.ni L2.mV L2.mU L2.io L2.cC L2.cm L2.mS L2.mT L2.mR L2.lX L2.lW L2.lV L2.iX L2.iY L2.i5 L2.iZ L2.nN L2.nI L2.mX L2.mW L2.lQ L2.lR L2.lO L2.lN L2.mC L2.lS L2.lU L2.lT L2.mH L2.mJ L2.mK L2.mI L2.nL L2.nK L2.mY L2.j7 L2.j6 L2.j4 L2.om L2.oj L2.jp L2.kF L2.ky L2.kw L2.kD L2.kC L2.ku L2.kr L2.kE L2.kB L2.m9 L2.m8 L2.mB L2.mz L2.my L2.gy L2.lE L2.jF L2.ma L2.l5 L2.lZ L2.lY Tw.gT Tw.gS Tw.iQ Tw.gR Tw.iP Tw.iO Tw.iN Tw.iM Tw.iL L2.iq L2.mx L2.nq L2.nR L2.nQ L2.lz L2.mD L2.iT L2.Tr.of_some L2.Tr.bind_assoc L2.Tr.draw_bind List.cons_append List.nil_append List.replicate_succ List.replicate_zero List.length_cons List.length_nil L2.Re.val_d L2.Re.val_own L2.blk L2.gB List.map_cons List.map_nil List.getElem?_cons_zero List.getElem?_cons_succ Option.getD_some Nat.reduceAdd Nat.reduceLeDiff List.isEmpty_cons".splitOn " ").toArray.map fun s => Lean.mkIdent s.toName).mapM fun i => `(Lean.Parser.Tactic.simpLemma| $i:ident); `(tactic| simp only [$b,*, $ls,*] $[$loc]?)
namespace My
open L2 Tw
theorem Zj3 (s:Shp) (y f:Int):uu [.d s.d,.d (.int y),.d (.int f)]=.ret (.d (.int (s.nx y f))):=by
 simp_arith [uu,Shp.nx]
theorem Zkc {s:Shp} (h:s.Ok) {x:Int} (hx:nb 20 x):rB [.d s.d,.d (.int x)]=.ret (.d (.int (s.fin x))):=by
 have f1:=aM (gl h.back) (by decide)
 have f2:=aM h.late (by decide)
 have f3:=aM hx (by decide)
 have f4:=aM (gl hx) (by decide)
 by_cases hp:x > 0
 ·simp_arith [rB,decide_eq_true hp,f1,f3,Shp.fin,if_pos hp]
 ·simp_arith [rB,decide_eq_false hp,f2,f4,Shp.fin,if_neg hp]
theorem Zke {s:Shp} (h:s.Ok) {y f:Int} (hy:nb 20 y) (hf:nb 40 f):rC [.d s.d,.d (.int y),.d (.int f)]=.ret (.d (.int (s.day y f))):=by
 have hd:nb 7 s.depth:=by have:=h.t0; have:=h.d0; have:=h.td; exact bv (by show -128 < _; omega) (by show _ < 128; omega)
 have hn:nb 50 (s.nx y f):=by
  unfold Shp.nx c9
  exact pC (ba (gl hd) (by decide)) (ba (fw hy hf) (by decide))
 have f1:=aM h.keep (by decide)
 have f2:=aM hn (by decide)
 have f3:=aM (gl hn) (by decide)
 have f4:=aM h.lack (by decide)
 have f5:=aM h.lost (by decide)
 have f6:=aM (fw hn (fw hy hf)) (by decide)
 have e:=Zj3 s y f
 by_cases hp:s.nx y f > 0
 ·simp_arith [rC,e,decide_eq_true hp,f1,f2,f5,f6,Shp.day,if_pos hp]
 ·simp_arith [rC,e,decide_eq_false hp,f3,f4,f5,f6,Shp.day,if_neg hp]
end My
set_option Elab.async false
set_option linter.all false
set_option maxRecDepth 100000
namespace My
open L2 Tw
end My
set_option Elab.async false
set_option linter.all false
set_option maxRecDepth 100000
namespace My
open L2 Tw
theorem ZlY {xs:Cl} {v:PyData} (h:xs[xs.length - 1]?=some v):bp xs (-1)=some v:=by
 have hl:xs≠[]:=λe=>by subst e; cases h
 have hp:0 < xs.length:=Br.mpr hl
 obtain ⟨k,hk⟩:=Nat.exists_eq_succ_of_ne_zero (zY hp)
 unfold bp dA
 have e0:(-1:Int)+(xs.length:Int)=(k:Int):=by rw [hk]; show (-1:Int)+((k:Int)+1)=k; rw [Int.add_comm,A2]; exact Aq _
 have e:((-1:Int)+(xs.length:Int)).toNat=xs.length - 1:=by rw [e0,hk]; exact As k
 rw [if_neg (by decide),if_pos (by omega)]
 show xs[((-1:Int)+(xs.length:Int)).toNat]?=some v
 rw [e]
 exact h
noncomputable def cy (g:Int->Int) (top K P x:Int):PyData:=.tuple [.int (cst g top K P x),.int (lvl g top K x)]
theorem Zg2 {lo hi:Int} {F:Int->PyData}:((List.range (hi - lo).toNat).map λ(i:Nat)=>F (hi - 1 - i)).reverse=(ap lo (hi - lo).toNat).map F:=by
 unfold ap
 rw [Ah]
 apply List.ext_getElem?
 intro i
 by_cases hi':i < (hi - lo).toNat
 ·rw [BD (by simpa using hi'),zo,A1,zH,zH,Ai (by omega),Ai hi']
  show some (F (hi - 1 - (((hi - lo).toNat - 1 - i:Nat):Int)))=some (F (lo+(i:Int)))
  congr 2
  omega
 ·rw [Bh (by simpa using hi'),Bh (by simpa using hi')]
theorem Zkg {s:Shp} (h:s.Ok) {low:Int} (hl:low<=s.top) (hl0:-1000<=low) {g:Int->Int} {b:Nat} (hg:∀ x,low<=x->x<=s.top->nb b (g x)) {sc:Int} (hs:nb b sc) (hK:0<=sc * s.start) (hb:b<=3000) :
  uJ [.d s.d,.d (.int low),.d (lI ((ap low (s.top+1 - low).toNat).map g)),.d (.int sc)]=.ret (.own ((ap low (s.top+1 - low).toNat).map (cy g s.top (sc * s.start) (sc * s.piece)))):=by
 have:=h.t0
 have:=h.d0
 have:=h.td
 have hn:0 < (s.top+1 - low).toNat:=by omega
 have hlen:(((ap low (s.top+1 - low).toNat).map g).map PyData.int).length=(s.top+1 - low).toNat:=by rw [zo,zo,eT]
 have hat:∀ x,low<=x->x<=s.top->(((ap low (s.top+1 - low).toNat).map g).map PyData.int)[(x - low).toNat]?=some (.int (g x)):=λx h1 h2=>by
  unfold ap
  rw [Ah,Ah,zH,Ai (by omega)]
  show some (PyData.int (g (low+((x - low).toNat:Int))))=_
  congr 3
  omega
 have hlast:bp (((ap low (s.top+1 - low).toNat).map g).map PyData.int) (-1)=some (.int (g s.top)):=ZlY (by
  rw [hlen]
  have:=hat s.top hl (zU _)
  have e:(s.top - low).toNat=(s.top+1 - low).toNat - 1:=by
   obtain ⟨k,hk⟩:=Bx (Int.sub_nonneg_of_le hl)
   have hk2:s.top+1 - low=((k+1:Nat):Int):=by omega
   rw [hk,hk2]
   rfl
  rw [e] at this
  exact this)
 have r1:cL low=true:=cK (by omega) (by omega)
 have r2:cL (s.top+1)=true:=cK (by omega) (by omega)
 have f1:=aM hs (by omega)
 have f2:=aM h.start (by decide)
 have f3:=aM h.piece (by decide)
 have f4:=aM (cg hs h.piece) (by omega)
 apply yQ
 simp_arith [uJ,lI,hlast,pS r1 r2]
 refine dZ (n:=0) (n':=0) (P:=λo=>∃ J5 J6 J7 J8 J9:Sl,o=.next [.d s.d,.d (.int low),.d (.list (((ap low (s.top+1 - low).toNat).map g).map PyData.int)),.d (.int sc),.own ((List.range (s.top+1 - low).toNat).map λ(i:Nat)=>cy g s.top (sc * s.start) (sc * s.piece) (s.top+1 - 1 - i)),J5,J6,J7,J8,J9]) ?_ (by decide) ?_
 ·refine r8 (n:=0) (λpre ρ=>∃ J6 J7 J8 J9:Sl,ρ=[.d s.d,.d (.int low),.d (.list (((ap low (s.top+1 - low).toNat).map g).map PyData.int)),.d (.int sc),.own ((List.range pre.length).map λ(i:Nat)=>cy g s.top (sc * s.start) (sc * s.piece) (s.top+1 - 1 - i)),.d (.tuple [.int (bst g s.top (pre.length - 1)).1,.int (bst g s.top (pre.length - 1)).2]),J6,J7,J8,J9]) ⟨.un,.un,.un,.un,rfl⟩ (by simp) ?_ ?_
  ·rintro pre x post ρ e ⟨J6,J7,J8,J9,rfl⟩
   obtain ⟨rfl,hpre⟩:=Zbm e
   refine ⟨_,rfl,?_⟩
   generalize hk:pre.length=k at hpre ⊢
   have hx1:low<=s.top+1 - 1 - (k:Int):=by omega
   have hx2:s.top+1 - 1 - (k:Int)<=s.top:=by omega
   have ha:bp (((ap low (s.top+1 - low).toNat).map g).map PyData.int) (s.top+1 - 1 - (k:Int) - low)=some (.int (g (s.top+1 - 1 - (k:Int)))):=pY (by omega) (hat _ hx1 hx2)
   have hxn:nb 20 (s.top+1 - 1 - (k:Int)):=bv (by show -1048576 < _; omega) (by show _ < 1048576; omega)
   have f5:=aM hxn (by decide)
   have hsm:small (((List.range k).map λ(i:Nat)=>cy g s.top (sc * s.start) (sc * s.piece) (s.top+1 - 1 - i)).length+1)=true:=bM (by rw [zo,A1]; omega)
   have el:(pre++[PyData.int (s.top+1 - 1 - (k:Int))]).length=k+1:=by rw [zB,hk]; rfl
   have m1:bw h7 [.tuple [.int (g (s.top+1 - 1 - (k:Int))),.int (s.top+1 - 1 - (k:Int))],.tuple [.int (sc * s.start+(bst g s.top (k - 1)).1),.int (bst g s.top (k - 1)).2]]=.ret (.tuple [.int (pck g s.top (sc * s.start) (s.top+1 - 1 - (k:Int))).1,.int (pck g s.top (sc * s.start) (s.top+1 - 1 - (k:Int))).2]):=by
    rw [gy]
    cases k with
    | zero =>
     have ex:s.top+1 - 1 - ((0:Nat):Int)=s.top:=by simp
     rw [ex,po,if_neg]
     show ¬ (sc * s.start+g s.top < g s.top\/sc * s.start+g s.top=g s.top/\s.top < s.top)
     omega
    | succ n =>
     have ex:s.top+1 - 1 - ((n+1:Nat):Int)=s.top - ((n+1:Nat):Int):=by omega
     rw [ex,pq,Nat.add_sub_cancel]
     have hb:=(vB g s.top n).1
     by_cases hc:sc * s.start+(bst g s.top n).1 < g (s.top - ((n+1:Nat):Int))
     ·rw [if_pos (.inl hc),if_pos hc]
     ·rw [if_neg (by omega),if_neg hc]
   have m2:bw h7 [.tuple [.int (g (s.top+1 - 1 - (k:Int))),.int (s.top+1 - 1 - (k:Int))],.tuple [.int (bst g s.top (k - 1)).1,.int (bst g s.top (k - 1)).2]]=.ret (.tuple [.int (bst g s.top k).1,.int (bst g s.top k).2]):=by
    rw [gy]
    cases k with
    | zero =>
     have ex:s.top+1 - 1 - ((0:Nat):Int)=s.top:=by simp
     rw [ex,if_neg]
     ·rfl
     ·show ¬ (g s.top < g s.top\/g s.top=g s.top/\s.top < s.top)
      omega
    | succ n =>
     have ex:s.top+1 - 1 - ((n+1:Nat):Int)=s.top - ((n+1:Nat):Int):=by omega
     rw [ex,Nat.add_sub_cancel]
     have hb:=(vB g s.top n).1
     rw [bst]
     by_cases hc:(bst g s.top n).1 < g (s.top - ((n+1:Nat):Int))
     ·rw [if_pos (.inl hc),if_pos hc]
     ·rw [if_neg (by omega),if_neg hc]
   simp_arith [ZcZ,ha,m1,m2,f1,f2,f3,f4,f5,hsm]
   rw [el,BV,Am]
   exact cH ⟨_,rfl,_,_,_,_,rfl⟩
  ·rintro ρ ⟨J6,J7,J8,J9,rfl⟩
   rw [zQ,c7]
   exact ⟨_,J6,J7,J8,J9,rfl⟩
 ·rintro _ ⟨J5,J6,J7,J8,J9,rfl⟩
  simp_arith [Ac]
  rw [Zg2]
  exact cH rfl
end My
set_option Elab.async false
set_option linter.all false
set_option maxRecDepth 100000
set_option exponentiation.threshold 9000
namespace My
open L2 Tw
theorem Zkb {a b:Int} (hb:nb 8000 b):uI [.d (.int a),.d (.int b)]=.ret (.d (.int (Nat.gcd a.natAbs b.natAbs:Nat))):=by
 have key:=euclid (p:=wm) (s:=xY) (E:=λa b=>[.d (.int a),.d (.int b)]) (λa b=>by
  simp_arith [wm]
  by_cases h:b=0
  ·subst h; rfl
  ·rw [decide_eq_true h]
   congr 1
   simp [h]) (λa b h=>by
  have h':(b:Int)≠0:=by omega
  simp_arith [xY,yt h',Zdu]) 8000 83999 a.natAbs b.natAbs hb
 have e:2 * 8000+1+83999=100000:=rfl
 rw [e] at key
 simp_arith [uI,Ze9,key]
theorem ZdH {t b:Int} (h0:b≠0) (hb:nb 7000 b):pI [.d (.int t),.d (.int b)]=.ret (.d (fj t b)):=by
 have e:=Zkb (a:=t) (b:=b) (ba hb (by decide))
 have e0:(b == 0)=false:=beq_eq_false_iff_ne.mpr h0
 have hd:=Gc.yy (t:=t) h0
 have hf:=aM (ZdY (t:=t) hb h0) (by decide)
 unfold fj Gc.ig Gc.gp
 by_cases hn:b < 0
 ·have ed:Gc.den t b=-((Nat.gcd t.natAbs b.natAbs:Nat):Int):=by unfold Gc.den Gc.im; rw [if_pos hn]
  rw [ed] at hd hf ⊢
  simp_arith [pI,e0,e,decide_eq_true hn,ve hd hf]
 ·have ed:Gc.den t b=((Nat.gcd t.natAbs b.natAbs:Nat):Int):=by unfold Gc.den Gc.im; rw [if_neg hn]
  rw [ed] at hd hf ⊢
  simp_arith [pI,e0,e,decide_eq_false hn,ve hd hf]
end My
set_option Elab.async false
set_option linter.all false
set_option maxRecDepth 100000
set_option exponentiation.threshold 9000
namespace My
open L2 Tw Bar
noncomputable def bD (n:Nat) (r:Nat->Int):Cl:=((List.range n).map r).map PyData.int
theorem w8 (n:Nat) (r:Nat->Int):(bD n r).length=n:=by unfold bD; rw [zo,zo,A1]
theorem t3 {n:Nat} {r:Nat->Int} {j:Nat} (h:j < n):(bD n r)[j]?=some (.int (r j)):=by
 unfold bD
 rw [zH,zH,Ai h]
 rfl
theorem ZgV {n:Nat} {r:Nat->Int} {j:Nat} (h:j < n) (v:Int):(bD n r).set j (.int v)=bD n λq=>if q=j then v else r q:=by
 apply List.ext_getElem?
 intro q
 rw [List.getElem?_set]
 by_cases e:j=q
 ·subst e
  rw [if_pos rfl,if_pos (by rw [w8]; exact h),t3 h,if_pos rfl]
 ·rw [if_neg e]
  by_cases hq:q < n
  ·rw [t3 hq,t3 hq,if_neg (λz=>e z.symm)]
  ·rw [Bh (by rw [w8]; omega),Bh (by rw [w8]; omega)]
theorem tZ {n:Nat} {r r':Nat->Int} (h:∀ j,j < n->r j=r' j):bD n r=bD n r':=by
 unfold bD
 congr 1
 exact Az λj hj=>h j (BG.mp hj)
noncomputable def cvN (a b:Cm) (k:Nat):Int:=ws (λi=>ws (λj=>if (i+j).toNat=k then 1 else 0) 0 b) 0 a
noncomputable def cD (a b:Cm):Cm:=(List.range (a.length+b.length - 1)).map (cvN a b)
theorem Zeb (a b:Cm):(cD a b).length=a.length+b.length - 1:=by unfold cD; rw [zo,A1]
theorem wH (f g:Nat->Int):∀ n:Nat,Bar.b9 (λj=>f j+g j) n=Bar.b9 f n+Bar.b9 g n
 | 0=>rfl
 | n+1=>by rw [Bar.b9,Bar.b9,Bar.b9,wH f g n]; omega
theorem wG (f:Nat->Int) (c:Int):∀ n:Nat,Bar.b9 (λj=>c * f j) n=c * Bar.b9 f n
 | 0=>by rw [Bar.b9,Bar.b9,AI]
 | n+1=>by rw [Bar.b9,Bar.b9,wG f c n,Bt]
theorem wF {f:Nat->Int}:∀ n:Nat,(∀ j,j < n->f j=0)->Bar.b9 f n=0
 | 0,_=>rfl
 | n+1,h=>by rw [Bar.b9,wF n λj hj=>h j (by omega),h n (by omega)]; rfl
theorem Zgg {g n:Nat} (h:g < n) (v:Nat->Int):Bar.b9 (λj=>(if g=j then 1 else 0) * v j) n=v g:=by
 have key:∀ m:Nat,Bar.b9 (λj=>(if g=j then 1 else 0) * v j) m=if g < m then v g else 0:=by
  intro m
  induction m with
  | zero=>rfl
  | succ m ih =>
   rw [Bar.b9,ih]
   by_cases e:g=m
   ·subst e
    rw [if_neg (by omega),if_pos rfl,if_pos (by omega),Bs]
    omega
   ·rw [if_neg e]
    by_cases e2:g < m
    ·rw [if_pos e2,if_pos (by omega)]
     simp
    ·rw [if_neg e2,if_neg (by omega)]
     simp
 rw [key,if_pos h]
theorem ZaS {n:Nat} {ix:Int->Nat} (v:Nat->Int):∀ (l:Cm) (k:Nat),(∀ q:Nat,q < l.length->ix ((k+q:Nat):Int) < n)->Bar.b9 (λj=>ws (λf=>if ix f=j then 1 else 0) k l * v j) n=ws (λf=>v (ix f)) k l
 | [],k,_=>by
  rw [wF n λj _=>by rw [ws,A0]]
  rfl
 | w::l,k,h=>by
  have ih:=ZaS v l (k+1) λq hq=>by
   have:=h (q+1) (by rw [zn]; omega)
   rw [show k+(q+1)=k+1+q by omega] at this
   exact this
  have e:(λj=>ws (λf=>if ix f=j then 1 else 0) k (w::l) * v j)=λj=>w * ((if ix (k:Int)=j then 1 else 0) * v j)+ws (λf=>if ix f=j then 1 else 0) (k+1) l * v j:=funext λj=>by rw [ws,Int.add_mul,Bo]
  have h0:=h 0 (by simp)
  rw [Nat.add_zero] at h0
  rw [e,wH,wG,Zgg h0,ih]
  rfl
theorem Zfq (f:Int->Int) (c:Nat->Int):∀ (n k:Nat),ws f k ((List.range n).map c)=Bar.b9 (λj=>c j * f ((k+j:Nat):Int)) n:=by
 intro n
 induction n generalizing c with
 | zero=>intro k; rfl
 | succ n ih =>
  intro k
  have e:Bar.b9 (λj=>c j * f ((k+j:Nat):Int)) (n+1)=c 0 * f ((k:Nat):Int)+Bar.b9 (λj=>c (j+1) * f ((k+1+j:Nat):Int)) n:=by
   have:∀ m:Nat,Bar.b9 (λj=>c j * f ((k+j:Nat):Int)) (m+1)=c 0 * f ((k:Nat):Int)+Bar.b9 (λj=>c (j+1) * f ((k+1+j:Nat):Int)) m:=by
    intro m
    induction m with
    | zero=>show 0+c 0 * f ((k+0:Nat):Int)=c 0 * f (k:Int)+0; rw [Nat.add_zero]; omega
    | succ m ihm =>
     rw [Bar.b9,ihm,Bar.b9,show k+(m+1)=k+1+m by omega]
     omega
   exact this n
  rw [List.range_succ_eq_map,zm,Ah,ws,e]
  have:=ih (c ∘ Nat.succ) (k+1)
  rw [this]
  rfl
theorem Zfr (f:Int->Int) (a b:Cm) (hb:0 < b.length):ws f 0 (cD a b)=ws (λi=>ws (λj=>f (i+j)) 0 b) 0 a:=by
 unfold cD
 rw [Zfq]
 have key:∀ (l:Cm) (k:Nat),k+l.length<=a.length->Bar.b9 (λq=>ws (λi=>ws (λj=>if (i+j).toNat=q then 1 else 0) 0 b) k l * f ((0+q:Nat):Int)) (a.length+b.length - 1)=ws (λi=>ws (λj=>f (i+j)) 0 b) k l:=by
  intro l
  induction l with
  | nil =>
   intro k _
   rw [wF _ λj _=>by rw [ws,A0]]
   rfl
  | cons w l ih =>
   intro k hk
   rw [zn] at hk
   have e:(λq=>ws (λi=>ws (λj=>if (i+j).toNat=q then 1 else 0) 0 b) k (w::l) * f ((0+q:Nat):Int))=λq=>w * (ws (λj=>if ((k:Int)+j).toNat=q then 1 else 0) 0 b * f ((0+q:Nat):Int))+ws (λi=>ws (λj=>if (i+j).toNat=q then 1 else 0) 0 b) (k+1) l * f ((0+q:Nat):Int):=funext λq=>by rw [ws,Int.add_mul,Bo]
   rw [e,wH,wG,ZaS (ix:=λj=>((k:Int)+j).toNat) (λq=>f ((0+q:Nat):Int)) b 0 (λq hq=>by show ((k:Int)+((0+q:Nat):Int)).toNat < _; omega),ih (k+1) (by omega),ws]
   congr 2
   refine fM λx hx=>?_
   show f ((0+((k:Int)+x).toNat:Nat):Int)=f ((k:Int)+x)
   congr 1
   omega
 exact key a 0 (by omega)
noncomputable def cT (fs:List Cm):Cm:=fs.foldl cD [1]
noncomputable def sv:List Cm->(Int->Int)->Int
 | [],f=>f 0
 | d::fs,f=>ws (λi=>sv fs λj=>f (i+j)) 0 d
theorem gQ:∀ {fs:List Cm} {f g:Int->Int},(∀ x,0<=x->f x=g x)->sv fs f=sv fs g
 | [],f,g,h=>h 0 (by decide)
 | d::fs,f,g,h=>fM λi hi=>gQ λj hj=>h _ (by omega)
theorem Zai (f:Int->Int):∀ (fs:List Cm) (a:Cm),(∀ l∈fs,0 < l.length)->ws f 0 (fs.foldl cD a)=ws (λi=>sv fs λj=>f (i+j)) 0 a
 | [],a,_=>fM λi _=>by show f i=f (i+0); rw [Aq]
 | d::fs,a,h=>by
  rw [AA,Zai f fs (cD a d) λl hl=>h l (Mt _ hl),Zfr _ _ _ (h d (by simp))]
  refine fM λi _=>fM λj _=>gQ λq _=>?_
  rw [A2]
theorem we (f:Int->Int) {fs:List Cm} (h:∀ l∈fs,0 < l.length):ws f 0 (cT fs)=sv fs f:=by
 unfold cT
 rw [Zai f fs [1] h]
 show 1 * (sv fs λj=>f (((0:Nat):Int)+j))+0=_
 rw [Bs,Aq]
 refine gQ λx _=>?_
 show f (0+x)=f x
 rw [AT]
theorem sc1 (W:Sl):∀ (fs:List Cm) (b:Nat) (D:Int) (J:Sl),nb b D->(∀ l∈fs,DayB l)->b+46 * fs.length<=8000->∃ K:Sl,bJ (aj 2) uP (fs.map tI) [W,.d (.int D),J]=.ret (.next [W,.d (.int (D * prd fs)),K])
 | [],b,D,J,_,_,_=>⟨J,by rw [prd,Be]; rfl⟩
 | d::fs,b,D,J,h,hf,hl=>by
  rw [zn,BP] at hl
  have hd:=hf d (by simp)
  have sn:=wE hd
  obtain ⟨K,e⟩:=sc1 W fs (b+46) (D * d.sum) (.d (tI d)) (cg h sn) (λq hq=>hf q (Mt _ hq)) (by omega)
  refine ⟨K,?_⟩
  have f1:=aM h (by omega)
  have f2:=aM sn (by decide)
  have es:bw c6 [tI d]=.ret (.int d.sum):=gx d
  have et:uP [W,.d (.int D),.d (tI d)]=.ret (.next [W,.d (.int (D * d.sum)),.d (tI d)]):=by
   simp_arith [uP,es,f1,f2]
  have eg:aj 2 (tI d) [W,.d (.int D),J]=some [W,.d (.int D),.d (tI d)]:=rfl
  have ep:D * d.sum * prd fs=D * prd (d::fs):=by rw [prd,Bo,BE d.sum]
  rw [zm,cP,eg,Tr.of_some,Tr.ret_bind,cC,et,Tr.ret_bind,cm,e,ep]
theorem rM {fs:List Cm} (hf:∀ l∈fs,DayB l) (hl:fs.length<=10):ib [.d (fD fs)]=.ret (.d (.int (prd fs))):=by
 obtain ⟨K,e⟩:=sc1 (.d (fD fs)) fs 1 1 .un (by show (1:Int).natAbs < 2 ^ 1; decide) hf (by omega)
 rw [Bs] at e
 unfold fD at e
 simp_arith [ib,fD,e]
theorem wt1 (D W Y:Sl) {n i:Nat} {a:Int} {A:Nat} (ha:nb A a) (hA:A<=8000):∀ (l:Cm) (k:Nat) (r:Nat->Int) (J6 J7:Sl),i+k+l.length<=n->(∀ w∈l,nb 30 w)->∃ K6 K7:Sl,bJ (bc (aw (aj 6) (aw (aj 7) bb))) uN (enu k l) [D,W,Y,.own (bD n r),.d (.int i),.d (.int a),J6,J7]=.ret (.next [D,W,Y,.own (bD n λj=>r j+a * ws (λf=>if ((i:Int)+f).toNat=j then 1 else 0) k l),.d (.int i),.d (.int a),K6,K7])
 | [],k,r,J6,J7,_,_=>⟨J6,J7,by
  have e:bD n (λj=>r j+a * ws (λf=>if ((i:Int)+f).toNat=j then 1 else 0) k [])=bD n r:=tZ λj _=>by rw [ws,AI,Aq]
  rw [e]
  rfl⟩
 | w::l,k,r,J6,J7,hn,hw=>by
  rw [zn] at hn
  have hj:((i:Int)+(k:Int)).toNat < n:=by omega
  obtain ⟨K6,K7,e⟩:=wt1 D W Y (n:=n) (i:=i) ha hA l (k+1) (λj=>if j=((i:Int)+(k:Int)).toNat then r ((i:Int)+(k:Int)).toNat+a * w else r j) (.d (.int k)) (.d (.int w)) (by omega) λq hq=>hw q (Mt _ hq)
  refine ⟨K6,K7,?_⟩
  have f1:=aM ha hA
  have f2:=aM (hw w (by simp)) (by decide)
  have h0:_=_:=ZjV (g:=λi j=>i+j) (k:=3) (i:=ae bz (aa 5) (aa 7)) (ρ:=[D,W,Y,.own (bD n r),.d (.int i),.d (.int a),.d (.int k),.d (.int w)]) (xs:=bD n r) (y:=(i:Int)+k) (a:=r ((i:Int)+(k:Int)).toNat) (by omega) (t3 hj)
  have et:uN [D,W,Y,.own (bD n r),.d (.int i),.d (.int a),.d (.int k),.d (.int w)]=.ret (.next [D,W,Y,.own (bD n λj=>if j=((i:Int)+(k:Int)).toNat then r ((i:Int)+(k:Int)).toNat+a * w else r j),.d (.int i),.d (.int a),.d (.int k),.d (.int w)]):=by
   unfold uN
   rw [ZjS (xs:=bD n r) rfl]
   have en:(ae aQ (aa 4) (aa 6)) [D,W,Y,.own (bD n r),.d (.int i),.d (.int a),.d (.int k),.d (.int w)]=.ret (.int ((i:Int)+k)):=by
    simp_arith [Ac]
   rw [en,Tr.ret_bind,h0,ZjU]
   have ew:(ae bz (aa 5) (aa 7)) [D,W,Y,.own (bD n r),.d (.int i),.d (.int a),.d (.int k),.d (.int w)]=.ret (.int (a * w)):=by
    simp_arith [f1,f2]
   rw [ew,Tr.ret_bind,ZjT,ZgV hj]
   rfl
  have eg:(bc (aw (aj 6) (aw (aj 7) bb))) (.tuple [.int (k:Int),.int w]) [D,W,Y,.own (bD n r),.d (.int i),.d (.int a),J6,J7]=some [D,W,Y,.own (bD n r),.d (.int i),.d (.int a),.d (.int k),.d (.int w)]:=rfl
  have er:(bD n λj=>(if j=((i:Int)+(k:Int)).toNat then r ((i:Int)+(k:Int)).toNat+a * w else r j)+a * ws (λf=>if ((i:Int)+f).toNat=j then 1 else 0) (k+1) l)=bD n λj=>r j+a * ws (λf=>if ((i:Int)+f).toNat=j then 1 else 0) k (w::l):=tZ λj hj=>by
   rw [ws]
   by_cases q:j=((i:Int)+(k:Int)).toNat
   ·rw [if_pos q,if_pos q.symm,<- q,Be,Bt]
    omega
   ·rw [if_neg q,if_neg (λe=>q e.symm),AI,AT]
  rw [enu,cP,eg,Tr.of_some,Tr.ret_bind,cC,et,Tr.ret_bind,cm,e,er]
theorem wt2 (D W:Sl) {b:Cm} (hb:DayB b) {n A:Nat} (hA:A<=8000):∀ (l:Cm) (k:Nat) (r:Nat->Int) (J4 J5 J6 J7:Sl),k+l.length+b.length<=n+1->(∀ w∈l,nb A w)->∃ K4 K5 K6 K7:Sl,bJ (bc (aw (aj 4) (aw (aj 5) bb))) uM (enu k l) [D,W,.d (tI b),.own (bD n r),J4,J5,J6,J7]=.ret (.next [D,W,.d (tI b),.own (bD n λj=>r j+ws (λi=>ws (λf=>if (i+f).toNat=j then 1 else 0) 0 b) k l),K4,K5,K6,K7])
 | [],k,r,J4,J5,J6,J7,_,_=>⟨J4,J5,J6,J7,by
  have e:bD n (λj=>r j+ws (λi=>ws (λf=>if (i+f).toNat=j then 1 else 0) 0 b) k [])=bD n r:=tZ λj _=>by rw [ws,Aq]
  rw [e]
  rfl⟩
 | w::l,k,r,J4,J5,J6,J7,hn,hw=>by
  rw [zn] at hn
  obtain ⟨L6,L7,e0⟩:=wt1 D W (.d (tI b)) (n:=n) (i:=k) (hw w (by simp)) hA b 0 r J6 J7 (by omega) hb.nb
  obtain ⟨K4,K5,K6,K7,e⟩:=wt2 D W hb (n:=n) hA l (k+1) (λj=>r j+w * ws (λf=>if ((k:Int)+f).toNat=j then 1 else 0) 0 b) (.d (.int k)) (.d (.int w)) L6 L7 (by omega) λq hq=>hw q (Mt _ hq)
  refine ⟨K4,K5,K6,K7,?_⟩
  have ee:cG (b.map PyData.int)=enu 0 b:=ir b
  have et:uM [D,W,.d (tI b),.own (bD n r),.d (.int k),.d (.int w),J6,J7]=.ret (.next [D,W,.d (tI b),.own (bD n λj=>r j+w * ws (λf=>if ((k:Int)+f).toNat=j then 1 else 0) 0 b),.d (.int k),.d (.int w),L6,L7]):=by
   unfold tI at e0
   simp_arith [uM,tI,ee,e0]
  have eg:(bc (aw (aj 4) (aw (aj 5) bb))) (.tuple [.int (k:Int),.int w]) [D,W,.d (tI b),.own (bD n r),J4,J5,J6,J7]=some [D,W,.d (tI b),.own (bD n r),.d (.int k),.d (.int w),J6,J7]:=rfl
  have er:(bD n λj=>r j+w * ws (λf=>if ((k:Int)+f).toNat=j then 1 else 0) 0 b+ws (λi=>ws (λf=>if (i+f).toNat=j then 1 else 0) 0 b) (k+1) l)=bD n λj=>r j+ws (λi=>ws (λf=>if (i+f).toNat=j then 1 else 0) 0 b) k (w::l):=tZ λj hj=>by
   rw [ws,A2]
  rw [enu,cP,eg,Tr.of_some,Tr.ret_bind,cC,et,Tr.ret_bind,cm,e,er]
theorem Zea {a b:Cm} {A:Nat} (ha:∀ w∈a,nb A w) (hb:DayB b):∀ w∈cD a b,nb (A+a.length+63) w:=λw hw=>by
 obtain ⟨k,-,rfl⟩:=AG.mp hw
 have hl:=hb.len
 refine ba (wg (b:=30+1+b.length) (λx _=>wg (b:=1) (λy _=>?_) hb.nb) ha) (by omega)
 by_cases e:(x+y).toNat=k
 ·rw [if_pos e]; show (1:Int).natAbs < 2 ^ 1; decide
 ·rw [if_neg e]; show (0:Int).natAbs < 2 ^ 1; decide
theorem Zg5 {n:Nat} (h:n<=1000):rX o8 (.list [.int 0]) (.int (n:Int))=.ret (bD n λ_=>0):=by
 rw [Zg4 (by simp; omega),As]
 unfold bD
 congr 1
 clear h
 induction n with
 | zero=>rfl
 | succ m ih=>rw [List.replicate_succ',List.flatten_append,ih,BV,Am,Am]; rfl
theorem wt3 (D:Sl):∀ (fs:List Cm) (a:Cm) (A:Nat) (J2 J3 J4 J5 J6 J7:Sl),0 < a.length->(∀ l∈fs,DayB l/\0 < l.length)->(∀ w∈a,nb A w)->A+600 * fs.length<=8000->a.length+16 * fs.length<=500->∃ K2 K3 K4 K5 K6 K7:Sl,bJ (aj 2) uL (fs.map tI) [D,.d (lI a),J2,J3,J4,J5,J6,J7]=.ret (.next [D,.d (lI (fs.foldl cD a)),K2,K3,K4,K5,K6,K7])
 | [],a,A,J2,J3,J4,J5,J6,J7,_,_,_,_,_=>⟨J2,J3,J4,J5,J6,J7,rfl⟩
 | b::fs,a,A,J2,J3,J4,J5,J6,J7,a0,hf,ha,hA,hl=>by
  rw [zn,BP] at hA hl
  obtain ⟨hb,b0⟩:=hf b (by simp)
  have hbl:=hb.len
  have hc:(cD a b).length=a.length+b.length - 1:=Zeb a b
  obtain ⟨L4,L5,L6,L7,e0⟩:=wt2 D (.d (lI a)) hb (n:=a.length+b.length - 1) (A:=A) (by omega) a 0 (λ_=>0) J4 J5 J6 J7 (by omega) ha
  obtain ⟨K2,K3,K4,K5,K6,K7,e⟩:=wt3 D fs (cD a b) (A+a.length+63) (.d (tI b)) (.d (lI (cD a b))) L4 L5 L6 L7 (by omega) (λl hl=>hf l (Mt _ hl)) (Zea ha hb) (by omega) (by omega)
  refine ⟨K2,K3,K4,K5,K6,K7,?_⟩
  have ea:cG (a.map PyData.int)=enu 0 a:=ir a
  have er:bD (a.length+b.length - 1) (λj=>(0:Int)+ws (λi=>ws (λf=>if (i+f).toNat=j then 1 else 0) 0 b) 0 a)=(cD a b).map PyData.int:=by
   unfold bD cD
   congr 1
   exact Az λj _=>by rw [AT]; rfl
  rw [er] at e0
  have hrep:=Zg5 (n:=a.length+b.length - 1) (by omega)
  rw [show ((a.length+b.length - 1:Nat):Int)=(a.length:Int)+b.length - 1 by omega] at hrep
  have l1:(a.map PyData.int).length=a.length:=zo _
  have l2:(b.map PyData.int).length=b.length:=zo _
  have et:uL [D,.d (lI a),.d (tI b),J3,J4,J5,J6,J7]=.ret (.next [D,.d (lI (cD a b)),.d (tI b),.d (lI (cD a b)),L4,L5,L6,L7]):=by
   unfold tI lI at e0
   simp_arith [uL,tI,lI,ea,l1,l2,hrep,e0]
  have eg:aj 2 (tI b) [D,.d (lI a),J2,J3,J4,J5,J6,J7]=some [D,.d (lI a),.d (tI b),J3,J4,J5,J6,J7]:=rfl
  rw [zm,cP,eg,Tr.of_some,Tr.ret_bind,cC,et,Tr.ret_bind,cm,e]
  rfl
theorem yv {fs:List Cm} (hf:∀ l∈fs,DayB l/\0 < l.length) (hl:fs.length<=10):pG [.d (fD fs)]=.ret (.d (lI (cT fs))):=by
 obtain ⟨K2,K3,K4,K5,K6,K7,e⟩:=wt3 (.d (fD fs)) fs [1] 1 .un .un .un .un .un .un (by decide) hf (by intro w hw; rw [AF] at hw; subst hw; show (1:Int).natAbs < 2 ^ 1; decide) (by omega) (by show 1+_<=_; omega)
 unfold fD lI at e
 simp_arith [pG,fD,lI,cT]
 exact e ▸ rfl
end My
set_option Elab.async false
set_option linter.all false
set_option maxRecDepth 100000
set_option exponentiation.threshold 9000
namespace My
open L2 Tw Bar
theorem eJ (lo:Int) (n:Nat):ap lo (n+1)=lo::ap (lo+1) n:=by
 rw [Nat.add_comm n 1,ZbC]
 show [lo+((0:Nat):Int)]++_=_
 rw [show lo+((0:Nat):Int)=lo by omega]
 rfl
noncomputable def de (lo:Int) (n:Nat) (f:Int->Int):PyData:=dD ((ap lo n).map λx=>(x,.int (f x)))
theorem ZdX (f:Int->Int):∀ (n:Nat) (lo:Int) (kvs:List (Int×PyData)),(∀ p∈kvs,p.1 < lo)->fY kvs ((ap lo n).map λx=>.tuple [.int x,.int (f x)])=some (dD (kvs++(ap lo n).map λx=>(x,.int (f x))))
 | 0,lo,kvs,_=>by
  show some (dD kvs)=some (dD (kvs++[]))
  rw [zN]
 | n+1,lo,kvs,h=>by
  rw [eJ,zm,zm,fY]
  have e:fq kvs lo (.int (f lo))=kvs++[(lo,.int (f lo))]:=by
   unfold fq
   rw [if_neg]
   intro z
   obtain ⟨p,hp,e⟩:=List.any_eq_true.mp z
   have:=h p hp
   have:=of_decide_eq_true e
   omega
  rw [e,ZdX f n (lo+1) _ λp hp=>by
   rcases Au.mp hp with hp | hp
   ·have:=h p hp; omega
   ·rw [AF] at hp; subst hp; show lo < lo+1; omega]
  rw [Ae]
  rfl
theorem Zd4 (f:Int->Int) (lo:Int) (n:Nat):fY [] ((ap lo n).map λx=>.tuple [.int x,.int (f x)])=some (de lo n f):=ZdX f n lo [] (by simp)
theorem yB {f:Int->Int}:∀ {n:Nat} {lo x:Int},lo<=x->x < lo+n->dc (de lo n f) (.int x)=some (.int (f x))
 | 0,lo,x,h1,h2=>absurd h2 (by omega)
 | n+1,lo,x,h1,h2=>by
  unfold de dD
  rw [eJ,zm,zm,dc]
  by_cases e:lo=x
  ·subst e
   rw [List.find?_cons_of_pos (by simp)]
   rfl
  ·rw [List.find?_cons_of_neg (by simp [e])]
   have ih:=yB (f:=f) (n:=n) (lo:=lo+1) (x:=x) (by omega) (by omega)
   unfold de dD at ih
   rw [dc] at ih
   exact ih
theorem xD {h:PyData->Tr PyData} {f:Int->Int}:∀ (l:Cm) (k:Nat),(∀ (w:Int) (x:Int),w∈l->(k:Int)<=x->x < k+l.length->h (.tuple [.int x,.int w])=.ret (.int (w * f x)))->∃ ys:Cm,bI h (enu k l)=.ret (ys.map PyData.int)/\ys.sum=ws f k l/\ys.length=l.length
 | [],k,_=>⟨[],rfl,rfl,rfl⟩
 | w::l,k,hh=>by
  obtain ⟨ys,e1,e2,e3⟩:=xD (h:=h) (f:=f) l (k+1) λv x hv x1 x2=>hh v x (Mt _ hv) (by omega) (by rw [zn]; omega)
  refine ⟨w * f k::ys,?_,by rw [zT,e2,ws],by rw [zn,zn,e3]⟩
  rw [enu,bI,hh w k (by simp) (by omega) (by rw [zn]; omega),Tr.ret_bind,e1]
  rfl
theorem ZcE {h:PyData->Tr (Option PyData)} {f:Int->Int}:∀ (l:Cm) (k:Nat),(∀ w∈l,0<=w)->(∀ (w:Int) (x:Int),w∈l->(0 < w->x∈bx k l)->(k:Int)<=x->h (.tuple [.int x,.int w])=.ret (if w > 0 then some (.int (w * f x)) else none))->∃ ys:Cm,cO h (enu k l)=.ret (ys.map PyData.int)/\ys.sum=ws f k l
 | [],k,_,_=>⟨[],rfl,rfl⟩
 | w::l,k,h0,hh=>by
  obtain ⟨ys,e1,e2⟩:=ZcE (h:=h) (f:=f) l (k+1) (λv hv=>h0 v (Mt _ hv)) λv x hv x1 x2=>hh v x (Mt _ hv) (λv0=>by
   rw [bx]
   by_cases hw:w > 0
   ·rw [if_pos hw]; exact Mt _ (x1 v0)
   ·rw [if_neg hw]; exact x1 v0) (by omega)
  have w0:=h0 w (by simp)
  have e0:=hh w k (by simp) (λv0=>by rw [bx,if_pos v0]; simp) (by omega)
  by_cases hw:w > 0
  ·rw [if_pos hw] at e0
   refine ⟨w * f k::ys,?_,by rw [zT,e2,ws]⟩
   rw [enu,cO,e0,Tr.ret_bind,e1]
   rfl
  ·rw [if_neg hw] at e0
   have:w=0:=by omega
   subst this
   refine ⟨ys,?_,by rw [e2,ws,A0,AT]⟩
   rw [enu,cO,e0,Tr.ret_bind,e1]
   rfl
theorem ZdG {s:Shp} (h:s.Ok) {wt:Cm} {A:Nat} (hw:∀ w∈wt,nb A w) (hA:A<=8000) (hl:wt.length<=200) {y:Int} (hy:nb 20 y):pH [.d s.d,.d (lI wt),.d (.int y)]=.ret (.d (.int (ws (λf=>s.day y f) 0 wt))):=by
 have hs:small (enu 0 wt).length=true:=bM (by rw [pT]; omega)
 obtain ⟨ys,e1,e2,-⟩:=xD (h:=dU (bc (aw (aj 0) (aw (aj 1) bb))) xh [.un,.un,.d s.d,.d (.int y)]) (f:=λf=>s.day y f) wt 0 λw x hx x1 x2=>by
  have hf:nb 40 x:=bv (by show -((2 ^ 40:Nat):Int) < x; have:((2 ^ 40:Nat):Int)=1099511627776:=rfl; omega) (by show x < ((2 ^ 40:Nat):Int); have:((2 ^ 40:Nat):Int)=1099511627776:=rfl; omega)
  have e:=Zke h hy hf
  have f1:=aM (hw w hx) hA
  have f2:=aM (rP h hy hf) (by decide)
  simp_arith [xh,e,f1,f2]
 have es:bw c6 [.list (ys.map PyData.int)]=.ret (.int (ws (λf=>s.day y f) 0 wt)):=by rw [fV,e2]
 have ee:cG (wt.map PyData.int)=enu 0 wt:=ir wt
 simp_arith [pH,lI,ee,hs,e1,es]
theorem u9 {s:Shp} (h:s.Ok) {x:Int} (hx:nb 20 x):nb 65 (s.fin x):=by
 unfold Shp.fin
 exact pC (k:=65) (cg (gl h.back) hx) (cg h.late (gl hx))
theorem Zj0 {s:Shp} (h:s.Ok) {wt:Cm} {A:Nat} (hw:∀ w∈wt,nb A w) (hA:A<=8000) (hl:wt.length<=200) {y:Int} (hy:nb 10 y):ur [.d s.d,.d (lI wt),.d (.int y)]=.ret (.d (.int (ws (λf=>s.fin (y - f)) 0 wt))):=by
 have hs:small (enu 0 wt).length=true:=bM (by rw [pT]; omega)
 obtain ⟨ys,e1,e2,-⟩:=xD (h:=dU (bc (aw (aj 0) (aw (aj 1) bb))) xg [.un,.un,.d s.d,.d (.int y)]) (f:=λf=>s.fin (y - f)) wt 0 λw x hx x1 x2=>by
  have hf:nb 19 x:=bv (by show -((2 ^ 19:Nat):Int) < x; have:((2 ^ 19:Nat):Int)=524288:=rfl; omega) (by show x < ((2 ^ 19:Nat):Int); have:((2 ^ 19:Nat):Int)=524288:=rfl; omega)
  have hyx:nb 20 (y - x):=ba (fw hy hf) (by decide)
  have e:=Zkc h hyx
  have f1:=aM (hw w hx) hA
  have f2:=aM (u9 h hyx) (by decide)
  simp_arith [xg,e,f1,f2]
 have es:bw c6 [.list (ys.map PyData.int)]=.ret (.int (ws (λf=>s.fin (y - f)) 0 wt)):=by rw [fV,e2]
 have ee:cG (wt.map PyData.int)=enu 0 wt:=ir wt
 simp_arith [ur,lI,ee,hs,e1,es]
theorem Zj1 {day:Cm} (hd:DayB day) {lo:Int} {n:Nat} {f:Int->Int} {b:Nat} (hf:∀ x,lo<=x->x < lo+n->nb b (f x)) (hb:b<=8000) {y:Int} (y1:∀ x∈bx 0 day,lo<=y - x) (y2:y < lo+n):rh [.d (tI day),.d (de lo n f),.d (.int y)]=.ret (.d (.int (ws (λx=>f (y - x)) 0 day))):=by
 have hs:small (enu 0 day).length=true:=bM (by rw [pT]; have:=hd.len; omega)
 obtain ⟨ys,e1,e2⟩:=ZcE (h:=fE (bc (aw (aj 0) (aw (aj 1) bb))) uj t8 [.un,.un,.d (de lo n f),.d (.int y)]) (f:=λx=>f (y - x)) day 0 hd.w0 λw x hx x1 x2=>by
  by_cases hw:w > 0
  ·have l1:=y1 x (x1 hw)
   have eg:aK dc (de lo n f) (.int (y - x))=.ret (.int (f (y - x))):=by
    unfold aK
    rw [yB l1 (by omega)]
    rfl
   have f1:=aM (hd.nb w hx) (by decide)
   have f2:=aM (hf (y - x) l1 (by omega)) hb
   simp_arith [uj,t8,decide_eq_true hw,if_pos hw,eg,f1,f2]
  ·simp_arith [uj,t8,decide_eq_false hw,if_neg hw]
 have es:bw c6 [.list (ys.map PyData.int)]=.ret (.int (ws (λx=>f (y - x)) 0 day)):=by rw [fV,e2]
 have ee:cG (day.map PyData.int)=enu 0 day:=ir day
 simp_arith [rh,rG,ee,hs,e1,es]
end My
set_option Elab.async false
set_option linter.all false
set_option maxRecDepth 100000
set_option exponentiation.threshold 9000
namespace My
open L2 Tw Bar
theorem Zk6 (xs:Cl) (t:Nat) (h:t<=xs.length):dH (.tuple xs) none (some (t:Int))=.ret (.tuple (xs.take t)):=by
 show Tr.ret (PyData.tuple (L2.dB xs none (some (t:Int))))=_
 unfold L2.dB
 rw [HT.oW,HT.wZ,Bp h,AJ,Nat.sub_zero]
theorem Zk8 (xs:Cl) (t:Nat):dH (.tuple xs) (some (t:Int)) none=.ret (.tuple (xs.drop t)):=by
 show Tr.ret (PyData.tuple (L2.dB xs (some (t:Int)) none))=_
 unfold L2.dB
 rw [HT.oW,HT.wZ]
 rcases Nat.le_total t xs.length with hle | hle
 ·rw [Bp hle,AC (by rw [Aw]; exact zp _)]
 ·rw [BS hle,List.drop_eq_nil_of_le (zp _),List.drop_eq_nil_of_le hle]
  simp
theorem pV (fs:List Cm) (t:Nat):dH (fD fs) (some (t:Int)) none=.ret (fD (fs.drop t)):=by
 unfold fD
 rw [Zk8,List.map_drop]
theorem rQ (fs:List Cm) {t:Nat} (h:t<=fs.length):dH (fD fs) none (some (t:Int))=.ret (fD (fs.take t)):=by
 unfold fD
 rw [Zk6 _ _ (by rw [zo]; exact h),B8]
structure FOk (fs:List Cm):Prop where
 b:∀ l∈fs,DayB l/\∃ n∈l,n > 0
 len:fs.length<=6
theorem FOk.B {fs:List Cm} (h:FOk fs):∀ l∈fs,DayB l:=λl hl=>(h.b l hl).1
theorem FOk.drop {fs:List Cm} (h:FOk fs) (t:Nat):FOk (fs.drop t):=⟨λl hl=>h.b l (Ag hl),by rw [Aw]; have:=h.len; omega⟩
theorem FOk.take {fs:List Cm} (h:FOk fs) (t:Nat):FOk (fs.take t):=⟨λl hl=>h.b l (A4 hl),by rw [AW]; have:=h.len; omega⟩
theorem FOk.P {fs:List Cm} (h:FOk fs):∀ l∈fs,DayB l/\0 < l.length:=λl hl=>⟨(h.b l hl).1,by obtain ⟨n,hn,-⟩:=(h.b l hl).2; exact List.length_pos_of_mem hn⟩
theorem xE {h:PyData->Tr PyData} {f:List Int->Int}:∀ {fs:List Cm},(∀ l∈fs,h (tI l)=.ret (.int (f l)))->bI h (fs.map tI)=.ret ((fs.map f).map PyData.int)
 | [],_=>rfl
 | l::fs,hl=>by
  have ih:=xE (h:=h) (f:=f) (fs:=fs) λq hq=>hl q (Mt _ hq)
  rw [zm,bI,hl l (by simp),Tr.ret_bind,ih]
  rfl
theorem xR (q:Cc) (x:PyData):dU (aj 0) q [.un] x=q [.d x]:=rfl
theorem ZcF {q:Cc} (hq:∀ l:Cm,(∃ n∈l,n > 0)->l.length<=100->dU (aj 0) q [.un] (tI l)=.ret (.int (great l))) {fs:List Cm} (hf:FOk fs):bI (dU (aj 0) q [.un]) (fs.map tI)=.ret ((fs.map great).map PyData.int) :=
 xE λl hl=>hq l (hf.b l hl).2 (by have:=(hf.b l hl).1.len; omega)
theorem ZcB {ls:Cm} (h:∃ n∈ls,n > 0):bw ia [.list ((bx 0 ls).map PyData.int)]=.ret (.int (great ls)):=ZiB _ (sP (k:=0) h)
theorem Za8:∀ (ns:Cm) (k:Nat),cO (fE (bc (aw (aj 0) (aw (aj 1) bb))) qV qP [.un,.un]) (enu k ns)=.ret ((bx k ns).map PyData.int)
 | [],k=>rfl
 | n::ns,k=>by
  have ih:=Za8 ns (k+1)
  have e0:fE (bc (aw (aj 0) (aw (aj 1) bb))) qV qP [.un,.un] (.tuple [.int k,.int n])=.ret (if n > 0 then some (.int k) else none):=by
   by_cases h:n > 0
   ·simp_arith [qV,qP,decide_eq_true h,if_pos h]
   ·simp_arith [qV,qP,decide_eq_false h,if_neg h]
  rw [enu,cO,e0,Tr.ret_bind,ih,Tr.ret_bind,bx]
  unfold rg
  by_cases h:n > 0
  ·rw [if_pos h,if_pos h]; rfl
  ·rw [if_neg h,if_neg h]
theorem ZdN {ls:Cm} (h:∃ n∈ls,n > 0) (hl:ls.length<=100):rA [.d (tI ls)]=.ret (.d (.int (great ls))):=by
 have hs:small (enu 0 ls).length=true:=bM (by rw [pT]; omega)
 simp_arith [rA,rG,ir,hs,Za8,ZcB h]
theorem ZdO {s:Shp} {fs:List Cm} (hf:FOk fs) (t:Nat):pJ [.d s.d,.d (fD fs),.d (.int t)]=.ret (.d (.int (reach (fs.drop t) - s.depth))):=by
 have hm:=ZcF (q:=xk) (λl h1 h2=>by
  have e:=ZdN h1 h2
  rw [xR]
  simp_arith [xk,e]) (hf.drop t)
 have hs:small ((fs.drop t).map tI).length=true:=bM (by rw [zo]; have:=(hf.drop t).len; omega)
 have er:(List.map great (fs.drop t)).sum=reach (fs.drop t):=rfl
 simp_arith [pJ,pV,rH,hs,hm,er]
theorem ZdP {s:Shp} {fs:List Cm} (hf:FOk fs) {x:Int} (hx:reach fs - s.depth<=x):rD [.d s.d,.d (fD fs),.d (.int x)]=.ret (.d .none):=by
 have e:=ZdO (s:=s) hf 0
 rw [AJ,Bj] at e
 have hn:¬ x < reach fs - s.depth:=by omega
 simp_arith [rD,e,decide_eq_false hn]
theorem ZdM {fs:List Cm} (hf:FOk fs) {t:Nat} (ht:t<=fs.length) (x:Int):rl [.d (fD fs),.d (.int t),.d (.int x)]=.ret (.d (.int (x - reach (fs.take t)))):=by
 have hm:=ZcF (q:=xi) (λl h1 h2=>by
  have e:=ZdN h1 h2
  rw [xR]
  simp_arith [xi,e]) (hf.take t)
 have hs:small ((fs.take t).map tI).length=true:=bM (by rw [zo]; have:=(hf.take t).len; omega)
 have er:(List.map great (fs.take t)).sum=reach (fs.take t):=rfl
 simp_arith [rl,rQ _ ht,rH,hs,hm,er]
theorem ZdA {is:Cd} {n:Nat} {ix:List Nat} {g:Ci} {kx i:Cc} {ρ:Cr} {xs ps:Cl} {d:PyData} (h1:is ρ=.ret xs) (hs:small xs.length=true) (h2:bI (λx=>(Tr.of (g x (blk n ix ρ))).bind (iu kx i)) xs=.ret ps) (h3:fY [] ps=some d):gJ is n ix g kx i ρ=.ret d:=by
 unfold gJ
 rw [h1,Tr.ret_bind,if_pos hs,h2,Tr.ret_bind,h3]
 rfl
theorem Zae:∀ (fs:List Cm) (a:Cm) (A:Nat),0 < a.length->(∀ l∈fs,DayB l/\0 < l.length)->(∀ w∈a,nb A w)->a.length+16 * fs.length<=200->(∀ w∈fs.foldl cD a,nb (A+270 * fs.length) w)/\(fs.foldl cD a).length<=a.length+16 * fs.length
 | [],a,A,_,_,ha,_=>⟨λw hw=>ba (ha w hw) (by omega),by show a.length<=_; omega⟩
 | b::fs,a,A,a0,hf,ha,hl=>by
  rw [zn,BP] at hl
  obtain ⟨hb,b0⟩:=hf b (by simp)
  have hbl:=hb.len
  have hc:(cD a b).length=a.length+b.length - 1:=Zeb a b
  obtain ⟨i1,i2⟩:=Zae fs (cD a b) (A+a.length+63) (by omega) (λl hl=>hf l (Mt _ hl)) (Zea ha hb) (by omega)
  refine ⟨λw hw=>ba (i1 w hw) ?_,?_⟩
  ·rw [zn]; omega
  ·rw [AA,zn]; omega
theorem c8:∀ {fs:List Cm},(∀ l∈fs,DayB l)->nb (1+46 * fs.length) (prd fs)
 | [],_=>by show (1:Int).natAbs < 2 ^ 1; decide
 | d::fs,h=>by
  rw [prd,zn]
  exact ba (cg (c8 λl hl=>h l (Mt _ hl)) (wE (h d (by simp)))) (by omega)
theorem wf {f:Int->Int} (hf:∀ x:Int,0<=f x):∀ {l:Cm} {k:Nat},(∀ w∈l,0<=w)->0<=ws f k l
 | [],k,_=>zU 0
 | w::l,k,h=>by
  rw [ws]
  exact Int.add_nonneg (Bg (h w (by simp)) (hf k)) (wf hf λv hv=>h v (Mt _ hv))
theorem Zk4 {a b:Cm} (ha:∀ w∈a,0<=w) (hb:∀ w∈b,0<=w):∀ w∈cD a b,0<=w:=λw hw=>by
 obtain ⟨k,-,rfl⟩:=AG.mp hw
 refine wf (λx=>wf (λy=>?_) hb) ha
 by_cases e:(x+y).toNat=k
 ·rw [if_pos e]; decide
 ·rw [if_neg e]; decide
theorem Zad:∀ (fs:List Cm) (a:Cm),(∀ l∈fs,DayB l)->(∀ w∈a,0<=w)->∀ w∈fs.foldl cD a,0<=w
 | [],a,_,ha=>ha
 | b::fs,a,hf,ha=>Zad fs (cD a b) (λl hl=>hf l (Mt _ hl)) (Zk4 ha (hf b (by simp)).w0)
theorem ZcA:∀ {l:Cm},(∀ w∈l,0<=w)->0<=l.sum/\∀ w∈l,w<=l.sum
 | [],_=>⟨zU 0,λw hw=>by cases hw⟩
 | x::l,h=>by
  obtain ⟨i1,i2⟩:=ZcA (l:=l) λv hv=>h v (Mt _ hv)
  have h0:=h x (by simp)
  rw [zT]
  refine ⟨by omega,λw hw=>?_⟩
  rcases zq.mp hw with rfl | hw
  ·omega
  ·have:=i2 w hw; omega
theorem ZaO:∀ fs:List Cm,sv fs (λ_=>1)=prd fs
 | []=>rfl
 | d::fs=>by
  rw [sv,prd,<- ZaO fs]
  exact wj d 0
theorem oK {fs:List Cm} (hf:FOk fs):(∀ w∈cT fs,nb 280 w)/\(cT fs).length<=100:=by
 have hl:=hf.len
 obtain ⟨i1,i2⟩:=Zae fs [1] 1 (by decide) hf.P (by intro w hw; rw [AF] at hw; subst hw; show (1:Int).natAbs < 2 ^ 1; decide) (by show 1+_<=_; omega)
 have i3:(cT fs).length<=1+16 * fs.length:=i2
 have h0:∀ w∈cT fs,0<=w:=Zad fs [1] hf.B (by simp)
 have hs:(cT fs).sum=prd fs:=by
  have e:=we (λ_=>1) (fs:=fs) λl hl=>(hf.P l hl).2
  rw [wj,Bs,ZaO] at e
  exact e
 have hp:=c8 hf.B
 refine ⟨λw hw=>?_,by omega⟩
 have a1:=h0 w hw
 have a2:=(ZcA h0).2 w hw
 rw [hs] at a2
 refine ba (k:=1+46 * fs.length) ?_ (by omega)
 unfold nb at hp ⊢
 omega
noncomputable def eZ (s:Shp) (fs:List Cm) (c:Int):Int:=ws (λf=>s.fin (c - f)) 0 (cT fs)
theorem Zkd {s:Shp} (h:s.Ok) {fs:List Cm} (hf:FOk fs) {o:Nat} (ho:o<=fs.length) {x:Int} (x1:-300<=x - reach (fs.take o)) (x2:x - reach (fs.take o)<=s.top+1):uF [.d s.d,.d (fD fs),.d (.int o),.d (.int x)]=.ret (.d (de (x - reach (fs.take o)) (s.top+1 - (x - reach (fs.take o))).toNat (eZ s (fs.drop o)))):=by
 have t0:=h.t0; have d0:=h.d0; have td:=h.td
 have ew:=yv (hf.drop o).P (by have:=(hf.drop o).len; omega)
 have el:=ZdM hf ho x
 obtain ⟨w1,w2⟩:=oK (hf.drop o)
 generalize hlo:x - reach (fs.take o)=lo at *
 have r1:cL lo=true:=cK (by omega) (by omega)
 have r2:cL (s.top+1)=true:=cK (by omega) (by omega)
 have hs:small (aZ lo (s.top+1)).length=true:=bM (by rw [c7]; omega)
 have ed:gJ (gH (ag (aa 5) (ag (ae aQ (ae aR (aa 0) (aC (.int 0))) (aC (.int 1))) am))) 1 [0,4] (aj 0) ud qQ [.d s.d,.d (fD fs),.d (.int o),.d (.int x),.d (lI (cT (fs.drop o))),.d (.int lo)]=.ret (de lo (s.top+1 - lo).toNat (eZ s (fs.drop o))) :=
  ZdA (xs:=aZ lo (s.top+1)) (by simp_arith [pS r1 r2]) hs (ZiC (f:=λc=>.tuple [.int c,.int (eZ s (fs.drop o) c)]) λz z1 z2=>by
   have ee:=Zj0 h w1 (by decide) (by omega) (y:=z) (bv (by show -1024 < z; omega) (by show z < 1024; omega))
   show iu ud qQ [.d (.int z),.d s.d,.d (lI (cT (fs.drop o)))]=_
   unfold iu
   have e1:ud [.d (.int z),.d s.d,.d (lI (cT (fs.drop o)))]=.ret (.int z):=rfl
   have e2:qQ [.d (.int z),.d s.d,.d (lI (cT (fs.drop o)))]=.ret (.int (eZ s (fs.drop o) z)):=by
    simp_arith [qQ,ee]
    rfl
   rw [e1,Tr.ret_bind,Zd5,e2,Tr.ret_bind]) (Zd4 _ _ _)
 simp_arith [uF,pV,ew,el,ed]
noncomputable def csm (s:Shp) (d:Nat) (fs:List Cm) (F:Int->Int) (y:Int):Int:=prd fs * s.piece * y+prd (fs.drop (d+1)) * ws (λf=>s.day y f) 0 (cT (fs.take (d+1)))+ws (λx=>F (y - x)) 0 (fs.headD [])
theorem Zef {S:PyData} {day:PyData} {fsD A W:PyData} {Dd L:Sl} {sc pc lt:Int} {P Q:Int->Int} (hS:aK aR S (.int 3)=.ret (.int pc)) (hD:aK aR fsD (.int 0)=.ret day) (f1:fit sc=true) (f2:fit pc=true) (f3:fit (sc * pc)=true) (f4:fit lt=true):∀ (n:Nat) (lo:Int) (acc:Cl) (J9 J10:Sl),acc.length+n<=900->(∀ y,lo<=y->y < lo+n->pH [.d S,.d W,.d (.int y)]=.ret (.d (.int (P y)))/\rh [.d day,.d A,.d (.int y)]=.ret (.d (.int (Q y)))/\fit y=true/\fit (P y)=true)->∃ K9 K10:Sl,bJ (aj 9) uY ((ap lo n).map PyData.int) [.d S,.d fsD,Dd,.d A,L,.d (.int sc),.d (.int lt),.d W,.own acc,J9,J10]=.ret (.next [.d S,.d fsD,Dd,.d A,L,.d (.int sc),.d (.int lt),.d W,.own (acc++(ap lo n).map λy=>.int (sc * pc * y+lt * P y+Q y)),K9,K10])
 | 0,lo,acc,J9,J10,_,_=>⟨J9,J10,by
  show Tr.ret (Ou.next _)=.ret (.next [_,_,_,_,_,_,_,_,.own (acc++[]),_,_])
  rw [zN]⟩
 | n+1,lo,acc,J9,J10,hl,h=>by
  have hsm:small (acc.length+1)=true:=bM (by omega)
  obtain ⟨h1,h2,h3,h4⟩:=h lo (by omega) (by omega)
  obtain ⟨K9,K10,e⟩:=Zef hS hD f1 f2 f3 f4 (Dd:=Dd) (L:=L) (W:=W) (A:=A) (P:=P) (Q:=Q) n (lo+1) (acc++[.int (sc * pc * lo+lt * P lo+Q lo)]) (.d (.int lo)) (.d (.int (sc * pc * lo+lt * P lo))) (by rw [zB]; show acc.length+1+n<=900; omega) λy y1 y2=>h y (by omega) (by omega)
  refine ⟨K9,K10,?_⟩
  have et:uY [.d S,.d fsD,Dd,.d A,L,.d (.int sc),.d (.int lt),.d W,.own acc,.d (.int lo),J10]=.ret (.next [.d S,.d fsD,Dd,.d A,L,.d (.int sc),.d (.int lt),.d W,.own (acc++[.int (sc * pc * lo+lt * P lo+Q lo)]),.d (.int lo),.d (.int (sc * pc * lo+lt * P lo))]):=by
   simp_arith [uY,hS,hD,f1,f2,f3,f4,h1,h2,h3,h4,hsm]
  have eg:aj 9 (.int lo) [.d S,.d fsD,Dd,.d A,L,.d (.int sc),.d (.int lt),.d W,.own acc,J9,J10]=some [.d S,.d fsD,Dd,.d A,L,.d (.int sc),.d (.int lt),.d W,.own acc,.d (.int lo),J10]:=rfl
  rw [eJ,zm,cP,eg,Tr.of_some,Tr.ret_bind,cC,et,Tr.ret_bind,cm,e,zm,Ae]
  rfl
theorem Zkf {s:Shp} (h:s.Ok) {day:Cm} {rest:List Cm} (hf:FOk (day::rest)) {d:Nat} (hd:d+1<=rest.length+1) {lo':Int} {n':Nat} {F:Int->Int} {b:Nat} (hF:∀ x,lo'<=x->x < lo'+n'->nb b (F x)) (hb:b<=8000) {low:Int} (l1:-300<=low) (l2:low<=s.top+1) (hlo:∀ x∈bx 0 day,lo'<=low - x) (hhi:s.top < lo'+n') :
  uH [.d s.d,.d (fD (day::rest)),.d (.int d),.d (de lo' n' F),.d (.int low)]=.ret (.own ((ap low (s.top+1 - low).toNat).map λy=>.int (csm s d (day::rest) F y))):=by
 have t0:=h.t0; have d0:=h.d0; have td:=h.td
 have hlen:=hf.len
 rw [zn] at hlen
 have es:=rM hf.B (by rw [zn]; omega)
 have el:=rM (hf.drop (d+1)).B (by have:=(hf.drop (d+1)).len; omega)
 have ew:=yv (hf.take (d+1)).P (by have:=(hf.take (d+1)).len; omega)
 obtain ⟨w1,w2⟩:=oK (hf.take (d+1))
 have p1:=c8 hf.B
 have p2:=c8 (hf.drop (d+1)).B
 have q1:((day::rest).drop (d+1)).length<=6:=(hf.drop (d+1)).len
 have r1:cL low=true:=cK (by omega) (by omega)
 have r2:cL (s.top+1)=true:=cK (by omega) (by omega)
 have hdd:DayB day:=(hf.b day (by simp)).1
 have hD:aK aR (fD (day::rest)) (.int 0)=.ret (tI day):=by
  unfold fD
  rw [cV,zm]
  exact congrArg Tr.of f8
 have c1:dH (fD (day::rest)) (some ((d:Int)+1)) none=.ret (fD ((day::rest).drop (d+1))):=pV (day::rest) (d+1)
 have c2:dH (fD (day::rest)) none (some ((d:Int)+1))=.ret (fD ((day::rest).take (d+1))):=rQ (day::rest) (t:=d+1) (by rw [zn]; exact hd)
 obtain ⟨K9,K10,eL⟩:=Zef (S:=s.d) (fsD:=fD (day::rest)) (A:=de lo' n' F) (W:=lI (cT ((day::rest).take (d+1)))) (Dd:=.d (.int d)) (L:=.d (.int low)) (P:=λy=>ws (λf=>s.day y f) 0 (cT ((day::rest).take (d+1)))) (Q:=λy=>ws (λx=>F (y - x)) 0 day) (sc:=prd (day::rest)) (lt:=prd ((day::rest).drop (d+1))) (gR s) hD (aM p1 (by rw [zn]; omega)) (aM h.piece (by decide)) (aM (cg p1 h.piece) (by rw [zn]; omega)) (aM p2 (by omega)) (s.top+1 - low).toNat low [] .un .un (by show 0+_<=_; omega) λy y1 y2=>by
  have hy:nb 20 y:=bv (by show -1048576 < y; omega) (by show y < 1048576; omega)
  refine ⟨ZdG h w1 (by decide) (by omega) hy,Zj1 hdd hF hb (λx hx=>by have:=hlo x hx; omega) (by omega),aM hy (by decide),?_⟩
  exact aM (gM (a:=280) (b:=100) w1 λx x1 x2=>rP h hy (bv (by show -1099511627776 < x; omega) (by show x < 1099511627776; omega))) (by omega)
 have er:aZ low (s.top+1)=(ap low (s.top+1 - low).toNat).map PyData.int:=rfl
 simp_arith [uH,es,c1,el,c2,ew,pS r1 r2,er,eL]
 rfl
end My
set_option Elab.async false
set_option linter.all false
set_option maxRecDepth 100000
set_option exponentiation.threshold 9000
namespace My
open L2 Tw Bar
noncomputable def aF (s:Shp) (d:Nat):List Cm->Int->Int
 | []=>eZ s []
 | day::rest=>if rest.length < d then eZ s (day::rest) else cst (csm s d (day::rest) (aF s d rest)) s.top (prd (day::rest) * s.start) (prd (day::rest) * s.piece)
noncomputable def aL (s:Shp) (d:Nat):List Cm->Int->Int
 | []=>λ_=>0
 | day::rest=>lvl (csm s d (day::rest) (aF s d rest)) s.top (prd (day::rest) * s.start)
theorem Zfd {s:Shp} {d:Nat}:∀ {fs:List Cm},fs.length<=d->aF s d fs=eZ s fs
 | [],_=>rfl
 | day::rest,h=>by
  rw [zn] at h
  rw [aF,if_pos (by omega)]
theorem Zfc {s:Shp} {d:Nat} {day:Cm} {rest:List Cm} (h:d<=rest.length):aF s d (day::rest)=cst (csm s d (day::rest) (aF s d rest)) s.top (prd (day::rest) * s.start) (prd (day::rest) * s.piece):=by
 rw [aF,if_neg (by omega)]
theorem ZdF {s:Shp} (h:s.Ok) {fs:List Cm} (hf:FOk fs) {c:Int} (c1:-500<=c) (c2:c<=s.top):nb 450 (eZ s fs c):=by
 have t0:=h.t0; have d0:=h.d0; have td:=h.td
 obtain ⟨w1,w2⟩:=oK hf
 exact ba (gM (a:=280) (b:=65) w1 λx x1 x2=>u9 h (bv (by show -1048576 < _; omega) (by show _ < 1048576; omega))) (by omega)
theorem Zee {s:Shp} (h:s.Ok) {d:Nat} {day:Cm} {rest:List Cm} (hf:FOk (day::rest)) {F:Int->Int} {k:Nat} (hF:∀ x,-500+16 * (rest.length:Int)<=x->x<=s.top->nb (712+160 * k) (F x)) {y:Int} (y1:-500+16 * ((rest.length:Int)+1)<=y) (y2:y<=s.top):nb (760+160 * k) (csm s d (day::rest) F y):=by
 have t0:=h.t0; have d0:=h.d0; have td:=h.td
 have hlen:=hf.len
 obtain ⟨w1,w2⟩:=oK (hf.take (d+1))
 have hy:nb 20 y:=bv (by show -1048576 < y; omega) (by show y < 1048576; omega)
 have p1:=c8 hf.B
 have p2:=c8 (hf.drop (d+1)).B
 have q1:((day::rest).drop (d+1)).length<=6:=(hf.drop (d+1)).len
 have hdd:DayB day:=(hf.b day (by simp)).1
 have hdl:=hdd.len
 have a1:=cg (cg p1 h.piece) hy
 have a2:=cg p2 (gM (k:=0) (f:=λf=>s.day y f) (a:=280) (b:=100) w1 λx x1 x2=>rP h hy (bv (by show -1099511627776 < x; omega) (by show x < 1099511627776; omega)))
 have a3:=gM (k:=0) (f:=λx=>F (y - x)) (a:=30) (b:=712+160 * k) hdd.nb λx x1 x2=>hF (y - x) (by omega) (by omega)
 unfold csm
 exact ba (dJ (dJ a1 a2) a3) (by omega)
theorem qe {s:Shp} (h:s.Ok) {d:Nat}:∀ {fs:List Cm},FOk fs->∀ y,-500+16 * (fs.length:Int)<=y->y<=s.top->nb (712+160 * fs.length) (aF s d fs y)
 | [],hf,y,y1,y2=>ba (ZdF h hf (by rw [zS] at y1; omega) y2) (by omega)
 | day::rest,hf,y,y1,y2=>by
  rw [zn] at y1
  by_cases hd:rest.length < d
  ·rw [aF,if_pos hd]
   exact ba (ZdF h hf (by omega) y2) (by omega)
  ·rw [aF,if_neg hd]
   have t0:=h.t0; have d0:=h.d0; have td:=h.td
   have hr:FOk rest:=hf.drop 1
   have hlen:=hf.len
   rw [zn] at hlen ⊢
   have ih:=qe h (d:=d) hr
   have hc:∀ z,y<=z->z<=s.top->nb (760+160 * rest.length) (csm s d (day::rest) (aF s d rest) z):=λz z1 z2=>Zee h hf ih (by omega) z2
   have p1:=c8 hf.B
   rw [zn] at p1
   have hx:nb 20 y:=bv (by show -1048576 < _; omega) (by show _ < 1048576; omega)
   unfold cst
   have k1:=ZhR (b:=760+160 * rest.length) (K:=prd (day::rest) * s.start) y2 hc (ba (cg p1 h.start) (by omega))
   exact ba (fw k1 (cg (cg p1 h.piece) hx)) (by omega)
theorem gf:∀ (fs:List Cm) (t:Nat),reach (fs.take t)+reach (fs.drop t)=reach fs
 | [],t=>by rw [B7,B9]; rfl
 | d::fs,0=>by rw [B2,AJ]; show 0+_=_; omega
 | d::fs,t+1=>by
  rw [Bq,List.drop_succ_cons,fo,fo,<- gf fs t]
  omega
theorem Zbu {fs:List Cm} {t:Nat} {day:Cm} {rest:List Cm} (h:fs.drop t=day::rest):reach (fs.take (t+1))=reach (fs.take t)+great day:=by
 have e1:=gf fs t
 have e2:=gf fs (t+1)
 have e3:fs.drop (t+1)=rest:=by rw [<- List.drop_drop,h]; rfl
 rw [h,fo] at e1
 rw [e3] at e2
 omega
noncomputable def lw (fs:List Cm) (x:Int) (t:Nat):Int:=x - reach (fs.take t)
noncomputable def nn (s:Shp) (fs:List Cm) (x:Int) (t:Nat):Nat:=(s.top+1 - lw fs x t).toNat
noncomputable def eR (s:Shp) (d:Nat) (fs:List Cm) (x:Int) (t:Nat):PyData:=.tuple ((ap (lw fs x t) (nn s fs x t)).map λy=>fX (aF s d (fs.drop t) y) (prd (fs.drop t)) (aL s d (fs.drop t) y))
noncomputable def cu (s:Shp) (d:Nat) (fs:List Cm) (x:Int) (o:Nat):Nat->List PyData
 | 0=>[]
 | p+1=>cu s d fs x o p++[eR s d fs x (o - (p+1))]
theorem tY (s:Shp) (d:Nat) (fs:List Cm) (x:Int) (o:Nat):∀ p,(cu s d fs x o p).length=p
 | 0=>rfl
 | p+1=>by rw [cu,zB,tY s d fs x o p]; rfl
theorem ie {s:Shp} {fs:List Cm} (hf:FOk fs) {x:Int} (x1:reach fs - s.depth<=x) (t:Nat):-s.depth<=lw fs x t:=by
 have e:=gf fs t
 have:=fO (fs:=fs.drop t) λl hl=>(hf.b l (Ag hl)).2
 unfold lw
 omega
theorem i9 {fs:List Cm} (hf:FOk fs) (x:Int) (t:Nat):lw fs x t<=x:=by
 have:=fO (fs:=fs.take t) λl hl=>(hf.b l (A4 hl)).2
 unfold lw
 omega
theorem ZdD {g:Int->Int} {top K P B:Int} (hB:B≠0) (hn:nb 7000 B):∀ l:Cm,bI (dU (bc (aw (aj 0) (aw (aj 1) bb))) ub [.un,.un,.d (.int B)]) (l.map (cy g top K P))=.ret (l.map λx=>fX (cst g top K P x) B (lvl g top K x))
 | []=>rfl
 | x::l=>by
  have ih:=ZdD (g:=g) (top:=top) (K:=K) (P:=P) hB hn l
  have e0:dU (bc (aw (aj 0) (aw (aj 1) bb))) ub [.un,.un,.d (.int B)] (cy g top K P x)=.ret (fX (cst g top K P x) B (lvl g top K x)):=by
   have e2:=ZdH (t:=cst g top K P x) hB hn
   simp_arith [ub,cy,e2]
   rfl
  rw [zm,bI,e0,Tr.ret_bind,ih]
  rfl
theorem ZdW {g:Int->Int} {top K P lo:Int}:∀ (n k:Nat),bI (λx=>(Tr.of (bc (aw (aj 0) (aw (bc (aw (aj 1) (aw (aj 2) bb))) bb)) x [.un,.un,.un,.d (.int lo)])).bind (iu ua t9)) ((List.range' k n).zipWith (λ(i:Nat) x=>PyData.tuple [.int i,x]) ((ap (lo+k) n).map (cy g top K P)))=.ret ((ap (lo+k) n).map λc=>.tuple [.int c,.int (cst g top K P c)])
 | 0,k=>rfl
 | n+1,k=>by
  have ih:=ZdW (g:=g) (top:=top) (K:=K) (P:=P) (lo:=lo) n (k+1)
  rw [show lo+((k+1:Nat):Int)=lo+k+1 by omega] at ih
  rw [eJ,zm,List.range'_succ,List.zipWith_cons_cons,bI]
  have e0:(Tr.of (bc (aw (aj 0) (aw (bc (aw (aj 1) (aw (aj 2) bb))) bb)) (.tuple [.int (k:Int),cy g top K P (lo+k)]) [.un,.un,.un,.d (.int lo)])).bind (iu ua t9)=.ret (.tuple [.int (lo+k),.int (cst g top K P (lo+k))]):=rfl
  rw [e0,Tr.ret_bind,ih]
  rfl
theorem vg {fs:List Cm} {t:Nat} (h:t < fs.length):∃ day,fs.drop t=day::fs.drop (t+1):=⟨fs[t],AK h⟩
theorem g8:∀ {fs:List Cm},(∀ l∈fs,DayB l)->0 < prd fs
 | [],_=>by show (0:Int) < 1; decide
 | d::fs,h=>by
  rw [prd]
  exact Int.mul_pos (g8 λl hl=>h l (Mt _ hl)) (h d (by simp)).pos
theorem Zgx {s:Shp} (h:s.Ok) {fs:List Cm} (hf:FOk fs) {d:Nat} {x:Int} (x1:reach fs - s.depth<=x) (x2:x<=s.top) {t:Nat} (ht:t+d < fs.length) (O:Sl) (acc:Cl) (ha:acc.length<=100) (J8 J9 J10:Sl) :
  ∃ K8 K9 K10:Sl,uO [.d s.d,.d (fD fs),.d (.int d),.d (.int x),O,.d (de (lw fs x (t+1)) (nn s fs x (t+1)) (aF s d (fs.drop (t+1)))),.own acc,.d (.int t),J8,J9,J10]=.ret (.next [.d s.d,.d (fD fs),.d (.int d),.d (.int x),O,.d (de (lw fs x t) (nn s fs x t) (aF s d (fs.drop t))),.own (acc++[eR s d fs x t]),.d (.int t),K8,K9,K10]):=by
 have t0:=h.t0; have d0:=h.d0; have td:=h.td
 obtain ⟨day,hD⟩:=vg (show t < fs.length by omega)
 have hF:=hf.drop t
 have hFl:=hF.len
 have hr:FOk (fs.drop (t+1)):=hf.drop (t+1)
 have l1:=ie hf x1 t
 have l2:=i9 hf x t
 have l3:=ie hf x1 (t+1)
 have l4:=i9 hf x (t+1)
 have hw:lw fs x (t+1)=lw fs x t - great day:=by have:=Zbu hD; unfold lw; omega
 have c1:=ZdM hf (t:=t) (by omega) x
 have c2:=rM hF.B (by omega)
 have hrl:(fs.drop (t+1)).length=fs.length - (t+1):=Aw
 rw [hD] at hF c2
 have hlen:=hF.len
 rw [zn] at hlen
 have c3:=Zkf h hF (d:=d) (by omega) (lo':=lw fs x (t+1)) (n':=nn s fs x (t+1)) (F:=aF s d (fs.drop (t+1))) (b:=712+160 * (fs.drop (t+1)).length) (λz z1 z2=>qe h hr z (by omega) (by unfold nn at z2; omega)) (by omega) (low:=lw fs x t) (by omega) (by omega) (λz hz=>by have:=u5 hz; omega) (by unfold nn; omega)
 have p0:=g8 hF.B
 have p1:=c8 hF.B
 rw [zn] at p1
 have c4:=Zkg h (low:=lw fs x t) (by omega) (by omega) (g:=csm s d (day::fs.drop (t+1)) (aF s d (fs.drop (t+1)))) (b:=760+160 * (fs.drop (t+1)).length) (λz z1 z2=>Zee h hF (qe h hr) (by omega) z2) (sc:=prd (day::fs.drop (t+1))) (ba p1 (by omega)) (Bg (Int.le_of_lt p0) h.start0) (by omega)
 have em:(ap (lw fs x t) (s.top+1 - lw fs x t).toNat).map (λy=>PyData.int (csm s d (day::fs.drop (t+1)) (aF s d (fs.drop (t+1))) y))=((ap (lw fs x t) (s.top+1 - lw fs x t).toNat).map (csm s d (day::fs.drop (t+1)) (aF s d (fs.drop (t+1))))).map PyData.int:=by rw [Ah]; rfl
 rw [em] at c3
 have c5:=ZdD (g:=csm s d (day::fs.drop (t+1)) (aF s d (fs.drop (t+1)))) (top:=s.top) (K:=prd (day::fs.drop (t+1)) * s.start) (P:=prd (day::fs.drop (t+1)) * s.piece) (BQ p0) (ba p1 (by omega)) (ap (lw fs x t) (s.top+1 - lw fs x t).toNat)
 have e6:aF s d (fs.drop t)=cst (csm s d (day::fs.drop (t+1)) (aF s d (fs.drop (t+1)))) s.top (prd (day::fs.drop (t+1)) * s.start) (prd (day::fs.drop (t+1)) * s.piece):=by rw [hD]; exact Zfc (by omega)
 have erow:eR s d fs x t=.tuple ((ap (lw fs x t) (s.top+1 - lw fs x t).toNat).map λy=>fX (cst (csm s d (day::fs.drop (t+1)) (aF s d (fs.drop (t+1)))) s.top (prd (day::fs.drop (t+1)) * s.start) (prd (day::fs.drop (t+1)) * s.piece) y) (prd (day::fs.drop (t+1))) (lvl (csm s d (day::fs.drop (t+1)) (aF s d (fs.drop (t+1)))) s.top (prd (day::fs.drop (t+1)) * s.start) y)):=by
  unfold eR nn
  rw [e6,hD]
  rfl
 rw [erow,e6]
 unfold nn
 have cf:=pV fs t
 rw [hD] at cf
 have hlow:x - reach (fs.take t)=lw fs x t:=rfl
 rw [hlow] at c1
 unfold nn at c3
 generalize csm s d (day::fs.drop (t+1)) (aF s d (fs.drop (t+1)))=g at *
 generalize hK:prd (day::fs.drop (t+1))=B at *
 have hsm:small ((ap (lw fs x t) (s.top+1 - lw fs x t).toNat).map (cy g s.top (B * s.start) (B * s.piece))).length=true:=bM (by rw [zo,eT]; omega)
 have hsm2:small (acc.length+1)=true:=bM (by omega)
 have hsm3:small (cG ((ap (lw fs x t) (s.top+1 - lw fs x t).toNat).map (cy g s.top (B * s.start) (B * s.piece)))).length=true:=bM (by rw [ZjY,zo,eT]; omega)
 have ed:=ZdW (g:=g) (top:=s.top) (K:=B * s.start) (P:=B * s.piece) (lo:=lw fs x t) (s.top+1 - lw fs x t).toNat 0
 rw [Bj,Aq] at ed
 have ee:cG ((ap (lw fs x t) (s.top+1 - lw fs x t).toNat).map (cy g s.top (B * s.start) (B * s.piece)))=(List.range' 0 (s.top+1 - lw fs x t).toNat).zipWith (λ(i:Nat) x=>PyData.tuple [.int i,x]) ((ap (lw fs x t) (s.top+1 - lw fs x t).toNat).map (cy g s.top (B * s.start) (B * s.piece))):=by
  unfold cG
  rw [zo,eT,List.range_eq_range']
 rw [<- ee] at ed
 have edc:∀ X5 X6:Sl,gJ (fe (aa 10)) 3 [8] (bc (aw (aj 0) (aw (bc (aw (aj 1) (aw (aj 2) bb))) bb))) ua t9 [.d s.d,.d (fD fs),.d (.int d),.d (.int x),O,X5,X6,.d (.int t),.d (.int (lw fs x t)),.d (.int B),.d (.list ((ap (lw fs x t) (s.top+1 - lw fs x t).toNat).map (cy g s.top (B * s.start) (B * s.piece))))]=.ret (de (lw fs x t) (s.top+1 - lw fs x t).toNat (cst g s.top (B * s.start) (B * s.piece))):=λX5 X6 =>
  ZdA (xs:=cG ((ap (lw fs x t) (s.top+1 - lw fs x t).toNat).map (cy g s.top (B * s.start) (B * s.piece)))) (by simp_arith [Ac]) hsm3 ed (Zd4 _ _ _)
 unfold lI at c4
 refine ⟨.d (.int (lw fs x t)),.d (.int B),.d (.list ((ap (lw fs x t) (s.top+1 - lw fs x t).toNat).map (cy g s.top (B * s.start) (B * s.piece)))),?_⟩
 simp_arith [uO,c1,cf,c2,c3,c4,hsm,c5,hsm2,edc]
theorem ZdI {s:Shp} (h:s.Ok) {fs:List Cm} (hf:FOk fs) {d:Nat} (d1:d<=fs.length) {x:Int} (x1:reach fs - s.depth<=x) (x2:x<=s.top) :
  rj [.d s.d,.d (fD fs),.d (.int d),.d (.int x)]=.ret (.d (.tuple [.list (cu s d fs x (fs.length - d) (fs.length - d)).reverse,.int (aF s d fs x)])):=by
 have t0:=h.t0; have d0:=h.d0; have td:=h.td
 have hl:=hf.len
 generalize ho:fs.length - d=o
 have ho':(fs.length:Int) - d=(o:Int):=by omega
 have l1:=ie hf x1 o
 have l2:=i9 hf x o
 have ea:=Zkd h hf (o:=o) (by omega) (x:=x) (by unfold lw at l1; omega) (by unfold lw at l2; omega)
 have hend:eZ s (fs.drop o)=aF s d (fs.drop o):=(Zfd (by rw [Aw]; omega)).symm
 rw [hend] at ea
 have hln:bw db [fD fs]=.ret (.int fs.length):=by
  unfold fD
  rw [eN,zo]
 have r1:eI [.int (o:Int)]=.ret (aZ 0 (o:Int)):=ip (cK (by omega) (by omega))
 apply yQ
 simp -implicitDefEqProofs only [rj,jD,jC,oA,nT,nS,oo,gz,gA,jT,nz,nc,ly,ng,na,lx,mr,mj,mq,mi,md,cV,f8,gD,gC,iE,iD,iC,iB,iA,iz,lv,lu,jS,jL,jR,jQ,jP,jO,jM,jN,oh,li,lq,oa,og,lg,lh,lp,n9,lf,lm,n6,n8,lb,lc,ll,mO,mL,mM,nA,nG,nF,nE,nC,nD,lr,nw,nv,nu,jK,jJ,lK,lJ,lM,lL,bM,nM,nJ,lP,eN,oq,lC,lA,mv,mw,jI,jE,lH,lD,fV,gx,lB,oi,n5,mn,ml,jY,jX,jW,jV,jU,k7,kZ,kY,jH,jG,lG,lF,ow,ox,oz,oy,kU,kT,ou,ot,nO,kS,kR,nk,m7,mZ,kn,kj,ki,km,kl,jZ,nP,nr,mG,mE,mF,kQ,kP,kO,kN,kM,kL,kK,kJ,kI,kh,kg,ke,kc,ka,j9,j8,jc,jb,nW,nV,nU,mP,la,k9,n4,n0,nZ,kH,kG,mQ,jt,ju,js,jr,jv,nY,nX,lj,jm,jk,jn,jq,jl,kX,kW,mh,mf,me,kA,kz,jB,jA,jz,jx,jw,nh,nj,ni,mV,mU,io,cC,cm,mS,mT,mR,lX,lW,lV,iX,iY,i5,iZ,nN,nI,mX,mW,lQ,lR,lO,lN,mC,lS,lU,lT,mH,mJ,mK,mI,nL,nK,mY,j7,j6,j4,om,oj,jp,kF,ky,kw,kD,kC,ku,kr,kE,kB,m9,m8,mB,mz,my,gy,lE,jF,ma,l5,lZ,lY,Tw.gT,Tw.gS,Tw.iQ,Tw.gR,Tw.iP,Tw.iO,Tw.iN,Tw.iM,Tw.iL,iq,mx,nq,nR,nQ,lz,mD,iT,Tr.of_some,Tr.bind_assoc,Tr.draw_bind,Ap,At,zG,AU,zn,zS,Re.val_d,Re.val_own,blk,gB,zm,AH,Ax,zZ,AD,Nat.reduceAdd,Nat.reduceLeDiff,Ac,hln,ho',ea,r1,gW]
 refine dZ (n:=0) (n':=0) (P:=λz=>∃ J7 J8 J9 J10:Sl,z=.next [.d s.d,.d (fD fs),.d (.int d),.d (.int x),.d (.int o),.d (de (lw fs x 0) (nn s fs x 0) (aF s d fs)),.own (cu s d fs x o o),J7,J8,J9,J10]) ?_ (by decide) ?_
 ·refine r8 (n:=0) (λpre ρ=>pre.length<=o/\∃ J7 J8 J9 J10:Sl,ρ=[.d s.d,.d (fD fs),.d (.int d),.d (.int x),.d (.int o),.d (de (lw fs x (o - pre.length)) (nn s fs x (o - pre.length)) (aF s d (fs.drop (o - pre.length)))),.own (cu s d fs x o pre.length),J7,J8,J9,J10]) ⟨Ay _,.un,.un,.un,.un,rfl⟩ (by simp) ?_ ?_
  ·rintro pre v post ρ e ⟨hp,J7,J8,J9,J10,rfl⟩
   obtain ⟨rfl,hpl⟩:=Zbm e
   have ht:(o:Int) - 1 - pre.length=((o - (pre.length+1):Nat):Int):=by omega
   rw [ht]
   refine ⟨_,rfl,?_⟩
   have hq:o - pre.length=o - (pre.length+1)+1:=by omega
   obtain ⟨K8,K9,K10,et⟩:=Zgx h hf (d:=d) x1 x2 (t:=o - (pre.length+1)) (by omega) (.d (.int o)) (cu s d fs x o pre.length) (by rw [tY]; omega) J8 J9 J10
   rw [<- hq] at et
   show Al (uO [.d s.d,.d (fD fs),.d (.int d),.d (.int x),.d (.int o),.d (de (lw fs x (o - pre.length)) (nn s fs x (o - pre.length)) (aF s d (fs.drop (o - pre.length)))),.own (cu s d fs x o pre.length),.d (.int ((o - (pre.length+1):Nat):Int)),J8,J9,J10]) _ _
   rw [et]
   refine cH ⟨_,rfl,?_,.d (.int ((o - (pre.length+1):Nat):Int)),K8,K9,K10,?_⟩
   ·rw [zB]; show pre.length+1<=o; omega
   ·rw [zB]
    rfl
  ·rintro ρ ⟨hp,J7,J8,J9,J10,rfl⟩
   refine ⟨J7,J8,J9,J10,?_⟩
   rw [zQ,c7,show ((o:Int) - 0).toNat=o by omega,Nat.sub_self,AJ]
 ·rintro _ ⟨J7,J8,J9,J10,rfl⟩
  have eg:aK dc (de (lw fs x 0) (nn s fs x 0) (aF s d fs)) (.int x)=.ret (.int (aF s d fs x)):=by
   have e0:lw fs x 0=x:=by unfold lw; rw [B2]; show x - 0=x; omega
   unfold aK nn
   rw [e0,yB (zU x) (by omega)]
   rfl
  simp -implicitDefEqProofs only [jD,jC,oA,nT,nS,oo,gz,gA,jT,nz,nc,ly,ng,na,lx,mr,mj,mq,mi,md,cV,f8,gD,gC,iE,iD,iC,iB,iA,iz,lv,lu,jS,jL,jR,jQ,jP,jO,jM,jN,oh,li,lq,oa,og,lg,lh,lp,n9,lf,lm,n6,n8,lb,lc,ll,mO,mL,mM,nA,nG,nF,nE,nC,nD,lr,nw,nv,nu,jK,jJ,lK,lJ,lM,lL,bM,nM,nJ,lP,eN,oq,lC,lA,mv,mw,jI,jE,lH,lD,fV,gx,lB,oi,n5,mn,ml,jY,jX,jW,jV,jU,k7,kZ,kY,jH,jG,lG,lF,ow,ox,oz,oy,kU,kT,ou,ot,nO,kS,kR,nk,m7,mZ,kn,kj,ki,km,kl,jZ,nP,nr,mG,mE,mF,kQ,kP,kO,kN,kM,kL,kK,kJ,kI,kh,kg,ke,kc,ka,j9,j8,jc,jb,nW,nV,nU,mP,la,k9,n4,n0,nZ,kH,kG,mQ,jt,ju,js,jr,jv,nY,nX,lj,jm,jk,jn,jq,jl,kX,kW,mh,mf,me,kA,kz,jB,jA,jz,jx,jw,nh,nj,ni,mV,mU,io,cC,cm,mS,mT,mR,lX,lW,lV,iX,iY,i5,iZ,nN,nI,mX,mW,lQ,lR,lO,lN,mC,lS,lU,lT,mH,mJ,mK,mI,nL,nK,mY,j7,j6,j4,om,oj,jp,kF,ky,kw,kD,kC,ku,kr,kE,kB,m9,m8,mB,mz,my,gy,lE,jF,ma,l5,lZ,lY,Tw.gT,Tw.gS,Tw.iQ,Tw.gR,Tw.iP,Tw.iO,Tw.iN,Tw.iM,Tw.iL,iq,mx,nq,nR,nQ,lz,mD,iT,Tr.of_some,Tr.bind_assoc,Tr.draw_bind,Ap,At,zG,AU,zn,zS,Re.val_d,Re.val_own,blk,gB,zm,AH,Ax,zZ,AD,Nat.reduceAdd,Nat.reduceLeDiff,Ac,eg]
  exact cH rfl
end My
set_option Elab.async false
set_option linter.all false
set_option maxRecDepth 100000
set_option exponentiation.threshold 9000
namespace My
open L2 Tw Bar
noncomputable def drB (ρ:Cr) (_:PyData):Tr Ou:=.ret (.next ρ)
theorem Zdy {i:Cc} {ρ:Cr}:vL i ρ=(i ρ).bind (drB ρ):=rfl
theorem Zdz {ρ:Cr} {x:PyData}:drB ρ x=.ret (.next ρ):=rfl
noncomputable def cj (s:Shp) (fs:List Cm) (x:Int):Nat->Int
 | 0=>0
 | t+1=>cj s fs x t+prd (fs.drop (t+1)) * ws (λf=>s.day x f) 0 (cT (fs.take (t+1)))
noncomputable def gr (s:Shp) (d:Nat) (fs:List Cm) (x:Int):Int:=aF s d fs x+cj s fs x d
theorem ZcT {s:Shp} (h:s.Ok) {fs:List Cm} (hf:FOk fs) {x:Int} (hx:nb 20 x) (Dd T:Sl) (c:Int):∀ (n k:Nat) (J:Sl),k+n<=fs.length->∃ K:Sl,bJ (aj 6) uQ ((ap k n).map PyData.int) [.d s.d,.d (fD fs),Dd,.d (.int x),T,.d (.int (c+cj s fs x k)),J]=.ret (.next [.d s.d,.d (fD fs),Dd,.d (.int x),T,.d (.int (c+cj s fs x (k+n))),K])
 | 0,k,J,_=>⟨J,rfl⟩
 | n+1,k,J,hk=>by
  obtain ⟨K,e⟩:=ZcT h hf hx Dd T c n (k+1) (.d (.int k)) (by omega)
  refine ⟨K,?_⟩
  have e1:=rM (hf.drop (k+1)).B (by have:=(hf.drop (k+1)).len; omega)
  have e2:=yv (hf.take (k+1)).P (by have:=(hf.take (k+1)).len; omega)
  obtain ⟨w1,w2⟩:=oK (hf.take (k+1))
  have e3:=ZdG h w1 (by decide) (by omega) hx
  have c1:dH (fD fs) (some ((k:Int)+1)) none=.ret (fD (fs.drop (k+1))):=pV fs (k+1)
  have c2:dH (fD fs) none (some ((k:Int)+1))=.ret (fD (fs.take (k+1))):=rQ fs (t:=k+1) (by omega)
  have p2:=c8 (hf.drop (k+1)).B
  have q1:(fs.drop (k+1)).length<=6:=(hf.drop (k+1)).len
  have f1:=aM p2 (by omega)
  have f2:=aM (gM (k:=0) (f:=λf=>s.day x f) (a:=280) (b:=100) w1 λz x1 x2=>rP h hx (bv (by show -1099511627776 < z; omega) (by show z < 1099511627776; omega))) (by omega)
  have et:uQ [.d s.d,.d (fD fs),Dd,.d (.int x),T,.d (.int (c+cj s fs x k)),.d (.int k)]=.ret (.next [.d s.d,.d (fD fs),Dd,.d (.int x),T,.d (.int (c+cj s fs x (k+1))),.d (.int k)]):=by
   simp_arith [uQ,c1,e1,c2,e2,e3,f1,f2,cj,A2]
  have eg:aj 6 (.int (k:Int)) [.d s.d,.d (fD fs),Dd,.d (.int x),T,.d (.int (c+cj s fs x k)),J]=some [.d s.d,.d (fD fs),Dd,.d (.int x),T,.d (.int (c+cj s fs x k)),.d (.int k)]:=rfl
  rw [show ((k+1:Nat):Int)=(k:Int)+1 by omega] at e
  rw [eJ,zm,cP,eg,Tr.of_some,Tr.ret_bind,cC,et,Tr.ret_bind,cm,e,show k+1+n=k+(n+1) by omega]
theorem Zka {s:Shp} (h:s.Ok) {fs:List Cm} (hf:FOk fs) {d:Nat} (d1:d<=fs.length) {x:Int} (x1:reach fs - s.depth<=x) (x2:x<=s.top) :
  uv [.d s.d,.d (fD fs),.d (.int d),.d (.int x)]=.ret (.d (fj (gr s d fs x) (prd fs))):=by
 have t0:=h.t0; have d0:=h.d0; have td:=h.td
 have hl:=hf.len
 have hr:=fO (fs:=fs) λl hl=>(hf.b l hl).2
 have hx:nb 20 x:=bv (by show -1048576 < x; omega) (by show x < 1048576; omega)
 have e1:=ZdP hf x1
 have e2:=ZdI h hf d1 x1 x2
 obtain ⟨K,e3⟩:=ZcT h hf hx (.d (.int d)) (.d (.list (cu s d fs x (fs.length - d) (fs.length - d)).reverse)) (aF s d fs x) d 0 .un (by omega)
 have e4:=rM hf.B (by omega)
 have r1:eI [.int (d:Int)]=.ret (aZ 0 (d:Int)):=ip (cK (by omega) (by omega))
 have er:aZ 0 (d:Int)=(ap ((0:Nat):Int) d).map PyData.int:=by
  unfold aZ
  rw [show ((d:Int) - 0).toNat=d by omega]
  rfl
 have p1:=c8 hf.B
 have e5:=ZdH (t:=aF s d fs x+cj s fs x d) (b:=prd fs) (BQ (g8 hf.B)) (ba p1 (by omega))
 have ez:aF s d fs x+cj s fs x 0=aF s d fs x:=Aq _
 rw [ez,Nat.zero_add] at e3
 simp -implicitDefEqProofs only [uv,jD,jC,oA,nT,nS,oo,gz,gA,jT,nz,nc,ly,ng,na,lx,mr,mj,mq,mi,md,cV,f8,gD,gC,iE,iD,iC,iB,iA,iz,lv,lu,jS,jL,jR,jQ,jP,jO,jM,jN,oh,li,lq,oa,og,lg,lh,lp,n9,lf,lm,n6,n8,lb,lc,ll,mO,mL,mM,nA,nG,nF,nE,nC,nD,lr,nw,nv,nu,jK,jJ,lK,lJ,lM,lL,bM,nM,nJ,lP,eN,oq,lC,lA,mv,mw,jI,jE,lH,lD,fV,gx,lB,oi,n5,mn,ml,jY,jX,jW,jV,jU,k7,kZ,kY,jH,jG,lG,lF,ow,ox,oz,oy,kU,kT,ou,ot,nO,kS,kR,nk,m7,mZ,kn,kj,ki,km,kl,jZ,nP,nr,mG,mE,mF,kQ,kP,kO,kN,kM,kL,kK,kJ,kI,kh,kg,ke,kc,ka,j9,j8,jc,jb,nW,nV,nU,mP,la,k9,n4,n0,nZ,kH,kG,mQ,jt,ju,js,jr,jv,nY,nX,lj,jm,jk,jn,jq,jl,kX,kW,mh,mf,me,kA,kz,jB,jA,jz,jx,jw,nh,nj,ni,mV,mU,io,cC,cm,mS,mT,mR,lX,lW,lV,iX,iY,i5,iZ,nN,nI,mX,mW,lQ,lR,lO,lN,mC,lS,lU,lT,mH,mJ,mK,mI,nL,nK,mY,j7,j6,j4,om,oj,jp,kF,ky,kw,kD,kC,ku,kr,kE,kB,m9,m8,mB,mz,my,gy,lE,jF,ma,l5,lZ,lY,Tw.gT,Tw.gS,Tw.iQ,Tw.gR,Tw.iP,Tw.iO,Tw.iN,Tw.iM,Tw.iL,iq,mx,nq,nR,nQ,lz,mD,iT,Tr.of_some,Tr.bind_assoc,Tr.draw_bind,Ap,At,zG,AU,zn,zS,Re.val_d,Re.val_own,blk,gB,zm,AH,Ax,zZ,AD,Nat.reduceAdd,Nat.reduceLeDiff,Ac,Zdy,Zdz,e1,e2,r1,er,e3,e4,e5]
 rfl
theorem Zj2 {s:Shp} (h:s.Ok) {fs:List Cm} (hf:FOk fs) {d:Nat} (d1:d<=fs.length) {x:Int} (x1:reach fs - s.depth<=x) (x2:x<=s.top) :
  ut [.d s.d,.d (fD fs),.d (.int d),.d (.int x)]=.ret (.d (.tuple (cu s d fs x (fs.length - d) (fs.length - d)).reverse)):=by
 have e1:=ZdP hf x1
 have e2:=ZdI h hf d1 x1 x2
 simp_arith [ut,Zdy,Zdz,e1,e2]
end My
set_option Elab.async false
set_option linter.all false
set_option maxRecDepth 100000
set_option exponentiation.threshold 9000
namespace My
open L2 Tw Bar
theorem FOk.tl {d:Cm} {fs:List Cm} (h:FOk (d::fs)):FOk fs:=h.drop 1
theorem FOk.L {fs:List Cm} (h:FOk fs):∀ l∈fs,0 < l.length:=λl hl=>(h.P l hl).2
end My
set_option Elab.async false
set_option linter.all false
set_option maxRecDepth 100000
set_option exponentiation.threshold 9000
namespace My
open L2 Tw
theorem pF {z:Int} {k:Nat} (h:nb k z):nb k (c9 z 0):=by
 unfold c9
 exact pC (show (0:Int).natAbs < 2 ^ k from Ak (by simp)) h
theorem Zkr (s:Shp) (y f:Int):s.keep * c9 (s.nx y f) 0+s.lack * c9 (0 - s.nx y f) 0+s.lost * (s.nx y f - y+f)=s.day y f:=by
 unfold Shp.day
 have e:s.nx y f - y+f=s.nx y f - (y - f):=by omega
 rw [e]
 generalize s.nx y f=z
 unfold c9
 by_cases hz:z > 0
 ·rw [if_neg (by omega),if_pos (by omega),if_pos hz,AI,Aq]
 ·rw [if_neg hz]
  by_cases h0:z=0
  ·subst h0; simp
  ·rw [if_pos (by omega),if_neg (by omega),AI,AT]
   have e2:0 - z=-z:=by omega
   rw [e2]
theorem ZjK (s:Shp) (x:Int):s.late * c9 (0 - x) 0 - s.back * c9 x 0=s.fin x:=by
 unfold Shp.fin c9
 by_cases hx:x > 0
 ·rw [if_pos (by omega),if_neg (by omega),if_pos hx,AI,Int.neg_mul]
  omega
 ·rw [if_neg hx]
  by_cases h0:x=0
  ·subst h0; simp
  ·rw [if_neg (by omega),if_pos (by omega),AI,Int.sub_zero]
   have e2:0 - x=-x:=by omega
   rw [e2]
theorem Zj8 {s:Shp} (h:s.Ok) {x:Int} (x1:-s.depth<=x) (x2:x<=s.top):uA [.d s.d,.d (.int x)]=.ret (.d (.int (s.fin x))):=by
 have:=h.t0
 have:=h.d0
 have:=h.td
 have n1:nb 20 (0 - x):=bv (by show -1048576 < _; omega) (by show _ < 1048576; omega)
 have n2:nb 20 x:=bv (by show -1048576 < _; omega) (by show _ < 1048576; omega)
 have g1:=aM h.late (by decide)
 have g2:=aM (pF n1) (by decide)
 have g3:=aM h.back (by decide)
 have g4:=aM (pF n2) (by decide)
 simp_arith [uA,g1,g2,g3,g4,ZjK]
theorem ZdK {t b:Int} (hb:0 < b) (nB:nb 7000 b):rp [.d (.int t),.d (.int b)]=.ret (.d (fj t b)):=by
 obtain ⟨z,rfl⟩:∃ z:Nat,b=(z:Int):=⟨b.toNat,by omega⟩
 have key:=euclid (p:=wl) (s:=xU) (E:=λa b'=>[.d (.int t),.d (.int z),.d (.int a),.d (.int b')]) (λa b=>by
  simp_arith [wl]
  by_cases h:b=0
  ·subst h; rfl
  ·rw [decide_eq_true h]
   congr 1
   simp
   omega) (λa b h=>by
  have h':(b:Int)≠0:=by omega
  simp_arith [xU,yt h',Zdu]) 8000 83999 t.natAbs z (zt (show z < 2 ^ 7000 from by unfold nb at nB; rwa [Int.natAbs_natCast] at nB) (Bl (by decide) (by decide)))
 have e:2 * 8000+1+83999=100000:=rfl
 rw [e] at key
 have hd:=Gc.yy (t:=t) (b:=(z:Int)) (by omega)
 have hf:=aM (ZdY (t:=t) nB (by omega)) (by decide)
 have ed:Gc.den t (z:Int)=((Nat.gcd t.natAbs z:Nat):Int):=by unfold Gc.den Gc.im; rw [if_neg (by omega),Int.natAbs_natCast]
 unfold fj Gc.ig Gc.gp
 rw [ed] at hd hf ⊢
 simp_arith [rp,Ze9,key,ve hd hf]
end My
set_option Elab.async false
set_option linter.all false
set_option maxRecDepth 100000
set_option exponentiation.threshold 9000
namespace My
open L2 Tw Bar
noncomputable def rst (s:Shp) (r:Int):Int:=s.keep * c9 r 0+s.lack * c9 (0 - r) 0
theorem Zkq {s:Shp} {y f:Int} (h:-s.depth<=y - f):s.day y f=rst s (y - f):=by
 have e:s.nx y f=y - f:=by unfold Shp.nx c9; split <;> omega
 rw [<- Zkr,e,show y - f - y+f=0 by omega,AI,Aq]
 rfl
theorem Zbg {s:Shp} (h:s.Ok) {r:Int} (hr:nb 20 r):nb 100 (rst s r):=by
 have h2:nb 21 (0 - r):=ba (fw (show nb 1 (0:Int) from bv (by decide) (by decide)) hr) (by decide)
 unfold rst
 exact ba (dJ (cg h.keep (pF hr)) (cg h.lack (pF h2))) (by decide)
theorem Zj5 {s:Shp} (h:s.Ok) {r:Int} (hr:nb 20 r):ux [.d s.d,.d (.int r)]=.ret (.d (.int (rst s r))):=by
 have h2:nb 21 (0 - r):=ba (fw (show nb 1 (0:Int) from bv (by decide) (by decide)) hr) (by decide)
 have g1:=aM h.keep (by decide)
 have g2:=aM (pF hr) (by decide)
 have g3:=aM h.lack (by decide)
 have g4:=aM (pF h2) (by decide)
 simp_arith [ux,g1,g2,g3,g4,rst]
theorem Zj6 {s:Shp} (h:s.Ok) {x y:Int} (xy:x<=y) (y2:y - x<=500):rq [.d s.d,.d (.int (y - x))]=.ret (.d (.int (s.ord x y))):=by
 have ny:nb 20 (y - x):=bv (by show -1048576 < _; omega) (by show _ < 1048576; omega)
 have g1:=aM h.start (by decide)
 have g2:=aM (show nb 20 (1:Int) from bv (by decide) (by decide)) (by decide)
 have g3:=aM (show nb 20 (0:Int) from bv (by decide) (by decide)) (by decide)
 have g4:=aM h.piece (by decide)
 have g5:=aM ny (by decide)
 have g6:=aM (dJ h.start (cg h.piece ny)) (by decide)
 unfold Shp.ord
 by_cases hp:y - x > 0
 ·rw [if_neg (by omega)]
  simp_arith [rq,decide_eq_true hp,if_true,g1,g2,g4,g5,g6,Be]
 ·rw [if_pos (by omega)]
  have e:y - x=0:=by omega
  rw [e] at hp ⊢
  simp_arith [rq,decide_eq_false hp,g1,g3,g4,AI,BM,if_false,Aq]
theorem lb1 (W Z:Sl):∀ (fs:List Cm) (b:Nat) (D:Int) (J:Sl),nb b D->(∀ l∈fs,DayB l)->b+46 * fs.length<=8000->∃ K:Sl,bJ (aj 3) uW (fs.map tI) [W,Z,.d (.int D),J]=.ret (.next [W,Z,.d (.int (D * prd fs)),K])
 | [],b,D,J,_,_,_=>⟨J,by rw [prd,Be]; rfl⟩
 | d::fs,b,D,J,h,hf,hl=>by
  rw [zn,BP] at hl
  have hd:=hf d (by simp)
  have sn:=wE hd
  obtain ⟨K,e⟩:=lb1 W Z fs (b+46) (D * d.sum) (.d (tI d)) (cg h sn) (λq hq=>hf q (Mt _ hq)) (by omega)
  refine ⟨K,?_⟩
  have f1:=aM h (by omega)
  have f2:=aM sn (by decide)
  have es:bw c6 [tI d]=.ret (.int d.sum):=gx d
  have et:uW [W,Z,.d (.int D),.d (tI d)]=.ret (.next [W,Z,.d (.int (D * d.sum)),.d (tI d)]):=by
   simp_arith [uW,es,f1,f2]
  have eg:aj 3 (tI d) [W,Z,.d (.int D),J]=some [W,Z,.d (.int D),.d (tI d)]:=rfl
  have ep:D * d.sum * prd fs=D * prd (d::fs):=by rw [prd,Bo,BE d.sum]
  rw [zm,cP,eg,Tr.of_some,Tr.ret_bind,cC,et,Tr.ret_bind,cm,e,ep]
theorem rN {fs:List Cm} (hf:FOk fs) (t:Nat):ic [.d (fD fs),.d (.int t)]=.ret (.d (.int (prd (fs.drop t)))):=by
 obtain ⟨K,e⟩:=lb1 (.d (fD fs)) (.d (.int t)) (fs.drop t) 1 1 .un (by show (1:Int).natAbs < 2 ^ 1; decide) (hf.drop t).B (by have:=(hf.drop t).len; omega)
 rw [Bs] at e
 simp_arith [ic,pV,rH,e]
noncomputable def cr (X:List (Int×Int)) (d:Cm):List (Int×Int):=X.flatMap λp=>(ce 0 d).map λq=>(p.1 * q.2,p.2 - q.1)
noncomputable def cB (p:Int×Int):PyData:=.tuple [.int p.1,.int p.2]
noncomputable def tot (g:Int->Int) (X:List (Int×Int)):Int:=(X.map λp=>p.1 * g p.2).sum
theorem msum {α:Type} (c:Int) (f:α->Int):∀ l:List α,(l.map λq=>c * f q).sum=c * (l.map f).sum
 | []=>by simp
 | x::l=>by rw [zm,zm,zT,zT,msum c f l,Bt]
theorem Zfi (p:Int×Int) (X:List (Int×Int)) (d:Cm):cr (p::X) d=((ce 0 d).map λq=>(p.1 * q.2,p.2 - q.1))++cr X d:=by unfold cr; rw [List.flatMap_cons]
theorem ZaA (g:Int->Int) {d:Cm} (h0:∀ w∈d,0<=w):∀ X:List (Int×Int),tot g (cr X d)=tot (λr=>ws (λf=>g (r - f)) 0 d) X
 | []=>rfl
 | p::X=>by
  have ih:=ZaA g h0 X
  unfold tot at *
  rw [Zfi,Am,List.sum_append,Ah,ih,zm,zT]
  congr 1
  show _=p.1 * ws (λf=>g (p.2 - f)) 0 d
  rw [<- wM (c:=λf=>g (p.2 - f)) d 0 h0,<- msum]
  congr 1
  refine Az λq _=>?_
  show p.1 * q.2 * g (p.2 - q.1)=p.1 * (q.2 * g (p.2 - q.1))
  rw [Bo]
theorem Zaz {g g':Int->Int} {X:List (Int×Int)} (h:∀ p∈X,g p.2=g' p.2):tot g X=tot g' X:=by
 unfold tot
 congr 1
 exact Az λp hp=>by rw [h p hp]
theorem sK (g:Int->Int):∀ (fs:List Cm) (X:List (Int×Int)),(∀ l∈fs,∀ w∈l,0<=w)->tot g (fs.foldl cr X)=tot (λr=>sv fs λf=>g (r - f)) X
 | [],X,_=>Zaz λp _=>by show g p.2=g (p.2 - 0); rw [Int.sub_zero]
 | d::fs,X,h=>by
  rw [AA,sK g fs (cr X d) λl hl=>h l (Mt _ hl),ZaA _ (h d (by simp))]
  refine Zaz λp _=>fM λi _=>gQ λj _=>?_
  rw [Int.sub_sub]
theorem oM {f g:Int->Int}:∀ {l:Cm} {k:Nat},(∀ w∈l,0<=w)->(∀ x∈bx k l,f x=g x)->ws f k l=ws g k l
 | [],_,_,_=>rfl
 | w::l,k,h0,h=>by
  rw [ws,ws]
  by_cases hw:w > 0
  ·rw [bx,if_pos hw] at h
   rw [h k (by simp),oM (λv hv=>h0 v (Mt _ hv)) λx hx=>h x (Mt _ hx)]
  ·rw [bx,if_neg hw] at h
   have:w=0:=by have:=h0 w (by simp); omega
   rw [this,A0,A0,oM (λv hv=>h0 v (Mt _ hv)) h]
theorem sQ:∀ {l:Cm} {k:Nat} {x:Int},x∈bx k l->(k:Int)<=x
 | [],_,_,h=>by cases h
 | w::l,k,x,h=>by
  rw [bx] at h
  split at h
  ·rcases zq.mp h with e | e
   ·omega
   ·have:=sQ e; omega
  ·have:=sQ h; omega
theorem ZaN {f g:Int->Int}:∀ {fs:List Cm} {a:Int},FOk fs->(∀ x,a<=x->x<=a+reach fs->f x=g x)->sv fs (λx=>f (a+x))=sv fs λx=>g (a+x)
 | [],a,_,h=>h _ (by omega) (by show a+0<=a+0; omega)
 | d::fs,a,hf,h=>by
  have hd:=hf.b d (by simp)
  refine oM hd.1.w0 λi hi=>?_
  have i0:=sQ hi
  have i1:=u5 hi
  have e:=ZaN (f:=f) (g:=g) (fs:=fs) (a:=a+i) hf.tl λx x1 x2=>h x (by omega) (by rw [fo]; omega)
  have e1:(λj=>f (a+(i+j)))=λj=>f (a+i+j):=funext λj=>by rw [A2]
  have e2:(λj=>g (a+(i+j)))=λj=>g (a+i+j):=funext λj=>by rw [A2]
  show sv fs (λj=>f (a+(i+j)))=sv fs λj=>g (a+(i+j))
  rw [e1,e2]
  exact e
theorem Zge {f g:Int->Int} {fs:List Cm} (hf:FOk fs) (h:∀ x,0<=x->x<=reach fs->f x=g x):sv fs f=sv fs g:=by
 have e:=ZaN (f:=f) (g:=g) (a:=0) hf λx x1 x2=>h x x1 (by omega)
 have e1:(λx=>f (0+x))=f:=funext λx=>by rw [AT]
 have e2:(λx=>g (0+x))=g:=funext λx=>by rw [AT]
 rw [e1,e2] at e
 exact e
theorem Zaj (f g:Int->Int):∀ (l:Cm) (k:Nat),ws (λx=>f x+g x) k l=ws f k l+ws g k l
 | [],_=>rfl
 | w::l,k=>by rw [ws,ws,ws,Zaj f g l (k+1),Bt]; omega
theorem ZaP:∀ (fs:List Cm) (f g:Int->Int),sv fs (λx=>f x+g x)=sv fs f+sv fs g
 | [],_,_=>rfl
 | d::fs,f,g=>by
  rw [sv,sv,sv,<- Zaj]
  exact fM λi _=>ZaP fs _ _
theorem sR:∀ {l:Cm} {k:Nat} {q:Int×Int},q∈ce k l->q.1∈bx k l
 | [],_,_,h=>by cases h
 | w::l,k,q,h=>by
  rw [ce] at h
  rw [bx]
  by_cases hw:w > 0
  ·rw [if_pos hw] at h ⊢
   rcases zq.mp h with e | e
   ·subst e; exact z7
   ·exact Mt _ (sR e)
  ·rw [if_neg hw] at h ⊢
   exact sR h
structure LsB (k:Nat) (lo y:Int) (X:List (Int×Int)):Prop where
 len:X.length<=8 ^ k
 row:∀ p∈X,nb (30 * k+1) p.1/\lo<=p.2/\p.2<=y
theorem zf {d:Cm} (hd:d.length<=8):∀ X:List (Int×Int),(cr X d).length<=X.length * 8
 | []=>by simp [cr]
 | p::X=>by
  have ih:=zf hd X
  have:=wO d 0
  rw [Zfi,zB,zo,zn,A7]
  omega
theorem ZcN {k:Nat} {lo y:Int} {X:List (Int×Int)} (h:LsB k lo y X) {d:Cm} (hd:DayOk 8 d):LsB (k+1) (lo - great d) y (cr X d):=by
 refine ⟨zE (zf hd.len X) ?_,λp hp=>?_⟩
 ·rw [Nat.pow_succ]
  exact Bm _ h.len
 ·unfold cr at hp
  obtain ⟨q,hq,hp⟩:=List.mem_flatMap.mp hp
  obtain ⟨z,hz,rfl⟩:=AG.mp hp
  obtain ⟨a,b,c⟩:=h.row q hq
  have z1:=u5 (sR hz)
  have z0:=sQ (sR hz)
  refine ⟨ba (cg a ((hd.B (by decide)).nb _ (wN hz).2.2)) (by omega),?_,?_⟩
  ·show lo - great d<=q.2 - z.1
   omega
  ·show q.2 - z.1<=y
   omega
theorem ZcM:∀ {fs:List Cm} {k:Nat} {lo y:Int} {X:List (Int×Int)},(∀ l∈fs,DayOk 8 l)->LsB k lo y X->LsB (k+fs.length) (lo - reach fs) y (fs.foldl cr X)
 | [],k,lo,y,X,_,h=>by
  have e:lo - reach []=lo:=by show lo - 0=lo; omega
  rw [e]
  exact h
 | d::fs,k,lo,y,X,hf,h=>by
  have:=ZcM (λl hl=>hf l (Mt _ hl)) (ZcN h (hf d (by simp)))
  rw [AA,zn,fo,show k+(fs.length+1)=k+1+fs.length by omega,show lo - (great d+reach fs)=lo - great d - reach fs by omega]
  exact this
theorem lyq {r:Int} {w:Int} (hw:fit w=true):∀ (l:Cm) (k:Nat),(∀ v∈l,fit v=true)->cO (fE (bc (aw (aj 0) (aw (aj 1) bb))) pz o9 [.un,.un,.d (.int w),.d (.int r)]) (enu k l)=.ret ((ce k l).map λq=>cB (w * q.2,r - q.1))
 | [],k,_=>rfl
 | v::l,k,hv=>by
  have ih:=lyq (r:=r) hw l (k+1) λu hu=>hv u (Mt _ hu)
  have g2:=hv v (by simp)
  by_cases h:v > 0
  ·have e:fE (bc (aw (aj 0) (aw (aj 1) bb))) pz o9 [.un,.un,.d (.int w),.d (.int r)] (.tuple [.int k,.int v])=.ret (some (cB (w * v,r - k))):=by
    simp_arith [pz,o9,hw,g2,decide_eq_true h]
    rfl
   rw [enu,cO,e,Tr.ret_bind,ih,Tr.ret_bind,ce,if_pos h]
   rfl
  ·have e:fE (bc (aw (aj 0) (aw (aj 1) bb))) pz o9 [.un,.un,.d (.int w),.d (.int r)] (.tuple [.int k,.int v])=.ret none:=by
    simp_arith [pz,o9,decide_eq_false h]
   rw [enu,cO,e,Tr.ret_bind,ih,Tr.ret_bind,ce,if_neg h]
   rfl
theorem ly1 {d:Cm} (hd:DayOk 8 d) {r w:Int} (hw:nb 200 w) {L:Cl} (hL:L.length<=9000) (S F Y B Fo RW:Sl) :
  xV [S,F,Y,B,Fo,RW,.d (tI d),.own L,.d (.int w),.d (.int r)]=.ret (.next [S,F,Y,B,Fo,RW,.d (tI d),.own (L++(ce 0 d).map λq=>cB (w * q.2,r - q.1)),.d (.int w),.d (.int r)]):=by
 have hdl:=hd.len
 have e0:cG (d.map PyData.int)=enu 0 d:=ir d
 have hs:small (enu 0 d).length=true:=bM (by rw [pT]; omega)
 have hmap:=lyq (r:=r) (aM hw (by decide)) d 0 λv hv=>aM ((hd.B (by decide)).nb v hv) (by decide)
 have hs2:small (L.length+((ce 0 d).map λq=>cB (w * q.2,r - q.1)).length)=true:=bM (by rw [zo]; have:=wO d 0; omega)
 simp_arith [xV,rG,e0,hs,hmap,iq hs2]
theorem ly2 {d:Cm} (hd:DayOk 8 d) {k:Nat} (hk:k<=3) {lo y:Int} {X:List (Int×Int)} (hX:LsB k lo y X) (S F Y B Fo J7 J8 J9:Sl) :
  ∃ K7 K8 K9:Sl,rF [S,F,Y,B,Fo,.d (.list (X.map cB)),.d (tI d),J7,J8,J9]=.ret (.next [S,F,Y,B,Fo,.d (.list ((cr X d).map cB)),.d (tI d),K7,K8,K9]):=by
 have hXl:X.length<=512:=zE hX.len (zE (Bl (by decide) hk) (by decide))
 suffices hh:Al (rF [S,F,Y,B,Fo,.d (.list (X.map cB)),.d (tI d),J7,J8,J9]) 0 λo=>∃ K7 K8 K9:Sl,o=.next [S,F,Y,B,Fo,.d (.list ((cr X d).map cB)),.d (tI d),K7,K8,K9] by
  obtain ⟨o,e,K7,K8,K9,rfl⟩:=Ze4 hh
  exact ⟨K7,K8,K9,e⟩
 simp_arith [rF]
 refine dZ (n:=0) (n':=0) (P:=λo=>∃ J8 J9:Sl,o=.next [S,F,Y,B,Fo,.d (.list (X.map cB)),.d (tI d),.own ((cr X d).map cB),J8,J9]) ?_ (by decide) ?_
 ·refine r8 (n:=0) (λpre ρ=>∃ J8 J9:Sl,ρ=[S,F,Y,B,Fo,.d (.list (X.map cB)),.d (tI d),.own ((cr (X.take pre.length) d).map cB),J8,J9]) ⟨J8,J9,?_⟩ (by simp) ?_ ?_
  ·simp [cr]
  ·rintro pre x post ρ e ⟨K8,K9,rfl⟩
   have hx:(X.map cB)[pre.length]?=some x:=by rw [e]; simp
   rw [zH] at hx
   obtain ⟨p,hp,rfl⟩:=Option.map_eq_some_iff.mp hx
   obtain ⟨q1,q2,q3⟩:=hX.row p (Bn hp)
   have hl:=zf hd.len (X.take pre.length)
   have hl2:(X.take pre.length).length<=512:=by rw [AW]; omega
   have hl3:(cr (X.take pre.length) d).length<=4096:=zE hl (zE (Bm 8 hl2) (by decide))
   have el:(pre++[cB p]).length=pre.length+1:=by simp
   have eS:cr (X.take (pre.length+1)) d=cr (X.take pre.length) d++(ce 0 d).map λq=>(p.1 * q.2,p.2 - q.1):=by
    rw [BN,hp]
    unfold cr
    simp [List.flatMap_append]
   rw [el,eS,Am,Ah]
   exact ⟨_,rfl,Ze3 (ly1 hd (r:=p.2) (w:=p.1) (ba q1 (by omega)) (by rw [zo]; omega) _ _ _ _ _ _) ⟨_,rfl,_,_,rfl⟩⟩
  ·rintro ρ ⟨K8,K9,rfl⟩
   exact ⟨K8,K9,by rw [zo,BB]⟩
 ·rintro _ ⟨K8,K9,rfl⟩
  simp_arith [Ac]
  exact cH ⟨_,_,_,rfl⟩
end My
set_option Elab.async false
set_option linter.all false
set_option maxRecDepth 100000
set_option exponentiation.threshold 9000
namespace My
open L2 Tw Bar
noncomputable def fy (s:Shp) (b:Bool) (r:Int):Int:=rst s r+s.fin r * (if b=true then 1 else 0)
theorem ly3 {s:Shp} (h:s.Ok) (b:Bool) {k:Nat} (hk:k<=4) (F Y RW L6 L7:Sl):∀ (X:List (Int×Int)) (c:Int) (J8 J9:Sl),(∀ p∈X,nb (30 * k+1) p.1/\-s.depth<=p.2/\p.2<=s.top)->∃ K8 K9:Sl,bJ (bc (aw (aj 8) (aw (aj 9) bb))) uT (X.map cB) [.d s.d,F,Y,.d (.bool b),.d (.int c),RW,L6,L7,J8,J9]=.ret (.next [.d s.d,F,Y,.d (.bool b),.d (.int (c+tot (fy s b) X)),RW,L6,L7,K8,K9])
 | [],c,J8,J9,_=>⟨J8,J9,by
  have e:c+tot (fy s b) []=c:=by show c+0=c; omega
  rw [e]
  rfl⟩
 | p::X,c,J8,J9,hX=>by
  have t0:=h.t0; have d0:=h.d0; have td:=h.td
  obtain ⟨n1,p1,p2⟩:=hX p (by simp)
  obtain ⟨K8,K9,e⟩:=ly3 h b hk F Y RW L6 L7 X (c+p.1 * fy s b p.2) (.d (.int p.1)) (.d (.int p.2)) λq hq=>hX q (Mt _ hq)
  refine ⟨K8,K9,?_⟩
  have np:nb 20 p.2:=bv (by show -1048576 < _; omega) (by show _ < 1048576; omega)
  have e1:=Zj5 h np
  have e2:=Zj8 h p1 p2
  have nf:=u9 h np
  have g1:=aM n1 (by omega)
  have g2:=aM nf (by decide)
  have n01:nb 2 (if b=true then (1:Int) else 0):=by cases b <;> exact bv (by decide) (by decide)
  have g3:=aM n01 (by decide)
  have g4:=aM (dJ (Zbg h np) (cg nf n01)) (by decide)
  have et:uT [.d s.d,F,Y,.d (.bool b),.d (.int c),RW,L6,L7,.d (.int p.1),.d (.int p.2)]=.ret (.next [.d s.d,F,Y,.d (.bool b),.d (.int (c+p.1 * fy s b p.2)),RW,L6,L7,.d (.int p.1),.d (.int p.2)]):=by
   simp_arith [uT,e1,e2,g1,g2,g3,g4,fy]
  have eg:(bc (aw (aj 8) (aw (aj 9) bb))) (cB p) [.d s.d,F,Y,.d (.bool b),.d (.int c),RW,L6,L7,J8,J9]=some [.d s.d,F,Y,.d (.bool b),.d (.int c),RW,L6,L7,.d (.int p.1),.d (.int p.2)]:=rfl
  have et2:c+p.1 * fy s b p.2+tot (fy s b) X=c+tot (fy s b) (p::X):=by
   unfold tot
   rw [zm,zT,A2]
  rw [zm,cP,eg,Tr.of_some,Tr.ret_bind,cC,et,Tr.ret_bind,cm,e,et2]
theorem ly4 (S F Y B Fo:Sl):∀ (fs:List Cm) (k:Nat) (lo y:Int) (X:List (Int×Int)) (J6 J7 J8 J9:Sl),(∀ l∈fs,DayOk 8 l)->k+fs.length<=4->LsB k lo y X->∃ K6 K7 K8 K9:Sl,bJ (aj 6) rF (fs.map tI) [S,F,Y,B,Fo,.d (.list (X.map cB)),J6,J7,J8,J9]=.ret (.next [S,F,Y,B,Fo,.d (.list ((fs.foldl cr X).map cB)),K6,K7,K8,K9])
 | [],k,lo,y,X,J6,J7,J8,J9,_,_,_=>⟨J6,J7,J8,J9,rfl⟩
 | d::fs,k,lo,y,X,J6,J7,J8,J9,hf,hk,hX=>by
  rw [zn] at hk
  have hd:=hf d (by simp)
  obtain ⟨L7,L8,L9,e0⟩:=ly2 hd (k:=k) (by omega) hX S F Y B Fo J7 J8 J9
  obtain ⟨K6,K7,K8,K9,e⟩:=ly4 S F Y B Fo fs (k+1) (lo - great d) y (cr X d) (.d (tI d)) L7 L8 L9 (λl hl=>hf l (Mt _ hl)) (by omega) (ZcN hX hd)
  refine ⟨K6,K7,K8,K9,?_⟩
  have eg:aj 6 (tI d) [S,F,Y,B,Fo,.d (.list (X.map cB)),J6,J7,J8,J9]=some [S,F,Y,B,Fo,.d (.list (X.map cB)),.d (tI d),J7,J8,J9]:=rfl
  rw [zm,cP,eg,Tr.of_some,Tr.ret_bind,cC,e0,Tr.ret_bind,cm,e]
  rfl
noncomputable def dL (s:Shp) (b:Bool) (fs:List Cm) (y:Int):Int:=sv fs λf=>fy s b (y - f)
theorem ZdJ {s:Shp} (h:s.Ok) {fs:List Cm} (hf:∀ l∈fs,DayOk 8 l) (hl:fs.length<=4) {y:Int} (y1:-s.depth<=y - reach fs) (y2:y<=s.top) (b:Bool):rz [.d s.d,.d (fD fs),.d (.int y),.d (.bool b)]=.ret (.d (.int (dL s b fs y))):=by
 have h0:LsB 0 y y [(1,y)]:=⟨by simp,λp hp=>by
  rw [AF] at hp
  subst hp
  exact ⟨(show (1:Int).natAbs < 2 ^ (30 * 0+1) by decide),zU y,zU y⟩⟩
 obtain ⟨K6,K7,K8,K9,e1⟩:=ly4 (.d s.d) (.d (fD fs)) (.d (.int y)) (.d (.bool b)) (.d (.int 0)) fs 0 y y [(1,y)] .un .un .un .un hf (by omega) h0
 have hX:=ZcM hf h0
 rw [Nat.zero_add] at hX
 obtain ⟨J8,J9,e2⟩:=ly3 h b hl (.d (fD fs)) (.d (.int y)) (.d (.list ((fs.foldl cr [(1,y)]).map cB))) K6 K7 (fs.foldl cr [(1,y)]) 0 K8 K9 λp hp=>by
  obtain ⟨a,b,c⟩:=hX.row p hp
  exact ⟨a,by omega,by omega⟩
 have et:tot (fy s b) (fs.foldl cr [(1,y)])=dL s b fs y:=by
  rw [sK _ _ _ λl hm w hw=>((hf l hm).le w hw).1]
  show 1 * (sv fs λf=>fy s b (y - f))+0=_
  rw [Bs,Aq]
  rfl
 rw [et,AT] at e2
 have hx:PyData.list [.tuple [.int 1,.int y]]=.list ([((1:Int),y)].map cB):=rfl
 have hf1:(([((1:Int),y)]:List (Int×Int)).map cB)=[.tuple [.int 1,.int y]]:=rfl
 rw [hf1] at e1
 simp_arith [rz,rH,e1,e2]
theorem xF {s:Shp} (h:s.Ok) (b:Bool):∀ {fs:List Cm} {y:Int},FOk fs->-500<=y - 16 * fs.length->y<=500->nb (110+60 * fs.length) (dL s b fs y)
 | [],y,_,y1,y2=>by
  have ny:nb 20 (y - 0):=bv (by show -1048576 < _; rw [zS] at y1; omega) (by show _ < 1048576; omega)
  have n01:nb 2 (if b=true then (1:Int) else 0):=by cases b <;> exact bv (by decide) (by decide)
  exact ba (dJ (Zbg h ny) (cg (u9 h ny) n01)) (by rw [zS]; decide)
 | d::fs,y,hf,y1,y2=>by
  have hd:=(hf.b d (by simp)).1
  have hdl:=hd.len
  rw [zn] at y1 ⊢
  have e:dL s b (d::fs) y=ws (λi=>dL s b fs (y - i)) 0 d:=fM λi _=>gQ λj _=>by rw [Int.sub_sub]
  rw [e]
  exact ba (gM (a:=30) (b:=110+60 * fs.length) hd.nb λx x1 x2=>xF h b hf.tl (by omega) (by omega)) (by omega)
theorem ZcG {s:Shp} (fs:List Cm) (y:Int):dL s false fs y=sv fs λf=>rst s (y - f):=gQ λf _=>by
 show rst s (y - f)+s.fin (y - f) * (if false=true then 1 else 0)=_
 rw [if_neg (by decide),AI,Aq]
theorem ZiE {s:Shp} (fs:List Cm) (y:Int):dL s true fs y=(sv fs λf=>rst s (y - f))+sv fs λf=>s.fin (y - f):=by
 rw [<- ZaP]
 exact gQ λf _=>by
  show rst s (y - f)+s.fin (y - f) * (if true=true then 1 else 0)=_
  rw [if_pos rfl,Be]
theorem Zac {s:Shp} {fs:List Cm} (hf:FOk fs) {y:Int} (y1:-s.depth<=y - reach fs):ws (λf=>s.day y f) 0 (cT fs)=sv fs λf=>rst s (y - f):=by
 rw [we _ hf.L]
 exact Zge hf λx x1 x2=>Zkq (by omega)
noncomputable def own (s:Shp) (d t:Nat) (fs:List Cm) (F:Int->Int) (y:Int):Int :=
 dL s (decide (t+d+1=fs.length)) ((fs.drop t).take (d+1)) y * prd (fs.drop (t+d+1))+(if t+d+1=fs.length then 0 else ws (λx=>F (y - x)) 0 ((fs.drop t).headD []))
theorem ZhY {s:Shp} {fs:List Cm} (hf:FOk fs) {d t:Nat} (ht:t+d < fs.length) {y:Int} (y1:-s.depth<=y - reach ((fs.drop t).take (d+1))):prd (fs.drop t) * s.piece * y+own s d t fs (aF s d (fs.drop (t+1))) y=csm s d (fs.drop t) (aF s d (fs.drop (t+1))) y:=by
 obtain ⟨day,hD⟩:=vg (show t < fs.length by omega)
 have hF:=hf.drop t
 have e1:=Zac (hF.take (d+1)) y1
 have ed:(fs.drop t).drop (d+1)=fs.drop (t+d+1):=by rw [List.drop_drop]; congr 1
 unfold own csm
 rw [e1,ed]
 by_cases hl:t+d+1=fs.length
 ·rw [decide_eq_true hl,if_pos hl,ZiE,hl,Bi]
  have ht2:(fs.drop t).take (d+1)=fs.drop t:=AC (by rw [Aw]; omega)
  rw [ht2]
  have ea:aF s d (fs.drop (t+1))=eZ s (fs.drop (t+1)):=Zfd (by rw [Aw]; omega)
  have ee:ws (λx=>aF s d (fs.drop (t+1)) (y - x)) 0 ((fs.drop t).headD [])=sv (fs.drop t) λf=>s.fin (y - f):=by
   rw [ea,hD]
   show ws (λx=>eZ s (fs.drop (t+1)) (y - x)) 0 day=ws (λi=>sv (fs.drop (t+1)) λj=>s.fin (y - (i+j))) 0 day
   refine fM λi _=>?_
   unfold eZ
   rw [we _ (hf.drop (t+1)).L]
   exact gQ λj _=>by rw [Int.sub_sub]
  rw [ee]
  show _+(_ * 1+0)=_+1 * _+_
  rw [Be,Bs]
  omega
 ·rw [decide_eq_false hl,if_neg hl,ZcG,BE (sv _ _)]
  omega
end My
set_option Elab.async false
set_option linter.all false
set_option maxRecDepth 100000
set_option exponentiation.threshold 9000
namespace My
open L2 Tw Bar
noncomputable def cx (lo:Int) (n:Nat) (f:Int->PyData):PyData:=dD ((ap lo n).map λx=>(x,f x))
theorem vo {f:Int->PyData}:∀ {n:Nat} {lo x:Int},lo<=x->x < lo+n->aK dc (cx lo n f) (.int x)=.ret (f x)
 | 0,lo,x,h1,h2=>absurd h2 (by omega)
 | n+1,lo,x,h1,h2=>by
  unfold aK cx dD
  rw [eJ,zm,zm,dc]
  by_cases e:lo=x
  ·subst e
   rw [List.find?_cons_of_pos (by simp)]
   rfl
  ·rw [List.find?_cons_of_neg (by simp [e])]
   have ih:=vo (f:=f) (n:=n) (lo:=lo+1) (x:=x) (by omega) (by omega)
   unfold aK cx dD at ih
   rw [dc] at ih
   exact ih
theorem Zk7 (fs:List Cm) {t d:Nat} (h:t+d+1<=fs.length):dH (fD fs) (some (t:Int)) (some ((t:Int)+d+1))=.ret (fD ((fs.drop t).take (d+1))):=by
 unfold fD
 show Tr.ret (PyData.tuple (L2.dB (fs.map tI) (some (t:Int)) (some ((t:Int)+d+1))))=_
 have e:(t:Int)+d+1=((t+d+1:Nat):Int):=by omega
 unfold L2.dB
 rw [e,HT.oW,HT.oW,zo,Bp (show t<=fs.length by omega),Bp h,show t+d+1 - t=d+1 by omega,B8,List.map_drop]
theorem Zjg {fs:List Cm} {t:Nat} {day:Cm} {rest:List Cm} (h:fs.drop t=day::rest):aK aR (fD fs) (.int t)=.ret (tI day):=by
 unfold fD
 have hg:fs[t]?=some day:=by
  have:=List.getElem?_drop (xs:=fs) (i:=t) (j:=0)
  rw [h] at this
  rw [Nat.add_zero] at this
  exact this.symm
 rw [cV,pY (v:=tI day) (BJ t) (by rw [As,zH,hg]; rfl)]
 rfl
noncomputable abbrev bn (s:Shp) (fs:List Cm) (d t:Nat) (lo:Int) (A:PyData) (l7 l8 l9 l10 l11 l12 l13 l14:Sl) (b:Bool):Cr:=[.d s.d,.d (fD fs),.d (.int d),.d (.int t),.d (.int lo),.d A,.d (.bool b),l7,l8,l9,l10,l11,l12,l13,l14]
theorem xH {s:Shp} {fs:List Cm} {d t:Nat} {lo y:Int} {lo':Int} {n':Nat} {F G:Int->Int} {b:Nat} (hF:∀ x,lo'<=x->x < lo'+n'->nb b (F x)) (hb:b<=7000) (y2:y < lo'+n') (l7 l12 l13 l14:Sl):∀ (l:Cm) (k:Nat) (c:Int) (J10 J11:Sl),(∀ w∈l,0<=w/\nb 30 w)->(∀ x∈bx k l,lo'<=y - x)->∃ K10 K11:Sl,bJ (bc (aw (aj 10) (aw (aj 11) bb))) gt (enu k l) (bn s fs d t lo (cx lo' n' λx=>.tuple [.int (F x),.int (G x)]) l7 (.d (.int y)) (.d (.int c)) J10 J11 l12 l13 l14 false)=.ret (.next (bn s fs d t lo (cx lo' n' λx=>.tuple [.int (F x),.int (G x)]) l7 (.d (.int y)) (.d (.int (c+ws (λx=>F (y - x)) k l))) K10 K11 l12 l13 l14 false))
 | [],k,c,J10,J11,_,_=>⟨J10,J11,by rw [enu,io,ws,Aq]⟩
 | w::l,k,c,J10,J11,hw,hx=>by
  obtain ⟨w0,wn⟩:=hw w (by simp)
  have eg:(bc (aw (aj 10) (aw (aj 11) bb))) (.tuple [.int (k:Int),.int w]) (bn s fs d t lo (cx lo' n' λx=>.tuple [.int (F x),.int (G x)]) l7 (.d (.int y)) (.d (.int c)) J10 J11 l12 l13 l14 false)=some (bn s fs d t lo (cx lo' n' λx=>.tuple [.int (F x),.int (G x)]) l7 (.d (.int y)) (.d (.int c)) (.d (.int k)) (.d (.int w)) l12 l13 l14 false):=rfl
  by_cases h:w > 0
  ·rw [bx,if_pos h] at hx
   have k1:=hx k (by simp)
   have eG:=vo (f:=λx=>.tuple [.int (F x),.int (G x)]) (n:=n') (lo:=lo') (x:=y - k) k1 (by omega)
   have f1:=aM wn (by decide)
   have f2:=aM (hF (y - k) k1 (by omega)) (by omega)
   obtain ⟨K10,K11,e⟩:=xH (s:=s) (fs:=fs) (d:=d) (t:=t) (lo:=lo) (G:=G) hF hb y2 l7 l12 l13 l14 l (k+1) (c+w * F (y - k)) (.d (.int k)) (.d (.int w)) (λv hv=>hw v (Mt _ hv)) λx hm=>hx x (Mt _ hm)
   refine ⟨K10,K11,?_⟩
   have et:gt (bn s fs d t lo (cx lo' n' λx=>.tuple [.int (F x),.int (G x)]) l7 (.d (.int y)) (.d (.int c)) (.d (.int k)) (.d (.int w)) l12 l13 l14 false)=.ret (.next (bn s fs d t lo (cx lo' n' λx=>.tuple [.int (F x),.int (G x)]) l7 (.d (.int y)) (.d (.int (c+w * F (y - k)))) (.d (.int k)) (.d (.int w)) l12 l13 l14 false)):=by
    simp_arith [gt,bn,decide_eq_true h,eG,f1,f2,Bool.not_false]
   rw [enu,cP,eg,Tr.of_some,Tr.ret_bind,cC,et,Tr.ret_bind,cm,e,ws,A2]
  ·rw [bx,if_neg h] at hx
   have w00:w=0:=by omega
   obtain ⟨K10,K11,e⟩:=xH (s:=s) (fs:=fs) (d:=d) (t:=t) (lo:=lo) (G:=G) hF hb y2 l7 l12 l13 l14 l (k+1) c (.d (.int k)) (.d (.int w)) (λv hv=>hw v (Mt _ hv)) hx
   refine ⟨K10,K11,?_⟩
   have et:gt (bn s fs d t lo (cx lo' n' λx=>.tuple [.int (F x),.int (G x)]) l7 (.d (.int y)) (.d (.int c)) (.d (.int k)) (.d (.int w)) l12 l13 l14 false)=.ret (.next (bn s fs d t lo (cx lo' n' λx=>.tuple [.int (F x),.int (G x)]) l7 (.d (.int y)) (.d (.int c)) (.d (.int k)) (.d (.int w)) l12 l13 l14 false)):=by
    simp_arith [gt,bn,decide_eq_false h]
   rw [enu,cP,eg,Tr.of_some,Tr.ret_bind,cC,et,Tr.ret_bind,cm,e,ws,w00,A0,AT]
theorem ZcR {s:Shp} {fs:List Cm} {d t:Nat} {lo:Int} {A:PyData} (l7 l8 l12 l13 l14:Sl) (c:Int):∀ (l:Cm) (k:Nat) (J10 J11:Sl),∃ K10 K11:Sl,bJ (bc (aw (aj 10) (aw (aj 11) bb))) gt (enu k l) (bn s fs d t lo A l7 l8 (.d (.int c)) J10 J11 l12 l13 l14 true)=.ret (.next (bn s fs d t lo A l7 l8 (.d (.int c)) K10 K11 l12 l13 l14 true))
 | [],k,J10,J11=>⟨J10,J11,rfl⟩
 | w::l,k,J10,J11=>by
  have eg:(bc (aw (aj 10) (aw (aj 11) bb))) (.tuple [.int (k:Int),.int w]) (bn s fs d t lo A l7 l8 (.d (.int c)) J10 J11 l12 l13 l14 true)=some (bn s fs d t lo A l7 l8 (.d (.int c)) (.d (.int k)) (.d (.int w)) l12 l13 l14 true):=rfl
  obtain ⟨K10,K11,e⟩:=ZcR (s:=s) (fs:=fs) (d:=d) (t:=t) (lo:=lo) (A:=A) l7 l8 l12 l13 l14 c l (k+1) (.d (.int k)) (.d (.int w))
  refine ⟨K10,K11,?_⟩
  have et:gt (bn s fs d t lo A l7 l8 (.d (.int c)) (.d (.int k)) (.d (.int w)) l12 l13 l14 true)=.ret (.next (bn s fs d t lo A l7 l8 (.d (.int c)) (.d (.int k)) (.d (.int w)) l12 l13 l14 true)):=by
   cases h:decide (w > 0) <;> simp_arith [gt,bn,h,Bz]
  rw [enu,cP,eg,Tr.of_some,Tr.ret_bind,cC,et,Tr.ret_bind,cm,e]
def sE (s:Shp) (d t:Nat) (fs:List Cm) (x:Int) (A:PyData):Prop:=t+d+1 < fs.length->A=cx (lw fs x (t+1)) (nn s fs x (t+1)) λy=>.tuple [.int (aF s d (fs.drop (t+1)) y),.int (aL s d (fs.drop (t+1)) y)]
end My
set_option Elab.async false
set_option linter.all false
set_option maxRecDepth 100000
set_option exponentiation.threshold 9000
namespace My
open L2 Tw Bar
theorem ZjR {k:Nat} {n i:Cc} {ρ:Cr} {x:PyData} {y:Int} {xs:List (Int×PyData)} (hi:i ρ=.ret x) (hk:ρ[k]?=some (.dic xs)) (hn:n ρ=.ret (.int y)) (hs:small (xs.length+1)=true):vM k n i ρ=.ret (.next (ρ.set k (.dic (fq xs y x)))):=by
 unfold vM
 rw [hi,Tr.ret_bind,hk]
 dsimp only
 rw [hn,Tr.ret_bind]
 dsimp only
 rw [if_pos hs]
theorem lr2 {s:Shp} (h:s.Ok) {fs:List Cm} (hf:FOk fs) (h8:∀ l∈fs,DayOk 8 l) {d t:Nat} (d3:d<=3) (ht:t+d < fs.length) {x:Int} (x1:reach fs - s.depth<=x) (x2:x<=s.top) {A:PyData} (hA:sE s d t fs x A) {y:Int} (y1:lw fs x t<=y) (y2:y<=s.top) {acc:Cl} (ha:acc.length<=900) (lo:Int) (l9 l10 l11 l12 l13 l14:Sl) :
  ∃ K9 K10 K11:Sl,rE (bn s fs d t lo A (.own acc) (.d (.int y)) l9 l10 l11 l12 l13 l14 (decide (t+d+1=fs.length)))=.ret (.next (bn s fs d t lo A (.own (acc++[.int (own s d t fs (aF s d (fs.drop (t+1))) y)])) (.d (.int y)) K9 K10 K11 l12 l13 l14 (decide (t+d+1=fs.length)))):=by
 have t0:=h.t0; have d0:=h.d0; have td:=h.td
 have hl:=hf.len
 have l1:=ie hf x1 t
 have l2:=i9 hf x t
 obtain ⟨day,hD⟩:=vg (show t < fs.length by omega)
 have hT:=(hf.drop t).take (d+1)
 have hdm:day∈fs:=Ag (show day∈fs.drop t by rw [hD]; simp)
 have hdd:DayB day:=(hf.b day hdm).1
 have rc:=gf (fs.drop t) (d+1)
 have r0:=fO (fs:=(fs.drop t).drop (d+1)) λl hl=>(hf.b l (Ag (Ag hl))).2
 have rc2:=gf fs t
 have hTl:((fs.drop t).take (d+1)).length<=4:=by rw [AW]; omega
 have yr:-s.depth<=y - reach ((fs.drop t).take (d+1)):=by unfold lw at y1; omega
 have e1:=ZdJ h (fs:=(fs.drop t).take (d+1)) (λl hl=>h8 l (Ag (A4 hl))) hTl yr y2 (decide (t+d+1=fs.length))
 have e2:=rN hf (t+d+1)
 have et:((t+d+1:Nat):Int)=(t:Int)+d+1:=by omega
 rw [et] at e2
 have c1:=Zk7 fs (t:=t) (d:=d) (by omega)
 have c2:=Zjg hD
 have n1:=xF h (decide (t+d+1=fs.length)) hT (y:=y) (by have:=hT.len; omega) (by omega)
 have p2:=c8 (hf.drop (t+d+1)).B
 have q1:=(hf.drop (t+d+1)).len
 have q2:=hT.len
 have f1:=aM n1 (by omega)
 have f2:=aM p2 (by omega)
 have ee:cG (day.map PyData.int)=enu 0 day:=ir day
 have hsm:small (acc.length+1)=true:=bM (by omega)
 by_cases hlast:t+d+1=fs.length
 ·rw [decide_eq_true hlast] at e1 ⊢
  obtain ⟨K10,K11,e3⟩:=ZcR (s:=s) (fs:=fs) (d:=d) (t:=t) (lo:=lo) (A:=A) (.own acc) (.d (.int y)) l12 l13 l14 (dL s true ((fs.drop t).take (d+1)) y * prd (fs.drop (t+d+1))) day 0 l10 l11
  have eo:own s d t fs (aF s d (fs.drop (t+1))) y=dL s true ((fs.drop t).take (d+1)) y * prd (fs.drop (t+d+1)):=by
   unfold own
   rw [decide_eq_true hlast,if_pos hlast,Aq]
  rw [decide_eq_true hlast] at f1
  refine ⟨.d (.int (dL s true ((fs.drop t).take (d+1)) y * prd (fs.drop (t+d+1)))),K10,K11,?_⟩
  rw [eo]
  simp only [bn] at e3 ⊢
  simp_arith [rE,c1,e1,e2,f1,f2,c2,rG,ee,e3,hsm]
 ·rw [decide_eq_false hlast] at e1 ⊢
  rw [hA (by omega)]
  have hr:=hf.drop (t+1)
  have hrl:=hr.len
  have l3:=ie hf x1 (t+1)
  have hw:lw fs x (t+1)=lw fs x t - great day:=by have:=Zbu hD; unfold lw; omega
  obtain ⟨K10,K11,e3⟩:=xH (s:=s) (fs:=fs) (d:=d) (t:=t) (lo:=lo) (y:=y) (lo':=lw fs x (t+1)) (n':=nn s fs x (t+1)) (F:=aF s d (fs.drop (t+1))) (G:=aL s d (fs.drop (t+1))) (b:=1700) (λz z1 z2=>ba (qe h hr z (by omega) (by unfold nn at z2; omega)) (by omega)) (by decide) (by unfold nn; omega) (.own acc) l12 l13 l14 day 0 (dL s false ((fs.drop t).take (d+1)) y * prd (fs.drop (t+d+1))) l10 l11 (λw hw=>⟨hdd.w0 w hw,hdd.nb w hw⟩) λz hz=>by have:=u5 hz; omega
  have eo:own s d t fs (aF s d (fs.drop (t+1))) y=dL s false ((fs.drop t).take (d+1)) y * prd (fs.drop (t+d+1))+ws (λz=>aF s d (fs.drop (t+1)) (y - z)) 0 day:=by
   unfold own
   rw [decide_eq_false hlast,if_neg hlast,hD]
   rfl
  rw [decide_eq_false hlast] at f1
  refine ⟨.d (.int (dL s false ((fs.drop t).take (d+1)) y * prd (fs.drop (t+d+1))+ws (λz=>aF s d (fs.drop (t+1)) (y - z)) 0 day)),K10,K11,?_⟩
  rw [eo]
  simp only [bn] at e3 ⊢
  simp_arith [rE,c1,e1,e2,f1,f2,c2,rG,ee,e3,hsm]
theorem ZcQ {s:Shp} (h:s.Ok) {fs:List Cm} (hf:FOk fs) (h8:∀ l∈fs,DayOk 8 l) {d t:Nat} (d3:d<=3) (ht:t+d < fs.length) {x:Int} (x1:reach fs - s.depth<=x) (x2:x<=s.top) {A:PyData} (hA:sE s d t fs x A) (lo:Int) (l12 l13 l14:Sl) :
  ∀ (n:Nat) (y:Int) (acc:Cl) (J8 J9 J10 J11:Sl),lw fs x t<=y->y+n=s.top+1->acc.length+n<=900->∃ K8 K9 K10 K11:Sl,bJ (aj 8) rE ((ap y n).map PyData.int) (bn s fs d t lo A (.own acc) J8 J9 J10 J11 l12 l13 l14 (decide (t+d+1=fs.length)))=.ret (.next (bn s fs d t lo A (.own (acc++(ap y n).map λz=>.int (own s d t fs (aF s d (fs.drop (t+1))) z))) K8 K9 K10 K11 l12 l13 l14 (decide (t+d+1=fs.length))))
 | 0,y,acc,J8,J9,J10,J11,_,_,_=>⟨J8,J9,J10,J11,by
  show Tr.ret (Ou.next _)=.ret (.next (bn s fs d t lo A (.own (acc++[])) J8 J9 J10 J11 l12 l13 l14 _))
  rw [zN]⟩
 | n+1,y,acc,J8,J9,J10,J11,y1,yn,hc=>by
  obtain ⟨M9,M10,M11,et⟩:=lr2 h hf h8 d3 ht x1 x2 hA (y:=y) y1 (by omega) (acc:=acc) (by omega) lo J9 J10 J11 l12 l13 l14
  obtain ⟨K8,K9,K10,K11,e⟩:=ZcQ h hf h8 d3 ht x1 x2 hA lo l12 l13 l14 n (y+1) (acc++[.int (own s d t fs (aF s d (fs.drop (t+1))) y)]) (.d (.int y)) M9 M10 M11 (by omega) (by omega) (by rw [zB]; show acc.length+1+n<=900; omega)
  refine ⟨K8,K9,K10,K11,?_⟩
  have eg:aj 8 (.int y) (bn s fs d t lo A (.own acc) J8 J9 J10 J11 l12 l13 l14 (decide (t+d+1=fs.length)))=some (bn s fs d t lo A (.own acc) (.d (.int y)) J9 J10 J11 l12 l13 l14 (decide (t+d+1=fs.length))):=rfl
  rw [eJ,zm,cP,eg,Tr.of_some,Tr.ret_bind,cC,et,Tr.ret_bind,cm,e,zm,Ae]
  rfl
theorem lr3 {s:Shp} (h:s.Ok) {fs:List Cm} (hf:FOk fs) {d t:Nat} {lo:Int} (l0:-s.depth<=lo) {A:PyData} {W:Int->Int} {x:Int} (x1:lo<=x) (l9 l10 l11 l12:Sl) (b:Bool) :
  ∀ (n:Nat) (y:Int) (acc:Cl) (J8:Sl),x<=y->y+n=s.top+1->acc.length+n<=900->∃ K8:Sl,bJ (aj 8) uS ((ap y n).map PyData.int) (bn s fs d t lo A (.own ((ap lo (s.top+1 - lo).toNat).map λz=>.int (W z))) J8 l9 l10 l11 l12 (.d (.int x)) (.own acc) b)=.ret (.next (bn s fs d t lo A (.own ((ap lo (s.top+1 - lo).toNat).map λz=>.int (W z))) K8 l9 l10 l11 l12 (.d (.int x)) (.own (acc++(ap y n).map λz=>.tuple [.int (W z+s.ord x z * prd (fs.drop t)),.int z])) b))
 | 0,y,acc,J8,_,_,_=>⟨J8,by
  show Tr.ret (Ou.next _)=.ret (.next (bn s fs d t lo A _ J8 l9 l10 l11 l12 _ (.own (acc++[])) b))
  rw [zN]⟩
 | n+1,y,acc,J8,y1,yn,hc=>by
  have t0:=h.t0; have d0:=h.d0; have td:=h.td
  obtain ⟨K8,e⟩:=lr3 h hf (d:=d) (t:=t) l0 (A:=A) (W:=W) x1 l9 l10 l11 l12 b n (y+1) (acc++[.tuple [.int (W y+s.ord x y * prd (fs.drop t)),.int y]]) (.d (.int y)) (by omega) (by omega) (by rw [zB]; show acc.length+1+n<=900; omega)
  refine ⟨K8,?_⟩
  have e1:=Zj6 h (x:=x) (y:=y) y1 (by omega)
  have e2:=rN hf t
  have ny:nb 20 y:=bv (by show -1048576 < _; omega) (by show _ < 1048576; omega)
  have nx:nb 20 x:=bv (by show -1048576 < _; omega) (by show _ < 1048576; omega)
  have on:nb 100 (s.ord x y):=by
   unfold Shp.ord
   exact pC (bv (by decide) (by decide)) (ba (dJ h.start (cg h.piece (fw ny nx))) (by decide))
  have g1:=aM on (by decide)
  have p2:=c8 (hf.drop t).B
  have q1:=(hf.drop t).len
  have g2:=aM p2 (by omega)
  have hat:bp ((ap lo (s.top+1 - lo).toNat).map λz=>PyData.int (W z)) (y - lo)=some (.int (W y)):=by
   refine pY (by omega) ?_
   unfold ap
   rw [Ah,zH,Ai (by omega)]
   show some (PyData.int (W (lo+((y - lo).toNat:Int))))=_
   rw [show lo+((y - lo).toNat:Int)=y by omega]
  have hsm:small (acc.length+1)=true:=bM (by omega)
  have et:uS (bn s fs d t lo A (.own ((ap lo (s.top+1 - lo).toNat).map λz=>.int (W z))) (.d (.int y)) l9 l10 l11 l12 (.d (.int x)) (.own acc) b)=.ret (.next (bn s fs d t lo A (.own ((ap lo (s.top+1 - lo).toNat).map λz=>.int (W z))) (.d (.int y)) l9 l10 l11 l12 (.d (.int x)) (.own (acc++[.tuple [.int (W y+s.ord x y * prd (fs.drop t)),.int y]])) b)):=by
   simp_arith [uS,bn,hat,e1,e2,g1,g2,hsm]
  have eg:aj 8 (.int y) (bn s fs d t lo A (.own ((ap lo (s.top+1 - lo).toNat).map λz=>.int (W z))) J8 l9 l10 l11 l12 (.d (.int x)) (.own acc) b)=some (bn s fs d t lo A (.own ((ap lo (s.top+1 - lo).toNat).map λz=>.int (W z))) (.d (.int y)) l9 l10 l11 l12 (.d (.int x)) (.own acc) b):=rfl
  rw [eJ,zm,cP,eg,Tr.of_some,Tr.ret_bind,cC,et,Tr.ret_bind,cm,e,zm,Ae]
  rfl
theorem Ziv {s:Shp} {W:Int->Int} {B x:Int} (hx:x<=s.top) (hK:0<=B * s.start):bw re [.list ((ap x (s.top+1 - x).toNat).map λz=>.tuple [.int (W z+s.ord x z * B),.int z])]=.ret (cy (λy=>B * s.piece * y+W y) s.top (B * s.start) (B * s.piece) x):=by
 have el:((ap x (s.top+1 - x).toNat).map λz=>PyData.tuple [.int (W z+s.ord x z * B),.int z])=((rng x (s.top+1)).map λy=>(s.ord x y * B+W y,y)).map λp=>PyData.tuple ((pr p).map PyData.int):=by
  unfold rng
  rw [Ah]
  refine Az λz _=>?_
  show PyData.tuple [.int (W z+s.ord x z * B),.int z]=.tuple [.int (s.ord x z * B+W z),.int z]
  rw [Int.add_comm]
 have hne:((rng x (s.top+1)).map λy=>(s.ord x y * B+W y,y))≠[]:=by
  intro z
  have:=congrArg List.length z
  rw [zo,eT,zS] at this
  omega
 have ht:tups? (((rng x (s.top+1)).map λy=>(s.ord x y * B+W y,y)).map λp=>PyData.tuple ((pr p).map PyData.int))=some (((rng x (s.top+1)).map λy=>(s.ord x y * B+W y,y)).map pr):=by
  have:=tups?_map (((rng x (s.top+1)).map λy=>(s.ord x y * B+W y,y)).map pr)
  rw [Ah] at this
  exact this
 have hb:=ZlS (s:=s) (W:=W) (B:=B) (x:=x) hx hK
 rw [el]
 unfold bw re
 simp only [ht]
 generalize ((rng x (s.top+1)).map λy=>(s.ord x y * B+W y,y))=L at hne hb ⊢
 cases L with
 | nil=>exact absurd rfl hne
 | cons p l =>
  show Tr.of (some (PyData.tuple ((dX ((p::l).map pr)).map PyData.int)))=_
  rw [hb]
  rfl
theorem Zhh {kvs:List (Int×PyData)} {x:Int} {v:PyData} (h:∀ p∈kvs,p.1 < x):fq kvs x v=kvs++[(x,v)]:=by
 unfold fq
 rw [if_neg]
 intro z
 obtain ⟨p,hp,e⟩:=List.any_eq_true.mp z
 have:=h p hp
 have:=of_decide_eq_true e
 omega
end My
set_option Elab.async false
set_option linter.all false
set_option maxRecDepth 100000
set_option exponentiation.threshold 9000
namespace My
open L2 Tw Bar
theorem lr4 {s:Shp} (h:s.Ok) {fs:List Cm} (hf:FOk fs) {d t:Nat} {lo:Int} (l0:-s.depth<=lo) {A:PyData} {W:Int->Int} {x:Int} (x1:lo<=x) (x2:x<=s.top) {kvs:List (Int×PyData)} (hk:∀ p∈kvs,p.1 < x) (hkl:kvs.length<=900) (l8 l9 l10 l11 l14:Sl) (b:Bool) :
  ∃ K8 K14:Sl,uR (bn s fs d t lo A (.own ((ap lo (s.top+1 - lo).toNat).map λz=>.int (W z))) l8 l9 l10 l11 (.dic kvs) (.d (.int x)) l14 b)=.ret (.next (bn s fs d t lo A (.own ((ap lo (s.top+1 - lo).toNat).map λz=>.int (W z))) K8 l9 l10 l11 (.dic (kvs++[(x,cy (λy=>prd (fs.drop t) * s.piece * y+W y) s.top (prd (fs.drop t) * s.start) (prd (fs.drop t) * s.piece) x)])) (.d (.int x)) K14 b)):=by
 have t0:=h.t0; have d0:=h.d0; have td:=h.td
 have p0:=g8 (hf.drop t).B
 obtain ⟨K8,e3⟩:=lr3 h hf (d:=d) (t:=t) l0 (A:=A) (W:=W) x1 l9 l10 l11 (.dic kvs) b (s.top+1 - x).toNat x [] l8 (zU x) (by omega) (by rw [zS]; omega)
 rw [At] at e3
 have r1:gY [.int x,.int (s.top+1)]=.ret ((ap x (s.top+1 - x).toNat).map PyData.int):=pS (cK (by omega) (by omega)) (cK (by omega) (by omega))
 have em:=Ziv (s:=s) (W:=W) (B:=prd (fs.drop t)) x2 (Bg (Int.le_of_lt p0) h.start0)
 have hsm:small (kvs.length+1)=true:=bM (by omega)
 refine ⟨K8,.d (.list ((ap x (s.top+1 - x).toNat).map λz=>.tuple [.int (W z+s.ord x z * prd (fs.drop t)),.int z])),?_⟩
 simp only [bn] at e3 ⊢
 simp_arith [uR,r1,e3]
 rw [ZjR (xs:=kvs) (y:=x) (x:=cy (λy=>prd (fs.drop t) * s.piece * y+W y) s.top (prd (fs.drop t) * s.start) (prd (fs.drop t) * s.piece) x) (by simp_arith [em]) rfl rfl hsm,Zhh hk]
 rfl
theorem ZcO {s:Shp} (h:s.Ok) {fs:List Cm} (hf:FOk fs) {d t:Nat} {lo:Int} (l0:-s.depth<=lo) {A:PyData} {W:Int->Int} (l9 l10 l11:Sl) (b:Bool) :
  ∀ (n:Nat) (x:Int) (kvs:List (Int×PyData)) (J8 J13 J14:Sl),lo<=x->x+n=s.top+1->(∀ p∈kvs,p.1 < x)->kvs.length+n<=900->∃ K8 K13 K14:Sl,bJ (aj 13) uR ((ap x n).map PyData.int) (bn s fs d t lo A (.own ((ap lo (s.top+1 - lo).toNat).map λz=>.int (W z))) J8 l9 l10 l11 (.dic kvs) J13 J14 b)=.ret (.next (bn s fs d t lo A (.own ((ap lo (s.top+1 - lo).toNat).map λz=>.int (W z))) K8 l9 l10 l11 (.dic (kvs++(ap x n).map λz=>(z,cy (λy=>prd (fs.drop t) * s.piece * y+W y) s.top (prd (fs.drop t) * s.start) (prd (fs.drop t) * s.piece) z))) K13 K14 b))
 | 0,x,kvs,J8,J13,J14,_,_,_,_=>⟨J8,J13,J14,by
  show Tr.ret (Ou.next _)=.ret (.next (bn s fs d t lo A _ J8 l9 l10 l11 (.dic (kvs++[])) J13 J14 b))
  rw [zN]⟩
 | n+1,x,kvs,J8,J13,J14,x1,xn,hk,hc=>by
  obtain ⟨M8,M14,et⟩:=lr4 h hf (d:=d) (t:=t) l0 (A:=A) (W:=W) x1 (by omega) hk (by omega) J8 l9 l10 l11 J14 b
  obtain ⟨K8,K13,K14,e⟩:=ZcO h hf (d:=d) (t:=t) l0 (A:=A) (W:=W) l9 l10 l11 b n (x+1) (kvs++[(x,cy (λy=>prd (fs.drop t) * s.piece * y+W y) s.top (prd (fs.drop t) * s.start) (prd (fs.drop t) * s.piece) x)]) M8 (.d (.int x)) M14 (by omega) (by omega) (λp hp=>by
   rcases Au.mp hp with q | q
   ·have:=hk p q; omega
   ·rw [AF] at q; subst q; show x < x+1; omega) (by rw [zB]; show kvs.length+1+n<=900; omega)
  refine ⟨K8,K13,K14,?_⟩
  have eg:aj 13 (.int x) (bn s fs d t lo A (.own ((ap lo (s.top+1 - lo).toNat).map λz=>.int (W z))) J8 l9 l10 l11 (.dic kvs) J13 J14 b)=some (bn s fs d t lo A (.own ((ap lo (s.top+1 - lo).toNat).map λz=>.int (W z))) J8 l9 l10 l11 (.dic kvs) (.d (.int x)) J14 b):=rfl
  rw [eJ,zm,cP,eg,Tr.of_some,Tr.ret_bind,cC,et,Tr.ret_bind,cm,e,zm,Ae]
  rfl
noncomputable def cl (s:Shp) (d:Nat) (fs:List Cm) (y:Int):PyData:=.tuple [.int (aF s d fs y),.int (aL s d fs y)]
theorem ZjO {k:Nat} {ρ:Cr}:yV k ρ=.ret (.next (ρ.set k (.dic []))):=rfl
theorem Zj4 {s:Shp} (h:s.Ok) {fs:List Cm} (hf:FOk fs) (h8:∀ l∈fs,DayOk 8 l) {d t:Nat} (d3:d<=3) (ht:t+d < fs.length) {x:Int} (x1:reach fs - s.depth<=x) (x2:x<=s.top) {A:PyData} (hA:sE s d t fs x A) :
  uw [.d s.d,.d (fD fs),.d (.int d),.d (.int t),.d (.int (lw fs x t)),.d A]=.ret (.d (cx (lw fs x t) (nn s fs x t) (cl s d (fs.drop t)))):=by
 have t0:=h.t0; have d0:=h.d0; have td:=h.td
 have hl:=hf.len
 have l1:=ie hf x1 t
 have l2:=i9 hf x t
 obtain ⟨day,hD⟩:=vg (show t < fs.length by omega)
 have hln:bw db [fD fs]=.ret (.int fs.length):=by
  unfold fD
  rw [eN,zo]
 have hb:((t:Int)+(d:Int) == (fs.length:Int) - 1)=decide (t+d+1=fs.length):=by
  by_cases e:t+d+1=fs.length
  ·rw [decide_eq_true e]
   exact beq_iff_eq.mpr (by omega)
  ·rw [decide_eq_false e]
   exact beq_eq_false_iff_ne.mpr (by omega)
 have r1:gY [.int (lw fs x t),.int (s.top+1)]=.ret ((ap (lw fs x t) (s.top+1 - lw fs x t).toNat).map PyData.int):=pS (cK (by omega) (by omega)) (cK (by omega) (by omega))
 obtain ⟨K8,K9,K10,K11,e1⟩:=ZcQ h hf h8 d3 ht x1 x2 hA (lw fs x t) .un .un .un (s.top+1 - lw fs x t).toNat (lw fs x t) [] .un .un .un .un (zU _) (by omega) (by rw [zS]; omega)
 obtain ⟨M8,M13,M14,e2⟩:=ZcO h hf (d:=d) (t:=t) l1 (A:=A) (W:=own s d t fs (aF s d (fs.drop (t+1)))) K9 K10 K11 (decide (t+d+1=fs.length)) (s.top+1 - lw fs x t).toNat (lw fs x t) [] K8 .un .un (zU _) (by omega) (λ_ q=>nomatch q) (by rw [zS]; omega)
 rw [At] at e1 e2
 have ex:((ap (lw fs x t) (s.top+1 - lw fs x t).toNat).map λz=>(z,cy (λy=>prd (fs.drop t) * s.piece * y+own s d t fs (aF s d (fs.drop (t+1))) y) s.top (prd (fs.drop t) * s.start) (prd (fs.drop t) * s.piece) z))=(ap (lw fs x t) (nn s fs x t)).map λz=>(z,cl s d (fs.drop t) z):=by
  unfold nn
  refine Az λz hz=>?_
  have hz':=qN hz
  have rc:=gf (fs.drop t) (d+1)
  have r0:=fO (fs:=(fs.drop t).drop (d+1)) λl hl=>(hf.b l (Ag (Ag hl))).2
  have rc2:=gf fs t
  have pe:pck (λy=>prd (fs.drop t) * s.piece * y+own s d t fs (aF s d (fs.drop (t+1))) y) s.top (prd (fs.drop t) * s.start) z=pck (csm s d (fs.drop t) (aF s d (fs.drop (t+1)))) s.top (prd (fs.drop t) * s.start) z:=ZhU (λy y1 y2=>ZhY hf ht (by unfold lw at hz'; omega)) (by omega)
  have ea:aF s d (fs.drop t) z=cst (csm s d (fs.drop t) (aF s d (fs.drop (t+1)))) s.top (prd (fs.drop t) * s.start) (prd (fs.drop t) * s.piece) z:=by
   rw [hD,Zfc (by rw [Aw]; omega)]
  have el:aL s d (fs.drop t) z=lvl (csm s d (fs.drop t) (aF s d (fs.drop (t+1)))) s.top (prd (fs.drop t) * s.start) z:=by
   rw [hD]
   rfl
  unfold cl cy
  rw [ea,el]
  unfold cst lvl
  rw [pe]
 rw [ex] at e2
 have ef:∀ (l7 l8 l9 l10 l11 l13 l14:Sl),vK 12 (dE 12) (bn s fs d t (lw fs x t) A l7 l8 l9 l10 l11 (.dic ((ap (lw fs x t) (nn s fs x t)).map λz=>(z,cl s d (fs.drop t) z))) l13 l14 (decide (t+d+1=fs.length)))=.ret (.ret (.d (cx (lw fs x t) (nn s fs x t) (cl s d (fs.drop t))))):=λ_ _ _ _ _ _ _=>rfl
 simp only [bn] at e1 e2 ef
 simp_arith [uw,hln,hb,r1,e1,ZjO,e2,ef]
end My
set_option Elab.async false
set_option linter.all false
set_option maxRecDepth 100000
set_option exponentiation.threshold 9000
namespace My
open L2 Tw Bar
theorem vp (s:Shp):dH s.d (some 2) none=.ret (.tuple [.int s.start,.int s.piece,.int s.keep,.int s.lack,.int s.lost,.int s.back,.int s.late]):=by unfold Shp.d; rfl
theorem ZcY {s:Shp} (h:s.Ok) {fs:List Cm} (hf:FOk fs) {x:Int} (hx:nb 20 x):∀ t:Nat,nb (760+t) (cj s fs x t)
 | 0=>Ak (by simp)
 | t+1=>by
  obtain ⟨w1,w2⟩:=oK (hf.take (t+1))
  have p2:=c8 (hf.drop (t+1)).B
  have q1:(fs.drop (t+1)).length<=6:=(hf.drop (t+1)).len
  have a2:=cg p2 (gM (k:=0) (f:=λf=>s.day x f) (a:=280) (b:=100) w1 λz x1 x2=>rP h hx (bv (by show -1099511627776 < z; omega) (by show z < 1099511627776; omega)))
  rw [cj]
  exact ba (dJ (ZcY h hf hx t) a2) (by omega)
theorem ZiW {s:Shp} (h:s.Ok) {fs:List Cm} (hf:FOk fs) {d:Nat} (hd:d<=6) {x:Int} (x1:-100<=x) (x2:x<=s.top):nb 1700 (gr s d fs x):=by
 have t0:=h.t0; have d0:=h.d0; have td:=h.td
 have hl:=hf.len
 have hx:nb 20 x:=bv (by show -1048576 < x; omega) (by show x < 1048576; omega)
 have a1:=qe h (d:=d) hf x (by omega) x2
 have a2:=ZcY h hf hx d
 unfold gr
 exact ba (dJ a1 a2) (by omega)
end My
set_option Elab.async false
set_option linter.all false
set_option maxRecDepth 100000
set_option exponentiation.threshold 9000
namespace My
open L2 Tw Bar
theorem Zbl (s:Shp) (d:Nat) (fs:List Cm) (x:Int) (o:Nat):∀ p,cu s d fs x o p=(List.range p).map λi=>eR s d fs x (o - (i+1))
 | 0=>rfl
 | p+1=>by rw [cu,Zbl s d fs x o p,BV,Am]; rfl
end My
set_option Elab.async false
set_option linter.all false
set_option maxRecDepth 100000
set_option exponentiation.threshold 9000
namespace My
open L2 Tw Bar
theorem Zbi {t b:Int} (nt:nb 1900 t) (nB:nb 1900 b) (h0:b≠0):Rp (fj t b) 1 3816:=by
 obtain ⟨l1,l2⟩:=ZiL nt nB h0
 unfold fj
 exact eQ (gX (k:=0) (n:=1901) λx hx=>by
  simp only [zq,Ao,or_false] at hx
  rcases hx with rfl | rfl
  ·exact tX l1
  ·exact tX l2) (zp _) (by show 2 * 1901+2 * 2+10<=3816; decide)
theorem ZgT {t b l:Int} (nt:nb 1900 t) (nB:nb 1900 b) (h0:b≠0) (nl:nb 1900 l):Rp (fX t b l) 2 7646:=by
 unfold fX
 exact eQ (gX (k:=1) (n:=3816) λx hx=>by
  simp only [zq,Ao,or_false] at hx
  rcases hx with rfl | rfl
  ·exact Zbi nt nB h0
  ·exact eQ (tX nl) (by decide) (by decide)) (zp _) (by show 2 * 3816+2 * 2+10<=7646; decide)
theorem ZmB {s:Shp} {d:Nat}:∀ (fs:List Cm) {y:Int},-500<=y->y<=s.top->0<=s.top->s.top<=500->nb 1900 (aL s d fs y)
 | [],y,_,_,_,_=>by show (0:Int).natAbs < 2 ^ 1900; exact Ak (by simp)
 | day::rest,y,y1,y2,t0,t1=>by
  rw [aL]
  obtain ⟨h1,h2,-⟩:=xm (g:=csm s d (day::rest) (aF s d rest)) (K:=prd (day::rest) * s.start) y2
  unfold lvl
  exact ba (k:=20) (bv (by show -1048576 < _; omega) (by show _ < 1048576; omega)) (by decide)
theorem ZgS {s:Shp} (h:s.Ok) {fs:List Cm} (hf:FOk fs) {d:Nat} {x:Int} (x1:reach fs - s.depth<=x) (x2:x<=s.top) (t:Nat):Rp (eR s d fs x t) 3 772458:=by
 have t0:=h.t0; have d0:=h.d0; have td:=h.td
 have l1:=ie hf x1 t
 have l2:=i9 hf x t
 have hF:=hf.drop t
 have hFl:=hF.len
 have p0:=g8 hF.B
 have p1:=ba (c8 hF.B) (show _<=1900 by omega)
 unfold eR
 have hl:((ap (lw fs x t) (nn s fs x t)).map λy=>fX (aF s d (fs.drop t) y) (prd (fs.drop t)) (aL s d (fs.drop t) y)).length<=101:=by rw [zo,eT]; unfold nn; omega
 refine eQ (gX (k:=2) (n:=7646) λv hv=>?_) (zp _) (by omega)
 obtain ⟨y,hy,rfl⟩:=AG.mp hv
 have hy':=qN hy
 have y2:y<=s.top:=by unfold nn at hy'; omega
 exact ZgT (ba (qe h hF y (by omega) y2) (by omega)) p1 (BQ p0) (ZmB _ (by omega) y2 t0 (by omega))
theorem ZgR {s:Shp} (h:s.Ok) {fs:List Cm} (hf:FOk fs) {d:Nat} {x:Int} (x1:reach fs - s.depth<=x) (x2:x<=s.top) (o:Nat) {p:Nat} (hp:p<=6):Rp (.tuple (cu s d fs x o p).reverse) 4 4634770:=by
 have hl:(cu s d fs x o p).reverse.length<=6:=by rw [zQ,tY]; exact hp
 refine eQ (gX (k:=3) (n:=772458) λv hv=>?_) (zp _) (by omega)
 rw [List.mem_reverse,Zbl] at hv
 obtain ⟨i,-,rfl⟩:=AG.mp hv
 exact ZgS h hf x1 x2 _
end My
set_option Elab.async false
set_option linter.all false
set_option maxRecDepth 100000
set_option exponentiation.threshold 9000
namespace My
open L2 Tw Bar
theorem bd (n:Int):cA [.pen,.d (.int n)]=.draw n λr=>.ret (.d (.int r)):=rfl
theorem ZaX:∀ (a:Cm) (k m:Nat),bx k (a++List.replicate m 0)=bx k a
 | [],k,m=>by
  have key:∀ (m k:Nat),bx k (List.replicate m (0:Int))=[]:=by
   intro m
   induction m with
   | zero=>intro k; rfl
   | succ m ih=>intro k; rw [zG,bx,if_neg (by decide),ih]
  exact key m k
 | w::a,k,m=>by
  rw [Ap,bx,bx,ZaX a (k+1) m]
theorem wL:∀ {l:Cm} {k:Nat} {x:Int},x∈bx k l->x < k+l.length
 | [],_,_,h=>by cases h
 | w::l,k,x,h=>by
  rw [zn]
  rw [bx] at h
  split at h
  ·rcases zq.mp h with e | e
   ·omega
   ·have:=wL e; omega
  ·have:=wL h; omega
theorem Zk9 {xs:Cl}:L2.dB xs none (some 8)=xs.take 8:=by
 have e:(8:Int)=((8:Nat):Int):=rfl
 unfold L2.dB
 rw [e,HT.oW,HT.wZ,AJ,Nat.sub_zero]
 rcases Nat.le_total 8 xs.length with h | h
 ·rw [Bp h]
 ·rw [BS h,AC (zp _),AC h]
theorem ZgM {most:Int} (m1:2<=most) (m2:most<=8):Al (uC [.pen,.d (.int most)]) 11 λr=>∃ d,r=.d (tI d)/\DayOk 8 d/\great d<=most - 1:=by
 simp_arith [uC,bd]
 refine cE (n:=10) (by decide) (by decide) (by decide) λi i0 i1=>?_
 obtain ⟨be,hbe,be0,be1⟩:=xl (xs:=[PyData.int 0,.int 0,.int 1,.int 3]) (lo:=0) (hi:=3) (by simp [ji]) i0 i1
 simp_arith [bd,hbe]
 refine cE (n:=9) (by decide) (by decide) (by decide) λj j0 j1=>?_
 obtain ⟨bo,hbo,bo0,bo1⟩:=xl (xs:=[PyData.int 2,.int 4,.int 20,.int 1001]) (lo:=2) (hi:=1001) (by simp [ji]) j0 j1
 simp_arith [bd,hbo]
 refine cE (n:=8) (by omega) (by omega) (by decide) λc c0 c1=>?_
 have rr:eI [.int c]=.ret (aZ 0 c):=ip (cK (by omega) (by omega))
 have hs:small (aZ 0 c).length=true:=bM (by rw [c7]; omega)
 simp_arith [bd,rr,hs]
 refine dZ (n:=7) (n':=1) (yP (n:=1) (P:=ji 0 1000) (Q:=λys=>∃ ps:Cm,ys=ps.map PyData.int/\ps.length=c.toNat/\∀ p∈ps,0<=p/\p<=1000) (by rw [c7]; omega) (λx hx=>?_) λys hl hys=>?_) (by decide) ?_
 ·simp_arith [Zb1,bd]
  refine cE (n:=0) (by omega) (by omega) (by decide) λv v0 v1=>?_
  try simp_arith [bd]
  exact cH ⟨v,rfl,v0,by omega⟩
 ·obtain ⟨ns,e,hn⟩:=yb hys
  refine ⟨ns,e,?_,hn⟩
  rw [e,zo,c7] at hl
  omega
 ·rintro _ ⟨ps,rfl,hl,hb⟩
  try simp_arith [bd]
  refine cE (n:=0) (by omega) (by omega) (by decide) λw w0 w1=>?_
  have hmul:aK bz (.list [.int 0]) (.int be)=.ret (.list ((List.replicate be.toNat (0:Int)).map PyData.int)):=by
   have:be=0\/be=1\/be=2\/be=3:=by omega
   rcases this with rfl | rfl | rfl | rfl <;> rfl
  have e2:aK aQ (.list (ps.map PyData.int)) (.list [.int (1+w)])=.ret (.list (ps.map PyData.int++[.int (1+w)])):=gA (bM (by rw [zo]; show ps.length+1<=_; omega))
  have e3:aK aQ (.list (ps.map PyData.int++[.int (1+w)])) (.list ((List.replicate be.toNat (0:Int)).map PyData.int))=.ret (.list (ps.map PyData.int++[.int (1+w)]++(List.replicate be.toNat (0:Int)).map PyData.int)):=gA (bM (by rw [zB,zo,zo,AZ]; show ps.length+1+_<=_; omega))
  have e4:(ps.map PyData.int++[PyData.int (1+w)]++(List.replicate be.toNat (0:Int)).map PyData.int).take 8=(ps++[1+w]++List.replicate (min (8 - (ps.length+1)) be.toNat) 0).map PyData.int:=by
   have e5:ps.map PyData.int++[PyData.int (1+w)]++(List.replicate be.toNat (0:Int)).map PyData.int=(ps++[1+w]++List.replicate be.toNat 0).map PyData.int:=by rw [Am,Am]; rfl
   rw [e5,<- B8,List.take_append,AC (by simp; omega),zB,List.take_replicate]
   rfl
  simp_arith [bd,hmul,e2,e3,Zk9,e4]
  refine cH ⟨ps++[1+w]++List.replicate (min (8 - (ps.length+1)) be.toNat) 0,rfl,?_,?_⟩
  ·refine ⟨by simp; omega,⟨1+w,by simp,by omega⟩,λn hn=>?_⟩
   simp only [Au,AF,List.mem_replicate] at hn
   rcases hn with (hn | rfl) | ⟨-,rfl⟩
   ·have:=hb n hn; omega
   ·omega
   ·omega
  ·have hne:=sP (k:=0) (ns:=ps++[1+w]++List.replicate (min (8 - (ps.length+1)) be.toNat) 0) ⟨1+w,by simp,by omega⟩
   have hm:=(rf hne).1
   have hg:great (ps++[1+w]++List.replicate (min (8 - (ps.length+1)) be.toNat) 0)∈bx 0 (ps++[1+w]++List.replicate (min (8 - (ps.length+1)) be.toNat) 0):=hm
   rw [ZaX (ps++[1+w]) 0] at hg
   have hlt:=wL hg
   rw [zB] at hlt
   have hlt:great (ps++[1+w]++List.replicate (min (8 - (ps.length+1)) be.toNat) 0) < ((0:Nat):Int)+((ps.length+1:Nat):Int):=hlt
   omega
theorem Zbb:Al (uy [.pen]) 10 λr=>∃ ps:Cm,r=.d (tI ps)/\ps.length=7/\∀ p∈ps,0<=p/\p<=1000000:=by
 have pw:aK ug (.int 10) (.int 6)=.ret (.int 1000000):=rfl
 have pa:(1000000:Int)+1=1000001:=rfl
 simp_arith [uy,bd,pw,pa]
 refine cE (n:=9) (by decide) (by decide) (by decide) λi i0 i1=>?_
 obtain ⟨bo,hbo,bo0,bo1⟩:=xl (xs:=[PyData.int 3,.int 10,.int 60,.int 1000001]) (lo:=3) (hi:=1000001) (by simp [ji]) i0 i1
 have r7:eI [.int 7]=.ret (aZ 0 7):=ip (cK (by decide) (by decide))
 have hs:small (aZ 0 7).length=true:=bM (by rw [c7]; decide)
 simp_arith [bd,hbo,r7,hs]
 refine dZ (n:=7) (n':=2) (yP (n:=1) (P:=ji 0 1000000) (Q:=λys=>∃ ps:Cm,ys=ps.map PyData.int/\ps.length=7/\∀ p∈ps,0<=p/\p<=1000000) (by rw [c7]; decide) (λx hx=>?_) λys hl hys=>?_) (by decide) ?_
 ·simp_arith [Zb0,bd]
  refine cE (n:=0) (by omega) (by omega) (by decide) λv v0 v1=>?_
  try simp_arith [bd]
  exact cH ⟨v,rfl,v0,by omega⟩
 ·obtain ⟨ns,e,hn⟩:=yb hys
  refine ⟨ns,e,?_,hn⟩
  rw [e,zo,c7] at hl
  exact hl
 ·rintro _ ⟨ps,rfl,hl,hb⟩
  obtain ⟨p2,p3,p4,p5,p6,p7,p8,rfl⟩:=xK hl
  have hp5:=hb p5 (by simp)
  have b2:=hb p2 (by simp)
  have b3:=hb p3 (by simp)
  have b4:=hb p4 (by simp)
  have b6:=hb p6 (by simp)
  have b7:=hb p7 (by simp)
  have b8:=hb p8 (by simp)
  have f5:fit p5=true:=aM (k:=40) (bv (by show -1099511627776 < _; omega) (by show _ < 1099511627776; omega)) (by decide)
  have f53:fit (p5 * 3)=true:=aM (k:=40) (bv (by show -1099511627776 < _; omega) (by show _ < 1099511627776; omega)) (by decide)
  have i0:∀ a b c d e f g:PyData,L2.dA [a,b,c,d,e,f,g].length 0=some 0:=λ_ _ _ _ _ _ _=>rfl
  have i3:∀ a b c d e f g:PyData,L2.dA [a,b,c,d,e,f,g].length 3=some 3:=λ_ _ _ _ _ _ _=>rfl
  have hmod:aK hZ (.int (p5 * 3)) (.int 1000001)=.ret (.int (p5 * 3 % 1000001)):=by rw [yt (by decide),Bu _ (by decide)]
  have m0:=Ba (p5 * 3) (show (1000001:Int)≠0 by decide)
  have m1:=AX (p5 * 3) (show (0:Int) < 1000001 by decide)
  have f3:fit (3:Int)=true:=aM (k:=40) (bv (by show -1099511627776 < (3:Int); omega) (by show (3:Int) < 1099511627776; omega)) (by decide)
  try simp_arith [bd]
  refine cE (n:=1) (by decide) (by decide) (by decide) λa a0 a1=>?_
  cases ha:(a == 0)
  ·simp_arith [bd,ha]
   refine cE (n:=0) (by decide) (by decide) (by decide) λc c0 c1=>?_
   cases hc:(c == 0)
   ·simp_arith [bd,hc]
    exact cH ⟨[p2,p3,p4,p5,p6,p7,p8],rfl,rfl,λp hp=>by have:=hb p hp; omega⟩
   ·simp_arith [bd,hc,f5,f3,hmod,yq (i3 _ _ _ _ _ _ _)]
    exact cH ⟨[p2,p3,p4,p5 * 3 % 1000001,p6,p7,p8],rfl,rfl,λp hp=>by
     clear hb
     simp only [zq,Ao,or_false] at hp
     rcases hp with rfl | rfl | rfl | rfl | rfl | rfl | rfl <;> omega⟩
  ·simp_arith [bd,ha,yq (i0 _ _ _ _ _ _ _)]
   refine cE (n:=0) (by decide) (by decide) (by decide) λc c0 c1=>?_
   cases hc:(c == 0)
   ·simp_arith [bd,hc]
    exact cH ⟨[0,p3,p4,p5,p6,p7,p8],rfl,rfl,λp hp=>by
     clear hb
     simp only [zq,Ao,or_false] at hp
     rcases hp with rfl | rfl | rfl | rfl | rfl | rfl | rfl <;> omega⟩
   ·simp_arith [bd,hc,f5,f3,hmod,yq (i3 _ _ _ _ _ _ _)]
    exact cH ⟨[0,p3,p4,p5 * 3 % 1000001,p6,p7,p8],rfl,rfl,λp hp=>by
     clear hb
     simp only [zq,Ao,or_false] at hp
     rcases hp with rfl | rfl | rfl | rfl | rfl | rfl | rfl <;> omega⟩
theorem Zgw (ls:Cm) (hl:ls.length<=100):cO (fE (aj 0) qU qO [.un,.d (tI ls)]) (aZ 0 (ls.length:Int))=.ret ((bx 0 ls).map PyData.int):=by
 have hmap:=ZcD (h:=fE (aj 0) qU qO [.un,.d (tI ls)]) (F:=λq=>.int q.1) ls 0 λi v hv=>by
  have e0:((0:Nat):Int)+(i:Int)=i:=by omega
  rw [e0]
  have hat:aK aR (tI ls) (.int i)=.ret (.int v):=by
   unfold tI
   rw [cV,pY (v:=.int v) (by omega) (by rw [As,zH,hv]; rfl)]
   rfl
  by_cases h:v > 0
  ·simp_arith [qU,qO,hat,decide_eq_true h,if_pos h]
  ·simp_arith [qU,qO,hat,decide_eq_false h,if_neg h]
 have z:((0:Nat):Int)+(ls.length:Int)=(ls.length:Int):=by omega
 rw [z] at hmap
 rw [<- ZaY]
 exact hmap
theorem vf {fs:List Cm} (hf:∀ l∈fs,DayOk 8 l) (hl:fs.length<=100):i8 [.d (fD fs)]=.ret (.d (.int (reach fs))):=by
 have hq:∀ l∈fs,dU (aj 0) xj [.un] (tI l)=.ret (.int (great l)):=λl hm=>by
  have hlen:=(hf l hm).len
  have hln:bw db [tI l]=.ret (.int l.length):=by unfold tI; rw [eN,zo]
  have r1:eI [.int (l.length:Int)]=.ret (aZ 0 (l.length:Int)):=ip (cK (by omega) (by omega))
  have hs:small (aZ 0 (l.length:Int)).length=true:=bM (by rw [c7]; omega)
  have h1:=Zgw l (by omega)
  have h2:=ZcB (hf l hm).pos
  rw [xR]
  simp_arith [xj,hln,r1,hs,h1,h2]
 have hm:=xE hq
 have hs:small (fs.map tI).length=true:=bM (by rw [zo]; omega)
 have er:(List.map great fs).sum=reach fs:=rfl
 simp_arith [i8,rH,hs,hm,er]
end My
set_option Elab.async false
set_option linter.all false
set_option maxRecDepth 100000
set_option exponentiation.threshold 9000
namespace My
open L2 Tw Bar
theorem Zdv {s:Shp} (h:s.Ok) {fs:List Cm} (hf:FOk fs) (h8:∀ l∈fs,DayOk 8 l) {x:Int} (x1:reach fs - s.depth<=x) (x2:x<=s.top) (Dd:Sl):∀ (n k:Nat) (J:Sl),k+n<=4->k+n<=fs.length->∃ K:Sl,bJ (aj 5) uU ((ap k n).map PyData.int) [.d s.d,.d (fD fs),Dd,.d (.int x),.d (.int (cj s fs x k)),J]=.ret (.next [.d s.d,.d (fD fs),Dd,.d (.int x),.d (.int (cj s fs x (k+n))),K])
 | 0,k,J,_,_=>⟨J,rfl⟩
 | n+1,k,J,hk,hkf=>by
  have t0:=h.t0; have d0:=h.d0; have td:=h.td
  have hl:=hf.len
  obtain ⟨K,e⟩:=Zdv h hf h8 x1 x2 Dd n (k+1) (.d (.int k)) (by omega) (by omega)
  refine ⟨K,?_⟩
  have hT:=hf.take (k+1)
  have hTl:(fs.take (k+1)).length<=4:=by rw [AW]; omega
  have rc:=gf fs (k+1)
  have r0:=fO (fs:=fs.drop (k+1)) λl hl=>(hf.b l (Ag hl)).2
  have r1:=fO (fs:=fs) λl hl=>(hf.b l hl).2
  have e1:=ZdJ h (fs:=fs.take (k+1)) (λl hl=>h8 l (A4 hl)) hTl (y:=x) (by omega) x2 false
  have e2:=rN hf (k+1)
  have ek:((k+1:Nat):Int)=(k:Int)+1:=by omega
  rw [ek] at e2 e
  have c2:dH (fD fs) none (some ((k:Int)+1))=.ret (fD (fs.take (k+1))):=rQ fs (t:=k+1) (by omega)
  have n1:=xF h false hT (y:=x) (by omega) (by omega)
  have p2:=c8 (hf.drop (k+1)).B
  have q1:=(hf.drop (k+1)).len
  have f1:=aM n1 (by omega)
  have f2:=aM p2 (by omega)
  have ev:cj s fs x k+dL s false (fs.take (k+1)) x * prd (fs.drop (k+1))=cj s fs x (k+1):=by
   rw [cj,Zac hT (by omega),ZcG,BE]
  have et:uU [.d s.d,.d (fD fs),Dd,.d (.int x),.d (.int (cj s fs x k)),.d (.int k)]=.ret (.next [.d s.d,.d (fD fs),Dd,.d (.int x),.d (.int (cj s fs x (k+1))),.d (.int k)]):=by
   simp_arith [uU,c2,e1,e2,f1,f2,ev]
  have eg:aj 5 (.int (k:Int)) [.d s.d,.d (fD fs),Dd,.d (.int x),.d (.int (cj s fs x k)),J]=some [.d s.d,.d (fD fs),Dd,.d (.int x),.d (.int (cj s fs x k)),.d (.int k)]:=rfl
  rw [eJ,zm,cP,eg,Tr.of_some,Tr.ret_bind,cC,et,Tr.ret_bind,cm,e,show k+1+n=k+(n+1) by omega]
theorem Zj7 {s:Shp} (h:s.Ok) {fs:List Cm} (hf:FOk fs) (h8:∀ l∈fs,DayOk 8 l) {d:Nat} (d3:d<=3) (dl:d<=fs.length) {x:Int} (x1:reach fs - s.depth<=x) (x2:x<=s.top):uz [.d s.d,.d (fD fs),.d (.int d),.d (.int x)]=.ret (.d (.int (cj s fs x d))):=by
 obtain ⟨K,e⟩:=Zdv h hf h8 x1 x2 (.d (.int d)) d 0 .un (by omega) (by omega)
 have r1:eI [.int (d:Int)]=.ret (aZ 0 (d:Int)):=ip (cK (by omega) (by omega))
 have er:aZ 0 (d:Int)=(ap ((0:Nat):Int) d).map PyData.int:=by
  unfold aZ
  rw [show ((d:Int) - 0).toNat=d by omega]
  rfl
 rw [Nat.zero_add] at e
 have e0:cj s fs x 0=0:=rfl
 rw [e0] at e
 simp -implicitDefEqProofs only [uz,jD,jC,oA,nT,nS,oo,gz,gA,jT,nz,nc,ly,ng,na,lx,mr,mj,mq,mi,md,cV,f8,gD,gC,iE,iD,iC,iB,iA,iz,lv,lu,jS,jL,jR,jQ,jP,jO,jM,jN,oh,li,lq,oa,og,lg,lh,lp,n9,lf,lm,n6,n8,lb,lc,ll,mO,mL,mM,nA,nG,nF,nE,nC,nD,lr,nw,nv,nu,jK,jJ,lK,lJ,lM,lL,bM,nM,nJ,lP,eN,oq,lC,lA,mv,mw,jI,jE,lH,lD,fV,gx,lB,oi,n5,mn,ml,jY,jX,jW,jV,jU,k7,kZ,kY,jH,jG,lG,lF,ow,ox,oz,oy,kU,kT,ou,ot,nO,kS,kR,nk,m7,mZ,kn,kj,ki,km,kl,jZ,nP,nr,mG,mE,mF,kQ,kP,kO,kN,kM,kL,kK,kJ,kI,kh,kg,ke,kc,ka,j9,j8,jc,jb,nW,nV,nU,mP,la,k9,n4,n0,nZ,kH,kG,mQ,jt,ju,js,jr,jv,nY,nX,lj,jm,jk,jn,jq,jl,kX,kW,mh,mf,me,kA,kz,jB,jA,jz,jx,jw,nh,nj,ni,mV,mU,io,cC,cm,mS,mT,mR,lX,lW,lV,iX,iY,i5,iZ,nN,nI,mX,mW,lQ,lR,lO,lN,mC,lS,lU,lT,mH,mJ,mK,mI,nL,nK,mY,j7,j6,j4,om,oj,jp,kF,ky,kw,kD,kC,ku,kr,kE,kB,m9,m8,mB,mz,my,gy,lE,jF,ma,l5,lZ,lY,Tw.gT,Tw.gS,Tw.iQ,Tw.gR,Tw.iP,Tw.iO,Tw.iN,Tw.iM,Tw.iL,iq,mx,nq,nR,nQ,lz,mD,iT,Tr.of_some,Tr.bind_assoc,Tr.draw_bind,Ap,At,zG,AU,zn,zS,Re.val_d,Re.val_own,blk,gB,zm,AH,Ax,zZ,AD,Nat.reduceAdd,Nat.reduceLeDiff,Ac,r1,er,e]
theorem Zc0 (f:Int->PyData):∀ (n:Nat) (lo:Int),gu (((ap lo n).map λx=>(x,f x)).map λp=>(PyData.int p.1,p.2))=some (ap lo n)
 | 0,lo=>rfl
 | n+1,lo=>by
  rw [eJ,zm,zm,gu,Zc0 f n (lo+1)]
  rfl
theorem ZbB:∀ (n:Nat) (lo:Int),(ap lo n).Pairwise (·<=·)
 | 0,lo=>List.Pairwise.nil
 | n+1,lo=>by
  rw [eJ]
  refine List.Pairwise.cons (λy hy=>?_) (ZbB n (lo+1))
  have:=qN hy
  omega
theorem Zgm (lo:Int) (n:Nat):fi (ap lo n)=ap lo n:=ZaV (wJ _) (ZaW _) (ZbB n lo)
theorem Zgj {lo:Int} {n:Nat} {f:Int->PyData} (hn:n < 64):rS qr [cx lo n f]=.ret ((ap lo n).map PyData.int):=by
 have hk:=Zc0 f n lo
 have e:cx lo n f=.dict (((ap lo n).map λx=>(x,f x)).map λp=>(PyData.int p.1,p.2)):=rfl
 rw [e]
 unfold rS qr
 show Tr.of ((gu (((ap lo n).map λx=>(x,f x)).map λp=>(PyData.int p.1,p.2))).bind λns=>if decide (ns.length < 64)=true then some ((fi ns).map PyData.int) else none)=_
 rw [hk]
 show Tr.of (if decide ((ap lo n).length < 64)=true then some ((fi (ap lo n)).map PyData.int) else none)=_
 rw [eT,decide_eq_true hn,if_pos rfl,Zgm]
 rfl
theorem ZdQ {s:Shp} {d:Nat} {fs:List Cm} (hf:FOk fs) {lo:Int} {n:Nat}:∀ (m:Nat) (y:Int),lo<=y->y+m<=lo+n->bI (dU (aj 0) uc [.un,.d (.int (prd fs)),.d (cx lo n (cl s d fs))]) ((ap y m).map PyData.int)=.ret ((ap y m).map λz=>fX (aF s d fs z) (prd fs) (aL s d fs z))
 | 0,y,_,_=>rfl
 | m+1,y,y1,y2=>by
  have ih:=ZdQ (s:=s) (d:=d) hf (lo:=lo) (n:=n) m (y+1) (by omega) (by omega)
  have hl:=hf.len
  have p1:=c8 hf.B
  have eg:=vo (f:=cl s d fs) (n:=n) (lo:=lo) (x:=y) y1 (by omega)
  have es:=ZdK (t:=aF s d fs y) (b:=prd fs) (g8 hf.B) (ba p1 (by omega))
  have e0:dU (aj 0) uc [.un,.d (.int (prd fs)),.d (cx lo n (cl s d fs))] (.int y)=.ret (fX (aF s d fs y) (prd fs) (aL s d fs y)):=by
   have e1:∀ (q:Cc) (a:PyData),dU (aj 0) q [.un,.d (.int (prd fs)),.d (cx lo n (cl s d fs))] a=q [.d a,.d (.int (prd fs)),.d (cx lo n (cl s d fs))]:=λq a=>rfl
   rw [e1]
   unfold cl at eg ⊢
   simp_arith [uc,eg,es]
   rfl
  rw [eJ,zm,bI,e0,Tr.ret_bind,ih]
  rfl
theorem Zkh {s:Shp} (h:s.Ok) {fs:List Cm} (hf:FOk fs) (h8:∀ l∈fs,DayOk 8 l) {d t:Nat} (d3:d<=3) (ht:t+d < fs.length) {x:Int} (x1:reach fs - s.depth<=x) (x2:x<=s.top) (h64:s.top+s.depth+1 < 64) {A:PyData} (hA:sE s d t fs x A) {acc:Cl} (ha:acc.length<=100) (J7 J8 J9:Sl) :
  ∃ K7 K8:Sl,uV [.d s.d,.d (fD fs),.d (.int d),.d (.int x),.d (.tuple acc),.d A,.d (.int t),J7,J8,J9]=.ret (.next [.d s.d,.d (fD fs),.d (.int d),.d (.int x),.d (.tuple (eR s d fs x t::acc)),.d (cx (lw fs x t) (nn s fs x t) (cl s d (fs.drop t))),.d (.int t),K7,K8,J9]):=by
 have t0:=h.t0; have d0:=h.d0; have td:=h.td
 have hl:=hf.len
 have l1:=ie hf x1 t
 have l2:=i9 hf x t
 have e1:=vf (fs:=fs.take t) (λl hl=>h8 l (A4 hl)) (by have:=(hf.take t).len; omega)
 have c1:=rQ fs (t:=t) (by omega)
 have e2:=Zj4 h hf h8 d3 ht x1 x2 hA
 have e3:=rN hf t
 have hnn:nn s fs x t < 64:=by unfold nn; omega
 have e4:=Zgj (lo:=lw fs x t) (n:=nn s fs x t) (f:=cl s d (fs.drop t)) hnn
 have e5:=ZdQ (s:=s) (d:=d) (hf.drop t) (lo:=lw fs x t) (n:=nn s fs x t) (nn s fs x t) (lw fs x t) (zU _) (by omega)
 have hsm:small ((ap (lw fs x t) (nn s fs x t)).map PyData.int).length=true:=bM (by rw [zo,eT]; omega)
 have hlw:x - reach (fs.take t)=lw fs x t:=rfl
 have ad:aK aQ (.tuple [eR s d fs x t]) (.tuple acc)=.ret (.tuple (eR s d fs x t::acc)):=gz rfl (bM (by show 1+acc.length<=_; omega))
 have er:PyData.tuple ((ap (lw fs x t) (nn s fs x t)).map λz=>fX (aF s d (fs.drop t) z) (prd (fs.drop t)) (aL s d (fs.drop t) z))=eR s d fs x t:=rfl
 refine ⟨.d (.int (lw fs x t)),.d (.int (prd (fs.drop t))),?_⟩
 simp_arith [uV,c1,e1,hlw,e2,e3,e4,hsm,e5,er,ad]
theorem Zj9 {s:Shp} (h:s.Ok) {fs:List Cm} (hf:FOk fs) (h8:∀ l∈fs,DayOk 8 l) {d:Nat} (d3:d<=3) (dl:d < fs.length) {x:Int} (x1:reach fs - s.depth<=x) (x2:x<=s.top) (h64:s.top+s.depth+1 < 64) :
  uB [.d s.d,.d (fD fs),.d (.int d),.d (.int x)]=.ret (.d (.tuple [.tuple (cu s d fs x (fs.length - d) (fs.length - d)).reverse,fj (gr s d fs x) (prd fs)])):=by
 have t0:=h.t0; have d0:=h.d0; have td:=h.td
 have hl:=hf.len
 generalize ho:fs.length - d=o
 have ho':(fs.length:Int) - 1 - d=(o:Int) - 1:=by omega
 have hln:bw db [fD fs]=.ret (.int fs.length):=by
  unfold fD
  rw [eN,zo]
 have r1:rngd [.int ((o:Int) - 1),.int (-1),.int (-1)]=.ret ((fG ((o:Int) - 1) ((o:Int) - 1 - -1).toNat).map PyData.int):=ZjQ (cK (by omega) (by omega)) (cK (by omega) (by omega))
 have hon:((o:Int) - 1 - -1).toNat=o:=by omega
 rw [hon] at r1
 apply yQ
 simp -implicitDefEqProofs only [uB,jD,jC,oA,nT,nS,oo,gz,gA,jT,nz,nc,ly,ng,na,lx,mr,mj,mq,mi,md,cV,f8,gD,gC,iE,iD,iC,iB,iA,iz,lv,lu,jS,jL,jR,jQ,jP,jO,jM,jN,oh,li,lq,oa,og,lg,lh,lp,n9,lf,lm,n6,n8,lb,lc,ll,mO,mL,mM,nA,nG,nF,nE,nC,nD,lr,nw,nv,nu,jK,jJ,lK,lJ,lM,lL,bM,nM,nJ,lP,eN,oq,lC,lA,mv,mw,jI,jE,lH,lD,fV,gx,lB,oi,n5,mn,ml,jY,jX,jW,jV,jU,k7,kZ,kY,jH,jG,lG,lF,ow,ox,oz,oy,kU,kT,ou,ot,nO,kS,kR,nk,m7,mZ,kn,kj,ki,km,kl,jZ,nP,nr,mG,mE,mF,kQ,kP,kO,kN,kM,kL,kK,kJ,kI,kh,kg,ke,kc,ka,j9,j8,jc,jb,nW,nV,nU,mP,la,k9,n4,n0,nZ,kH,kG,mQ,jt,ju,js,jr,jv,nY,nX,lj,jm,jk,jn,jq,jl,kX,kW,mh,mf,me,kA,kz,jB,jA,jz,jx,jw,nh,nj,ni,mV,mU,io,cC,cm,mS,mT,mR,lX,lW,lV,iX,iY,i5,iZ,nN,nI,mX,mW,lQ,lR,lO,lN,mC,lS,lU,lT,mH,mJ,mK,mI,nL,nK,mY,j7,j6,j4,om,oj,jp,kF,ky,kw,kD,kC,ku,kr,kE,kB,m9,m8,mB,mz,my,gy,lE,jF,ma,l5,lZ,lY,Tw.gT,Tw.gS,Tw.iQ,Tw.gR,Tw.iP,Tw.iO,Tw.iN,Tw.iM,Tw.iL,iq,mx,nq,nR,nQ,lz,mD,iT,Tr.of_some,Tr.bind_assoc,Tr.draw_bind,Ap,At,zG,AU,zn,zS,Re.val_d,Re.val_own,blk,gB,zm,AH,Ax,zZ,AD,Nat.reduceAdd,Nat.reduceLeDiff,Ac,hln,ho',ZjP,r1]
 refine dZ (n:=0) (n':=0) (P:=λz=>∃ J6 J7 J8:Sl,z=.next [.d s.d,.d (fD fs),.d (.int d),.d (.int x),.d (.tuple (cu s d fs x o o).reverse),.d (cx (lw fs x 0) (nn s fs x 0) (cl s d fs)),J6,J7,J8,.un]) ?_ (by decide) ?_
 ·refine r8 (n:=0) (λpre ρ=>pre.length<=o/\∃ (A:PyData) (J6 J7 J8:Sl),ρ=[.d s.d,.d (fD fs),.d (.int d),.d (.int x),.d (.tuple (cu s d fs x o pre.length).reverse),.d A,J6,J7,J8,.un]/\(0 < pre.length->A=cx (lw fs x (o - pre.length)) (nn s fs x (o - pre.length)) (cl s d (fs.drop (o - pre.length))))) ⟨Ay _,.dict [],.un,.un,.un,rfl,λz=>absurd z (by simp)⟩ (by simp) ?_ ?_
  ·rintro pre v post ρ e ⟨hp,A,J6,J7,J8,rfl,hA⟩
   have hv:((fG ((o:Int) - 1) o).map PyData.int)[pre.length]?=some v:=by rw [e]; simp
   have hpl:pre.length < o:=by
    have:=congrArg List.length e
    rw [zo,vh,zB,zn] at this
    omega
   have hv2:v=.int ((o - (pre.length+1):Nat):Int):=by
    unfold fG at hv
    rw [zH,zH,Ai hpl] at hv
    have hv:some (PyData.int ((o:Int) - 1 - (pre.length:Int)))=some v:=hv
    rw [<- zJ hv]
    congr 1
    omega
   subst hv2
   refine ⟨_,rfl,?_⟩
   have hq:o - pre.length=o - (pre.length+1)+1:=by omega
   have hLat:sE s d (o - (pre.length+1)) fs x A:=λz=>by
    have:=hA (by omega)
    rw [hq] at this
    exact this
   obtain ⟨K7,K8,et⟩:=Zkh h hf h8 d3 (t:=o - (pre.length+1)) (by omega) x1 x2 h64 hLat (acc:=(cu s d fs x o pre.length).reverse) (by rw [zQ,tY]; omega) J7 J8 .un
   show Al (uV [.d s.d,.d (fD fs),.d (.int d),.d (.int x),.d (.tuple (cu s d fs x o pre.length).reverse),.d A,.d (.int ((o - (pre.length+1):Nat):Int)),J7,J8,.un]) _ _
   rw [et]
   refine cH ⟨_,rfl,?_,cx (lw fs x (o - (pre.length+1))) (nn s fs x (o - (pre.length+1))) (cl s d (fs.drop (o - (pre.length+1)))),.d (.int ((o - (pre.length+1):Nat):Int)),K7,K8,?_,λ_=>?_⟩
   ·rw [zB]; show pre.length+1<=o; omega
   ·have er:(cu s d fs x o (pre.length+1)).reverse=eR s d fs x (o - (pre.length+1))::(cu s d fs x o pre.length).reverse:=by
     rw [cu,List.reverse_append]
     rfl
    rw [zB,List.length_singleton,er]
   ·rw [zB]
    rfl
  ·rintro ρ ⟨hp,A,J6,J7,J8,rfl,hA⟩
   rw [zo,vh] at hA ⊢
   have:=hA (by omega)
   rw [Nat.sub_self,AJ] at this
   subst this
   exact ⟨J6,J7,J8,rfl⟩
 ·rintro _ ⟨J6,J7,J8,rfl⟩
  have e0:lw fs x 0=x:=by unfold lw; rw [B2]; show x - 0=x; omega
  have eg:=vo (f:=cl s d fs) (n:=nn s fs x 0) (lo:=lw fs x 0) (x:=x) (by rw [e0]; exact zU x) (by rw [e0]; unfold nn; rw [e0]; omega)
  have e1:=Zj7 h hf h8 d3 (by omega) x1 x2
  have e2:=rN hf 0
  rw [AJ,Bj] at e2
  have p1:=c8 hf.B
  have es:=ZdK (t:=cj s fs x d+aF s d fs x) (b:=prd fs) (g8 hf.B) (ba p1 (by omega))
  have ec:cj s fs x d+aF s d fs x=gr s d fs x:=by unfold gr; omega
  rw [ec] at es
  unfold cl at eg ⊢
  simp -implicitDefEqProofs only [jD,jC,oA,nT,nS,oo,gz,gA,jT,nz,nc,ly,ng,na,lx,mr,mj,mq,mi,md,cV,f8,gD,gC,iE,iD,iC,iB,iA,iz,lv,lu,jS,jL,jR,jQ,jP,jO,jM,jN,oh,li,lq,oa,og,lg,lh,lp,n9,lf,lm,n6,n8,lb,lc,ll,mO,mL,mM,nA,nG,nF,nE,nC,nD,lr,nw,nv,nu,jK,jJ,lK,lJ,lM,lL,bM,nM,nJ,lP,eN,oq,lC,lA,mv,mw,jI,jE,lH,lD,fV,gx,lB,oi,n5,mn,ml,jY,jX,jW,jV,jU,k7,kZ,kY,jH,jG,lG,lF,ow,ox,oz,oy,kU,kT,ou,ot,nO,kS,kR,nk,m7,mZ,kn,kj,ki,km,kl,jZ,nP,nr,mG,mE,mF,kQ,kP,kO,kN,kM,kL,kK,kJ,kI,kh,kg,ke,kc,ka,j9,j8,jc,jb,nW,nV,nU,mP,la,k9,n4,n0,nZ,kH,kG,mQ,jt,ju,js,jr,jv,nY,nX,lj,jm,jk,jn,jq,jl,kX,kW,mh,mf,me,kA,kz,jB,jA,jz,jx,jw,nh,nj,ni,mV,mU,io,cC,cm,mS,mT,mR,lX,lW,lV,iX,iY,i5,iZ,nN,nI,mX,mW,lQ,lR,lO,lN,mC,lS,lU,lT,mH,mJ,mK,mI,nL,nK,mY,j7,j6,j4,om,oj,jp,kF,ky,kw,kD,kC,ku,kr,kE,kB,m9,m8,mB,mz,my,gy,lE,jF,ma,l5,lZ,lY,Tw.gT,Tw.gS,Tw.iQ,Tw.gR,Tw.iP,Tw.iO,Tw.iN,Tw.iM,Tw.iL,iq,mx,nq,nR,nQ,lz,mD,iT,Tr.of_some,Tr.bind_assoc,Tr.draw_bind,Ap,At,zG,AU,zn,zS,Re.val_d,Re.val_own,blk,gB,zm,AH,Ax,zZ,AD,Nat.reduceAdd,Nat.reduceLeDiff,Ac,e1,eg,e2,ec,es]
  exact cH rfl
end My
set_option Elab.async false
set_option linter.all false
set_option maxRecDepth 100000
set_option exponentiation.threshold 9000
namespace My
open L2 Tw Bar
noncomputable def uf (s:Shp):Cm:=[s.start,s.piece,s.keep,s.lack,s.lost,s.back,s.late]
structure Ask (s:Shp) (fs:List Cm) (x:Int):Prop where
 days:∀ l∈fs,DayOk 8 l
 l2:2<=fs.length
 l6:fs.length<=6
 t0:0<=s.top
 tr:s.top+reach fs<=50
 dep:reach fs<=s.depth/\s.depth<=reach fs+2
 x1:reach fs - s.depth<=x
 x2:x<=s.top
 ps:∀ p∈uf s,0<=p/\p<=1000000
theorem ok_of {s:Shp} {k:Int} (k0:0<=k) (k1:k<=10000000000) (t0:0<=s.top) (d0:0<=s.depth) (td:s.top+s.depth<=100) (ps:∀ p∈uf s,0<=p/\p<=k):s.Ok:=by
 have nbp:∀ p∈uf s,nb 45 p:=λp hp=>by
  have:=ps p hp
  exact bv (by show -35184372088832 < _; omega) (by show _ < 35184372088832; omega)
 unfold uf at *
 exact ⟨t0,d0,td,(ps s.start (by simp)).1,nbp _ (by simp),nbp _ (by simp),nbp _ (by simp),nbp _ (by simp),nbp _ (by simp),nbp _ (by simp),nbp _ (by simp)⟩
theorem Ask.f {s:Shp} {fs:List Cm} {x:Int} (h:Ask s fs x):FOk fs:=⟨λl hl=>⟨(h.days l hl).B (by decide),(h.days l hl).pos⟩,h.l6⟩
theorem Ask.r {s:Shp} {fs:List Cm} {x:Int} (h:Ask s fs x):0<=reach fs:=fO λl hl=>(h.days l hl).pos
theorem Ask.ok {s:Shp} {fs:List Cm} {x:Int} (h:Ask s fs x):s.Ok:=by
 have r:=h.r
 have:=h.dep
 have:=h.t0
 have:=h.tr
 exact ok_of (k:=1000000) (by decide) (by decide) h.t0 (by omega) (by omega) h.ps
def Zc9 (most:Int) (v:PyData):Prop:=∃ d,v=tI d/\DayOk 8 d/\great d<=most - 1
theorem Zd9 {most:Int}:∀ {xs:Cl},(∀ v∈xs,Zc9 most v)->∃ fs:List Cm,xs=fs.map tI/\(∀ l∈fs,DayOk 8 l)/\∀ l∈fs,great l<=most - 1
 | [],_=>⟨[],rfl,(λ_ q=>nomatch q),λ_ q=>nomatch q⟩
 | v::xs,h=>by
  obtain ⟨d,rfl,hd,hg⟩:=h v (by simp)
  obtain ⟨fs,rfl,hf,hgs⟩:=Zd9 (xs:=xs) λq hq=>h q (Mt _ hq)
  refine ⟨d::fs,rfl,λl hl=>?_,λl hl=>?_⟩
  ·rcases zq.mp hl with rfl | hl
   ·exact hd
   ·exact hf l hl
  ·rcases zq.mp hl with rfl | hl
   ·exact hg
   ·exact hgs l hl
theorem Zbv {k:Int}:∀ {fs:List Cm},(∀ l∈fs,great l<=k)->reach fs<=k * fs.length
 | [],_=>by show (0:Int)<=k * ((0:Nat):Int); rw [Bj,AI]; decide
 | d::fs,h=>by
  have ih:=Zbv (fs:=fs) λl hl=>h l (Mt _ hl)
  have h1:=h d (by simp)
  rw [fo,zn,show ((fs.length+1:Nat):Int)=(fs.length:Int)+1 by omega,Bt,Be]
  omega
theorem ZgN:Al (uD [.pen]) 90 λr=>∃ (s:Shp) (fs:List Cm) (x:Int),r=.d (.tuple [s.d,fD fs,.int x])/\Ask s fs x:=by
 simp_arith [uD,bd]
 refine cE (n:=89) (by decide) (by decide) (by decide) λa a0 a1=>?_
 try simp_arith [bd]
 refine cE (n:=88) (by decide) (by decide) (by decide) λb b0 b1=>?_
 try simp_arith [bd]
 refine cE (n:=87) (by decide) (by decide) (by decide) λc c0 c1=>?_
 try simp_arith [bd]
 refine cE (n:=86) (by decide) (by decide) (by decide) λw w0 w1=>?_
 have f1:fit w=true:=aM (k:=20) (bv (by show -1048576 < _; omega) (by show _ < 1048576; omega)) (by decide)
 have f2:fit (3:Int)=true:=aM (k:=20) (bv (by decide) (by decide)) (by decide)
 have f3:fit (w * 3)=true:=aM (k:=20) (bv (by show -1048576 < _; omega) (by show _ < 1048576; omega)) (by decide)
 have f4:fit (7:Int)=true:=aM (k:=20) (bv (by decide) (by decide)) (by decide)
 have ed:aK fU (.int (w * 3)) (.int 7)=.ret (.int ((w * 3).fdiv 7)):=ve (by decide) f4
 have hw:(w * 3).fdiv 7=0\/(w * 3).fdiv 7=1\/(w * 3).fdiv 7=2\/(w * 3).fdiv 7=3:=by
  rw [BX _ (by decide)]
  omega
 generalize (w * 3).fdiv 7=wy at *
 obtain ⟨most,many,hsh,o1,o2,o3,o4,o5,o6⟩:∃ most many:Int,bp [PyData.tuple [.int 5,.int (2+a)],.tuple [.int 2,.int (5+b)],.tuple [.int 8,.int 2],.tuple [.int 2,.int (2+c)]] wy=some (.tuple [.int most,.int many])/\2<=most/\most<=8/\2<=many/\many<=6/\(most - 1) * many<=20/\(wy=3->(most - 1) * many<=3):=by
  rcases hw with rfl | rfl | rfl | rfl
  ·exact ⟨5,2+a,rfl,by omega,by omega,by omega,by omega,by omega,by omega⟩
  ·exact ⟨2,5+b,rfl,by omega,by omega,by omega,by omega,by omega,by omega⟩
  ·exact ⟨8,2,rfl,by omega,by omega,by omega,by omega,by omega,by omega⟩
  ·exact ⟨2,2+c,rfl,by omega,by omega,by omega,by omega,by omega,by omega⟩
 have rr:eI [.int many]=.ret (aZ 0 many):=ip (cK (by omega) (by omega))
 have hs:small (aZ 0 many).length=true:=bM (by rw [c7]; omega)
 simp_arith [bd,f1,f2,ed,hsh,rr,hs]
 refine dZ (n:=66) (n':=20) (yP (n:=11) (P:=Zc9 most) (Q:=λys=>∃ fs:List Cm,ys=fs.map tI/\(fs.length:Int)=many/\(∀ l∈fs,DayOk 8 l)/\∀ l∈fs,great l<=most - 1) (by rw [c7]; omega) (λx hx=>?_) λys hl hys=>?_) (by decide) ?_
 ·simp_arith [Zb2,bd]
  refine dZ (n':=0) (ZgM o1 o2) (by decide) ?_
  rintro _ ⟨d,rfl,hd,hg⟩
  simp_arith [bd]
  exact cH ⟨d,rfl,hd,hg⟩
 ·obtain ⟨fs,rfl,hf,hg⟩:=Zd9 hys
  rw [zo,c7] at hl
  exact ⟨fs,rfl,by omega,hf,hg⟩
 ·rintro _ ⟨fs,rfl,hl,hd,hg⟩
  have hfD:PyData.tuple (fs.map tI)=fD fs:=rfl
  have r0:0<=reach fs:=fO λl hl=>(hd l hl).pos
  have rm:=Zbv hg
  rw [hl] at rm
  simp_arith [bd,hfD]
  refine cE (n:=19) (by decide) (by decide) (by decide) λmo mo0 mo1=>?_
  try simp_arith [bd]
  refine cE (n:=18) (by decide) (by decide) (by decide) λtp tp0 tp1=>?_
  have eg:=vf hd (by omega)
  cases h3:(wy == 3)
  ·simp_arith [bd,h3,eg]
   refine cE (n:=17) (by omega) (by omega) (by decide) λst st0 st1=>?_
   try simp_arith [bd]
   refine dZ (n:=10) (n':=0) Zbb (by decide) ?_
   rintro _ ⟨ps,rfl,hl7,hp⟩
   obtain ⟨p2,p3,p4,p5,p6,p7,p8,rfl⟩:=xK hl7
   simp_arith [tI,bd]
   refine cH ⟨⟨tp,reach fs+mo,p2,p3,p4,p5,p6,p7,p8⟩,fs,st - mo,by rw [<- wS],⟨hd,by omega,by omega,tp0,?_,⟨?_,?_⟩,?_,?_,hp⟩⟩
   ·show tp+reach fs<=50; omega
   ·show reach fs<=reach fs+mo; omega
   ·show reach fs+mo<=reach fs+2; omega
   ·show reach fs - (reach fs+mo)<=st - mo; omega
   ·show st - mo<=tp; omega
  ·have:=o6 (eq_of_beq h3)
   simp_arith [bd,h3]
   refine cE (n:=17) (by decide) (by decide) (by decide) λtq tq0 tq1=>?_
   simp_arith [bd,eg]
   refine cE (n:=16) (by omega) (by omega) (by decide) λst st0 st1=>?_
   try simp_arith [bd]
   refine dZ (n:=10) (n':=0) Zbb (by decide) ?_
   rintro _ ⟨ps,rfl,hl7,hp⟩
   obtain ⟨p2,p3,p4,p5,p6,p7,p8,rfl⟩:=xK hl7
   simp_arith [tI,bd]
   refine cH ⟨⟨6+tq,reach fs+mo,p2,p3,p4,p5,p6,p7,p8⟩,fs,st - mo,by rw [<- wS],⟨hd,by omega,by omega,?_,?_,⟨?_,?_⟩,?_,?_,hp⟩⟩
   ·show 0<=6+tq; omega
   ·show 6+tq+reach fs<=50; omega
   ·show reach fs<=reach fs+mo; omega
   ·show reach fs+mo<=reach fs+2; omega
   ·show reach fs - (reach fs+mo)<=st - mo; omega
   ·show st - mo<=6+tq; omega
theorem ZdL {s:Shp} {fs:List Cm} (hf:FOk fs) (d:Int) {x:Int} (hx:x < reach fs - s.depth):i7 [.d s.d,.d (fD fs),.d (.int d),.d (.int x)]=.ret (.d (.bool true)):=by
 have e:=ZdO (s:=s) hf 0
 rw [AJ,Bj] at e
 have p1:ul [.d s.d,.d (fD fs),.d (.int x)]=.ret true:=by
  show bX (ae (df λi j=>decide (i < j)) (aa 2) (aE (aA pJ (af (aa 0) (af (aa 1) (af (aC (.int 0)) az)))))) [.d s.d,.d (fD fs),.d (.int x)]=_
  simp_arith [e,decide_eq_true hx]
 have p2:uk [.d s.d,.d (fD fs),.d (.int d),.d (.int x)]=.ret true:=by
  show Tr.bind (.ret [.d s.d,.d (fD fs),.d (.int x)]) ul=_
  rw [Tr.ret_bind,p1]
 have q:eY 4 2 (λρ=>(af (aa 0) (af (aa 1) (af (aa 2) (af (aa 3) az))) (ρ.set 4 (.d .none))).bind uk) [.d s.d,.d (fD fs),.d (.int d),.d (.int x)]=.ret true:=by
  have ar:(af (aa 0) (af (aa 1) (af (aa 2) (af (aa 3) az)))) ((([Sl.d s.d,Sl.d (fD fs),Sl.d (.int d),Sl.d (.int x)]:Cr)++List.replicate 2 Sl.un).set 4 (Sl.d .none))=.ret [.d s.d,.d (fD fs),.d (.int d),.d (.int x)]:=rfl
  have hd:decide (([Sl.d s.d,Sl.d (fD fs),Sl.d (.int d),Sl.d (.int x)]:Cr).length=4)=true:=rfl
  unfold eY
  rw [if_pos hd]
  dsimp only
  rw [ar,Tr.ret_bind,p2]
 unfold i7
 rw [q,Tr.ret_bind,if_pos rfl]
theorem ZgL {s:Shp} {fs:List Cm} {x:Int} (h:Ask s fs x):Al (rn [.pen,.d s.d,.d (fD fs)]) 3 λr=>r=.d (.bool true):=by
 have hf:=h.f
 have t0:=h.t0
 have tr:=h.tr
 have l2:=h.l2
 have l6:=h.l6
 have eg:=vf h.days (by omega)
 have hln:bw db [fD fs]=.ret (.int fs.length):=by
  unfold fD
  rw [eN,zo]
 by_cases hr:reach fs - s.top < 1
 ·simp_arith [rn,bd,eg,decide_eq_true hr]
  exact cH rfl
 ·simp_arith [rn,bd,eg,decide_eq_false hr]
  refine cE (n:=2) (by omega) (by omega) (by decide) λdp dp0 dp1=>?_
  have ea:aK aQ (.tuple [.int s.top,.int dp]) (.tuple [.int s.start,.int s.piece,.int s.keep,.int s.lack,.int s.lost,.int s.back,.int s.late])=.ret (Shp.mk s.top dp s.start s.piece s.keep s.lack s.lost s.back s.late).d:=by
   rw [gz rfl rfl,<- wS]
   rfl
  have s0:aK aR (Shp.mk s.top dp s.start s.piece s.keep s.lack s.lost s.back s.late).d (.int 0)=.ret (.int s.top):=gT _
  have s1:aK aR (Shp.mk s.top dp s.start s.piece s.keep s.lack s.lost s.back s.late).d (.int 1)=.ret (.int dp):=gS _
  simp_arith [bd,vp,ea,s0,s1]
  refine cE (n:=1) (by omega) (by omega) (by decide) λst st0 st1=>?_
  have m1:1<=i6 3 ((fs.length:Int) - 1)/\i6 3 ((fs.length:Int) - 1)<=3:=by unfold i6; split <;> omega
  simp_arith [bd,hln]
  refine cE (n:=0) (by omega) (by omega) (by decide) λdd dd0 dd1=>?_
  have er:=ZdL (s:=Shp.mk s.top dp s.start s.piece s.keep s.lack s.lost s.back s.late) hf (1+dd) (x:=st - dp) (by show st - dp < reach fs - dp; omega)
  simp_arith [bd,er]
  exact cH rfl
end My
set_option Elab.async false
set_option linter.all false
set_option maxRecDepth 100000
set_option exponentiation.threshold 9000
namespace My
open L2 Tw Bar
theorem Zbj {d:PyData} {k n:Nat} (h:Rp d k n) (hk:k<=32) (hn:n<=10000000):o7 d=true:=by
 unfold o7
 rw [h.hd,h.sh,decide_eq_true (zE h.dp hk),decide_eq_true (zE h.ln (zE hn (by rw [sizeLine_eq]; decide)))]
 rfl
theorem Ask.h64 {s:Shp} {fs:List Cm} {x:Int} (h:Ask s fs x):s.top+s.depth+1 < 64:=by
 have:=h.tr
 have:=h.dep
 omega
theorem Zbw:∀ (a b:List Cm),reach (a++b)=reach a+reach b
 | [],b=>by show reach b=0+reach b; omega
 | d::a,b=>by rw [Ap,fo,fo,Zbw a b]; omega
theorem t7:∀ fs:List Cm,reach fs.reverse=reach fs
 | []=>rfl
 | d::fs=>by
  have h1:=fo d fs
  have h2:=fo d []
  have h3:reach []=0:=rfl
  rw [AR,Zbw,t7 fs]
  omega
theorem Ask.rev {s:Shp} {fs:List Cm} {x:Int} (h:Ask s fs x):Ask s fs.reverse x :=
 ⟨λl hl=>h.days l (List.mem_reverse.mp hl),by rw [zQ]; exact h.l2,by rw [zQ]; exact h.l6,h.t0,by rw [t7]; exact h.tr,by rw [t7]; exact h.dep,by rw [t7]; exact h.x1,h.x2,h.ps⟩
theorem Zg1 (fs:List Cm):aK o0 (fD fs) (.int (-1))=.ret (fD fs.reverse):=by
 unfold fD
 rw [List.map_reverse]
 rfl
theorem sM {s:Shp} {fs:List Cm} {x:Int} (h:Ask s fs x) {d:Nat} (d3:d<=3) (dl:d < fs.length) (J2 J4 J5 J6 J7 J8 J12:Sl):∃ K12:Sl,xX [.un,.pen,J2,.d s.d,J4,J5,J6,J7,J8,.d (.int d),.d (fD fs),.d (.int x),J12]=.ret (.next [.un,.pen,J2,.d s.d,J4,J5,J6,J7,J8,.d (.int d),.d (fD fs),.d (.int x),K12]):=by
 have ok:=h.ok
 have hf:=h.f
 have hl:=hf.len
 have r0:=h.r
 have hx1:=h.x1
 have hx2:=h.x2
 have dep:=h.dep
 have tr:=h.tr
 have t0:=h.t0
 have e1:=Zj2 ok hf (d:=d) (by omega) hx1 hx2
 have e2:=Zka ok hf (d:=d) (by omega) hx1 hx2
 have e3:=Zj9 ok hf h.days d3 dl hx1 hx2 h.h64
 have p1:=c8 hf.B
 have R1:=ZgR ok hf (d:=d) hx1 hx2 (fs.length - d) (p:=fs.length - d) (by omega)
 have R2:=Zbi (t:=gr s d fs x) (b:=prd fs) (ba (ZiW ok hf (by omega) (by omega) hx2) (by decide)) (ba p1 (by omega)) (BQ (g8 hf.B))
 have R:=Zbj (gX (xs:=[.tuple (cu s d fs x (fs.length - d) (fs.length - d)).reverse,fj (gr s d fs x) (prd fs)]) (k:=4) (n:=4634770) λv hv=>by
  simp only [zq,Ao,or_false] at hv
  rcases hv with rfl | rfl
  ·exact R1
  ·exact eQ R2 (by decide) (by decide)) (by decide) (by show 2 * 4634770+2 * 2+10<=10000000; decide)
 have r:=Zdx R
 generalize PyData.tuple (cu s d fs x (fs.length - d) (fs.length - d)).reverse=T at *
 generalize fj (gr s d fs x) (prd fs)=C at *
 refine ⟨.d (.tuple [T,C]),?_⟩
 simp_arith [xX,e1,e2,e3,r,beq_self_eq_true,Bz]
theorem ZfQ {s:Shp} {fs:List Cm} {x y:Int} (h:Ask s fs x) (hy:Ask s fs y) {d:Nat} (d3:d<=3) (dl:d < fs.length) (J2 J6 J10 J11 J12:Sl):∃ K10 K11 K12:Sl,uX [.un,.pen,J2,.d s.d,.d (fD fs),.d (.int x),J6,.d (.int (reach fs - s.depth)),.d (.int y),.d (.int d),J10,J11,J12]=.ret (.next [.un,.pen,J2,.d s.d,.d (fD fs),.d (.int x),J6,.d (.int (reach fs - s.depth)),.d (.int y),.d (.int d),K10,K11,K12]):=by
 obtain ⟨N1,e1⟩:=sM h d3 dl J2 (.d (fD fs)) (.d (.int x)) J6 (.d (.int (reach fs - s.depth))) (.d (.int y)) J12
 obtain ⟨N2,e2⟩:=sM hy d3 dl J2 (.d (fD fs)) (.d (.int x)) J6 (.d (.int (reach fs - s.depth))) (.d (.int y)) N1
 obtain ⟨N3,e3⟩:=sM h.rev d3 (by rw [zQ]; exact dl) J2 (.d (fD fs)) (.d (.int x)) J6 (.d (.int (reach fs - s.depth))) (.d (.int y)) N2
 obtain ⟨N4,e4⟩:=sM h d3 dl J2 (.d (fD fs)) (.d (.int x)) J6 (.d (.int (reach fs - s.depth))) (.d (.int y)) N3
 have ev:=Zg1 fs
 have er:=ZdL (s:=s) h.f d (x:=reach fs - s.depth - 1) (by omega)
 have itT:∀ xs:Cl,dW (.tuple xs)=.ret xs:=λ_=>rfl
 refine ⟨.d (fD fs),.d (.int x),N4,?_⟩
 cases hc:decide (reach fs - s.depth > 0 - s.depth)
 ·simp_arith [uX,ev,itT,cP,e1,e2,e3,e4,hc]
 ·simp_arith [uX,ev,itT,cP,e1,e2,e3,e4,hc,er,Bz]
theorem turn (J2 J3 J4 J5 J6 J7 J8 J9 J10 J11 J12:Sl):Al (xW [.un,.pen,J2,J3,J4,J5,J6,J7,J8,J9,J10,J11,J12]) 100 λo=>∃ K3 K4 K5 K6 K7 K8 K9 K10 K11 K12:Sl,o=.next [.un,.pen,J2,K3,K4,K5,K6,K7,K8,K9,K10,K11,K12]:=by
 simp_arith [xW,bd]
 refine dZ (n:=90) (n':=10) ZgN (by decide) ?_
 rintro _ ⟨s,fs,x,rfl,h⟩
 have ok:=h.ok
 have hf:=h.f
 have r0:=h.r
 have l2:=h.l2
 have l6:=h.l6
 have dep:=h.dep
 have tr:=h.tr
 have t0:=h.t0
 have eg:=vf h.days (by omega)
 have hln:bw db [fD fs]=.ret (.int fs.length):=by
  unfold fD
  rw [eN,zo]
 have R:Rp (.tuple [s.d,fD fs]) 3 1000000:=by
  refine eQ (gX (xs:=[s.d,fD fs]) (k:=2) (n:=400000) λv hv=>?_) (by decide) (by show 2 * 400000+2 * 2+10<=1000000; decide)
  simp only [zq,Ao,or_false] at hv
  rcases hv with rfl | rfl
  ·exact eQ (ZgQ ok) (by decide) (by decide)
  ·refine eQ (gX (xs:=fs.map tI) (k:=1) (n:=40000) λv hv=>?_) (by decide) ?_
   ·obtain ⟨l,hl,rfl⟩:=AG.mp hv
    exact ZgU (hf.b l hl).1
   ·rw [zo]
    have:fs.length * 40000<=6 * 40000:=Bm 40000 l6
    omega
 have r:=Zdx (Zbj R (by decide) (by decide))
 simp_arith [bd,r,eg]
 refine cE (n:=9) (by omega) (by omega) (by decide) λq q0 q1=>?_
 have hy:Ask s fs (reach fs - s.depth+q):=⟨h.days,h.l2,h.l6,h.t0,h.tr,h.dep,by omega,by omega,h.ps⟩
 have hm:i6 3 ((fs.length:Int) - 1)=((min 3 (fs.length - 1):Nat):Int):=by unfold i6; split <;> omega
 have r1:gY [.int 1,.int (((min 3 (fs.length - 1):Nat):Int)+1)]=.ret (aZ 1 (((min 3 (fs.length - 1):Nat):Int)+1)):=pS (cK (by decide) (by decide)) (cK (by omega) (by omega))
 simp_arith [bd,hln,hm,r1]
 refine dZ (n:=0) (n':=9) (P:=λo=>∃ K9 K10 K11 K12:Sl,o=.next [.un,.pen,J2,.d s.d,.d (fD fs),.d (.int x),.d (.str (PyData.shown (.tuple [s.d,fD fs]))),.d (.int (reach fs - s.depth)),.d (.int (reach fs - s.depth+q)),K9,K10,K11,K12]) ?_ (by decide) ?_
 ·refine r8 (n:=0) (λpre ρ=>∃ K9 K10 K11 K12:Sl,ρ=[.un,.pen,J2,.d s.d,.d (fD fs),.d (.int x),.d (.str (PyData.shown (.tuple [s.d,fD fs]))),.d (.int (reach fs - s.depth)),.d (.int (reach fs - s.depth+q)),K9,K10,K11,K12]) ⟨_,_,_,_,rfl⟩ (by simp) ?_ ?_
  ·rintro pre v post ρ e ⟨K9,K10,K11,K12,rfl⟩
   obtain ⟨rfl,hpre⟩:=ZgY e
   have ed:(1:Int)+(pre.length:Int)=((pre.length+1:Nat):Int):=by omega
   rw [ed]
   refine ⟨_,rfl,?_⟩
   obtain ⟨M10,M11,M12,et⟩:=ZfQ h hy (d:=pre.length+1) (by omega) (by omega) J2 (.d (.str (PyData.shown (.tuple [s.d,fD fs])))) K10 K11 K12
   exact Ze3 et ⟨_,rfl,_,_,_,_,rfl⟩
  ·rintro ρ ⟨K9,K10,K11,K12,rfl⟩
   exact ⟨_,_,_,_,rfl⟩
 ·rintro _ ⟨K9,K10,K11,K12,rfl⟩
  simp_arith [bd,r,beq_self_eq_true,Bz]
  refine dZ (n:=3) (n':=0) (ZgL h) (by decide) ?_
  rintro _ rfl
  simp_arith [bd,Bz]
  exact cH ⟨_,_,_,_,_,_,_,_,_,_,rfl⟩
theorem law_true:Al (uE xT) 2000 λo=>o=.ret (.d (.bool true)):=by
 have r2:eI [.int 2]=.ret (aZ 0 2):=ip rfl
 simp_arith [uE,xT,bd,r2]
 refine dZ (n:=200) (n':=0) (P:=λo=>∃ ρ,o=.next ρ) ?_ (by decide) ?_
 ·refine Zmd (n:=100) (λρ=>∃ J2 J3 J4 J5 J6 J7 J8 J9 J10 J11 J12:Sl,ρ=[.un,.pen,J2,J3,J4,J5,J6,J7,J8,J9,J10,J11,J12]) ⟨_,_,_,_,_,_,_,_,_,_,_,rfl⟩ (by rw [c7]; decide) ?_ (λρ _=>⟨ρ,rfl⟩)
  rintro x ρ hx ⟨J2,J3,J4,J5,J6,J7,J8,J9,J10,J11,J12,rfl⟩
  refine ⟨_,rfl,Zmc (turn (.d x) J3 J4 J5 J6 J7 J8 J9 J10 J11 J12) (zp _) ?_⟩
  rintro _ ⟨K3,K4,K5,K6,K7,K8,K9,K10,K11,K12,rfl⟩
  exact ⟨_,rfl,_,_,_,_,_,_,_,_,_,_,_,rfl⟩
 ·rintro _ ⟨ρ,rfl⟩
  simp_arith [bd]
  exact cH rfl
end My
set_option Elab.async false
set_option linter.all false
set_option maxRecDepth 100000
open PySem.W L2
set_option maxRecDepth 100000 in
set_option maxHeartbeats 0 in
theorem PySem.Challenge.cw_twomarks_k43_short_tables_told_holds : PySem.Challenge.rw_twomarks_k43_short_tables_told.Holds := by
 refine My.hd ?_
 k_fill
 refine L2.Zfs (l:=PySem.Challenge.rw_twomarks_k43_short_tables_told) (n:=63) (k:=9) (x:="_law_script") (CX:=iI) (sp:=L2.ZaT) rfl (by decide) rfl ⟨rfl,by decide,by decide,rfl⟩ (λw h Y=>PySem.W.kIn_of Y) ?F ?S ?C
 case F =>
  intro w mg fa h KX G hmg
  have d_common_divisor:Def (L2.aG KX) mg "common_divisor" My.tJ ["one","other"]:=by
   dsimp only [L2.aG]
   refine' L2.bE KX G ?a ?l ?c ?k ?b
   (case a=>k_is); (case l=>k_is); (case c=>k_is); (case k=>k_is)
   (case b=>intro _ _ _ _ _ _ us hl; obtain ⟨_,_,rfl⟩:=L2.fB hl; rfl)
  have d_share:Def (L2.aG KX) mg "share" My.tw ["top","bottom"]:=by
   dsimp only [L2.aG]
   refine' L2.bE KX G ?a ?l ?c ?k ?b
   (case a=>k_is); (case l=>k_is); (case c=>k_is); (case k=>k_is)
   (case b=>intro _ _ _ _ _ _ us hl; obtain ⟨_,_,rfl⟩:=L2.fB hl; rfl)
  have d_greatest_seen:Def (L2.aG KX) mg "greatest_seen" My.qE ["day"]:=by
   dsimp only [L2.aG]
   refine' L2.bE KX G ?a ?l ?c ?k ?b
   (case a=>k_is); (case l=>k_is); (case c=>k_is); (case k=>k_is)
   (case b=>intro _ _ _ _ _ _ us hl; obtain ⟨_,rfl⟩:=L2.gq hl; rfl)
  have d_next_stock:Def (L2.aG KX) mg "next_stock" My.tD ["shop","level","fall"]:=by
   dsimp only [L2.aG]
   refine' L2.bE KX G ?a ?l ?c ?k ?b
   (case a=>k_is); (case l=>k_is); (case c=>k_is); (case k=>k_is)
   (case b=>intro _ _ _ _ _ _ us hl; obtain ⟨_,_,_,rfl⟩:=L2.fR hl; rfl)
  have d_day_cost:Def (L2.aG KX) mg "day_cost" My.tG ["shop","level","fall"]:=by
   dsimp only [L2.aG]
   refine' L2.bE KX G ?a ?l ?c ?k ?b
   (case a=>k_is); (case l=>k_is); (case c=>k_is); (case k=>k_is)
   (case b=>intro _ _ _ _ _ _ us hl; obtain ⟨_,_,_,rfl⟩:=L2.fR hl; rfl)
  have d_end_cost:Def (L2.aG KX) mg "end_cost" My.tF ["shop","stock"]:=by
   dsimp only [L2.aG]
   refine' L2.bE KX G ?a ?l ?c ?k ?b
   (case a=>k_is); (case l=>k_is); (case c=>k_is); (case k=>k_is)
   (case b=>intro _ _ _ _ _ _ us hl; obtain ⟨_,_,rfl⟩:=L2.fB hl; rfl)
  have d_cheapest_from:Def (L2.aG KX) mg "cheapest_from" My.tK ["shop","low","by_level","scale"]:=by
   dsimp only [L2.aG]
   refine' L2.bE KX G ?a ?l ?c ?k ?b
   (case a=>k_is); (case l=>k_is); (case c=>k_is); (case k=>k_is)
   (case b=>intro _ _ _ _ _ _ us hl; obtain ⟨_,_,_,_,rfl⟩:=L2.fA hl; rfl)
  have d_free_from:Def (L2.aG KX) mg "free_from" My.qF ["shop","falls","t"]:=by
   dsimp only [L2.aG]
   refine' L2.bE KX G ?a ?l ?c ?k ?b
   (case a=>k_is); (case l=>k_is); (case c=>k_is); (case k=>k_is)
   (case b=>intro _ _ _ _ _ _ us hl; obtain ⟨_,_,_,rfl⟩:=L2.fR hl; rfl)
  have d_ask_free:Def (L2.aG KX) mg "ask_free" My.tL ["shop","falls","stock"]:=by
   dsimp only [L2.aG]
   refine' L2.bE KX G ?a ?l ?c ?k ?b
   (case a=>k_is); (case l=>k_is); (case c=>k_is); (case k=>k_is)
   (case b=>intro _ _ _ _ _ _ us hl; obtain ⟨_,_,_,rfl⟩:=L2.fR hl; rfl)
  have d_scale_of:Def (L2.aG KX) mg "scale_of" My.tz ["days"]:=by
   dsimp only [L2.aG]
   refine' L2.bE KX G ?a ?l ?c ?k ?b
   (case a=>k_is); (case l=>k_is); (case c=>k_is); (case k=>k_is)
   (case b=>intro _ _ _ _ _ _ us hl; obtain ⟨_,rfl⟩:=L2.gq hl; rfl)
  have d_weights_together:Def (L2.aG KX) mg "weights_together" My.tm ["days"]:=by
   dsimp only [L2.aG]
   refine' L2.bE KX G ?a ?l ?c ?k ?b
   (case a=>k_is); (case l=>k_is); (case c=>k_is); (case k=>k_is)
   (case b=>intro _ _ _ _ _ _ us hl; obtain ⟨_,rfl⟩:=L2.gq hl; rfl)
  have d_weighed_day:Def (L2.aG KX) mg "weighed_day" My.qA ["shop","weights","stock"]:=by
   dsimp only [L2.aG]
   refine' L2.bE KX G ?a ?l ?c ?k ?b
   (case a=>k_is); (case l=>k_is); (case c=>k_is); (case k=>k_is)
   (case b=>intro _ _ _ _ _ _ us hl; obtain ⟨_,_,_,rfl⟩:=L2.fR hl; rfl)
  have d_weighed_end:Def (L2.aG KX) mg "weighed_end" My.qz ["shop","weights","stock"]:=by
   dsimp only [L2.aG]
   refine' L2.bE KX G ?a ?l ?c ?k ?b
   (case a=>k_is); (case l=>k_is); (case c=>k_is); (case k=>k_is)
   (case b=>intro _ _ _ _ _ _ us hl; obtain ⟨_,_,_,rfl⟩:=L2.fR hl; rfl)
  have d_weighed_ahead:Def (L2.aG KX) mg "weighed_ahead" My.qB ["day","ahead","level"]:=by
   dsimp only [L2.aG]
   refine' L2.bE KX G ?a ?l ?c ?k ?b
   (case a=>k_is); (case l=>k_is); (case c=>k_is); (case k=>k_is)
   (case b=>intro _ _ _ _ _ _ us hl; obtain ⟨_,_,_,rfl⟩:=L2.fR hl; rfl)
  have d_counted_sums:Def (L2.aG KX) mg "counted_sums" My.tH ["shop","falls","days","ahead","low"]:=by
   dsimp only [L2.aG]
   refine' L2.bE KX G ?a ?l ?c ?k ?b
   (case a=>k_is); (case l=>k_is); (case c=>k_is); (case k=>k_is)
   (case b=>intro _ _ _ _ _ _ us hl; obtain ⟨_,_,_,_,_,rfl⟩:=L2.ZcV hl; rfl)
  have d_least_counted:Def (L2.aG KX) mg "least_counted" My.qC ["falls","t","stock"]:=by
   dsimp only [L2.aG]
   refine' L2.bE KX G ?a ?l ?c ?k ?b
   (case a=>k_is); (case l=>k_is); (case c=>k_is); (case k=>k_is)
   (case b=>intro _ _ _ _ _ _ us hl; obtain ⟨_,_,_,rfl⟩:=L2.fR hl; rfl)
  have d_end_ahead:Def (L2.aG KX) mg "end_ahead" My.qG ["shop","falls","orders","stock"]:=by
   dsimp only [L2.aG]
   refine' L2.bE KX G ?a ?l ?c ?k ?b
   (case a=>k_is); (case l=>k_is); (case c=>k_is); (case k=>k_is)
   (case b=>intro _ _ _ _ _ _ us hl; obtain ⟨_,_,_,_,rfl⟩:=L2.fA hl; rfl)
  have d_short_days:Def (L2.aG KX) mg "short_days" My.oV ["shop","falls","days","stock"]:=by
   dsimp only [L2.aG]
   refine' L2.bE KX G ?a ?l ?c ?k ?b
   (case a=>k_is); (case l=>k_is); (case c=>k_is); (case k=>k_is)
   (case b=>intro _ _ _ _ _ _ us hl; obtain ⟨_,_,_,_,rfl⟩:=L2.fA hl; rfl)
  have d_least_late:Def (L2.aG KX) mg "least_late" My.tE ["shop","falls","days","stock"]:=by
   dsimp only [L2.aG]
   refine' L2.bE KX G ?a ?l ?c ?k ?b
   (case a=>k_is); (case l=>k_is); (case c=>k_is); (case k=>k_is)
   (case b=>intro _ _ _ _ _ _ us hl; obtain ⟨_,_,_,_,rfl⟩:=L2.fA hl; rfl)
  have d_short_table:Def (L2.aG KX) mg "short_table" My.tu ["shop","falls","days","stock"]:=by
   dsimp only [L2.aG]
   refine' L2.bE KX G ?a ?l ?c ?k ?b
   (case a=>k_is); (case l=>k_is); (case c=>k_is); (case k=>k_is)
   (case b=>intro _ _ _ _ _ _ us hl; obtain ⟨_,_,_,_,rfl⟩:=L2.fA hl; rfl)
  have d__law_pen:Def (L2.aG KX) mg "_law_pen" My.tR ["_law_script"]:=by
   dsimp only [L2.aG]
   refine' L2.bE KX G ?a ?l ?c ?k ?b
   (case a=>k_is); (case l=>k_is); (case c=>k_is); (case k=>k_is)
   (case b=>intro _ _ _ _ _ _ us hl; obtain ⟨_,rfl⟩:=L2.gq hl; rfl)
  have d__law_draw:Def (L2.aG KX) mg "_law_draw" My.tV ["_law_pen_here","_law_many"]:=by
   dsimp only [L2.aG]
   refine' L2.bE KX G ?a ?l ?c ?k ?b
   (case a=>k_is); (case l=>k_is); (case c=>k_is); (case k=>k_is)
   (case b=>intro _ _ _ _ _ _ us hl; obtain ⟨_,_,rfl⟩:=L2.fB hl; rfl)
  have d__law_day:Def (L2.aG KX) mg "_law_day" My.qL ["_law_pen_here","_law_most"]:=by
   dsimp only [L2.aG]
   refine' L2.bE KX G ?a ?l ?c ?k ?b
   (case a=>k_is); (case l=>k_is); (case c=>k_is); (case k=>k_is)
   (case b=>intro _ _ _ _ _ _ us hl; obtain ⟨_,_,rfl⟩:=L2.fB hl; rfl)
  have d__law_greatest:Def (L2.aG KX) mg "_law_greatest" My.qJ ["_law_falls"]:=by
   dsimp only [L2.aG]
   refine' L2.bE KX G ?a ?l ?c ?k ?b
   (case a=>k_is); (case l=>k_is); (case c=>k_is); (case k=>k_is)
   (case b=>intro _ _ _ _ _ _ us hl; obtain ⟨_,rfl⟩:=L2.gq hl; rfl)
  have d__law_prices:Def (L2.aG KX) mg "_law_prices" My.qH ["_law_pen_here"]:=by
   dsimp only [L2.aG]
   refine' L2.bE KX G ?a ?l ?c ?k ?b
   (case a=>k_is); (case l=>k_is); (case c=>k_is); (case k=>k_is)
   (case b=>intro _ _ _ _ _ _ us hl; obtain ⟨_,rfl⟩:=L2.gq hl; rfl)
  have d__law_asked:Def (L2.aG KX) mg "_law_asked" My.qM ["_law_pen_here"]:=by
   dsimp only [L2.aG]
   refine' L2.bE KX G ?a ?l ?c ?k ?b
   (case a=>k_is); (case l=>k_is); (case c=>k_is); (case k=>k_is)
   (case b=>intro _ _ _ _ _ _ us hl; obtain ⟨_,rfl⟩:=L2.gq hl; rfl)
  have d__law_order:Def (L2.aG KX) mg "_law_order" My.tS ["_law_shop","_law_pieces"]:=by
   dsimp only [L2.aG]
   refine' L2.bE KX G ?a ?l ?c ?k ?b
   (case a=>k_is); (case l=>k_is); (case c=>k_is); (case k=>k_is)
   (case b=>intro _ _ _ _ _ _ us hl; obtain ⟨_,_,rfl⟩:=L2.fB hl; rfl)
  have d__law_rest_cost:Def (L2.aG KX) mg "_law_rest_cost" My.tP ["_law_shop","_law_rest"]:=by
   dsimp only [L2.aG]
   refine' L2.bE KX G ?a ?l ?c ?k ?b
   (case a=>k_is); (case l=>k_is); (case c=>k_is); (case k=>k_is)
   (case b=>intro _ _ _ _ _ _ us hl; obtain ⟨_,_,rfl⟩:=L2.fB hl; rfl)
  have d__law_end:Def (L2.aG KX) mg "_law_end" My.tU ["_law_shop","_law_rest"]:=by
   dsimp only [L2.aG]
   refine' L2.bE KX G ?a ?l ?c ?k ?b
   (case a=>k_is); (case l=>k_is); (case c=>k_is); (case k=>k_is)
   (case b=>intro _ _ _ _ _ _ us hl; obtain ⟨_,_,rfl⟩:=L2.fB hl; rfl)
  have d__law_bottom:Def (L2.aG KX) mg "_law_bottom" My.tW ["_law_falls","_law_t"]:=by
   dsimp only [L2.aG]
   refine' L2.bE KX G ?a ?l ?c ?k ?b
   (case a=>k_is); (case l=>k_is); (case c=>k_is); (case k=>k_is)
   (case b=>intro _ _ _ _ _ _ us hl; obtain ⟨_,_,rfl⟩:=L2.fB hl; rfl)
  have d__law_share:Def (L2.aG KX) mg "_law_share" My.tN ["_law_top","_law_bottom_here"]:=by
   dsimp only [L2.aG]
   refine' L2.bE KX G ?a ?l ?c ?k ?b
   (case a=>k_is); (case l=>k_is); (case c=>k_is); (case k=>k_is)
   (case b=>intro _ _ _ _ _ _ us hl; obtain ⟨_,_,rfl⟩:=L2.fB hl; rfl)
  have d__law_lying:Def (L2.aG KX) mg "_law_lying" My.qI ["_law_shop","_law_falls","_law_level","_law_has_end"]:=by
   dsimp only [L2.aG]
   refine' L2.bE KX G ?a ?l ?c ?k ?b
   (case a=>k_is); (case l=>k_is); (case c=>k_is); (case k=>k_is)
   (case b=>intro _ _ _ _ _ _ us hl; obtain ⟨_,_,_,_,rfl⟩:=L2.fA hl; rfl)
  have d__law_row:Def (L2.aG KX) mg "_law_row" My.tO ["_law_shop","_law_falls","_law_days","_law_t","_law_lowest","_law_later"]:=by
   dsimp only [L2.aG]
   refine' L2.bE KX G ?a ?l ?c ?k ?b
   (case a=>k_is); (case l=>k_is); (case c=>k_is); (case k=>k_is)
   (case b=>intro _ _ _ _ _ _ us hl; obtain ⟨_,_,_,_,_,_,rfl⟩:=L2.ZiR hl; rfl)
  have d__law_first_days:Def (L2.aG KX) mg "_law_first_days" My.tT ["_law_shop","_law_falls","_law_days","_law_stock"]:=by
   dsimp only [L2.aG]
   refine' L2.bE KX G ?a ?l ?c ?k ?b
   (case a=>k_is); (case l=>k_is); (case c=>k_is); (case k=>k_is)
   (case b=>intro _ _ _ _ _ _ us hl; obtain ⟨_,_,_,_,rfl⟩:=L2.fA hl; rfl)
  have d__law_due:Def (L2.aG KX) mg "_law_due" My.qK ["_law_shop","_law_falls","_law_days","_law_stock"]:=by
   dsimp only [L2.aG]
   refine' L2.bE KX G ?a ?l ?c ?k ?b
   (case a=>k_is); (case l=>k_is); (case c=>k_is); (case k=>k_is)
   (case b=>intro _ _ _ _ _ _ us hl; obtain ⟨_,_,_,_,rfl⟩:=L2.fA hl; rfl)
  have d__law_refused:Def (L2.aG KX) mg "_law_refused" My.tQ ["_law_shop","_law_falls","_law_days","_law_stock"]:=by
   dsimp only [L2.aG]
   refine' L2.bE KX G ?a ?l ?c ?k ?b
   (case a=>k_is); (case l=>k_is); (case c=>k_is); (case k=>k_is)
   (case b=>intro _ _ _ _ _ _ us hl; obtain ⟨_,_,_,_,rfl⟩:=L2.fA hl; rfl)
  have d__law_tight_right:Def (L2.aG KX) mg "_law_tight_right" My.tM ["_law_pen_here","_law_shop","_law_falls"]:=by
   dsimp only [L2.aG]
   refine' L2.bE KX G ?a ?l ?c ?k ?b
   (case a=>k_is); (case l=>k_is); (case c=>k_is); (case k=>k_is)
   (case b=>intro _ _ _ _ _ _ us hl; obtain ⟨_,_,_,rfl⟩:=L2.fR hl; rfl)
  have d_law:Def (L2.aG KX) mg "law" My.qD ["_law_script"]:=by
   dsimp only [L2.aG]
   refine' L2.bE KX G ?a ?l ?c ?k ?b
   (case a=>k_is); (case l=>k_is); (case c=>k_is); (case k=>k_is)
   (case b=>intro _ _ _ _ _ _ us hl; obtain ⟨_,rfl⟩:=L2.gq hl; rfl)
  have x_err:∃ C D a0 a1 a2 a3 a4 a5 a6:Addr,mg "NoStand"=some (.ref C)/\mg "ShopError"=some (.ref D)/\mg "NoBack"=some (.ref a0)/\mg "NoFall"=some (.ref a1)/\mg "NoLevel"=some (.ref a2)/\mg "NoMean"=some (.ref a3)/\mg "NoRow"=some (.ref a4)/\mg "NoShare"=some (.ref a5)/\mg "NoText"=some (.ref a6)/\L2.Exc (L2.aG KX) C D [a0,a1,a2,a3,a4,a5,a6]:=by
   dsimp only [L2.aG]
   refine' My.ZjW KX G ?c ?d ?z0 ?z1 ?z2 ?z3 ?z4 ?z5 ?z6 ?q ?q2 ?u ?v ?y
   (case c=>k_is); (case d=>k_is); (case z0=>k_is); (case z1=>k_is); (case z2=>k_is); (case z3=>k_is); (case z4=>k_is); (case z5=>k_is); (case z6=>k_is)
   (case q=>kernel_rfl!); (case q2=>kernel_rfl!); (case u=>kernel_rfl!); (case v=>kit_is); (case y=>kit_is)
  have T:My.Txt (L2.aG KX) mg:=by
   dsimp only [L2.aG] at *
   refine' My.ZfF KX G ?z_len ?z_abs ?z_max ?z_min ?z_repr ?z_int ?z_list ?z_tuple ?z_range ?z_isinstance ?z_sorted ?z_sum ?z_enumerate ?z_ValueError ?z_reversed ?z_TOP ?z_DEPTH ?z_START ?z_PIECE ?z_KEEP ?z_LACK ?z_LOST ?z_BACK ?z_LATE d_common_divisor d_share d_greatest_seen d_next_stock d_day_cost d_end_cost d_cheapest_from d_free_from d_ask_free d_scale_of d_weights_together d_weighed_day d_weighed_end d_weighed_ahead d_counted_sums d_least_counted d_end_ahead d_short_days d_least_late d_short_table d__law_pen d__law_draw d__law_day d__law_greatest d__law_prices d__law_asked d__law_order d__law_rest_cost d__law_end d__law_bottom d__law_share d__law_lying d__law_row d__law_first_days d__law_due d__law_refused d__law_tight_right d_law x_err
   (case z_len=>k_is)
   (case z_abs=>k_is)
   (case z_max=>k_is)
   (case z_min=>k_is)
   (case z_repr=>k_is)
   (case z_int=>k_is)
   (case z_list=>k_is)
   (case z_tuple=>k_is)
   (case z_range=>k_is)
   (case z_isinstance=>k_is)
   (case z_sorted=>k_is)
   (case z_sum=>k_is)
   (case z_enumerate=>k_is)
   (case z_ValueError=>k_is)
   (case z_reversed=>k_is)
   (case z_TOP=>k_is)
   (case z_DEPTH=>k_is)
   (case z_START=>k_is)
   (case z_PIECE=>k_is)
   (case z_KEEP=>k_is)
   (case z_LACK=>k_is)
   (case z_LOST=>k_is)
   (case z_BACK=>k_is)
   (case z_LATE=>k_is)
  obtain ⟨f,fd,F,hm,_⟩:=T.ZkD.ex
  have e0:=hmg.symm.trans hm
  cases e0
  refine ⟨fd,?_,λbase _ _=>My.Zh9 T F (L2.Tr.ok_mono (L2.Tr.all_ok My.law_true.out (by decide)) λ_ _ h=>h.2)⟩
  obtain ⟨oc,od,kV,doc,pm,an,cdv,ct,osl,rfl,lk,hcd⟩:=F.ex
  exact λs u=>.of_eq rfl
 case S=>exact λK H a ns hl _ hS=>⟨a,ns,rfl,hS,hl,λ_=>rfl⟩
 case C=>exact λ_ _ _ _ z=>z
