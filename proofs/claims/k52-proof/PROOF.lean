import PyProof.Rows.All
import OpenK.KLine
import OpenK.KWalk
import OpenK.KOwn
import KE.IntTextLaws
import KE.KDictOf
import KE.KFromBytes
import KE.KIntText
import KE.RegKIsAll
import KE.KItem
import KE.KRevIter
import KE.KRevSl
import KE.KxBytes
import PySem.Challenge.RW_twomarks_k52_tables_as_texts
set_option Elab.async false
set_option linter.all false
set_option maxRecDepth 100000
set_option maxHeartbeats 0
noncomputable abbrev My.vw : PySem.Program := PySem.W.view
 PySem.Challenge.rw_twomarks_k52_tables_as_texts.row.prog [1, 2, 3, 4, 5, 6, 7, 8, 9, 11, 13, 14, 15, 17, 18, 19, 20, 21, 22, 23, 24, 25, 26, 27, 28, 29, 31, 32, 33, 34, 35, 36, 37, 38, 40, 41, 43, 44, 45, 46, 48, 49, 50, 51, 52, 53, 55, 56, 57, 58, 59, 60, 61, 62, 63, 64, 65, 66, 67, 68, 69]
open PySem PySem.W in
theorem My.hd_s {p:Program} {N:Nat} {α β:Type} {S:Shared->α×β} {G:α×β} (a:∀ w,(openEnds treeTable p w N).map (λs=>(S s).1)=some G.1) (b:∀ w,(openEnds treeTable p w N).map (λs=>(S s).2)=some G.2):∀ w,(openEnds treeTable p w N).map S=some G:=λw=>by
 have h:=a w
 have g:=b w
 cases e:openEnds treeTable p w N with
 | none=>rw [e] at h;exact nomatch h
 | some s=>rw [e,Option.map_some] at h g;rw [Option.map_some];exact congrArg some (Prod.ext (Option.some.inj h) (Option.some.inj g))
open PySem PySem.W in
theorem My.hd_l {p q:Program} {loose:List Str} {Xt:Shared->Bool} {α:Type} {Yf:Shared->α} {Ya:World->α} {N:Nat} (a:∀ w,(openEnds treeTable p w N).map (λs=>openSeen q loose (importedModules p.main.body) Xt true s)=some (openGood q loose)) (b:∀ w,(openEnds treeTable p w N).map Yf=some (Ya w)):LeftO p q loose Xt Yf Ya N:=λw=>by
 have h:=a w
 have g:=b w
 cases e:openEnds treeTable p w N with
 | none=>rw [e] at h;exact nomatch h
 | some s=>rw [e,Option.map_some] at h g;rw [Option.map_some,Option.some.inj h,Option.some.inj g]
theorem My.hd_b {A B C H:Prop} (f:A->B->C->H) (p:A∧B∧C):H:=f p.1 p.2.1 p.2.2
local macro_rules
 | `(tactic| o_head $H:term) => `(tactic| (
  refine My.hd_b (λa b c => PySem.W.holds_open (q := My.vw) (loose := ["PART"])
   (Xt := λs => PySem.W.xlAt My.vw [("PART", .int 10000000000000000000000000000000000000000000000000000000000000000)] s && PySem.W.recOk
    (PySem.W.RowW.records PySem.Challenge.rw_twomarks_k52_tables_as_texts.row.toRowW) s)
   (XP := PySem.W.XL My.vw [("PART", .int 10000000000000000000000000000000000000000000000000000000000000000)]) (Yf := ($H).obs)
   (Ya := ($H).val) (YP := ($H).says) (N := 20000) (My.hd_l a b)
   ($H).of ($H).keeps (λs e => PySem.W.xl_of s
    (Bool.and_eq_true_iff.mp e).1) PySem.W.XL.keeps
   (by rfl) (by rfl) (by rfl)
   (λs e => PySem.W.recFacts_of
    (Bool.and_eq_true_iff.mp e).2)
   (by rfl) ?k1 (by decide +kernel)
   ⟨rfl, rfl, rfl, rfl, rfl, by decide +kernel⟩ ?hw c) ?hc
  (case k1 => assumption)))
open_top My.hd_0 for PySem.Challenge.rw_twomarks_k52_tables_as_texts
noncomputable def My.hd_n:=λx0 x1 x2 x3 b c=>My.hd_0 ⟨(My.hd_s x0 (My.hd_s x1 (My.hd_s x2 x3))),b,c⟩
noncomputable def My.hd_n0:=λx1 x2 x3 b c=>My.hd_n (λw=>by kernel_rfl) x1 x2 x3 b c
noncomputable def My.hd_n1:=λx2 x3 b c=>My.hd_n0 (λw=>by kernel_rfl) x2 x3 b c
noncomputable def My.hd_n2:=λx3 b c=>My.hd_n1 (λw=>by kernel_rfl) x3 b c
noncomputable def My.hd_n3:=λb c=>My.hd_n2 (λw=>by kernel_rfl) b c
noncomputable def My.hd_1:=My.hd_n3
noncomputable def My.hd:=λc=>My.hd_1 (λw=>by kernel_rfl) c
set_option maxHeartbeats 4000000
open PySem PySem.Spec PyProof.Rows
def vA:=@PySem.Heap.get?_push_of_some
def vB:=@List.length_map
def vC:=@List.mem_cons_of_mem
def vD:=@List.mem_cons
def vE:=@Nat.lt_of_lt_of_le
def vF:=@Nat.le_refl
def vG:=@List.map_cons
def vH:=@List.getElem?_eq_some_iff
def vI:=@PySem.Heap.get?_push_size
def vJ:=@List.mem_append_right
def vK:=@List.size_toArray
def vL:=@Bool.false_ne_true
def vM:=@PySem.Heap.lt_size
def vN:=@List.length_cons
def vO:=@Nat.le_trans
def vP:=@List.getElem?_set_ne
def vQ:=@Bool.and_eq_true
def vR:=@Nat.ne_of_lt
def vS:=@Bool.not_true
def vT:=@Option.some.inj
def vU:=@Nat.lt_irrefl
def vV:=@PySem.W.mg_none_of
def vW:=@List.length_append
def vX:=@PySem.F.type_str_split
def vY:=@PySem.F.slot_str_split
def vZ:=@List.getElem?_set_self
def v3:=@Bool.not_false
def v5:=@List.getElem?_map
def v6:=@PySem.W.mg_of
def v7:=@List.append_nil
def v8:=@PySem.SeqAt.canLay_of_shaped
def v9:=@List.getElem?_append_left
def wa:=@List.not_mem_nil
def wb:=@Bool.false_eq_true
def wc:=@List.lookup_cons
def we:=@PySem.F.plainAttrs_list
def wf:=@List.getElem?_replicate
def wj:=@List.replicate_succ
def wk:=@List.map_append
def wl:=@List.getElem?_append_right
def wm:=@Array.length_toList
def wn:=@PySem.W.kia_one
def wo:=@List.sum_cons
def wq:=@Nat.ne_of_gt
def wt:=@List.length_reverse
def wu:=@PySem.PyData.hasDict_of_canLay
def wv:=@List.flatten_cons
def ww:=@List.append_assoc
def wx:=@List.mem_cons_self
def wy:=@List.length_set
def wz:=@List.filterMap_cons
def wA:=@PySem.Heap.get?_update_other
def wB:=@PySem.F.type_list_append
def wC:=@PySem.F.slot_list_append
def wD:=@PySem.PassesOwn.never
def wE:=@List.mem_append
def wF:=@PySem.Heap.size_push
def wG:=@Option.map_eq_some_iff
def wH:=@PySem.mem_of_lookup
def wI:=@List.getElem?_range
def wJ:=@Array.toList_append
def wK:=@List.drop_eq_getElem_cons
def wL:=@List.map_map
def wM:=@Nat.lt_of_le_of_lt
def wN:=@Nat.zero_le
def wO:=@List.mem_append_left
def wP:=@List.length_eq_zero_iff
def wQ:=@List.mem_map
def wR:=@List.map_nil
def wS:=@PySem.Around.under_plainId
def wT:=@PyProof.Rows.slot_tuple_getitem
def wU:=@List.length_nil
def wV:=@Option.bind_eq_some_iff
def wW:=@Int.mul_le_mul_of_nonneg_left
def wX:=@PyProof.Rows.callWith_type1
def wY:=@List.length_replicate
def wZ:=@List.getElem?_reverse
def w6:=@PySem.F.plain_min_loop
def w8:=@PySem.Str.cps_append
def xa:=@Int.toNat_natCast
def xb:=@Bool.not_eq_true'
def xf:=@PySem.StrLaws.join_split
def xg:=@PySem.Obj.data_mapFields
def xh:=@Array.getElem?_eq_some_iff
def xi:=@PySem.Heap.get?_update_self
def xj:=@Nat.le_of_not_lt
def xk:=@List.drop_length
def xl:=@Nat.succ_mul
def xm:=@Nat.le_of_lt
def xn:=@Int.le_of_lt
def xp:=@PySem.F.slot_tuple_iterator_next
def xq:=@Option.map_some
def xr:=@Nat.pos_of_ne_zero
def xt:=@List.mem_singleton
def xu:=@List.find?_cons
def xv:=@List.contains_cons
def xw:=@PySem.Heap.SameBut.update
def xx:=@Nat.lt_succ_of_lt
def xy:=@Nat.le_of_succ_le
def xz:=@List.reverse_cons
def xA:=@Int.le_refl
def xB:=@PySem.F.type_str_join
def xC:=@PySem.F.slot_str_join
def xD:=@List.length_drop
def xE:=@List.all_eq_true
def xF:=@Nat.pow_le_pow_right
def xG:=@List.any_cons
def xH:=@Option.map_none
def xI:=@List.sum_append
def xJ:=@List.foldl_cons
def xK:=@Bool.eq_iff_iff
def xL:=@Int.fmod_eq_emod_of_nonneg
def xM:=@Option.isNone_some
def xN:=@List.zip_cons_cons
def xO:=@Int.emod_lt_of_pos
def xP:=@PySem.F.excBase_ValueError
def xQ:=@PySem.F.type_list_reverse
def xR:=@PySem.F.slot_list_reverse
def xS:=@Int.natAbs_mul
def xT:=@Int.mul_nonneg
def xU:=@PySem.F.args_tuple_add_2
def xV:=@List.length_range
def xW:=@List.getElem?_eq_getElem
def xX:=@PySem.F.entry_tuple_add
def xY:=@List.head_eq_of_cons_eq
def xZ:=@Int.eq_ofNat_of_zero_le
def x3:=@PySem.Calls.Name_function_global
def x4:=@Bool.true_and
def x5:=@PySem.Txt.slice_le
def x6:=@PySem.F.slot_tuple_add
def x8:=@List.take_of_length_le
def x9:=@Nat.pow_succ
def ya:=@Nat.mul_comm
def yb:=@Nat.lt_trans
def yc:=@List.nodup_cons
def ye:=@Int.emod_nonneg
def yf:=@List.mem_of_getElem?
def yg:=@List.mem_range
def yh:=@List.drop_zero
def yi:=@List.length_pos_iff
def yj:=@PySem.Obj.isFreed_of_fields
def yk:=@PySem.F.typeOf_object_class
def yl:=@PySem.F.attrBase_ValueError
def ym:=@Array.append_empty
def yn:=@PySem.W.kitx_dict
def yo:=@Nat.mod_lt
def yq:=@PySem.F.args_object_init_2
def yr:=@Nat.zero_add
def yt:=@Nat.gcd_comm
def yu:=@Nat.min_le_right
def yv:=@Nat.lt_succ_self
def yw:=@List.length_take
def yx:=@List.getElem_mem
def yy:=@List.dropLast_concat_getLast
def yz:=@PySem.Paired.length
def yA:=@Nat.log2_lt
def yB:=@List.range_succ
def yC:=@List.of_mem_zip
def yD:=@List.mem_filter
def yE:=@Int.mul_add
def yF:=@PySem.F.args_str_split_2
def yG:=@Bool.or_eq_true
def yH:=@PySem.F.entry_str_split
def yI:=@Array.getElem?_eq_getElem
def yJ:=@PyProof.noPylong_of_log2
def yK:=@Lean.Omega.Int.ofNat_min
def yL:=@Int.mul_fdiv_cancel_left
def yM:=@List.tail_eq_of_cons_eq
def yN:=@List.all_cons
def yO:=@Int.mul_assoc
def yP:=@PySem.F.slot_str_split
def yQ:=@PySem.F.entry_min_loop
def yR:=@Bool.and_true
abbrev yS:=PySem.W.Frag
abbrev y3:=PyData->PyData->Option PyData
abbrev y4:=Value->Shared->Prop
abbrev y6:=List PyData
abbrev y8:=List Int
abbrev y9:=List Value
abbrev za:=List Str
abbrev zc:=Str->Option Value
local macro_rules | `(tactic| trivial) => `(tactic| first | decide +kernel | exact ⟨rfl,rfl,rfl,by decide +kernel,rfl,by decide +kernel,by decide +kernel⟩ | exact ⟨rfl,by decide +kernel,by decide +kernel,by decide +kernel,by decide +kernel⟩ | fail "x")
namespace L2
noncomputable abbrev aA:=Sum Int Str
noncomputable def jB:aA->Value->Bool
 | .inl k,v=>Value.isInt k v
 | .inr x,v=>Value.isStrOf x v
noncomputable def ZkK (w:World):aA->Int
 | .inl k=>hashInt k
 | .inr x=>hashStr w x
theorem gu:∀ {k:aA} {v:Value},jB k v=true->(∃ i t,k=Sum.inl i/\v=Value.int i t)\/(∃ x t,k=Sum.inr x/\v=Value.str x t)
 | .inl i,v,h=>by
  obtain ⟨t,e⟩:=Value.isInt_shape (k:=i) (v:=v) h
  exact .inl ⟨i,t,rfl,e⟩
 | .inr x,v,h=>by
  obtain ⟨t,e⟩:=Value.isStrOf_shape (x:=x) (v:=v) h
  exact .inr ⟨x,t,rfl,e⟩
theorem ZkJ (i:Int) (t:Tok):jB (.inl i) (.int i t)=true:=by simp [jB,Value.isInt]
theorem ZkI (x:Str) (t:Tok):jB (.inr x) (.str x t)=true:=by simp [jB,Value.isStrOf]
theorem ZkH (a b:Int):decide ((Sum.inl a:aA)=Sum.inl b)=(a == b):=by
 by_cases e:a=b
 ·subst e; simp
 ·have h:¬ (Sum.inl a:aA)=Sum.inl b:=λq=>e (Sum.inl.inj q)
  rw [decide_eq_false h]
  exact (beq_eq_false_iff_ne.mpr e).symm
theorem ZkE (a b:Str):decide ((Sum.inr a:aA)=Sum.inr b)=decide (a=b):=by
 by_cases e:a=b
 ·subst e; simp
 ·have h:¬ (Sum.inr a:aA)=Sum.inr b:=λq=>e (Sum.inr.inj q)
  rw [decide_eq_false h,decide_eq_false e]
theorem ZkG (a:Int) (b:Str):decide ((Sum.inl a:aA)=Sum.inr b)=false:=decide_eq_false (λq=>nomatch q)
theorem ZkF (a:Str) (b:Int):decide ((Sum.inr a:aA)=Sum.inl b)=false:=decide_eq_false (λq=>nomatch q)
noncomputable def dk (prog:Program) (w:World):PySem.KeyKind prog w aA where
 is:=jB
 hash:=ZkK w
 inj:=λv a b ha hb=>by
  rcases gu ha with ⟨i,t,rfl,rfl⟩ | ⟨x,t,rfl,rfl⟩
  ·rcases gu hb with ⟨j,u,rfl,e⟩ | ⟨y,u,rfl,e⟩
   ·injection e with e1 _; rw [e1]
   ·exact nomatch e
  ·rcases gu hb with ⟨j,u,rfl,e⟩ | ⟨y,u,rfl,e⟩
   ·exact nomatch e
   ·injection e with e1 _; rw [e1]
 byValue:=λk v h=>by
  rcases gu h with ⟨i,t,rfl,rfl⟩ | ⟨x,t,rfl,rfl⟩ <;> rfl
 pyHash:=λhv h=>by
  rcases gu hv with ⟨i,t,rfl,rfl⟩ | ⟨x,t,rfl,rfl⟩
  ·exact wpAny_pyHash_int h
  ·exact wpAny_pyHash_str h
 eqBool:=λhu hv h=>by
  rcases gu hu with ⟨i,t,rfl,rfl⟩ | ⟨x,t,rfl,rfl⟩
  ·rcases gu hv with ⟨j,u,rfl,rfl⟩ | ⟨y,u,rfl,rfl⟩
   ·rw [ZkH] at h; exact wpAny_eqBool_int h
   ·rw [ZkG] at h; exact SeqAt.EqAt.int_str i t y u _ _ _ _ h
  ·rcases gu hv with ⟨j,u,rfl,rfl⟩ | ⟨y,u,rfl,rfl⟩
   ·rw [ZkF] at h; exact SeqAt.EqAt.str_int x t j u _ _ _ _ h
   ·rw [ZkE] at h; exact wpAny_eqBool_str h
 «strs»:=λk x t v h=>by
  rcases gu h with ⟨i,u,rfl,e⟩ | ⟨y,u,rfl,e⟩
  ·exact nomatch e
  ·injection e with e1 _
   subst e1
   cases v <;> rfl
theorem Zj1 (prog:Program) (w:World) (i:Int) (t:Tok):(dk prog w).is (.inl i) (.int i t)=true:=ZkJ i t
theorem Zj0 (prog:Program) (w:World) (x:Str) (t:Tok):(dk prog w).is (.inr x) (.str x t)=true:=ZkI x t
inductive V where
 | non | bl (b:Bool) | int (i:Int) | str (x:Str) | byt (b:Array UInt8) | flt (b:UInt64) | ref (a:Addr) | ty (n:String)
 deriving DecidableEq
abbrev zb:=List V
noncomputable def RelV:V->Value->Prop
 | .non,u=>u=Value.none
 | .bl b,u=>u=Value.bool b
 | .int i,u=>∃ t,u=Value.int i t
 | .str x,u=>∃ t,u=Value.str x t
 | .byt b,u=>∃ t,u=Value.bytes b t
 | .flt b,u=>∃ t,u=Value.float b t
 | .ref a,u=>u=Value.ref a
 | .ty n,u=>u=Value.type n
noncomputable abbrev Vals:List V->List Value->Prop:=Paired RelV
theorem Vals.length {xs:zb} {us:y9} (r:Vals xs us):xs.length=us.length:=yz r
theorem Vals.get {xs:zb} {us:y9} {i:Nat} {x:V} (h:Vals xs us) (e:xs[i]?=some x):∃ u,us[i]?=some u/\RelV x u:=by
 induction h generalizing i with
 | nil=>cases e
 | cons r t ih=>cases i with | zero=>cases e; exact ⟨_,rfl,r⟩ | succ i=>exact ih (i:=i) e
theorem Vals.append {xs ys:zb} {us ws:y9} (h:Vals xs us) (s:Vals ys ws):Vals (xs++ys) (us++ws):=by
 induction h with
 | nil=>exact s
 | cons r t ih=>exact .cons r ih
theorem Vals.take {xs:zb} {us:y9} (n:Nat) (h:Vals xs us):Vals (xs.take n) (us.take n):=by
 induction h generalizing n with
 | nil=>rw [List.take_nil,List.take_nil]; exact .nil
 | cons r t ih=>cases n with | zero=>exact .nil | succ n=>exact .cons r (ih n)
theorem Vals.drop {xs:zb} {us:y9} (n:Nat) (h:Vals xs us):Vals (xs.drop n) (us.drop n):=by
 induction h generalizing n with
 | nil=>rw [List.drop_nil,List.drop_nil]; exact .nil
 | cons r t ih=>cases n with | zero=>exact .cons r t | succ n=>exact ih n
noncomputable def RelO:Option V->Option Value->Prop
 | some v,some u=>RelV v u
 | none,none=>True
 | _,_=>False
noncomputable def KV {κ:Type}:List (κ×V)->List (κ×Value)->Prop:=Paired λ(p:κ×V) (q:κ×Value)=>p.1=q.1/\RelV p.2 q.2
noncomputable def kV:aA->V
 | .inl i=>.int i
 | .inr x=>.str x
inductive HO where
 /-- a list -/
 | lst (xs:zb)
 /-- a tuple (never changes) -/
 | tup (xs:zb)
 /-- a dict whose keys are ints and texts; one whose keys are tuples of ints and texts (the empty one is both) -/
 | dK (kvs:List (aA×V)) | dT (kvs:List (List aA×V))
 /-- a set of ints: its members,its size -/
 | set (S:Int->Bool) (n:Nat)
 /-- an instance of the class at C,its dict at dx,its attributes -/
 | ins (C dx:Addr) (fs:List (Str×V))
 /-- the dict of the instance at x -/
 | own (x:Addr)
 /-- the dict of an exception -/
 | xd (fs:List (Str×V))
 /-- a bound method,f of x -/
 | met (f x:Addr)
 /-- a range object lo,lo+1,.. below hi -/
 | rng (lo hi:Int)
 /-- a thing that is known to the object (the script; a dict while a loop walks it): read,never written while it is so -/
 | frz (o:Obj) (u:HO)
 /-- a code object's table -/
 | tbl (ps:Array Value)
 /-- any other thing,by what is true of its one object (a def of one's own: SetO a S n:=HO.ext λh=>..) -/
 | ext (φ:Heap->Prop)
 | cod (ps:Array Value)
noncomputable abbrev Hp:=Addr->Option HO
noncomputable def upd (H:Hp) (a:Addr) (o:HO):Hp:=λb=>if b=a then some o else H b
theorem bJ {H:Hp} {a:Addr} {o:HO}:upd H a o a=some o:=by unfold upd; rw [if_pos rfl]
theorem aK {H:Hp} {a b:Addr} {o:HO} (h:b≠a):upd H a o b=H b:=by unfold upd; rw [if_neg h]
theorem tF {H:Hp} {a b:Addr} {o u:HO} (h:H a=some o) (h':H b=some u) (d:o≠u):a≠b:=by
 intro e; subst e; rw [h] at h'; exact d (vT h')
theorem cH {H:Hp} {a b:Addr} {o:HO} (h:H a=some o) (h':H b=none):a≠b:=by
 intro e; subst e; rw [h] at h'; cases h'
section
variable (P:Program) (w:World)
noncomputable def ObjOk (H:Hp) (h:Heap) (a:Addr):HO->Prop
 | .lst xs=>xs.length<=sizeLine/\∃ (its:y9) (n:Nat),Vals xs its/\h.get? a=some { cls:=.type "list",data:=.seq its.toArray n }
 | .tup xs=>xs.length<=sizeLine/\∃ its:y9,Vals xs its/\IsTup h a its.toArray
 | .dK kvs=>kvs.length<=sizeLine/\(a == sysModules)=false/\∃ vs,KV kvs vs/\h.DictOf (dk P w) a vs
 | .dT kvs=>kvs.length<=sizeLine/\(a == sysModules)=false/\∃ xs:List (List aA×Addr×Value),
   Paired (λ(p:List aA×V) (q:List aA×Addr×Value)=>p.1=q.1/\H q.2.1=some (.tup (p.1.map kV))/\RelV p.2 q.2.2) kvs xs /\
   ∃ o es ep,h.get? a=some o/\o.ExactDict/\o.data=.dict es ep/\es.toList=xs.map (entryOfKey (tupleKind (dk P w)))/\(xs.map (·.1)).Nodup
 | .set S n=>h.SetOf (intKind P w) a S n
 | .ins C dx fs=>H dx=some (.own a)/\fs.length<=1000/\dx≠a/\h.get? a=some (PySem.W.instObj C dx) /\
   ∃ mA,h.Ns1 dx mA/\(∀ f,RelO (fs.lookup f) (mA f))/\PySem.Within mA (fs.map (·.1))
 | .own _=>∃ o,h.get? a=some o
 | .xd fs=>∃ mA,h.Ns1 a mA/\∀ f,RelO (fs.lookup f) (mA f)
 | .rng lo hi=>∃ t u v,h.get? a=some { cls:=.type "range",data:=.fields #[.int lo t,.int hi u,.int 1 v] }
 | .frz o u=>h.get? a=some o/\ObjOk H h a u
 | .tbl ps=>h.get? a=some { cls:=.none,data:=.fields ps }
 | .met f x=>h.get? a=some (PySem.W.methodObj (.ref f) (.ref x))
 | .ext φ=>φ h/\(∃ o,h.get? a=some o)/\∀ h1 h2:Heap,φ h1->(∀ o,h1.get? a=some o->h2.get? a=some o)->φ h2
 | .cod ps=>∃ more:Array Value,h.get? a=some { cls:=.none,data:=.fields (ps++more) }/\PySem.TriplesOk (ps++more).toList/\∀ (po:Pos) (v:Value),codeAmong po (ps++more).toList=some v->∃ (c:Addr) (ob:Obj) (vs:Array Value) (q:Str) (t:Tok),v=.ref c/\H c=some (.frz ob (.own 0))/\ob.data=.fields vs/\vs[1]?=some (.str q t)
def HOk (H:Hp) (h:Heap):Prop:=∀ a o,H a=some o->ObjOk P w H h a o
end
section
variable {P:Program} {w:World} {H H':Hp} {h h':Heap} {a:Addr} {o:HO}
theorem ObjOk.lt (x:ObjOk P w H h a o):a < h.objs.size:=by
 cases o with
 | lst xs=>obtain ⟨_,_,_,_,e⟩:=x; exact vM e
 | tup xs=>obtain ⟨_,_,_,p⟩:=x; exact p.lt
 | dK kvs=>obtain ⟨_,_,_,_,o,_,_,e,_⟩:=x; exact vM e
 | dT kvs=>obtain ⟨_,_,_,_,o,_,_,e,_⟩:=x; exact vM e
 | set S n=>obtain ⟨o,_,_,_,e,_⟩:=x; exact vM e
 | ins C dx fs=>obtain ⟨_,_,_,e,_⟩:=x; exact vM e
 | own y=>obtain ⟨_,e⟩:=x; exact vM e
 | xd fs=>obtain ⟨_,⟨_,_,_,e,_⟩,_⟩:=x; exact vM e
 | rng lo hi=>obtain ⟨_,_,_,e⟩:=x; exact vM e
 | frz ob u=>obtain ⟨e,_⟩:=x; exact vM e
 | tbl ps=>exact vM (show h.get? a=some _ from x)
 | met f y=>exact vM (show h.get? a=some _ from x)
 | ext φ=>obtain ⟨_,⟨_,e⟩,_⟩:=x; exact vM e
 | cod ps=>obtain ⟨_,e,_⟩:=x; exact vM e
theorem Paired.mapP {α β:Type} {F G:α->β->Prop} {l₁:List α} {l₂:List β} (h:Paired F l₁ l₂) (f:∀ a b,F a b->G a b):Paired G l₁ l₂:=by
 induction h with
 | nil=>exact .nil
 | cons r t ih=>exact .cons (f _ _ r) ih
theorem ObjOk.stay (x:ObjOk P w H h a o) (k:∀ b u,(b=a\/H b=some (.own a))->h.get? b=some u->h'.get? b=some u)
  (ho:∀ b,H b=some (.own a)->H' b=some (.own a)) (ht:∀ b xs,H b=some (.tup xs)->H' b=some (.tup xs)) (hf:∀ b ob u vs,H b=some (.frz ob u)->ob.data=.fields vs->H' b=some (.frz ob u)):ObjOk P w H' h' a o:=by
 induction o with
 | lst xs=>obtain ⟨z,its,n,r,e⟩:=x; exact ⟨z,its,n,r,k _ _ (.inl rfl) e⟩
 | tup xs=>obtain ⟨z,its,r,ob,e,c⟩:=x; exact ⟨z,its,r,ob,k _ _ (.inl rfl) e,c⟩
 | dK kvs=>obtain ⟨z,y,vs,r,ob,es,ep,e,c⟩:=x; exact ⟨z,y,vs,r,ob,es,ep,k _ _ (.inl rfl) e,c⟩
 | dT kvs =>
  obtain ⟨z,y,xs,r,ob,es,ep,e,c⟩:=x
  exact ⟨z,y,xs,Paired.mapP r λp q z=>⟨z.1,ht _ _ z.2.1,z.2.2⟩,ob,es,ep,k _ _ (.inl rfl) e,c⟩
 | set S n=>obtain ⟨ob,es,ep,t,e,c⟩:=x; exact ⟨ob,es,ep,t,k _ _ (.inl rfl) e,c⟩
 | ins C dx fs =>
  obtain ⟨d,z,ne,e,mA,⟨od,es,ep,e2,c⟩,r⟩:=x
  exact ⟨ho _ d,z,ne,k _ _ (.inl rfl) e,mA,⟨od,es,ep,k _ _ (.inr d) e2,c⟩,r⟩
 | own y=>obtain ⟨ob,e⟩:=x; exact ⟨ob,k _ _ (.inl rfl) e⟩
 | xd fs=>obtain ⟨mA,⟨od,es,ep,e,c⟩,r⟩:=x; exact ⟨mA,⟨od,es,ep,k _ _ (.inl rfl) e,c⟩,r⟩
 | rng lo hi=>obtain ⟨t,u,v,e⟩:=x; exact ⟨t,u,v,k _ _ (.inl rfl) e⟩
 | frz ob u ih=>obtain ⟨e,q⟩:=x; exact ⟨k _ _ (.inl rfl) e,ih q⟩
 | tbl ps =>
  have e:h.get? a=some { cls:=.none,data:=.fields ps }:=x
  show h'.get? a=some { cls:=.none,data:=.fields ps }
  exact k a _ (.inl rfl) e
 | met f y =>
  have e:h.get? a=some (PySem.W.methodObj (.ref f) (.ref y)):=x
  show h'.get? a=some (PySem.W.methodObj (.ref f) (.ref y))
  exact k a _ (.inl rfl) e
 | ext φ=>obtain ⟨p,⟨o,e⟩,st⟩:=x; exact ⟨st _ _ p λo q=>k _ _ (.inl rfl) q,⟨o,k _ _ (.inl rfl) e⟩,st⟩
 | cod ps =>
  obtain ⟨more,e,tr,al⟩:=x
  refine ⟨more,k _ _ (.inl rfl) e,tr,λpo v hv=>?_⟩
  obtain ⟨c,ob,vs,q,t,r1,r2,r3⟩:=al po v hv
  exact ⟨c,ob,vs,q,t,r1,hf _ _ _ _ r2 r3.1,r3⟩
theorem HOk.lt (x:HOk P w H h) (e:H a=some o):a < h.objs.size:=(x a o e).lt
theorem HOk.fresh (x:HOk P w H h) (e:h.objs.size<=a):H a=none:=by
 cases q:H a with
 | none=>rfl
 | some u=>exact absurd (vE (x.lt q) e) (vU _)
theorem HOk.kept (x:HOk P w H h) (k:∀ b u,h.get? b=some u->h'.get? b=some u):HOk P w H h':=λa o e =>
 (x a o e).stay (λb u _ q=>k b u q) (λ_ q=>q) (λ_ _ q=>q) λ_ _ _ _ q _=>q
theorem HOk.laid (x:HOk P w H h) (k:∀ b u,h.get? b=some u->h'.get? b=some u) (hp:h.objs.size<=a) (new:ObjOk P w (upd H a o) h' a o):HOk P w (upd H a o) h':=λb u e=>by
 have hn:=x.fresh hp
 by_cases hb:b=a
 ·subst hb; rw [bJ] at e; cases e; exact new
 ·rw [aK hb] at e
  exact (x b u e).stay (λc v _ q=>k c v q) (λc q=>by rw [aK (cH q hn)]; exact q) (λc xs q=>by rw [aK (cH q hn)]; exact q) λc ob xs _ q _=>by rw [aK (cH q hn)]; exact q
end
def Rd (H:Hp) (a:Addr) (u:HO):Prop:=H a=some u\/∃ o,H a=some (.frz o u)
theorem Rd.ok {P:Program} {w:World} {H:Hp} {h:Heap} {a:Addr} {u:HO} (r:Rd H a u) (x:HOk P w H h):ObjOk P w H h a u:=by
 rcases r with r | ⟨o,r⟩
 ·exact x a u r
 ·obtain ⟨_,q⟩:=x a _ r
  exact q
noncomputable def nu:Option HO->Prop
 | some (.lst _)=>True
 | some (.dK _)=>True
 | some (.dT _)=>True
 | some (.set _ _)=>True
 | some (.ins _ _ _)=>True
 | some (.ext _)=>True
 | _=>False
section
variable {P:Program} {w:World} {H:Hp} {h h':Heap} {x e:Addr} {o':HO}
theorem HOk.write (ok:HOk P w H h) (mu:nu (H x)) (he:e=x\/H e=some (.own x)) (k:∀ b u,b≠e->h.get? b=some u->h'.get? b=some u) (heo:∃ u,h'.get? e=some u)
  (new:ObjOk P w (upd H x o') h' x o'):HOk P w (upd H x o') h':=λb u q=>by
 have nown:∀ c y,H c=some (.own y)->c≠x:=λc y r z=>by subst z; rw [r] at mu; exact mu
 have ntup:∀ c xs,H c=some (.tup xs)->c≠x:=λc xs r z=>by subst z; rw [r] at mu; exact mu
 have nfrz:∀ c ob u,H c=some (.frz ob u)->c≠x:=λc ob u r z=>by subst z; rw [r] at mu; exact mu
 by_cases hb:b=x
 ·subst hb; rw [bJ] at q; cases q; exact new
 ·rw [aK hb] at q
  by_cases hbe:b=e
  ·have q':H b=some (.own x):=by
    rcases he with z | z
    ·exact absurd (hbe.trans z) hb
    ·rw [hbe]; exact z
   rw [q] at q'; cases q'
   obtain ⟨v,hv⟩:=heo
   exact ⟨v,by rw [hbe]; exact hv⟩
  ·refine (ok b u q).stay (λc v hc r=>k c v ?_ r) (λc r=>by rw [aK (nown c b r)]; exact r) (λc xs r=>by rw [aK (ntup c xs r)]; exact r) λc ob xs _ r _=>by rw [aK (nfrz c ob xs r)]; exact r
   rcases hc with rfl | hc
   ·exact hbe
   ·rintro rfl
    rcases he with z | z
    ·exact nown c b hc z
    ·rw [hc] at z; cases z; exact hb rfl
end
structure Un (fs ex:List Addr) (H H':Hp) (h h':Heap):Prop where
 keep:∀ b o,h.get? b=some o->H b=none->b ∉ fs->b ∉ ex->h'.get? b=some o
 slot:∀ b o,h.get? b=some o->H b=none->b∈fs->b ∉ ex->∃ sl,h'.get? b=some { o with slots:=sl }
 free:∀ b o,h.get? b=some o->H b=none->b ∉ ex->H' b=none
 there:∀ b o,h.get? b=some o->b ∉ ex->∃ o',h'.get? b=some o'
 tups:∀ b xs,H b=some (.tup xs)->H' b=some (.tup xs)
 frzs:∀ b o u,H b=some (.frz o u)->H' b=some (.frz o u)
 tbls:∀ b ps,H b=some (.tbl ps)->∃ more,H' b=some (.tbl (ps++more))
section
variable {fs fs' ex ex':List Addr} {H H1 H2:Hp} {h h1 h2 h':Heap} {a x e:Addr} {o:HO}
theorem Un.any (u:Un fs ex H H1 h h1) {b:Addr} {ob:Obj} (q:h.get? b=some ob) (n:H b=none) (hx:b ∉ ex):∃ sl,h1.get? b=some { ob with slots:=sl }:=by
 by_cases hb:b∈fs
 ·exact u.slot b ob q n hb hx
 ·exact ⟨ob.slots,u.keep b ob q n hb hx⟩
theorem Un.kept (k:∀ b u,h.get? b=some u->h'.get? b=some u):Un fs ex H H h h' :=
 ⟨λb ob q _ _ _=>k b ob q,λb ob q _ _ _=>⟨ob.slots,k b ob q⟩,λ_ _ _ n _=>n,λb ob q _=>⟨ob,k b ob q⟩,λ_ _ q=>q,λ_ _ _ q=>q,λ_ ps q=>⟨#[],by rw [q]; simp⟩⟩
theorem Un.refl:Un fs ex H H h h:=Un.kept λ_ _ q=>q
theorem Un.laid (k:∀ b u,h.get? b=some u->h'.get? b=some u) (hp:h.objs.size<=a) (hn:H a=none):Un fs ex H (upd H a o) h h' where
 keep:=λb u q _ _ _=>k b u q
 slot:=λb u q _ _ _=>⟨u.slots,k b u q⟩
 free:=λb u q n _=>by rw [aK (vR (vE (vM q) hp))]; exact n
 there:=λb u q _=>⟨u,k b u q⟩
 tups:=λb xs q=>by rw [aK (cH q hn)]; exact q
 frzs:=λb u xs q=>by rw [aK (cH q hn)]; exact q
 tbls:=λb ps q=>⟨#[],by rw [aK (cH q hn),q]; simp⟩
theorem Un.write (mu:nu (H x)) (he:e=x\/H e=some (.own x)) (k:∀ b u,b≠e->h.get? b=some u->h'.get? b=some u) (heo:∃ u,h'.get? e=some u):Un fs ex H (upd H x o) h h':=by
 have hx:∀ b,H b=none->b≠x:=λb n z=>by subst z; rw [n] at mu; exact mu
 have hb:∀ b,H b=none->b≠e:=λb n z=>by
  subst z
  rcases he with r | r
  ·exact hx b n r
  ·rw [n] at r; cases r
 have hm:∀ b u,H b=some u->¬ nu (some u)->b≠x:=λb u q nm z=>by subst z; rw [q] at mu; exact nm mu
 refine ⟨λb u q n _ _=>k b u (hb b n) q,λb u q n _ _=>⟨u.slots,k b u (hb b n) q⟩,λb u q n _=>by rw [aK (hx b n)]; exact n,λb u q _=>?_,
  λb xs q=>by rw [aK (hm b _ q λz=>z)]; exact q,λb u xs q=>by rw [aK (hm b _ q λz=>z)]; exact q,λb ps q=>⟨#[],by rw [aK (hm b _ q λz=>z),q]; simp⟩⟩
 by_cases hbe:b=e
 ·subst hbe; exact heo
 ·exact ⟨u,k b u hbe q⟩
end
noncomputable def trk (h:Heap) (H:Hp):List Addr:=(List.range h.objs.size).filter λa=>(H a).isSome
noncomputable def g8 (h:Heap) (H:Hp):Heap:=PySem.W.hideAll h (trk h H)
theorem Zk6 (h:Heap) (H:Hp):(g8 h H).objs.size=h.objs.size:=PySem.W.hideAll_size _ _
theorem Zk7 {h:Heap} {H:Hp} {b:Addr} {o:Obj} (e:h.get? b=some o) (n:H b=none):(g8 h H).get? b=some o :=
 PySem.W.hideAll_get _ e λhm=>by
  have q:(H b).isSome=true:=(yD.mp hm).2
  rw [n] at q; simp at q
theorem Zjw {h:Heap} {H:Hp} {b:Addr} {o:Obj} (e:(g8 h H).get? b=some o):h.get? b=some o/\H b=none:=by
 have e':h.get? b=some o:=PySem.W.of_hideAll (trk h H) e
 refine ⟨e',?_⟩
 cases q:H b with
 | none=>rfl
 | some x =>
  have hm:b∈trk h H:=yD.mpr ⟨yg.mpr (vM e'),by simp [q]⟩
  have z:(g8 h H).get? b=none:=PySem.W.hideAll_none (trk h H) hm
  rw [z] at e; cases e
noncomputable def ZrG (g h:Heap) (L:Addr):List (Addr×Obj):=(List.range h.objs.size).filterMap λa=>if a=L\/(g.get? a).isSome=true then none else (h.get? a).map λo=>(a,o)
noncomputable def rest (g h:Heap) (L d:Addr):List (Addr×Obj):=(ZrG g h L).filter λp=>decide (p.1≠d)
structure Mod (K:yS) (mg:zc) (base:Heap):Prop where
 kin:K.In base
 glob:base.Ns mainGlobals mg
 blt:∃ mb,base.Ns builtinsNs mb/\∀ x:Str,x≠"__name__"->mb x=bootBuiltins x
 nolimit:base.NoLimit
 nodig:base.NoDigits
structure Cx where
 prog:Program
 w:World
 K:yS
 mg:zc
 base:Heap
 A:Around
 N:za
 s₀:Shared
 H₀:Hp
 env:Env
 outer:List Env
 stack:List Env
 ex:List Addr
 fn:Str->Bool
 calm:Bool
 pn:List (Addr×Obj)
 xe:y4
noncomputable def frs (l:List Env):List Addr:=l.filterMap (·.frame)
noncomputable abbrev Cx.fs (X:Cx):List Addr:=frs X.outer
def k8 (sc:Scope) (x:Str):Prop:=sc.names.lookup x=some .local\/sc.names.lookup x=some .cell\/sc.names.lookup x=some .free
def jR (sc:Scope) (x:Str):Prop:=sc.names.lookup x=some .local\/sc.names.lookup x=some .cell
noncomputable def Zsp (env:Env) (h:Heap) (m:zc) (x:Str) (u:Value):Prop :=
 (env.kindOf x=some .local/\m x=some u)\/((env.kindOf x=some .cell\/env.kindOf x=some .free)/\∃ c,env.cells.lookup x=some c/\h.IsCell c (some u))
structure Cx.Ok (X:Cx):Prop where
 mod:Mod X.K X.mg X.base
 kind:X.env.scope.kind=.function
 glob:X.env.globals=mainGlobals
 blt:X.env.builtins=builtinsNs
 above:X.s₀.heap.objs.size<=X.env.locals
 inj:∀ x y c,X.env.cells.lookup x=some c->X.env.cells.lookup y=some c->x=y
 has:∀ x,(X.env.kindOf x=some .cell\/X.env.kindOf x=some .free)->∃ c,X.env.cells.lookup x=some c
 cab:∀ x c,X.fn x=true->X.env.cells.lookup x=some c->X.s₀.heap.objs.size<=c
 hd:X.calm=true->X.A.handled=none
 frames:X.A.frames=some X.stack
 stk:X.stack=X.outer\/(X.stack=X.env::X.outer/\X.env.frame=some X.env.locals)
 exf:∀ b∈X.ex,b≠X.env.locals/\∀ x c,X.env.cells.lookup x=some c->c≠b
 bs:∀ b o,X.base.get? b=some o->X.s₀.heap.get? b=some o/\X.H₀ b=none
 bsz:X.base.objs.size<=X.s₀.heap.objs.size
 noex:∀ b o,X.base.get? b=some o->b ∉ X.ex
 exfs:∀ b∈X.ex,b ∉ X.fs
 funs:X.s₀.heap.FunFrames X.base X.outer
 frf:∀ b∈X.fs,X.H₀ b=none
structure Inv (X:Cx) (pins:List (Addr×Obj)) (σ:List (Option V)) (H:Hp) (s:Shared):Prop where
 ok:X.Ok
 os:s.os=X.s₀.os
 bare:AllBare s.gens
 base:Un X.fs X.ex X.H₀ H X.s₀.heap s.heap
 loc:∃ m,s.heap.Ns X.env.locals m/\∀ (i:Nat) (x:Str) (v:V),X.N[i]?=some x->σ[i]?=some (some v)->k8 X.env.scope x->∃ u,RelV v u/\Zsp X.env s.heap m x u
 cell:∀ x c,X.env.cells.lookup x=some c->∃ v,s.heap.IsCell c v
 free:H X.env.locals=none
 freeC:∀ x c,X.env.cells.lookup x=some c->H c=none
 pin:∀ p∈X.pn++pins,s.heap.get? p.1=some p.2/\H p.1=none/\p.1≠X.env.locals/\p.1 ∉ X.fs/\∀ v,p.2.data≠.cell v
 hok:HOk X.prog X.w H s.heap
 len:σ.length=X.N.length
section
variable {X:Cx} {pins:List (Addr×Obj)} {σ:List (Option V)} {H H':Hp} {s:Shared} {h':Heap}
theorem Cx.Ok.nofr (ok:X.Ok) {b:Addr} {o:Obj} (e:X.base.get? b=some o):b ∉ X.fs:=λhb=>by
 have:=(ok.funs.mem hb).1
 rw [e] at this; cases this
theorem Inv.bs (I:Inv X pins σ H s):∀ b o,X.base.get? b=some o->s.heap.get? b=some o/\H b=none:=λb o e =>
 ⟨I.base.keep b o (I.ok.bs b o e).1 (I.ok.bs b o e).2 (I.ok.nofr e) (I.ok.noex b o e),I.base.free b o (I.ok.bs b o e).1 (I.ok.bs b o e).2 (I.ok.noex b o e)⟩
theorem Inv.bk (I:Inv X pins σ H s):∀ b o,X.base.get? b=some o->s.heap.get? b=some o:=λb o e=>(I.bs b o e).1
theorem Inv.mod (I:Inv X pins σ H s):Mod X.K X.mg X.base:=I.ok.mod
theorem Inv.kIn (I:Inv X pins σ H s):X.K.In s.heap:=I.ok.mod.kin.keeps I.bk
theorem Inv.lt (I:Inv X pins σ H s):X.env.locals < s.heap.objs.size:=let ⟨_,hn,_⟩:=I.loc; hn.lt
theorem Inv.sz (I:Inv X pins σ H s):X.s₀.heap.objs.size<=s.heap.objs.size:=vO I.ok.above (xm I.lt)
theorem Inv.nofs (I:Inv X pins σ H s) {a:Addr} (h:s.heap.objs.size<=a):a ∉ X.fs:=λhb=>by
 obtain ⟨_,o,ho,_⟩:=I.ok.funs.mem hb
 exact absurd (vE (vM ho) (vO I.sz h)) (vU _)
theorem Inv.cne (I:Inv X pins σ H s):∀ x c,X.env.cells.lookup x=some c->c≠X.env.locals:=λx c e z=>by
 obtain ⟨v,o,ho,hd⟩:=I.cell x c e
 obtain ⟨m,⟨o',es,ep,ho',hd',_⟩,_⟩:=I.loc
 rw [z,ho'] at ho; cases ho; rw [hd'] at hd; cases hd
theorem Inv.funs (I:Inv X pins σ H s):s.heap.FunFrames X.base X.outer:=by
 have all:∀ (l:List Env),(∀ b∈frs l,b∈X.fs)->X.s₀.heap.FunFrames X.base l->s.heap.FunFrames X.base l:=by
  intro l
  induction l with
  | nil=>intro _ _; trivial
  | cons env r ih =>
   intro hs hl
   obtain ⟨hk,⟨L,o,hf,hn,ho,hd⟩,hr⟩:=hl
   have hL:L∈X.fs:=hs L (by unfold frs; rw [wz,hf]; exact wx)
   obtain ⟨sl,e⟩:=I.base.slot L o ho (I.ok.frf L hL) hL λz=>I.ok.exfs L z hL
   exact ⟨hk,⟨L,_,hf,hn,e,hd⟩,ih (λb hb=>hs b (by unfold frs; rw [wz,hf]; exact vC _ hb)) hr⟩
 exact all X.outer (λ_ hb=>hb) I.ok.funs
theorem Inv.stack (I:Inv X pins σ H s):s.heap.FunFrames X.base X.stack:=by
 rcases I.ok.stk with e | ⟨e,hf⟩
 ·rw [e]; exact I.funs
 ·rw [e]
  obtain ⟨m,hn,_⟩:=I.loc
  refine .cons (by rw [I.ok.kind]; decide) hf hn ?_ I.funs
  exact Heap.get?_none_of_le (vO I.ok.bsz I.ok.above)
theorem Inv.stkSub (I:Inv X pins σ H s):∀ b∈frs X.stack,b∈X.env.locals::X.fs:=λb hb=>by
 rcases I.ok.stk with e | ⟨e,hf⟩
 ·rw [e] at hb; exact vC _ hb
 ·rw [e] at hb
  unfold frs at hb
  rw [wz,hf] at hb
  exact hb
theorem Inv.stkFree (I:Inv X pins σ H s):∀ b∈frs X.stack,H b=none:=λb hb=>by
 rcases vD.mp (I.stkSub b hb) with e | hb
 ·rw [e]; exact I.free
 ·obtain ⟨_,o,ho,_⟩:=I.ok.funs.mem hb
  exact I.base.free b o ho (I.ok.frf b hb) λz=>I.ok.exfs b z hb
theorem Inv.step {g':Array GenState} {t':Nat} {d':Drawn} {ch:List Addr} (I:Inv X pins σ H s)
  (hch:∀ b∈ch,(b∈X.ex\/X.s₀.heap.objs.size<=b)/\b≠X.env.locals/\(∀ x c,X.env.cells.lookup x=some c->c≠b)/\∀ p∈X.pn++pins,p.1≠b)
  (keep:∀ b o,b≠X.env.locals->b ∉ X.fs->b ∉ ch->s.heap.get? b=some o->H b=none->h'.get? b=some o)
  (slot:∀ b o,b≠X.env.locals->b∈X.fs->b ∉ ch->s.heap.get? b=some o->H b=none->∃ sl,h'.get? b=some { o with slots:=sl }) (free:∀ b o,b ∉ ch->s.heap.get? b=some o->H b=none->H' b=none)
  (there:∀ b o,b ∉ ch->s.heap.get? b=some o->∃ o',h'.get? b=some o')
  (tups:∀ b xs,H b=some (.tup xs)->H' b=some (.tup xs)) (frzs:∀ b o u,H b=some (.frz o u)->H' b=some (.frz o u)) (tbls:∀ b ps,H b=some (.tbl ps)->∃ more,H' b=some (.tbl (ps++more)))
  (ns:∀ m,s.heap.Ns X.env.locals m->h'.Ns X.env.locals m) (hok:HOk X.prog X.w H' h') (hg:AllBare g') :
  Inv X pins σ H' { s with heap:=h',gens:=g',drawn:=d',toks:=t' }:=by
 have neL:∀ b o,X.s₀.heap.get? b=some o->b≠X.env.locals:=λb o e=>vR (vE (vM e) I.ok.above)
 have neC:∀ b o,X.s₀.heap.get? b=some o->b ∉ X.ex->b ∉ ch:=λb o e hx hb=>by
  rcases (hch b hb).1 with z | z
  ·exact hx z
  ·exact absurd (vE (vM e) z) (vU _)
 have cellK:∀ x c,X.env.cells.lookup x=some c->∀ v,s.heap.IsCell c v->h'.IsCell c v:=λx c e v hz0=>by
  obtain ⟨o,ho,hd⟩:=hz0
  have nch:c ∉ ch:=λz=>(hch c z).2.2.1 x c e rfl
  by_cases hc:c∈X.fs
  ·obtain ⟨sl,q⟩:=slot c o (I.cne x c e) hc nch ho (I.freeC x c e)
   exact ⟨_,q,hd⟩
  ·exact ⟨o,keep c o (I.cne x c e) hc nch ho (I.freeC x c e),hd⟩
 refine ⟨I.ok,I.os,hg,⟨λb o e n hb hx=>?_,λb o e n hb hx=>?_,λb o e n hx=>?_,λb o e hx=>?_,λb xs e=>tups b xs (I.base.tups b xs e),λb o xs e=>frzs b o xs (I.base.frzs b o xs e),λb ps e=>?_⟩,?_,λx c e=>?_,?_,λx c e=>?_,λp hp=>?_,hok,I.len⟩
 ·exact keep b o (neL b o e) hb (neC b o e hx) (I.base.keep b o e n hb hx) (I.base.free b o e n hx)
 ·obtain ⟨sl,e1⟩:=I.base.slot b o e n hb hx
  obtain ⟨sl',e2⟩:=slot b _ (neL b o e) hb (neC b o e hx) e1 (I.base.free b o e n hx)
  exact ⟨sl',e2⟩
 ·obtain ⟨o',e1⟩:=I.base.there b o e hx
  exact free b o' (neC b o e hx) e1 (I.base.free b o e n hx)
 ·obtain ⟨o',e1⟩:=I.base.there b o e hx
  exact there b o' (neC b o e hx) e1
 ·obtain ⟨m1,e1⟩:=I.base.tbls b ps e
  obtain ⟨m2,e2⟩:=tbls b _ e1
  exact ⟨m1++m2,by rw [e2,Array.append_assoc]⟩
 ·obtain ⟨m,hn,hl⟩:=I.loc
  refine ⟨m,ns m hn,λi x v e1 e2 e3=>?_⟩
  obtain ⟨u,r,l⟩:=hl i x v e1 e2 e3
  refine ⟨u,r,?_⟩
  rcases l with l | ⟨k,c,e,z⟩
  ·exact .inl l
  ·exact .inr ⟨k,c,e,cellK x c e _ z⟩
 ·obtain ⟨v,z⟩:=I.cell x c e
  exact ⟨v,cellK x c e v z⟩
 ·obtain ⟨m,⟨o,_,_,ho,_⟩,_⟩:=I.loc
  exact free _ o (λz=>(hch _ z).2.1 rfl) ho I.free
 ·obtain ⟨v,o,ho,hd⟩:=I.cell x c e
  exact free c o (λz=>(hch c z).2.2.1 x c e rfl) ho (I.freeC x c e)
 ·obtain ⟨e,n,ne,nf,d⟩:=I.pin p hp
  have nch:p.1 ∉ ch:=λz=>(hch p.1 z).2.2.2 p hp rfl
  exact ⟨keep p.1 p.2 ne nf nch e n,free p.1 p.2 nch e n,ne,nf,d⟩
theorem Inv.un {t':Nat} (I:Inv X pins σ H s) (u:Un X.fs [] H H' s.heap h') (hok:HOk X.prog X.w H' h'):Inv X pins σ H' { s with heap:=h',toks:=t' }:=by
 obtain ⟨m,⟨o,es,ep,ho,r⟩,_⟩:=id I.loc
 obtain ⟨sl,hL⟩:=u.any ho I.free (by simp)
 exact I.step (g':=s.gens) (d':=s.drawn) (ch:=[]) (λ_ z=>nomatch z) (λb o _ hb _ e n=>u.keep b o e n hb (by simp)) (λb o _ hb _ e n=>u.slot b o e n hb (by simp)) (λb o _ e n=>u.free b o e n (by simp)) (λb o _ e=>u.there b o e (by simp)) u.tups u.frzs u.tbls (λm' hm=>by
  obtain ⟨o',es',ep',ho',r'⟩:=hm
  rw [ho] at ho'; cases ho'
  exact ⟨_,es',ep',hL,r'⟩) hok I.bare
theorem Inv.call {g':Array GenState} {t':Nat} {d':Drawn} {ch:List Addr} (I:Inv X pins σ H s) (u:Un (frs X.stack) ch H H' s.heap h') (hok:HOk X.prog X.w H' h') (hg:AllBare g')
  (hch:∀ b∈ch,(b∈X.ex\/X.s₀.heap.objs.size<=b)/\b≠X.env.locals/\(∀ x c,X.env.cells.lookup x=some c->c≠b)/\∀ p∈X.pn++pins,p.1≠b) :
  Inv X pins σ H' { s with heap:=h',gens:=g',drawn:=d',toks:=t' }:=by
 obtain ⟨m,⟨o,es,ep,ho,r⟩,_⟩:=id I.loc
 obtain ⟨sl,hL⟩:=u.any ho I.free λz=>(hch _ z).2.1 rfl
 exact I.step (ch:=ch) hch (λb o hL hb hc e n=>u.keep b o e n (λz=>(vD.mp (I.stkSub b z)).elim hL hb) hc) (λb o _ _ hc e n=>u.any e n hc) (λb o hc e n=>u.free b o e n hc) (λb o hc e=>u.there b o e hc) u.tups u.frzs u.tbls (λm' hm=>by
  obtain ⟨o',es',ep',ho',r'⟩:=hm
  rw [ho] at ho'; cases ho'
  exact ⟨_,es',ep',hL,r'⟩) hok hg
theorem Inv.turned {t':Nat} {it:Addr} (I:Inv X pins σ H s) (k:∀ b o,b≠it->s.heap.get? b=some o->h'.get? b=some o) (hn:H it=none) (hL:it≠X.env.locals)
  (h1:it∈X.ex\/X.s₀.heap.objs.size<=it) (h2:∀ x c,X.env.cells.lookup x=some c->c≠it) (h3:∀ p∈X.pn++pins,p.1≠it):Inv X pins σ H { s with heap:=h',toks:=t' }:=by
 have nit:∀ b u,H b=some u->b≠it:=λb u e z=>by rw [z,hn] at e; cases e
 refine I.step (g':=s.gens) (d':=s.drawn) (ch:=[it]) (λb hb=>?_) (λb o _ _ hc e _=>k b o (λz=>hc (by simp [z])) e) (λb o _ _ hc e _=>⟨o.slots,k b o (λz=>hc (by simp [z])) e⟩) (λ_ _ _ _ n=>n)
  (λb o hc e=>⟨o,k b o (λz=>hc (by simp [z])) e⟩) (λ_ _ e=>e) (λ_ _ _ e=>e) (λb ps e=>⟨#[],by rw [e]; simp⟩) (λm hm=>?_) (λb u e=>?_) I.bare
 ·have e:b=it:=by simpa using hb
  subst e
  exact ⟨h1,hL,h2,h3⟩
 ·obtain ⟨o,es,ep,ho,r⟩:=hm
  exact ⟨o,es,ep,k _ o (Ne.symm hL) ho,r⟩
 ·refine (I.hok b u e).stay (λc v hc q=>k c v ?_ q) (λ_ q=>q) (λ_ _ q=>q) λ_ _ _ _ q _=>q
  rcases hc with z | z
  ·rw [z]; exact nit b u e
  ·exact nit c _ z
theorem Inv.tok (I:Inv X pins σ H s) (t:Nat):Inv X pins σ H { s with toks:=t }:=I.un (h':=s.heap) (t':=t) Un.refl I.hok
theorem Inv.kept {t':Nat} (I:Inv X pins σ H s) (k:∀ b u,s.heap.get? b=some u->h'.get? b=some u):Inv X pins σ H { s with heap:=h',toks:=t' }:=I.un (Un.kept k) (I.hok.kept k)
theorem Inv.laid {a:Addr} {o:HO} {t':Nat} (I:Inv X pins σ H s) (k:∀ b u,s.heap.get? b=some u->h'.get? b=some u) (hp:s.heap.objs.size<=a) (new:ObjOk X.prog X.w (upd H a o) h' a o) :
  Inv X pins σ (upd H a o) { s with heap:=h',toks:=t' }:=I.un (Un.laid k hp (I.hok.fresh hp)) (I.hok.laid k hp new)
theorem Inv.write {x e:Addr} {o:HO} {t':Nat} (I:Inv X pins σ H s) (mu:nu (H x)) (he:e=x\/H e=some (.own x)) (k:∀ b u,b≠e->s.heap.get? b=some u->h'.get? b=some u) (heo:∃ u,h'.get? e=some u)
  (new:ObjOk X.prog X.w (upd H x o) h' x o):Inv X pins σ (upd H x o) { s with heap:=h',toks:=t' }:=I.un (Un.write mu he k heo) (I.hok.write mu he k heo new)
theorem Inv.pins_of {pins':List (Addr×Obj)} (I:Inv X pins σ H s) (h:∀ p∈pins',s.heap.get? p.1=some p.2/\H p.1=none/\p.1≠X.env.locals/\p.1 ∉ X.fs/\∀ v,p.2.data≠.cell v):Inv X pins' σ H s :=
 ⟨I.ok,I.os,I.bare,I.base,I.loc,I.cell,I.free,I.freeC,λp hp=>(wE.mp hp).elim (λz=>I.pin p (wO _ z)) (h p),I.hok,I.len⟩
theorem tE {N:za} (hN:N.Nodup) {i j:Nat} {x:Str} (a:N[i]?=some x) (b:N[j]?=some x):i=j:=by
 obtain ⟨h1,e1⟩:=vH.mp a
 obtain ⟨h2,e2⟩:=vH.mp b
 exact (List.getElem_inj hN).mp (e1.trans e2.symm)
theorem ZaV {M:Model} {A:Around} {E:y4} {i:Nat} {x:Str} {v:V} {u:Value} {Q:Unit->Shared->Prop} (I:Inv X pins σ H s) (hN:X.N.Nodup) (hi:X.N[i]?=some x) (hx:jR X.env.scope x) (r:RelV v u)
  (h:∀ s',Inv X pins (σ.set i (some v)) H s'->(∃ a,Heap.SameBut a s.heap s'.heap/\(a=X.env.locals\/X.env.cells.lookup x=some a))->Q () s') (hf:X.fn x=true\/X.env.scope.names.lookup x=some .local:=by first | exact .inl rfl | exact .inr rfl | assumption):wpAny M A (storeName X.env x u) Q E s:=by
 obtain ⟨m,hn,hl⟩:=id I.loc
 have hcls:(X.env.scope.kind == .class || (X.env.scope.kind == .module && X.env.locals != X.env.globals))=false:=by rw [I.ok.kind]; rfl
 have hiσ:i < σ.length:=by rw [I.len]; exact (vH.mp hi).1
 have cne:=I.cne
 have tracked:∀ {a:Addr} {h':Heap},(∃ o,s.heap.get? a=some o/\H a=none)->Heap.SameBut a s.heap h'->HOk X.prog X.w H h':=λ{a h'} ha hs b ob e=>by
  obtain ⟨_,_,hfree⟩:=ha
  refine (I.hok b ob e).stay (λc w' hc q=>(hs.2 c ?_).trans q) (λ_ q=>q) (λ_ _ q=>q) λ_ _ _ _ q _=>q
  rintro rfl
  rcases hc with rfl | hc
  ·rw [hfree] at e; cases e
  ·rw [hfree] at hc; cases hc
 rcases hx with hk | hk
 ·refine wpAny_storeName_local hk hn (λh' hn' hs=>?_) hcls
  obtain ⟨oL,_,_,hoL,_⟩:=id hn
  refine h _ ⟨I.ok,I.os,I.bare,⟨λb o e n hb hx=>?_,λb o e n hb hx=>?_,I.base.free,λb o e hx=>?_,I.base.tups,I.base.frzs,I.base.tbls⟩,⟨_,hn',λj y v' e1 e2 e3=>?_⟩,λy c e=>?_,I.free,I.freeC,λp hp=>?_,tracked ⟨oL,hoL,I.free⟩ hs,by simpa using I.len⟩ ⟨_,hs,.inl rfl⟩
  ·exact (hs.2 b (vR (vE (vM e) I.ok.above))).trans (I.base.keep b o e n hb hx)
  ·obtain ⟨sl,e1⟩:=I.base.slot b o e n hb hx
   exact ⟨sl,(hs.2 b (vR (vE (vM e) I.ok.above))).trans e1⟩
  ·obtain ⟨o',e1⟩:=I.base.there b o e hx
   exact ⟨o',(hs.2 b (vR (vE (vM e) I.ok.above))).trans e1⟩
  ·by_cases hj:j=i
   ·subst hj
    rw [hi] at e1; cases e1
    rw [vZ hiσ] at e2
    cases e2
    exact ⟨u,r,.inl ⟨hk,by simp⟩⟩
   ·rw [vP (Ne.symm hj)] at e2
    obtain ⟨u',r',q⟩:=hl j y v' e1 e2 e3
    refine ⟨u',r',?_⟩
    rcases q with ⟨k,e⟩ | ⟨k,c,e,z⟩
    ·refine .inl ⟨k,?_⟩
     have:y≠x:=λe=>hj (tE hN e1 (e ▸ hi))
     simp [this,e]
    ·exact .inr ⟨k,c,e,z.sameBut hs (cne y c e)⟩
  ·obtain ⟨w',z⟩:=I.cell y c e
   exact ⟨w',z.sameBut hs (cne y c e)⟩
  ·obtain ⟨e,n,ne,nf,d⟩:=I.pin p hp
   exact ⟨(hs.2 p.1 ne).trans e,n,ne,nf,d⟩
 ·have hfn:X.fn x=true:=by
   rcases hf with z | z
   ·exact z
   ·rw [z] at hk; cases hk
  obtain ⟨c,hc⟩:=I.ok.has x (.inl hk)
  obtain ⟨w',z⟩:=I.cell x c hc
  refine wpAny_storeName_cell I.ok.kind hk hc z (λh' hc' hs=>?_)
  obtain ⟨oc,hoc,hocd⟩:=id z
  refine h { s with heap:=h' } ⟨I.ok,I.os,I.bare,⟨λb o e n hb hx=>?_,λb o e n hb hx=>?_,I.base.free,λb o e hx=>?_,I.base.tups,I.base.frzs,I.base.tbls⟩,⟨m,hn.sameBut hs (Ne.symm (cne x c hc)),λj y v' e1 e2 e3=>?_⟩,λy c' e=>?_,I.free,I.freeC,λp hp=>?_,tracked ⟨oc,hoc,I.freeC x c hc⟩ hs,by simpa using I.len⟩ ⟨c,hs,.inr hc⟩
  ·exact (hs.2 b (vR (vE (vM e) (I.ok.cab x c hfn hc)))).trans (I.base.keep b o e n hb hx)
  ·obtain ⟨sl,e1⟩:=I.base.slot b o e n hb hx
   exact ⟨sl,(hs.2 b (vR (vE (vM e) (I.ok.cab x c hfn hc)))).trans e1⟩
  ·obtain ⟨o',e1⟩:=I.base.there b o e hx
   exact ⟨o',(hs.2 b (vR (vE (vM e) (I.ok.cab x c hfn hc)))).trans e1⟩
  ·by_cases hj:j=i
   ·subst hj
    rw [hi] at e1; cases e1
    rw [vZ hiσ] at e2
    cases e2
    exact ⟨u,r,.inr ⟨.inl hk,c,hc,hc'⟩⟩
   ·rw [vP (Ne.symm hj)] at e2
    obtain ⟨u',r',q⟩:=hl j y v' e1 e2 e3
    refine ⟨u',r',?_⟩
    rcases q with q | ⟨k,c',e,z'⟩
    ·exact .inl q
    ·refine .inr ⟨k,c',e,z'.sameBut hs ?_⟩
     rintro rfl
     exact hj (tE hN e1 (I.ok.inj _ _ _ e hc ▸ hi))
  ·by_cases hcc:c'=c
   ·subst hcc; exact ⟨_,hc'⟩
   ·obtain ⟨w2,z2⟩:=I.cell y c' e
    exact ⟨w2,z2.sameBut hs hcc⟩
  ·obtain ⟨e,n,ne,nf,d⟩:=I.pin p hp
   refine ⟨(hs.2 p.1 ?_).trans e,n,ne,nf,d⟩
   intro q
   rw [q,hoc] at e
   have q':oc=p.2:=vT e
   exact d w' (by rw [<- q']; exact hocd)
theorem jl {M:Model} {A:Around} {E:y4} {i:Nat} {x:Str} {v:V} {u:Value} {Q:Unit->Shared->Prop} (I:Inv X pins σ H s) (hN:X.N.Nodup) (hi:X.N[i]?=some x) (hx:jR X.env.scope x) (r:RelV v u)
  (h:∀ s',Inv X pins (σ.set i (some v)) H s'->Q () s') (hf:X.fn x=true\/X.env.scope.names.lookup x=some .local:=by first | exact .inl rfl | exact .inr rfl | assumption):wpAny M A (storeName X.env x u) Q E s :=
 ZaV I hN hi hx r (λs' I' _=>h s' I') hf
theorem Inv.call' {s':Shared} {ch:List Addr} (I:Inv X pins σ H s) (ho:s'.os=s.os) (u:Un (frs X.stack) ch H H' s.heap s'.heap) (hok:HOk X.prog X.w H' s'.heap) (hg:AllBare s'.gens)
  (hch:∀ b∈ch,(b∈X.ex\/X.s₀.heap.objs.size<=b)/\b≠X.env.locals/\(∀ x c,X.env.cells.lookup x=some c->c≠b)/\∀ p∈X.pn++pins,p.1≠b):Inv X pins σ H' s':=by
 obtain ⟨h',g',d',t',o'⟩:=s'
 have e:o'=s.os:=ho
 subst e
 exact I.call (g':=g') (t':=t') (d':=d') u hok hg hch
end
noncomputable abbrev XK:=Value->Option Addr->Hp->Prop
noncomputable abbrev St:=List (Option V)
noncomputable abbrev VK:=V->Hp->Prop
noncomputable abbrev TE:=St->Hp->VK->Prop
noncomputable abbrev TT:=St->Hp->(Bool->Hp->Prop)->Prop
noncomputable abbrev TA:=St->Hp->(List V->Hp->Prop)->Prop
structure Ends where
 nx:St->Hp->Prop
 rt:VK
 bk:St->Hp->Prop:=λ_ _=>False
 ct:St->Hp->Prop:=λ_ _=>False
noncomputable abbrev TS:=Ends->St->Hp->Prop
def EP (X:Cx) (pins:List (Addr×Obj)) (σ:St) (Q:VK) (u:Value) (s':Shared):Prop:=∃ v H',Inv X pins σ H' s'/\RelV v u/\Q v H'
def TP (X:Cx) (pins:List (Addr×Obj)) (σ:St) (Q:Bool->Hp->Prop) (b:Bool) (s':Shared):Prop:=∃ H',Inv X pins σ H' s'/\Q b H'
def AP (X:Cx) (pins:List (Addr×Obj)) (σ:St) (Q:List V->Hp->Prop) (us:y9) (s':Shared):Prop:=∃ vs H',Inv X pins σ H' s'/\Vals vs us/\Q vs H'
noncomputable def SP (X:Cx) (pins:List (Addr×Obj)) (D:Ends) (f:Flow) (s':Shared):Prop :=
 match f with
 | .next=>∃ σ' H',Inv X pins σ' H' s'/\D.nx σ' H'
 | .brk=>∃ σ' H',Inv X pins σ' H' s'/\D.bk σ' H'
 | .cont=>∃ σ' H',Inv X pins σ' H' s'/\D.ct σ' H'
 | .ret u=>∃ v σ' H',Inv X pins σ' H' s'/\RelV v u/\D.rt v H'
noncomputable def PE (X:Cx) (e:Expr) (t:TE):Prop :=
 ∀ (pins:List (Addr×Obj)) (s:Shared) (σ:St) (H:Hp) (Q:VK),Inv X pins σ H s->t σ H Q->wpAny (model X.prog X.w) X.A (eval e X.env) (EP X pins σ Q) X.xe s
noncomputable def PT (X:Cx) (e:Expr) (t:TT):Prop :=
 ∀ (pins:List (Addr×Obj)) (s:Shared) (σ:St) (H:Hp) (Q:Bool->Hp->Prop),Inv X pins σ H s->t σ H Q->wpAny (model X.prog X.w) X.A (isTrue e X.env (eval e X.env)) (TP X pins σ Q) X.xe s
noncomputable def PW (X:Cx) (e:Expr) (t:TT):Prop :=
 ∀ (whole:Sem Value) (pins:List (Addr×Obj)) (s:Shared) (σ:St) (H:Hp) (Q:Bool->Hp->Prop),Inv X pins σ H s->t σ H Q->wpAny (model X.prog X.w) X.A (isTrue e X.env whole) (TP X pins σ Q) X.xe s
theorem PW.pt {X:Cx} {e:Expr} {t:TT} (h:PW X e t):PT X e t:=h _
noncomputable def PA (X:Cx) (es:List Expr) (t:TA):Prop :=
 ∀ (pos:Pos) (pins:List (Addr×Obj)) (s:Shared) (σ:St) (H:Hp) (Q:List V->Hp->Prop),Inv X pins σ H s->t σ H Q->wpAny (model X.prog X.w) X.A (spliced (backTo pos (starEach es X.env))) (AP X pins σ Q) X.xe s
noncomputable def PS (X:Cx) (st:Stmt) (t:TS):Prop :=
 ∀ (pins:List (Addr×Obj)) (s:Shared) (σ:St) (H:Hp) (D:Ends),Inv X pins σ H s->t D σ H->wpAny (model X.prog X.w) X.A (exec st X.env) (SP X pins D) X.xe s
noncomputable def PSs (X:Cx) (st:List Stmt) (t:TS):Prop :=
 ∀ (pins:List (Addr×Obj)) (s:Shared) (σ:St) (H:Hp) (D:Ends),Inv X pins σ H s->t D σ H->wpAny (model X.prog X.w) X.A (execs st X.env) (SP X pins D) X.xe s
theorem thn {α:Type} {t:Sem α} {Q Q':α->Shared->Prop} {M:Model} {A:Around} {E:y4} {s:Shared} (h:wpAny M A t Q E s) (hQ:∀ a s,Q a s->Q' a s):wpAny M A t Q' E s:=wpAny_mono h hQ λ_ _ x=>x
section
variable {X:Cx}
def ij (i:Nat):TE:=λσ H Q=>∃ v,σ[i]?=some (some v)/\Q v H
def tC (v:V):TE:=λ_ H Q=>Q v H
theorem ZiJ {i:Nat} {x:Str} {pos:Pos} (hN:X.N[i]?=some x) (hv:k8 X.env.scope x) (hd:(x == ("__debug__":Str))=false:=by decide) (hcd:(x == ("__classdict__":Str))=false:=by decide):PE X (.Name x pos) (ij i):=by
 intro pins s σ H Q I h
 obtain ⟨v,e,h⟩:=h
 obtain ⟨m,hn,hl⟩:=I.loc
 obtain ⟨u,r,l⟩:=hl i x v hN e hv
 have fin:EP X pins σ Q u s:=⟨v,H,I,r,h⟩
 rcases l with ⟨hk,hm⟩ | ⟨hk,c,hc,hcell⟩
 ·exact wpAny_Name (wpAny_loadName_local I.ok.kind hk hn hm fin) hd
 ·rcases hk with hk | hk
  ·exact wpAny_Name (wpAny_loadName_cell I.ok.kind hk hc hcell fin) hd
  ·exact wpAny_Name (wpAny_loadName_free I.ok.kind hk hc hcell fin hcd) hd
theorem bY {i j pos}:PE X (.Constant (.int i) j pos) (tC (.int i)):=λ_ _ _ H _ I h=>wpAny_Constant_int ⟨.int i,H,I.tok _,⟨_,rfl⟩,h⟩
theorem ZiV {b j pos}:PE X (.Constant (.bool b) j pos) (tC (.bl b)):=λ_ _ _ H _ I h=>Constant_bool ⟨.bl b,H,I,rfl,h⟩
theorem sQ {j pos}:PE X (.Constant .none j pos) (tC .non):=λ_ _ _ H _ I h=>Constant_none ⟨.non,H,I,rfl,h⟩
theorem dP {x j pos}:PE X (.Constant (.str x) j pos) (tC (.str x)):=λ_ _ _ H _ I h=>Calls.Constant_str ⟨.str x,H,I.tok _,⟨_,rfl⟩,h⟩
def Gl (X:Cx) (x:Str):Prop:=X.env.kindOf x=some .globalImplicit
theorem tU {E:y4} {pins:List (Addr×Obj)} {s:Shared} {σ:St} {H:Hp} {x:Str} {u:Value} {pos:Pos} {Q:y4} (I:Inv X pins σ H s) (hg:Gl X x) (hm:X.mg x=some u) (h:Q u s)
  (hd:(x == ("__debug__":Str))=false:=by decide):wpAny (model X.prog X.w) X.A (eval (.Name x pos) X.env) Q E s :=
 x3 I.ok.kind hg (Calls.loadGlobal_global (by rw [I.ok.glob]; exact I.mod.glob.keeps I.bk) hm h) hd
theorem kC {E:y4} {pins:List (Addr×Obj)} {s:Shared} {σ:St} {H:Hp} {x:Str} {u:Value} {pos:Pos} {Q:y4} (I:Inv X pins σ H s) (hg:Gl X x) (hm:X.mg x=none) (hv:bootBuiltins x=some u) (h:Q u s)
  (hn:x≠"__name__":=by decide) (hd:(x == ("__debug__":Str))=false:=by decide):wpAny (model X.prog X.w) X.A (eval (.Name x pos) X.env) Q E s:=by
 obtain ⟨mb,h1,h2⟩:=I.mod.blt
 exact x3 I.ok.kind hg (Calls.loadGlobal_builtin (by rw [I.ok.glob]; exact I.mod.glob.keeps I.bk) hm (by rw [I.ok.blt]; exact h1.keeps I.bk) ((h2 x hn).trans hv) h) hd
theorem fK {x:Str} {v:V} {u:Value} {pos:Pos} (hg:Gl X x) (hm:X.mg x=some u) (r:RelV v u) (hd:(x == ("__debug__":Str))=false:=by decide):PE X (.Name x pos) (tC v) :=
 λ_ _ _ H _ I h=>tU I hg hm ⟨v,H,I,r,h⟩ hd
theorem kw {x:Str} {v:V} {u:Value} {pos:Pos} (hg:Gl X x) (hm:X.mg x=none) (hv:bootBuiltins x=some u) (r:RelV v u) (hn:x≠"__name__":=by decide) (hd:(x == ("__debug__":Str))=false:=by decide):PE X (.Name x pos) (tC v) :=
 λ_ _ _ H _ I h=>kC I hg hm hv ⟨v,H,I,r,h⟩ hn hd
variable {a b:Expr} {ta tb:TE} {pos:Pos}
noncomputable def PC (X:Cx) (op:CmpOp) (a b:Expr) (t:TE):Prop :=
 ∀ (pins:List (Addr×Obj)) (s:Shared) (σ:St) (H:Hp) (Q:VK),Inv X pins σ H s->t σ H Q ->
  wpAny (model X.prog X.w) X.A (eval a X.env) (λv s₁=>wpAny (model X.prog X.w) X.A (eval b X.env) (λu s₂=>wpAny (model X.prog X.w) X.A (compareOp op v u) (EP X pins σ Q) X.xe s₂) X.xe s₁) X.xe s
def ZgD (ta:TE):TE:=λσ H Q=>ta σ H λx H1=>Q (.bl (decide (x=.non))) H1
theorem RelV.none_iff {x:V} {v:Value} (r:RelV x v):(v == Value.none)=decide (x=.non):=by
 cases x with
 | non=>cases r; rfl
 | bl _=>cases r; rfl
 | int _=>obtain ⟨t,rfl⟩:=r; rfl
 | str _=>obtain ⟨t,rfl⟩:=r; rfl
 | byt _=>obtain ⟨t,rfl⟩:=r; rfl
 | flt _=>obtain ⟨t,rfl⟩:=r; rfl
 | ref _=>cases r; rfl
 | ty _=>cases r; rfl
theorem ZiY {j pos'} (ha:PE X a ta):PC X .Is a (.Constant .none j pos') (ZgD ta):=by
 intro pins s σ H Q I h
 refine thn (ha pins s σ H _ I h) λv s1 hz0=>?_
 obtain ⟨x,H1,I1,r1,q1⟩:=hz0
 exact Constant_none (is_none_gen ⟨.bl _,H1,I1,by rw [r1.none_iff]; rfl,q1⟩)
def tB (t:TE):TT:=λσ H Q=>t σ H λx H1=>∃ c,x=.bl c/\Q c H1
theorem Zip {op:CmpOp} {t:TE} (h:PC X op a b t) (h1:behindInMarks op b=false:=by first | exact nobehind _ (by decide) (by decide) | rfl):PT X (.Compare a [op] [b] pos) (tB t):=by
 intro pins s σ H Q I hw
 refine wpAny_isTrue_Compare1 (thn (h pins s σ H _ I hw) λv s1 h1=>thn h1 λu s2 h2=>thn h2 λc s3 hz0=>?_) h1
 obtain ⟨x,H1,I1,r1,q1⟩:=hz0
 obtain ⟨d,rfl,q⟩:=q1
 cases r1
 exact wpAny_truthy_bool ⟨H1,I1,q⟩
theorem sG {e:Expr} {t:TE} (h:PE X e t) (he:∀ whole,isTrue e X.env whole=(do let v <- whole; standAt e.pos; holding [v] (truthy v)):=by intro _; rfl):PT X e (tB t):=by
 intro pins s σ H Q I hw
 refine isTrue_plain (thn (h pins s σ H _ I hw) λv s1 hz0=>?_) (he _)
 obtain ⟨x,H1,I1,r1,q1⟩:=hz0
 obtain ⟨d,rfl,q⟩:=q1
 cases r1
 exact wpAny_truthy_bool ⟨H1,I1,q⟩
variable {tA tB':TT} {rest:List Expr}
def ZgM (t u:TT):TT:=λσ H Q=>t σ H λc H1=>if c=true then u σ H1 Q else Q false H1
def tOr (t u:TT):TT:=λσ H Q=>t σ H λc H1=>if c=true then Q true H1 else u σ H1 Q
def Zgx (t:TT):TT:=λσ H Q=>t σ H λc H1=>Q (!c) H1
theorem Zim (ha:PT X a tA):PW X (.BoolOp .And [a] pos) tA:=by
 intro wh pins s σ H Q I h
 refine isTrue_and (thn (ha pins s σ H Q I h) λc s1 e=>?_)
 cases c with
 | true=>exact isTrue_and_nil e
 | false=>exact e
theorem sE (ha:PT X a tA):PW X (.BoolOp .Or [a] pos) tA:=by
 intro wh pins s σ H Q I h
 refine isTrue_or (thn (ha pins s σ H Q I h) λc s1 e=>?_)
 cases c with
 | false=>exact isTrue_or_nil e
 | true=>exact e
theorem Zin (ha:PT X a tA) (hb:PW X (.BoolOp .And (b::rest) pos) tB'):PW X (.BoolOp .And (a::b::rest) pos) (ZgM tA tB'):=by
 intro wh pins s σ H Q I h
 refine isTrue_and (thn (ha pins s σ H _ I h) λc s1 hz0=>?_)
 obtain ⟨H1,I1,q1⟩:=hz0
 cases c with
 | true=>exact hb wh pins s1 σ H1 Q I1 q1
 | false=>exact ⟨H1,I1,q1⟩
theorem sF (ha:PT X a tA) (hb:PW X (.BoolOp .Or (b::rest) pos) tB'):PW X (.BoolOp .Or (a::b::rest) pos) (tOr tA tB'):=by
 intro wh pins s σ H Q I h
 refine isTrue_or (thn (ha pins s σ H _ I h) λc s1 hz0=>?_)
 obtain ⟨H1,I1,q1⟩:=hz0
 cases c with
 | true=>exact ⟨H1,I1,q1⟩
 | false=>exact hb wh pins s1 σ H1 Q I1 q1
theorem sH (ha:PT X a tA):PT X (.UnaryOp .Not a pos) (Zgx tA):=by
 intro pins s σ H Q I h
 exact isTrue_not (ha pins s σ H (λc H1=>Q (!c) H1) I h)
def ZgL (ta tb:TE):TE:=λσ H Q=>ta σ H λx H1=>∃ c,x=.bl c/\if c=true then tb σ H1 Q else Q (.bl false) H1
def Zgu (ta tb:TE):TE:=λσ H Q=>ta σ H λx H1=>∃ c,x=.bl c/\if c=true then Q (.bl true) H1 else tb σ H1 Q
def Zgw (ta:TE):TE:=λσ H Q=>ta σ H λx H1=>∃ c,x=.bl c/\Q (.bl (!c)) H1
theorem ZiM {op} {t:TE} (h:PE X a t):PE X (.BoolOp op [a] pos) t:=λpins s σ H Q I hw=>BoolOp_one (h pins s σ H Q I hw)
theorem ZiW (ha:PE X a ta) (hb:PE X (.BoolOp .And (b::rest) pos) tb):PE X (.BoolOp .And (a::b::rest) pos) (ZgL ta tb):=by
 intro pins s σ H Q I h
 refine BoolOp_and (thn (ha pins s σ H _ I h) λv s1 hz0=>?_)
 obtain ⟨x,H1,I1,r1,q1⟩:=hz0
 obtain ⟨c,rfl,q1⟩:=q1
 cases r1
 refine wpAny_truthy_bool ?_
 cases c with
 | true=>exact hb pins s1 σ H1 Q I1 q1
 | false=>exact ⟨.bl false,H1,I1,rfl,q1⟩
theorem ZiL (ha:PE X a ta) (hb:PE X (.BoolOp .Or (b::rest) pos) tb):PE X (.BoolOp .Or (a::b::rest) pos) (Zgu ta tb):=by
 intro pins s σ H Q I h
 refine BoolOp_or (thn (ha pins s σ H _ I h) λv s1 hz0=>?_)
 obtain ⟨x,H1,I1,r1,q1⟩:=hz0
 obtain ⟨c,rfl,q1⟩:=q1
 cases r1
 refine wpAny_truthy_bool ?_
 cases c with
 | false=>exact hb pins s1 σ H1 Q I1 q1
 | true=>exact ⟨.bl true,H1,I1,rfl,q1⟩
theorem ZiN (ha:PE X a ta):PE X (.UnaryOp .Not a pos) (Zgw ta):=by
 intro pins s σ H Q I h
 refine UnaryOp_ (thn (ha pins s σ H _ I h) λv s1 hz0=>?_)
 obtain ⟨x,H1,I1,r1,q1⟩:=hz0
 obtain ⟨c,rfl,q1⟩:=q1
 cases r1
 exact not_of (wpAny_truthy_bool ⟨.bl (!c),H1,I1,rfl,q1⟩)
def tIf (t:TT) (ta tb:TE):TE:=λσ H Q=>t σ H λc H1=>if c=true then ta σ H1 Q else tb σ H1 Q
theorem ZiP {c:Expr} (hc:PT X c tA) (ha:PE X a ta) (hb:PE X b tb):PE X (.IfExp c a b pos) (tIf tA ta tb):=by
 intro pins s σ H Q I h
 refine wpAny_IfExp (thn (hc pins s σ H _ I h) λd s1 hz0=>?_)
 obtain ⟨H1,I1,q1⟩:=hz0
 cases d with
 | true=>exact ha pins s1 σ H1 Q I1 q1
 | false=>exact hb pins s1 σ H1 Q I1 q1
end
noncomputable def SqL (K:yS) (H:Hp) (a:Addr) (xs:zb):Prop :=
 Rd H a (.lst xs) \/
  ∃ (o:Obj) (its:Array Value) (n:Nat),K.lookup a=some o/\o.cls=.type "list"/\o.dict=none/\o.data=.seq its n/\its.size<=sizeLine/\Vals xs its.toList
noncomputable def SqT (K:yS) (H:Hp) (a:Addr) (xs:zb):Prop :=
 Rd H a (.tup xs) \/
  ∃ (o:Obj) (its:Array Value) (n:Nat),K.lookup a=some o/\o.cls=.type "tuple"/\o.data=.seq its n/\its.size<=sizeLine/\Vals xs its.toList
noncomputable def ZrR:Value->Option V
 | .none=>some .non
 | .bool b=>some (.bl b)
 | .int i _=>some (.int i)
 | .str x _=>some (.str x)
 | .bytes b _=>some (.byt b)
 | .float b _=>some (.flt b)
 | .ref a=>some (.ref a)
 | .type n=>some (.ty n)
 | _=>none
theorem RelV.abs {x:V} {u:Value} (r:RelV x u):ZrR u=some x:=by
 cases x with
 | non=>cases r; rfl
 | bl _=>cases r; rfl
 | int _=>obtain ⟨t,rfl⟩:=r; rfl
 | str _=>obtain ⟨t,rfl⟩:=r; rfl
 | byt _=>obtain ⟨t,rfl⟩:=r; rfl
 | flt _=>obtain ⟨t,rfl⟩:=r; rfl
 | ref _=>cases r; rfl
 | ty _=>cases r; rfl
theorem RelV.inj {x y:V} {u:Value} (r:RelV x u) (q:RelV y u):x=y:=vT (r.abs.symm.trans q.abs)
theorem Vals.inj {xs ys:zb} {us:y9} (h:Vals xs us) (h':Vals ys us):xs=ys:=by
 induction h generalizing ys with
 | nil=>cases h'; rfl
 | cons r t ih=>cases h' with | cons r' t'=>rw [r.inj r',ih t']
section
variable {X:Cx} {pins:List (Addr×Obj)} {σ:St} {H:Hp} {s:Shared} {a:Addr} {xs ys:zb}
theorem SqL.of {K:yS} (h:H a=some (.lst xs)):SqL K H a xs:=.inl (.inl h)
theorem SqT.of {K:yS} (h:H a=some (.tup xs)):SqT K H a xs:=.inl (.inl h)
theorem Inv.list (I:Inv X pins σ H s) (h:SqL X.K H a xs):∃ its:y9,Vals xs its/\PlainL s.heap a its.toArray/\xs.length<=sizeLine:=by
 rcases h with h | ⟨o,its,n,hk,hc,hd,hs,hz,r⟩
 ·obtain ⟨z,its,n,r,e⟩:=h.ok I.hok
  exact ⟨its,r,⟨_,n,e,rfl,rfl,rfl⟩,z⟩
 ·refine ⟨its.toList,r,⟨o,n,I.kIn a o hk,hc,hd,by simpa using hs⟩,?_⟩
  have e:=r.length
  simp only [wm] at e
  omega
theorem Inv.tuple (I:Inv X pins σ H s) (h:SqT X.K H a xs):∃ its:y9,Vals xs its/\IsTup s.heap a its.toArray/\xs.length<=sizeLine:=by
 rcases h with h | ⟨o,its,n,hk,hc,hs,hz,r⟩
 ·obtain ⟨z,its,r,p⟩:=h.ok I.hok
  exact ⟨its,r,p,z⟩
 ·refine ⟨its.toList,r,⟨o,I.kIn a o hk,hc,n,by simpa using hs⟩,?_⟩
  have e:=r.length
  simp only [wm] at e
  omega
theorem Inv.list_inj (I:Inv X pins σ H s) (h:SqL X.K H a xs) (h':SqL X.K H a ys):xs=ys:=by
 obtain ⟨its,r,⟨o,n,e,_,_,d⟩,_⟩:=I.list h
 obtain ⟨its',r',⟨o',n',e',_,_,d'⟩,_⟩:=I.list h'
 rw [e] at e'; cases e'
 rw [d] at d'
 injection d' with d1 _
 have:its=its':=by simpa using congrArg Array.toList d1
 subst this
 exact r.inj r'
theorem Inv.tuple_inj (I:Inv X pins σ H s) (h:SqT X.K H a xs) (h':SqT X.K H a ys):xs=ys:=by
 obtain ⟨its,r,⟨o,e,_,n,d⟩,_⟩:=I.tuple h
 obtain ⟨its',r',⟨o',e',_,n',d'⟩,_⟩:=I.tuple h'
 rw [e] at e'; cases e'
 rw [d] at d'
 injection d' with d1 _
 have:its=its':=by simpa using congrArg Array.toList d1
 subst this
 exact r.inj r'
end
noncomputable abbrev Cx.wish (X:Cx) (E:y4):Cx:={ X with xe:=E }
noncomputable abbrev Cx.nox (X:Cx):Cx:=X.wish λ_ _=>False
theorem Cx.Ok.wish {X:Cx} (ok:X.Ok) (E:y4):(X.wish E).Ok :=
 ⟨ok.mod,ok.kind,ok.glob,ok.blt,ok.above,ok.inj,ok.has,ok.cab,ok.hd,ok.frames,ok.stk,ok.exf,ok.bs,ok.bsz,ok.noex,ok.exfs,ok.funs,ok.frf⟩
theorem Cx.Ok.unwish {X:Cx} {E:y4} (ok:(X.wish E).Ok):X.Ok :=
 ⟨ok.mod,ok.kind,ok.glob,ok.blt,ok.above,ok.inj,ok.has,ok.cab,ok.hd,ok.frames,ok.stk,ok.exf,ok.bs,ok.bsz,ok.noex,ok.exfs,ok.funs,ok.frf⟩
section
variable {X:Cx} {pins:List (Addr×Obj)} {σ:St} {H:Hp} {s:Shared} {E:y4}
theorem Inv.wish (I:Inv X pins σ H s) (E:y4):Inv (X.wish E) pins σ H s:=⟨I.ok.wish E,I.os,I.bare,I.base,I.loc,I.cell,I.free,I.freeC,I.pin,I.hok,I.len⟩
theorem Inv.unwish (I:Inv (X.wish E) pins σ H s):Inv X pins σ H s:=⟨I.ok.unwish,I.os,I.bare,I.base,I.loc,I.cell,I.free,I.freeC,I.pin,I.hok,I.len⟩
theorem SP.unwish {D:Ends} {f:Flow} {s':Shared} (h:SP (X.wish E) pins D f s'):SP X pins D f s':=by
 cases f with
 | next=>obtain ⟨σ',H',I,q⟩:=h; exact ⟨σ',H',I.unwish,q⟩
 | brk=>obtain ⟨σ',H',I,q⟩:=h; exact ⟨σ',H',I.unwish,q⟩
 | cont=>obtain ⟨σ',H',I,q⟩:=h; exact ⟨σ',H',I.unwish,q⟩
 | ret u=>obtain ⟨v,σ',H',I,r,q⟩:=h; exact ⟨v,σ',H',I.unwish,r,q⟩
theorem PSs.nox {st:List Stmt} {t:TS} (h:PSs X.nox st t):PSs X st t:=λpins s σ H D I hw =>
 wpAny_mono (h pins s σ H D (I.wish _) hw) (λ_ _ q=>q.unwish) λ_ _ z=>False.elim z
end
section
variable {X:Cx} {st:Stmt} {rest:List Stmt} {t u:TS} {e:Expr} {te:TE} {pos:Pos}
def Zgz:TS:=λD σ H=>D.nx σ H
def rG (t u:TS):TS:=λD σ H=>t { D with nx:=u D } σ H
theorem jq:PSs X [] Zgz:=λ_ _ σ H _ I h=>wpAny_execs_nil ⟨σ,H,I,h⟩
theorem cG (h1:PS X st t) (h2:PSs X rest u):PSs X (st::rest) (rG t u):=by
 intro pins s σ H D I h
 refine wpAny_execs_cons (thn (h1 pins s σ H { D with nx:=u D } I h) λf s1 q=>?_)
 cases f with
 | next =>
  obtain ⟨σ',H',I',q⟩:=q
  exact h2 pins s1 σ' H' D I' q
 | ret v=>exact q
 | brk=>exact q
 | cont=>exact q
theorem fh (h1:PS X st t):PSs X [st] t:=by
 intro pins s σ H D I h
 refine wpAny_execs_cons (thn (h1 pins s σ H D I h) λf s1 q=>?_)
 cases f with
 | next=>exact wpAny_execs_nil q
 | ret v=>exact q
 | brk=>exact q
 | cont=>exact q
theorem Inv.quiet {pins:List (Addr×Obj)} {σ:St} {H:Hp} {s:Shared} (I:Inv X pins σ H s):interactive X.env=false:=by simp [interactive,I.ok.kind]
def rK (te:TE):TS:=λD σ H=>te σ H λ_ H1=>D.nx σ H1
theorem fj (he:PE X e te) (hs:swapsWith e none pos.line X.env=pure false:=by rfl):PS X (.Expr e pos) (rK te):=by
 intro pins s σ H D I h
 exact wpAny_Expr_any (thn (he pins s σ H _ I h) λv s1 ⟨x,H1,I1,r1,q1⟩=>⟨σ,H1,I1,q1⟩) I.quiet hs
def Zgs (te:TE):TS:=λD σ H=>te σ H D.rt
theorem fi (he:PE X e te):PS X (.Return (some e) pos) (Zgs te):=by
 intro pins s σ H D I h
 exact wpAny_Return_some (thn (he pins s σ H _ I h) λv s1 ⟨x,H1,I1,r1,q1⟩=>⟨x,σ,H1,I1,r1,q1⟩)
def ZgE (c:TT) (t u:TS):TS:=λD σ H=>c σ H λb H1=>if b=true then t D σ H1 else u D σ H1
theorem iu {c:Expr} {a b:List Stmt} {tc:TT} (hc:PT X c tc) (ha:PSs X a t) (hb:PSs X b u):PS X (.If c a b pos) (ZgE tc t u):=by
 intro pins s σ H D I h
 refine wpAny_If (thn (hc pins s σ H _ I h) λd s1 hz0=>?_)
 obtain ⟨H1,I1,q1⟩:=hz0
 cases d with
 | true=>exact ha pins s1 σ H1 D I1 q1
 | false=>exact hb pins s1 σ H1 D I1 q1
end
noncomputable abbrev TG:=V->St->Hp->(St->Hp->Prop)->Prop
noncomputable abbrev ia:=List V->St->Hp->(St->Hp->Prop)->Prop
noncomputable def PG (X:Cx) (target:Expr) (t:TG):Prop :=
 ∀ (pins:List (Addr×Obj)) (s:Shared) (σ:St) (H:Hp) (v:V) (u:Value) (Q:St->Hp->Prop),Inv X pins σ H s->RelV v u->t v σ H Q ->
  wpAny (model X.prog X.w) X.A (assign target X.env u) (λ_ s'=>∃ σ' H',Inv X pins σ' H' s'/\Q σ' H') X.xe s
noncomputable def PGs (X:Cx) (ts:List Expr) (t:ia):Prop :=
 ∀ (pins:List (Addr×Obj)) (s:Shared) (σ:St) (H:Hp) (vs:zb) (us:y9) (Q:St->Hp->Prop),Inv X pins σ H s->Vals vs us->t vs σ H Q ->
  wpAny (model X.prog X.w) X.A (assignInOrder ((assignEach ts X.env).map (·.2)) us) (λ_ s'=>∃ σ' H',Inv X pins σ' H' s'/\Q σ' H') X.xe s
noncomputable abbrev vp:=V->V->Hp->VK->Prop
noncomputable def PIp (X:Cx) (op:Operator) (t:vp):Prop :=
 ∀ (pins:List (Addr×Obj)) (s:Shared) (σ:St) (H:Hp) (x y:V) (v u:Value) (Q:VK),Inv X pins σ H s->RelV x v->RelV y u->t x y H Q ->
  wpAny (model X.prog X.w) X.A (inplaceOp op v u) (EP X pins σ Q) X.xe s
section
variable {X:Cx} {pos:Pos}
def hI (i:Nat):TG:=λv σ H Q=>Q (σ.set i (some v)) H
theorem bf {i:Nat} {x:Str} (hN:X.N.Nodup) (hi:X.N[i]?=some x) (hx:jR X.env.scope x) (hf:X.fn x=true\/X.env.scope.names.lookup x=some .local:=by first | exact .inl rfl | exact .inr rfl | assumption):PG X (.Name x pos) (hI i):=by
 intro pins s σ H v u Q I r h
 exact wpAny_assign_Name (jl I hN hi hx r (λs' I'=>⟨_,H,I',h⟩) hf)
noncomputable def Zlq:ia:=λvs σ H Q=>vs=[]/\Q σ H
noncomputable def Zlr (t:TG) (u:ia):ia:=λvs σ H Q=>∃ v r,vs=v::r/\t v σ H λσ' H'=>u r σ' H' Q
theorem ZiD:PGs X [] Zlq:=by
 intro pins s σ H vs us Q I r h
 obtain ⟨e,h⟩:=h
 subst e
 cases r
 exact assignInOrder_nil ⟨σ,H,I,h⟩
theorem ZiE {e:Expr} {es:List Expr} {t:TG} {u:ia} (h1:PG X e t) (h2:PGs X es u)
  (hs:(assignEach (e::es) X.env).map (·.2)=assign e X.env::(assignEach es X.env).map (·.2):=by rfl):PGs X (e::es) (Zlr t u):=by
 intro pins s σ H vs us Q I r h
 obtain ⟨v,vr,e1,h⟩:=h
 subst e1
 cases r with
 | cons r rr =>
  rw [hs]
  refine assignInOrder_cons (thn (h1 pins s σ H _ _ _ I r h) λ_ s1 hz0=>?_)
  obtain ⟨σ1,H1,I1,q1⟩:=hz0
  exact h2 pins s1 σ1 H1 _ _ Q I1 rr q1
def Zlp (K:yS) (n:Nat) (t:ia):TG:=λv σ H Q=>∃ a xs,v=.ref a/\SqT K H a xs/\xs.length=n/\t xs σ H Q
theorem ZiF {es:List Expr} {k:Nat} {t:ia} {n:Nat} (hc:X.calm=true) (h:PGs X es t)
  (hn:(assignEach es X.env).length=n:=by rfl) (hst:(assignEach es X.env).findIdx? (·.1)=none:=by rfl):PG X (.Tuple es k pos) (Zlp X.K n t):=by
 intro pins s σ H v u Q I r hw
 obtain ⟨a,xs,e1,hq,hl,hw⟩:=hw
 subst e1
 cases r
 obtain ⟨its,rv,ht,hz⟩:=I.tuple hq
 refine assign_Tuple_tuple (I.ok.hd hc) ht (by simp [hn,<- hl,rv.length]) hst λh' hx=>?_
 have I1:Inv X pins σ H { s with heap:=h' }:=I.kept (t':=s.toks) λb o e=>hx b o (vR (vM e)) e
 exact h pins _ σ H xs _ Q I1 (by simpa using rv) hw
def gj (te:TE) (g:TG):TS:=λD σ H=>te σ H λx H1=>g x σ H1 D.nx
theorem kn {tg e:Expr} {te:TE} {g:TG} (he:PE X e te) (hg:PG X tg g) (hs:swapsWithSole [tg] e pos.line X.env=pure false:=by rfl) (hw:swappedStores [tg] e X.env=pure none:=by rfl)
  (h1:(assignEach [tg] X.env).map (·.2)=[assign tg X.env]:=by rfl):PS X (.Assign [tg] e pos) (gj te g):=by
 intro pins s σ H D I h
 refine wpAny_Assign_stores (thn (he pins s σ H _ I h) λv s1 hz0=>?_) hs hw
 obtain ⟨x,H1,I1,r1,q1⟩:=hz0
 rw [h1]
 exact thn (hg pins s1 σ H1 x v _ I1 r1 q1) λ_ s2 q=>q
theorem aO {i:Nat} {x:Str} {e:Expr} {te:TE} {pos':Pos} (hN:X.N.Nodup) (hi:X.N[i]?=some x) (hx:jR X.env.scope x) (he:PE X e te) (hs:swapsWith e (some (.Name x pos')) pos.line X.env=pure false:=by rfl) (hf:X.fn x=true\/X.env.scope.names.lookup x=some .local:=by first | exact .inl rfl | exact .inr rfl | assumption) :
  PS X (.Assign [.Name x pos'] e pos) (gj te (hI i)):=by
 intro pins s σ H D I h
 refine wpAny_Assign_Name (thn (he pins s σ H _ I h) λv s1 hz0=>?_) hs
 obtain ⟨y,H1,I1,r1,q1⟩:=hz0
 exact jl I1 hN hi hx r1 (λs2 I2=>⟨_,H1,I2,q1⟩) hf
def ZaK (i j:Nat) (ta:TA):TS:=λD σ H=>ta σ H λvs H1=>∃ v w,vs=[v,w]/\D.nx ((σ.set i (some v)).set j (some w)) H1
theorem sJ {i j:Nat} {x y:Str} {a b:Expr} {ta:TA} {px py pt:Pos} {kt k2 pt2} (hc:X.calm=true) (hN:X.N.Nodup) (hi:X.N[i]?=some x) (hj:X.N[j]?=some y) (hij:i≠j)
  (hx:X.env.scope.names.lookup x=some .local) (hy:X.env.scope.names.lookup y=some .local) (ha:PA X [a,b] ta)
  (hw:swappedStores [.Tuple [.Name x px,.Name y py] kt pt] (.Tuple [a,b] k2 pt2) X.env=pure (some [x,y]))
  (hs:swapsWithSole [.Tuple [.Name x px,.Name y py] kt pt] (.Tuple [a,b] k2 pt2) pos.line X.env=pure false:=by rfl) :
  PS X (.Assign [.Tuple [.Name x px,.Name y py] kt pt] (.Tuple [a,b] k2 pt2) pos) (ZaK i j ta):=by
 intro pins s σ H D I h
 rw [exec_Assign_arm]
 refine wpAny_bind (wpAny_standAt ?_)
 rw [hs]
 refine wpAny_bind (wpAny_pure ?_)
 rw [if_neg (by decide)]
 refine wpAny_bind (Tuple_ (thn (ha _ pins s σ H _ I h) λus s1 hz0=>?_))
 obtain ⟨vs,H1,I1,r1,q1⟩:=hz0
 obtain ⟨v,w,e1,q1⟩:=q1
 subst e1
 obtain ⟨u1,u2,rfl,rv,rw'⟩:∃ u1 u2,us=[u1,u2]/\RelV v u1/\RelV w u2:=by
  cases r1 with
  | cons p q =>
   cases q with
   | cons p' q' =>
    cases q'
    exact ⟨_,_,rfl,p,p'⟩
 refine wpAny_newObj_type ?_ (by show 2<=sizeLine; decide)
 have I2:Inv X pins σ H1 { s1 with heap:=s1.heap.push { cls:=.type "tuple",data:=.seq [u1,u2].toArray } }:=I1.kept (t':=s1.toks) λb o e=>vA _ e
 rw [hw]
 refine wpAny_bind (wpAny_pure ?_)
 show wpAny (model X.prog X.w) X.A (do rule "assign.swapped-stores"; let items <- unpackItems (.ref s1.heap.objs.size) 2 none; assignInOrder [λv=>bindName X.env y v,λv=>bindName X.env x v] items.reverse; pure Flow.next) _ _ _
 refine wpAny_bind (wpAny_rule (wpAny_bind (unpackItems_tuple (items:=#[u1,u2]) (I.ok.hd hc) (IsTup.new s1.heap _) λh' hx'=>?_)))
 have I3:=I2.kept (h':=h') (t':=s1.toks) λb o e=>hx' b o (vR (vM e)) e
 show wpAny _ _ (assignInOrder [λv=>bindName X.env y v,λv=>bindName X.env x v] [u2,u1] >>= λ_=>pure Flow.next) _ _ _
 refine wpAny_bind (assignInOrder_cons (wpAny_bindName (jl I3 hN hj (.inl hy) rw' (λs2 I4=>?_) (.inr hy))))
 refine assignInOrder_cons (wpAny_bindName (jl I4 hN hi (.inl hx) rv (λs3 I5=>assignInOrder_nil (wpAny_pure ?_)) (.inr hx)))
 rw [List.set_comm _ _ (Ne.symm hij)] at I5
 exact ⟨_,H1,I5,q1⟩
def ZaP (i:Nat) (te:TE) (ti:vp):TS:=λD σ H=>∃ x,σ[i]?=some (some x)/\te σ H λy H1=>ti x y H1 λz H2=>D.nx (σ.set i (some z)) H2
theorem Zb0 {i:Nat} {x:Str} {e:Expr} {te:TE} {op:Operator} {ti:vp} {pos':Pos} (hN:X.N.Nodup) (hi:X.N[i]?=some x) (hx:jR X.env.scope x) (he:PE X e te) (ho:PIp X op ti) (hf:X.fn x=true\/X.env.scope.names.lookup x=some .local:=by first | exact .inl rfl | exact .inr rfl | assumption) :
  PS X (.AugAssign (.Name x pos') op e pos) (ZaP i te ti):=by
 intro pins s σ H D I h
 obtain ⟨v,e1,h⟩:=h
 obtain ⟨m,hn,hl⟩:=I.loc
 have vis:k8 X.env.scope x:=by rcases hx with k | k; exact .inl k; exact .inr (.inl k)
 obtain ⟨u,r,l⟩:=hl i x v hi e1 vis
 refine wpAny_AugAssign_Name ?_
 have go:wpAny (model X.prog X.w) X.A (eval e X.env) (λw s₂=>wpAny (model X.prog X.w) X.A (inplaceOp op u w) (λr s₃=>wpAny (model X.prog X.w) X.A (storeName X.env x r) (λ_=>SP X pins D .next) X.xe s₃) X.xe s₂) X.xe s:=by
  refine thn (he pins s σ H _ I h) λw s1 hz0=>?_
  obtain ⟨y,H1,I1,r1,q1⟩:=hz0
  refine thn (ho pins s1 σ H1 v y u w _ I1 r r1 q1) λz s2 hz0=>?_
  obtain ⟨zv,H2,I2,r2,q2⟩:=hz0
  exact jl I2 hN hi hx r2 (λs3 I3=>⟨_,H2,I3,q2⟩) hf
 rcases l with ⟨hk,hm⟩ | ⟨hk,c,hc,hcell⟩
 ·exact wpAny_loadName_local I.ok.kind hk hn hm go
 ·rcases hk with hk | hk
  ·exact wpAny_loadName_cell I.ok.kind hk hc hcell go
  ·rcases hx with k | k
   ·have:X.env.scope.names.lookup x=some .free:=hk
    rw [k] at this; cases this
   ·have:X.env.scope.names.lookup x=some .free:=hk
    rw [k] at this; cases this
end
section
variable {X:Cx} {pos:Pos}
def Zgl (c:TT) (tb:TS):TS:=λD σ H=>∃ W:Nat->St->Hp->Prop,(∃ m,W m σ H)/\∀ m σ H,W m σ H ->
 c σ H λb H1=>if b=true then ∃ N:St->Hp->Prop,(∀ σ' H',N σ' H'->∃ m',m' < m/\W m' σ' H')/\tb { D with nx:=N,ct:=N,bk:=D.nx } σ H1 else D.nx σ H1
theorem Zis {c:Expr} {body:List Stmt} {tc:TT} {tb:TS} (hp:PassesOwn (model X.prog X.w) X.A X.env X.xe) (hc:PT X c tc) (hb:PSs X body tb):PS X (.While c body [] pos) (Zgl tc tb):=by
 intro pins s σ H D I h
 obtain ⟨W,⟨m0,w0⟩,turn⟩:=h
 refine wpAny_While (codeAny_whileLoop (λn s'=>∃ σ' H',Inv X pins σ' H' s'/\W n σ' H') ?_ m0 ⟨σ,H,I,w0⟩)
 rintro n s1 ⟨σ1,H1,I1,w1⟩
 refine wpAny_passesOwn hp (thn (hc pins s1 σ1 H1 _ I1 (turn n σ1 H1 w1)) λb s2 hz0=>?_)
 obtain ⟨H2,I2,q2⟩:=hz0
 cases b with
 | true =>
  obtain ⟨N,hN,q2⟩:=q2
  rw [if_pos rfl]
  refine wpAny_passesOwn hp (thn (hb pins s2 σ1 H2 _ I2 q2) λf s3 q3=>?_)
  cases f with
  | next =>
   obtain ⟨σ3,H3,I3,n3⟩:=q3
   obtain ⟨m',hm,w3⟩:=hN σ3 H3 n3
   exact ⟨m',hm,σ3,H3,I3,w3⟩
  | cont =>
   obtain ⟨σ3,H3,I3,n3⟩:=q3
   obtain ⟨m',hm,w3⟩:=hN σ3 H3 n3
   exact ⟨m',hm,σ3,H3,I3,w3⟩
  | brk=>exact q3
  | ret v=>exact q3
 | false =>
  rw [if_neg vL]
  exact wpAny_execs_nil ⟨σ1,H2,I2,q2⟩
end
structure It where
 go:Nat->Hp->Prop
 yld:Nat->Hp->V->Hp->Prop
 stop:Nat->Hp->Prop
noncomputable def fB (X:Cx) (pins:List (Addr×Obj)) (H:Hp) (b:Addr):Prop :=
 H b=none/\b≠X.env.locals/\b ∉ X.fs/\(b∈X.ex\/X.s₀.heap.objs.size<=b)/\(∀ x c,X.env.cells.lookup x=some c->c≠b)/\∀ p∈X.pn++pins,p.1≠b
theorem Inv.fpOk {X:Cx} {pins:List (Addr×Obj)} {σ:St} {H H':Hp} {s:Shared} {b:Addr} (I:Inv X pins σ H s) (hb:s.heap.objs.size<=b) (hn:H' b=none):fB X pins H' b:=by
 refine ⟨hn,wq (vE I.lt hb),I.nofs hb,.inr (vO I.sz hb),λx c e z=>?_,λp hp z=>?_⟩
 ·obtain ⟨v,q⟩:=I.cell x c e
  exact absurd (vE q.lt (by rw [z]; exact hb)) (vU _)
 ·exact absurd (vE (vM (I.pin p hp).1) (by rw [z]; exact hb)) (vU _)
structure Turn (P:Program) (w:World) (K:yS) (tg:Expr) (J:It) (fp:List Addr) (it:Addr) (tn:Nat->Heap->Prop):Prop where
 mem:it∈fp
 obj:∀ i h,tn i h->∀ b∈fp,∃ o,h.get? b=some o/\∀ v,o.data≠.cell v
 keep:∀ i h h',tn i h->(∀ b∈fp,∀ o,h.get? b=some o->h'.get? b=some o)->tn i h'
 item:∀ (X:Cx),X.prog=P->X.w=w->X.K=K->X.calm=true->∀ (i:Nat) (pins:List (Addr×Obj)) (s:Shared) (σ:St) (H:Hp) (E:y4),Inv X pins σ H s->(∀ b∈fp,fB X pins H b)->tn i s.heap->J.go i H ->
  wpAny (model P w) X.A (pyNext (.ref it)) (λr s1=>∃ u,r=some u /\
   wpAny (model P w) X.A (letOwnedTupleGo tg (.ref it) u) (λ_ s2=>∃ x H',Inv X pins σ H' s2/\RelV x u/\J.yld i H x H'/\tn (i+1) s2.heap/\∀ b∈fp,H' b=none) E s1) E s
 done:∀ (X:Cx),X.prog=P->X.w=w->X.K=K->X.calm=true->∀ (i:Nat) (pins:List (Addr×Obj)) (s:Shared) (σ:St) (H:Hp) (E:y4),Inv X pins σ H s->(∀ b∈fp,fB X pins H b)->tn i s.heap->J.stop i H ->
  wpAny (model P w) X.A (pyNext (.ref it)) (λr s1=>r=none/\Inv X pins σ H s1) E s
 self:∀ (A:Around) (i:Nat) (s:Shared) (Q:y4) (E:y4),tn i s.heap->Q (.ref it) s->wpAny (model P w) A (pyIter (.ref it)) Q E s
noncomputable abbrev TI:=St->Hp->(It->Hp->Prop)->Prop
noncomputable def la (X:Cx) (pins:List (Addr×Obj)) (σ:St) (tg:Expr) (R:It->Hp->Prop) (itv:Value) (s2:Shared):Prop :=
 ∃ (it:Addr) (fp:List Addr) (tn:Nat->Heap->Prop) (J:It) (H':Hp),itv=.ref it/\Inv X pins σ H' s2/\Turn X.prog X.w X.K tg J fp it tn/\tn 0 s2.heap/\(∀ b∈fp,fB X pins H' b)/\R J H'
noncomputable def PI (X:Cx) (tg iter:Expr) (wi:TI):Prop :=
 ∀ (pins:List (Addr×Obj)) (s:Shared) (σ:St) (H:Hp) (R:It->Hp->Prop),Inv X pins σ H s->wi σ H R ->
  wpAny (model X.prog X.w) X.A (eval iter X.env) (λv s1=>wpAny (model X.prog X.w) X.A (pyIter v) (la X pins σ tg R) X.xe s1) X.xe s
theorem kG {M:Model} {A:Around} {E:y4} {s:Shared} {tg:Expr} {it:Addr} {u:Value} {o:Obj} {n:String} {vs:Array Value} {Q:Unit->Shared->Prop} (ho:s.heap.get? it=some o) (hc:o.cls=.type n) (hd:o.data=.fields vs)
  (hn:["enumerate","zip","dict_itemiterator","dict_reverseitemiterator","odict_iterator","itertools.zip_longest","itertools.pairwise"].contains n=false) (hQ:Q () s):wpAny M A (letOwnedTupleGo tg (.ref it) u) Q E s:=by
 unfold letOwnedTupleGo
 cases tg <;> first
  | exact wpAny_pure hQ
  | (cases u <;> first
    | exact wpAny_pure hQ
    | (refine wpAny_bind (wpAny_load ho ?_)
       rw [hc,hd]
       show wpAny M A (if (["enumerate","zip","dict_itemiterator","dict_reverseitemiterator","odict_iterator","itertools.zip_longest","itertools.pairwise"].contains n && vs[0]? == some (rawInt _))=true then _ else _) Q E s
       rw [if_neg (by intro h; rw [hn,Bool.false_and] at h; cases h)]
       exact wpAny_pure hQ))
noncomputable def ra (K:yS) (a:Addr):It :=
 ⟨λi H=>∃ xs x,SqL K H a xs/\xs[i]?=some x,λi H x H'=>H'=H/\∀ xs,SqL K H a xs->xs[i]?=some x,λi H=>∃ xs,SqL K H a xs/\xs.length<=i⟩
noncomputable def q9 (K:yS) (a:Addr):It :=
 ⟨λi H=>∃ xs x,SqT K H a xs/\xs[i]?=some x,λi H x H'=>H'=H/\∀ xs,SqT K H a xs->xs[i]?=some x,λi H=>∃ xs,SqT K H a xs/\xs.length<=i⟩
noncomputable def nv (lo:Int) (n:Nat):It:=⟨λi _=>i < n,λi H x H'=>H'=H/\x=.int (lo+i),λi _=>n<=i⟩
theorem ZaA {P:Program} {w:World} {K:yS} {tg:Expr} (a it:Addr):Turn P w K tg (ra K a) [it] it (λi h=>h.IsListIter it a i) where
 mem:=by simp
 obj:=λi h st b hb=>by
  have e:b=it:=by simpa using hb
  subst e
  obtain ⟨o,e,c,d⟩:=st
  exact ⟨o,e,λv z=>by rw [d] at z; cases z⟩
 keep:=λi h h' st k=>st.at λo e=>k it (by simp) o e
 item:=by
  intro X hP hw hK hc i pins s σ H E I hf st hg
  subst hP hw hK
  obtain ⟨xs,x,hq,hx⟩:=hg
  obtain ⟨its,rv,p,hz⟩:=I.list hq
  obtain ⟨u,hu,ru⟩:=rv.get hx
  obtain ⟨f0,f1,f2,f3,f4,f5⟩:=hf it (by simp)
  refine wpAny_pyNext_list_item st p.isList (x:=u) (by simpa using hu) λh' st' sb=>?_
  have I1:Inv X pins σ H { s with heap:=h' }:=I.turned (t':=s.toks) (λb o hb e=>(sb.2 b hb).trans e) f0 f1 f3 f4 f5
  obtain ⟨o,e,c,d⟩:=id st'
  exact ⟨u,rfl,kG (s:={ s with heap:=h' }) e c d (by decide) ⟨x,H,I1,ru,⟨rfl,λys hy=>by rw [I.list_inj hy hq]; exact hx⟩,st',λb hb=>(hf b hb).1⟩⟩
 done:=by
  intro X hP hw hK hc i pins s σ H E I hf st hg
  subst hP hw hK
  obtain ⟨xs,hq,hx⟩:=hg
  obtain ⟨its,rv,p,hz⟩:=I.list hq
  obtain ⟨f0,f1,f2,f3,f4,f5⟩:=hf it (by simp)
  have hl:=rv.length
  exact wpAny_pyNext_list_end (I.ok.hd hc) st p.isList (by simp; omega) λh' eb=>⟨rfl,I.turned (t':=s.toks) (λb o hb e=>eb b o hb e) f0 f1 f3 f4 f5⟩
 self:=λ_ _ _ _ _ st h=>wpAny_pyIter_listiter st h
theorem Zay {P:Program} {w:World} {K:yS} {tg:Expr} (a it:Addr):Turn P w K tg (q9 K a) [it] it (λi h=>h.IsTupleIter it a i) where
 mem:=by simp
 obj:=λi h st b hb=>by
  have e:b=it:=by simpa using hb
  subst e
  obtain ⟨o,e,c,d⟩:=st
  exact ⟨o,e,λv z=>by rw [d] at z; cases z⟩
 keep:=λi h h' st k=>st.at λo e=>k it (by simp) o e
 item:=by
  intro X hP hw hK hc i pins s σ H E I hf st hg
  subst hP hw hK
  obtain ⟨xs,x,hq,hx⟩:=hg
  obtain ⟨its,rv,p,hz⟩:=I.tuple hq
  obtain ⟨u,hu,ru⟩:=rv.get hx
  obtain ⟨f0,f1,f2,f3,f4,f5⟩:=hf it (by simp)
  refine wpAny_pyNext_tuple_item st (show s.heap.IsTuple a its.toArray from p) (x:=u) (by simpa using hu) λh' st' sb=>?_
  have I1:Inv X pins σ H { s with heap:=h' }:=I.turned (t':=s.toks) (λb o hb e=>(sb.2 b hb).trans e) f0 f1 f3 f4 f5
  obtain ⟨o,e,c,d⟩:=id st'
  exact ⟨u,rfl,kG (s:={ s with heap:=h' }) e c d (by decide) ⟨x,H,I1,ru,⟨rfl,λys hy=>by rw [I.tuple_inj hy hq]; exact hx⟩,st',λb hb=>(hf b hb).1⟩⟩
 done:=by
  intro X hP hw hK hc i pins s σ H E I hf st hg
  subst hP hw hK
  obtain ⟨xs,hq,hx⟩:=hg
  obtain ⟨its,rv,p,hz⟩:=I.tuple hq
  obtain ⟨f0,f1,f2,f3,f4,f5⟩:=hf it (by simp)
  have hl:=rv.length
  exact wpAny_pyNext_tuple_end (I.ok.hd hc) st (show s.heap.IsTuple a its.toArray from p) (by simp; omega) λh' eb=>⟨rfl,I.turned (t':=s.toks) (λb o hb e=>eb b o hb e) f0 f1 f3 f4 f5⟩
 self:=λ_ _ _ _ _ st h=>wpAny_pyIter_tupleiter st h
theorem Zf9 {P:Program} {w:World} {K:yS} {tg:Expr} (it:Addr) (lo:Int) (n:Nat):Turn P w K tg (nv lo n) [it] it (λi h=>IsRangeIter h it (lo+(i:Nat) * 1) ((n:Int) - (i:Nat)) 1) where
 mem:=by simp
 obj:=λi h st b hb=>by
  have e:b=it:=by simpa using hb
  subst e
  exact ⟨_,st,λv z=>by
   have z':Data.fields _=Data.cell v:=z
   cases z'⟩
 keep:=λi h h' st k=>k it (by simp) _ st
 item:=by
  intro X hP hw hK hc i pins s σ H E I hf st hg
  subst hP hw hK
  obtain ⟨f0,f1,f2,f3,f4,f5⟩:=hf it (by simp)
  have W:=Walks.range (prog:=X.prog) (w:=X.w) (I.ok.hd hc) it lo 1 n
  refine W.item i s _ _ hg st λv h' tk hv st' kk=>?_
  obtain ⟨t,rfl⟩:=hv
  have I1:Inv X pins σ H { s with heap:=h',toks:=tk }:=I.turned (λb o hb e=>kk b o (by simpa using hb) e) f0 f1 f3 f4 f5
  refine ⟨_,rfl,kG (s:={ s with heap:=h',toks:=tk }) (n:="range_iterator") st' rfl rfl (by decide) ⟨.int (lo+i),H,I1,⟨t,?_⟩,⟨rfl,rfl⟩,st',λb hb=>(hf b hb).1⟩⟩
  rw [Int.mul_one]
 done:=by
  intro X hP hw hK hc i pins s σ H E I hf st hg
  subst hP hw hK
  obtain ⟨f0,f1,f2,f3,f4,f5⟩:=hf it (by simp)
  exact wpAny_pyNext_range_end (I.ok.hd hc) st (by have:n<=i:=hg; omega) λh' eb=>⟨rfl,I.turned (t':=s.toks) (λb o hb e=>eb b o hb e) f0 f1 f3 f4 f5⟩
 self:=λ_ _ _ _ _ st h=>wpAny_pyIter_rangeiter st h
section
variable {X:Cx} {tg:Expr}
theorem Zia {pins:List (Addr×Obj)} {σ:St} {H:Hp} {s:Shared} {R:It->Hp->Prop} {E:y4} {lo hi:Int} {t u v:Tok} {tk:Nat} (I:Inv X pins σ H s) (h1:-(2 ^ 62)<=lo) (h2:lo < 2 ^ 62) (h3:-(2 ^ 62)<=hi) (h4:hi < 2 ^ 62)
  (q:R (nv lo (hi - lo).toNat) H):wpAny (model X.prog X.w) X.A (pyIter (.ref s.heap.objs.size)) (la X pins σ tg R) E { s with heap:=s.heap.push { cls:=.type "range",data:=.fields #[.int lo t,.int hi u,.int 1 v] },toks:=tk }:=by
 refine wpAny_pyIter_range (IsRange.new ..) (small_one h1 h2 h3 h4) ?_
 have I1:Inv X pins σ H { s with heap:=s.heap.push { cls:=.type "range",data:=.fields #[.int lo t,.int hi u,.int 1 v] },toks:=tk }:=I.kept λb o e=>vA _ e
 refine ⟨(s.heap.push { cls:=.type "range",data:=.fields #[.int lo t,.int hi u,.int 1 v] }).objs.size,[(s.heap.push { cls:=.type "range",data:=.fields #[.int lo t,.int hi u,.int 1 v] }).objs.size],_,_,H,rfl,
  I1.kept (t':=tk) λb o e=>vA _ e,Zf9 _ lo (hi - lo).toNat,?_,λb hb=>?_,q⟩
 ·have e1:lo+((0:Nat):Int) * 1=lo:=by simp
  have e2:(((hi - lo).toNat:Nat):Int) - ((0:Nat):Int)=Builtin.Range.rangeSize lo hi 1:=by rw [rangeSize_one]; split <;> omega
  show IsRangeIter _ _ (lo+((0:Nat):Int) * 1) ((((hi - lo).toNat:Nat):Int) - ((0:Nat):Int)) 1
  rw [e1,e2]
  exact vI _ rfl
 ·have e:b=(s.heap.push { cls:=.type "range",data:=.fields #[.int lo t,.int hi u,.int 1 v] }).objs.size:=by simpa using hb
  subst e
  exact I1.fpOk (vF _) (I1.hok.fresh (vF _))
def Zc4 (ta:TA):TI:=λσ H R=>ta σ H λvs H1=>∃ j:Int,vs=[.int j]/\-(2 ^ 62)<=j/\j < 2 ^ 62/\R (nv 0 j.toNat) H1
theorem kr {a:Expr} {ta:TA} {p pos:Pos} (hg:Gl X "range") (hm:X.mg "range"=none) (ha:PA X [a] ta) (hs:starEach [a] X.env=[(false,eval a X.env)]:=by rfl):PI X tg (.Call (.Name "range" p) [a] [] pos) (Zc4 ta):=by
 intro pins s σ H R I h
 refine Call_ (kC I hg hm boot_range (wX (thn (ha pos pins s σ H _ I h) λus s1 hz0=>?_) hs rfl))
 obtain ⟨vs,H1,I1,r1,q1⟩:=hz0
 obtain ⟨j,e,q1,q2,q⟩:=q1
 subst e
 cases r1 with
 | cons r rr =>
  cases rr
  obtain ⟨t,rfl⟩:=r
  exact call_range_1 (Zia I1 (by omega) (by omega) q1 q2 (by simpa using q))
def ZgG (wi:TI) (g:TG) (tb:TS):TS:=λD σ H=>wi σ H λJ H1=>∃ W:Nat->Nat->St->Hp->Prop,(∃ m,W 0 m σ H1)/\∀ i m σ H,W i m σ H ->
 (J.stop i H/\D.nx σ H)\/(J.go i H/\∃ N:St->Hp->Prop,(∀ σ' H',N σ' H'->∃ m',m' < m/\W (i+1) m' σ' H')/\∀ x H',J.yld i H x H'->g x σ H' λσ2 H2=>tb { D with nx:=N,ct:=N,bk:=D.nx } σ2 H2)
noncomputable def oZ (fp:List Addr) (h:Heap):List (Addr×Obj):=fp.filterMap λb=>(h.get? b).map λo=>(b,o)
theorem gq {fp:List Addr} {h:Heap} {b:Addr} {o:Obj} (hb:b∈fp) (e:h.get? b=some o):(b,o)∈oZ fp h:=List.mem_filterMap.mpr ⟨b,hb,by rw [e]; rfl⟩
theorem Zjv {fp:List Addr} {h:Heap} {p:Addr×Obj} (hp:p∈oZ fp h):p.1∈fp/\h.get? p.1=some p.2:=by
 obtain ⟨b,hb,e⟩:=List.mem_filterMap.mp hp
 cases q:h.get? b with
 | none=>rw [q] at e; cases e
 | some o =>
  rw [q] at e
  have e':(b,o)=p:=vT e
  subst e'
  exact ⟨hb,q⟩
theorem Inv.pinned {pins:List (Addr×Obj)} {σ:St} {H:Hp} {s:Shared} {fp:List Addr} (I:Inv X pins σ H s) (hf:∀ b∈fp,fB X pins H b) (ho:∀ b∈fp,∃ o,s.heap.get? b=some o/\∀ v,o.data≠.cell v):Inv X (pins++oZ fp s.heap) σ H s :=
 I.pins_of λp hp=>(wE.mp hp).elim (λz=>I.pin p (vJ _ z)) λz=>by
  obtain ⟨hb,e⟩:=Zjv z
  obtain ⟨f0,f1,f2,_⟩:=hf p.1 hb
  obtain ⟨o,e',d⟩:=ho p.1 hb
  rw [e] at e'; cases e'
  exact ⟨e,f0,f1,f2,d⟩
theorem Inv.unpinned {pins pl:List (Addr×Obj)} {σ:St} {H:Hp} {s:Shared} (I:Inv X (pins++pl) σ H s):Inv X pins σ H s:=I.pins_of λp hp=>I.pin p (vJ _ (wO _ hp))
theorem Ziu {iter:Expr} {body:List Stmt} {wi:TI} {g:TG} {tb:TS} {pos:Pos} (hp:PassesOwn (model X.prog X.w) X.A X.env X.xe) (hc:X.calm=true) (hi:PI X tg iter wi) (hg:PG X tg g) (hb:PSs X body tb)
  (hs:∀ x,foldedSetIterable iter X.env x=pure x:=by intro _; rfl):PS X (.For tg iter body [] pos) (ZgG wi g tb):=by
 intro pins s σ H D I h
 refine wpAny_For (thn (hi pins s σ H _ I h) λv s1 h1=>thn h1 λitv s2 h2=>?_) hs
 obtain ⟨it,fp,tn,J,H2,e,I2,T,st2,f2,W,⟨m0,w0⟩,turn⟩:=h2
 subst e
 -- what stays true of the iterator's objects through the loop
 have stat:∀ {H':Hp},(∀ b∈fp,H' b=none)->∀ b∈fp,fB X pins H' b:=λhn b hb=>⟨hn b hb,(f2 b hb).2⟩
 refine codeAny_forLoop_any (λn s'=>∃ i σ' H',Inv X pins σ' H' s'/\tn i s'.heap/\(∀ b∈fp,H' b=none)/\W i n σ' H') ?_ m0 ⟨0,σ,H2,I2,st2,λb hb=>(f2 b hb).1,w0⟩
 rintro n s3 ⟨i,σ3,H3,I3,st3,fr3,w3⟩
 rcases turn i n σ3 H3 w3 with ⟨stop,qn⟩ | ⟨go,N,hN,step⟩
 ·refine wpAny_passesOwn hp (thn (T.done X rfl rfl rfl hc i pins s3 σ3 H3 X.xe I3 (stat fr3) st3 stop) λr s4 hz0=>?_)
  obtain ⟨hr,I4⟩:=hz0
  subst hr
  exact wpAny_execs_nil ⟨σ3,H3,I4,qn⟩
 ·refine wpAny_passesOwn hp (thn (T.item X rfl rfl rfl hc i pins s3 σ3 H3 X.xe I3 (stat fr3) st3 go) λr s4 hz0=>?_)
  obtain ⟨u,hr,h4⟩:=hz0
  subst hr
  refine wpAny_passesOwn hp (thn h4 λ_ s5 hz0=>?_)
  obtain ⟨x,H5,I5,r5,y5,st5,fr5⟩:=hz0
  have I5':=I5.pinned (stat fr5) (T.obj _ _ st5)
  refine wpAny_passesOwn hp (thn (hg _ s5 σ3 H5 x u _ I5' r5 (step x H5 y5)) λ_ s6 hz0=>?_)
  obtain ⟨σ6,H6,I6,q6⟩:=hz0
  refine wpAny_passesOwn hp (thn (hb _ s6 σ6 H6 _ I6 q6) λf s7 q7=>?_)
  have again:∀ {σ7:St} {H7:Hp},Inv X (pins++oZ fp s5.heap) σ7 H7 s7->N σ7 H7->∃ m,m < n/\∃ i σ' H',Inv X pins σ' H' s7/\tn i s7.heap/\(∀ b∈fp,H' b=none)/\W i m σ' H':=λ{σ7 H7} I7 n7=>by
   obtain ⟨m',hm,w7⟩:=hN σ7 H7 n7
   refine ⟨m',hm,i+1,σ7,H7,I7.unpinned,T.keep _ _ _ st5 λb hb o e=>(I7.pin (b,o) (vJ _ (vJ _ (gq hb e)))).1,λb hb=>?_,w7⟩
   obtain ⟨o,e,d⟩:=T.obj _ _ st5 b hb
   exact (I7.pin (b,o) (vJ _ (vJ _ (gq hb e)))).2.1
  cases f with
  | next=>obtain ⟨σ7,H7,I7,n7⟩:=q7; exact again I7 n7
  | cont=>obtain ⟨σ7,H7,I7,n7⟩:=q7; exact again I7 n7
  | brk=>obtain ⟨σ7,H7,I7,q7⟩:=q7; exact ⟨σ7,H7,I7.unpinned,q7⟩
  | ret v=>obtain ⟨x7,σ7,H7,I7,r7,q7⟩:=q7; exact ⟨x7,σ7,H7,I7.unpinned,r7,q7⟩
end
noncomputable abbrev R2:=V->V->Hp->VK->Prop
noncomputable def OpR (X:Cx) (f:Value->Value->Sem Value) (r:R2):Prop :=
 ∀ (pins:List (Addr×Obj)) (s:Shared) (σ:St) (H:Hp) (x y:V) (v u:Value) (Q:VK),Inv X pins σ H s->RelV x v->RelV y u->r x y H Q ->
  wpAny (model X.prog X.w) X.A (f v u) (EP X pins σ Q) X.xe s
noncomputable def vn (X:Cx) (f:Value->Sem Value) (r:V->Hp->VK->Prop):Prop :=
 ∀ (pins:List (Addr×Obj)) (s:Shared) (σ:St) (H:Hp) (x:V) (v:Value) (Q:VK),Inv X pins σ H s->RelV x v->r x H Q ->
  wpAny (model X.prog X.w) X.A (f v) (EP X pins σ Q) X.xe s
noncomputable def CallR (X:Cx) (f:Value) (r:List V->Hp->VK->Prop):Prop :=
 ∀ (pins:List (Addr×Obj)) (s:Shared) (σ:St) (H:Hp) (xs:zb) (us:y9) (Q:VK),Inv X pins σ H s->Vals xs us->r xs H Q ->
  wpAny (model X.prog X.w) X.A (call f us) (EP X pins σ Q) X.xe s
noncomputable def ZrX (X:Cx) (r:V->Hp->(Bool->Hp->Prop)->Prop):Prop :=
 ∀ (pins:List (Addr×Obj)) (s:Shared) (σ:St) (H:Hp) (x:V) (v:Value) (Q:Bool->Hp->Prop),Inv X pins σ H s->RelV x v->r x H Q ->
  wpAny (model X.prog X.w) X.A (truthy v) (TP X pins σ Q) X.xe s
def lm (r:R2) (ta tb:TE):TE:=λσ H Q=>ta σ H λx H1=>tb σ H1 λy H2=>r x y H2 Q
def tUn (r:V->Hp->VK->Prop) (ta:TE):TE:=λσ H Q=>ta σ H λx H1=>r x H1 Q
noncomputable def rI (C:Int->Int->Prop) (g:Int->Int->V):R2:=λx y H Q=>∃ i j,x=.int i/\y=.int j/\C i j/\Q (g i j) H
noncomputable def eR (g:Int->Int->V):R2:=λx y H Q=>∃ i j,x=.int i/\y=.int j/\Q (g i j) H
noncomputable def rU (g:Int->V):V->Hp->VK->Prop:=λx H Q=>∃ i,x=.int i/\Q (g i) H
section
variable {X:Cx} {a b c:Expr} {ta tb tc:TE} {pos:Pos}
theorem uT (ha:PE X a ta) (hb:PE X b tb) {pins:List (Addr×Obj)} {s:Shared} {σ:St} {H:Hp} {R:V->V->Hp->Prop} (I:Inv X pins σ H s)
  (h:ta σ H λx H1=>tb σ H1 λy H2=>R x y H2) {Q:y4} {f:Value->Value->Sem Value}
  (hf:∀ v u s2 x y H2,Inv X pins σ H2 s2->RelV x v->RelV y u->R x y H2->wpAny (model X.prog X.w) X.A (f v u) Q X.xe s2) :
  wpAny (model X.prog X.w) X.A (eval a X.env) (λv s₁=>wpAny (model X.prog X.w) X.A (eval b X.env) (λu s₂=>wpAny (model X.prog X.w) X.A (f v u) Q X.xe s₂) X.xe s₁) X.xe s:=by
 refine thn (ha pins s σ H _ I h) λv s1 hz0=>?_
 obtain ⟨x,H1,I1,r1,q1⟩:=hz0
 refine thn (hb pins s1 σ H1 _ I1 q1) λu s2 hz0=>?_
 obtain ⟨y,H2,I2,r2,q2⟩:=hz0
 exact hf v u s2 x y H2 I2 r1 r2 q2
theorem b9 {op:Operator} {r:R2} (ho:OpR X (binaryOp op) r) (ha:PE X a ta) (hb:PE X b tb):PE X (.BinOp a op b pos) (lm r ta tb):=by
 intro pins s σ H Q I h
 exact wpAny_BinOp (uT ha hb I h λv u s2 x y H2 I2 rx ry q=>ho pins s2 σ H2 x y v u Q I2 rx ry q)
theorem ZiK {op:UnaryOp} {r:V->Hp->VK->Prop} (ho:vn X (unaryOp op) r) (ha:PE X a ta):PE X (.UnaryOp op a pos) (tUn r ta):=by
 intro pins s σ H Q I h
 exact UnaryOp_ (thn (ha pins s σ H _ I h) λv s1 ⟨x,H1,I1,r1,q1⟩=>ho pins s1 σ H1 x v Q I1 r1 q1)
theorem iA {f:Value->Value->Sem Value} {C:Int->Int->Prop} {g:Int->Int->Int}
  (rule:∀ (i j:Int) (t u:Tok) (s:Shared) (Q:y4) (E:y4),C i j->Q (.int (g i j) s.toks) { s with toks:=s.toks+1 }->wpAny (model X.prog X.w) X.A (f (.int i t) (.int j u)) Q E s) :
  OpR X f (rI C λi j=>.int (g i j)):=by
 intro pins s σ H x y v u Q I rx ry h
 obtain ⟨i,j,rfl,rfl,hc,q⟩:=h
 obtain ⟨t,rfl⟩:=rx
 obtain ⟨t',rfl⟩:=ry
 exact rule i j t t' s _ _ hc ⟨.int (g i j),H,I.tok _,⟨_,rfl⟩,q⟩
theorem tf {f:Value->Value->Sem Value} {g:Int->Int->Int}
  (rule:∀ (i j:Int) (t u:Tok) (s:Shared) (Q:y4) (E:y4),Q (.int (g i j) s.toks) { s with toks:=s.toks+1 }->wpAny (model X.prog X.w) X.A (f (.int i t) (.int j u)) Q E s) :
  OpR X f (eR λi j=>.int (g i j)):=by
 intro pins s σ H x y v u Q I rx ry h
 obtain ⟨i,j,rfl,rfl,q⟩:=h
 obtain ⟨t,rfl⟩:=rx
 obtain ⟨t',rfl⟩:=ry
 exact rule i j t t' s _ _ ⟨.int (g i j),H,I.tok _,⟨_,rfl⟩,q⟩
theorem pb {f:Value->Value->Sem Value} {g:Int->Int->Bool}
  (rule:∀ (i j:Int) (t u:Tok) (s:Shared) (Q:y4) (E:y4),Q (.bool (g i j)) s->wpAny (model X.prog X.w) X.A (f (.int i t) (.int j u)) Q E s) :
  OpR X f (eR λi j=>.bl (g i j)):=by
 intro pins s σ H x y v u Q I rx ry h
 obtain ⟨i,j,rfl,rfl,q⟩:=h
 obtain ⟨t,rfl⟩:=rx
 obtain ⟨t',rfl⟩:=ry
 exact rule i j t t' s _ _ ⟨.bl (g i j),H,I,rfl,q⟩
def Zss (i j:Int):Prop:=0 < j/\j < 1073741824
def Zfn (i j:Int):Prop:=0<=j/\j<=1000000/\i.natAbs < 2 ^ 64
def CMul (i j:Int):Prop:=(-(2 ^ 64) < i/\i < 2 ^ 64)\/(-(2 ^ 64) < j/\j < 2 ^ 64)
theorem CMul.ok {i j:Int} (h:CMul i j):IntMulOk i j:=by
 rcases h with ⟨h1,h2⟩ | ⟨h1,h2⟩
 ·exact .of_left (intBits_le_64 h1 h2)
 ·exact .of_right (intBits_le_64 h1 h2)
theorem gU:OpR X (binaryOp .Add) (eR λi j=>.int (i+j)):=tf λ_ _ _ _ _ _ _ q=>add_int q
theorem gl:OpR X (binaryOp .Sub) (eR λi j=>.int (i - j)):=tf λ_ _ _ _ _ _ _ q=>sub_int q
theorem md:OpR X (binaryOp .Mult) (rI CMul λi j=>.int (i * j)):=iA λ_ _ _ _ _ _ _ hc q=>mul_int q hc.ok
theorem Zcn:OpR X (binaryOp .FloorDiv) (rI Zss λi j=>.int (i / j)):=iA λi j _ _ _ _ _ hc q=>by
 have h1:(0:Int) < j:=hc.1
 have h2:j < 1073741824:=hc.2
 exact floordiv_int (by omega) (by rw [Int.fdiv_eq_ediv_of_nonneg i (by omega)]; exact q) (.inl (PyProof.noPylong_small (by omega)))
theorem iy:OpR X (binaryOp .Mod) (rI (λ_ j=>0 < j) λi j=>.int (i % j)):=iA λi j _ _ _ _ _ hc q=>by
 have h1:(0:Int) < j:=hc
 exact mod_int' (by omega) (by rw [xL i (by omega)]; exact q)
theorem o8:OpR X (binaryOp .Mod) (rI (λ_ j=>j≠0) λi j=>.int (i.fmod j)):=iA λ_ _ _ _ _ _ _ hc q=>mod_int' hc q
theorem ky:OpR X (binaryOp .Pow) (rI Zfn λi j=>.int (i ^ j.toNat)):=iA λ_ _ _ _ _ _ _ hc q=>pow_int_small hc.1 hc.2.1 hc.2.2 q
theorem Zk0:OpR X (inplaceOp .Add) (eR λi j=>.int (i+j)):=tf λ_ _ _ _ _ _ _ q=>iadd_int q
theorem unI {f:Value->Sem Value} {g:Int->Int}
  (rule:∀ (i:Int) (t:Tok) (s:Shared) (Q:y4) (E:y4),Q (.int (g i) s.toks) { s with toks:=s.toks+1 }->wpAny (model X.prog X.w) X.A (f (.int i t)) Q E s) :
  vn X f (rU λi=>.int (g i)):=by
 intro pins s σ H x v Q I rx h
 obtain ⟨i,rfl,q⟩:=h
 obtain ⟨t,rfl⟩:=rx
 exact rule i t s _ _ ⟨.int (g i),H,I.tok _,⟨_,rfl⟩,q⟩
theorem Zf4:vn X (unaryOp .USub) (rU λi=>.int (-i)):=unI λ_ _ _ _ _ q=>neg_int q
end
noncomputable def scal:V->V->Bool
 | .non,.non=>true | .non,.int _=>true | .int _,.non=>true | .non,.bl _=>true | .bl _,.non=>true | .non,.str _=>true | .str _,.non=>true
 | .int _,.int _=>true | .bl _,.bl _=>true | .str _,.str _=>true | .byt _,.byt _=>true
 | .int _,.str _=>true | .str _,.int _=>true | .bl _,.str _=>true | .str _,.bl _=>true
 | _,_=>false
noncomputable def rEq:R2:=λx y H Q=>scal x y=true/\Q (.bl (decide (x=y))) H
noncomputable def rNe:R2:=λx y H Q=>scal x y=true/\Q (.bl (!decide (x=y))) H
theorem ZdY {i j:Int}:decide (V.int i=V.int j)=(i == j):=by
 rw [xK]
 simp
theorem Zd0 {i j:Bool}:decide (V.bl i=V.bl j)=(i == j):=by
 rw [xK]
 simp
theorem qi {i j:Str}:decide (V.str i=V.str j)=(i == j):=by
 rw [xK]
 simp
theorem ZdZ {i j:Array UInt8}:decide (V.byt i=V.byt j)=(i.toList == j.toList):=by
 rw [xK]
 cases i
 cases j
 simp
section
variable {X:Cx} {a b c:Expr} {ta tb tc:TE} {pos:Pos}
theorem bO {pins:List (Addr×Obj)} {σ:St} {H:Hp} {s:Shared} {Q:VK} {k k':Bool} (I:Inv X pins σ H s) (q:Q (.bl k) H) (e:k=k'):EP X pins σ Q (.bool k') s:=by
 subst e
 exact ⟨.bl k,H,I,rfl,q⟩
theorem Zco:OpR X (compareOp .Eq) rEq:=by
 intro pins s σ H x y v u Q I rx ry h
 obtain ⟨hs,q⟩:=h
 cases x with
 | non =>
  cases rx
  cases y with
  | non=>cases ry; exact PySem.EqNone.eq_none_none (bO I q (by simp))
  | bl j=>cases ry; exact PySem.EqNone.eq_none_bool (bO I q (by simp))
  | int j=>obtain ⟨t',rfl⟩:=ry; exact PySem.EqNone.eq_none_int (bO I q (by simp))
  | str j=>obtain ⟨t',rfl⟩:=ry; exact PySem.EqNone.eq_none_str (bO I q (by simp))
  | _=>exact absurd (show false=true from hs) vL
 | bl i =>
  cases rx
  cases y with
  | non=>cases ry; exact PySem.EqNone.eq_bool_none (bO I q (by simp))
  | bl j=>cases ry; exact eq_bool (bO I q Zd0)
  | str j=>obtain ⟨t',rfl⟩:=ry; exact PySem.EqMixed.eq_bool_str (bO I q (by simp))
  | _=>exact absurd (show false=true from hs) vL
 | int i =>
  obtain ⟨t,rfl⟩:=rx
  cases y with
  | non=>cases ry; exact PySem.EqNone.eq_int_none (bO I q (by simp))
  | int j=>obtain ⟨t',rfl⟩:=ry; exact eq_int (bO I q ZdY)
  | str j=>obtain ⟨t',rfl⟩:=ry; exact PySem.EqMixed.eq_int_str (bO I q (by simp))
  | _=>exact absurd (show false=true from hs) vL
 | str i =>
  obtain ⟨t,rfl⟩:=rx
  cases y with
  | non=>cases ry; exact PySem.EqNone.eq_str_none (bO I q (by simp))
  | bl j=>cases ry; exact PySem.EqMixed.eq_str_bool (bO I q (by simp))
  | int j=>obtain ⟨t',rfl⟩:=ry; exact PySem.EqMixed.eq_str_int (bO I q (by simp))
  | str j=>obtain ⟨t',rfl⟩:=ry; exact eq_str (bO I q qi)
  | _=>exact absurd (show false=true from hs) vL
 | byt i =>
  obtain ⟨t,rfl⟩:=rx
  cases y with
  | byt j=>obtain ⟨t',rfl⟩:=ry; exact PySem.W.eq_bytes (bO I q ZdZ)
  | _=>exact absurd (show false=true from hs) vL
 | _=>cases y <;> exact absurd (show false=true from hs) vL
theorem Zjf:OpR X (compareOp .NotEq) rNe:=by
 intro pins s σ H x y v u Q I rx ry h
 obtain ⟨hs,q⟩:=h
 cases x with
 | non =>
  cases rx
  cases y with
  | non=>cases ry; exact PySem.EqNone.ne_none_none (bO I q (by simp))
  | bl j=>cases ry; exact PySem.EqNone.ne_none_bool (bO I q (by simp))
  | int j=>obtain ⟨t',rfl⟩:=ry; exact PySem.EqNone.ne_none_int (bO I q (by simp))
  | str j=>obtain ⟨t',rfl⟩:=ry; exact PySem.EqNone.ne_none_str (bO I q (by simp))
  | _=>exact absurd (show false=true from hs) vL
 | bl i =>
  cases rx
  cases y with
  | non=>cases ry; exact PySem.EqNone.ne_bool_none (bO I q (by simp))
  | bl j=>cases ry; exact ne_bool (bO I q (congrArg not Zd0))
  | str j=>obtain ⟨t',rfl⟩:=ry; exact PySem.EqMixed.ne_bool_str (bO I q (by simp))
  | _=>exact absurd (show false=true from hs) vL
 | int i =>
  obtain ⟨t,rfl⟩:=rx
  cases y with
  | non=>cases ry; exact PySem.EqNone.ne_int_none (bO I q (by simp))
  | int j=>obtain ⟨t',rfl⟩:=ry; exact ne_int (bO I q (congrArg not ZdY))
  | str j=>obtain ⟨t',rfl⟩:=ry; exact PySem.EqMixed.ne_int_str (bO I q (by simp))
  | _=>exact absurd (show false=true from hs) vL
 | str i =>
  obtain ⟨t,rfl⟩:=rx
  cases y with
  | non=>cases ry; exact PySem.EqNone.ne_str_none (bO I q (by simp))
  | bl j=>cases ry; exact PySem.EqMixed.ne_str_bool (bO I q (by simp))
  | int j=>obtain ⟨t',rfl⟩:=ry; exact PySem.EqMixed.ne_str_int (bO I q (by simp))
  | str j=>obtain ⟨t',rfl⟩:=ry; exact ne_str (bO I q (congrArg not qi))
  | _=>exact absurd (show false=true from hs) vL
 | byt i =>
  obtain ⟨t,rfl⟩:=rx
  cases y with
  | byt j=>obtain ⟨t',rfl⟩:=ry; exact PySem.W.ne_bytes (bO I q (congrArg not ZdZ))
  | _=>exact absurd (show false=true from hs) vL
 | _=>cases y <;> exact absurd (show false=true from hs) vL
theorem iz:OpR X (compareOp .Lt) (eR λi j=>.bl (decide (i < j))):=pb λ_ _ _ _ _ _ _ q=>lt_int q
theorem Zcl:OpR X (compareOp .LtE) (eR λi j=>.bl (decide (i<=j))):=pb λ_ _ _ _ _ _ _ q=>le_int q
theorem kz:OpR X (compareOp .Gt) (eR λi j=>.bl (decide (j < i))):=pb λ_ _ _ _ _ _ _ q=>gt_int q
theorem Zcm:OpR X (compareOp .GtE) (eR λi j=>.bl (decide (j<=i))):=pb λ_ _ _ _ _ _ _ q=>ge_int q
theorem Zji:OpR X (compareOp .Is) (λx y H Q=>y=.non/\Q (.bl (decide (x=.non))) H):=by
 intro pins s σ H x y v u Q I rx ry h
 obtain ⟨rfl,q⟩:=h
 cases ry
 refine is_none_gen (bO I q ?_)
 cases x <;> first
  | (cases rx; rfl)
  | (obtain ⟨t,rfl⟩:=rx; rfl)
theorem Zja:OpR X (compareOp .IsNot) (λx y H Q=>y=.non/\Q (.bl (!decide (x=.non))) H):=by
 intro pins s σ H x y v u Q I rx ry h
 obtain ⟨rfl,q⟩:=h
 cases ry
 refine isnot_none_gen (bO I q ?_)
 cases x <;> first
  | (cases rx; rfl)
  | (obtain ⟨t,rfl⟩:=rx; rfl)
theorem OpR.or {f:Value->Value->Sem Value} {r r':R2} (h:OpR X f r) (h':OpR X f r'):OpR X f (λx y H Q=>r x y H Q\/r' x y H Q):=by
 intro pins s σ H x y v u Q I rx ry q
 rcases q with q | q
 ·exact h pins s σ H x y v u Q I rx ry q
 ·exact h' pins s σ H x y v u Q I rx ry q
theorem nomark (b:Expr) {op:CmpOp} (h:op≠.In:=by decide) (h2:op≠.NotIn:=by decide):behindInMarks op b=false:=by
 have e1:(op == CmpOp.In)=false:=by cases op <;> first | rfl | exact absurd rfl h
 have e2:(op == CmpOp.NotIn)=false:=by cases op <;> first | rfl | exact absurd rfl h2
 cases b <;> first | rfl | (show (_ && (op == CmpOp.In || op == CmpOp.NotIn) && _)=false; rw [e1,e2,Bool.or_false,Bool.and_false,Bool.false_and])
theorem ZiU {op:CmpOp} {r:R2} (ho:OpR X (compareOp op) r) (ha:PE X a ta) (hb:PE X b tb) (hm:behindInMarks op b=false):PE X (.Compare a [op] [b] pos) (lm r ta tb):=by
 intro pins s σ H Q I h
 exact wpAny_Compare1 (uT ha hb I h λv u s2 x y H2 I2 rx ry q=>ho pins s2 σ H2 x y v u Q I2 rx ry q) hm
def ll (t:TE):TT:=λσ H Q=>t σ H λx H'=>∃ k,x=.bl k/\Q k H'
theorem l0 {op:CmpOp} {r:R2} (ho:OpR X (compareOp op) r) (ha:PE X a ta) (hb:PE X b tb) (hm:behindInMarks op b=false):PT X (.Compare a [op] [b] pos) (ll (lm r ta tb)):=by
 intro pins s σ H Q I h
 refine wpAny_isTrue_Compare1 (thn (ha pins s σ H _ I h) λv s1 ⟨x,H1,I1,r1,q1⟩=>thn (hb pins s1 σ H1 _ I1 q1) λu s2 ⟨y,H2,I2,r2,q2⟩ =>
  thn (ho pins s2 σ H2 x y v u _ I2 r1 r2 q2) λc s3 ⟨z,H3,I3,r3,k,e,q3⟩=>?_) hm
 subst e
 cases r3
 exact wpAny_truthy_bool ⟨H3,I3,q3⟩
def ZaL (r r':R2) (ta tb tc:TE):TE:=λσ H Q=>ta σ H λx H1=>tb σ H1 λy H2=>r x y H2 λz H3=>∃ k,z=.bl k /\
 (if k=true then tc σ H3 λw' H4=>r' y w' H4 Q else Q (.bl false) H3)
theorem Ziq {op op':CmpOp} {r r':R2} (ho:OpR X (compareOp op) r) (ho':OpR X (compareOp op') r') (ha:PE X a ta) (hb:PE X b tb) (hc:PE X c tc)
  (hm:lastMarks [op,op'] [b,c]=false:=by with_unfolding_all rfl):PT X (.Compare a [op,op'] [b,c] pos) (ll (ZaL r r' ta tb tc)):=by
 intro pins s σ H Q I h
 refine isTrue_chain (thn (ha pins s σ H _ I h) λv s1 ⟨x,H1,I1,r1,q1⟩=>test_link (thn (hb pins s1 σ H1 _ I1 q1) λu s2 ⟨y,H2,I2,r2,q2⟩ =>
  thn (ho pins s2 σ H2 x y v u _ I2 r1 r2 q2) λd s3 ⟨z,H3,I3,r3,k,e,q3⟩=>?_)) hm
 subst e
 cases r3
 refine wpAny_truthy_bool ?_
 cases k with
 | false =>
  obtain ⟨k',e',q'⟩:=q3
  cases e'
  exact ite_ff ⟨H3,I3,q'⟩
 | true =>
  refine ite_tt (test_last (thn (hc pins s3 σ H3 _ I3 q3) λw' s4 ⟨z',H4,I4,r4,q4⟩=>thn (ho' pins s4 σ H4 y z' u w' _ I4 r2 r4 q4) λd' s5 hz0=>?_))
  obtain ⟨z2,H5,I5,r5,k2,e2,q5⟩:=hz0
  subst e2
  cases r5
  exact wpAny_truthy_bool ⟨H5,I5,q5⟩
noncomputable def Zff (K:yS) (x:V) (H:Hp) (k:Bool):Prop :=
 match x with
 | .non=>k=false
 | .bl b=>k=b
 | .int i=>k=(i != 0)
 | .str y=>y.length<=sizeLine/\k=((y.length:Int) != 0)
 | .byt y=>y.size<=sizeLine/\k=((y.size:Int) != 0)
 | .ref p=>(∃ xs,SqL K H p xs/\k=!xs.isEmpty)\/(∃ xs,SqT K H p xs/\k=!xs.isEmpty)\/∃ kvs,H p=some (.dK kvs)/\k=!kvs.isEmpty
 | _=>False
theorem ZkY {κ:Type} {kvs:List (κ×V)} {vs:List (κ×Value)} (r:KV kvs vs):(!vs.isEmpty)=!kvs.isEmpty:=by
 cases r <;> rfl
theorem ZcZ {xs:zb} {its:y9} (r:Vals xs its):(!its.toArray.isEmpty)=!xs.isEmpty:=by
 cases r <;> simp
theorem jA:(sizeLine:Nat) < 2 ^ 63:=by rw [sizeLine_eq]; decide
theorem Zgd:ZrX X (λx H Q=>∃ k,Zff X.K x H k/\Q k H):=by
 intro pins s σ H x v Q I rx h
 obtain ⟨k,e,q⟩:=h
 have hl:=jA
 have hs:sizeLine=16777216:=sizeLine_eq
 cases x with
 | non =>
  cases rx
  have e':k=false:=e
  subst e'
  exact truthy_none ⟨H,I,q⟩
 | bl b =>
  cases rx
  have e':k=b:=e
  subst e'
  exact wpAny_truthy_bool ⟨H,I,q⟩
 | int i =>
  obtain ⟨t,rfl⟩:=rx
  have e':k=(i != 0):=e
  subst e'
  exact PySem.P.truthy_int ⟨H,I,q⟩
 | str y =>
  obtain ⟨t,rfl⟩:=rx
  obtain ⟨hy,e'⟩:y.length<=sizeLine/\k=((y.length:Int) != 0):=e
  subst e'
  exact PySem.P.truthy_str (by omega) ⟨H,I.tok _,q⟩
 | byt y =>
  obtain ⟨t,rfl⟩:=rx
  obtain ⟨hy,e'⟩:y.size<=sizeLine/\k=((y.size:Int) != 0):=e
  subst e'
  exact PySem.W.truthy_bytes (by omega) ⟨H,I.tok _,q⟩
 | ref p =>
  cases rx
  have e':(∃ xs,SqL X.K H p xs/\k=!xs.isEmpty)\/(∃ xs,SqT X.K H p xs/\k=!xs.isEmpty)\/∃ kvs,H p=some (.dK kvs)/\k=!kvs.isEmpty:=e
  rcases e' with ⟨xs,hx,e'⟩ | ⟨xs,hx,e'⟩ | ⟨kvs,hx,e'⟩
  ·subst e'
   obtain ⟨its,r,pl,hz⟩:=I.list hx
   have hlen:=r.length
   exact wpAny_truthy_list pl.isList (by simp only [vK]; omega) ⟨H,I.tok _,by rw [ZcZ r]; exact q⟩
  ·subst e'
   obtain ⟨its,r,pl,hz⟩:=I.tuple hx
   have hlen:=r.length
   exact truthy_tuple pl (by simp only [vK]; omega) ⟨H,I.tok _,by rw [ZcZ r]; exact q⟩
  ·subst e'
   obtain ⟨hz,hS,vs,r,m⟩:kvs.length<=sizeLine/\(p == sysModules)=false/\∃ vs,KV kvs vs/\s.heap.DictOf (dk X.prog X.w) p vs:=I.hok p _ hx
   have hlen:kvs.length=vs.length:=yz r
   exact wpAny_truthy_dict hS m (by omega) ⟨H,I.tok _,by rw [ZkY r]; exact q⟩
 | _=>exact (show False from e).elim
theorem Zio (ha:PE X a ta) (he:∀ whole,isTrue a X.env whole=(do let v <- whole; standAt a.pos; holding [v] (truthy v))) :
  PT X a (λσ H Q=>ta σ H λx H'=>∃ k,Zff X.K x H' k/\Q k H'):=by
 intro pins s σ H Q I h
 exact isTrue_plain (thn (ha pins s σ H _ I h) λv s1 ⟨x,H1,I1,r1,q1⟩=>Zgd pins s1 σ H1 x v Q I1 r1 q1) (he _)
theorem Zjp:OpR X (binaryOp .Add) (λx y H Q=>∃ i j,x=.str i/\y=.str j/\i.length+j.length<=sizeLine/\Q (.str (i++j)) H):=by
 intro pins s σ H x y v u Q I rx ry h
 obtain ⟨i,j,rfl,rfl,hz,q⟩:=h
 obtain ⟨t,rfl⟩:=rx
 obtain ⟨t',rfl⟩:=ry
 exact add_str (λt' tk=>⟨.str (i++j),H,I.tok _,⟨_,rfl⟩,q⟩) hz
theorem ek {x:V} {us:y9} (r:Vals [x] us):∃ u,us=[u]/\RelV x u:=by
 cases r with
 | cons r1 r2=>cases r2; exact ⟨_,rfl,r1⟩
theorem ii {x y:V} {us:y9} (r:Vals [x,y] us):∃ u w',us=[u,w']/\RelV x u/\RelV y w':=by
 cases r with
 | cons r1 r2 =>
  cases r2 with
  | cons r3 r4=>cases r4; exact ⟨_,_,rfl,r1,r3⟩
theorem iU:CallR X (.builtin "abs") (λxs H Q=>∃ i,xs=[.int i]/\Q (.int (if i < 0 then -i else i)) H):=by
 intro pins s σ H xs us Q I r h
 obtain ⟨i,rfl,q⟩:=h
 obtain ⟨u,rfl,t,rfl⟩:=ek r
 exact call_abs_int λu tk=>⟨.int (if i < 0 then -i else i),H,I.tok _,⟨_,rfl⟩,q⟩
theorem Zq0 (hc:X.calm=true):CallR X (.builtin "max") (λxs H Q=>∃ i j,xs=[.int i,.int j]/\Q (.int (if j > i then j else i)) H):=by
 intro pins s σ H xs us Q I r h
 obtain ⟨i,j,rfl,q⟩:=h
 obtain ⟨u,w',rfl,⟨t,rfl⟩,⟨t',rfl⟩⟩:=ii r
 refine max_two_ints (I.ok.hd hc) λh' tk k=>⟨_,H,I.kept k,?_,q⟩
 by_cases hj:j > i
 ·rw [if_pos hj,if_pos hj]; exact ⟨_,rfl⟩
 ·rw [if_neg hj,if_neg hj]; exact ⟨_,rfl⟩
theorem ZqZ (hc:X.calm=true):CallR X (.builtin "min") (λxs H Q=>∃ i j,xs=[.int i,.int j]/\Q (.int (if j < i then j else i)) H):=by
 intro pins s σ H xs us Q I r h
 obtain ⟨i,j,rfl,q⟩:=h
 obtain ⟨u,w',rfl,⟨t,rfl⟩,⟨t',rfl⟩⟩:=ii r
 refine min_two_ints (I.ok.hd hc) λh' tk k=>⟨_,H,I.kept k,?_,q⟩
 by_cases hj:j < i
 ·rw [if_pos hj,if_pos hj]; exact ⟨_,rfl⟩
 ·rw [if_neg hj,if_neg hj]; exact ⟨_,rfl⟩
theorem Zep:CallR X (.type "int") (λxs H Q=>(∃ i,xs=[.int i]/\Q (.int i) H)\/∃ k,xs=[.bl k]/\Q (.int (if k then 1 else 0)) H):=by
 intro pins s σ H xs us Q I r h
 rcases h with ⟨i,rfl,q⟩ | ⟨k,rfl,q⟩
 ·obtain ⟨u,rfl,t,rfl⟩:=ek r
  exact call_int_int ⟨.int i,H,I,⟨_,rfl⟩,q⟩
 ·obtain ⟨u,rfl,r1⟩:=ek r
  cases r1
  exact call_int_bool ⟨.int (if k then 1 else 0),H,I.tok _,⟨_,rfl⟩,q⟩
theorem fS:CallR X (.type "str") (λxs H Q=>∃ i,xs=[.int i]/\i.natAbs.log2 < 1920/\Q (.str (toString i)) H):=by
 intro pins s σ H xs us Q I r h
 obtain ⟨i,rfl,hz,q⟩:=h
 obtain ⟨u,rfl,t,rfl⟩:=ek r
 exact PySem.P.str_of_int hz ⟨.str _,H,I.tok _,⟨_,rfl⟩,q⟩
end
structure ObjM (h:Heap) (x dx C:Addr) (mA:zc):Prop where
 obj:h.get? x=some (PySem.W.instObj C dx)
 ns:h.Ns1 dx mA
 ne:dx≠x
theorem Zkd {h:Heap} {dx:Addr} {mA:zc} (n:h.Ns1 dx mA):∃ od,h.get? dx=some od/\∀ name,PySem.W.lookIn name od=some (mA name):=by
 obtain ⟨o,es,ep,ho,hd,hk,_,hm⟩:=n
 refine ⟨o,ho,λname=>?_⟩
 have e:=hm name
 unfold nsFind findBy at e
 rw [<- Array.find?_toList] at e
 unfold PySem.W.lookIn
 rw [hd]
 dsimp only
 split
 ·rename_i y q
  rw [q] at e
  exact congrArg some e
 ·rename_i q
  rw [q] at e
  have a:es.toList.any (·.refKey)=false:=by
   rw [List.any_eq_false]
   intro y hy
   obtain ⟨z,t,hkey⟩:=hk y (Array.mem_toList_iff.mp hy)
   simp [DictEntry.refKey,hkey]
  have a':¬ es.toList.any (·.refKey)=true:=by rw [a]; exact vL
  rw [if_neg a']
  exact congrArg some e
theorem ObjM.look {h:Heap} {x dx C:Addr} {mA:zc} (I:ObjM h x dx C mA):∃ od,PySem.W.InstAt h x (PySem.W.instObj C dx) C (some od)/\∀ name,PySem.W.lookIn name od=some (mA name) :=
 let ⟨od,ho,hl⟩:=Zkd I.ns
 ⟨od,⟨I.obj,rfl,rfl,ho⟩,hl⟩
section
variable {prog:Program} {w:World} {A:Around} {E:y4} {s:Shared} {K:yS} {x dx C f:Addr} {mA:zc} {name:Str} {v:Value}
end
theorem RelO.some_of {v:V} {o:Option Value} (r:RelO (some v) o):∃ u,o=some u/\RelV v u:=by
 cases o with
 | none=>exact (show False from r).elim
 | some u=>exact ⟨u,rfl,r⟩
section
variable {P:Program} {w:World} {H H':Hp} {h h':Heap} {a C dx:Addr} {fs fs':List (Str×V)}
theorem Zk5 (hok:HOk P w H h) (e:H a=some (.ins C dx fs)):∃ mA,ObjM h a dx C mA/\(∀ f,RelO (fs.lookup f) (mA f))/\PySem.Within mA (fs.map (·.1))/\fs.length<=1000/\H dx=some (.own a):=by
 obtain ⟨d,z,ne,ob,mA,n,r,q⟩:=(show ObjOk P w H h a (.ins C dx fs) from hok a _ e)
 exact ⟨mA,⟨ob,n,ne⟩,r,q,z,d⟩
end
structure Cls (K:yS) (C:Addr):Prop where
 pg:PySem.W.plainGet K C Str.empty=true
 hd:PySem.W.hasDictIn K C=true
 po:PySem.W.plainOver K C=true
 sa:PySem.W.findIn K (.ref C) "__setattr__"=some (some (.builtin "object.__setattr__"))
theorem Cls.get {K:yS} {C:Addr} (c:Cls K C) (f:Str):PySem.W.plainGet K C f=true:=c.pg
section
variable {X:Cx} {pins:List (Addr×Obj)} {σ:St} {H:Hp} {s:Shared} {a C dx:Addr} {fs:List (Str×V)} {f:Str} {v:V} {A:Around} {E:y4}
end
section
variable {X:Cx} {o e value:Expr} {f:Str} {pos pos' tpos:Pos} {ta tv:TE}
end
section
variable {X:Cx} {pins:List (Addr×Obj)} {σ:St} {H:Hp} {s:Shared} {A:Around} {E:y4} {Q:y4} {c:Value} {b:Bool}
inductive TyOf (K:yS) (H:Hp):V->Value->Prop where
 | non:TyOf K H .non (.type "NoneType")
 | bl (x:Bool):TyOf K H (.bl x) (.type "bool")
 | int (i:Int):TyOf K H (.int i) (.type "int")
 | str (x:Str):TyOf K H (.str x) (.type "str")
 | flt (x:UInt64):TyOf K H (.flt x) (.type "float")
 | lst {a:Addr} {xs:zb} (e:H a=some (.lst xs)):TyOf K H (.ref a) (.type "list")
 | frz {a:Addr} {o:Obj} {xs:zb} (e:H a=some (.frz o (.lst xs))):TyOf K H (.ref a) (.type "list")
 | tup {a:Addr} {xs:zb} (e:H a=some (.tup xs)):TyOf K H (.ref a) (.type "tuple")
 | dK {a:Addr} {kvs:List (aA×V)} (e:H a=some (.dK kvs)):TyOf K H (.ref a) (.type "dict")
 | dT {a:Addr} {kvs:List (List aA×V)} (e:H a=some (.dT kvs)):TyOf K H (.ref a) (.type "dict")
 | frzD {a:Addr} {o:Obj} {kvs:List (aA×V)} (e:H a=some (.frz o (.dK kvs))):TyOf K H (.ref a) (.type "dict")
 | ins {a C dx:Addr} {fs:List (Str×V)} (e:H a=some (.ins C dx fs)) (cl:Cls K C) (ha:PySem.W.findIn K (.ref C) "__class__"=some (some (.builtin "object.__class__")))
   (hn:PySem.W.specialIn K (.builtin "object.__class__") "__get__"=some (some (.builtin "getset_descriptor.__get__"))) (htk:PySem.W.takesIn K (.builtin "object.__class__")=some true)
   (hm:PySem.W.mroIn K C (.type "object")=some true):TyOf K H (.ref a) (.ref C)
theorem ZkV {x:V} {u t:Value} (I:Inv X pins σ H s) (rx:RelV x u) (ty:TyOf X.K H x t) (e:PySem.W.kitOne X.K t c=some b) (h:∀ tk,Q (.bool b) { s with toks:=tk }) :
  wpAny (model X.prog X.w) A (call (.builtin "isinstance") [u,c]) Q E s:=by
 cases ty with
 | non=>cases (show u=Value.none from rx); exact wn PySem.W.kitx_none I.kIn True.intro e (λz=>nomatch z) h
 | bl y=>cases (show u=Value.bool y from rx); exact wn PySem.W.kitx_bool I.kIn True.intro e (λz=>nomatch z) h
 | int i=>obtain ⟨t,q⟩:=(show ∃ t,u=Value.int i t from rx); cases q; exact wn PySem.W.kitx_int I.kIn True.intro e (λz=>nomatch z) h
 | str y=>obtain ⟨t,q⟩:=(show ∃ t,u=Value.str y t from rx); cases q; exact wn PySem.W.kitx_str I.kIn True.intro e (λz=>nomatch z) h
 | flt y=>obtain ⟨t,q⟩:=(show ∃ t,u=Value.float y t from rx); cases q; exact wn PySem.W.kitx_float I.kIn True.intro e (λz=>nomatch z) h
 | @lst a xs ea =>
  cases (show u=Value.ref a from rx)
  obtain ⟨_,_,n,_,h1⟩:=(show ObjOk X.prog X.w H s.heap a (.lst xs) from I.hok a _ ea)
  exact wn PySem.W.kitx_list I.kIn ⟨_,h1,rfl⟩ e (λz=>nomatch z) h
 | @frz a ob xs ea =>
  cases (show u=Value.ref a from rx)
  obtain ⟨_,_,_,n,_,h1⟩:=(show ObjOk X.prog X.w H s.heap a (.frz ob (.lst xs)) from I.hok a _ ea)
  exact wn PySem.W.kitx_list I.kIn ⟨_,h1,rfl⟩ e (λz=>nomatch z) h
 | @tup a xs ea =>
  cases (show u=Value.ref a from rx)
  obtain ⟨_,_,_,p⟩:=(show ObjOk X.prog X.w H s.heap a (.tup xs) from I.hok a _ ea)
  obtain ⟨o,h1,h2,_⟩:=p
  exact wn PySem.W.kitx_tuple I.kIn ⟨o,h1,h2⟩ e (λz=>nomatch z) h
 | @dK a kvs ea =>
  cases (show u=Value.ref a from rx)
  obtain ⟨_,_,vs,_,p⟩:=(show ObjOk X.prog X.w H s.heap a (.dK kvs) from I.hok a _ ea)
  obtain ⟨o,es,ep,h1,h2,_⟩:=p
  exact wn yn I.kIn ⟨o,h1,h2.1⟩ e (λz=>nomatch z) h
 | @frzD a ob kvs ea =>
  cases (show u=Value.ref a from rx)
  obtain ⟨_,_,_,vs,_,p⟩:=(show ObjOk X.prog X.w H s.heap a (.frz ob (.dK kvs)) from I.hok a _ ea)
  obtain ⟨o,es,ep,h1,h2,_⟩:=p
  exact wn yn I.kIn ⟨o,h1,h2.1⟩ e (λz=>nomatch z) h
 | @dT a kvs ea =>
  cases (show u=Value.ref a from rx)
  obtain ⟨_,_,xs,_,o,es,ep,h1,h2,_⟩:=(show ObjOk X.prog X.w H s.heap a (.dT kvs) from I.hok a _ ea)
  exact wn yn I.kIn ⟨o,h1,h2.1⟩ e (λz=>nomatch z) h
 | @ins a C dx fs ea cl ha hn htk hm =>
  cases (show u=Value.ref a from rx)
  obtain ⟨mA,O,_⟩:=Zk5 I.hok ea
  obtain ⟨od,J,_⟩:=O.look
  exact wn (PySem.W.kitx_own (cl.get _) cl.hd ha hn htk hm) I.kIn J e (λz=>nomatch z) h
end
structure Room (k:Nat) (A:Around):Prop where
 hd:A.handled=none
 dp:A.depth+3 * k+5 < recursionLimit
 un:A.units+16 * k+200 < cLine
 gd:A.guards=some []
theorem Room.mono {j k:Nat} {A:Around} (r:Room k A) (h:j<=k):Room j A:=⟨r.hd,by have:=r.dp; omega,by have:=r.un; omega,r.gd⟩
theorem Room.deeper {k:Nat} {A:Around} (r:Room (k+1) A) (env:Env):Room k (A.deeper env) :=
 ⟨r.hd,by have:=r.dp; show A.depth+1+3 * k+5 < _; omega,by have:=r.un; show A.units+3+16 * k+200 < _; omega,r.gd⟩
theorem Room.depth {k:Nat} {A:Around} (r:Room k A):A.depth < recursionLimit:=by have:=r.dp; omega
theorem Room.units {k:Nat} {A:Around} (r:Room k A):A.units+64 < cLine:=by have:=r.un; omega
def aR:TA:=λ_ H Q=>Q [] H
def gi (ta:TE) (tr:TA):TA:=λσ H Q=>ta σ H λx H1=>tr σ H1 λxs H2=>Q (x::xs) H2
section
variable {X:Cx} {e:Expr} {es:List Expr} {te:TE} {t:TA} {pos:Pos}
theorem bz:PA X [] aR:=λ_ _ _ _ H Q I h=>Calls.spliced_nil ⟨[],H,I,.nil,h⟩
theorem aT (ha:PE X e te) (hr:PA X es t) (hs:starEach (e::es) X.env=(false,eval e X.env)::starEach es X.env:=by rfl):PA X (e::es) (gi te t):=by
 intro pos pins s σ H Q I h
 rw [hs]
 show wpAny _ _ (spliced ((false,eval e X.env)::backTo pos (starEach es X.env))) _ _ s
 refine Calls.spliced_cons (thn (ha pins s σ H _ I h) λu s1 hz0=>?_)
 obtain ⟨x,H1,I1,r1,q1⟩:=hz0
 exact thn (hr pos pins s1 σ H1 _ I1 q1) λus s2 hz0=>by
  obtain ⟨xs,H2,I2,r2,q2⟩:=hz0
  exact ⟨x::xs,H2,I2,.cons r1 r2,q2⟩
def Zgn (t:TA):TE:=λσ H Q=>t σ H λxs H1=>xs.length<=sizeLine/\∀ p,H1 p=none->Q (.ref p) (upd H1 p (.tup xs))
def ZgA (t:TA):TE:=λσ H Q=>t σ H λxs H1=>xs.length<=sizeLine/\∀ p,H1 p=none->Q (.ref p) (upd H1 p (.lst xs))
theorem sP {x1} (h:PA X es t):PE X (.Tuple es x1 pos) (Zgn t):=by
 intro pins s σ H Q I hq
 refine wpAny_Tuple_spliced (thn (h pos pins s σ H _ I hq) λus s1 ⟨xs,H1,I1,r,z,q⟩=>⟨by rw [<- r.length]; exact z,?_⟩)
 have hf:H1 s1.heap.objs.size=none:=I1.hok.fresh (vF _)
 refine ⟨.ref s1.heap.objs.size,upd H1 s1.heap.objs.size (.tup xs),I1.laid (t':=s1.toks) (λb u e=>vA _ e) (vF _) ?_,rfl,q _ hf⟩
 exact ⟨z,us,r,⟨_,vI _ rfl,rfl,_,rfl⟩⟩
theorem o4 (h:PA X es t):PE X (.List es pos) (ZgA t):=by
 intro pins s σ H Q I hq
 refine wpAny_List_spliced (thn (h pos pins s σ H _ I hq) λus s1 ⟨xs,H1,I1,r,z,q⟩=>⟨by rw [<- r.length]; exact z,?_⟩)
 have hf:H1 s1.heap.objs.size=none:=I1.hok.fresh (vF _)
 refine ⟨.ref s1.heap.objs.size,upd H1 s1.heap.objs.size (.lst xs),I1.laid (t':=s1.toks) (λb u e=>vA _ e) (vF _) ?_,rfl,q _ hf⟩
 exact ⟨z,us,0,r,vI _ rfl⟩
end
noncomputable abbrev Sp:=List V->Hp->VK->XK->Prop
noncomputable abbrev dY:=List Env->Hp->Shared->XK->Value->Shared->Prop
structure Env0 (P:Program) (w:World) (K:yS) (mg:zc) (base:Heap) (A:Around) (outer:List Env) (s:Shared) (H:Hp):Prop where
 frames:A.frames=some outer
 mod:Mod K mg base
 bs:∀ b o,base.get? b=some o->s.heap.get? b=some o/\H b=none
 bsz:base.objs.size<=s.heap.objs.size
 funs:s.heap.FunFrames base outer
 frf:∀ b∈frs outer,H b=none
 hok:HOk P w H s.heap
 bare:AllBare s.gens
noncomputable def CE (outer:List Env) (P:Program) (w:World) (H:Hp) (s:Shared) (Q:VK) (u:Value) (s':Shared):Prop :=
 ∃ v H',s'.os=s.os/\AllBare s'.gens/\Un (frs outer) [] H H' s.heap s'.heap/\HOk P w H' s'.heap/\RelV v u/\Q v H'
noncomputable def CR (CX:dY) (outer:List Env) (P:Program) (w:World) (H:Hp) (s:Shared) (Q:VK) (E:XK) (r:Result) (s':Shared):Prop :=
 match r with
 | .ok (.ret u)=>CE outer P w H s Q u s'
 | .ok _=>False
 | .error e=>CX outer H s E e s'
structure FnOk (P:Program) (w:World) (K:yS) (mg:zc) (base:Heap) (CX:dY) (k:Nat) (f:Addr) (fd:FuncData) (ps:za) (sp:Sp):Prop where
 len:∀ vs H Q E,sp vs H Q E->vs.length=ps.length
 run:∀ (A:Around) (outer:List Env) (s:Shared) (H:Hp) (args:Args) (us:y9) (vs:zb) (Q:VK) (E:XK),Room k A->Env0 P w K mg base A outer s H->BindsTo s fd args (ps.zip us)->Vals vs us->sp vs H Q E ->
  codeAny (model P w) A (.call (.ref f) args) (CR CX outer P w H s Q E) s
theorem FnOk.mono {P:Program} {w:World} {K:yS} {mg:zc} {base:Heap} {CX:dY} {j k:Nat} {f:Addr} {fd:FuncData} {ps:za} {sp:Sp} (F:FnOk P w K mg base CX j f fd ps sp) (h:j<=k) :
  FnOk P w K mg base CX k f fd ps sp:=⟨F.len,λA outer s H args us vs Q E hr=>F.run A outer s H args us vs Q E (hr.mono h)⟩
theorem FnOk.imp {P:Program} {w:World} {K:yS} {mg:zc} {base:Heap} {CX:dY} {k:Nat} {f:Addr} {fd:FuncData} {ps:za} {sp sp':Sp} (F:FnOk P w K mg base CX k f fd ps sp)
  (h:∀ vs H Q E,sp' vs H Q E->sp vs H Q E):FnOk P w K mg base CX k f fd ps sp' :=
 ⟨λvs H Q E q=>F.len vs H Q E (h _ _ _ _ q),λA outer s H args us vs Q E hr he hb hv hs=>F.run A outer s H args us vs Q E hr he hb hv (h _ _ _ _ hs)⟩
section
variable {X:Cx} {pins:List (Addr×Obj)} {σ:St} {H:Hp} {s s':Shared}
theorem Inv.env0 (I:Inv X pins σ H s):Env0 X.prog X.w X.K X.mg X.base X.A X.stack s H :=
 ⟨I.ok.frames,I.ok.mod,I.bs,vO I.ok.bsz I.sz,I.stack,I.stkFree,I.hok,I.bare⟩
theorem Inv.after {Q:VK} {u:Value} (I:Inv X pins σ H s) (h:CE X.stack X.prog X.w H s Q u s'):EP X pins σ Q u s':=by
 obtain ⟨v,H',os,bare,un,hok,r,q⟩:=h
 obtain ⟨hh,g,d,t,os'⟩:=s'
 obtain rfl:os'=s.os:=os
 exact ⟨v,H',I.call (h':=hh) (g':=g) (d':=d) (t':=t) (ch:=[]) un hok bare (λb z=>absurd z (by simp)),r,q⟩
end
def ZaM (sp:Sp) (dvs:zb) (E:XK) (t:TA):TE:=λσ H Q=>t σ H λvs H1=>sp (vs++dvs) H1 Q E
noncomputable def Binds (K:yS) (fd:FuncData) (ps:za) (ds:y9):Prop :=
 ∀ (s:Shared) (us:y9),K.In s.heap->(us++ds).length=ps.length->BindsTo s fd ⟨us,[]⟩ (ps.zip (us++ds))
theorem Binds.all {K:yS} {fd:FuncData} {ps:za} (h:∀ us:y9,us.length=ps.length->bindArgs fd ⟨us,[]⟩=pure (ps.zip us)):Binds K fd ps []:=λs us _ hl=>by
 rw [v7] at hl ⊢
 exact .of_eq (h us hl)
def k9 (CX:dY) (X:Cx) (E:XK):Prop:=∀ (pins:List (Addr×Obj)) (σ:St) (H:Hp) (s:Shared) (e:Value) (s':Shared),Inv X pins σ H s->CX X.stack H s E e s'->X.xe e s'
section
variable {X:Cx} {CX:dY} {k:Nat} {f C:Addr} {fd:FuncData} {ps:za} {sp:Sp} {dvs:zb} {ds:y9} {E:XK} {x m:Str} {p pos apos:Pos} {e o:Expr} {es:List Expr} {ta:TE} {t:TA}
theorem ZhI {pins:List (Addr×Obj)} {σ:St} {H:Hp} {s:Shared} {Q:VK} {us:y9} {vs:zb} (F:FnOk X.prog X.w X.K X.mg X.base CX k f fd ps sp) (hr:Room k X.A) (hb:Binds X.K fd ps ds) (hd:Vals dvs ds) (hx:k9 CX X E)
  (I:Inv X pins σ H s) (r:Vals vs us) (h:sp (vs++dvs) H Q E):wpAny (model X.prog X.w) X.A (call (.ref f) us) (EP X pins σ Q) X.xe s:=by
 have r2:Vals (vs++dvs) (us++ds):=r.append hd
 have hl:(us++ds).length=ps.length:=by rw [<- r2.length]; exact F.len _ _ _ _ h
 refine wpAny_call (codeAny_mono (F.run X.A X.stack s H ⟨us,[]⟩ (us++ds) (vs++dvs) Q E hr I.env0 (hb s us I.kIn hl) r2 h) λr s' hq=>?_)
 cases r with
 | error e=>exact hx pins σ H s e s' I hq
 | ok fl =>
  cases fl with
  | ret u=>exact I.after hq
  | next=>exact False.elim hq
  | brk=>exact False.elim hq
  | cont=>exact False.elim hq
theorem Zca (F:FnOk X.prog X.w X.K X.mg X.base CX k f fd ps sp) (hr:Room k X.A) (hg:Gl X x) (hm:X.mg x=some (.ref f)) (hk:PySem.W.keepIn X.K (.ref f)=true) (hb:Binds X.K fd ps ds) (hd:Vals dvs ds) (hx:k9 CX X E)
  (ha:PA X (e::es) t) (hdb:(x == ("__debug__":Str))=false:=by decide) (he:starEach (e::es) X.env=(false,eval e X.env)::starEach es X.env:=by rfl) (hpl:(backTo pos (starEach es X.env)).any (·.1)=false:=by rfl) :
  PE X (.Call (.Name x p) (e::es) [] pos) (ZaM sp dvs E t):=by
 intro pins s σ H Q I h
 refine wpAny_Call_Name_kw (tU I hg hm ?_ hdb)
 refine PySem.W.callWith_K (h₀:=X.base) I.ok.mod.kin hk (thn (ha pos pins s σ H _ I h) λus s1 ⟨vs,H1,I1,r,q⟩=>⟨I1.kIn,?_⟩) he hpl
 exact ZhI F hr hb hd hx I1 r q
end
noncomputable def PK (X:Cx) (kws:List Keyword) (t:TA):Prop :=
 ∀ (pos:Pos) (pins:List (Addr×Obj)) (s:Shared) (σ:St) (H:Hp) (Q:List V->Hp->Prop),Inv X pins σ H s->t σ H Q->wpAny (model X.prog X.w) X.A (evalAll ((backToKw pos (keywordEach kws X.env)).map (·.2))) (AP X pins σ Q) X.xe s
section
variable {X:Cx} {CX:dY} {k:Nat} {f C:Addr} {fd:FuncData} {ps ks:za} {sp:Sp} {E:XK} {x m:Str} {p pos apos kpos:Pos} {e o:Expr} {es:List Expr} {kws:List Keyword} {te ta:TE} {t tk:TA} {nm:Option Str}
variable {g:List Value->List Value->List Value} {gV:List V->List V->List V}
end
structure FnScope (N P:za) (sc:Scope):Prop where
 kind:sc.kind=.function
 co:sc.isCoroutine=false
 gen:sc.isGenerator=false
 nd:N.Nodup
 pre:N.take P.length=P
 par:∀ x∈P,sc.names.lookup x=some .local\/sc.names.lookup x=some .cell
 nofree:∀ y∈sc.names,y.2≠.free
theorem ZeG {kindOf:Str->Option NameKind} {x:Str}:∀ {binds:List (Str×Value)} {m:zc},(∀ v,(x,v) ∉ binds)->bindL kindOf binds m x=m x
 | [],_,_=>rfl
 | (n,v)::r,m,h=>by
  unfold bindL
  rw [ZeG λw hw=>h w (vC _ hw)]
  split
  ·have:x≠n:=by rintro rfl; exact h v wx
   simp [this]
  ·rfl
theorem ZeI {kindOf:Str->Option NameKind} {x:Str}:∀ {binds:List (Str×Value)} {m:zc},(∀ v,(x,v) ∉ binds)->bindC kindOf binds m x=m x
 | [],_,_=>rfl
 | (n,v)::r,m,h=>by
  unfold bindC
  rw [ZeI λw hw=>h w (vC _ hw)]
  split
  ·rfl
  ·have:x≠n:=by rintro rfl; exact h v wx
   simp [this]
theorem ZeH {kindOf:Str->Option NameKind} {x:Str} {v:Value}:∀ {P:za} {vs:y9} {i:Nat} {m:zc},P.Nodup->P[i]?=some x->vs[i]?=some v->kindOf x=some .local ->
  bindL kindOf (P.zip vs) m x=some v
 | [],_,_,_,_,h,_,_=>by simp at h
 | _::_,[],_,_,_,_,h,_=>by simp at h
 | p::P,w::vs,0,m,nd,h1,h2,hk=>by
  simp at h1 h2; subst h1; subst h2
  show bindL kindOf ((p,w)::P.zip vs) m p=_
  unfold bindL
  rw [ZeG λv hv=>(yc.mp nd).1 (yC hv).1,if_pos hk]
  simp
 | p::P,w::vs,i+1,m,nd,h1,h2,hk=>by
  show bindL kindOf ((p,w)::P.zip vs) m x=_
  unfold bindL
  exact ZeH (i:=i) (yc.mp nd).2 (by simpa using h1) (by simpa using h2) hk
theorem ZeJ {kindOf:Str->Option NameKind} {x:Str} {v:Value}:∀ {P:za} {vs:y9} {i:Nat} {m:zc},P.Nodup->P[i]?=some x->vs[i]?=some v->kindOf x≠some .local ->
  bindC kindOf (P.zip vs) m x=some v
 | [],_,_,_,_,h,_,_=>by simp at h
 | _::_,[],_,_,_,_,h,_=>by simp at h
 | p::P,w::vs,0,m,nd,h1,h2,hk=>by
  simp at h1 h2; subst h1; subst h2
  show bindC kindOf ((p,w)::P.zip vs) m p=_
  unfold bindC
  rw [ZeI λv hv=>(yc.mp nd).1 (yC hv).1,if_neg hk]
  simp
 | p::P,w::vs,i+1,m,nd,h1,h2,hk=>by
  show bindC kindOf ((p,w)::P.zip vs) m x=_
  unfold bindC
  exact ZeJ (i:=i) (yc.mp nd).2 (by simpa using h1) (by simpa using h2) hk
noncomputable def start (N:za) (vs:zb):St:=vs.map some++List.replicate (N.length - vs.length) none
noncomputable def cS (CX:dY) (P:Program) (w:World) (K:yS) (mg:zc) (base:Heap) (N:za) (qual:Str) (scope:Scope) (f:Addr) (cd:Value) (A:Around) (outer:List Env) (s:Shared) (H:Hp) (E:XK):Cx where
 prog:=P
 w:=w
 K:=K
 mg:=mg
 base:=base
 A:=A.deeper (envOfC qual scope s.heap.objs.size f cd)
 N:=N
 s₀:=s
 H₀:=H
 env:=envOfC qual scope s.heap.objs.size f cd
 outer:=outer
 stack:=envOfC qual scope s.heap.objs.size f cd::outer
 ex:=[]
 calm:=true
 fn:=λ_=>true
 pn:=[]
 xe:=λe s'=>wpAny (model P w) (A.deeper (envOfC qual scope s.heap.objs.size f cd)) (leaving (envOfC qual scope s.heap.objs.size f cd) e) (λ_ s''=>CX outer H s E e s'') (λe' s''=>CX outer H s E e' s'') s'
theorem Zej {sc:Scope} {n:Nat} {x:Str} (h:sc.names.lookup x=some .cell):∃ c,(cellsFrom n sc.names []).lookup x=some c:=by
 have q:=PySem.W.cellsFrom_some sc.names n [] (.inl h)
 exact Option.isSome_iff_exists.mp q
theorem Zk1 {CX:dY} {P:Program} {w:World} {K:yS} {mg:zc} {base:Heap} {N ps:za} {qual:Str} {scope:Scope} {f:Addr} {cd:Value} {A:Around} {outer:List Env} {s s1:Shared} {H:Hp} {E:XK} {us:y9} {vs:zb}
  (S:FnScope N ps scope) (hd:A.handled=none) (e0:Env0 P w K mg base A outer s H) (hl:vs.length=ps.length) (r:Vals vs us)
  (x:InCallC s s.heap.objs.size (bindL (envOfC qual scope s.heap.objs.size f cd).kindOf (ps.zip us) λ_=>none) (cellsFrom (s.heap.objs.size+1) scope.names []) (bindC (envOfC qual scope s.heap.objs.size f cd).kindOf (ps.zip us) λ_=>none) s1) :
  Inv (cS CX P w K mg base N qual scope f cd A outer s H E) [] (start N vs) H s1:=by
 have hpl:ps.length<=N.length:=by have:=congrArg List.length S.pre; rw [yw] at this; omega
 obtain ⟨h1,tk,rfl,hk⟩:=x.done
 have noA:∀ b:Addr,b ∉ (cS CX P w K mg base N qual scope f cd A outer s H E).ex:=λb z=>absurd (show b∈([]:List Addr) from z) (by simp)
 refine ⟨⟨e0.mod,S.kind,rfl,rfl,vF _,λy z c h1 h2=>?_,λy hy=>?_,λy c _ h=>?_,λ_=>hd,Around.frames_deeper e0.frames,.inr ⟨rfl,rfl⟩,λb z=>absurd z (noA b),e0.bs,e0.bsz,λb _ _=>noA b,λb z=>absurd z (noA b),e0.funs,e0.frf⟩,
  rfl,e0.bare,Un.kept hk,⟨_,x.toInCall.ns,λi y v h1 h2 h3=>?_⟩,λy c h=>⟨_,x.cell y c h⟩,e0.hok.fresh (vF _),λy c h=>?_,λp hp=>absurd (show p∈([]:List (Addr×Obj)) from hp) (by simp),e0.hok.kept hk,?_⟩
 ·exact name_of_addr x.apart (wH h1) (wH h2)
 ·have hy:scope.names.lookup y=some .cell\/scope.names.lookup y=some .free:=hy
  rcases hy with hy | hy
  ·exact Zej hy
  ·exact absurd rfl (S.nofree _ (wH hy))
 ·exact xm (x.above y c (wH h))
 ·have hi:i < vs.length:=by
   unfold start at h2
   by_cases hi:i < vs.length
   ·exact hi
   ·rw [wl (by simpa using hi)] at h2
    rw [wf] at h2
    split at h2 <;> cases h2
  have ha:vs[i]?=some v:=by
   unfold start at h2
   rw [v9 (by simpa using hi),v5] at h2
   cases e:vs[i]? with
   | none=>rw [e] at h2; cases h2
   | some a=>rw [e] at h2; cases h2; rfl
  obtain ⟨u,hu,rv⟩:=r.get ha
  have hp:ps[i]?=some y:=by
   rw [<- S.pre,List.getElem?_take_of_lt (by omega)]; exact h1
  have ndP:ps.Nodup:=by rw [<- S.pre]; exact S.nd.sublist (List.take_sublist _ _)
  refine ⟨u,rv,?_⟩
  rcases S.par y (yf hp) with k | k
  ·exact .inl ⟨k,ZeH ndP hp hu k⟩
  ·obtain ⟨c,e⟩:=Zej (n:=s.heap.objs.size+1) k
   refine .inr ⟨.inl k,c,e,?_⟩
   have q:=x.cell y c e
   rw [ZeJ ndP hp hu (by show scope.names.lookup y≠_; rw [k]; decide)] at q
   exact q
 ·exact e0.hok.fresh (xm (x.above y c (wH h)))
 ·unfold start
  show _=N.length
  rw [vW,vB,wY]
  omega
theorem Zdh {CX:dY} {P:Program} {w:World} {K:yS} {mg:zc} {base:Heap} {k:Nat} {f:Addr} {name qual:Str} {params:Arguments} {body:List Stmt} {scope:Scope} {dV kV doc pm cdv ct oc:Value} {an od:Option Addr}
  {osl:Array (Option Value)} {N ps:za} {sp:Sp} (lk:K.lookup f=some ⟨oc,od,.func (PySem.W.fnOf name qual params body scope dV kV doc pm an cdv ct),osl⟩) (hcd:PySem.W.codeIn K cdv qual=true) (S:FnScope N ps scope)
  (len:∀ vs H Q E,sp vs H Q E->vs.length=ps.length)
  (hbody:∀ (A:Around) (outer:List Env) (s:Shared) (H:Hp) (vs:zb) (Q:VK) (E:XK),Room k (A.deeper (envOfC qual scope s.heap.objs.size f cdv))->sp vs H Q E ->
   ∃ t,PSs (cS CX P w K mg base N qual scope f cdv A outer s H E) body t/\t { nx:=λ_ H'=>Q .non H',rt:=Q } (start N vs) H) :
  FnOk P w K mg base CX (k+1) f (PySem.W.fnOf name qual params body scope dV kV doc pm an cdv ct) ps sp:=by
 refine ⟨len,λA outer s H args us vs Q E hr e0 hb r hsp=>?_⟩
 have hl:=len _ _ _ _ hsp
 have KX:K.In s.heap:=e0.mod.kin.keeps λb o e=>(e0.bs b o e).1
 have lim:s.heap.NoLimit:=e0.mod.nolimit.keeps λb o e=>(e0.bs b o e).1
 have hkind:∀ y∈ps.zip us,scope.names.lookup y.1=some .local\/(scope.names.lookup y.1=some .cell/\((cellsFrom (s.heap.objs.size+1) scope.names []).lookup y.1).isSome=true):=λ⟨n,v⟩ hy=>by
  rcases S.par n (yC hy).1 with q | q
  ·exact .inl q
  ·exact .inr ⟨q,PySem.W.cellsFrom_some _ _ _ (.inl q)⟩
 refine codeAny_call_function hr.depth (KX _ _ lk) rfl S.co S.gen rfl (PySem.W.codeRec_of KX hcd) (hb _ _ _ _ ?_)
 refine wpAny_newFunctionEnv_cells S.kind hkind λenv he s1 x=>?_
 subst he
 refine ⟨lim.keeps x.toInCall.keep,codeAny_func ?_⟩
 obtain ⟨t,ht,hq⟩:=hbody A outer s H vs Q E (hr.deeper _) hsp
 have I:Inv (cS CX P w K mg base N qual scope f cdv A outer s H E) [] (start N vs) H s1:=Zk1 S hr.hd e0 hl r x
 refine wpAny_mono (ht [] s1 (start N vs) H _ I hq) (λfl s' hs=>?_) λe s' hs=>hs
 have fin:∀ {σ':St} {H':Hp} {v:V} {u:Value},Inv (cS CX P w K mg base N qual scope f cdv A outer s H E) [] σ' H' s'->RelV v u->Q v H'->CE outer P w H s Q u s' :=
  λ{σ' H' v u} J rv q=>⟨v,H',J.os,J.bare,J.base,J.hok,rv,q⟩
 cases fl with
 | ret u =>
  obtain ⟨v,σ',H',J,rv,q⟩:=hs
  exact fin J rv q
 | next =>
  obtain ⟨σ',H',J,q⟩:=hs
  exact fin (v:=V.non) (u:=Value.none) J rfl q
 | brk =>
  obtain ⟨_,_,_,q⟩:=hs
  exact False.elim q
 | cont =>
  obtain ⟨_,_,_,q⟩:=hs
  exact False.elim q
section
variable {X:Cx} {x:Str} {p pos:Pos} {e:Expr} {es:List Expr} {t:TA} {id T:String} {r:List V->Hp->VK->Prop}
def gM (r:List V->Hp->VK->Prop) (t:TA):TE:=λσ H Q=>t σ H λvs H1=>r vs H1 Q
theorem bj (hc:CallR X (.builtin id) r) (hg:Gl X x) (hm:X.mg x=none) (hv:bootBuiltins x=some (.builtin id)) (ha:PA X (e::es) t) (hn:x≠"__name__":=by decide) (hdb:(x == ("__debug__":Str))=false:=by decide)
  (he:starEach (e::es) X.env=(false,eval e X.env)::starEach es X.env:=by rfl) (hpl:(backTo pos (starEach es X.env)).any (·.1)=false:=by rfl):PE X (.Call (.Name x p) (e::es) [] pos) (gM r t):=by
 intro pins s σ H Q I h
 refine wpAny_Call_Name_kw (kC I hg hm hv ?_ hn hdb)
 exact PyProof.Rows.callWith_builtin1 (thn (ha pos pins s σ H _ I h) λus s1 ⟨vs,H1,I1,r1,q1⟩=>hc pins s1 σ H1 vs us Q I1 r1 q1) he hpl
theorem bS (hc:CallR X (.type T) r) (hg:Gl X x) (hm:X.mg x=none) (hv:bootBuiltins x=some (.type T)) (ha:PA X (e::es) t) (hn:x≠"__name__":=by decide) (hdb:(x == ("__debug__":Str))=false:=by decide)
  (he:starEach (e::es) X.env=(false,eval e X.env)::starEach es X.env:=by rfl) (hpl:(backTo pos (starEach es X.env)).any (·.1)=false:=by rfl):PE X (.Call (.Name x p) (e::es) [] pos) (gM r t):=by
 intro pins s σ H Q I h
 refine wpAny_Call_Name_kw (kC I hg hm hv ?_ hn hdb)
 exact wX (thn (ha pos pins s σ H _ I h) λus s1 ⟨vs,H1,I1,r1,q1⟩=>hc pins s1 σ H1 vs us Q I1 r1 q1) he hpl
end
end L2
namespace HT
noncomputable def cX:List Int->List Int->Bool
 | [],[]=>false
 | [],_::_=>true
 | _::_,[]=>false
 | x::xs,y::ys=>if x=y then cX xs ys else decide (x < y)
theorem ZcH (x y:Int) (xs ys:y8):cX (x::xs) (y::ys)=if x=y then cX xs ys else decide (x < y):=rfl
theorem ZcG:cX [] []=false:=rfl
theorem Zki (y:Int) (ys:y8):cX [] (y::ys)=true:=rfl
theorem Zkj (x:Int) (xs:y8):cX (x::xs) []=false:=rfl
theorem Zpp (A:Around) (s:Shared) (a:Int) (t:Tok) (c:Int) (u:Tok):∃ e,SeqAt.EqAt A s (.int a t) (.int c u) e/\(e=true ↔ a=c) :=
 ⟨(a == c),SeqAt.EqAt.int_int a t c u,by simp⟩
theorem Zh8 (A:Around) (s:Shared) (a:Int) (t:Tok) (c:Int) (u:Tok) (prog:Program) (w:World) (E:y4) (Q:y4) (h:Q (.bool (decide (a < c))) s) :
  wpAny (model prog w) A (richCompare .Lt (.int a t) (.int c u)) Q E s :=
 (PyProof.Rows.lt_int h:wpAny (model prog w) A (compareOp .Lt (.int a t) (.int c u)) Q E s)
section
open PySem.SeqAt
open PySem.AutoSeq1 (wpAny_loadPart')
open PySem.MeetsSeq PySem.MeetsSeq2 PySem.MeetsSeq3
theorem Zgc (l b:Addr) (items items2:Array Value) (n n2:Nat) (dd dd2:Option Addr) (sl dC:Array (Option Value)) (ns ms:y8) (hi:IntsAre items.toList ns) (hj:IntsAre items2.toList ms) :
  Meets (Builtin.«tuple.__lt__» ⟨[.ref l,.ref b],[]⟩)
   (λ_ R s=>s.heap.get? l=some { cls:=.type "tuple",dict:=dd,data:=.seq items n,slots:=sl }/\s.heap.get? b=some { cls:=.type "tuple",dict:=dd2,data:=.seq items2 n2,slots:=dC } /\
    R (.ok (.ret (.bool (cX ns ms)))) s) :=
 .of_wp λprog w A R s h=>by
  obtain ⟨hp,g,d,tk,os⟩:=s; obtain ⟨hl,hb,h⟩:=h
  have f2:=AutoSeq1.sub_tuple_tuple
  have z1:items.size=ns.length:=by rw [<- hi.length]; simp
  have z2:items2.size=ms.length:=by rw [<- hj.length]; simp
  wp_walk using wpAny_loadPart' hl,wpAny_loadPart' hb,wpAny_forIn_list _ (λrest b s'=>b.1=none/\s'=⟨hp,g,d,tk,os⟩/\∃ (vs ws:y9) (ns' ms':y8),rest=vs.zip ws /\
   IntsAre vs ns'/\IntsAre ws ms'/\ns'.length+items2.size=ms'.length+items.size/\R (.ok (.ret (.bool (cX ns' ms')))) ⟨hp,g,d,tk,os⟩) _
  case turn =>
   rintro ⟨y,x⟩ rest b s' ⟨hb',rfl,vs,ws,ns',ms',hz,hvi,hwi,hlen,hR⟩
   cases hvi with
   | nil=>rw [List.zip_nil_left] at hz; cases hz
   | cons a t hvi' =>
    cases hwi with
    | nil=>rw [List.zip_nil_right] at hz; cases hz
    | cons c u hwi' =>
     rw [xN] at hz
     injection hz with hyx hrest
     injection hyx with hy hx
     subst hy hx
     rw [ZcH] at hR
     simp only [vN] at hlen
     obtain ⟨e,he,hiff⟩:=Zpp A.in1 ⟨hp,g,d,tk,os⟩ a t c u
     refine wpAny_bind (he prog w _ _ ?_)
     cases e with
     | true =>
      rw [if_pos (hiff.mp rfl)] at hR
      wp_walk
      exact ⟨rfl,rfl,_,_,_,_,hrest,hvi',hwi',by omega,hR⟩
     | false =>
      rw [if_neg (λq=>absurd (hiff.mpr q) vL)] at hR
      have hri:=Zh8 A.in1 ⟨hp,g,d,tk,os⟩ a t c u prog w
      wp_walk using hri
      exact ⟨_,rfl,by simpa using hR⟩
  case fin =>
   rintro ⟨b1,b2⟩ s' ⟨hb',rfl,vs,ws,ns',ms',hz,hvi,hwi,hlen,hR⟩
   simp only at hb'
   subst hb'
   have hv:cX ns' ms'=decide (items.size < items2.size):=by
    cases hvi with
    | nil =>
     cases hwi with
     | nil =>
      simp only [wU] at hlen
      rw [ZcG]
      exact (decide_eq_false (by omega)).symm
     | cons c u hw =>
      simp only [wU,vN] at hlen
      rw [Zki]
      exact (decide_eq_true (by omega)).symm
    | cons a t hv =>
     cases hwi with
     | nil =>
      simp only [wU,vN] at hlen
      rw [Zkj]
      exact (decide_eq_false (by omega)).symm
     | cons c u hw =>
      rw [xN] at hz
      cases hz
   rw [hv] at hR
   wp_walk
   exact ⟨_,rfl,by simpa [Builtin.Tuple.tupleCompareSizes] using hR⟩
  case h =>
   exact ⟨rfl,rfl,items.toList,items2.toList,ns,ms,rfl,hi,hj,by omega,h⟩
end
section
variable {prog:Program} {w:World} {A:Around} {E:y4} {s:Shared}
theorem Zj9 {l b:Addr} {items items2:Array Value} {ns ms:y8} {Q:y4} (hl:IsTup s.heap l items) (hb:IsTup s.heap b items2) (hi:IntsAre items.toList ns) (hj:IntsAre items2.toList ms)
  (hu:A.units < cLine) (h:Q (.bool (cX ns ms)) s):wpAny (model prog w) A (compareOp .Lt (.ref l) (.ref b)) Q E s:=by
 obtain ⟨⟨cls,dd,data,sl⟩,ho,hc,n,hd⟩:=id hl
 obtain ⟨⟨cls2,dd2,data2,dC⟩,ho2,hc2,n2,hd2⟩:=id hb
 simp only at hc hd hc2 hd2
 subst hc hd hc2 hd2
 exact richCompare_meets_room (op:=.Lt) ⟨_,ho,rfl⟩ ⟨_,ho2,rfl⟩ PySem.F.slot_tuple_lt PySem.F.entry_tuple_lt (PySem.F.args_tuple_lt_2 _ _) (Zgc l b items items2 n n2 dd dd2 sl dC ns ms hi hj)
  ⟨ho,ho2,show Value.bool (cX ns ms)≠Value.notImplemented/\Q (.bool (cX ns ms)) s from ⟨(λx=>nomatch x),h⟩⟩ hu
theorem ZqT {t b:Addr} {vs ws:y9} {Q:y4} (ht:IsTup s.heap t vs.toArray) (hb:IsTup s.heap b ws.toArray) (hv:vs≠[])
  (h1:ws=[]->Q (.ref t) s) (h2:ws≠[]->Q (.ref s.heap.objs.size) { s with heap:=s.heap.push { cls:=.type "tuple",data:=.seq (vs++ws).toArray } })
  (hsz:vs.length+ws.length<=sizeLine):wpAny (model prog w) A (binaryOp .Add (.ref t) (.ref b)) Q E s:=by
 obtain ⟨⟨cls,dd,data,sl⟩,ho,hc,n,hd⟩:=id ht
 obtain ⟨⟨cls2,dd2,data2,dC⟩,ho2,hc2,n2,hd2⟩:=id hb
 simp only at hc hd hc2 hd2
 subst hc hd hc2 hd2
 have e:vs.toArray++ws.toArray=(vs++ws).toArray:=by simp
 by_cases hw:ws=[]
 ·exact concat_meets ⟨_,ho,rfl⟩ ⟨_,ho2,rfl⟩ noFill_tuple_add seq_tuple_add x6 xX (xU _ _)
   (tuple_addW1 t b vs.toArray ws.toArray n n2 dd dd2 sl dC (by simpa using hv) (by simp [hw])) ⟨ho,ho2,h1 hw⟩
 ·refine concat_meets ⟨_,ho,rfl⟩ ⟨_,ho2,rfl⟩ noFill_tuple_add seq_tuple_add x6 xX (xU _ _)
   (tuple_addW2 t b vs.toArray ws.toArray n n2 dd dd2 sl dC (by simpa using hv) (by simpa using hw) (by rw [vK,vK]; exact hsz)) ⟨ho,ho2,?_⟩
  rw [e]
  exact h2 hw
noncomputable def aP (n d:Nat):Option Int->Nat
 | none=>d
 | some v=>if v < 0 then (v+(n:Int)).toNat else min v.toNat n
theorem ZhF (n d k:Nat):aP n d (some (k:Int))=min k n:=by
 show (if (k:Int) < 0 then ((k:Int)+(n:Int)).toNat else min (k:Int).toNat n)=min k n
 rw [if_neg (by omega),xa]
theorem ZhG (n d:Nat) (hd:d<=n) (o:Option Int):aP n d o<=n:=by
 cases o with
 | none=>exact hd
 | some v =>
  show (if v < 0 then (v+(n:Int)).toNat else min v.toNat n)<=n
  by_cases hv:v < 0
  ·rw [if_pos hv]; omega
  ·rw [if_neg hv]; exact yu _ _
theorem Zeh (v:Int) (n d:Nat):(if v < 0 then max (v+(n:Int)) 0 else min v (n:Int))=((aP n d (some v):Nat):Int):=by
 show (if v < 0 then max (v+(n:Int)) 0 else min v (n:Int))=(((if v < 0 then (v+(n:Int)).toNat else min v.toNat n):Nat):Int)
 by_cases hv:v < 0
 ·rw [if_pos hv,if_pos hv,Int.ofNat_toNat]
 ·rw [if_neg hv,if_neg hv]
  obtain ⟨k,rfl⟩:=xZ (Int.not_lt.mp hv)
  rw [xa,<- yK]
theorem ZrQ (lo hi:Option Int) (n:Nat):Builtin.Slice.sliceAdjust lo hi 1 (n:Int)=(((aP n 0 lo:Nat):Int),((aP n n hi:Nat):Int)):=by
 have h1:¬ ((1:Int) < 0):=by omega
 unfold Builtin.Slice.sliceAdjust
 simp only [h1,if_false]
 refine Prod.ext ?_ ?_
 ·cases lo with
  | none=>rfl
  | some v=>exact Zeh v n 0
 ·cases hi with
  | none=>rfl
  | some v=>exact Zeh v n n
theorem Ziy (i j:Nat):Builtin.Slice.slicePlaces (i:Int) (j:Int) 1=j - i:=by
 unfold Builtin.Slice.slicePlaces
 have h1:(1:Int) > 0:=by omega
 simp only [h1,if_true,Int.ediv_one]
 split <;> omega
theorem Za2 {v:Value} {o:Option Int} {Q:Option Int->Shared->Prop} (p:IsPart v o) (h:Q o s):wpAny (model prog w) A (Builtin.Slice.slicePartIndex v) Q E s:=by
 cases p with
 | none=>exact slicePart_none h
 | int i t=>exact slicePart_int h
theorem Za4 {sl:Addr} {vl vu:Value} {lo hi:Option Int} {n:Nat} {Q:Int×Int×Nat->Shared->Prop} (hs:s.heap.IsSliceOf sl vl vu .none) (pl:IsPart vl lo) (pu:IsPart vu hi)
  (h:Q (((aP n 0 lo:Nat):Int),1,aP n n hi - aP n 0 lo) s):wpAny (model prog w) A (Builtin.Slice.sliceApplied (.ref sl) (pure (n:Int))) Q E s:=by
 obtain ⟨os,hos,hcs,hds⟩:=id hs
 unfold Builtin.Slice.sliceApplied Builtin.Slice.sliceFields
 refine wpAny_bind (wpAny_bind (wpAny_field hos hds (x:=vl) rfl (wpAny_bind (wpAny_field hos hds (x:=vu) rfl (wpAny_bind (wpAny_field hos hds (x:=.none) rfl (wpAny_pure ?_)))))))
 refine wpAny_bind (slicePart_none ?_)
 show wpAny _ _ (if ((1:Int) == 0)=true then _ else _) _ _ s
 rw [if_neg (by decide)]
 refine wpAny_bind (Za2 pl (wpAny_bind (Za2 pu (wpAny_bind (wpAny_pure ?_)))))
 show wpAny _ _ (match Builtin.Slice.sliceAdjust lo hi 1 (n:Int) with | (lo,hi)=>pure (lo,(1:Int),Builtin.Slice.slicePlaces lo hi 1)) _ _ s
 rw [ZrQ lo hi n]
 show wpAny _ _ (pure (((aP n 0 lo:Nat):Int),(1:Int),Builtin.Slice.slicePlaces ((aP n 0 lo:Nat):Int) ((aP n n hi:Nat):Int) 1)) _ _ s
 rw [Ziy]
 exact wpAny_pure h
theorem Ziz (xs:Array Value) (i k:Nat):((List.range k).filterMap λ(m:Nat)=>xs[((i:Int)+(m:Int) * 1).toNat]?).toArray=((xs.toList.drop i).take k).toArray:=by
 have e:(λ(m:Nat)=>xs[((i:Int)+(m:Int) * 1).toNat]?)=λm=>xs[i+m]?:=by
  funext m
  have:((i:Int)+(m:Int) * 1).toNat=i+m:=by omega
  rw [this]
 rw [e]
 have:=pick_run xs i k
 rw [List.filterMap_map] at this
 have e2:((λx=>xs[x]?) ∘ λx=>i+x)=λm=>xs[i+m]?:=rfl
 rw [e2] at this
 rw [this]
theorem Zla {t sl:Addr} {items:Array Value} {vl vu:Value} {lo hi:Option Int} {Q:y4} (ht:IsTup s.heap t items) (hs:s.heap.IsSliceOf sl vl vu .none) (pl:IsPart vl lo) (pu:IsPart vu hi)
  (hw:¬ (aP items.size 0 lo=0/\aP items.size items.size hi=items.size))
  (h:Q (.ref s.heap.objs.size) { s with heap:=s.heap.push { cls:=.type "tuple",data:=.seq ((items.toList.drop (aP items.size 0 lo)).take (aP items.size items.size hi - aP items.size 0 lo)).toArray } })
  (hsz:items.size<=sizeLine):wpAny (model prog w) A (getItem (.ref t) (.ref sl)) Q E s:=by
 have htake:sizeOk (.seq ((items.toList.drop (aP items.size 0 lo)).take (aP items.size items.size hi - aP items.size 0 lo)).toArray):=by
  show ((items.toList.drop (aP items.size 0 lo)).take (aP items.size items.size hi - aP items.size 0 lo)).toArray.size<=sizeLine
  rw [vK,yw,xD,wm]
  exact vO (yu _ _) (vO (Nat.sub_le _ _) hsz)
 have hj:aP items.size items.size hi<=items.size:=ZhG _ _ (vF _) hi
 obtain ⟨os,hos,hcs,hds⟩:=id hs
 have hTs:s.TypeIs (.ref sl) "slice":=⟨os,hos,hcs⟩
 unfold getItem
 try with_reducible refine wpAny_holding ?_
 first | refine wpAny_bind (wpAny_pure ?_) | skip
 refine wpAny_bind (wpAny_sequenceKey ht.typeIs (by decide) ?_)
 refine wpAny_bind (wpAny_callSpecial?_slot (name:=Str.ofString "__getitem__") ht.typeIs wT
  (wpAny_call_entry wT ht.typeIs entry_tuple_getitem ?_ (args_tuple_getitem _ _)))
 show wpAny _ _ (Builtin.Tuple.tupleItemsOf (.ref t) >>= _) _ _ s
 refine wpAny_bind (tupleItemsOf_ ht ?_)
 refine wpAny_bind (wpAny_typeOf hTs ?_)
 rw [if_pos (by decide)]
 refine wpAny_bind (Za4 hs pl pu ?_)
 have hno:¬ ((((aP items.size 0 lo:Nat):Int) == 0 && (1:Int) == 1 && (aP items.size items.size hi - aP items.size 0 lo) == items.size)=true):=by
  intro q
  rw [vQ,vQ] at q
  have q1:((aP items.size 0 lo:Nat):Int)=0:=eq_of_beq q.1.1
  have q2:aP items.size items.size hi - aP items.size 0 lo=items.size:=eq_of_beq q.2
  exact hw ⟨by omega,by omega⟩
 show wpAny _ _ (if (((aP items.size 0 lo:Nat):Int) == 0 && (1:Int) == 1 && (aP items.size items.size hi - aP items.size 0 lo) == items.size)=true then _ else _) _ _ s
 rw [if_neg hno,Ziz]
 first
  | exact wpAny_bind (m:=Builtin.Tuple.tupleExact _) (wpAny_newObj_type (wpAny_pure ⟨_,rfl,wpAny_pure h⟩) htake)
  | exact wpAny_bind (m:=Builtin.Tuple.tupleExact _) (wpAny_newObj_type (wpAny_bind (wpAny_pure (wpAny_pure ⟨_,rfl,wpAny_pure h⟩))) htake)
  | exact wpAny_bind (wpAny_bind (m:=Builtin.Tuple.tupleExact _) (wpAny_newObj_type (wpAny_pure (wpAny_pure ⟨_,rfl,wpAny_pure h⟩)) htake))
  | exact wpAny_bind (wpAny_bind (m:=Builtin.Tuple.tupleExact _) (wpAny_newObj_type (wpAny_pure ⟨_,rfl,wpAny_pure h⟩) htake))
end
end HT
namespace L2
noncomputable abbrev TO:=St->Hp->(Option Int->Hp->Prop)->Prop
noncomputable def PO (X:Cx) (e:Option Expr) (t:TO):Prop :=
 ∀ (pins:List (Addr×Obj)) (s:Shared) (σ:St) (H:Hp) (Q:Option Int->Hp->Prop),Inv X pins σ H s->t σ H Q ->
  wpAny (model X.prog X.w) X.A (evalPart e X.env) (λu s'=>∃ o H',Inv X pins σ H' s'/\IsPart u o/\Q o H') X.xe s
noncomputable def Zgy:TO:=λ_ H Q=>Q none H
noncomputable def Zgt (t:TE):TO:=λσ H Q=>t σ H λx H1=>∃ i,x=.int i/\Q (some i) H1
theorem Zc1 {ns:y8}:∀ {us:y9},Vals (ns.map V.int) us->IntsAre us ns:=by
 induction ns with
 | nil=>intro us r; rw [wR] at r; cases r; exact .nil
 | cons n ns ih =>
  intro us r
  rw [vG] at r
  cases r with
  | cons r1 r2 =>
   obtain ⟨t,e⟩:=r1
   subst e
   exact .cons n t (ih r2)
section
variable {X:Cx} {e:Expr} {te:TE} {lo hi:Option Expr} {tl th:TO} {pos p2:Pos}
theorem Zb2:PO X none Zgy:=by
 intro pins s σ H Q I h
 rw [evalPart_none]
 exact wpAny_pure ⟨none,H,I,.none,h⟩
theorem Zb1 (h:PE X e te):PO X (some e) (Zgt te):=by
 intro pins s σ H Q I hw
 rw [evalPart_some]
 refine thn (h pins s σ H _ I hw) λu s1 hz0=>?_
 obtain ⟨x,H1,I1,r1,q1⟩:=hz0
 obtain ⟨i,rfl,q⟩:=q1
 obtain ⟨t,rfl⟩:=r1
 exact ⟨some i,H1,I1,.int i t,q⟩
noncomputable def SlR (X:Cx) (r:V->Option Int->Option Int->Hp->VK->Prop):Prop :=
 ∀ (pins:List (Addr×Obj)) (s:Shared) (σ:St) (H:Hp) (x:V) (v vl vu:Value) (lo hi:Option Int) (sl:Addr) (Q:VK),Inv X pins σ H s->RelV x v->s.heap.IsSliceOf sl vl vu .none->IsPart vl lo->IsPart vu hi->r x lo hi H Q ->
  ∃ T id,typeLookup (.type T) "__getitem__"=pure (some (.builtin id))/\s.TypeIs v T/\wpAny (model X.prog X.w) X.A (getItem v (.ref sl)) (EP X pins σ Q) X.xe s
theorem SlR.or {r r':V->Option Int->Option Int->Hp->VK->Prop} (h:SlR X r) (h':SlR X r'):SlR X (λx lo hi H Q=>r x lo hi H Q\/r' x lo hi H Q):=by
 intro pins s σ H x v vl vu lo hi sl Q I rx hs pl pu q
 rcases q with q | q
 ·exact h pins s σ H x v vl vu lo hi sl Q I rx hs pl pu q
 ·exact h' pins s σ H x v vl vu lo hi sl Q I rx hs pl pu q
def tSl (r:V->Option Int->Option Int->Hp->VK->Prop) (te:TE) (tl th:TO):TE:=λσ H Q=>te σ H λx H1=>tl σ H1 λl H2=>th σ H2 λu H3=>r x l u H3 Q
theorem Zb8 {r:V->Option Int->Option Int->Hp->VK->Prop} (hr:SlR X r) (he:PE X e te) (hl:PO X lo tl) (hu:PO X hi th):PE X (.Subscript e (.Slice lo hi none p2) pos) (tSl r te tl th):=by
 intro pins s σ H Q I h
 refine Subscript_ (thn (he pins s σ H _ I h) λv s1 hz0=>?_)
 obtain ⟨x,H1,I1,r1,q1⟩:=hz0
 refine wpAny_Slice (thn (hl pins s1 σ H1 _ I1 q1) λvl s2 ⟨l,H2,I2,pl,q2⟩=>thn (hu pins s2 σ H2 _ I2 q2) λvu s3 hz0=>?_)
 obtain ⟨u,H3,I3,pu,q3⟩:=hz0
 rw [evalPart_none]
 refine wpAny_pure ?_
 have I4:Inv X pins σ H3 { s3 with heap:=s3.heap.push { cls:=.type "slice",data:=.fields #[vl,vu,.none] } }:=I3.kept (t':=s3.toks) λb ob q=>vA _ q
 obtain ⟨T,id,hT,ht,hg⟩:=hr pins { s3 with heap:=s3.heap.push { cls:=.type "slice",data:=.fields #[vl,vu,.none] } } σ H3 x v vl vu l u s3.heap.objs.size Q I4 r1 (Heap.IsSliceOf.new ..) pl pu q3
 show wpAny (model X.prog X.w) X.A (subscriptTail e (.Slice lo hi none p2) v (.ref s3.heap.objs.size)) (EP X pins σ Q) X.xe { s3 with heap:=s3.heap.push { cls:=.type "slice",data:=.fields #[vl,vu,.none] } }
 exact tail_any (ops:=[.ref s3.heap.objs.size,v]) ht hT hg (by with_unfolding_all rfl)
noncomputable def eU (xs:zb) (lo hi:Option Int):zb:=(xs.drop (HT.aP xs.length 0 lo)).take (HT.aP xs.length xs.length hi - HT.aP xs.length 0 lo)
theorem Zec (xs:zb) (lo hi:Option Int):(eU xs lo hi).length<=xs.length:=by
 unfold eU
 rw [yw,xD]
 exact vO (yu _ _) (Nat.sub_le _ _)
noncomputable def Zbu (K:yS):V->Option Int->Option Int->Hp->VK->Prop:=λx lo hi H Q=>∃ a xs,x=.ref a/\SqT K H a xs /\
 ¬ (HT.aP xs.length 0 lo=0/\HT.aP xs.length xs.length hi=xs.length)/\∀ p,H p=none->Q (.ref p) (upd H p (.tup (eU xs lo hi)))
theorem Zg2:SlR X (Zbu X.K):=by
 intro pins s σ H x v vl vu lo hi sl Q I rx hs pl pu h
 obtain ⟨a,xs,rfl,hx,hw,q⟩:=h
 cases rx
 obtain ⟨its,r,ht,hz⟩:=I.tuple hx
 have hlen:its.toArray.size=xs.length:=by rw [vK]; exact r.length.symm
 refine ⟨"tuple",_,PyProof.Rows.slot_tuple_getitem.lookup,ht.typeIs,?_⟩
 refine HT.Zla ht hs pl pu (by rw [hlen]; exact hw) ?_ (by rw [hlen]; exact hz)
 rw [hlen]
 refine ⟨.ref s.heap.objs.size,_,I.laid (t':=s.toks) (o:=.tup (eU xs lo hi)) (λb ob q=>vA _ q) (vF _) ?_,rfl,q _ (I.hok.fresh (vF _))⟩
 exact ⟨vO (Zec xs lo hi) hz,_,(r.drop (HT.aP xs.length 0 lo)).take (HT.aP xs.length xs.length hi - HT.aP xs.length 0 lo),IsTup.new _ _⟩
noncomputable def ZbT (K:yS):R2:=λx y H Q=>∃ a b xs ys,x=.ref a/\y=.ref b/\SqT K H a xs/\SqT K H b ys/\xs≠[]/\xs.length+ys.length<=sizeLine /\
 (ys=[]->Q (.ref a) H)/\(ys≠[]->∀ p,H p=none->Q (.ref p) (upd H p (.tup (xs++ys))))
theorem Vals.nil_iff {xs:zb} {us:y9} (r:Vals xs us):us=[] ↔ xs=[]:=by
 cases r with
 | nil=>simp
 | cons _ _=>simp
theorem Zjm:OpR X (binaryOp .Add) (ZbT X.K):=by
 intro pins s σ H x y v u Q I rx ry h
 obtain ⟨a,b,xs,ys,rfl,rfl,ha,hb,hx,hz,q1,q2⟩:=h
 cases rx
 cases ry
 obtain ⟨its,r1,p1,_⟩:=I.tuple ha
 obtain ⟨its2,r2,p2,_⟩:=I.tuple hb
 refine HT.ZqT p1 p2 (λz=>hx (r1.nil_iff.mp z)) (λz=>⟨.ref a,H,I,rfl,q1 (r2.nil_iff.mp z)⟩) (λz=>?_) (by rw [<- r1.length,<- r2.length]; exact hz)
 refine ⟨.ref s.heap.objs.size,_,I.laid (t':=s.toks) (o:=.tup (xs++ys)) (λb ob q=>vA _ q) (vF _) ?_,rfl,q2 (λw=>z (r2.nil_iff.mpr w)) _ (I.hok.fresh (vF _))⟩
 exact ⟨by rw [vW]; exact hz,_,r1.append r2,IsTup.new _ _⟩
end
noncomputable def iM (n:Nat) (i:Int):Option Nat:=if 0<=i then (if i < n then some i.toNat else none) else if -(n:Int)<=i then some (i+n).toNat else none
noncomputable def br {α:Type} (xs:List α) (i:Int):Option α:=(iM xs.length i).bind λj=>xs[j]?
theorem ZkS {n:Nat} {i:Int} {j:Nat} (h:iM n i=some j):seqIndex? i n=some j/\j < n/\-(n:Int)<=i/\i < n:=by
 unfold iM at h
 by_cases h0:0<=i
 ·rw [if_pos h0] at h
  by_cases h1:i < n
  ·rw [if_pos h1] at h
   have e:i.toNat=j:=vT h
   exact ⟨by rw [seqIndex_of h0 h1,e],by omega,by omega,h1⟩
  ·rw [if_neg h1] at h; cases h
 ·rw [if_neg h0] at h
  by_cases h1:-(n:Int)<=i
  ·rw [if_pos h1] at h
   have e:(i+n).toNat=j:=vT h
   exact ⟨by rw [seqIndex_neg (by omega) h1,e],by omega,h1,by omega⟩
  ·rw [if_neg h1] at h; cases h
theorem uV {α:Type} {xs:List α} {i:Int} {v:α} (h:br xs i=some v):∃ j,seqIndex? i xs.length=some j/\xs[j]?=some v/\j < xs.length/\-(xs.length:Int)<=i/\i < xs.length:=by
 unfold br at h
 cases e:iM xs.length i with
 | none=>rw [e] at h; cases h
 | some j =>
  rw [e] at h
  obtain ⟨h1,h2,h3,h4⟩:=ZkS e
  exact ⟨j,h1,h,h2,h3,h4⟩
theorem dq {α:Type} {xs:List α} {j:Nat} {v:α} (h:xs[j]?=some v):br xs (j:Int)=some v:=by
 have hj:j < xs.length:=(vH.mp h).1
 have e:iM xs.length (j:Int)=some j:=by
  unfold iM
  rw [if_pos (by omega),if_pos (by omega)]; simp
 unfold br; rw [e]; exact h
def Zfg (b:Expr):Prop:=∀ o i,subscripted b false o i=operate [o,i] (getItem o i)
noncomputable def IxR (X:Cx) (r:R2):Prop :=
 ∀ (value slice:Expr) (pins:List (Addr×Obj)) (s:Shared) (σ:St) (H:Hp) (x y:V) (v u:Value) (Q:VK),Inv X pins σ H s->RelV x v->RelV y u->r x y H Q ->
  subscripted slice false v u=operate [v,u] (getItem v u)->wpAny (model X.prog X.w) X.A (subscriptTail value slice v u) (EP X pins σ Q) X.xe s
noncomputable def jQ (X:Cx) (id:String) (r:V->List V->Hp->VK->Prop):Prop :=
 ∀ (pins:List (Addr×Obj)) (s:Shared) (σ:St) (H:Hp) (x:V) (xs:zb) (v:Value) (us:y9) (Q:VK),Inv X pins σ H s->RelV x v->Vals xs us->r x xs H Q ->
  wpAny (model X.prog X.w) X.A (call (.builtin id) (v::us)) (EP X pins σ Q) X.xe s
section
variable {X:Cx} {a b:Expr} {ta tb:TE} {pos:Pos}
theorem IxR.or {r r':R2} (h:IxR X r) (h':IxR X r'):IxR X (λx y H Q=>r x y H Q\/r' x y H Q):=by
 intro value slice pins s σ H x y v u Q I rx ry q hs
 rcases q with q | q
 ·exact h value slice pins s σ H x y v u Q I rx ry q hs
 ·exact h' value slice pins s σ H x y v u Q I rx ry q hs
theorem sS {r:R2} (hr:IxR X r) (ha:PE X a ta) (hb:PE X b tb) (hs:Zfg b):PE X (.Subscript a b pos) (lm r ta tb):=by
 intro pins s σ H Q I h
 exact Subscript_ (uT ha hb I h λv u s2 x y H2 I2 rx ry q=>hr a b pins s2 σ H2 x y v u Q I2 rx ry q (hs _ _))
noncomputable def ZbN (K:yS):R2:=λx y H Q=>∃ p xs i v,x=.ref p/\y=.int i/\SqL K H p xs/\br xs i=some v/\Q v H
noncomputable def ZbL (K:yS):R2:=λx y H Q=>∃ p xs i v,x=.ref p/\y=.int i/\SqT K H p xs/\br xs i=some v/\Q v H
noncomputable def ZbM:R2:=λx y H Q=>∃ z i c,x=.str z/\y=.int i/\z.length<=sizeLine/\br z.cps.toList i=some c/\Q (.str ⟨#[c]⟩) H
theorem ua:IxR X (ZbN X.K):=by
 intro value slice pins s σ H x y v u Q I rx ry h hs
 obtain ⟨p,xs,i,z,rfl,rfl,hq,he,q⟩:=h
 cases rx
 obtain ⟨t,rfl⟩:=ry
 obtain ⟨its,r,pl,hz⟩:=I.list hq
 obtain ⟨j,h1,h2,h3,h4,h5⟩:=uV he
 obtain ⟨w,ew,rw'⟩:=r.get h2
 have hl:=r.length
 have hn:=jA
 have fin:EP X pins σ Q w s:=⟨z,H,I,rw',q⟩
 by_cases h0:0<=i
 ·have hj:i.toNat=j:=by
   rw [seqIndex_of h0 h5] at h1
   exact vT h1
  exact item_listR pl.isList h0 (by omega) (by rw [hj]; simpa using ew) fin hs
 ·have hj:(i+(its.toArray.size:Int)).toNat=j:=by
   rw [seqIndex_neg (by omega) h4] at h1
   rw [vK,<- hl]
   exact vT h1
  exact subscriptTail_builtinR (x:=w) pl.isList.typeIs slot_list_getitem.lookup
   (wpAny_getItem_list_neg (Q:=λr s'=>r=w/\EP X pins σ Q r s') pl.isList (by omega) (by rw [vK] <;> omega) (by omega) (by rw [hj]; simpa using ew) ⟨rfl,fin⟩) hs
theorem ZkR:IxR X (ZbL X.K):=by
 intro value slice pins s σ H x y v u Q I rx ry h hs
 obtain ⟨p,xs,i,z,rfl,rfl,hq,he,q⟩:=h
 cases rx
 obtain ⟨t,rfl⟩:=ry
 obtain ⟨its,r,pl,hz⟩:=I.tuple hq
 obtain ⟨j,h1,h2,h3,h4,h5⟩:=uV he
 obtain ⟨w,ew,rw'⟩:=r.get h2
 have hl:=r.length
 have hn:=jA
 have fin:EP X pins σ Q w s:=⟨z,H,I,rw',q⟩
 exact subscriptTail_builtinR (x:=w) pl.typeIs slot_tuple_getitem.lookup
  (getItem_tuple (j:=j) (Q:=λr s'=>r=w/\EP X pins σ Q r s') pl (by omega) (by omega) (by rw [vK,<- hl]; exact h1) (by simpa using ew) ⟨rfl,fin⟩) hs
theorem pW:IxR X ZbM:=by
 intro value slice pins s σ H x y v u Q I rx ry h hs
 obtain ⟨z,i,c,rfl,rfl,hz,he,q⟩:=h
 obtain ⟨t,rfl⟩:=rx
 obtain ⟨t',rfl⟩:=ry
 obtain ⟨j,h1,h2,h3,h4,h5⟩:=uV he
 have hl:z.cps.toList.length=z.length:=by simp [Str.length]
 rw [hl] at h1 h4 h5
 have hn:=jA
 exact tail_any (typeIs_str s z t) slot_str_getitem.lookup (getItem_str (c:=c) (by
  have e1:decide (i < -(2 ^ 63:Int))=false:=decide_eq_false (by omega)
  have e2:decide (i ≥ 2 ^ 63)=false:=decide_eq_false (by omega)
  rw [e1,e2,Bool.or_false]) (by rw [h1]; simpa using h2) ⟨.str ⟨#[c]⟩,H,I.tok _,⟨_,rfl⟩,q⟩) hs
noncomputable def sk (K:yS):R2:=λx y H Q=>ZbN K x y H Q\/ZbL K x y H Q\/ZbM x y H Q
theorem bh:IxR X (sk X.K):=ua.or (ZkR.or pW)
theorem Zea {n:Nat} {i:Int} (h:i < 0):max 0 (min (i+(n:Int)) n)=(((i+n).toNat:Nat):Int):=by
 rw [Int.min_eq_left (by omega),Int.ofNat_toNat,Int.max_comm]
theorem Zeb {n:Nat} {i:Int} (h:¬ i < 0):max 0 (min i (n:Int))=((min i.toNat n:Nat):Int):=by
 obtain ⟨k,rfl⟩:=xZ (Int.not_lt.mp h)
 rw [xa,<- yK]
 exact Int.max_eq_right (Int.natCast_nonneg _)
theorem ZgY (lo hi:Option Int) (n:Nat):(sliceBounds lo hi none n).1=((HT.aP n 0 lo:Nat):Int)/\(sliceBounds lo hi none n).2.1=((HT.aP n n hi:Nat):Int)/\(sliceBounds lo hi none n).2.2=1:=by
 refine ⟨?_,?_,rfl⟩
 ·cases lo with
  | none=>simp [sliceBounds,HT.aP]
  | some i =>
   simp only [sliceBounds,HT.aP,Option.getD_none,show (1:Int) > 0 by decide,if_true]
   by_cases h:i < 0
   ·simp only [h,if_true]
    exact Zea h
   ·simp only [h,if_false]
    exact Zeb h
 ·cases hi with
  | none=>simp [sliceBounds,HT.aP]
  | some i =>
   simp only [sliceBounds,HT.aP,Option.getD_none,show (1:Int) > 0 by decide,if_true]
   by_cases h:i < 0
   ·simp only [h,if_true]
    exact Zea h
   ·simp only [h,if_false]
    exact Zeb h
theorem Zg0 (its:y9) (lo hi:Option Int):slicePick its.toArray lo hi none=((its.drop (HT.aP its.length 0 lo)).take (HT.aP its.length its.length hi - HT.aP its.length 0 lo)).toArray:=by
 obtain ⟨h1,h2,h3⟩:=ZgY lo hi its.toArray.size
 unfold slicePick
 rw [h1,h2,h3]
 simp only [sliceRange_one,pick_run,vK] <;> rfl
noncomputable def Zbw (K:yS):V->Option Int->Option Int->Hp->VK->Prop:=λx lo hi H Q=>∃ a xs,x=.ref a/\SqL K H a xs/\∀ p,H p=none->Q (.ref p) (upd H p (.lst (eU xs lo hi)))
theorem Za5:SlR X (Zbw X.K):=by
 intro pins s σ H x v vl vu lo hi sl Q I rx hs pl pu h
 obtain ⟨a,xs,rfl,hx,q⟩:=h
 cases rx
 obtain ⟨its,r,ht,hz⟩:=I.list hx
 have hlen:=r.length
 refine ⟨"list",_,slot_list_getitem.lookup,ht.isList.typeIs,?_⟩
 refine wpAny_getItem_list_slice ht.isList hs pl pu .none (by simp) ?_ (by rw [vK] <;> omega)
 rw [Zg0,<- hlen]
 refine ⟨.ref s.heap.objs.size,_,I.laid (t':=s.toks) (o:=.lst (eU xs lo hi)) (λb ob q=>vA _ q) (vF _) ?_,rfl,q _ (I.hok.fresh (vF _))⟩
 exact ⟨vO (Zec xs lo hi) hz,_,0,(r.drop (HT.aP xs.length 0 lo)).take (HT.aP xs.length xs.length hi - HT.aP xs.length 0 lo),vI _ rfl⟩
theorem qu:CallR X (.builtin "len") (λxs H Q=>∃ p ys,xs=[.ref p]/\(SqL X.K H p ys\/SqT X.K H p ys)/\Q (.int ys.length) H):=by
 intro pins s σ H xs us Q I r h
 obtain ⟨p,ys,rfl,hq,q⟩:=h
 obtain ⟨u,rfl,rx⟩:=ek r
 cases rx
 have hn:=jA
 rcases hq with hq | hq
 ·obtain ⟨its,r',pl,hz⟩:=I.list hq
  have hlen:=r'.length
  exact Calls.call_len_list pl.isList (by simp only [vK] <;> omega) ⟨.int ys.length,H,I.tok _,⟨s.toks+1,by rw [vK,hlen]⟩,q⟩
 ·obtain ⟨its,r',pl,hz⟩:=I.tuple hq
  have hlen:=r'.length
  exact len_tuple pl (by simp only [vK] <;> omega) ⟨.int ys.length,H,I.tok _,⟨s.toks+1,by rw [vK,hlen]⟩,q⟩
theorem Zq2:CallR X (.builtin "len") (λxs H Q=>∃ z,xs=[.str z]/\z.length<=sizeLine/\Q (.int z.length) H):=by
 intro pins s σ H xs us Q I r h
 obtain ⟨z,rfl,hz,q⟩:=h
 obtain ⟨u,rfl,t,rfl⟩:=ek r
 have hn:=jA
 exact len_str (by omega) ⟨.int z.length,H,I.tok _,⟨_,rfl⟩,q⟩
theorem CallR.or {f:Value} {r r':List V->Hp->VK->Prop} (h:CallR X f r) (h':CallR X f r'):CallR X f (λxs H Q=>r xs H Q\/r' xs H Q):=by
 intro pins s σ H xs us Q I rs q
 rcases q with q | q
 ·exact h pins s σ H xs us Q I rs q
 ·exact h' pins s σ H xs us Q I rs q
theorem Zq1:CallR X (.type "list") (λxs H Q=>∃ p ys,xs=[.ref p]/\(SqL X.K H p ys\/SqT X.K H p ys)/\∀ l,H l=none->Q (.ref l) (upd H l (.lst ys))):=by
 intro pins s σ H xs us Q I r h
 obtain ⟨p,ys,rfl,hq,q⟩:=h
 obtain ⟨u,rfl,rx⟩:=ek r
 cases rx
 have fin:∀ (its:y9),Vals ys its->ys.length<=sizeLine->∀ (h':Heap) (c':Nat),(∀ b o',s.heap.get? b=some o'->h'.get? b=some o') ->
   h'.get? s.heap.objs.size=some { cls:=.type "list",dict:=none,data:=.seq its.toArray c',slots:=#[] }->EP X pins σ Q (.ref s.heap.objs.size) { s with heap:=h' }:=λits r' hz h' c' kp e =>
  ⟨.ref s.heap.objs.size,_,I.laid (t':=s.toks) kp (vF _) (show ObjOk X.prog X.w _ h' _ (.lst ys) from ⟨hz,its,c',r',e⟩),rfl,q _ (I.hok.fresh (vF _))⟩
 rcases hq with hq | hq
 ·obtain ⟨its,r',pl,hz⟩:=I.list hq
  have hlen:=r'.length
  obtain ⟨o,ho,hc,n,hd⟩:=pl.isList
  exact call_list_seq p (.inl rfl) ho hc hd (λh' c' kp e=>fin its r' hz h' c' kp e) (by simp only [vK] <;> omega)
 ·obtain ⟨its,r',pl,hz⟩:=I.tuple hq
  have hlen:=r'.length
  obtain ⟨o,ho,hc,n,hd⟩:=pl
  exact call_list_seq p (.inr rfl) ho hc hd (λh' c' kp e=>fin its r' hz h' c' kp e) (by simp only [vK] <;> omega)
theorem fv:CallR X (.type "tuple") (λxs H Q=>∃ p ys,xs=[.ref p]/\((SqL X.K H p ys/\∀ l,H l=none->Q (.ref l) (upd H l (.tup ys)))\/(SqT X.K H p ys/\Q (.ref p) H))):=by
 intro pins s σ H xs us Q I r h
 obtain ⟨p,ys,rfl,h⟩:=h
 obtain ⟨u,rfl,rx⟩:=ek r
 cases rx
 rcases h with ⟨hq,q⟩ | ⟨hq,q⟩
 ·obtain ⟨its,r',pl,hz⟩:=I.list hq
  have hlen:=r'.length
  refine call_tuple_list pl.isList (λh' kp=>?_) (by simp only [vK] <;> omega)
  have I1:Inv X pins σ H { s with heap:=h' }:=I.kept (t':=s.toks) kp
  have I2:Inv X pins σ (upd H h'.objs.size (.tup ys)) { s with heap:=h'.push { cls:=.type "tuple",data:=.seq its.toArray } } :=
   I1.laid (t':=s.toks) (λb o e=>vA _ e) (vF _) (show ObjOk X.prog X.w _ _ _ (.tup ys) from ⟨hz,its,r',IsTup.new _ _⟩)
  exact ⟨.ref h'.objs.size,_,I2,rfl,q _ (I1.hok.fresh (vF _))⟩
 ·obtain ⟨its,r',pl,hz⟩:=I.tuple hq
  exact call_tuple_same pl ⟨.ref p,H,I,rfl,q⟩
def nL (K:yS) (T:String) (x:V) (H:Hp):Prop:=match x with
 | .str _=>T="str"
 | .int _=>T="int"
 | .ref p=>(T="list"/\∃ xs,SqL K H p xs)\/(T="tuple"/\∃ o,K.lookup p=some o/\o.cls=.type "tuple"/\o.dict=none) \/
   (T="dict"/\((∃ kvs,H p=some (.dK kvs))\/∃ kvs,H p=some (.dT kvs)))\/(T="set"/\∃ S n,H p=some (.set S n))
 | _=>False
theorem Zax {pins:List (Addr×Obj)} {σ:St} {H:Hp} {s:Shared} {T:String} {x:V} {v:Value} (I:Inv X pins σ H s) (r:RelV x v) (ty:nL X.K T x H) :
  s.TypeIs v T/\∀ a,v=.ref a->∃ ob,s.heap.get? a=some ob/\ob.dict=none:=by
 cases x with
 | str z =>
  obtain ⟨t,rfl⟩:=r
  cases (show T="str" from ty)
  exact ⟨typeIs_str s z t,λ_ e=>nomatch e⟩
 | int i =>
  obtain ⟨t,rfl⟩:=r
  cases (show T="int" from ty)
  exact ⟨typeIs_int s i t,λ_ e=>nomatch e⟩
 | ref p =>
  cases r
  rcases ty with ⟨rfl,xs,hq⟩ | ⟨rfl,o,hk,hc,hd⟩ | ⟨rfl,hk⟩ | ⟨rfl,S,n,hk⟩
  ·obtain ⟨its,_,pl,_⟩:=I.list hq
   refine ⟨pl.isList.typeIs,λa e=>?_⟩
   cases e
   obtain ⟨o,n,e,c,hd,_⟩:=pl
   exact ⟨o,e,hd⟩
  ·refine ⟨⟨o,I.kIn p o hk,hc⟩,λa e=>?_⟩
   cases e
   exact ⟨o,I.kIn _ o hk,hd⟩
  ·have z:∃ o,s.heap.get? p=some o/\o.ExactDict:=by
    rcases hk with ⟨kvs,hk⟩ | ⟨kvs,hk⟩
    ·obtain ⟨_,_,_,_,o,_,_,e,ex,_⟩:=I.hok p _ hk
     exact ⟨o,e,ex⟩
    ·obtain ⟨_,_,_,_,o,_,_,e,ex,_⟩:=I.hok p _ hk
     exact ⟨o,e,ex⟩
   obtain ⟨o,e,ex⟩:=z
   refine ⟨⟨o,e,ex.1⟩,λa e2=>?_⟩
   cases e2
   exact ⟨o,e,ex.2.1⟩
  ·obtain ⟨o,_,_,_,e,ex,_⟩:=I.hok p _ hk
   refine ⟨⟨o,e,ex.1⟩,λa e2=>?_⟩
   cases e2
   exact ⟨o,e,ex.2.1⟩
 | _=>exact False.elim ty
def ZaN (K:yS) (T:String) (r:V->List V->Hp->VK->Prop) (to:TE):TE:=λσ H Q=>to σ H λx H1=>nL K T x H1/\r x [] H1 Q
def tBM (K:yS) (T:String) (r:V->List V->Hp->VK->Prop) (to:TE) (t:TA):TE:=λσ H Q=>to σ H λx H1=>nL K T x H1/\t σ H1 λxs H2=>r x xs H2 Q
variable {o e:Expr} {es:List Expr} {to:TE} {t:TA} {name:Str} {apos cpos:Pos} {T id:String} {r:V->List V->Hp->VK->Prop}
theorem sT (pa:PlainAttrs T) (slot:Slot T name id) (hty:typeOf (.builtin id)=pure (.type "method_descriptor")) (hm:jQ X id r) (ho:PE X o to)
  (hbase:attributeBase o name X.env (eval o X.env)=eval o X.env:=by rfl) (hline:(apos.endLine == cpos.line)=true:=by rfl):PE X (.Call (.Attribute o name apos) [] [] cpos) (ZaN X.K T r to):=by
 intro pins s σ H Q I h
 refine wpAny_Call_method0_late hbase hline (thn (ho pins s σ H _ I h) λv s1 hz0=>?_)
 obtain ⟨x,H1,I1,r1,ty,q1⟩:=hz0
 obtain ⟨h1,h2⟩:=Zax I1 r1 ty
 exact ⟨T,id,pa,slot,hty,h1,h2,Calls.callWith_builtin rfl (PySem.evalArgs_none (hm pins s1 σ H1 x [] v [] Q I1 r1 .nil q1))⟩
theorem gS (pa:PlainAttrs T) (slot:Slot T name id) (hty:typeOf (.builtin id)=pure (.type "method_descriptor")) (hm:jQ X id r) (ho:PE X o to) (ha:PA X (e::es) t)
  (hbase:attributeBase o name X.env (eval o X.env)=eval o X.env:=by rfl)
  (hfew:((backTo cpos (starEach (e::es) X.env)).all (λx=>!x.1) && (backToKw cpos (keywordEach [] X.env)).all (λx=>x.1.isSome)
   && decide ((e::es).length+([]:List Keyword).length+(if ([]:List Keyword).isEmpty then 0 else 1) < 30))=true:=by rfl)
  (hline:(apos.endLine == cpos.line)=true:=by rfl) (hs:starEach (e::es) X.env=(false,eval e X.env)::starEach es X.env:=by rfl) (hplain:(backTo cpos (starEach es X.env)).any (·.1)=false:=by rfl) :
  PE X (.Call (.Attribute o name apos) (e::es) [] cpos) (tBM X.K T r to t):=by
 intro pins s σ H Q I h
 refine wpAny_Call_method_late hbase hfew hline rfl (thn (ho pins s σ H _ I h) λv s1 hz0=>?_)
 obtain ⟨x,H1,I1,r1,ty,q1⟩:=hz0
 obtain ⟨h1,h2⟩:=Zax I1 r1 ty
 refine ⟨T,id,pa,slot,hty,h1,h2,?_⟩
 have hA:=ha cpos pins s1 σ H1 _ I1 q1
 rw [hs] at hA ⊢
 refine Calls.callWith_builtin (by show (false || (backTo cpos (starEach es X.env)).any (·.1))=false; rw [hplain] <;> rfl) (Calls.evalArgs_plain ?_)
 exact thn hA λus s2 hz0=>by
  obtain ⟨vs,H2,I2,r2,q2⟩:=hz0
  exact hm pins s2 σ H2 x vs v us Q I2 r1 r2 q2
end
noncomputable def MtM (X:Cx) (id:String) (r:V->List V->Hp->VK->Prop):Prop :=
 ∀ (pins:List (Addr×Obj)) (s:Shared) (σ:St) (H:Hp) (x:V) (xs:zb) (v:Value) (us:y9) (Q:VK),Inv X pins σ H s->RelV x v->Vals xs us->r x xs H Q ->
  wpAny (model X.prog X.w) X.A (call (.builtin id) (v::us)) (EP X pins σ Q) X.xe s
theorem Vals.one {x:V} {us:y9} (h:Vals [x] us):∃ u,us=[u]/\RelV x u:=by
 cases h with
 | cons r t=>cases t; exact ⟨_,rfl,r⟩
theorem Vals.zero:∀ {us:y9},Vals [] us->us=[]
 | _,.nil=>rfl
theorem Vals.reverse {xs:zb} {us:y9} (h:Vals xs us):Vals xs.reverse us.reverse:=by
 induction h with
 | nil=>exact .nil
 | cons r t ih=>rw [xz,xz]; exact Vals.append ih (.cons r .nil)
theorem Vals.rep {xs:zb} {us:y9} (h:Vals xs us):∀ k:Nat,Vals (List.replicate k xs).flatten (List.replicate k us).flatten
 | 0=>.nil
 | k+1=>by
  rw [wj,wj,wv,wv]
  exact Vals.append h (Vals.rep h k)
theorem Zdg (its:y9):∀ (k:Nat) (acc:y9),
  List.foldl (λx1 x2=>x1++x2) acc.toArray (List.replicate k its.toArray)=(acc++(List.replicate k its).flatten).toArray
 | 0,acc=>by simp
 | k+1,acc=>by
  have e:acc.toArray++its.toArray=(acc++its).toArray:=by simp
  have e2:(acc++its)++(List.replicate k its).flatten=acc++(List.replicate (k+1) its).flatten:=by
   rw [wj,wv,ww]
  rw [<- e2,<- Zdg its k (acc++its),<- e,wj,xJ]
section
variable {X:Cx} {pins:List (Addr×Obj)} {σ:St} {H:Hp} {s:Shared} {l b:Addr} {xs ys zs:zb}
theorem Inv.lset {its its':y9} {n:Nat} {f:Array Value->Array Value} {t':Nat} (I:Inv X pins σ H s) (hH:H l=some (.lst xs))
  (e:s.heap.get? l=some { cls:=.type "list",data:=.seq its.toArray n }) (hf:f its.toArray=its'.toArray) (hv:Vals ys its') (hz:ys.length<=sizeLine) :
  Inv X pins σ (upd H l (.lst ys)) { s with heap:=s.heap.update l (Obj.mapSeq f),toks:=t' }:=by
 have q:=PySem.IsL.update e f
 rw [hf] at q
 refine I.write (x:=l) (e:=l) (by rw [hH]; exact trivial) (.inl rfl) (λb' u hb hu=>(wA s.heap (Obj.mapSeq f) (Ne.symm hb)).trans hu) ⟨_,q⟩ ?_
 exact ⟨hz,its',_,hv,q⟩
theorem Inv.lnew {its:y9} {t':Nat} (I:Inv X pins σ H s) (hv:Vals ys its) (hz:ys.length<=sizeLine) :
  Inv X pins σ (upd H s.heap.objs.size (.lst ys)) { s with heap:=s.heap.push { cls:=.type "list",data:=.seq its.toArray },toks:=t' } :=
 I.laid (λ_ _ q=>vA _ q) (vF _) ⟨hz,its,0,hv,vI _ rfl⟩
theorem Inv.fresh (I:Inv X pins σ H s):H s.heap.objs.size=none:=I.hok.fresh (vF _)
theorem Inv.lstM (I:Inv X pins σ H s) (hH:H l=some (.lst xs)):xs.length<=sizeLine/\∃ (its:y9) (n:Nat),Vals xs its/\xs.length=its.length/\s.heap.get? l=some { cls:=.type "list",data:=.seq its.toArray n }:=by
 obtain ⟨z,its,n,r,e⟩:=I.hok l _ hH
 exact ⟨z,its,n,r,r.length,e⟩
theorem ZjE {n:Nat} (h:n<=sizeLine):Builtin.List.listTooLong n=false:=by
 unfold Builtin.List.listTooLong
 exact decide_eq_false (by omega)
end
section
variable {X:Cx}
noncomputable def ZbW:V->List V->Hp->VK->Prop:=λx vs H Q=>∃ l xs y,x=.ref l/\vs=[y]/\H l=some (.lst xs)/\xs.length < sizeLine/\Q .non (upd H l (.lst (xs++[y])))
theorem ju:MtM X "list.append" ZbW:=by
 intro pins s σ H x vs v us Q I rx rv h
 obtain ⟨l,xs,y,rfl,rfl,hH,hz,q⟩:=h
 cases rx
 obtain ⟨u,rfl,ru⟩:=rv.one
 obtain ⟨z,its,n,r,hl,e⟩:=I.lstM hH
 refine call_meets F.slot_list_append ⟨_,e,rfl⟩ F.entry_list_append (F.args_list_append_2 _ _) (PySem.list_append l its.toArray n u (by rw [vK]; omega)) ⟨e,?_⟩
 refine ⟨.non,_,I.lset (its':=its++[u]) hH e (by simp) (r.append (.cons ru .nil)) ?_,rfl,q⟩
 rw [vW,List.length_singleton]
 omega
noncomputable def Zbz:V->List V->Hp->VK->Prop:=λx vs H Q=>∃ l xs,x=.ref l/\vs=[]/\H l=some (.lst xs)/\Q .non (upd H l (.lst xs.reverse))
theorem tJ:MtM X "list.reverse" Zbz:=by
 intro pins s σ H x vs v us Q I rx rv h
 obtain ⟨l,xs,rfl,rfl,hH,q⟩:=h
 cases rx
 have hus:=rv.zero
 subst hus
 obtain ⟨z,its,n,r,hl,e⟩:=I.lstM hH
 refine call_meets F.slot_list_reverse ⟨_,e,rfl⟩ F.entry_list_reverse (F.args_list_reverse_1 _) (AutoSeq1.list_reverse_list_0 l its.toArray n (by rw [vK]; omega)) ⟨e,?_⟩
 refine ⟨.non,_,I.lset (its':=its.reverse) hH e (by simp) r.reverse ?_,rfl,q⟩
 rw [wt]
 omega
noncomputable def ZbV:R2:=λx y H Q=>∃ l b xs zs,x=.ref l/\y=.ref b/\H l=some (.lst xs)/\H b=some (.lst zs)/\xs.length+zs.length<=sizeLine/\∀ p,H p=none->Q (.ref p) (upd H p (.lst (xs++zs)))
theorem Zjo:OpR X (binaryOp .Add) ZbV:=by
 intro pins s σ H x y v u Q I rx ry h
 obtain ⟨l,b,xs,zs,rfl,rfl,hH,hB,hz,q⟩:=h
 cases rx
 cases ry
 obtain ⟨z,its,n,r,hl,e⟩:=I.lstM hH
 obtain ⟨z2,its2,n2,r2,hl2,e2⟩:=I.lstM hB
 refine PySem.P.add_list e e2 ?_ (by rw [vK,vK]; omega)
 have ea:its.toArray++its2.toArray=(its++its2).toArray:=by simp
 rw [ea]
 exact ⟨.ref _,_,I.lnew (t':=s.toks) (r.append r2) (by rw [vW]; omega),rfl,q _ I.fresh⟩
noncomputable def ZbC:R2:=λx y H Q=>∃ l k xs,x=.ref l/\y=.int k/\H l=some (.lst xs)/\-(2 ^ 63)<=k/\k < 2 ^ 63/\xs.length * k.toNat<=sizeLine /\
 ∀ p,H p=none->Q (.ref p) (upd H p (.lst (List.replicate k.toNat xs).flatten))
theorem Zkl {α:Type} (xs:List α) (k:Nat):(List.replicate k xs).flatten.length=k * xs.length:=by
 induction k with
 | zero=>simp
 | succ k ih=>rw [wj,wv,vW,ih,xl,Nat.add_comm]
theorem Zi9:OpR X (binaryOp .Mult) ZbC:=by
 intro pins s σ H x y v u Q I rx ry h
 obtain ⟨l,k,xs,rfl,rfl,hH,h1,h2,hz,q⟩:=h
 cases rx
 obtain ⟨t,rfl⟩:=ry
 obtain ⟨z,its,n,r,hl,e⟩:=I.lstM hH
 have hlen:its.toArray.size * k.toNat<=sizeLine:=by rw [vK,<- hl]; exact hz
 have hcap:¬ its.toArray.size * k.toNat > (2 ^ 63 - 1) / 8:=by
  have:(sizeLine:Nat)<=(2 ^ 63 - 1) / 8:=by decide
  omega
 have hfit:¬ (!Builtin.List.listFitsIndex k)=true:=by
  rw [fitsIndex_both h1 h2]
  exact vL
 have hlong:¬ Builtin.List.listTooLong (its.toArray.size * k.toNat)=true:=by
  rw [ZjE hlen]
  exact vL
 have hnew:List.foldl (λx1 x2=>x1++x2) #[] (List.replicate (if its.toArray.isEmpty=true then 0 else k.toNat) its.toArray)=(List.replicate k.toNat its).flatten.toArray:=by
  have f0:∀ m:Nat,List.foldl (λx1 x2=>x1++x2) #[] (List.replicate m its.toArray)=(List.replicate m its).flatten.toArray:=λm=>by
   have:=Zdg its m []
   rw [List.nil_append] at this
   exact this
  rw [f0]
  cases its with
  | nil=>simp
  | cons a r'=>rw [if_neg (by simp)]
 refine wpAny_binaryOp_repeat_ref (T:="list") (U:="int") (by decide) ⟨_,e,rfl⟩ (λs'=>typeIs_int s' k t) noFill_list_mul F.fills_int_mul F.slot_int_rmul repeat_list F.slot_int_index.lookup
  (call_meets F.slot_int_rmul (typeIs_int s k t) F.entry_int_rmul (F.args_int_rmul_2 _ _) (int___rmul___int_list k t l its.toArray n)
   ⟨e,rfl,⟨_,e,rfl⟩,call_meets F.slot_list_mul ⟨_,e,rfl⟩ F.entry_list_mul (F.args_list_mul_2 _ _) (AutoListH.list___mul___list_int_3 l its.toArray n k t hfit hcap hlong) ⟨e,?_⟩⟩)
 rw [hnew]
 exact ⟨.ref _,_,I.lnew (t':=s.toks) (r.rep k.toNat) (by rw [Zkl,ya]; exact hz),rfl,q _ I.fresh⟩
end
section
variable {prog:Program} {w:World} {A:Around} {E:y4} {s:Shared}
end
section
variable {X:Cx}
end
section
variable {κ:Type} [DecidableEq κ]
noncomputable def eF (kvs:List (κ×V)) (k:κ):Option V:=(kvs.find? λkv=>decide (kv.1=k)).map (·.2)
noncomputable def cW (kvs:List (κ×V)) (k:κ) (v:V):List (κ×V) :=
 if (kvs.any λkv=>decide (kv.1=k))=true then kvs.map (λkv=>if kv.1=k then (kv.1,v) else kv) else kvs++[(k,v)]
theorem j7 {p:κ×V} {r:List (κ×V)} {k:κ} (e:p.1=k):eF (p::r) k=some p.2:=by simp [eF,xu,e]
theorem j8 {p:κ×V} {r:List (κ×V)} {k:κ} (e:¬ p.1=k):eF (p::r) k=eF r k:=by simp [eF,xu,e]
theorem nK (k:κ):∀ kvs:List (κ×V),(kvs.any λkv=>decide (kv.1=k))=(eF kvs k).isSome
 | []=>rfl
 | p::r=>by
  rw [xG]
  by_cases e:p.1=k
  ·simp only [j7 e,decide_eq_true e,Bool.true_or,Option.isSome_some]
  ·rw [j8 e,decide_eq_false e,Bool.false_or]; exact nK k r
theorem tS (kvs:List (κ×V)) (k:κ) (v:V):(cW kvs k v).length<=kvs.length+1:=by
 unfold cW
 split
 ·rw [vB]; omega
 ·rw [vW,vN,wU]; omega
theorem RelO.isSome_eq {o:Option V} {u:Option Value} (r:RelO o u):o.isSome=u.isSome:=by
 cases o with
 | none=>cases u with
  | none=>rfl
  | some _=>exact (show False from r).elim
 | some _=>cases u with
  | none=>exact (show False from r).elim
  | some _=>rfl
theorem KV.val {kvs:List (κ×V)} {vs:List (κ×Value)} (r:KV kvs vs) (k:κ):RelO (eF kvs k) (valueAt vs k):=by
 unfold KV at r
 induction r with
 | nil=>exact True.intro
 | @cons p q ps qs h t ih =>
  obtain ⟨h1,h2⟩:=h
  by_cases e:p.1=k
  ·have e':q.1=k:=h1.symm.trans e
   have b:valueAt (q::qs) k=some q.2:=by simp [valueAt,xu,e']
   rw [j7 e,b]; exact h2
  ·have e':¬ q.1=k:=λz=>e (h1.trans z)
   have b:valueAt (q::qs) k=valueAt qs k:=by simp [valueAt,xu,e']
   rw [j8 e,b]; exact ih
theorem KV.any {kvs:List (κ×V)} {vs:List (κ×Value)} (r:KV kvs vs) (k:κ):(kvs.any λkv=>decide (kv.1=k))=vs.any λkv=>decide (kv.1=k):=by
 unfold KV at r
 induction r with
 | nil=>rfl
 | cons h t ih=>rw [xG,xG,ih,h.1]
theorem KV.repl {kvs:List (κ×V)} {vs:List (κ×Value)} (r:KV kvs vs) (k:κ) {y:V} {u:Value} (ry:RelV y u) :
  KV (kvs.map λkv=>if kv.1=k then (kv.1,y) else kv) (vs.map λkv=>if kv.1=k then (kv.1,u) else kv):=by
 unfold KV at r ⊢
 induction r with
 | nil=>exact .nil
 | @cons p q ps qs h t ih =>
  rw [vG,vG]
  refine .cons ?_ ih
  obtain ⟨h1,h2⟩:=h
  by_cases e:p.1=k
  ·rw [if_pos e,if_pos (h1.symm.trans e)]; exact ⟨h1,ry⟩
  ·rw [if_neg e,if_neg (λz=>e (h1.trans z))]; exact ⟨h1,h2⟩
theorem KV.put {kvs:List (κ×V)} {vs:List (κ×Value)} (r:KV kvs vs) (k:κ) {y:V} {u:Value} (ry:RelV y u):KV (cW kvs k y) (stored vs k u):=by
 unfold cW stored
 rw [r.any k]
 by_cases e:(vs.any λkv=>decide (kv.1=k))=true
 ·rw [if_pos e,if_pos e]; exact r.repl k ry
 ·rw [if_neg e,if_neg e]; exact Paired.snoc r ⟨rfl,ry⟩
theorem KV.length {kvs:List (κ×V)} {vs:List (κ×Value)} (r:KV kvs vs):kvs.length=vs.length:=yz r
end
theorem pV {P:Program} {w:World} {k:aA} {u:Value} (r:RelV (kV k) u):(dk P w).is k u=true:=by
 cases k with
 | inl i=>obtain ⟨t,e⟩:=(show ∃ t,u=Value.int i t from r); subst e; exact Zj1 P w i t
 | inr x=>obtain ⟨t,e⟩:=(show ∃ t,u=Value.str x t from r); subst e; exact Zj0 P w x t
theorem ZcS {P:Program} {w:World}:∀ {ks:List aA} {us:y9},Vals (ks.map kV) us->ItemsAre (dk P w) ks us
 | [],_,r=>by rw [wR] at r; cases r; exact .nil
 | k::ks,_,r=>by
  rw [vG] at r
  cases r with
  | cons h t=>exact .cons (pV h) (ZcS t)
noncomputable abbrev KT (H:Hp):List (List aA×V)->List (List aA×Addr×Value)->Prop:=Paired λp q=>p.1=q.1/\H q.2.1=some (.tup (p.1.map kV))/\RelV p.2 q.2.2
theorem KT.val {H:Hp} {kvs:List (List aA×V)} {xs:List (List aA×Addr×Value)} (r:KT H kvs xs) (k:List aA):RelO (eF kvs k) ((atKey xs k).map (·.2)):=by
 induction r with
 | nil=>exact True.intro
 | @cons p q ps qs h t ih =>
  obtain ⟨h1,_,h2⟩:=h
  by_cases e:p.1=k
  ·have e':q.1=k:=h1.symm.trans e
   have b:atKey (q::qs) k=some q.2:=by simp [atKey,xu,e']
   rw [j7 e,b]; exact h2
  ·have e':¬ q.1=k:=λz=>e (h1.trans z)
   have b:atKey (q::qs) k=atKey qs k:=by simp [atKey,xu,e']
   rw [j8 e,b]; exact ih
theorem KT.repl {H:Hp} {kvs:List (List aA×V)} {xs:List (List aA×Addr×Value)} (r:KT H kvs xs) (k:List aA) {y:V} {u:Value} (ry:RelV y u) :
  KT H (kvs.map λkv=>if kv.1=k then (kv.1,y) else kv) (xs.map (putAt k u)):=by
 induction r with
 | nil=>exact .nil
 | @cons p q ps qs h t ih =>
  rw [vG,vG]
  refine .cons ?_ ih
  obtain ⟨h1,h2,h3⟩:=h
  unfold putAt
  by_cases e:p.1=k
  ·rw [if_pos e,if_pos (h1.symm.trans e)]; exact ⟨h1,h2,ry⟩
  ·rw [if_neg e,if_neg (λz=>e (h1.trans z))]; exact ⟨h1,h2,h3⟩
theorem KT.put {H:Hp} {kvs:List (List aA×V)} {xs:List (List aA×Addr×Value)} (r:KT H kvs xs) (k:List aA) {b:Addr} {y:V} {u:Value} (hb:H b=some (.tup (k.map kV))) (ry:RelV y u) :
  KT H (cW kvs k y) (storedH xs k b u):=by
 have e:(kvs.any λkv=>decide (kv.1=k))=(atKey xs k).isSome:=by
  rw [nK,(r.val k).isSome_eq,Option.isSome_map]
 unfold cW storedH
 rw [e]
 by_cases q:(atKey xs k).isSome=true
 ·rw [if_pos q,if_pos q]; exact r.repl k ry
 ·rw [if_neg q,if_neg q]; exact Paired.snoc r ⟨rfl,hb,ry⟩
theorem KT.keeps {H H':Hp} {kvs:List (List aA×V)} {xs:List (List aA×Addr×Value)} (r:KT H kvs xs) (ht:∀ b ys,H b=some (.tup ys)->H' b=some (.tup ys)):KT H' kvs xs :=
 Paired.mapP r λ_ _ z=>⟨z.1,ht _ _ z.2.1,z.2.2⟩
section
variable {P:Program} {w:World} {H:Hp} {h:Heap} {a:Addr}
theorem Zbp {u:HO} (ok:HOk P w H h) (e:Rd H a u):ObjOk P w H h a u:=e.ok ok
theorem uE {kvs:List (aA×V)} (ok:HOk P w H h) (e:Rd H a (.dK kvs)):kvs.length<=sizeLine/\(a == sysModules)=false/\∃ vs,KV kvs vs/\h.DictOf (dk P w) a vs :=
 show ObjOk P w H h a (.dK kvs) from Zbp ok e
theorem ZdR {kvs:List (aA×V)} (ok:HOk P w H h) (e:H a=some (.dK kvs)):kvs.length<=sizeLine/\(a == sysModules)=false/\∃ vs,KV kvs vs/\h.DictOf (dk P w) a vs:=uE ok (.inl e)
theorem t7 {ks:List aA} (ok:HOk P w H h) (e:H a=some (.tup (ks.map kV))):(tupleKind (dk P w)).is h ks a:=by
 obtain ⟨_,its,r,o,h1,h2,n,h3⟩:=(show ObjOk P w H h a (.tup (ks.map kV)) from ok a _ e)
 exact ⟨o,its.toArray,n,h1,h2,h3,by simpa using ZcS r⟩
theorem uD {kvs:List (List aA×V)} (ok:HOk P w H h) (e:Rd H a (.dT kvs)):kvs.length<=sizeLine/\(a == sysModules)=false /\
  ∃ xs,KT H kvs xs/\h.DictOfH (tupleKind (dk P w)) a xs:=by
 obtain ⟨z,y,xs,r,o,es,ep,h1,h2,h3,h4,h5⟩:=(show ObjOk P w H h a (.dT kvs) from Zbp ok e)
 refine ⟨z,y,xs,r,o,es,ep,h1,h2,h3,h4,λx hx=>?_,h5⟩
 have all:∀ {l:List (List aA×V)} {m:List (List aA×Addr×Value)},KT H l m->∀ x∈m,(tupleKind (dk P w)).is h x.1 x.2.1:=by
  intro l m q
  induction q with
  | nil=>intro x hx; exact nomatch hx
  | @cons p q ps qs hq t ih =>
   intro x hx
   rcases vD.mp hx with e | hx
   ·subst e
    exact t7 ok (by rw [<- hq.1]; exact hq.2.1)
   ·exact ih x hx
 exact all r x hx
theorem ZpS {kvs:List (List aA×V)} (ok:HOk P w H h) (e:H a=some (.dT kvs)):kvs.length<=sizeLine/\(a == sysModules)=false /\
  ∃ xs,KT H kvs xs/\h.DictOfH (tupleKind (dk P w)) a xs:=uD ok (.inl e)
end
noncomputable def DGet (H:Hp) (a:Addr) (y:V) (r:Option V):Prop :=
 (∃ kvs k,Rd H a (.dK kvs)/\y=kV k/\r=eF kvs k)\/∃ kvs k b,Rd H a (.dT kvs)/\y=.ref b/\H b=some (.tup (k.map kV))/\r=eF kvs k
noncomputable def DPut (H:Hp) (a:Addr) (y v:V) (H':Hp):Prop :=
 (∃ kvs k,H a=some (.dK kvs)/\y=kV k/\kvs.length < sizeLine/\H'=upd H a (.dK (cW kvs k v))) \/
 ∃ kvs k b,H a=some (.dT kvs)/\y=.ref b/\H b=some (.tup (k.map kV))/\kvs.length < sizeLine/\H'=upd H a (.dT (cW kvs k v))
theorem DGet.k {H:Hp} {a:Addr} {kvs:List (aA×V)} {k:aA} (e:H a=some (.dK kvs)):DGet H a (kV k) (eF kvs k):=.inl ⟨kvs,k,.inl e,rfl,rfl⟩
theorem DPut.k {H:Hp} {a:Addr} {kvs:List (aA×V)} {k:aA} {v:V} (e:H a=some (.dK kvs)) (hl:kvs.length < sizeLine):DPut H a (kV k) v (upd H a (.dK (cW kvs k v))):=.inl ⟨kvs,k,e,rfl,hl,rfl⟩
section
variable {X:Cx} {pins:List (Addr×Obj)} {σ:St} {H:Hp} {s:Shared} {a:Addr} {y v:V} {u r:Value} {o:Option V} {A:Around} {E:y4}
theorem Inv.big (I:Inv X pins σ H s):sysModules < s.heap.objs.size:=by
 have h:mainGlobals < s.heap.objs.size:=(I.mod.glob.keeps I.bk).lt
 exact yb (by decide) h
theorem Zql {Q:y4} (hu:A.units+1 < cLine) (I:Inv X pins σ H s) (g:DGet H a y (some v)) (ry:RelV y u) (h:∀ w' s',Inv X pins σ H s'->RelV v w'->Q w' s') :
  wpAny (model X.prog X.w) A (getItem (.ref a) u) Q E s:=by
 rcases g with ⟨kvs,k,e,ey,l⟩ | ⟨kvs,k,b,e,ey,eb,l⟩
 ·subst ey
  obtain ⟨z,hd,vs,rel,dd⟩:=uE I.hok e
  obtain ⟨w',hw,rw'⟩:=RelO.some_of (v:=v) (o:=valueAt vs k) (by rw [l]; exact rel.val k)
  exact wpAny_getItem_of (pV ry) dd.mapOf hw (h w' _ (I.tok _) rw')
 ·subst ey
  cases (show u=Value.ref b from ry)
  obtain ⟨z,hd,xs,rel,dd⟩:=uD I.hok e
  obtain ⟨w',hw,rw'⟩:=RelO.some_of (v:=v) (o:=(atKey xs k).map (·.2)) (by rw [l]; exact rel.val k)
  obtain ⟨p,hp,hp2⟩:=wG.mp hw
  refine wpAny_getItem_heap (tupleKind_room_in1 hu) (t7 I.hok eb) dd hp ?_
  rw [hp2]
  exact h w' _ (I.tok _) rw'
theorem uJ {h':Heap} {t':Nat} {ob:HO} (I:Inv X pins σ H s) (mu:nu (H a)) (hs:Heap.SameBut a s.heap h') (he:∃ q,h'.get? a=some q) (new:ObjOk X.prog X.w (upd H a ob) h' a ob) :
  Inv X pins σ (upd H a ob) { s with heap:=h',toks:=t' } :=
 I.write (x:=a) (e:=a) mu (.inl rfl) (λb q hb z=>(hs.2 b hb).trans z) he new
theorem ZdS {P:Program} {w:World} {H':Hp} {h':Heap} {kvs:List (aA×V)} {vs:List (aA×Value)} (z:kvs.length<=sizeLine) (hd:(a == sysModules)=false) (rel:KV kvs vs) (dd:h'.DictOf (dk P w) a vs) :
  ObjOk P w H' h' a (.dK kvs):=⟨z,hd,vs,rel,dd⟩
theorem Zqd {H':Hp} {Q:Unit->Shared->Prop} (hu:A.units+1 < cLine) (I:Inv X pins σ H s) (g:DPut H a y v H') (ry:RelV y u) (rv:RelV v r) (h:∀ s',Inv X pins σ H' s'->Q () s') :
  wpAny (model X.prog X.w) A (setItem (.ref a) u r) Q E s:=by
 rcases g with ⟨kvs,k,e,ey,l,eH⟩ | ⟨kvs,k,b,e,ey,eb,l,eH⟩
 ·subst ey eH
  obtain ⟨z,hd,vs,rel,dd⟩:=ZdR I.hok e
  have hz:vs.length<=sizeLine:=by rw [<- rel.length]; exact z
  have hl:(cW kvs k v).length<=sizeLine:=by have:=tS kvs k v; omega
  refine wpAny_setItem_pairs (hsz:=hz) (pV ry) dd λh' dd' hs=>h _ ?_
  have he:∃ q,h'.get? a=some q:=let ⟨q,_,_,hq,_⟩:=dd'; ⟨q,hq⟩
  exact uJ I (by rw [e]; exact True.intro) hs he (ZdS hl hd (rel.put k rv) dd')
 ·subst ey eH
  cases (show u=Value.ref b from ry)
  obtain ⟨z,hd,xs,rel,dd⟩:=ZpS I.hok e
  have hz:xs.length<=sizeLine:=by rw [<- yz rel]; exact z
  have hl:(cW kvs k v).length<=sizeLine:=by have:=tS kvs k v; omega
  refine wpAny_setItem_heap (hsz:=hz) (tupleKind_room_in1 hu) (t7 I.hok eb) dd λh' dd' hs=>h _ ?_
  obtain ⟨q,es,ep,hq,h2,h3,h4,_,h5⟩:=dd'
  refine uJ I (by rw [e]; exact True.intro) hs ⟨q,hq⟩ ⟨hl,hd,_,(rel.put k eb rv).keeps λc ys ec=>?_,q,es,ep,hq,h2,h3,h4,h5⟩
  rw [aK (tF ec e (λz=>nomatch z))]
  exact ec
end
section
variable {X:Cx} {pins:List (Addr×Obj)} {σ:St} {H:Hp} {s:Shared} {a:Addr} {kvs:List (aA×V)} {k:aA} {u:Value} {A:Around} {E:y4}
end
def Zfi (i:Expr):Prop:=∀ ov iv,subscripted i false ov iv=operate [ov,iv] (getItem ov iv)
theorem ZgP {prog:Program} {w:World} {A:Around} {E:y4} {s:Shared} {env:Env} {value slice:Expr} {pos:Pos} {T id:String} {Q:y4}
  (hl:typeLookup (.type T) "__getitem__"=pure (some (.builtin id))) (hs:Zfi slice)
  (h:wpAny (model prog w) A (eval value env) (λo s₁=>wpAny (model prog w) A (eval slice env) (λi s₂=>s₂.TypeIs o T/\wpAny (model prog w) A (getItem o i) Q E s₂) E s₁) E s) :
  wpAny (model prog w) A (eval (.Subscript value slice pos) env) Q E s:=by
 refine Subscript_ (wpAny_mono h (λo s₁ h₁=>wpAny_mono h₁ (λi s₂ h₂=>?_) λ_ _ x=>x) λ_ _ x=>x)
 obtain ⟨hT,h₂⟩:=h₂
 unfold subscriptTail
 refine wpAny_bind ?_
 rw [getitemInPython_of_ne hT.not_modules]
 refine wpAny_bind (wpAny_specialOf hT hl ?_)
 have fin:wpAny (model prog w) A (subscripted slice false o i) (λr s₃=>wpAny (model prog w) A (letTemporaryGo value o r >>= λ_=>pure r) Q E s₃) E s₂:=by
  rw [hs o i]
  exact wpAny_operating (wpAny_mono h₂ (λr s₃ h₃=>wpAny_bind (wpAny_letTemporaryGo (wpAny_pure h₃))) λ_ _ x=>x)
 first
  | exact wpAny_pure (wpAny_bind fin)
  | exact wpAny_bind (wpAny_pure (wpAny_bind fin))
  | exact wpAny_bind fin
theorem ZpZ {X:Cx} {pins:List (Addr×Obj)} {σ:St} {H:Hp} {s:Shared} {a:Addr} {y:V} {o:Option V} (I:Inv X pins σ H s) (g:DGet H a y o):s.TypeIs (.ref a) "dict":=by
 rcases g with ⟨kvs,k,e,_,_⟩ | ⟨kvs,k,b,e,_,_,_⟩
 ·obtain ⟨_,_,vs,_,dd⟩:=uE I.hok e
  exact dd.typeIs
 ·obtain ⟨_,_,xs,_,dd⟩:=uD I.hok e
  exact dd.typeIs
def ZgJ (td ty:TE):TE:=λσ H Q=>td σ H λx H1=>ty σ H1 λy H2=>∃ a v,x=.ref a/\DGet H2 a y (some v)/\Q v H2
def ZhH (td ty tv:TE):TS:=λD σ H=>tv σ H λv H1=>td σ H1 λx H2=>ty σ H2 λy H3=>∃ a H4,x=.ref a/\DPut H3 a y v H4/\D.nx σ H4
section
variable {X:Cx} {o i e value:Expr} {pos pos' tpos:Pos} {td ty tv:TE}
theorem ma (hu:X.A.units+1 < cLine) (ho:PE X o td) (hi:PE X i ty) (hs:Zfi i):PE X (.Subscript o i pos) (ZgJ td ty):=by
 intro pins s σ H Q I h
 refine ZgP PySem.F.slot_dict_getitem.lookup hs (thn (ho pins s σ H _ I h) λu s1 ⟨x,H1,I1,rx,q1⟩=>thn (hi pins s1 σ H1 _ I1 q1) λiv s2 hz0=>?_)
 obtain ⟨y,H2,I2,ry,a,v,ex,g,q2⟩:=hz0
 subst ex
 obtain rfl:u=Value.ref a:=rx
 exact ⟨ZpZ I2 g,Zql hu I2 g ry λw' s3 I3 rw'=>⟨v,H2,I3,rw',q2⟩⟩
theorem sK (hu:X.A.units+1 < cLine) (ho:PE X o td) (hi:PE X i ty) (hv:PE X value tv) (hs:swapsWith value (some (.Subscript o i pos')) pos.line X.env=pure false) :
  PS X (.Assign [.Subscript o i pos'] value pos) (ZhH td ty tv):=by
 intro pins s σ H D I h
 refine wpAny_Assign_Subscript (thn (hv pins s σ H _ I h) λr s1 ⟨v,H1,I1,rv,q1⟩=>thn (ho pins s1 σ H1 _ I1 q1) λu s2 ⟨x,H2,I2,rx,q2⟩=>thn (hi pins s2 σ H2 _ I2 q2) λiv s3 hz0=>?_) hs
 obtain ⟨y,H3,I3,ry,a,H4,ex,g,q3⟩:=hz0
 subst ex
 obtain rfl:u=Value.ref a:=rx
 exact Zqd hu I3 g ry rv λs4 I4=>⟨σ,H4,I4,q3⟩
end
theorem ZdT {P:Program} {w:World} {H:Hp} (h:Heap) (hb:sysModules < h.objs.size):ObjOk P w H (h.push { cls:=.type "dict",data:=.dict #[] }) h.objs.size (.dK []) :=
 ⟨wN _,beq_eq_false_iff_ne.mpr (Ne.symm (vR hb)),[],.nil,Heap.DictOf.new h⟩
def ZgI:TE:=λ_ H Q=>∀ p,H p=none->Q (.ref p) (upd H p (.dK []))
section
variable {X:Cx} {pos:Pos}
theorem ZiS:PE X (.Dict [] [] pos) ZgI:=λpins s σ H Q I h =>
 wpAny_Dict_empty ⟨.ref s.heap.objs.size,_,I.laid (a:=s.heap.objs.size) (o:=.dK []) (t':=s.toks) (λ_ _ q=>vA _ q) (vF _) (ZdT s.heap I.big),rfl,h _ (I.hok.fresh (vF _))⟩
end
noncomputable def rH:List (TE×TE)->St->Hp->(List (V×V)->Hp->Prop)->Prop
 | [],_,H,Q=>Q [] H
 | (tk,tv)::r,σ,H,Q=>tk σ H λx H1=>tv σ H1 λy H2=>rH r σ H2 λps H3=>Q ((x,y)::ps) H3
noncomputable abbrev VV:List (V×V)->List (Value×Value)->Prop:=Paired λp q=>RelV p.1 q.1/\RelV p.2 q.2
noncomputable def qS (X:Cx) (pos:Pos) (keys:List (Option Expr)) (values:List Expr) (trs:List (TE×TE)):Prop :=
 ∀ (pins:List (Addr×Obj)) (s:Shared) (σ:St) (H:Hp) (Q:List (V×V)->Hp->Prop),Inv X pins σ H s->rH trs σ H Q ->
  wpAny (model X.prog X.w) X.A (evalPairs (pairTrees keys values X.env pos)) (λvs s'=>∃ ps H',Inv X pins σ H' s'/\VV ps vs/\Q ps H') X.xe s
theorem Zix {X:Cx} {pos:Pos}:qS X pos [] [] []:=λpins s σ H Q I h=>pairTrees_nil_walk ⟨[],H,I,.nil,h⟩
theorem sN {X:Cx} {pos:Pos} {k v:Expr} {ks:List (Option Expr)} {vs:List Expr} {tk tv:TE} {trs:List (TE×TE)} (hk:PE X k tk) (hv:PE X v tv) (hr:qS X pos ks vs trs) :
  qS X pos (some k::ks) (v::vs) ((tk,tv)::trs):=λpins s σ H Q I h =>
 pairTrees_cons_walk (thn (hk pins s σ H _ I h) λu s1 ⟨x,H1,I1,rx,q1⟩=>thn (hv pins s1 σ H1 _ I1 q1) λw2 s2 ⟨y,H2,I2,ry,q2⟩ =>
  thn (hr pins s2 σ H2 _ I2 q2) λws s3 ⟨ps,H3,I3,rel,q3⟩=>⟨(x,y)::ps,H3,I3,.cons ⟨rx,ry⟩ rel,q3⟩)
noncomputable def mi (kvs more:List (aA×V)):List (aA×V):=more.foldl (λacc kv=>cW acc kv.1 kv.2) kvs
theorem KV.merge:∀ {more:List (aA×V)} {rs:List (aA×Value)} {kvs:List (aA×V)} {vs:List (aA×Value)},KV more rs->KV kvs vs->KV (mi kvs more) (merged vs rs):=by
 intro more rs kvs vs r
 unfold KV at r
 induction r generalizing kvs vs with
 | nil=>intro q; exact q
 | @cons p q ps qs h t ih =>
  intro r0
  have e:KV (cW kvs p.1 p.2) (stored vs q.1 q.2):=by
   have:=r0.put p.1 h.2
   rw [<- h.1]; exact this
  exact ih e
theorem ZcI:∀ (more kvs:List (aA×V)),(mi kvs more).length<=kvs.length+more.length
 | [],kvs=>by show kvs.length<=kvs.length+0; omega
 | p::r,kvs=>by
  have h1:=ZcI r (cW kvs p.1 p.2)
  have h2:=tS kvs p.1 p.2
  show (mi (cW kvs p.1 p.2) r).length<=_
  rw [vN]; omega
theorem Zel {P:Program} {w:World}:∀ {kvs:List (aA×V)} {ws:List (Value×Value)},VV (kvs.map λkv=>(kV kv.1,kv.2)) ws->∃ rs,Carries (dk P w) ws rs/\KV kvs rs
 | [],_,r=>by rw [wR] at r; cases r; exact ⟨[],True.intro,.nil⟩
 | p::kvs,_,r=>by
  rw [vG] at r
  cases r with
  | @cons a b as bs h t =>
   obtain ⟨rs,c,q⟩:=Zel (P:=P) (w:=w) t
   obtain ⟨b1,b2⟩:=b
   exact ⟨(p.1,b2)::rs,⟨pV h.1,rfl,c⟩,.cons ⟨rfl,h.2⟩ q⟩
def ZgH (trs:List (TE×TE)):TE:=λσ H Q=>∀ p,H p=none->rH trs σ (upd H p (.dK [])) λps H2=>H2 p=some (.dK [])/\∃ kvs:List (aA×V),ps=kvs.map (λkv=>(kV kv.1,kv.2))/\kvs.length<=15/\Q (.ref p) (upd H2 p (.dK (mi [] kvs)))
theorem ZiT {X:Cx} {pos:Pos} {keys:List (Option Expr)} {values:List Expr} {trs:List (TE×TE)} (h:qS X pos keys values trs) (hall:keys.all (·.isSome)=true) (hl:keys.length=values.length) (h0:keys≠[])
  (h15:keys.length<=15):PE X (.Dict keys values pos) (ZgH trs):=by
 intro pins s σ H Q I q
 have hn:=I.hok.fresh (vF s.heap.objs.size)
 have I1:=I.laid (a:=s.heap.objs.size) (o:=.dK []) (h':=s.heap.push { cls:=.type "dict",data:=.dict #[] }) (t':=s.toks) (λ_ _ q=>vA _ q) (vF _) (ZdT s.heap I.big)
 refine wpAny_Dict_walk (knd:=dk X.prog X.w) hall hl h0 h15 (thn (h pins _ σ _ _ I1 (q _ hn)) λws s2 hz0=>?_)
 obtain ⟨ps,H2,I2,rel,e,kvs,ep,lk,q2⟩:=hz0
 subst ep
 obtain ⟨rs,c,rk⟩:=Zel (P:=X.prog) (w:=X.w) rel
 obtain ⟨z,hd,vs0,r0,dd⟩:=ZdR I2.hok e
 cases r0
 refine ⟨rs,c,dd,λh' dd' hs=>⟨.ref s.heap.objs.size,_,?_,rfl,q2⟩⟩
 have hz:(mi [] kvs).length<=sizeLine:=by
  have h1:=ZcI kvs []
  rw [wU] at h1
  rw [sizeLine_eq]; omega
 have he:∃ q,h'.get? s.heap.objs.size=some q:=let ⟨q,_,_,hq,_⟩:=dd'; ⟨q,hq⟩
 exact uJ I2 (by rw [e]; exact True.intro) hs he (ZdS hz hd (rk.merge .nil) dd')
section
variable {X:Cx} {pins:List (Addr×Obj)} {σ:St} {H:Hp} {s:Shared} {a:Addr} {y d:V} {u r:Value} {o:Option V} {A:Around} {E:y4}
end
section
variable {X:Cx} {o e f:Expr} {apos cpos:Pos} {td ty tx:TE}
end
section
variable {X:Cx} {pins:List (Addr×Obj)} {σ:St} {H:Hp} {s:Shared} {a:Addr} {kvs:List (aA×V)} {A:Around} {E:y4}
end
section
variable {X:Cx} {pins:List (Addr×Obj)} {σ:St} {H:Hp} {s:Shared} {a:Addr} {y:V} {u:Value} {A:Around} {E:y4}
end
end L2
namespace Att
open PySem.W PySem.Calls
theorem ints_of_wellAll {P:Params} {h:Heap}:∀ (ns:y8) (vs:y9),WellAll P h vs (ns.map WData.int)->IntsAre vs ns:=by
 intro ns
 induction ns with
 | nil =>
  intro vs w
  rw [wR] at w
  cases w
  exact .nil
 | cons n ns ih =>
  intro vs w
  rw [vG] at w
  cases w with
  | cons a b =>
   cases a
   exact .cons _ _ (ih _ b)
theorem script_of {l:OpenLaw} {n:Nat} (hn:l.most=some n) {P:Params} {h:Heap} {args:List WData} {vals:y9}
  (hpre:l.row.toRowW.claim.pre args=true) (hwl:WellAll P h vals args) :
  ∃ a vs ns,vals=[Value.ref a]/\args=[WData.list (ns.map WData.int)]/\h.get? a=some { cls:=.type "list",data:=.seq vs.toArray }/\IntsAre vs ns/\ns.length<=n:=by
 have hsh:WShape.hasAll [] args [.list .int]=true:=(pre_splitW hpre).1
 have hc:l.pre.holds [] { args:=args }=true:=(pre_splitW hpre).2
 obtain ⟨d,r,rfl,h1,h2⟩:=hasAllW_cons hsh
 obtain rfl:=hasAllW_nil h2
 obtain ⟨xs,rfl,h3⟩:=hasW_list h1
 obtain ⟨ns,rfl⟩:=items_int h3
 have hlen:ns.length<=n:=by
  unfold OpenLaw.pre at hc
  have h4:(WTm.not (.lt (.lit (.int (n:Int))) (.len (.arg 0)))).holds [] { args:=[.list (ns.map .int)] }=true:=by
   have h4:=(holds_andW hc).1
   rw [hn] at h4
   exact h4
  have h5:=condW_of h4 (w_not (w_lt w_lit (w_len_list (w_arg rfl))))
  rw [vB] at h5
  refine xj λq=>?_
  have q':(n:Int) < ((ns.length:Nat):Int):=by omega
  first
   | (rw [decide_eq_true q'] at h5; exact absurd h5 (by decide))
   | (simp at h5; omega)
 cases hwl with
 | cons w1 w2 =>
  cases w2
  cases w1 with
  | list ho hall=>exact ⟨_,_,ns,rfl,rfl,ho,ints_of_wellAll ns _ hall,hlen⟩
theorem post_true (l:OpenLaw) (args:List WData):l.row.toRowW.claim.post args (.bool true) args=true :=
 postW_of (r:=l.row.toRowW) (X:=(true == true))
  (show WShape.has [] (.bool true) .bool=true by first | rfl | decide | simp [WShape.has,WShape.arms,WShape.armsAll])
  (show (WTm.eq .res (.lit (.bool true))).value [] { args:=args,res:=some (.bool true),after:=args }=some (.bool (true == true)) from w_eq_bool (w_res rfl) w_lit) rfl
theorem attach_call {l:OpenLaw} {n:Nat} {q:Program} {loose:za} {XP:zc->Heap->Prop} {YP:World->Heap->Prop} {d:DefRec}
  (hn:l.most=some n) (hdf:d.params.defaults=[])
  (call:∀ (w:World) (s₀ s₁:Shared) (mg mb:zc) (fa:Addr) (o:Obj) (pm cd doc:Value) (a:Addr) (vs:y9) (ns:y8),
   Ground q loose [] XP w s₀ mg mb s₁.heap->YP w s₁.heap ->
   s₁.heap.get? fa=some o->o.data=.func (docDef d.name d.params d.body d.scope pm cd doc)->s₁.heap.CodeRec cd d.name->mg d.name=some (.ref fa) ->
   s₁.heap.get? a=some { cls:=.type "list",data:=.seq vs.toArray }->IntsAre vs ns->ns.length<=n->s₁.gens=#[] ->
   codeAny (model l.prog w) callerA (.call (.ref fa) ⟨[.ref a],[]⟩) (λr s'=>r=.ok (.ret (.bool true))/\OldK s₁.heap s'.heap/\s'.os=s₁.os/\AllBare s'.gens) s₁) :
  WalkO q loose XP YP l.row.toRowW d [] (λf vs=>PySem.call f vs):=by
 intro w s₀ s₁ mg mb G Y fa o pm cd doc dV kV ho hd hcd hD hmg hg args vals as hpre hlay hrd hwl hlo
 obtain rfl:dV=.none:=Dflts.none hD hdf
 obtain rfl:kV=.none:=Dflts.noKw hD
 obtain ⟨a,vs,ns,rfl,rfl,hobj,hints,hlen⟩:=script_of hn hpre hwl
 refine enter_call (codeAny_mono (call w s₀ s₁ mg mb fa o pm cd doc a vs ns G Y ho (fd_plain hd) hcd hmg hobj hints hlen hg) λr s' hq=>?_)
 obtain ⟨rfl,h2,h3,h4⟩:=hq
 exact ⟨.inl ⟨.bool true,.bool true,[],rfl,λ_=>rfl,.bool true,post_true l _,λ_=>⟨List.Pairwise.nil,λ_ hm=>(nomatch hm)⟩⟩,h2,h3,h4⟩
section
variable {prog:Program} {w:World} {A:Around} {E:y4} {s:Shared} {K:Frag}
end
end Att
namespace L2
theorem Zf0 {vs:y9} {ns:y8} (h:IntsAre vs ns):Vals (ns.map V.int) vs:=by
 induction h with
 | nil=>exact .nil
 | cons n t h ih=>exact .cons ⟨t,rfl⟩ ih
def qT (H:Hp):Prop:=∀ b,H b=none\/∃ o xs,H b=some (.frz o (.lst xs))
theorem Zkx {P:Program} {w:World} {K:yS} {mg mb:zc} {CX:dY} {k:Nat} {fa a:Addr} {fd:FuncData} {x:Str} {sp:Sp} {s₁:Shared} {vs:y9} {ns:y8}
  (KX:K.In s₁.heap) (hns:s₁.heap.Ns mainGlobals mg) (hb:s₁.heap.Ns builtinsNs mb) (hbb:∀ x:Str,x≠"__name__"->mb x=bootBuiltins x) (hlim:s₁.heap.NoLimit) (hdig:s₁.heap.NoDigits) (hg:s₁.gens=#[])
  (ha:s₁.heap.get? a=some { cls:=.type "list",data:=.seq vs.toArray }) (hi:IntsAre vs ns) (hl:ns.length<=sizeLine) (hr:Room k callerA)
  (F:∀ base:Heap,K.In base->base.Ns mainGlobals mg->FnOk P w K mg base CX k fa fd [x] sp) (hbind:∀ (s:Shared) (u:Value),BindsTo s fd ⟨[u],[]⟩ [(x,u)])
  (hsp:∀ H:Hp,qT H->SqL K H a (ns.map V.int)->sp [.ref a] H (λv _=>v=.bl true) λ_ _ _=>False)
  (hCX:∀ H e s',CX [] H s₁ (λ_ _ _=>False) e s'->False) :
  codeAny (model P w) callerA (.call (.ref fa) ⟨[.ref a],[]⟩) (λr s'=>r=.ok (.ret (.bool true))/\OldK s₁.heap s'.heap/\s'.os=s₁.os/\AllBare s'.gens) s₁:=by
 have rv:=Zf0 hi
 have lenV:=hi.length
 -- from an abstract heap in which nothing but the script may be tracked
 have core:∀ H:Hp,qT H->SqL K H a (ns.map V.int)->HOk P w H s₁.heap->(∀ b,H b≠none->b=a)->(H a≠none->K.lookup a=none) ->
   codeAny (model P w) callerA (.call (.ref fa) ⟨[.ref a],[]⟩) (λr s'=>r=.ok (.ret (.bool true))/\OldK s₁.heap s'.heap/\s'.os=s₁.os/\AllBare s'.gens) s₁:=by
  intro H hO hS hok hA hK
  have base_of:∀ {b:Addr} {o:Obj},s₁.heap.get? b=some o->H b=none->(g8 s₁.heap H).get? b=some o:=λe n=>Zk7 e n
  have noA:∀ {b:Addr} {o:Obj} {es:Array DictEntry} {ep:Nat},s₁.heap.get? b=some o->o.data=.dict es ep->H b=none:=λ{b o es ep} e d=>by
   cases q:H b with
   | none=>rfl
   | some u =>
    have e':b=a:=hA b (by rw [q]; simp)
    subst e'
    rw [ha] at e; cases e
    have d':Data.seq vs.toArray _=Data.dict es ep:=d
    cases d'
  have nsK:∀ {b:Addr} {m:zc},s₁.heap.Ns b m->(g8 s₁.heap H).Ns b m:=λ{b m} hz0=>by
   obtain ⟨o,es,ep,e,d,r⟩:=hz0
   exact ⟨o,es,ep,base_of e (noA e d),d,r⟩
  have hKb:K.In (g8 s₁.heap H):=λb o e=>base_of (KX b o e) (by
   cases q:H b with
   | none=>rfl
   | some u =>
    have e':b=a:=hA b (by rw [q]; simp)
    subst e'
    rw [hK (by rw [q]; simp)] at e; cases e)
  have hM:Mod K mg (g8 s₁.heap H):=⟨hKb,nsK hns,⟨mb,nsK hb,hbb⟩,let ⟨mc,h1,h2⟩:=hlim; ⟨mc,nsK h1,h2⟩,let ⟨mc,h1,h2⟩:=hdig; ⟨mc,nsK h1,h2⟩⟩
  have e0:Env0 P w K mg (g8 s₁.heap H) callerA [] s₁ H:=⟨rfl,hM,λb o e=>Zjw e,Nat.le_of_eq (Zk6 _ _),trivial,λb hb=>absurd (show b∈([]:List Addr) from hb) (by simp),hok,.of_eq hg⟩
  refine codeAny_mono ((F _ hKb (nsK hns)).run callerA [] s₁ H ⟨[.ref a],[]⟩ [.ref a] [.ref a] _ _ hr e0 (hbind s₁ (.ref a)) (.cons rfl .nil) (hsp H hO hS)) λr s' h=>?_
  cases r with
  | error e=>exact (hCX H e s' h).elim
  | ok fl =>
   cases fl with
   | next=>exact False.elim h
   | brk=>exact False.elim h
   | cont=>exact False.elim h
   | ret u =>
    obtain ⟨v,H',os,bare,un,hok',r',q⟩:=h
    have q':v=.bl true:=q
    subst q'
    obtain rfl:u=Value.bool true:=r'
    refine ⟨rfl,OldK.of_keep λb o e=>?_,os,bare⟩
    cases q:H b with
    | none=>exact un.keep b o e q (by intro z; exact absurd (show b∈([]:List Addr) from z) (by simp)) (by simp)
    | some u =>
     rcases hO b with z | ⟨ob,xs,z⟩
     ·rw [q] at z; cases z
     ·have z2:=un.frzs b ob _ z
      obtain ⟨e1,_⟩:=hok b _ z
      obtain ⟨e2,_⟩:=hok' b _ z2
      rw [e] at e1; cases e1
      exact e2
 cases hk:K.lookup a with
 | some o =>
  -- the script is one of the module's own objects
  have e:=KX a o hk
  rw [ha] at e
  cases e
  refine core (λ_=>none) (λ_=>.inl rfl) (.inr ⟨_,vs.toArray,_,hk,rfl,rfl,rfl,by rw [vK,lenV]; exact hl,by simpa using rv⟩) (λb u z=>by have z':(none:Option HO)=some u:=z; cases z') (λb z=>absurd rfl z) λz=>absurd rfl z
 | none =>
  refine core (λb=>if b=a then some (.frz { cls:=.type "list",data:=.seq vs.toArray } (.lst (ns.map V.int))) else none) (λb=>?_) (.inl (.inr ⟨{ cls:=.type "list",data:=.seq vs.toArray },if_pos rfl⟩)) (λb u z=>?_) (λb z=>?_) λ_=>hk
  ·by_cases hb:b=a
   ·exact .inr ⟨_,_,if_pos hb⟩
   ·exact .inl (if_neg hb)
  ·by_cases hb:b=a
   ·have z':=(if_pos hb).symm.trans z
    cases z'
    subst hb
    exact ⟨ha,by rw [vB]; exact hl,vs,_,rv,ha⟩
   ·have z':=(if_neg hb).symm.trans z
    cases z'
  ·by_cases hb:b=a
   ·exact hb
   ·exact absurd (if_neg hb) z
noncomputable abbrev aF {K:yS} {h:Heap} (_:K.In h):yS:=K
theorem ZfL {l:PySem.W.OpenLaw} {n k:Nat} {q:Program} {loose:za} {XP:zc->Heap->Prop} {YP:World->Heap->Prop} {d:DefRec} {K:Params->yS} {CX:World->dY} {sp:World->Sp} {x:Str}
  (hn:l.most=some n) (hn2:n<=sizeLine) (hdf:d.params.defaults=[]) (hr:Room k callerA)
  (hY:∀ (w:World) (h:Heap),YP w h->(K w.params).In h)
  (F:∀ (w:World) (mg:zc) (fa:Addr) (h:Heap),(K w.params).In h->h.Ns mainGlobals mg->mg d.name=some (.ref fa) ->
   ∃ fd:FuncData,(∀ (s:Shared) (u:Value),BindsTo s fd ⟨[u],[]⟩ [(x,u)]) /\
    ∀ base:Heap,(K w.params).In base->base.Ns mainGlobals mg->FnOk l.prog w (K w.params) mg base (CX w) k fa fd [x] (sp w))
  (hsp:∀ (w:World) (H:Hp) (a:Addr) (ns:y8),ns.length<=n->qT H->SqL (K w.params) H a (ns.map V.int)->sp w [.ref a] H (λv _=>v=.bl true) λ_ _ _=>False)
  (hCX:∀ (w:World) (H:Hp) (s:Shared) (e:Value) (s':Shared),CX w [] H s (λ_ _ _=>False) e s'->False) :
  PySem.W.WalkO q loose XP YP l.row.toRowW d [] (λf vs=>PySem.call f vs):=by
 refine Att.attach_call hn hdf λw s₀ s₁ mg mb fa o pm cd doc a vs ns G Y ho hd hcd hmg hobj hints hlen hg=>?_
 have KX:=hY w _ Y
 obtain ⟨fd,hb,hF⟩:=F w mg fa _ KX G.T.g hmg
 exact Zkx KX G.T.g G.T.b G.T.builtins G.T.nolimit G.T.nodigits hg hobj hints (vO hlen hn2) hr hF hb (λH hO hS=>hsp w H a ns hlen hO hS) λH e s'=>hCX w H s₁ e s'
theorem ZfK {l:PySem.W.OpenLaw} {n k:Nat} {q:Program} {loose:za} {XP:zc->Heap->Prop} {YP:World->Heap->Prop} {d:DefRec} {K:Params->yS} {CX:dY} {sp:yS->Sp} {x:Str}
  (hn:l.most=some n) (hn2:n<=sizeLine) (hdf:d.params.defaults=[]) (hr:Room k callerA)
  (hY:∀ (w:World) (h:Heap),YP w h->(K w.params).In h)
  (F:∀ (w:World) (mg:zc) (fa:Addr) (h:Heap),(K w.params).In h->h.Ns mainGlobals mg->mg d.name=some (.ref fa) ->
   ∃ fd:FuncData,(∀ (s:Shared) (u:Value),BindsTo s fd ⟨[u],[]⟩ [(x,u)]) /\
    ∀ base:Heap,(K w.params).In base->base.Ns mainGlobals mg->FnOk l.prog w (K w.params) mg base CX k fa fd [x] (sp (K w.params)))
  (hsp:∀ (K:yS) (H:Hp) (a:Addr) (ns:y8),ns.length<=n->qT H->SqL K H a (ns.map V.int)->sp K [.ref a] H (λv _=>v=.bl true) λ_ _ _=>False)
  (hCX:∀ (H:Hp) (s:Shared) (e:Value) (s':Shared),CX [] H s (λ_ _ _=>False) e s'->False) :
  PySem.W.WalkO q loose XP YP l.row.toRowW d [] (λf vs=>PySem.call f vs) :=
 ZfL (K:=K) (CX:=λ_=>CX) (sp:=λw=>sp (K w.params)) hn hn2 hdf hr hY F (λw H a ns h1 h2 h3=>hsp (K w.params) H a ns h1 h2 h3) λ_ H s e s'=>hCX H s e s'
noncomputable def kK (s:Stmt):Arguments:=match s with
 | .FunctionDef _ a _ _ _ _ _ _ _ _=>a
 | _=>{ posonlyargs:=[],args:=[],vararg:=none,kwonlyargs:=[],kw_defaults:=[],kwarg:=none,defaults:=[] }
noncomputable def fQ (s:Stmt):List Stmt:=match s with
 | .FunctionDef _ _ b _ _ _ _ _ _ _=>b
 | _=>[]
noncomputable def aI (s:Stmt):Scope:=match s with
 | .FunctionDef _ _ _ _ _ _ sc _ _ _=>sc
 | _=>{ kind:=.function,names:=[],isGenerator:=false,isCoroutine:=false }
noncomputable abbrev ja:dY:=λ_ _ _ _ _ _=>False
noncomputable abbrev E0:XK:=λ_ _ _=>False
theorem Zi2 {X:Cx}:k9 ja X E0:=λ_ _ _ _ _ _ _ h=>h.elim
structure Fun (K:yS) (x qual:Str) (st:Stmt) (f:Addr) (fd:FuncData):Prop where
 ex:∃ (oc:Value) (od:Option Addr) (kV doc pm:Value) (an:Option Addr) (cdv ct:Value) (osl:Array (Option Value)),
  fd=PySem.W.fnOf x qual (kK st) (fQ st) (aI st) .none kV doc pm an cdv ct/\K.lookup f=some ⟨oc,od,.func fd,osl⟩/\PySem.W.codeIn K cdv qual=true
 kp:PySem.W.keepIn K (.ref f)=true
section
variable {P:Program} {w:World} {K:yS} {mg:zc} {base:Heap}
theorem Fun.ok {x qual:Str} {st:Stmt} {f:Addr} {fd:FuncData} {N ps:za} {k:Nat} {sp:Sp} (F:Fun K x qual st f fd) (S:FnScope N ps (aI st)) (len:∀ vs H Q E,sp vs H Q E->vs.length=ps.length)
  (hbody:∀ (cdv:Value) (A:Around) (outer:List Env) (s:Shared) (H:Hp) (vs:zb) (Q:VK) (E:XK),Room k (A.deeper (envOfC qual (aI st) s.heap.objs.size f cdv))->sp vs H Q E ->
   ∃ t,PSs (cS ja P w K mg base N qual (aI st) f cdv A outer s H E).nox (fQ st) t/\t { nx:=λ_ H'=>Q .non H',rt:=Q } (start N vs) H):FnOk P w K mg base ja (k+1) f fd ps sp:=by
 obtain ⟨oc,od,kV,doc,pm,an,cdv,ct,osl,rfl,lk,hcd⟩:=F.ex
 refine Zdh lk hcd S len λA outer s H vs Q E hr hsp=>?_
 obtain ⟨t,h,q⟩:=hbody cdv A outer s H vs Q E hr hsp
 exact ⟨t,h.nox,q⟩
theorem Fun.binds {x qual:Str} {st:Stmt} {f:Addr} {fd:FuncData} {ps:za} (F:Fun K x qual st f fd)
  (h:∀ (kV doc pm:Value) (an:Option Addr) (cdv ct:Value) (us:y9),us.length=ps.length->bindArgs (PySem.W.fnOf x qual (kK st) (fQ st) (aI st) .none kV doc pm an cdv ct) ⟨us,[]⟩=pure (ps.zip us)):Binds K fd ps []:=by
 obtain ⟨oc,od,kV,doc,pm,an,cdv,ct,osl,rfl,lk,hcd⟩:=F.ex
 exact .all (h kV doc pm an cdv ct)
theorem Zlx {x qual:Str} {st:Stmt} {f:Addr} {oc:Value} {od an:Option Addr} {osl:Array (Option Value)} {kV doc pm cdv ct:Value} (l:K.lookup f=some ⟨oc,od,.func (PySem.W.fnOf x qual (kK st) (fQ st) (aI st) .none kV doc pm an cdv ct),osl⟩)
  (c:PySem.W.codeIn K cdv qual=true) (k:PySem.W.keepIn K (.ref f)=true):Fun K x qual st f (PySem.W.fnOf x qual (kK st) (fQ st) (aI st) .none kV doc pm an cdv ct):=⟨⟨oc,od,kV,doc,pm,an,cdv,ct,osl,rfl,l,c⟩,k⟩
end
theorem ul {A:Around} {k:Nat} (hr:Room k A):A.units+1 < cLine:=wM (Nat.add_le_add_left (by decide:1<=64) _) hr.units
section
variable {X:Cx}
theorem pv (i:Nat) {x:Str} {pos:Pos} (hN:X.N[i]?=some x:=by rfl) (hv:k8 X.env.scope x:=by first | exact Or.inl rfl | exact Or.inr (.inl rfl) | exact Or.inr (.inr rfl)) (hd:(x == ("__debug__":Str))=false:=by decide)
  (hcd:(x == ("__classdict__":Str))=false:=by decide):PE X (.Name x pos) (ij i):=ZiJ hN hv hd hcd
end
theorem pX {c A B:Prop} [Decidable c] (h1:c->A) (h2:¬ c->B):if c then A else B:=by
 by_cases h:c
 ·rw [if_pos h]
  exact h1 h
 ·rw [if_neg h]
  exact h2 h
def Same (H H':Hp):Prop:=∀ b o,H b=some o->H' b=some o
theorem Same.refl (H:Hp):Same H H:=λ_ _ h=>h
theorem Same.seq {K:yS} {H H':Hp} {a:Addr} {xs:zb} (e:Same H H') (h:SqL K H a xs):SqL K H' a xs:=by
 rcases h with (h | ⟨o,h⟩) | h
 ·exact .inl (.inl (e _ _ h))
 ·exact .inl (.inr ⟨o,e _ _ h⟩)
 ·exact .inr h
structure Blk where
 cl:List (Str×Addr)
 C:Addr
 s:Shared
 H:Hp
 fp:List Addr
 pn:List (Addr×Obj)
noncomputable def ba (X:Cx) (N:za) (scope:Scope) (b:Blk):Cx where
 prog:=X.prog
 w:=X.w
 K:=X.K
 mg:=X.mg
 base:=X.base
 A:=X.A
 N:=N
 s₀:=b.s
 H₀:=b.H
 env:=compEnvC scope b.cl b.C X.env
 outer:=X.stack
 stack:=X.stack
 ex:=b.fp
 fn:=λx=>scope.names.lookup x == some .cell
 calm:=X.calm
 pn:=b.pn
 xe:=λ_ _=>False
def bN (Nx ts:za) (ix:List Nat):za:=ts++ix.map λj=>(Nx[j]?).getD Str.empty
noncomputable def dc (n:Nat) (ix:List Nat) (σ:St):St:=List.replicate n none++ix.map λj=>(σ[j]?).getD none
structure BlkOk (Nx:za) (sc scope:Scope) (ix:List Nat):Prop where
 kind:scope.kind=.function
 cells:∀ y∈scope.names,y.2=.cell->scope.names.lookup y.1=some .cell
 locs:∀ y∈scope.names,y.2=.local->scope.names.lookup y.1=some .local
 frees:∀ y∈scope.names,y.2=.free->sc.names.lookup y.1=some .cell\/sc.names.lookup y.1=some .free
 caps:∀ j∈ix,j < Nx.length/\scope.names.lookup ((Nx[j]?).getD Str.empty)=some .free
theorem ut {env:Env} {f:Str×NameKind->List (Str×Addr)->Sem (ForInStep (List (Str×Addr)))}
  (h1:∀ n k r,k≠NameKind.free->f (n,k) r=pure (.yield r)) (h2:∀ n r c,env.cells.lookup n=some c->f (n,NameKind.free) r=pure (.yield ((n,c)::r))) :
  ∀ (names:List (Str×NameKind)) (acc:List (Str×Addr)),(∀ y∈names,y.2=.free->∃ c,env.cells.lookup y.1=some c)->(∀ x c,acc.lookup x=some c->env.cells.lookup x=some c) ->
   ∃ cl,forIn names acc f=pure cl/\(∀ x c,cl.lookup x=some c->env.cells.lookup x=some c)/\(∀ y∈names,y.2=.free->∃ c,cl.lookup y.1=some c)/\∀ x c,acc.lookup x=some c->∃ c',cl.lookup x=some c'
 | [],acc,_,ha=>⟨acc,rfl,ha,(λ_ h=>nomatch h),λx c h=>⟨c,h⟩⟩
 | (n,k)::names,acc,hn,ha=>by
  have hn':∀ y∈names,y.2=.free->∃ c,env.cells.lookup y.1=some c:=λy hy=>hn y (vC _ hy)
  by_cases hk:k=.free
  ·subst hk
   obtain ⟨c,hc⟩:=hn (n,.free) wx rfl
   have ha':∀ x d,((n,c)::acc).lookup x=some d->env.cells.lookup x=some d:=λx d e=>by
    rw [wc] at e
    cases hx:x == n with
    | true =>
     rw [hx] at e
     have hxn:x=n:=by simpa using hx
     subst hxn
     cases e
     exact hc
    | false =>
     rw [hx] at e
     exact ha x d e
   obtain ⟨cl,e,p1,p2,p3⟩:=ut h1 h2 names ((n,c)::acc) hn' ha'
   refine ⟨cl,?_,p1,λy hy hf=>?_,λx d hx=>?_⟩
   ·rw [List.forIn_cons,h2 n acc c hc,pure_bind]
    exact e
   ·rcases vD.mp hy with rfl | hy
    ·exact p3 n c (by simp)
    ·exact p2 y hy hf
   ·by_cases e1:x=n
    ·subst e1
     exact p3 x c (by simp)
    ·exact p3 x d (by rw [wc,beq_false_of_ne e1]; exact hx)
  ·obtain ⟨cl,e,p1,p2,p3⟩:=ut h1 h2 names acc hn' ha
   refine ⟨cl,?_,p1,λy hy hf=>?_,p3⟩
   ·rw [List.forIn_cons,h1 n k acc hk,pure_bind]
    exact e
   ·rcases vD.mp hy with rfl | hy
    ·exact absurd hf hk
    ·exact p2 y hy hf
theorem qp {scope:Scope} {env:Env} (hn:∀ y∈scope.names,y.2=.free->∃ c,env.cells.lookup y.1=some c) :
  ∃ cl,closureFor scope env=pure cl/\(∀ x c,cl.lookup x=some c->env.cells.lookup x=some c)/\∀ y∈scope.names,y.2=.free->∃ c,cl.lookup y.1=some c:=by
 unfold closureFor
 have key:=ut (env:=env) (f:=λ(x:Str×NameKind) (r:List (Str×Addr))=>match x with
  | (name,kind)=>if (kind == NameKind.free)=true then (do let a <- cellOf env name; pure (ForInStep.yield ((name,a)::r))) else pure (ForInStep.yield r))
  (λn k r hk=>by
   have hb:(k == NameKind.free)=false:=by simpa using hk
   show (if (k == NameKind.free)=true then _ else _)=_
   rw [hb]
   rfl)
  (λn r c hc=>by
   show (do let a <- cellOf env n; pure (ForInStep.yield ((n,a)::r)))=_
   unfold cellOf
   rw [hc]
   rfl) scope.names [] hn (λx c h=>by simp at h)
 obtain ⟨cl,e,p1,p2,_⟩:=key
 refine ⟨cl,?_,p1,p2⟩
 show (forIn scope.names [] _ >>= λr=>pure r)=pure cl
 exact (congrArg (λt=>t >>= λr=>pure r) e).trans (pure_bind _ _)
section
variable {X:Cx} {pins:List (Addr×Obj)} {σ:St} {H:Hp} {s:Shared}
theorem Zh5 {scope:Scope} {env:Env} {x:Str} (h:scope.names.lookup x=some .free):(relabel scope env).names.lookup x=some .cell\/(relabel scope env).names.lookup x=some .free:=by
 unfold relabel
 show List.lookup x (scope.names.map _)=_\/List.lookup x (scope.names.map _)=_
 generalize scope.names=l at h
 induction l with
 | nil=>simp at h
 | cons p r ih =>
  obtain ⟨n,k⟩:=p
  rw [vG]
  cases hx:x == n with
  | true =>
   rw [wc,hx] at h
   have hk:k=.free:=by simpa using h
   subst hk
   by_cases hc:(NameKind.free == NameKind.free && env.scope.kind == .function && env.kindOf n == some .cell)=true
   ·refine .inl ?_
    show List.lookup x ((if (NameKind.free == NameKind.free && env.scope.kind == .function && env.kindOf n == some .cell)=true then (n,NameKind.cell) else (n,NameKind.free))::_)=_
    rw [if_pos hc,wc,hx]
   ·refine .inr ?_
    show List.lookup x ((if (NameKind.free == NameKind.free && env.scope.kind == .function && env.kindOf n == some .cell)=true then (n,NameKind.cell) else (n,NameKind.free))::_)=_
    rw [if_neg hc,wc,hx]
  | false =>
   rw [wc,hx] at h
   have key:∀ q:Str×NameKind,(q=(n,NameKind.cell)\/q=(n,k))->∀ l',List.lookup x (q::l')=List.lookup x l':=λq hq l'=>by
    rcases hq with rfl | rfl <;> rw [wc,hx]
   have hq:(if (k == NameKind.free && env.scope.kind == .function && env.kindOf n == some .cell)=true then (n,NameKind.cell) else (n,k))=(n,NameKind.cell)\/(if (k == NameKind.free && env.scope.kind == .function && env.kindOf n == some .cell)=true then (n,NameKind.cell) else (n,k))=(n,k):=by
    split
    ·exact .inl rfl
    ·exact .inr rfl
   rcases ih h with z | z
   ·exact .inl ((key _ hq _).trans z)
   ·exact .inr ((key _ hq _).trans z)
theorem Zh6 {scope:Scope} {env:Env} {x:Str} (h:(relabel scope env).names.lookup x=some .cell\/(relabel scope env).names.lookup x=some .free):∃ y∈scope.names,y.1=x/\(y.2=.free\/y.2=.cell):=by
 unfold relabel at h
 have h':List.lookup x (scope.names.map λ(n,k)=>if (k == .free && env.scope.kind == .function && env.kindOf n == some .cell) then (n,NameKind.cell) else (n,k))=some .cell\/List.lookup x (scope.names.map λ(n,k)=>if (k == .free && env.scope.kind == .function && env.kindOf n == some .cell) then (n,NameKind.cell) else (n,k))=some .free:=h
 clear h
 generalize scope.names=l at h'
 induction l with
 | nil=>simp at h'
 | cons p r ih =>
  obtain ⟨n,k⟩:=p
  rw [vG] at h'
  cases hx:x == n with
  | true =>
   have hxn:x=n:=by simpa using hx
   by_cases hk:k=.free
   ·exact ⟨(n,k),wx,hxn.symm,.inl hk⟩
   ·
    have hb:(k == NameKind.free)=false:=by simpa using hk
    have e:(if (k == NameKind.free && env.scope.kind == .function && env.kindOf n == some .cell)=true then (n,NameKind.cell) else (n,k))=(n,k):=by
     rw [hb]
     rfl
    have h2:List.lookup x ((n,k)::r.map λ(n,k)=>if (k == .free && env.scope.kind == .function && env.kindOf n == some .cell) then (n,NameKind.cell) else (n,k))=some .cell\/List.lookup x ((n,k)::r.map λ(n,k)=>if (k == .free && env.scope.kind == .function && env.kindOf n == some .cell) then (n,NameKind.cell) else (n,k))=some .free:=by
     rw [<- e]
     exact h'
    rw [wc,hx] at h2
    rcases h2 with z | z
    ·exact ⟨(n,k),wx,hxn.symm,.inr (vT z)⟩
    ·exact absurd (vT z) hk
  | false =>
   have hq:∀ q:Str×NameKind,(q=(n,NameKind.cell)\/q=(n,k))->∀ l',List.lookup x (q::l')=List.lookup x l':=λq hq l'=>by
    rcases hq with rfl | rfl <;> rw [wc,hx]
   have hqq:(if (k == NameKind.free && env.scope.kind == .function && env.kindOf n == some .cell)=true then (n,NameKind.cell) else (n,k))=(n,NameKind.cell)\/(if (k == NameKind.free && env.scope.kind == .function && env.kindOf n == some .cell)=true then (n,NameKind.cell) else (n,k))=(n,k):=by
    split
    ·exact .inl rfl
    ·exact .inr rfl
   obtain ⟨y,hy,e⟩:=ih (by
    rcases h' with z | z
    ·exact .inl ((hq _ hqq _).symm.trans z)
    ·exact .inr ((hq _ hqq _).symm.trans z))
   exact ⟨y,vC _ hy,e⟩
theorem uO:∀ (names:List (Str×NameKind)) (h:Heap) (acc:List (Str×Addr)),
  (∀ x c,(cellsFrom h.objs.size names acc).lookup x=some c->acc.lookup x=some c\/(h.objs.size<=c/\(pushCells h names).IsCell c none/\(x,NameKind.cell)∈names)) /\
  (∀ x,((x,NameKind.cell)∈names\/∃ c,acc.lookup x=some c)->∃ c,(cellsFrom h.objs.size names acc).lookup x=some c) /\
  (∀ x c,(x,NameKind.cell)∈names->(cellsFrom h.objs.size names acc).lookup x=some c->h.objs.size<=c) /\
  ((∀ x c,acc.lookup x=some c->c < h.objs.size)->(∀ x y c,acc.lookup x=some c->acc.lookup y=some c->x=y)->∀ x y c,(cellsFrom h.objs.size names acc).lookup x=some c->(cellsFrom h.objs.size names acc).lookup y=some c->x=y):=by
 intro names
 induction names with
 | nil=>intro h acc; exact ⟨λx c e=>.inl e,λx e=>by rcases e with e | e; cases e; exact e,λx c e=>(by cases e),λ_ i=>i⟩
 | cons p r ih =>
  obtain ⟨name,kind⟩:=p
  intro h acc
  unfold cellsFrom pushCells
  by_cases hk:kind=.cell
  ·subst hk
   have hk':((NameKind.cell == NameKind.cell)=true):=rfl
   rw [if_pos hk',if_pos hk']
   have ih':=ih (h.push { cls:=.type "cell",data:=.cell none }) ((name,h.objs.size)::acc)
   rw [wF] at ih'
   obtain ⟨i1,i2,i4,i3⟩:=ih'
   refine ⟨λx c e=>?_,λx e=>?_,λx c e1 e2=>?_,λhb hi=>i3 (λx c e=>?_) λx y c e1 e2=>?_⟩
   ·rcases i1 x c e with z | ⟨z1,z2,z3⟩
    ·rw [wc] at z
     cases hx:x == name with
     | true =>
      rw [hx] at z
      have hxn:x=name:=by simpa using hx
      cases z
      exact .inr ⟨vF _,⟨_,pushCells_keeps _ _ _ _ (vI _ rfl),rfl⟩,by rw [hxn]; exact wx⟩
     | false=>rw [hx] at z; exact .inl z
    ·exact .inr ⟨by omega,z2,vC _ z3⟩
   ·refine i2 x ?_
    by_cases hx:x=name
    ·exact .inr ⟨h.objs.size,by rw [wc,hx]; simp⟩
    ·rcases e with e | ⟨c,e⟩
     ·rcases vD.mp e with q | q
      ·exact absurd (congrArg Prod.fst q) hx
      ·exact .inl q
     ·exact .inr ⟨c,by rw [wc,beq_false_of_ne hx]; exact e⟩
   ·rcases i1 x c e2 with z | ⟨z,_,_⟩
    ·rw [wc] at z
     cases hx:x == name with
     | true=>rw [hx] at z; cases z; exact vF _
     | false =>
      have hxn:x≠name:=by simpa using hx
      rcases vD.mp e1 with q | q
      ·exact absurd (congrArg Prod.fst q) hxn
      ·exact xy (i4 x c q e2)
    ·exact xy z
   ·rw [wc] at e
    cases hx:x == name with
    | true=>rw [hx] at e; cases e; exact yv _
    | false=>rw [hx] at e; exact xx (hb x c e)
   ·rw [wc] at e1 e2
    cases hx:x == name with
    | true =>
     have hxn:x=name:=by simpa using hx
     rw [hx] at e1
     cases e1
     cases hy:y == name with
     | true =>
      have hyn:y=name:=by simpa using hy
      rw [hxn,hyn]
     | false=>rw [hy] at e2; exact absurd (hb y _ e2) (vU _)
    | false =>
     rw [hx] at e1
     cases hy:y == name with
     | true=>rw [hy] at e2; cases e2; exact absurd (hb x _ e1) (vU _)
     | false=>rw [hy] at e2; exact hi x y c e1 e2
  ·have hk':¬ ((kind == NameKind.cell)=true):=by simpa using hk
   rw [if_neg hk',if_neg hk']
   obtain ⟨i1,i2,i4,i3⟩:=ih h acc
   refine ⟨λx c e=>?_,λx e=>i2 x ?_,λx c e1 e2=>?_,i3⟩
   ·rcases i1 x c e with z | ⟨z1,z2,z3⟩
    ·exact .inl z
    ·exact .inr ⟨z1,z2,vC _ z3⟩
   ·rcases e with e | e
    ·rcases vD.mp e with q | q
     ·exact absurd (congrArg Prod.snd q).symm hk
     ·exact .inl q
    ·exact .inr e
   ·rcases vD.mp e1 with q | q
    ·exact absurd (congrArg Prod.snd q).symm hk
    ·exact i4 x c q e2
theorem rp {M:Model} {A:Around} {E:y4} {s:Shared} {scope:Scope} {globals:Addr} {cl:List (Str×Addr)} {qual:Str} {outer:Env} {Q:Env->Shared->Prop}
  (h:Q { scope:=scope,locals:=s.heap.objs.size,globals:=globals,cells:=cellsFrom (s.heap.objs.size+1) scope.names cl,qual:=qual,func:=none,code:=outer.code,frame:=outer.frame,builtins:=outer.builtins } { s with heap:=pushCells (s.heap.push { cls:=.type "dict",data:=.dict #[] }) scope.names }) :
  wpAny M A (newFunctionEnv scope globals cl [] qual none .none (some outer)) Q E s:=by
 simp only [newFunctionEnv,Option.isSome_some,if_true]
 refine wpAny_bind (wpAny_alloc ?_)
 refine wpAny_bind (wpAny_layCells _ (λname kind cells=>by cases hkc:kind == NameKind.cell <;> simp [hkc]) _ _ _ _ ?_)
 rw [show ({ s with heap:=s.heap.push { cls:=.type "dict",data:=.dict #[] } }:Shared).heap.objs.size=s.heap.objs.size+1 from wF ..]
 rw [List.forIn_nil]
 exact wpAny_bind (wpAny_pure (wpAny_pure h))
theorem ZrA {Nx ts:za} {ix:List Nat} {i:Nat} {x:Str} (h:(bN Nx ts ix)[i]?=some x) (hi:ts.length<=i):∃ j,ix[i - ts.length]?=some j/\x=(Nx[j]?).getD Str.empty:=by
 unfold bN at h
 rw [wl hi,v5] at h
 cases e:ix[i - ts.length]? with
 | none=>rw [e] at h; cases h
 | some j=>rw [e] at h; exact ⟨j,rfl,(vT h).symm⟩
theorem ue {scope:Scope} {cl:List (Str×Addr)} {fp:List Addr} {C:Addr} {h3:Heap} {tk:Nat} {m:zc} {Nx ts:za} {ix:List Nat}
  (I:Inv X pins σ H s) (hNx:X.N=Nx) (ok:BlkOk Nx X.env.scope scope ix) (cs1:∀ x c,cl.lookup x=some c->X.env.cells.lookup x=some c\/(C < c/\h3.IsCell c none/\(x,NameKind.cell)∈scope.names)) (csI:∀ x y c,cl.lookup x=some c->cl.lookup y=some c->x=y) (cl2:∀ y∈scope.names,(y.2=.free\/y.2=.cell)->∃ c,cl.lookup y.1=some c) (csA:∀ x c,(x,NameKind.cell)∈scope.names->cl.lookup x=some c->C<=c)
  (hf:∀ b∈fp,fB X pins H b) (hfs:∀ b∈fp,b < s.heap.objs.size) (hC:s.heap.objs.size<=C) (kp:∀ b o,s.heap.get? b=some o->h3.get? b=some o) (hns:h3.Ns C m) :
  Inv (ba X (bN Nx ts ix) scope ⟨cl,C,s,H,fp,X.pn++pins⟩) [] (dc ts.length ix σ) H { s with heap:=h3,toks:=tk }:=by
 have below:∀ {b:Addr},b < s.heap.objs.size->b≠C:=λhb=>vR (vE hb hC)
 have nstk:∀ b,b≠X.env.locals->b ∉ X.fs->b ∉ frs X.stack:=λb h1 h2 hb=>by
  rcases vD.mp (I.stkSub b hb) with z | z
  ·exact h1 z
  ·exact h2 z
 refine ⟨⟨I.ok.mod,?_,I.ok.glob,I.ok.blt,hC,csI,λx hx=>?_,λx c hfn e=>vO hC (csA x c (wH (eq_of_beq hfn)) e),I.ok.hd,I.ok.frames,.inl rfl,λb hb=>⟨below (hfs b hb),λx c e=>by
  rcases cs1 x c e with z | ⟨z,_,_⟩
  ·exact (hf b hb).2.2.2.2.1 x c z
  ·exact wq (vE (hfs b hb) (vO hC (xm z)))⟩,I.bs,vO I.ok.bsz I.sz,λb o e hb=>?_,λb hb=>nstk b (hf b hb).2.1 (hf b hb).2.2.1,I.stack,I.stkFree⟩,
  rfl,I.bare,Un.kept kp,⟨m,hns,λi x v h1 h2 h3'=>?_⟩,λx c e=>?_,I.hok.fresh hC,λx c e=>by
  rcases cs1 x c e with z | ⟨z,_,_⟩
  ·exact I.freeC x c z
  ·exact I.hok.fresh (vO hC (xm z)),λp hp=>?_,I.hok.kept kp,?_⟩
 ·exact ok.kind
 ·have hx':(relabel scope X.env).names.lookup x=some .cell\/(relabel scope X.env).names.lookup x=some .free:=hx
  obtain ⟨y,hy,e1,e2⟩:=Zh6 hx'
  obtain ⟨c,hc⟩:=cl2 y hy e2
  exact ⟨c,by rw [<- e1]; exact hc⟩
 ·rcases (hf b hb).2.2.2.1 with z | z
  ·exact I.ok.noex b o e z
  ·exact absurd (vE (vM e) (vO I.ok.bsz z)) (vU _)
 ·have hi:ts.length<=i:=by
   rcases Nat.lt_or_ge i ts.length with z | z
   ·exfalso
    have h2':(dc ts.length ix σ)[i]?=some (some v):=h2
    unfold dc at h2'
    rw [v9 (by simpa using z),wf] at h2'
    split at h2' <;> cases h2'
   ·exact z
  obtain ⟨j,hj,ex⟩:=ZrA h1 hi
  have h2':(dc ts.length ix σ)[i]?=some (some v):=h2
  unfold dc at h2'
  rw [wl (by simpa using hi),v5,wY,hj] at h2'
  have hσ:σ[j]?=some (some v):=by
   have q:(σ[j]?).getD none=some v:=vT h2'
   cases e:σ[j]? with
   | none=>rw [e] at q; cases q
   | some w=>rw [e] at q; exact congrArg some q
  obtain ⟨hjl,hfree⟩:=ok.caps j (yf hj)
  have hNj:X.N[j]?=some x:=by
   rw [hNx,ex,xW hjl]
   rfl
  rw [<- ex] at hfree
  obtain ⟨c,hc⟩:=cl2 (x,.free) (wH hfree) (.inl rfl)
  have cl1:X.env.cells.lookup x=some c:=by
   rcases cs1 x c hc with z | ⟨_,_,z⟩
   ·exact z
   ·have:=ok.cells _ z rfl
    rw [hfree] at this
    cases this
  have kx:=ok.frees (x,.free) (wH hfree) rfl
  obtain ⟨m0,hn0,hl0⟩:=I.loc
  obtain ⟨u,ru,look⟩:=hl0 j x v hNj hσ (by rcases kx with z | z; exact .inr (.inl z); exact .inr (.inr z))
  refine ⟨u,ru,.inr ⟨Zh5 hfree,c,hc,?_⟩⟩
  rcases look with ⟨k1,_⟩ | ⟨_,c',hc',z⟩
  ·have k1':X.env.scope.names.lookup x=some .local:=k1
   rcases kx with z | z
   ·rw [k1'] at z; cases z
   ·rw [k1'] at z; cases z
  ·have e:=cl1
   rw [hc'] at e
   cases e
   obtain ⟨o,ho,hd⟩:=z
   exact ⟨o,kp _ _ ho,hd⟩
 ·rcases cs1 x c e with z | ⟨_,z,_⟩
  ·obtain ⟨v,o,ho,hd⟩:=I.cell x c z
   exact ⟨v,o,kp _ _ ho,hd⟩
  ·exact ⟨_,z⟩
 ·have hp':p∈X.pn++pins:=by simpa [ba] using hp
  obtain ⟨e,n,ne,nf,d⟩:=I.pin p hp'
  exact ⟨kp _ _ e,n,below (vM e),nstk _ ne nf,d⟩
 ·show (dc ts.length ix σ).length=(bN Nx ts ix).length
  unfold dc bN
  simp
theorem Inv.track {D:Addr} {ys:zb} {its:y9} {n:Nat} (I:Inv X pins σ H s) (hD:H D=none) (ho:s.heap.get? D=some { cls:=.type "list",data:=.seq its.toArray n }) (r:Vals ys its) (hz:ys.length<=sizeLine)
  (hL:D≠X.env.locals) (hs0:X.s₀.heap.objs.size<=D) (hc:∀ x c,X.env.cells.lookup x=some c->c≠D) (hp:∀ p∈X.pn++pins,p.1≠D):Inv X pins σ (upd H D (.lst ys)) s:=by
 have ne:∀ {b:Addr} {o:HO},H b=some o->b≠D:=λe=>cH e hD
 refine I.step (g':=s.gens) (d':=s.drawn) (t':=s.toks) (h':=s.heap) (ch:=[D]) (λb hb=>?_) (λb o _ _ _ e _=>e) (λb o _ _ _ e _=>⟨o.slots,e⟩) (λb o hb e n=>?_) (λb o _ e=>⟨o,e⟩)
  (λb xs e=>by rw [aK (ne e)]; exact e) (λb o u e=>by rw [aK (ne e)]; exact e) (λb ps e=>⟨#[],by rw [aK (ne e),e]; simp⟩) (λm hm=>hm) (λb u e=>?_) I.bare
 ·have e:b=D:=by simpa using hb
  subst e
  exact ⟨.inr hs0,hL,hc,hp⟩
 ·have hb':b≠D:=by simpa using hb
  rw [aK hb']
  exact n
 ·by_cases hb:b=D
  ·subst hb
   rw [bJ] at e
   cases e
   exact ⟨hz,its,n,r,ho⟩
  ·rw [aK hb] at e
   exact (I.hok b u e).stay (λc v _ q=>q) (λc q=>by rw [aK (ne q)]; exact q) (λc xs q=>by rw [aK (ne q)]; exact q) λc ob xs _ q _=>by rw [aK (ne q)]; exact q
end
theorem ZqN {prog:Program} {w:World} {A:Around} {R:Result->Shared->Prop} {s:Shared} {elt target iter:Expr} {scope:Scope} {pos:Pos} {it acc:Value} {env:Env} (J:Nat->Shared->Prop)
  (step:∀ k s0,J k s0->wpAny (model prog w) A (pyNext it) (λgot s1=>match got with
   | none=>R (.ok .next) s1
   | some v=>wpAny (model prog w) A (letOwnedTupleGo target it v) (λ_ s2=>wpAny (model prog w) A (assign target env v) (λ_ s3=>wpAny (model prog w) A (eval elt env) (λy s4 =>
     wpAny (model prog w) A (call (.builtin "list.append") [acc,y]) (λ_ s5=>∃ j,j < k/\J j s5) (λ_ _=>False) s4) (λ_ _=>False) s3) (λ_ _=>False) s2) (λ_ _=>False) s1) (λ_ _=>False) s0)
  (k:Nat) (h:J k s):codeAny (model prog w) A (.compLoop (.ListComp elt [⟨target,iter,[],0⟩] scope pos) 0 it acc env) R s:=by
 refine codeAny_loop rfl J (λk0 s0 hJ=>?_) k h
 show wpAny _ _ ((compTurn (.ListComp elt [⟨target,iter,[],0⟩] scope pos) 0 it acc env).onRaise (λx=>do noteFrame x env; theTreesLotGoes x)) _ _ s0
 apply wpAny_noted
 rw [compTurn_list1]
 refine wpAny_bind (wpAny_standAt (wpAny_bind (wpAny_mono (step k0 s0 hJ) (λgot s1 h1=>?_) λ_ _ z=>z.elim)))
 cases got with
 | none=>exact wpAny_pure h1
 | some v =>
  refine wpAny_bind (wpAny_mono h1 (λ_ s2 h2=>?_) λ_ _ z=>z.elim)
  refine wpAny_bind (wpAny_mono h2 (λ_ s3 h3=>?_) λ_ _ z=>z.elim)
  refine wpAny_bind (wpAny_bind (wpAny_mono h3 (λy s4 h4=>?_) λ_ _ z=>z.elim))
  exact wpAny_bind (wpAny_mono h4 (λ_ s5 h5=>wpAny_pure (wpAny_pure ⟨rfl,h5⟩)) λ_ _ z=>z.elim)
def ik (wi:TI) (n:Nat) (ix:List Nat) (g:Blk->TG) (te:Blk->TE):TE:=λσ H Q=>wi σ H λJ H1=>∀ b:Blk,∃ W:Nat->Nat->St->List V->Hp->Prop,(∃ m,W 0 m (dc n ix σ) [] H1)/\∀ i m τ ys H2,W i m τ ys H2 ->
 (J.stop i H2/\∀ p v H',H2 p=none->v=V.ref p->H'=upd H2 p (.lst ys)->Q v H') \/
 (J.go i H2/\ys.length < sizeLine/\∀ x H3,J.yld i H2 x H3->g b x τ H3 λτ2 H4=>te b τ2 H4 λy H5=>∃ m',m' < m/\W (i+1) m' τ2 (ys++[y]) H5)
section
variable {X:Cx} {pins:List (Addr×Obj)} {σ:St} {H:Hp} {s:Shared}
theorem ZcK {elt target iter:Expr} {scope:Scope} {pos:Pos} {Nx ts:za} {ix:List Nat} {g:Blk->TG} {te:Blk->TE} {cl:List (Str×Addr)} {s2:Shared} {itv:Value} {R:Value->Addr->Result->Shared->Prop}
  {E:y4} {Q:VK}
  (hc:X.calm=true) (hg:∀ b,PG (ba X (bN Nx ts ix) scope b) target (g b)) (he:∀ b,PE (ba X (bN Nx ts ix) scope b) elt (te b))
  (hNx:X.N=Nx) (ok:BlkOk Nx X.env.scope scope ix) (cl1:∀ x c,cl.lookup x=some c->X.env.cells.lookup x=some c) (cl2:∀ y∈scope.names,y.2=.free->∃ c,cl.lookup y.1=some c)
  (h2:la X pins σ target (λJ H1=>∀ b:Blk,∃ W:Nat->Nat->St->List V->Hp->Prop,(∃ m,W 0 m (dc ts.length ix σ) [] H1)/\∀ i m τ ys H2,W i m τ ys H2 ->
   (J.stop i H2/\∀ p v H',H2 p=none->v=V.ref p->H'=upd H2 p (.lst ys)->Q v H') \/
   (J.go i H2/\ys.length < sizeLine/\∀ x H3,J.yld i H2 x H3->g b x τ H3 λτ2 H4=>te b τ2 H4 λy H5=>∃ m',m' < m/\W (i+1) m' τ2 (ys++[y]) H5)) itv s2)
  (hR:∀ (D C:Addr) (H':Hp) (s':Shared) (v:V),Inv X pins σ H' s'->v=.ref D->Q v H'->(∃ m,s'.heap.Ns C m)->H' C=none->C≠X.env.locals->X.s₀.heap.objs.size<=C->(∀ x c,X.env.cells.lookup x=some c->c≠C)->(∀ p∈X.pn++pins,p.1≠C) ->
   R (.ref D) C (.ok .next) s') :
  wpAny (model X.prog X.w) X.A (newList []) (λacc s₃=>wpAny (model X.prog X.w) X.A (newFunctionEnv scope X.env.globals cl [] X.env.qual none .none (some X.env)) (λcenv s₄ =>
   codeAny (model X.prog X.w) X.A (.compStart (.ListComp elt [⟨target,iter,[],0⟩] scope pos) 0 itv acc { cenv with scope:=relabel scope X.env }) (R acc cenv.locals) s₄) E s₃) E s2:=by
 obtain ⟨it,fp,tn,J,H1,e,I2,T,st2,f2,q2⟩:=h2
 subst e
 refine wpAny_newObj_type (rp ?_)
 dsimp only
 generalize hG:s2.heap.push { cls:=.type "list",dict:=none,data:=.seq ([]:y9).toArray }=G
 have hGs:G.objs.size=s2.heap.objs.size+1:=by rw [<- hG,wF]
 have hfs:∀ b∈fp,b < s2.heap.objs.size:=λb hb=>let ⟨o,e,_⟩:=T.obj _ _ st2 b hb; vM e
 have kpG:∀ b o,G.get? b=some o->(pushCells (G.push { cls:=.type "dict",data:=.dict #[] }) scope.names).get? b=some o:=λb o e=>pushCells_keeps _ _ _ _ (vA _ e)
 have hns3:(pushCells (G.push { cls:=.type "dict",data:=.dict #[] }) scope.names).Ns G.objs.size (λ_=>none):=(Heap.Ns.new G (.type "dict")).keeps (pushCells_keeps _ _)
 obtain ⟨sp1,sp2,sp4,sp3⟩:=uO scope.names (G.push { cls:=.type "dict",data:=.dict #[] }) cl
 rw [wF] at sp1 sp2 sp3 sp4
 generalize hh3:pushCells (G.push { cls:=.type "dict",data:=.dict #[] }) scope.names=h3 at kpG hns3 sp1 ⊢
 have kp:∀ b o,s2.heap.get? b=some o->h3.get? b=some o:=λb o e=>kpG b o (by rw [<- hG]; exact vA _ e)
 have hD3:h3.get? s2.heap.objs.size=some { cls:=.type "list",data:=.seq ([]:y9).toArray }:=kpG _ _ (by rw [<- hG]; exact vI _ rfl)
 have clB:∀ x c,cl.lookup x=some c->c < G.objs.size+1:=λx c e=>by
  obtain ⟨v,q⟩:=I2.cell x c (cl1 x c e)
  exact xx (vE q.lt (by rw [hGs]; exact Nat.le_succ _))
 have csI:=sp3 clB λx y c e1 e2=>I2.ok.inj x y c (cl1 x c e1) (cl1 y c e2)
 have cs1:∀ x c,(cellsFrom (G.objs.size+1) scope.names cl).lookup x=some c->X.env.cells.lookup x=some c\/(G.objs.size < c/\h3.IsCell c none/\(x,NameKind.cell)∈scope.names):=λx c e=>by
  rcases sp1 x c e with z | ⟨z1,z2,z3⟩
  ·exact .inl (cl1 x c z)
  ·exact .inr ⟨by omega,z2,z3⟩
 have cs2:∀ y∈scope.names,(y.2=.free\/y.2=.cell)->∃ c,(cellsFrom (G.objs.size+1) scope.names cl).lookup y.1=some c:=λy hy hk=>by
  refine sp2 y.1 ?_
  rcases hk with z | z
  ·exact .inr (cl2 y hy z)
  ·exact .inl (by rw [<- z]; exact hy)
 have csA:∀ x c,(x,NameKind.cell)∈scope.names->(cellsFrom (G.objs.size+1) scope.names cl).lookup x=some c->G.objs.size<=c:=λx c e1 e2=>xy (sp4 x c e1 e2)
 generalize hcs:cellsFrom (G.objs.size+1) scope.names cl=cs at csI cs1 cs2 csA ⊢
 generalize hCe:G.objs.size=C at hns3 cs1 csA ⊢
 have hC:s2.heap.objs.size<=C:=by omega
 have hDC:s2.heap.objs.size≠C:=by omega
 let B:Blk:=⟨cs,C,s2,H1,fp,X.pn++pins⟩
 have I3:Inv (ba X (bN Nx ts ix) scope B) [] (dc ts.length ix σ) H1 { s2 with heap:=h3 }:=ue I2 hNx ok cs1 csI cs2 csA f2 hfs hC kp hns3
 have fC:H1 s2.heap.objs.size=none:=I2.hok.fresh (vF _)
 have cellIn:∀ x c,cs.lookup x=some c->c≠s2.heap.objs.size:=λx c e=>by
  rcases cs1 x c e with z | ⟨z,_,_⟩
  ·obtain ⟨v,q⟩:=I2.cell x c z
   exact vR q.lt
  ·exact wq (wM hC z)
 have pinIn:∀ p∈X.pn++pins,p.1 < s2.heap.objs.size:=λp hp=>vM (I2.pin p hp).1
 have nofrs:s2.heap.objs.size ∉ frs X.stack:=λhb=>by
  rcases vD.mp (I2.stkSub _ hb) with z | z
  ·exact absurd I2.lt (by rw [<- z]; exact vU _)
  ·exact I2.nofs (vF _) z
 -- a state with the list at its place,pinned
 have pinD:∀ {τ:St} {H':Hp} {s':Shared} {ob:Obj},Inv (ba X (bN Nx ts ix) scope B) [] τ H' s'->s'.heap.get? s2.heap.objs.size=some ob->H' s2.heap.objs.size=none->(∀ v,ob.data≠.cell v)->Inv (ba X (bN Nx ts ix) scope B) [(s2.heap.objs.size,ob)] τ H' s' :=
  λ{τ H' s' ob} I' ho hn hd=>I'.pins_of λp hp=>by
   have e:p=(s2.heap.objs.size,ob):=by simpa using hp
   subst e
   exact ⟨ho,hn,hDC,nofrs,hd⟩
 obtain ⟨W,⟨m0,w0⟩,turn⟩:=q2 B
 have stat:∀ {H':Hp} {ob:Obj},(∀ b∈fp,H' b=none)->∀ b∈fp,fB (ba X (bN Nx ts ix) scope B) [(s2.heap.objs.size,ob)] H' b:=λ{H' ob} hn b hb=>by
  refine ⟨hn b hb,vR (vE (hfs b hb) hC),λz=>?_,.inl hb,λx c e=>by
   rcases cs1 x c e with z | ⟨z,_,_⟩
   ·exact (f2 b hb).2.2.2.2.1 x c z
   ·exact wq (vE (hfs b hb) (vO hC (xm z))),λp hp=>?_⟩
  ·rcases vD.mp (I2.stkSub _ z) with q | q
   ·exact (f2 b hb).2.1 q
   ·exact (f2 b hb).2.2.1 q
  ·rcases wE.mp hp with z | z
   ·exact (f2 b hb).2.2.2.2.2 p z
   ·have e:p=(s2.heap.objs.size,ob):=by simpa using z
    subst e
    exact wq (hfs b hb)
 have loop:∀ s4:Shared,s4={ s2 with heap:=h3 } ->
   codeAny (model X.prog X.w) X.A (.compLoop (.ListComp elt [⟨target,iter,[],0⟩] scope pos) 0 (.ref it) (.ref s2.heap.objs.size) (compEnvC scope cs C X.env)) (R (.ref s2.heap.objs.size) C) s4:=by
  rintro s4 rfl
  refine ZqN (λk s'=>∃ i τ ys its n H',Inv (ba X (bN Nx ts ix) scope B) [(s2.heap.objs.size,({ cls:=.type "list",data:=.seq (List.toArray its) n }:Obj))] τ H' s'/\tn i s'.heap/\(∀ b∈fp,H' b=none)/\Vals ys its/\ys.length<=sizeLine/\W i k τ ys H') ?_ m0
   ⟨0,_,[],[],_,H1,pinD I3 hD3 fC (λv z=>by cases z),T.keep _ _ _ st2 λb hb o e=>kp b o e,λb hb=>(f2 b hb).1,.nil,wN _,w0⟩
  rintro k s5 ⟨i,τ,ys,its,n,H5,I5,st5,fr5,rv,hz,w5⟩
  rcases turn i k τ ys H5 w5 with ⟨stop,qn⟩ | ⟨go,hlt,step⟩
  ·refine thn (T.done (ba X (bN Nx ts ix) scope B) rfl rfl rfl hc i _ s5 τ H5 _ I5 (stat fr5) st5 stop) λgot s6 hz0=>?_
   obtain ⟨hr,I6⟩:=hz0
   subst hr
   obtain ⟨ho,hn,_,_,_⟩:=I6.pin (s2.heap.objs.size,({ cls:=.type "list",data:=.seq (List.toArray its) n }:Obj)) (vJ _ (by simp))
   have I7:Inv X pins σ H5 s6:=I2.call' (ch:=fp) (H':=H5) (by exact I6.os) I6.base I6.hok I6.bare λb hb=>⟨(f2 b hb).2.2.2.1,(f2 b hb).2.1,(f2 b hb).2.2.2.2.1,(f2 b hb).2.2.2.2.2⟩
   have hs0:X.s₀.heap.objs.size<=s2.heap.objs.size:=I2.sz
   have I8:=I7.track hn ho rv hz (wq I2.lt) hs0 (λx c e z=>by
    obtain ⟨v,q⟩:=I2.cell x c e
    exact absurd q.lt (by rw [z]; exact vU _)) (λp hp=>vR (pinIn p hp))
   obtain ⟨m6,hm6,_⟩:=I6.loc
   refine hR _ C _ s6 _ I8 rfl (qn _ _ _ hn rfl rfl) ⟨m6,hm6⟩ ?_ (λz=>?_) (vO hs0 hC) (λx c e z=>?_) λp hp=>vR (vE (pinIn p hp) hC)
   ·rw [aK (Ne.symm hDC)]
    exact I6.free
   ·exact absurd (vE I2.lt hC) (by rw [z]; exact vU _)
   ·obtain ⟨v,q⟩:=I2.cell x c e
    exact absurd (vE q.lt hC) (by rw [z]; exact vU _)
  ·refine thn (T.item (ba X (bN Nx ts ix) scope B) rfl rfl rfl hc i _ s5 τ H5 _ I5 (stat fr5) st5 go) λgot s6 hz0=>?_
   obtain ⟨u,hr,h6⟩:=hz0
   subst hr
   refine thn h6 λ_ s7 hz0=>?_
   obtain ⟨x,H7,I7,r7,y7,st7,fr7⟩:=hz0
   have I7':=I7.pinned (stat fr7) (T.obj _ _ st7)
   refine thn (hg B _ s7 τ H7 x u _ I7' r7 (step x H7 y7)) λ_ s8 hz0=>?_
   obtain ⟨τ8,H8,I8,q8⟩:=hz0
   refine thn (he B _ s8 τ8 H8 _ I8 q8) λy s9 hz0=>?_
   obtain ⟨vy,H9,I9,r9,m',hm',w9⟩:=hz0
   obtain ⟨ho,hn,_,_,_⟩:=I9.pin (s2.heap.objs.size,({ cls:=.type "list",data:=.seq (List.toArray its) n }:Obj)) (vJ _ (wO _ (by simp)))
   have lenv:=rv.length
   refine wpAny_list_append_plain (l:=s2.heap.objs.size) ⟨n,ho⟩ (λh' hpl hsb=>?_) (by rw [vK]; omega)
   obtain ⟨n',ho'⟩:=hpl
   have eobj:(its.toArray.push y)=List.toArray (its++[y]):=by simp
   rw [eobj] at ho'
   have I9':Inv (ba X (bN Nx ts ix) scope B) [] τ8 H9 s9:=I9.pins_of λp hp=>absurd hp (by simp)
   have I10:Inv (ba X (bN Nx ts ix) scope B) [] τ8 H9 { s9 with heap:=h' }:=I9'.turned (it:=s2.heap.objs.size) (t':=s9.toks) (λb o hb e=>(hsb.2 b hb).trans e) hn hDC (.inr (vF _)) cellIn (λp hp=>by
    have hp':p∈(X.pn++pins)++[]:=hp
    rw [v7] at hp'
    exact vR (pinIn p hp'))
   refine ⟨m',hm',i+1,τ8,ys++[vy],its++[y],n',H9,pinD I10 ho' hn (λv z=>by cases z),?_,λb hb=>?_,rv.append (.cons r9 .nil),by rw [vW]; show ys.length+1<=_; omega,w9⟩
   ·refine T.keep _ _ _ st7 λb hb o e=>?_
    have q:=(I9.pin (b,o) (vJ _ (vJ _ (gq hb e)))).1
    exact (hsb.2 b (vR (hfs b hb))).trans q
   ·obtain ⟨o,e,d⟩:=T.obj _ _ st7 b hb
    exact (I9.pin (b,o) (vJ _ (vJ _ (gq hb e)))).2.1
 exact codeAny_compStart_list (loop _ rfl) (T.self X.A 0 _ _ _ (T.keep _ _ _ st2 λb hb o e=>kp b o e) (loop _ rfl))
theorem eI {elt target iter:Expr} {scope:Scope} {pos:Pos} {wi:TI} {g:Blk->TG} {te:Blk->TE} (Nx:za) (ts:za) (ix:List Nat)
  (hc:X.calm=true) (hi:PI X target iter wi) (hg:∀ b,PG (ba X (bN Nx ts ix) scope b) target (g b)) (he:∀ b,PE (ba X (bN Nx ts ix) scope b) elt (te b))
  (hNx:X.N=Nx) (ok:BlkOk Nx X.env.scope scope ix) (hs:∀ x,foldedSetIterable iter X.env x=pure x:=by intro _; rfl) :
  PE X (.ListComp elt [⟨target,iter,[],0⟩] scope pos) (ik wi ts.length ix g te):=by
 intro pins s σ H Q I h
 obtain ⟨cl,hcl,cl1,cl2⟩:=qp (scope:=scope) (env:=X.env) λy hy hf=>I.ok.has y.1 (ok.frees y hy hf)
 rw [eval_ListComp]
 refine wpAny_comprehension_free (use:=none) rfl hs hcl ok.kind ok.locs (thn (hi pins s σ H _ I h) λv s1 h1=>thn h1 λitv s2 h2=>?_)
 refine ZcK (R:=λacc C=>compPost (model X.prog X.w) X.A X.xe none (EP X pins σ Q) acc C) hc hg he hNx ok cl1 cl2 h2 ?_
 rintro D C H' s' v I' rfl q ⟨m,hm⟩ hn hL h0 hcl' hp
 exact ⟨m,hm,λh' hsb=>⟨.ref D,H',I'.turned (it:=C) (t':=s'.toks) (λb o hb e=>(hsb.2 b hb).trans e) hn hL (.inr h0) hcl' hp,rfl,q⟩⟩
theorem sI {elt target iter:Expr} {scope:Scope} {pos pos' spos:Pos} {wi:TI} {g:Blk->TG} {te:Blk->TE} {i:Nat} {x:Str} (Nx:za) (ts:za) (ix:List Nat)
  (hc:X.calm=true) (hN:X.N.Nodup) (hix:X.N[i]?=some x) (hx:X.env.scope.names.lookup x=some .local) (hi:PI X target iter wi) (hg:∀ b,PG (ba X (bN Nx ts ix) scope b) target (g b)) (he:∀ b,PE (ba X (bN Nx ts ix) scope b) elt (te b))
  (hNx:X.N=Nx) (ok:BlkOk Nx X.env.scope scope ix) (hsw:swapsWith (.ListComp elt [⟨target,iter,[],0⟩] scope pos) (some (.Name x pos')) spos.line X.env=pure true) (hs:∀ x,foldedSetIterable iter X.env x=pure x:=by intro _; rfl) :
  PS X (.Assign [.Name x pos'] (.ListComp elt [⟨target,iter,[],0⟩] scope pos) spos) (gj (ik wi ts.length ix g te) (hI i)):=by
 intro pins s σ H D0 I h
 obtain ⟨cl,hcl,cl1,cl2⟩:=qp (scope:=scope) (env:=X.env) λy hy hf=>I.ok.has y.1 (ok.frees y hy hf)
 rw [exec_Assign_Name_used _ _ _ _ hsw]
 refine wpAny_bind (wpAny_standAt (wpAny_bind ?_))
 show wpAny _ X.A (do let _ <- comprehension (.ListComp elt [⟨target,iter,[],0⟩] scope pos) scope X.env _ (newList []) false (eval iter X.env) (some (assign (.Name x pos') X.env))) _ _ s
 refine wpAny_bind (thn (wpAny_comprehension_free (use:=some (assign (.Name x pos') X.env)) (Q:=λ_ s'=>SP X pins D0 .next s') rfl hs hcl ok.kind ok.locs (thn (hi pins s σ H _ I h) λv s1 h1=>thn h1 λitv s2 h2=>?_)) λ_ s' hq=>wpAny_pure (wpAny_pure hq))
 refine ZcK (R:=λacc C=>compPost (model X.prog X.w) X.A X.xe (some (assign (.Name x pos') X.env)) (λ_ s'=>SP X pins D0 .next s') acc C) (Q:=λx H1=>hI i x σ H1 D0.nx) hc hg he hNx ok cl1 cl2 h2 ?_
 rintro D C H' s' v I' rfl q ⟨m,hm⟩ hn hL h0 hcl' hp
 show wpAny _ X.A (assign (.Name x pos') X.env (.ref D)) _ _ _
 refine wpAny_assign_Name (ZaV I' hN hix (.inl hx) (show RelV (.ref D) (.ref D) from rfl) (λs'' I'' hch=>?_) (.inr hx))
 obtain ⟨a,hsb,ha⟩:=hch
 have haC:C≠a:=by
  rcases ha with z | z
  ·rw [z]; exact hL
  ·exact λe=>hcl' _ _ z e.symm
 exact ⟨m,hm.sameBut hsb haC,λh'' hs''=>⟨_,H',I''.turned (it:=C) (t':=s''.toks) (λb o hb e=>(hs''.2 b hb).trans e) hn hL (.inr h0) hcl' hp,q⟩⟩
end
mutual
/-- the value bears the datum -/
inductive Dn (H:Hp):V->PyData->Prop
 | non:Dn H .non .none
 | bl (b:Bool):Dn H (.bl b) (.bool b)
 | int (i:Int):Dn H (.int i) (.int i)
 | str (x:Str):Dn H (.str x) (.str x)
 | tup {a:Addr} {xs:zb} {ds:y6}:H a=some (.tup xs)->DnAll H xs ds->Dn H (.ref a) (.tuple ds)
 | lst {a:Addr} {xs:zb} {ds:y6}:H a=some (.lst xs)->DnAll H xs ds->Dn H (.ref a) (.list ds)
 | dct {a:Addr} {ks:List (aA×V)} {ds:y6}:Rd H a (.dK ks)->DnAll H (ks.map (·.2)) ds->Dn H (.ref a) (.dict ((ks.map λk=>match k.1 with | .inl i=>PyData.int i | .inr x=>PyData.str x).zip ds))
inductive DnAll (H:Hp):List V->List PyData->Prop
 | nil:DnAll H [] []
 | cons {v:V} {vs:zb} {d:PyData} {ds:y6}:Dn H v d->DnAll H vs ds->DnAll H (v::vs) (d::ds)
end
mutual
theorem Dn.mono {H H':Hp} (e:∀ b o,H b=some o->H' b=some o):∀ {v:V} {d:PyData},Dn H v d->Dn H' v d
 | _,_,.non=>.non
 | _,_,.bl b=>.bl b
 | _,_,.int i=>.int i
 | _,_,.str x=>.str x
 | _,_,.tup h r=>.tup (e _ _ h) (DnAll.mono e r)
 | _,_,.lst h r=>.lst (e _ _ h) (DnAll.mono e r)
 | _,_,.dct h r=>.dct (h.imp (e _ _) λ⟨o,h⟩=>⟨o,e _ _ h⟩) (DnAll.mono e r)
theorem DnAll.mono {H H':Hp} (e:∀ b o,H b=some o->H' b=some o):∀ {vs:zb} {ds:y6},DnAll H vs ds->DnAll H' vs ds
 | _,_,.nil=>.nil
 | _,_,.cons r t=>.cons (Dn.mono e r) (DnAll.mono e t)
end
theorem DnAll.ints {H:Hp}:∀ ns:y8,DnAll H (ns.map V.int) (ns.map PyData.int)
 | []=>.nil
 | n::ns=>.cons (.int n) (DnAll.ints ns)
theorem DnAll.length {H:Hp} {vs:zb} {ds:y6} (h:DnAll H vs ds):vs.length=ds.length:=by
 induction vs generalizing ds with
 | nil=>cases h; rfl
 | cons v vs ih=>cases h with | cons r t=>exact congrArg (·+1) (ih t)
theorem DnAll.append {H:Hp} {vs ws:zb} {ds es:y6} (h:DnAll H vs ds) (s:DnAll H ws es):DnAll H (vs++ws) (ds++es):=by
 induction vs generalizing ds with
 | nil=>cases h; exact s
 | cons v vs ih=>cases h with | cons r t=>exact .cons r (ih t)
mutual
/-- data without dicts -/
theorem Dn.reads {P:Program} {w:World} {H:Hp} {h:Heap} (ok:HOk P w H h):∀ {v:V} {d:PyData} {u:Value},Dn H v d->d.hasDict=false->RelV v u->∃ as,Reads h u d as
 | _,_,_,.non,_,r=>by cases r; exact ⟨_,.none⟩
 | _,_,_,.bl b,_,r=>by cases r; exact ⟨_,.bool b⟩
 | _,_,_,.int i,_,r=>by obtain ⟨t,rfl⟩:=r; exact ⟨_,.int i t⟩
 | _,_,_,.str x,_,r=>by obtain ⟨t,rfl⟩:=r; exact ⟨_,.str x t⟩
 | _,_,_,.tup e rs,hd,r=>by
  cases r
  obtain ⟨z,its,rv,o,h1,h2,n,h3⟩:=ok _ _ e
  obtain ⟨as,q⟩:=DnAll.reads ok rs (by simpa [PyData.hasDict] using hd) rv
  exact ⟨_,.tuple h1 h2 h3 (by simpa using q)⟩
 | _,_,_,.lst e rs,hd,r=>by
  cases r
  obtain ⟨z,its,n,rv,h1⟩:=ok _ _ e
  obtain ⟨as,q⟩:=DnAll.reads ok rs (by simpa [PyData.hasDict] using hd) rv
  exact ⟨_,.list h1 rfl rfl (by simpa using q)⟩
 | _,_,_,.dct e rs,hd,r=>by simp [PyData.hasDict] at hd
theorem DnAll.reads {P:Program} {w:World} {H:Hp} {h:Heap} (ok:HOk P w H h):∀ {vs:zb} {ds:y6} {us:y9},DnAll H vs ds->PyData.hasDictAll ds=false->Vals vs us->∃ as,ReadsAll h us ds as
 | _,_,_,.nil,_,r=>by cases r; exact ⟨_,.nil⟩
 | _,_,_,.cons p t,hd,r=>by
  cases r with
  | cons r1 r2 =>
   simp only [PyData.hasDictAll,Bool.or_eq_false_iff] at hd
   obtain ⟨as,q⟩:=Dn.reads ok p hd.1 r1
   obtain ⟨bs,q2⟩:=DnAll.reads ok t hd.2 r2
   exact ⟨_,.cons q q2⟩
end
section
variable {X:Cx}
theorem Zjl {k:Nat} (hr:Room k X.A):OpR X (compareOp .Eq) (λx y H Q=>∃ d e,Dn H x d/\Dn H y e/\SeqAt.shaped d=true/\SeqAt.shaped e=true/\Q (.bl (PyData.eqv d e)) H):=by
 intro pins s σ H x y v u Q I rx ry h
 obtain ⟨d,e,hd,he,sd,se,q⟩:=h
 obtain ⟨as,r1⟩:=Dn.reads I.hok hd (wu _ (v8 sd)) rx
 obtain ⟨bs,r2⟩:=Dn.reads I.hok he (wu _ (v8 se)) ry
 exact SeqAt.compareEq_shaped r1 r2 sd se hr.units ⟨.bl _,H,I,rfl,q⟩
theorem Zcj {k:Nat} (hr:Room k X.A):OpR X (compareOp .NotEq) (λx y H Q=>∃ d e,Dn H x d/\Dn H y e/\SeqAt.shaped d=true/\SeqAt.shaped e=true/\Q (.bl (!PyData.eqv d e)) H):=by
 intro pins s σ H x y v u Q I rx ry h
 obtain ⟨d,e,hd,he,sd,se,q⟩:=h
 obtain ⟨as,r1⟩:=Dn.reads I.hok hd (wu _ (v8 sd)) rx
 obtain ⟨bs,r2⟩:=Dn.reads I.hok he (wu _ (v8 se)) ry
 exact SeqAt.compareNe_shaped r1 r2 sd se hr.units ⟨.bl _,H,I,rfl,q⟩
theorem Zen:CallR X (.type "range") (λxs H Q=>∃ i j:Int,xs=[.int i,.int j]/\∀ p,H p=none->Q (.ref p) (upd H p (.rng i j))):=by
 intro pins s σ H xs us Q I r h
 obtain ⟨i,j,rfl,q⟩:=h
 cases r with
 | cons r1 rr =>
  cases rr with
  | cons r2 rr =>
   cases rr
   obtain ⟨t,rfl⟩:=r1
   obtain ⟨u,rfl⟩:=r2
   refine call_range_2 ?_
   exact ⟨.ref s.heap.objs.size,_,I.laid (t':=s.toks+1) (λb o e=>vA _ e) (vF _) (show ObjOk X.prog X.w _ _ _ (.rng i j) from ⟨t,u,s.toks,vI _ rfl⟩),rfl,q _ (I.hok.fresh (vF _))⟩
noncomputable def fJ (lo:Int) (n:Nat):zb:=(List.range n).map λ(k:Nat)=>V.int (lo+(k:Int))
theorem ZfZ (lo:Int):∀ (n:Nat) (l:y9),l.length=n->(∀ (j:Nat) (v:Value),l[j]?=some v->∃ t,v=Value.int (lo+(j:Int)) t)->Vals (fJ lo n) l:=by
 intro n
 unfold fJ
 induction n with
 | zero =>
  intro l hl _
  have e:l=[]:=wP.mp hl
  subst e
  exact .nil
 | succ n ih =>
  intro l hl hl2
  obtain ⟨l',x,rfl⟩:∃ l' x,l=l'++[x]:=⟨l.dropLast,l.getLast (by intro e; rw [e] at hl; cases hl),(yy _).symm⟩
  have hl':l'.length=n:=by rw [vW] at hl; simpa using hl
  rw [yB,wk]
  refine Vals.append (ih l' hl' λj v hv=>hl2 j v (by rw [v9 (vH.mp hv).1]; exact hv)) (.cons ?_ .nil)
  obtain ⟨t,e⟩:=hl2 n x (by rw [wl (by omega),hl',Nat.sub_self]; rfl)
  exact ⟨t,e⟩
end
structure Def (K:yS) (mg:zc) (x:Str) (st:Stmt) (ps:za):Prop where
 ex:∃ f fd,Fun K x x st f fd/\mg x=some (.ref f)/\Binds K fd ps []
structure Callee (P:Program) (w:World) (K:yS) (mg:zc) (base:Heap) (x:Str) (k:Nat) (ps:za) (sp:Sp):Prop where
 ex:∃ f fd,FnOk P w K mg base ja k f fd ps sp/\mg x=some (.ref f)/\PySem.W.keepIn K (.ref f)=true/\Binds K fd ps []
section
variable {P:Program} {w:World} {K:yS} {mg:zc} {base:Heap}
theorem Def.ok {x:Str} {st:Stmt} {N ps:za} {k:Nat} {sp:Sp} (D:Def K mg x st ps) (S:FnScope N ps (aI st)) (len:∀ vs H Q E,sp vs H Q E->vs.length=ps.length)
  (hbody:∀ (f:Addr) (cdv:Value) (A:Around) (outer:List Env) (s:Shared) (H:Hp) (vs:zb) (Q:VK) (E:XK),Room k (A.deeper (envOfC x (aI st) s.heap.objs.size f cdv))->sp vs H Q E ->
   ∃ t,PSs (cS ja P w K mg base N x (aI st) f cdv A outer s H E).nox (fQ st) t/\t { nx:=λ_ H'=>Q .non H',rt:=Q } (start N vs) H):Callee P w K mg base x (k+1) ps sp:=by
 obtain ⟨f,fd,F,hm,hb⟩:=D.ex
 exact ⟨f,fd,F.ok S len λcdv A outer s H vs Q E hr h=>hbody f cdv A outer s H vs Q E hr h,hm,F.kp,hb⟩
theorem bq {x:Str} {st:Stmt} {ps:za} {h:Heap} {f:Addr} {oc:Value} {od an:Option Addr} {osl:Array (Option Value)} {kV doc pm cdv ct:Value} (X:K.In h) (G:h.Ns mainGlobals mg)
  (a:PySem.W.nsIn K mainGlobals x=some (some (.ref f))) (l:K.lookup f=some ⟨oc,od,.func (PySem.W.fnOf x x (kK st) (fQ st) (aI st) .none kV doc pm an cdv ct),osl⟩)
  (c:PySem.W.codeIn K cdv x=true) (k:PySem.W.keepIn K (.ref f)=true)
  (hb:∀ (kV doc pm:Value) (an:Option Addr) (cdv ct:Value) (us:y9),us.length=ps.length->bindArgs (PySem.W.fnOf x x (kK st) (fQ st) (aI st) .none kV doc pm an cdv ct) ⟨us,[]⟩=pure (ps.zip us)):Def K mg x st ps:=by
 have F:=Zlx (st:=st) l c k
 exact ⟨f,_,F,v6 X G a,F.binds hb⟩
end
section
variable {X:Cx} {x:Str} {k:Nat} {ps:za} {sp:Sp} {e:Expr} {es:List Expr} {t:TA} {p pos:Pos}
theorem Zb9 (C:Callee X.prog X.w X.K X.mg X.base x k ps sp) (hr:Room k X.A) (hg:Gl X x) (ha:PA X (e::es) t) (hdb:(x == ("__debug__":Str))=false:=by decide)
  (he:starEach (e::es) X.env=(false,eval e X.env)::starEach es X.env:=by rfl) (hpl:(backTo pos (starEach es X.env)).any (·.1)=false:=by rfl):PE X (.Call (.Name x p) (e::es) [] pos) (ZaM sp [] E0 t):=by
 obtain ⟨f,fd,F,hm,hk,hb⟩:=C.ex
 exact Zca F hr hg hm hk hb .nil Zi2 ha hdb he hpl
theorem ZiQ {i:Int} (hg:Gl X x) (h:∃ t,X.mg x=some (.int i t)) (hd:(x == ("__debug__":Str))=false:=by decide):PE X (.Name x pos) (tC (.int i)):=by
 obtain ⟨t,e⟩:=h
 exact fK hg e ⟨t,rfl⟩ hd
end
def ZgC (t:TS):TS:=λD σ H=>∃ J:St->Hp->Prop,t { D with nx:=J } σ H/\∀ σ' H',J σ' H'->D.nx σ' H'
def ZgB (t:TT):TT:=λσ H Q=>∃ J:Bool->Hp->Prop,t σ H J/\∀ b H',J b H'->Q b H'
section
variable {X:Cx} {st:Stmt} {e:Expr}
theorem PS.join {t:TS} (h:PS X st t):PS X st (ZgC t):=by
 rintro pins s σ H D I ⟨J,q,hJ⟩
 refine thn (h pins s σ H _ I q) λf s' z=>?_
 cases f with
 | next=>obtain ⟨σ',H',I',q'⟩:=z; exact ⟨σ',H',I',hJ _ _ q'⟩
 | brk=>exact z
 | cont=>exact z
 | ret u=>exact z
theorem PT.join {t:TT} (h:PT X e t):PT X e (ZgB t):=by
 rintro pins s σ H Q I ⟨J,q,hJ⟩
 refine thn (h pins s σ H _ I q) λb s' ⟨H',I',q'⟩=>⟨H',I',hJ _ _ q'⟩
end
noncomputable def bR (c:Addr) (at' left:Int):List (aA×V):=[(Sum.inr "script",.ref c),(Sum.inr "at",.int at'),(Sum.inr "left",.int left)]
structure Pen (H:Hp) (p c:Addr) (ns:y8) (m:Nat):Prop where
 ex:∃ (k:Nat) (left:Int),H p=some (.dK (bR c k left))/\k<=m/\0<=left
 cells:H c=some (.lst (ns.map V.int))
 len:ns.length<=63
theorem ne1:¬ ((Sum.inr ("script":Str):aA)=(Sum.inr ("at":Str):aA)):=by trivial
theorem kA:¬ ((Sum.inr ("script":Str):aA)=(Sum.inr ("left":Str):aA)):=by trivial
theorem tG:¬ ((Sum.inr ("at":Str):aA)=(Sum.inr ("left":Str):aA)):=by trivial
theorem ZiG (c:Addr) (a l:Int):eF (bR c a l) (Sum.inr "script":aA)=some (.ref c):=j7 rfl
theorem Zb7 (c:Addr) (a l:Int):eF (bR c a l) (Sum.inr "at":aA)=some (.int a):=by
 unfold bR
 rw [j8 ne1,j7 rfl]
theorem Zb6 (c:Addr) (a l:Int):eF (bR c a l) (Sum.inr "left":aA)=some (.int l):=by
 unfold bR
 rw [j8 kA,j8 tG,j7 rfl]
theorem ZiI (c:Addr) (a l b:Int):cW (bR c a l) (Sum.inr "at":aA) (.int b)=bR c b l:=by
 have h:((bR c a l).any λkv=>decide (kv.1=(Sum.inr "at":aA)))=true:=by rw [nK,Zb7]; rfl
 unfold cW
 rw [if_pos h]
 unfold bR
 simp only [vG,wR,if_neg ne1,if_neg (Ne.symm tG),if_true]
theorem ZiH (c:Addr) (a l b:Int):cW (bR c a l) (Sum.inr "left":aA) (.int b)=bR c a b:=by
 have h:((bR c a l).any λkv=>decide (kv.1=(Sum.inr "left":aA)))=true:=by rw [nK,Zb6]; rfl
 unfold cW
 rw [if_pos h]
 unfold bR
 simp only [vG,wR,if_neg kA,if_neg tG,if_true]
section
variable {H:Hp} {p c:Addr} {a l b:Int}
theorem Zp0 (h:H p=some (.dK (bR c a l))):DGet H p (.str "script") (some (.ref c)):=by
 have q:=DGet.k (k:=(Sum.inr "script":aA)) h
 rw [ZiG] at q
 exact q
theorem Zp1 (h:H p=some (.dK (bR c a l))):DGet H p (.str "at") (some (.int a)):=by
 have q:=DGet.k (k:=(Sum.inr "at":aA)) h
 rw [Zb7] at q
 exact q
theorem uG (h:H p=some (.dK (bR c a l))):DGet H p (.str "left") (some (.int l)):=by
 have q:=DGet.k (k:=(Sum.inr "left":aA)) h
 rw [Zb6] at q
 exact q
theorem ZpV (h:H p=some (.dK (bR c a l))):DPut H p (.str "at") (.int b) (upd H p (.dK (bR c b l))):=by
 have q:=DPut.k (k:=(Sum.inr "at":aA)) (v:=V.int b) h (by show 3 < sizeLine; decide)
 rw [ZiI] at q
 exact q
theorem ZdO (h:H p=some (.dK (bR c a l))):DPut H p (.str "left") (.int b) (upd H p (.dK (bR c a b))):=by
 have q:=DPut.k (k:=(Sum.inr "left":aA)) (v:=V.int b) h (by show 3 < sizeLine; decide)
 rw [ZiH] at q
 exact q
end
def Kept (p:Addr) (H H':Hp):Prop:=∀ b o,H b=some o->b≠p->H' b=some o
theorem Kept.refl {p:Addr} {H:Hp}:Kept p H H:=λ_ _ h _=>h
theorem Kept.new {p q:Addr} {H H':Hp} {o:HO} (a:Kept p H H') (hq:H' q=none):Kept p H (upd H' q o):=λc u h n=>by
 have e:=a c u h n
 rw [aK (cH e hq)]
 exact e
theorem Kept.pen {p:Addr} {H H':Hp} {o:HO} (a:Kept p H H'):Kept p H (upd H' p o):=λc u h n=>by
 rw [aK n]
 exact a c u h n
theorem Same.new {q:Addr} {H H':Hp} {o:HO} (a:Same H H') (hq:H' q=none):Same H (upd H' q o):=λc u h=>by
 have e:=a c u h
 rw [aK (cH e hq)]
 exact e
def ZaY:Sp:=λvs H Q _=>∃ (p c:Addr) (ns:y8) (m:Nat) (most:Int),vs=[.ref p,.int most]/\Pen H p c ns m/\m<=500000/\0 < most/\most < 1073741824 /\
 ∀ (r:Int) (H':Hp),0<=r->r < most->Pen H' p c ns (m+1)->Kept p H H'->Q (.int r) H'
def ZgV (K:yS):Sp:=λvs H Q _=>∃ (a:Addr) (ns:y8),vs=[.ref a]/\SqL K H a (ns.map V.int)/\ns.length<=63 /\
 ∀ (p c:Addr) (H':Hp),H p=none->Pen H' p c ns 0->Same H H'->Q (.ref p) H'
theorem Za9 (ns:y8):SeqAt.shaped (.list (ns.map PyData.int))=true:=by
 have h1:PyData.canLayAll0 (ns.map PyData.int)=true:=by
  induction ns with
  | nil=>rfl
  | cons n r ih=>simp [PyData.canLayAll0,PyData.canLay0,ih]
 have h2:PyData.depthAll (ns.map PyData.int)=0:=by
  induction ns with
  | nil=>rfl
  | cons n r ih=>simp [PyData.depthAll,PyData.depth]; exact ih (by
    have:=h1
    simp [PyData.canLayAll0] at this
    exact this.2)
 simp [SeqAt.shaped,PyData.canLay0,PyData.depth,h1,h2]
theorem Zpm (ns:y8):PyData.eqv (.list (ns.map PyData.int)) (.list [])=ns.isEmpty:=by
 cases ns with
 | nil=>rfl
 | cons n r=>rfl
section
variable {prog:Program} {w:World} {A:Around} {E:y4} {s:Shared} {r:Addr} {a b c:Int} {t u v:Tok} {n:Nat}
theorem ZqP {Q:List Value->Shared->Prop} (hh:A.handled=none) (hr:IsRange s.heap r a b c t u v) (hs:Builtin.Range.small a b c=true) (hn:Builtin.Range.rangeSize a b c=n) (hl:n<=2 ^ 24)
  (hQ:∀ (h':Heap) (tk:Nat) (acc:Array Value),(∀ b o,s.heap.get? b=some o->h'.get? b=some o)->ItemsOf (λi v=>∃ t,v=.int (a+i * c) t) acc n->Q acc.toList { s with heap:=h',toks:=tk }):wpAny (model prog w) A (collect (.ref r)) Q E s:=by
 unfold collect; apply wpAny_bind; apply wpAny_runValue; refine codeAny_builtin F.entry_proto_collect ?_
 rw [wS F.plain_proto_collect _]
 show wpAny _ A.in1 (newList [] >>= λz=>again (.builtin "list.__iadd__" ⟨[z,.ref r],[]⟩)) _ _ s
 refine wpAny_bind (wpAny_newObj_type (wpAny_pure ⟨plainId_quiet F.plain_list_iadd _,codeAny_builtin F.entry_list_iadd ?_⟩))
 rw [wS F.plain_list_iadd _]
 show wpAny _ A.in1 (Builtin.List.listExtendWith (.ref s.heap.objs.size) (.ref r) (.ref s.heap.objs.size)) _ _ { s with heap:=s.heap.push { cls:=.type "list",data:=.seq ([]:y9).toArray } }
 let R:Result->Shared->Prop:=λz s'=>match z with
  | .ok (.ret v)=>wpAny (model prog w) A (match v with
   | .ref q=>(do match (<- load q).data with
    | .seq xs _=>pure xs.toList
    | _=>unsupported "internal:collect")
   | _=>unsupported "internal:collect") Q E s'
  | .ok _=>False
  | .error e=>E e s'
 refine wpAny_extend_range (R:=R) (s:={ s with heap:=s.heap.push { cls:=.type "list",data:=.seq ([]:y9).toArray } }) hh (vA _ hr) hs hn hl _ _ _ (show (s.heap.push { cls:=.type "list",data:=.seq ([]:y9).toArray }).get? s.heap.objs.size=some { cls:=.type "list",data:=.seq #[] } from vI _ rfl) λh' tk acc c' hk hS hacc=>?_
 show wpAny _ A (load s.heap.objs.size >>= _) _ _ { s with heap:=h',toks:=tk }
 exact wpAny_bind (wpAny_load hS (wpAny_pure (hQ h' tk acc (λb o e=>hk b o (vR (vM e)) (vA _ e)) hacc)))
theorem Zgb {Q:y4} (hh:A.handled=none) (hr:IsRange s.heap r a b c t u v) (hs:Builtin.Range.small a b c=true) (hn:Builtin.Range.rangeSize a b c=n) (hl:n<=2 ^ 24)
  (hQ:∀ (h':Heap) (tk:Nat) (acc:Array Value),(∀ b o,s.heap.get? b=some o->h'.get? b=some o)->ItemsOf (λi v=>∃ t,v=.int (a+i * c) t) acc n->Q (.ref h'.objs.size) { s with heap:=h'.push { cls:=.type "tuple",data:=.seq acc },toks:=tk }) :
  wpAny (model prog w) A (call (.type "tuple") [.ref r]) Q E s:=by
 refine callType_codes (Q₁:=λz s1=>s1.TypeIs z "tuple"/\Q z s1) F.called_tuple (F.typeCall_tuple_1 _) F.entry_object_init ?_ λz s1 h1=>?_
 ·apply codeAny_of_tree
  show wpAny _ A.in1.in1 (do checkBuiltinCall "tuple.__new__" ⟨[.type "tuple",.ref r],[]⟩; again (.builtin "tuple.__new__" ⟨[.type "tuple",.ref r],[]⟩)) _ _ s
  refine wpAny_bind (wpAny_of_eq (F.newCall_tuple_1 _) (wpAny_pure ⟨plainId_quiet F.plain_tuple_new _,codeAny_builtin F.entry_tuple_new ?_⟩))
  rw [wS F.plain_tuple_new _]
  have f1:=sub_tuple_self; have f2:=init_tuple_lookup; have f3:=madeHere_tuple
  have fT:s.TypeIs (.ref r) "range":=⟨_,hr,rfl⟩
  wp_walk using wpAny_typeOf fT,ZqP (A:=A.in1.in1) hh hr hs hn hl
  intro h' tk acc hk hacc
  show wpAny _ _ (Builtin.Tuple.tupleExact acc.toList.toArray >>= λz=>ret z) _ _ _
  unfold Builtin.Tuple.tupleExact
  have e:acc.toList.toArray=acc:=by simp
  rw [e]
  refine wpAny_bind (wpAny_newObj_type (wpAny_pure ⟨⟨_,vI _ rfl,rfl⟩,hQ h' tk acc hk hacc⟩) ?_)
  show acc.size<=sizeLine
  rw [hacc.1,sizeLine_eq]
  exact hl
 ·exact ⟨h1.1,yq z _,object_init_meets F.called_tuple.init.lookup F.called_tuple.made (by decide) prog w A.in1 _ s1 ⟨h1.1,rfl,h1.2⟩⟩
end
section
variable {X:Cx}
theorem ZqW (hh:X.A.handled=none):CallR X (.type "tuple") (λxs H Q=>∃ a lo hi,xs=[.ref a]/\H a=some (.rng lo hi)/\-(2 ^ 62)<=lo/\lo < 2 ^ 62/\-(2 ^ 62)<=hi/\hi < 2 ^ 62/\(hi - lo).toNat<=1000/\∀ p,H p=none->Q (.ref p) (upd H p (.tup (fJ lo (hi - lo).toNat)))):=by
 intro pins s σ H xs us Q I r h
 obtain ⟨a,lo,hi,rfl,ha,b1,b2,b3,b4,hn,q⟩:=h
 obtain ⟨u,rfl,ru⟩:=ek r
 cases ru
 obtain ⟨t,u,v,e⟩:=I.hok a _ ha
 have hsz:Builtin.Range.rangeSize lo hi 1=(((hi - lo).toNat:Nat):Int):=by rw [rangeSize_one]; split <;> omega
 refine Zgb hh (r:=a) (t:=t) (u:=u) (v:=v) e (small_one b1 b2 b3 b4) hsz (by omega) λh' tk acc hk hacc=>?_
 have I1:Inv X pins σ H { s with heap:=h',toks:=tk }:=I.kept hk
 have hv:Vals (fJ lo (hi - lo).toNat) acc.toList:=ZfZ lo _ _ (by simpa using hacc.1) λj v hv=>by
  obtain ⟨t,e⟩:=hacc.2 j v (by simpa using hv)
  exact ⟨t,by rw [e,Int.mul_one]⟩
 have hz:(fJ lo (hi - lo).toNat).length<=sizeLine:=by
  unfold fJ
  rw [vB,xV]
  exact vO hn (by decide)
 refine ⟨.ref h'.objs.size,_,I1.laid (h':=h'.push { cls:=.type "tuple",data:=.seq acc }) (t':=tk) (λb o e=>vA _ e) (vF _) (show ObjOk X.prog X.w _ _ _ (.tup (fJ lo (hi - lo).toNat)) from ⟨hz,acc.toList,hv,⟨_,vI _ rfl,rfl,0,by simp⟩⟩),rfl,q _ (I1.hok.fresh (vF _))⟩
theorem ZjF:fillsNumberSlot (.type "tuple") "mul"=pure false :=
 PySem.fillsNumberSlot_seq (id:="tuple.__mul__") (r:=some (.builtin "tuple.__rmul__")) PySem.F.slot_tuple_mul.lookup (by trivial) PySem.F.slot_tuple_rmul.lookup (by trivial)
theorem Zh1:seqRepeat? (.type "tuple")=pure (some (.builtin "tuple.__mul__")):=by
 unfold seqRepeat?
 rw [PySem.seqSlot_of (T:="tuple") (name:="__mul__") (id:="tuple.__mul__") PySem.F.slot_tuple_mul.lookup (by trivial),PySem.seqSlot_of (T:="tuple") (name:="__rmul__") (id:="tuple.__rmul__") PySem.F.slot_tuple_rmul.lookup (by trivial)]; rfl
theorem ZhW (x:Int) (t:Tok) (l:Addr) (items:Array Value) (n:Nat) (dd:Option Addr) (sl:Array (Option Value)) :
  Meets (Builtin.«int.__rmul__» ⟨[.int x t,.ref l],[]⟩) (λ_ R s=>s.heap.get? l=some { cls:=.type "tuple",dict:=dd,data:=.seq items n,slots:=sl }/\R (.ok (.ret Value.notImplemented)) s):=by
 refine .of_wp λprog w A R s h=>?_
 obtain ⟨hp,g,d,tk,os⟩:=s
 obtain ⟨hl,h⟩:=h
 wp_walk
 exact ⟨_,rfl,h⟩
theorem ZjT (x:Int) (t:Tok) (l:Addr) (items:Array Value) (n:Nat) (dd:Option Addr) (sl:Array (Option Value)) (h1:1 < x) (h2:x<=1000) (h3:items.isEmpty=false) (h4:items.size<=1000) :
  Meets (Builtin.«tuple.__mul__» ⟨[.ref l,.int x t],[]⟩) (λ_ R s=>s.heap.get? l=some { cls:=.type "tuple",dict:=dd,data:=.seq items n,slots:=sl } /\
   R (.ok (.ret (.ref s.heap.objs.size))) { s with heap:=s.heap.push { cls:=.type "tuple",data:=.seq ((List.replicate x.toNat items).foldl (·++·) #[]) } }):=by
 refine .of_wp λprog w A R s h=>?_
 obtain ⟨hp,g,d,tk,os⟩:=s
 obtain ⟨hl,h⟩:=h
 have hp0:0<=(items.size:Int) * x:=xT (by omega) (by omega)
 have hp1:(items.size:Int) * x<=1000 * 1000:=Int.mul_le_mul (by omega) h2 (by omega) (by omega)
 have hne:items.size≠0:=λe=>by simp [Array.isEmpty,e] at h3
 wp_walk
 refine wpAny_ite_split (λz=>absurd z (by simp; omega)) (λ_=>?_)
 refine wpAny_bind ?_
 unfold Builtin.Tuple.tupleItemsOf
 refine wpAny_bind (wpAny_seqItems hl rfl (wpAny_pure ?_))
 refine wpAny_ite_split (λz=>absurd z (by rw [h3]; simp; omega)) (λ_=>?_)
 refine wpAny_ite_split (λz=>absurd z (by rw [h3]; simp; omega)) (λ_=>?_)
 refine wpAny_ite_split (λz=>absurd z (by omega)) (λ_=>?_)
 refine wpAny_ite_split (λz=>absurd z (by unfold Builtin.Tuple.tupleTooMany; rw [sizeLine_eq]; simp; omega)) (λ_=>?_)
 unfold Builtin.Tuple.tupleExact
 have hlen:∀ k:Nat,((List.replicate k items).foldl (·++·) #[]).size=k * items.size:=λk=>by
  have key:∀ (k:Nat) (acc:Array Value),((List.replicate k items).foldl (·++·) acc).size=acc.size+k * items.size:=by
   intro k
   induction k with
   | zero=>intro acc; simp
   | succ k ih =>
    intro acc
    rw [wj,xJ,ih,Array.size_append,xl]
    omega
  simpa using key k #[]
 refine wpAny_bind (wpAny_newObj_type (wpAny_pure ⟨_,rfl,h⟩) ?_)
 show ((List.replicate x.toNat items).foldl (·++·) #[]).size<=sizeLine
 rw [hlen,sizeLine_eq]
 have hx:x.toNat<=1000:=by omega
 exact vO (Nat.mul_le_mul hx h4) (by decide)
noncomputable def ZbB (K:yS):R2:=λx y H Q=>∃ a k xs,x=.ref a/\y=.int k/\SqT K H a xs/\1 < k/\k<=1000/\xs≠[]/\xs.length<=1000/\∀ p,H p=none->Q (.ref p) (upd H p (.tup (List.replicate k.toNat xs).flatten))
theorem Zau {xs:zb} {us:y9} (r:Vals xs us):∀ k:Nat,Vals (List.replicate k xs).flatten (List.replicate k us).flatten
 | 0=>.nil
 | k+1=>by
  rw [wj,wj,wv,wv]
  exact r.append (Zau r k)
theorem Zi8:OpR X (binaryOp .Mult) (ZbB X.K):=by
 intro pins s σ H x y v u Q I rx ry h
 obtain ⟨a,k,xs,rfl,rfl,hq,h1,h2,hne,hl,q⟩:=h
 cases rx
 obtain ⟨t,rfl⟩:=ry
 obtain ⟨its,rv,p,hz⟩:=I.tuple hq
 obtain ⟨o,ho,hc,n,hd⟩:=p
 obtain ⟨oc,od,odd,osl⟩:=o
 have hc':oc=.type "tuple":=hc
 have hd':odd=.seq its.toArray n:=hd
 subst hc' hd'
 have hlen:=rv.length
 have hemp:its.toArray.isEmpty=false:=by
  cases its with
  | nil=>cases rv; exact absurd rfl hne
  | cons i r=>rfl
 have efl:(List.replicate k.toNat its.toArray).foldl (·++·) #[]=(List.replicate k.toNat its).flatten.toArray:=by
  have key:∀ (k:Nat) (acc:Array Value),(List.replicate k its.toArray).foldl (·++·) acc=acc++(List.replicate k its).flatten.toArray:=by
   intro k
   induction k with
   | zero=>intro acc; simp
   | succ k ih =>
    intro acc
    rw [wj,xJ,ih,wj,wv]
    simp
  simpa using key k.toNat #[]
 refine wpAny_binaryOp_repeat_ref (T:="tuple") (U:="int") (by decide) ⟨_,ho,rfl⟩ (λs'=>typeIs_int s' k t) ZjF PySem.F.fills_int_mul PySem.F.slot_int_rmul Zh1 PySem.F.slot_int_index.lookup ?_
 refine call_meets PySem.F.slot_int_rmul (typeIs_int s k t) PySem.F.entry_int_rmul (PySem.F.args_int_rmul_2 _ _) (ZhW k t a its.toArray n od osl) ⟨ho,rfl,⟨_,ho,rfl⟩,?_⟩
 refine call_meets PySem.F.slot_tuple_mul ⟨_,ho,rfl⟩ PySem.F.entry_tuple_mul (PySem.F.args_tuple_mul_2 _ _) (ZjT k t a its.toArray n od osl h1 h2 hemp (by rw [vK]; omega)) ⟨ho,?_⟩
 rw [efl]
 have hzz:(List.replicate k.toNat xs).flatten.length<=sizeLine:=by
  have hx:k.toNat<=1000:=by omega
  have e:(List.replicate k.toNat xs).flatten.length=k.toNat * xs.length:=by simp
  rw [e,sizeLine_eq]
  exact vO (Nat.mul_le_mul hx hl) (by decide)
 exact ⟨.ref s.heap.objs.size,_,I.laid (t':=s.toks) (λb o e=>vA _ e) (vF _) (show ObjOk X.prog X.w _ _ _ (.tup (List.replicate k.toNat xs).flatten) from ⟨hzz,_,Zau rv k.toNat,IsTup.new _ _⟩),rfl,q _ (I.hok.fresh (vF _))⟩
end
theorem ZcF {n:Nat} (h:n < 2 ^ 1900):n.log2 < 1900:=by
 by_cases h0:n=0
 ·rw [h0]; decide
 ·exact (yA h0).mpr h
theorem Zhh {i:Int} (h:i.natAbs < 2 ^ 1900):(PyData.int i).shown.length<=1901:=by
 have e:=int_text_length_le (k:=1900) (by decide) (ZcF h)
 have q:(Str.ofString (toString i)).length<=1901:=by rw [PySem.ofString_length]; exact e
 simpa [PyData.shown] using q
theorem Za7:∀ (ns:y8),(∀ n∈ns,n.natAbs < 2 ^ 1900)->((PyData.shownAll (ns.map PyData.int)).map (·.length)).sum<=ns.length * 1901/\(PyData.shownAll (ns.map PyData.int)).length=ns.length
 | [],_=>⟨by simp [PyData.shownAll],rfl⟩
 | n::r,h=>by
  obtain ⟨h1,h2⟩:=Za7 r λx hx=>h x (vC _ hx)
  have h3:=Zhh (h n wx)
  rw [vG,PyData.shownAll,vG,wo,vN,vN,h2,xl]
  exact ⟨by omega,rfl⟩
theorem Za8:∀ (ns:y8),(∀ n∈ns,n.natAbs < 2 ^ 1900)->PyData.showableAll (ns.map PyData.int)=true
 | [],_=>rfl
 | n::r,h=>by
  rw [vG,PyData.showableAll,Za8 r λx hx=>h x (vC _ hx),yR]
  have q:=ZcF (h n wx)
  simp only [PyData.showable,decide_eq_true_eq]
  omega
noncomputable def bD (lo:Int) (n:Nat):y8:=(List.range n).map λ(k:Nat)=>lo+(k:Int)
theorem Zic (lo:Int) (n:Nat):fJ lo n=(bD lo n).map V.int:=by
 unfold fJ bD
 rw [wL]
 rfl
theorem ir (lo:Int) (n:Nat):(bD lo n).length=n:=by
 unfold bD
 rw [vB,xV]
theorem si {lo x:Int} {n:Nat} (h:x∈bD lo n):lo<=x/\x < lo+n:=by
 unfold bD at h
 obtain ⟨k,hk,rfl⟩:=wQ.mp h
 have:=yg.mp hk
 omega
def CMulG (i j:Int):Prop:=i.natAbs < 2 ^ 8000/\j.natAbs < 2 ^ 8000
def Zfo (i j:Int):Prop:=j≠0/\j.natAbs < 2 ^ 8000
theorem ZeF {x:Int} (h:x.natAbs < 2 ^ 8000):Builtin.Int.intBits x<=8000:=by
 unfold Builtin.Int.intBits
 split
 ·exact wN _
 ·rename_i hx
  have h0:x.natAbs≠0:=by
   intro z
   have e:x=0:=Int.natAbs_eq_zero.mp z
   rw [e] at hx
   exact hx rfl
  exact (yA h0).mpr h
theorem CMulG.ok {i j:Int} (h:CMulG i j):IntMulOk i j:=by
 have h1:=ZeF h.1
 have h2:=ZeF h.2
 unfold IntMulOk
 have e:Builtin.Int.intTooBig ((Builtin.Int.intBits i+Builtin.Int.intBits j:Nat):Int)=false:=by
  unfold Builtin.Int.intTooBig
  refine decide_eq_false ?_
  have hb:((16000:Nat):Int)<=(bitsLine:Int):=by decide
  omega
 intro z
 rw [vQ] at z
 have z2:Builtin.Int.intTooBig ((Builtin.Int.intBits i+Builtin.Int.intBits j:Nat):Int)=true:=z.2
 rw [e] at z2
 cases z2
section
variable {X:Cx}
theorem Zjh:OpR X (binaryOp .Mult) (rI CMulG λi j=>.int (i * j)):=iA λ_ _ _ _ _ _ _ hc q=>mul_int q hc.ok
theorem o9:OpR X (binaryOp .FloorDiv) (rI Zfo λi j=>.int (i.fdiv j)):=iA λi j _ _ _ _ _ hc q=>by
 refine floordiv_int hc.1 q (.inl (yJ ?_))
 by_cases h0:j.natAbs=0
 ·exact absurd (Int.natAbs_eq_zero.mp h0) hc.1
 ·exact yb ((yA h0).mpr hc.2) (by decide)
theorem m8:CallR X (.builtin "isinstance") (λxs H Q=>∃ x T t b,xs=[x,.ty T]/\TyOf X.K H x t/\PySem.W.kitOne X.K t (.type T)=some b/\Q (.bl b) H):=by
 intro pins s σ H xs us Q I r h
 obtain ⟨x,T,t,b,rfl,ty,e,q⟩:=h
 obtain ⟨u,c,rfl,ru,rc⟩:=ii r
 cases rc
 exact ZkV I ru ty e λtk=>⟨.bl b,H,I.tok tk,rfl,q⟩
end
end L2
namespace Gc
noncomputable def g9 (a b:Int):Int:=((Nat.gcd a.natAbs b.natAbs:Nat):Int)
noncomputable def den (t b:Int):Int:=if b < 0 then -g9 t b else g9 t b
noncomputable def gr (t b:Int):Int:=t.fdiv (den t b)
noncomputable def fN (t b:Int):Int:=b.fdiv (den t b)
theorem uo {t b:Int} (h:b≠0):0 < Nat.gcd t.natAbs b.natAbs:=Nat.gcd_pos_of_pos_right _ (by omega)
theorem uH {t b:Int} (h:b≠0):den t b≠0:=by
 have:=uo (t:=t) h
 unfold den g9
 split <;> omega
theorem qh (t b:Int):(den t b).natAbs=Nat.gcd t.natAbs b.natAbs:=by
 unfold den g9
 split <;> omega
theorem ZcD {t b:Int} (h:b≠0):t=den t b * gr t b/\b=den t b * fN t b/\0 < fN t b/\Nat.gcd (gr t b).natAbs (fN t b).natAbs=1:=by
 have hd:=uH (t:=t) h
 have ha:=qh t b
 have hg:=uo (t:=t) h
 have d1:den t b ∣ t:=Int.natAbs_dvd_natAbs.mp (by rw [ha]; exact Nat.gcd_dvd_left _ _)
 have d2:den t b ∣ b:=Int.natAbs_dvd_natAbs.mp (by rw [ha]; exact Nat.gcd_dvd_right _ _)
 obtain ⟨x,hx⟩:=d1
 obtain ⟨y,hy⟩:=d2
 have e1:gr t b=x:=by
  show t.fdiv (den t b)=x
  generalize den t b=d at hd hx
  rw [hx]
  exact yL _ hd
 have e2:fN t b=y:=by
  show b.fdiv (den t b)=y
  generalize den t b=d at hd hy
  rw [hy]
  exact yL _ hd
 rw [e1,e2]
 refine ⟨hx,hy,?_,?_⟩
 ·have hb:(0 < b/\0 < den t b)\/(b < 0/\den t b < 0):=by
   unfold den g9
   split <;> omega
  rcases hb with ⟨p,q⟩ | ⟨p,q⟩
  ·rcases (show 0 < y\/y<=0 by omega) with z | z
   ·exact z
   ·exfalso
    have:=xT (xn q) (show 0<=-y by omega)
    rw [Int.mul_neg,<- hy] at this
    omega
  ·rcases (show 0 < y\/y<=0 by omega) with z | z
   ·exact z
   ·exfalso
    have:=xT (show 0<=-den t b by omega) (show 0<=-y by omega)
    rw [Int.neg_mul_neg,<- hy] at this
    omega
 ·have h1:t.natAbs=Nat.gcd t.natAbs b.natAbs * x.natAbs:=by
   have:=congrArg Int.natAbs hx
   rw [xS,ha] at this
   exact this
  have h2:b.natAbs=Nat.gcd t.natAbs b.natAbs * y.natAbs:=by
   have:=congrArg Int.natAbs hy
   rw [xS,ha] at this
   exact this
  have h3:Nat.gcd t.natAbs b.natAbs=Nat.gcd t.natAbs b.natAbs * Nat.gcd x.natAbs y.natAbs:=by
   rw [<- Nat.gcd_mul_left,<- h1,<- h2]
  have h4:Nat.gcd t.natAbs b.natAbs * 1=Nat.gcd t.natAbs b.natAbs * Nat.gcd x.natAbs y.natAbs:=by rw [Nat.mul_one]; exact h3
  exact (Nat.eq_of_mul_eq_mul_left hg h4).symm
theorem ZcE {t b:Int} (h:b≠0):(gr t b).natAbs<=t.natAbs/\(fN t b).natAbs<=b.natAbs:=by
 obtain ⟨h1,h2,_,_⟩:=ZcD (t:=t) h
 have hg:=uo (t:=t) h
 have ha:=qh t b
 constructor
 ·have e:=congrArg Int.natAbs h1
  rw [xS,ha] at e
  rw [e]
  exact Nat.le_mul_of_pos_left _ hg
 ·have e:=congrArg Int.natAbs h2
  rw [xS,ha] at e
  rw [e]
  exact Nat.le_mul_of_pos_left _ hg
end Gc
namespace L2
inductive Tr (α:Type) where
 | ret (a:α)
 | draw (n:Int) (k:Int->Tr α)
 | fail
namespace Tr
variable {α β γ:Type}
noncomputable def bind:Tr α->(α->Tr β)->Tr β
 | .ret a,f=>f a
 | .draw n k,f=>.draw n λr=>(k r).bind f
 | .fail,_=>.fail
@[simp] theorem ret_bind (a:α) (f:α->Tr β):(Tr.ret a).bind f=f a:=rfl
@[simp] theorem draw_bind (n:Int) (k:Int->Tr α) (f:α->Tr β):(Tr.draw n k).bind f=.draw n λr=>(k r).bind f:=rfl
@[simp] theorem fail_bind (f:α->Tr β):(Tr.fail:Tr α).bind f=.fail:=rfl
@[simp] theorem bind_assoc:∀ (t:Tr α) (f:α->Tr β) (g:β->Tr γ),(t.bind f).bind g=t.bind λa=>(f a).bind g
 | .ret a,f,g=>rfl
 | .draw n k,f,g=>by simp only [draw_bind]; congr 1; funext r; exact bind_assoc (k r) f g
 | .fail,f,g=>rfl
noncomputable def of:Option α->Tr α
 | some a=>.ret a
 | none=>.fail
@[simp] theorem of_some (a:α):Tr.of (some a)=.ret a:=rfl
@[simp] theorem of_none:Tr.of (none:Option α)=.fail:=rfl
noncomputable def ok:Tr α->Nat->(Nat->α->Prop)->Prop
 | .ret a,m,Q=>Q m a
 | .draw n k,m,Q=>m < 400000/\0 < n/\n < 1073741824/\∀ r,0<=r->r < n->(k r).ok (m+1) Q
 | .fail,_,_=>False
theorem ok_mono:∀ {t:Tr α} {m:Nat} {Q Q':Nat->α->Prop},t.ok m Q->(∀ m a,Q m a->Q' m a)->t.ok m Q'
 | .ret a,m,_,_,h,hq=>hq m a h
 | .draw n k,m,_,_,⟨h1,h2,h3,h⟩,hq=>⟨h1,h2,h3,λr h0 h1=>ok_mono (h r h0 h1) hq⟩
theorem ok_bind:∀ {t:Tr α} {f:α->Tr β} {m:Nat} {Q:Nat->β->Prop},(t.bind f).ok m Q ↔ t.ok m λm' a=>(f a).ok m' Q
 | .ret a,f,m,Q=>Iff.rfl
 | .draw n k,f,m,Q=>by
  show (_/\_/\_/\∀ r,_) ↔ (_/\_/\_/\∀ r,_)
  refine and_congr_right λ_=>and_congr_right λ_=>and_congr_right λ_=>forall_congr' λr=>forall_congr' λ_=>forall_congr' λ_=>ok_bind
 | .fail,f,m,Q=>Iff.rfl
theorem ok_of {o:Option α} {m:Nat} {Q:Nat->α->Prop} (h:(Tr.of o).ok m Q):∃ a,o=some a/\Q m a:=by
 cases o with
 | none=>exact h.elim
 | some a=>exact ⟨a,rfl,h⟩
noncomputable def all:Tr α->Nat->(α->Prop)->Prop
 | .ret a,_,P=>P a
 | .draw w k,n+1,P=>0 < w/\w < 1073741824/\∀ r,0<=r->r < w->(k r).all n P
 | .draw _ _,0,_=>False
 | .fail,_,_=>False
theorem all_ok:∀ {t:Tr α} {n m:Nat} {P:α->Prop},t.all n P->m+n<=400000->t.ok m λm' a=>m'<=m+n/\P a
 | .ret a,n,m,P,h,hm=>⟨by omega,h⟩
 | .draw w k,n+1,m,P,⟨h1,h2,h⟩,hm=>⟨by omega,h1,h2,λr a b=>ok_mono (all_ok (h r a b) (by omega)) λm' x hz0=>by
  obtain ⟨p,q⟩:=hz0
  exact ⟨by omega,q⟩⟩
theorem all_mono:∀ {t:Tr α} {n n':Nat} {P P':α->Prop},t.all n P->n<=n'->(∀ a,P a->P' a)->t.all n' P'
 | .ret a,n,n',P,P',h,hn,hp=>hp a h
 | .draw w k,n+1,n'+1,P,P',⟨h1,h2,h⟩,hn,hp=>⟨h1,h2,λr a b=>all_mono (h r a b) (by omega) hp⟩
 | .draw w k,n+1,0,P,P',h,hn,hp=>by omega
theorem all_bind:∀ {t:Tr α} {f:α->Tr β} {n n':Nat} {P:α->Prop} {P':β->Prop},t.all n P->(∀ a,P a->(f a).all n' P')->(t.bind f).all (n+n') P'
 | .ret a,f,n,n',P,P',h,hf=>all_mono (hf a h) (by omega) λ_ x=>x
 | .draw w k,f,n+1,n',P,P',⟨h1,h2,h⟩,hf=>by
  have e:n+1+n'=(n+n')+1:=by omega
  rw [e]
  exact ⟨h1,h2,λr a b=>all_bind (h r a b) hf⟩
end Tr
abbrev Sub (G H:Hp):Prop:=∀ b o,G b=some o->H b=some o
structure Pk where
 is:HO->Hp->Nat->Prop
 mono:∀ {o:HO} {G G':Hp} {m:Nat},Sub G G'->is o G m->is o G' m
structure Wd (PK:Pk) (pa:Addr) (m:Nat) (G H:Hp):Prop where
 sub:Sub G H
 gpa:G pa=none
 pen:∃ o,H pa=some o/\PK.is o G m
structure Stp (pa:Addr) (G H G' H':Hp):Prop where
 gs:Sub G G'
 gn:∀ b o,G' b=some o->G b=some o\/H b=none
 hk:∀ b o,H b=some o->b≠pa->H' b=some o
theorem Stp.refl {pa:Addr} {G H:Hp}:Stp pa G H G H:=⟨λ_ _ h=>h,λ_ _ h=>.inl h,λ_ _ h _=>h⟩
theorem Stp.trans {pa:Addr} {G H G1 H1 G2 H2:Hp} (a:Stp pa G H G1 H1) (b:Stp pa G1 H1 G2 H2) (hp:∃ o,H1 pa=some o):Stp pa G H G2 H2:=by
 refine ⟨λc o h=>b.gs c o (a.gs c o h),λc o h=>?_,λc o h n=>b.hk c o (a.hk c o h n) n⟩
 rcases b.gn c o h with z | z
 ·exact a.gn c o z
 ·refine .inr ?_
  cases e:H c with
  | none=>rfl
  | some u =>
   by_cases hc:c=pa
   ·subst hc
    obtain ⟨o',z'⟩:=hp
    rw [z'] at z; cases z
   ·rw [a.hk c u e hc] at z; cases z
section
variable {PK:Pk} {pa:Addr} {m:Nat} {G H:Hp}
theorem Wd.some (w:Wd PK pa m G H):∃ o,H pa=some o:=let ⟨o,h,_⟩:=w.pen; ⟨o,h⟩
theorem Wd.ne (w:Wd PK pa m G H) {p:Addr} (hp:H p=none):pa≠p:=λe=>by
 obtain ⟨o,h⟩:=w.some
 rw [e,hp] at h; cases h
theorem Sub.new {p:Addr} {o:HO} (hp:G p=none):Sub G (upd G p o):=λb u h=>by rw [aK (cH h hp)]; exact h
theorem Wd.gnone (w:Wd PK pa m G H) {p:Addr} (hp:H p=none):G p=none:=by
 cases e:G p with
 | none=>rfl
 | some o=>rw [w.sub p o e] at hp; cases hp
theorem Sub.upd2 {p:Addr} {o:HO} (s:Sub G H):Sub (upd G p o) (upd H p o):=λb u h=>by
 by_cases e:b=p
 ·subst e; rw [bJ] at h ⊢; exact h
 ·rw [aK e] at h ⊢; exact s b u h
theorem Wd.new (w:Wd PK pa m G H) {p:Addr} {o:HO} (hp:H p=none):Wd PK pa m (upd G p o) (upd H p o)/\Stp pa G H (upd G p o) (upd H p o):=by
 have hg:=w.gnone hp
 have hne:=w.ne hp
 refine ⟨⟨w.sub.upd2,by rw [aK hne]; exact w.gpa,?_⟩,⟨Sub.new hg,λb u h=>?_,λb u h _=>by rw [aK (cH h hp)]; exact h⟩⟩
 ·obtain ⟨u,h,q⟩:=w.pen
  exact ⟨u,by rw [aK hne]; exact h,PK.mono (Sub.new hg) q⟩
 ·by_cases e:b=p
  ·subst e; exact .inr hp
  ·rw [aK e] at h; exact .inl h
theorem Wd.own (w:Wd PK pa m G H) {p:Addr} {o:HO} (hp:H p=none):Wd PK pa m G (upd H p o)/\Stp pa G H G (upd H p o):=by
 have hne:=w.ne hp
 refine ⟨⟨λb u h=>by rw [aK (cH (w.sub b u h) hp)]; exact w.sub b u h,w.gpa,?_⟩,⟨λ_ _ h=>h,λ_ _ h=>.inl h,λb u h _=>by rw [aK (cH h hp)]; exact h⟩⟩
 obtain ⟨u,h,q⟩:=w.pen
 exact ⟨u,by rw [aK hne]; exact h,q⟩
theorem Wd.freeze (w:Wd PK pa m G H) {p:Addr} {o:HO} (hp:H p=Option.some o) (hg:G p=none) (hne:pa≠p):Wd PK pa m (upd G p o) H:=by
 refine ⟨λb u h=>?_,by rw [aK hne]; exact w.gpa,?_⟩
 ·by_cases e:b=p
  ·subst e; rw [bJ] at h; rw [hp]; exact h
  ·rw [aK e] at h; exact w.sub b u h
 ·obtain ⟨u,h,q⟩:=w.pen
  exact ⟨u,h,PK.mono (Sub.new hg) q⟩
def Kn (PK:Pk) (pa:Addr) (m:Nat) (G H:Hp) (x:PyData) (Q:VK):Prop:=∀ v G' H',Stp pa G H G' H'->Wd PK pa m G' H'->Dn G' v x->Q v H'
variable {x:PyData} {Q:VK} {v:V} {vs:zb} {ds:y6} {p:Addr}
theorem Kn.here (k:Kn PK pa m G H x Q) (w:Wd PK pa m G H) (d:Dn G v x):Q v H:=k v G H .refl w d
theorem Kn.tup (k:Kn PK pa m G H (.tuple ds) Q) (w:Wd PK pa m G H) (d:DnAll G vs ds) (hp:H p=none):Q (.ref p) (upd H p (.tup vs)):=by
 obtain ⟨w1,s1⟩:=w.new (o:=.tup vs) hp
 exact k _ _ _ s1 w1 (.tup bJ (DnAll.mono s1.gs d))
theorem Kn.lst (k:Kn PK pa m G H (.list ds) Q) (w:Wd PK pa m G H) (d:DnAll G vs ds) (hp:H p=none):Q (.ref p) (upd H p (.lst vs)):=by
 obtain ⟨w1,s1⟩:=w.new (o:=.lst vs) hp
 exact k _ _ _ s1 w1 (.lst bJ (DnAll.mono s1.gs d))
theorem Kn.later {G1 H1:Hp} (k:Kn PK pa m G H x Q) (s:Stp pa G H G1 H1) (hp:∃ o,H1 pa=Option.some o):Kn PK pa m G1 H1 x Q:=λv G' H' s' w d=>k v G' H' (s.trans s' hp) w d
end
inductive Sl where
 | un | d (x:PyData) | own (xs:y6) | pen | dic (kvs:List (Int×PyData)) | fn (a:Addr)
inductive KD (G:Hp):List (aA×V)->List (Int×PyData)->Prop
 | nil:KD G [] []
 | cons {i:Int} {v:V} {d:PyData} {ks:List (aA×V)} {kvs:List (Int×PyData)}:Dn G v d->KD G ks kvs->KD G ((.inl i,v)::ks) ((i,d)::kvs)
theorem KD.mono {G G':Hp} (s:Sub G G') {ks:List (aA×V)} {kvs:List (Int×PyData)} (h:KD G ks kvs):KD G' ks kvs:=by
 induction h with
 | nil=>exact .nil
 | cons h _ ih=>exact .cons (h.mono s) ih
inductive SlOk (pa:Addr) (H₀ G H:Hp):Option V->Sl->Prop
 | un {o:Option V}:SlOk pa H₀ G H o .un
 | d {v:V} {x:PyData}:Dn G v x->SlOk pa H₀ G H (some v) (.d x)
 | own {p:Addr} {vs:zb} {xs:y6}:H p=some (.lst vs)->G p=none->H₀ p=none->DnAll G vs xs->SlOk pa H₀ G H (some (.ref p)) (.own xs)
 | pen:SlOk pa H₀ G H (some (.ref pa)) .pen
 | fn {a:Addr}:SlOk pa H₀ G H (some (.ref a)) (.fn a)
 | dic {p:Addr} {ks:List (aA×V)} {kvs:List (Int×PyData)}:H p=some (.dK ks)->G p=none->H₀ p=none->KD G ks kvs->SlOk pa H₀ G H (some (.ref p)) (.dic kvs)
structure Rl (PK:Pk) (pa:Addr) (ze H₀:Hp) (m:Nat) (σ:St) (ρ:List Sl) (G H:Hp):Prop where
 wd:Wd PK pa m G H
 st:Stp pa ze H₀ G H
 p0:∃ o,H₀ pa=some o
 sl:∀ (i:Nat) (s:Sl),ρ[i]?=some s->∃ o,σ[i]?=some o/\SlOk pa H₀ G H o s
 len:ρ.length=σ.length
 dj:∀ (i j:Nat) (xs ys:y6),i≠j->ρ[i]?=some (.own xs)->ρ[j]?=some (.own ys)->σ[i]?≠σ[j]?
 dj2:∀ (i j:Nat) (xs ys:List (Int×PyData)),i≠j->ρ[i]?=some (.dic xs)->ρ[j]?=some (.dic ys)->σ[i]?≠σ[j]?
section
variable {PK:Pk} {pa:Addr} {ze H₀ G H:Hp} {m:Nat} {σ:St} {ρ:List Sl}
theorem nO {α:Type} {l:List α} {k i:Nat} {x y:α} (h:(l.set k x)[i]?=some y) (hn:x≠y):k≠i/\l[i]?=some y:=by
 have hi:k≠i:=λe=>by
  subst e
  have hl:k < l.length:=by
   have:=(vH.mp h).1
   rwa [wy] at this
  rw [vZ hl] at h
  exact hn (vT h)
 rw [vP hi] at h
 exact ⟨hi,h⟩
theorem ZdV {α:Type} {T:α->Sl} {k:Nat} {x:Sl} {v:Option V} (dj:∀ (i j:Nat) (a b:α),i≠j->ρ[i]?=some (T a)->ρ[j]?=some (T b)->σ[i]?≠σ[j]?) (hn:∀ a,x≠T a) :
  ∀ (i j:Nat) (a b:α),i≠j->(ρ.set k x)[i]?=some (T a)->(ρ.set k x)[j]?=some (T b)->(σ.set k v)[i]?≠(σ.set k v)[j]?:=λi j a b hij h1 h2=>by
 obtain ⟨hi,h1⟩:=nO h1 (hn a)
 obtain ⟨hj,h2⟩:=nO h2 (hn b)
 rw [vP hi,vP hj]
 exact dj i j a b hij h1 h2
theorem ZdU {α:Type} {T:α->Sl} {k:Nat} {x:Sl} (dj:∀ (i j:Nat) (a b:α),i≠j->ρ[i]?=some (T a)->ρ[j]?=some (T b)->σ[i]?≠σ[j]?) (hn:∀ a,x≠T a) :
  ∀ (i j:Nat) (a b:α),i≠j->(ρ.set k x)[i]?=some (T a)->(ρ.set k x)[j]?=some (T b)->σ[i]?≠σ[j]?:=λi j a b hij h1 h2 =>
 dj i j a b hij (nO h1 (hn a)).2 (nO h2 (hn b)).2
theorem SlOk.step {G' H':Hp} {o:Option V} {s:Sl} (k:SlOk pa H₀ G H o s) (hp0:∃ o,H₀ pa=some o) (st:Stp pa G H G' H'):SlOk pa H₀ G' H' o s:=by
 cases k with
 | un=>exact .un
 | d h=>exact .d (h.mono st.gs)
 | pen=>exact .pen
 | fn=>exact .fn
 | @own p vs xs h1 h2 h3 h4 =>
  have hne:p≠pa:=λe=>by
   obtain ⟨u,hu⟩:=hp0
   rw [<- e,h3] at hu; cases hu
  refine .own (st.hk _ _ h1 hne) ?_ h3 (DnAll.mono st.gs h4)
  cases e:G' p with
  | none=>rfl
  | some u =>
   rcases st.gn p u e with z | z
   ·rw [h2] at z; cases z
   ·rw [h1] at z; cases z
 | @dic p ks kvs h1 h2 h3 h4 =>
  have hne:p≠pa:=λe=>by
   obtain ⟨u,hu⟩:=hp0
   rw [<- e,h3] at hu; cases hu
  refine .dic (st.hk _ _ h1 hne) ?_ h3 (h4.mono st.gs)
  cases e:G' p with
  | none=>rfl
  | some u =>
   rcases st.gn p u e with z | z
   ·rw [h2] at z; cases z
   ·rw [h1] at z; cases z
theorem Rl.step {G' H':Hp} {m':Nat} (r:Rl PK pa ze H₀ m σ ρ G H) (s:Stp pa G H G' H') (w:Wd PK pa m' G' H'):Rl PK pa ze H₀ m' σ ρ G' H' :=
 ⟨w,r.st.trans s r.wd.some,r.p0,λi sl h=>let ⟨o,h1,h2⟩:=r.sl i sl h; ⟨o,h1,h2.step r.p0 s⟩,r.len,r.dj,r.dj2⟩
theorem Rl.set (r:Rl PK pa ze H₀ m σ ρ G H) {v:V} {x:PyData} (d:Dn G v x) (k:Nat):Rl PK pa ze H₀ m (σ.set k (some v)) (ρ.set k (.d x)) G H:=by
 refine ⟨r.wd,r.st,r.p0,λi s h=>?_,by rw [wy,wy]; exact r.len,λi j xs ys hij h1 h2=>?_,ZdV r.dj2 λa h=>by cases h⟩
 ·by_cases e:k=i
  ·subst e
   have hl:k < ρ.length:=by
    have:=(vH.mp h).1
    rwa [wy] at this
   rw [vZ hl] at h
   cases h
   exact ⟨_,vZ (by rw [<- r.len]; exact hl),.d d⟩
  ·rw [vP e] at h ⊢
   exact r.sl i s h
 ·have hi:k≠i:=λe=>by
   subst e
   have hl:k < ρ.length:=by
    have:=(vH.mp h1).1
    rwa [wy] at this
   rw [vZ hl] at h1; cases h1
  have hj:k≠j:=λe=>by
   subst e
   have hl:k < ρ.length:=by
    have:=(vH.mp h2).1
    rwa [wy] at this
   rw [vZ hl] at h2; cases h2
  rw [vP hi] at h1 ⊢
  rw [vP hj] at h2 ⊢
  exact r.dj i j xs ys hij h1 h2
theorem Rl.setO (r:Rl PK pa ze H₀ m σ ρ G H) {p:Addr} {vs:zb} {xs:y6} (h1:H p=some (.lst vs)) (h2:G p=none) (h3:H₀ p=none) (h4:DnAll G vs xs)
  (hd:∀ (i:Nat) (ys:y6),ρ[i]?=some (.own ys)->σ[i]?≠some (some (.ref p))) (k:Nat):Rl PK pa ze H₀ m (σ.set k (some (.ref p))) (ρ.set k (.own xs)) G H:=by
 have up:∀ {i:Nat} {s:Sl},(ρ.set k (.own xs))[i]?=some s->i=k->s=.own xs/\(σ.set k (some (V.ref p)))[i]?=some (some (.ref p)):=λ{i s} h e=>by
  subst e
  have hl:i < ρ.length:=by
   have:=(vH.mp h).1
   rwa [wy] at this
  rw [vZ hl] at h
  cases h
  exact ⟨rfl,vZ (by rw [<- r.len]; exact hl)⟩
 refine ⟨r.wd,r.st,r.p0,λi s h=>?_,by rw [wy,wy]; exact r.len,λi j ys zs hij e1 e2=>?_,ZdV r.dj2 λa h=>by cases h⟩
 ·by_cases e:i=k
  ·obtain ⟨e1,e2⟩:=up h e
   subst e1
   exact ⟨_,e2,.own h1 h2 h3 h4⟩
  ·rw [vP (Ne.symm e)] at h ⊢
   exact r.sl i s h
 ·by_cases ei:i=k
  ·have q:=(up e1 ei).2
   have hj:k≠j:=λe=>hij (ei.trans e)
   rw [q]
   rw [vP hj] at e2 ⊢
   exact λz=>hd j zs e2 z.symm
  ·rw [vP (Ne.symm ei)] at e1 ⊢
   by_cases ej:j=k
   ·rw [(up e2 ej).2]
    exact hd i ys e1
   ·rw [vP (Ne.symm ej)] at e2 ⊢
    exact r.dj i j ys zs hij e1 e2
theorem Rl.h0 (r:Rl PK pa ze H₀ m σ ρ G H) {p:Addr} (hp:H p=none):H₀ p=none:=by
 cases e:H₀ p with
 | none=>rfl
 | some u =>
  by_cases hc:p=pa
  ·subst hc
   obtain ⟨o,h⟩:=r.wd.some
   rw [hp] at h; cases h
  ·rw [r.st.hk p u e hc] at hp; cases hp
theorem Rl.apart (r:Rl PK pa ze H₀ m σ ρ G H) {p:Addr} (hp:H p=none) (i:Nat) (ys:y6) (h:ρ[i]?=some (.own ys)):σ[i]?≠some (some (.ref p)):=λe=>by
 obtain ⟨o,h1,h2⟩:=r.sl i _ h
 rw [e] at h1
 cases h1
 cases h2 with
 | own a _ _ _=>rw [hp] at a; cases a
theorem Rl.change (r:Rl PK pa ze H₀ m σ ρ G H) {k:Nat} {xs ys:y6} {p:Addr} {ws:zb} (hk:ρ[k]?=some (.own xs)) (hσ:σ[k]?=some (some (.ref p))) (d:DnAll G ws ys) :
  Rl PK pa ze H₀ m σ (ρ.set k (.own ys)) G (upd H p (.lst ws)):=by
 obtain ⟨o,h1,h2⟩:=r.sl k _ hk
 rw [hσ] at h1
 cases h1
 cases h2 with
 | @own _ vs _ a1 a2 a3 a4 =>
  have hne:pa≠p:=λe=>by
   obtain ⟨u,hu⟩:=r.p0
   rw [e,a3] at hu; cases hu
  have hl:k < ρ.length:=(vH.mp hk).1
  refine ⟨⟨λb o h=>?_,r.wd.gpa,?_⟩,⟨r.st.gs,r.st.gn,λb o h hb=>?_⟩,r.p0,λi s h=>?_,by rw [wy]; exact r.len,λi j us ws hij e1 e2=>?_,ZdU r.dj2 λa h=>by cases h⟩
  ·rw [aK (λe=>by subst e; rw [a2] at h; cases h)]
   exact r.wd.sub b o h
  ·obtain ⟨u,h,q⟩:=r.wd.pen
   exact ⟨u,by rw [aK hne]; exact h,q⟩
  ·rw [aK (λe=>by subst e; rw [a3] at h; cases h)]
   exact r.st.hk b o h hb
  ·by_cases e:k=i
   ·subst e
    rw [vZ hl] at h
    cases h
    exact ⟨_,hσ,.own bJ a2 a3 d⟩
   ·rw [vP e] at h
    obtain ⟨o,q1,q2⟩:=r.sl i s h
    refine ⟨o,q1,?_⟩
    cases q2 with
    | un=>exact .un
    | d z=>exact .d z
    | pen=>exact .pen
    | fn=>exact .fn
    | dic b1 b2 b3 b4=>exact .dic (by rw [aK (λe2=>by subst e2; rw [a1] at b1; cases b1)]; exact b1) b2 b3 b4
    | own b1 b2 b3 b4 =>
     refine .own ?_ b2 b3 b4
     rw [aK]
     ·exact b1
     ·intro e2
      subst e2
      exact r.dj k i _ _ e hk h (by rw [hσ,q1])
  ·by_cases ei:k=i
   ·subst ei
    rw [vP hij] at e2
    exact r.dj k j _ _ hij hk e2
   ·rw [vP ei] at e1
    by_cases ej:k=j
    ·subst ej
     exact r.dj i k _ _ hij e1 hk
    ·rw [vP ej] at e2
     exact r.dj i j _ _ hij e1 e2
noncomputable def fz (k:Nat) (ρ:List Sl):List Sl:=match ρ[k]? with
 | some (.own xs)=>ρ.set k (.d (.list xs))
 | _=>ρ
theorem Rl.freeze (r:Rl PK pa ze H₀ m σ ρ G H) (k:Nat):∃ G',Sub G G'/\Rl PK pa ze H₀ m σ (fz k ρ) G' H:=by
 unfold fz
 split
 ·rename_i xs hk
  obtain ⟨o,h1,h2⟩:=r.sl k _ hk
  cases h2 with
  | @own p vs _ a1 a2 a3 a4 =>
   have hne:pa≠p:=λe=>by
    obtain ⟨u,hu⟩:=r.p0
    rw [e,a3] at hu; cases hu
   have hl:k < ρ.length:=(vH.mp hk).1
   have sb:Sub G (upd G p (.lst vs)):=Sub.new a2
   refine ⟨upd G p (.lst vs),sb,r.wd.freeze a1 a2 hne,⟨λb o h=>sb b o (r.st.gs b o h),λb o h=>?_,r.st.hk⟩,r.p0,λi s h=>?_,by rw [wy]; exact r.len,λi j us ws hij e1 e2=>?_,ZdU r.dj2 λa h=>by cases h⟩
   ·by_cases e:b=p
    ·subst e; exact .inr a3
    ·rw [aK e] at h; exact r.st.gn b o h
   ·by_cases e:k=i
    ·subst e
     rw [vZ hl] at h
     cases h
     exact ⟨_,h1,.d (.lst bJ (DnAll.mono sb a4))⟩
    ·rw [vP e] at h
     obtain ⟨o,q1,q2⟩:=r.sl i s h
     refine ⟨o,q1,?_⟩
     cases q2 with
     | un=>exact .un
     | d z=>exact .d (z.mono sb)
     | pen=>exact .pen
     | fn=>exact .fn
     | dic b1 b2 b3 b4=>exact .dic b1 (by rw [aK (λe2=>by subst e2; rw [a1] at b1; cases b1)]; exact b2) b3 (b4.mono sb)
     | own b1 b2 b3 b4 =>
      refine .own b1 ?_ b3 (DnAll.mono sb b4)
      rw [aK]
      ·exact b2
      ·intro e2
       subst e2
       exact r.dj k i _ _ e hk h (by rw [h1,q1])
   ·have hi:k≠i:=λe=>by subst e; rw [vZ hl] at e1; cases e1
    have hj:k≠j:=λe=>by subst e; rw [vZ hl] at e2; cases e2
    rw [vP hi] at e1
    rw [vP hj] at e2
    exact r.dj i j _ _ hij e1 e2
 ·exact ⟨G,λ_ _ h=>h,r⟩
end
def TAe (PK:Pk) (i:List Sl->Tr PyData):TE:=λσ H Q=>∃ pa ze H₀ m ρ G,Rl PK pa ze H₀ m σ ρ G H/\(i ρ).ok m λm' x=>Kn PK pa m' G H x Q
def TAt (PK:Pk) (i:List Sl->Tr Bool):TT:=λσ H Q=>∃ pa ze H₀ m ρ G,Rl PK pa ze H₀ m σ ρ G H/\(i ρ).ok m λm' b=>∀ G' H',Stp pa G H G' H'->Wd PK pa m' G' H'->Q b H'
def TAd (PK:Pk) (i:List Sl->Tr y6):TA:=λσ H Q=>∃ pa ze H₀ m ρ G,Rl PK pa ze H₀ m σ ρ G H/\(i ρ).ok m λm' xs=>∀ vs G' H',Stp pa G H G' H'->Wd PK pa m' G' H'->DnAll G' vs xs->Q vs H'
def Ko1 (PK:Pk) (pa:Addr) (m:Nat) (G H:Hp) (xs:y6) (Q:VK):Prop:=∀ p vs G' H',Stp pa G H G' H'->Wd PK pa m G' H'->H p=none->G' p=none->H' p=some (.lst vs)->DnAll G' vs xs->Q (.ref p) H'
def ib (PK:Pk) (i:List Sl->Tr y6):TE:=λσ H Q=>∃ pa ze H₀ m ρ G,Rl PK pa ze H₀ m σ ρ G H/\(i ρ).ok m λm' xs=>Ko1 PK pa m' G H xs Q
inductive ArOk (pa:Addr) (G:Hp):V->Sl->Prop
 | d {v:V} {x:PyData}:Dn G v x->ArOk pa G v (.d x)
 | pen:ArOk pa G (.ref pa) .pen
 | fn {a:Addr}:ArOk pa G (.ref a) (.fn a)
inductive ArsOk (pa:Addr) (G:Hp):List V->List Sl->Prop
 | nil:ArsOk pa G [] []
 | cons {v:V} {vs:zb} {s:Sl} {ss:List Sl}:ArOk pa G v s->ArsOk pa G vs ss->ArsOk pa G (v::vs) (s::ss)
theorem ArsOk.length {pa:Addr} {G:Hp} {vs:zb} {ss:List Sl} (h:ArsOk pa G vs ss):vs.length=ss.length:=by
 induction h with
 | nil=>rfl
 | cons h t ih=>exact congrArg (·+1) ih
def TAa (PK:Pk) (i:List Sl->Tr (List Sl)):TA:=λσ H Q=>∃ pa ze H₀ m ρ G,Rl PK pa ze H₀ m σ ρ G H/\(i ρ).ok m λm' as=>∀ vs G' H',Stp pa G H G' H'->Wd PK pa m' G' H'->ArsOk pa G' vs as->Q vs H'
inductive Re where
 | d (x:PyData) | own (xs:y6)
noncomputable def Re.val:Re->PyData
 | .d x=>x
 | .own xs=>.list xs
@[simp] theorem Re.val_d (x:PyData):(Re.d x).val=x:=rfl
@[simp] theorem Re.val_own (xs:y6):(Re.own xs).val=.list xs:=rfl
inductive Ou where
 | next (ρ:List Sl) | ret (r:Re) | brk (ρ:List Sl) | cont (ρ:List Sl)
abbrev yT:=List Sl->Tr PyData
abbrev yU:=List Sl->Tr (List PyData)
abbrev yV:=List Sl->Tr Bool
abbrev yW:=List Sl->Tr Ou
abbrev yX:=List Sl->Tr Re
abbrev yY:=List PyData->List Sl->Option (List Sl)
abbrev yZ:=PyData->List Sl->Option (List Sl)
abbrev zd:=List Sl
noncomputable def ZrY (H₀ G H:Hp) (v:V):Re->Prop
 | .d x=>Dn G v x
 | .own xs=>∃ p vs,v=.ref p/\H p=some (.lst vs)/\G p=none/\H₀ p=none/\DnAll G vs xs
def Kr (PK:Pk) (pa:Addr) (m:Nat) (ze H₀:Hp) (r:Re) (Q:VK):Prop:=∀ v G H,Stp pa ze H₀ G H->Wd PK pa m G H->ZrY H₀ G H v r->Q v H
noncomputable def Ko (PK:Pk) (pa:Addr) (ze H₀ Gs:Hp) (D:Ends) (m:Nat):Ou->Prop
 | .next ρ=>∀ σ G H,Sub Gs G->Rl PK pa ze H₀ m σ ρ G H->D.nx σ H
 | .ret r=>Kr PK pa m ze H₀ r D.rt
 | .brk ρ=>∀ σ G H,Sub Gs G->Rl PK pa ze H₀ m σ ρ G H->D.bk σ H
 | .cont ρ=>∀ σ G H,Sub Gs G->Rl PK pa ze H₀ m σ ρ G H->D.ct σ H
def bx (PK:Pk) (i:yW):TS:=λD σ H=>∃ pa ze H₀ m ρ G,Rl PK pa ze H₀ m σ ρ G H/\(i ρ).ok m (Ko PK pa ze H₀ G D)
theorem PE.imp {X:Cx} {e:Expr} {t t':TE} (h:PE X e t) (q:∀ σ H Q,t' σ H Q->t σ H Q):PE X e t':=λpins s σ H Q I z=>h pins s σ H Q I (q σ H Q z)
theorem PT.imp {X:Cx} {e:Expr} {t t':TT} (h:PT X e t) (q:∀ σ H Q,t' σ H Q->t σ H Q):PT X e t':=λpins s σ H Q I z=>h pins s σ H Q I (q σ H Q z)
theorem PW.imp {X:Cx} {e:Expr} {t t':TT} (h:PW X e t) (q:∀ σ H Q,t' σ H Q->t σ H Q):PW X e t':=λwh pins s σ H Q I z=>h wh pins s σ H Q I (q σ H Q z)
theorem PA.imp {X:Cx} {e:List Expr} {t t':TA} (h:PA X e t) (q:∀ σ H Q,t' σ H Q->t σ H Q):PA X e t':=λpos pins s σ H Q I z=>h pos pins s σ H Q I (q σ H Q z)
theorem PS.imp {X:Cx} {e:Stmt} {t t':TS} (h:PS X e t) (q:∀ D σ H,t' D σ H->t D σ H):PS X e t':=λpins s σ H D I z=>h pins s σ H D I (q D σ H z)
theorem PSs.imp {X:Cx} {e:List Stmt} {t t':TS} (h:PSs X e t) (q:∀ D σ H,t' D σ H->t D σ H):PSs X e t':=λpins s σ H D I z=>h pins s σ H D I (q D σ H z)
variable {PK:Pk} {X:Cx} {a b c e:Expr} {es:List Expr} {pos:Pos} {i j l:yT}
theorem TAe.then {σ:St} {H:Hp} {β:Type} {k:PyData->Tr β} {Z:Nat->β->Prop} {Q:VK} {pa:Addr} {ze H₀ G:Hp} {m:Nat} {ρ:zd} (R:Rl PK pa ze H₀ m σ ρ G H) (h:((i ρ).bind k).ok m Z)
  (hq:∀ m1 x v G1 H1,Stp pa G H G1 H1->Wd PK pa m1 G1 H1->Rl PK pa ze H₀ m1 σ ρ G1 H1->Dn G1 v x->(k x).ok m1 Z->Q v H1):TAe PK i σ H Q:=by
 refine ⟨pa,ze,H₀,m,ρ,G,R,Tr.ok_mono (Tr.ok_bind.mp h) λm1 x hx v G1 H1 s1 w1 d1=>?_⟩
 exact hq m1 x v G1 H1 s1 w1 (R.step s1 w1) d1 hx
noncomputable def aa (k:Nat):yT:=λρ=>match ρ[k]? with
 | some (.d x)=>.ret x
 | _=>.fail
noncomputable def aC (d:PyData):yT:=λ_=>.ret d
theorem ac {k:Nat} (h:PE X e (ij k)):PE X e (TAe PK (aa k)):=h.imp λσ H Q hz0=>by
 obtain ⟨pa,ze,H₀,m,ρ,G,R,q⟩:=hz0
 unfold aa at q
 split at q
 ·rename_i x hx
  obtain ⟨o,h1,h2⟩:=R.sl k _ hx
  cases h2 with
  | d z=>exact ⟨_,h1,Kn.here q R.wd z⟩
 ·exact q.elim
theorem kT {v:V} {d:PyData} (h:PE X e (tC v)) (hd:∀ G,Dn G v d):PE X e (TAe PK (aC d)):=h.imp λσ H Q hz0=>by
 obtain ⟨pa,ze,H₀,m,ρ,G,R,q⟩:=hz0
 exact Kn.here q R.wd (hd G)
theorem ai {n:Int} {k pos}:PE X (.Constant (.int n) k pos) (TAe PK (aC (.int n))):=kT bY λ_=>.int n
theorem iX {n:Bool} {k pos}:PE X (.Constant (.bool n) k pos) (TAe PK (aC (.bool n))):=kT ZiV λ_=>.bl n
theorem gH {k pos}:PE X (.Constant .none k pos) (TAe PK (aC .none)):=kT sQ λ_=>.non
theorem aB {x:Str} {k pos}:PE X (.Constant (.str x) k pos) (TAe PK (aC (.str x))):=kT dP λ_=>.str x
theorem df {x:Str} {n:Int} (hg:Gl X x) (h:∃ t,X.mg x=some (.int n t)) (hd:(x == ("__debug__":Str))=false:=by decide):PE X (.Name x pos) (TAe PK (aC (.int n))):=kT (ZiQ hg h hd) λ_=>.int n
def bU (r:R2) (f:y3):Prop:=∀ (PK:Pk) (pa:Addr) (m:Nat) (G H:Hp) (x y:V) (dx dy dz:PyData) (Q:VK),Wd PK pa m G H->Dn G x dx->Dn G y dy->f dx dy=some dz->Kn PK pa m G H dz Q->r x y H Q
noncomputable def ad (f:y3) (i j:yT):yT:=λρ=>(i ρ).bind λx=>(j ρ).bind λy=>Tr.of (f x y)
theorem qL {r:R2} {f:y3} (hv:bU r f):∀ σ H Q,TAe PK (ad f i j) σ H Q->lm r (TAe PK i) (TAe PK j) σ H Q:=by
 rintro σ H Q ⟨pa,ze,H₀,m,ρ,G,R,q⟩
 refine TAe.then R q λm1 x v G1 H1 s1 w1 R1 d1 q1=>?_
 refine TAe.then R1 q1 λm2 y u G2 H2 s2 w2 R2 d2 q2=>?_
 obtain ⟨z,hz,k⟩:=Tr.ok_of q2
 exact hv PK pa m2 G2 H2 v u x y z Q w2 (d1.mono s2.gs) d2 hz (Kn.later k (s1.trans s2 w1.some) w2.some)
theorem ak {op:Operator} {r:R2} {f:y3} (ho:OpR X (binaryOp op) r) (hv:bU r f) (ha:PE X a (TAe PK i)) (hb:PE X b (TAe PK j)):PE X (.BinOp a op b pos) (TAe PK (ad f i j)) :=
 (b9 ho ha hb).imp (qL hv)
theorem hZ {op:CmpOp} {r:R2} {f:y3} (ho:OpR X (compareOp op) r) (hv:bU r f) (ha:PE X a (TAe PK i)) (hb:PE X b (TAe PK j)) (hm:behindInMarks op b=false):PE X (.Compare a [op] [b] pos) (TAe PK (ad f i j)) :=
 (ZiU ho ha hb hm).imp (qL hv)
theorem bi {r:R2} {f:y3} (hr:IxR X r) (hv:bU r f) (ha:PE X a (TAe PK i)) (hb:PE X b (TAe PK j)) (hs:Zfg b):PE X (.Subscript a b pos) (TAe PK (ad f i j)) :=
 (sS hr ha hb hs).imp (qL hv)
noncomputable def jh:PyData->Option Bool
 | .bool b=>some b
 | _=>none
@[simp] theorem Zst (b:Bool):jh (.bool b)=some b:=rfl
noncomputable def bc (i:yT):yV:=λρ=>(i ρ).bind λx=>Tr.of (jh x)
theorem Zfd:∀ σ H Q,TAt PK (bc i) σ H Q->ll (TAe PK i) σ H Q:=by
 rintro σ H Q ⟨pa,ze,H₀,m,ρ,G,R,q⟩
 refine TAe.then R q λm1 x v G1 H1 s1 w1 R1 d1 q1=>?_
 obtain ⟨b,hb,k⟩:=Tr.ok_of q1
 cases d1 <;> simp only [jh] at hb <;> cases hb
 exact ⟨_,rfl,k G1 H1 s1 w1⟩
theorem ZaJ {t t':TE} (h:∀ σ H Q,t' σ H Q->t σ H Q):∀ σ H Q,ll t' σ H Q->ll t σ H Q:=λσ H Q z=>h σ H _ z
theorem bE {op:CmpOp} {r:R2} {f:y3} (ho:OpR X (compareOp op) r) (hv:bU r f) (ha:PE X a (TAe PK i)) (hb:PE X b (TAe PK j)) (hm:behindInMarks op b=false):PT X (.Compare a [op] [b] pos) (TAt PK (bc (ad f i j))) :=
 (l0 ho ha hb hm).imp λσ H Q z=>ZaJ (qL hv) σ H Q (Zfd σ H Q z)
noncomputable def ZaB:PyData->Option Bool
 | .bool b=>some b
 | .int n=>some (n != 0)
 | .none=>some false
 | .list xs=>some (!xs.isEmpty)
 | .tuple xs=>some (!xs.isEmpty)
 | _=>none
noncomputable def eA (i:yT):yV:=λρ=>(i ρ).bind λx=>Tr.of (ZaB x)
theorem DnAll.isEmpty {H:Hp} {vs:zb} {ds:y6} (h:DnAll H vs ds):vs.isEmpty=ds.isEmpty:=by
 cases h <;> rfl
theorem eV (h:PE X e (TAe PK i)) (he:∀ whole,isTrue e X.env whole=(do let v <- whole; standAt e.pos; holding [v] (truthy v)):=by intro _; rfl):PT X e (TAt PK (eA i)):=(Zio h he).imp λσ H Q hz0=>by
 obtain ⟨pa,ze,H₀,m,ρ,G,R,q⟩:=hz0
 refine TAe.then R q λm1 x v G1 H1 s1 w1 R1 d1 q1=>?_
 obtain ⟨b,hb,k⟩:=Tr.ok_of q1
 have fin:=k G1 H1 s1 w1
 cases d1 with
 | non=>cases hb; exact ⟨_,rfl,fin⟩
 | bl b=>cases hb; exact ⟨_,rfl,fin⟩
 | int n=>cases hb; exact ⟨_,rfl,fin⟩
 | str _=>cases hb
 | tup h1 h2=>cases hb; exact ⟨_,.inr (.inl ⟨_,SqT.of (w1.sub _ _ h1),rfl⟩),by rw [h2.isEmpty]; exact fin⟩
 | lst h1 h2=>cases hb; exact ⟨_,.inl ⟨_,SqL.of (w1.sub _ _ h1),rfl⟩,by rw [h2.isEmpty]; exact fin⟩
 | dct _ _=>cases hb
noncomputable def qN (i j:yV):yV:=λρ=>(i ρ).bind λx=>if x=true then j ρ else .ret false
noncomputable def e8 (i j:yV):yV:=λρ=>(i ρ).bind λx=>if x=true then .ret true else j ρ
noncomputable def eB (i:yV):yV:=λρ=>(i ρ).bind λx=>.ret (!x)
variable {p q:yV} {rest:List Expr}
theorem TAt.then {σ:St} {H:Hp} {β:Type} {k:Bool->Tr β} {Z:Nat->β->Prop} {Q:Bool->Hp->Prop} {pa:Addr} {ze H₀ G:Hp} {m:Nat} {ρ:zd} (R:Rl PK pa ze H₀ m σ ρ G H) (h:((p ρ).bind k).ok m Z)
  (hq:∀ m1 x G1 H1,Stp pa G H G1 H1->Wd PK pa m1 G1 H1->Rl PK pa ze H₀ m1 σ ρ G1 H1->(k x).ok m1 Z->Q x H1):TAt PK p σ H Q:=by
 refine ⟨pa,ze,H₀,m,ρ,G,R,Tr.ok_mono (Tr.ok_bind.mp h) λm1 x hx G1 H1 s1 w1=>?_⟩
 exact hq m1 x G1 H1 s1 w1 (R.step s1 w1) hx
theorem ZeO {ze H₀ G H G1 H1:Hp} {m:Nat} {σ:St} {ρ:zd} {pa:Addr} {Q:Bool->Hp->Prop} (R1:Rl PK pa ze H₀ m σ ρ G1 H1) (s1:Stp pa G H G1 H1) (h:(q ρ).ok m λm' b=>∀ G' H',Stp pa G H G' H'->Wd PK pa m' G' H'->Q b H'):TAt PK q σ H1 Q :=
 ⟨pa,ze,H₀,m,ρ,G1,R1,Tr.ok_mono h λm2 b k G2 H2 s2 w2=>k G2 H2 (s1.trans s2 R1.wd.some) w2⟩
theorem qC {ze H₀ G H G1 H1:Hp} {m:Nat} {σ:St} {ρ:zd} {pa:Addr} {Q:VK} (R1:Rl PK pa ze H₀ m σ ρ G1 H1) (s1:Stp pa G H G1 H1) (h:(i ρ).ok m λm' x=>Kn PK pa m' G H x Q):TAe PK i σ H1 Q :=
 ⟨pa,ze,H₀,m,ρ,G1,R1,Tr.ok_mono h λm2 b k=>Kn.later k s1 R1.wd.some⟩
theorem ZeL (ha:PT X a (TAt PK p)):PW X (.BoolOp .And [a] pos) (TAt PK p):=Zim ha
theorem iV (ha:PT X a (TAt PK p)):PW X (.BoolOp .Or [a] pos) (TAt PK p):=sE ha
theorem ZeM (ha:PT X a (TAt PK p)) (hb:PW X (.BoolOp .And (b::rest) pos) (TAt PK q)):PW X (.BoolOp .And (a::b::rest) pos) (TAt PK (qN p q)):=(Zin ha hb).imp λσ H Q hz0=>by
 obtain ⟨pa,ze,H₀,m,ρ,G,R,z⟩:=hz0
 refine TAt.then R z λm1 x G1 H1 s1 w1 R1 q1=>?_
 cases x with
 | true=>rw [if_pos rfl] at q1 ⊢; exact ZeO R1 s1 q1
 | false=>rw [if_neg vL] at q1 ⊢; exact q1 G1 H1 s1 w1
theorem fW (ha:PT X a (TAt PK p)) (hb:PW X (.BoolOp .Or (b::rest) pos) (TAt PK q)):PW X (.BoolOp .Or (a::b::rest) pos) (TAt PK (e8 p q)):=(sF ha hb).imp λσ H Q hz0=>by
 obtain ⟨pa,ze,H₀,m,ρ,G,R,z⟩:=hz0
 refine TAt.then R z λm1 x G1 H1 s1 w1 R1 q1=>?_
 cases x with
 | true=>rw [if_pos rfl] at q1 ⊢; exact q1 G1 H1 s1 w1
 | false=>rw [if_neg vL] at q1 ⊢; exact ZeO R1 s1 q1
theorem gE (h:PW X e (TAt PK p)):PT X e (TAt PK p):=h.pt
theorem eW (ha:PT X a (TAt PK p)):PT X (.UnaryOp .Not a pos) (TAt PK (eB p)):=(sH ha).imp λσ H Q hz0=>by
 obtain ⟨pa,ze,H₀,m,ρ,G,R,z⟩:=hz0
 refine TAt.then R z λm1 x G1 H1 s1 w1 R1 q1=>?_
 exact q1 G1 H1 s1 w1
noncomputable def qM (i j:yT):yT:=λρ=>(bc i ρ).bind λx=>if x=true then j ρ else .ret (.bool false)
noncomputable def vh (i j:yT):yT:=λρ=>(bc i ρ).bind λx=>if x=true then .ret (.bool true) else j ρ
noncomputable def vk (i:yT):yT:=λρ=>(bc i ρ).bind λx=>.ret (.bool (!x))
theorem TAe.thenB {σ:St} {H:Hp} {β:Type} {k:Bool->Tr β} {Z:Nat->β->Prop} {Q:VK} {pa:Addr} {ze H₀ G:Hp} {m:Nat} {ρ:zd} (R:Rl PK pa ze H₀ m σ ρ G H) (h:((bc i ρ).bind k).ok m Z)
  (hq:∀ m1 c G1 H1,Stp pa G H G1 H1->Wd PK pa m1 G1 H1->Rl PK pa ze H₀ m1 σ ρ G1 H1->(k c).ok m1 Z->Q (.bl c) H1):TAe PK i σ H Q:=by
 unfold bc at h
 rw [Tr.bind_assoc] at h
 refine TAe.then R h λm1 x v G1 H1 s1 w1 R1 d1 q1=>?_
 rw [Tr.ok_bind] at q1
 obtain ⟨c,hb,q1⟩:=Tr.ok_of q1
 cases d1 <;> simp only [jh] at hb <;> cases hb
 exact hq m1 _ G1 H1 s1 w1 R1 q1
theorem u9 {op} (h:PE X a (TAe PK i)):PE X (.BoolOp op [a] pos) (TAe PK i):=ZiM h
theorem Ze8 (ha:PE X a (TAe PK i)) (hb:PE X (.BoolOp .And (b::rest) pos) (TAe PK j)):PE X (.BoolOp .And (a::b::rest) pos) (TAe PK (qM i j)):=(ZiW ha hb).imp λσ H Q hz0=>by
 obtain ⟨pa,ze,H₀,m,ρ,G,R,z⟩:=hz0
 refine TAe.thenB R z λm1 x G1 H1 s1 w1 R1 q1=>⟨x,rfl,?_⟩
 cases x with
 | true=>rw [if_pos rfl] at q1 ⊢; exact qC R1 s1 q1
 | false=>rw [if_neg vL] at q1 ⊢; exact (Kn.later q1 s1 w1.some).here w1 (.bl false)
theorem ZrM (ha:PE X a (TAe PK i)) (hb:PE X (.BoolOp .Or (b::rest) pos) (TAe PK j)):PE X (.BoolOp .Or (a::b::rest) pos) (TAe PK (vh i j)):=(ZiL ha hb).imp λσ H Q hz0=>by
 obtain ⟨pa,ze,H₀,m,ρ,G,R,z⟩:=hz0
 refine TAe.thenB R z λm1 x G1 H1 s1 w1 R1 q1=>⟨x,rfl,?_⟩
 cases x with
 | true=>rw [if_pos rfl] at q1 ⊢; exact (Kn.later q1 s1 w1.some).here w1 (.bl true)
 | false=>rw [if_neg vL] at q1 ⊢; exact qC R1 s1 q1
theorem ZrN (ha:PE X a (TAe PK i)):PE X (.UnaryOp .Not a pos) (TAe PK (vk i)):=(ZiN ha).imp λσ H Q hz0=>by
 obtain ⟨pa,ze,H₀,m,ρ,G,R,z⟩:=hz0
 refine TAe.thenB R z λm1 x G1 H1 s1 w1 R1 q1=>⟨x,rfl,?_⟩
 exact (Kn.later q1 s1 w1.some).here w1 (.bl _)
noncomputable def qH (p:yV) (i j:yT):yT:=λρ=>(p ρ).bind λx=>if x=true then i ρ else j ρ
theorem Ze6 (hc:PT X c (TAt PK p)) (ha:PE X a (TAe PK i)) (hb:PE X b (TAe PK j)):PE X (.IfExp c a b pos) (TAe PK (qH p i j)):=(ZiP hc ha hb).imp λσ H Q hz0=>by
 obtain ⟨pa,ze,H₀,m,ρ,G,R,z⟩:=hz0
 refine TAt.then R z λm1 x G1 H1 s1 w1 R1 q1=>?_
 cases x with
 | true=>rw [if_pos rfl] at q1 ⊢; exact qC R1 s1 q1
 | false=>rw [if_neg vL] at q1 ⊢; exact qC R1 s1 q1
variable {is:yU}
noncomputable def aq:yU:=λ_=>.ret []
noncomputable def af (i:yT) (is:yU):yU:=λρ=>(i ρ).bind λx=>(is ρ).bind λxs=>.ret (x::xs)
theorem au:PA X [] (TAd PK aq):=bz.imp λσ H Q hz0=>by
 obtain ⟨pa,ze,H₀,m,ρ,G,R,z⟩:=hz0
 exact z [] G H .refl R.wd .nil
theorem TAd.then {σ:St} {H:Hp} {β:Type} {k:List PyData->Tr β} {Z:Nat->β->Prop} {Q:List V->Hp->Prop} {pa:Addr} {ze H₀ G:Hp} {m:Nat} {ρ:zd} (R:Rl PK pa ze H₀ m σ ρ G H) (h:((is ρ).bind k).ok m Z)
  (hq:∀ m1 xs vs G1 H1,Stp pa G H G1 H1->Wd PK pa m1 G1 H1->Rl PK pa ze H₀ m1 σ ρ G1 H1->DnAll G1 vs xs->(k xs).ok m1 Z->Q vs H1):TAd PK is σ H Q:=by
 refine ⟨pa,ze,H₀,m,ρ,G,R,Tr.ok_mono (Tr.ok_bind.mp h) λm1 x hx v G1 H1 s1 w1 d1=>?_⟩
 exact hq m1 x v G1 H1 s1 w1 (R.step s1 w1) d1 hx
theorem aj (ha:PE X e (TAe PK i)) (hr:PA X es (TAd PK is)) (hs:starEach (e::es) X.env=(false,eval e X.env)::starEach es X.env:=by rfl):PA X (e::es) (TAd PK (af i is)):=(aT ha hr hs).imp λσ H Q hz0=>by
 obtain ⟨pa,ze,H₀,m,ρ,G,R,z⟩:=hz0
 refine TAe.then R z λm1 x v G1 H1 s1 w1 R1 d1 q1=>?_
 refine TAd.then R1 q1 λm2 xs vs G2 H2 s2 w2 R2 d2 q2=>?_
 exact q2 _ _ _ (s1.trans s2 w1.some) w2 (.cons (d1.mono s2.gs) d2)
noncomputable def small (n:Nat):Bool:=decide (n<=sizeLine)
noncomputable def dg (is:yU):yT:=λρ=>(is ρ).bind λxs=>if small xs.length=true then .ret (.tuple xs) else .fail
noncomputable def bw (is:yU):yT:=λρ=>(is ρ).bind λxs=>.ret (.list xs)
noncomputable def cq (is:yU):yU:=λρ=>(is ρ).bind λxs=>if small xs.length=true then .ret xs else .fail
theorem gp {α:Type} {c:Bool} {t:Tr α} {m:Nat} {Q:Nat->α->Prop} (h:(if c=true then t else .fail).ok m Q):c=true/\t.ok m Q:=by
 cases c with
 | true=>exact ⟨rfl,h⟩
 | false=>exact h.elim
theorem dI {x1} (h:PA X es (TAd PK is)):PE X (.Tuple es x1 pos) (TAe PK (dg is)):=(sP h).imp λσ H Q hz0=>by
 obtain ⟨pa,ze,H₀,m,ρ,G,R,z⟩:=hz0
 refine TAd.then R z λm1 xs vs G1 H1 s1 w1 R1 d1 q1=>?_
 obtain ⟨hs,k⟩:=gp q1
 exact ⟨by rw [d1.length]; exact of_decide_eq_true hs,λp hp=>(Kn.later k s1 w1.some).tup w1 d1 hp⟩
theorem Ko1.new {pa:Addr} {m:Nat} {G H:Hp} {xs:y6} {vs:zb} {Q:VK} {p:Addr} (k:Ko1 PK pa m G H xs Q) (w:Wd PK pa m G H) (d:DnAll G vs xs) (hp:H p=none):Q (.ref p) (upd H p (.lst vs)):=by
 obtain ⟨w1,s1⟩:=w.own (o:=.lst vs) hp
 exact k p vs G _ s1 w1 hp (w.gnone hp) bJ d
theorem Ko1.later {pa:Addr} {m:Nat} {G H G1 H1:Hp} {xs:y6} {Q:VK} (k:Ko1 PK pa m G H xs Q) (s:Stp pa G H G1 H1) (hp:∃ o,H1 pa=some o):Ko1 PK pa m G1 H1 xs Q:=λp vs G' H' s' w' h1 h2 h3 h4=>by
 refine k p vs G' H' (s.trans s' hp) w' ?_ h2 h3 h4
 cases e:H p with
 | none=>rfl
 | some u =>
  by_cases hc:p=pa
  ·subst hc
   obtain ⟨o,z⟩:=hp
   rw [h1] at z; cases z
  ·rw [s.hk p u e hc] at h1; cases h1
theorem cD (h:PA X es (TAd PK is)):PE X (.List es pos) (ib PK (cq is)):=(o4 h).imp λσ H Q hz0=>by
 obtain ⟨pa,ze,H₀,m,ρ,G,R,z⟩:=hz0
 refine TAd.then R z λm1 xs vs G1 H1 s1 w1 R1 d1 q1=>?_
 obtain ⟨hs,k⟩:=gp q1
 exact ⟨by rw [d1.length]; exact of_decide_eq_true hs,λp hp=>(Ko1.later k s1 w1.some).new w1 d1 hp⟩
theorem Ko1.of {pa:Addr} {m:Nat} {G H:Hp} {xs:y6} {Q:VK} (k:Kn PK pa m G H (.list xs) Q) (hp:∃ o,H pa=some o):Ko1 PK pa m G H xs Q:=λp vs G' H' s w h1 h2 h3 h4=>by
 have hne:pa≠p:=λe=>by
  obtain ⟨o,z⟩:=hp
  rw [e,h1] at z; cases z
 have sb:Sub G' (upd G' p (.lst vs)):=Sub.new h2
 refine k _ (upd G' p (.lst vs)) H' ⟨λb o h=>sb b o (s.gs b o h),λb o h=>?_,s.hk⟩ (w.freeze h3 h2 hne) (.lst bJ (DnAll.mono sb h4))
 by_cases e:b=p
 ·subst e; exact .inr h1
 ·rw [aK e] at h; exact s.gn b o h
theorem bW (h:PE X e (ib PK is)):PE X e (TAe PK (bw is)):=h.imp λσ H Q hz0=>by
 obtain ⟨pa,ze,H₀,m,ρ,G,R,z⟩:=hz0
 refine ⟨pa,ze,H₀,m,ρ,G,R,Tr.ok_mono (Tr.ok_bind.mp z) λm1 xs k=>Ko1.of k R.wd.some⟩
def dJ (r:List V->Hp->VK->Prop) (f:List PyData->Option PyData):Prop:=∀ (PK:Pk) (pa:Addr) (m:Nat) (G H:Hp) (vs:zb) (ds:y6) (d:PyData) (Q:VK),Wd PK pa m G H->DnAll G vs ds->f ds=some d->Kn PK pa m G H d Q->r vs H Q
noncomputable def aW (f:List PyData->Option PyData) (is:yU):yT:=λρ=>(is ρ).bind λxs=>Tr.of (f xs)
theorem ZrW {r:List V->Hp->VK->Prop} {f:List PyData->Option PyData} (hv:dJ r f):∀ σ H Q,TAe PK (aW f is) σ H Q->gM r (TAd PK is) σ H Q:=by
 rintro σ H Q ⟨pa,ze,H₀,m,ρ,G,R,z⟩
 refine TAd.then R z λm1 xs vs G1 H1 s1 w1 R1 d1 q1=>?_
 obtain ⟨d,hd,k⟩:=Tr.ok_of q1
 exact hv PK pa m1 G1 H1 vs xs d Q w1 d1 hd (Kn.later k s1 w1.some)
theorem aZ {t:TA} {r:List V->Hp->VK->Prop} {f:List PyData->Option PyData} (h:PE X e (gM r (TAd PK is))) (hv:dJ r f):PE X e (TAe PK (aW f is)):=h.imp (ZrW hv)
variable {as:List Sl->Tr zd}
noncomputable def aD:List Sl->Tr zd:=λ_=>.ret []
noncomputable def am (i:yT) (as:List Sl->Tr zd):List Sl->Tr zd:=λρ=>(i ρ).bind λx=>(as ρ).bind λxs=>.ret (.d x::xs)
noncomputable def bG (k:Nat) (as:List Sl->Tr zd):List Sl->Tr zd:=λρ=>match ρ[k]? with
 | some .pen=>(as ρ).bind λxs=>.ret (.pen::xs)
 | _=>.fail
theorem aE:PA X [] (TAa PK aD):=bz.imp λσ H Q hz0=>by
 obtain ⟨pa,ze,H₀,m,ρ,G,R,z⟩:=hz0
 exact z [] G H .refl R.wd .nil
theorem TAa.then {σ:St} {H:Hp} {β:Type} {k:List Sl->Tr β} {Z:Nat->β->Prop} {Q:List V->Hp->Prop} {pa:Addr} {ze H₀ G:Hp} {m:Nat} {ρ:zd} (R:Rl PK pa ze H₀ m σ ρ G H) (h:((as ρ).bind k).ok m Z)
  (hq:∀ m1 xs vs G1 H1,Stp pa G H G1 H1->Wd PK pa m1 G1 H1->Rl PK pa ze H₀ m1 σ ρ G1 H1->ArsOk pa G1 vs xs->(k xs).ok m1 Z->Q vs H1):TAa PK as σ H Q:=by
 refine ⟨pa,ze,H₀,m,ρ,G,R,Tr.ok_mono (Tr.ok_bind.mp h) λm1 x hx v G1 H1 s1 w1 d1=>?_⟩
 exact hq m1 x v G1 H1 s1 w1 (R.step s1 w1) d1 hx
theorem ao (ha:PE X e (TAe PK i)) (hr:PA X es (TAa PK as)) (hs:starEach (e::es) X.env=(false,eval e X.env)::starEach es X.env:=by rfl):PA X (e::es) (TAa PK (am i as)):=(aT ha hr hs).imp λσ H Q hz0=>by
 obtain ⟨pa,ze,H₀,m,ρ,G,R,z⟩:=hz0
 refine TAe.then R z λm1 x v G1 H1 s1 w1 R1 d1 q1=>?_
 refine TAa.then R1 q1 λm2 xs vs G2 H2 s2 w2 R2 d2 q2=>?_
 exact q2 _ _ _ (s1.trans s2 w1.some) w2 (.cons (.d (d1.mono s2.gs)) d2)
theorem bP {k:Nat} (ha:PE X e (ij k)) (hr:PA X es (TAa PK as)) (hs:starEach (e::es) X.env=(false,eval e X.env)::starEach es X.env:=by rfl):PA X (e::es) (TAa PK (bG k as)):=(aT ha hr hs).imp λσ H Q hz0=>by
 obtain ⟨pa,ze,H₀,m,ρ,G,R,z⟩:=hz0
 unfold bG at z
 split at z
 ·rename_i hk
  obtain ⟨o,h1,h2⟩:=R.sl k _ hk
  cases h2
  refine ⟨_,h1,?_⟩
  refine TAa.then R z λm2 xs vs G2 H2 s2 w2 R2 d2 q2=>?_
  exact q2 _ _ _ s2 w2 (.cons .pen d2)
 ·exact z.elim
def aSp (PK:Pk) (n:Nat) (f:yX):Sp:=λvs H Q _=>vs.length=n/\∃ pa m G as,Wd PK pa m G H/\ArsOk pa G vs as/\(f as).ok m λm' r=>Kr PK pa m' G H r Q
noncomputable def aG (f:yX) (as:List Sl->Tr zd):yX:=λρ=>(as ρ).bind f
noncomputable def aH (f:yX):yT:=λρ=>(f ρ).bind λr=>.ret r.val
def vq (PK:Pk) (i:yX):TE:=λσ H Q=>∃ pa ze H₀ m ρ G,Rl PK pa ze H₀ m σ ρ G H/\(i ρ).ok m λm' r=>Kr PK pa m' G H r Q
theorem Kr.later {pa:Addr} {m:Nat} {G H G1 H1:Hp} {r:Re} {Q:VK} (k:Kr PK pa m G H r Q) (s:Stp pa G H G1 H1) (hp:∃ o,H1 pa=some o):Kr PK pa m G1 H1 r Q:=λv G' H' s' w' d=>by
 refine k v G' H' (s.trans s' hp) w' ?_
 cases r with
 | d x=>exact d
 | own xs =>
  obtain ⟨p,vs,e,h1,h2,h3,h4⟩:=d
  refine ⟨p,vs,e,h1,h2,?_,h4⟩
  cases e:H p with
  | none=>rfl
  | some u =>
   by_cases hc:p=pa
   ·subst hc
    obtain ⟨o,z⟩:=hp
    rw [h3] at z; cases z
   ·rw [s.hk p u e hc] at h3; cases h3
theorem Kr.of {pa:Addr} {m:Nat} {G H:Hp} {r:Re} {Q:VK} (k:Kn PK pa m G H r.val Q) (hp:∃ o,H pa=some o):Kr PK pa m G H r Q:=λv G' H' s w d=>by
 cases r with
 | d x=>exact k v G' H' s w d
 | own xs =>
  obtain ⟨p,vs,rfl,h1,h2,h3,h4⟩:=d
  exact Ko1.of k hp p vs G' H' s w h3 h2 h1 h4
theorem aL {f:yX} (h:PE X e (vq PK f)):PE X e (TAe PK (aH f)):=h.imp (by
 intro σ H Q z
 obtain ⟨pa,ze,H₀,m,ρ,G,R,z⟩:=z
 exact ⟨pa,ze,H₀,m,ρ,G,R,Tr.ok_mono (Tr.ok_bind.mp z) λm1 r k=>Kr.of k R.wd.some⟩)
structure ACal (PK:Pk) (P:Program) (w:World) (K:yS) (mg:zc) (base:Heap) (x:Str) (k:Nat) (ps:za) (f:yX):Prop where
 cal:Callee P w K mg base x k ps (aSp PK ps.length f)
 len:∀ as m Z,(f as).ok m Z->as.length=ps.length
theorem aJ {x:Str} {k:Nat} {ps:za} {f:yX} {pp:Pos} (C:ACal PK X.prog X.w X.K X.mg X.base x k ps f) (hr:Room k X.A) (hg:Gl X x) (ha:PA X (e::es) (TAa PK as))
  (hdb:(x == ("__debug__":Str))=false:=by decide)
  (he:starEach (e::es) X.env=(false,eval e X.env)::starEach es X.env:=by rfl) (hpl:(backTo pos (starEach es X.env)).any (·.1)=false:=by rfl):PE X (.Call (.Name x pp) (e::es) [] pos) (vq PK (aG f as)) :=
 (Zb9 C.cal hr hg ha hdb he hpl).imp λσ H Q hz0=>by
  obtain ⟨pa,ze,H₀,m,ρ,G,R,z⟩:=hz0
  refine TAa.then R z λm1 xs vs G1 H1 s1 w1 R1 d1 q1=>?_
  show aSp PK ps.length f (vs++[]) H1 Q E0
  rw [v7]
  exact ⟨by rw [d1.length]; exact C.len _ _ _ q1,pa,m1,G1,xs,w1,d1,Tr.ok_mono q1 λm2 r k=>Kr.later k s1 w1.some⟩
variable {PK:Pk} {X:Cx} {a b c e:Expr} {es:List Expr} {pos:Pos} {i j l:yT} {is:yU} {as:List Sl->Tr zd} {f:yX} {p q:yV} {st:Stmt} {sts:List Stmt} {s t u:yW}
noncomputable def ap (s t:yW):yW:=λρ=>(s ρ).bind λo=>match o with
 | .next ρ'=>t ρ'
 | o=>.ret o
noncomputable def bQ:yW:=λρ=>.ret (.next ρ)
theorem Ko.later {pa:Addr} {ze H₀ Gs G:Hp} {D:Ends} {m:Nat} {o:Ou} (k:Ko PK pa ze H₀ Gs D m o) (sb:Sub Gs G):Ko PK pa ze H₀ G D m o:=by
 cases o with
 | next ρ=>exact λσ G' H s R=>k σ G' H (λb o h=>s b o (sb b o h)) R
 | ret r=>exact k
 | brk ρ=>exact λσ G' H s R=>k σ G' H (λb o h=>s b o (sb b o h)) R
 | cont ρ=>exact λσ G' H s R=>k σ G' H (λb o h=>s b o (sb b o h)) R
theorem Sub.refl {G:Hp}:Sub G G:=λ_ _ h=>h
theorem Sub.trans {G G1 G2:Hp} (a:Sub G G1) (b:Sub G1 G2):Sub G G2:=λc o h=>b c o (a c o h)
theorem bV:PSs X [] (bx PK bQ):=jq.imp λD σ H hz0=>by
 obtain ⟨pa,ze,H₀,m,ρ,G,R,z⟩:=hz0
 exact z σ G H .refl R
theorem ZrV:∀ D σ H,bx PK (ap s t) D σ H->rG (bx PK s) (bx PK t) D σ H:=by
 rintro D σ H ⟨pa,ze,H₀,m,ρ,G,R,z⟩
 refine ⟨pa,ze,H₀,m,ρ,G,R,Tr.ok_mono (Tr.ok_bind.mp z) λm1 o k=>?_⟩
 cases o with
 | next ρ'=>exact λσ' G' H' sb R'=>⟨pa,ze,H₀,m1,ρ',G',R',Tr.ok_mono k λ_ _ k'=>Ko.later k' sb⟩
 | ret r=>exact k
 | brk ρ'=>exact k
 | cont ρ'=>exact k
theorem av (h1:PS X st (bx PK s)) (h2:PSs X sts (bx PK t)):PSs X (st::sts) (bx PK (ap s t)):=(cG h1 h2).imp ZrV
theorem aM (h1:PS X st (bx PK s)):PSs X [st] (bx PK s):=fh h1
noncomputable def kZ:yW:=λ_=>.fail
theorem nc:PS X st (bx PK kZ):=λ_ _ _ _ _ _ h=>by
 obtain ⟨pa,ze,H₀,m,ρ,G,R,z⟩:=h
 exact z.elim
noncomputable def qJ (i:yT):yW:=λρ=>(i ρ).bind λ_=>.ret (.next ρ)
theorem ZeZ (he:PE X e (TAe PK i)) (hs:swapsWith e none pos.line X.env=pure false:=by rfl):PS X (.Expr e pos) (bx PK (qJ i)):=(fj he hs).imp λD σ H hz0=>by
 obtain ⟨pa,ze,H₀,m,ρ,G,R,z⟩:=hz0
 refine TAe.then R z λm1 x v G1 H1 s1 w1 R1 d1 q1=>?_
 exact q1 σ G1 H1 s1.gs R1
noncomputable def bb (i:yT):yW:=λρ=>(i ρ).bind λx=>.ret (.ret (.d x))
theorem bd (he:PE X e (TAe PK i)):PS X (.Return (some e) pos) (bx PK (bb i)):=(fi he).imp λD σ H hz0=>by
 obtain ⟨pa,ze,H₀,m,ρ,G,R,z⟩:=hz0
 refine TAe.then R z λm1 x v G1 H1 s1 w1 R1 d1 q1=>?_
 exact q1 v G1 H1 R1.st w1 d1
noncomputable def qF (is:yU):yW:=λρ=>(is ρ).bind λx=>.ret (.ret (.own x))
theorem ZeY (he:PE X e (ib PK is)):PS X (.Return (some e) pos) (bx PK (qF is)):=(fi he).imp λD σ H hz0=>by
 obtain ⟨pa,ze,H₀,m,ρ,G,R,z⟩:=hz0
 refine ⟨pa,ze,H₀,m,ρ,G,R,Tr.ok_mono (Tr.ok_bind.mp z) λm1 xs k p vs G1 H1 s1 w1 h1 h2 h3 h4=>?_⟩
 exact k (.ref p) G1 H1 (R.st.trans s1 R.wd.some) w1 ⟨p,vs,rfl,h3,h2,R.h0 h1,h4⟩
noncomputable def vg (f:yX):yW:=λρ=>(f ρ).bind λr=>.ret (.ret r)
theorem ZrD (he:PE X e (vq PK f)):PS X (.Return (some e) pos) (bx PK (vg f)):=(fi he).imp (by
 intro D σ H z
 obtain ⟨pa,ze,H₀,m,ρ,G,R,z⟩:=z
 exact ⟨pa,ze,H₀,m,ρ,G,R,Tr.ok_mono (Tr.ok_bind.mp z) λm1 r k=>Kr.later k R.st R.wd.some⟩)
noncomputable def fy (k:Nat):yW:=λρ=>match ρ[k]? with
 | some (.d x)=>.ret (.ret (.d x))
 | some (.own xs)=>.ret (.ret (.own xs))
 | _=>.fail
theorem kQ {k:Nat} (he:PE X e (ij k)):PS X (.Return (some e) pos) (bx PK (fy k)):=(fi he).imp λD σ H hz0=>by
 obtain ⟨pa,ze,H₀,m,ρ,G,R,z⟩:=hz0
 unfold fy at z
 split at z
 ·rename_i x hx
  obtain ⟨o,h1,h2⟩:=R.sl k _ hx
  cases h2 with
  | d d1=>exact ⟨_,h1,z _ G H R.st R.wd d1⟩
 ·rename_i xs hx
  obtain ⟨o,h1,h2⟩:=R.sl k _ hx
  cases h2 with
  | own a1 a2 a3 a4=>exact ⟨_,h1,z _ G H R.st R.wd ⟨_,_,rfl,a1,a2,a3,a4⟩⟩
 ·exact z.elim
noncomputable def b7 (p:yV) (s t:yW):yW:=λρ=>(p ρ).bind λx=>if x=true then s ρ else t ρ
theorem cg {xs ys:List Stmt} (hc:PT X c (TAt PK p)) (ha:PSs X xs (bx PK s)) (hb:PSs X ys (bx PK t)):PS X (.If c xs ys pos) (bx PK (b7 p s t)):=(iu hc ha hb).imp λD σ H hz0=>by
 obtain ⟨pa,ze,H₀,m,ρ,G,R,z⟩:=hz0
 refine TAt.then R z λm1 x G1 H1 s1 w1 R1 q1=>?_
 cases x with
 | true=>rw [if_pos rfl] at q1 ⊢; exact ⟨pa,ze,H₀,m1,ρ,G1,R1,Tr.ok_mono q1 λ_ _ k'=>Ko.later k' s1.gs⟩
 | false=>rw [if_neg vL] at q1 ⊢; exact ⟨pa,ze,H₀,m1,ρ,G1,R1,Tr.ok_mono q1 λ_ _ k'=>Ko.later k' s1.gs⟩
noncomputable def aX (k:Nat) (i:yT):yW:=λρ=>(i ρ).bind λx=>.ret (.next (ρ.set k (.d x)))
theorem a9 {k:Nat} (h:PS X st (gj (TAe PK i) (hI k))):PS X st (bx PK (aX k i)):=h.imp λD σ H hz0=>by
 obtain ⟨pa,ze,H₀,m,ρ,G,R,z⟩:=hz0
 refine TAe.then R z λm1 x v G1 H1 s1 w1 R1 d1 q1=>?_
 exact q1 _ G1 H1 s1.gs (R1.set d1 k)
noncomputable def i0 (k:Nat) (is:yU):yW:=λρ=>(is ρ).bind λx=>.ret (.next (ρ.set k (.own x)))
theorem kP {k:Nat} (h:PS X st (gj (ib PK is) (hI k))):PS X st (bx PK (i0 k is)):=h.imp λD σ H hz0=>by
 obtain ⟨pa,ze,H₀,m,ρ,G,R,z⟩:=hz0
 refine ⟨pa,ze,H₀,m,ρ,G,R,Tr.ok_mono (Tr.ok_bind.mp z) λm1 xs k' p vs G1 H1 s1 w1 h1 h2 h3 h4=>?_⟩
 exact k' _ G1 H1 s1.gs ((R.step s1 w1).setO h3 h2 (R.h0 h1) h4 (λn ys e=>R.apart h1 n ys e) k)
noncomputable def nr (f:y3) (k:Nat) (i:yT):yW:=λρ=>(aa k ρ).bind λx=>(i ρ).bind λy=>(Tr.of (f x y)).bind λz=>.ret (.next (ρ.set k (.d z)))
theorem Ze0 {k:Nat} {r:R2} {g:y3} (hv:bU r g) (h:PS X st (ZaP k (TAe PK i) r)):PS X st (bx PK (nr g k i)):=h.imp λD σ H hz0=>by
 obtain ⟨pa,ze,H₀,m,ρ,G,R,z⟩:=hz0
 unfold nr aa at z
 split at z
 ·rename_i x hx
  obtain ⟨o,h1,h2⟩:=R.sl k _ hx
  cases h2 with
  | d d0 =>
   refine ⟨_,h1,?_⟩
   refine TAe.then R z λm1 y v G1 H1 s1 w1 R1 d1 q1=>?_
   rw [Tr.ok_bind] at q1
   obtain ⟨w,hw,q1⟩:=Tr.ok_of q1
   refine hv PK pa m1 G1 H1 _ v x y w _ w1 (d0.mono s1.gs) d1 hw λu G2 H2 s2 w2 d2=>?_
   exact q1 _ G2 H2 (s1.gs.trans s2.gs) ((R1.step s2 w2).set d2 k)
 ·exact z.elim
noncomputable def gI (k:Nat) (i:yT):yW:=λρ=>match ρ[k]? with
 | some (.own xs)=>(i ρ).bind λx=>if small (xs.length+1)=true then .ret (.next (ρ.set k (.own (xs++[x])))) else .fail
 | _=>.fail
theorem DnAll.snoc {H:Hp} {vs:zb} {ds:y6} {v:V} {d:PyData} (h:DnAll H vs ds) (h1:Dn H v d):DnAll H (vs++[v]) (ds++[d]):=h.append (.cons h1 .nil)
theorem jJ {k:Nat} {K:yS} {st:Stmt} (h:PS X st (rK (tBM K "list" ZbW (ij k) (gi (TAe PK i) aR)))):PS X st (bx PK (gI k i)):=h.imp λD σ H hz0=>by
 obtain ⟨pa,ze,H₀,m,ρ,G,R,z⟩:=hz0
 unfold gI at z
 split at z
 ·rename_i xs hx
  obtain ⟨o,h1,h2⟩:=R.sl k _ hx
  cases h2 with
  | @own p vs _ a1 a2 a3 a4 =>
   refine ⟨_,h1,.inl ⟨rfl,_,SqL.of a1⟩,?_⟩
   refine TAe.then R z λm1 x v G1 H1 s1 w1 R1 d1 q1=>?_
   obtain ⟨hs,q1⟩:=gp q1
   obtain ⟨o,h1',h2⟩:=R1.sl k _ hx
   rw [h1] at h1'
   cases h1'
   cases h2 with
   | @own _ vs1 _ b1 b2 b3 b4 =>
    have hs':xs.length+1<=sizeLine:=of_decide_eq_true hs
    refine ⟨p,vs1,v,rfl,rfl,b1,by rw [b4.length]; omega,?_⟩
    exact q1 σ G1 _ s1.gs (R1.change hx h1 (b4.snoc d1))
 ·exact z.elim
theorem DnAll.reverse {H:Hp} {vs:zb} {ds:y6} (h:DnAll H vs ds):DnAll H vs.reverse ds.reverse:=by
 induction vs generalizing ds with
 | nil=>cases h; exact .nil
 | cons v vs ih=>cases h with | cons r t=>rw [xz,xz]; exact DnAll.append (ih t) (.cons r .nil)
noncomputable def kX (k:Nat):yW:=λρ=>match ρ[k]? with
 | some (.own xs)=>.ret (.next (ρ.set k (.own xs.reverse)))
 | _=>.fail
theorem uY {k:Nat} {K:yS} (h:PS X st (rK (ZaN K "list" Zbz (ij k)))):PS X st (bx PK (kX k)):=h.imp λD σ H hz0=>by
 obtain ⟨pa,ze,H₀,m,ρ,G,R,z⟩:=hz0
 unfold kX at z
 split at z
 ·rename_i xs hx
  obtain ⟨o,h1,h2⟩:=R.sl k _ hx
  cases h2 with
  | @own p vs _ a1 a2 a3 a4 =>
   refine ⟨_,h1,.inl ⟨rfl,_,SqL.of a1⟩,p,vs,rfl,rfl,a1,?_⟩
   exact z σ G _ .refl (R.change hx h1 a4.reverse)
 ·exact z.elim
noncomputable def jM (k:Nat) (s:yW):yW:=λρ=>s (fz k ρ)
theorem ng {k:Nat} (h:PS X st (bx PK s)):PS X st (bx PK (jM k s)):=h.imp λD σ H hz0=>by
 obtain ⟨pa,ze,H₀,m,ρ,G,R,z⟩:=hz0
 obtain ⟨G',sb,R'⟩:=R.freeze k
 exact ⟨pa,ze,H₀,m,_,G',R',Tr.ok_mono z λ_ _ k'=>Ko.later k' sb⟩
def fA (PK:Pk) (g:yZ):TG:=λv σ H Q=>∃ pa ze H₀ m ρ G x ρ',Rl PK pa ze H₀ m σ ρ G H/\Dn G v x/\g x ρ=some ρ'/\∀ σ',Rl PK pa ze H₀ m σ' ρ' G H->Q σ' H
noncomputable def qO (PK:Pk) (g:yY):ia:=λvs σ H Q=>∃ pa ze H₀ m ρ G xs ρ',Rl PK pa ze H₀ m σ ρ G H/\DnAll G vs xs/\g xs ρ=some ρ'/\∀ σ',Rl PK pa ze H₀ m σ' ρ' G H->Q σ' H
theorem PG.imp {tg:Expr} {t t':TG} (h:PG X tg t) (q:∀ v σ H Q,t' v σ H Q->t v σ H Q):PG X tg t':=λpins s σ H v u Q I r z=>h pins s σ H v u Q I r (q v σ H Q z)
theorem PGs.imp {tg:List Expr} {t t':ia} (h:PGs X tg t) (q:∀ v σ H Q,t' v σ H Q->t v σ H Q):PGs X tg t':=λpins s σ H v u Q I r z=>h pins s σ H v u Q I r (q v σ H Q z)
noncomputable def aw (k:Nat):yZ:=λx ρ=>some (ρ.set k (.d x))
theorem bg {k:Nat} (h:PG X e (hI k)):PG X e (fA PK (aw k)):=h.imp λv σ H Q hz0=>by
 obtain ⟨pa,ze,H₀,m,ρ,G,x,ρ',R,d,e,q⟩:=hz0
 cases e
 exact q _ (R.set d k)
noncomputable def cO:yY:=λxs ρ=>match xs with
 | []=>some ρ
 | _=>none
noncomputable def bB (g:yZ) (gs:yY):yY:=λxs ρ=>match xs with
 | x::xs=>(g x ρ).bind λρ'=>gs xs ρ'
 | []=>none
theorem gF:PGs X [] (qO PK cO):=ZiD.imp λvs σ H Q hz0=>by
 obtain ⟨pa,ze,H₀,m,ρ,G,xs,ρ',R,d,e,q⟩:=hz0
 cases d with
 | nil=>cases e; exact ⟨rfl,q _ R⟩
 | cons _ _=>cases e
theorem cT {g:yZ} {gs:yY} (h1:PG X e (fA PK g)) (h2:PGs X es (qO PK gs))
  (hs:(assignEach (e::es) X.env).map (·.2)=assign e X.env::(assignEach es X.env).map (·.2):=by rfl):PGs X (e::es) (qO PK (bB g gs)):=(ZiE h1 h2 hs).imp λvs σ H Q hz0=>by
 obtain ⟨pa,ze,H₀,m,ρ,G,xs,ρ',R,d,e,q⟩:=hz0
 cases d with
 | nil=>cases e
 | cons d1 d2 =>
  have e':(g _ ρ).bind (λρ'=>gs _ ρ')=some ρ':=e
  cases h:g _ ρ with
  | none=>rw [h] at e'; cases e'
  | some ρ1 =>
   rw [h] at e'
   exact ⟨_,_,rfl,pa,ze,H₀,m,ρ,G,_,ρ1,R,d1,h,λσ1 R1=>⟨pa,ze,H₀,m,ρ1,G,_,ρ',R1,d2,e',q⟩⟩
noncomputable def cY (gs:yY):yZ:=λx ρ=>match x with
 | .tuple xs=>gs xs ρ
 | _=>none
def p7 (n:Nat) (gs:yY):Prop:=∀ xs ρ ρ',gs xs ρ=some ρ'->xs.length=n
theorem gy:p7 0 cO:=λxs ρ ρ' h=>by cases xs with | nil=>rfl | cons _ _=>cases h
theorem cP {n:Nat} {g:yZ} {gs:yY} (h:p7 n gs):p7 (n+1) (bB g gs):=λxs ρ ρ' e=>by
 cases xs with
 | nil=>cases e
 | cons x xs =>
  have e':(g x ρ).bind (λρ'=>gs xs ρ')=some ρ':=e
  cases h1:g x ρ with
  | none=>rw [h1] at e'; cases e'
  | some ρ1 =>
   rw [h1] at e'
   exact congrArg (·+1) (h xs ρ1 ρ' e')
theorem gG {k:Nat} {gs:yY} {n:Nat} (hc:X.calm=true) (h:PGs X es (qO PK gs)) (hl:p7 n gs)
  (hn:(assignEach es X.env).length=n:=by rfl) (hst:(assignEach es X.env).findIdx? (·.1)=none:=by rfl):PG X (.Tuple es k pos) (fA PK (cY gs)):=(ZiF hc h hn hst).imp λv σ H Q hz0=>by
 obtain ⟨pa,ze,H₀,m,ρ,G,x,ρ',R,d,e,q⟩:=hz0
 cases d with
 | tup h1 h2=>exact ⟨_,_,rfl,SqT.of (R.wd.sub _ _ h1),by rw [h2.length]; exact hl _ _ _ e,pa,ze,H₀,m,ρ,G,_,ρ',R,h2,e,q⟩
 | _=>cases e
noncomputable def i7 (g:yZ) (i:yT):yW:=λρ=>(i ρ).bind λx=>(Tr.of (g x ρ)).bind λρ'=>.ret (.next ρ')
theorem kR {g:yZ} (h:PS X st (gj (TAe PK i) (fA PK g))):PS X st (bx PK (i7 g i)):=h.imp λD σ H hz0=>by
 obtain ⟨pa,ze,H₀,m,ρ,G,R,z⟩:=hz0
 refine TAe.then R z λm1 x v G1 H1 s1 w1 R1 d1 q1=>?_
 rw [Tr.ok_bind] at q1
 obtain ⟨ρ',hg,q1⟩:=Tr.ok_of q1
 exact ⟨pa,ze,H₀,m1,ρ,G1,x,ρ',R1,d1,hg,λσ' R'=>q1 σ' G1 H1 s1.gs R'⟩
noncomputable def kY (k n:Nat) (is:yU):yW:=λρ=>(is ρ).bind λxs=>match xs with
 | [x,y]=>.ret (.next ((ρ.set k (.d x)).set n (.d y)))
 | _=>.fail
theorem uZ {k n:Nat} (h:PS X st (ZaK k n (TAd PK is))):PS X st (bx PK (kY k n is)):=h.imp λD σ H hz0=>by
 obtain ⟨pa,ze,H₀,m,ρ,G,R,z⟩:=hz0
 refine TAd.then R z λm1 xs vs G1 H1 s1 w1 R1 d1 q1=>?_
 split at q1
 ·cases d1 with
  | cons e1 d1 =>
   cases d1 with
   | cons e2 d1 =>
    cases d1
    exact ⟨_,_,rfl,q1 _ G1 H1 s1.gs ((R1.set e1 k).set e2 n)⟩
 ·exact q1.elim
def i9 (PK:Pk) (pa:Addr) (J:It) (G:Hp) (xs:y6):Prop:=∀ m G2 H2,Sub G G2->Wd PK pa m G2 H2 ->
 (∀ (n:Nat) (d:PyData),xs[n]?=some d->J.go n H2/\∀ x H3,J.yld n H2 x H3->∃ G3,Stp pa G2 H2 G3 H3/\Wd PK pa m G3 H3/\Dn G3 x d)/\J.stop xs.length H2
def eP (PK:Pk) (is:yU):TI:=λσ H R=>∃ pa ze H₀ m ρ G,Rl PK pa ze H₀ m σ ρ G H/\(is ρ).ok m λm' xs=>∀ J G' H',Stp pa G H G' H'->Wd PK pa m' G' H'->i9 PK pa J G' xs->R J H'
theorem PI.imp {tg iter:Expr} {t t':TI} (h:PI X tg iter t) (q:∀ σ H R,t' σ H R->t σ H R):PI X tg iter t':=λpins s σ H R I z=>h pins s σ H R I (q σ H R z)
noncomputable def ce (g:yZ) (s:yW):List PyData->List Sl->Tr Ou
 | [],ρ=>.ret (.next ρ)
 | x::xs,ρ=>(Tr.of (g x ρ)).bind λρ1=>(s ρ1).bind λo=>match o with
  | .next ρ2=>ce g s xs ρ2
  | .cont ρ2=>ce g s xs ρ2
  | .brk ρ2=>.ret (.next ρ2)
  | .ret r=>.ret (.ret r)
noncomputable def fY (is:yU) (g:yZ) (s:yW):yW:=λρ=>(is ρ).bind λxs=>ce g s xs ρ
theorem hV {tg iter:Expr} {body:List Stmt} {g:yZ} (hp:PassesOwn (model X.prog X.w) X.A X.env X.xe) (hc:X.calm=true) (hi:PI X tg iter (eP PK is)) (hg:PG X tg (fA PK g)) (hb:PSs X body (bx PK s))
  (hs:∀ x,foldedSetIterable iter X.env x=pure x:=by intro _; rfl):PS X (.For tg iter body [] pos) (bx PK (fY is g s)):=(Ziu hp hc hi hg hb hs).imp λD σ H hz0=>by
 obtain ⟨pa,ze,H₀,m,ρ,G,R,z⟩:=hz0
 refine ⟨pa,ze,H₀,m,ρ,G,R,Tr.ok_mono (Tr.ok_bind.mp z) λm1 xs k J G1 H1 s1 w1 jo=>?_⟩
 let W:Nat->Nat->St->Hp->Prop:=λn mm σ H=>mm=xs.length - n/\n<=xs.length/\∃ m ρ G,Sub G1 G/\Rl PK pa ze H₀ m σ ρ G H/\(ce g s (xs.drop n) ρ).ok m (Ko PK pa ze H₀ G1 D)
 refine ⟨W,⟨xs.length,rfl,wN _,m1,ρ,G1,λ_ _ h=>h,R.step s1 w1,Tr.ok_mono k λ_ _ k'=>Ko.later k' s1.gs⟩,?_⟩
 rintro n mm σ2 H2 ⟨rfl,hn,m2,ρ2,G2,sb,R2,k2⟩
 obtain ⟨j1,j2⟩:=jo m2 G2 H2 sb R2.wd
 by_cases hlt:n < xs.length
 ·have hx:xs[n]?=some xs[n]:=by simp [hlt]
  obtain ⟨jg,jy⟩:=j1 n _ hx
  refine .inr ⟨jg,W (n+1) (xs.length - (n+1)),λσ' H' h'=>⟨_,by omega,h'⟩,λx H3 y=>?_⟩
  obtain ⟨G3,s3,w3,d3⟩:=jy x H3 y
  rw [wK hlt] at k2
  unfold ce at k2
  rw [Tr.ok_bind] at k2
  obtain ⟨ρ3,hg3,k3⟩:=Tr.ok_of k2
  refine ⟨pa,ze,H₀,m2,ρ2,G3,_,ρ3,R2.step s3 w3,d3,hg3,λσ4 R4=>?_⟩
  refine ⟨pa,ze,H₀,m2,ρ3,G3,R4,Tr.ok_mono (Tr.ok_bind.mp k3) λm5 o ko=>?_⟩
  have again:∀ ρ5,(ce g s (xs.drop (n+1)) ρ5).ok m5 (Ko PK pa ze H₀ G1 D)->∀ σ5 G5 H5,Sub G3 G5->Rl PK pa ze H₀ m5 σ5 ρ5 G5 H5->W (n+1) (xs.length - (n+1)) σ5 H5:=λρ5 k5 σ5 G5 H5 sb5 R5 =>
   ⟨rfl,hlt,m5,ρ5,G5,(sb.trans s3.gs).trans sb5,R5,k5⟩
  cases o with
  | next ρ5=>exact again ρ5 ko
  | cont ρ5=>exact again ρ5 ko
  | brk ρ5=>exact λσ5 G5 H5 sb5 R5=>ko σ5 G5 H5 ((sb.trans s3.gs).trans sb5) R5
  | ret r=>exact ko
 ·have e:n=xs.length:=by omega
  subst e
  refine .inl ⟨j2,?_⟩
  rw [xk] at k2
  exact k2 σ2 G2 H2 sb R2
variable {PK:Pk} {X:Cx} {a b c e:Expr} {es:List Expr} {pos:Pos} {i j l:yT} {is:yU} {as:List Sl->Tr zd} {f:yX} {p q:yV} {st:Stmt} {sts:List Stmt} {s t u:yW}
noncomputable def cV (p:yV) (s:yW):Nat->List Sl->Tr Ou
 | 0,_=>.fail
 | n+1,ρ=>(p ρ).bind λb=>if b=true then (s ρ).bind λo=>match o with
   | .next ρ2=>cV p s n ρ2
   | .cont ρ2=>cV p s n ρ2
   | .brk ρ2=>.ret (.next ρ2)
   | .ret r=>.ret (.ret r)
  else .ret (.next ρ)
theorem uW {body:List Stmt} (n:Nat) (hp:PassesOwn (model X.prog X.w) X.A X.env X.xe) (hc:PT X c (TAt PK p)) (hb:PSs X body (bx PK s)):PS X (.While c body [] pos) (bx PK (cV p s n)):=(Zis hp hc hb).imp λD σ H hz0=>by
 obtain ⟨pa,ze,H₀,m,ρ,G,R,z⟩:=hz0
 let W:Nat->St->Hp->Prop:=λn σ H=>∃ m ρ G1,Sub G G1/\Rl PK pa ze H₀ m σ ρ G1 H/\(cV p s n ρ).ok m (Ko PK pa ze H₀ G D)
 refine ⟨W,⟨n,m,ρ,G,.refl,R,z⟩,?_⟩
 rintro n σ2 H2 ⟨m2,ρ2,G2,sb,R2,k2⟩
 cases n with
 | zero=>exact k2.elim
 | succ n =>
  unfold cV at k2
  refine TAt.then R2 k2 λm3 x G3 H3 s3 w3 R3 k3=>?_
  cases x with
  | false =>
   rw [if_neg vL] at k3 ⊢
   exact k3 σ2 G3 H3 (sb.trans s3.gs) R3
  | true =>
   rw [if_pos rfl] at k3 ⊢
   refine ⟨W n,λσ' H' h=>⟨n,by omega,h⟩,pa,ze,H₀,m3,ρ2,G3,R3,Tr.ok_mono (Tr.ok_bind.mp k3) λm4 o ko=>?_⟩
   have again:∀ ρ5,(cV p s n ρ5).ok m4 (Ko PK pa ze H₀ G D)->∀ σ5 G5 H5,Sub G3 G5->Rl PK pa ze H₀ m4 σ5 ρ5 G5 H5->W n σ5 H5:=λρ5 k5 σ5 G5 H5 sb5 R5 =>
    ⟨m4,ρ5,G5,(sb.trans s3.gs).trans sb5,R5,k5⟩
   cases o with
   | next ρ5=>exact again ρ5 ko
   | cont ρ5=>exact again ρ5 ko
   | brk ρ5=>exact λσ5 G5 H5 sb5 R5=>ko σ5 G5 H5 ((sb.trans s3.gs).trans sb5) R5
   | ret r=>exact ko
noncomputable def uS:Sl->Sl
 | .own _=>.un
 | .dic _=>.un
 | s=>s
noncomputable def blk (n:Nat) (ix:List Nat) (ρ:zd):zd:=List.replicate n .un++ix.map λj=>uS ((ρ[j]?).getD .un)
theorem Rl.blk {pa:Addr} {ze H₀ G H:Hp} {m:Nat} {σ:St} {ρ:zd} (R:Rl PK pa ze H₀ m σ ρ G H) (n:Nat) (ix:List Nat):Rl PK pa ze H₀ m (dc n ix σ) (blk n ix ρ) G H:=by
 have key:∀ (k:Nat) (s:Sl),(L2.blk n ix ρ)[k]?=some s->(∃ o,(dc n ix σ)[k]?=some o/\SlOk pa H₀ G H o s)/\(∀ xs,s≠.own xs)/\∀ xs,s≠.dic xs:=λk s h=>by
  unfold L2.blk at h
  unfold dc
  by_cases hk:k < n
  ·rw [v9 (by simpa using hk),wf,if_pos hk] at h
   rw [v9 (by simpa using hk),wf,if_pos hk]
   cases h
   exact ⟨⟨_,rfl,.un⟩,(λxs h=>by cases h),λxs h=>by cases h⟩
  ·rw [wl (by simpa using xj hk),wY,v5] at h
   rw [wl (by simpa using xj hk),wY,v5]
   cases hj:ix[k - n]? with
   | none=>rw [hj] at h; cases h
   | some j =>
    rw [hj] at h
    have h':uS ((ρ[j]?).getD .un)=s:=vT h
    subst h'
    show (∃ o,some ((σ[j]?).getD none)=some o/\_)/\_
    cases hr:ρ[j]? with
    | none=>exact ⟨⟨_,rfl,.un⟩,(λxs h=>by cases h),λxs h=>by cases h⟩
    | some s' =>
     obtain ⟨o,h1,h2⟩:=R.sl j s' hr
     rw [h1]
     cases h2 with
     | un=>exact ⟨⟨_,rfl,.un⟩,(λxs h=>by cases h),λxs h=>by cases h⟩
     | d z=>exact ⟨⟨_,rfl,.d z⟩,(λxs h=>by cases h),λxs h=>by cases h⟩
     | own _ _ _ _=>exact ⟨⟨_,rfl,.un⟩,(λxs h=>by cases h),λxs h=>by cases h⟩
     | dic _ _ _ _=>exact ⟨⟨_,rfl,.un⟩,(λxs h=>by cases h),λxs h=>by cases h⟩
     | pen=>exact ⟨⟨_,rfl,.pen⟩,(λxs h=>by cases h),λxs h=>by cases h⟩
     | fn=>exact ⟨⟨_,rfl,.fn⟩,(λxs h=>by cases h),λxs h=>by cases h⟩
 refine ⟨R.wd,R.st,R.p0,λk s h=>(key k s h).1,?_,λk n' xs ys _ h1 _=>absurd rfl ((key k _ h1).2.1 xs),λk n' xs ys _ h1 _=>absurd rfl ((key k _ h1).2.2 xs)⟩
 unfold L2.blk dc
 simp
def gJ (n:Nat) (g:yZ):Prop:=∀ x ρ ρ',g x ρ=some ρ'->ρ'.length=ρ.length/\∀ k,n<=k->ρ'[k]?=ρ[k]?
def qQ (n:Nat) (g:yY):Prop:=∀ x ρ ρ',g x ρ=some ρ'->ρ'.length=ρ.length/\∀ k,n<=k->ρ'[k]?=ρ[k]?
theorem cr {n k:Nat} (h:k < n):gJ n (aw k):=λx ρ ρ' e=>by
 cases e
 exact ⟨wy,λj hj=>vP (by omega)⟩
theorem sM {n:Nat}:qQ n cO:=λx ρ ρ' e=>by
 cases x with
 | nil=>cases e; exact ⟨rfl,λ_ _=>rfl⟩
 | cons _ _=>cases e
theorem kq {n:Nat} {g:yZ} {gs:yY} (h1:gJ n g) (h2:qQ n gs):qQ n (bB g gs):=λx ρ ρ' e=>by
 cases x with
 | nil=>cases e
 | cons x xs =>
  have e':(g x ρ).bind (λρ'=>gs xs ρ')=some ρ':=e
  cases h:g x ρ with
  | none=>rw [h] at e'; cases e'
  | some ρ1 =>
   rw [h] at e'
   obtain ⟨a1,a2⟩:=h1 x ρ ρ1 h
   obtain ⟨b1,b2⟩:=h2 xs ρ1 ρ' e'
   exact ⟨b1.trans a1,λk hk=>(b2 k hk).trans (a2 k hk)⟩
theorem sL {n:Nat} {gs:yY} (h2:qQ n gs):gJ n (cY gs):=λx ρ ρ' e=>by
 cases x with
 | tuple xs=>exact h2 xs ρ ρ' e
 | _=>cases e
noncomputable def bH (h:PyData->Tr PyData):List PyData->Tr y6
 | []=>.ret []
 | x::xs=>(h x).bind λy=>(bH h xs).bind λys=>.ret (y::ys)
noncomputable def cI (is:yU) (n:Nat) (ix:List Nat) (g:yZ) (el:yT):yU:=λρ =>
 (is ρ).bind λxs=>if small xs.length=true then bH (λx=>(Tr.of (g x (blk n ix ρ))).bind el) xs else .fail
theorem Rl.weak {pa:Addr} {ze H₀ G H:Hp} {m:Nat} {σ:St} {ρ ρ':zd} (R:Rl PK pa ze H₀ m σ ρ' G H) (hl:ρ'.length=ρ.length) (h:∀ (k:Nat) (s:Sl),ρ[k]?=some s->s=.un\/ρ'[k]?=some s):Rl PK pa ze H₀ m σ ρ G H:=by
 refine ⟨R.wd,R.st,R.p0,λk s hk=>?_,hl.symm.trans R.len,λk n xs ys hkn h1 h2=>?_,λk n xs ys hkn h1 h2=>?_⟩
 ·rcases h k s hk with e | e
  ·subst e
   have hlt:k < σ.length:=by
    rw [<- R.len,hl]
    exact (vH.mp hk).1
   exact ⟨σ[k],by simp [hlt],.un⟩
  ·exact R.sl k s e
 ·rcases h k _ h1 with e | e
  ·cases e
  ·rcases h n _ h2 with e' | e'
   ·cases e'
   ·exact R.dj k n xs ys hkn e e'
 ·rcases h k _ h1 with e | e
  ·cases e
  ·rcases h n _ h2 with e' | e'
   ·cases e'
   ·exact R.dj2 k n xs ys hkn e e'
theorem ZcJ {n:Nat} {ix:List Nat} {g:yZ} (hn:gJ n g):∀ σ H Q,ib PK (cI is n ix g i) σ H Q->ik (eP PK is) n ix (λ_=>fA PK g) (λ_=>TAe PK i) σ H Q:=by
 rintro σ H Q ⟨pa,ze,H₀,m,ρ,G,R,z⟩
 refine ⟨pa,ze,H₀,m,ρ,G,R,Tr.ok_mono (Tr.ok_bind.mp z) λm1 xs k J G1 H1 s1 w1 jo=>λB=>?_⟩
 obtain ⟨hs,k⟩:=gp k
 have hs:xs.length<=sizeLine:=of_decide_eq_true hs
 let el:PyData->Tr PyData:=λx=>(Tr.of (g x (blk n ix ρ))).bind i
 let W:Nat->Nat->St->List V->Hp->Prop:=λk mm τ ys H2=>mm=xs.length - k/\k<=xs.length/\ys.length=k/\∃ m G2 ds,Sub G1 G2/\Stp pa G H G2 H2/\Rl PK pa ze H₀ m τ (blk n ix ρ) G2 H2 /\
  DnAll G2 ys ds/\(bH el (xs.drop k)).ok m λm' zs=>Ko1 PK pa m' G H (ds++zs) Q
 refine ⟨W,⟨xs.length,rfl,wN _,rfl,m1,G1,[],.refl,s1,(R.step s1 w1).blk n ix,.nil,k⟩,?_⟩
 rintro k mm τ ys H2 ⟨rfl,hk,hy,m2,G2,ds,sb,st2,R2,dn,k2⟩
 obtain ⟨j1,j2⟩:=jo m2 G2 H2 sb R2.wd
 by_cases hlt:k < xs.length
 ·have hx:xs[k]?=some xs[k]:=by simp [hlt]
  obtain ⟨jg,jy⟩:=j1 k _ hx
  refine .inr ⟨jg,by omega,λx H3 y=>?_⟩
  obtain ⟨G3,s3,w3,d3⟩:=jy x H3 y
  rw [wK hlt] at k2
  unfold bH at k2
  rw [Tr.ok_bind,Tr.ok_bind] at k2
  obtain ⟨ρ3,hg3,k3⟩:=Tr.ok_of k2
  refine ⟨pa,ze,H₀,m2,_,G3,_,ρ3,R2.step s3 w3,d3,hg3,λτ4 R4=>?_⟩
  refine ⟨pa,ze,H₀,m2,ρ3,G3,R4,Tr.ok_mono k3 λm5 yd k5=>?_⟩
  intro v G5 H5 s5 w5 d5
  have s35:=s3.trans s5 w3.some
  obtain ⟨pl,pk⟩:=hn _ _ _ hg3
  refine ⟨xs.length - (k+1),by omega,rfl,hlt,by rw [vW,hy]; rfl,m5,G5,ds++[yd],sb.trans s35.gs,st2.trans s35 R2.wd.some,?_,(DnAll.mono s35.gs dn).snoc d5,?_⟩
  ·refine (R4.step s5 w5).weak pl λq sl hq=>?_
   by_cases hqn:q < n
   ·left
    unfold blk at hq
    rw [v9 (by simpa using hqn),wf,if_pos hqn] at hq
    cases hq
    rfl
   ·right
    rw [pk q (xj hqn)]
    exact hq
  ·refine Tr.ok_mono (Tr.ok_bind.mp k5) λm6 zs k6=>?_
   rw [ww]
   exact k6
 ·have e:k=xs.length:=by omega
  subst e
  refine .inl ⟨j2,λp v H' hp ev eH=>?_⟩
  subst ev eH
  rw [xk] at k2
  have k2':Ko1 PK pa m2 G H (ds++[]) Q:=k2
  rw [v7] at k2'
  exact (Ko1.later k2' st2 R2.wd.some).new R2.wd dn hp
theorem eO {n:Nat} {ix:List Nat} {g:yZ} (h:PE X e (ik (eP PK is) n ix (λ_=>fA PK g) (λ_=>TAe PK i))) (hn:gJ n g):PE X e (ib PK (cI is n ix g i)):=h.imp (ZcJ hn)
theorem ZgK {te te':TE} {g:TG} (h:∀ σ H Q,te' σ H Q->te σ H Q):∀ D σ H,gj te' g D σ H->gj te g D σ H:=λD σ H z=>h σ H _ z
noncomputable def mT:Ou->Tr Re
 | .next _=>.ret (.d .none)
 | .ret r=>.ret r
 | _=>.fail
noncomputable def bo (n k:Nat) (s:yW):yX:=λas=>if decide (as.length=n)=true then (s (as++List.replicate k .un)).bind mT else .fail
theorem Rl.start {pa:Addr} {G H:Hp} {m:Nat} {N:za} {vs:zb} {as:zd} {k:Nat} (w:Wd PK pa m G H) (ar:ArsOk pa G vs as) (hk:N.length - vs.length=k):Rl PK pa G H m (L2.start N vs) (as++List.replicate k .un) G H:=by
 have key:∀ {vs:zb} {as:zd},ArsOk pa G vs as->∀ (q:Nat) (s:Sl),as[q]?=some s->(∃ o,(vs.map some)[q]?=some o/\SlOk pa H G H o s)/\(∀ xs,s≠.own xs)/\∀ xs,s≠.dic xs:=by
  intro vs as h
  induction h with
  | nil=>intro q s h; simp at h
  | cons h1 h2 ih =>
   intro q s h
   cases q with
   | zero =>
    simp at h
    subst h
    cases h1 with
    | d z=>exact ⟨⟨_,rfl,.d z⟩,(λxs h=>by cases h),λxs h=>by cases h⟩
    | pen=>exact ⟨⟨_,rfl,.pen⟩,(λxs h=>by cases h),λxs h=>by cases h⟩
    | fn=>exact ⟨⟨_,rfl,.fn⟩,(λxs h=>by cases h),λxs h=>by cases h⟩
   | succ q =>
    obtain ⟨⟨o,p1,p2⟩,p3⟩:=ih q s (by simpa using h)
    exact ⟨⟨o,by simpa using p1,p2⟩,p3⟩
 have hl:=ar.length
 have key2:∀ (q:Nat) (s:Sl),(as++List.replicate k .un)[q]?=some s->(∃ o,(L2.start N vs)[q]?=some o/\SlOk pa H G H o s)/\(∀ xs,s≠.own xs)/\∀ xs,s≠.dic xs:=λq s h=>by
  unfold L2.start
  by_cases hq:q < as.length
  ·rw [v9 hq] at h
   rw [v9 (by rw [vB,hl]; exact hq)]
   exact key ar q s h
  ·rw [wl (by omega),wf] at h
   rw [wl (by rw [vB]; omega),wf,vB,hl]
   split at h
   ·rename_i hq2
    cases h
    rw [if_pos (by omega)]
    exact ⟨⟨_,rfl,.un⟩,(λxs h=>by cases h),λxs h=>by cases h⟩
   ·cases h
 refine ⟨w,.refl,w.some,λq s h=>(key2 q s h).1,?_,λq n xs ys _ h1 _=>absurd rfl ((key2 q _ h1).2.1 xs),λq n xs ys _ h1 _=>absurd rfl ((key2 q _ h1).2.2 xs)⟩
 unfold L2.start
 simp [hl,hk]
 omega
theorem bF {P:Program} {w:World} {K:yS} {mg:zc} {base:Heap} {x:Str} {N ps:za} {kk k:Nat} (D:Def K mg x st ps) (S:FnScope N ps (aI st)) (hk:N.length - ps.length=k)
  (hbody:∀ (f:Addr) (cdv:Value) (A:Around) (outer:List Env) (sh:Shared) (H:Hp) (E:XK),Room kk (A.deeper (envOfC x (aI st) sh.heap.objs.size f cdv)) ->
   PSs (cS ja P w K mg base N x (aI st) f cdv A outer sh H E).nox (fQ st) (bx PK s)):ACal PK P w K mg base x (kk+1) ps (bo ps.length k s):=by
 have len:∀ as m Z,(bo ps.length k s as).ok m Z->as.length=ps.length:=λas m Z h=>by
  unfold bo at h
  exact of_decide_eq_true (gp h).1
 refine ⟨D.ok S (λvs H Q E h=>h.1) λf cdv A outer sh H vs Q E hr hsp=>?_,len⟩
 obtain ⟨hv,pa,m,G,as,wd,ar,z⟩:=hsp
 refine ⟨_,hbody f cdv A outer sh H E hr,?_⟩
 unfold bo at z
 obtain ⟨_,z⟩:=gp z
 refine ⟨pa,G,H,m,_,G,Rl.start wd ar (by rw [hv]; exact hk),Tr.ok_mono (Tr.ok_bind.mp z) λm1 o ko=>?_⟩
 cases o with
 | next ρ=>exact λσ G1 H1 sb R1=>ko .non G1 H1 R1.st R1.wd .non
 | ret r=>exact ko
 | brk ρ=>exact ko.elim
 | cont ρ=>exact ko.elim
theorem ZiA {tg l:Expr} {tl:TE} (hl:PE X l tl):PI X tg l (λσ H R=>tl σ H λx H1=>∃ a,x=.ref a/\((∃ xs,SqL X.K H1 a xs/\R (ra X.K a) H1)\/(∃ xs,SqT X.K H1 a xs/\R (q9 X.K a) H1))):=by
 intro pins s σ H R I h
 refine thn (hl pins s σ H _ I h) λv s1 hz0=>?_
 obtain ⟨x,H1,I1,r1,q1⟩:=hz0
 obtain ⟨a,e,q⟩:=q1
 subst e
 cases r1
 rcases q with ⟨xs,hq,q⟩ | ⟨xs,hq,q⟩
 ·obtain ⟨its,rv,p,hz⟩:=I1.list hq
  refine wpAny_pyIter_list p.isList ?_
  refine ⟨s1.heap.objs.size,[s1.heap.objs.size],_,_,H1,rfl,I1.kept (t':=s1.toks) λb o e=>vA _ e,ZaA a _,⟨_,vI _ rfl,rfl,rfl⟩,λb hb=>?_,q⟩
  have e:b=s1.heap.objs.size:=by simpa using hb
  subst e
  exact I1.fpOk (vF _) (I1.hok.fresh (vF _))
 ·obtain ⟨its,rv,p,hz⟩:=I1.tuple hq
  refine wpAny_pyIter_tuple (show s1.heap.IsTuple a its.toArray from p) ?_
  refine ⟨s1.heap.objs.size,[s1.heap.objs.size],_,_,H1,rfl,I1.kept (t':=s1.toks) λb o e=>vA _ e,Zay a _,⟨_,vI _ rfl,rfl,rfl⟩,λb hb=>?_,q⟩
  have e:b=s1.heap.objs.size:=by simpa using hb
  subst e
  exact I1.fpOk (vF _) (I1.hok.fresh (vF _))
theorem DnAll.get {H:Hp}:∀ {vs:zb} {ds:y6} (n:Nat) {d:PyData},DnAll H vs ds->ds[n]?=some d->∃ v,vs[n]?=some v/\Dn H v d
 | _,_,_,_,.nil,e=>by simp at e
 | _,_,0,_,.cons g t,e=>by simp at e; subst e; exact ⟨_,rfl,g⟩
 | _,_,n+1,_,.cons g t,e=>by
  obtain ⟨v,h1,h2⟩:=DnAll.get n t (by simpa using e)
  exact ⟨v,by simpa using h1,h2⟩
theorem ZcP {K:yS} {pa a:Addr} {G:Hp} {vs:zb} {xs:y6} (h:G a=some (.lst vs)) (d:DnAll G vs xs):i9 PK pa (ra K a) G xs:=λm G2 H2 sb w=>by
 have hq:SqL K H2 a vs:=SqL.of (w.sub _ _ (sb _ _ h))
 refine ⟨λn x hx=>?_,vs,hq,by rw [d.length]; exact vF _⟩
 obtain ⟨v,hv,dv⟩:=d.get n hx
 refine ⟨⟨vs,v,hq,hv⟩,λy H3 hz0=>?_⟩
 obtain ⟨e,hy⟩:=hz0
 subst e
 have:=hy vs hq
 rw [hv] at this
 cases this
 exact ⟨G2,.refl,w,dv.mono sb⟩
theorem ZcO {K:yS} {pa a:Addr} {G:Hp} {vs:zb} {xs:y6} (h:G a=some (.tup vs)) (d:DnAll G vs xs):i9 PK pa (q9 K a) G xs:=λm G2 H2 sb w=>by
 have hq:SqT K H2 a vs:=SqT.of (w.sub _ _ (sb _ _ h))
 refine ⟨λn x hx=>?_,vs,hq,by rw [d.length]; exact vF _⟩
 obtain ⟨v,hv,dv⟩:=d.get n hx
 refine ⟨⟨vs,v,hq,hv⟩,λy H3 hz0=>?_⟩
 obtain ⟨e,hy⟩:=hz0
 subst e
 have:=hy vs hq
 rw [hv] at this
 cases this
 exact ⟨G2,.refl,w,dv.mono sb⟩
noncomputable def gv:PyData->Option y6
 | .list xs=>some xs
 | .tuple xs=>some xs
 | _=>none
@[simp] theorem Zsw (xs:y6):gv (.list xs)=some xs:=rfl
@[simp] theorem Zsv (xs:y6):gv (.tuple xs)=some xs:=rfl
noncomputable def k7 (i:yT):yU:=λρ=>(i ρ).bind λx=>Tr.of (gv x)
theorem qB {tg l:Expr} (hl:PE X l (TAe PK i)):PI X tg l (eP PK (k7 i)):=(ZiA hl).imp λσ H R0 hz0=>by
 obtain ⟨pa,ze,H₀,m,ρ,G,R,z⟩:=hz0
 refine TAe.then R z λm1 x v G1 H1 s1 w1 R1 d1 q1=>?_
 obtain ⟨xs,hx,q1⟩:=Tr.ok_of q1
 cases d1 with
 | lst h1 h2=>cases hx; exact ⟨_,rfl,.inl ⟨_,SqL.of (w1.sub _ _ h1),q1 _ G1 H1 s1 w1 (ZcP h1 h2)⟩⟩
 | tup h1 h2=>cases hx; exact ⟨_,rfl,.inr ⟨_,SqT.of (w1.sub _ _ h1),q1 _ G1 H1 s1 w1 (ZcO h1 h2)⟩⟩
 | _=>cases hx
noncomputable def bp (lo hi:Int):y6:=(bD lo (hi - lo).toNat).map PyData.int
theorem ZkN {pa:Addr} {G:Hp} {lo:Int} {n:Nat}:i9 PK pa (nv lo n) G ((bD lo n).map PyData.int):=λm G2 H2 sb w=>by
 refine ⟨λk x hx=>?_,by show n<=_; rw [vB,ir]; exact vF _⟩
 have hk:k < n:=by
  have:=(vH.mp hx).1
  rwa [vB,ir] at this
 refine ⟨hk,λy H3 hz0=>?_⟩
 obtain ⟨e1,e2⟩:=hz0
 subst e1 e2
 have:x=.int (lo+k):=by
  unfold bD at hx
  simp [hk] at hx
  exact hx.symm
 subst this
 exact ⟨G2,.refl,w,.int _⟩
noncomputable def fP (n:Int):Bool:=decide (-(2 ^ 62)<=n/\n < 2 ^ 62)
noncomputable def lX:List PyData->Option y6
 | [.int n]=>if fP n=true then some (bp 0 n) else none
 | _=>none
noncomputable def lW:List PyData->Option y6
 | [.int k,.int n]=>if (fP k && fP n)=true then some (bp k n) else none
 | _=>none
noncomputable def i6 (is:yU):yU:=λρ=>(is ρ).bind λxs=>Tr.of (lX xs)
theorem ZhV {G:Hp} {vs:zb} {xs ys:y6} (d:DnAll G vs xs) (h:lX xs=some ys):∃ n:Int,vs=[.int n]/\-(2 ^ 62)<=n/\n < 2 ^ 62/\ys=bp 0 n:=by
 unfold lX at h
 split at h
 ·rename_i n
  split at h
  ·rename_i hn
   cases h
   cases d with
   | cons d1 d2 =>
    cases d2
    cases d1
    have:=of_decide_eq_true hn
    exact ⟨n,rfl,this.1,this.2,rfl⟩
  ·cases h
 ·cases h
theorem ZhU {G:Hp} {vs:zb} {xs ys:y6} (d:DnAll G vs xs) (h:lW xs=some ys):∃ k n:Int,vs=[.int k,.int n]/\(-(2 ^ 62)<=k/\k < 2 ^ 62/\-(2 ^ 62)<=n/\n < 2 ^ 62)/\ys=bp k n:=by
 unfold lW at h
 split at h
 ·rename_i k n
  split at h
  ·rename_i hn
   cases h
   cases d with
   | cons d1 d2 =>
    cases d2 with
    | cons d2 d3 =>
     cases d3
     cases d1
     cases d2
     rw [vQ] at hn
     have h1:=of_decide_eq_true hn.1
     have h2:=of_decide_eq_true hn.2
     exact ⟨k,n,rfl,⟨h1.1,h1.2,h2.1,h2.2⟩,rfl⟩
  ·cases h
 ·cases h
theorem kS {tg e:Expr} (h:PI X tg e (Zc4 (TAd PK is))):PI X tg e (eP PK (i6 is)):=h.imp λσ H R0 hz0=>by
 obtain ⟨pa,ze,H₀,m,ρ,G,R,z⟩:=hz0
 refine TAd.then R z λm1 xs vs G1 H1 s1 w1 R1 d1 q1=>?_
 obtain ⟨ys,hy,q1⟩:=Tr.ok_of q1
 obtain ⟨n,e,h1,h2,rfl⟩:=ZhV d1 hy
 refine ⟨n,e,h1,h2,?_⟩
 have q:=q1 (nv 0 n.toNat) G1 H1 s1 w1
 unfold bp at q
 rw [Int.sub_zero] at q
 exact q ZkN
variable {PK:Pk} {X:Cx} {a b c e:Expr} {es:List Expr} {pos:Pos} {i j l:yT} {is:yU}
noncomputable def fit (n:Int):Bool:=decide (n.natAbs < 2 ^ 8000)
noncomputable def cU:y3
 | .int m,.int n=>some (.int (m+n))
 | .tuple xs,.tuple ys=>if (!xs.isEmpty && small (xs.length+ys.length))=true then some (.tuple (xs++ys)) else none
 | .list xs,.list ys=>if small (xs.length+ys.length)=true then some (.list (xs++ys)) else none
 | _,_=>none
noncomputable def sw (K:yS):R2:=λx y H Q=>eR (λi j=>.int (i+j)) x y H Q\/ZbT K x y H Q\/ZbV x y H Q
theorem gm:OpR X (binaryOp .Add) (sw X.K):=gU.or (Zjm.or Zjo)
theorem gg {K:yS}:bU (sw K) cU:=λPK pa m G H x y dx dy dz Q w hx hy hz k=>by
 unfold cU at hz
 split at hz
 ·cases hz; cases hx; cases hy
  exact .inl ⟨_,_,rfl,rfl,k.here w (.int _)⟩
 ·rename_i xs ys
  split at hz
  ·rename_i hc
   rw [vQ] at hc
   have h1:xs.isEmpty=false:=by simpa using hc.1
   have h2:xs.length+ys.length<=sizeLine:=of_decide_eq_true hc.2
   cases hz
   cases hx with
   | tup a1 a2 =>
    cases hy with
    | tup b1 b2 =>
     refine .inr (.inl ⟨_,_,_,_,rfl,rfl,SqT.of (w.sub _ _ a1),SqT.of (w.sub _ _ b1),?_,by rw [a2.length,b2.length]; exact h2,λe=>?_,λe p hp=>k.tup w (a2.append b2) hp⟩)
     ·intro e
      rw [<- a2.isEmpty,e] at h1
      cases h1
     ·subst e
      cases b2
      refine k.here w ?_
      rw [v7]
      exact .tup a1 a2
  ·cases hz
 ·rename_i xs ys
  split at hz
  ·rename_i hc
   have h2:xs.length+ys.length<=sizeLine:=of_decide_eq_true hc
   cases hz
   cases hx with
   | lst a1 a2 =>
    cases hy with
    | lst b1 b2=>exact .inr (.inr ⟨_,_,_,_,rfl,rfl,w.sub _ _ a1,w.sub _ _ b1,by rw [a2.length,b2.length]; exact h2,λp hp=>k.lst w (a2.append b2) hp⟩)
  ·cases hz
 ·cases hz
noncomputable def eQ:y3
 | .int m,.int n=>some (.int (m - n))
 | _,_=>none
theorem gf:bU (eR λi j=>.int (i - j)) eQ:=λPK pa m G H x y dx dy dz Q w hx hy hz k=>by
 unfold eQ at hz
 split at hz
 ·cases hz; cases hx; cases hy
  exact ⟨_,_,rfl,rfl,k.here w (.int _)⟩
 ·cases hz
theorem DnAll.rep {H:Hp} {vs:zb} {ds:y6} (h:DnAll H vs ds):∀ k:Nat,DnAll H (List.replicate k vs).flatten (List.replicate k ds).flatten
 | 0=>.nil
 | k+1=>by
  rw [wj,wj,wv,wv]
  exact h.append (h.rep k)
noncomputable def sj (K:yS):R2:=λx y H Q=>rI CMulG (λi j=>.int (i * j)) x y H Q\/ZbB K x y H Q\/ZbC x y H Q
theorem cN:OpR X (binaryOp .Mult) (sj X.K):=Zjh.or (Zi8.or Zi9)
noncomputable def cm:y3
 | .int m,.int n=>if (fit m && fit n)=true then some (.int (m * n)) else none
 | .tuple xs,.int n=>if (decide (1 < n) && decide (n<=1000) && !xs.isEmpty && decide (xs.length<=1000))=true then some (.tuple (List.replicate n.toNat xs).flatten) else none
 | .list xs,.int n=>if (decide (-(2 ^ 63)<=n) && decide (n < 2 ^ 63) && small (xs.length * n.toNat))=true then some (.list (List.replicate n.toNat xs).flatten) else none
 | _,_=>none
theorem cJ {K:yS}:bU (sj K) cm:=λPK pa m G H x y dx dy dz Q w hx hy hz k=>by
 unfold cm at hz
 split at hz
 ·split at hz
  ·rename_i hc
   rw [vQ] at hc
   cases hz; cases hx; cases hy
   exact .inl ⟨_,_,rfl,rfl,⟨of_decide_eq_true hc.1,of_decide_eq_true hc.2⟩,k.here w (.int _)⟩
  ·cases hz
 ·split at hz
  ·rename_i hc
   simp only [vQ,decide_eq_true_eq,xb] at hc
   cases hz; cases hy
   cases hx with
   | tup a1 a2 =>
    refine .inr (.inl ⟨_,_,_,rfl,rfl,SqT.of (w.sub _ _ a1),hc.1.1.1,hc.1.1.2,?_,by rw [a2.length]; exact hc.2,λp hp=>k.tup w (a2.rep _) hp⟩)
    intro e
    have:=hc.1.2
    rw [<- a2.isEmpty,e] at this
    cases this
  ·cases hz
 ·split at hz
  ·rename_i hc
   simp only [vQ,decide_eq_true_eq] at hc
   cases hz; cases hy
   cases hx with
   | lst a1 a2=>exact .inr (.inr ⟨_,_,_,rfl,rfl,w.sub _ _ a1,hc.1.1,hc.1.2,by rw [a2.length]; exact of_decide_eq_true hc.2,λp hp=>k.lst w (a2.rep _) hp⟩)
  ·cases hz
 ·cases hz
noncomputable def iS:y3
 | .int m,.int n=>if (decide (n≠0) && fit n)=true then some (.int (m.fdiv n)) else none
 | _,_=>none
theorem nI:bU (rI Zfo λi j=>.int (i.fdiv j)) iS:=λPK pa m G H x y dx dy dz Q w hx hy hz k=>by
 unfold iS at hz
 split at hz
 ·split at hz
  ·rename_i hc
   rw [vQ] at hc
   cases hz; cases hx; cases hy
   exact ⟨_,_,rfl,rfl,⟨of_decide_eq_true hc.1,of_decide_eq_true hc.2⟩,k.here w (.int _)⟩
  ·cases hz
 ·cases hz
noncomputable def iH:y3
 | .int m,.int n=>if decide (n≠0)=true then some (.int (m.fmod n)) else none
 | _,_=>none
theorem nF:bU (rI (λ_ j=>j≠0) λi j=>.int (i.fmod j)) iH:=λPK pa m G H x y dx dy dz Q w hx hy hz k=>by
 unfold iH at hz
 split at hz
 ·split at hz
  ·rename_i hc
   cases hz; cases hx; cases hy
   exact ⟨_,_,rfl,rfl,of_decide_eq_true hc,k.here w (.int _)⟩
  ·cases hz
 ·cases hz
noncomputable def iw:y3
 | .int m,.int n=>if (decide (0<=n) && decide (n<=1000000) && decide (m.natAbs < 2 ^ 64))=true then some (.int (m ^ n.toNat)) else none
 | _,_=>none
theorem nE:bU (rI Zfn λi j=>.int (i ^ j.toNat)) iw:=λPK pa m G H x y dx dy dz Q w hx hy hz k=>by
 unfold iw at hz
 split at hz
 ·split at hz
  ·rename_i hc
   simp only [vQ,decide_eq_true_eq] at hc
   cases hz; cases hx; cases hy
   exact ⟨_,_,rfl,rfl,⟨hc.1.1,hc.1.2,hc.2⟩,k.here w (.int _)⟩
  ·cases hz
 ·cases hz
noncomputable def fX (i:yT):yT:=λρ=>(i ρ).bind λx=>match x with
 | .int n=>.ret (.int (-n))
 | _=>.fail
theorem iW (ha:PE X a (TAe PK i)):PE X (.UnaryOp .USub a pos) (TAe PK (fX i)):=(ZiK Zf4 ha).imp λσ H Q hz0=>by
 obtain ⟨pa,ze,H₀,m,ρ,G,R,z⟩:=hz0
 refine TAe.then R z λm1 x v G1 H1 s1 w1 R1 d1 q1=>?_
 cases d1 with
 | int n=>exact ⟨n,rfl,(Kn.later q1 s1 w1.some).here w1 (.int _)⟩
 | _=>exact q1.elim
noncomputable def db (f:Int->Int->Bool):y3
 | .int m,.int n=>some (.bool (f m n))
 | _,_=>none
theorem dL {f:Int->Int->Bool}:bU (eR λi j=>.bl (f i j)) (db f):=λPK pa m G H x y dx dy dz Q w hx hy hz k=>by
 unfold db at hz
 split at hz
 ·cases hz; cases hx; cases hy
  exact ⟨_,_,rfl,rfl,k.here w (.bl _)⟩
 ·cases hz
noncomputable def da:y3
 | .str m,.str n=>some (.bool (m == n))
 | x,y=>if (SeqAt.shaped x && SeqAt.shaped y)=true then some (.bool (PyData.eqv x y)) else none
noncomputable def eS:y3
 | .str m,.str n=>some (.bool (!(m == n)))
 | x,y=>if (SeqAt.shaped x && SeqAt.shaped y)=true then some (.bool (!PyData.eqv x y)) else none
noncomputable def ZbQ:R2:=λx y H Q=>rEq x y H Q\/∃ d e,Dn H x d/\Dn H y e/\SeqAt.shaped d=true/\SeqAt.shaped e=true/\Q (.bl (PyData.eqv d e)) H
noncomputable def ZbE:R2:=λx y H Q=>rNe x y H Q\/∃ d e,Dn H x d/\Dn H y e/\SeqAt.shaped d=true/\SeqAt.shaped e=true/\Q (.bl (!PyData.eqv d e)) H
theorem eK {k:Nat} (hr:Room k X.A):OpR X (compareOp .Eq) ZbQ:=Zco.or (Zjl hr)
theorem gT {k:Nat} (hr:Room k X.A):OpR X (compareOp .NotEq) ZbE:=Zjf.or (Zcj hr)
theorem eC:bU ZbQ da:=λPK pa m G H x y dx dy dz Q w hx hy hz k=>by
 unfold da at hz
 split at hz
 ·cases hz; cases hx; cases hy
  exact .inl ⟨rfl,by rw [qi]; exact k.here w (.bl _)⟩
 ·split at hz
  ·rename_i hc
   rw [vQ] at hc
   cases hz
   exact .inr ⟨_,_,hx.mono w.sub,hy.mono w.sub,hc.1,hc.2,k.here w (.bl _)⟩
  ·cases hz
theorem gL:bU ZbE eS:=λPK pa m G H x y dx dy dz Q w hx hy hz k=>by
 unfold eS at hz
 split at hz
 ·cases hz; cases hx; cases hy
  exact .inl ⟨rfl,by rw [qi]; exact k.here w (.bl _)⟩
 ·split at hz
  ·rename_i hc
   rw [vQ] at hc
   cases hz
   exact .inr ⟨_,_,hx.mono w.sub,hy.mono w.sub,hc.1,hc.2,k.here w (.bl _)⟩
  ·cases hz
noncomputable def gx:PyData->Bool
 | .none=>true
 | _=>false
noncomputable def p5:y3:=λx y=>if gx y=true then some (.bool (gx x)) else none
noncomputable def pZ:y3:=λx y=>if gx y=true then some (.bool (!gx x)) else none
theorem Dn.no {G:Hp} {v:V} {x:PyData} (h:Dn G v x):decide (v=.non)=gx x:=by
 cases h <;> simp [gx]
theorem ZfO:bU (λx y H Q=>y=.non/\Q (.bl (decide (x=.non))) H) p5:=λPK pa m G H x y dx dy dz Q w hx hy hz k=>by
 unfold p5 at hz
 split at hz
 ·rename_i hc
  cases hz
  refine ⟨?_,by rw [hx.no]; exact k.here w (.bl _)⟩
  rw [<- hy.no] at hc
  exact of_decide_eq_true hc
 ·cases hz
theorem ZfN:bU (λx y H Q=>y=.non/\Q (.bl (!decide (x=.non))) H) pZ:=λPK pa m G H x y dx dy dz Q w hx hy hz k=>by
 unfold pZ at hz
 split at hz
 ·rename_i hc
  cases hz
  refine ⟨?_,by rw [hx.no]; exact k.here w (.bl _)⟩
  rw [<- hy.no] at hc
  exact of_decide_eq_true hc
 ·cases hz
noncomputable def bA:y3
 | .list xs,.int n=>br xs n
 | .tuple xs,.int n=>br xs n
 | _,_=>none
theorem DnAll.at {H:Hp} {vs:zb} {ds:y6} {n:Int} {d:PyData} (h:DnAll H vs ds) (e:br ds n=some d):∃ v,br vs n=some v/\Dn H v d:=by
 unfold br at e ⊢
 rw [<- h.length] at e
 cases hn:iM vs.length n with
 | none=>rw [hn] at e; cases e
 | some j =>
  rw [hn] at e
  exact h.get j e
theorem cy {K:yS}:bU (sk K) bA:=λPK pa m G H x y dx dy dz Q w hx hy hz k=>by
 unfold bA at hz
 split at hz
 ·cases hy
  cases hx with
  | lst a1 a2 =>
   obtain ⟨v,h1,h2⟩:=a2.at hz
   exact .inl ⟨_,_,_,v,rfl,rfl,SqL.of (w.sub _ _ a1),h1,k.here w h2⟩
 ·cases hy
  cases hx with
  | tup a1 a2 =>
   obtain ⟨v,h1,h2⟩:=a2.at hz
   exact .inr (.inl ⟨_,_,_,v,rfl,rfl,SqT.of (w.sub _ _ a1),h1,k.here w h2⟩)
 ·cases hz
noncomputable def kB:List PyData->Option PyData
 | [.list xs]=>some (.int xs.length)
 | [.tuple xs]=>some (.int xs.length)
 | _=>none
theorem Zar {K:yS}:dJ (λxs H Q=>∃ p ys,xs=[.ref p]/\(SqL K H p ys\/SqT K H p ys)/\Q (.int ys.length) H) kB:=λPK pa m G H vs ds d Q w hv hd k=>by
 unfold kB at hd
 split at hd
 ·cases hd
  cases hv with
  | cons h1 h2 =>
   cases h2
   cases h1 with
   | lst a1 a2=>exact ⟨_,_,rfl,.inl (SqL.of (w.sub _ _ a1)),by rw [a2.length]; exact k.here w (.int _)⟩
 ·cases hd
  cases hv with
  | cons h1 h2 =>
   cases h2
   cases h1 with
   | tup a1 a2=>exact ⟨_,_,rfl,.inr (SqT.of (w.sub _ _ a1)),by rw [a2.length]; exact k.here w (.int _)⟩
 ·cases hd
noncomputable def iY (n:Int):Int:=if n < 0 then -n else n
noncomputable def h9:List PyData->Option PyData
 | [.int n]=>some (.int (iY n))
 | _=>none
theorem j6:dJ (λxs H Q=>∃ i,xs=[.int i]/\Q (.int (if i < 0 then -i else i)) H) h9:=λPK pa m G H vs ds d Q w hv hd k=>by
 unfold h9 at hd
 split at hd
 ·cases hd
  cases hv with
  | cons h1 h2=>cases h2; cases h1; exact ⟨_,rfl,k.here w (.int _)⟩
 ·cases hd
noncomputable def jw (m n:Int):Int:=if n > m then n else m
noncomputable def jv (m n:Int):Int:=if n < m then n else m
noncomputable def pA:List PyData->Option PyData
 | [.int m,.int n]=>some (.int (jw m n))
 | _=>none
noncomputable def pz:List PyData->Option PyData
 | [.int m,.int n]=>some (.int (jv m n))
 | _=>none
theorem ZfW:dJ (λxs H Q=>∃ i j,xs=[.int i,.int j]/\Q (.int (if j > i then j else i)) H) pA:=λPK pa m G H vs ds d Q w hv hd k=>by
 unfold pA at hd
 split at hd
 ·cases hd
  cases hv with
  | cons h1 h2=>cases h2 with | cons h2 h3=>cases h3; cases h1; cases h2; exact ⟨_,_,rfl,k.here w (.int _)⟩
 ·cases hd
theorem ZfV:dJ (λxs H Q=>∃ i j,xs=[.int i,.int j]/\Q (.int (if j < i then j else i)) H) pz:=λPK pa m G H vs ds d Q w hv hd k=>by
 unfold pz at hd
 split at hd
 ·cases hd
  cases hv with
  | cons h1 h2=>cases h2 with | cons h2 h3=>cases h3; cases h1; cases h2; exact ⟨_,_,rfl,k.here w (.int _)⟩
 ·cases hd
noncomputable def iO:List PyData->Option PyData
 | [.int n]=>some (.int n)
 | [.bool n]=>some (.int (if n then 1 else 0))
 | _=>none
theorem Zas:dJ (λxs H Q=>(∃ i,xs=[.int i]/\Q (.int i) H)\/∃ k,xs=[.bl k]/\Q (.int (if k then 1 else 0)) H) iO:=λPK pa m G H vs ds d Q w hv hd k=>by
 unfold iO at hd
 split at hd
 ·cases hd
  cases hv with
  | cons h1 h2=>cases h2; cases h1; exact .inl ⟨_,rfl,k.here w (.int _)⟩
 ·cases hd
  cases hv with
  | cons h1 h2=>cases h2; cases h1; exact .inr ⟨_,rfl,k.here w (.int _)⟩
 ·cases hd
noncomputable def dM:List PyData->Option PyData
 | [.list xs]=>some (.tuple xs)
 | [.tuple xs]=>some (.tuple xs)
 | _=>none
theorem e9 {K:yS}:dJ (λxs H Q=>∃ p ys,xs=[.ref p]/\((SqL K H p ys/\∀ l,H l=none->Q (.ref l) (upd H l (.tup ys)))\/(SqT K H p ys/\Q (.ref p) H))) dM:=λPK pa m G H vs ds d Q w hv hd k=>by
 unfold dM at hd
 split at hd
 ·cases hd
  cases hv with
  | cons h1 h2 =>
   cases h2
   cases h1 with
   | lst a1 a2=>exact ⟨_,_,rfl,.inl ⟨SqL.of (w.sub _ _ a1),λp hp=>k.tup w a2 hp⟩⟩
 ·cases hd
  cases hv with
  | cons h1 h2 =>
   cases h2
   cases h1 with
   | tup a1 a2=>exact ⟨_,_,rfl,.inr ⟨SqT.of (w.sub _ _ a1),k.here w (.tup a1 a2)⟩⟩
 ·cases hd
noncomputable def gh:PyData->String
 | .none=>"NoneType"
 | .bool _=>"bool"
 | .int _=>"int"
 | .str _=>"str"
 | .list _=>"list"
 | .tuple _=>"tuple"
 | .dict _=>"dict"
theorem Dn.ty {K:yS} {G H:Hp} (sb:Sub G H) {v:V} {d:PyData} (h:Dn G v d):TyOf K H v (.type (gh d)):=by
 cases h with
 | non=>exact .non
 | bl b=>exact .bl b
 | int i=>exact .int i
 | str x=>exact .str x
 | tup h _=>exact .tup (sb _ _ h)
 | lst h _=>exact .lst (sb _ _ h)
 | dct h _=>exact h.elim (λh=>.dK (sb _ _ h)) λ⟨o,h⟩=>.frzD (sb _ _ h)
noncomputable def iN (T:String) (t:String):Bool:=decide (t=T) || (decide (T="int") && decide (t="bool"))
noncomputable def jL (T:String) (i:yT):yT:=λρ=>(i ρ).bind λx=>.ret (.bool (iN T (gh x)))
def ZcU (T:String):Prop:=T="int"\/T="bool"\/T="str"\/T="list"\/T="tuple"\/T="dict"
theorem ZkB {K:yS} {T:String} (h:ZcU T) (d:PyData):PySem.W.kitOne K (.type (gh d)) (.type T)=some (iN T (gh d)):=by
 rcases h with rfl | rfl | rfl | rfl | rfl | rfl <;> cases d <;> rfl
theorem ni {T:String} {tc:TE} (hT:ZcU T) (htc:tc=tC (.ty T)) (h:PE X e (gM (λxs H Q=>∃ x T t b,xs=[x,.ty T]/\TyOf X.K H x t/\PySem.W.kitOne X.K t (.type T)=some b/\Q (.bl b) H) (gi (TAe PK i) (gi tc aR)))):PE X e (TAe PK (jL T i)):=h.imp λσ H Q hz0=>by
 obtain ⟨pa,ze,H₀,m,ρ,G,R,z⟩:=hz0
 subst htc
 refine TAe.then R z λm1 x v G1 H1 s1 w1 R1 d1 q1=>?_
 exact ⟨v,T,_,_,rfl,d1.ty w1.sub,ZkB hT x,(Kn.later q1 s1 w1.some).here w1 (.bl _)⟩
noncomputable def fR (xs:y6) (lo hi:Option Int):y6:=(xs.drop (HT.aP xs.length 0 lo)).take (HT.aP xs.length xs.length hi - HT.aP xs.length 0 lo)
theorem DnAll.take {H:Hp}:∀ {vs:zb} {ds:y6} (n:Nat),DnAll H vs ds->DnAll H (vs.take n) (ds.take n)
 | _,_,0,_=>.nil
 | _,_,_+1,.nil=>.nil
 | _,_,n+1,.cons r t=>.cons r (DnAll.take n t)
theorem DnAll.drop {H:Hp}:∀ {vs:zb} {ds:y6} (n:Nat),DnAll H vs ds->DnAll H (vs.drop n) (ds.drop n)
 | _,_,0,r=>r
 | _,_,_+1,.nil=>.nil
 | _,_,n+1,.cons r t=>DnAll.drop n t
theorem DnAll.cut {H:Hp} {vs:zb} {ds:y6} (h:DnAll H vs ds) (lo hi:Option Int):DnAll H (eU vs lo hi) (fR ds lo hi):=by
 unfold eU fR
 rw [h.length]
 exact (h.drop _).take _
noncomputable abbrev eZ:=List Sl->Tr (Option Int)
noncomputable def dw:eZ:=λ_=>.ret none
noncomputable def dh (i:yT):eZ:=λρ=>(i ρ).bind λx=>match x with
 | .int n=>.ret (some n)
 | _=>.fail
noncomputable def TAp (PK:Pk) (i:eZ):TO:=λσ H Q=>∃ pa ze H₀ m ρ G,Rl PK pa ze H₀ m σ ρ G H/\(i ρ).ok m λm' x=>∀ G' H',Stp pa G H G' H'->Wd PK pa m' G' H'->Q x H'
theorem PO.imp {e:Option Expr} {t t':TO} (h:PO X e t) (q:∀ σ H Q,t' σ H Q->t σ H Q):PO X e t':=λpins s σ H Q I z=>h pins s σ H Q I (q σ H Q z)
theorem dU:PO X none (TAp PK dw):=Zb2.imp λσ H Q hz0=>by
 obtain ⟨pa,ze,H₀,m,ρ,G,R,z⟩:=hz0
 exact z G H .refl R.wd
theorem dS (h:PE X e (TAe PK i)):PO X (some e) (TAp PK (dh i)):=(Zb1 h).imp λσ H Q hz0=>by
 obtain ⟨pa,ze,H₀,m,ρ,G,R,z⟩:=hz0
 refine TAe.then R z λm1 x v G1 H1 s1 w1 R1 d1 q1=>?_
 cases d1 with
 | int n=>exact ⟨n,rfl,q1 G1 H1 s1 w1⟩
 | _=>exact q1.elim
theorem Zk9 {prog:Program} {w:World} {A:Around} {E:y4} {s:Shared} {t sl:Addr} {items:Array Value} {vl vu:Value} {lo hi:Option Int} {Q:y4} (ht:IsTup s.heap t items) (hs:s.heap.IsSliceOf sl vl vu .none) (pl:IsPart vl lo) (pu:IsPart vu hi)
  (hw:HT.aP items.size 0 lo=0/\HT.aP items.size items.size hi=items.size) (h:Q (.ref t) s):wpAny (model prog w) A (getItem (.ref t) (.ref sl)) Q E s:=by
 obtain ⟨os,hos,hcs,hds⟩:=id hs
 have hTs:s.TypeIs (.ref sl) "slice":=⟨os,hos,hcs⟩
 unfold getItem
 try with_reducible refine wpAny_holding ?_
 first | refine wpAny_bind (wpAny_pure ?_) | skip
 refine wpAny_bind (wpAny_sequenceKey ht.typeIs (by decide) ?_)
 refine wpAny_bind (wpAny_callSpecial?_slot (name:=Str.ofString "__getitem__") ht.typeIs wT
  (wpAny_call_entry wT ht.typeIs entry_tuple_getitem ?_ (args_tuple_getitem _ _)))
 show wpAny _ _ (Builtin.Tuple.tupleItemsOf (.ref t) >>= _) _ _ s
 refine wpAny_bind (tupleItemsOf_ ht ?_)
 refine wpAny_bind (wpAny_typeOf hTs ?_)
 rw [if_pos (by decide)]
 refine wpAny_bind (HT.Za4 hs pl pu ?_)
 have hyes:(((HT.aP items.size 0 lo:Nat):Int) == 0 && (1:Int) == 1 && (HT.aP items.size items.size hi - HT.aP items.size 0 lo) == items.size)=true:=by
  rw [hw.1,hw.2]
  simp
 show wpAny _ _ (if (((HT.aP items.size 0 lo:Nat):Int) == 0 && (1:Int) == 1 && (HT.aP items.size items.size hi - HT.aP items.size 0 lo) == items.size)=true then _ else _) _ _ s
 rw [if_pos hyes]
 refine wpAny_bind (m:=Builtin.Tuple.tupleIsExact (.ref t)) ?_
 unfold Builtin.Tuple.tupleIsExact
 refine wpAny_bind (wpAny_typeOf ht.typeIs ?_)
 refine wpAny_pure ?_
 rw [if_pos (by decide)]
 refine wpAny_bind (wpAny_rule ?_)
 exact wpAny_pure ⟨_,rfl,wpAny_pure h⟩
noncomputable def Zbt (K:yS):V->Option Int->Option Int->Hp->VK->Prop:=λx lo hi H Q=>∃ a xs,x=.ref a/\SqT K H a xs/\(HT.aP xs.length 0 lo=0/\HT.aP xs.length xs.length hi=xs.length)/\Q (.ref a) H
theorem Zg1:SlR X (Zbt X.K):=by
 intro pins s σ H x v vl vu lo hi sl Q I rx hs pl pu h
 obtain ⟨a,xs,rfl,hx,hw,q⟩:=h
 cases rx
 obtain ⟨its,r,ht,hz⟩:=I.tuple hx
 have hlen:its.toArray.size=xs.length:=by rw [vK]; exact r.length.symm
 refine ⟨"tuple",_,PyProof.Rows.slot_tuple_getitem.lookup,ht.typeIs,?_⟩
 exact Zk9 ht hs pl pu (by rw [hlen]; exact hw) ⟨.ref a,H,I,rfl,q⟩
noncomputable def Zbx (K:yS):V->Option Int->Option Int->Hp->VK->Prop:=λx lo hi H Q=>Zbw K x lo hi H Q\/Zbu K x lo hi H Q\/Zbt K x lo hi H Q
theorem Zg5:SlR X (Zbx X.K):=Za5.or (Zg2.or Zg1)
noncomputable def Za3 (x:PyData) (lo hi:Option Int):Option PyData:=match x with
 | .list xs=>some (.list (fR xs lo hi))
 | .tuple xs=>some (.tuple (fR xs lo hi))
 | _=>none
theorem TAp.then {p:eZ} {σ:St} {H:Hp} {β:Type} {k:Option Int->Tr β} {Z:Nat->β->Prop} {Q:Option Int->Hp->Prop} {pa:Addr} {ze H₀ G:Hp} {m:Nat} {ρ:zd} (R:Rl PK pa ze H₀ m σ ρ G H) (h:((p ρ).bind k).ok m Z)
  (hq:∀ m1 x G1 H1,Stp pa G H G1 H1->Wd PK pa m1 G1 H1->Rl PK pa ze H₀ m1 σ ρ G1 H1->(k x).ok m1 Z->Q x H1):TAp PK p σ H Q:=by
 refine ⟨pa,ze,H₀,m,ρ,G,R,Tr.ok_mono (Tr.ok_bind.mp h) λm1 x hx G1 H1 s1 w1=>?_⟩
 exact hq m1 x G1 H1 s1 w1 (R.step s1 w1) hx
theorem DnAll.range {H:Hp} (lo:Int) (n:Nat):DnAll H (fJ lo n) ((bD lo n).map PyData.int):=by
 rw [Zic]
 exact DnAll.ints _
noncomputable def lV (lo hi:Int):Bool:=fP lo && fP hi && decide ((hi - lo).toNat<=1000)
noncomputable def lU:List PyData->Option y6
 | [.int lo,.int hi]=>if lV lo hi=true then some (bp lo hi) else none
 | _=>none
theorem ZhQ {G:Hp} {vs:zb} {xs ys:y6} (d:DnAll G vs xs) (h:lU xs=some ys):∃ k n:Int,vs=[.int k,.int n]/\(-(2 ^ 62)<=k/\k < 2 ^ 62/\-(2 ^ 62)<=n/\n < 2 ^ 62/\(n - k).toNat<=1000)/\ys=bp k n:=by
 unfold lU at h
 split at h
 ·split at h
  ·rename_i hn
   cases h
   cases d with
   | cons d1 d2 =>
    cases d2 with
    | cons d2 d3 =>
     cases d3
     cases d1
     cases d2
     unfold lV at hn
     rw [vQ,vQ] at hn
     have h1:=of_decide_eq_true hn.1.1
     have h2:=of_decide_eq_true hn.1.2
     exact ⟨_,_,rfl,⟨h1.1,h1.2,h2.1,h2.2,of_decide_eq_true hn.2⟩,rfl⟩
  ·cases h
 ·cases h
def Zgq (t:TA):TE:=gM (λxs H Q=>∃ a lo hi,xs=[.ref a]/\H a=some (.rng lo hi)/\-(2 ^ 62)<=lo/\lo < 2 ^ 62/\-(2 ^ 62)<=hi/\hi < 2 ^ 62/\(hi - lo).toNat<=1000/\∀ p,H p=none->Q (.ref p) (upd H p (.tup (fJ lo (hi - lo).toNat))))
 (gi (gM (λxs H Q=>∃ i j:Int,xs=[.int i,.int j]/\∀ p,H p=none->Q (.ref p) (upd H p (.rng i j))) t) aR)
noncomputable def vd (is:yU):yT:=λρ=>(is ρ).bind λxs=>(Tr.of (lU xs)).bind λys=>.ret (.tuple ys)
theorem ZrL (h:PE X e (Zgq (TAd PK is))):PE X e (TAe PK (vd is)):=h.imp λσ H Q hz0=>by
 obtain ⟨pa,ze,H₀,m,ρ,G,R,z⟩:=hz0
 refine TAd.then R z λm1 xs vs G1 H1 s1 w1 R1 d1 q1=>?_
 rw [Tr.ok_bind] at q1
 obtain ⟨ys,hy,k⟩:=Tr.ok_of q1
 obtain ⟨lo,hi,rfl,⟨b1,b2,b3,b4,b5⟩,rfl⟩:=ZhQ d1 hy
 refine ⟨lo,hi,rfl,λp hp=>?_⟩
 obtain ⟨w2,s2⟩:=w1.own (o:=.rng lo hi) hp
 refine ⟨p,lo,hi,rfl,bJ,b1,b2,b3,b4,b5,λq hq=>?_⟩
 exact (Kn.later k (s1.trans s2 w1.some) w2.some).tup w2 (DnAll.range _ _) hq
noncomputable def ints?:List PyData->Option y8
 | []=>some []
 | .int n::xs=>(ints? xs).bind λns=>some (n::ns)
 | _=>none
@[simp] theorem ints?_map:∀ ns:y8,ints? (ns.map PyData.int)=some ns
 | []=>rfl
 | n::ns=>by rw [vG,ints?,ints?_map ns]; rfl
theorem DnAll.ints_inv {H:Hp} {vs:zb} {ds:y6} {ns:y8} (a:DnAll H vs ds) (h:ints? ds=some ns):vs=ns.map V.int/\ds=ns.map PyData.int:=by
 induction vs generalizing ds ns with
 | nil=>cases a; cases h; exact ⟨rfl,rfl⟩
 | cons v vs ih =>
  cases a with
  | cons g t =>
   cases g with
   | int n =>
    unfold ints? at h
    rename_i ds
    cases e:ints? ds with
    | none=>rw [e] at h; cases h
    | some ms =>
     rw [e] at h
     cases h
     obtain ⟨h1,h2⟩:=ih t e
     exact ⟨by rw [h1]; rfl,by rw [h2]; rfl⟩
   | _=>unfold ints? at h; cases h
section
variable {prog:Program} {w:World} {A:Around} {E:y4} {s:Shared}
def ItAt (b:Bool) (h:Heap) (it a:Addr) (k:Nat):Prop:=match b with
 | true=>h.IsListIter it a k
 | false=>h.IsTupleIter it a k
def SqAt (b:Bool) (h:Heap) (a:Addr) (items:Array Value):Prop:=match b with
 | true=>h.IsList a items
 | false=>h.IsTuple a items
theorem ItAt.at {b:Bool} {h h':Heap} {it a:Addr} {k:Nat} (x:ItAt b h it a k) (e:∀ o,h.get? it=some o->h'.get? it=some o):ItAt b h' it a k:=by
 cases b with
 | true=>exact Heap.IsListIter.at x e
 | false=>obtain ⟨o,ho,r⟩:=(show h.IsTupleIter it a k from x); exact ⟨o,e o ho,r⟩
theorem SqAt.at {b:Bool} {h h':Heap} {a:Addr} {items:Array Value} (x:SqAt b h a items) (e:∀ o,h.get? a=some o->h'.get? a=some o):SqAt b h' a items:=by
 cases b with
 | true=>exact Heap.IsList.at x e
 | false=>exact Heap.IsTuple.at x e
theorem ItAt.there {b:Bool} {h:Heap} {it a:Addr} {k:Nat} (x:ItAt b h it a k):∃ o,h.get? it=some o/\∀ v,o.data≠.cell v:=by
 cases b with
 | true=>obtain ⟨o,ho,_,hd⟩:=(show h.IsListIter it a k from x); exact ⟨o,ho,λv z=>by rw [hd] at z; cases z⟩
 | false=>obtain ⟨o,ho,_,hd⟩:=(show h.IsTupleIter it a k from x); exact ⟨o,ho,λv z=>by rw [hd] at z; cases z⟩
theorem ZjG {it l:Addr} {i:Nat} {items:Array Value} {x:Value} {Q:y4} (hit:s.heap.IsTupleIter it l i) (hl:s.heap.IsTuple l items) (hx:items[i]?=some x)
  (hQ:∀ h',h'.IsTupleIter it l (i+1)->Heap.SameBut it s.heap h'->Q x { s with heap:=h' }):wpAny (model prog w) A (Builtin.SmallTypes.nextOf (.ref it)) Q E s:=by
 obtain ⟨o,ho,hc,hd⟩:=id hit; obtain ⟨ol,hol,_,nl,hdl⟩:=hl
 unfold Builtin.SmallTypes.nextOf
 refine wpAny_bind (wpAny_callSpecial?_slot (name:=Str.ofString "__next__") hit.typeIs xp (wpAny_call_entry xp hit.typeIs F.entry_tuple_iterator_next ?_ (F.args_tuple_iterator_next_1 _)))
 show wpAny _ _ (field (.ref it) 0 >>= _) _ _ s; refine wpAny_bind (wpAny_field ho hd (x:=.ref l) rfl ?_)
 show wpAny _ _ (if (Value.ref l == Value.none)=true then _ else _) _ _ s; rw [if_neg (show ¬ ((Value.ref l == Value.none)=true) from vL)]
 show wpAny _ _ (field (.ref it) 1 >>= _) _ _ s; refine wpAny_bind (wpAny_field ho hd (x:=.int i 0) rfl ?_)
 show wpAny _ _ (seqItems? (.ref l) >>= _) _ _ s; refine wpAny_bind (wpAny_seqItems hol hdl ?_); simp only [xa,hx]
 refine wpAny_bind (wpAny_setField ho hd (by simp) (wpAny_pure ⟨x,rfl,wpAny_pure (hQ _ ⟨_,xi _ ho (yj (xg hd _)),(Obj.cls_mapFields ..).trans hc,?_⟩ (xw ..))⟩))
 rw [xg hd]; simp [rawInt]
theorem ZjH {it l:Addr} {i:Nat} {items:Array Value} {Q:y4} (hh:A.handled=none) (hit:s.heap.IsTupleIter it l i) (hl:s.heap.IsTuple l items) (hx:items[i]?=none)
  (hE:∀ h' e,Heap.ExtBut it s.heap h'->(∃ o,h'.get? e=some o/\o.cls=.type "StopIteration")->E (.ref e) { s with heap:=h' }):wpAny (model prog w) A (Builtin.SmallTypes.nextOf (.ref it)) Q E s:=by
 obtain ⟨o,ho,hc,hd⟩:=id hit; obtain ⟨ol,hol,_,nl,hdl⟩:=hl
 unfold Builtin.SmallTypes.nextOf
 refine wpAny_bind (wpAny_callSpecial?_slot (name:=Str.ofString "__next__") hit.typeIs xp (wpAny_call_entry xp hit.typeIs F.entry_tuple_iterator_next ?_ (F.args_tuple_iterator_next_1 _)))
 show wpAny _ _ (field (.ref it) 0 >>= _) _ _ s; refine wpAny_bind (wpAny_field ho hd (x:=.ref l) rfl ?_)
 show wpAny _ _ (if (Value.ref l == Value.none)=true then _ else _) _ _ s; rw [if_neg (show ¬ ((Value.ref l == Value.none)=true) from vL)]
 show wpAny _ _ (field (.ref it) 1 >>= _) _ _ s; refine wpAny_bind (wpAny_field ho hd (x:=.int i 0) rfl ?_)
 show wpAny _ _ (seqItems? (.ref l) >>= _) _ _ s; refine wpAny_bind (wpAny_seqItems hol hdl ?_); simp only [xa,hx]
 refine wpAny_bind (wpAny_rule (wpAny_bind (wpAny_setField ho hd (by simp) ?_))); show wpAny _ _ (newExc (.type "StopIteration") [] >>= _) _ _ _
 refine wpAny_bind ?_; simp only [newExc,newTuple]; refine wpAny_bind (wpAny_newObj_type ?_ (by size_fits))
 refine wpAny_bind (m:=firstArgMember _ _) (wpAny_of_eq (a:=Value.none) (by first | rfl | (simp only [firstArgMember]; rfl)) ?_); refine wpAny_newObj_type ?_ (by size_fits); simp only [raiseNew]
 refine wpAny_bind (wpAny_handled ?_); first | rw [show A.in1.handled=none from hh] | rw [hh]
 refine wpAny_bind (wpAny_pure (wpAny_throw (hE _ _ (((xw ..).extBut.push _).push _) ⟨_,vI _ rfl,rfl⟩)))
theorem ZjI {b:Bool} {it l:Addr} {i:Nat} {items:Array Value} {x:Value} {Q:y4} (hit:ItAt b s.heap it l i) (hl:SqAt b s.heap l items) (hx:items[i]?=some x)
  (hQ:∀ h',ItAt b h' it l (i+1)->Heap.SameBut it s.heap h'->Q x { s with heap:=h' }):wpAny (model prog w) A (Builtin.SmallTypes.nextOf (.ref it)) Q E s:=by
 cases b with
 | true=>exact wpAny_nextOf_list_item hit hl hx hQ
 | false=>exact ZjG hit hl hx hQ
theorem ZjJ {b:Bool} {it l:Addr} {i:Nat} {items:Array Value} {Q:y4} (hh:A.handled=none) (hit:ItAt b s.heap it l i) (hl:SqAt b s.heap l items) (hx:items[i]?=none)
  (hE:∀ h' e,Heap.ExtBut it s.heap h'->(∃ o,h'.get? e=some o/\o.cls=.type "StopIteration")->E (.ref e) { s with heap:=h' }):wpAny (model prog w) A (Builtin.SmallTypes.nextOf (.ref it)) Q E s:=by
 cases b with
 | true=>exact wpAny_nextOf_list_end hh hit hl hx hE
 | false=>exact ZjH hh hit hl hx hE
theorem SqAt.bt {b:Bool} {h h':Heap} {a c:Addr} {items:Array Value} (x:SqAt b h a items) (e:Heap.ExtBut c h h') (n:a≠c):SqAt b h' a items:=x.at λo q=>e a o n q
noncomputable def g5 (b:Bool) (l:Addr):Obj:=match b with
 | true=>{ cls:=.type "list_iterator",data:=.fields #[.ref l,.int 0 0] }
 | false=>{ cls:=.type "tuple_iterator",data:=.fields #[.ref l,.int 0 0] }
theorem lZ {b:Bool} {l:Addr} {items:Array Value} {Q:y4} (hl:SqAt b s.heap l items) (hQ:Q (.ref s.heap.objs.size) { s with heap:=s.heap.push (g5 b l) }):wpAny (model prog w) A (pyIter (.ref l)) Q E s:=by
 cases b with
 | true=>exact wpAny_pyIter_list hl hQ
 | false=>exact wpAny_pyIter_tuple hl hQ
theorem SqAt.push {b:Bool} {h:Heap} {l:Addr} {items:Array Value} (x:SqAt b h l items) (o:Obj):SqAt b (h.push o) l items:=x.at λ_ q=>vA _ q
theorem ub {b:Bool} {h:Heap} {it l:Addr} (e:h.get? it=some (g5 b l)):ItAt b h it l 0:=by
 cases b with
 | true=>exact ⟨_,e,rfl,rfl⟩
 | false=>exact ⟨_,e,rfl,rfl⟩
end
section
variable {X:Cx} {pins:List (Addr×Obj)} {σ:St} {H:Hp} {s:Shared} {h':Heap}
theorem Inv.turns {t':Nat} {ch:List Addr} (I:Inv X pins σ H s) (k:∀ b o,b ∉ ch->s.heap.get? b=some o->h'.get? b=some o) (hf:∀ b∈ch,fB X pins H b):Inv X pins σ H { s with heap:=h',toks:=t' }:=by
 have nit:∀ b u,H b=some u->b ∉ ch:=λb u e z=>by rw [(hf b z).1] at e; cases e
 refine I.step (g':=s.gens) (d':=s.drawn) (ch:=ch) (λb hb=>?_) (λb o _ _ hc e _=>k b o hc e) (λb o _ _ hc e _=>⟨o.slots,k b o hc e⟩) (λ_ _ _ _ n=>n)
  (λb o hc e=>⟨o,k b o hc e⟩) (λ_ _ e=>e) (λ_ _ _ e=>e) (λb ps e=>⟨#[],by rw [e]; simp⟩) (λm hm=>?_) (λb u e=>?_) I.bare
 ·obtain ⟨_,f1,_,f3,f4,f5⟩:=hf b hb
  exact ⟨f3,f1,f4,f5⟩
 ·obtain ⟨o,es,ep,ho,r⟩:=hm
  exact ⟨o,es,ep,k _ o (λz=>(hf _ z).2.1 rfl) ho,r⟩
 ·refine (I.hok b u e).stay (λc v hc q=>k c v ?_ q) (λ_ q=>q) (λ_ _ q=>q) λ_ _ _ _ q _=>q
  rcases hc with z | z
  ·rw [z]; exact nit b u e
  ·exact nit c _ z
theorem Inv.pair {T:Addr} {x y:V} {u v:Value} (I:Inv X pins σ H s) (hT:H T=none) (ho:IsPair s.heap T u v) (r1:RelV x u) (r2:RelV y v)
  (hL:T≠X.env.locals) (hs0:X.s₀.heap.objs.size<=T) (hc:∀ x c,X.env.cells.lookup x=some c->c≠T) (hp:∀ p∈X.pn++pins,p.1≠T):Inv X pins σ (upd H T (.tup [x,y])) s:=by
 have ne:∀ {b:Addr} {o:HO},H b=some o->b≠T:=λe=>cH e hT
 refine I.step (g':=s.gens) (d':=s.drawn) (t':=s.toks) (h':=s.heap) (ch:=[T]) (λb hb=>?_) (λb o _ _ _ e _=>e) (λb o _ _ _ e _=>⟨o.slots,e⟩) (λb o hb e n=>?_) (λb o _ e=>⟨o,e⟩)
  (λb xs e=>by rw [aK (ne e)]; exact e) (λb o u e=>by rw [aK (ne e)]; exact e) (λb ps e=>⟨#[],by rw [aK (ne e),e]; simp⟩) (λm hm=>hm) (λb u e=>?_) I.bare
 ·have e:b=T:=by simpa using hb
  subst e
  exact ⟨.inr hs0,hL,hc,hp⟩
 ·have hb':b≠T:=by simpa using hb
  rw [aK hb']
  exact n
 ·by_cases hb:b=T
  ·subst hb
   rw [bJ] at e
   cases e
   exact ⟨by show 2<=sizeLine; decide,[_,_],.cons r1 (.cons r2 .nil),⟨_,ho,rfl,_,rfl⟩⟩
  ·rw [aK hb] at e
   exact (I.hok b u e).stay (λc v _ q=>q) (λc q=>by rw [aK (ne q)]; exact q) (λc xs q=>by rw [aK (ne q)]; exact q) λc ob xs _ q _=>by rw [aK (ne q)]; exact q
end
noncomputable def cb (b:Bool) (xs:zb):HO:=match b with
 | true=>.lst xs
 | false=>.tup xs
theorem gO {P:Program} {w:World} {H:Hp} {h:Heap} (ok:HOk P w H h) {b:Bool} {a:Addr} {xs:zb} (e:H a=some (cb b xs)):∃ its:y9,Vals xs its/\SqAt b h a its.toArray:=by
 cases b with
 | true=>obtain ⟨_,its,n,r,q⟩:=ok a _ e; exact ⟨its,r,⟨_,q,rfl,n,rfl⟩⟩
 | false=>obtain ⟨_,its,r,q⟩:=ok a _ e; exact ⟨its,r,q⟩
end L2
namespace L2
open AutoSeq1 (wpAny_loadPart')
section
variable {X:Cx} {tg:Expr} {PK:Pk} {a b:Expr} {i j:yT} {p pos:Pos}
theorem um {G:Hp} {v:V} {x:PyData} {xs:y6} (d:Dn G v x) (h:gv x=some xs):∃ b a vs,v=.ref a/\G a=some (cb b vs)/\DnAll G vs xs:=by
 cases d with
 | lst h1 h2=>cases h; exact ⟨true,_,_,rfl,h1,h2⟩
 | tup h1 h2=>cases h; exact ⟨false,_,_,rfl,h1,h2⟩
 | _=>cases h
theorem Zc7 {b:Bool} {xs ys:zb} (h:some (cb b xs)=some (cb b ys)):xs=ys:=by
 cases b <;> (cases h; rfl)
end
theorem ZdM {prog:Program} {w:World} {A:Around} (hh:A.handled=none) (b:Bool) (it l:Addr) (hne:l≠it) (items:Array Value):Draws prog w A it [it,l] items.size (λi v=>items[i]?=some v) (λi h=>ItAt b h it l i/\SqAt b h l items) where
 live:=λ_ _ st=>let ⟨o,ho,_⟩:=st.1.there; ⟨o,ho⟩
 frame:=λ_ _ _ st hk=>⟨st.1.at λo e=>hk it (by simp) o e,st.2.at λo e=>hk l (by simp) o e⟩
 item:=λi s Q E hi st hQ=>ZjI st.1 st.2 (x:=items[i]) (by simp [hi]) λh' hit' hs'=>hQ _ h' s.toks (by simp [hi]) ⟨hit',st.2.bt hs'.extBut hne⟩ hs'
 done:=λs Q E st hE=>ZjJ hh st.1 st.2 (by simp) hE
theorem Zj7 (b:Bool) (l:Addr) (items:Array Value) :
  Meets (Builtin.«enumerate.__new__» ⟨[.type "enumerate",.ref l],[]⟩) (λ_ R s=>SqAt b s.heap l items /\
   R (.ok (.ret (.ref (s.heap.push (g5 b l)).objs.size))) { s with heap:=(s.heap.push (g5 b l)).push { cls:=.type "enumerate",data:=.fields #[.none,.bool false,.ref s.heap.objs.size,rawInt 0,.none,.none] } }) :=
 .of_wp λprog w A R s h=>by
  obtain ⟨hp,g,d,tk,os⟩:=s
  obtain ⟨hl,h⟩:=h
  have hsub:=sub_enumerate
  have q:SqAt b (Shared.heap ⟨hp,g,d,tk,os⟩) l items:=hl
  have ho:∃ ob,hp.get? l=some ob:=by
   cases b with
   | true=>obtain ⟨ob,e,_⟩:=hl; exact ⟨ob,e⟩
   | false=>obtain ⟨ob,e,_⟩:=hl; exact ⟨ob,e⟩
  obtain ⟨ob,ho⟩:=ho
  wp_walk using wpAny_loadPart' ho
  refine wpAny_stack_any λst=>wpAny_pure ?_
  split
  ·rename_i c _ _ _ _ _
   cases (c == Value.type "enumerate")
   ·wp_walk using wpAny_loadPart' ho,lZ q
    exact ⟨_,rfl,h⟩
   ·wp_walk using wpAny_loadPart' ho,lZ q
    exact ⟨_,rfl,h⟩
  ·wp_walk using wpAny_loadPart' ho,lZ q
   exact ⟨_,rfl,h⟩
section
variable {prog:Program} {w:World} {A:Around} {E:y4} {s:Shared}
theorem Zq7 {b:Bool} {l:Addr} {items:Array Value} {Q:y4} (hl:SqAt b s.heap l items)
  (h:∀ h',IsEnum h' (s.heap.objs.size+1) s.heap.objs.size 0 .none->ItAt b h' s.heap.objs.size l 0->(∀ c o,s.heap.get? c=some o->h'.get? c=some o)->Q (.ref (s.heap.objs.size+1)) { s with heap:=h' }) :
  wpAny (model prog w) A (call (.type "enumerate") [.ref l]) Q E s:=by
 refine callType_new F.called_enumerate (by decide) (F.typeCall_enumerate_1 _) (F.newCall_enumerate_1 _) (λobj=>yq obj _) F.entry_enumerate_new (Zj7 b l items) ⟨hl,?_⟩
 have n1:(s.heap.push (g5 b l)).objs.size=s.heap.objs.size+1:=wF ..
 have a2:IsEnum ((s.heap.push (g5 b l)).push { cls:=.type "enumerate",data:=.fields #[.none,.bool false,.ref s.heap.objs.size,rawInt 0,.none,.none] }) (s.heap.push (g5 b l)).objs.size s.heap.objs.size 0 .none:=vI _ rfl
 have a1:((s.heap.push (g5 b l)).push { cls:=.type "enumerate",data:=.fields #[.none,.bool false,.ref s.heap.objs.size,rawInt 0,.none,.none] }).get? s.heap.objs.size=some (g5 b l):=vA _ (vI _ (by cases b <;> rfl))
 rw [n1] at a2
 show _/\_
 rw [n1]
 exact ⟨⟨_,a2,rfl⟩,h _ a2 (ub a1) λc o x=>vA _ (vA _ x)⟩
end
noncomputable def jS (b:Bool) (l:Addr):It :=
 ⟨λi H=>∃ xs x,H l=some (cb b xs)/\xs[i]?=some x,
  λi H v H'=>∃ xs x p,H l=some (cb b xs)/\xs[i]?=some x/\H p=none/\v=.ref p/\H'=upd H p (.tup [.int i,x]),
  λi H=>∃ xs,H l=some (cb b xs)/\xs.length=i⟩
theorem Zga {P:Program} {w:World} {K:yS} {elts:List Expr} {x1:Nat} {pos:Pos} {b:Bool} {l:Addr} (e it:Addr) (hne:e≠it) :
  Turn P w K (.Tuple elts x1 pos) (jS b l) [e,it] e (λi h=>(∃ old,IsEnum h e it i old)/\ItAt b h it l i) where
 mem:=by simp
 obj:=λi h st c hb=>by
  obtain ⟨⟨old,he⟩,h1⟩:=st
  simp at hb
  rcases hb with rfl | rfl
  ·exact ⟨_,he,λv q=>by cases q⟩
  ·exact h1.there
 keep:=λi h h' st k=>by
  obtain ⟨⟨old,he⟩,h1⟩:=st
  exact ⟨⟨old,k _ (by simp) _ he⟩,h1.at λo q=>k _ (by simp) o q⟩
 item:=by
  intro X hP hw hK hc i pins s σ H E I hf st hg
  subst hP hw hK
  obtain ⟨xs,x,e1,hx⟩:=hg
  obtain ⟨⟨old,he⟩,h1⟩:=st
  obtain ⟨us,r1,q1⟩:=gO I.hok e1
  obtain ⟨u,hu,ru⟩:=r1.get hx
  have nl:∀ c∈[e,it],l≠c:=λc hc=>cH e1 (hf c hc).1
  have hlt:i < us.toArray.size:=by
   have:=(vH.mp hu).1
   simpa using this
  refine wpAny_pyNext_enum_itemD (ZdM (A:=X.A.in1) (show X.A.in1.handled=none from I.ok.hd hc) b it l (nl it (by simp)) us.toArray) he ⟨h1,q1⟩ hlt hne (by simp only [vD,wa,or_false,not_or]; exact ⟨hne,(nl e (by simp)).symm⟩) λx' h' tk hP' ho st' hT hsz kk=>?_
  have hxu:x'=u:=by
   have q:us[i]?=some x':=by simpa using hP'
   rw [hu] at q
   cases q
   rfl
  subst hxu
  refine ⟨_,rfl,wpAny_letOwnedTupleGo_enum ho λh2' z2 sb=>?_⟩
  have lt:∀ {c:Addr} {o:Obj},s.heap.get? c=some o->s.heap.objs.size≠c:=λq=>wq (vM q)
  have I1:Inv X pins σ H { s with heap:=h2',toks:=tk+1 }:=I.turns (ch:=[e,it]) (λc o hb q=>by
   simp at hb
   exact sb.extBut _ _ hb.1 (kk c o hb.1 hb.2 q)) hf
  have hTn:H s.heap.objs.size=none:=I.hok.fresh (vF _)
  have I2:=I1.pair (T:=s.heap.objs.size) (x:=.int i) (y:=x) hTn (sb.extBut _ _ (lt he) hT) ⟨tk,rfl⟩ ru (wq I.lt) I.sz
   (λq cc ee hq=>by obtain ⟨vv,zz⟩:=I.cell q cc ee; exact absurd zz.lt (by rw [hq]; exact vU _)) (λp hp hq=>absurd (vM (I.pin p hp).1) (by rw [hq]; exact vU _))
  refine ⟨.ref s.heap.objs.size,_,I2,rfl,⟨xs,x,_,e1,hx,hTn,rfl,rfl⟩,⟨⟨_,z2⟩,st'.1.at λo q=>sb.extBut _ _ (Ne.symm hne) q⟩,λc hb=>?_⟩
  have hbn:c≠s.heap.objs.size:=by
   simp at hb
   obtain ⟨o1,g1,_⟩:=h1.there
   rcases hb with rfl | rfl
   ·exact (lt he).symm
   ·exact (lt g1).symm
  rw [aK hbn]
  exact (hf c hb).1
 done:=by
  intro X hP hw hK hc i pins s σ H E I hf st hg
  subst hP hw hK
  obtain ⟨xs,e1,hend⟩:=hg
  obtain ⟨⟨old,he⟩,h1⟩:=st
  obtain ⟨us,r1,q1⟩:=gO I.hok e1
  have nl:∀ c∈[e,it],l≠c:=λc hc=>cH e1 (hf c hc).1
  have hsz:us.toArray.size=i:=by rw [vK,<- r1.length]; exact hend
  subst hsz
  refine wpAny_pyNext_enum_endD (ZdM (A:=X.A.in1) (show X.A.in1.handled=none from I.ok.hd hc) b it l (nl it (by simp)) us.toArray) he ⟨h1,q1⟩ λh' eb=>⟨rfl,?_⟩
  exact I.turns (ch:=[e,it]) (t':=s.toks) (λc o hb q=>by
   simp at hb
   exact eb c o hb.2 q) hf
 self:=λ_ _ _ _ _ st h=>by
  obtain ⟨⟨old,he⟩,_⟩:=st
  exact wpAny_pyIter_enum he h
section
variable {X:Cx} {tg:Expr} {PK:Pk} {a b:Expr} {i j:yT} {p pos:Pos}
def Zc5 (ta:TE):TI:=λσ H R=>ta σ H λx H1=>∃ b l xs,x=.ref l/\H1 l=some (cb b xs)/\R (jS b l) H1
theorem ZiB {elts:List Expr} {x1:Nat} {tpos:Pos} {ta:TE} (hc:X.calm=true) (hg:Gl X "enumerate") (hm:X.mg "enumerate"=none) (ha:PE X a ta)
  (hs:starEach [a] X.env=[(false,eval a X.env)]:=by rfl):PI X (.Tuple elts x1 tpos) (.Call (.Name "enumerate" p) [a] [] pos) (Zc5 ta):=by
 intro pins s σ H R I h
 have hab:PA X [a] (gi ta aR):=aT ha bz (by rw [hs]; rfl)
 have h':gi ta aR σ H λvs H1=>∃ x,vs=[x]/\∃ b l xs,x=.ref l/\H1 l=some (cb b xs)/\R (jS b l) H1:=by
  have e:(λ(x:V) (H1:Hp)=>∃ b l xs,x=.ref l/\H1 l=some (cb b xs)/\R (jS b l) H1)=λx H1=>aR σ H1 λxs H2=>∃ y,x::xs=[y]/\∃ b l xs,y=.ref l/\H2 l=some (cb b xs)/\R (jS b l) H2:=by
   funext x H1
   apply propext
   constructor
   ·exact λq=>⟨x,rfl,q⟩
   ·rintro ⟨y,e,q⟩
    have e':x=y:=by simpa using e
    subst e'
    exact q
  have h0:ta σ H λx H1=>∃ b l xs,x=.ref l/\H1 l=some (cb b xs)/\R (jS b l) H1:=h
  rw [e] at h0
  exact h0
 refine Call_ (kC I hg hm boot_enumerate (wX (thn (hab pos pins s σ H _ I h') λus s1 hz0=>?_) (by rw [hs]; rfl) rfl))
 obtain ⟨vs,H1,I1,r1,q1⟩:=hz0
 obtain ⟨x,rfl,b,l,xs,rfl,e1,q⟩:=q1
 obtain ⟨u,rfl,ru⟩:=ek r1
 cases ru
 obtain ⟨us,ru,q1⟩:=gO I1.hok e1
 refine Zq7 q1 λh' z t1 kk=>?_
 have I2:Inv X pins σ H1 { s1 with heap:=h' }:=I1.kept (t':=s1.toks) kk
 refine wpAny_pyIter_enum z ⟨s1.heap.objs.size+1,[s1.heap.objs.size+1,s1.heap.objs.size],_,_,H1,rfl,I2,Zga _ _ (λq=>absurd (show (s1.heap.objs.size+1:Nat)=s1.heap.objs.size from q) (by omega)),⟨⟨_,z⟩,t1⟩,λc hb=>?_,q⟩
 have hle:s1.heap.objs.size<=c:=by
  simp at hb
  rcases hb with rfl | rfl <;> first | exact Nat.le_add_right _ _ | exact vF _
 exact I1.fpOk hle (I1.hok.fresh hle)
noncomputable def ft (xs:y6):y6:=(List.range xs.length).zipWith (λ(n:Nat) x=>.tuple [.int n,x]) xs
theorem ZkP {pa:Addr} {G:Hp} {b:Bool} {l:Addr} {us:zb} {xs:y6} (h1:G l=some (cb b us)) (d1:DnAll G us xs):i9 PK pa (jS b l) G (ft xs):=λm G2 H2 sb w=>by
 have e1:H2 l=some (cb b us):=w.sub _ _ (sb _ _ h1)
 have hlen:(ft xs).length=xs.length:=by unfold ft; simp
 refine ⟨λn d hd=>?_,us,e1,by rw [hlen,d1.length]⟩
 have hn:n < xs.length:=by rw [<- hlen]; exact (vH.mp hd).1
 have hd':d=.tuple [.int n,xs[n]]:=by
  unfold ft at hd
  rw [List.getElem?_zipWith] at hd
  simp [hn] at hd
  exact hd.symm
 subst hd'
 obtain ⟨u,hu,du⟩:=d1.get n (show xs[n]?=some xs[n] by simp [hn])
 refine ⟨⟨us,u,e1,hu⟩,λx H3 hz0=>?_⟩
 obtain ⟨us',u',p,f1,hu',hp,ex,eH⟩:=hz0
 rw [e1] at f1
 have:=Zc7 f1
 subst us'
 rw [hu] at hu'
 cases hu'
 subst ex eH
 obtain ⟨w3,s3⟩:=w.new (o:=.tup [.int n,u]) hp
 exact ⟨_,s3,w3,.tup bJ (.cons (.int n) (.cons ((du.mono sb).mono s3.gs) .nil))⟩
noncomputable def vm (i:yT):yU:=λρ=>(i ρ).bind λx=>(Tr.of (gv x)).bind λxs=>.ret (ft xs)
theorem ZrK {iter:Expr} (h:PI X tg iter (Zc5 (TAe PK i))):PI X tg iter (eP PK (vm i)):=h.imp λσ H R0 hz0=>by
 obtain ⟨pa,ze,H₀,m,ρ,G,R,z⟩:=hz0
 refine TAe.then R z λm1 x v G1 H1 s1 w1 R1 d1 q1=>?_
 rw [Tr.ok_bind] at q1
 obtain ⟨xs,hx,q1⟩:=Tr.ok_of q1
 obtain ⟨b1,l1,us,rfl,e1,f1⟩:=um d1 hx
 exact ⟨b1,l1,us,rfl,w1.sub _ _ e1,q1 _ G1 H1 s1 w1 (ZkP e1 f1)⟩
end
end L2
namespace L2
section
variable {prog:Program} {w:World} {A:Around}
theorem Zan (hh:A.handled=none) (b:Bool) (I ax:Addr) (hne:ax≠I) (items:Array Value):Walks prog w A I [I,ax] [I] items.size (λi v=>items[i]?=some v) (λi h=>ItAt b h I ax i/\SqAt b h ax items):=by
 cases b with
 | true=>exact Walks.list hh I ax hne items
 | false=>exact Walks.tuple hh I ax hne items
end
theorem Zk2 {ns:y8} {us:y9} (r:Vals (ns.map V.int) us) {i:Nat} {v:Value} (h:us[i]?=some v):∃ t,v=.int ((ns[i]?).getD 0) t:=by
 have hi:i < us.length:=(vH.mp h).1
 have hl:us.length=ns.length:=by rw [<- r.length,vB]
 obtain ⟨u,e1,e2⟩:=r.get (i:=i) (x:=V.int ns[i]) (by simp [show i < ns.length by omega])
 rw [h] at e1
 cases e1
 obtain ⟨t,e2⟩:=e2
 exact ⟨t,by simp [show i < ns.length by omega,e2]⟩
theorem Ziw (ns:y8):preSum (λi=>(ns[i]?).getD 0) ns.length=ns.sum:=by
 have key:∀ k,k<=ns.length->preSum (λi=>(ns[i]?).getD 0) k=(ns.take k).sum:=by
  intro k
  induction k with
  | zero=>intro _; simp [preSum]
  | succ k ih =>
   intro hk
   rw [preSum,ih (by omega),List.take_add_one,xI]
   simp [show k < ns.length by omega]
 rw [key _ (vF _),List.take_length]
section
variable {X:Cx} {PK:Pk}
theorem Zem (hc:X.calm=true):CallR X (.builtin "sum") (λxs H Q=>∃ (b:Bool) (l:Addr) (ns:y8),xs=[.ref l]/\H l=some (cb b (ns.map V.int))/\Q (.int ns.sum) H):=by
 intro pins s σ H xs us Q I r h
 obtain ⟨b,l,ns,rfl,e1,q⟩:=h
 obtain ⟨u,rfl,ru⟩:=ek r
 cases ru
 obtain ⟨vs,rv,sq⟩:=gO I.hok e1
 have hlt:l < s.heap.objs.size:=I.hok.lt e1
 refine call_sum_walkG (lZ sq ?_)
 refine ⟨s.heap.objs.size,[s.heap.objs.size,l],[s.heap.objs.size],vs.toArray.size,_,_,λi=>(ns[i]?).getD 0,rfl,Zan (A:=X.A.in1) (I.ok.hd hc) b _ l (vR hlt) vs.toArray,
  ⟨ub (vI _ (by cases b <;> rfl)),sq.push _⟩,λc hc=>?_,λi v hv=>Zk2 rv (by simpa using hv),λh' tk t' hk=>?_⟩
 ·rw [wF]
  simp at hc
  rcases hc with rfl | rfl
  ·exact yv _
  ·exact xx hlt
 ·refine ⟨.int ns.sum,H,I.kept (t':=tk) λc o e=>hk c o (λz=>?_) (vA _ e),⟨t',?_⟩,q⟩
  ·have:c=s.heap.objs.size:=by simpa using z
   subst this
   exact vU _ (vM e)
  ·have e:vs.toArray.size=ns.length:=by rw [vK,<- rv.length,vB]
   rw [e,Ziw]
theorem Zib (bs:List Bool):((List.range bs.length).all λi=>(bs[i]?).getD true)=bs.all id:=by
 rw [xK,xE,xE]
 constructor
 ·intro h x hx
  obtain ⟨i,hi,rfl⟩:=List.getElem_of_mem hx
  have:=h i (yg.mpr hi)
  simpa [hi] using this
 ·intro h i hi
  have hi':=yg.mp hi
  simpa [hi'] using h _ (yx hi')
theorem Zrx {bs:List Bool} {us:y9} (r:Vals (bs.map V.bl) us) {i:Nat} {v:Value} (h:us[i]?=some v):v=.bool ((bs[i]?).getD true):=by
 have hi:i < us.length:=(vH.mp h).1
 have hl:us.length=bs.length:=by rw [<- r.length,vB]
 obtain ⟨u,e1,e2⟩:=r.get (i:=i) (x:=V.bl bs[i]) (by simp [show i < bs.length by omega])
 rw [h] at e1
 cases e1
 cases e2
 simp [show i < bs.length by omega]
theorem Zq9 (hc:X.calm=true):CallR X (.builtin "all") (λxs H Q=>∃ (b:Bool) (l:Addr) (bs:List Bool),xs=[.ref l]/\H l=some (cb b (bs.map V.bl))/\Q (.bl (bs.all id)) H):=by
 intro pins s σ H xs us Q I r h
 obtain ⟨b,l,bs,rfl,e1,q⟩:=h
 obtain ⟨u,rfl,ru⟩:=ek r
 cases ru
 obtain ⟨vs,rv,sq⟩:=gO I.hok e1
 have hlt:l < s.heap.objs.size:=I.hok.lt e1
 refine call_all_walk (lZ sq ?_)
 refine ⟨s.heap.objs.size,[s.heap.objs.size,l],[s.heap.objs.size],vs.toArray.size,_,_,λi=>(bs[i]?).getD true,rfl,Zan (A:=X.A.in1) (I.ok.hd hc) b _ l (vR hlt) vs.toArray,
  ⟨ub (vI _ (by cases b <;> rfl)),sq.push _⟩,λi v s' Q' E' hP hQ=>?_,λh' tk hk=>?_⟩
 ·have e:=Zrx rv (i:=i) (v:=v) (by simpa using hP)
  subst e
  exact wpAny_truthy_bool hQ
 ·have e:vs.toArray.size=bs.length:=by rw [vK,<- rv.length,vB]
  rw [e,Zib]
  refine ⟨.bl _,H,I.kept (t':=tk) λc o e=>hk c o (λz=>?_) (vA _ e),rfl,q⟩
  have:c=s.heap.objs.size:=by simpa using z
  subst this
  exact vU _ (vM e)
noncomputable def bools?:List PyData->Option (List Bool)
 | []=>some []
 | .bool n::xs=>(bools? xs).bind λns=>some (n::ns)
 | _=>none
@[simp] theorem bools?_map:∀ ns:List Bool,bools? (ns.map PyData.bool)=some ns
 | []=>rfl
 | n::ns=>by rw [vG,bools?,bools?_map ns]; rfl
theorem DnAll.bools_inv {H:Hp} {vs:zb} {ds:y6} {ns:List Bool} (a:DnAll H vs ds) (h:bools? ds=some ns):vs=ns.map V.bl/\ds=ns.map PyData.bool:=by
 induction vs generalizing ds ns with
 | nil=>cases a; cases h; exact ⟨rfl,rfl⟩
 | cons v vs ih =>
  cases a with
  | cons g t =>
   cases g with
   | bl n =>
    unfold bools? at h
    rename_i ds
    cases e:bools? ds with
    | none=>rw [e] at h; cases h
    | some ms =>
     rw [e] at h
     cases h
     obtain ⟨h1,h2⟩:=ih t e
     exact ⟨by rw [h1]; rfl,by rw [h2]; rfl⟩
   | _=>unfold bools? at h; cases h
noncomputable def js {α:Type} (p:List PyData->Option α) (f:α->Option PyData):List PyData->Option PyData
 | [x]=>(gv x).bind λxs=>(p xs).bind f
 | _=>none
noncomputable def gN:List PyData->Option PyData:=js ints? λns=>some (.int ns.sum)
noncomputable def qy:List PyData->Option PyData:=js bools? λns=>some (.bool (ns.all id))
theorem Zcp {α:Type} {p:List PyData->Option α} {f:α->Option PyData} {G:Hp} {vs:zb} {ds:y6} {d:PyData} (hv:DnAll G vs ds) (h:js p f ds=some d):∃ b l us xs y,vs=[.ref l]/\G l=some (cb b us)/\DnAll G us xs/\p xs=some y/\f y=some d:=by
 unfold js at h
 split at h
 ·rename_i x
  cases hx:gv x with
  | none=>rw [hx] at h; cases h
  | some xs =>
   rw [hx] at h
   have h':(p xs).bind f=some d:=h
   cases hp:p xs with
   | none=>rw [hp] at h'; cases h'
   | some y =>
    rw [hp] at h'
    cases hv with
    | cons h1 h2 =>
     cases h2
     obtain ⟨b,l,us,rfl,e1,e2⟩:=um h1 hx
     exact ⟨b,l,us,xs,y,rfl,e1,e2,hp,h'⟩
 ·cases h
theorem Zap:dJ (λxs H Q=>∃ (b:Bool) (l:Addr) (ns:y8),xs=[.ref l]/\H l=some (cb b (ns.map V.int))/\Q (.int ns.sum) H) gN:=λPK pa m G H vs ds d Q w hv hd k=>by
 obtain ⟨b,l,us,xs,ns,rfl,e1,e2,hp,hf⟩:=Zcp hv hd
 obtain ⟨rfl,rfl⟩:=e2.ints_inv hp
 cases hf
 exact ⟨b,l,ns,rfl,w.sub _ _ e1,k.here w (.int _)⟩
theorem ZfY:dJ (λxs H Q=>∃ (b:Bool) (l:Addr) (bs:List Bool),xs=[.ref l]/\H l=some (cb b (bs.map V.bl))/\Q (.bl (bs.all id)) H) qy:=λPK pa m G H vs ds d Q w hv hd k=>by
 obtain ⟨b,l,us,xs,ns,rfl,e1,e2,hp,hf⟩:=Zcp hv hd
 obtain ⟨rfl,rfl⟩:=e2.bools_inv hp
 cases hf
 exact ⟨b,l,ns,rfl,w.sub _ _ e1,k.here w (.bl _)⟩
variable {a b c e:Expr} {pos:Pos} {i j l:yT}
noncomputable def qK (f g:y3) (i j l:yT):yT:=λρ=>(i ρ).bind λx=>(j ρ).bind λy=>(Tr.of (f x y)).bind λz=>(Tr.of (jh z)).bind λk =>
 if k=true then (l ρ).bind λu=>Tr.of (g y u) else .ret (.bool false)
theorem ZqR {r r':R2} {f g:y3} (hv:bU r f) (hv':bU r' g):∀ σ H Q,TAe PK (qK f g i j l) σ H Q->ZaL r r' (TAe PK i) (TAe PK j) (TAe PK l) σ H Q:=by
 rintro σ H Q ⟨pa,ze,H₀,m,ρ,G,R,q⟩
 refine TAe.then R q λm1 x v G1 H1 s1 w1 R1 d1 q1=>?_
 refine TAe.then R1 q1 λm2 y u G2 H2 s2 w2 R2 d2 q2=>?_
 rw [Tr.ok_bind] at q2
 obtain ⟨z,hz,q3⟩:=Tr.ok_of q2
 rw [Tr.ok_bind] at q3
 obtain ⟨k,hk,q5⟩:=Tr.ok_of q3
 have s12:=s1.trans s2 w1.some
 refine hv PK pa m2 G2 H2 v u x y z _ w2 (d1.mono s2.gs) d2 hz λzz G3 H3 s3 w3 d3=>?_
 cases d3 <;> simp only [jh] at hk <;> cases hk
 refine ⟨_,rfl,?_⟩
 have s13:=s12.trans s3 w2.some
 cases k with
 | true =>
  rw [if_pos rfl] at q5 ⊢
  refine TAe.then (R2.step s3 w3) q5 λm4 t vt G4 H4 s4 w4 R4 d4 q4=>?_
  obtain ⟨zz,hzz,q4⟩:=Tr.ok_of q4
  exact hv' PK pa m4 G4 H4 u vt y t zz Q w4 (d2.mono (s3.gs.trans s4.gs)) d4 hzz (Kn.later q4 (s13.trans s4 w3.some) w4.some)
 | false =>
  rw [if_neg vL] at q5 ⊢
  exact (Kn.later q5 s13 w3.some).here w3 (.bl false)
theorem ZrC {op op':CmpOp} {r r':R2} {f g:y3} (ho:OpR X (compareOp op) r) (hv:bU r f) (ho':OpR X (compareOp op') r') (hv':bU r' g) (ha:PE X a (TAe PK i)) (hb:PE X b (TAe PK j)) (hc:PE X c (TAe PK l))
  (hm:lastMarks [op,op'] [b,c]=false:=by with_unfolding_all rfl):PT X (.Compare a [op,op'] [b,c] pos) (TAt PK (bc (qK f g i j l))) :=
 (Ziq ho ho' ha hb hc hm).imp λσ H Q z=>ZaJ (ZqR hv hv') σ H Q (Zfd σ H Q z)
theorem ZkZ:OpR X (inplaceOp .Mult) (rI CMulG λi j=>.int (i * j)):=iA λ_ _ _ _ _ _ _ hc q=>imul_int q hc.ok
theorem pip {op:Operator} {r:R2} (h:OpR X (inplaceOp op) r):PIp X op r:=h
noncomputable def p6:y3
 | .int m,.int n=>some (.int (m+n))
 | _,_=>none
theorem ZfR:bU (eR λi j=>.int (i+j)) p6:=λPK pa m G H x y dx dy dz Q w hx hy hz k=>by
 unfold p6 at hz
 split at hz
 ·cases hz; cases hx; cases hy
  exact ⟨_,_,rfl,rfl,k.here w (.int _)⟩
 ·cases hz
noncomputable def mP:y3
 | .int m,.int n=>if (fit m && fit n)=true then some (.int (m * n)) else none
 | _,_=>none
theorem ZfQ:bU (rI CMulG λi j=>.int (i * j)) mP:=λPK pa m G H x y dx dy dz Q w hx hy hz k=>by
 unfold mP at hz
 split at hz
 ·split at hz
  ·rename_i hc
   rw [vQ] at hc
   cases hz; cases hx; cases hy
   exact ⟨_,_,rfl,rfl,⟨of_decide_eq_true hc.1,of_decide_eq_true hc.2⟩,k.here w (.int _)⟩
  ·cases hz
 ·cases hz
end
theorem Zjy {PK:Pk} {is:yU}:∀ σ H Q,TAe PK (bw is) σ H Q->ib PK is σ H Q:=by
 intro σ H Q z
 obtain ⟨pa,ze,H₀,m,ρ,G,R,z⟩:=z
 exact ⟨pa,ze,H₀,m,ρ,G,R,Tr.ok_mono (Tr.ok_bind.mp z) λm1 xs k=>Ko1.of k R.wd.some⟩
theorem uX {PK:Pk} {X:Cx} {st:Stmt} {is:yU} {i:yT} {n k:Nat} {ix:List Nat} {g:yZ} (h:PS X st (gj (ik (eP PK is) n ix (λ_=>fA PK g) (λ_=>TAe PK i)) (hI k))) (hn:gJ n g):PS X st (bx PK (aX k (bw (cI is n ix g i)))) :=
 a9 (h.imp (ZgK λσ H Q z=>ZcJ hn σ H Q (Zjy σ H Q z)))
variable {ρ:zd} {s t:yW} {i j l:yT} {is:yU} {as:List Sl->Tr zd} {f:yX} {p q:yV} {k n:Nat} {x y d:PyData} {xs ys:y6} {sl:Sl}
theorem Zmb:aa 0 (.d x::ρ)=.ret x:=rfl
theorem Zma:aa (k+1) (sl::ρ)=aa k ρ:=rfl
theorem Zpj:aC d ρ=.ret d:=rfl
noncomputable def az (g:y3) (x y:PyData):Tr PyData:=Tr.of (g x y)
noncomputable def ZeK (g:y3) (j:yT) (ρ:zd) (x:PyData):Tr PyData:=(j ρ).bind (az g x)
theorem ZoQ {g:y3}:ad g i j ρ=(i ρ).bind (ZeK g j ρ):=rfl
theorem ZoP {g:y3}:ZeK g j ρ x=(j ρ).bind (az g x):=rfl
theorem Zo8 (m n:Int):az cU (.int m) (.int n)=.ret (.int (m+n)):=rfl
theorem Zo5 (h1:xs.isEmpty=false) (h2:small (xs.length+ys.length)=true):az cU (.tuple xs) (.tuple ys)=.ret (.tuple (xs++ys)):=by
 simp [az,cU,h1,h2]
theorem Zds (h2:small (xs.length+ys.length)=true):az cU (.list xs) (.list ys)=.ret (.list (xs++ys)):=by
 simp [az,cU,h2]
theorem Zmq (m n:Int):az eQ (.int m) (.int n)=.ret (.int (m - n)):=rfl
theorem Znz {m n:Int} (h1:fit m=true) (h2:fit n=true):az cm (.int m) (.int n)=.ret (.int (m * n)):=by
 simp [az,cm,h1,h2]
theorem qf {m n:Int} (h1:n≠0) (h2:fit n=true):az iS (.int m) (.int n)=.ret (.int (m.fdiv n)):=by
 simp [az,iS,h1,h2]
theorem ux {m n:Int} (h1:n≠0):az iH (.int m) (.int n)=.ret (.int (m.fmod n)):=by
 simp [az,iH,h1]
theorem ZoG {g:Int->Int->Bool} (m n:Int):az (db g) (.int m) (.int n)=.ret (.bool (g m n)):=rfl
theorem Zou (m n:Int):az da (.int m) (.int n)=.ret (.bool (m == n)):=rfl
theorem Zny (m n:Int):az eS (.int m) (.int n)=.ret (.bool (!(m == n))):=rfl
theorem Zov (m n:Bool):az da (.bool m) (.bool n)=.ret (.bool (m == n)):=rfl
theorem Zot (m n:Str):az da (.str m) (.str n)=.ret (.bool (m == n)):=rfl
theorem Znx (m n:Str):az eS (.str m) (.str n)=.ret (.bool (!(m == n))):=rfl
theorem ZnZ:az p5 x .none=.ret (.bool (gx x)):=rfl
theorem ZnW:az pZ x .none=.ret (.bool (!gx x)):=rfl
theorem ZnO (n:Int):az bA (.list xs) (.int n)=Tr.of (br xs n):=rfl
theorem gA (n:Int):az bA (.tuple xs) (.int n)=Tr.of (br xs n):=rfl
theorem na {α:Type} {xs:List α} {n:Int} {v:α} (h0:0<=n) (h:xs[n.toNat]?=some v):br xs n=some v:=by
 have e:(n.toNat:Int)=n:=Int.toNat_of_nonneg h0
 rw [<- e]
 exact dq h
section
variable {α:Type} {a0 a1 a2 a3 a4 a5 a6 a7 a8:α} {r:List α}
theorem qw:br (a0::r) 0=some a0:=dq (j:=0) rfl
theorem ZeW:br (a0::a1::r) 1=some a1:=dq (j:=1) rfl
theorem ZeV:br (a0::a1::a2::r) 2=some a2:=dq (j:=2) rfl
theorem ZeU:br (a0::a1::a2::a3::r) 3=some a3:=dq (j:=3) rfl
theorem ZeT:br (a0::a1::a2::a3::a4::r) 4=some a4:=dq (j:=4) rfl
theorem ZeS:br (a0::a1::a2::a3::a4::a5::r) 5=some a5:=dq (j:=5) rfl
theorem ZeR:br (a0::a1::a2::a3::a4::a5::a6::r) 6=some a6:=dq (j:=6) rfl
theorem ZeQ:br (a0::a1::a2::a3::a4::a5::a6::a7::r) 7=some a7:=dq (j:=7) rfl
theorem ZeP:br (a0::a1::a2::a3::a4::a5::a6::a7::a8::r) 8=some a8:=dq (j:=8) rfl
end
noncomputable def Zct:PyData->Tr PyData
 | .int n=>.ret (.int (-n))
 | _=>.fail
theorem Znw:fX i ρ=(i ρ).bind Zct:=by
 unfold fX
 refine congrArg (Tr.bind (i ρ)) (funext λx=>?_)
 cases x <;> rfl
theorem Znv (n:Int):Zct (.int n)=.ret (.int (-n)):=rfl
noncomputable def rF (x:PyData):Tr Bool:=Tr.of (jh x)
theorem Zmo:bc i ρ=(i ρ).bind rF:=rfl
theorem Zmh (b:Bool):rF (.bool b)=.ret b:=rfl
noncomputable def j9 (x:PyData):Tr Bool:=Tr.of (ZaB x)
theorem Zmn:eA i ρ=(i ρ).bind j9:=rfl
theorem Zmm (b:Bool):j9 (.bool b)=.ret b:=rfl
theorem Zml (n:Int):j9 (.int n)=.ret (n != 0):=rfl
theorem Zmk:j9 (.list xs)=.ret (!xs.isEmpty):=rfl
theorem Zmi:j9 (.tuple xs)=.ret (!xs.isEmpty):=rfl
theorem Zmj:j9 .none=.ret false:=rfl
noncomputable def u4 (q:yV) (ρ:zd) (b:Bool):Tr Bool:=if b=true then q ρ else .ret false
noncomputable def sY (q:yV) (ρ:zd) (b:Bool):Tr Bool:=if b=true then .ret true else q ρ
noncomputable def Zcs (b:Bool):Tr Bool:=.ret (!b)
theorem Zo4:qN p q ρ=(p ρ).bind (u4 q ρ):=rfl
theorem Zno:e8 p q ρ=(p ρ).bind (sY q ρ):=rfl
theorem Znt:eB p ρ=(p ρ).bind Zcs:=rfl
theorem Zo2:u4 q ρ true=q ρ:=rfl
theorem Zo3:u4 q ρ false=.ret false:=rfl
theorem Znm:sY q ρ true=.ret true:=rfl
theorem Znn:sY q ρ false=q ρ:=rfl
theorem Zns (b:Bool):Zcs b=.ret (!b):=rfl
noncomputable def u3 (j:yT) (ρ:zd) (b:Bool):Tr PyData:=if b=true then j ρ else .ret (.bool false)
noncomputable def sX (j:yT) (ρ:zd) (b:Bool):Tr PyData:=if b=true then .ret (.bool true) else j ρ
noncomputable def Zcr (b:Bool):Tr PyData:=.ret (.bool (!b))
theorem Zo1:qM i j ρ=(bc i ρ).bind (u3 j ρ):=rfl
theorem Znl:vh i j ρ=(bc i ρ).bind (sX j ρ):=rfl
theorem Znr:vk i ρ=(bc i ρ).bind Zcr:=rfl
theorem ZoZ:u3 j ρ true=j ρ:=rfl
theorem Zo0:u3 j ρ false=.ret (.bool false):=rfl
theorem Znj:sX j ρ true=.ret (.bool true):=rfl
theorem Znk:sX j ρ false=j ρ:=rfl
theorem Znq (b:Bool):Zcr b=.ret (.bool (!b)):=rfl
noncomputable def uj (i j:yT) (ρ:zd) (b:Bool):Tr PyData:=if b=true then i ρ else j ρ
theorem Zoc:qH p i j ρ=(p ρ).bind (uj i j ρ):=rfl
theorem Zoa:uj i j ρ true=i ρ:=rfl
theorem Zob:uj i j ρ false=j ρ:=rfl
noncomputable def qr (g:y3) (l:yT) (ρ:zd) (y:PyData) (k:Bool):Tr PyData:=if k=true then (l ρ).bind (az g y) else .ret (.bool false)
noncomputable def uM (g:y3) (l:yT) (ρ:zd) (y z:PyData):Tr PyData:=(rF z).bind (qr g l ρ y)
noncomputable def uN (f g:y3) (l:yT) (ρ:zd) (x y:PyData):Tr PyData:=(az f x y).bind (uM g l ρ y)
noncomputable def ch1 (f g:y3) (j l:yT) (ρ:zd) (x:PyData):Tr PyData:=(j ρ).bind (uN f g l ρ x)
theorem ZoH {f g:y3}:qK f g i j l ρ=(i ρ).bind (ch1 f g j l ρ):=rfl
theorem ZoM {f g:y3}:ch1 f g j l ρ x=(j ρ).bind (uN f g l ρ x):=rfl
theorem ZoL {f g:y3}:uN f g l ρ x y=(az f x y).bind (uM g l ρ y):=rfl
theorem ZoK {g:y3} (b:Bool):uM g l ρ y (.bool b)=qr g l ρ y b:=rfl
theorem ZoI {g:y3}:qr g l ρ y true=(l ρ).bind (az g y):=rfl
theorem ZoJ {g:y3}:qr g l ρ y false=.ret (.bool false):=rfl
noncomputable def uL (x:PyData) (xs:y6):Tr y6:=.ret (x::xs)
noncomputable def Zee (is:yU) (ρ:zd) (x:PyData):Tr y6:=(is ρ).bind (uL x)
theorem Znu:aq ρ=.ret []:=rfl
theorem ZoF:af i is ρ=(i ρ).bind (Zee is ρ):=rfl
theorem ZoE:Zee is ρ x=(is ρ).bind (uL x):=rfl
theorem ZoD:uL x xs=.ret (x::xs):=rfl
noncomputable def rE (xs:y6):Tr PyData:=if small xs.length=true then .ret (.tuple xs) else .fail
theorem Zmg:dg is ρ=(is ρ).bind rE:=rfl
theorem Zmf (h:small xs.length=true):rE xs=.ret (.tuple xs):=by unfold rE; rw [if_pos h]
noncomputable def ZcC (xs:y6):Tr PyData:=.ret (.list xs)
theorem ZnD:bw is ρ=(is ρ).bind ZcC:=rfl
theorem ZnC:ZcC xs=.ret (.list xs):=rfl
noncomputable def tQ (xs:y6):Tr y6:=if small xs.length=true then .ret xs else .fail
theorem ZnF:cq is ρ=(is ρ).bind tQ:=rfl
theorem ZnE (h:small xs.length=true):tQ xs=.ret xs:=by unfold tQ; rw [if_pos h]
theorem cz {n:Nat} (h:n<=10000):small n=true:=decide_eq_true (vO h (by decide))
noncomputable def bn (g:List PyData->Option PyData) (xs:y6):Tr PyData:=Tr.of (g xs)
theorem ZoN {g:List PyData->Option PyData}:aW g is ρ=(is ρ).bind (bn g):=rfl
theorem ZnH:bn kB [.list xs]=.ret (.int xs.length):=rfl
theorem ZnG:bn kB [.tuple xs]=.ret (.int xs.length):=rfl
theorem Zo9 (n:Int):bn h9 [.int n]=.ret (.int (iY n)):=rfl
theorem ZnB (m n:Int):bn pA [.int m,.int n]=.ret (.int (jw m n)):=rfl
theorem ZnA (m n:Int):bn pz [.int m,.int n]=.ret (.int (jv m n)):=rfl
theorem Zn0 (n:Int):bn iO [.int n]=.ret (.int n):=rfl
theorem Zn1 (b:Bool):bn iO [.bool b]=.ret (.int (if b then 1 else 0)):=rfl
theorem Zme:bn dM [.list xs]=.ret (.tuple xs):=rfl
theorem Zmc:bn dM [.tuple xs]=.ret (.tuple xs):=rfl
theorem Zmp (ns:y8):bn gN [.list (ns.map .int)]=.ret (.int ns.sum):=by
 unfold bn gN js
 simp
theorem uu (ns:y8):bn gN [.tuple (ns.map .int)]=.ret (.int ns.sum):=by
 unfold bn gN js
 simp
theorem Zdr (ns:List Bool):bn qy [.list (ns.map .bool)]=.ret (.bool (ns.all id)):=by
 unfold bn qy js
 simp
noncomputable def ZcV (T:String) (x:PyData):Tr PyData:=.ret (.bool (iN T (gh x)))
theorem ZnY {T:String}:jL T i ρ=(i ρ).bind (ZcV T):=rfl
theorem ZnX {T:String}:ZcV T x=.ret (.bool (iN T (gh x))):=rfl
noncomputable def sl3 (x:PyData) (lo:Option Int) (hi:Option Int):Tr PyData:=Tr.of (Za3 x lo hi)
noncomputable def dC (q:eZ) (ρ:zd) (x:PyData) (lo:Option Int):Tr PyData:=(q ρ).bind (sl3 x lo)
theorem Zng:dw ρ=.ret none:=rfl
noncomputable def pa1:PyData->Tr (Option Int)
 | .int n=>.ret (some n)
 | _=>.fail
theorem Znf:dh i ρ=(i ρ).bind pa1:=by
 unfold dh
 refine congrArg (Tr.bind (i ρ)) (funext λx=>?_)
 cases x <;> rfl
theorem Zne (n:Int):pa1 (.int n)=.ret (some n):=rfl
noncomputable def rD (xs:y6):Tr PyData:=(Tr.of (lU xs)).bind λys=>.ret (.tuple ys)
theorem Zmd:vd is ρ=(is ρ).bind rD:=rfl
theorem Zdo {lo hi:Int} (h:lV lo hi=true):rD [.int lo,.int hi]=.ret (.tuple (bp lo hi)):=by
 simp [rD,lU,h]
theorem Zpe:aD ρ=.ret []:=rfl
noncomputable def iZ (x:Sl) (xs:zd):Tr zd:=.ret (x::xs)
noncomputable def aa1 (as:List Sl->Tr zd) (ρ:zd) (x:PyData):Tr zd:=(as ρ).bind (iZ (.d x))
theorem Zpg:am i as ρ=(i ρ).bind (aa1 as ρ):=rfl
theorem Zpi:aa1 as ρ x=(as ρ).bind (iZ (.d x)):=rfl
theorem Zph {xs:zd}:iZ sl xs=.ret (sl::xs):=rfl
noncomputable def ku:Nat->List Sl->Tr Unit
 | 0,.pen::_=>.ret ()
 | k+1,_::ρ=>ku k ρ
 | _,_=>.fail
theorem Znb:ku 0 (.pen::ρ)=.ret ():=rfl
theorem Zna:ku (k+1) (sl::ρ)=ku k ρ:=rfl
noncomputable def aap (as:List Sl->Tr zd) (ρ:zd) (_:Unit):Tr zd:=(as ρ).bind (iZ .pen)
theorem Zpd:bG k as ρ=(ku k ρ).bind (aap as ρ):=by
 have key:∀ (k:Nat) (σ:zd) (as:List Sl->Tr zd) (ρ:zd),(match σ[k]? with | some Sl.pen=>(as ρ).bind λxs=>Tr.ret (Sl.pen::xs) | _=>Tr.fail)=(ku k σ).bind (aap as ρ):=by
  intro k
  induction k with
  | zero =>
   intro σ as ρ
   cases σ with
   | nil=>rfl
   | cons s r=>cases s <;> rfl
  | succ k ih =>
   intro σ as ρ
   cases σ with
   | nil=>rfl
   | cons s r=>exact ih r as ρ
 exact key k ρ as ρ
theorem Zpa (u:Unit):aap as ρ u=(as ρ).bind (iZ .pen):=rfl
theorem ZoO:aG f as ρ=(as ρ).bind f:=rfl
noncomputable def re1 (r:Re):Tr PyData:=.ret r.val
theorem Zm9:aH f ρ=(f ρ).bind re1:=rfl
theorem Zm8 (r:Re):re1 r=.ret r.val:=rfl
theorem ZoC {as:zd} (h:as.length=n):bo n k s as=(s (as++List.replicate k .un)).bind mT:=by
 unfold bo
 rw [if_pos (decide_eq_true h)]
theorem Zos:mT (.next ρ)=.ret (.d .none):=rfl
theorem Zor (r:Re):mT (.ret r)=.ret r:=rfl
noncomputable def lx (t:yW):Ou->Tr Ou
 | .next ρ=>t ρ
 | o=>.ret o
theorem ZmF:ap s t ρ=(s ρ).bind (lx t):=by
 unfold ap
 refine congrArg (Tr.bind (s ρ)) (funext λo=>?_)
 cases o <;> rfl
theorem ZmC:lx t (.next ρ)=t ρ:=rfl
theorem ZmB (r:Re):lx t (.ret r)=.ret (.ret r):=rfl
theorem ZmE:lx t (.brk ρ)=.ret (.brk ρ):=rfl
theorem ZmD:lx t (.cont ρ)=.ret (.cont ρ):=rfl
theorem Zmw:bQ ρ=.ret (.next ρ):=rfl
noncomputable def ug (s t:yW) (ρ:zd) (b:Bool):Tr Ou:=if b=true then s ρ else t ρ
theorem Zn5:b7 p s t ρ=(p ρ).bind (ug s t ρ):=rfl
theorem Zn3:ug s t ρ true=s ρ:=rfl
theorem Zn4:ug s t ρ false=t ρ:=rfl
noncomputable def Zbn (x:PyData):Tr Ou:=.ret (.ret (.d x))
theorem Zm7:bb i ρ=(i ρ).bind Zbn:=rfl
theorem Zm6:Zbn x=.ret (.ret (.d x)):=rfl
noncomputable def Zbm (xs:y6):Tr Ou:=.ret (.ret (.own xs))
theorem Zm5:qF is ρ=(is ρ).bind Zbm:=rfl
theorem Zm4:Zbm xs=.ret (.ret (.own xs)):=rfl
noncomputable def Zbl (r:Re):Tr Ou:=.ret (.ret r)
theorem Zm3:vg f ρ=(f ρ).bind Zbl:=rfl
theorem Zm2 (r:Re):Zbl r=.ret (.ret r):=rfl
theorem Zm1:fy 0 (.d x::ρ)=.ret (.ret (.d x)):=rfl
theorem Zm0:fy 0 (.own xs::ρ)=.ret (.ret (.own xs)):=rfl
theorem ZmZ:fy (k+1) (sl::ρ)=fy k ρ:=rfl
noncomputable def nP (k:Nat) (ρ:zd) (x:PyData):Tr Ou:=.ret (.next (ρ.set k (.d x)))
theorem ZmA:aX k i ρ=(i ρ).bind (nP k ρ):=rfl
theorem Zmz:nP k ρ x=.ret (.next (ρ.set k (.d x))):=rfl
noncomputable def Zba (k:Nat) (ρ:zd) (x:y6):Tr Ou:=.ret (.next (ρ.set k (.own x)))
theorem Zmy:i0 k is ρ=(is ρ).bind (Zba k ρ):=rfl
theorem Zmx:Zba k ρ xs=.ret (.next (ρ.set k (.own xs))):=rfl
theorem Zkb {α:Type} {a b:α} {r:List α}:(a::r).set 0 b=b::r:=rfl
theorem Zka {α:Type} {a b:α} {r:List α}:(a::r).set (k+1) b=a::r.set k b:=rfl
noncomputable def uU (g:y3) (k:Nat) (ρ:zd) (x y:PyData):Tr Ou:=(az g x y).bind (nP k ρ)
noncomputable def ZeN (g:y3) (k:Nat) (i:yT) (ρ:zd) (x:PyData):Tr Ou:=(i ρ).bind (uU g k ρ x)
theorem ZoT {g:y3}:nr g k i ρ=(aa k ρ).bind (ZeN g k i ρ):=rfl
theorem ZoS {g:y3}:ZeN g k i ρ x=(i ρ).bind (uU g k ρ x):=rfl
theorem ZoR {g:y3}:uU g k ρ x y=(az g x y).bind (nP k ρ):=rfl
theorem Zod (m n:Int):az p6 (.int m) (.int n)=.ret (.int (m+n)):=rfl
theorem Zn2 {m n:Int} (h1:fit m=true) (h2:fit n=true):az mP (.int m) (.int n)=.ret (.int (m * n)):=by
 simp [az,mP,h1,h2]
noncomputable def jr:Nat->List Sl->Tr y6
 | 0,.own xs::_=>.ret xs
 | k+1,_::ρ=>jr k ρ
 | _,_=>.fail
theorem Zni:jr 0 (.own xs::ρ)=.ret xs:=rfl
theorem Znh:jr (k+1) (sl::ρ)=jr k ρ:=rfl
theorem sW {β:Type} {g:List PyData->Tr β}:∀ (k:Nat) (σ:zd),(match σ[k]? with | some (Sl.own xs)=>g xs | _=>Tr.fail)=(jr k σ).bind g
 | 0,[]=>rfl
 | 0,s::r=>by cases s <;> rfl
 | k+1,[]=>rfl
 | k+1,s::r=>sW k r
noncomputable def qx (k:Nat) (ρ:zd) (xs:y6) (x:PyData):Tr Ou:=if small (xs.length+1)=true then .ret (.next (ρ.set k (.own (xs++[x])))) else .fail
noncomputable def Ze3 (k:Nat) (i:yT) (ρ:zd) (xs:y6):Tr Ou:=(i ρ).bind (qx k ρ xs)
theorem ZoY:gI k i ρ=(jr k ρ).bind (Ze3 k i ρ):=sW k ρ
theorem ZoX:Ze3 k i ρ xs=(i ρ).bind (qx k ρ xs):=rfl
theorem ZoW (h:small (xs.length+1)=true):qx k ρ xs x=.ret (.next (ρ.set k (.own (xs++[x])))):=by unfold qx; rw [if_pos h]
noncomputable def Zbk (k:Nat) (ρ:zd) (xs:y6):Tr Ou:=.ret (.next (ρ.set k (.own xs.reverse)))
theorem ZmY:kX k ρ=(jr k ρ).bind (Zbk k ρ):=sW k ρ
theorem ZmX:Zbk k ρ xs=.ret (.next (ρ.set k (.own xs.reverse))):=rfl
theorem Zoe:jM k s ρ=s (fz k ρ):=rfl
theorem Zlu:fz 0 (.own xs::ρ)=.d (.list xs)::ρ:=rfl
theorem Zlv:fz 0 (.d x::ρ)=.d x::ρ:=rfl
theorem Zlt:fz 0 (.pen::ρ)=.pen::ρ:=rfl
theorem Zls:fz 0 (.un::ρ)=.un::ρ:=rfl
theorem Zlw:fz (k+1) (sl::ρ)=sl::fz k ρ:=by
 unfold fz
 rw [List.getElem?_cons_succ]
 cases h:ρ[k]? with
 | none=>rfl
 | some s=>cases s <;> rfl
noncomputable def tq (ρ:zd):Tr Ou:=.ret (.next ρ)
noncomputable def ZeX (g:yZ) (ρ:zd) (x:PyData):Tr Ou:=(Tr.of (g x ρ)).bind tq
theorem ZoV {g:yZ}:i7 g i ρ=(i ρ).bind (ZeX g ρ):=rfl
theorem ZoU {g:yZ}:ZeX g ρ x=(Tr.of (g x ρ)).bind tq:=rfl
theorem Znp:tq ρ=.ret (.next ρ):=rfl
theorem Zld:aw k x ρ=some (ρ.set k (.d x)):=rfl
theorem Zlb {gs:yY}:cY gs (.tuple xs) ρ=gs xs ρ:=rfl
theorem Zle:cO [] ρ=some ρ:=rfl
theorem Zlf {g:yZ} {gs:yY}:bB g gs (x::xs) ρ=(g x ρ).bind (gs xs):=rfl
theorem Zlc {α β:Type} {a:α} {g:α->Option β}:(some a).bind g=g a:=rfl
noncomputable def Zcf (k n:Nat) (ρ:zd):List PyData->Tr Ou
 | [x,y]=>.ret (.next ((ρ.set k (.d x)).set n (.d y)))
 | _=>.fail
theorem Znd:kY k n is ρ=(is ρ).bind (Zcf k n ρ):=by
 unfold kY
 refine congrArg (Tr.bind (is ρ)) (funext λxs=>?_)
 match xs with
 | []=>rfl
 | [_]=>rfl
 | [_,_]=>rfl
 | _::_::_::_=>rfl
theorem Znc:Zcf k n ρ [x,y]=.ret (.next ((ρ.set k (.d x)).set n (.d y))):=rfl
noncomputable def gw (x:PyData):Tr y6:=Tr.of (gv x)
theorem ZnV:k7 i ρ=(i ρ).bind gw:=rfl
theorem ZnU:gw (.list xs)=.ret xs:=rfl
theorem ZnT:gw (.tuple xs)=.ret xs:=rfl
noncomputable def gR (xs:y6):Tr y6:=Tr.of (lX xs)
noncomputable def oF (xs:y6):Tr y6:=Tr.of (lW xs)
theorem ZmT:i6 is ρ=(is ρ).bind gR:=rfl
theorem jE {n:Int} (h1:-1000000000000<=n) (h2:n<=1000000000000):fP n=true:=decide_eq_true (by omega)
theorem kJ {n:Int} (h:fP n=true):gR [.int n]=.ret (bp 0 n):=by
 simp [gR,lX,h]
theorem ZmU {m n:Int} (h1:fP m=true) (h2:fP n=true):oF [.int m,.int n]=.ret (bp m n):=by
 simp [oF,lW,h1,h2]
noncomputable def uz (xs:y6):Tr y6:=.ret (ft xs)
noncomputable def Zdu (x:PyData):Tr y6:=(gw x).bind uz
theorem Zow:vm i ρ=(i ρ).bind Zdu:=rfl
theorem Zoy:Zdu x=(gw x).bind uz:=rfl
theorem Zox:uz xs=.ret (ft xs):=rfl
noncomputable def Zdf (g:yZ) (s:yW) (ρ:zd) (xs:y6):Tr Ou:=ce g s xs ρ
theorem Zol {g:yZ}:fY is g s ρ=(is ρ).bind (Zdf g s ρ):=rfl
theorem Zok {g:yZ}:Zdf g s ρ xs=ce g s xs ρ:=rfl
noncomputable def jG (g:yZ) (s:yW) (xs:y6):Ou->Tr Ou
 | .next ρ=>ce g s xs ρ
 | .cont ρ=>ce g s xs ρ
 | .brk ρ=>.ret (.next ρ)
 | .ret r=>.ret (.ret r)
noncomputable def mR (g:yZ) (s:yW) (xs:y6) (ρ:zd):Tr Ou:=(s ρ).bind (jG g s xs)
theorem ZlA {g:yZ}:ce g s [] ρ=.ret (.next ρ):=rfl
theorem qb {g:yZ}:ce g s (x::xs) ρ=(Tr.of (g x ρ)).bind (mR g s xs):=by
 rw [ce]
 refine congrArg (Tr.bind (Tr.of (g x ρ))) (funext λρ1=>?_)
 unfold mR
 refine congrArg (Tr.bind (s ρ1)) (funext λo=>?_)
 cases o <;> rfl
theorem Zoj {g:yZ}:mR g s xs ρ=(s ρ).bind (jG g s xs):=rfl
theorem mW {g:yZ}:jG g s xs (.next ρ)=ce g s xs ρ:=rfl
theorem Zoh {g:yZ}:jG g s xs (.cont ρ)=ce g s xs ρ:=rfl
theorem Zoi {g:yZ}:jG g s xs (.brk ρ)=.ret (.next ρ):=rfl
theorem Zog {g:yZ} (r:Re):jG g s xs (.ret r)=.ret (.ret r):=rfl
noncomputable def bT (g:yZ) (el:yT) (τ:zd) (x:PyData):Tr PyData:=(Tr.of (g x τ)).bind el
noncomputable def tW (n:Nat) (ix:List Nat) (g:yZ) (el:yT) (ρ:zd) (xs:y6):Tr y6:=if small xs.length=true then bH (bT g el (blk n ix ρ)) xs else .fail
theorem ZnN {ix:List Nat} {g:yZ}:cI is n ix g i ρ=(is ρ).bind (tW n ix g i ρ):=rfl
theorem ZnM {ix:List Nat} {g:yZ} (h:small xs.length=true):tW n ix g i ρ xs=bH (bT g i (blk n ix ρ)) xs:=by unfold tW; rw [if_pos h]
theorem ZnL {τ:zd} {g:yZ}:bT g i τ x=(Tr.of (g x τ)).bind i:=rfl
theorem ZcB {h:PyData->Tr PyData} {n:Nat} {P:PyData->Prop}:∀ {xs:y6},(∀ x∈xs,(h x).all n P)->(bH h xs).all (xs.length * n) λys=>ys.length=xs.length/\∀ y∈ys,P y
 | [],_=>⟨rfl,λy hy=>by cases hy⟩
 | x::xs,hx=>by
  have e:(x::xs).length * n=n+(xs.length * n+0):=by rw [vN,xl]; omega
  rw [e,bH]
  refine Tr.all_bind (hx x (by simp)) λy hy=>Tr.all_bind (ZcB λz hz=>hx z (vC _ hz)) λys hys=>?_
  exact ⟨by simp [hys.1],λz hz=>by
   rcases vD.mp hz with rfl | hz
   ·exact hy
   ·exact hys.2 z hz⟩
theorem Zde {g:yZ} {n:Nat} (I:List PyData->List Sl->Prop) {Q:Ou->Prop} :
  ∀ {xs pre:y6} {ρ:zd},I pre ρ->(∀ pre x post ρ,pre++x::post=pre++x::post->I pre ρ->x∈xs->∃ ρ1,g x ρ=some ρ1/\(s ρ1).all n λo=>∃ ρ2,o=.next ρ2/\I (pre++[x]) ρ2)->(∀ ρ,I (pre++xs) ρ->Q (.next ρ))->(ce g s xs ρ).all (xs.length * n) Q
 | [],pre,ρ,h0,_,hq=>hq ρ (by rw [v7]; exact h0)
 | x::xs,pre,ρ,h0,ht,hq=>by
  obtain ⟨ρ1,e,ha⟩:=ht pre x xs ρ rfl h0 (by simp)
  have en:(x::xs).length * n=n+xs.length * n:=by rw [vN,xl]; omega
  rw [en,qb,e,Tr.of_some,Tr.ret_bind]
  unfold mR
  refine Tr.all_bind ha λo ⟨ρ2,eo,h2⟩=>?_
  subst eo
  rw [mW]
  exact Zde I h2 (λpre y post ρ e h hy=>ht pre y post ρ e h (vC _ hy)) (λρ h=>hq ρ (by rw [ww] at h; exact h))
theorem ZpT {α:Type} {w:Int} {k:Int->Tr α} {n:Nat} {P:α->Prop} (h1:0 < w) (h2:w < 1073741824) (h:∀ r,0<=r->r < w->(k r).all n P):(Tr.draw w k).all (n+1) P:=⟨h1,h2,h⟩
noncomputable def tK (y:PyData) (ys:y6):Tr y6:=.ret (y::ys)
noncomputable def mt1 (h:PyData->Tr PyData) (xs:y6) (y:PyData):Tr y6:=(bH h xs).bind (tK y)
theorem ZjW {h:PyData->Tr PyData}:bH h []=.ret []:=rfl
theorem ZjX {h:PyData->Tr PyData} {x:PyData} {xs:y6}:bH h (x::xs)=(h x).bind (mt1 h xs):=rfl
theorem ZjZ {h:PyData->Tr PyData} {y:PyData} {xs:y6}:mt1 h xs y=(bH h xs).bind (tK y):=rfl
theorem ZjY {y:PyData} {ys:y6}:tK y ys=.ret (y::ys):=rfl
theorem pick {α:Type} {xs:List α} {r:Int} (h0:0<=r) (h1:r < xs.length):∃ v,br xs r=some v/\v∈xs:=by
 have h:r.toNat < xs.length:=by omega
 exact ⟨xs[r.toNat],na h0 (by simp [h]),yx h⟩
theorem Zke {α:Type} {xs:List α} (h:xs.length=7):∃ a b c d e f g,xs=[a,b,c,d,e,f,g]:=by
 rcases xs with _ | ⟨a,_ | ⟨b,_ | ⟨c,_ | ⟨d,_ | ⟨e,_ | ⟨f,_ | ⟨g,_ | ⟨k,xs⟩⟩⟩⟩⟩⟩⟩⟩
 ·cases h
 ·cases h
 ·cases h
 ·cases h
 ·cases h
 ·cases h
 ·cases h
 ·exact ⟨a,b,c,d,e,f,g,rfl⟩
 ·exact absurd h (by simp)
end L2
namespace L2
@[irreducible] noncomputable def Al {α:Type} (t:Tr α) (n:Nat) (P:α->Prop):Prop:=t.all n P
section
variable {α β:Type} {t:Tr α} {n n' N:Nat} {P:α->Prop} {P':β->Prop}
theorem Al.of (h:t.all n P):Al t n P:=by unfold Al; exact h
theorem Al.out (h:Al t n P):t.all n P:=by unfold Al at h; exact h
theorem cj {a:α} (h:P a):Al (.ret a) n P:=.of h
theorem b6 {w:Int} {k:Int->Tr α} (h1:0 < w) (h2:w < 1073741824) (hN:n+1<=N) (h:∀ r,0<=r->r < w->Al (k r) n P):Al (.draw w k) N P:=.of (Tr.all_mono (ZpT h1 h2 λr a b=>(h r a b).out) hN λ_ h=>h)
theorem dW {f:α->Tr β} (h:Al t n P) (hN:n+n'<=N) (hf:∀ a,P a->Al (f a) n' P'):Al (t.bind f) N P':=.of (Tr.all_mono (Tr.all_bind h.out λa ha=>(hf a ha).out) hN λ_ h=>h)
theorem u6 {Q:α->Prop} (h:Al t n P) (hN:n<=N) (hq:∀ a,P a->Q a):Al t N Q:=.of (Tr.all_mono h.out hN hq)
theorem u7 {g:yZ} {s:yW} {xs:y6} {ρ:zd} {Q:Ou->Prop} (I:List Sl->Prop) (h0:I ρ) (hN:xs.length * n<=N) (ht:∀ x ρ,x∈xs->I ρ->∃ ρ1,g x ρ=some ρ1/\Al (s ρ1) n λo=>∃ ρ2,o=.next ρ2/\I ρ2) (hq:∀ ρ,I ρ->Q (.next ρ)):Al (ce g s xs ρ) N Q :=
 .of (Tr.all_mono (Zde (λ_ ρ=>I ρ) (pre:=[]) h0 (λpre x post ρ _ h hx=>let ⟨ρ1,e,a⟩:=ht x ρ hx h; ⟨ρ1,e,a.out⟩) λρ h=>hq ρ h) hN λ_ h=>h)
theorem qz {h:PyData->Tr PyData} {P:PyData->Prop} {xs:y6} {Q:List PyData->Prop} (hN:xs.length * n<=N) (hx:∀ x∈xs,Al (h x) n P) (hq:∀ ys,ys.length=xs.length->(∀ y∈ys,P y)->Q ys):Al (bH h xs) N Q :=
 .of (Tr.all_mono (ZcB λx m=>(hx x m).out) hN λys ⟨a,b⟩=>hq ys a b)
end
def mM (lo hi:Int) (x:PyData):Prop:=∃ z:Int,x=.int z/\lo<=z/\z<=hi
theorem Zc0 {lo hi:Int}:∀ {xs:y6},(∀ x∈xs,mM lo hi x)->∃ ns:y8,xs=ns.map PyData.int/\∀ n∈ns,lo<=n/\n<=hi
 | [],_=>⟨[],rfl,λn hn=>by cases hn⟩
 | x::xs,h=>by
  obtain ⟨ns,e,hn⟩:=Zc0 (xs:=xs) λy hy=>h y (vC _ hy)
  obtain ⟨z,rfl,h1,h2⟩:=h x (by simp)
  exact ⟨z::ns,by rw [e]; rfl,λn hn'=>by
   rcases vD.mp hn' with rfl | hn'
   ·exact ⟨h1,h2⟩
   ·exact hn n hn'⟩
theorem cF {lo hi:Int}:(bp lo hi).length=(hi - lo).toNat:=by unfold bp; rw [vB,ir]
theorem Zb4 {xs:y6} {lo hi r:Int} (h:∀ x∈xs,mM lo hi x) (h0:0<=r) (h1:r < xs.length):∃ z:Int,br xs r=some (.int z)/\lo<=z/\z<=hi:=by
 obtain ⟨v,e,m⟩:=pick h0 h1
 obtain ⟨z,rfl,a,b⟩:=h v m
 exact ⟨z,e,a,b⟩
end L2
namespace L2
variable {PK:Pk} {X:Cx} {a b c e:Expr} {es:List Expr} {pos:Pos} {i j l:yT} {is:yU} {p q:yV} {st:Stmt}
variable {PK:Pk} {X:Cx} {a b c e:Expr} {es:List Expr} {pos:Pos} {i j l:yT} {as:List Sl->Tr zd}
variable {ρ:zd} {k:Nat} {xs:y6} {x:PyData} {sl:Sl} {f:yX}
theorem ZqM {prog:Program} {w:World} {A:Around} {R:Result->Shared->Prop} {s:Shared} {elt target iter cnd:Expr} {scope:Scope} {pos:Pos} {it acc:Value} {env:Env} (J:Nat->Shared->Prop)
  (step:∀ k s0,J k s0->wpAny (model prog w) A (pyNext it) (λgot s1=>match got with
   | none=>R (.ok .next) s1
   | some v=>wpAny (model prog w) A (letOwnedTupleGo target it v) (λ_ s2=>wpAny (model prog w) A (assign target env v) (λ_ s3=>wpAny (model prog w) A (isTrue cnd env (eval cnd env)) (λok s3'=>if ok=true then wpAny (model prog w) A (eval elt env) (λy s4 =>
     wpAny (model prog w) A (call (.builtin "list.append") [acc,y]) (λ_ s5=>∃ j,j < k/\J j s5) (λ_ _=>False) s4) (λ_ _=>False) s3' else ∃ j,j < k/\J j s3') (λ_ _=>False) s3) (λ_ _=>False) s2) (λ_ _=>False) s1) (λ_ _=>False) s0)
  (k:Nat) (h:J k s):codeAny (model prog w) A (.compLoop (.ListComp elt [⟨target,iter,[cnd],0⟩] scope pos) 0 it acc env) R s:=by
 refine codeAny_loop rfl J (λk0 s0 hJ=>?_) k h
 show wpAny _ _ ((compTurn (.ListComp elt [⟨target,iter,[cnd],0⟩] scope pos) 0 it acc env).onRaise (λx=>do noteFrame x env; theTreesLotGoes x)) _ _ s0
 apply wpAny_noted
 rw [compTurn_list]
 refine wpAny_bind (wpAny_standAt (wpAny_bind (wpAny_mono (step k0 s0 hJ) (λgot s1 h1=>?_) λ_ _ z=>z.elim)))
 cases got with
 | none=>exact wpAny_pure h1
 | some v =>
  refine wpAny_bind (wpAny_mono h1 (λ_ s2 h2=>?_) λ_ _ z=>z.elim)
  refine wpAny_bind (wpAny_mono h2 (λ_ s3 h3=>?_) λ_ _ z=>z.elim)
  refine wpAny_bind (wpAny_mono (wpAny_tests_one h3) (λok s3' h3'=>?_) λ_ _ z=>z.elim)
  cases ok with
  | false=>exact wpAny_pure ⟨rfl,h3'⟩
  | true =>
   refine wpAny_bind (wpAny_bind (wpAny_mono h3' (λy s4 h4=>?_) λ_ _ z=>z.elim))
   exact wpAny_bind (wpAny_mono h4 (λ_ s5 h5=>wpAny_pure (wpAny_pure ⟨rfl,h5⟩)) λ_ _ z=>z.elim)
def rJ (wi:TI) (n:Nat) (ix:List Nat) (g:Blk->TG) (tc:Blk->TT) (te:Blk->TE):TE:=λσ H Q=>wi σ H λJ H1=>∀ b:Blk,∃ W:Nat->Nat->St->List V->Hp->Prop,(∃ m,W 0 m (dc n ix σ) [] H1)/\∀ i m τ ys H2,W i m τ ys H2 ->
 (J.stop i H2/\∀ p v H',H2 p=none->v=V.ref p->H'=upd H2 p (.lst ys)->Q v H') \/
 (J.go i H2/\ys.length < sizeLine/\∀ x H3,J.yld i H2 x H3->g b x τ H3 λτ2 H4=>tc b τ2 H4 λok H4'=>if ok=true then te b τ2 H4' λy H5=>∃ m',m' < m/\W (i+1) m' τ2 (ys++[y]) H5 else ∃ m',m' < m/\W (i+1) m' τ2 ys H4')
section
variable {X:Cx} {pins:List (Addr×Obj)} {σ:St} {H:Hp} {s:Shared}
theorem Zks {elt target iter cnd:Expr} {scope:Scope} {pos:Pos} {Nx ts:za} {ix:List Nat} {g:Blk->TG} {tc:Blk->TT} {te:Blk->TE} {cl:List (Str×Addr)} {s2:Shared} {itv:Value} {R:Value->Addr->Result->Shared->Prop}
  {E:y4} {Q:VK}
  (hc:X.calm=true) (hg:∀ b,PG (ba X (bN Nx ts ix) scope b) target (g b)) (hcn:∀ b,PT (ba X (bN Nx ts ix) scope b) cnd (tc b)) (he:∀ b,PE (ba X (bN Nx ts ix) scope b) elt (te b))
  (hNx:X.N=Nx) (ok:BlkOk Nx X.env.scope scope ix) (cl1:∀ x c,cl.lookup x=some c->X.env.cells.lookup x=some c) (cl2:∀ y∈scope.names,y.2=.free->∃ c,cl.lookup y.1=some c)
  (h2:la X pins σ target (λJ H1=>∀ b:Blk,∃ W:Nat->Nat->St->List V->Hp->Prop,(∃ m,W 0 m (dc ts.length ix σ) [] H1)/\∀ i m τ ys H2,W i m τ ys H2 ->
   (J.stop i H2/\∀ p v H',H2 p=none->v=V.ref p->H'=upd H2 p (.lst ys)->Q v H') \/
   (J.go i H2/\ys.length < sizeLine/\∀ x H3,J.yld i H2 x H3->g b x τ H3 λτ2 H4=>tc b τ2 H4 λok H4'=>if ok=true then te b τ2 H4' λy H5=>∃ m',m' < m/\W (i+1) m' τ2 (ys++[y]) H5 else ∃ m',m' < m/\W (i+1) m' τ2 ys H4')) itv s2)
  (hR:∀ (D C:Addr) (H':Hp) (s':Shared) (v:V),Inv X pins σ H' s'->v=.ref D->Q v H'->(∃ m,s'.heap.Ns C m)->H' C=none->C≠X.env.locals->X.s₀.heap.objs.size<=C->(∀ x c,X.env.cells.lookup x=some c->c≠C)->(∀ p∈X.pn++pins,p.1≠C) ->
   R (.ref D) C (.ok .next) s') :
  wpAny (model X.prog X.w) X.A (newList []) (λacc s₃=>wpAny (model X.prog X.w) X.A (newFunctionEnv scope X.env.globals cl [] X.env.qual none .none (some X.env)) (λcenv s₄ =>
   codeAny (model X.prog X.w) X.A (.compStart (.ListComp elt [⟨target,iter,[cnd],0⟩] scope pos) 0 itv acc { cenv with scope:=relabel scope X.env }) (R acc cenv.locals) s₄) E s₃) E s2:=by
 obtain ⟨it,fp,tn,J,H1,e,I2,T,st2,f2,q2⟩:=h2
 subst e
 refine wpAny_newObj_type (rp ?_)
 dsimp only
 generalize hG:s2.heap.push { cls:=.type "list",dict:=none,data:=.seq ([]:y9).toArray }=G
 have hGs:G.objs.size=s2.heap.objs.size+1:=by rw [<- hG,wF]
 have hfs:∀ b∈fp,b < s2.heap.objs.size:=λb hb=>let ⟨o,e,_⟩:=T.obj _ _ st2 b hb; vM e
 have kpG:∀ b o,G.get? b=some o->(pushCells (G.push { cls:=.type "dict",data:=.dict #[] }) scope.names).get? b=some o:=λb o e=>pushCells_keeps _ _ _ _ (vA _ e)
 have hns3:(pushCells (G.push { cls:=.type "dict",data:=.dict #[] }) scope.names).Ns G.objs.size (λ_=>none):=(Heap.Ns.new G (.type "dict")).keeps (pushCells_keeps _ _)
 obtain ⟨sp1,sp2,sp4,sp3⟩:=uO scope.names (G.push { cls:=.type "dict",data:=.dict #[] }) cl
 rw [wF] at sp1 sp2 sp3 sp4
 generalize hh3:pushCells (G.push { cls:=.type "dict",data:=.dict #[] }) scope.names=h3 at kpG hns3 sp1 ⊢
 have kp:∀ b o,s2.heap.get? b=some o->h3.get? b=some o:=λb o e=>kpG b o (by rw [<- hG]; exact vA _ e)
 have hD3:h3.get? s2.heap.objs.size=some { cls:=.type "list",data:=.seq ([]:y9).toArray }:=kpG _ _ (by rw [<- hG]; exact vI _ rfl)
 have clB:∀ x c,cl.lookup x=some c->c < G.objs.size+1:=λx c e=>by
  obtain ⟨v,q⟩:=I2.cell x c (cl1 x c e)
  exact xx (vE q.lt (by rw [hGs]; exact Nat.le_succ _))
 have csI:=sp3 clB λx y c e1 e2=>I2.ok.inj x y c (cl1 x c e1) (cl1 y c e2)
 have cs1:∀ x c,(cellsFrom (G.objs.size+1) scope.names cl).lookup x=some c->X.env.cells.lookup x=some c\/(G.objs.size < c/\h3.IsCell c none/\(x,NameKind.cell)∈scope.names):=λx c e=>by
  rcases sp1 x c e with z | ⟨z1,z2,z3⟩
  ·exact .inl (cl1 x c z)
  ·exact .inr ⟨by omega,z2,z3⟩
 have cs2:∀ y∈scope.names,(y.2=.free\/y.2=.cell)->∃ c,(cellsFrom (G.objs.size+1) scope.names cl).lookup y.1=some c:=λy hy hk=>by
  refine sp2 y.1 ?_
  rcases hk with z | z
  ·exact .inr (cl2 y hy z)
  ·exact .inl (by rw [<- z]; exact hy)
 have csA:∀ x c,(x,NameKind.cell)∈scope.names->(cellsFrom (G.objs.size+1) scope.names cl).lookup x=some c->G.objs.size<=c:=λx c e1 e2=>xy (sp4 x c e1 e2)
 generalize hcs:cellsFrom (G.objs.size+1) scope.names cl=cs at csI cs1 cs2 csA ⊢
 generalize hCe:G.objs.size=C at hns3 cs1 csA ⊢
 have hC:s2.heap.objs.size<=C:=by omega
 have hDC:s2.heap.objs.size≠C:=by omega
 let B:Blk:=⟨cs,C,s2,H1,fp,X.pn++pins⟩
 have I3:Inv (ba X (bN Nx ts ix) scope B) [] (dc ts.length ix σ) H1 { s2 with heap:=h3 }:=ue I2 hNx ok cs1 csI cs2 csA f2 hfs hC kp hns3
 have fC:H1 s2.heap.objs.size=none:=I2.hok.fresh (vF _)
 have cellIn:∀ x c,cs.lookup x=some c->c≠s2.heap.objs.size:=λx c e=>by
  rcases cs1 x c e with z | ⟨z,_,_⟩
  ·obtain ⟨v,q⟩:=I2.cell x c z
   exact vR q.lt
  ·exact wq (wM hC z)
 have pinIn:∀ p∈X.pn++pins,p.1 < s2.heap.objs.size:=λp hp=>vM (I2.pin p hp).1
 have nofrs:s2.heap.objs.size ∉ frs X.stack:=λhb=>by
  rcases vD.mp (I2.stkSub _ hb) with z | z
  ·exact absurd I2.lt (by rw [<- z]; exact vU _)
  ·exact I2.nofs (vF _) z
 -- a state with the list at its place,pinned
 have pinD:∀ {τ:St} {H':Hp} {s':Shared} {ob:Obj},Inv (ba X (bN Nx ts ix) scope B) [] τ H' s'->s'.heap.get? s2.heap.objs.size=some ob->H' s2.heap.objs.size=none->(∀ v,ob.data≠.cell v)->Inv (ba X (bN Nx ts ix) scope B) [(s2.heap.objs.size,ob)] τ H' s' :=
  λ{τ H' s' ob} I' ho hn hd=>I'.pins_of λp hp=>by
   have e:p=(s2.heap.objs.size,ob):=by simpa using hp
   subst e
   exact ⟨ho,hn,hDC,nofrs,hd⟩
 obtain ⟨W,⟨m0,w0⟩,turn⟩:=q2 B
 have stat:∀ {H':Hp} {ob:Obj},(∀ b∈fp,H' b=none)->∀ b∈fp,fB (ba X (bN Nx ts ix) scope B) [(s2.heap.objs.size,ob)] H' b:=λ{H' ob} hn b hb=>by
  refine ⟨hn b hb,vR (vE (hfs b hb) hC),λz=>?_,.inl hb,λx c e=>by
   rcases cs1 x c e with z | ⟨z,_,_⟩
   ·exact (f2 b hb).2.2.2.2.1 x c z
   ·exact wq (vE (hfs b hb) (vO hC (xm z))),λp hp=>?_⟩
  ·rcases vD.mp (I2.stkSub _ z) with q | q
   ·exact (f2 b hb).2.1 q
   ·exact (f2 b hb).2.2.1 q
  ·rcases wE.mp hp with z | z
   ·exact (f2 b hb).2.2.2.2.2 p z
   ·have e:p=(s2.heap.objs.size,ob):=by simpa using z
    subst e
    exact wq (hfs b hb)
 have loop:∀ s4:Shared,s4={ s2 with heap:=h3 } ->
   codeAny (model X.prog X.w) X.A (.compLoop (.ListComp elt [⟨target,iter,[cnd],0⟩] scope pos) 0 (.ref it) (.ref s2.heap.objs.size) (compEnvC scope cs C X.env)) (R (.ref s2.heap.objs.size) C) s4:=by
  rintro s4 rfl
  refine ZqM (λk s'=>∃ i τ ys its n H',Inv (ba X (bN Nx ts ix) scope B) [(s2.heap.objs.size,({ cls:=.type "list",data:=.seq (List.toArray its) n }:Obj))] τ H' s'/\tn i s'.heap/\(∀ b∈fp,H' b=none)/\Vals ys its/\ys.length<=sizeLine/\W i k τ ys H') ?_ m0
   ⟨0,_,[],[],_,H1,pinD I3 hD3 fC (λv z=>by cases z),T.keep _ _ _ st2 λb hb o e=>kp b o e,λb hb=>(f2 b hb).1,.nil,wN _,w0⟩
  rintro k s5 ⟨i,τ,ys,its,n,H5,I5,st5,fr5,rv,hz,w5⟩
  rcases turn i k τ ys H5 w5 with ⟨stop,qn⟩ | ⟨go,hlt,step⟩
  ·refine thn (T.done (ba X (bN Nx ts ix) scope B) rfl rfl rfl hc i _ s5 τ H5 _ I5 (stat fr5) st5 stop) λgot s6 hz0=>?_
   obtain ⟨hr,I6⟩:=hz0
   subst hr
   obtain ⟨ho,hn,_,_,_⟩:=I6.pin (s2.heap.objs.size,({ cls:=.type "list",data:=.seq (List.toArray its) n }:Obj)) (vJ _ (by simp))
   have I7:Inv X pins σ H5 s6:=I2.call' (ch:=fp) (H':=H5) (by exact I6.os) I6.base I6.hok I6.bare λb hb=>⟨(f2 b hb).2.2.2.1,(f2 b hb).2.1,(f2 b hb).2.2.2.2.1,(f2 b hb).2.2.2.2.2⟩
   have hs0:X.s₀.heap.objs.size<=s2.heap.objs.size:=I2.sz
   have I8:=I7.track hn ho rv hz (wq I2.lt) hs0 (λx c e z=>by
    obtain ⟨v,q⟩:=I2.cell x c e
    exact absurd q.lt (by rw [z]; exact vU _)) (λp hp=>vR (pinIn p hp))
   obtain ⟨m6,hm6,_⟩:=I6.loc
   refine hR _ C _ s6 _ I8 rfl (qn _ _ _ hn rfl rfl) ⟨m6,hm6⟩ ?_ (λz=>?_) (vO hs0 hC) (λx c e z=>?_) λp hp=>vR (vE (pinIn p hp) hC)
   ·rw [aK (Ne.symm hDC)]
    exact I6.free
   ·exact absurd (vE I2.lt hC) (by rw [z]; exact vU _)
   ·obtain ⟨v,q⟩:=I2.cell x c e
    exact absurd (vE q.lt hC) (by rw [z]; exact vU _)
  ·refine thn (T.item (ba X (bN Nx ts ix) scope B) rfl rfl rfl hc i _ s5 τ H5 _ I5 (stat fr5) st5 go) λgot s6 hz0=>?_
   obtain ⟨u,hr,h6⟩:=hz0
   subst hr
   refine thn h6 λ_ s7 hz0=>?_
   obtain ⟨x,H7,I7,r7,y7,st7,fr7⟩:=hz0
   have I7':=I7.pinned (stat fr7) (T.obj _ _ st7)
   refine thn (hg B _ s7 τ H7 x u _ I7' r7 (step x H7 y7)) λ_ s8 hz0=>?_
   obtain ⟨τ8,H8,I8,q8⟩:=hz0
   refine thn (hcn B _ s8 τ8 H8 _ I8 q8) λokk s8' hz0=>?_
   obtain ⟨H8',I8',q8'⟩:=hz0
   cases okk with
   | false =>
    obtain ⟨m',hm',w9⟩:=q8'
    obtain ⟨ho,hn,_,_,_⟩:=I8'.pin (s2.heap.objs.size,({ cls:=.type "list",data:=.seq (List.toArray its) n }:Obj)) (vJ _ (wO _ (by simp)))
    have I9':Inv (ba X (bN Nx ts ix) scope B) [] τ8 H8' s8':=I8'.pins_of λp hp=>absurd hp (by simp)
    refine ⟨m',hm',i+1,τ8,ys,its,n,H8',pinD I9' ho hn (λv z=>by cases z),?_,λb hb=>?_,rv,hz,w9⟩
    ·refine T.keep _ _ _ st7 λb hb o e=>?_
     exact (I8'.pin (b,o) (vJ _ (vJ _ (gq hb e)))).1
    ·obtain ⟨o,e,d⟩:=T.obj _ _ st7 b hb
     exact (I8'.pin (b,o) (vJ _ (vJ _ (gq hb e)))).2.1
   | true =>
   refine thn (he B _ s8' τ8 H8' _ I8' q8') λy s9 hz0=>?_
   obtain ⟨vy,H9,I9,r9,m',hm',w9⟩:=hz0
   obtain ⟨ho,hn,_,_,_⟩:=I9.pin (s2.heap.objs.size,({ cls:=.type "list",data:=.seq (List.toArray its) n }:Obj)) (vJ _ (wO _ (by simp)))
   have lenv:=rv.length
   refine wpAny_list_append_plain (l:=s2.heap.objs.size) ⟨n,ho⟩ (λh' hpl hsb=>?_) (by rw [vK]; omega)
   obtain ⟨n',ho'⟩:=hpl
   have eobj:(its.toArray.push y)=List.toArray (its++[y]):=by simp
   rw [eobj] at ho'
   have I9':Inv (ba X (bN Nx ts ix) scope B) [] τ8 H9 s9:=I9.pins_of λp hp=>absurd hp (by simp)
   have I10:Inv (ba X (bN Nx ts ix) scope B) [] τ8 H9 { s9 with heap:=h' }:=I9'.turned (it:=s2.heap.objs.size) (t':=s9.toks) (λb o hb e=>(hsb.2 b hb).trans e) hn hDC (.inr (vF _)) cellIn (λp hp=>by
    have hp':p∈(X.pn++pins)++[]:=hp
    rw [v7] at hp'
    exact vR (pinIn p hp'))
   refine ⟨m',hm',i+1,τ8,ys++[vy],its++[y],n',H9,pinD I10 ho' hn (λv z=>by cases z),?_,λb hb=>?_,rv.append (.cons r9 .nil),by rw [vW]; show ys.length+1<=_; omega,w9⟩
   ·refine T.keep _ _ _ st7 λb hb o e=>?_
    have q:=(I9.pin (b,o) (vJ _ (vJ _ (gq hb e)))).1
    exact (hsb.2 b (vR (hfs b hb))).trans q
   ·obtain ⟨o,e,d⟩:=T.obj _ _ st7 b hb
    exact (I9.pin (b,o) (vJ _ (vJ _ (gq hb e)))).2.1
 exact codeAny_compStart_list (loop _ rfl) (T.self X.A 0 _ _ _ (T.keep _ _ _ st2 λb hb o e=>kp b o e) (loop _ rfl))
theorem ZiO {elt target iter cnd:Expr} {scope:Scope} {pos:Pos} {wi:TI} {g:Blk->TG} {tc:Blk->TT} {te:Blk->TE} (Nx:za) (ts:za) (ix:List Nat)
  (hc:X.calm=true) (hi:PI X target iter wi) (hg:∀ b,PG (ba X (bN Nx ts ix) scope b) target (g b)) (hcn:∀ b,PT (ba X (bN Nx ts ix) scope b) cnd (tc b)) (he:∀ b,PE (ba X (bN Nx ts ix) scope b) elt (te b))
  (hNx:X.N=Nx) (ok:BlkOk Nx X.env.scope scope ix) (hs:∀ x,foldedSetIterable iter X.env x=pure x:=by intro _; rfl) :
  PE X (.ListComp elt [⟨target,iter,[cnd],0⟩] scope pos) (rJ wi ts.length ix g tc te):=by
 intro pins s σ H Q I h
 obtain ⟨cl,hcl,cl1,cl2⟩:=qp (scope:=scope) (env:=X.env) λy hy hf=>I.ok.has y.1 (ok.frees y hy hf)
 rw [eval_ListComp]
 refine wpAny_comprehension_free (use:=none) rfl hs hcl ok.kind ok.locs (thn (hi pins s σ H _ I h) λv s1 h1=>thn h1 λitv s2 h2=>?_)
 refine Zks (R:=λacc C=>compPost (model X.prog X.w) X.A X.xe none (EP X pins σ Q) acc C) hc hg hcn he hNx ok cl1 cl2 h2 ?_
 rintro D C H' s' v I' rfl q ⟨m,hm⟩ hn hL h0 hcl' hp
 exact ⟨m,hm,λh' hsb=>⟨.ref D,H',I'.turned (it:=C) (t':=s'.toks) (λb o hb e=>(hsb.2 b hb).trans e) hn hL (.inr h0) hcl' hp,rfl,q⟩⟩
end
section
variable {PK:Pk} {X:Cx} {e:Expr} {st:Stmt} {i:yT} {is:yU} {p:yV}
noncomputable def pD (y:Option PyData) (ys:y6):Tr y6:=.ret (match y with
 | some y=>y::ys
 | none=>ys)
noncomputable def fM (h:PyData->Tr (Option PyData)):List PyData->Tr y6
 | []=>.ret []
 | x::xs=>(h x).bind λy=>(fM h xs).bind (pD y)
noncomputable def kE (p:yV) (i:yT) (τ:zd):Tr (Option PyData):=(p τ).bind λok=>if ok=true then (i τ).bind λy=>.ret (some y) else .ret none
noncomputable def qG (is:yU) (n:Nat) (ix:List Nat) (g:yZ) (p:yV) (el:yT):yU:=λρ =>
 (is ρ).bind λxs=>if small xs.length=true then fM (λx=>(Tr.of (g x (blk n ix ρ))).bind (kE p el)) xs else .fail
theorem Zkr {n:Nat} {ix:List Nat} {g:yZ} (hn:gJ n g):∀ σ H Q,ib PK (qG is n ix g p i) σ H Q->rJ (eP PK is) n ix (λ_=>fA PK g) (λ_=>TAt PK p) (λ_=>TAe PK i) σ H Q:=by
 rintro σ H Q ⟨pa,ze,H₀,m,ρ,G,R,z⟩
 refine ⟨pa,ze,H₀,m,ρ,G,R,Tr.ok_mono (Tr.ok_bind.mp z) λm1 xs k J G1 H1 s1 w1 jo=>λB=>?_⟩
 obtain ⟨hs,k⟩:=gp k
 have hs:xs.length<=sizeLine:=of_decide_eq_true hs
 let el:PyData->Tr (Option PyData):=λx=>(Tr.of (g x (blk n ix ρ))).bind (kE p i)
 let W:Nat->Nat->St->List V->Hp->Prop:=λk mm τ ys H2=>mm=xs.length - k/\k<=xs.length/\ys.length<=k/\∃ m G2 ds,Sub G1 G2/\Stp pa G H G2 H2/\Rl PK pa ze H₀ m τ (blk n ix ρ) G2 H2 /\
  DnAll G2 ys ds/\(fM el (xs.drop k)).ok m λm' zs=>Ko1 PK pa m' G H (ds++zs) Q
 refine ⟨W,⟨xs.length,rfl,wN _,vF _,m1,G1,[],.refl,s1,(R.step s1 w1).blk n ix,.nil,k⟩,?_⟩
 rintro k mm τ ys H2 ⟨rfl,hk,hy,m2,G2,ds,sb,st2,R2,dn,k2⟩
 obtain ⟨j1,j2⟩:=jo m2 G2 H2 sb R2.wd
 by_cases hlt:k < xs.length
 ·have hx:xs[k]?=some xs[k]:=by simp [hlt]
  obtain ⟨jg,jy⟩:=j1 k _ hx
  refine .inr ⟨jg,by omega,λx H3 y=>?_⟩
  obtain ⟨G3,s3,w3,d3⟩:=jy x H3 y
  rw [wK hlt] at k2
  unfold fM at k2
  rw [Tr.ok_bind,Tr.ok_bind] at k2
  obtain ⟨ρ3,hg3,k3⟩:=Tr.ok_of k2
  refine ⟨pa,ze,H₀,m2,_,G3,_,ρ3,R2.step s3 w3,d3,hg3,λτ4 R4=>?_⟩
  obtain ⟨pl,pk⟩:=hn _ _ _ hg3
  have hback:∀ (q:Nat) (sl:Sl),(blk n ix ρ)[q]?=some sl->sl=.un\/ρ3[q]?=some sl:=λq sl hq=>by
   by_cases hqn:q < n
   ·left
    unfold blk at hq
    rw [v9 (by simpa using hqn),wf,if_pos hqn] at hq
    cases hq
    rfl
   ·right
    rw [pk q (xj hqn)]
    exact hq
  unfold kE at k3
  rw [Tr.ok_bind] at k3
  refine ⟨pa,ze,H₀,m2,ρ3,G3,R4,Tr.ok_mono k3 λm4 ok k4 G4 H4 s4 w4=>?_⟩
  have R4':=R4.step s4 w4
  have s34:=s3.trans s4 w3.some
  cases ok with
  | false =>
   have k4':((fM el (xs.drop (k+1))).bind (pD none)).ok m4 λm' zs=>Ko1 PK pa m' G H (ds++zs) Q:=k4
   refine ⟨xs.length - (k+1),by omega,rfl,hlt,by omega,m4,G4,ds,sb.trans s34.gs,st2.trans s34 R2.wd.some,R4'.weak pl hback,DnAll.mono s34.gs dn,?_⟩
   exact Tr.ok_mono (Tr.ok_bind.mp k4') λm6 zs k6=>k6
  | true =>
   have k4':((i ρ3).bind λy=>.ret (some y)).ok m4 λm' y=>((fM el (xs.drop (k+1))).bind (pD y)).ok m' λm' zs=>Ko1 PK pa m' G H (ds++zs) Q:=k4
   rw [Tr.ok_bind] at k4'
   refine ⟨pa,ze,H₀,m4,ρ3,G4,R4',Tr.ok_mono k4' λm5 yd k5=>?_⟩
   intro v G5 H5 s5 w5 d5
   have s35:=s34.trans s5 w4.some
   refine ⟨xs.length - (k+1),by omega,rfl,hlt,by rw [vW]; show ys.length+1<=_; omega,m5,G5,ds++[yd],sb.trans s35.gs,st2.trans s35 R2.wd.some,(R4'.step s5 w5).weak pl hback,(DnAll.mono s35.gs dn).snoc d5,?_⟩
   have k5':((fM el (xs.drop (k+1))).bind (pD (some yd))).ok m5 λm' zs=>Ko1 PK pa m' G H (ds++zs) Q:=k5
   refine Tr.ok_mono (Tr.ok_bind.mp k5') λm6 zs k6=>?_
   rw [ww]
   exact k6
 ·have e:k=xs.length:=by omega
  subst e
  refine .inl ⟨j2,λp v H' hp ev eH=>?_⟩
  subst ev eH
  rw [xk] at k2
  have k2':Ko1 PK pa m2 G H (ds++[]) Q:=k2
  rw [v7] at k2'
  exact (Ko1.later k2' st2 R2.wd.some).new R2.wd dn hp
theorem ZrF {n:Nat} {ix:List Nat} {g:yZ} (h:PE X e (rJ (eP PK is) n ix (λ_=>fA PK g) (λ_=>TAt PK p) (λ_=>TAe PK i))) (hn:gJ n g):PE X e (ib PK (qG is n ix g p i)):=h.imp (Zkr hn)
end
theorem BlkOk.leaf {Nx:za} {sc scope:Scope} (h1:scope.kind=.function) (h2:∀ y∈scope.names,y.2≠.cell/\y.2≠.free) (h3:∀ y∈scope.names,y.2=.local->scope.names.lookup y.1=some .local):BlkOk Nx sc scope [] :=
 ⟨h1,λy hy z=>absurd z (h2 y hy).1,h3,λy hy z=>absurd z (h2 y hy).2,λj hj=>by cases hj⟩
section
variable {X:Cx}
section
variable {ρ:zd} {is:yU} {n:Nat} {i:yT} {p:yV} {xs:y6} {x:PyData}
noncomputable def mI (g:yZ) (p:yV) (el:yT) (τ:zd) (x:PyData):Tr (Option PyData):=(Tr.of (g x τ)).bind (kE p el)
noncomputable def tV (n:Nat) (ix:List Nat) (g:yZ) (p:yV) (el:yT) (ρ:zd) (xs:y6):Tr y6:=if small xs.length=true then fM (mI g p el (blk n ix ρ)) xs else .fail
theorem ZnI {ix:List Nat} {g:yZ}:qG is n ix g p i ρ=(is ρ).bind (tV n ix g p i ρ):=rfl
theorem ZnK {ix:List Nat} {g:yZ} (h:small xs.length=true):tV n ix g p i ρ xs=fM (mI g p i (blk n ix ρ)) xs:=by unfold tV; rw [if_pos h]
theorem ZnJ {τ:zd} {g:yZ}:mI g p i τ x=(Tr.of (g x τ)).bind (kE p i):=rfl
noncomputable def uh (y:PyData):Tr (Option PyData):=.ret (some y)
noncomputable def ui (i:yT) (τ:zd) (b:Bool):Tr (Option PyData):=if b=true then (i τ).bind uh else .ret none
theorem Zn6 {τ:zd}:kE p i τ=(p τ).bind (ui i τ):=rfl
theorem Zn8 {τ:zd}:ui i τ true=(i τ).bind uh:=rfl
theorem Zn9 {τ:zd}:ui i τ false=.ret none:=rfl
theorem Zn7:uh x=.ret (some x):=rfl
end
end
section
variable {PK:Pk} {X:Cx} {e:Expr} {as:List Sl->Tr zd}
end
section
variable {ρ:zd} {as:List Sl->Tr zd} {f:List PyData->Option PyData} {x:PyData} {xs:y6} {i j:yT} {k:Nat} {p:yV} {s:yW}
end
end L2
namespace L2
open AutoSeq1 (wpAny_loadPart')
noncomputable def le (hi:Int) (n:Nat):It:=⟨λi _=>i < n,λi H x H'=>H'=H/\x=.int (hi - i),λi _=>n<=i⟩
theorem Zf8 {P:Program} {w:World} {K:yS} {tg:Expr} (it:Addr) (hi:Int) (n:Nat):Turn P w K tg (le hi n) [it] it (λi h=>IsRangeIter h it (hi+(i:Nat) * (-1)) ((n:Int) - (i:Nat)) (-1)) where
 mem:=by simp
 obj:=λi h st b hb=>by
  have e:b=it:=by simpa using hb
  subst e
  exact ⟨_,st,λv z=>by
   have z':Data.fields _=Data.cell v:=z
   cases z'⟩
 keep:=λi h h' st k=>k it (by simp) _ st
 item:=by
  intro X hP hw hK hc i pins s σ H E I hf st hg
  subst hP hw hK
  obtain ⟨f0,f1,f2,f3,f4,f5⟩:=hf it (by simp)
  have W:=Walks.range (prog:=X.prog) (w:=X.w) (I.ok.hd hc) it hi (-1) n
  refine W.item i s _ _ hg st λv h' tk hv st' kk=>?_
  obtain ⟨t,rfl⟩:=hv
  have I1:Inv X pins σ H { s with heap:=h',toks:=tk }:=I.turned (λb o hb e=>kk b o (by simpa using hb) e) f0 f1 f3 f4 f5
  refine ⟨_,rfl,kG (s:={ s with heap:=h',toks:=tk }) (n:="range_iterator") st' rfl rfl (by decide) ⟨.int (hi - i),H,I1,⟨t,?_⟩,⟨rfl,rfl⟩,st',λb hb=>(hf b hb).1⟩⟩
  have e:hi+(i:Int) * -1=hi - i:=by omega
  rw [e]
 done:=by
  intro X hP hw hK hc i pins s σ H E I hf st hg
  subst hP hw hK
  obtain ⟨f0,f1,f2,f3,f4,f5⟩:=hf it (by simp)
  exact wpAny_pyNext_range_end (I.ok.hd hc) st (by have:n<=i:=hg; omega) λh' eb=>⟨rfl,I.turned (t':=s.toks) (λb o hb e=>eb b o hb e) f0 f1 f3 f4 f5⟩
 self:=λ_ _ _ _ _ st h=>wpAny_pyIter_rangeiter st h
theorem Zj6 (r:Addr) (a b c:Int) (t u v:Tok) (hs:¬ (!(Builtin.Range.rangeFitsLong a && Builtin.Range.rangeFitsLong b && Builtin.Range.rangeFitsLong c && Builtin.Range.rangeFitsLong (-c) && Builtin.Range.rangeFitsLong (a - c) && Builtin.Range.rangeFitsLong (Builtin.Range.rangeSize a b c)))=true) :
  Meets (Builtin.«range.__reversed__» ⟨[.ref r],[]⟩) (λ_ R s=>s.heap.get? r=some { cls:=.type "range",dict:=none,data:=.fields #[.int a t,.int b u,.int c v],slots:=#[] } /\
   R (.ok (.ret (.ref s.heap.objs.size))) { s with heap:=s.heap.push { cls:=.type "range_iterator",data:=.fields #[rawInt (a+(Builtin.Range.rangeSize a b c - 1) * c),rawInt (Builtin.Range.rangeSize a b c),rawInt (-c)] },toks:=s.toks }) :=
 .of_wp λprog w A R s h=>by
  obtain ⟨hp,g,d,tk,os⟩:=s
  obtain ⟨hl,h⟩:=h
  have hs':=hs
  rw [xb,Bool.not_eq_false] at hs'
  wp_walk
  rw [if_pos hs']
  exact ⟨_,rfl,h⟩
theorem kI {n:Int} (h1:-(2 ^ 63)<=n) (h2:n < 2 ^ 63):Builtin.Range.rangeFitsLong n=true:=by
 unfold Builtin.Range.rangeFitsLong
 simp
 omega
section
variable {prog:Program} {w:World} {A:Around} {E:y4} {s:Shared}
theorem ZqQ {r:Addr} {a b:Int} {t u v:Tok} {Q₁:y4} (hr:IsRange s.heap r a b 1 t u v) (ha:-(2 ^ 62)<=a) (ha':a < 2 ^ 62) (hb:-(2 ^ 62)<=b) (hb':b < 2 ^ 62)
  (h:Q₁ (.ref s.heap.objs.size) { s with heap:=s.heap.push { cls:=.type "range_iterator",data:=.fields #[rawInt (a+(Builtin.Range.rangeSize a b 1 - 1) * 1),rawInt (Builtin.Range.rangeSize a b 1),rawInt (-1)] } }) :
  codeAny (model prog w) A (.call (.builtin "reversed.__new__") ⟨[.type "reversed",.ref r],[]⟩) (wants Q₁ E) s:=by
 have hT:s.TypeIs (.ref r) "range":=⟨_,hr,rfl⟩
 refine codeAny_of_tree ?_
 show wpAny _ A.in1 (do checkBuiltinCall "reversed.__new__" ⟨[.type "reversed",.ref r],[]⟩; again (.builtin "reversed.__new__" ⟨[.type "reversed",.ref r],[]⟩)) _ _ s
 refine wpAny_bind (wpAny_of_eq (F.newCall_reversed_1 _) (wpAny_pure ⟨plainId_quiet F.plain_reversed_new _,codeAny_builtin F.entry_reversed_new ?_⟩))
 rw [wS F.plain_reversed_new _]
 unfold Builtin.«reversed.__new__»
 refine wpAny_bind (wpAny_of_eq (newClass_reversed _) ?_)
 try dsimp only
 refine wpAny_bind (wpAny_of_eq (a:=()) (by first | rfl | kernel_rfl) ?_)
 refine wpAny_bind (wpAny_of_eq (a:=()) (by first | rfl | kernel_rfl) ?_)
 try dsimp only
 refine wpAny_bind (wpAny_specialOf hT F.slot_range_reversed.lookup ?_)
 try dsimp only
 refine wpAny_bind (wpAny_of_eq (F.slot_range_reversed.bind _) ?_)
 try dsimp only
 first
 | rw [if_neg (show ¬ ((Value.builtin "range.__reversed__" == Value.none)=true) from vL)]
 | (show wpAny _ _ (if (Value.builtin "range.__reversed__" == Value.none)=true then _ else _) _ _ _; rw [if_neg (show ¬ ((Value.builtin "range.__reversed__" == Value.none)=true) from vL)])
 refine wpAny_bind (wpAny_rule ?_)
 have hsz:Builtin.Range.rangeSize a b 1=if a < b then b - a else 0:=rangeSize_one a b
 refine wpAny_bind (m:=runValue (.call (.builtin "range.__reversed__") ⟨[.ref r],[]⟩)) (show wpAny _ _ (call (.builtin "range.__reversed__") [.ref r]) _ _ _ from
  call_meets F.slot_range_reversed hT F.entry_range_reversed (F.args_range_reversed_1 _) (Zj6 r a b 1 t u v ?_) ⟨hr,?_⟩)
 ·rw [xb,Bool.not_eq_false,kI (by omega) (by omega),kI (by omega) (by omega),kI (by decide) (by decide),kI (by decide) (by decide),kI (n:=a - 1) (by omega) (by omega),kI (n:=Builtin.Range.rangeSize a b 1) (by rw [hsz]; split <;> omega) (by rw [hsz]; split <;> omega)]
  rfl
 ·first
  | exact wpAny_pure h
  | exact wpAny_bind (wpAny_pure (wpAny_pure h))
theorem ZgO:isSubtype (.type "range_iterator") (.type "reversed")=pure false:=by rw [isSubtype_type]; kernel_rfl
theorem ZqY {r:Addr} {a b:Int} {t u v:Tok} {Q:y4} (hr:IsRange s.heap r a b 1 t u v) (ha:-(2 ^ 62)<=a) (ha':a < 2 ^ 62) (hb:-(2 ^ 62)<=b) (hb':b < 2 ^ 62)
  (h:Q (.ref s.heap.objs.size) { s with heap:=s.heap.push { cls:=.type "range_iterator",data:=.fields #[rawInt (a+(Builtin.Range.rangeSize a b 1 - 1) * 1),rawInt (Builtin.Range.rangeSize a b 1),rawInt (-1)] } }):wpAny (model prog w) A (call (.type "reversed") [.ref r]) Q E s:=by
 refine callType_other (U:="range_iterator") (Q₁:=λobj s₁=>obj=.ref s.heap.objs.size/\s₁={ s with heap:=s.heap.push { cls:=.type "range_iterator",data:=.fields #[rawInt (a+(Builtin.Range.rangeSize a b 1 - 1) * 1),rawInt (Builtin.Range.rangeSize a b 1),rawInt (-1)] } }) (by trivial) F.create_reversed ⟨_,_,F.mro_reversed⟩ F.made_reversed ZgO (F.typeCall_reversed_1 _) (ZqQ hr ha ha' hb hb' ⟨rfl,rfl⟩) ?_
 rintro obj s₁ ⟨rfl,rfl⟩
 exact ⟨⟨_,vI _ rfl,rfl⟩,h⟩
end
theorem Zch:Manifest.owners.lookup (String.ofList ['d','e','s','r','e','v','e','r'].reverse)=some Manifest.sig_reversed:=by kernel_rfl
theorem ZgW:Slot "reversed" "__init__" "object.__init__" :=
 .of (owner:="object") (n:="__init__") (by rw [typeLookup_type,builtinLookup_eq_fast]; kernel_rfl) (by trivial) (by trivial) (by trivial)
  (by first | exact .inl (by trivial) | exact .inr (by trivial)) (by rw [isSubtype_type]; kernel_rfl)
theorem lw:Slot "reversed" "__next__" "reversed.__next__" :=
 .of (owner:="reversed") (n:="__next__") (by rw [typeLookup_type,builtinLookup_eq_fast]; kernel_rfl) (by trivial) (by trivial) (by trivial)
  (by first | exact .inl (by trivial) | exact .inr (by trivial)) (by rw [isSubtype_type]; kernel_rfl)
theorem Zdw:entryFor table "reversed.__next__"=some Builtin.«reversed.__next__»:=entryFor_of_tree (by kernel_rfl)
theorem Ze1 (a:Value):argsOk "reversed.__next__" ⟨[a],[]⟩:=by
 unfold argsOk; rw [signature?_of (id:="reversed.__next__") (n:=['_','_','t','x','e','n','_','_']) (o:=['d','e','s','r','e','v','e','r']) (by kernel_rfl) Zch]; kernel_rfl
theorem Za0:Slot "reversed" "__iter__" "reversed.__iter__" :=
 .of (owner:="reversed") (n:="__iter__") (by rw [typeLookup_type,builtinLookup_eq_fast]; kernel_rfl) (by trivial) (by trivial) (by trivial)
  (by first | exact .inl (by trivial) | exact .inr (by trivial)) (by rw [isSubtype_type]; kernel_rfl)
theorem ZrE (a:Value):argsOk "reversed.__iter__" ⟨[a],[]⟩:=by
 unfold argsOk; rw [signature?_of (id:="reversed.__iter__") (n:=['_','_','r','e','t','i','_','_']) (o:=['d','e','s','r','e','v','e','r']) (by kernel_rfl) Zch]; kernel_rfl
theorem Zps:entryFor table "reversed.__iter__"=some Builtin.«dict_keyiterator.__iter__» :=
 entryFor_alias (id':="dict_keyiterator.__iter__") (by kernel_rfl) (by first | rfl | decide +kernel | (unfold String.splitOn; simp +decide [String.splitOnAux])) (by trivial) (by kernel_rfl)
theorem ZqV:TypeCalled "reversed" "reversed.__new__" "object.__init__" :=
 ⟨by trivial,by trivial,⟨_,_,F.mro_reversed⟩,F.made_reversed,by trivial,by rw [isSubtype_type]; kernel_rfl,ZgW⟩
theorem ZjB:typeLookup (.type "tuple") "__reversed__"=pure none:=by rw [typeLookup_type,builtinLookup_eq_fast]; kernel_rfl
theorem Zj5 (l:Addr) (items:Array Value) (hfit:(items.size:Int) < 2 ^ 63) :
  Meets (Builtin.«reversed.__new__» ⟨[.type "reversed",.ref l],[]⟩) (λ_ R s=>IsTup s.heap l items /\
   R (.ok (.ret (.ref s.heap.objs.size))) { s with heap:=s.heap.push { cls:=.type "reversed",data:=.fields #[.ref l,rawInt ((items.size:Int) - 1)] },toks:=s.toks+1+1 }) :=
 .of_wp λprog w A R s h=>by
  obtain ⟨hp,g,d,tk,os⟩:=s
  obtain ⟨hl,h⟩:=h
  have hl':(Shared.mk hp g d tk os).heap.IsTuple l items:=hl
  unfold Builtin.«reversed.__new__»
  refine wpAny_bind (wpAny_of_eq (newClass_reversed _) ?_)
  try dsimp only
  refine wpAny_bind (wpAny_of_eq (a:=()) (by first | rfl | kernel_rfl) ?_)
  refine wpAny_bind (wpAny_of_eq (a:=()) (by first | rfl | kernel_rfl) ?_)
  try dsimp only
  refine wpAny_bind (wpAny_specialOf hl'.typeIs ZjB ?_)
  try dsimp only
  refine wpAny_bind ?_
  show wpAny _ _ (isInstance (Value.ref l) (.type "dict") >>= _) _ _ _
  refine wpAny_bind (wpAny_isInstance (T:="tuple") (b:=false) hl'.typeIs (by rw [isSubtype_type]; kernel_rfl) ?_)
  show wpAny _ _ (specialOf (Value.ref l) "__getitem__" >>= _) _ _ _
  refine wpAny_bind (wpAny_specialOf hl'.typeIs F.slot_tuple_getitem.lookup ?_)
  refine wpAny_pure ?_
  show wpAny _ _ (call (Value.builtin "len") [Value.ref l] >>= _) _ _ _
  refine wpAny_bind (len_tuple hl hfit ?_)
  refine wpAny_bind (wpAny_of_eq (a:=some (items.size:Int)) rfl ?_)
  show wpAny _ _ (newObj (.type "reversed") (.fields #[.ref l,rawInt ((items.size:Int) - 1)]) >>= _) _ _ _
  refine wpAny_bind (wpAny_newObj_type ?_)
  exact wpAny_pure ⟨_,rfl,h⟩
def IsTRev (h:Heap) (a l:Addr) (i:Int):Prop:=∃ o,h.get? a=some o/\o.cls=.type "reversed"/\o.data=.fields #[.ref l,rawInt i]
theorem IsTRev.at {h h':Heap} {a l:Addr} {i:Int} (x:IsTRev h a l i) (e:∀ o,h.get? a=some o->h'.get? a=some o):IsTRev h' a l i:=let ⟨o,ho,r⟩:=x; ⟨o,e _ ho,r⟩
section
variable {prog:Program} {w:World} {A:Around} {E:y4} {s:Shared}
theorem ZqX {l:Addr} {items:Array Value} {Q:y4} (hl:IsTup s.heap l items) (hfit:(items.size:Int) < 2 ^ 63)
  (h:Q (.ref s.heap.objs.size) { s with heap:=s.heap.push { cls:=.type "reversed",data:=.fields #[.ref l,rawInt ((items.size:Int) - 1)] },toks:=s.toks+1+1 }) :
  wpAny (model prog w) A (call (.type "reversed") [.ref l]) Q E s :=
 callType_new ZqV (by decide) (F.typeCall_reversed_1 _) (F.newCall_reversed_1 _) (λobj=>yq obj _) F.entry_reversed_new (Zj5 l items hfit) ⟨hl,⟨_,vI _ rfl,rfl⟩,h⟩
theorem Zik {it l:Addr} {i:Nat} {items:Array Value} {x:Value} {Q:Option Value->Shared->Prop} (hit:IsTRev s.heap it l (i:Int)) (hl:IsTup s.heap l items) (hne:l≠it) (hx:items[i]?=some x) (hfit:(items.size:Int) < 2 ^ 63)
  (hQ:∀ h',IsTRev h' it l ((i:Int) - 1)->Heap.SameBut it s.heap h'->Q (some x) { s with heap:=h',toks:=s.toks+1 }):wpAny (model prog w) A (pyNext (.ref it)) Q E s:=by
 obtain ⟨o,ho,hc,hd⟩:=id hit
 have hT:s.TypeIs (.ref it) "reversed":=⟨o,ho,hc⟩
 have hl':s.heap.IsTuple l items:=hl
 have hlt:i < items.size:=(xh.mp hx).1
 unfold pyNext
 refine wpAny_bind (wpAny_attempt (wpAny_callSpecial?_slot (name:=Str.ofString "__next__") hT lw
  (wpAny_call_entry lw hT Zdw ?_ (Ze1 _))))
 unfold Builtin.«reversed.__next__»
 refine wpAny_bind (wpAny_of_eq (a:=(Value.ref it,[])) rfl ?_)
 try dsimp only
 refine wpAny_bind (wpAny_field ho hd (x:=.ref l) rfl ?_)
 refine wpAny_bind (wpAny_field ho hd (x:=rawInt (i:Int)) rfl ?_)
 show wpAny _ _ (if (i:Int) < 0 then _ else _) _ _ s
 rw [if_neg (by omega)]
 refine wpAny_bind (wpAny_specialOf hl'.typeIs F.slot_tuple_getitem.lookup ?_)
 show wpAny _ _ (mkInt (i:Int) >>= _) _ _ s
 refine wpAny_bind (wpAny_mkInt ?_)
 refine wpAny_bind (wpAny_attempt (getItem_tuple (j:=i) (x:=x) hl (by omega) (by omega) ?_ hx ?_))
 ·unfold seqIndex?
  simp
  omega
 ·dsimp only
  refine wpAny_bind (wpAny_field ho hd (x:=rawInt (i:Int)) rfl ?_)
  show wpAny _ _ (setField (.ref it) 1 (rawInt ((i:Int) - 1)) >>= _) _ _ _
  refine wpAny_bind (wpAny_setField ho hd (by simp) ?_)
  refine wpAny_pure ⟨x,rfl,wpAny_pure (hQ _ ?_ (xw ..))⟩
  exact ⟨_,xi _ ho (yj (xg hd _)),(Obj.cls_mapFields ..).trans hc,by
   rw [xg hd]; simp⟩
theorem Zil {it l:Addr} {Q:Option Value->Shared->Prop} (hh:A.handled=none) (hit:IsTRev s.heap it l (-1))
  (hQ:∀ h',Heap.ExtBut it s.heap h'->Q none { s with heap:=h' }):wpAny (model prog w) A (pyNext (.ref it)) Q E s:=by
 obtain ⟨o,ho,hc,hd⟩:=id hit
 have hT:s.TypeIs (.ref it) "reversed":=⟨o,ho,hc⟩
 unfold pyNext
 refine wpAny_bind (wpAny_attempt (wpAny_callSpecial?_slot (name:=Str.ofString "__next__") hT lw
  (wpAny_call_entry lw hT Zdw ?_ (Ze1 _))))
 unfold Builtin.«reversed.__next__»
 refine wpAny_bind (wpAny_of_eq (a:=(Value.ref it,[])) rfl ?_)
 try dsimp only
 refine wpAny_bind (wpAny_field ho hd (x:=.ref l) rfl ?_)
 refine wpAny_bind (wpAny_field ho hd (x:=rawInt (-1)) rfl ?_)
 show wpAny _ _ (if (-1:Int) < 0 then _ else _) _ _ s
 rw [if_pos (by decide)]
 refine wpAny_bind (wpAny_rule ?_)
 refine wpAny_bind ?_
 show wpAny _ _ (setField (.ref it) 1 (rawInt (-1)) >>= _) _ _ _
 refine wpAny_bind (wpAny_setField ho hd (by simp) ?_)
 have ho2:=xi (Obj.mapFields λx_1=>x_1.setIfInBounds 1 (rawInt (-1))) ho (yj (xg hd _))
 refine wpAny_setField ho2 (xg hd _) (by simp) ?_
 have eb:Heap.ExtBut it s.heap ((s.heap.update it (Obj.mapFields λx_1=>x_1.setIfInBounds 1 (rawInt (-1)))).update it (Obj.mapFields λx_1=>x_1.setIfInBounds 0 Value.none)):=λb o' hb e=>(xw _ _ _).extBut b o' hb ((xw _ _ _).extBut b o' hb e)
 show wpAny _ _ (newExc (.type "StopIteration") [] >>= _ >>= _) _ _ _
 refine wpAny_bind ?_
 refine wpAny_bind ?_
 simp only [newExc,newTuple]
 refine wpAny_bind (wpAny_newObj_type ?_ (by size_fits))
 refine wpAny_bind (m:=firstArgMember _ _) (wpAny_of_eq (a:=Value.none) (by first | rfl | (simp only [firstArgMember]; rfl)) ?_)
 refine wpAny_newObj_type ?_ (by size_fits)
 simp only [raiseNew]
 refine wpAny_bind (wpAny_handled ?_)
 first | rw [show A.in1.handled=none from hh] | rw [hh]
 refine wpAny_bind (wpAny_pure (wpAny_throw ?_))
 refine wpAny_bind (wpAny_isInstance (T:="StopIteration") (b:=true) ⟨_,vI _ rfl,rfl⟩ isSubtype_stop ?_)
 exact wpAny_pure (hQ _ ((eb.push _).push _))
theorem ZbZ {it l:Addr} {i:Int} {Q:y4} (hit:IsTRev s.heap it l i) (h:Q (.ref it) s):wpAny (model prog w) A (pyIter (.ref it)) Q E s:=by
 obtain ⟨o,ho,hc,hd⟩:=id hit
 have hT:s.TypeIs (.ref it) "reversed":=⟨o,ho,hc⟩
 refine wpAny_pyIter_slot hT Za0 (wpAny_call_entry Za0 hT Zps ?_ (ZrE _))
 show wpAny _ _ (ret (.ref it)) _ _ s
 exact wpAny_pure ⟨_,rfl,"reversed",_,hT,lw.lookup,h⟩
end
noncomputable def lc (b:Bool) (l:Addr) (n:Nat):It :=
 ⟨λi H=>i < n/\∃ xs,H l=some (cb b xs)/\xs.length=n,λi H x H'=>H'=H/\∃ xs,H l=some (cb b xs)/\xs[n - 1 - i]?=some x,λi _=>i=n⟩
def RvAt (b:Bool) (h:Heap) (it l:Addr) (i:Int):Prop:=match b with
 | true=>h.IsRevIter it l i
 | false=>IsTRev h it l i
theorem RvAt.there {b:Bool} {h:Heap} {it l:Addr} {i:Int} (x:RvAt b h it l i):∃ o n vs,h.get? it=some o/\o.cls=.type n/\o.data=.fields vs/\["enumerate","zip","dict_itemiterator","dict_reverseitemiterator","odict_iterator","itertools.zip_longest","itertools.pairwise"].contains n=false:=by
 cases b with
 | true=>obtain ⟨o,h1,h2,h3⟩:=x; exact ⟨o,_,_,h1,h2,h3,by decide⟩
 | false=>obtain ⟨o,h1,h2,h3⟩:=x; exact ⟨o,_,_,h1,h2,h3,by decide⟩
theorem RvAt.at {b:Bool} {h h':Heap} {it l:Addr} {i:Int} (x:RvAt b h it l i) (e:∀ o,h.get? it=some o->h'.get? it=some o):RvAt b h' it l i:=by
 cases b with
 | true=>exact Heap.IsRevIter.at x e
 | false=>exact IsTRev.at x e
theorem Zaz {P:Program} {w:World} {K:yS} {tg:Expr} {b:Bool} {l:Addr} {n:Nat} (it:Addr) (hn:(n:Int) < 2 ^ 63):Turn P w K tg (lc b l n) [it] it (λi h=>RvAt b h it l ((n:Int) - 1 - (i:Nat))) where
 mem:=by simp
 obj:=λi h st c hb=>by
  have e:c=it:=by simpa using hb
  subst e
  obtain ⟨o,_,_,h1,_,h3,_⟩:=st.there
  exact ⟨o,h1,λv z=>by rw [h3] at z; cases z⟩
 keep:=λi h h' st k=>st.at λo e=>k it (by simp) o e
 item:=by
  intro X hP hw hK hc i pins s σ H E I hf st hg
  subst hP hw hK
  obtain ⟨hi,xs,e1,hlen⟩:=hg
  obtain ⟨us,r1,q1⟩:=gO I.hok e1
  obtain ⟨f0,f1,f2,f3,f4,f5⟩:=hf it (by simp)
  have hxl:n - 1 - i < xs.length:=by omega
  have hx:xs[n - 1 - i]?=some xs[n - 1 - i]:=xW hxl
  obtain ⟨u,hu,ru⟩:=r1.get hx
  have ne:l≠it:=cH e1 f0
  have ei:(n:Int) - 1 - (i:Nat)=((n - 1 - i:Nat):Int):=by omega
  have ei2:((n - 1 - i:Nat):Int) - 1=(n:Int) - 1 - ((i+1:Nat):Int):=by omega
  rw [ei] at st
  have usz:us.toArray.size=n:=by rw [vK,<- r1.length]; exact hlen
  have fin:∀ (h':Heap) (tk:Nat),RvAt b h' it l ((n:Int) - 1 - ((i+1:Nat):Int))->Heap.SameBut it s.heap h'->∃ u',some u=some u'/\wpAny (model X.prog X.w) X.A (letOwnedTupleGo tg (.ref it) u') (λ_ s2=>∃ x H',Inv X pins σ H' s2/\RelV x u'/\(lc b l n).yld i H x H'/\RvAt b s2.heap it l ((n:Int) - 1 - ((i+1:Nat):Int))/\∀ b∈[it],H' b=none) E { s with heap:=h',toks:=tk }:=λh' tk st' sb=>by
   have I1:Inv X pins σ H { s with heap:=h',toks:=tk }:=I.turned (λb o hb e=>(sb.2 b hb).trans e) f0 f1 f3 f4 f5
   obtain ⟨o,nm,vs,g1,g2,g3,g4⟩:=st'.there
   exact ⟨u,rfl,kG (s:={ s with heap:=h',toks:=tk }) g1 g2 g3 g4 ⟨_,H,I1,ru,⟨rfl,xs,e1,hx⟩,st',λb hb=>(hf b hb).1⟩⟩
  cases b with
  | true =>
   refine wpAny_pyNext_rev_item (i:=n - 1 - i) st q1 (x:=u) (by simpa using hu) λh' st' sb=>?_
   rw [ei2] at st'
   exact fin h' s.toks st' sb
  | false =>
   refine Zik (i:=n - 1 - i) st q1 ne (x:=u) (by simpa using hu) (by rw [usz]; exact hn) λh' st' sb=>?_
   rw [ei2] at st'
   exact fin h' (s.toks+1) st' sb
 done:=by
  intro X hP hw hK hc i pins s σ H E I hf st hg
  subst hP hw hK
  obtain ⟨f0,f1,f2,f3,f4,f5⟩:=hf it (by simp)
  have hi:i=n:=hg
  subst hi
  have e:(i:Int) - 1 - (i:Nat)=-1:=by omega
  rw [e] at st
  cases b with
  | true=>exact wpAny_pyNext_rev_end (I.ok.hd hc) st λh' eb=>⟨rfl,I.turned (t':=s.toks) (λb o hb e=>eb b o hb e) f0 f1 f3 f4 f5⟩
  | false=>exact Zil (I.ok.hd hc) st λh' eb=>⟨rfl,I.turned (t':=s.toks) (λb o hb e=>eb b o hb e) f0 f1 f3 f4 f5⟩
 self:=λ_ _ _ _ _ st h=>by
  cases b with
  | true=>exact wpAny_pyIter_revIter st h
  | false=>exact ZbZ st h
section
variable {X:Cx} {tg:Expr} {PK:Pk} {a b:Expr} {i j:yT} {p pos:Pos}
def uk (ta:TE):TI:=λσ H R=>ta σ H λx H1=>(∃ b l xs,x=.ref l/\H1 l=some (cb b xs)/\R (lc b l xs.length) H1) \/
 (∃ l lo hi,x=.ref l/\H1 l=some (.rng lo hi)/\-(2 ^ 62)<=lo/\lo < 2 ^ 62/\-(2 ^ 62)<=hi/\hi < 2 ^ 62/\R (le (lo+(hi - lo).toNat - 1) (hi - lo).toNat) H1)
theorem Zb5 {ta:TE} (hg:Gl X "reversed") (hm:X.mg "reversed"=none) (ha:PE X a ta)
  (hs:starEach [a] X.env=[(false,eval a X.env)]:=by rfl):PI X tg (.Call (.Name "reversed" p) [a] [] pos) (uk ta):=by
 intro pins s σ H R I h
 have hab:PA X [a] (gi ta aR):=aT ha bz (by rw [hs]; rfl)
 have h':gi ta aR σ H λvs H1=>∃ x,vs=[x]/\((∃ b l xs,x=.ref l/\H1 l=some (cb b xs)/\R (lc b l xs.length) H1) \/
   (∃ l lo hi,x=.ref l/\H1 l=some (.rng lo hi)/\-(2 ^ 62)<=lo/\lo < 2 ^ 62/\-(2 ^ 62)<=hi/\hi < 2 ^ 62/\R (le (lo+(hi - lo).toNat - 1) (hi - lo).toNat) H1)):=by
  have h0:ta σ H λx H1=>(∃ b l xs,x=.ref l/\H1 l=some (cb b xs)/\R (lc b l xs.length) H1) \/
   (∃ l lo hi,x=.ref l/\H1 l=some (.rng lo hi)/\-(2 ^ 62)<=lo/\lo < 2 ^ 62/\-(2 ^ 62)<=hi/\hi < 2 ^ 62/\R (le (lo+(hi - lo).toNat - 1) (hi - lo).toNat) H1):=h
  refine cast (congrArg (ta σ H) ?_) h0
  funext x H1
  apply propext
  constructor
  ·exact λq=>⟨x,rfl,q⟩
  ·rintro ⟨y,e,q⟩
   have e':x=y:=by simpa using e
   subst e'
   exact q
 refine Call_ (kC I hg hm boot_reversed (wX (thn (hab pos pins s σ H _ I h') λus s1 hz0=>?_) (by rw [hs]; rfl) rfl))
 obtain ⟨vs,H1,I1,r1,q1⟩:=hz0
 obtain ⟨x,rfl,q1⟩:=q1
 obtain ⟨u,rfl,ru⟩:=ek r1
 have fp:∀ c∈[s1.heap.objs.size],fB X pins H1 c:=λc hb=>by
  have e:c=s1.heap.objs.size:=by simpa using hb
  subst e
  exact I1.fpOk (vF _) (I1.hok.fresh (vF _))
 have hn:=jA
 rcases q1 with ⟨b,l,xs,rfl,e1,q⟩ | ⟨l,lo,hi,rfl,e1,b1,b2,b3,b4,q⟩
 ·cases ru
  obtain ⟨us,r2,q2⟩:=gO I1.hok e1
  have usz:us.toArray.size=xs.length:=by rw [vK,<- r2.length]
  have hz:xs.length<=sizeLine:=by
   cases b with
   | true=>exact (I1.hok _ _ e1).1
   | false=>exact (I1.hok _ _ e1).1
  cases b with
  | true =>
   refine call_reversed_list q2 (wpAny_pyIter_revIter ⟨_,vI _ rfl,rfl,rfl⟩ ?_)
   refine ⟨_,_,_,_,H1,rfl,I1.kept (t':=s1.toks) λb o e=>vA _ e,Zaz (b:=true) (l:=l) (n:=xs.length) s1.heap.objs.size (by omega),?_,fp,q⟩
   refine ⟨_,vI _ rfl,rfl,?_⟩
   rw [usz]
   show Data.fields #[_,rawInt ((xs.length:Int) - 1)]=Data.fields #[_,rawInt ((xs.length:Int) - 1 - ((0:Nat):Int))]
   simp
  | false =>
   refine ZqX q2 (by rw [usz]; omega) (ZbZ ⟨_,vI _ rfl,rfl,rfl⟩ ?_)
   refine ⟨_,_,_,_,H1,rfl,I1.kept (t':=s1.toks+1+1) λb o e=>vA _ e,Zaz (b:=false) (l:=l) (n:=xs.length) s1.heap.objs.size (by omega),?_,fp,q⟩
   refine ⟨_,vI _ rfl,rfl,?_⟩
   rw [usz]
   show Data.fields #[_,rawInt ((xs.length:Int) - 1)]=Data.fields #[_,rawInt ((xs.length:Int) - 1 - ((0:Nat):Int))]
   simp
 ·cases ru
  obtain ⟨t,u,v,e⟩:=I1.hok _ _ e1
  have hsz:Builtin.Range.rangeSize lo hi 1=((hi - lo).toNat:Int):=by rw [rangeSize_one]; split <;> omega
  refine ZqY e b1 b2 b3 b4 (wpAny_pyIter_rangeiter (vI _ rfl) ?_)
  refine ⟨_,_,_,_,H1,rfl,I1.kept (t':=s1.toks) λb o e=>vA _ e,Zf8 s1.heap.objs.size (lo+(hi - lo).toNat - 1) (hi - lo).toNat,?_,fp,q⟩
  rw [hsz]
  have e1:lo+(((hi - lo).toNat:Int) - 1) * 1=lo+(hi - lo).toNat - 1+((0:Nat):Int) * (-1):=by simp; omega
  have e2:((hi - lo).toNat:Int)=((hi - lo).toNat:Int) - ((0:Nat):Int):=by simp
  rw [e1]
  show IsRangeIter _ _ _ (((hi - lo).toNat:Int) - ((0:Nat):Int)) (-1)
  rw [<- e2]
  exact vI _ rfl
end
end L2
namespace L2
section
variable {X:Cx} {tg:Expr} {PK:Pk} {e:Expr} {i j:yT} {is:yU} {p pos:Pos}
theorem ZkO {pa:Addr} {G:Hp} {b:Bool} {l:Addr} {us:zb} {xs:y6} (h1:G l=some (cb b us)) (d1:DnAll G us xs):i9 PK pa (lc b l us.length) G xs.reverse:=λm G2 H2 sb w=>by
 have e1:H2 l=some (cb b us):=w.sub _ _ (sb _ _ h1)
 have hlen:us.length=xs.length:=d1.length
 refine ⟨λn d hd=>?_,by show xs.reverse.length=us.length; rw [wt,hlen]⟩
 have hn:n < xs.length:=by
  have:=(vH.mp hd).1
  rwa [wt] at this
 have hd':xs[xs.length - 1 - n]?=some d:=by
  rw [wZ hn] at hd
  exact hd
 refine ⟨⟨by omega,us,e1,rfl⟩,λy H3 hz0=>?_⟩
 obtain ⟨eH,vs,f1,hy⟩:=hz0
 subst eH
 rw [e1] at f1
 have:=Zc7 f1
 subst this
 rw [hlen] at hy
 obtain ⟨v,hv,dv⟩:=d1.get _ hd'
 rw [hv] at hy
 cases hy
 exact ⟨G2,.refl,w,dv.mono sb⟩
noncomputable def vf (i:yT):yU:=λρ=>(i ρ).bind λx=>(Tr.of (gv x)).bind λxs=>.ret xs.reverse
theorem ZrJ {iter:Expr} (h:PI X tg iter (uk (TAe PK i))):PI X tg iter (eP PK (vf i)):=h.imp λσ H R0 hz0=>by
 obtain ⟨pa,ze,H₀,m,ρ,G,R,z⟩:=hz0
 refine TAe.then R z λm1 x v G1 H1 s1 w1 R1 d1 q1=>?_
 rw [Tr.ok_bind] at q1
 obtain ⟨xs,hx,q1⟩:=Tr.ok_of q1
 obtain ⟨b1,l1,us,rfl,e1,f1⟩:=um d1 hx
 exact .inl ⟨b1,l1,us,rfl,w1.sub _ _ e1,q1 _ G1 H1 s1 w1 (ZkO e1 f1)⟩
theorem ZkM {pa:Addr} {G:Hp} {lo:Int} {n:Nat}:i9 PK pa (le (lo+n - 1) n) G ((bD lo n).map PyData.int).reverse:=λm G2 H2 sb w=>by
 have hl:((bD lo n).map PyData.int).length=n:=by rw [vB,ir]
 refine ⟨λk x hx=>?_,by show n<=_; rw [wt,hl]; exact vF _⟩
 have hk:k < n:=by
  have:=(vH.mp hx).1
  rwa [wt,hl] at this
 refine ⟨hk,λy H3 hz0=>?_⟩
 obtain ⟨e1,e2⟩:=hz0
 subst e1 e2
 have:x=.int (lo+n - 1 - k):=by
  rw [wZ (by rw [hl]; exact hk),hl] at hx
  unfold bD at hx
  rw [wL,v5,wI (by omega)] at hx
  cases hx
  show PyData.int (lo+((n - 1 - k:Nat):Int))=_
  congr 1
  omega
 subst this
 exact ⟨G2,.refl,w,.int _⟩
noncomputable def ve (is:yU):yU:=λρ=>(is ρ).bind λxs=>(Tr.of (lW xs)).bind λys=>.ret ys.reverse
def Zgr (t:TA):TE:=gM (λxs H Q=>∃ i j:Int,xs=[.int i,.int j]/\∀ p,H p=none->Q (.ref p) (upd H p (.rng i j))) t
theorem ZrI {iter:Expr} (h:PI X tg iter (uk (Zgr (TAd PK is)))):PI X tg iter (eP PK (ve is)):=h.imp λσ H R0 hz0=>by
 obtain ⟨pa,ze,H₀,m,ρ,G,R,z⟩:=hz0
 refine TAd.then R z λm1 xs vs G1 H1 s1 w1 R1 d1 q1=>?_
 rw [Tr.ok_bind] at q1
 obtain ⟨ys,hy,q1⟩:=Tr.ok_of q1
 obtain ⟨k,n,e,⟨h1,h2,h3,h4⟩,rfl⟩:=ZhU d1 hy
 refine ⟨k,n,e,λp hp=>?_⟩
 obtain ⟨w2,s2⟩:=w1.own (o:=.rng k n) hp
 refine .inr ⟨p,k,n,rfl,bJ,h1,h2,h3,h4,?_⟩
 exact q1 (le (k+(n - k).toNat - 1) (n - k).toNat) G1 _ (s1.trans s2 w1.some) w2 ZkM
end
section
variable {X:Cx} {PK:Pk} {i n:yT}
end
section
variable {prog:Program} {w:World} {A:Around} {E:y4} {s:Shared}
end
section
variable {X:Cx} {PK:Pk} {e st:Expr} {te ts:TE} {i j:yT} {p2 pos:Pos}
end
abbrev i8 (h0 h:Heap):Prop:=∀ c o,h0.get? c=some o->h.get? c=some o
noncomputable def Zfm (prog:Program) (w:World) (A:Around) (h0:Heap) (P:Nat->Value->Prop) (bt:Nat->Nat->Bool):Prop :=
 ∀ i j vi vj (s:Shared) (Q:y4) (E:y4),j < i->i8 h0 s.heap->P i vi->P j vj->Q (.bool (bt i j)) s->wpAny (model prog w) A (richCompare .Lt vi vj) Q E s
theorem Ze2 (bt:Nat->Nat->Bool):∀ j,argBest bt j<=j
 | 0=>vF _
 | j+1=>by
  have:=Ze2 bt j
  unfold argBest
  split <;> omega
section
variable {prog:Program} {w:World} {A:Around} {R:Result->Shared->Prop} {I S:Addr} {fp wr:List Addr} {n:Nat} {P:Nat->Value->Prop} {St:Nat->Heap->Prop} {h0:Heap}
theorem pw:(toString "min"++toString ".loop":String)="min.loop":=by decide
theorem Zj3 (W:Walks prog w A.in1 I fp wr n P St) (bt:Nat->Nat->Bool) (hcmp:Zfm prog w A.in1 h0 P bt) (hSf:S ∉ fp) (h0w:∀ c o,h0.get? c=some o->c ∉ wr/\c≠S) :
  ∀ (k j:Nat) (s:Shared) (vb:Value) (c:Nat),n - (j+1)=k->j+1<=n->i8 h0 s.heap->St (j+1) s.heap->P (argBest bt j) vb ->
  s.heap.get? S=some { cls:=.type "list",data:=.seq #[vb,vb] c } ->
  (∀ v h' tk,P (argBest bt (n - 1)) v->(∀ b o,b ∉ wr->b≠S->s.heap.get? b=some o->h'.get? b=some o)->R (.ok (.ret v)) { s with heap:=h',toks:=tk }) ->
  codeAny (model prog w) A (.builtin "min.loop" ⟨[.ref I,.none,.ref S],[]⟩) R s:=by
 have hSw:S ∉ wr:=λh=>hSf (W.sub _ h)
 intro k
 induction k with
 | zero =>
  intro j s vb c hk hj kp hst hPb hS hR
  have hin:j+1=n:=by omega
  refine codeAny_builtin yQ (by
   rw [wS w6 _]
   show wpAny _ A.in1 (seqItems? (.ref S) >>= _) _ _ s
   refine wpAny_bind (wpAny_seqItems hS rfl ?_)
   show wpAny _ A.in1 (tryCatch (pyNext (.ref I)) _ >>= _) _ _ s
   refine wpAny_bind (wpAny_tryCatch (W.done s _ _ (hin ▸ hst) λh' tk hk'=>?_))
   have hS':=hk' S _ hSw hS
   show wpAny _ A.in1 (updateSeq S (λ_=>#[]) >>= _) _ _ _
   refine wpAny_bind (wpAny_updateSeq hS' rfl (wpAny_bind (wpAny_letGo (wpAny_pure ?_))))
   exact hR vb _ tk (by rw [<- hin]; exact hPb) λb o hbw hbS e=>(wA _ _ (Ne.symm hbS)).trans (hk' b o hbw e))
 | succ k ih =>
  intro j s vb c hk hj kp hst hPb hS hR
  have hlt:j+1 < n:=by omega
  refine codeAny_builtin yQ (by
   rw [wS w6 _]
   show wpAny _ A.in1 (seqItems? (.ref S) >>= _) _ _ s
   refine wpAny_bind (wpAny_seqItems hS rfl ?_)
   show wpAny _ A.in1 (tryCatch (pyNext (.ref I)) _ >>= _) _ _ s
   refine wpAny_bind (wpAny_tryCatch (W.item (j+1) s _ _ hlt hst λv h' tk hP hst' hk'=>?_))
   have hS':=hk' S _ hSw hS
   have kp':i8 h0 h':=λc o e=>hk' c o (h0w c o e).1 (kp c o e)
   show wpAny _ A.in1 (tryCatch (holding [v,v] (richCompare .Lt v vb >>= _)) _ >>= _) _ _ _
   refine wpAny_bind (wpAny_tryCatch (wpAny_holding (wpAny_bind (hcmp (j+1) (argBest bt j) v vb _ _ _ (Nat.lt_succ_of_le (Ze2 bt j)) kp' hP hPb (wpAny_bind (wpAny_holding (wpAny_truthy_bool (wpAny_bind (wpAny_letGo (wpAny_pure ?_))))))))))
   cases hb:bt (j+1) (argBest bt j) with
   | true =>
    simp only [if_true]
    refine wpAny_bind (wpAny_updateSeq hS' rfl (wpAny_bind (wpAny_letGo ?_)))
    rw [pw]
    refine wpAny_pure ⟨plainId_quiet w6 _,ih (j+1) _ v _ (by omega) hlt (λc o e=>(wA _ _ (Ne.symm (h0w c o e).2)).trans (kp' c o e)) (W.frame _ _ _ hst' λb hbf o e=>?_) (by simp only [argBest,hb,if_true]; exact hP) (xi _ hS' rfl)
     λv' h'' tk'' hP' hk''=>hR v' h'' tk'' hP' λb o hbw hbS e=>hk'' b o hbw hbS ((wA _ _ (Ne.symm hbS)).trans (hk' b o hbw e))⟩
    exact (wA _ _ (λh:S=b=>hSf (by rw [h]; exact hbf))).trans e
   | false =>
    simp only [wb,if_false]
    refine wpAny_bind (wpAny_letGo ?_)
    rw [pw]
    exact wpAny_pure ⟨plainId_quiet w6 _,ih (j+1) _ vb c (by omega) hlt kp' hst' (by simp only [argBest,hb,wb,if_false]; exact hPb) hS' λv' h'' tk'' hP' hk'' =>
     hR v' h'' tk'' hP' λb o hbw hbS e=>hk'' b o hbw hbS (hk' b o hbw e)⟩)
theorem Zj4 (W:Walks prog w A.in1 I fp wr n P St) (bt:Nat->Nat->Bool) (hcmp:Zfm prog w A.in1 h0 P bt) (hSf:S ∉ fp) (h0w:∀ c o,h0.get? c=some o->c ∉ wr/\c≠S) (hn:0 < n) {s:Shared} {c:Nat} (kp:i8 h0 s.heap) (hst:St 0 s.heap)
  (hS:s.heap.get? S=some { cls:=.type "list",data:=.seq #[] c })
  (hR:∀ v h' tk,P (argBest bt (n - 1)) v->(∀ b o,b ∉ wr->b≠S->s.heap.get? b=some o->h'.get? b=some o)->R (.ok (.ret v)) { s with heap:=h',toks:=tk }) :
  codeAny (model prog w) A (.builtin "min.loop" ⟨[.ref I,.none,.ref S],[]⟩) R s:=by
 have hSw:S ∉ wr:=λh=>hSf (W.sub _ h)
 refine codeAny_builtin yQ (by
  rw [wS w6 _]
  show wpAny _ A.in1 (seqItems? (.ref S) >>= _) _ _ s
  refine wpAny_bind (wpAny_seqItems hS rfl ?_)
  show wpAny _ A.in1 (tryCatch (pyNext (.ref I)) _ >>= _) _ _ s
  refine wpAny_bind (wpAny_tryCatch (W.item 0 s _ _ hn hst λv h' tk hP hst' hk'=>?_))
  have hS':=hk' S _ hSw hS
  have kp':i8 h0 h':=λc o e=>hk' c o (h0w c o e).1 (kp c o e)
  show wpAny _ A.in1 (updateSeq S (λ_=>#[v,v]) >>= _) _ _ _
  refine wpAny_bind (wpAny_updateSeq hS' rfl ?_)
  rw [pw]
  refine wpAny_pure ⟨plainId_quiet w6 _,Zj3 W bt hcmp hSf h0w _ 0 _ v _ rfl hn (λc o e=>(wA _ _ (Ne.symm (h0w c o e).2)).trans (kp' c o e)) (W.frame _ _ _ hst' λb hbf o e=>?_) hP (xi _ hS' rfl)
   λv' h'' tk'' hP' hk''=>hR v' h'' tk'' hP' λb o hbw hbS e=>hk'' b o hbw hbS ((wA _ _ (Ne.symm hbS)).trans (hk' b o hbw e))⟩
  exact (wA _ _ (λh:S=b=>hSf (by rw [h]; exact hbf))).trans e)
end
section
variable {prog:Program} {w:World} {A:Around} {E:y4} {s:Shared}
theorem Zj2 {a b:Value} {Q:y4} {c:Bool} (hh:A.handled=none) (hcmp:∀ (s':Shared) (Q:y4) (E:y4),i8 s.heap s'.heap->Q (.bool c) s'->wpAny (model prog w) A.in1 (richCompare .Lt b a) Q E s')
  (h:∀ h' tk,i8 s.heap h'->Q (if c=true then b else a) { s with heap:=h',toks:=tk }):wpAny (model prog w) A (call (.builtin "min") [a,b]) Q E s:=by
 refine call_function_tree F.kind_min F.plain_min F.entry_min (F.args_min2 _ _) (by
  show wpAny _ A.in1 (Builtin.Builtins.bindParams "min" ["key","default"] 0 ⟨[],[]⟩ >>= _) _ _ s
  refine wpAny_bind (wpAny_of_eq (a:=[none,none]) rfl ?_)
  show wpAny _ A.in1 (newTuple [a,b] >>= _) _ _ s
  refine wpAny_bind (wpAny_newObj_type ?_)
  have hT:(s.heap.push { cls:=.type "tuple",data:=.seq #[a,b] }).IsTuple s.heap.objs.size #[a,b]:=⟨_,vI _ rfl,rfl,0,rfl⟩
  have hsz:(s.heap.push { cls:=.type "tuple",data:=.seq #[a,b] }).objs.size=s.heap.objs.size+1:=wF ..
  have hgk:i8 s.heap (s.heap.push { cls:=.type "tuple",data:=.seq #[a,b] }):=λc o e=>vA _ e
  generalize (s.heap.push { cls:=.type "tuple",data:=.seq #[a,b] })=g at hT hsz hgk ⊢
  refine wpAny_bind (wpAny_pyIter_tuple hT (wpAny_bind (wpAny_newObj_type ?_)))
  rw [pw]
  have hlt:∀ {c:Nat} {o:Obj},s.heap.get? c=some o->c < s.heap.objs.size:=λe=>vM e
  have hsz2:∀ ob:Obj,(g.push ob).objs.size=s.heap.objs.size+2:=λob=>by rw [wF,hsz]
  have W:=Walks.tuple (prog:=prog) (w:=w) (A:=A.in1) hh g.objs.size s.heap.objs.size (by rw [hsz]; exact vR (yv _)) #[a,b]
  refine wpAny_pure ⟨plainId_quiet w6 _,Zj4 (A:=A) (h0:=s.heap) W (λi j=>if i=1/\j=0 then c else false) ?_ ?_ ?_ (show 0 < 2 by decide) ?_ ⟨?_,?_⟩ (vI _ rfl) ?_⟩
  ·intro i j vi vj s' Q' E' hji kp hi hj hq
   have hi2:i < 2:=by
    have:=(xh.mp hi).1
    simpa using this
   have e1:i=1:=by omega
   have e2:j=0:=by omega
   subst e1 e2
   have e3:b=vi:=by simpa using hi
   have e4:a=vj:=by simpa using hj
   subst e3 e4
   exact hcmp s' Q' E' kp (by simpa using hq)
  ·intro hm
   have hm':(g.push { cls:=.type "tuple_iterator",data:=.fields #[.ref s.heap.objs.size,.int 0 0] }).objs.size∈[g.objs.size,s.heap.objs.size]:=hm
   rw [hsz2,hsz] at hm'
   simp at hm'
  ·intro (c:Nat) o e
   have hc:=hlt e
   refine ⟨λhm=>?_,?_⟩
   ·have hm':c=g.objs.size:=by simpa using hm
    rw [hm',hsz] at hc
    omega
   ·show c≠(g.push { cls:=.type "tuple_iterator",data:=.fields #[.ref s.heap.objs.size,.int 0 0] }).objs.size
    rw [hsz2]
    omega
  ·exact λc o e=>vA _ (vA _ (hgk c o e))
  ·exact ⟨_,vA _ (vI _ rfl),rfl,rfl⟩
  ·exact hT.at λo e=>vA _ (vA _ e)
  ·intro v h' tk hP hk
   have hv:v=if c=true then b else a:=by
    cases c with
    | true =>
     have e:argBest (λi j=>if i=1/\j=0 then true else false) ((#[a,b]:Array Value).size - 1)=1:=rfl
     rw [e] at hP
     simpa using hP.symm
    | false =>
     have e:argBest (λi j=>if i=1/\j=0 then false else false) ((#[a,b]:Array Value).size - 1)=0:=rfl
     rw [e] at hP
     simpa using hP.symm
   rw [hv]
   refine h h' tk λ(c:Nat) o e=>hk c o (λhm=>?_) ?_ (vA _ (vA _ (hgk c o e)))
   ·have hc:=hlt e
    have hm':c=g.objs.size:=by simpa using hm
    rw [hm',hsz] at hc
    omega
   ·have hc:=hlt e
    show c≠(g.push { cls:=.type "tuple_iterator",data:=.fields #[.ref s.heap.objs.size,.int 0 0] }).objs.size
    rw [hsz2]
    omega)
end
section
variable {X:Cx}
noncomputable def ZbI:List V->Hp->VK->Prop:=λxs H Q=>∃ a b ns ms,xs=[.ref a,.ref b]/\H a=some (.tup (ns.map V.int))/\H b=some (.tup (ms.map V.int))/\Q (if HT.cX ms ns=true then .ref b else .ref a) H
theorem Zeo {k:Nat} (hr:Room k X.A) (hc:X.calm=true):CallR X (.builtin "min") ZbI:=by
 intro pins s σ H xs us Q I r h
 obtain ⟨a,b,ns,ms,rfl,ha,hb,q⟩:=h
 obtain ⟨u,w',rfl,ru,rw'⟩:=ii r
 cases ru
 cases rw'
 obtain ⟨u1,r1,p1⟩:=gO (b:=false) I.hok ha
 obtain ⟨u2,r2,p2⟩:=gO (b:=false) I.hok hb
 have i1:IntsAre u1.toArray.toList ns:=Zc1 r1
 have i2:IntsAre u2.toArray.toList ms:=Zc1 r2
 refine Zj2 (c:=HT.cX ms ns) (I.ok.hd hc) (λs' Q' E' kp hq=>?_) λh' tk kp=>⟨_,H,I.kept kp,?_,q⟩
 ·have q1:IsTup s'.heap a u1.toArray:=SqAt.at (b:=false) p1 λo e=>kp a o e
  have q2:IsTup s'.heap b u2.toArray:=SqAt.at (b:=false) p2 λo e=>kp b o e
  exact HT.Zj9 q2 q1 i2 i1 (show X.A.units+1 < cLine from by have:=hr.units; omega) hq
 ·cases HT.cX ms ns
  ·exact rfl
  ·exact rfl
noncomputable def iI:List PyData->Option PyData
 | [.tuple xs,.tuple ys]=>(ints? xs).bind λns=>(ints? ys).bind λms=>some (if HT.cX ms ns=true then .tuple (ms.map PyData.int) else .tuple (ns.map PyData.int))
 | _=>none
theorem Zaq:dJ ZbI iI:=λPK pa m G H vs ds d Q w hv hd k=>by
 unfold iI at hd
 split at hd
 ·rename_i xs ys
  cases e1:ints? xs with
  | none=>rw [e1] at hd; cases hd
  | some ns =>
   cases e2:ints? ys with
   | none=>rw [e1,e2] at hd; cases hd
   | some ms =>
    rw [e1,e2] at hd
    have hd':(if HT.cX ms ns=true then PyData.tuple (ms.map PyData.int) else .tuple (ns.map PyData.int))=d:=vT hd
    cases hv with
    | cons h1 h2 =>
     cases h2 with
     | cons h2 h3 =>
      cases h3
      cases h1 with
      | @tup a us _ a1 a2 =>
       cases h2 with
       | @tup b ws _ b1 b2 =>
        obtain ⟨rfl,rfl⟩:=a2.ints_inv e1
        obtain ⟨rfl,rfl⟩:=b2.ints_inv e2
        refine ⟨a,b,ns,ms,rfl,w.sub _ _ a1,w.sub _ _ b1,?_⟩
        subst hd'
        cases hl:HT.cX ms ns
        ·rw [hl] at k
         exact k.here w (.tup a1 (DnAll.ints _))
        ·rw [hl] at k
         exact k.here w (.tup b1 (DnAll.ints _))
 ·cases hd
end
section
variable {X:Cx} {PK:Pk} {e:Expr} {is:yU}
end
section
variable {prog:Program} {w:World} {A:Around} {E:y4} {s:Shared}
end
section
variable {X:Cx}
end
section
variable {X:Cx} {PK:Pk} {a b:Expr} {pos:Pos} {j:yT}
theorem Zdm {α β:Type}:∀ {t:Tr α} {m:Nat} {Z:Nat->β->Prop},(t.bind λ_=>(Tr.fail:Tr β)).ok m Z->False
 | .ret a,m,Z,h=>h
 | .draw n k,m,Z,h=>Zdm (t:=k 0) (h.2.2.2 0 (xA _) h.2.1)
 | .fail,m,Z,h=>h
end
section
variable {prog:Program} {w:World} {A:Around} {E:y4} {s:Shared}
theorem ZqU {t b:Addr} {ws:y9} {Q:y4} (ht:IsTup s.heap t ([]:y9).toArray) (hb:IsTup s.heap b ws.toArray) (h1:Q (.ref b) s):wpAny (model prog w) A (binaryOp .Add (.ref t) (.ref b)) Q E s:=by
 obtain ⟨⟨cls,dd,data,sl⟩,ho,hc,n,hd⟩:=id ht
 obtain ⟨⟨cls2,dd2,data2,dC⟩,ho2,hc2,n2,hd2⟩:=id hb
 simp only at hc hd hc2 hd2
 subst hc hd hc2 hd2
 exact concat_meets ⟨_,ho,rfl⟩ ⟨_,ho2,rfl⟩ noFill_tuple_add seq_tuple_add x6 xX (xU _ _) (tuple_addW0 t b _ ws.toArray n n2 dd dd2 sl dC rfl) ⟨ho,ho2,h1⟩
end
section
variable {X:Cx}
noncomputable def ZbU (K:yS):R2:=λx y H Q=>∃ a b ys,x=.ref a/\y=.ref b/\SqT K H a []/\SqT K H b ys/\Q (.ref b) H
theorem Zjn:OpR X (binaryOp .Add) (ZbU X.K):=by
 intro pins s σ H x y v u Q I rx ry h
 obtain ⟨a,b,ys,rfl,rfl,ha,hb,q⟩:=h
 cases rx
 cases ry
 obtain ⟨its,r1,p1,_⟩:=I.tuple ha
 obtain ⟨its2,r2,p2,_⟩:=I.tuple hb
 cases r1
 exact ZqU p1 p2 ⟨.ref b,H,I,rfl,q⟩
noncomputable def kU:y3
 | .tuple [],.tuple ys=>some (.tuple ys)
 | x,y=>cU x y
noncomputable def sv (K:yS):R2:=λx y H Q=>sw K x y H Q\/ZbU K x y H Q
theorem Zjq:OpR X (binaryOp .Add) (sv X.K):=gm.or Zjn
theorem ZfS {K:yS}:bU (sv K) kU:=λPK pa m G H x y dx dy dz Q w hx hy hz k=>by
 unfold kU at hz
 split at hz
 ·cases hz
  cases hx with
  | tup a1 a2 =>
   cases a2
   cases hy with
   | tup b1 b2=>exact .inr ⟨_,_,_,rfl,rfl,SqT.of (w.sub _ _ a1),SqT.of (w.sub _ _ b1),k.here w (.tup b1 b2)⟩
 ·exact .inl (gg PK pa m G H x y _ _ dz Q w hx hy hz k)
theorem Zo7 {ys:y6}:az kU (.tuple []) (.tuple ys)=.ret (.tuple ys):=rfl
theorem Zo6 {x:PyData} {xs ys:y6} (h:small ((x::xs).length+ys.length)=true):az kU (.tuple (x::xs)) (.tuple ys)=.ret (.tuple (x::xs++ys)):=by
 show Tr.of (cU (.tuple (x::xs)) (.tuple ys))=_
 unfold cU
 simp only [List.isEmpty_cons,v3,x4,h,if_true]
 rfl
end
section
variable {PK:Pk} {X:Cx} {a b:Expr} {pos:Pos} {i j:yT}
end
theorem mG {α:Type} {n:Nat}:∀ {us:List α},us.length=n+1->∃ (a:α) (t:List α),us=a::t/\t.length=n
 | a::t,h=>⟨a,t,rfl,Nat.succ.inj h⟩
theorem Zkk {α:Type} {us:List α} (h:us.length=0):us=[]:=List.eq_nil_of_length_eq_zero h
theorem cC {α:Type} {us:List α} (h:us.length=1):∃ a,us=[a]:=by
 obtain ⟨a,t,rfl,h2⟩:=mG h
 exact ⟨a,by rw [Zkk h2]⟩
theorem fO {α:Type} {us:List α} (h:us.length=2):∃ a0 a1,us=[a0,a1]:=by
 obtain ⟨a0,t,rfl,h2⟩:=mG h
 obtain ⟨a1,rfl⟩:=cC h2
 exact ⟨a0,a1,rfl⟩
theorem mH {α:Type} {us:List α} (h:us.length=3):∃ a0 a1 a2,us=[a0,a1,a2]:=by
 obtain ⟨a0,t,rfl,h2⟩:=mG h
 obtain ⟨a1,a2,rfl⟩:=fO h2
 exact ⟨a0,a1,a2,rfl⟩
theorem tT {α:Type} {us:List α} (h:us.length=4):∃ a0 a1 a2 a3,us=[a0,a1,a2,a3]:=by
 obtain ⟨a0,t,rfl,h2⟩:=mG h
 obtain ⟨a1,a2,a3,rfl⟩:=mH h2
 exact ⟨a0,a1,a2,a3,rfl⟩
theorem Zkn {α:Type} {us:List α} (h:us.length=5):∃ a0 a1 a2 a3 a4,us=[a0,a1,a2,a3,a4]:=by
 obtain ⟨a0,t,rfl,h2⟩:=mG h
 obtain ⟨a1,a2,a3,a4,rfl⟩:=tT h2
 exact ⟨a0,a1,a2,a3,a4,rfl⟩
section
variable {PK:Pk} {X:Cx} {pos:Pos} {n:Nat} {is:yU} {s t:yW}
end
section
variable {PK:Pk} {X:Cx} {a b c d e:Expr} {pos:Pos} {i j l n:yT}
open Classical in
noncomputable def gB (h:Heap) (dx:PyData) (u:Value):Bool:=decide (∃ y as,Reads h u y as/\y.canLay0=true/\PyData.eqv y dx=true)
open Classical in
theorem Zdt {h:Heap} {dx y:PyData} {u:Value} {as:List Addr} (r:Reads h u y as) (hy:y.canLay0=true):gB h dx u=PyData.eqv y dx:=by
 unfold gB
 cases he:PyData.eqv y dx with
 | true=>exact decide_eq_true ⟨y,as,r,hy,he⟩
 | false =>
  refine decide_eq_false λz=>?_
  obtain ⟨y',as',r',hy',e'⟩:=z
  have:=SeqAt.Reads.unique y y' u as as' hy r r'
  subst this
  rw [he] at e'; cases e'
theorem u0 {P:Program} {w:World} {H:Hp} {h:Heap} (ok:HOk P w H h) {dx:PyData}:∀ {vs:zb} {ds:y6} {us:y9},DnAll H vs ds->ds.all SeqAt.shaped=true->Vals vs us->us.any (gB h dx)=ds.any λy=>PyData.eqv y dx
 | _,_,_,.nil,_,.nil=>rfl
 | _,_,_,.cons a t,f,.cons r rs=>by
  rw [yN,vQ] at f
  obtain ⟨as,r1⟩:=Dn.reads ok a (wu _ (v8 f.1)) r
  rw [xG,xG,Zdt r1 (v8 f.1),u0 ok t f.2 rs]
theorem tM {P:Program} {w:World} {H:Hp} {s:Shared} (ok:HOk P w H s.heap) {A:Around} (hu:A.units+64 < cLine) {dx:PyData} {v:Value} {bs:List Addr} (rv:Reads s.heap v dx bs) (hx:SeqAt.shaped dx=true):∀ {vs:zb} {ds:y6} {us:y9},DnAll H vs ds->ds.all SeqAt.shaped=true->Vals vs us->∀ u∈us,SeqAt.EqAt A s u v (gB s.heap dx u)
 | _,_,_,.nil,_,.nil=>λu hu=>by cases hu
 | _,_,_,.cons a t,f,.cons r rs=>λu hm=>by
  rw [yN,vQ] at f
  rcases vD.mp hm with rfl | hm
  ·obtain ⟨as,r1⟩:=Dn.reads ok a (wu _ (v8 f.1)) r
   rw [Zdt r1 (v8 f.1)]
   exact SeqAt.eqAt_reads _ _ A s _ _ _ _ r1 rv (v8 f.1) (v8 hx) (SeqAt.room_of_shaped f.1 hu)
  ·exact tM ok hu rv hx t f.2 rs u hm
noncomputable def oH (neg:Bool):R2:=λx y H Q=>∃ dx ds,Dn H x dx/\Dn H y (.list ds)/\SeqAt.shaped dx=true/\ds.all SeqAt.shaped=true/\Q (.bl (if neg then !(ds.any λz=>PyData.eqv z dx) else ds.any λz=>PyData.eqv z dx)) H
theorem Zjk {k:Nat} (hr:Room k X.A):OpR X (compareOp .In) (oH false):=by
 intro pins s σ H x y v u Q I rx ry h
 obtain ⟨dx,ds,hx,hy,sx,sd,q⟩:=h
 cases hy with
 | lst e1 e2 =>
  cases ry
  obtain ⟨its,r,pl,hz⟩:=I.list (SqL.of e1)
  obtain ⟨as,rv⟩:=Dn.reads I.hok hx (wu _ (v8 sx)) rx
  have hu:X.A.in1.units+64 < cLine:=by have:=hr.un; show X.A.units+_+64 < _; omega
  refine SeqAt.in_listAt (gB s.heap dx) pl.isList (λw hw=>tM I.hok hu rv sx e2 sd r w (by simpa using hw)) ⟨.bl _,H,I,rfl,?_⟩
  rw [show its.toArray.any (gB s.heap dx)=its.any (gB s.heap dx) by simp,u0 I.hok e2 sd r]
  exact q
theorem Zjd {k:Nat} (hr:Room k X.A):OpR X (compareOp .NotIn) (oH true):=by
 intro pins s σ H x y v u Q I rx ry h
 obtain ⟨dx,ds,hx,hy,sx,sd,q⟩:=h
 cases hy with
 | lst e1 e2 =>
  cases ry
  obtain ⟨its,r,pl,hz⟩:=I.list (SqL.of e1)
  obtain ⟨as,rv⟩:=Dn.reads I.hok hx (wu _ (v8 sx)) rx
  have hu:X.A.in1.units+64 < cLine:=by have:=hr.un; show X.A.units+_+64 < _; omega
  refine SeqAt.notIn_listAt (gB s.heap dx) pl.isList (λw hw=>tM I.hok hu rv sx e2 sd r w (by simpa using hw)) ⟨.bl _,H,I,rfl,?_⟩
  rw [show its.toArray.any (gB s.heap dx)=its.any (gB s.heap dx) by simp,u0 I.hok e2 sd r]
  exact q
noncomputable def mO (neg:Bool):y3
 | x,.list ds=>if (SeqAt.shaped x && ds.all SeqAt.shaped)=true then some (.bool (if neg then !(ds.any λz=>PyData.eqv z x) else ds.any λz=>PyData.eqv z x)) else none
 | _,_=>none
theorem ZfP {neg:Bool}:bU (oH neg) (mO neg):=λPK pa m G H x y dx dy dz Q w hx hy hz k=>by
 unfold mO at hz
 split at hz
 ·split at hz
  ·rename_i hc
   rw [vQ] at hc
   cases hz
   exact ⟨_,_,hx.mono w.sub,hy.mono w.sub,hc.1,hc.2,k.here w (.bl _)⟩
  ·cases hz
 ·cases hz
end
end L2
set_option exponentiation.threshold 9000
namespace Tw
open L2
def nb (k:Nat) (n:Int):Prop:=n.natAbs < 2 ^ k
theorem bL {k:Nat} {n:Int} (h:nb k n) (hk:k<=8000):fit n=true:=decide_eq_true (vE h (xF (by decide) hk))
theorem bK {k l:Nat} {n:Int} (h:nb k n) (hk:k<=l):nb l n:=vE h (xF (by decide) hk)
theorem cu {k l:Nat} {m n:Int} (h:nb k m) (h':nb l n):nb (k+l) (m * n):=by
 unfold nb at *
 rw [xS,Nat.pow_add]
 exact Nat.mul_lt_mul'' h h'
theorem iD {k l:Nat} {m n:Int} (h:nb k m) (h':nb l n):nb (max k l+1) (m+n):=by
 have h1:=bK h (Nat.le_max_left k l)
 have h2:=bK h' (Nat.le_max_right k l)
 unfold nb at *
 rw [x9,Nat.mul_two]
 exact wM (Int.natAbs_add_le m n) (Nat.add_lt_add h1 h2)
theorem gW {k:Nat} {n:Int} (h:nb k n):nb k (-n):=by
 unfold nb at *
 omega
theorem jt {k l:Nat} {m n:Int} (h:nb k m) (h':nb l n):nb (max k l+1) (m - n):=by
 rw [Int.sub_eq_add_neg]
 exact iD h (gW h')
theorem cB {k:Nat} {n:Int} (h1:-(2 ^ k:Nat) < n) (h2:n < (2 ^ k:Nat)):nb k n:=by
 unfold nb
 omega
theorem Zcw {k:Nat} {n b:Int} (h:-b<=n/\n<=b) (hb:b < (2 ^ k:Nat)):nb k n:=cB (by omega) (by omega)
theorem pf {k:Nat} {c:Prop} [Decidable c] {m n:Int} (h:nb k m) (h':nb k n):nb k (if c then m else n):=by split <;> assumption
noncomputable def ws (f:Int->Int):Nat->List Int->Int
 | _,[]=>0
 | k,w::l=>w * f k+ws f (k+1) l
theorem ZaQ {a:Nat}:∀ {l:y8},(∀ w∈l,nb a w)->nb (a+l.length) l.sum
 | [],h=>by unfold nb; simp; exact xr (by simp)
 | w::l,h=>by
  rw [wo]
  refine bK (iD (h w (by simp)) (ZaQ (l:=l) λv hv=>h v (vC _ hv))) ?_
  rw [vN]
  omega
structure Shp where
 top:Int
 depth:Int
 start:Int
 piece:Int
 keep:Int
 lack:Int
 lost:Int
 back:Int
 late:Int
noncomputable def Shp.l (s:Shp):y8:=[s.top,s.depth,s.start,s.piece,s.keep,s.lack,s.lost,s.back,s.late]
@[irreducible] noncomputable def Shp.d (s:Shp):PyData:=.tuple (s.l.map PyData.int)
structure Shp.Ok (s:Shp):Prop where
 t0:0<=s.top
 d0:0<=s.depth
 td:s.top+s.depth<=100
 start0:0<=s.start
 start:nb 45 s.start
 piece:nb 45 s.piece
 keep:nb 45 s.keep
 lack:nb 45 s.lack
 lost:nb 45 s.lost
 back:nb 45 s.back
 late:nb 45 s.late
theorem Zhg (s:Shp):az bA s.d (.int 0)=.ret (.int s.top):=by unfold Shp.d; rw [gA]; exact congrArg Tr.of qw
theorem Zhf (s:Shp):az bA s.d (.int 1)=.ret (.int s.depth):=by unfold Shp.d; rw [gA]; exact congrArg Tr.of ZeW
theorem Zhe (s:Shp):az bA s.d (.int 2)=.ret (.int s.start):=by unfold Shp.d; rw [gA]; exact congrArg Tr.of ZeV
theorem Zhd (s:Shp):az bA s.d (.int 3)=.ret (.int s.piece):=by unfold Shp.d; rw [gA]; exact congrArg Tr.of ZeU
theorem Zhc (s:Shp):az bA s.d (.int 4)=.ret (.int s.keep):=by unfold Shp.d; rw [gA]; exact congrArg Tr.of ZeT
theorem Zhb (s:Shp):az bA s.d (.int 5)=.ret (.int s.lack):=by unfold Shp.d; rw [gA]; exact congrArg Tr.of ZeS
theorem Zha (s:Shp):az bA s.d (.int 6)=.ret (.int s.lost):=by unfold Shp.d; rw [gA]; exact congrArg Tr.of ZeR
theorem Zg9 (s:Shp):az bA s.d (.int 7)=.ret (.int s.back):=by unfold Shp.d; rw [gA]; exact congrArg Tr.of ZeQ
theorem Zg8 (s:Shp):az bA s.d (.int 8)=.ret (.int s.late):=by unfold Shp.d; rw [gA]; exact congrArg Tr.of ZeP
section
variable (s:Shp)
noncomputable def Shp.nx (y f:Int):Int:=jw (y - f) (-s.depth)
noncomputable def Shp.day (y f:Int):Int:=(if s.nx y f > 0 then s.keep * s.nx y f else s.lack * -s.nx y f)+s.lost * (s.nx y f - (y - f))
noncomputable def Shp.fin (x:Int):Int:=if x > 0 then -s.back * x else s.late * -x
noncomputable def Shp.wg (day:y8) (y:Int) (ahead:Int->Int) (sc:Int):Int:=ws (λf=>sc * s.day y f+ahead (s.nx y f)) 0 day
noncomputable def Shp.sm (day:y8) (ahead:Int->Int) (sc:Int) (y:Int):Int:=sc * day.sum * s.piece * y+s.wg day y ahead sc
end
noncomputable def Shp.n (s:Shp):Nat:=(s.top+1 - -s.depth).toNat
noncomputable def Shp.row (s:Shp) (f:Int->Int):y8:=(bD (-s.depth) s.n).map f
noncomputable def lI (l:y8):PyData:=.list (l.map PyData.int)
noncomputable def tI (l:y8):PyData:=.tuple (l.map PyData.int)
noncomputable def fD (fs:List y8):PyData:=.tuple (fs.map tI)
theorem Shp.Ok.n_eq {s:Shp} (h:s.Ok):(s.n:Int)=s.top+s.depth+1:=by have:=h.t0; have:=h.d0; unfold Shp.n; omega
theorem ZhP {s:Shp} {f:Int->Int} {x:Int} (h1:-s.depth<=x) (h2:x<=s.top):(s.row f)[(x+s.depth).toNat]?=some (f x):=by
 unfold Shp.row bD
 rw [wL,v5,wI (by unfold Shp.n; omega)]
 show some (f (-s.depth+((x+s.depth).toNat:Int)))=_
 congr 2
 omega
theorem ZhO {s:Shp} {f:Int->Int} {x:Int} (h1:-s.depth<=x) (h2:x<=s.top):br ((s.row f).map PyData.int) (x+s.depth)=some (.int (f x)) :=
 na (by omega) (by rw [v5,ZhP h1 h2]; rfl)
theorem tm (s:Shp) (y f:Int):-s.depth<=s.nx y f:=by unfold Shp.nx jw; split <;> omega
theorem tj {s:Shp} (h:s.Ok) {y f:Int} (hy:y<=s.top) (hf:0<=f):s.nx y f<=s.top:=by have:=h.t0; have:=h.d0; unfold Shp.nx jw; split <;> omega
end Tw
namespace L2
variable {ρ:zd} {s t:yW} {i j l:yT} {is:yU} {k n:Nat} {x y d:PyData} {xs ys:y6} {sl:Sl}
theorem rb2 {α β:Type} {a:α} {f:α->Tr β}:(Tr.ret a).bind f=f a:=Eq.trans (Tr.ret_bind a f) (Eq.refl _)
noncomputable def lT (xs:y6):Tr y6:=.ret xs.reverse
noncomputable def Zbi (x:PyData):Tr y6:=(gw x).bind lT
theorem ZmW:vf i ρ=(i ρ).bind Zbi:=rfl
theorem ZmS:Zbi x=(gw x).bind lT:=rfl
theorem ZmR:lT xs=.ret xs.reverse:=rfl
noncomputable def Zbh (xs:y6):Tr y6:=(oF xs).bind lT
theorem ZmV:ve is ρ=(is ρ).bind Zbh:=rfl
theorem ZmQ:Zbh xs=(oF xs).bind lT:=rfl
theorem uy (a b c d:Int):bn iI [.tuple [.int a,.int b],.tuple [.int c,.int d]]=.ret (if c < a\/c=a/\d < b then .tuple [.int c,.int d] else .tuple [.int a,.int b]):=by
 have h1:ints? [PyData.int a,.int b]=some [a,b]:=ints?_map [a,b]
 have h2:ints? [PyData.int c,.int d]=some [c,d]:=ints?_map [c,d]
 unfold bn iI
 simp only [h1,h2]
 show Tr.of (some _)=_
 rw [Tr.of_some]
 have e:HT.cX [c,d] [a,b]=true ↔ (c < a\/c=a/\d < b):=by
  simp only [HT.ZcH,HT.ZcG]
  by_cases hca:c=a
  ·subst hca
   by_cases hdb:d=b
   ·simp [hdb]
   ·simp [hdb]
  ·simp [hca]
 by_cases hc:(c < a\/c=a/\d < b)
 ·rw [if_pos (e.mpr hc),if_pos hc]; rfl
 ·rw [if_neg (λz=>hc (e.mp z)),if_neg hc]; rfl
theorem ZrH {α:Type} {t:Tr α} {P:α->Prop} (h:Al t 0 P):∃ a,t=.ret a/\P a:=by
 have h':=h.out
 cases t with
 | ret a=>exact ⟨a,rfl,h'⟩
 | draw w k=>exact h'.elim
 | fail=>exact h'.elim
theorem u8 {α:Type} {t:Tr α} {a:α} (h:Al t 0 λb=>b=a):t=.ret a:=by
 obtain ⟨b,e,rfl⟩:=ZrH h
 exact e
theorem Ze5 {α:Type} {t:Tr α} {a:α} {P:α->Prop} {N:Nat} (h:t=.ret a) (hp:P a):Al t N P:=by rw [h]; exact cj hp
theorem Zdd {s:yW} {g:yZ} {n:Nat} {full:y6} (I:List PyData->List Sl->Prop) {Q:Ou->Prop} (ht:∀ pre x post ρ,full=pre++x::post->I pre ρ->∃ ρ1,g x ρ=some ρ1/\(s ρ1).all n λo=>∃ ρ2,o=.next ρ2/\I (pre++[x]) ρ2) (hq:∀ ρ,I full ρ->Q (.next ρ)) :
  ∀ {xs pre:y6} {ρ:zd},full=pre++xs->I pre ρ->(ce g s xs ρ).all (xs.length * n) Q
 | [],pre,ρ,e,h0=>hq ρ (by rw [e,v7]; exact h0)
 | x::xs,pre,ρ,e0,h0=>by
  obtain ⟨ρ1,e,ha⟩:=ht pre x xs ρ e0 h0
  have en:(x::xs).length * n=n+xs.length * n:=by rw [vN,xl]; omega
  rw [en,qb,e,Tr.of_some,Tr.ret_bind]
  unfold mR
  refine Tr.all_bind ha λo ⟨ρ2,eo,h2⟩=>?_
  subst eo
  rw [mW]
  exact Zdd I ht hq (by rw [e0,ww]; rfl) h2
theorem qA {n N:Nat} {g:yZ} {s:yW} {xs:y6} {ρ:zd} {Q:Ou->Prop} (I:List PyData->List Sl->Prop) (h0:I [] ρ) (hN:xs.length * n<=N) (ht:∀ pre x post ρ,xs=pre++x::post->I pre ρ->∃ ρ1,g x ρ=some ρ1/\Al (s ρ1) n λo=>∃ ρ2,o=.next ρ2/\I (pre++[x]) ρ2) (hq:∀ ρ,I xs ρ->Q (.next ρ)):Al (ce g s xs ρ) N Q :=
 .of (Tr.all_mono (Zdd (full:=xs) I (λpre x post ρ e h=>let ⟨ρ1,e,a⟩:=ht pre x post ρ e h; ⟨ρ1,e,a.out⟩) hq (pre:=[]) rfl h0) hN λ_ h=>h)
theorem ZhS {lo hi:Int} {pre post:y6} {x:PyData} (h:bp lo hi=pre++x::post):x=.int (lo+pre.length)/\(pre.length:Int) < hi - lo:=by
 have h1:(bp lo hi)[pre.length]?=some x:=by rw [h]; simp
 have hl:pre.length < (bp lo hi).length:=(vH.mp h1).1
 rw [cF] at hl
 unfold bp bD at h1
 rw [wL,v5,wI (by omega)] at h1
 refine ⟨?_,by omega⟩
 cases h1
 rfl
theorem ZhR {lo hi:Int} {pre post:y6} {x:PyData} (h:(bp lo hi).reverse=pre++x::post):x=.int (hi - 1 - pre.length)/\(pre.length:Int) < hi - lo:=by
 have h1:((bp lo hi).reverse)[pre.length]?=some x:=by rw [h]; simp
 have hl:pre.length < ((bp lo hi).reverse).length:=(vH.mp h1).1
 rw [wt,cF] at hl
 rw [wZ (by rw [cF]; exact hl),cF] at h1
 unfold bp bD at h1
 rw [wL,v5,wI (by omega)] at h1
 refine ⟨?_,by omega⟩
 cases h1
 show PyData.int (lo+(((hi - lo).toNat - 1 - pre.length:Nat):Int))=_
 congr 1
 omega
theorem ZhT {lo hi:Int} {x:PyData} (h:x∈bp lo hi):∃ z:Int,x=.int z/\lo<=z/\z < hi:=by
 unfold bp at h
 obtain ⟨z,hz,rfl⟩:=wQ.mp h
 have:=si hz
 exact ⟨z,rfl,by omega,by omega⟩
theorem ZcA {h:PyData->Tr PyData} {f:Int->PyData} {lo hi:Int} (hx:∀ z:Int,lo<=z->z < hi->h (.int z)=.ret (f z)):bH h (bp lo hi)=.ret ((bD lo (hi - lo).toNat).map f):=by
 have key:∀ l:y8,(∀ z∈l,lo<=z/\z < hi)->bH h (l.map PyData.int)=.ret (l.map f):=by
  intro l
  induction l with
  | nil=>intro _; rfl
  | cons z l ih =>
   intro hz
   have hh:=hz z (by simp)
   rw [vG,bH,hx z hh.1 hh.2,Tr.ret_bind,ih λy hy=>hz y (vC _ hy)]
   rfl
 unfold bp
 refine key _ λz hz=>?_
 have:=si hz
 omega
theorem Zpq {xs:y6} {pre post:y6} {x:PyData} (h:ft xs=pre++x::post):∃ y,xs[pre.length]?=some y/\x=.tuple [.int pre.length,y]:=by
 have h1:(ft xs)[pre.length]?=some x:=by rw [h]; simp
 unfold ft at h1
 rw [List.getElem?_zipWith] at h1
 cases hx:xs[pre.length]? with
 | none=>rw [hx] at h1; simp at h1
 | some y =>
  have hl:pre.length < xs.length:=(vH.mp hx).1
  rw [hx,wI hl] at h1
  simp at h1
  exact ⟨y,rfl,h1.symm⟩
theorem Zpr (xs:y6):(ft xs).length=xs.length:=by unfold ft; simp
end L2
namespace Tw
open L2
noncomputable def bst (g:Int->Int) (top:Int):Nat->Int×Int
 | 0=>(g top,top)
 | n+1=>if (bst g top n).1 < g (top - ((n+1:Nat):Int)) then bst g top n else (g (top - ((n+1:Nat):Int)),top - ((n+1:Nat):Int))
theorem qv (g:Int->Int) (top:Int):∀ n:Nat,top - n<=(bst g top n).2/\(bst g top n).2<=top/\g (bst g top n).2=(bst g top n).1
 | 0=>by unfold bst; simp
 | n+1=>by
  have ih:=qv g top n
  unfold bst
  split
  ·exact ⟨by omega,ih.2.1,ih.2.2⟩
  ·exact ⟨xA _,by omega,rfl⟩
noncomputable def pck (g:Int->Int) (top K x:Int):Int×Int :=
 match (top - x).toNat with
 | 0=>(g x,x)
 | n+1=>if K+(bst g top n).1 < g x then (K+(bst g top n).1,(bst g top n).2) else (g x,x)
noncomputable def cst (g:Int->Int) (top K P x:Int):Int:=(pck g top K x).1 - P * x
noncomputable def lvl (g:Int->Int) (top K x:Int):Int:=(pck g top K x).2
theorem Zcb (g:Int->Int) (top K:Int):pck g top K top=(g top,top):=by
 unfold pck
 rw [Int.sub_self]
 rfl
theorem Zcc (g:Int->Int) (top K:Int) (n:Nat):pck g top K (top - ((n+1:Nat):Int))=if K+(bst g top n).1 < g (top - ((n+1:Nat):Int)) then (K+(bst g top n).1,(bst g top n).2) else (g (top - ((n+1:Nat):Int)),top - ((n+1:Nat):Int)):=by
 unfold pck
 have e:(top - (top - ((n+1:Nat):Int))).toNat=n+1:=by omega
 rw [e]
theorem sU {g:Int->Int} {top K x:Int} (hx:x<=top):x<=(pck g top K x).2/\(pck g top K x).2<=top/\(((pck g top K x).2=x/\(pck g top K x).1=g x)\/(x < (pck g top K x).2/\(pck g top K x).1=K+g (pck g top K x).2/\(pck g top K x).1 < g x)):=by
 by_cases ht:x=top
 ·subst ht
  rw [Zcb]
  exact ⟨xA _,xA _,.inl ⟨rfl,rfl⟩⟩
 ·obtain ⟨n,hn⟩:∃ n:Nat,x=top - ((n+1:Nat):Int):=⟨(top - x - 1).toNat,by omega⟩
  subst hn
  rw [Zcc]
  have hb:=qv g top n
  split
  ·rename_i hc
   exact ⟨by dsimp only; omega,hb.2.1,.inr ⟨by dsimp only; omega,by dsimp only; rw [hb.2.2],hc⟩⟩
  ·exact ⟨xA _,by dsimp only; omega,.inl ⟨rfl,rfl⟩⟩
theorem ZiX {g:Int->Int} {top K x:Int} {b:Nat} (hx:x<=top) (hg:∀ y,x<=y->y<=top->nb b (g y)) (hK:nb b K):nb (b+1) (pck g top K x).1:=by
 obtain ⟨h1,h2,h3⟩:=sU (g:=g) (K:=K) hx
 rcases h3 with ⟨e1,e2⟩ | ⟨e1,e2,e3⟩
 ·rw [e2]
  exact bK (hg x (xA _) hx) (by omega)
 ·rw [e2]
  exact bK (iD hK (hg _ h1 h2)) (by omega)
structure DayB (l:y8):Prop where
 len:l.length<=16
 nb:∀ w∈l,nb 30 w
 w0:∀ w∈l,0<=w
 pos:0 < l.sum
theorem ql {s:Shp} (h:s.Ok) {y f:Int} (hy:nb 20 y) (hf:nb 40 f):nb 100 (s.day y f):=by
 have hd:nb 7 s.depth:=by have:=h.t0; have:=h.d0; have:=h.td; exact cB (by show -128 < _; omega) (by show _ < 128; omega)
 have hn:nb 50 (s.nx y f):=by
  unfold Shp.nx jw
  exact pf (bK (gW hd) (by decide)) (bK (jt hy hf) (by decide))
 unfold Shp.day
 refine bK (iD (pf (k:=95) (cu h.keep hn) (cu h.lack (gW hn))) (cu h.lost (jt hn (jt hy hf)))) (by decide)
def Bd (s:Shp) (b:Nat) (f:Int->Int):Prop:=∀ x,-s.depth<=x->x<=s.top->nb b (f x)
theorem ZfJ {s:Shp} (h:s.Ok) {day:y8} (hd:DayB day) {y:Int} (y1:-s.depth<=y) (y2:y<=s.top) {A:Int->Int} {b:Nat} (hA:Bd s b A) {sc:Int} (hs:nb b sc):nb (b+150) (s.wg day y A sc):=by
 have:=h.t0
 have:=h.d0
 have:=h.td
 have hlen:=hd.len
 have hy:nb 20 y:=cB (by show -1048576 < _; omega) (by show _ < 1048576; omega)
 have key:∀ (l:y8) (k:Nat),(∀ w∈l,nb 30 w)->k+l.length<=16->nb (30+(b+101)+l.length) (ws (λf=>sc * s.day y f+A (s.nx y f)) k l):=by
  intro l
  induction l with
  | nil=>intro k _ _; unfold ws nb; exact xr (by simp)
  | cons w l ih =>
   intro k hw hk
   rw [vN] at hk ⊢
   have hf:nb 40 (k:Int):=cB (by show -1099511627776 < _; omega) (by show _ < 1099511627776; omega)
   have b1:=iD (cu hs (ql h hy hf)) (hA _ (tm s y k) (tj h y2 (show (0:Int)<=k by omega)))
   have h1:=cu (hw w (by simp)) b1
   have h2:=ih (k+1) (λv hv=>hw v (vC _ hv)) (by omega)
   unfold ws
   exact bK (iD h1 h2) (by omega)
 exact bK (key day 0 hd.nb (by omega)) (by omega)
theorem il {day:y8} (hd:DayB day):nb 46 day.sum:=bK (ZaQ hd.nb) (by have:=hd.len; omega)
theorem ZaZ {s:Shp} (h:s.Ok) {day:y8} (hd:DayB day) {A:Int->Int} {b:Nat} (hA:Bd s b A) {sc:Int} (hs:nb b sc):Bd s (b+151) (s.sm day A sc):=λy y1 y2=>by
 have:=h.t0
 have:=h.d0
 have:=h.td
 have hy:nb 20 y:=cB (by show -1048576 < _; omega) (by show _ < 1048576; omega)
 unfold Shp.sm
 exact bK (iD (cu (cu (cu hs (il hd)) h.piece) hy) (ZfJ h hd y1 y2 hA hs)) (by omega)
noncomputable def Shp.bk (s:Shp):List y8->(Int->Int)×Int
 | []=>(s.fin,1)
 | day::rest=>(cst (s.sm day (s.bk rest).1 (s.bk rest).2) s.top ((s.bk rest).2 * day.sum * s.start) ((s.bk rest).2 * day.sum * s.piece),(s.bk rest).2 * day.sum)
noncomputable def Shp.sms (s:Shp) (day:y8) (rest:List y8) (y:Int):Int:=s.sm day (s.bk rest).1 (s.bk rest).2 y
theorem m9 {s:Shp}:∀ {fs:List y8},(∀ l∈fs,DayB l)->0 < (s.bk fs).2
 | [],_=>by show (0:Int) < 1; decide
 | day::rest,h=>Int.mul_pos (m9 λl hl=>h l (vC _ hl)) (h day (by simp)).pos
theorem Zdj {s:Shp} (h:s.Ok):Bd s 100 s.fin:=λx h1 h2=>by
 have:=h.t0
 have:=h.d0
 have:=h.td
 have hx:nb 20 x:=cB (by show -1048576 < _; omega) (by show _ < 1048576; omega)
 unfold Shp.fin
 exact bK (pf (k:=65) (cu (gW h.back) hx) (cu h.late (gW hx))) (by decide)
theorem ZqJ {s:Shp} (h:s.Ok) {g:Int->Int} {b:Nat} (hg:Bd s b g) {sc:Int} (hs:nb b sc):Bd s (b+112) (cst g s.top (sc * s.start) (sc * s.piece)):=λx h1 h2=>by
 have:=h.t0
 have:=h.d0
 have:=h.td
 have hx:nb 20 x:=cB (by show -1048576 < _; omega) (by show _ < 1048576; omega)
 unfold cst
 have k1:=ZiX (b:=b+45) (K:=sc * s.start) h2 (λy y1 y2=>bK (hg y (by omega) y2) (by omega)) (cu hs h.start)
 exact bK (jt k1 (cu (cu hs h.piece) hx)) (by omega)
theorem ZeD {s:Shp} (h:s.Ok):∀ {fs:List y8},(∀ l∈fs,DayB l)->Bd s (100+300 * fs.length) (s.bk fs).1/\nb (100+300 * fs.length) (s.bk fs).2
 | [],_=>⟨Zdj h,cB (by show -(2 ^ 100:Nat) < (1:Int); omega) (by show (1:Int) < (2 ^ 100:Nat); omega)⟩
 | day::rest,hf=>by
  obtain ⟨i1,i2⟩:=ZeD h (fs:=rest) λl hl=>hf l (vC _ hl)
  have hd:=hf day (by simp)
  have k1:=ZaZ h hd i1 i2
  have k2:=cu i2 (il hd)
  rw [vN]
  refine ⟨λx h1 h2=>bK (ZqJ h (b:=100+300 * rest.length+151) k1 (bK k2 (by omega)) x h1 h2) (by omega),bK k2 (by omega)⟩
theorem Zh0 {fs:List y8} {pre post:y6} {x:PyData} (h:(fs.map tI).reverse=pre++x::post):∃ (day:y8),x=tI day/\pre.length < fs.length/\fs.drop (fs.length - (pre.length+1))=day::fs.drop (fs.length - pre.length):=by
 have h1:((fs.map tI).reverse)[pre.length]?=some x:=by rw [h]; simp
 have hl:pre.length < ((fs.map tI).reverse).length:=(vH.mp h1).1
 rw [wt,vB] at hl
 rw [wZ (by rw [vB]; exact hl),vB,v5] at h1
 obtain ⟨day,hd,rfl⟩:=wG.mp h1
 refine ⟨day,rfl,hl,?_⟩
 have e:fs.length - (pre.length+1)=fs.length - 1 - pre.length:=by rw [Nat.add_comm pre.length 1,Nat.sub_add_eq]
 have e2:fs.length - pre.length=fs.length - 1 - pre.length+1:=by omega
 rw [e,e2,wK (by omega)]
 congr 1
 exact (vH.mp hd).2
noncomputable abbrev rng (lo hi:Int):y8:=bD lo (hi - lo).toNat
variable {α:Type}
noncomputable def f3 (lo a b c:Int) (t:Int->Int->Int->Option α):Option α:=(rng lo a).findSome? λu=>(rng (u+1) b).findSome? λv=>(rng (v+1) c).findSome? λw=>t u v w
structure Shp.Dr (s:Shp):Prop where
 t0:0<=s.top
 d0:0<=s.depth
 td:s.top+s.depth<=39
 p:∀ n∈[s.start,s.piece,s.keep,s.lack,s.lost,s.back,s.late],0<=n/\n<=1000000
theorem Shp.Dr.ok {s:Shp} (h:s.Dr):s.Ok:=by
 have hp:=h.p
 simp only [vD,wa,or_false,forall_eq_or_imp,forall_eq] at hp
 obtain ⟨h1,h2,h3,h4,h5,h6,h7⟩:=hp
 have k:∀ n:Int,0<=n/\n<=1000000->nb 45 n:=λn hn=>cB (by show -35184372088832 < _; omega) (by show _ < 35184372088832; omega)
 exact ⟨h.t0,h.d0,by have:=h.td; omega,h1.1,k _ h1,k _ h2,k _ h3,k _ h4,k _ h5,k _ h6,k _ h7⟩
theorem Zg7 {a b c d e f g h i:Int}:PyData.tuple [.int a,.int b,.int c,.int d,.int e,.int f,.int g,.int h,.int i]=(Shp.mk a b c d e f g h i).d:=by
 unfold Shp.d
 rfl
theorem ZkT (l:List y8):gw (fD l)=.ret (l.map tI):=rfl
theorem ZgN (l:y8):bn gN [tI l]=.ret (.int l.sum):=uu l
structure Rp (d:PyData) (k n:Nat):Prop where
 hd:d.hasDict=false
 sh:d.showable=true
 dp:d.depth<=k
 ln:d.shown.length<=n
theorem oE {d:PyData} {k n k' n':Nat} (h:Rp d k n) (hk:k<=k') (hn:n<=n'):Rp d k' n':=⟨h.hd,h.sh,vO h.dp hk,vO h.ln hn⟩
theorem ZhN {i:Int} (h:nb 1900 i):Rp (.int i) 0 1901:=by
 have h1:=Za8 [i] λn hn=>by simp at hn; subst hn; exact h
 have h2:=(Za7 [i] λn hn=>by simp at hn; subst hn; exact h).1
 refine ⟨rfl,?_,wN _,?_⟩
 ·simp only [vG,wR,PyData.showableAll,yR] at h1
  exact h1
 ·simp only [vG,wR,PyData.shownAll,wo,List.sum_nil,vN,wU] at h2
  omega
theorem sf {k n:Nat}:∀ {xs:y6},(∀ x∈xs,Rp x k n)->PyData.hasDictAll xs=false/\PyData.showableAll xs=true/\PyData.depthAll xs<=k/\((PyData.shownAll xs).map (·.length)).sum<=xs.length * n/\(PyData.shownAll xs).length=xs.length
 | [],_=>⟨rfl,rfl,wN _,by simp [PyData.shownAll],rfl⟩
 | x::xs,h=>by
  obtain ⟨h1,h2,h3,h4,h5⟩:=sf (xs:=xs) λy hy=>h y (vC _ hy)
  have hx:=h x (by simp)
  refine ⟨?_,?_,?_,?_,?_⟩
  ·rw [PyData.hasDictAll,hx.hd,h1]; rfl
  ·rw [PyData.showableAll,hx.sh,h2]; rfl
  ·rw [PyData.depthAll]; have:=hx.dp; omega
  ·rw [PyData.shownAll,vG,wo,vN,xl]; have:=hx.ln; omega
  ·rw [PyData.shownAll,vN,vN,h5]
theorem ZhJ {xs:y6} {k n:Nat} (h:∀ x∈xs,Rp x k n):Rp (.tuple xs) (k+1) (xs.length * n+2 * xs.length+10):=by
 obtain ⟨h1,h2,h3,h4,h5⟩:=sf h
 have c3:=tupleText_len_le (PyData.shownAll xs)
 refine ⟨?_,?_,?_,?_⟩
 ·rw [PyData.hasDict,h1]
 ·rw [PyData.showable,h2]
 ·rw [PyData.depth]; omega
 ·rw [PyData.shown]; omega
theorem ZhM {xs:y6} {k n:Nat} (h:∀ x∈xs,Rp x k n):Rp (.list xs) (k+1) (xs.length * n+2 * xs.length+10):=by
 obtain ⟨h1,h2,h3,h4,h5⟩:=sf h
 have c3:=listText_len_le (PyData.shownAll xs)
 refine ⟨?_,?_,?_,?_⟩
 ·rw [PyData.hasDict,h1]
 ·rw [PyData.showable,h2]
 ·rw [PyData.depth]; omega
 ·rw [PyData.shown]; omega
theorem euclid {p:yV} {s:yW} {E:Nat->Nat->List Sl} (hp:∀ a b:Nat,p (E a b)=.ret (decide (b≠0))) (hs:∀ a b:Nat,b≠0->s (E a b)=.ret (.next (E b (a % b)))) :
  ∀ n k a b:Nat,b < 2 ^ n->cV p s (2 * n+1+k) (E a b)=.ret (.next (E (Nat.gcd a b) 0)):=by
 have stop:∀ k a:Nat,cV p s (k+1) (E a 0)=.ret (.next (E a 0)):=λk a=>by
  rw [cV,hp,Tr.ret_bind]
  rfl
 have go:∀ k a b:Nat,b≠0->cV p s (k+1) (E a b)=cV p s k (E b (a % b)):=λk a b hb=>by
  rw [cV,hp,Tr.ret_bind,decide_eq_true hb,if_pos rfl,hs a b hb,Tr.ret_bind]
 intro n
 induction n with
 | zero =>
  intro k a b hb
  have e:b=0:=by simp at hb; exact hb
  subst e
  rw [Nat.gcd_zero_right,Nat.add_comm (2 * 0+1) k]
  exact stop k a
 | succ n ih =>
  intro k a b hb
  by_cases h0:b=0
  ·subst h0
   have e:2 * (n+1)+1+k=(2 * (n+1)+k)+1:=by omega
   rw [Nat.gcd_zero_right,e]
   exact stop _ a
  ·have e:2 * (n+1)+1+k=(2 * n+2+k)+1:=by omega
   rw [e,go _ a b h0]
   have hr:a % b < b:=yo _ (xr h0)
   by_cases h1:a % b=0
   ·rw [h1]
    have e2:2 * n+2+k=(2 * n+1+k)+1:=by omega
    have eg:Nat.gcd a b=b:=by rw [yt,Nat.gcd_rec,h1,Nat.gcd_zero_left]
    rw [e2,eg]
    exact stop _ b
   ·have e2:2 * n+2+k=(2 * n+1+k)+1:=by omega
    rw [e2,go _ b (a % b) h1]
    have hlt:b % (a % b) < 2 ^ n:=by
     have h2:b % (a % b) < a % b:=yo _ (xr h1)
     have h3:b % (a % b)+a % b<=b:=by
      have h4:=Nat.div_add_mod b (a % b)
      have h5:1<=b / (a % b):=(Nat.le_div_iff_mul_le (xr h1)).mpr (by omega)
      have h6:a % b<=(a % b) * (b / (a % b)):=Nat.le_mul_of_pos_right _ h5
      omega
     rw [x9] at hb
     omega
    rw [ih k (a % b) (b % (a % b)) hlt]
    have eg:Nat.gcd a b=Nat.gcd (a % b) (b % (a % b)):=by
     rw [yt a b,Nat.gcd_rec b a,Nat.gcd_rec (a % b) b,yt]
    rw [eg]
theorem Zdi (a b:Nat):(a:Int).fmod (b:Int)=((a % b:Nat):Int):=by
 rw [xL _ (Int.natCast_nonneg b)]
 rfl
theorem Ze9 (n:Int):iY n=(n.natAbs:Int):=by
 unfold iY
 split <;> omega
noncomputable def ke (t b:Int):PyData:=.tuple [.int (Gc.gr t b),.int (Gc.fN t b)]
theorem Zkc {t b:Int} {k l:Nat} (ht:nb k t) (hb:nb l b) (h0:b≠0):nb k (Gc.gr t b)/\nb l (Gc.fN t b):=by
 obtain ⟨h1,h2⟩:=Gc.ZcE (t:=t) h0
 exact ⟨wM h1 ht,wM h2 hb⟩
theorem uI {t b:Int} {l:Nat} (hb:nb l b) (h0:b≠0):nb l (Gc.den t b):=by
 unfold nb
 rw [Gc.qh]
 exact wM (Nat.gcd_le_right _ (by omega)) hb
noncomputable def uA (c sc l:Int):PyData:=.tuple [ke c sc,.int l]
noncomputable def Shp.lv (s:Shp) (day:y8) (rest:List y8) (x:Int):Int:=lvl (s.sms day rest) s.top ((s.bk rest).2 * day.sum * s.start) x
noncomputable def Shp.tday (s:Shp) (day:y8) (rest:List y8):PyData:=.tuple ((bD (-s.depth) s.n).map λx=>uA ((s.bk (day::rest)).1 x) (s.bk (day::rest)).2 (s.lv day rest x))
noncomputable def Shp.tab (s:Shp):List y8->List PyData
 | []=>[]
 | day::rest=>s.tday day rest::s.tab rest
theorem ZaF (s:Shp):∀ fs:List y8,(s.tab fs).length=fs.length
 | []=>rfl
 | d::r=>by rw [Shp.tab,vN,vN,ZaF s r]
noncomputable def pr (p:Int×Int):y8:=[p.1,p.2]
end Tw
namespace L2
noncomputable def fL (h:Heap) (fs:List Addr):Heap:=⟨h.objs.mapIdx λi o=>if i∈fs then { o with data:=.freed } else o,h.life⟩
theorem iB {h:Heap} {fs:List Addr} {b:Addr} (hb:b∈fs):(fL h fs).get? b=none:=by
 unfold fL Heap.get?
 simp only [Array.getElem?_mapIdx]
 cases h.objs[b]? with
 | none=>rfl
 | some o=>simp [hb]
theorem dR {h:Heap} {fs:List Addr} {b:Addr} (hb:b ∉ fs):(fL h fs).get? b=h.get? b:=by
 unfold fL Heap.get?
 simp only [Array.getElem?_mapIdx]
 cases h.objs[b]? with
 | none=>rfl
 | some o=>simp [hb]
theorem pd (h:Heap) (fs:List Addr):(fL h fs).StaysIn h:=λb o e=>by
 by_cases hb:b∈fs
 ·rw [iB hb] at e; cases e
 ·rw [dR hb] at e; exact e
theorem ffr {h base:Heap} {l:List Env} (hl:h.FunFrames base l) (fs:List Addr) (hf:∀ b∈frs l,b∈fs):h.FunFrames (fL h fs) l:=by
 induction l with
 | nil=>trivial
 | cons env rest ih =>
  obtain ⟨hk,⟨L,o,he,hn,ho,hd⟩,hr⟩:=hl
  have hm:∀ b∈frs rest,b∈frs (env::rest):=λb hb=>by
   unfold frs at hb ⊢
   rw [wz,he]
   exact vC _ hb
  refine ⟨hk,⟨L,o,he,iB (hf L ?_),ho,hd⟩,ih hr λb hb=>hf b (hm b hb)⟩
  unfold frs
  rw [wz,he]
  exact wx
theorem HOk.tracked {P:Program} {w:World} {H:Hp} {h h':Heap} (x:HOk P w H h) (k:∀ b u,H b≠none->h.get? b=some u->h'.get? b=some u):HOk P w H h':=λa o e =>
 (x a o e).stay (λb u hb q=>k b u (λz=>by rcases hb with r | r <;> (first | (subst r; rw [z] at e; cases e) | (rw [z] at r; cases r))) q) (λ_ q=>q) (λ_ _ q=>q) λ_ _ _ _ q _=>q
theorem ObjOk.get {P:Program} {w:World} {H:Hp} {h:Heap} {a:Addr} {o:HO} (x:ObjOk P w H h a o):∃ u,h.get? a=some u:=by
 cases o with
 | lst xs=>obtain ⟨_,_,_,_,e⟩:=x; exact ⟨_,e⟩
 | tup xs=>obtain ⟨_,_,_,ob,e,_⟩:=x; exact ⟨_,e⟩
 | dK kvs=>obtain ⟨_,_,_,_,o,_,_,e,_⟩:=x; exact ⟨_,e⟩
 | dT kvs=>obtain ⟨_,_,_,_,o,_,_,e,_⟩:=x; exact ⟨_,e⟩
 | set S n=>obtain ⟨o,_,_,_,e,_⟩:=x; exact ⟨_,e⟩
 | ins C dx fs=>obtain ⟨_,_,_,e,_⟩:=x; exact ⟨_,e⟩
 | own y=>obtain ⟨_,e⟩:=x; exact ⟨_,e⟩
 | xd fs=>obtain ⟨_,⟨_,_,_,e,_⟩,_⟩:=x; exact ⟨_,e⟩
 | rng lo hi=>obtain ⟨_,_,_,e⟩:=x; exact ⟨_,e⟩
 | frz ob u=>obtain ⟨e,_⟩:=x; exact ⟨_,e⟩
 | tbl ps=>exact ⟨_,(show h.get? a=some _ from x)⟩
 | met f y=>exact ⟨_,(show h.get? a=some _ from x)⟩
 | ext φ=>obtain ⟨_,⟨_,e⟩,_⟩:=x; exact ⟨_,e⟩
 | cod ps=>obtain ⟨_,e,_⟩:=x; exact ⟨_,e⟩
noncomputable def bX (P:Program) (w:World):dY:=λouter H s E e s'=>∃ (ea t:Addr) (cls:Value) (b':Heap) (H':Hp),e=.ref ea/\s'.os=s.os/\AllBare s'.gens/\Un (frs outer) [] H H' s.heap s'.heap/\HOk P w H' s'.heap /\
 Heap.FlyingW b' outer ea cls (.ref t) s'.heap/\(∀ b o,s.heap.get? b=some o->b ∉ frs outer->∃ o',b'.get? b=some o')/\(∀ b,H' b≠none->∃ o',b'.get? b=some o')/\E cls none H'
theorem Zie {P:Program} {w:World} {K:yS} {mg:zc} {base:Heap} {N:za} {qual:Str} {scope:Scope} {f:Addr} {cd:Value} {A:Around} {outer:List Env} {s₀:Shared} {H₀:Hp} {E:XK}
  {pins:List (Addr×Obj)} {σ:St} {H:Hp} {s:Shared} {h':Heap} {e:Addr} {cls:Value} {args:y9}
  (I:Inv (cS (bX P w) P w K mg base N qual scope f cd A outer s₀ H₀ E) pins σ H s) (hx:Heap.MadeExcOf s.heap h' e cls args) (hE:E cls none H) :
  (cS (bX P w) P w K mg base N qual scope f cd A outer s₀ H₀ E).xe (.ref e) { s with heap:=h' }:=by
 let X:=cS (bX P w) P w K mg base N qual scope f cd A outer s₀ H₀ E
 have hst:s.heap.FunFrames base (envOfC qual scope s₀.heap.objs.size f cd::outer):=I.stack
 have hfree:∀ b∈frs (envOfC qual scope s₀.heap.objs.size f cd::outer),H b=none:=I.stkFree
 have hfr:(A.deeper (envOfC qual scope s₀.heap.objs.size f cd)).frames=some (envOfC qual scope s₀.heap.objs.size f cd::outer):=I.ok.frames
 have hbase:Un (frs outer) [] H₀ H s₀.heap s.heap:=I.base
 obtain ⟨_,⟨L,oL,hL,_,hoL,_⟩,_⟩:=id hst
 have hLe:L=s₀.heap.objs.size:=(vT hL).symm
 have hfs:∀ b,b∈frs (envOfC qual scope s₀.heap.objs.size f cd::outer) ↔ b=L\/b∈frs outer:=λb=>by
  unfold frs
  rw [wz,hL]
  exact vD
 show wpAny (model P w) (A.deeper (envOfC qual scope s₀.heap.objs.size f cd)) (leaving (envOfC qual scope s₀.heap.objs.size f cd) (.ref e)) (λ_ s''=>bX P w outer H₀ s₀ E (.ref e) s'') (λe' s''=>bX P w outer H₀ s₀ E e' s'') { s with heap:=h' }
 refine wpAny_leaves_madeW (s:={ s with heap:=h' }) (base:=fL s.heap (frs (envOfC qual scope s₀.heap.objs.size f cd::outer))) hfr hL (pd _ _) (ffr hst _ λb hb=>hb) hx λh'' t fl tup tn ups=>?_
 have stay:∀ b o,s.heap.get? b=some o->b ∉ frs (envOfC qual scope s₀.heap.objs.size f cd::outer)->h''.get? b=some o:=λb o hb hn=>fl.1 b o (by rw [dR hn]; exact hb)
 have slot:∀ b o,s.heap.get? b=some o->b∈frs (envOfC qual scope s₀.heap.objs.size f cd::outer)->∃ sl,h''.get? b=some { o with slots:=sl }:=λb o hb hn=>by
  obtain ⟨_,o',ho',hd⟩:=hst.mem hn
  rw [hb] at ho'
  cases ho'
  exact ups b o (hx.keeps b o hb) hd
 have old:∀ b o,s₀.heap.get? b=some o->b≠L:=λb o hb z=>by
  have:=vM hb
  rw [z,hLe] at this
  exact absurd this (vU _)
 have un:Un (frs outer) [] H₀ H s₀.heap h'':=by
  refine ⟨λb o hb hn hf hx=>?_,λb o hb hn hf hx=>?_,hbase.free,λb o hb hx=>?_,hbase.tups,hbase.frzs,hbase.tbls⟩
  ·exact stay b o (hbase.keep b o hb hn hf hx) λz=>((hfs b).mp z).elim (old b o hb) hf
  ·obtain ⟨sl,e1⟩:=hbase.slot b o hb hn hf hx
   obtain ⟨dC,e2⟩:=slot b _ e1 ((hfs b).mpr (.inr hf))
   exact ⟨dC,e2⟩
  ·obtain ⟨o',e1⟩:=hbase.there b o hb hx
   by_cases hq:b∈frs (envOfC qual scope s₀.heap.objs.size f cd::outer)
   ·obtain ⟨dC,e2⟩:=slot b _ e1 hq
    exact ⟨_,e2⟩
   ·exact ⟨o',stay b o' e1 hq⟩
 refine ⟨e,t,cls,_,H,rfl,I.os,I.bare,un,HOk.tracked I.hok λb u hb q=>stay b u q λz=>hb (hfree b z),fl,λb o hb hf=>?_,λb hb=>?_,hE⟩
 ·obtain ⟨o',e1⟩:=hbase.there b o hb (by simp)
  exact ⟨o',by rw [dR λz=>((hfs b).mp z).elim (old b o hb) hf]; exact e1⟩
 ·cases e1:H b with
  | none=>exact absurd e1 hb
  | some u =>
   obtain ⟨o',e2⟩:=(I.hok b u e1).get
   exact ⟨o',by rw [dR λz=>hb (hfree b z)]; exact e2⟩
theorem rebase {b' h:Heap} {l:List Env} {e:Addr} {cls a0:Value} (x:Heap.FlyingW b' l e cls a0 h):∃ T,b'.get? T=none/\(∃ oT ts,h.get? T=some oT/\oT.data=.fields ts)/\(∃ oe vs,h.get? e=some oe/\oe.cls=cls/\oe.data=.fields vs)/\Heap.FlyingW (fL h (e::T::frs l)) l e cls a0 h:=by
 obtain ⟨f1,f2,f3,oe,vs,T,oT,ts,he,hc,hd,h1,hT,hTe,hoT,hdT,h3⟩:=x
 refine ⟨T,hT,⟨oT,ts,hoT,hdT⟩,⟨oe,vs,he,hc.1,hd⟩,pd _ _,iB (by simp),ffr f3 _ λb hb=>vC _ (vC _ hb),oe,vs,T,oT,ts,he,hc,hd,h1,iB (by simp),hTe,hoT,hdT,h3⟩
theorem lands {P:Program} {w:World} {A:Around} {env:Env} {outer:List Env} {L:Addr} {H:Hp} {s:Shared} {b':Heap} {e:Addr} {cls a0:Value} {Q:Unit->Shared->Prop} {E:y4}
  (hfr:A.frames=some (env::outer)) (hf:env.frame=some L) (hfl:Heap.FlyingW b' (env::outer) e cls a0 s.heap) (hok:HOk P w H s.heap) (hst:∀ b∈frs (env::outer),H b=none) (ht:∀ b,H b≠none->∃ o',b'.get? b=some o')
  (k:∀ h' T,b'.get? T=none->T ∉ frs (env::outer)->Un (frs (env::outer)) [e,T] H H s.heap h'->HOk P w H h'->Heap.FlyingW (fL s.heap (e::T::frs (env::outer))) (env::outer) e cls a0 h'->Q () { s with heap:=h' }) :
  wpAny (model P w) A (noteFrame (.ref e) env) (λ_ s₂=>wpAny (model P w) A (setFlight (.ref e) none) Q E s₂) E s:=by
 obtain ⟨T,hT,⟨oT,ts,hoT,hdT⟩,⟨oe,vs,hoe,hoc,hod⟩,fl⟩:=rebase hfl
 have nof:∀ {b:Addr} {o:Obj} {us:Array Value},s.heap.get? b=some o->o.data=.fields us->b ∉ frs (env::outer):=λ{b o us} h1 h2 z=>by
  obtain ⟨_,o',ho',hd⟩:=hfl.2.2.1.mem z
  rw [h1] at ho'
  cases ho'
  exact hd us h2
 refine wpAny_looks_onW hfr hf fl λh₄ held ups₄=>?_
 refine wpAny_landsW held λh₅ fl₅ ups₅=>?_
 have ups:=ups₄.trans ups₅
 have stay:∀ b o,s.heap.get? b=some o->b ∉ frs (env::outer)->b ∉ [e,T]->h₅.get? b=some o:=λb o hb hn hx=>fl₅.1 b o (by
  rw [dR]
  ·exact hb
  ·intro z
   rcases vD.mp z with z | z
   ·exact hx (by simp [z])
   ·rcases vD.mp z with z | z
    ·exact hx (by simp [z])
    ·exact hn z)
 have slot:∀ b o,s.heap.get? b=some o->b∈frs (env::outer)->∃ sl,h₅.get? b=some { o with slots:=sl }:=λb o hb hn=>by
  obtain ⟨_,o',ho',hd⟩:=hfl.2.2.1.mem hn
  rw [hb] at ho'
  cases ho'
  exact ups b o hb hd
 have non:∀ b,b'.get? b=none->H b=none:=λb hb=>by
  cases e1:H b with
  | none=>rfl
  | some u =>
   obtain ⟨o',e2⟩:=ht b (by rw [e1]; simp)
   rw [hb] at e2; cases e2
 have he:H e=none:=non e hfl.2.1
 have hTn:H T=none:=non T hT
 refine k h₅ T hT (nof hoT hdT) ⟨λb o hb hn hf hx=>stay b o hb hf hx,λb o hb hn hf hx=>slot b o hb hf,λb o hb hn hx=>hn,λb o hb hx=>?_,λ_ _ z=>z,λ_ _ _ z=>z,λb ps z=>⟨#[],by rw [z,ym]⟩⟩
  (HOk.tracked hok λb u hb q=>stay b u q (λz=>hb (hst b z)) λz=>?_) fl₅
 ·by_cases hq:b∈frs (env::outer)
  ·obtain ⟨sl,e1⟩:=slot b o hb hq
   exact ⟨_,e1⟩
  ·exact ⟨o,stay b o hb hq hx⟩
 ·rcases vD.mp z with z | z
  ·subst z; exact hb he
  ·rcases vD.mp z with z | z
   ·subst z; exact hb hTn
   ·cases z
structure Xcl (K:yS) (C:Addr) (bmB:y9) (newId:String):Prop where
 ex:∃ (nm q:Str) (N:Addr) (bs bm:y9) (hdct:Bool) (sn:za) (sub:y9) (ab:Bool) (col:Option Bool) (dd:Option Addr) (k0 k1 k2 k3 k5:Option Value) (mN:zc),
  K.lookup C=some (excClassObj nm q C N bs bm hdct sn sub ab col dd k0 k1 k2 k3 k5 newId)/\(∀ h:Heap,K.In h->h.Ns N mN/\OwnTail h bmB bm)/\mN "__init__"=none/\bm.contains (.type "BaseException")=true
theorem Zid {X:Cx} {pins:List (Addr×Obj)} {σ:St} {H:Hp} {s:Shared} {x:Str} {np cpos pos:Pos} {arg:Expr} {C:Addr} {B newId initId:String} {bmB:y9} {t:TE} {Q:Flow->Shared->Prop}
  (F:ExcBaseFacts B newId initId bmB) (c:Xcl X.K C bmB newId) (hg:Gl X x) (hm:X.mg x=some (.ref C)) (hc:X.calm=true) (ha:PE X arg t) (I:Inv X pins σ H s)
  (h:t σ H λv H1=>∀ s1 h' e args,Inv X pins σ H1 s1->Heap.MadeExcOf s1.heap h' e (.ref C) args->X.xe (.ref e) { s1 with heap:=h' })
  (hs:starEach [arg] X.env=[(false,eval arg X.env)]:=by rfl) (hdb:(x == ("__debug__":Str))=false:=by decide) :
  wpAny (model X.prog X.w) X.A (exec (.Raise (some (.Call (.Name x np) [arg] [] cpos)) none pos) X.env) Q X.xe s:=by
 obtain ⟨nm,q,N,bs,bm,hdct,sn,sub,ab,col,dd,k0,k1,k2,k3,k5,mN,lk,hn,hni,hb⟩:=c.ex
 refine wpAny_Raise_call_subT (C:=C) (nm:=nm) (q:=q) (N:=N) (bs:=bs) (bm:=bm) (hdct:=hdct) (sn:=sn) (sub:=sub) (ab:=ab) (col:=col) (dd:=dd) (k0:=k0) (k1:=k1) (k2:=k2) (k3:=k3) (k5:=k5) (mN:=mN) F hb (I.ok.hd hc) (by rw [hs]; rfl) hni ?_
 refine tU I hg hm ⟨rfl,?_⟩ (hd:=hdb)
 rw [hs]
 refine Calls.evalArgs_plain (Calls.spliced_cons (thn (ha pins s σ H _ I h) λu s1 hz0=>Calls.spliced_nil ?_))
 obtain ⟨v,H1,I1,r1,z⟩:=hz0
 have KX:X.K.In s1.heap:=I1.kIn
 exact ⟨rfl,by show 1<=sizeLine; decide,KX _ _ lk,(hn _ KX).1,(hn _ KX).2,λh' e hx=>z s1 h' e _ I1 hx⟩
theorem oY {P:Program} {w:World} {K:yS} {mg:zc} {base:Heap} {N:za} {qual:Str} {scope:Scope} {f:Addr} {cd:Value} {A:Around} {outer:List Env} {s₀:Shared} {H₀:Hp} {E:XK}
  {x msg:Str} {np cpos pos mp:Pos} {mk:Nat} {C:Addr} {B newId initId:String} {bmB:y9}
  (F:ExcBaseFacts B newId initId bmB) (c:Xcl K C bmB newId) (hg:Gl (cS (bX P w) P w K mg base N qual scope f cd A outer s₀ H₀ E) x) (hm:mg x=some (.ref C)) (hdb:(x == ("__debug__":Str))=false:=by decide) :
  PS (cS (bX P w) P w K mg base N qual scope f cd A outer s₀ H₀ E) (.Raise (some (.Call (.Name x np) [.Constant (.str msg) mk mp] [] cpos)) none pos) (λ_ _ H=>E (.ref C) none H):=by
 intro pins s σ H D I h
 exact Zid F c hg hm rfl dP I (λs1 h' e args I1 hx=>Zie I1 hx h) rfl hdb
theorem Un.skip {fs ex:List Addr} {H H1 H2:Hp} {h h1 h2:Heap} (a:Un fs [] H H1 h h1) (b:Un fs ex H1 H2 h1 h2) (hx:∀ c∈ex,h.get? c=none):Un fs [] H H2 h h2:=by
 have no:∀ {c:Addr} {o:Obj},h.get? c=some o->c ∉ ex:=λ{c o} e z=>by rw [hx c z] at e; cases e
 refine ⟨λc o e n f _=>?_,λc o e n f _=>?_,λc o e n _=>?_,λc o e _=>?_,λc xs e=>b.tups c xs (a.tups c xs e),λc o u e=>b.frzs c o u (a.frzs c o u e),λc ps e=>?_⟩
 ·exact b.keep c o (a.keep c o e n f (by simp)) (a.free c o e n (by simp)) f (no e)
 ·obtain ⟨sl,e1⟩:=a.slot c o e n f (by simp)
  obtain ⟨dC,e2⟩:=b.slot c _ e1 (a.free c o e n (by simp)) f (no e)
  exact ⟨dC,e2⟩
 ·obtain ⟨o',e1⟩:=a.there c o e (by simp)
  exact b.free c o' e1 (a.free c o e n (by simp)) (no e)
 ·obtain ⟨o',e1⟩:=a.there c o e (by simp)
  exact b.there c o' e1 (no e)
 ·obtain ⟨m1,e1⟩:=a.tbls c ps e
  obtain ⟨m2,e2⟩:=b.tbls c _ e1
  exact ⟨m1++m2,by rw [e2,Array.append_assoc]⟩
theorem Zek {X:Cx} {pins:List (Addr×Obj)} {σ:St} {H:Hp} {s s':Shared} {E:XK} {e:Value} {outer:List Env} {L:Addr} {Q:Unit->Shared->Prop} {EE:y4}
  (I:Inv X pins σ H s) (hstk:X.stack=X.env::outer) (hL:X.env.frame=some L) (hq:bX X.prog X.w X.stack H s E e s')
  (k:∀ (ea:Addr) (cls:Value) (H':Hp) (h':Heap),e=.ref ea->Inv X pins σ H' { s' with heap:=h' }->H' ea=none->(∃ oe,h'.get? ea=some oe/\oe.cls=cls)->(∃ b'' t,Heap.FlyingW b'' X.stack ea cls (.ref t) h'/\(∀ c,b''.get? c=none->c ∉ frs X.stack->s.heap.get? c=none)/\∀ b,H' b≠none->∃ o',b''.get? b=some o')->Un (frs X.stack) [] H H' s.heap h'->E cls none H'->Q () { s' with heap:=h' }) :
  wpAny (model X.prog X.w) X.A (noteFrame e X.env) (λ_ s₂=>wpAny (model X.prog X.w) X.A (setFlight e none) Q EE s₂) EE s':=by
 obtain ⟨ea,t,cls,b',H',rfl,os,bare,un,hok,fl,hb',ht,hE⟩:=hq
 have hst:∀ b∈frs X.stack,H b=none:=I.stkFree
 have funs:s.heap.FunFrames X.base X.stack:=I.stack
 have hst':∀ b∈frs X.stack,H' b=none:=λb hb=>by
  obtain ⟨_,o,ho,_⟩:=funs.mem hb
  exact un.free b o ho (hst b hb) (by simp)
 have hfr:X.A.frames=some X.stack:=I.ok.frames
 have notin:∀ c:Addr,b'.get? c=none->c ∉ frs X.stack->s.heap.get? c=none:=λc hc hf=>by
  cases e1:s.heap.get? c with
  | none=>rfl
  | some o =>
   obtain ⟨o',e2⟩:=hb' c o e1 hf
   rw [hc] at e2; cases e2
 have hea:ea ∉ frs X.stack:=λz=>by
  obtain ⟨_,o',ho',hd⟩:=fl.2.2.1.mem z
  obtain ⟨oe,vs,e1,_,e2,_⟩:=fl.first
  rw [e1] at ho'
  cases ho'
  exact hd vs e2
 rw [hstk] at hfr fl hst' un hea notin
 refine lands hfr hL fl hok hst' ht λh₅ T hT hTf un5 hok5 fl5=>?_
 have un':=un.skip un5 λc hc=>by
  rcases vD.mp hc with z | z
  ·subst z; exact notin c fl.2.1 hea
  ·rcases vD.mp z with z | z
   ·subst z; exact notin c hT hTf
   ·cases z
 rw [<- hstk] at un'
 have I5:Inv X pins σ H' { s' with heap:=h₅ }:=I.call' (s':={ s' with heap:=h₅ }) os un' hok5 bare λb hb=>absurd hb (by simp)
 have he:H' ea=none:=by
  cases e1:H' ea with
  | none=>rfl
  | some u =>
   obtain ⟨o',e2⟩:=ht ea (by rw [e1]; simp)
   rw [fl.2.1] at e2; cases e2
 refine k ea cls H' h₅ rfl I5 he fl5.there ⟨_,t,by rw [hstk]; exact fl5,λc hc hf=>?_,λb hb=>?_⟩ un' hE
 rotate_left
 ·cases e1:H' b with
  | none=>exact absurd e1 hb
  | some u =>
   obtain ⟨o',e2⟩:=(hok b u e1).get
   refine ⟨o',?_⟩
   rw [dR]
   ·exact e2
   ·intro z
    rcases vD.mp z with z | z
    ·subst z; exact hb he
    ·rcases vD.mp z with z | z
     ·subst z
      obtain ⟨o3,e3⟩:=ht b hb
      rw [hT] at e3; cases e3
     ·exact hb (hst' b z)
 by_cases h1:c=ea
 ·subst h1; exact notin c fl.2.1 hea
 ·by_cases h2:c=T
  ·subst h2; exact notin c hT hTf
  ·rw [dR (λz=>by
    rcases vD.mp z with z | z
    ·exact h1 z
    ·rcases vD.mp z with z | z
     ·exact h2 z
     ·rw [hstk] at hf; exact hf z)] at hc
   cases e1:s.heap.get? c with
   | none=>rfl
   | some o =>
    obtain ⟨o',e2⟩:=un.there c o e1 (by simp)
    rw [hc] at e2; cases e2
end L2
namespace L2
open PySem.Calls
section
variable {M:Model} {A:Around} {E:y4}
variable {nm q:Str} {C N:Addr} {bs bm:y9} {hdct:Bool} {sn:za} {sub:y9} {ab:Bool} {col:Option Bool} {dd:Option Addr} {k0 k1 k2 k3 k5:Option Value} {newId:String}
variable {nm' q':Str} {D N':Addr} {bs' bm':y9} {hdct':Bool} {sn':za} {sub':y9} {ab':Bool} {col':Option Bool} {dd':Option Addr} {j0 j1 j2 j3 j5:Option Value} {newId':String}
theorem ZlE {h:Heap} {g:Array GenState} {d:Drawn} {t:Nat} {os:OsState} {e:Addr} {oe:Obj} {Q:Bool->Shared->Prop}
  (hC:h.get? C=some (excClassObj nm q C N bs bm hdct sn sub ab col dd k0 k1 k2 k3 k5 newId)) (hD:h.get? D=some (excClassObj nm' q' D N' bs' bm' hdct' sn' sub' ab' col' dd' j0 j1 j2 j3 j5 newId')) (he:h.get? e=some oe) (hcls:oe.cls=.ref C)
  (hbase:bm'.contains (.type "BaseException")=true) (hin:bm.contains (.ref D)=true)
  (hq:Q true ⟨h,g,d,t,os⟩):wpAny M A (excMatches (.ref e) (.ref D)) Q E ⟨h,g,d,t,os⟩:=by
 have hcB:(Value.ref D::bm').contains (.type "BaseException")=true:=by rw [xv,hbase,Bool.or_true]
 have hcC:(Value.ref C::bm).contains (.ref D)=true:=by rw [xv,hin,Bool.or_true]
 have f:=tc_notTuple
 unfold excMatches
 repeat (first | (with_reducible refine wpAny_loadPart_at he ?_; rw [hcls]) | with_reducible refine wpAny_loadPart_at hD ?_ | (with_reducible refine wpAny_isSubtype_exc hD ?_; rw [hcB]) | (with_reducible refine wpAny_isSubtype_exc hC ?_; rw [hcC]) | wp_step)
 exact hq
end
section
variable {prog:Program} {w:World} {A:Around} {E:y4} {s:Shared} {env:Env}
theorem Zk8 {e C D:Addr} {t:Expr} {n:Str} {b₀:Stmt} {suite:List Stmt} {pos:Pos} {rest:List ExceptHandler} {Q:Flow->Shared->Prop}
  {nm q:Str} {N:Addr} {bs bm:y9} {hdct:Bool} {sn:za} {sub:y9} {ab:Bool} {col:Option Bool} {dd:Option Addr} {k0 k1 k2 k3 k5:Option Value} {newId:String}
  {nm' q':Str} {N':Addr} {bs' bm':y9} {hdct':Bool} {sn':za} {sub':y9} {ab':Bool} {col':Option Bool} {dd':Option Addr} {j0 j1 j2 j3 j5:Option Value} {newId':String}
  (hbase:bm'.contains (.type "BaseException")=true) (hin:bm.contains (.ref D)=true)
  (h:wpAny (model prog w) (A.mark (some (.ref e))) (eval t env) (λc s₁=>c=.ref D/\s₁.heap.get? C=some (excClassObj nm q C N bs bm hdct sn sub ab col dd k0 k1 k2 k3 k5 newId)/\s₁.heap.get? D=some (excClassObj nm' q' D N' bs' bm' hdct' sn' sub' ab' col' dd' j0 j1 j2 j3 j5 newId')/\(∃ oe,s₁.heap.get? e=some oe/\oe.cls=.ref C) /\
   wpAny (model prog w) (A.mark (some (.ref e))) (setFlight (.ref e) none) (λ_ s₂ =>
     wpAny (model prog w) (A.mark (some (.ref e))) (storeName env n (.ref e)) (λ_ s₃ =>
      wpAny (model prog w) (A.mark (some (.ref e))) (execs (b₀::suite) env)
       (λf s₄=>wpAny (model prog w) A (do bindName env n .none; unbindBehindTheSuite env n pos) (λ_ s₅=>Q f s₅) E s₄)
       (AsSuiteRaised (model prog w) (A.mark (some (.ref e))) env n pos (notedBy (model prog w) (A.mark (some (.ref e))) env (cameBackBy (model prog w) A env E))) s₃) (notedBy (model prog w) (A.mark (some (.ref e))) env (cameBackBy (model prog w) A env E)) s₂) (notedBy (model prog w) (A.mark (some (.ref e))) env (cameBackBy (model prog w) A env E)) s₁) (notedBy (model prog w) (A.mark (some (.ref e))) env (cameBackBy (model prog w) A env E)) s) :
  wpAny (model prog w) A (handleBy (.ref e) env (.ExceptHandler (some t) (some n) (b₀::suite) pos::rest)) Q E s:=by
 refine wpAny_handleBy_cons (codeAny_handlers_test (wpAny_mono h (λc s₁ h₁=>?_) λ_ _ y=>y)) (by intro q; cases q)
 obtain ⟨rfl,hC,hD,⟨oe,he,hcls⟩,hk⟩:=h₁
 obtain ⟨hh,g,d,tk,os⟩:=s₁
 exact ZlE hC hD he hcls hbase hin (codeAny_handlers_suite_as hk)
end
end L2
namespace L2
section
variable {X:Cx} {pins:List (Addr×Obj)} {σ:St} {H:Hp} {s:Shared}
theorem Zkq {A:Around} {E:y4} {x:Str} {u:Value} {pos:Pos} {Q:y4} (I:Inv X pins σ H s) (hg:Gl X x) (hm:X.mg x=some u) (h:Q u s)
  (hd:(x == ("__debug__":Str))=false:=by decide):wpAny (model X.prog X.w) A (eval (.Name x pos) X.env) Q E s :=
 x3 I.ok.kind hg (Calls.loadGlobal_global (by rw [I.ok.glob]; exact I.mod.glob.keeps I.bk) hm h) hd
theorem ZjL {M:Model} {A:Around} {E:y4} {i:Nat} {x:Str} {pos:Pos} {Q:Unit->Shared->Prop} (I:Inv X pins σ H s) (hN:X.N.Nodup) (hi:X.N[i]?=some x) (hk:X.env.kindOf x=some .local)
  (h:∀ s',Inv X pins (σ.set i none) H s'->Q () s'):wpAny M A (do bindName X.env x .none; unbindBehindTheSuite X.env x pos) Q E s:=by
 obtain ⟨m,hn,hl⟩:=id I.loc
 have hcls:(X.env.scope.kind == .class || (X.env.scope.kind == .module && X.env.locals != X.env.globals))=false:=by rw [I.ok.kind]; rfl
 have hiσ:i < σ.length:=by rw [I.len]; exact (vH.mp hi).1
 have cne:=I.cne
 have tracked:∀ {a:Addr} {h':Heap},(∃ o,s.heap.get? a=some o/\H a=none)->Heap.SameBut a s.heap h'->HOk X.prog X.w H h':=λ{a h'} ha hs b ob e=>by
  obtain ⟨_,_,hfree⟩:=ha
  refine (I.hok b ob e).stay (λc w' hc q=>(hs.2 c ?_).trans q) (λ_ q=>q) (λ_ _ q=>q) λ_ _ _ _ q _=>q
  rintro rfl
  rcases hc with rfl | hc
  ·rw [hfree] at e; cases e
  ·rw [hfree] at hc; cases hc
 refine wpAny_nameGoes_keeps hk hn hcls λh' v hn' hs=>?_
 obtain ⟨oL,_,_,hoL,_⟩:=id hn
 refine h _ ⟨I.ok,I.os,I.bare,⟨λb o e n hb hx=>?_,λb o e n hb hx=>?_,I.base.free,λb o e hx=>?_,I.base.tups,I.base.frzs,I.base.tbls⟩,⟨_,hn',λj y v' e1 e2 e3=>?_⟩,λy c e=>?_,I.free,I.freeC,λp hp=>?_,tracked ⟨oL,hoL,I.free⟩ hs,by simpa using I.len⟩
 ·exact (hs.2 b (vR (vE (vM e) I.ok.above))).trans (I.base.keep b o e n hb hx)
 ·obtain ⟨sl,e1⟩:=I.base.slot b o e n hb hx
  exact ⟨sl,(hs.2 b (vR (vE (vM e) I.ok.above))).trans e1⟩
 ·obtain ⟨o',e1⟩:=I.base.there b o e hx
  exact ⟨o',(hs.2 b (vR (vE (vM e) I.ok.above))).trans e1⟩
 ·by_cases hj:j=i
  ·subst hj
   rw [vZ hiσ] at e2
   cases e2
  ·rw [vP (Ne.symm hj)] at e2
   obtain ⟨u',r',q⟩:=hl j y v' e1 e2 e3
   refine ⟨u',r',?_⟩
   rcases q with ⟨k,e⟩ | ⟨k,c,e,z⟩
   ·refine .inl ⟨k,?_⟩
    have:y≠x:=λe=>hj (tE hN e1 (e ▸ hi))
    simp [this,e]
   ·exact .inr ⟨k,c,e,z.sameBut hs (cne y c e)⟩
 ·obtain ⟨w',z⟩:=I.cell y c e
  exact ⟨w',z.sameBut hs (cne y c e)⟩
 ·obtain ⟨e,n,ne,nf,d⟩:=I.pin p hp
  exact ⟨(hs.2 p.1 ne).trans e,n,ne,nf,d⟩
def dZ (e:Addr) (cls:Value) (h:Heap):Prop:=∃ oe,h.get? e=some oe/\oe.cls=cls
theorem Zky {A:Around} {H0:Hp} {s0:Shared} {b':Heap} {e t:Addr} {cls:Value} {Q:Unit->Shared->Prop} {E:y4}
  (I0:Inv X pins σ H0 s0) (I:Inv X pins σ H s) (un:Un (frs X.stack) [] H0 H s0.heap s.heap) (he:H e=none) (fl:Heap.FlyingW b' X.stack e cls (.ref t) s.heap) (hf:∀ c,b'.get? c=none->c ∉ frs X.stack->s0.heap.get? c=none)
  (hb:∀ b,H b≠none->∃ o',b'.get? b=some o') (hos:s.os=s0.os)
  (k:∀ h',Inv X pins σ (upd H e (.ext (dZ e cls))) { s with heap:=h' }->Q () { s with heap:=h' }):wpAny (model X.prog X.w) A (setFlight (.ref e) none) Q E s:=by
 obtain ⟨T,hT,⟨oT,ts,hoT,hdT⟩,⟨oe,vs,hoe,hoc,hod⟩,fl'⟩:=rebase fl
 have hst:∀ b∈frs X.stack,H b=none:=I.stkFree
 have nof:∀ {b:Addr} {o:Obj} {us:Array Value},s.heap.get? b=some o->o.data=.fields us->b ∉ frs X.stack:=λ{b o us} h1 h2 z=>by
  obtain ⟨_,o',ho',hd⟩:=fl.2.2.1.mem z
  rw [h1] at ho'
  cases ho'
  exact hd us h2
 refine lands_againW fl' λh₅ fl₅ ups=>?_
 have stay:∀ b o,s.heap.get? b=some o->b ∉ frs X.stack->b ∉ [e,T]->h₅.get? b=some o:=λb o hb hn hx=>fl₅.1 b o (by
  rw [dR]
  ·exact hb
  ·intro z
   rcases vD.mp z with z | z
   ·exact hx (by simp [z])
   ·rcases vD.mp z with z | z
    ·exact hx (by simp [z])
    ·exact hn z)
 have slot:∀ b o,s.heap.get? b=some o->b∈frs X.stack->∃ sl,h₅.get? b=some { o with slots:=sl }:=λb o hb hn=>by
  obtain ⟨_,o',ho',hd⟩:=fl.2.2.1.mem hn
  rw [hb] at ho'
  cases ho'
  exact ups b o hb hd
 have hTn:H T=none:=by
  cases e1:H T with
  | none=>rfl
  | some u =>
   obtain ⟨o',e2⟩:=hb T (by rw [e1]; simp)
   rw [hT] at e2; cases e2
 have un5:Un (frs X.stack) [e,T] H H s.heap h₅:=⟨λb o hb hn hf hx=>stay b o hb hf hx,λb o hb hn hf hx=>slot b o hb hf,λb o hb hn hx=>hn,λb o hb hx=>by
  by_cases hq:b∈frs X.stack
  ·obtain ⟨sl,e1⟩:=slot b o hb hq
   exact ⟨_,e1⟩
  ·exact ⟨o,stay b o hb hq hx⟩,λ_ _ z=>z,λ_ _ _ z=>z,λb ps z=>⟨#[],by rw [z,ym]⟩⟩
 have hok5:HOk X.prog X.w H h₅:=HOk.tracked I.hok λb u hb q=>stay b u q (λz=>hb (hst b z)) λz=>by
  rcases vD.mp z with z | z
  ·subst z; exact hb he
  ·rcases vD.mp z with z | z
   ·subst z; exact hb hTn
   ·cases z
 have un':=un.skip un5 λc hc=>by
  rcases vD.mp hc with z | z
  ·subst z; exact hf c fl.2.1 (nof hoe hod)
  ·rcases vD.mp z with z | z
   ·subst z; exact hf c hT (nof hoT hdT)
   ·cases z
 obtain ⟨oe5,hoe5,hoc5⟩:=fl₅.there
 have hs0:s0.heap.get? e=none:=hf e fl.2.1 (nof hoe hod)
 have ne0:∀ {b:Addr} {o:Obj},s0.heap.get? b=some o->b≠e:=λ{b o} h1 z=>by rw [z,hs0] at h1; cases h1
 have nH:∀ {b:Addr} {o:HO},H b=some o->b≠e:=λ{b o} h1 z=>by rw [z,he] at h1; cases h1
 have un2:Un (frs X.stack) [] H0 (upd H e (.ext (dZ e cls))) s0.heap h₅:=⟨un'.keep,un'.slot,λb o hb hn hx=>by rw [aK (ne0 hb)]; exact un'.free b o hb hn hx,un'.there,
  λb xs z=>by rw [aK (nH (un'.tups b xs z))]; exact un'.tups b xs z,λb o u z=>by rw [aK (nH (un'.frzs b o u z))]; exact un'.frzs b o u z,λb ps z=>by
   obtain ⟨m,z⟩:=un'.tbls b ps z
   exact ⟨m,by rw [aK (nH z)]; exact z⟩⟩
 have hok2:HOk X.prog X.w (upd H e (.ext (dZ e cls))) h₅:=λb o hb=>by
  by_cases hbe:b=e
  ·subst hbe
   rw [bJ] at hb
   cases hb
   exact ⟨⟨oe5,hoe5,hoc5⟩,⟨oe5,hoe5⟩,λh1 h2 ⟨o1,e1,c1⟩ kk=>⟨o1,kk o1 e1,c1⟩⟩
  ·rw [aK hbe] at hb
   exact (hok5 b o hb).stay (λ_ _ _ q=>q) (λc z=>by rw [aK (nH z)]; exact z) (λc xs z=>by rw [aK (nH z)]; exact z) λc ob xs _ z _=>by rw [aK (nH z)]; exact z
 exact k h₅ (I0.call' (s':={ s with heap:=h₅ }) hos un2 hok2 I.bare λb hb=>absurd hb (by simp))
end
noncomputable abbrev Cx.marked (X:Cx) (ea:Addr):Cx:={ X with A:=X.A.mark (some (.ref ea)),calm:=false,xe:=λ_ _=>False }
theorem Inv.marked {X:Cx} {pins:List (Addr×Obj)} {σ:St} {H:Hp} {s:Shared} (I:Inv X pins σ H s) (ea:Addr):Inv (X.marked ea) pins σ H s :=
 ⟨⟨I.ok.mod,I.ok.kind,I.ok.glob,I.ok.blt,I.ok.above,I.ok.inj,I.ok.has,I.ok.cab,λz=>(by cases z),I.ok.frames,I.ok.stk,I.ok.exf,I.ok.bs,I.ok.bsz,I.ok.noex,I.ok.exfs,I.ok.funs,I.ok.frf⟩,I.os,I.bare,I.base,I.loc,I.cell,I.free,I.freeC,I.pin,I.hok,I.len⟩
theorem Inv.unmarked {X:Cx} {pins:List (Addr×Obj)} {σ:St} {H:Hp} {s:Shared} {ea:Addr} (I:Inv (X.marked ea) pins σ H s) (I0:X.Ok):Inv X pins σ H s :=
 ⟨I0,I.os,I.bare,I.base,I.loc,I.cell,I.free,I.freeC,I.pin,I.hok,I.len⟩
structure Under (K:yS) (C D:Addr):Prop where
 ex:∃ (nm q:Str) (N:Addr) (bs bm:y9) (hdct:Bool) (sn:za) (sub:y9) (ab:Bool) (col:Option Bool) (dd:Option Addr) (k0 k1 k2 k3 k5:Option Value) (newId:String),K.lookup C=some (excClassObj nm q C N bs bm hdct sn sub ab col dd k0 k1 k2 k3 k5 newId)/\bm.contains (.ref D)=true
 top:∃ (nm q:Str) (N:Addr) (bs bm:y9) (hdct:Bool) (sn:za) (sub:y9) (ab:Bool) (col:Option Bool) (dd:Option Addr) (k0 k1 k2 k3 k5:Option Value) (newId:String),K.lookup D=some (excClassObj nm q D N bs bm hdct sn sub ab col dd k0 k1 k2 k3 k5 newId)/\bm.contains (.type "BaseException")=true
end L2
namespace PySem
def clsNames:za:=["__getattribute__","__getattr__","__class__"]
inductive OwnTailN (h:Heap) (bmB:y9):List Value->Prop
 | base:OwnTailN h bmB bmB
 | own {A:Addr} {c0:Value} {dd:Option Addr} {cd:ClassData} {sl:Array (Option Value)} {mA:zc} {tl:y9} :
   h.get? A=some { cls:=c0,dict:=dd,data:=.cls cd,slots:=sl }->h.Ns cd.ns mA->(∀ n∈clsNames,mA n=none)->OwnTailN h bmB tl->OwnTailN h bmB (.ref A::tl)
theorem OwnTailN.hasType {h:Heap} {bmB tl:y9} (T:OwnTailN h bmB tl) {X:String} {b:Bool} (hb:bmB.contains (.type X)=b):tl.contains (.type X)=b:=by
 induction T with
 | base=>exact hb
 | own _ _ _ _ ih=>rw [xv,ih]; rfl
section
variable {M:Model} {A:Around} {E:y4} {h:Heap} {g:Array GenState} {d:Drawn} {t:Nat} {os:OsState}
theorem wpAny_lookupAlong_tailN {bmB tl:y9} {n:Str} {y:Option Value} {Q:Option Value->Shared->Prop} (hn:n∈clsNames) (T:OwnTailN h bmB tl) (hrest:lookupAlong bmB n=pure y) (hq:Q y ⟨h,g,d,t,os⟩) :
  wpAny M A (lookupAlong tl n) Q E ⟨h,g,d,t,os⟩:=by
 induction T with
 | base=>rw [hrest]; exact wpAny_pure hq
 | own hA hN hni _ ih =>
  rw [lookupAlong_cons]
  refine wpAny_bind (wpAny_classOwn_cls hA hN ?_)
  rw [hni n hn]
  exact ih
variable {nm q:Str} {C N:Addr} {bs bm bmB:y9} {hdct:Bool} {sn:za} {sub:y9} {ab:Bool} {col:Option Bool} {dd:Option Addr} {k0 k1 k2 k3 k5:Option Value} {B newId:String}
theorem wpAny_typeLookup_tailN {mN:zc} {n:Str} {y:Option Value} {Q:Option Value->Shared->Prop} (hn:n∈clsNames)
  (hC:h.get? C=some (excClassObj nm q C N bs bm hdct sn sub ab col dd k0 k1 k2 k3 k5 newId)) (hN:h.Ns N mN) (hmN:∀ n∈clsNames,mN n=none) (T:OwnTailN h bmB bm) (hbm:mroOf (.type B)=pure bmB)
  (hB:typeLookup (.type B) n=pure y) (hq:Q y ⟨h,g,d,t,os⟩):wpAny M A (typeLookup (.ref C) n) Q E ⟨h,g,d,t,os⟩:=by
 have hrest:lookupAlong bmB n=pure y:=by rw [typeLookup_eq,hbm] at hB; exact hB
 rw [typeLookup_eq]
 refine wpAny_bind (wpAny_mroOf_exc hC ?_)
 rw [lookupAlong_cons]
 refine wpAny_bind (wpAny_classOwn_exc hC hN ?_)
 rw [hmN n hn]
 exact wpAny_lookupAlong_tailN hn T hrest hq
end
section
variable {prog:Program} {w:World} {A:Around} {E:y4} {h:Heap} {g:Array GenState} {d:Drawn} {t:Nat} {os:OsState} {a:Addr} {o:Obj}
 {nm q:Str} {C N:Addr} {bs bm bmB:y9} {hdct:Bool} {sn:za} {sub:y9} {ab:Bool} {col:Option Bool} {dd:Option Addr} {k0 k1 k2 k3 k5:Option Value} {B newId:String} {mN:zc}
theorem class_get_exc {R:Result->Shared->Prop} (hC:h.get? C=some (excClassObj nm q C N bs bm hdct sn sub ab col dd k0 k1 k2 k3 k5 newId)) (hob:bm.contains (.type "object")=true)
  (hx:h.get? a=some o) (hc:o.cls=.ref C) (hq:R (.ok (.ret (.ref C))) ⟨h,g,d,t,os⟩) :
  codeAny (model prog w) A (.call (.builtin "getset_descriptor.__get__") ⟨[.builtin "object.__class__",.ref a,.ref C],[]⟩) R ⟨h,g,d,t,os⟩:=by
 have hT5:(⟨h,g,d,t,os⟩:Shared).TypeIs (.builtin "object.__class__") "getset_descriptor":=yk
 have hcB:(Value.ref C::bm).contains (.type (".".intercalate ("object.__class__".cutAt '.').dropLast))=true:=by
  rw [F.owner_object_class,xv,hob]; rfl
 refine codeAny_call_builtin F.slot_gs_get.plain F.entry_gs_get (F.slot_gs_get.check _ _ _ _ _ _ _ _ hT5 (F.args_gs_get _ _ _) ?_)
 repeat (any_goals (first | assumption | (with_reducible refine wpAny_loadPart_at hx ?_; rw [hc]) | (with_reducible refine wpAny_isSubtype_exc hC ?_; rw [hcB]) | wp_step))
 refine ⟨Code.quiet_builtin _ (by trivial),codeAny_builtin F.entry_object_class ?_⟩
 repeat (any_goals (first | assumption | (with_reducible refine wpAny_loadPart_at hx ?_; rw [hc]) | wp_step))
theorem class_entry_exc {tk:Tok} {Q:Fin->Shared->Prop} (hC:h.get? C=some (excClassObj nm q C N bs bm hdct sn sub ab col dd k0 k1 k2 k3 k5 newId)) (hob:bm.contains (.type "object")=true) (hN:h.Ns N mN)
  (hmN:∀ n∈clsNames,mN n=none) (T:OwnTailN h bmB bm) (hmro:mroOf (.type B)=pure bmB) (hlk:typeLookup (.type B) "__class__"=pure (some (.builtin "object.__class__"))) (hx:h.get? a=some o) (hc:o.cls=.ref C) (hq:Q (.done (.ret (.ref C))) ⟨h,g,d,t,os⟩) :
  wpAny (model prog w) A (Builtin.«object.__getattribute__» ⟨[.ref a,.str "__class__" tk],[]⟩) Q E ⟨h,g,d,t,os⟩:=by
 have hT5:(⟨h,g,d,t,os⟩:Shared).TypeIs (.builtin "object.__class__") "getset_descriptor":=yk
 have f5:=yk
 have f6:=F.slot_gs_get.lookup
 have f7:=F.slot_gs_set.lookup
 have hmA:("__class__":Str)∈clsNames:=.tail _ (.tail _ (.head _))
 repeat (any_goals (first | assumption | (with_reducible refine wpAny_loadPart_at hx ?_; rw [hc]) | with_reducible refine wpAny_typeLookup_tailN hmA hC hN hmN T hmro hlk ?_ | wp_step))
 refine class_get_exc hC hob hx hc ?_
 repeat (any_goals (first | assumption | wp_step))
theorem check_ga_exc {M:Model} {nameV:Value} {Q:Unit->Shared->Prop} (hC:h.get? C=some (excClassObj nm q C N bs bm hdct sn sub ab col dd k0 k1 k2 k3 k5 newId)) (hbase:bm.contains (.type "BaseException")=true)
  (hx:h.get? a=some o) (hc:o.cls=.ref C) (hq:Q () ⟨h,g,d,t,os⟩):wpAny M A (checkBuiltinCall "BaseException.__getattribute__" ⟨[.ref a,nameV],[]⟩) Q E ⟨h,g,d,t,os⟩:=by
 have hk:builtinKind "BaseException.__getattribute__"=some .slot:=by trivial
 have hsplit:splitId "BaseException.__getattribute__"=some ("BaseException","__getattribute__"):=by trivial
 have hcB:(Value.ref C::bm).contains (.type "BaseException")=true:=by rw [xv,hbase]; rfl
 have ha:=F.args_bexc_ga (.ref a) nameV
 simp only [checkBuiltinCall,hk,hsplit]
 refine wpAny_bind ?_
 ·unfold isInstance
  repeat (first | (with_reducible refine wpAny_loadPart_at hx ?_; rw [hc]) | (with_reducible refine wpAny_isSubtype_exc hC ?_; rw [hcB]) | wp_step)
  exact hq
theorem class_by_exc {tk:Tok} {Q:y4} (FB:ExcAttrBase B bmB) (hC:h.get? C=some (excClassObj nm q C N bs bm hdct sn sub ab col dd k0 k1 k2 k3 k5 newId)) (hob:bmB.contains (.type "object")=true) (hN:h.Ns N mN)
  (hmN:∀ n∈clsNames,mN n=none) (T:OwnTailN h bmB bm) (hlk:typeLookup (.type B) "__class__"=pure (some (.builtin "object.__class__"))) (hx:h.get? a=some o) (hc:o.cls=.ref C) (hq:Q (.ref C) ⟨h,g,d,t,os⟩) :
  wpAny (model prog w) A (getAttrBy (.ref a) (.str "__class__" tk) false) Q E ⟨h,g,d,t,os⟩:=by
 have f3:=FB.ga.bind (.ref a)
 have hx2:(Value.builtin "BaseException.__getattribute__" == Value.builtin "object.__getattribute__")=false:=by trivial
 have hx1:(onTheHeap (Value.ref C) && Value.builtin "BaseException.__getattribute__" == Value.builtin "object.__getattribute__")=false:=by rw [hx2]; rfl
 have hm1:("__getattribute__":Str)∈clsNames:=.head _
 have hm2:("__getattr__":Str)∈clsNames:=.tail _ (.head _)
 repeat (any_goals (first | assumption | (with_reducible refine wpAny_loadPart_at hx ?_; rw [hc]) | with_reducible refine wpAny_typeLookup_tailN hm1 hC hN hmN T FB.mro FB.ga.lookup ?_ | with_reducible refine wpAny_typeLookup_tailN hm2 hC hN hmN T FB.mro FB.noGetattr ?_ | wp_step))
 refine codeAny_call_builtin FB.ga.plain F.entry_bexc_ga (check_ga_exc hC (T.hasType FB.hasBase) hx hc (class_entry_exc hC (T.hasType hob) hN hmN T FB.mro hlk hx hc ?_))
 repeat (any_goals (first | assumption | wp_step))
theorem class_attr_exc {Q:Option Value->Shared->Prop} (FB:ExcAttrBase B bmB) (hC:h.get? C=some (excClassObj nm q C N bs bm hdct sn sub ab col dd k0 k1 k2 k3 k5 newId)) (hob:bmB.contains (.type "object")=true) (hN:h.Ns N mN)
  (hmN:∀ n∈clsNames,mN n=none) (T:OwnTailN h bmB bm) (hlk:typeLookup (.type B) "__class__"=pure (some (.builtin "object.__class__"))) (hx:h.get? a=some o) (hc:o.cls=.ref C) (hq:Q (some (.ref C)) ⟨h,g,d,t+1,os⟩) :
  wpAny (model prog w) A (getAttr? (.ref a) "__class__") Q E ⟨h,g,d,t,os⟩:=by
 unfold getAttr? getAttrBy?
 repeat (any_goals (first | assumption | with_reducible apply class_by_exc FB hC hob hN hmN T hlk hx hc | wp_step))
end
end PySem
namespace L2
structure Xci (K:yS) (C:Addr) (bmB:y9):Prop where
 ex:∃ (nm q:Str) (N:Addr) (bs bm:y9) (hdct:Bool) (sn:za) (sub:y9) (ab:Bool) (col:Option Bool) (dd:Option Addr) (k0 k1 k2 k3 k5:Option Value) (newId:String) (mN:zc),
  K.lookup C=some (excClassObj nm q C N bs bm hdct sn sub ab col dd k0 k1 k2 k3 k5 newId)/\(∀ h:Heap,K.In h->h.Ns N mN/\OwnTailN h bmB bm)/\∀ n∈clsNames,mN n=none
theorem tR:typeLookup (.type "ValueError") "__class__"=pure (some (.builtin "object.__class__")):=by rw [typeLookup_type,builtinLookup_eq_fast]; kernel_rfl
theorem t6 {K:yS} {ea C:Addr} {B:String} {bmB:y9} (c:Xci K C bmB) (FB:ExcAttrBase B bmB) (hob:bmB.contains (.type "object")=true) (hlk:typeLookup (.type B) "__class__"=pure (some (.builtin "object.__class__"))) :
  PySem.W.KitX K (.ref ea) (.ref C) (dZ ea (.ref C)) where
 ty:=λM h _ p=>by
  obtain ⟨o,h1,h2⟩:=p
  exact h2 ▸ (PySem.W.Looks.ld h1).andThen .now
 it:=λ_ _ X _=>by
  obtain ⟨nm,q,N,bs,bm,hdct,sn,sub,ab,col,dd,k0,k1,k2,k3,k5,newId,mN,lk,_⟩:=c.ex
  intro A' Q' E' s' k q
  unfold isType loadHead
  exact wpAny_bind (wpAny_loadPart (k _ _ (X _ _ lk)) (wpAny_pure q))
 ne:=λh tp dd its n sl X htp=>by
  obtain ⟨nm,q,N,bs,bm,hdct,sn,sub,ab,col,dd',k0,k1,k2,k3,k5,newId,mN,lk,_⟩:=c.ex
  refine Bool.eq_false_iff.mpr λq=>?_
  have e:C=tp:=Value.ref.inj (beq_iff_eq.mp q)
  subst e
  have z:=(X _ _ lk).symm.trans htp
  have z2:=congrArg (λo=>(o.getD default).cls) z
  exact absurd z2 (by simp)
 ca:=λ{prog w A E Q s} X p k=>by
  obtain ⟨nm,q,N,bs,bm,hdct,sn,sub,ab,col,dd',k0,k1,k2,k3,k5,newId,mN,lk,hn,hmN⟩:=c.ex
  obtain ⟨h,g,d,t,os⟩:=s
  obtain ⟨o,h1,h2⟩:=p
  exact class_attr_exc FB (X _ _ lk) hob (hn _ X).1 hmN (hn _ X).2 hlk h1 h2 k
section
variable {X:Cx} {C:Addr} {B:String} {bmB:y9}
theorem Zq5 (c:Xci X.K C bmB) (FB:ExcAttrBase B bmB) (hob:bmB.contains (.type "object")=true) (hlk:typeLookup (.type B) "__class__"=pure (some (.builtin "object.__class__"))) :
  CallR X (.builtin "isinstance") (λxs H Q=>∃ ea D b,xs=[.ref ea,.ref D]/\H ea=some (.ext (dZ ea (.ref C)))/\PySem.W.kitOne X.K (.ref C) (.ref D)=some b/\Q (.bl b) H):=by
 intro pins s σ H xs us Q I r h
 obtain ⟨ea,D,b,rfl,he,e,q⟩:=h
 obtain ⟨u,v,rfl,ru,rv⟩:=ii r
 cases ru
 cases rv
 have p:dZ ea (.ref C) s.heap:=(I.hok ea _ he).1
 exact wn (t6 c FB hob hlk) I.kIn p e (λz=>nomatch z) λtk=>⟨.bl b,H,I.tok tk,rfl,q⟩
theorem Zq4 (c:Xci X.K C bmB) (FB:ExcAttrBase B bmB) (hob:bmB.contains (.type "object")=true) (hlk:typeLookup (.type B) "__class__"=pure (some (.builtin "object.__class__"))) :
  CallR X (.builtin "isinstance") (λxs H Q=>∃ ea T b,xs=[.ref ea,.ty T]/\H ea=some (.ext (dZ ea (.ref C)))/\PySem.W.kitOne X.K (.ref C) (.type T)=some b/\Q (.bl b) H):=by
 intro pins s σ H xs us Q I r h
 obtain ⟨ea,T,b,rfl,he,e,q⟩:=h
 obtain ⟨u,v,rfl,ru,rv⟩:=ii r
 cases ru
 cases rv
 have p:dZ ea (.ref C) s.heap:=(I.hok ea _ he).1
 exact wn (t6 c FB hob hlk) I.kIn p e (λz=>nomatch z) λtk=>⟨.bl b,H,I.tok tk,rfl,q⟩
theorem Zav:∀ {ds:List Addr} {us:y9},Vals (ds.map V.ref) us->us=ds.map Value.ref
 | [],_,r=>by cases r; rfl
 | d::ds,_,r=>by
  cases r with
  | cons r1 rr =>
   cases r1
   rw [Zav rr]
   rfl
theorem Zq3 (c:Xci X.K C bmB) (FB:ExcAttrBase B bmB) (hob:bmB.contains (.type "object")=true) (hlk:typeLookup (.type B) "__class__"=pure (some (.builtin "object.__class__"))) :
  CallR X (.builtin "isinstance") (λxs H Q=>∃ (ea tp:Addr) (ds:List Addr) (b:Bool),xs=[.ref ea,.ref tp]/\H ea=some (.ext (dZ ea (.ref C)))/\H tp=some (.tup (ds.map V.ref))/\PySem.W.kitAny X.K (.ref C) (ds.map Value.ref)=some b/\Q (.bl b) H):=by
 intro pins s σ H xs us Q I r h
 obtain ⟨ea,tp,ds,b,rfl,he,ht,e,q⟩:=h
 obtain ⟨u,v,rfl,ru,rv⟩:=ii r
 cases ru
 cases rv
 have p:dZ ea (.ref C) s.heap:=(I.hok ea _ he).1
 obtain ⟨_,its,rr,o,ho,hoc,n,hod⟩:=(show ObjOk X.prog X.w H s.heap tp (.tup (ds.map V.ref)) from I.hok tp _ ht)
 have hits:=Zav rr
 subst hits
 obtain ⟨oc,od,odt,osl⟩:=o
 cases hoc
 cases hod
 exact PySem.W.kia_tup (t6 c FB hob hlk) I.kIn p ho e (λz=>nomatch z) λtk=>⟨.bl b,H,I.tok tk,rfl,q⟩
end
structure CalleeX (P:Program) (w:World) (K:yS) (mg:zc) (base:Heap) (x:Str) (k:Nat) (ps:za) (sp:Sp):Prop where
 ex:∃ f fd,FnOk P w K mg base (bX P w) k f fd ps sp/\mg x=some (.ref f)/\PySem.W.keepIn K (.ref f)=true/\Binds K fd ps []
theorem Def.okX {P:Program} {w:World} {K:yS} {mg:zc} {base:Heap} {x:Str} {st:Stmt} {N ps:za} {k:Nat} {sp:Sp} (D:Def K mg x st ps) (S:FnScope N ps (aI st)) (len:∀ vs H Q E,sp vs H Q E->vs.length=ps.length)
  (hbody:∀ (f:Addr) (cdv:Value) (A:Around) (outer:List Env) (s:Shared) (H:Hp) (vs:zb) (Q:VK) (E:XK),Room k (A.deeper (envOfC x (aI st) s.heap.objs.size f cdv))->sp vs H Q E ->
   ∃ t,PSs (cS (bX P w) P w K mg base N x (aI st) f cdv A outer s H E) (fQ st) t/\t { nx:=λ_ H'=>Q .non H',rt:=Q } (start N vs) H):CalleeX P w K mg base x (k+1) ps sp:=by
 obtain ⟨f,fd,F,hm,hb⟩:=D.ex
 obtain ⟨oc,od,kV,doc,pm,an,cdv,ct,osl,rfl,lk,hcd⟩:=F.ex
 exact ⟨f,_,Zdh lk hcd S len λA outer s H vs Q E hr hsp=>hbody f cdv A outer s H vs Q E hr hsp,hm,F.kp,hb⟩
end L2
namespace L2
open PySem.W
theorem Zrw:bootBuiltins "ValueError"=some (.type "ValueError"):=by trivial
noncomputable def fV:y9:=[.type "ValueError",.type "Exception",.type "BaseException",.type "object"]
noncomputable def nM (K:Frag) (bmB:y9):List Value->Bool
 | []=>bmB == []
 | v::r=>(v::r) == bmB || match v with
  | .ref A=>(match K.lookup A with
   | some ⟨_,_,.cls cd,_⟩=>nsOkIn K cd.ns && (nsIn K cd.ns "__getattribute__" == some none && nsIn K cd.ns "__getattr__" == some none && nsIn K cd.ns "__class__" == some none) && nM K bmB r
   | _=>false)
  | _=>false
theorem Zeg {m:zc} (a:m "__getattribute__"=none) (b:m "__getattr__"=none) (c:m "__class__"=none):∀ n∈clsNames,m n=none:=by
 intro n hn
 unfold clsNames at hn
 simp only [vD,wa,or_false] at hn
 rcases hn with rfl | rfl | rfl
 ·exact a
 ·exact b
 ·exact c
theorem ZaD {K:Frag} {h:Heap} {bmB:y9} (X:K.In h):∀ {l:y9},nM K bmB l=true->OwnTailN h bmB l
 | [],e=>by rw [<- beq_iff_eq.mp e]; exact .base
 | v::r,e=>by
  unfold nM at e
  rcases Bool.or_eq_true_iff.mp e with q | q
  ·rw [beq_iff_eq.mp q]; exact .base
  ·split at q
   ·split at q
    ·rename_i ho
     simp only [vQ,beq_iff_eq] at q
     exact .own (X _ _ ho) (.of_isNs (isNs_of_in X q.1.1)) (Zeg (nsMap_none_of_in X q.1.1 q.1.2.1.1) (nsMap_none_of_in X q.1.1 q.1.2.1.2) (nsMap_none_of_in X q.1.1 q.1.2.2)) (ZaD X q.2)
    ·cases q
   ·cases q
noncomputable def gc (K:Frag) (C:Addr) (bmB:y9) (newId:String):Bool:=match K.lookup C with
 | some ⟨.type "type",_,.cls cd,sl⟩=>(match cd.mro,sl.toList with
  | .ref C'::bm,[_,_,_,_,some (.builtin n),_]=>C' == C && n == newId && !cd.hasDel && tailIn K bmB bm && nM K bmB bm && nsOkIn K cd.ns && nsIn K cd.ns "__init__" == some none
    && nsIn K cd.ns "__getattribute__" == some none && nsIn K cd.ns "__getattr__" == some none && nsIn K cd.ns "__class__" == some none && bm.contains (.type "BaseException")
  | _,_=>false)
 | _=>false
noncomputable def pq (K:Frag) (C D:Addr):Bool:=match K.lookup C with
 | some ⟨_,_,.cls cd,_⟩=>cd.mro.tail.contains (.ref D)
 | _=>false
theorem ZjA {K:Frag} {N:Addr} {h h':Heap} {m:zc} (X:K.In h) (X':K.In h') (e:nsOkIn K N=true) (n:h.Ns N m):h'.Ns N m:=by
 obtain ⟨o,es,ep,ho,r⟩:=n
 refine ⟨o,es,ep,?_,r⟩
 unfold nsOkIn at e
 cases hl:K.lookup N with
 | none=>rw [hl] at e; cases e
 | some u =>
  have h1:=X _ _ hl
  rw [ho] at h1
  cases h1
  exact X' _ _ hl
theorem nA {K:Frag} {h:Heap} {C:Addr} {bmB:y9} {newId:String} (X:K.In h) (q:gc K C bmB newId=true) :
  ∃ (nm q:Str) (N:Addr) (bs bm:y9) (hdct:Bool) (sn:za) (sub:y9) (ab:Bool) (col:Option Bool) (dd:Option Addr) (k0 k1 k2 k3 k5:Option Value) (mN:zc),
  K.lookup C=some (excClassObj nm q C N bs bm hdct sn sub ab col dd k0 k1 k2 k3 k5 newId)/\(∀ h:Heap,K.In h->h.Ns N mN/\OwnTail h bmB bm/\OwnTailN h bmB bm)/\mN "__init__"=none/\(∀ n∈clsNames,mN n=none)/\bm.contains (.type "BaseException")=true:=by
 unfold gc at q
 split at q
 ·rename_i dd cd sl ho
  split at q
  ·rename_i C' bm k0 k1 k2 k3 n k5 hm hs
   simp only [vQ,beq_iff_eq,xb] at q
   obtain ⟨⟨⟨⟨⟨⟨⟨⟨⟨⟨rfl,rfl⟩,hdel⟩,ht⟩,htn⟩,hok⟩,hni⟩,n1⟩,n2⟩,n3⟩,hb⟩:=q
   obtain ⟨nm,bs,mro,ns,qn,hd,sn,sub,ab,col,del⟩:=cd
   dsimp only at hm hdel hok hni n1 n2 n3
   subst hm hdel
   have hsl:sl=#[k0,k1,k2,k3,some (.builtin n),k5]:=by
    obtain ⟨l⟩:=sl
    simp only at hs
    rw [hs]
   subst hsl
   exact ⟨nm,qn,ns,bs,bm,hd,sn,sub,ab,col,dd,k0,k1,k2,k3,k5,_,ho,λh' X'=>⟨ZjA X X' hok (.of_isNs (isNs_of_in X hok)),tail_of_in X' ht,ZaD X' htn⟩,nsMap_none_of_in X hok hni,Zeg (nsMap_none_of_in X hok n1) (nsMap_none_of_in X hok n2) (nsMap_none_of_in X hok n3),hb⟩
  ·cases q
 ·cases q
theorem Zfx {K:Frag} {h:Heap} {C:Addr} {bmB:y9} {newId:String} (X:K.In h) (q:gc K C bmB newId=true):Xcl K C bmB newId:=by
 obtain ⟨nm,q,N,bs,bm,hdct,sn,sub,ab,col,dd,k0,k1,k2,k3,k5,mN,lk,hn,hi,hc,hb⟩:=nA X q
 exact ⟨nm,q,N,bs,bm,hdct,sn,sub,ab,col,dd,k0,k1,k2,k3,k5,mN,lk,λh X=>⟨(hn h X).1,(hn h X).2.1⟩,hi,hb⟩
theorem Zfy {K:Frag} {h:Heap} {C:Addr} {bmB:y9} {newId:String} (X:K.In h) (q:gc K C bmB newId=true):Xci K C bmB:=by
 obtain ⟨nm,q,N,bs,bm,hdct,sn,sub,ab,col,dd,k0,k1,k2,k3,k5,mN,lk,hn,hi,hc,hb⟩:=nA X q
 exact ⟨nm,q,N,bs,bm,hdct,sn,sub,ab,col,dd,k0,k1,k2,k3,k5,newId,mN,lk,λh X=>⟨(hn h X).1,(hn h X).2.2⟩,hc⟩
theorem Zf3 {K:Frag} {h:Heap} {C D:Addr} {bmB:y9} {newId:String} (X:K.In h) (q:gc K C bmB newId=true) (q':gc K D bmB newId=true) (u:pq K C D=true):Under K C D:=by
 obtain ⟨nm,qq,N,bs,bm,hdct,sn,sub,ab,col,dd,k0,k1,k2,k3,k5,mN,lk,hn,hi,hc,hb⟩:=nA X q
 obtain ⟨nm',qq',N',bs',bm',hdct',sn',sub',ab',col',dd',j0,j1,j2,j3,j5,mN',lk',hn',hi',hc',hb'⟩:=nA X q'
 refine ⟨⟨nm,qq,N,bs,bm,hdct,sn,sub,ab,col,dd,k0,k1,k2,k3,k5,newId,lk,?_⟩,⟨nm',qq',N',bs',bm',hdct',sn',sub',ab',col',dd',j0,j1,j2,j3,j5,newId,lk',hb'⟩⟩
 unfold pq at u
 rw [lk] at u
 exact u
structure Exc (K:Frag) (C D:Addr) (ds:List Addr):Prop where
 cl:Xcl K C fV "ValueError.__new__"
 ci:Xci K C fV
 un:Under K C D
 vt:kitOne K (.ref C) (.type "ValueError")=some true
 any:kitAny K (.ref C) (ds.map Value.ref)=some false
theorem ZlD {K:Frag} {h:Heap} {C D:Addr} {ds:List Addr} (X:K.In h) (q:gc K C fV "ValueError.__new__"=true) (q':gc K D fV "ValueError.__new__"=true) (u:pq K C D=true) (vt:kitOne K (.ref C) (.type "ValueError")=some true)
  (any:kitAny K (.ref C) (ds.map Value.ref)=some false):Exc K C D ds:=⟨Zfx X q,Zfy X q,Zf3 X q q' u,vt,any⟩
theorem ZkC {K:Frag} {C:Addr}:kitOne K (.ref C) (.ref C)=some true:=by
 unfold kitOne
 rw [if_pos (beq_self_eq_true _)]
end L2
namespace L2
mutual
noncomputable def iQ:PyData->Bool
 | .none=>false
 | .bool _=>false
 | .int _=>false
 | .str _=>false
 | .list _=>true
 | .tuple xs=>jF xs
 | .dict kvs=>kF kvs
noncomputable def jF:List PyData->Bool
 | []=>false
 | x::xs=>iQ x || jF xs
noncomputable def kF:List (PyData×PyData)->Bool
 | []=>false
 | (_,v)::r=>iQ v || kF r
end
noncomputable def jC:aA->PyData
 | .inl i=>.int i
 | .inr x=>.str x
theorem Zc9:∀ {ks ds:y6},ks.length=ds.length->kF (ks.zip ds)=jF ds
 | [],[],_=>by simp only [List.zip_nil_left,kF,jF]
 | k::ks,d::ds,h=>by
  rw [xN,kF,jF,Zc9 (Nat.succ.inj h)]
 | [],_::_,h=>by cases h
 | _::_,[],h=>by cases h
theorem ZkD {P:Program} {w:World} {h:Heap}:∀ {es:List DictEntry} {vs:List (aA×Value)},Pairs (dk P w) es vs->ReadsAll h (es.map (·.key)) (vs.map λq=>jC q.1) []:=by
 intro es vs hp
 induction hp with
 | nil=>exact .nil
 | @cons e kv es kvs h1 h2 _ ih =>
  have h1':jB kv.1 e.key=true:=h1
  rcases gu h1' with ⟨i,t,e1,e2⟩ | ⟨x,t,e1,e2⟩
  ·rw [vG,vG,e1,e2]
   exact ReadsAll.cons (as:=[]) (bs:=[]) (.int i t) ih
  ·rw [vG,vG,e1,e2]
   exact ReadsAll.cons (as:=[]) (bs:=[]) (.str x t) ih
theorem Zi3 {P:Program} {w:World} {es:List DictEntry} {vs:List (aA×Value)} (hp:Pairs (dk P w) es vs):es.map (·.val)=vs.map (·.2):=by
 induction hp with
 | nil=>rfl
 | @cons e kv es kvs h1 h2 _ ih=>rw [vG,vG,h2,ih]
theorem ZkA:∀ {ks:List (aA×V)} {vs:List (aA×Value)},KV ks vs->Vals (ks.map (·.2)) (vs.map (·.2))/\(ks.map (·.1))=vs.map (·.1):=by
 intro ks vs kv
 unfold KV at kv
 induction kv with
 | nil=>exact ⟨.nil,rfl⟩
 | cons h _ ih=>exact ⟨.cons h.2 ih.1,by rw [vG,vG,h.1,ih.2]⟩
theorem Zaa:∀ {ks ds:y6},ks.length=ds.length->(ks.zip ds).map (·.1)=ks/\(ks.zip ds).map (·.2)=ds
 | [],[],_=>⟨rfl,rfl⟩
 | k::ks,d::ds,h=>by
  obtain ⟨h1,h2⟩:=Zaa (Nat.succ.inj h)
  rw [xN,vG,vG,h1,h2]
  exact ⟨rfl,rfl⟩
 | [],_::_,h=>by cases h
 | _::_,[],h=>by cases h
mutual
/-- data without lists -/
theorem Dn.readsD {P:Program} {w:World} {H:Hp} {h:Heap} (ok:HOk P w H h):∀ {v:V} {d:PyData} {u:Value},Dn H v d->iQ d=false->RelV v u->∃ as,Reads h u d as/\∀ b∈as,b≠sysModules
 | _,_,_,.non,_,r=>by cases r; exact ⟨_,.none,λb hb=>nomatch hb⟩
 | _,_,_,.bl b,_,r=>by cases r; exact ⟨_,.bool b,λb hb=>nomatch hb⟩
 | _,_,_,.int i,_,r=>by obtain ⟨t,rfl⟩:=r; exact ⟨_,.int i t,λb hb=>nomatch hb⟩
 | _,_,_,.str x,_,r=>by obtain ⟨t,rfl⟩:=r; exact ⟨_,.str x t,λb hb=>nomatch hb⟩
 | _,_,_,.tup e rs,hd,r=>by
  cases r
  obtain ⟨z,its,rv,o,h1,h2,n,h3⟩:=ok _ _ e
  obtain ⟨as,q,hq⟩:=DnAll.readsD ok rs (by rw [iQ] at hd; exact hd) rv
  exact ⟨_,.tuple h1 h2 h3 (by simpa using q),hq⟩
 | _,_,_,.lst e rs,hd,r=>by rw [iQ] at hd; cases hd
 | _,_,_,.dct (ks:=ks) (ds:=ds) e rs,hd,r=>by
  cases r
  obtain ⟨z,hsys,vs,kv,o,es,ep,h1,⟨h2,_⟩,h3,_,hp,_⟩:=e.ok ok
  obtain ⟨k1,k2⟩:=ZkA kv
  have hl:(ks.map λk=>jC k.1).length=ds.length:=by
   have:=rs.length
   rw [vB] at this ⊢
   exact this
  have hd2:kF ((ks.map λk=>jC k.1).zip ds)=false:=by rw [iQ] at hd; exact hd
  rw [Zc9 hl] at hd2
  obtain ⟨as,q,hq⟩:=DnAll.readsD ok rs hd2 k1
  obtain ⟨z1,z2⟩:=Zaa hl
  have k3:(ks.map λk=>jC k.1)=vs.map λq=>jC q.1:=by
   have:=congrArg (List.map jC) k2
   rw [wL,wL] at this
   exact this
  show ∃ as,Reads h _ (.dict ((ks.map λk=>jC k.1).zip ds)) as/\_
  refine ⟨_,.dict (as:=[]) (bs:=as) h1 h2 h3 ?_ ?_,λb hb=>?_⟩
  ·rw [z1,k3]
   exact ZkD hp
  ·rw [z2,Zi3 hp]
   exact q
  ·rcases wE.mp hb with hb | hb
   ·rw [xt] at hb
    rw [hb]
    exact beq_eq_false_iff_ne.mp hsys
   ·exact hq b hb
theorem DnAll.readsD {P:Program} {w:World} {H:Hp} {h:Heap} (ok:HOk P w H h):∀ {vs:zb} {ds:y6} {us:y9},DnAll H vs ds->jF ds=false->Vals vs us->∃ as,ReadsAll h us ds as/\∀ b∈as,b≠sysModules
 | _,_,_,.nil,_,r=>by cases r; exact ⟨_,.nil,λb hb=>nomatch hb⟩
 | _,_,_,.cons p t,hd,r=>by
  cases r with
  | cons r1 r2 =>
   rw [jF,Bool.or_eq_false_iff] at hd
   obtain ⟨as,q,hq⟩:=Dn.readsD ok p hd.1 r1
   obtain ⟨bs,q2,hq2⟩:=DnAll.readsD ok t hd.2 r2
   refine ⟨_,.cons q q2,λb hb=>?_⟩
   rcases wE.mp hb with hb | hb
   ·exact hq b hb
   ·exact hq2 b hb
end
def ZbA (xs:zb) (H:Hp) (Q:VK):Prop:=∃ v d,xs=[v]/\Dn H v d/\(d.hasDict=false\/iQ d=false)/\d.showable=true/\d.depth<=32/\d.shown.length<=sizeLine/\Q (.str d.shown) H
theorem qt {X:Cx} {k:Nat} (hr:Room k X.A):CallR X (.builtin "repr") ZbA:=by
 intro pins s σ H xs us Q I r h
 obtain ⟨v,d,rfl,hd,hor,hs,hdp,hz,q⟩:=h
 obtain ⟨u,rfl,ru⟩:=ek r
 have hun:=hr.units
 have key:∀ (as:List Addr),Reads s.heap u d as->(d.hasDict=true->sysModules ∉ as)->wpAny (model X.prog X.w) X.A (call (.builtin "repr") [u]) (EP X pins σ Q) X.xe s:=by
  intro as rd hsm
  have viaRef:∀ {a:Addr},u=.ref a->wpAny (model X.prog X.w) X.A (call (.builtin "repr") [u]) (EP X pins σ Q) X.xe s:=λ{a} e=>by
   subst e
   exact repr_of_reads' rd hs hsm hr.gd (by omega) (λ_ _ e=>e) (λh' u' tk hk=>⟨.str d.shown,H,I.kept hk,⟨_,rfl⟩,q⟩) hz
  cases rd with
  | none=>exact PySem.P.repr_of_none ⟨.str "None",H,I.tok _,⟨_,rfl⟩,q⟩
  | bool b=>exact PySem.P.repr_of_bool ⟨.str (if b then "True" else "False"),H,I.tok _,⟨_,rfl⟩,q⟩
  | int i t=>exact PySem.P.repr_of_int (by simpa [PyData.showable] using hs) ⟨.str (toString i),H,I.tok _,⟨_,rfl⟩,q⟩
  | str x t=>exact PySem.P.repr_of_str ⟨.str (reprText x),H,I.tok _,⟨_,rfl⟩,q⟩ hz
  | list h1 h2 h3 h4=>exact viaRef rfl
  | tuple h1 h2 h3 h4=>exact viaRef rfl
  | dict h1 h2 h3 h4 h5=>exact viaRef rfl
 rcases hor with hn | hn
 ·obtain ⟨as,rd⟩:=Dn.reads I.hok hd hn ru
  exact key as rd (PyData.noDict_hsm hn)
 ·obtain ⟨as,rd,hsys⟩:=Dn.readsD I.hok hd hn ru
  exact key as rd λ_ hm=>hsys _ hm rfl
noncomputable def oG (d:PyData):Bool:=(!d.hasDict || !iQ d) && d.showable && decide (d.depth<=32) && decide (d.shown.length<=sizeLine)
noncomputable def iq:List PyData->Option PyData
 | [d]=>if oG d=true then some (.str d.shown) else none
 | _=>none
theorem nJ:dJ ZbA iq:=λPK pa m G H vs ds d Q w hv hd k=>by
 unfold iq at hd
 split at hd
 ·split at hd
  ·rename_i hc
   unfold oG at hc
   simp only [vQ,yG,decide_eq_true_eq,xb] at hc
   cases hd
   cases hv with
   | cons h1 h2=>cases h2; exact ⟨_,_,rfl,h1.mono w.sub,hc.1.1.1,hc.1.1.2,hc.1.2,hc.2,k.here w (.str _)⟩
  ·cases hd
 ·cases hd
section
variable {PK:Pk} {X:Cx} {pos:Pos} {i j:yT}
theorem Kn.dct {pa:Addr} {m:Nat} {G H:Hp} {ks:List (aA×V)} {ds:y6} {Q:VK} {p:Addr} (k:Kn PK pa m G H (.dict ((ks.map λk=>match k.1 with | .inl i=>PyData.int i | .inr x=>PyData.str x).zip ds)) Q) (w:Wd PK pa m G H) (d:DnAll G (ks.map (·.2)) ds) (hp:H p=none):Q (.ref p) (upd H p (.dK ks)):=by
 obtain ⟨w1,s1⟩:=w.new (o:=.dK ks) hp
 exact k _ _ _ s1 w1 (.dct (.inl bJ) (DnAll.mono s1.gs d))
theorem ZrP:PE X (.Dict [] [] pos) (TAe PK (aC (.dict []))):=ZiS.imp λσ H Q hz0=>by
 obtain ⟨pa,ze,H₀,m,ρ,G,R,q⟩:=hz0
 exact λp hp=>Kn.dct (ks:=[]) (ds:=[]) q R.wd .nil hp
noncomputable def Zsx:y3
 | .int k,v=>some (.dict [(.int k,v)])
 | _,_=>none
end
noncomputable def dN:List PyData->Option PyData
 | [.int i]=>if i.natAbs.log2 < 1920 then some (.str (toString i)) else none
 | _=>none
theorem fF:dJ (λxs H Q=>∃ i,xs=[.int i]/\i.natAbs.log2 < 1920/\Q (.str (toString i)) H) dN:=λPK pa m G H vs ds d Q w hv hd k=>by
 unfold dN at hd
 split at hd
 ·split at hd
  ·rename_i hc
   cases hd
   cases hv with
   | cons h1 h2=>cases h2; cases h1; exact ⟨_,rfl,hc,k.here w (.str _)⟩
  ·cases hd
 ·cases hd
theorem Zdp {i:Int} (h:i.natAbs.log2 < 1920):bn dN [.int i]=.ret (.str (toString i)):=by
 show Tr.of (if i.natAbs.log2 < 1920 then some (PyData.str (toString i)) else none)=_
 rw [if_pos h]
 rfl
end L2
namespace PySem
section
variable {prog:Program} {w:World} {A:Around} {E:y4} {s:Shared} {a:Addr} {o:Obj} {xs:Array Value} {k:Nat}
end
section
variable {prog:Program} {w:World} {A:Around} {E:y4} {s:Shared}
end
section
variable {prog:Program} {w:World} {A:Around} {E:y4} {s:Shared}
end
section
variable {K:Type} [DecidableEq K]
end
end PySem
namespace L2
section
variable {prog:Program} {w:World} {A:Around} {R:Result->Shared->Prop} {K:Type} [DecidableEq K] {knd:KeyKind prog w K} {kf:Nat->K}
end
section
variable {prog:Program} {w:World} {A:Around} {E:y4} {s:Shared} {K:Type} [DecidableEq K] {knd:KeyKind prog w K} {kf:Nat->K}
end
section
variable {PK:Pk} {X:Cx} {a:Expr} {p p2 pos pos2:Pos} {i:yT}
end
noncomputable def plE:Expr->Bool
 | .Starred ..=>false
 | _=>true
theorem ZgR {e:Expr} {es:List Expr} {env:Env} (h:plE e=true):starEach (e::es) env=(false,eval e env)::starEach es env:=by
 cases e <;> first | rfl | cases h
section
variable {X:Cx} {PK:Pk} {e:Expr} {es:List Expr} {i:yT} {is:yU}
theorem aQ (ha:PE X e (TAe PK i)) (hr:PA X es (TAd PK is)) (hs:plE e=true:=by rfl):PA X (e::es) (TAd PK (af i is)):=aj ha hr (ZgR hs)
end
noncomputable def ji:List PyData->Option za
 | []=>some []
 | .str x::r=>(ji r).map (x::·)
 | _::_=>none
noncomputable def jD (sep:Str) (ts:za):Bool:=decide (sep.length<=16/\(ts.map (·.length)).sum+ts.length<=1048576)
noncomputable def cv:y3
 | .str sep,.list ds=>(ji ds).bind λts=>if jD sep ts=true then some (.str (Txt.join sep ts)) else none
 | _,_=>none
noncomputable def ZbK:V->List V->Hp->VK->Prop:=λx vs H Q=>∃ sep l ts,x=.str sep/\vs=[.ref l]/\H l=some (.lst (ts.map V.str))/\jD sep ts=true/\Q (.str (Txt.join sep ts)) H
theorem ZaT:∀ {ts:za} {us:y9},Vals (ts.map V.str) us->StrsAre us ts
 | [],_,.nil=>.nil
 | t::ts,_,.cons r h=>by
  obtain ⟨k,rfl⟩:=r
  exact .cons t k (ZaT h)
section
variable {X:Cx}
theorem pj:jQ X "str.join" ZbK:=by
 intro pins s σ H x vs v us Q I rx rv h
 obtain ⟨sep,l,ts,rfl,rfl,hH,hz,q⟩:=h
 obtain ⟨t,rfl⟩:=rx
 obtain ⟨u,rfl,ru⟩:=rv.one
 cases ru
 obtain ⟨z,its,n,r,hl,e⟩:=I.lstM hH
 have hz:=of_decide_eq_true hz
 refine join_listW (D:=l) (items:=its.toArray) ⟨_,e,rfl,n,rfl⟩ (ZaT r) hz.1 hz.2 λt' k=>?_
 exact ⟨.str _,H,I.tok _,⟨_,rfl⟩,q⟩
end
theorem ZdP {G:Hp}:∀ {vs:zb} {ds:y6} {ts:za},DnAll G vs ds->ji ds=some ts->vs=ts.map V.str:=by
 intro vs ds
 induction ds generalizing vs with
 | nil=>intro ts h e; cases h; cases e; rfl
 | cons d ds ih =>
  intro ts h e
  cases h with
  | cons h1 h2 =>
   cases d with
   | str x =>
    cases h1
    unfold ji at e
    obtain ⟨ts',e1,rfl⟩:=wG.mp e
    rw [ih h2 e1]; rfl
   | _=>cases e
section
variable {X:Cx} {PK:Pk} {o e:Expr} {i j:yT} {apos cpos:Pos} {sep:Str}
theorem jK (ho:PE X o (TAe PK (aC (.str sep)))) (he:PE X e (TAe PK j))
  (hbase:attributeBase o "join" X.env (eval o X.env)=eval o X.env:=by rfl)
  (hfew:((backTo cpos (starEach [e] X.env)).all (λx=>!x.1) && (backToKw cpos (keywordEach [] X.env)).all (λx=>x.1.isSome)
   && decide (([e]:List Expr).length+([]:List Keyword).length+(if ([]:List Keyword).isEmpty then 0 else 1) < 30))=true:=by rfl)
  (hline:(apos.endLine == cpos.line)=true:=by rfl) (hs:starEach [e] X.env=(false,eval e X.env)::starEach [] X.env:=by rfl) (hplain:(backTo cpos (starEach [] X.env)).any (·.1)=false:=by rfl) :
  PE X (.Call (.Attribute o "join" apos) [e] [] cpos) (TAe PK (ad cv (aC (.str sep)) j)) :=
 (gS PySem.F.plainAttrs_str xC xB pj ho (aT he bz hs) hbase hfew hline hs hplain).imp λσ H Q hz0=>by
  obtain ⟨pa,ze,H₀,m,ρ,G,R,q⟩:=hz0
  have R0:=R
  refine ⟨pa,ze,H₀,m,ρ,G,R,?_⟩
  show Kn PK pa m G H (.str sep) _
  intro v G1 H1 s1 w1 d1
  cases d1
  refine ⟨rfl,?_⟩
  have q':((j ρ).bind λy=>Tr.of (cv (.str sep) y)).ok m λm' d=>Kn PK pa m' G H d Q:=q
  refine TAe.then (R.step s1 w1) q' λm2 y u G2 H2 s2 w2 R2 d2 q2=>?_
  obtain ⟨z,hz,k⟩:=Tr.ok_of q2
  cases y with
  | list ds =>
   obtain ⟨ts,e1,e2⟩:=wV.mp (show (ji ds).bind (λts=>if jD sep ts=true then some (PyData.str (Txt.join sep ts)) else none)=some z from hz)
   cases hc:jD sep ts with
   | false=>rw [hc] at e2; cases e2
   | true =>
    rw [hc] at e2
    cases e2
    cases d2 with
    | lst h1 h2 =>
     have:=ZdP h2 e1
     subst this
     exact ⟨sep,_,ts,rfl,rfl,w2.sub _ _ h1,hc,(Kn.later k (s1.trans s2 w1.some) w2.some).here w2 (.str _)⟩
  | _=>cases hz
end
theorem Zi1 {P:Program} {w:World} {K:yS} {mg:zc} {base:Heap} {N:za} {qual:Str} {scope:Scope} {f:Addr} {cd:Value} {A:Around} {outer:List Env} {s₀:Shared} {H₀:Hp} {E E1:XK}
  {pins:List (Addr×Obj)} {σ:St} {H:Hp} {s s':Shared} {e:Value}
  (I:Inv (cS (bX P w) P w K mg base N qual scope f cd A outer s₀ H₀ E) pins σ H s) (hq:bX P w (envOfC qual scope s₀.heap.objs.size f cd::outer) H s E1 e s') (hE:∀ cls H',E1 cls none H'->E cls none H') :
  (cS (bX P w) P w K mg base N qual scope f cd A outer s₀ H₀ E).xe e s':=by
 have hst:s.heap.FunFrames base (envOfC qual scope s₀.heap.objs.size f cd::outer):=I.stack
 have hbase:Un (frs outer) [] H₀ H s₀.heap s.heap:=I.base
 obtain ⟨_,⟨L,oL,hL,_,hoL,_⟩,_⟩:=id hst
 have hLe:L=s₀.heap.objs.size:=(vT hL).symm
 have hfs:∀ b,b∈frs (envOfC qual scope s₀.heap.objs.size f cd::outer) ↔ b=L\/b∈frs outer:=λb=>by
  unfold frs
  rw [wz,hL]
  exact vD
 have old:∀ b o,s₀.heap.get? b=some o->b≠L:=λb o hb z=>by
  have:=vM hb
  rw [z,hLe] at this
  exact absurd this (vU _)
 show wpAny (model P w) (A.deeper (envOfC qual scope s₀.heap.objs.size f cd)) (leaving (envOfC qual scope s₀.heap.objs.size f cd) e) (λ_ s''=>bX P w outer H₀ s₀ E e s'') (λe' s''=>bX P w outer H₀ s₀ E e' s'') s'
 unfold leaving
 refine wpAny_bind (Zek (X:=cS (bX P w) P w K mg base N qual scope f cd A outer s₀ H₀ E) (outer:=outer) (L:=L) I rfl hL hq λea cls H' h' eq I5 hea hcl fly un hE1=>?_)
 obtain ⟨b'',t,fl,hf,hbt⟩:=fly
 obtain ⟨f1,f2,⟨_,_,f3⟩,f4⟩:=fl
 refine ⟨ea,t,cls,b'',H',eq,I5.os,I5.bare,I5.base,I5.hok,⟨f1,f2,f3,f4⟩,λb o hb hn=>?_,hbt,hE cls H' hE1⟩
 cases e1:b''.get? b with
 | some o'=>exact ⟨o',rfl⟩
 | none =>
  obtain ⟨o',e2⟩:=hbase.there b o hb (by simp)
  have:=hf b e1 λz=>((hfs b).mp z).elim (old b o hb) hn
  rw [e2] at this
  cases this
theorem ZjD {e:Value} {a b:Env} (h:a.frame=b.frame):noteFrame e a=noteFrame e b:=by
 unfold noteFrame PySem.frameOf
 rw [h]
theorem Zh7 {b' h:Heap} {l:List Env} {e L:Addr} {cls a0:Value} (x:Heap.HeldW b' l e cls a0 L h):∃ T,b'.get? T=none/\(∃ oT ts,h.get? T=some oT/\oT.data=.fields ts)/\(∃ oe vs,h.get? e=some oe/\oe.cls=cls/\oe.data=.fields vs)/\Heap.HeldW (fL h (e::T::frs l)) l e cls a0 L h:=by
 obtain ⟨f1,f2,f3,oe,vs,T,oT,ts,he,hc,hd,h1,hT,hTe,hoT,hdT,h3⟩:=x
 refine ⟨T,hT,⟨oT,ts,hoT,hdT⟩,⟨oe,vs,he,hc.1,hd⟩,pd _ _,iB (by simp),ffr f3 _ λb hb=>vC _ (vC _ hb),oe,vs,T,oT,ts,he,hc,hd,h1,iB (by simp),hTe,hoT,hdT,h3⟩
def rb (X:Cx) (E:XK) (L:Addr) (e:Value) (s':Shared):Prop:=∃ (pins:List (Addr×Obj)) (σ:St) (H':Hp) (ea t:Addr) (cls:Value) (b':Heap),e=.ref ea/\Inv X pins σ H' s'/\Heap.HeldW b' X.stack ea cls (.ref t) L s'.heap /\
 (∀ b o,X.s₀.heap.get? b=some o->b ∉ frs X.stack->b ∉ X.ex->∃ o',b'.get? b=some o')/\(∀ b,H' b≠none->∃ o',b'.get? b=some o')/\E cls none H'
def qR (X:Cx) (E:XK) (L:Addr):Prop:=∀ (e:Value) (s':Shared),rb X E L e s'->X.xe e s'
theorem Zdk {h base:Heap} {l:List Env} (f:h.FunFrames base l) {b:Addr} {o:Obj} {us:Array Value} (h1:h.get? b=some o) (h2:o.data=.fields us):b ∉ frs l:=λz=>by
 obtain ⟨_,o',ho',hd⟩:=f.mem z
 rw [h1] at ho'
 cases ho'
 exact hd us h2
theorem ZjC {X:Cx} {pins:List (Addr×Obj)} {σ:St} {H:Hp} {s s':Shared} {E:XK} {e:Value} {outer:List Env} {env0:Env} {L:Addr} {Q:Unit->Shared->Prop} {EE:y4}
  (I:Inv X pins σ H s) (hstk:X.stack=env0::outer) (hL0:env0.frame=some L) (hL:X.env.frame=some L) (hq:bX X.prog X.w X.stack H s E e s')
  (k:∀ h',rb X E L e { s' with heap:=h' }->Q () { s' with heap:=h' }):wpAny (model X.prog X.w) X.A (noteFrame e X.env) Q EE s':=by
 obtain ⟨ea,t,cls,b',H',rfl,os,bare,un,hok,fl,hb',ht,hE⟩:=hq
 rw [ZjD (hL.trans hL0.symm)]
 have hst:∀ b∈frs X.stack,H b=none:=I.stkFree
 have funs:s.heap.FunFrames X.base X.stack:=I.stack
 have hst':∀ b∈frs X.stack,H' b=none:=λb hb=>by
  obtain ⟨_,o,ho,_⟩:=funs.mem hb
  exact un.free b o ho (hst b hb) (by simp)
 have hfr:X.A.frames=some (env0::outer):=by rw [<- hstk]; exact I.ok.frames
 obtain ⟨T,hT,⟨oT,ts,hoT,hdT⟩,⟨oe,vs,hoe,hoc,hod⟩,fl'⟩:=rebase fl
 have nea:ea ∉ frs X.stack:=Zdk fl.2.2.1 hoe hod
 have nT:T ∉ frs X.stack:=Zdk fl.2.2.1 hoT hdT
 have notin:∀ c:Addr,b'.get? c=none->c ∉ frs X.stack->s.heap.get? c=none:=λc hc hf=>by
  cases e1:s.heap.get? c with
  | none=>rfl
  | some o =>
   obtain ⟨o',e2⟩:=hb' c o e1 hf
   rw [hc] at e2; cases e2
 have nob:∀ {c:Addr} {o:Obj},b'.get? c=some o->c≠ea/\c≠T:=λ{c o} hc=>⟨(λz=>by rw [z,fl.2.1] at hc; exact nomatch hc),(λz=>by rw [z,hT] at hc; exact nomatch hc)⟩
 refine wpAny_looks_onW hfr hL0 (by rw [<- hstk]; exact fl') λh₄ held ups=>?_
 rw [<- hstk] at held
 have stay:∀ b o,s'.heap.get? b=some o->b ∉ frs X.stack->b ∉ [ea,T]->h₄.get? b=some o:=λb o hb hn hx=>held.1 b o (by
  rw [dR]
  ·exact hb
  ·intro z
   rcases vD.mp z with z | z
   ·exact hx (by simp [z])
   ·rcases vD.mp z with z | z
    ·exact hx (by simp [z])
    ·exact hn z)
 have slot:∀ b o,s'.heap.get? b=some o->b∈frs X.stack->∃ sl,h₄.get? b=some { o with slots:=sl }:=λb o hb hn=>by
  obtain ⟨_,o',ho',hd⟩:=fl.2.2.1.mem hn
  rw [hb] at ho'
  cases ho'
  exact ups b o hb hd
 have un4:Un (frs X.stack) [ea,T] H' H' s'.heap h₄:=⟨λb o hb hn hf hx=>stay b o hb hf hx,λb o hb hn hf hx=>slot b o hb hf,λb o hb hn hx=>hn,λb o hb hx=>by
  by_cases hq:b∈frs X.stack
  ·obtain ⟨sl,e1⟩:=slot b o hb hq
   exact ⟨_,e1⟩
  ·exact ⟨o,stay b o hb hq hx⟩,λ_ _ z=>z,λ_ _ _ z=>z,λb ps z=>⟨#[],by rw [z,ym]⟩⟩
 have hok4:HOk X.prog X.w H' h₄:=HOk.tracked hok λb u hb q=>stay b u q (λz=>hb (hst' b z)) λz=>by
  obtain ⟨o',e2⟩:=ht b hb
  rcases vD.mp z with z | z
  ·exact (nob e2).1 z
  ·exact (nob e2).2 (by simpa using z)
 have un':=un.skip un4 λc hc=>by
  rcases vD.mp hc with z | z
  ·subst z; exact notin c fl.2.1 nea
  ·have z:c=T:=by simpa using z
   subst z; exact notin c hT nT
 have I4:Inv X pins σ H' { s' with heap:=h₄ }:=I.call' (s':={ s' with heap:=h₄ }) os un' hok4 bare λb hb=>absurd hb (by simp)
 have out:∀ {b:Addr} {o2:Obj},b'.get? b=some o2->b ∉ frs X.stack->b ∉ ea::T::frs X.stack:=λ{b o2} e2 hf z=>by
  rcases vD.mp z with z | z
  ·exact (nob e2).1 z
  ·rcases vD.mp z with z | z
   ·exact (nob e2).2 z
   ·exact hf z
 refine k h₄ ⟨pins,σ,H',ea,t,cls,_,rfl,I4,held,λb o hb hf hx=>?_,λb hb=>?_,hE⟩
 ·obtain ⟨o1,e1⟩:=I.base.there b o hb hx
  obtain ⟨o2,e2⟩:=hb' b o1 e1 hf
  obtain ⟨o3,e3⟩:=un.there b o1 e1 (by simp)
  exact ⟨o3,by rw [dR (out e2 hf)]; exact e3⟩
 ·obtain ⟨o2,e2⟩:=ht b hb
  cases e1:H' b with
  | none=>exact absurd e1 hb
  | some u =>
   obtain ⟨o3,e3⟩:=(hok b u e1).get
   exact ⟨o3,by rw [dR (out e2 λz=>hb (hst' b z))]; exact e3⟩
theorem Zc8 {P:Program} {w:World} {K:yS} {mg:zc} {base:Heap} {N:za} {qual:Str} {scope:Scope} {f:Addr} {cd:Value} {A:Around} {outer:List Env} {s₀:Shared} {H₀:Hp} {E:XK} :
  qR (cS (bX P w) P w K mg base N qual scope f cd A outer s₀ H₀ E) E s₀.heap.objs.size:=by
 rintro e s' ⟨pins,σ,H',ea,t,cls,b',rfl,I,held,c1,c2,hE⟩
 obtain ⟨T,hT,⟨oT,ts,hoT,hdT⟩,⟨oe,vs,hoe,hoc,hod⟩,held'⟩:=Zh7 held
 have hbase:Un (frs outer) [] H₀ H' s₀.heap s'.heap:=I.base
 have hL:(envOfC qual scope s₀.heap.objs.size f cd).frame=some s₀.heap.objs.size:=rfl
 have hfs:∀ b,b∈frs (envOfC qual scope s₀.heap.objs.size f cd::outer) ↔ b=s₀.heap.objs.size\/b∈frs outer:=λb=>by
  unfold frs
  rw [wz,hL]
  exact vD
 have old:∀ b o,s₀.heap.get? b=some o->b≠s₀.heap.objs.size:=λb o hb z=>absurd (vM hb) (by rw [z]; exact vU _)
 have hfree:∀ b∈frs (envOfC qual scope s₀.heap.objs.size f cd::outer),H' b=none:=I.stkFree
 have nob:∀ {c:Addr} {o:Obj},b'.get? c=some o->c≠ea/\c≠T:=λ{c o} hc=>⟨(λz=>by rw [z,held.2.1] at hc; exact nomatch hc),(λz=>by rw [z,hT] at hc; exact nomatch hc)⟩
 have c1':∀ b o,s₀.heap.get? b=some o->b ∉ frs outer->b≠ea/\b≠T:=λb o hb hf=>by
  obtain ⟨o',e⟩:=c1 b o hb (λz=>((hfs b).mp z).elim (old b o hb) hf) (by show b ∉ ([]:List Addr); simp)
  exact nob e
 show wpAny (model P w) (A.deeper (envOfC qual scope s₀.heap.objs.size f cd)) (leaving (envOfC qual scope s₀.heap.objs.size f cd) (.ref ea)) (λ_ s''=>bX P w outer H₀ s₀ E (.ref ea) s'') (λe' s''=>bX P w outer H₀ s₀ E e' s'') s'
 unfold leaving
 refine wpAny_bind (wpAny_noteFrame_againW hL held'.2.2.2 (wpAny_landsW held' λh5 fl ups=>?_))
 have stay:∀ b o,s'.heap.get? b=some o->b ∉ frs (envOfC qual scope s₀.heap.objs.size f cd::outer)->b≠ea/\b≠T->h5.get? b=some o:=λb o hb hn hx=>fl.1 b o (by
  rw [dR]
  ·exact hb
  ·intro z
   rcases vD.mp z with z | z
   ·exact hx.1 z
   ·rcases vD.mp z with z | z
    ·exact hx.2 z
    ·exact hn z)
 have slot:∀ b o,s'.heap.get? b=some o->b∈frs (envOfC qual scope s₀.heap.objs.size f cd::outer)->∃ sl,h5.get? b=some { o with slots:=sl }:=λb o hb hn=>by
  obtain ⟨_,o',ho',hd⟩:=held.2.2.1.mem hn
  rw [hb] at ho'
  cases ho'
  exact ups b o hb hd
 have notf:∀ {b:Addr} {o:Obj},s₀.heap.get? b=some o->b ∉ frs outer->b ∉ frs (envOfC qual scope s₀.heap.objs.size f cd::outer):=λ{b o} hb hf z=>((hfs b).mp z).elim (old b o hb) hf
 obtain ⟨f1,f2,⟨_,_,f3⟩,f4⟩:=fl
 refine ⟨ea,t,cls,_,H',rfl,I.os,I.bare,⟨λb o hb hn hf hx=>?_,λb o hb hn hf hx=>?_,hbase.free,λb o hb hx=>?_,hbase.tups,hbase.frzs,hbase.tbls⟩,HOk.tracked I.hok λb u hb q=>?_,⟨f1,f2,f3,f4⟩,λb o hb hf=>?_,λb hb=>?_,hE⟩
 ·exact stay b o (hbase.keep b o hb hn hf hx) (notf hb hf) (c1' b o hb hf)
 ·obtain ⟨sl,e1⟩:=hbase.slot b o hb hn hf hx
  obtain ⟨dC,e2⟩:=slot b _ e1 ((hfs b).mpr (.inr hf))
  exact ⟨dC,e2⟩
 ·obtain ⟨o',e1⟩:=hbase.there b o hb hx
  by_cases hq:b∈frs outer
  ·obtain ⟨dC,e2⟩:=slot b _ e1 ((hfs b).mpr (.inr hq))
   exact ⟨_,e2⟩
  ·exact ⟨o',stay b o' e1 (notf hb hq) (c1' b o hb hq)⟩
 ·obtain ⟨o',e2⟩:=c2 b hb
  exact stay b u q (λz=>hb (hfree b z)) (nob e2)
 ·obtain ⟨o',e1⟩:=hbase.there b o hb (by simp)
  refine ⟨o',?_⟩
  rw [dR]
  ·exact e1
  ·intro z
   rcases vD.mp z with z | z
   ·exact (c1' b o hb hf).1 z
   ·rcases vD.mp z with z | z
    ·exact (c1' b o hb hf).2 z
    ·exact notf hb hf z
 ·obtain ⟨o2,e2⟩:=c2 b hb
  cases e1:H' b with
  | none=>exact absurd e1 hb
  | some u =>
   obtain ⟨o3,e3⟩:=(I.hok b u e1).get
   refine ⟨o3,?_⟩
   rw [dR]
   ·exact e3
   ·intro z
    rcases vD.mp z with z | z
    ·exact (nob e2).1 z
    ·rcases vD.mp z with z | z
     ·exact (nob e2).2 z
     ·exact hb (hfree b z)
theorem Zdl {h h' base:Heap}:∀ {l:List Env},h.FunFrames base l->(∀ b∈frs l,∀ o,h.get? b=some o->h'.get? b=some o)->h'.FunFrames base l
 | [],_,_=>trivial
 | env::l,⟨a,⟨L,o,hL,hb,ho,hd⟩,r⟩,k=>by
  have e:frs (env::l)=L::frs l:=by unfold frs; rw [wz,hL]
  exact ⟨a,⟨L,o,hL,hb,k L (by rw [e]; simp) o ho,hd⟩,Zdl r λb hb=>k b (by rw [e]; exact vC _ hb)⟩
theorem Zf2 {h:Heap} {a:Addr} {o:Obj} {f:Obj->Obj} (ho:h.get? a=some o) (hf:f o=o):h.update a f=h:=by
 obtain ⟨objs,l⟩:=h
 show Heap.mk (objs.modify a f) l=Heap.mk objs l
 congr 1
 apply Array.ext
 ·simp
 ·intro i h1 h2
  rw [Array.getElem_modify]
  split
  ·rename_i e
   subst e
   have:objs[a]?=some o:=by
    unfold Heap.get? at ho
    split at ho
    ·cases ho
    ·exact ho
   rw [yI h2] at this
   cases this
   exact hf
  ·rfl
theorem Zi0 {X:Cx} {pins:List (Addr×Obj)} {σ:St} {H':Hp} {s':Shared} {E:XK} {L C ea t:Addr} {cls:Value} {b' h':Heap} {cenv:Env} {what:String} {α:Type} (hX:qR X E L) (hcf:cenv.frame=some L)
  (I:Inv X pins σ H' s') (held:Heap.HeldW b' X.stack ea cls (.ref t) L s'.heap) (c1:∀ b o,X.s₀.heap.get? b=some o->b ∉ frs X.stack->b ∉ X.ex->∃ o',b'.get? b=some o') (c2:∀ b,H' b≠none->∃ o',b'.get? b=some o') (hE:E cls none H')
  (hC:∃ m,s'.heap.Ns C m) (hn:H' C=none) (hCL:C≠X.env.locals) (h0:X.s₀.heap.objs.size<=C) (hcl:∀ x c,X.env.cells.lookup x=some c->c≠C) (hp:∀ p∈X.pn++pins,p.1≠C) (hCf:C ∉ frs X.stack) (hsb:Heap.SameBut C s'.heap h') :
  wpAny (model X.prog X.w) X.A (PySem.passOn what (.ref ea) cenv:Sem α) (λ_ _=>False) X.xe { s' with heap:=h' }:=by
 obtain ⟨m,oC,es,ep,hoC,hdC,_⟩:=hC
 have I':Inv X pins σ H' { s' with heap:=h' }:=I.turned (it:=C) (t':=s'.toks) (λb o hb e=>(hsb.2 b hb).trans e) hn hCL (.inr h0) hcl hp
 obtain ⟨f1,f2,f3,oe,vs,T,oT,ts,he,hc,hd,h1,hT,hTe,hoT,hdT,h3⟩:=held
 have nC:∀ {b:Addr} {o:Obj} {us:Array Value},s'.heap.get? b=some o->o.data=.fields us->b≠C:=λ{b o us} e1 e2 z=>by
  rw [z,hoC] at e1
  cases e1
  rw [hdC] at e2
  cases e2
 have he':h'.get? ea=some oe:=(hsb.2 ea (nC he hd)).trans he
 have hT':h'.get? T=some oT:=(hsb.2 T (nC hoT hdT)).trans hoT
 have hsz3:3 < ts.size:=(xh.mp h3).1
 have same:h'.update T (Obj.mapFields (·.setIfInBounds 3 ((some L).elim Value.none λf=>rawInt f)))=h':=Zf2 hT' (by
  obtain ⟨c,d,dt,sl⟩:=oT
  have hdT:dt=.fields ts:=hdT
  subst hdT
  show Obj.mk c d (.fields (ts.setIfInBounds 3 (rawInt L))) sl=_
  congr 2
  apply Array.ext
  ·simp
  ·intro i q1 q2
   rw [Array.getElem_setIfInBounds]
   split
   ·rename_i e
    subst e
    rw [yI q2] at h3
    exact (vT h3).symm
   ·rfl)
 unfold PySem.passOn
 refine wpAny_bind (wpAny_field he' hd h1 ?_)
 rw [if_neg (show ¬ ((Value.ref T == Value.none)=true) from by simp)]
 unfold setFlight
 refine wpAny_bind (wpAny_bind (wpAny_field he' hd h1 ?_))
 rw [if_pos (show (Value.ref T != Value.none)=true from by simp),hcf]
 refine wpAny_setField hT' hdT hsz3 ?_
 rw [same]
 have fr':h'.FunFrames b' X.stack:=Zdl f3 λb hb o ho=>(hsb.2 b λz=>hCf (by rw [<- z]; exact hb)).trans ho
 have nob:∀ {c:Addr} {o:Obj},b'.get? c=some o->c≠ea/\c≠T:=λ{c o} hc=>⟨(λz=>by rw [z,f2] at hc; exact nomatch hc),(λz=>by rw [z,hT] at hc; exact nomatch hc)⟩
 refine wpAny_throw (hX _ _ ⟨pins,σ,H',ea,t,cls,fL h' (ea::T::frs X.stack),rfl,I',⟨pd _ _,iB (by simp),ffr fr' _ λb hb=>vC _ (vC _ hb),oe,vs,T,oT,ts,he',hc,hd,h1,iB (by simp),hTe,hT',hdT,h3⟩,λb o hb hf hx=>?_,λb hb=>?_,hE⟩)
 ·obtain ⟨o2,e2⟩:=c1 b o hb hf hx
  obtain ⟨o3,e3⟩:=I'.base.there b o hb hx
  refine ⟨o3,?_⟩
  rw [dR]
  ·exact e3
  ·intro z
   rcases vD.mp z with z | z
   ·exact (nob e2).1 z
   ·rcases vD.mp z with z | z
    ·exact (nob e2).2 z
    ·exact hf z
 ·obtain ⟨o2,e2⟩:=c2 b hb
  cases e1:H' b with
  | none=>exact absurd e1 hb
  | some u =>
   obtain ⟨o3,e3⟩:=(I'.hok b u e1).get
   refine ⟨o3,?_⟩
   rw [dR]
   ·exact e3
   ·intro z
    rcases vD.mp z with z | z
    ·exact (nob e2).1 z
    ·rcases vD.mp z with z | z
     ·exact (nob e2).2 z
     ·exact hb (I'.stkFree b z)
noncomputable def kN (X:Cx) (N:za) (scope:Scope) (E:XK) (L:Addr) (b:Blk):Cx :=
 (ba X N scope b).wish λe s'=>(∃ (pins:List (Addr×Obj)) (σ:St) (H:Hp) (s:Shared),Inv (ba X N scope b) pins σ H s/\bX X.prog X.w X.stack H s E e s')\/rb (ba X N scope b) E L e s'
theorem Zcd {X:Cx} {N:za} {scope:Scope} {E:XK} {L:Addr} {b:Blk}:k9 (bX X.prog X.w) (kN X N scope E L b) E:=λpins σ H s e s' I h=>.inl ⟨pins,σ,H,s,I.unwish,h⟩
theorem ZiZ {X:Cx} {N:za} {scope:Scope} {E:XK} {L:Addr} {b:Blk}:qR (kN X N scope E L b) E L:=by
 rintro e s' ⟨pins,σ,H',ea,t,cls,b',h1,I,h2,h3,h4,h5⟩
 exact .inr ⟨pins,σ,H',ea,t,cls,b',h1,I.unwish,h2,h3,h4,h5⟩
theorem ZqL {prog:Program} {w:World} {A:Around} {R:Result->Shared->Prop} {s:Shared} {elt target iter:Expr} {scope:Scope} {pos:Pos} {it acc:Value} {env:Env} {EE:y4}
  (hE:∀ e s',EE e s'->notedBy (model prog w) A env (λx s''=>R (.error x) s'') e s') (J:Nat->Shared->Prop)
  (step:∀ k s0,J k s0->wpAny (model prog w) A (pyNext it) (λgot s1=>match got with
   | none=>R (.ok .next) s1
   | some v=>wpAny (model prog w) A (letOwnedTupleGo target it v) (λ_ s2=>wpAny (model prog w) A (assign target env v) (λ_ s3=>wpAny (model prog w) A (eval elt env) (λy s4 =>
     wpAny (model prog w) A (call (.builtin "list.append") [acc,y]) (λ_ s5=>∃ j,j < k/\J j s5) (λ_ _=>False) s4) EE s3) (λ_ _=>False) s2) (λ_ _=>False) s1) (λ_ _=>False) s0)
  (k:Nat) (h:J k s):codeAny (model prog w) A (.compLoop (.ListComp elt [⟨target,iter,[],0⟩] scope pos) 0 it acc env) R s:=by
 refine codeAny_loop rfl J (λk0 s0 hJ=>?_) k h
 show wpAny _ _ ((compTurn (.ListComp elt [⟨target,iter,[],0⟩] scope pos) 0 it acc env).onRaise (λx=>do noteFrame x env; theTreesLotGoes x)) _ _ s0
 apply wpAny_noted
 rw [compTurn_list1]
 refine wpAny_bind (wpAny_standAt (wpAny_bind (wpAny_mono (step k0 s0 hJ) (λgot s1 h1=>?_) λ_ _ z=>z.elim)))
 cases got with
 | none=>exact wpAny_pure h1
 | some v =>
  refine wpAny_bind (wpAny_mono h1 (λ_ s2 h2=>?_) λ_ _ z=>z.elim)
  refine wpAny_bind (wpAny_mono h2 (λ_ s3 h3=>?_) λ_ _ z=>z.elim)
  refine wpAny_bind (wpAny_bind (wpAny_mono h3 (λy s4 h4=>?_) λe s' z=>hE e s' z))
  exact wpAny_bind (wpAny_mono h4 (λ_ s5 h5=>wpAny_pure (wpAny_pure ⟨rfl,h5⟩)) λ_ _ z=>z.elim)
section
variable {X:Cx} {pins:List (Addr×Obj)} {σ:St} {H:Hp} {s:Shared}
theorem Zkt {E0:XK} {L:Addr} {env0:Env} {outer:List Env} {elt target iter:Expr} {scope:Scope} {pos:Pos} {Nx ts:za} {ix:List Nat} {g:Blk->TG} {te:Blk->TE} {cl:List (Str×Addr)} {s2:Shared} {itv:Value} {R:Value->Env->Result->Shared->Prop}
  {E:y4} {Q:VK}
  (hc:X.calm=true) (hg:∀ b,PG (ba X (bN Nx ts ix) scope b) target (g b)) (he:∀ b,PE (kN X (bN Nx ts ix) scope E0 L b) elt (te b)) (hstk:X.stack=env0::outer) (hL0:env0.frame=some L) (hL:X.env.frame=some L)
  (hNx:X.N=Nx) (ok:BlkOk Nx X.env.scope scope ix) (cl1:∀ x c,cl.lookup x=some c->X.env.cells.lookup x=some c) (cl2:∀ y∈scope.names,y.2=.free->∃ c,cl.lookup y.1=some c)
  (h2:la X pins σ target (λJ H1=>∀ b:Blk,∃ W:Nat->Nat->St->List V->Hp->Prop,(∃ m,W 0 m (dc ts.length ix σ) [] H1)/\∀ i m τ ys H2,W i m τ ys H2 ->
   (J.stop i H2/\∀ p v H',H2 p=none->v=V.ref p->H'=upd H2 p (.lst ys)->Q v H') \/
   (J.go i H2/\ys.length < sizeLine/\∀ x H3,J.yld i H2 x H3->g b x τ H3 λτ2 H4=>te b τ2 H4 λy H5=>∃ m',m' < m/\W (i+1) m' τ2 (ys++[y]) H5)) itv s2)
  (hR:∀ (D C:Addr) (cenv:Env) (H':Hp) (s':Shared) (v:V),cenv.locals=C->Inv X pins σ H' s'->v=.ref D->Q v H'->(∃ m,s'.heap.Ns C m)->H' C=none->C≠X.env.locals->X.s₀.heap.objs.size<=C->(∀ x c,X.env.cells.lookup x=some c->c≠C)->(∀ p∈X.pn++pins,p.1≠C) ->
   R (.ref D) cenv (.ok .next) s')
  (hRe:∀ (D C ea t:Addr) (cls:Value) (b':Heap) (cenv:Env) (H':Hp) (s':Shared),cenv.locals=C->cenv.frame=X.env.frame->Inv X pins σ H' s'->Heap.HeldW b' X.stack ea cls (.ref t) L s'.heap->(∀ b o,X.s₀.heap.get? b=some o->b ∉ frs X.stack->b ∉ X.ex->∃ o',b'.get? b=some o')->(∀ b,H' b≠none->∃ o',b'.get? b=some o')->E0 cls none H' ->
   (∃ m,s'.heap.Ns C m)->H' C=none->C≠X.env.locals->X.s₀.heap.objs.size<=C->(∀ x c,X.env.cells.lookup x=some c->c≠C)->(∀ p∈X.pn++pins,p.1≠C)->C ∉ frs X.stack->R (.ref D) cenv (.error (.ref ea)) s') :
  wpAny (model X.prog X.w) X.A (newList []) (λacc s₃=>wpAny (model X.prog X.w) X.A (newFunctionEnv scope X.env.globals cl [] X.env.qual none .none (some X.env)) (λcenv s₄ =>
   codeAny (model X.prog X.w) X.A (.compStart (.ListComp elt [⟨target,iter,[],0⟩] scope pos) 0 itv acc { cenv with scope:=relabel scope X.env }) (R acc cenv) s₄) E s₃) E s2:=by
 obtain ⟨it,fp,tn,J,H1,e,I2,T,st2,f2,q2⟩:=h2
 subst e
 refine wpAny_newObj_type (rp ?_)
 dsimp only
 generalize hG:s2.heap.push { cls:=.type "list",dict:=none,data:=.seq ([]:y9).toArray }=G
 have hGs:G.objs.size=s2.heap.objs.size+1:=by rw [<- hG,wF]
 have hfs:∀ b∈fp,b < s2.heap.objs.size:=λb hb=>let ⟨o,e,_⟩:=T.obj _ _ st2 b hb; vM e
 have kpG:∀ b o,G.get? b=some o->(pushCells (G.push { cls:=.type "dict",data:=.dict #[] }) scope.names).get? b=some o:=λb o e=>pushCells_keeps _ _ _ _ (vA _ e)
 have hns3:(pushCells (G.push { cls:=.type "dict",data:=.dict #[] }) scope.names).Ns G.objs.size (λ_=>none):=(Heap.Ns.new G (.type "dict")).keeps (pushCells_keeps _ _)
 obtain ⟨sp1,sp2,sp4,sp3⟩:=uO scope.names (G.push { cls:=.type "dict",data:=.dict #[] }) cl
 rw [wF] at sp1 sp2 sp3 sp4
 generalize hh3:pushCells (G.push { cls:=.type "dict",data:=.dict #[] }) scope.names=h3 at kpG hns3 sp1 ⊢
 have kp:∀ b o,s2.heap.get? b=some o->h3.get? b=some o:=λb o e=>kpG b o (by rw [<- hG]; exact vA _ e)
 have hD3:h3.get? s2.heap.objs.size=some { cls:=.type "list",data:=.seq ([]:y9).toArray }:=kpG _ _ (by rw [<- hG]; exact vI _ rfl)
 have clB:∀ x c,cl.lookup x=some c->c < G.objs.size+1:=λx c e=>by
  obtain ⟨v,q⟩:=I2.cell x c (cl1 x c e)
  exact xx (vE q.lt (by rw [hGs]; exact Nat.le_succ _))
 have csI:=sp3 clB λx y c e1 e2=>I2.ok.inj x y c (cl1 x c e1) (cl1 y c e2)
 have cs1:∀ x c,(cellsFrom (G.objs.size+1) scope.names cl).lookup x=some c->X.env.cells.lookup x=some c\/(G.objs.size < c/\h3.IsCell c none/\(x,NameKind.cell)∈scope.names):=λx c e=>by
  rcases sp1 x c e with z | ⟨z1,z2,z3⟩
  ·exact .inl (cl1 x c z)
  ·exact .inr ⟨by omega,z2,z3⟩
 have cs2:∀ y∈scope.names,(y.2=.free\/y.2=.cell)->∃ c,(cellsFrom (G.objs.size+1) scope.names cl).lookup y.1=some c:=λy hy hk=>by
  refine sp2 y.1 ?_
  rcases hk with z | z
  ·exact .inr (cl2 y hy z)
  ·exact .inl (by rw [<- z]; exact hy)
 have csA:∀ x c,(x,NameKind.cell)∈scope.names->(cellsFrom (G.objs.size+1) scope.names cl).lookup x=some c->G.objs.size<=c:=λx c e1 e2=>xy (sp4 x c e1 e2)
 generalize hcs:cellsFrom (G.objs.size+1) scope.names cl=cs at csI cs1 cs2 csA ⊢
 generalize hCe:G.objs.size=C at hns3 cs1 csA ⊢
 have hC:s2.heap.objs.size<=C:=by omega
 have hDC:s2.heap.objs.size≠C:=by omega
 let B:Blk:=⟨cs,C,s2,H1,fp,X.pn++pins⟩
 have I3:Inv (ba X (bN Nx ts ix) scope B) [] (dc ts.length ix σ) H1 { s2 with heap:=h3 }:=ue I2 hNx ok cs1 csI cs2 csA f2 hfs hC kp hns3
 have fC:H1 s2.heap.objs.size=none:=I2.hok.fresh (vF _)
 have cellIn:∀ x c,cs.lookup x=some c->c≠s2.heap.objs.size:=λx c e=>by
  rcases cs1 x c e with z | ⟨z,_,_⟩
  ·obtain ⟨v,q⟩:=I2.cell x c z
   exact vR q.lt
  ·exact wq (wM hC z)
 have pinIn:∀ p∈X.pn++pins,p.1 < s2.heap.objs.size:=λp hp=>vM (I2.pin p hp).1
 have nofrs:s2.heap.objs.size ∉ frs X.stack:=λhb=>by
  rcases vD.mp (I2.stkSub _ hb) with z | z
  ·exact absurd I2.lt (by rw [<- z]; exact vU _)
  ·exact I2.nofs (vF _) z
 -- a state with the list at its place,pinned
 have pinD:∀ {τ:St} {H':Hp} {s':Shared} {ob:Obj},Inv (ba X (bN Nx ts ix) scope B) [] τ H' s'->s'.heap.get? s2.heap.objs.size=some ob->H' s2.heap.objs.size=none->(∀ v,ob.data≠.cell v)->Inv (ba X (bN Nx ts ix) scope B) [(s2.heap.objs.size,ob)] τ H' s' :=
  λ{τ H' s' ob} I' ho hn hd=>I'.pins_of λp hp=>by
   have e:p=(s2.heap.objs.size,ob):=by simpa using hp
   subst e
   exact ⟨ho,hn,hDC,nofrs,hd⟩
 obtain ⟨W,⟨m0,w0⟩,turn⟩:=q2 B
 have stat:∀ {H':Hp} {ob:Obj},(∀ b∈fp,H' b=none)->∀ b∈fp,fB (ba X (bN Nx ts ix) scope B) [(s2.heap.objs.size,ob)] H' b:=λ{H' ob} hn b hb=>by
  refine ⟨hn b hb,vR (vE (hfs b hb) hC),λz=>?_,.inl hb,λx c e=>by
   rcases cs1 x c e with z | ⟨z,_,_⟩
   ·exact (f2 b hb).2.2.2.2.1 x c z
   ·exact wq (vE (hfs b hb) (vO hC (xm z))),λp hp=>?_⟩
  ·rcases vD.mp (I2.stkSub _ z) with q | q
   ·exact (f2 b hb).2.1 q
   ·exact (f2 b hb).2.2.1 q
  ·rcases wE.mp hp with z | z
   ·exact (f2 b hb).2.2.2.2.2 p z
   ·have e:p=(s2.heap.objs.size,ob):=by simpa using z
    subst e
    exact wq (hfs b hb)
 have hCloc:C≠X.env.locals:=λz=>absurd (vE I2.lt hC) (by rw [z]; exact vU _)
 have hCf:C ∉ frs X.stack:=λz=>by
  obtain ⟨_,o,ho,_⟩:=I2.stack.mem z
  exact absurd (vE (vM ho) hC) (vU _)
 have fin:∀ (e:Value) (s':Shared),rb (ba X (bN Nx ts ix) scope B) E0 L e s'->R (.ref s2.heap.objs.size) { scope:=scope,locals:=C,globals:=X.env.globals,cells:=cs,qual:=X.env.qual,func:=none,code:=X.env.code,frame:=X.env.frame,builtins:=X.env.builtins } (.error e) s':=by
  rintro e s' ⟨pins',τ,H5,ea,t,cls,b',rfl,I6,held,c1,c2,hE⟩
  have I7:Inv X pins σ H5 s':=I2.call' (ch:=fp) (H':=H5) (by exact I6.os) I6.base I6.hok I6.bare λb hb=>⟨(f2 b hb).2.2.2.1,(f2 b hb).2.1,(f2 b hb).2.2.2.2.1,(f2 b hb).2.2.2.2.2⟩
  obtain ⟨m6,hm6,_⟩:=I6.loc
  refine hRe _ C ea t cls b' _ H5 s' rfl rfl I7 held (λb o hb hf hx=>?_) c2 hE ⟨m6,hm6⟩ I6.free hCloc (vO I2.sz hC) (λx c e z=>?_) (λp hp=>vR (vE (pinIn p hp) hC)) hCf
  ·obtain ⟨o1,e1⟩:=I2.base.there b o hb hx
   refine c1 b o1 e1 hf λz=>?_
   rcases (f2 b z).2.2.2.1 with q | q
   ·exact hx q
   ·exact absurd (vE (vM hb) q) (vU _)
  ·obtain ⟨v,q⟩:=I2.cell x c e
   exact absurd (vE q.lt hC) (by rw [z]; exact vU _)
 have errs:∀ (e:Value) (s':Shared),(kN X (bN Nx ts ix) scope E0 L B).xe e s'->notedBy (model X.prog X.w) X.A (compEnvC scope cs C X.env) (λx s''=>R (.ref s2.heap.objs.size) { scope:=scope,locals:=C,globals:=X.env.globals,cells:=cs,qual:=X.env.qual,func:=none,code:=X.env.code,frame:=X.env.frame,builtins:=X.env.builtins } (.error x) s'') e s':=by
  rintro e s' (⟨pins',τ,H5,s5,I5,hq⟩ | hh)
  ·exact ZjC (X:=ba X (bN Nx ts ix) scope B) I5 hstk hL0 hL hq λh' hh=>fin _ _ hh
  ·obtain ⟨pins',τ,H5,ea,t,cls,b',rfl,I6,held,c1,c2,hE⟩:=id hh
   exact wpAny_noteFrame_againW hL held.2.2.2 (fin _ _ hh)
 have loop:∀ s4:Shared,s4={ s2 with heap:=h3 } ->
   codeAny (model X.prog X.w) X.A (.compLoop (.ListComp elt [⟨target,iter,[],0⟩] scope pos) 0 (.ref it) (.ref s2.heap.objs.size) (compEnvC scope cs C X.env)) (R (.ref s2.heap.objs.size) { scope:=scope,locals:=C,globals:=X.env.globals,cells:=cs,qual:=X.env.qual,func:=none,code:=X.env.code,frame:=X.env.frame,builtins:=X.env.builtins }) s4:=by
  rintro s4 rfl
  refine ZqL (EE:=(kN X (bN Nx ts ix) scope E0 L B).xe) errs (λk s'=>∃ i τ ys its n H',Inv (ba X (bN Nx ts ix) scope B) [(s2.heap.objs.size,({ cls:=.type "list",data:=.seq (List.toArray its) n }:Obj))] τ H' s'/\tn i s'.heap/\(∀ b∈fp,H' b=none)/\Vals ys its/\ys.length<=sizeLine/\W i k τ ys H') ?_ m0
   ⟨0,_,[],[],_,H1,pinD I3 hD3 fC (λv z=>by cases z),T.keep _ _ _ st2 λb hb o e=>kp b o e,λb hb=>(f2 b hb).1,.nil,wN _,w0⟩
  rintro k s5 ⟨i,τ,ys,its,n,H5,I5,st5,fr5,rv,hz,w5⟩
  rcases turn i k τ ys H5 w5 with ⟨stop,qn⟩ | ⟨go,hlt,step⟩
  ·refine thn (T.done (ba X (bN Nx ts ix) scope B) rfl rfl rfl hc i _ s5 τ H5 _ I5 (stat fr5) st5 stop) λgot s6 hz0=>?_
   obtain ⟨hr,I6⟩:=hz0
   subst hr
   obtain ⟨ho,hn,_,_,_⟩:=I6.pin (s2.heap.objs.size,({ cls:=.type "list",data:=.seq (List.toArray its) n }:Obj)) (vJ _ (by simp))
   have I7:Inv X pins σ H5 s6:=I2.call' (ch:=fp) (H':=H5) (by exact I6.os) I6.base I6.hok I6.bare λb hb=>⟨(f2 b hb).2.2.2.1,(f2 b hb).2.1,(f2 b hb).2.2.2.2.1,(f2 b hb).2.2.2.2.2⟩
   have hs0:X.s₀.heap.objs.size<=s2.heap.objs.size:=I2.sz
   have I8:=I7.track hn ho rv hz (wq I2.lt) hs0 (λx c e z=>by
    obtain ⟨v,q⟩:=I2.cell x c e
    exact absurd q.lt (by rw [z]; exact vU _)) (λp hp=>vR (pinIn p hp))
   obtain ⟨m6,hm6,_⟩:=I6.loc
   refine hR _ C _ _ s6 _ rfl I8 rfl (qn _ _ _ hn rfl rfl) ⟨m6,hm6⟩ ?_ (λz=>?_) (vO hs0 hC) (λx c e z=>?_) λp hp=>vR (vE (pinIn p hp) hC)
   ·rw [aK (Ne.symm hDC)]
    exact I6.free
   ·exact absurd (vE I2.lt hC) (by rw [z]; exact vU _)
   ·obtain ⟨v,q⟩:=I2.cell x c e
    exact absurd (vE q.lt hC) (by rw [z]; exact vU _)
  ·refine thn (T.item (ba X (bN Nx ts ix) scope B) rfl rfl rfl hc i _ s5 τ H5 _ I5 (stat fr5) st5 go) λgot s6 hz0=>?_
   obtain ⟨u,hr,h6⟩:=hz0
   subst hr
   refine thn h6 λ_ s7 hz0=>?_
   obtain ⟨x,H7,I7,r7,y7,st7,fr7⟩:=hz0
   have I7':=I7.pinned (stat fr7) (T.obj _ _ st7)
   refine thn (hg B _ s7 τ H7 x u _ I7' r7 (step x H7 y7)) λ_ s8 hz0=>?_
   obtain ⟨τ8,H8,I8,q8⟩:=hz0
   refine thn (he B _ s8 τ8 H8 _ (I8.wish _) q8) λy s9 hz0=>?_
   obtain ⟨vy,H9,I9x,r9,m',hm',w9⟩:=hz0
   have I9:=I9x.unwish
   obtain ⟨ho,hn,_,_,_⟩:=I9.pin (s2.heap.objs.size,({ cls:=.type "list",data:=.seq (List.toArray its) n }:Obj)) (vJ _ (wO _ (by simp)))
   have lenv:=rv.length
   refine wpAny_list_append_plain (l:=s2.heap.objs.size) ⟨n,ho⟩ (λh' hpl hsb=>?_) (by rw [vK]; omega)
   obtain ⟨n',ho'⟩:=hpl
   have eobj:(its.toArray.push y)=List.toArray (its++[y]):=by simp
   rw [eobj] at ho'
   have I9':Inv (ba X (bN Nx ts ix) scope B) [] τ8 H9 s9:=I9.pins_of λp hp=>absurd hp (by simp)
   have I10:Inv (ba X (bN Nx ts ix) scope B) [] τ8 H9 { s9 with heap:=h' }:=I9'.turned (it:=s2.heap.objs.size) (t':=s9.toks) (λb o hb e=>(hsb.2 b hb).trans e) hn hDC (.inr (vF _)) cellIn (λp hp=>by
    have hp':p∈(X.pn++pins)++[]:=hp
    rw [v7] at hp'
    exact vR (pinIn p hp'))
   refine ⟨m',hm',i+1,τ8,ys++[vy],its++[y],n',H9,pinD I10 ho' hn (λv z=>by cases z),?_,λb hb=>?_,rv.append (.cons r9 .nil),by rw [vW]; show ys.length+1<=_; omega,w9⟩
   ·refine T.keep _ _ _ st7 λb hb o e=>?_
    have q:=(I9.pin (b,o) (vJ _ (vJ _ (gq hb e)))).1
    exact (hsb.2 b (vR (hfs b hb))).trans q
   ·obtain ⟨o,e,d⟩:=T.obj _ _ st7 b hb
    exact (I9.pin (b,o) (vJ _ (vJ _ (gq hb e)))).2.1
 exact codeAny_compStart_list (loop _ rfl) (T.self X.A 0 _ _ _ (T.keep _ _ _ st2 λb hb o e=>kp b o e) (loop _ rfl))
noncomputable def Zef (M:Model) (A:Around) (E:y4) (env:Env) (scope:Scope) (Q:y4) (acc:Value) (cenv:Env) (r:Result) (s':Shared):Prop :=
 match r with
 | .ok _=>∃ m,s'.heap.Ns cenv.locals m/\∀ h',Heap.SameBut cenv.locals s'.heap h'->Q acc { s' with heap:=h' }
 | .error x=>∃ m,s'.heap.Ns cenv.locals m/\∀ h',Heap.SameBut cenv.locals s'.heap h'->wpAny M A (PySem.passOn "comprehension.variables-let-go" x { cenv with scope:=relabel scope env }:Sem Value) (λ_ _=>False) E { s' with heap:=h' }
theorem ZqK {M:Model} {A:Around} {E:y4} {env:Env} {e:Expr} {scope:Scope} {pos:Pos} {newAcc first:Sem Value} {g:Comprehension} {gs:List Comprehension} {cl:List (Str×Addr)} {Q:y4}
  (hcl:clausesOf e=g::gs) (hs:∀ x,foldedSetIterable g.iter env x=pure x) (hclos:closureFor scope env=pure cl)
  (hkind:scope.kind=.function) (hnames:∀ x∈scope.names,x.2=.local->scope.names.lookup x.1=some .local)
  (h:wpAny M A first (λx s₁=>wpAny M A (pyIter x) (λit s₂=>wpAny M A newAcc (λacc s₃ =>
   wpAny M A (newFunctionEnv scope env.globals cl [] env.qual none .none (some env)) (λcenv s₄ =>
    codeAny M A (.compStart e 0 it acc { cenv with scope:=relabel scope env }) (Zef M A E env scope Q acc cenv) s₄) E s₃) E s₂) E s₁) E s) :
  wpAny M A (comprehension e scope env pos newAcc false first none) Q E s:=by
 unfold comprehension
 rw [hclos,hcl]
 refine wpAny_bind (wpAny_mono h (λx s₁ h₁=>wpAny_bind (wpAny_standAt (wpAny_bind (wpAny_of_eq (hs x) (wpAny_bind (wpAny_holding (wpAny_mono h₁ (λit s₂ h₂ =>
  wpAny_standIf (wpAny_bind (wpAny_mono h₂ (λacc s₃ h₃=>wpAny_bind (wpAny_pure (wpAny_bind (wpAny_mono h₃ (λcenv s₄ h₄=>?_) λ_ _ h'=>h')))) λ_ _ h'=>h')))
   λ_ _ h'=>h'))))))) λ_ _ h'=>h')
 dsimp only
 have hv:∀ x∈(scope.names.filter λx=>(x.2 == .local || x.2 == .cell) && x.1 != (".0":Str)).reverse,x.2=.local ->
   Env.kindOf { cenv with scope:=relabel scope env } x.1=some .local:=λx hx hl=>lookup_relabel_local (hnames x (yD.mp (List.mem_reverse.mp hx)).1 hl)
 refine wpAny_holding (wpAny_bind (wpAny_attempt (wpAny_holding (wpAny_run (codeAny_mono h₄ λr s' hr=>?_)))))
 cases r with
 | ok f =>
  obtain ⟨m,hn,hr⟩:=hr
  exact wpAny_bind (wpAny_holding (wpAny_comp_letGo (cenv:={ cenv with scope:=relabel scope env }) hkind _ s' m hv hn λh' m' _ hs'=>wpAny_pure (hr h' hs')))
 | error x =>
  obtain ⟨m,hn,hr⟩:=hr
  exact wpAny_bind (wpAny_holding (wpAny_comp_letGo (cenv:={ cenv with scope:=relabel scope env }) hkind _ s' m hv hn λh' m' _ hs'=>wpAny_mono (hr h' hs') (λ_ _ f=>f.elim) λ_ _ y=>y))
theorem sR {E0:XK} {L:Addr} {env0:Env} {outer:List Env} {elt target iter:Expr} {scope:Scope} {pos:Pos} {wi:TI} {g:Blk->TG} {te:Blk->TE} (Nx:za) (ts:za) (ix:List Nat)
  (hc:X.calm=true) (hX:qR X E0 L) (hstk:X.stack=env0::outer) (hL0:env0.frame=some L) (hL:X.env.frame=some L) (hi:PI X target iter wi) (hg:∀ b,PG (ba X (bN Nx ts ix) scope b) target (g b)) (he:∀ b,PE (kN X (bN Nx ts ix) scope E0 L b) elt (te b))
  (hNx:X.N=Nx) (ok:BlkOk Nx X.env.scope scope ix) (hs:∀ x,foldedSetIterable iter X.env x=pure x:=by intro _; rfl) :
  PE X (.ListComp elt [⟨target,iter,[],0⟩] scope pos) (ik wi ts.length ix g te):=by
 intro pins s σ H Q I h
 obtain ⟨cl,hcl,cl1,cl2⟩:=qp (scope:=scope) (env:=X.env) λy hy hf=>I.ok.has y.1 (ok.frees y hy hf)
 rw [eval_ListComp]
 refine ZqK rfl hs hcl ok.kind ok.locs (thn (hi pins s σ H _ I h) λv s1 h1=>thn h1 λitv s2 h2=>?_)
 refine Zkt (R:=λacc cenv=>Zef (model X.prog X.w) X.A X.xe X.env scope (EP X pins σ Q) acc cenv) hc hg he hstk hL0 hL hNx ok cl1 cl2 h2 ?_ ?_
 ·rintro D C cenv H' s' v rfl I' rfl q ⟨m,hm⟩ hn hL h0 hcl' hp
  exact ⟨m,hm,λh' hsb=>⟨.ref D,H',I'.turned (it:=cenv.locals) (t':=s'.toks) (λb o hb e=>(hsb.2 b hb).trans e) hn hL (.inr h0) hcl' hp,rfl,q⟩⟩
 ·rintro D C ea t cls b' cenv H' s' rfl hfr I' held c1 c2 hE ⟨m,hm⟩ hn hCL h0 hcl' hp hCf
  exact ⟨m,hm,λh' hsb=>Zi0 hX (hfr.trans hL) I' held c1 c2 hE ⟨m,hm⟩ hn hCL h0 hcl' hp hCf hsb⟩
end
def KxE (PK:Pk) (pa:Addr) (m:Nat) (G H:Hp) (C:Addr) (E:XK):Prop:=∀ G' H',Stp pa G H G' H'->Wd PK pa m G' H'->E (.ref C) none H'
theorem KxE.later {PK:Pk} {pa:Addr} {m:Nat} {G H G1 H1:Hp} {C:Addr} {E:XK} (k:KxE PK pa m G H C E) (s:Stp pa G H G1 H1) (hp:∃ o,H1 pa=some o):KxE PK pa m G1 H1 C E:=λG' H' s' w'=>k G' H' (s.trans s' hp) w'
noncomputable def KnX (PK:Pk) (pa:Addr) (m:Nat) (G H:Hp) (C:Addr) (E:XK) (Q:VK):Option PyData->Prop
 | some x=>Kn PK pa m G H x Q
 | none=>KxE PK pa m G H C E
noncomputable def Zfl (PK:Pk) (pa:Addr) (m:Nat) (G H:Hp) (C:Addr) (E:XK) (Q:VK):Option y6->Prop
 | some x=>Ko1 PK pa m G H x Q
 | none=>KxE PK pa m G H C E
noncomputable def KrX (PK:Pk) (pa:Addr) (m:Nat) (G H:Hp) (C:Addr) (E:XK) (Q:VK):Option Re->Prop
 | some x=>Kr PK pa m G H x Q
 | none=>KxE PK pa m G H C E
noncomputable def KoX (PK:Pk) (pa:Addr) (ze H₀ Gs:Hp) (D:Ends) (C:Addr) (E:XK) (m:Nat):Option Ou->Prop
 | some o=>Ko PK pa ze H₀ Gs D m o
 | none=>KxE PK pa m ze H₀ C E
def TXe (PK:Pk) (C:Addr) (E:XK) (i:List Sl->Tr (Option PyData)):TE:=λσ H Q=>∃ pa ze H₀ m ρ G,Rl PK pa ze H₀ m σ ρ G H/\(i ρ).ok m λm' o=>KnX PK pa m' G H C E Q o
def vo (PK:Pk) (C:Addr) (E:XK) (i:List Sl->Tr (Option y6)):TE:=λσ H Q=>∃ pa ze H₀ m ρ G,Rl PK pa ze H₀ m σ ρ G H/\(i ρ).ok m λm' o=>Zfl PK pa m' G H C E Q o
def dB (PK:Pk) (C:Addr) (E:XK) (i:List Sl->Tr (Option Ou)):TS:=λD σ H=>∃ pa ze H₀ m ρ G,Rl PK pa ze H₀ m σ ρ G H/\(i ρ).ok m λm' o=>KoX PK pa ze H₀ G D C E m' o
def qE (PK:Pk) (n:Nat) (C:Addr) (f:List Sl->Tr (Option Re)):Sp:=λvs H Q E=>vs.length=n/\∃ pa m G as,Wd PK pa m G H/\ArsOk pa G vs as/\(f as).ok m λm' o=>KrX PK pa m' G H C E Q o
structure XCal (PK:Pk) (P:Program) (w:World) (K:yS) (mg:zc) (base:Heap) (x:Str) (k:Nat) (ps:za) (C:Addr) (f:List Sl->Tr (Option Re)):Prop where
 cal:CalleeX P w K mg base x k ps (qE PK ps.length C f)
 len:∀ as m Z,(f as).ok m Z->as.length=ps.length
noncomputable def cE {α β:Type} (t:Tr (Option α)) (k:α->Tr (Option β)):Tr (Option β):=t.bind λo=>match o with
 | none=>.ret none
 | some x=>k x
section
variable {PK:Pk} {X:Cx} {C:Addr} {E:XK} {e:Expr} {es:List Expr} {pos:Pos} {i:yT} {j:List Sl->Tr (Option PyData)} {as:List Sl->Tr zd} {st:Stmt} {sts:List Stmt} {s:yW} {u v:List Sl->Tr (Option Ou)}
theorem TXe.then {σ:St} {H:Hp} {β:Type} {k:PyData->Tr (Option β)} {Z:Nat->Option β->Prop} {Q:VK} {pa:Addr} {ze H₀ G:Hp} {m:Nat} {ρ:zd} (R:Rl PK pa ze H₀ m σ ρ G H) (h:(cE (j ρ) k).ok m Z) (hz:∀ m',Z m' none->KxE PK pa m' G H C E)
  (hq:∀ m1 x v G1 H1,Stp pa G H G1 H1->Wd PK pa m1 G1 H1->Rl PK pa ze H₀ m1 σ ρ G1 H1->Dn G1 v x->(k x).ok m1 Z->Q v H1):TXe PK C E j σ H Q:=by
 refine ⟨pa,ze,H₀,m,ρ,G,R,Tr.ok_mono (Tr.ok_bind.mp h) λm1 o ho=>?_⟩
 cases o with
 | none=>exact hz m1 ho
 | some x=>exact λv G1 H1 s1 w1 d1=>hq m1 x v G1 H1 s1 w1 (R.step s1 w1) d1 ho
noncomputable def ig (f:List Sl->Tr (Option Re)) (as:List Sl->Tr zd):List Sl->Tr (Option PyData):=λρ=>(as ρ).bind λa=>(f a).bind λo=>.ret (o.map Re.val)
theorem jU {x:Str} {k:Nat} {ps:za} {f:List Sl->Tr (Option Re)} {pp:Pos} (F:XCal PK X.prog X.w X.K X.mg X.base x k ps C f) (hr:Room k X.A) (hg:Gl X x) (hx:k9 (bX X.prog X.w) X E) (ha:PA X (e::es) (TAa PK as))
  (hdb:(x == ("__debug__":Str))=false:=by decide)
  (he:starEach (e::es) X.env=(false,eval e X.env)::starEach es X.env:=by rfl) (hpl:(backTo pos (starEach es X.env)).any (·.1)=false:=by rfl):PE X (.Call (.Name x pp) (e::es) [] pos) (TXe PK C E (ig f as)):=by
 obtain ⟨fa,fd,Fk,hm,hk,hb⟩:=F.cal.ex
 refine (Zca Fk hr hg hm hk hb .nil hx ha hdb he hpl).imp λσ H Q hz0=>?_
 obtain ⟨pa,ze,H₀,m,ρ,G,R,z⟩:=hz0
 refine TAa.then R z λm1 xs vs G1 H1 s1 w1 R1 d1 q1=>?_
 show qE PK ps.length C f (vs++[]) H1 Q E
 rw [v7]
 have q1':=Tr.ok_bind.mp q1
 refine ⟨by rw [d1.length]; exact F.len _ _ _ q1',pa,m1,G1,xs,w1,d1,Tr.ok_mono q1' λm2 o k=>?_⟩
 cases o with
 | none=>exact KxE.later k s1 w1.some
 | some r=>exact Kr.of (Kn.later k s1 w1.some) w1.some
noncomputable def ge (s:yW):List Sl->Tr (Option Ou):=λρ=>(s ρ).bind λx=>.ret (some x)
theorem Zfv (h:PS X st (bx PK s)):PS X st (dB PK C E (ge s)):=h.imp λD σ H ⟨pa,ze,H₀,m,ρ,G,R,z⟩=>⟨pa,ze,H₀,m,ρ,G,R,Tr.ok_mono (Tr.ok_bind.mp z) λ_ _ k=>k⟩
theorem jT (h:PSs X sts (bx PK s)):PSs X sts (dB PK C E (ge s)):=h.imp λD σ H ⟨pa,ze,H₀,m,ρ,G,R,z⟩=>⟨pa,ze,H₀,m,ρ,G,R,Tr.ok_mono (Tr.ok_bind.mp z) λ_ _ k=>k⟩
noncomputable def ro (k:Nat) (j:List Sl->Tr (Option PyData)):List Sl->Tr (Option Ou):=λρ=>cE (j ρ) λx=>.ret (some (.next (ρ.set k (.d x))))
theorem Zfu {k:Nat} (h:PS X st (gj (TXe PK C E j) (hI k))):PS X st (dB PK C E (ro k j)):=h.imp λD σ H hz0=>by
 obtain ⟨pa,ze,H₀,m,ρ,G,R,z⟩:=hz0
 refine TXe.then R z (λm' h=>KxE.later h R.st R.wd.some) λm1 x v G1 H1 s1 w1 R1 d1 q1=>?_
 exact q1 _ G1 H1 s1.gs (R1.set d1 k)
noncomputable def nB (j:List Sl->Tr (Option PyData)):List Sl->Tr (Option Ou):=λρ=>cE (j ρ) λx=>.ret (some (.ret (.d x)))
theorem Zae (he:PE X e (TXe PK C E j)):PS X (.Return (some e) pos) (dB PK C E (nB j)):=(fi he).imp λD σ H hz0=>by
 obtain ⟨pa,ze,H₀,m,ρ,G,R,z⟩:=hz0
 refine TXe.then R z (λm' h=>KxE.later h R.st R.wd.some) λm1 x v G1 H1 s1 w1 R1 d1 q1=>?_
 exact q1 v G1 H1 R1.st w1 d1
noncomputable def nD (j:List Sl->Tr (Option PyData)):List Sl->Tr (Option Ou):=λρ=>cE (j ρ) λ_=>.ret (some (.next ρ))
theorem Zaf (he:PE X e (TXe PK C E j)) (hs:swapsWith e none pos.line X.env=pure false:=by rfl):PS X (.Expr e pos) (dB PK C E (nD j)):=(fj he hs).imp λD σ H hz0=>by
 obtain ⟨pa,ze,H₀,m,ρ,G,R,z⟩:=hz0
 refine TXe.then R z (λm' h=>KxE.later h R.st R.wd.some) λm1 x v G1 H1 s1 w1 R1 d1 q1=>?_
 exact q1 σ G1 H1 s1.gs R1
noncomputable def j4 (p:yV) (u v:List Sl->Tr (Option Ou)):List Sl->Tr (Option Ou):=λρ=>(p ρ).bind λb=>if b=true then u ρ else v ρ
theorem KoX.later {pa:Addr} {ze H₀ G G1:Hp} {D:Ends} {m:Nat} {o:Option Ou} (k:KoX PK pa ze H₀ G D C E m o) (sb:Sub G G1):KoX PK pa ze H₀ G1 D C E m o:=by
 cases o with
 | none=>exact k
 | some o=>exact Ko.later k sb
theorem nz {c:Expr} {p:yV} {xs ys:List Stmt} (hc:PT X c (TAt PK p)) (ha:PSs X xs (dB PK C E u)) (hb:PSs X ys (dB PK C E v)):PS X (.If c xs ys pos) (dB PK C E (j4 p u v)):=(iu hc ha hb).imp λD σ H hz0=>by
 obtain ⟨pa,ze,H₀,m,ρ,G,R,z⟩:=hz0
 refine TAt.then R z λm1 x G1 H1 s1 w1 R1 q1=>?_
 cases x with
 | true=>rw [if_pos rfl] at q1 ⊢; exact ⟨pa,ze,H₀,m1,ρ,G1,R1,Tr.ok_mono q1 λ_ _ k'=>KoX.later k' s1.gs⟩
 | false=>rw [if_neg vL] at q1 ⊢; exact ⟨pa,ze,H₀,m1,ρ,G1,R1,Tr.ok_mono q1 λ_ _ k'=>KoX.later k' s1.gs⟩
noncomputable def jY:List Sl->Tr (Option Ou):=λ_=>.ret none
theorem ny (h:PS X st (λ_ _ H=>E (.ref C) none H)):PS X st (dB PK C E jY):=h.imp λD σ H ⟨pa,ze,H₀,m,ρ,G,R,z⟩=>(show KxE PK pa m ze H₀ C E from z) G H R.st R.wd
noncomputable def fE (u v:List Sl->Tr (Option Ou)):List Sl->Tr (Option Ou):=λρ=>(u ρ).bind λo=>match o with
 | some (.next ρ')=>v ρ'
 | o=>.ret o
theorem ZfH:∀ D σ H,dB PK C E (fE u v) D σ H->rG (dB PK C E u) (dB PK C E v) D σ H:=by
 rintro D σ H ⟨pa,ze,H₀,m,ρ,G,R,z⟩
 refine ⟨pa,ze,H₀,m,ρ,G,R,Tr.ok_mono (Tr.ok_bind.mp z) λm1 o k=>?_⟩
 cases o with
 | none=>exact k
 | some o =>
  cases o with
  | next ρ'=>exact λσ' G' H' sb R'=>⟨pa,ze,H₀,m1,ρ',G',R',Tr.ok_mono k λ_ _ k'=>KoX.later k' sb⟩
  | ret r=>exact k
  | brk ρ'=>exact k
  | cont ρ'=>exact k
theorem jd (h1:PS X st (dB PK C E u)) (h2:PSs X sts (dB PK C E v)):PSs X (st::sts) (dB PK C E (fE u v)):=(cG h1 h2).imp ZfH
theorem jc (h1:PS X st (dB PK C E u)):PSs X [st] (dB PK C E u):=fh h1
noncomputable def mS:Option Ou->Tr (Option Re)
 | none=>.ret none
 | some o=>(mT o).bind λr=>.ret (some r)
noncomputable def fZ (n k:Nat) (u:List Sl->Tr (Option Ou)):List Sl->Tr (Option Re):=λas=>if decide (as.length=n)=true then (u (as++List.replicate k .un)).bind mS else .fail
theorem lf {P:Program} {w:World} {K:yS} {mg:zc} {base:Heap} {x:Str} {N ps:za} {kk k:Nat} (D:Def K mg x st ps) (S:FnScope N ps (aI st)) (hk:N.length - ps.length=k)
  (hbody:∀ (f:Addr) (cdv:Value) (A:Around) (outer:List Env) (sh:Shared) (H:Hp) (E:XK),Room kk (A.deeper (envOfC x (aI st) sh.heap.objs.size f cdv)) ->
   PSs (cS (bX P w) P w K mg base N x (aI st) f cdv A outer sh H E) (fQ st) (dB PK C E u)):XCal PK P w K mg base x (kk+1) ps C (fZ ps.length k u):=by
 have len:∀ as m Z,(fZ ps.length k u as).ok m Z->as.length=ps.length:=λas m Z h=>by
  unfold fZ at h
  exact of_decide_eq_true (gp h).1
 refine ⟨D.okX S (λvs H Q E h=>h.1) λf cdv A outer sh H vs Q E hr hsp=>?_,len⟩
 obtain ⟨hv,pa,m,G,as,wd,ar,z⟩:=hsp
 refine ⟨_,hbody f cdv A outer sh H E hr,?_⟩
 unfold fZ at z
 obtain ⟨_,z⟩:=gp z
 refine ⟨pa,G,H,m,_,G,Rl.start wd ar (by rw [hv]; exact hk),Tr.ok_mono (Tr.ok_bind.mp z) λm1 o ko=>?_⟩
 cases o with
 | none=>exact ko
 | some o =>
  cases o with
  | next ρ=>exact λσ G1 H1 sb R1=>(show Kr PK pa m1 G H (.d .none) Q from ko) .non G1 H1 R1.st R1.wd .non
  | ret r=>exact ko
  | brk ρ=>exact (show False from ko).elim
  | cont ρ=>exact (show False from ko).elim
end
noncomputable def iJ (h:PyData->Tr (Option PyData)):List PyData->Tr (Option y6)
 | []=>.ret (some [])
 | x::xs=>cE (h x) λy=>cE (iJ h xs) λys=>.ret (some (y::ys))
noncomputable def jZ (is:yU) (n:Nat) (ix:List Nat) (g:yZ) (el:List Sl->Tr (Option PyData)):List Sl->Tr (Option y6):=λρ =>
 (is ρ).bind λxs=>if small xs.length=true then iJ (λx=>(Tr.of (g x (blk n ix ρ))).bind el) xs else .fail
section
variable {PK:Pk} {X:Cx} {C:Addr} {E:XK} {e:Expr} {es:List Expr} {pos:Pos} {is:yU} {i j:List Sl->Tr (Option PyData)} {os:List Sl->Tr (Option y6)}
theorem Zku {n:Nat} {ix:List Nat} {g:yZ} (hn:gJ n g):∀ σ H Q,vo PK C E (jZ is n ix g i) σ H Q->ik (eP PK is) n ix (λ_=>fA PK g) (λ_=>TXe PK C E i) σ H Q:=by
 rintro σ H Q ⟨pa,ze,H₀,m,ρ,G,R,z⟩
 refine ⟨pa,ze,H₀,m,ρ,G,R,Tr.ok_mono (Tr.ok_bind.mp z) λm1 xs k J G1 H1 s1 w1 jo=>λB=>?_⟩
 obtain ⟨hs,k⟩:=gp k
 have hs:xs.length<=sizeLine:=of_decide_eq_true hs
 let el:PyData->Tr (Option PyData):=λx=>(Tr.of (g x (blk n ix ρ))).bind i
 let W:Nat->Nat->St->List V->Hp->Prop:=λk mm τ ys H2=>mm=xs.length - k/\k<=xs.length/\ys.length=k/\∃ m G2 ds,Sub G1 G2/\Stp pa G H G2 H2/\Rl PK pa ze H₀ m τ (blk n ix ρ) G2 H2 /\
  DnAll G2 ys ds/\(iJ el (xs.drop k)).ok m λm' zs=>Zfl PK pa m' G H C E Q (zs.map (ds++·))
 refine ⟨W,⟨xs.length,rfl,wN _,rfl,m1,G1,[],.refl,s1,(R.step s1 w1).blk n ix,.nil,Tr.ok_mono k λm' o ko=>?_⟩,?_⟩
 ·cases o with
  | none=>exact ko
  | some zs=>exact ko
 rintro k mm τ ys H2 ⟨rfl,hk,hy,m2,G2,ds,sb,st2,R2,dn,k2⟩
 obtain ⟨j1,j2⟩:=jo m2 G2 H2 sb R2.wd
 by_cases hlt:k < xs.length
 ·have hx:xs[k]?=some xs[k]:=by simp [hlt]
  obtain ⟨jg,jy⟩:=j1 k _ hx
  refine .inr ⟨jg,by omega,λx H3 y=>?_⟩
  obtain ⟨G3,s3,w3,d3⟩:=jy x H3 y
  rw [wK hlt] at k2
  unfold iJ cE at k2
  rw [Tr.ok_bind,Tr.ok_bind] at k2
  obtain ⟨ρ3,hg3,k3⟩:=Tr.ok_of k2
  refine ⟨pa,ze,H₀,m2,_,G3,_,ρ3,R2.step s3 w3,d3,hg3,λτ4 R4=>?_⟩
  refine ⟨pa,ze,H₀,m2,ρ3,G3,R4,Tr.ok_mono k3 λm5 yd k5=>?_⟩
  cases yd with
  | none=>exact KxE.later (show KxE PK pa m5 G H C E from k5) (st2.trans s3 R2.wd.some) w3.some
  | some yd =>
   intro v G5 H5 s5 w5 d5
   have s35:=s3.trans s5 w3.some
   obtain ⟨pl,pk⟩:=hn _ _ _ hg3
   refine ⟨xs.length - (k+1),by omega,rfl,hlt,by rw [vW,hy]; rfl,m5,G5,ds++[yd],sb.trans s35.gs,st2.trans s35 R2.wd.some,?_,(DnAll.mono s35.gs dn).snoc d5,?_⟩
   ·refine (R4.step s5 w5).weak pl λq sl hq=>?_
    by_cases hqn:q < n
    ·left
     unfold blk at hq
     rw [v9 (by simpa using hqn),wf,if_pos hqn] at hq
     cases hq
     rfl
    ·right
     rw [pk q (xj hqn)]
     exact hq
   ·refine Tr.ok_mono (Tr.ok_bind.mp k5) λm6 zs k6=>?_
    cases zs with
    | none=>exact k6
    | some zs =>
     show Ko1 PK pa m6 G H ((ds++[yd])++zs) Q
     rw [ww]
     exact k6
 ·have e:k=xs.length:=by omega
  subst e
  refine .inl ⟨j2,λp v H' hp ev eH=>?_⟩
  subst ev eH
  rw [xk] at k2
  have k2':Ko1 PK pa m2 G H (ds++[]) Q:=k2
  rw [v7] at k2'
  exact (Ko1.later k2' st2 R2.wd.some).new R2.wd dn hp
theorem rg {n:Nat} {ix:List Nat} {g:yZ} (h:PE X e (ik (eP PK is) n ix (λ_=>fA PK g) (λ_=>TXe PK C E i))) (hn:gJ n g):PE X e (vo PK C E (jZ is n ix g i)):=h.imp (Zku hn)
noncomputable def li (os:List Sl->Tr (Option y6)):List Sl->Tr (Option PyData):=λρ=>cE (os ρ) λxs=>.ret (some (.list xs))
theorem rl (h:PE X e (vo PK C E os)):PE X e (TXe PK C E (li os)):=h.imp λσ H Q hz0=>by
 obtain ⟨pa,ze,H₀,m,ρ,G,R,z⟩:=hz0
 refine ⟨pa,ze,H₀,m,ρ,G,R,Tr.ok_mono (Tr.ok_bind.mp z) λm1 xs k=>?_⟩
 cases xs with
 | none=>exact k
 | some xs=>exact Ko1.of k R.wd.some
noncomputable def lh (f:List PyData->Option PyData) (j:List Sl->Tr (Option PyData)):List Sl->Tr (Option PyData):=λρ=>cE (j ρ) λx=>(Tr.of (f [x])).bind λz=>.ret (some z)
theorem rj {r:List V->Hp->VK->Prop} {f:List PyData->Option PyData} {call:Expr} (hv:dJ r f) (h:PE X call (gM r (gi (TXe PK C E j) aR))):PE X call (TXe PK C E (lh f j)):=h.imp λσ H Q hz0=>by
 obtain ⟨pa,ze,H₀,m,ρ,G,R,z⟩:=hz0
 refine TXe.then R z (λm' h=>h) λm1 x v G1 H1 s1 w1 R1 d1 q1=>?_
 have q1':=Tr.ok_bind.mp q1
 obtain ⟨d,hd,k⟩:=Tr.ok_of q1'
 exact hv PK pa m1 G1 H1 [v] [x] d Q w1 (.cons d1 .nil) hd (Kn.later k s1 w1.some)
end
open PySem.Builtin PySem.Builtin.Str in
theorem ZgS {prog:Program} {w:World} {A:Around} {E:y4} {s:Shared} {x y:Str} {t u:Tok} {Q:y4} (hy:(y.length == 0)=false)
  (hq:∀ (l:List (Str×Tok)) (tk:Nat),l.map (·.1)=Txt.split x y->Q (.ref s.heap.objs.size) { s with toks:=tk,heap:=s.heap.push { cls:=.type "list",data:=.seq (strValues l).toArray } })
  (hsz:x.length<=sizeLine) (hsz2:(partsBetween x (occurrences x y 0 x.length (x.length+1)) y.length).length<=sizeLine) :
  wpAny (model prog w) A (call (.builtin "str.split") [.str x t,.str y u]) Q E s:=by
 cases h1:(decide (x.length < y.length) || decide (strKind x < strKind y))
 ·cases hf:(occurrences x y 0 x.length (x.length+1)).isEmpty
  ·refine call_meets yP (typeIs_str _ _ _) yH (yF _ _) (meets_str_split_sep x y t u h1 hy hf hsz hsz2) ?_
   show wants Q E _ { s with toks:=_,heap:=s.heap.push { cls:=.type "list",data:=.seq (strsFrom s.toks (partsBetween x (occurrences x y 0 x.length (x.length+1)) y.length)).toArray } }
   rw [strsFrom_eq]
   exact hq (numbered s.toks _) _ ((numbered_texts _ _).trans ((if_neg (ne_true_of_eq_false h1)).trans (if_neg (ne_true_of_eq_false hf))).symm)
  ·exact call_meets yP (typeIs_str _ _ _) yH (yF _ _) (meets_str_split_not_found x y t u h1 hy hf)
    (hq [(x,t)] s.toks ((if_neg (ne_true_of_eq_false h1)).trans (if_pos hf)).symm)
 ·exact call_meets yP (typeIs_str _ _ _) yH (yF _ _) (meets_str_split_cannot_occur x y t u h1)
   (hq [(x,t)] s.toks (if_pos h1).symm)
theorem Zat:∀ l:List (Str×Tok),Vals ((l.map (·.1)).map V.str) (strValues l)
 | []=>.nil
 | (x,t)::l=>.cons ⟨t,rfl⟩ (Zat l)
def nt (r:V->List V->Hp->VK->Prop) (f:y3):Prop:=∀ (PK:Pk) (pa:Addr) (m:Nat) (G H:Hp) (x y:V) (dx dy dz:PyData) (Q:VK),Wd PK pa m G H->Dn G x dx->Dn G y dy->f dx dy=some dz->Kn PK pa m G H dz Q->r x [y] H Q
section
variable {X:Cx} {PK:Pk} {o e:Expr} {i j:yT} {apos cpos:Pos} {name:Str} {id:String} {r:V->List V->Hp->VK->Prop} {f:y3}
theorem de (slot:Slot "str" name id) (hty:typeOf (.builtin id)=pure (.type "method_descriptor")) (hm:jQ X id r) (hv:nt r f) (hS:∀ dx dy dz,f dx dy=some dz->∃ x,dx=.str x) (ho:PE X o (TAe PK i)) (he:PE X e (TAe PK j))
  (hbase:attributeBase o name X.env (eval o X.env)=eval o X.env:=by rfl)
  (hfew:((backTo cpos (starEach [e] X.env)).all (λx=>!x.1) && (backToKw cpos (keywordEach [] X.env)).all (λx=>x.1.isSome)
   && decide (([e]:List Expr).length+([]:List Keyword).length+(if ([]:List Keyword).isEmpty then 0 else 1) < 30))=true:=by rfl)
  (hline:(apos.endLine == cpos.line)=true:=by rfl) (hs:starEach [e] X.env=(false,eval e X.env)::starEach [] X.env:=by rfl) (hplain:(backTo cpos (starEach [] X.env)).any (·.1)=false:=by rfl) :
  PE X (.Call (.Attribute o name apos) [e] [] cpos) (TAe PK (ad f i j)) :=
 (gS PySem.F.plainAttrs_str slot hty hm ho (aT he bz hs) hbase hfew hline hs hplain).imp λσ H Q hz0=>by
  obtain ⟨pa,ze,H₀,m,ρ,G,R,q⟩:=hz0
  have q':((i ρ).bind λx=>(j ρ).bind λy=>Tr.of (f x y)).ok m λm' d=>Kn PK pa m' G H d Q:=q
  refine ⟨pa,ze,H₀,m,ρ,G,R,Tr.ok_mono (Tr.ok_bind.mp q') λm1 dx q1 v G1 H1 s1 w1 d1=>?_⟩
  have R1:=R.step s1 w1
  have ty:∀ {dy dz},f dx dy=some dz->nL X.K "str" v H1:=λ{dy dz} e=>by
   obtain ⟨x,rfl⟩:=hS dx dy dz e
   cases d1
   rfl
  have two:(∃ dy,(∃ dz,f dx dy=some dz))\/∀ dy,f dx dy=none:=by
   by_cases h:∃ dy,∃ dz,f dx dy=some dz
   ·exact .inl h
   ·refine .inr λdy=>?_
    cases e:f dx dy with
    | none=>rfl
    | some dz=>exact absurd ⟨dy,dz,e⟩ h
  rcases two with ⟨dy,dz,e⟩ | hn
  ·refine ⟨ty e,?_⟩
   refine TAe.then R1 q1 λm2 y u G2 H2 s2 w2 R2 d2 q2=>?_
   obtain ⟨z,hz,k⟩:=Tr.ok_of q2
   exact hv PK pa m2 G2 H2 v u dx y z Q w2 (d1.mono s2.gs) d2 hz (Kn.later k (s1.trans s2 w1.some) w2.some)
  ·have:((j ρ).bind λy=>(Tr.fail:Tr PyData)).ok m1 λm' d=>Kn PK pa m' G H d Q:=by
    have e:(λy=>Tr.of (f dx y))=λ_=>(Tr.fail:Tr PyData):=funext λy=>by rw [hn y]; rfl
    rw [e] at q1
    exact q1
   exact (Zdm this).elim
end
open PySem.Builtin.Str in
noncomputable def rL (x y:Str):Bool:=decide (y.length≠0/\x.length<=1048576/\(partsBetween x (occurrences x y 0 x.length (x.length+1)) y.length).length<=1048576/\(Txt.split x y).length<=1048576)
noncomputable def cK:y3
 | .str x,.str y=>if rL x y=true then some (.list ((Txt.split x y).map PyData.str)) else none
 | _,_=>none
noncomputable def Zbs:V->List V->Hp->VK->Prop:=λx vs H Q=>∃ a b,x=.str a/\vs=[.str b]/\rL a b=true/\∀ p,H p=none->Q (.ref p) (upd H p (.lst ((Txt.split a b).map V.str)))
theorem dF {n:Nat} (h:n<=1048576):n<=sizeLine:=vO h (by rw [sizeLine_eq]; decide)
section
variable {X:Cx}
theorem eN:jQ X "str.split" Zbs:=by
 intro pins s σ H x vs v us Q I rx rv h
 obtain ⟨a,b,rfl,rfl,hok,q⟩:=h
 obtain ⟨t,rfl⟩:=rx
 obtain ⟨u,rfl,ru⟩:=rv.one
 obtain ⟨k,rfl⟩:=ru
 obtain ⟨h1,h2,h3,h4⟩:=of_decide_eq_true hok
 refine ZgS (by simpa using h1) (λl tk e=>?_) (dF h2) (dF h3)
 have hf:H s.heap.objs.size=none:=I.hok.fresh (vF _)
 refine ⟨.ref s.heap.objs.size,_,I.laid (t':=tk) (λb u e=>vA _ e) (vF _) ?_,rfl,q _ hf⟩
 refine ⟨by rw [vB]; exact dF h4,strValues l,0,?_,vI _ rfl⟩
 rw [<- e]
 exact Zat l
end
theorem ZdQ {G:Hp}:∀ l:za,DnAll G (l.map V.str) (l.map PyData.str)
 | []=>.nil
 | x::l=>.cons (.str x) (ZdQ l)
theorem eE:nt Zbs cK:=λPK pa m G H x y dx dy dz Q w hx hy hz k=>by
 unfold cK at hz
 split at hz
 ·rename_i a b
  split at hz
  ·rename_i hc
   cases hz
   cases hx
   cases hy
   exact ⟨a,b,rfl,rfl,hc,λp hp=>k.lst w (ZdQ _) hp⟩
  ·cases hz
 ·cases hz
theorem eG:∀ dx dy dz,cK dx dy=some dz->∃ x,dx=.str x:=λdx dy dz h=>by
 unfold cK at h
 split at h
 ·exact ⟨_,rfl⟩
 ·cases h
noncomputable def jp:y3
 | .str x,.str y=>if decide (x.length<=1048576)=true then some (.str (Txt.removeprefix x y)) else none
 | _,_=>none
noncomputable def jb:y3
 | .str x,.int n=>if PadOk n=true then some (.str (Txt.zfill x n)) else none
 | _,_=>none
noncomputable def Zby:V->List V->Hp->VK->Prop:=λx vs H Q=>∃ a b,x=.str a/\vs=[.str b]/\a.length<=1048576/\Q (.str (Txt.removeprefix a b)) H
noncomputable def Zbr:V->List V->Hp->VK->Prop:=λx vs H Q=>∃ a n,x=.str a/\vs=[.int n]/\PadOk n=true/\Q (.str (Txt.zfill a n)) H
section
variable {X:Cx}
theorem ZjV:jQ X "str.removeprefix" Zby:=by
 intro pins s σ H x vs v us Q I rx rv h
 obtain ⟨a,b,rfl,rfl,hok,q⟩:=h
 obtain ⟨t,rfl⟩:=rx
 obtain ⟨u,rfl,ru⟩:=rv.one
 obtain ⟨k,rfl⟩:=ru
 exact PySem.SC.removeprefix (λt' k=>⟨.str _,H,I.tok _,⟨_,rfl⟩,q⟩) (dF hok)
theorem ZjU:jQ X "str.zfill" Zbr:=by
 intro pins s σ H x vs v us Q I rx rv h
 obtain ⟨a,n,rfl,rfl,hok,q⟩:=h
 obtain ⟨t,rfl⟩:=rx
 obtain ⟨u,rfl,ru⟩:=rv.one
 obtain ⟨k,rfl⟩:=ru
 exact PySem.SC.zfill hok λt' k=>⟨.str _,H,I.tok _,⟨_,rfl⟩,q⟩
end
theorem ZfU:nt Zby jp:=λPK pa m G H x y dx dy dz Q w hx hy hz k=>by
 unfold jp at hz
 split at hz
 ·split at hz
  ·rename_i hc
   cases hz
   cases hx
   cases hy
   exact ⟨_,_,rfl,rfl,of_decide_eq_true hc,k.here w (.str _)⟩
  ·cases hz
 ·cases hz
theorem ZhY:∀ dx dy dz,jp dx dy=some dz->∃ x,dx=.str x:=λdx dy dz h=>by
 unfold jp at h
 split at h
 ·exact ⟨_,rfl⟩
 ·cases h
theorem ZfT:nt Zbr jb:=λPK pa m G H x y dx dy dz Q w hx hy hz k=>by
 unfold jb at hz
 split at hz
 ·split at hz
  ·rename_i hc
   cases hz
   cases hx
   cases hy
   exact ⟨_,_,rfl,rfl,hc,k.here w (.str _)⟩
  ·cases hz
 ·cases hz
theorem Zfp:∀ dx dy dz,jb dx dy=some dz->∃ x,dx=.str x:=λdx dy dz h=>by
 unfold jb at h
 split at h
 ·exact ⟨_,rfl⟩
 ·cases h
theorem rA:nt ZbK cv:=λPK pa m G H x y dx dy dz Q w hx hy hz k=>by
 unfold cv at hz
 split at hz
 ·rename_i sep ds
  obtain ⟨ts,e1,e2⟩:=wV.mp hz
  cases hc:jD sep ts with
  | false=>rw [hc] at e2; cases e2
  | true =>
   rw [hc] at e2
   cases e2
   cases hx
   cases hy with
   | lst h1 h2 =>
    have:=ZdP h2 e1
    subst this
    exact ⟨sep,_,ts,rfl,rfl,w.sub _ _ h1,hc,k.here w (.str _)⟩
 ·cases hz
theorem t9:∀ dx dy dz,cv dx dy=some dz->∃ x,dx=.str x:=λdx dy dz h=>by
 unfold cv at h
 split at h
 ·exact ⟨_,rfl⟩
 ·cases h
noncomputable def Zij:R2:=λx y H Q=>∃ i j,x=.str i/\y=.str j/\i.length+j.length<=sizeLine/\Q (.str (i++j)) H
noncomputable def aN:y3
 | .str x,.str y=>if decide (x.length+y.length<=1048576)=true then some (.str (x++y)) else none
 | x,y=>kU x y
noncomputable def ZbX (K:yS):R2:=λx y H Q=>Zij x y H Q\/sv K x y H Q
theorem aV {X:Cx}:OpR X (binaryOp .Add) (ZbX X.K):=Zjp.or Zjq
theorem aU {K:yS}:bU (ZbX K) aN:=λPK pa m G H x y dx dy dz Q w hx hy hz k=>by
 unfold aN at hz
 split at hz
 ·split at hz
  ·rename_i hc
   cases hz
   cases hx
   cases hy
   exact .inl ⟨_,_,rfl,rfl,dF (of_decide_eq_true hc),k.here w (.str _)⟩
  ·cases hz
 ·exact .inr (ZfS PK pa m G H x y _ _ dz Q w hx hy hz k)
noncomputable def dG:List PyData->Option PyData
 | [.str x]=>if decide (x.length<=1048576)=true then some (.int x.length) else none
 | xs=>kB xs
noncomputable def ZbJ (K:yS):List V->Hp->VK->Prop:=λxs H Q=>(∃ z,xs=[.str z]/\z.length<=sizeLine/\Q (.int z.length) H)\/(∃ p ys,xs=[.ref p]/\(SqL K H p ys\/SqT K H p ys)/\Q (.int ys.length) H)
theorem fU {X:Cx}:CallR X (.builtin "len") (ZbJ X.K):=Zq2.or qu
theorem fG {K:yS}:dJ (ZbJ K) dG:=λPK pa m G H vs ds d Q w hv hd k=>by
 unfold dG at hd
 split at hd
 ·split at hd
  ·rename_i hc
   cases hd
   cases hv with
   | cons h1 h2=>cases h2; cases h1; exact .inl ⟨_,rfl,dF (of_decide_eq_true hc),k.here w (.int _)⟩
  ·cases hd
 ·exact .inr (Zar PK pa m G H vs _ d Q w hv hd k)
noncomputable def bM:y3
 | .str z,.int n=>if decide (z.length<=1048576)=true then (br z.cps.toList n).map λc=>.str ⟨#[c]⟩ else none
 | x,y=>bA x y
theorem cx {K:yS}:bU (sk K) bM:=λPK pa m G H x y dx dy dz Q w hx hy hz k=>by
 unfold bM at hz
 split at hz
 ·split at hz
  ·rename_i hc
   obtain ⟨c,e,rfl⟩:=wG.mp hz
   cases hx
   cases hy
   exact .inr (.inr ⟨_,_,c,rfl,rfl,dF (of_decide_eq_true hc),e,k.here w (.str _)⟩)
  ·cases hz
 ·exact cy PK pa m G H x y _ _ dz Q w hx hy hz k
open PySem.Builtin.Str in
noncomputable def iP (x y:Str):Bool:=!(occurrences x y 0 x.length 1).isEmpty
noncomputable def sr (neg:Bool):R2:=λy x H Q=>∃ i j,y=.str i/\x=.str j/\Q (.bl (if neg then !iP j i else iP j i)) H
theorem Zjj {X:Cx}:OpR X (compareOp .In) (sr false):=by
 intro pins s σ H x y v u Q I rx ry h
 obtain ⟨i,j,rfl,rfl,q⟩:=h
 obtain ⟨t,rfl⟩:=rx
 obtain ⟨t',rfl⟩:=ry
 exact PySem.P.in_str ⟨.bl _,H,I,rfl,q⟩
theorem Zjb {X:Cx}:OpR X (compareOp .NotIn) (sr true):=by
 intro pins s σ H x y v u Q I rx ry h
 obtain ⟨i,j,rfl,rfl,q⟩:=h
 obtain ⟨t,rfl⟩:=rx
 obtain ⟨t',rfl⟩:=ry
 exact PySem.P.notIn_str ⟨.bl _,H,I,rfl,q⟩
noncomputable def g7 (neg:Bool):y3
 | .str y,.str x=>some (.bool (if neg then !iP x y else iP x y))
 | x,y=>mO neg x y
noncomputable def su (neg:Bool):R2:=λx y H Q=>sr neg x y H Q\/oH neg x y H Q
theorem sZ {X:Cx} {k:Nat} (hr:Room k X.A):OpR X (compareOp .In) (su false):=Zjj.or (Zjk hr)
theorem Zjc {X:Cx} {k:Nat} (hr:Room k X.A):OpR X (compareOp .NotIn) (su true):=Zjb.or (Zjd hr)
theorem nG {neg:Bool}:bU (su neg) (g7 neg):=λPK pa m G H x y dx dy dz Q w hx hy hz k=>by
 unfold g7 at hz
 split at hz
 ·cases hz
  cases hx
  cases hy
  exact .inl ⟨_,_,rfl,rfl,k.here w (.bl _)⟩
 ·exact .inr (ZfP PK pa m G H x y _ _ dz Q w hx hy hz k)
theorem Zce {v:Value} {lo:Option Int} (p:IsPart v lo):∃ l:Option (Int×Tok),v=partValue l/\l.map (·.1)=lo:=by
 cases p with
 | none=>exact ⟨none,rfl,rfl⟩
 | int i t=>exact ⟨some (i,t),rfl,rfl⟩
noncomputable def Zbv:V->Option Int->Option Int->Hp->VK->Prop:=λx lo hi H Q=>∃ z,x=.str z/\z.length<=sizeLine/\Q (.str (Txt.slice z lo hi)) H
theorem Zg3 {X:Cx}:SlR X Zbv:=by
 intro pins s σ H x v vl vu lo hi sl Q I rx hs pl pu h
 obtain ⟨z,rfl,hz,q⟩:=h
 obtain ⟨t,rfl⟩:=rx
 obtain ⟨l,rfl,rfl⟩:=Zce pl
 obtain ⟨u,rfl,rfl⟩:=Zce pu
 refine ⟨"str",_,F.slot_str_getitem.lookup,typeIs_str _ _ _,wpAny_getItem_str_slice (l:=l) (u:=u) (st:=none) ?_ rfl ?_⟩
 ·exact hs
 ·exact post_val_or_str ⟨vO (x5 z _ _) hz,λt' k=>⟨.str _,H,I.tok _,⟨_,rfl⟩,q⟩⟩
noncomputable def Zsu (x:PyData) (lo hi:Option Int):Option PyData:=match x with
 | .str z=>if decide (z.length<=1048576)=true then some (.str (Txt.slice z lo hi)) else none
 | _=>none
section
variable {X:Cx} {PK:Pk} {e:Expr} {i:yT} {p q:eZ} {lo hi:Option Expr} {p2 pos:Pos}
end
noncomputable def ff (x:Str) (n:Int):Str:=if (n == 1 || x.length == 0)=true then x else ⟨(List.replicate n.toNat x.cps).foldl (·++·) #[]⟩
theorem qc:∀ (l:List (Array Nat)) (a:Array Nat),(l.foldl (·++·) a).size=a.size+(l.map (·.size)).sum
 | [],a=>by simp
 | x::l,a=>by
  rw [xJ,qc l,Array.size_append,vG,wo]
  omega
noncomputable def gX:y3
 | .str x,.int n=>if decide (0 < n/\n<=1048576/\x.length * n.toNat<=1048576)=true then some (.str (ff x n)) else none
 | x,y=>cm x y
noncomputable def ZbG:R2:=λx y H Q=>∃ z n,x=.str z/\y=.int n/\0 < n/\n<=1048576/\z.length * n.toNat<=1048576/\Q (.str (ff z n)) H
theorem Zjg {X:Cx}:OpR X (binaryOp .Mult) ZbG:=by
 intro pins s σ H x y v u Q I rx ry h
 obtain ⟨z,n,rfl,rfl,h0,h1,h2,q⟩:=h
 obtain ⟨t,rfl⟩:=rx
 obtain ⟨t',rfl⟩:=ry
 refine PySem.P.mul_str ?_ ?_ ?_ ?_
 ·rw [decide_eq_false (by omega),decide_eq_false (by omega)]; rfl
 ·intro _ _ hh
  have:(z.length:Int) * n<=1048576:=by
   have e:(n.toNat:Int)=n:=Int.toNat_of_nonneg (by omega)
   have:((z.length * n.toNat:Nat):Int)<=1048576:=by omega
   rw [Int.natCast_mul,e] at this
   exact this
  have h3:(z.length:Int)<=(2 ^ 63 - 1) / n:=Int.le_ediv_of_mul_le h0 (by omega)
  omega
 ·intro _ _
  exact decide_eq_false (λhh=>absurd (dF h2) (Nat.not_le.mpr hh))
 ·rw [if_neg (by omega)]
  unfold ff at q
  by_cases hc:(n == 1 || z.length == 0)=true
  ·rw [if_pos hc] at q ⊢
   exact ⟨.str z,H,I,⟨_,rfl⟩,q⟩
  ·rw [if_neg hc] at q ⊢
   refine ⟨?_,⟨.str _,H,I.tok _,⟨_,rfl⟩,q⟩⟩
   refine dF (vO (Nat.le_of_eq ?_) h2)
   show (Array.size _)=_
   rw [qc]
   simp [Str.length,ya]
noncomputable def ZbH (K:yS):R2:=λx y H Q=>ZbG x y H Q\/sj K x y H Q
theorem Zck {X:Cx}:OpR X (binaryOp .Mult) (ZbH X.K):=Zjg.or cN
theorem Zao {K:yS}:bU (ZbH K) gX:=λPK pa m G H x y dx dy dz Q w hx hy hz k=>by
 unfold gX at hz
 split at hz
 ·split at hz
  ·rename_i hc
   obtain ⟨h0,h1,h2⟩:=of_decide_eq_true hc
   cases hz
   cases hx
   cases hy
   exact .inl ⟨_,_,rfl,rfl,h0,h1,h2,k.here w (.str _)⟩
  ·cases hz
 ·exact .inr (cJ PK pa m G H x y _ _ dz Q w hx hy hz k)
noncomputable def g6:List PyData->Option PyData
 | [.str x]=>if decide (x.length<=640)=true then (intText? x).map .int else none
 | xs=>iO xs
noncomputable def ZbO:List V->Hp->VK->Prop:=λxs H Q=>∃ x n,xs=[.str x]/\x.length<=640/\intText? x=some n/\Q (.int n) H
theorem Zq6 {X:Cx}:CallR X (.type "int") ZbO:=by
 intro pins s σ H xs us Q I r h
 obtain ⟨x,n,rfl,hl,hn,q⟩:=h
 obtain ⟨u,rfl,t,rfl⟩:=ek r
 exact PySem.W.KIN.call_text hn hl ⟨.int n,H,I.tok _,⟨_,rfl⟩,q⟩
noncomputable def ZbP:List V->Hp->VK->Prop:=λxs H Q=>ZbO xs H Q\/((∃ i,xs=[.int i]/\Q (.int i) H)\/∃ k,xs=[.bl k]/\Q (.int (if k then 1 else 0)) H)
theorem uP {X:Cx}:CallR X (.type "int") ZbP:=Zq6.or Zep
theorem rB:dJ ZbP g6:=λPK pa m G H vs ds d Q w hv hd k=>by
 unfold g6 at hd
 split at hd
 ·split at hd
  ·rename_i hc
   obtain ⟨n,e,rfl⟩:=wG.mp hd
   cases hv with
   | cons h1 h2=>cases h2; cases h1; exact .inl ⟨_,_,rfl,of_decide_eq_true hc,e,k.here w (.int _)⟩
  ·cases hd
 ·exact .inr (Zas PK pa m G H vs _ d Q w hv hd k)
noncomputable def vz (x:Str):It :=
 ⟨λi H=>i < x.cps.size,λi H v H'=>H'=H/\∃ c,x.cps[i]?=some c/\v=.str ⟨#[c]⟩,λi H=>i=x.cps.size⟩
theorem Zf7 {P:Program} {w:World} {K:yS} {tg:Expr} {x:Str} {t:Tok} (ty:String) (it:Addr) (hty:ty="str_ascii_iterator"\/ty="str_iterator") :
  Turn P w K tg (vz x) [it] it (λi h=>h.IsStrIter it ty x t i) where
 mem:=by simp
 obj:=λi h st b hb=>by
  obtain ⟨o,ho,hc,hd⟩:=st
  have e:b=it:=by simpa using hb
  subst e
  exact ⟨o,ho,λv z=>by rw [hd] at z; cases z⟩
 keep:=λi h h' st k=>by
  obtain ⟨o,ho,hc,hd⟩:=st
  exact ⟨o,k it (by simp) _ ho,hc,hd⟩
 item:=by
  intro X hP hw hK hc i pins s σ H E I hf st hg
  subst hP hw hK
  obtain ⟨f0,f1,f2,f3,f4,f5⟩:=hf it (by simp)
  have hg:i < x.cps.size:=hg
  have W:Walks X.prog X.w X.A it [it] [it] x.cps.size (SignAt x) (λi h=>h.IsStrIter it ty x t i):=by
   rcases hty with rfl | rfl
   ·exact Walks.strAscii (I.ok.hd hc) it x t
   ·exact Walks.strWide (I.ok.hd hc) it x t
  refine W.item i s _ _ hg st λv h' tk hv st' kk=>?_
  obtain ⟨c,u,hx,rfl⟩:=hv
  have I1:Inv X pins σ H { s with heap:=h',toks:=tk }:=I.turned (λb o hb e=>kk b o (by simpa using hb) e) f0 f1 f3 f4 f5
  obtain ⟨o,ho,hcl,hd⟩:=id st'
  exact ⟨_,rfl,kG (s:={ s with heap:=h',toks:=tk }) (n:=ty) ho hcl hd (by rcases hty with rfl | rfl <;> decide) ⟨.str ⟨#[c]⟩,H,I1,⟨u,rfl⟩,⟨rfl,c,hx,rfl⟩,st',λb hb=>(hf b hb).1⟩⟩
 done:=by
  intro X hP hw hK hc i pins s σ H E I hf st hg
  subst hP hw hK
  obtain ⟨f0,f1,f2,f3,f4,f5⟩:=hf it (by simp)
  have hg:i=x.cps.size:=hg
  subst hg
  have W:Walks X.prog X.w X.A it [it] [it] x.cps.size (SignAt x) (λi h=>h.IsStrIter it ty x t i):=by
   rcases hty with rfl | rfl
   ·exact Walks.strAscii (I.ok.hd hc) it x t
   ·exact Walks.strWide (I.ok.hd hc) it x t
  exact W.done s _ _ st λh' tk kk=>⟨rfl,I.turned (t':=tk) (λb o hb e=>kk b o (by simpa using hb) e) f0 f1 f3 f4 f5⟩
 self:=λ_ _ _ _ _ st h=>by
  rcases hty with rfl | rfl
  ·exact wpAny_pyIter_striter_ascii st h
  ·exact wpAny_pyIter_striter_wide st h
section
variable {X:Cx} {tg:Expr} {PK:Pk} {i:yT}
noncomputable def cM (x:Str):y6:=x.cps.toList.map λc=>.str ⟨#[c]⟩
theorem ZkL {pa:Addr} {G:Hp} {z:Str}:i9 PK pa (vz z) G (cM z):=λm G2 H2 sb w=>by
 refine ⟨λn x hx=>?_,by show _=_; unfold cM; rw [vB,wm]⟩
 unfold cM at hx
 rw [v5] at hx
 obtain ⟨c,hc,rfl⟩:=wG.mp hx
 rw [Array.getElem?_toList] at hc
 refine ⟨(xh.mp hc).1,λy H3 hz0=>?_⟩
 obtain ⟨e,c',hc',rfl⟩:=hz0
 subst e
 rw [hc] at hc'
 cases hc'
 exact ⟨G2,.refl,w,.str _⟩
end
noncomputable def rM (x:PyData) (lo hi:Option Int):Option PyData:=match x with
 | .str z=>if decide (z.length<=1048576)=true then some (.str (Txt.slice z lo hi)) else none
 | x=>Za3 x lo hi
noncomputable def dr (i:yT) (p q:eZ):yT:=λρ=>(i ρ).bind λx=>(p ρ).bind λlo=>(q ρ).bind λhi=>Tr.of (rM x lo hi)
section
variable {X:Cx} {PK:Pk} {e:Expr} {i:yT} {p q:eZ} {lo hi:Option Expr} {p2 pos:Pos} {tg:Expr}
theorem Zg4:SlR X (λx lo hi H Q=>Zbv x lo hi H Q\/Zbx X.K x lo hi H Q):=Zg3.or Zg5
theorem dX (he:PE X e (TAe PK i)) (hl:PO X lo (TAp PK p)) (hu:PO X hi (TAp PK q)):PE X (.Subscript e (.Slice lo hi none p2) pos) (TAe PK (dr i p q)):=(Zb8 Zg4 he hl hu).imp λσ H Q hz0=>by
 obtain ⟨pa,ze,H₀,m,ρ,G,R,z⟩:=hz0
 refine TAe.then R z λm1 x v G1 H1 s1 w1 R1 d1 q1=>?_
 refine TAp.then R1 q1 λm2 lo G2 H2 s2 w2 R2 q2=>?_
 refine TAp.then R2 q2 λm3 hi G3 H3 s3 w3 R3 q3=>?_
 obtain ⟨d,hd,k⟩:=Tr.ok_of q3
 have s13:=(s1.trans s2 w1.some).trans s3 w2.some
 have k':=Kn.later k s13 w3.some
 have d3:=d1.mono (s2.gs.trans s3.gs)
 cases d3 with
 | str z =>
  have hd':(if decide (z.length<=1048576)=true then some (PyData.str (Txt.slice z lo hi)) else none)=some d:=hd
  split at hd'
  ·rename_i hc
   cases hd'
   exact .inl ⟨_,rfl,dF (of_decide_eq_true hc),k'.here w3 (.str _)⟩
  ·cases hd'
 | lst a1 a2=>cases hd; exact .inr (.inl ⟨_,_,rfl,SqL.of (w3.sub _ _ a1),λp hp=>k'.lst w3 (a2.cut lo hi) hp⟩)
 | @tup a xs ds a1 a2 =>
  cases hd
  by_cases hw:HT.aP xs.length 0 lo=0/\HT.aP xs.length xs.length hi=xs.length
  ·refine .inr (.inr (.inr ⟨_,_,rfl,SqT.of (w3.sub _ _ a1),hw,k'.here w3 ?_⟩))
   have e:fR ds lo hi=ds:=by
    unfold fR
    rw [<- a2.length,hw.1,hw.2]
    simp
    rw [a2.length]
    simp
   rw [e]
   exact .tup a1 a2
  ·exact .inr (.inr (.inl ⟨_,_,rfl,SqT.of (w3.sub _ _ a1),hw,λp hp=>k'.tup w3 (a2.cut lo hi) hp⟩))
 | _=>cases hd
theorem ZiC {l:Expr} {tl:TE} (hl:PE X l tl):PI X tg l (λσ H R=>tl σ H λx H1=>(∃ z,x=.str z/\R (vz z) H1)\/∃ a,x=.ref a/\((∃ xs,SqL X.K H1 a xs/\R (ra X.K a) H1)\/(∃ xs,SqT X.K H1 a xs/\R (q9 X.K a) H1))):=by
 intro pins s σ H R I h
 refine thn (hl pins s σ H _ I h) λv s1 hz0=>?_
 obtain ⟨x,H1,I1,r1,q1⟩:=hz0
 rcases q1 with ⟨z,e,q⟩ | ⟨a,e,q⟩
 ·subst e
  obtain ⟨t,rfl⟩:=r1
  have fin:∀ ty,ty="str_ascii_iterator"\/ty="str_iterator"->la X pins σ tg R (.ref s1.heap.objs.size) { s1 with heap:=s1.heap.push { cls:=.type ty,data:=.fields #[.str z t,.int 0 0] } }:=λty hty=>by
   refine ⟨s1.heap.objs.size,[s1.heap.objs.size],_,_,H1,rfl,I1.kept (t':=s1.toks) λb o e=>vA _ e,Zf7 (t:=t) ty _ hty,⟨_,vI _ (by rcases hty with rfl | rfl <;> rfl),rfl,rfl⟩,λb hb=>?_,q⟩
   have e:b=s1.heap.objs.size:=by simpa using hb
   subst e
   exact I1.fpOk (vF _) (I1.hok.fresh (vF _))
  cases ha:z.cps.all (· < 128)
  ·exact wpAny_pyIter_wide ha (fin _ (.inr rfl))
  ·exact wpAny_pyIter_ascii ha (fin _ (.inl rfl))
 ·subst e
  cases r1
  rcases q with ⟨xs,hq,q⟩ | ⟨xs,hq,q⟩
  ·obtain ⟨its,rv,p,hz⟩:=I1.list hq
   refine wpAny_pyIter_list p.isList ?_
   refine ⟨s1.heap.objs.size,[s1.heap.objs.size],_,_,H1,rfl,I1.kept (t':=s1.toks) λb o e=>vA _ e,ZaA a _,⟨_,vI _ rfl,rfl,rfl⟩,λb hb=>?_,q⟩
   have e:b=s1.heap.objs.size:=by simpa using hb
   subst e
   exact I1.fpOk (vF _) (I1.hok.fresh (vF _))
  ·obtain ⟨its,rv,p,hz⟩:=I1.tuple hq
   refine wpAny_pyIter_tuple (show s1.heap.IsTuple a its.toArray from p) ?_
   refine ⟨s1.heap.objs.size,[s1.heap.objs.size],_,_,H1,rfl,I1.kept (t':=s1.toks) λb o e=>vA _ e,Zay a _,⟨_,vI _ rfl,rfl,rfl⟩,λb hb=>?_,q⟩
   have e:b=s1.heap.objs.size:=by simpa using hb
   subst e
   exact I1.fpOk (vF _) (I1.hok.fresh (vF _))
noncomputable def itA:PyData->Option y6
 | .str x=>some (cM x)
 | x=>gv x
noncomputable def di (i:yT):yU:=λρ=>(i ρ).bind λx=>Tr.of (itA x)
theorem dH {l:Expr} (hl:PE X l (TAe PK i)):PI X tg l (eP PK (di i)):=(ZiC hl).imp λσ H R0 hz0=>by
 obtain ⟨pa,ze,H₀,m,ρ,G,R,z⟩:=hz0
 refine TAe.then R z λm1 x v G1 H1 s1 w1 R1 d1 q1=>?_
 obtain ⟨xs,hx,q1⟩:=Tr.ok_of q1
 cases d1 with
 | str z=>cases hx; exact .inl ⟨_,rfl,q1 _ G1 H1 s1 w1 ZkL⟩
 | lst h1 h2=>cases hx; exact .inr ⟨_,rfl,.inl ⟨_,SqL.of (w1.sub _ _ h1),q1 _ G1 H1 s1 w1 (ZcP h1 h2)⟩⟩
 | tup h1 h2=>cases hx; exact .inr ⟨_,rfl,.inr ⟨_,SqT.of (w1.sub _ _ h1),q1 _ G1 H1 s1 w1 (ZcO h1 h2)⟩⟩
 | _=>cases hx
end
theorem o5 {P:Program} {w:World} {K:yS} {mg:zc} {base:Heap} {N:za} {qual:Str} {scope:Scope} {f:Addr} {cd:Value} {A:Around} {outer:List Env} {s₀:Shared} {H₀:Hp} {E:XK} :
  k9 (bX P w) (cS (bX P w) P w K mg base N qual scope f cd A outer s₀ H₀ E) E:=λpins σ H s e s' I h=>Zi1 I h λ_ _ z=>z
theorem ZrO {X:Cx} {PK:Pk} {pos:Pos} {x y:Str} (hg:Gl X x) (h:∃ t,X.mg x=some (.str y t)) (hd:(x == ("__debug__":Str))=false:=by decide):PE X (.Name x pos) (TAe PK (aC (.str y))):=by
 obtain ⟨t,e⟩:=h
 exact kT (fK (v:=.str y) hg e ⟨t,rfl⟩ hd) λ_=>.str y
section
variable {PK:Pk} {X:Cx} {C:Addr} {E:XK} {a b:Expr} {i j:List Sl->Tr (Option PyData)} {k:Nat} {pos:Pos}
noncomputable def rn (i j:List Sl->Tr (Option PyData)):List Sl->Tr (Option PyData):=λρ=>cE (i ρ) λx=>cE (j ρ) λy=>.ret (some (.tuple [x,y]))
theorem Zfw (ha:PE X a (TXe PK C E i)) (hb:PE X b (TXe PK C E j)) (hs:starEach [a,b] X.env=(false,eval a X.env)::starEach [b] X.env:=by rfl) (fq:starEach [b] X.env=(false,eval b X.env)::starEach [] X.env:=by rfl):PE X (.Tuple [a,b] k pos) (TXe PK C E (rn i j)) :=
 (sP (aT ha (aT hb bz fq) hs)).imp λσ H Q hz0=>by
  obtain ⟨pa,ze,H₀,m,ρ,G,R,z⟩:=hz0
  refine TXe.then R z (λm' h=>h) λm1 x v G1 H1 s1 w1 R1 d1 q1=>?_
  refine TXe.then R1 q1 (λm' h=>KxE.later h s1 w1.some) λm2 y v2 G2 H2 s2 w2 R2 d2 q2=>?_
  exact ⟨by show 2<=sizeLine; decide,λp hp=>(Kn.later q2 (s1.trans s2 w1.some) w2.some).tup w2 (.cons (d1.mono s2.gs) (.cons d2 .nil)) hp⟩
end
variable {X:Cx} {i j:yT} {ρ:zd}
variable {X:Cx} {i j:yT} {ρ:zd}
noncomputable def ZbD:R2:=λx y H Q=>∃ p q xs,x=.ref p/\y=.ref q/\H p=some (.lst xs)/\H q=some (.lst [])/\Q (.bl (!xs.isEmpty)) H
theorem Zje {k:Nat} (hr:Room k X.A):OpR X (compareOp .NotEq) ZbD:=by
 intro pins s σ H x y v u Q I rx ry h
 obtain ⟨p,q,xs,rfl,rfl,h1,h2,z⟩:=h
 cases rx
 cases ry
 obtain ⟨its,r,pl,hz⟩:=I.list (SqL.of h1)
 obtain ⟨its2,r2,pl2,hz2⟩:=I.list (SqL.of h2)
 have hu:X.A.units < cLine:=by have:=hr.un; omega
 cases r2
 cases r with
 | nil =>
  exact SeqAt.RcNeAt.lists (e:=λ_=>true) pl.isList pl2.isList rfl hu (λj h1=>absurd h1 (by simp)) X.prog X.w X.xe _ ⟨.bl _,H,I,rfl,z⟩
 | cons a b =>
  exact SeqAt.RcNeAt.lists_lengths pl.isList pl2.isList (by simp) hu X.prog X.w X.xe _ ⟨.bl _,H,I,rfl,z⟩
noncomputable def pe:y3
 | .list xs,.list []=>some (.bool (!xs.isEmpty))
 | _,_=>none
theorem ZfM:bU ZbD pe:=λPK pa m G H x y dx dy dz Q w hx hy hz k=>by
 unfold pe at hz
 split at hz
 ·cases hz
  cases hx with
  | lst a1 a2 =>
   cases hy with
   | lst b1 b2 =>
    cases b2
    exact ⟨_,_,_,rfl,rfl,w.sub _ _ a1,w.sub _ _ b1,by rw [a2.isEmpty]; exact k.here w (.bl _)⟩
 ·cases hz
theorem gz (xs:y6):az pe (.list xs) (.list [])=.ret (.bool (!xs.isEmpty)):=rfl
section
variable {X:Cx} {PK:Pk} {a b:Expr} {ta tb:TE} {i j:yT} {sep:Str} {k:Nat} {p1 p2 p3 pos:Pos}
theorem ZiR (ha:PE X a ta) (hb:PE X b tb) (hsep:sep.length<=1000) :
  PE X (.JoinedStr [.FormattedValue a (-1) none p1,.Constant (.str sep) k p2,.FormattedValue b (-1) none p3] pos) (λσ H Q=>ta σ H λx H1=>∃ i,x=.str i/\i.length<=262144/\tb σ H1 λy H2=>∃ j,y=.str j/\j.length<=262144/\Q (.str (((Str.empty++i)++sep)++j)) H2):=by
 intro pins s σ H Q I h
 refine JoinedStr_many (joinParts_cons (FormattedValue_plain (thn (ha pins s σ H _ I h) λv s1 hz0=>?_)))
 obtain ⟨x,H1,I1,r1,i,rfl,hi,q1⟩:=hz0
 obtain ⟨t,rfl⟩:=r1
 have e0:(Str.empty++i).length=i.length:=by rw [strLen_append]; exact yr _
 refine formatField_str (λt' tk=>⟨dF (by rw [e0]; omega),?_⟩) (dF (by omega))
 refine joinParts_cons (Calls.Constant_str ⟨dF (by rw [strLen_append,e0]; omega),?_⟩)
 refine joinParts_cons (FormattedValue_plain (thn (hb pins _ σ H1 _ (I1.tok _) q1) λv s2 hz0=>?_))
 obtain ⟨y,H2,I2,r2,j,rfl,hj,q2⟩:=hz0
 obtain ⟨t2,rfl⟩:=r2
 have e1:(((Str.empty++i)++sep)++j).length<=1048576:=by rw [strLen_append,strLen_append,e0]; omega
 refine formatField_str (λt' tk=>⟨dF e1,?_⟩) (dF (by omega))
 exact joinParts_nil ⟨.str _,H2,I2.tok _,⟨_,rfl⟩,q2⟩ (dF e1)
noncomputable def im:PyData->Option Str
 | .str x=>if decide (x.length<=262144)=true then some x else none
 | _=>none
theorem ZaU {G:Hp} {v:V} {x:PyData} {z:Str} (d:Dn G v x) (h:im x=some z):v=.str z/\z.length<=262144:=by
 unfold im at h
 split at h
 ·split at h
  ·rename_i hc
   cases h
   cases d
   exact ⟨rfl,of_decide_eq_true hc⟩
  ·cases h
 ·cases h
noncomputable def qI (sep:Str) (i j:yT):yT:=λρ=>(i ρ).bind λx=>(Tr.of (im x)).bind λu=>(j ρ).bind λy=>(Tr.of (im y)).bind λv=>.ret (.str (((Str.empty++u)++sep)++v))
theorem Ze7 (ha:PE X a (TAe PK i)) (hb:PE X b (TAe PK j)) (hsep:sep.length<=1000:=by decide) :
  PE X (.JoinedStr [.FormattedValue a (-1) none p1,.Constant (.str sep) k p2,.FormattedValue b (-1) none p3] pos) (TAe PK (qI sep i j)):=(ZiR ha hb hsep).imp λσ H Q hz0=>by
 obtain ⟨pa,ze,H₀,m,ρ,G,R,z⟩:=hz0
 refine TAe.then R z λm1 x v G1 H1 s1 w1 R1 d1 q1=>?_
 obtain ⟨u,hu,q1⟩:=Tr.ok_of (Tr.ok_bind.mp q1)
 obtain ⟨rfl,hl⟩:=ZaU d1 hu
 refine ⟨u,rfl,hl,?_⟩
 refine TAe.then R1 q1 λm2 y v2 G2 H2 s2 w2 R2 d2 q2=>?_
 obtain ⟨u2,hu2,q2⟩:=Tr.ok_of (Tr.ok_bind.mp q2)
 obtain ⟨rfl,hl2⟩:=ZaU d2 hu2
 exact ⟨u2,rfl,hl2,(Kn.later q2 (s1.trans s2 w1.some) w2.some).here w2 (.str _)⟩
end
noncomputable def ZbS:List V->Hp->VK->Prop:=λxs H Q=>∃ a b:Int,xs=[.int a,.int b]/\0 < b/\Builtin.divisionGoesByPylong a b=false/\∀ p,H p=none->Q (.ref p) (upd H p (.tup [.int (a.fdiv b),.int (a.fmod b)]))
theorem Zq8 {X:Cx}:CallR X (.builtin "divmod") ZbS:=by
 intro pins s σ H xs us Q I r h
 obtain ⟨a,b,rfl,hb,hp,q⟩:=h
 obtain ⟨u1,u2,rfl,r1,r2⟩:=ii r
 obtain ⟨t,rfl⟩:=r1
 obtain ⟨t2,rfl⟩:=r2
 refine divmod_int (by omega) ?_ (.inl hp)
 refine ⟨.ref s.heap.objs.size,_,I.laid (t':=s.toks+1+1) (o:=.tup [.int (a.fdiv b),.int (a.fmod b)]) (λb o e=>vA _ e) (vF _) ?_,rfl,q _ (I.hok.fresh (vF _))⟩
 exact ⟨by show 2<=sizeLine; decide,[.int (a.fdiv b) s.toks,.int (a.fmod b) (s.toks+1)],.cons ⟨_,rfl⟩ (.cons ⟨_,rfl⟩ .nil),IsTup.new _ _⟩
noncomputable def mY:List PyData->Option PyData
 | [.int a,.int b]=>if (decide (0 < b) && !(Builtin.divisionGoesByPylong a b))=true then some (.tuple [.int (a.fdiv b),.int (a.fmod b)]) else none
 | _=>none
theorem ZfX:dJ ZbS mY:=λPK pa m G H vs ds d Q w hv hd k=>by
 unfold mY at hd
 split at hd
 ·split at hd
  ·rename_i hc
   rw [vQ] at hc
   cases hd
   cases hv with
   | cons h1 h2 =>
    cases h2 with
    | cons h2 h3 =>
     cases h3
     cases h1
     cases h2
     exact ⟨_,_,rfl,of_decide_eq_true hc.1,by simpa using hc.2,λp hp=>k.tup w (.cons (.int _) (.cons (.int _) .nil)) hp⟩
  ·cases hd
 ·cases hd
section
variable {prog:Program} {w:World} {A:Around} {R:Result->Shared->Prop} {s:Shared}
end
section
variable {CX:dY} {P:Program} {w:World} {K:yS} {mg:zc} {base:Heap} {N:za} {scope:Scope} {cl:List (Str×Addr)} {q:Str} {f:Addr} {cd:Value} {A:Around} {outer:List Env} {s:Shared} {H:Hp} {E:XK} {σ:St}
end
section
variable {X:Cx} {pins:List (Addr×Obj)} {σ:St} {H:Hp} {s:Shared}
end
section
variable {X:Cx}
end
section
variable {P:Program} {w:World} {K:yS} {mg:zc} {base:Heap} {A:Around} {outer:List Env} {s s':Shared} {H H':Hp} {cs:List Addr} {h h':Heap}
end
section
variable {P:Program} {w:World} {K:yS} {mg:zc} {base:Heap}
end
section
variable {X:Cx} {pins:List (Addr×Obj)} {σ:St} {H:Hp} {s:Shared}
theorem Zkp {A:Around} {E:y4} {i:Nat} {x:Str} {v:V} {pos:Pos} {Q:y4} (I:Inv X pins σ H s) (hN:X.N[i]?=some x) (hv:k8 X.env.scope x) (e:σ[i]?=some (some v)) (h:∀ u,RelV v u->Q u s)
  (hd:(x == ("__debug__":Str))=false:=by decide) (hcd:(x == ("__classdict__":Str))=false:=by decide):wpAny (model X.prog X.w) A (eval (.Name x pos) X.env) Q E s:=by
 obtain ⟨m,hn,hl⟩:=I.loc
 obtain ⟨u,r,l⟩:=hl i x v hN e hv
 rcases l with ⟨hk,hm⟩ | ⟨hk,c,hc,hcell⟩
 ·exact wpAny_Name (wpAny_loadName_local I.ok.kind hk hn hm (h u r)) hd
 ·rcases hk with hk | hk
  ·exact wpAny_Name (wpAny_loadName_cell I.ok.kind hk hc hcell (h u r)) hd
  ·exact wpAny_Name (wpAny_loadName_free I.ok.kind hk hc hcell (h u r) hcd) hd
end
section
variable {PK:Pk} {X:Cx} {e:Expr} {es:List Expr} {as:List Sl->Tr zd} {pos:Pos}
noncomputable def qD (f:Addr) (as:List Sl->Tr zd):List Sl->Tr zd:=λρ=>(as ρ).bind λxs=>.ret (.fn f::xs)
theorem Zfb {x:Str} {f:Addr} {p:Pos} (hg:Gl X x) (hm:X.mg x=some (.ref f)) (hr:PA X es (TAa PK as)) (hd:(x == ("__debug__":Str))=false:=by decide) (hs:starEach (.Name x p::es) X.env=(false,eval (.Name x p) X.env)::starEach es X.env:=by rfl):PA X (.Name x p::es) (TAa PK (qD f as)) :=
 (aT (fK (v:=.ref f) hg hm rfl hd) hr hs).imp λσ H Q hz0=>by
  obtain ⟨pa,ze,H₀,m,ρ,G,R,z⟩:=hz0
  show TAa PK as σ H λxs H2=>Q (.ref f::xs) H2
  refine TAa.then R z λm2 xs vs G2 H2 s2 w2 R2 d2 q2=>?_
  exact q2 _ G2 H2 s2 w2 (.cons .fn d2)
noncomputable def nn (k:Nat) (as:List Sl->Tr zd):List Sl->Tr zd:=λρ=>match ρ[k]? with
 | some (.fn f)=>(as ρ).bind λxs=>.ret (.fn f::xs)
 | _=>.fail
theorem Zfa {k:Nat} (ha:PE X e (ij k)) (hr:PA X es (TAa PK as)) (hs:starEach (e::es) X.env=(false,eval e X.env)::starEach es X.env:=by rfl):PA X (e::es) (TAa PK (nn k as)):=(aT ha hr hs).imp λσ H Q hz0=>by
 obtain ⟨pa,ze,H₀,m,ρ,G,R,z⟩:=hz0
 unfold nn at z
 split at z
 ·rename_i f hk
  obtain ⟨o,h1,h2⟩:=R.sl k _ hk
  cases h2
  refine ⟨_,h1,?_⟩
  refine TAa.then R z λm2 xs vs G2 H2 s2 w2 R2 d2 q2=>?_
  exact q2 _ G2 H2 s2 w2 (.cons .fn d2)
 ·exact z.elim
end
section
variable {X:Cx}
def Zgo (P:Program) (w:World) (K:yS) (mg:zc) (base:Heap) (k j:Nat) (t:TA) (C:Addr) (l i:Nat) (tb:Addr->TS):TS:=λD σ H=>∃ f fd ps sp,σ[j]?=some (some (.ref f))/\FnOk P w K mg base (bX P w) k f fd ps sp/\PySem.W.keepIn K (.ref f)=true/\Binds K fd ps [] /\
 t σ H λvs H1=>sp vs H1 (λv H'=>D.nx (σ.set l (some v)) H') λcls _ H'=>cls=.ref C/\∀ ea,H' ea=none ->
  tb ea { nx:=λσ' H2=>D.nx (σ'.set i none) H2,rt:=λ_ _=>False } (σ.set i (some (.ref ea))) (upd H' ea (.ext (dZ ea (.ref C))))
theorem Zit {k j l:Nat} {x y c n:Str} {C D' L:Addr} {outer:List Env} {i:Nat} {e:Expr} {es:List Expr} {t:TA} {tb:Addr->TS} {p cpos apos yp cp hpos pos:Pos} {b₀:Stmt} {suite:List Stmt}
  (hstk:X.stack=X.env::outer) (hL:X.env.frame=some L) (hN:X.N.Nodup) (hr:Room k X.A) (hj:X.N[j]?=some x) (hv:k8 X.env.scope x) (hl:X.N[l]?=some y) (hly:jR X.env.scope y) (hfy:X.fn y=true\/X.env.scope.names.lookup y=some .local)
  (ha:PA X.nox (e::es) t)
  (U:Under X.K C D') (hgc:Gl X c) (hmc:X.mg c=some (.ref D')) (hi:X.N[i]?=some n) (hn:X.env.kindOf n=some .local) (hln:jR X.env.scope n) (hfn:X.fn n=true\/X.env.scope.names.lookup n=some .local) (hsu:∀ ea,PSs (X.marked ea) (b₀::suite) (tb ea))
  (hdb:(x == ("__debug__":Str))=false:=by decide) (hcd:(x == ("__classdict__":Str))=false:=by decide) (hdc:(c == ("__debug__":Str))=false:=by decide)
  (he:starEach (e::es) X.env=(false,eval e X.env)::starEach es X.env:=by rfl) (hpl:(backTo cpos (starEach es X.env)).any (·.1)=false:=by rfl) (hs:swapsWith (.Call (.Name x p) (e::es) [] cpos) (some (.Name y yp)) apos.line X.env=pure false:=by rfl) :
  PS X (.Try [.Assign [.Name y yp] (.Call (.Name x p) (e::es) [] cpos) apos] [.ExceptHandler (some (.Name c cp)) (some n) (b₀::suite) hpos] [] [] pos) (Zgo X.prog X.w X.K X.mg X.base k j t C l i tb):=by
 intro pins s σ H D I h
 obtain ⟨f,fd,ps,sp,hf,F,hk,hb,h⟩:=h
 refine wpAny_Try_except (wpAny_execs_cons (wpAny_Assign_Name (wpAny_Call_Name_kw (Zkp I hj hv hf (λu r=>?_) hdb hcd)) hs))
 obtain rfl:u=.ref f:=r
 refine PySem.W.callWith_K (h₀:=X.base) I.ok.mod.kin hk (wpAny_mono (ha cpos pins s σ H _ (I.wish _) h) (λus s1 ⟨vs,H1,I1',r,q⟩=>⟨I1'.unwish.kIn,?_⟩) λ_ _ z=>z.elim) he hpl
 have I1:Inv X pins σ H1 s1:=I1'.unwish
 have hlen:us.length=ps.length:=by rw [<- r.length]; exact F.len _ _ _ _ q
 have hbb:=hb s1 us I1.kIn (by rw [v7]; exact hlen)
 rw [v7] at hbb
 refine wpAny_call (codeAny_mono (F.run X.A X.stack s1 H1 ⟨us,[]⟩ us vs _ _ hr I1.env0 hbb r q) λrr s' hq=>?_)
 cases rr with
 | ok fl =>
  cases fl with
  | ret u =>
   obtain ⟨v,H',I',r',q'⟩:=I1.after hq
   exact jl I' hN hl hly r' (λs2 I2=>wpAny_execs_nil (wpAny_execs_nil ⟨_,H',I2,q'⟩)) hfy
  | next=>exact False.elim hq
  | brk=>exact False.elim hq
  | cont=>exact False.elim hq
 | error ex =>
  have hq':bX X.prog X.w X.stack H1 s1 (λcls _ H'=>cls=.ref C/\∀ ea,H' ea=none ->
   tb ea { nx:=λσ' H2=>D.nx (σ'.set i none) H2,rt:=λ_ _=>False } (σ.set i (some (.ref ea))) (upd H' ea (.ext (dZ ea (.ref C))))) ex s':=hq
  refine Zek I1 hstk hL hq' λea cls H' h' eq I5 hea hcl fly un hE=>?_
  subst eq
  obtain ⟨hcls,hE⟩:=hE
  subst hcls
  obtain ⟨b'',tt,fl,hf,hbt⟩:=fly
  obtain ⟨nm,q0,N0,bs,bm,hdct,sn,sub,ab,col,dd,k0,k1,k2,k3,k5,newId,lkC,hin⟩:=U.ex
  obtain ⟨nm',q',N',bs',bm',hdct',sn',sub',ab',col',dd',j0,j1,j2,j3,j5,newId',lkD,hbase⟩:=U.top
  have KX:=I5.kIn
  refine Zk8 hbase hin (Zkq I5 hgc hmc ⟨rfl,KX _ _ lkC,KX _ _ lkD,hcl,?_⟩ hdc)
  refine Zky I1 I5 un hea fl hf hbt (I5.os.trans I1.os.symm) λh6 I6=>?_
  refine jl I6 hN hi hln (show RelV (.ref ea) (.ref ea) from rfl) (λs7 I7=>?_) hfn
  refine wpAny_mono (hsu ea pins s7 _ _ _ (I7.marked ea) (hE ea hea)) (λfl8 s8 h8=>?_) λ_ _ z=>z.elim
  cases fl8 with
  | next =>
   obtain ⟨σ8,H8,I8,q8⟩:=h8
   exact ZjL (I8.unmarked I5.ok) hN hi hn λs9 I9=>⟨_,_,I9,q8⟩
  | ret u=>obtain ⟨_,_,_,_,_,z⟩:=h8; exact z.elim
  | brk=>obtain ⟨_,_,_,z⟩:=h8; exact z.elim
  | cont=>obtain ⟨_,_,_,z⟩:=h8; exact z.elim
end
end L2
namespace L2
open PySem.NumText PySem.W.KIN
noncomputable def digs (m:Nat):List Nat:=(Nat.toDigits 10 m).map Char.toNat
theorem gD {m:Nat} (h:m < 10):digs m=[m+48]:=by
 unfold digs
 rw [Nat.toDigits_of_lt_base h]
 have:∀ d:Nat,d < 10->(Nat.digitChar d).toNat=d+48:=by decide
 rw [vG,this m h]
 rfl
theorem jI {q d:Nat} (hq:0 < q) (hd:d < 10):digs (10 * q+d)=digs q++[d+48]:=by
 have t:Nat.toDigits 10 q++Nat.toDigits 10 d=Nat.toDigits 10 (10 * q+d):=Nat.toDigits_append_toDigits (by decide) hq hd
 rw [<- gD hd]
 unfold digs
 rw [<- t,wk]
theorem qg (m:Nat):AllDigits (digs m):=by
 intro c hc
 obtain ⟨ch,hch,e⟩:=wQ.mp hc
 have r:=digit_range (Nat.isDigit_of_mem_toDigits (by decide) (by decide) hch)
 rw [<- e]
 exact r
theorem ZdW (m:Nat):digitsVal (digs m)=m:=val_back m
theorem uF (m:Nat):digs m≠[]:=by
 by_cases h:m < 10
 ·rw [gD h]; simp
 ·have:m=10 * (m / 10)+m % 10:=by omega
  rw [this,jI (by omega) (by omega)]
  simp
theorem ZpX (m:Nat):0 < m->(digs m).head?≠some 48:=by
 induction m using Nat.strongRecOn with
 | _ m ih =>
  intro h0
  by_cases h:m < 10
  ·rw [gD h]
   show some (m+48)≠some 48
   intro e
   have:=vT e
   omega
  ·have e:m=10 * (m / 10)+m % 10:=by omega
   have:=ih (m / 10) (by omega) (by omega)
   rw [e,jI (by omega) (by omega)]
   cases hd:digs (m / 10) with
   | nil=>exact absurd hd (uF _)
   | cons c r=>rw [hd] at this; exact this
theorem jH (k:Nat):∀ m,m < 10 ^ (k+1)->(digs m).length<=k+1:=by
 induction k with
 | zero=>intro m h; rw [gD (by simpa using h)]; exact vF _
 | succ k ih =>
  intro m h
  by_cases hm:m < 10
  ·rw [gD hm]; exact Nat.succ_le_succ (wN _)
  ·have e:m=10 * (m / 10)+m % 10:=by omega
   have hp:10 ^ (k+1+1)=10 ^ (k+1) * 10:=x9 ..
   have:=ih (m / 10) (by rw [hp] at h; omega)
   rw [e,jI (by omega) (by omega),vW]
   show _+1<=_
   omega
theorem ZpY (l:List Nat) (c:Nat):digitsVal (l++[c])=digitsVal l * 10+(c - 48):=by
 unfold digitsVal
 rw [List.foldl_append]
 rfl
theorem Zaw {l:List Nat}:AllDigits l->l≠[]->l.head?≠some 48->0 < digitsVal l:=by
 intro ha hne hh
 have key:∀ (r:List Nat) (a:Nat),0 < a->0 < r.foldl (λacc c=>acc * 10+(c - 48)) a:=by
  intro r
  induction r with
  | nil=>intro a h; exact h
  | cons c r ih=>intro a h; exact ih (a * 10+(c - 48)) (by omega)
 cases l with
 | nil=>exact absurd rfl hne
 | cons c r =>
  have hc:=ha.head
  have:c≠48:=λe=>hh (by rw [e]; rfl)
  exact key r (0 * 10+(c - 48)) (by omega)
theorem ZdX (l:List Nat):AllDigits l->l≠[]->(l.head?≠some 48\/l=[48])->digs (digitsVal l)=l:=by
 have key:∀ n (l:List Nat),l.length=n->AllDigits l->l≠[]->l.head?≠some 48->digs (digitsVal l)=l:=by
  intro n
  induction n with
  | zero=>intro l hl _ hne; exact absurd (wP.mp hl) hne
  | succ n ih =>
   intro l hl ha hne hh
   have e:=(yy hne).symm
   generalize l.dropLast=r at e
   generalize l.getLast hne=c at e
   subst e
   have hc:48<=c/\c<=57:=ha c (by simp)
   rw [ZpY]
   cases r with
   | nil =>
    show digs (0 * 10+(c - 48))=[c]
    rw [Nat.zero_mul,yr,gD (by omega)]
    congr 1
    omega
   | cons d r =>
    have ha':AllDigits (d::r):=λx hx=>ha x (wO _ hx)
    have hh':(d::r).head?≠some 48:=hh
    have hp:=Zaw ha' (by simp) hh'
    have:=ih (d::r) (by simp at hl ⊢; omega) ha' (by simp) hh'
    rw [ya,jI hp (by omega),this]
    congr 2
    omega
 intro ha hne h
 rcases h with h | h
 ·exact key _ l rfl ha hne h
 ·subst h
  exact gD (by decide)
noncomputable def cw (i:Int):List Nat:=if i < 0 then 45::digs i.natAbs else digs i.natAbs
noncomputable def ay (i:Int):Str:=⟨(cw i).toArray⟩
noncomputable def figs (l:List Nat):List Nat:=if l.head?=some 45 then l.tail else l
noncomputable def b8 (l:List Nat):Bool:=decide (1<=(figs l).length/\(figs l).length<=400) && (figs l).all (λc=>decide (48<=c/\c<=57)) && (decide ((figs l).head?≠some 48) || decide (l=[48]))
noncomputable def eu (l:List Nat):Int:=if l.head?=some 45 then -(digitsVal l.tail:Int) else (digitsVal l:Int)
theorem p4 {l:List Nat} (h:b8 l=true):figs l≠[]/\(figs l).length<=400/\AllDigits (figs l)/\((figs l).head?≠some 48\/l=[48]):=by
 unfold b8 at h
 simp only [vQ,yG,decide_eq_true_eq,xE] at h
 obtain ⟨⟨⟨h1,h2⟩,h3⟩,h4⟩:=h
 exact ⟨λe=>by rw [e] at h1; simp at h1,h2,λc hc=>h3 c hc,h4⟩
theorem Zp4 {l:List Nat} (h:b8 l=true):cw (eu l)=l:=by
 obtain ⟨h1,h2,h3,h4⟩:=p4 h
 unfold figs at h1 h2 h3 h4
 unfold cw eu
 by_cases hm:l.head?=some 45
 ·rw [if_pos hm] at *
  cases l with
  | nil=>cases hm
  | cons c r =>
   have:c=45:=vT hm
   subst this
   have h4':r.head?≠some 48:=h4.elim id λe=>by cases e
   have hp:=Zaw (l:=r) h3 h1 h4'
   show (if (-(digitsVal r:Int)) < 0 then 45::digs (-(digitsVal r:Int)).natAbs else digs (-(digitsVal r:Int)).natAbs)=45::r
   rw [if_pos (by omega)]
   have e:(-(digitsVal r:Int)).natAbs=digitsVal r:=by omega
   rw [e,ZdX r h3 h1 (.inl h4')]
 ·rw [if_neg hm] at *
  rw [if_neg (by omega)]
  have e:((digitsVal l:Int)).natAbs=digitsVal l:=by omega
  rw [e,ZdX l h3 h1 h4]
theorem Zd2 (i:Int):figs (cw i)=digs i.natAbs:=by
 unfold cw figs
 by_cases hi:i < 0
 ·rw [if_pos hi]; rfl
 ·rw [if_neg hi]
  rw [if_neg]
  cases hd:digs i.natAbs with
  | nil=>simp
  | cons c r =>
   have:=qg i.natAbs c (by rw [hd]; simp)
   intro e
   have:c=45:=vT e
   omega
theorem Zp2 (i:Int):eu (cw i)=i:=by
 have e:=Zd2 i
 unfold eu
 by_cases hi:i < 0
 ·have:cw i=45::digs i.natAbs:=if_pos hi
  rw [this]
  show -(digitsVal (digs i.natAbs):Int)=i
  rw [ZdW]
  omega
 ·have h:cw i=digs i.natAbs:=if_neg hi
  unfold figs at e
  by_cases hm:(cw i).head?=some 45
  ·rw [if_pos hm] at e
   rw [<- h] at e
   have:(cw i).length=(cw i).length - 1:=by
    have:=congrArg List.length e
    rw [List.length_tail] at this
    exact this.symm
   cases hd:cw i with
   | nil=>rw [hd] at hm; cases hm
   | cons c r=>rw [hd] at this; simp at this
  ·rw [if_neg hm,h,ZdW]
   omega
theorem Zp3 {i:Int} (h:i.natAbs < 10 ^ 400):b8 (cw i)=true:=by
 unfold b8
 rw [Zd2]
 simp only [vQ,yG,decide_eq_true_eq,xE]
 refine ⟨⟨⟨?_,jH 399 _ h⟩,λc hc=>qg _ c hc⟩,?_⟩
 ·have:=uF i.natAbs
  cases hd:digs i.natAbs with
  | nil=>exact absurd hd this
  | cons c r=>simp
 ·by_cases h0:i.natAbs=0
  ·right
   have:i=0:=by omega
   subst this
   rfl
  ·exact .inl (ZpX _ (by omega))
theorem Zd1 (i:Int):(Str.ofString (toString i))=ay i:=by
 unfold ay
 apply Str.ext'
 apply Array.toList_inj.mp
 rw [signs_ofString]
 show _=cw i
 cases i with
 | ofNat n =>
  show (Nat.repr n).toList.map Char.toNat=_
  rw [Nat.toList_repr]
  rfl
 | negSucc n =>
  show ("-"++Nat.repr (n+1)).toList.map Char.toNat=_
  rw [String.toList_append,wk,Nat.toList_repr]
  have e:"-".toList.map Char.toNat=[45]:=by decide
  rw [e]
  unfold cw
  rw [if_pos (by omega)]
  rfl
theorem Zk4 {w:Str} (h:b8 w.cps.toList=true):intText? w=some (eu w.cps.toList):=by
 obtain ⟨h1,h2,h3,h4⟩:=p4 h
 have hl:w.length=w.cps.toList.length:=by simp [Str.length]
 unfold figs at h1 h2 h3
 unfold eu
 by_cases hm:w.cps.toList.head?=some 45
 ·rw [if_pos hm] at h1 h2 h3 ⊢
  have e:w.cps.toList=45::w.cps.toList.tail:=by
   cases hc:w.cps.toList with
   | nil=>rw [hc] at hm; cases hm
   | cons c r=>rw [hc] at hm; rw [vT hm]; rfl
  refine intText_neg e h3 h1 ?_
  rw [hl,e]
  simp only [vN]
  omega
 ·rw [if_neg hm] at h1 h2 h3 ⊢
  exact intText_digits h3 h1 (by omega)
theorem Zjz {l:List Nat} (h:b8 l=true):l.length<=401:=by
 obtain ⟨h1,h2,h3,h4⟩:=p4 h
 unfold figs at h2
 split at h2
 ·rw [List.length_tail] at h2; omega
 ·omega
noncomputable def padk (k:Nat) (r:Nat):List Nat:=List.replicate (k - (digs r).length) 48++digs r
theorem Zi4 {k r:Nat} (hk:0 < k) (h:r < 10 ^ (k+1)):padk (k+1) r=padk k (r / 10)++[r % 10+48]:=by
 unfold padk
 by_cases hr:r < 10
 ·have e0:r / 10=0:=by omega
  have e1:r % 10=r:=by omega
  rw [e0,e1,gD hr,gD (by decide)]
  show List.replicate (k+1 - 1) 48++[r+48]=List.replicate (k - 1) 48++[48]++[r+48]
  congr 1
  obtain ⟨j,rfl⟩:∃ j,k=j+1:=⟨k - 1,by omega⟩
  show List.replicate (j+1) 48=List.replicate j 48++[48]
  rw [List.replicate_succ']
 ·have e:r=10 * (r / 10)+r % 10:=by omega
  have e2:digs r=digs (r / 10)++[r % 10+48]:=by
   rw [e,jI (by omega) (by omega)]
   congr 2
   ·omega
   ·omega
  rw [e2,vW]
  show List.replicate (k+1 - ((digs (r / 10)).length+1)) 48++_=_
  rw [Nat.add_sub_add_right,ww]
theorem ZpW (k:Nat):∀ q r,0 < q->r < 10 ^ (k+1)->digs (q * 10 ^ (k+1)+r)=digs q++padk (k+1) r:=by
 induction k with
 | zero =>
  intro q r hq hr
  have hr':r < 10:=by simpa using hr
  have e:q * 10 ^ (0+1)+r=10 * q+r:=by rw [yr,Nat.pow_one,ya]
  rw [e,jI hq hr']
  congr 1
  unfold padk
  rw [gD hr']
  rfl
 | succ k ih =>
  intro q r hq hr
  have hp:10 ^ (k+1+1)=10 ^ (k+1) * 10:=x9 ..
  have hr2:r / 10 < 10 ^ (k+1):=by rw [hp] at hr; omega
  have e:q * 10 ^ (k+1+1)+r=10 * (q * 10 ^ (k+1)+r / 10)+r % 10:=by
   rw [hp,<- Nat.mul_assoc]
   generalize q * 10 ^ (k+1)=z
   omega
  have hpos:0 < q * 10 ^ (k+1)+r / 10:=Nat.add_pos_left (Nat.mul_pos hq (Nat.pow_pos (by decide))) _
  rw [e,jI hpos (by omega),ih q (r / 10) hq hr2,Zi4 (by omega) hr,ww]
theorem kD (c:Nat):∀ (p:Str) (ps:za),(Str.join ⟨#[c]⟩ (p::ps)).cps.toList=p.cps.toList++(ps.map λq=>c::q.cps.toList).flatten
 | p,[]=>by simp [Str.join]
 | p,q::ps=>by
  have ih:=kD c q ps
  have e:Str.join ⟨#[c]⟩ (p::q::ps)=p++⟨#[c]⟩++Str.join ⟨#[c]⟩ (q::ps):=rfl
  rw [e,w8,w8,wJ,wJ,ih]
  simp
theorem Zdc {c:Nat}:∀ {a b x y:List Nat},c ∉ a->c ∉ b->a++c::x=b++c::y->a=b/\x=y
 | [],[],x,y,_,_,h=>⟨rfl,yM h⟩
 | [],d::b,x,y,_,hb,h=>absurd (vD.mpr (.inl (xY h))) hb
 | d::a,[],x,y,ha,_,h=>absurd (vD.mpr (.inl (xY h).symm)) ha
 | d::a,e::b,x,y,ha,hb,h=>by
  have h1:=xY h
  have h2:=yM h
  obtain ⟨r1,r2⟩:=Zdc (λm=>ha (vC _ m)) (λm=>hb (vC _ m)) h2
  exact ⟨by rw [h1,r1],r2⟩
theorem jj {a b:Str} (h:a.cps.toList=b.cps.toList):a=b:=Str.ext' (Array.toList_inj.mp h)
theorem ZcQ {c:Nat}:∀ {ps qs:za},ps≠[]->qs≠[]->(∀ p∈ps,c ∉ p.cps.toList)->(∀ p∈qs,c ∉ p.cps.toList)->Str.join ⟨#[c]⟩ ps=Str.join ⟨#[c]⟩ qs->ps=qs
 | [],_,h,_,_,_,_=>absurd rfl h
 | _,[],_,h,_,_,_=>absurd rfl h
 | [p],[q],_,_,_,_,h=>by
  have h:p=q:=h
  rw [h]
 | [p],q::q'::qs,_,_,hp,hq,h=>by
  have h':=congrArg (λs:Str=>s.cps.toList) h
  simp only [kD] at h'
  exact absurd (by
   have:c∈p.cps.toList:=by
    have e:p.cps.toList=q.cps.toList++(List.map (λq=>c::q.cps.toList) (q'::qs)).flatten:=by simpa using h'
    rw [e]; simp
   exact this) (hp p (by simp))
 | p::p'::ps,[q],_,_,hp,hq,h=>by
  have h':=congrArg (λs:Str=>s.cps.toList) h
  simp only [kD] at h'
  exact absurd (by
   have:c∈q.cps.toList:=by
    have e:p.cps.toList++(List.map (λq=>c::q.cps.toList) (p'::ps)).flatten=q.cps.toList:=by simpa using h'
    rw [<- e]; simp
   exact this) (hq q (by simp))
 | p::p'::ps,q::q'::qs,_,_,hp,hq,h=>by
  have h':=congrArg (λs:Str=>s.cps.toList) h
  simp only [kD,vG,wv,List.cons_append] at h'
  obtain ⟨r1,r2⟩:=Zdc (hp p (by simp)) (hq q (by simp)) h'
  have e:Str.join ⟨#[c]⟩ (p'::ps)=Str.join ⟨#[c]⟩ (q'::qs):=jj (by rw [kD,kD]; exact r2)
  have:=ZcQ (by simp) (by simp) (λx hx=>hp x (vC _ hx)) (λx hx=>hq x (vC _ hx)) e
  rw [jj r1,this]
theorem ZgU (x y:Str):Txt.split x y≠[]:=λe=>by
 have:=split_pos x y
 rw [e] at this
 exact absurd this (by decide)
theorem nN {c:Nat} {ps:za} (h0:ps≠[]) (h:∀ p∈ps,c ∉ p.cps.toList):Txt.split (Str.join ⟨#[c]⟩ ps) ⟨#[c]⟩=ps :=
 ZcQ (ZgU _ _) h0 (StrLaws.split_free _ c) h (xf _ _)
end L2
namespace L2
variable {ρ:zd} {s t:yW} {i j l:yT} {is:yU} {as:List Sl->Tr zd} {k n:Nat} {x y d:PyData} {xs ys:y6} {sl:Sl} {a b:Str}
theorem dO {n:Nat} (h:n<=1048576):small n=true:=decide_eq_true (dF h)
theorem ZmP (m n:Int):az aN (.int m) (.int n)=.ret (.int (m+n)):=rfl
theorem iT (h:a.length+b.length<=1048576):az aN (.str a) (.str b)=.ret (.str (a++b)):=by
 unfold az aN
 dsimp only
 rw [decide_eq_true h]; rfl
theorem mU (h2:small (xs.length+ys.length)=true):az aN (.list xs) (.list ys)=.ret (.list (xs++ys)):=by
 show az cU (.list xs) (.list ys)=_
 exact Zds h2
theorem ZmO:az aN (.tuple xs) (.tuple ys)=az kU (.tuple xs) (.tuple ys):=rfl
theorem ZmG (m n:Int):az gX (.int m) (.int n)=az cm (.int m) (.int n):=rfl
theorem uv {n:Int} (h:0 < n/\n<=1048576/\a.length * n.toNat<=1048576):az gX (.str a) (.int n)=.ret (.str (ff a n)):=by
 unfold az gX
 dsimp only
 rw [decide_eq_true h]; rfl
theorem cQ (h:a.length<=1048576):bn dG [.str a]=.ret (.int a.length):=by
 unfold bn dG
 dsimp only
 rw [decide_eq_true h]; rfl
theorem ZmI:bn dG [.list xs]=.ret (.int xs.length):=rfl
theorem ZmH:bn dG [.tuple xs]=.ret (.int xs.length):=rfl
theorem uw {n:Int} (h:a.length<=1048576):az bM (.str a) (.int n)=Tr.of ((br a.cps.toList n).map λc=>.str ⟨#[c]⟩):=by
 unfold az bM
 dsimp only
 rw [decide_eq_true h]; rfl
theorem ZmK (n:Int):az bM (.list xs) (.int n)=Tr.of (br xs n):=rfl
theorem ZmJ (n:Int):az bM (.tuple xs) (.int n)=Tr.of (br xs n):=rfl
theorem ZmN {neg:Bool}:az (g7 neg) (.str a) (.str b)=.ret (.bool (if neg then !iP b a else iP b a)):=rfl
theorem ZmL (n:Int):bn g6 [.int n]=.ret (.int n):=rfl
theorem ZmM (b:Bool):bn g6 [.bool b]=.ret (.int (if b then 1 else 0)):=rfl
noncomputable def kc (x:PyData) (lo:Option Int) (hi:Option Int):Tr PyData:=Tr.of (rM x lo hi)
noncomputable def rN (q:eZ) (ρ:zd) (x:PyData) (lo:Option Int):Tr PyData:=(q ρ).bind (kc x lo)
noncomputable def Za6 (p q:eZ) (ρ:zd) (x:PyData):Tr PyData:=(p ρ).bind (rN q ρ x)
theorem Zmv {p q:eZ}:dr i p q ρ=(i ρ).bind (Za6 p q ρ):=rfl
theorem Zmu {p q:eZ}:Za6 p q ρ x=(p ρ).bind (rN q ρ x):=rfl
theorem Zmt {q:eZ} {lo:Option Int}:rN q ρ x lo=(q ρ).bind (kc x lo):=rfl
theorem Zms {lo hi:Option Int}:kc (.list xs) lo hi=.ret (.list (fR xs lo hi)):=rfl
theorem Zmr {lo hi:Option Int}:kc (.tuple xs) lo hi=.ret (.tuple (fR xs lo hi)):=rfl
theorem cZ {lo hi:Option Int} (h:a.length<=1048576):kc (.str a) lo hi=.ret (.str (Txt.slice a lo hi)):=by
 unfold kc rM
 dsimp only
 rw [decide_eq_true h]; rfl
noncomputable def pY (x:PyData):Tr y6:=Tr.of (itA x)
theorem ZnS:di i ρ=(i ρ).bind pY:=rfl
theorem ZnR:pY (.list xs)=.ret xs:=rfl
theorem ZnP:pY (.tuple xs)=.ret xs:=rfl
theorem ZnQ:pY (.str a)=.ret (cM a):=rfl
theorem ZgT {c:Nat} (h:a.length<=500000):rL a ⟨#[c]⟩=true:=by
 have h2:(Txt.split a ⟨#[c]⟩).length<=a.length+2:=(fact_split a ⟨#[c]⟩).2
 have h3:(Builtin.Str.partsBetween a (Builtin.Str.occurrences a ⟨#[c]⟩ 0 a.length (a.length+1)) (⟨#[c]⟩:Str).length).length<=a.length+2:=by
  rw [len_partsBetween]
  have:=StrLaws.occ_length_le a ⟨#[c]⟩ 0 a.length (a.length+1)
  omega
 exact decide_eq_true ⟨by show (1:Nat)≠0; decide,by omega,by omega,by omega⟩
theorem dm {c:Nat} (h:a.length<=500000):az cK (.str a) (.str ⟨#[c]⟩)=.ret (.list ((Txt.split a ⟨#[c]⟩).map PyData.str)):=by
 unfold az cK
 dsimp only
 rw [ZgT h]; rfl
theorem mV (h:a.length<=1048576):az jp (.str a) (.str b)=.ret (.str (Txt.removeprefix a b)):=by
 unfold az jp
 dsimp only
 rw [decide_eq_true h]; rfl
theorem ZaS:∀ l:za,ji (l.map PyData.str)=some l
 | []=>rfl
 | x::l=>by
  have ih:=ZaS l
  rw [vG]
  unfold ji
  rw [ih]
  rfl
theorem ae {l:za} (h:a.length<=16/\(l.map (·.length)).sum+l.length<=1048576):az cv (.str a) (.list (l.map PyData.str))=.ret (.str (Txt.join a l)):=by
 unfold az cv
 dsimp only
 rw [ZaS]
 show Tr.of (if jD a l=true then _ else _)=_
 rw [show jD a l=true from decide_eq_true h]
 rfl
noncomputable def Zly (sep u v:Str):Tr PyData:=.ret (.str (((Str.empty++u)++sep)++v))
noncomputable def p9 (sep u:Str) (y:PyData):Tr PyData:=(Tr.of (im y)).bind (Zly sep u)
noncomputable def Zlz (sep:Str) (j:yT) (ρ:zd) (u:Str):Tr PyData:=(j ρ).bind (p9 sep u)
noncomputable def ur (sep:Str) (j:yT) (ρ:zd) (x:PyData):Tr PyData:=(Tr.of (im x)).bind (Zlz sep j ρ)
theorem Zof:qI a i j ρ=(i ρ).bind (ur a j ρ):=rfl
theorem ZgQ:Str.empty++a=a:=by
 apply jj
 rw [w8]
 simp [Str.empty]
theorem ah (h:b.length<=262144):ur a j ρ (.str b)=(j ρ).bind (p9 a b):=by
 unfold ur im
 dsimp only
 rw [decide_eq_true h]; rfl
theorem ag {c:Str} (h:c.length<=262144):p9 a b (.str c)=.ret (.str (b++a++c)):=by
 unfold p9 im
 dsimp only
 rw [decide_eq_true h,if_pos rfl]
 show Tr.ret _=_
 rw [ZgQ]
variable {X Y:Type} {u v:List Sl->Tr (Option Ou)} {xe:List Sl->Tr (Option PyData)} {xo:List Sl->Tr (Option y6)} {fx:List Sl->Tr (Option Re)}
theorem ZlH {k:X->Tr (Option Y)}:cE (.ret none) k=.ret none:=rfl
theorem Zdn {k:X->Tr (Option Y)} {z:X}:cE (.ret (some z)) k=k z:=rfl
noncomputable def rm (o:Option Re):Tr (Option PyData):=.ret (o.map Re.val)
noncomputable def Zak (fx:List Sl->Tr (Option Re)) (as:zd):Tr (Option PyData):=(fx as).bind rm
theorem Zl9:ig fx as ρ=(as ρ).bind (Zak fx):=rfl
theorem ZlX {sls:zd}:Zak fx sls=(fx sls).bind rm:=rfl
theorem ZlW {o:Option Re}:rm o=.ret (o.map Re.val):=rfl
noncomputable def Zac (o:Ou):Tr (Option Ou):=.ret (some o)
theorem ZlZ:ge s ρ=(s ρ).bind Zac:=rfl
theorem ZlL {o:Ou}:Zac o=.ret (some o):=rfl
noncomputable def Zad (k:Nat) (ρ:zd) (x:PyData):Tr (Option Ou):=.ret (some (.next (ρ.set k (.d x))))
theorem Zl0:ro k xe ρ=cE (xe ρ) (Zad k ρ):=rfl
theorem ZlN:Zad k ρ x=.ret (some (.next (ρ.set k (.d x)))):=rfl
noncomputable def Zag (x:PyData):Tr (Option Ou):=.ret (some (.ret (.d x)))
theorem Zl2:nB xe ρ=cE (xe ρ) Zag:=rfl
theorem ZlO:Zag x=.ret (some (.ret (.d x))):=rfl
noncomputable def Zaj (ρ:zd) (x:PyData):Tr (Option Ou):=.ret (some (.next ρ))
theorem Zl8:nD xe ρ=cE (xe ρ) (Zaj ρ):=rfl
theorem ZlV:Zaj ρ x=.ret (some (.next ρ)):=rfl
noncomputable def ri (u v:List Sl->Tr (Option Ou)) (ρ:zd) (b:Bool):Tr (Option Ou):=if b=true then u ρ else v ρ
theorem Zl7 {p:yV}:j4 p u v ρ=(p ρ).bind (ri u v ρ):=rfl
theorem ZlT:ri u v ρ true=u ρ:=rfl
theorem ZlU:ri u v ρ false=v ρ:=rfl
theorem Zl3:jY ρ=.ret none:=rfl
noncomputable def nw (v:List Sl->Tr (Option Ou)):Option Ou->Tr (Option Ou)
 | some (.next ρ')=>v ρ'
 | o=>.ret o
theorem Zl1:fE u v ρ=(u ρ).bind (nw v):=by
 unfold fE
 refine congrArg (Tr.bind (u ρ)) (funext λo=>?_)
 cases o with
 | none=>rfl
 | some o=>cases o <;> rfl
theorem ZlJ:nw v (some (.next ρ))=v ρ:=rfl
theorem ZlI {r:Re}:nw v (some (.ret r))=.ret (some (.ret r)):=rfl
theorem ZlK:nw v none=.ret none:=rfl
theorem ZoB {sls:zd} (h:sls.length=n):fZ n k u sls=(u (sls++List.replicate k .un)).bind mS:=by
 unfold fZ
 rw [if_pos (decide_eq_true h)]
theorem Zoq:mS none=.ret none:=rfl
theorem Zop:mS (some (.next ρ))=.ret (some (.d .none)):=rfl
theorem Zoo {r:Re}:mS (some (.ret r))=.ret (some r):=rfl
noncomputable def Zai (xs:y6):Tr (Option PyData):=.ret (some (.list xs))
theorem Zl5:li xo ρ=cE (xo ρ) Zai:=rfl
theorem ZlQ:Zai xs=.ret (some (.list xs)):=rfl
noncomputable def xsm (z:PyData):Tr (Option PyData):=.ret (some z)
noncomputable def Zah (f:List PyData->Option PyData) (x:PyData):Tr (Option PyData):=(bn f [x]).bind xsm
theorem Zl4 {f:List PyData->Option PyData}:lh f xe ρ=cE (xe ρ) (Zah f):=rfl
theorem ZlP {f:List PyData->Option PyData}:Zah f x=(bn f [x]).bind xsm:=rfl
theorem ZlM:xsm x=.ret (some x):=rfl
noncomputable def gK (g:yZ) (el:List Sl->Tr (Option PyData)) (τ:zd) (x:PyData):Tr (Option PyData):=(Tr.of (g x τ)).bind el
noncomputable def rh (n:Nat) (ix:List Nat) (g:yZ) (el:List Sl->Tr (Option PyData)) (ρ:zd) (xs:y6):Tr (Option y6):=if small xs.length=true then iJ (gK g el (blk n ix ρ)) xs else .fail
theorem Zl6 {ix:List Nat} {g:yZ}:jZ is n ix g xe ρ=(is ρ).bind (rh n ix g xe ρ):=rfl
theorem ZlS {ix:List Nat} {g:yZ} (h:small xs.length=true):rh n ix g xe ρ xs=iJ (gK g xe (blk n ix ρ)) xs:=by unfold rh; rw [if_pos h]
theorem ZlR {τ:zd} {g:yZ}:gK g xe τ x=(Tr.of (g x τ)).bind xe:=rfl
noncomputable def rf (x y:PyData):Tr (Option PyData):=.ret (some (.tuple [x,y]))
noncomputable def Zab (xe:List Sl->Tr (Option PyData)) (ρ:zd) (x:PyData):Tr (Option PyData):=cE (xe ρ) (rf x)
theorem ZlY {xe2:List Sl->Tr (Option PyData)}:rn xe xe2 ρ=cE (xe ρ) (Zab xe2 ρ):=rfl
theorem ZlG:Zab xe ρ x=cE (xe ρ) (rf x):=rfl
theorem ZlF:rf x y=.ret (some (.tuple [x,y])):=rfl
theorem Zpf {f:Addr}:qD f as ρ=(as ρ).bind (iZ (.fn f)):=rfl
noncomputable def kH:Nat->List Sl->Tr Addr
 | 0,.fn a::_=>.ret a
 | k+1,_::ρ=>kH k ρ
 | _,_=>.fail
theorem Zon {f:Addr}:kH 0 (.fn f::ρ)=.ret f:=rfl
theorem Zom:kH (k+1) (sl::ρ)=kH k ρ:=rfl
noncomputable def vc (as:List Sl->Tr zd) (ρ:zd) (f:Addr):Tr zd:=(as ρ).bind (iZ (.fn f))
theorem Zpc:nn k as ρ=(kH k ρ).bind (vc as ρ):=by
 have key:∀ (k:Nat) (σ:zd),(match σ[k]? with | some (Sl.fn f)=>(as ρ).bind λxs=>Tr.ret (Sl.fn f::xs) | _=>Tr.fail)=(kH k σ).bind (vc as ρ):=by
  intro k
  induction k with
  | zero =>
   intro σ
   cases σ with
   | nil=>rfl
   | cons s r=>cases s <;> rfl
  | succ k ih =>
   intro σ
   cases σ with
   | nil=>rfl
   | cons s r=>exact ih r
 exact key k ρ
theorem Zpb {f:Addr}:vc as ρ f=(as ρ).bind (iZ (.fn f)):=rfl
noncomputable def ZdL (ρ:zd) (x:PyData):Tr Ou:=.ret (.next ρ)
theorem ZoA:qJ i ρ=(i ρ).bind (ZdL ρ):=rfl
theorem Zoz:ZdL ρ x=.ret (.next ρ):=rfl
end L2
namespace L2
open PySem.NumText PySem.W.KIN
theorem Zjr (c:Nat):(⟨#[c]⟩:Str).cps.toList=[c]:=rfl
theorem tL:("-":Str)=⟨#[45]⟩:=by trivial
theorem tz:("":Str)=⟨#[]⟩:=by trivial
theorem re:("0":Str)=⟨#[48]⟩:=by trivial
theorem Zj8:("-0":Str)=⟨#[45,48]⟩:=by trivial
theorem ZlC:("0123456789":Str)=⟨#[48,49,50,51,52,53,54,55,56,57]⟩:=by trivial
theorem io:(" ":Str)=⟨#[32]⟩:=by trivial
theorem ZqO:(",":Str)=⟨#[44]⟩:=by trivial
theorem fe:("/":Str)=⟨#[47]⟩:=by trivial
theorem eX:("@":Str)=⟨#[64]⟩:=by trivial
theorem iC:("\n":Str)=⟨#[10]⟩:=by trivial
theorem ZhX (w:Str):(Txt.removeprefix w "-").cps.toList=figs w.cps.toList:=by
 rw [tL,StrLaws.removeprefix_eq]
 have h1:=StrLaws.subAt_one w 45 0
 have e:(⟨#[45]⟩:Str).length=1:=rfl
 have hl:w.length=w.cps.toList.length:=by simp [Str.length]
 unfold figs
 by_cases hm:w.cps.toList.head?=some 45
 ·have hm':w.cps.toList[0]?=some 45:=by rw [<- List.head?_eq_getElem?]; exact hm
  obtain ⟨h2,h3⟩:=h1.mpr hm'
  rw [decide_eq_true h2,h3,yR,if_pos rfl,if_pos hm]
  show (w.cps.toList.drop 1).take (w.length - 1)=_
  rw [hl,x8 (by simp)]
  exact List.drop_one
 ·rw [if_neg hm,if_neg]
  intro hz
  rw [vQ] at hz
  exact hm (by rw [List.head?_eq_getElem?]; exact h1.mp ⟨of_decide_eq_true hz.1,hz.2⟩)
theorem Zc3 (c:Nat):iP "0123456789" ⟨#[c]⟩=decide (48<=c/\c<=57):=by
 unfold iP
 rw [StrLaws.found_one,ZlC]
 by_cases h:48<=c/\c<=57
 ·rw [decide_eq_true h]
  obtain ⟨h1,h2⟩:=h
  refine decide_eq_true ?_
  show c∈[48,49,50,51,52,53,54,55,56,57]
  simp only [vD,wa,or_false]
  omega
 ·rw [decide_eq_false h]
  refine decide_eq_false ?_
  show ¬ c∈[48,49,50,51,52,53,54,55,56,57]
  simp only [vD,wa,or_false]
  omega
theorem Zbq (L:List Nat) (a:Nat):∀ n,a+n<=L.length->((List.range n).map (a+·)).filterMap (L[·]?)=(L.drop a).take n
 | 0,_=>by simp
 | n+1,h=>by
  rw [yB,wk,List.filterMap_append,Zbq L a n (by omega),List.take_add_one]
  congr 1
  rw [List.getElem?_drop]
  have:L[a+n]?=some L[a+n]:=by simp
  simp only [vG,wR,this]
  simp [this]
theorem Za1 {x:Str} {l u:Option Int} {a b:Nat} (h:Builtin.Str.strSliceIndices l u 1 x.length=sliceRange a b 1) (hb:b<=x.length) (hab:a<=b):(Txt.slice x l u).cps.toList=(x.cps.toList.drop a).take (b - a):=by
 have hl:x.length=x.cps.toList.length:=by simp [Str.length]
 unfold Txt.slice
 rw [h,sliceRange_one]
 have e:=Zbq x.cps.toList a (b - a) (by omega)
 have e2:((List.range (b - a)).map (a+·)).filterMap (x.cps[·]?)=(x.cps.toList.drop a).take (b - a):=by
  rw [<- e]
  simp
 by_cases hc:((1:Int) == 1 && ((List.range (b - a)).map (a+·)).length == x.length)=true
 ·rw [if_pos hc]
  have:b - a=x.length:=by simpa using hc
  have ha:a=0:=by omega
  subst ha
  rw [yh,x8 (by omega)]
 ·rw [if_neg hc]
  exact e2
theorem ZgZ (w:Str):(Txt.slice w (some 1) none).cps.toList=w.cps.toList.tail:=by
 have hl:w.length=w.cps.toList.length:=by simp [Str.length]
 by_cases h0:w.length=0
 ·have:w.cps.toList=[]:=wP.mp (by omega)
  have h:=x5 w (some 1) none
  have:(Txt.slice w (some 1) none).cps.toList=[]:=wP.mp (by unfold Str.length at h h0; rw [wm]; omega)
  rw [this]
  simp [*]
 ·have e:Builtin.Str.strSliceIndices (some 1) none 1 w.length=sliceRange (1:Nat) (w.length:Nat) 1:=by
   unfold Builtin.Str.strSliceIndices
   simp only [show ¬ ((1:Int) < 0) by decide,if_false,show (1:Int) > 0 by decide,if_true]
   congr 1
   omega
  rw [Za1 e (vF _) (by omega),x8 (by rw [xD,<- hl]; omega),List.drop_one]
theorem ZgX (w:Str):(Txt.slice w none (some 1)).cps.toList=w.cps.toList.take 1:=by
 have hl:w.length=w.cps.toList.length:=by simp [Str.length]
 by_cases h0:w.length=0
 ·have:w.cps.toList=[]:=wP.mp (by omega)
  have h:=x5 w none (some 1)
  have:(Txt.slice w none (some 1)).cps.toList=[]:=wP.mp (by unfold Str.length at h h0; rw [wm]; omega)
  rw [this]
  simp [*]
 ·have e:Builtin.Str.strSliceIndices none (some 1) 1 w.length=sliceRange (0:Nat) (1:Nat) 1:=by
   unfold Builtin.Str.strSliceIndices
   simp only [show ¬ ((1:Int) < 0) by decide,if_false,show (1:Int) > 0 by decide,if_true]
   congr 1
   omega
  rw [Za1 e (by omega) (by decide)]
  rfl
theorem qk (i:Int):(ay i).length=(cw i).length:=by unfold ay; simp [Str.length]
theorem hU (i:Int):(ay i).cps.toList=cw i:=by unfold ay; simp
theorem kM (r:Nat):cw (r:Int)=digs r:=by
 unfold cw
 rw [if_neg (by omega)]
 rfl
theorem Zfq (r:Nat) (h:r < 10 ^ 64):(Txt.zfill (ay r) 64).cps.toList=padk 64 r:=by
 have hl:(ay (r:Int)).length=(digs r).length:=by rw [qk,kM]
 have hd:(digs r).length<=64:=jH 63 r h
 unfold Txt.zfill padk
 by_cases hc:(64:Int)<=((ay (r:Int)).length:Int)
 ·rw [if_pos hc,hU,kM]
  rw [hl] at hc
  have:64 - (digs r).length=0:=by omega
  rw [this]
  rfl
 ·rw [if_neg hc,hl]
  have e:∀ n,zfilled (ay (r:Int)) n=Builtin.Str.padded (ay (r:Int)) n 0 48:=by
   intro n
   unfold zfilled
   have h0:∃ c,(ay (r:Int)).cps[0]?=some c/\48<=c:=by
    rw [<- Array.getElem?_toList,hU,kM]
    have hne:=uF r
    have ha:=qg r
    cases hd:digs r with
    | nil=>exact absurd hd hne
    | cons c l=>exact ⟨c,rfl,(ha c (by rw [hd]; simp)).1⟩
   obtain ⟨c,h1,h2⟩:=h0
   rw [h1]
   split
   ·rename_i hz; have:=vT hz; omega
   ·rename_i hz; have:=vT hz; omega
   ·rfl
  rw [e]
  unfold Builtin.Str.padded
  simp only [wJ,Array.toList_replicate,hU,kM,List.replicate_zero,v7]
  rfl
end L2
namespace L2
open PySem.NumText PySem.W.KIN Tw
theorem tjoin (a:Str) (ps:za):Txt.join a ps=Str.join a ps:=StrLaws.glued_eq_join a ps
theorem iL (l:za):(l.map λw=>w.length+1).sum=(l.map (·.length)).sum+l.length:=by
 induction l with
 | nil=>rfl
 | cons w l ih=>rw [vG,wo,ih,vG,wo,vN]; omega
theorem lu (c:Nat) (t:Str):((Txt.split t ⟨#[c]⟩).map λw=>w.length+1).sum=t.length+1:=by
 have h1:=xf t ⟨#[c]⟩
 have h2:=size_glued ⟨#[c]⟩ (Txt.split t ⟨#[c]⟩)
 rw [StrLaws.glued_eq_join,h1] at h2
 have h3:=split_pos t ⟨#[c]⟩
 rw [iL]
 have e:(⟨#[c]⟩:Str).length=1:=rfl
 rw [e,Nat.mul_one] at h2
 omega
theorem Zko {l:za} {w:Str} (h:w∈l):w.length+1<=(l.map λw=>w.length+1).sum:=by
 induction l with
 | nil=>cases h
 | cons v l ih =>
  rw [vG,wo]
  rcases vD.mp h with rfl | h
  ·omega
  ·have:=ih h; omega
theorem dQ {c:Nat} {t w:Str} (h:w∈Txt.split t ⟨#[c]⟩):w.length<=t.length:=by
 have:=Zko h
 rw [lu] at this
 omega
theorem fc (c:Nat) (t:Str):(Txt.split t ⟨#[c]⟩).length<=t.length+1:=by
 have h:=lu c t
 rw [iL] at h
 omega
theorem ZaW {c:Nat} {t:Str} (h:t.length<=500000):(⟨#[c]⟩:Str).length<=16/\((Txt.split t ⟨#[c]⟩).map (·.length)).sum+(Txt.split t ⟨#[c]⟩).length<=1048576:=by
 have h:=lu c t
 rw [iL] at h
 exact ⟨by show 1<=16; decide,by omega⟩
noncomputable def bI {α:Type} (f:Str->Option α):List Str->Option (List α)
 | []=>some []
 | x::xs=>(f x).bind λy=>(bI f xs).map (y::·)
theorem fw {α:Type} {f:Str->Option α} {x:Str} {l:za}:bI f (x::l)=(f x).bind λy=>(bI f l).map (y::·):=rfl
section
variable {α:Type} {f:Str->Option α} {g:α->PyData} {l:za}
theorem eY {x:Str} {as:List α}:bI f (x::l)=some as ↔ ∃ a as',f x=some a/\bI f l=some as'/\as=a::as':=by
 rw [fw]
 cases f x with
 | none=>simp
 | some a =>
  cases bI f l with
  | none=>simp
  | some as'=>simp [eq_comm]
theorem pB {h:PyData->Tr (Option PyData)}:∀ {l:za},(∀ x∈l,h (.str x)=.ret ((f x).map g))->iJ h (l.map PyData.str)=.ret ((bI f l).map λas=>as.map g)
 | [],_=>rfl
 | x::l,hx=>by
  have ih:=pB (l:=l) λy hy=>hx y (vC _ hy)
  rw [vG]
  rw [fw]
  unfold iJ
  rw [hx x (by simp),ih]
  cases f x with
  | none=>rfl
  | some y =>
   show cE (.ret (some (g y))) _=_
   rw [Zdn]
   cases bI f l with
   | none=>rfl
   | some ys=>rfl
theorem pC {h:PyData->Tr PyData}:∀ {l:za} {as:List α},(∀ x∈l,∀ a,f x=some a->h (.str x)=.ret (g a))->bI f l=some as->bH h (l.map PyData.str)=.ret (as.map g)
 | [],as,_,e=>by
  cases (show some ([]:List α)=some as from e)
  rfl
 | x::l,as,hx,e=>by
  obtain ⟨a,as',h1,h2,rfl⟩:=eY.mp e
  rw [vG]
  unfold bH
  rw [hx x (by simp) a h1,pC (λz hz=>hx z (vC _ hz)) h2]
  rfl
theorem tO {h:PyData->Tr PyData}:∀ {l:za} {as:List α},(∀ x∈l,∀ a,f x=some a->h (g a)=.ret (.str x))->bI f l=some as->bH h (as.map g)=.ret (l.map PyData.str)
 | [],as,_,e=>by
  cases (show some ([]:List α)=some as from e)
  rfl
 | x::l,as,hx,e=>by
  obtain ⟨a,as',h1,h2,rfl⟩:=eY.mp e
  rw [vG]
  unfold bH
  rw [hx x (by simp) a h1,tO (λz hz=>hx z (vC _ hz)) h2]
  rfl
theorem tN {h:PyData->Tr PyData} {F:Str->PyData}:∀ {l:za},(∀ x∈l,h (.str x)=.ret (F x))->bH h (l.map PyData.str)=.ret (l.map F)
 | [],_=>rfl
 | x::l,hx=>by
  rw [vG]
  unfold bH
  rw [hx x (by simp),tN λz hz=>hx z (vC _ hz)]
  rfl
theorem nh:∀ {l:za} {as:List α},bI f l=some as->as.length=l.length
 | [],as,e=>by
  cases (show some ([]:List α)=some as from e)
  rfl
 | x::l,as,e=>by
  obtain ⟨a,as',h1,h2,rfl⟩:=eY.mp e
  rw [vN,vN,nh h2]
noncomputable def ck (g:α->PyData) (o:Option α):PyData:=match o with
 | some a=>g a
 | none=>.none
theorem Zci:∀ {l:za} {as:List α},bI f l=some as->l.map (λx=>ck g (f x))=as.map g
 | [],as,e=>by
  cases (show some ([]:List α)=some as from e)
  rfl
 | x::l,as,e=>by
  obtain ⟨a,as',h1,h2,rfl⟩:=eY.mp e
  rw [vG,vG,Zci h2,h1]
  rfl
theorem Zi7 {p:PyData->Bool} (hp:p .none=true) (hg:∀ x∈l,∀ a,f x=some a->p (g a)=false):(l.map (λx=>ck g (f x))).any p=(bI f l).isNone:=by
 induction l with
 | nil=>rfl
 | cons x l ih =>
  have ih:=ih λy hy=>hg y (vC _ hy)
  rw [vG,xG,ih]
  rw [fw]
  cases hx:f x with
  | none=>show (p .none || _)=true; rw [hp]; rfl
  | some a =>
   show (p (g a) || _)=_
   rw [hg x (by simp) a hx]
   cases bI f l <;> rfl
end
theorem Zbj {α:Type} {f:Str->Option α} {g:α->PyData} {k m:Nat} (hf:∀ w a,f w=some a->Rp (g a) k (m * (w.length+1))):∀ {l:za} {as:List α},bI f l=some as->PyData.hasDictAll (as.map g)=false/\PyData.showableAll (as.map g)=true/\PyData.depthAll (as.map g)<=k/\((PyData.shownAll (as.map g)).map (·.length)).sum<=m * (l.map λw=>w.length+1).sum/\(PyData.shownAll (as.map g)).length=l.length
 | [],as,e=>by
  cases (show some ([]:List α)=some as from e)
  exact ⟨rfl,rfl,wN _,by simp [PyData.shownAll],rfl⟩
 | x::l,as,e=>by
  obtain ⟨a,as',h1,h2,rfl⟩:=eY.mp e
  obtain ⟨i1,i2,i3,i4,i5⟩:=Zbj hf h2
  have hx:=hf x a h1
  rw [vG]
  refine ⟨?_,?_,?_,?_,?_⟩
  ·rw [PyData.hasDictAll,hx.hd,i1]; rfl
  ·rw [PyData.showableAll,hx.sh,i2]; rfl
  ·rw [PyData.depthAll]; have:=hx.dp; omega
  ·rw [PyData.shownAll,vG,wo,vG,wo,Nat.mul_add]; have:=hx.ln; omega
  ·rw [PyData.shownAll,vN,vN,i5]
theorem r8 {α:Type} {f:Str->Option α} {g:α->PyData} {k m c:Nat} {t:Str} {as:List α} (hf:∀ w a,f w=some a->Rp (g a) k (m * (w.length+1))) (h:bI f (Txt.split t ⟨#[c]⟩)=some as):Rp (.tuple (as.map g)) (k+1) ((m+12) * (t.length+1)):=by
 obtain ⟨h1,h2,h3,h4,h5⟩:=Zbj hf h
 rw [lu] at h4
 have h6:=fc c t
 have c3:=tupleText_len_le (PyData.shownAll (as.map g))
 refine ⟨?_,?_,?_,?_⟩
 ·rw [PyData.hasDict,h1]
 ·rw [PyData.showable,h2]
 ·rw [PyData.depth]; omega
 ·rw [PyData.shown,Nat.add_mul]; omega
theorem ZhK {d:PyData} {k n:Nat} (h:Rp d k n):Rp (.list [d]) (k+1) (n+20):=by
 refine oE (ZhM (n:=n) (k:=k) (xs:=[d]) λx hx=>by rw [xt.mp hx]; exact h) (vF _) ?_
 show 1 * n+2 * 1+10<=n+20
 omega
theorem ZhL {d:PyData} {k n:Nat} (h:Rp d k n) (hk:k<=32) (hn:n<=10000000):oG d=true:=by
 unfold oG
 rw [h.hd,h.sh,decide_eq_true (vO h.dp hk),decide_eq_true (vO h.ln (vO hn (by rw [sizeLine_eq]; decide)))]
 rfl
theorem Zdq {d:PyData} {k n:Nat} (h:Rp d k n) (hk:k<=32) (hn:n<=10000000):bn iq [d]=.ret (.str d.shown):=by
 unfold bn iq
 dsimp only
 rw [ZhL h hk hn]
 rfl
noncomputable def bv (w:Str):Option Int:=if b8 w.cps.toList=true then some (eu w.cps.toList) else none
theorem pc {w:Str} {i:Int} (h:bv w=some i):b8 w.cps.toList=true/\i=eu w.cps.toList:=by
 unfold bv at h
 split at h
 ·rename_i hc; exact ⟨hc,(vT h).symm⟩
 ·cases h
theorem mf {w:Str} {i:Int} (h:bv w=some i):ay i=w:=by
 obtain ⟨h1,rfl⟩:=pc h
 apply jj
 rw [hU,Zp4 h1]
theorem Zf1:∀ l:List Nat,AllDigits l->digitsVal l < 10 ^ l.length:=by
 have key:∀ (l:List Nat) (a:Nat),AllDigits l->l.foldl (λacc c=>acc * 10+(c - 48)) a < (a+1) * 10 ^ l.length:=by
  intro l
  induction l with
  | nil=>intro a _; show a < (a+1) * 1; omega
  | cons c l ih =>
   intro a h
   have hc:=h.head
   have h1:=ih (a * 10+(c - 48)) h.tail
   rw [xJ,vN,x9,ya (10 ^ l.length) 10,<- Nat.mul_assoc]
   refine vE h1 (Nat.mul_le_mul_right _ (by omega))
 intro l h
 have:=key l 0 h
 rw [yr,Nat.one_mul] at this
 exact this
theorem me {w:Str} {i:Int} (h:bv w=some i):i.natAbs < 10 ^ 400:=by
 obtain ⟨h1,rfl⟩:=pc h
 obtain ⟨h2,h3,h4,h5⟩:=p4 h1
 have h6:=Zf1 _ h4
 have h7:(eu w.cps.toList).natAbs=digitsVal (figs w.cps.toList):=by
  unfold eu figs
  split <;> omega
 rw [h7]
 exact vE h6 (xF (by decide) h3)
theorem Zi6:10 ^ 400 < 2 ^ 1900:=by trivial
theorem tu {w:Str} {i:Int} (h:bv w=some i):nb 1900 i:=yb (me h) Zi6
theorem tw {i:Int} (h:i.natAbs < 10 ^ 400):bv (ay i)=some i:=by
 unfold bv
 rw [hU,if_pos (Zp3 h),Zp2]
theorem Zcq {w:Str} {i:Int} (h:bv w=some i):Rp (.int i) 0 (1 * (w.length+1)):=by
 have h0:=ZhN (tu h)
 refine ⟨h0.hd,h0.sh,h0.dp,?_⟩
 have e:(PyData.int i).shown=Str.ofString (toString i):=by rw [PyData.shown]
 rw [e,Zd1,mf h]
 omega
end L2
namespace Tw
open L2
def ab (C n:Int):Prop:=-C<=n/\n<=C
theorem nk {C D m n:Int} (h:ab C m) (h':ab D n):ab (C+D) (m+n):=⟨by have:=h.1; have:=h'.1; omega,by have:=h.2; have:=h'.2; omega⟩
theorem ZrU {C n:Int} (h:ab C n):ab C (-n):=⟨by have:=h.2; omega,by have:=h.1; omega⟩
theorem ZrT {C D m n:Int} (h:ab C m) (h':ab D n):ab (C+D) (m - n):=by rw [Int.sub_eq_add_neg]; exact nk h (ZrU h')
theorem va {C D n:Int} (h:ab C n) (hc:C<=D):ab D n:=⟨by have:=h.1; omega,by have:=h.2; omega⟩
theorem nj {c C n:Int} (hc:0<=c) (h:ab C n):ab (c * C) (c * n):=by
 refine ⟨?_,wW h.2 hc⟩
 have:=wW h.1 hc
 rw [Int.mul_neg] at this
 exact this
theorem kW {k:Nat} {n:Int} (h:nb k n):ab (2 ^ k:Nat) n:=by
 unfold nb at h
 exact ⟨by omega,by omega⟩
theorem ZjK {k:Nat} {C n:Int} (h:ab C n) (hc:C < (2 ^ k:Nat)):nb k n:=by
 unfold nb
 have:=h.1; have:=h.2
 omega
theorem Zam {F:Int->Int} {C:Int} (n:Nat):∀ (l:y8) (k:Nat),(∀ w∈l,0<=w)->(∀ j:Nat,j < n->ab C (F j))->k+l.length<=n->ab (l.sum * C) (ws F k l)
 | [],k,_,_,_=>by
  show ab (0 * C) 0
  rw [Int.zero_mul]
  exact ⟨by decide,by decide⟩
 | w::l,k,hw,hF,hk=>by
  have h1:=nj (hw w (by simp)) (hF k (by simp at hk; omega))
  have h2:=Zam n l (k+1) (λv hv=>hw v (vC _ hv)) hF (by simp at hk; omega)
  rw [wo,Int.add_mul]
  exact nk h1 h2
theorem ZeE {s:Shp} (h:s.Ok):∀ {fs:List y8},(∀ l∈fs,DayB l)->∀ x,-s.depth<=x->x<=s.top->ab ((s.bk fs).2 * (((fs.length:Int)+1) * (2 ^ 102:Nat))) ((s.bk fs).1 x)
 | [],_,x,h1,h2=>by
  have hb:=kW (Zdj h x h1 h2)
  show ab (1 * (((0:Nat):Int)+1) * (2 ^ 102:Nat)) (s.fin x)
  exact va hb (by omega)
 | day::rest,hf,x,h1,h2=>by
  have ih:=ZeE h (fs:=rest) λl hl=>hf l (vC _ hl)
  have hd:=hf day (by simp)
  have hsc:=m9 (s:=s) (fs:=rest) λl hl=>hf l (vC _ hl)
  have hS:=hd.pos
  have:=h.t0
  have:=h.d0
  have:=h.td
  have hlen:=hd.len
  generalize hA:(s.bk rest).1=A at *
  generalize hs:(s.bk rest).2=sc at *
  generalize hB:((rest.length:Int)+1) * (2 ^ 102:Nat)=B at ih
  have hq:0 < sc * day.sum:=Int.mul_pos hsc hS
  -- a level's sum
  have k1:∀ y,-s.depth<=y->y<=s.top->ab (sc * day.sum * ((2 ^ 65:Nat)+((2 ^ 100:Nat)+B))) (s.sm day A sc y):=by
   intro y y1 y2
   have hy:nb 20 y:=cB (by show -1048576 < _; omega) (by show _ < 1048576; omega)
   have a1:=nj (xn hq) (kW (cu h.piece hy))
   have a2:=Zam (F:=λf=>sc * s.day y f+A (s.nx y f)) (C:=sc * ((2 ^ 100:Nat)+B)) 16 day 0 hd.w0 (λj hj=>by
    have hf:nb 40 (j:Int):=cB (by show -1099511627776 < _; omega) (by show _ < 1099511627776; omega)
    have b1:=nj (xn hsc) (kW (ql h hy hf))
    have b2:=ih _ (tm s y j) (tj h y2 (show (0:Int)<=j by omega))
    rw [yE]
    exact nk b1 b2) (by omega)
   unfold Shp.sm Shp.wg
   rw [yE,yO (sc * day.sum)]
   refine nk a1 ?_
   rw [Int.mul_comm sc day.sum,yO]
   exact a2
  -- the least
  have e0:s.bk (day::rest)=(cst (s.sm day A sc) s.top (sc * day.sum * s.start) (sc * day.sum * s.piece),sc * day.sum):=by
   rw [<- hA,<- hs]
   rfl
  rw [e0]
  show ab (sc * day.sum * ((((rest.length+1:Nat):Int)+1) * (2 ^ 102:Nat))) (cst (s.sm day A sc) s.top (sc * day.sum * s.start) (sc * day.sum * s.piece) x)
  have e:(((rest.length+1:Nat):Int)+1) * (2 ^ 102:Nat)=B+(2 ^ 102:Nat):=by
   rw [<- hB]
   omega
  rw [e]
  have hx:nb 20 x:=cB (by show -1048576 < _; omega) (by show _ < 1048576; omega)
  have a3:=nj (xn hq) (kW (cu h.piece hx))
  have a4:=nj (xn hq) (kW h.start)
  unfold cst
  obtain ⟨p1,p2,p3⟩:=sU (g:=s.sm day A sc) (K:=sc * day.sum * s.start) h2
  have k2:ab (sc * day.sum * ((2 ^ 45:Nat)+((2 ^ 65:Nat)+((2 ^ 100:Nat)+B)))) (pck (s.sm day A sc) s.top (sc * day.sum * s.start) x).1:=by
   rcases p3 with ⟨e1,e2⟩ | ⟨e1,e2,e3⟩
   ·rw [e2]
    exact va (k1 x h1 h2) (wW (by omega) (xn hq))
   ·rw [e2,yE]
    exact nk a4 (k1 _ (by omega) p2)
  have a5:=ZrT k2 a3
  rw [<- yE,<- yO (sc * day.sum)] at a5
  exact va a5 (wW (by omega) (xn hq))
theorem ZeC {s:Shp}:∀ {fs:List y8},(∀ l∈fs,DayB l)->nb (1+46 * fs.length) (s.bk fs).2
 | [],_=>cB (by show -(2 ^ 1:Nat) < (1:Int); omega) (by show (1:Int) < (2 ^ 1:Nat); omega)
 | day::rest,h=>by
  have:=cu (ZeC (s:=s) (fs:=rest) λl hl=>h l (vC _ hl)) (il (h day (by simp)))
  exact bK this (by rw [vN]; omega)
theorem Zry {s:Shp} (h:s.Ok) {fs:List y8} (hf:∀ l∈fs,DayB l) (hl:fs.length<=6):(∀ x,-s.depth<=x->x<=s.top->nb 400 ((s.bk fs).1 x))/\nb 400 (s.bk fs).2:=by
 have h2:=ZeC (s:=s) hf
 refine ⟨λx h1 h3=>?_,bK h2 (by omega)⟩
 have h4:=ZeE h hf x h1 h3
 have hs:=m9 (s:=s) hf
 have:nb (277+105) ((s.bk fs).2 * (((fs.length:Int)+1) * (2 ^ 102:Nat))):=cu (bK h2 (by omega)) (cB (by omega) (by omega))
 refine ZjK h4 ?_
 have:=(kW this).2
 omega
end Tw
namespace L2
noncomputable def aY (cn:Addr×y8):Pk where
 is:=λo G m=>∃ (k:Nat) (left:Int),o=.dK (bR cn.1 k left)/\k<=m/\0<=left/\G cn.1=some (.lst (cn.2.map V.int))/\cn.2.length<=63
 mono:=λs ⟨k,left,e,h1,h2,h3,h4⟩=>⟨k,left,e,h1,h2,s _ _ h3,h4⟩
theorem Zir {ι:Type} {X:Cx} {e:List Stmt} {t:ι->TS} (h:∀ i,PSs X e (t i)):PSs X e (λD σ H=>∃ i,t i D σ H):=λpins s σ H D I z=>by
 obtain ⟨i,z⟩:=z
 exact h i pins s σ H D I z
noncomputable def pR:yX:=λas=>match as with
 | [.pen,.d (.int most)]=>.draw most λr=>.ret (.d (.int r))
 | _=>.fail
theorem ZdN {as:zd} {m:Nat} {Z:Nat->Re->Prop} (h:(pR as).ok m Z):∃ most,as=[.pen,.d (.int most)]:=by
 unfold pR at h
 split at h
 ·exact ⟨_,rfl⟩
 ·exact h.elim
theorem ZpU {cn:Addr×y8} {P:Program} {w:World} {K:yS} {mg:zc} {base:Heap} {x:Str} {k:Nat} {ps:za} (hp:ps.length=2) (C:Callee P w K mg base x k ps ZaY):ACal (aY cn) P w K mg base x k ps pR:=by
 refine ⟨?_,λas m Z h=>by obtain ⟨most,rfl⟩:=ZdN h; exact hp.symm⟩
 obtain ⟨f,fd,F,hm,hk,hb⟩:=C.ex
 refine ⟨f,fd,F.imp λvs H Q E h=>?_,hm,hk,hb⟩
 obtain ⟨hv,pa,m,G,as,wd,ar,z⟩:=h
 obtain ⟨most,rfl⟩:=ZdN z
 obtain ⟨h1,h2,h3,h4⟩:=z
 cases ar with
 | cons a1 ar =>
  cases ar with
  | cons a2 ar =>
   cases ar
   cases a1
   cases a2 with
   | d d2 =>
    cases d2
    obtain ⟨c,ns⟩:=cn
    obtain ⟨o,ho,kk,left,rfl,q1,q2,q3,q4⟩:=wd.pen
    replace q3:G c=some (.lst (ns.map V.int)):=q3
    refine ⟨pa,c,ns,m,most,rfl,⟨⟨kk,left,ho,q1,q2⟩,wd.sub _ _ q3,q4⟩,by omega,h2,h3,λr H' r0 r1 P' K'=>?_⟩
    refine h4 r r0 r1 (.int r) G H' ⟨λ_ _ q=>q,λ_ _ q=>.inl q,λb o e n=>K' b o e n⟩ ⟨λb o e=>K' b o (wd.sub b o e) (λz=>by subst z; rw [wd.gpa] at e; cases e),wd.gpa,?_⟩ (.int r)
    obtain ⟨⟨k2,l2,e2,g1,g2⟩,_,_⟩:=P'
    exact ⟨_,e2,k2,l2,rfl,g1,g2,q3,q4⟩
noncomputable def ZaX:yS->Sp:=λK vs H Q _=>∃ (a:Addr) (ns:y8),vs=[.ref a]/\SqL K H a (ns.map V.int)/\ns.length<=63/\∀ H',Q (.bl true) H'
theorem Zkw {D:Ends} {p c:Addr} {ns:y8} {H:Hp} {σ:St} {s:yW} {n:Nat} (P:Pen H p c ns 0) (hσ:σ.length=n+2) (h1:σ[1]?=some (some (.ref p))) (hrt:∀ H',D.rt (.bl true) H')
  (h:(s (.un::.pen::List.replicate n .un)).ok 0 λ_ o=>o=.ret (.d (.bool true))):∃ cn,bx (aY cn) s D σ H:=by
 obtain ⟨⟨k,l,e,hk,hl⟩,hc,hn⟩:=P
 have npc:p≠c:=tF e hc (by intro z; cases z)
 have key:∀ (i:Nat) (sl:Sl),(Sl.un::.pen::List.replicate n .un)[i]?=some sl->sl=.un\/(i=1/\sl=.pen):=λi sl hi=>by
  match i with
  | 0=>simp at hi; exact .inl hi.symm
  | 1=>simp at hi; exact .inr ⟨rfl,hi.symm⟩
  | i+2 =>
   simp [wf] at hi
   exact .inl hi.2.symm
 refine ⟨(c,ns),p,λb=>if b=c then H c else none,H,0,_,λb=>if b=c then H c else none,⟨⟨λb o hb=>?_,if_neg npc,?_⟩,.refl,⟨_,e⟩,λi sl hi=>?_,by simp [hσ],λi j xs ys _ hi _=>?_,λi j xs ys _ hi _=>by rcases key i _ hi with z | ⟨_,z⟩ <;> cases z⟩,Tr.ok_mono h λm o ho=>?_⟩
 ·by_cases hbc:b=c
  ·subst hbc; simpa using hb
  ·simp [hbc] at hb
 ·exact ⟨_,e,k,l,rfl,hk,hl,by simp [hc],hn⟩
 ·have hlt:i < σ.length:=by
   have:=(vH.mp hi).1
   simp at this
   omega
  rcases key i sl hi with rfl | ⟨rfl,rfl⟩
  ·exact ⟨σ[i],by simp [hlt],.un⟩
  ·exact ⟨_,h1,.pen⟩
 ·rcases key i _ hi with z | ⟨_,z⟩ <;> cases z
 ·subst ho
  intro v G H' s' w' d
  cases (show Dn G v (.bool true) from d)
  exact hrt H'
end L2
namespace My
open L2
noncomputable def top (i:Nat):Stmt:=PySem.Challenge.pw_twomarks_k52_tables_as_texts.main.body.getD i (.Pass ⟨0,0,0,0⟩)
noncomputable abbrev oa:Stmt:=top 11
abbrev Zr9:za:=["thing"]
theorem Zhs:FnScope Zr9 ["thing"] (aI oa):=by trivial
noncomputable abbrev om:Stmt:=top 13
abbrev Zsd:za:=["one","other"]
theorem rV:FnScope Zsd ["one","other"] (aI om):=by trivial
noncomputable abbrev og:Stmt:=top 14
abbrev Zsa:za:=["thing","top","bottom"]
theorem rT:FnScope Zsa ["thing"] (aI og):=by trivial
noncomputable abbrev n5:Stmt:=top 15
abbrev Zr4:za:=["top","bottom","divisor"]
theorem rS:FnScope Zr4 ["top","bottom"] (aI n5):=by trivial
noncomputable abbrev nX:Stmt:=top 26
abbrev Zr0:za:=["shop"]
theorem Zhp:FnScope Zr0 ["shop"] (aI nX):=by trivial
noncomputable abbrev n9:Stmt:=top 27
abbrev Zr7:za:=["shop","level","fall"]
theorem Zhr:FnScope Zr7 ["shop","level","fall"] (aI n9):=by trivial
noncomputable abbrev oj:Stmt:=top 28
abbrev Zsc:za:=["shop","level","fall","stock","sold_never","held"]
theorem nS:FnScope Zsc ["shop","level","fall"] (aI oj):=by trivial
noncomputable abbrev oh:Stmt:=top 29
abbrev Zsb:za:=["shop","stock"]
theorem Zhu:FnScope Zsb ["shop","stock"] (aI oh):=by trivial
noncomputable abbrev oq:Stmt:=top 33
abbrev Zsg:za:=["thing"]
theorem Zbf:FnScope Zsg ["thing"] (aI oq):=by trivial
noncomputable abbrev lO:Stmt:=top 34
abbrev qV:za:=["word","figures"]
theorem Zbe:FnScope qV ["word"] (aI lO):=by trivial
noncomputable abbrev n6:Stmt:=top 35
abbrev Zr5:za:=["word"]
theorem Zbc:FnScope Zr5 ["word"] (aI n6):=by trivial
noncomputable abbrev kj:Stmt:=top 36
abbrev jO:za:=["text","one"]
theorem nQ:FnScope jO ["text"] (aI kj):=by trivial
noncomputable abbrev n8:Stmt:=top 37
abbrev Zr6:za:=["word","parts"]
theorem nR:FnScope Zr6 ["word"] (aI n8):=by trivial
noncomputable abbrev ki:Stmt:=top 38
abbrev f9:za:=["text"]
theorem Zbb:FnScope f9 ["text"] (aI ki):=by trivial
noncomputable abbrev lP:Stmt:=top 40
abbrev qW:za:=["shop"]
theorem Zht:FnScope qW ["shop"] (aI lP):=by trivial
noncomputable abbrev nW:Stmt:=top 41
abbrev ZrZ:za:=["shop","day","level","ahead","scale","total","fall","weight","following"]
theorem kg:FnScope ZrZ ["shop","day","level","ahead","scale"] (aI nW):=by trivial
noncomputable abbrev lM:Stmt:=top 43
abbrev qU:za:=["shop","day","ahead","scale","own_scale"]
theorem Zbd:FnScope qU ["shop","day","ahead","scale"] (aI lM):=by trivial
noncomputable abbrev on:Stmt:=top 44
abbrev Zse:za:=["shop","low","by_level","scale","picks","best","stock","own","cost","level"]
theorem ip:FnScope Zse ["shop","low","by_level","scale"] (aI on):=by trivial
noncomputable abbrev oo:Stmt:=top 45
abbrev Zsf:za:=["shop","by_level","scale"]
theorem Zhv:FnScope Zsf ["shop","by_level","scale"] (aI oo):=by trivial
noncomputable abbrev kl:Stmt:=top 46
abbrev ic:za:=["shop","falls","days","ahead","scale","day","by_level","picks"]
theorem gP:FnScope ic ["shop","falls"] (aI kl):=by trivial
noncomputable abbrev nZ:Stmt:=top 50
abbrev Zr2:za:=["number","parts","rest","part"]
theorem ly:FnScope Zr2 ["number"] (aI nZ):=by trivial
noncomputable abbrev nY:Stmt:=top 51
abbrev Zr1:za:=["one","top","bottom"]
theorem rQ:FnScope Zr1 ["one"] (aI nY):=by trivial
noncomputable abbrev n0:Stmt:=top 52
abbrev Zr3:za:=["entry","cost","level"]
theorem rR:FnScope Zr3 ["entry"] (aI n0):=by trivial
noncomputable abbrev lL:Stmt:=top 53
abbrev lb:za:=["table"]
theorem Zhq:FnScope lb ["table"] (aI lL):=by trivial
noncomputable abbrev ou:Stmt:=top 55
abbrev Zsi:za:=["_law_script"]
theorem Zhx:FnScope Zsi ["_law_script"] (aI ou):=by trivial
noncomputable abbrev oA:Stmt:=top 56
abbrev Zsm:za:=["_law_pen_here","_law_most","_law_cells","_law_at","_law_cell","_law_prime","_law_mixed","_law_found"]
theorem gQ:FnScope Zsm ["_law_pen_here","_law_most"] (aI oA):=by trivial
noncomputable abbrev ow:Stmt:=top 57
abbrev Zsj:za:=["_law_pen_here","_law_way","_law_number_here"]
theorem rX:FnScope Zsj ["_law_pen_here"] (aI ow):=by trivial
noncomputable abbrev oB:Stmt:=top 58
abbrev Zsn:za:=["_law_one","_law_other"]
theorem nV:FnScope Zsn ["_law_one","_law_other"] (aI oB):=by trivial
noncomputable abbrev ox:Stmt:=top 59
abbrev Zsk:za:=["_law_top","_law_bottom","_law_both"]
theorem Zbg:FnScope Zsk ["_law_top","_law_bottom"] (aI ox):=by trivial
noncomputable abbrev lR:Stmt:=top 60
abbrev qY:za:=["_law_word","_law_figures"]
theorem rW:FnScope qY ["_law_word"] (aI lR):=by trivial
noncomputable abbrev oy:Stmt:=top 61
abbrev Zfj:za:=["_law_read","_law_text","_law_caught","_law_found","e"]
theorem lz:FnScope Zfj ["_law_read","_law_text"] (aI oy):=by trivial
noncomputable abbrev ot:Stmt:=top 62
abbrev Zsh:za:=["_law_read","_law_text","_law_due"]
theorem Zhw:FnScope Zsh ["_law_read","_law_text","_law_due"] (aI ot):=by trivial
noncomputable abbrev oD:Stmt:=top 63
abbrev Zso:za:=["_law_pen_here","_law_text","_law_way","_law_at","_law_signs","_law_own","_law_sign","_law_between","_law_words","_law_one","_law_odd"]
theorem fI:FnScope Zso ["_law_pen_here","_law_text"] (aI oD):=by trivial
noncomputable abbrev lS:Stmt:=top 64
abbrev qZ:za:=["_law_word","_law_parts","_law_numbers"]
theorem rY:FnScope qZ ["_law_word"] (aI lS):=by trivial
noncomputable abbrev lQ:Stmt:=top 65
abbrev qX:za:=["_law_text","_law_found","_law_line","_law_day"]
theorem nU:FnScope qX ["_law_text"] (aI lQ):=by trivial
noncomputable abbrev oz:Stmt:=top 66
abbrev Zsl:za:=["_law_pen_here","_law_top","_law_bottom"]
theorem rZ:FnScope Zsl ["_law_pen_here"] (aI oz):=by trivial
noncomputable abbrev km:Stmt:=top 67
abbrev jP:za:=["_law_pen_here","_law_turn","_law_most","_law_lines","_law_k","_law_text","_law_by","_law_some","_law_wide"]
theorem gk:FnScope jP ["_law_pen_here","_law_turn"] (aI km):=by trivial
noncomputable abbrev jn:Stmt:=top 68
abbrev gb:za:=["_law_pen_here","_law_shop","_law_falls","_law_told","_law_lines","_law_day","_law_text"]
theorem jm:FnScope gb ["_law_pen_here"] (aI jn):=by trivial
noncomputable abbrev lN:Stmt:=top 69
abbrev Zr8:za:=["_law_script","_law_pen_here","_law_turn","_law_text","_law_due","_law_odd"]
theorem kh:FnScope Zr8 ["_law_script"] (aI lN):=by trivial
structure Txt (K:yS) (mg:zc):Prop where
 eM:mg "len"=none
 iG:mg "abs"=none
 ZjM:mg "max"=none
 tH:mg "min"=none
 ph:mg "repr"=none
 mh:mg "int"=none
 ZjN:mg "list"=none
 eL:mg "tuple"=none
 eT:mg "str"=none
 ZjQ:mg "bool"=none
 iE:mg "range"=none
 iF:mg "isinstance"=none
 Zcx:mg "sum"=none
 ZjR:mg "all"=none
 ZjO:mg "enumerate"=none
 ZjS:mg "ValueError"=none
 Zcy:mg "reversed"=none
 ZjP:mg "divmod"=none
 uq:∃ t,mg "TOP"=some (.int 0 t)
 p8:∃ t,mg "DEPTH"=some (.int 1 t)
 Zlg:∃ t,mg "START"=some (.int 2 t)
 Zda:∃ t,mg "PIECE"=some (.int 3 t)
 Zlm:∃ t,mg "KEEP"=some (.int 4 t)
 Zll:∃ t,mg "LACK"=some (.int 5 t)
 Zlj:∃ t,mg "LOST"=some (.int 6 t)
 Zlo:∃ t,mg "BACK"=some (.int 7 t)
 Zlk:∃ t,mg "LATE"=some (.int 8 t)
 Zli:∃ t,mg "MOST_FIGURES"=some (.int 400 t)
 Zlh:∃ t,mg "PART_FIGURES"=some (.int 64 t)
 Zln:∃ t,mg "FIGURES"=some (.str "0123456789" t)
 Zdb:∃ t,mg "PART"=some (.int 10000000000000000000000000000000000000000000000000000000000000000 t)
 Zqi:Def K mg "is_whole" oa ["thing"]
 Zqp:Def K mg "common_divisor" om ["one","other"]
 Zqj:Def K mg "is_share" og ["thing"]
 Zqc:Def K mg "share" n5 ["top","bottom"]
 Zp7:Def K mg "stocks" nX ["shop"]
 Zqe:Def K mg "next_stock" n9 ["shop","level","fall"]
 Zqo:Def K mg "day_cost" oj ["shop","level","fall"]
 Zqn:Def K mg "end_cost" oh ["shop","stock"]
 Zd7:Def K mg "ask_text" oq ["thing"]
 Zqk:Def K mg "is_number" lO ["word"]
 Zd4:Def K mg "read_number" n6 ["word"]
 Zd3:Def K mg "read_share" kj ["text"]
 Zd5:Def K mg "read_entry" n8 ["word"]
 uK:Def K mg "read_table" ki ["text"]
 Zqm:Def K mg "end_costs" lP ["shop"]
 Zp6:Def K mg "weighed" nW ["shop","day","level","ahead","scale"]
 Zqf:Def K mg "level_sums" lM ["shop","day","ahead","scale"]
 Zqq:Def K mg "cheapest_from" on ["shop","low","by_level","scale"]
 Zqr:Def K mg "cheapest" oo ["shop","by_level","scale"]
 Zqg:Def K mg "least" kl ["shop","falls"]
 Zqa:Def K mg "show_number" nZ ["number"]
 Zp9:Def K mg "show_share" nY ["one"]
 Zqb:Def K mg "show_entry" n0 ["entry"]
 Zp8:Def K mg "show_table" lL ["table"]
 Zqw:Def K mg "_law_pen" ou ["_law_script"]
 ZqD:Def K mg "_law_draw" oA ["_law_pen_here","_law_most"]
 Zqy:Def K mg "_law_number" ow ["_law_pen_here"]
 ZqE:Def K mg "_law_divisor" oB ["_law_one","_law_other"]
 Zqz:Def K mg "_law_lowest" ox ["_law_top","_law_bottom"]
 Zqx:Def K mg "_law_number_of" lR ["_law_word"]
 ZqA:Def K mg "_law_heard" oy ["_law_read","_law_text"]
 Zqv:Def K mg "_law_right" ot ["_law_read","_law_text","_law_due"]
 ZqF:Def K mg "_law_bent_text" oD ["_law_pen_here","_law_text"]
 ZqB:Def K mg "_law_entry_of" lS ["_law_word"]
 Zqu:Def K mg "_law_table_of" lQ ["_law_text"]
 ZqC:Def K mg "_law_entry" oz ["_law_pen_here"]
 Zqt:Def K mg "_law_texts" km ["_law_pen_here","_law_turn"]
 Zqs:Def K mg "_law_told_right" jn ["_law_pen_here"]
 Zqh:Def K mg "law" lN ["_law_script"]
 ZfF:∃ C D a0 a1 a2 a3 a4 a5 a6:Addr,mg "NoText"=some (.ref C)/\mg "ShopError"=some (.ref D)/\mg "NoBack"=some (.ref a0)/\mg "NoFall"=some (.ref a1)/\mg "NoLevel"=some (.ref a2)/\mg "NoMean"=some (.ref a3)/\mg "NoRow"=some (.ref a4)/\mg "NoShare"=some (.ref a5)/\mg "NoStand"=some (.ref a6)/\Exc K C D [a0,a1,a2,a3,a4,a5,a6]
theorem Zpk {K:yS} {mg:zc} {h:Heap} {C D a0 a1 a2 a3 a4 a5 a6:Addr} (X:K.In h) (G:h.Ns mainGlobals mg)
  (c:PySem.W.nsIn K mainGlobals "NoText"=some (some (.ref C))) (d:PySem.W.nsIn K mainGlobals "ShopError"=some (some (.ref D)))
  (z0:PySem.W.nsIn K mainGlobals "NoBack"=some (some (.ref a0))) (z1:PySem.W.nsIn K mainGlobals "NoFall"=some (some (.ref a1))) (z2:PySem.W.nsIn K mainGlobals "NoLevel"=some (some (.ref a2))) (z3:PySem.W.nsIn K mainGlobals "NoMean"=some (some (.ref a3))) (z4:PySem.W.nsIn K mainGlobals "NoRow"=some (some (.ref a4))) (z5:PySem.W.nsIn K mainGlobals "NoShare"=some (some (.ref a5))) (z6:PySem.W.nsIn K mainGlobals "NoStand"=some (some (.ref a6)))
  (q:gc K C fV "ValueError.__new__"=true) (q2:gc K D fV "ValueError.__new__"=true) (u:pq K C D=true) (v:PySem.W.kitOne K (.ref C) (.type "ValueError")=some true) (y:PySem.W.kitAny K (.ref C) [.ref a0,.ref a1,.ref a2,.ref a3,.ref a4,.ref a5,.ref a6]=some false) :
  ∃ C D a0 a1 a2 a3 a4 a5 a6:Addr,mg "NoText"=some (.ref C)/\mg "ShopError"=some (.ref D)/\mg "NoBack"=some (.ref a0)/\mg "NoFall"=some (.ref a1)/\mg "NoLevel"=some (.ref a2)/\mg "NoMean"=some (.ref a3)/\mg "NoRow"=some (.ref a4)/\mg "NoShare"=some (.ref a5)/\mg "NoStand"=some (.ref a6)/\Exc K C D [a0,a1,a2,a3,a4,a5,a6] :=
 ⟨C,D,a0,a1,a2,a3,a4,a5,a6,v6 X G c,v6 X G d,v6 X G z0,v6 X G z1,v6 X G z2,v6 X G z3,v6 X G z4,v6 X G z5,v6 X G z6,ZlD X q q2 u v y⟩
theorem Zf6 {K:yS} {mg:zc} {h:Heap} (X:K.In h) (G:h.Ns mainGlobals mg)
  (z_len:PySem.W.nsIn K mainGlobals "len"=some none)
  (z_abs:PySem.W.nsIn K mainGlobals "abs"=some none)
  (z_max:PySem.W.nsIn K mainGlobals "max"=some none)
  (z_min:PySem.W.nsIn K mainGlobals "min"=some none)
  (z_repr:PySem.W.nsIn K mainGlobals "repr"=some none)
  (z_int:PySem.W.nsIn K mainGlobals "int"=some none)
  (z_list:PySem.W.nsIn K mainGlobals "list"=some none)
  (z_tuple:PySem.W.nsIn K mainGlobals "tuple"=some none)
  (z_str:PySem.W.nsIn K mainGlobals "str"=some none)
  (z_bool:PySem.W.nsIn K mainGlobals "bool"=some none)
  (z_range:PySem.W.nsIn K mainGlobals "range"=some none)
  (z_isinstance:PySem.W.nsIn K mainGlobals "isinstance"=some none)
  (z_sum:PySem.W.nsIn K mainGlobals "sum"=some none)
  (z_all:PySem.W.nsIn K mainGlobals "all"=some none)
  (z_enumerate:PySem.W.nsIn K mainGlobals "enumerate"=some none)
  (z_ValueError:PySem.W.nsIn K mainGlobals "ValueError"=some none)
  (z_reversed:PySem.W.nsIn K mainGlobals "reversed"=some none)
  (z_divmod:PySem.W.nsIn K mainGlobals "divmod"=some none)
  {t_TOP:Tok} (z_TOP:PySem.W.nsIn K mainGlobals "TOP"=some (some (.int 0 t_TOP)))
  {t_DEPTH:Tok} (z_DEPTH:PySem.W.nsIn K mainGlobals "DEPTH"=some (some (.int 1 t_DEPTH)))
  {t_START:Tok} (z_START:PySem.W.nsIn K mainGlobals "START"=some (some (.int 2 t_START)))
  {t_PIECE:Tok} (z_PIECE:PySem.W.nsIn K mainGlobals "PIECE"=some (some (.int 3 t_PIECE)))
  {t_KEEP:Tok} (z_KEEP:PySem.W.nsIn K mainGlobals "KEEP"=some (some (.int 4 t_KEEP)))
  {t_LACK:Tok} (z_LACK:PySem.W.nsIn K mainGlobals "LACK"=some (some (.int 5 t_LACK)))
  {t_LOST:Tok} (z_LOST:PySem.W.nsIn K mainGlobals "LOST"=some (some (.int 6 t_LOST)))
  {t_BACK:Tok} (z_BACK:PySem.W.nsIn K mainGlobals "BACK"=some (some (.int 7 t_BACK)))
  {t_LATE:Tok} (z_LATE:PySem.W.nsIn K mainGlobals "LATE"=some (some (.int 8 t_LATE)))
  {t_MOST_FIGURES:Tok} (z_MOST_FIGURES:PySem.W.nsIn K mainGlobals "MOST_FIGURES"=some (some (.int 400 t_MOST_FIGURES)))
  {t_PART_FIGURES:Tok} (z_PART_FIGURES:PySem.W.nsIn K mainGlobals "PART_FIGURES"=some (some (.int 64 t_PART_FIGURES)))
  {t_FIGURES:Tok} (z_FIGURES:PySem.W.nsIn K mainGlobals "FIGURES"=some (some (.str "0123456789" t_FIGURES)))
  {t_PART:Tok} (z_PART:PySem.W.nsIn K mainGlobals "PART"=some (some (.int 10000000000000000000000000000000000000000000000000000000000000000 t_PART)))
  (z_is_whole:Def K mg "is_whole" oa ["thing"])
  (z_common_divisor:Def K mg "common_divisor" om ["one","other"])
  (z_is_share:Def K mg "is_share" og ["thing"])
  (z_share:Def K mg "share" n5 ["top","bottom"])
  (z_stocks:Def K mg "stocks" nX ["shop"])
  (z_next_stock:Def K mg "next_stock" n9 ["shop","level","fall"])
  (z_day_cost:Def K mg "day_cost" oj ["shop","level","fall"])
  (z_end_cost:Def K mg "end_cost" oh ["shop","stock"])
  (z_ask_text:Def K mg "ask_text" oq ["thing"])
  (z_is_number:Def K mg "is_number" lO ["word"])
  (z_read_number:Def K mg "read_number" n6 ["word"])
  (z_read_share:Def K mg "read_share" kj ["text"])
  (z_read_entry:Def K mg "read_entry" n8 ["word"])
  (z_read_table:Def K mg "read_table" ki ["text"])
  (z_end_costs:Def K mg "end_costs" lP ["shop"])
  (z_weighed:Def K mg "weighed" nW ["shop","day","level","ahead","scale"])
  (z_level_sums:Def K mg "level_sums" lM ["shop","day","ahead","scale"])
  (z_cheapest_from:Def K mg "cheapest_from" on ["shop","low","by_level","scale"])
  (z_cheapest:Def K mg "cheapest" oo ["shop","by_level","scale"])
  (z_least:Def K mg "least" kl ["shop","falls"])
  (z_show_number:Def K mg "show_number" nZ ["number"])
  (z_show_share:Def K mg "show_share" nY ["one"])
  (z_show_entry:Def K mg "show_entry" n0 ["entry"])
  (z_show_table:Def K mg "show_table" lL ["table"])
  (z__law_pen:Def K mg "_law_pen" ou ["_law_script"])
  (z__law_draw:Def K mg "_law_draw" oA ["_law_pen_here","_law_most"])
  (z__law_number:Def K mg "_law_number" ow ["_law_pen_here"])
  (z__law_divisor:Def K mg "_law_divisor" oB ["_law_one","_law_other"])
  (z__law_lowest:Def K mg "_law_lowest" ox ["_law_top","_law_bottom"])
  (z__law_number_of:Def K mg "_law_number_of" lR ["_law_word"])
  (z__law_heard:Def K mg "_law_heard" oy ["_law_read","_law_text"])
  (z__law_right:Def K mg "_law_right" ot ["_law_read","_law_text","_law_due"])
  (z__law_bent_text:Def K mg "_law_bent_text" oD ["_law_pen_here","_law_text"])
  (z__law_entry_of:Def K mg "_law_entry_of" lS ["_law_word"])
  (z__law_table_of:Def K mg "_law_table_of" lQ ["_law_text"])
  (z__law_entry:Def K mg "_law_entry" oz ["_law_pen_here"])
  (z__law_texts:Def K mg "_law_texts" km ["_law_pen_here","_law_turn"])
  (z__law_told_right:Def K mg "_law_told_right" jn ["_law_pen_here"])
  (z_law:Def K mg "law" lN ["_law_script"])
  (z_err:∃ C D a0 a1 a2 a3 a4 a5 a6:Addr,mg "NoText"=some (.ref C)/\mg "ShopError"=some (.ref D)/\mg "NoBack"=some (.ref a0)/\mg "NoFall"=some (.ref a1)/\mg "NoLevel"=some (.ref a2)/\mg "NoMean"=some (.ref a3)/\mg "NoRow"=some (.ref a4)/\mg "NoShare"=some (.ref a5)/\mg "NoStand"=some (.ref a6)/\Exc K C D [a0,a1,a2,a3,a4,a5,a6])
  : Txt K mg:=⟨vV X G z_len,vV X G z_abs,vV X G z_max,vV X G z_min,vV X G z_repr,vV X G z_int,vV X G z_list,vV X G z_tuple,vV X G z_str,vV X G z_bool,vV X G z_range,vV X G z_isinstance,vV X G z_sum,vV X G z_all,vV X G z_enumerate,vV X G z_ValueError,vV X G z_reversed,vV X G z_divmod,⟨_,v6 X G z_TOP⟩,⟨_,v6 X G z_DEPTH⟩,⟨_,v6 X G z_START⟩,⟨_,v6 X G z_PIECE⟩,⟨_,v6 X G z_KEEP⟩,⟨_,v6 X G z_LACK⟩,⟨_,v6 X G z_LOST⟩,⟨_,v6 X G z_BACK⟩,⟨_,v6 X G z_LATE⟩,⟨_,v6 X G z_MOST_FIGURES⟩,⟨_,v6 X G z_PART_FIGURES⟩,⟨_,v6 X G z_FIGURES⟩,⟨_,v6 X G z_PART⟩,z_is_whole,z_common_divisor,z_is_share,z_share,z_stocks,z_next_stock,z_day_cost,z_end_cost,z_ask_text,z_is_number,z_read_number,z_read_share,z_read_entry,z_read_table,z_end_costs,z_weighed,z_level_sums,z_cheapest_from,z_cheapest,z_least,z_show_number,z_show_share,z_show_entry,z_show_table,z__law_pen,z__law_draw,z__law_number,z__law_divisor,z__law_lowest,z__law_number_of,z__law_heard,z__law_right,z__law_bent_text,z__law_entry_of,z__law_table_of,z__law_entry,z__law_texts,z__law_told_right,z_law,z_err⟩
theorem Ziv (a:Nat):∃ pr:Int,br [V.int 2147483647,V.int 2147483629,V.int 2147483587,V.int 2147483579,V.int 2147483563,V.int 2147483549,V.int 2147483543] ((a:Int) % 7)=some (.int pr)/\2147483542 < pr/\pr<=2147483647:=by
 have e:(a:Int) % 7=((a % 7:Nat):Int):=by omega
 rw [e]
 have h:a % 7 < 7:=yo _ (by decide)
 generalize a % 7=b at h
 match b,h with
 | 0,_=>exact ⟨_,dq rfl,by decide,by decide⟩
 | 1,_=>exact ⟨_,dq rfl,by decide,by decide⟩
 | 2,_=>exact ⟨_,dq rfl,by decide,by decide⟩
 | 3,_=>exact ⟨_,dq rfl,by decide,by decide⟩
 | 4,_=>exact ⟨_,dq rfl,by decide,by decide⟩
 | 5,_=>exact ⟨_,dq rfl,by decide,by decide⟩
 | 6,_=>exact ⟨_,dq rfl,by decide,by decide⟩
theorem ZqS (ns:y8) (a:Nat) (h:ns≠[]):∃ z:Int,br (ns.map V.int) ((a:Int) % ((ns.map V.int).length:Nat))=some (.int z):=by
 have hl:0 < ns.length:=yi.mpr h
 have hl':(ns.map V.int).length=ns.length:=vB ..
 have e:(a:Int) % ((ns.map V.int).length:Nat)=((a % ns.length:Nat):Int):=by rw [hl']; omega
 have hlt:a % ns.length < ns.length:=yo _ hl
 rw [e]
 exact ⟨ns[a % ns.length],dq (by rw [v5,xW hlt]; rfl)⟩
theorem Zrz {r pr a:Int} (h0:0<=r) (h1:r < pr) (h2:pr<=2147483647) (h3:0<=a) (h4:a<=500000):((r+7919) * (2 * a+3)+104729 * a+5).natAbs < 2 ^ 64:=by
 have p0:0<=(r+7919) * (2 * a+3):=xT (by omega) (by omega)
 have p1:(r+7919) * (2 * a+3)<=2147491566 * 1000003:=Int.mul_le_mul (by omega) (by omega) (by omega) (by omega)
 omega
section
variable {P:Program} {w:World} {K:yS} {mg:zc} {base:Heap}
theorem Zjs (T:Txt K mg):Callee P w K mg base "_law_pen" 1 ["_law_script"] (ZgV K):=by
 refine T.Zqw.ok Zhx (λvs H Q E h=>?_) (λf cdv A outer s H vs Q E hr h=>?_)
 ·obtain ⟨a,ns,rfl,_⟩:=h
  rfl
 ·obtain ⟨a,ns,rfl,hS,hlen,k⟩:=h
  have hu:=ul hr
  refine ⟨_,(fh (fi (ZiT (sN dP (bS (Zq1) rfl T.ZjN boot_list (aT (Zb8 Za5 (pv 0) Zb2 (Zb1 bY)) bz)) (sN dP bY (sN dP bY Zix))) rfl rfl (by simp) (by decide)))),?_⟩
  intro p hp
  have s0:Same H (upd H p (.dK [])):=(Same.refl H).new hp
  refine ⟨_,rfl,63,rfl,a,_,rfl,s0.seq hS,λq hq=>⟨q,_,rfl,Or.inl (SqL.of bJ),λc hc=>?_⟩⟩
  have s1:Same (upd H p (.dK [])) (upd (upd H p (.dK [])) q (.lst (eU (ns.map V.int) none (some 63)))):=(Same.refl _).new hq
  have s2:Same (upd H p (.dK [])) (upd (upd (upd H p (.dK [])) q (.lst (eU (ns.map V.int) none (some 63)))) c (.lst (eU (ns.map V.int) none (some 63)))):=s1.new hc
  have hcut:eU (ns.map V.int) none (some 63)=ns.map V.int:=by
   unfold eU
   have e:HT.aP (ns.map V.int).length (ns.map V.int).length (some 63)=(ns.map V.int).length:=by
    have q:=HT.ZhF (ns.map V.int).length (ns.map V.int).length 63
    rw [vB] at q ⊢
    exact q.trans (Nat.min_eq_right hlen)
   rw [e]
   show ((ns.map V.int).drop 0).take ((ns.map V.int).length - 0)=_
   rw [yh,Nat.sub_zero,List.take_length]
  have hpc:c≠p:=λz=>by
   have q:=s1 p _ bJ
   rw [z,q] at hc
   cases hc
  refine ⟨s2 _ _ bJ,bR c 0 0,rfl,(by show 3<=15; decide),?_⟩
  refine k p c _ hp ⟨⟨0,0,?_,vF _,xA _⟩,?_,hlen⟩ λb o e=>?_
  ·rw [bJ]
   rfl
  ·rw [aK hpc,bJ,hcut]
  ·rw [aK (cH e hp)]
   exact s2 b o (s0 b o e)
theorem Zju (T:Txt K mg):Callee P w K mg base "_law_draw" 1 ["_law_pen_here","_law_most"] ZaY:=by
 refine T.ZqD.ok gQ (λvs H Q E h=>?_) (λf cdv A outer s H vs Q E hr h=>?_)
 ·obtain ⟨p,c,ns,m,most,rfl,_⟩:=h
  rfl
 ·obtain ⟨p,c,ns,m,most,rfl,hP,hm,h0,h1,k⟩:=h
  have hu:=ul hr
  refine ⟨_,(cG (aO (i:=2) gQ.nd rfl (.inl rfl) (ma hu (pv 0) dP (λ_ _=>rfl)))
 (cG (aO (i:=3) gQ.nd rfl (.inl rfl) (ma hu (pv 0) dP (λ_ _=>rfl)))
 (cG (PS.join (iu (l0 Zco (ma hu (pv 0) dP (λ_ _=>rfl)) bY (nomark _)) (cG (sK hu (pv 0) dP (b9 gU (pv 3) bY) rfl)
 (cG (aO (i:=4) gQ.nd rfl (.inl rfl) bY)
 (cG (PS.join (iu (l0 (Zcj hr) (pv 2) (o4 bz) (nomark _)) (fh (aO (i:=4) gQ.nd rfl (.inl rfl) (sS ua (pv 2) (b9 iy (pv 3) (bj (qu) rfl T.eM boot_len (aT (pv 2) bz))) (λ_ _=>rfl)))) jq))
 (cG (iu (PT.join (PW.pt (sF (l0 Zcm (pv 3) (bj (qu) rfl T.eM boot_len (aT (pv 2) bz)) (nomark _)) (sE (l0 iz (bj (iU) rfl T.iG boot_abs (aT (pv 4) bz)) (b9 ky bY bY) (nomark _)))))) (cG (aO (i:=5) gQ.nd rfl (.inl rfl) (sS ua (o4 (aT bY (aT bY (aT bY (aT bY (aT bY (aT bY (aT bY bz)))))))) (b9 iy (pv 3) bY) (λ_ _=>rfl)))
 (cG (aO (i:=6) gQ.nd rfl (.inl rfl) (b9 iy (b9 ky (b9 gU (b9 gU (b9 md (b9 gU (b9 iy (pv 4) (pv 5)) bY) (b9 gU (b9 md bY (pv 3)) bY)) (b9 md bY (pv 3))) bY) bY) (pv 5)))
 (cG (aO (i:=6) gQ.nd rfl (.inl rfl) (b9 iy (b9 gU (b9 md (pv 6) (b9 gU (b9 gU (b9 iy (pv 6) bY) (pv 3)) bY)) (b9 md bY (pv 3))) bY))
 (fh (fi (b9 iy (b9 Zcn (pv 6) bY) (pv 1))))))) jq)
 (fh (sK hu (pv 0) dP (bj (iU) rfl T.iG boot_abs (aT (pv 4) bz)) rfl)))))) jq))
 (cG (aO (i:=7) gQ.nd rfl (.inl rfl) (b9 iy (ma hu (pv 0) dP (λ_ _=>rfl)) (pv 1)))
 (cG (sK hu (pv 0) dP (b9 Zcn (ma hu (pv 0) dP (λ_ _=>rfl)) (pv 1)) rfl)
 (fh (fi (pv 7)))))))),?_⟩
  obtain ⟨⟨a,l,hd,ha,hl⟩,hc,hn⟩:=hP
  have npc:c≠p:=tF hc hd (by intro z; cases z)
  refine ⟨_,rfl,p,_,rfl,Zp0 hd,?_⟩
  refine ⟨_,rfl,p,_,rfl,Zp1 hd,?_⟩
  refine ⟨λσ' H'=>∃ (v4:Option V) (a':Nat) (l':Int),σ'=[some (.ref p),some (.int most),some (.ref c),some (.int a),v4,none,none,none]/\H' p=some (.dK (bR c a' l'))/\a'<=m+1/\0<=l'/\H' c=some (.lst (ns.map V.int))/\Kept p H H',?_,?_⟩
  ·refine ⟨_,rfl,p,_,rfl,uG hd,rfl,_,rfl,?_⟩
   refine pX (λhz=>?_) (λhz=>?_)
   ·refine ⟨_,rfl,_,_,rfl,rfl,_,rfl,p,_,rfl,ZpV hd,?_⟩
    have hd1:(upd H p (.dK (bR c ((a:Int)+1) l))) p=some (.dK (bR c ((a+1:Nat):Int) l)):=by
     rw [bJ]
     rfl
    have hc1:(upd H p (.dK (bR c ((a:Int)+1) l))) c=some (.lst (ns.map V.int)):=by
     rw [aK npc]
     exact hc
    have k1:Kept p H (upd H p (.dK (bR c ((a:Int)+1) l))):=Kept.refl.pen
    refine ⟨λσ' H'=>∃ (z:Int),σ'=[some (.ref p),some (.int most),some (.ref c),some (.int a),some (.int z),none,none,none]/\H' p=some (.dK (bR c ((a+1:Nat):Int) l))/\H' c=some (.lst (ns.map V.int))/\Kept p H H',?_,?_⟩
    ·refine ⟨_,rfl,wN _,λq hq=>?_⟩
     have hc2:=hc1
     have nq:∀ {b:Addr} {o:HO},(upd H p (.dK (bR c ((a:Int)+1) l))) b=some o->(upd (upd H p (.dK (bR c ((a:Int)+1) l))) q (.lst [])) b=some o:=λe=>by
      rw [aK (cH e hq)]
      exact e
     refine ⟨_,_,.lst (nq hc1) (DnAll.ints ns),.lst bJ .nil,Za9 ns,Za9 [],_,rfl,?_⟩
     rw [Zpm]
     refine pX (λhne=>?_) (λ_=>?_)
     ·have hne':ns≠[]:=by
       rintro rfl
       cases hne
      obtain ⟨z,hz2⟩:=ZqS ns a hne'
      have hpos:0 < (((ns.map V.int).length:Nat):Int):=by
       rw [vB]
       have:=yi.mpr hne'
       omega
      refine ⟨_,rfl,_,rfl,_,rfl,c,_,rfl,.inl (SqL.of (nq hc1)),_,_,rfl,rfl,hpos,c,_,_,_,rfl,rfl,SqL.of (nq hc1),hz2,?_⟩
      exact ⟨z,rfl,nq hd1,nq hc1,k1.new hq⟩
     ·exact ⟨17,rfl,nq hd1,nq hc1,k1.new hq⟩
    ·rintro σ2 H2 ⟨z,rfl,hd2,hc2,k2⟩
     refine ⟨λ_ H'=>H'=H2,?_,?_⟩
     ·refine ⟨_,rfl,_,rfl,c,_,rfl,.inl (SqL.of hc2),_,_,rfl,rfl,_,rfl,?_⟩
      refine pX (λ_=>rfl) (λ_=>?_)
      refine ⟨_,rfl,z,rfl,_,_,rfl,rfl,⟨by decide,by decide,by decide⟩,_,_,rfl,rfl,_,rfl,rfl⟩
     ·rintro b H3 rfl
      refine pX (λ_=>?_) (λ_=>?_)
      ·refine ⟨by show 7<=sizeLine; decide,λq hq=>?_⟩
       obtain ⟨pr,hpr,g1,g2⟩:=Ziv a
       refine ⟨_,rfl,_,_,rfl,rfl,(by show (0:Int) < 7; decide),q,_,_,_,rfl,rfl,SqL.of bJ,hpr,?_⟩
       have r0:0<=z % pr:=ye _ (by omega)
       have r1:z % pr < pr:=xO _ (by omega)
       refine ⟨_,rfl,_,rfl,_,_,rfl,rfl,(by show (0:Int) < pr; omega),_,_,rfl,rfl,_,rfl,_,_,rfl,rfl,.inl ⟨by decide,by decide⟩,_,_,rfl,rfl,_,_,rfl,rfl,.inr ⟨by omega,by omega⟩,_,rfl,_,_,rfl,rfl,.inl ⟨by decide,by decide⟩,_,_,rfl,rfl,_,_,rfl,rfl,_,_,rfl,rfl,⟨by decide,by decide,Zrz r0 r1 g2 (by omega) (by omega)⟩,_,rfl,_,_,rfl,rfl,(by show (0:Int) < pr; omega),?_⟩
       generalize hM:(((z % pr+7919) * (2 * (a:Int)+3)+104729 * (a:Int)+5) ^ (5:Int).toNat) % pr=M
       have m0:0<=M:=by rw [<- hM]; exact ye _ (by omega)
       have m1:M < pr:=by rw [<- hM]; exact xO _ (by omega)
       refine ⟨_,rfl,_,rfl,_,_,rfl,rfl,(by show (0:Int) < 65521; decide),_,rfl,_,_,rfl,rfl,_,_,rfl,rfl,_,_,rfl,rfl,.inl ⟨by omega,by omega⟩,_,rfl,_,_,rfl,rfl,.inl ⟨by decide,by decide⟩,_,_,rfl,rfl,_,_,rfl,rfl,(by show (0:Int) < 2147483497; decide),?_⟩
       refine ⟨_,rfl,_,_,rfl,rfl,⟨by decide,by decide⟩,_,rfl,_,_,rfl,rfl,h0,?_⟩
       refine k _ _ (ye _ (by omega)) (xO _ h0) ⟨⟨a+1,l,?_,by omega,hl⟩,?_,hn⟩ (k2.new hq)
       ·rw [aK (cH hd2 hq)]
        exact hd2
       ·rw [aK (cH hc2 hq)]
        exact hc2
      ·refine ⟨_,rfl,z,rfl,_,rfl,p,_,rfl,ZdO hd2,?_⟩
       refine ⟨_,a+1,_,rfl,bJ,by omega,?_,by rw [aK npc]; exact hc2,k2.pen⟩
       split <;> omega
   ·exact ⟨none,a,l,rfl,hd,by omega,hl,hc,Kept.refl⟩
  ·rintro σ2 H2 ⟨v4,a',l',rfl,hd2,ha2,hl2,hc2,k2⟩
   refine ⟨_,rfl,p,_,rfl,uG hd2,_,rfl,_,_,rfl,rfl,h0,?_⟩
   refine ⟨_,rfl,p,_,rfl,uG hd2,_,rfl,_,_,rfl,rfl,⟨h0,h1⟩,_,rfl,p,_,rfl,ZdO hd2,?_⟩
   refine ⟨_,rfl,?_⟩
   refine k _ _ (ye _ (by omega)) (xO _ h0) ⟨⟨a',_,bJ,ha2,Int.ediv_nonneg hl2 (by omega)⟩,?_,hn⟩ k2.pen
   rw [aK npc]
   exact hc2
end
noncomputable section
variable {cn:Addr×y8} {P:Program} {w:World} {K:yS} {mg:zc} {base:Heap}
def mB:yX:=bo 1 0
 (bb (qM (jL "int" (aa 0)) (vk (jL "bool" (aa 0)))))
theorem Zex (T:Txt K mg):ACal (aY cn) P w K mg base "is_whole" 1 ["thing"] mB:=bF T.Zqi Zhs rfl λf cdv A outer sh H E hr=>by
 exact (aM (bd (Ze8 (ni (T:="int") (.inl rfl) rfl (bj m8 rfl T.iF boot_isinstance (aT (ac (pv 0)) (aT (kw (v:=.ty "int") rfl T.mh boot_int rfl) bz)))) (u9 (ZrN (ni (T:="bool") (Or.inr (.inl rfl)) rfl (bj m8 rfl T.iF boot_isinstance (aT (ac (pv 0)) (aT (kw (v:=.ty "bool") rfl T.ZjQ boot_bool rfl) bz)))))))))
noncomputable def rz:yV :=
 (eA (aa 1))
noncomputable def t5:yW :=
 (kY 0 1 (af (aa 1) (af (ad iH (aa 0) (aa 1)) aq)))
def mE:yX:=bo 2 0
 (ap (kY 0 1 (af (aW h9 (af (aa 0) aq)) (af (aW h9 (af (aa 1) aq)) aq)))
 (ap (cV rz t5 100000)
 (fy 0)))
theorem ZeA (T:Txt K mg):ACal (aY cn) P w K mg base "common_divisor" 1 ["one","other"] mE:=bF T.Zqp rV rfl λf cdv A outer sh H E hr=>by
 exact (av (uZ (sJ (i:=0) (j:=1) rfl rV.nd rfl rfl (by decide) rfl rfl (aj (aZ (t:=aR) (bj iU rfl T.iG boot_abs (aj (ac (pv 0)) au)) j6) (aj (aZ (t:=aR) (bj iU rfl T.iG boot_abs (aj (ac (pv 1)) au)) j6) au)) rfl))
 (av (uW 100000 wD (eV (ac (pv 1)))
  (aM (uZ (sJ (i:=0) (j:=1) rfl rV.nd rfl rfl (by decide) rfl rfl (aj (ac (pv 1)) (aj (ak o8 nF (ac (pv 0)) (ac (pv 1))) au)) rfl))))
 (aM (kQ (pv 0)))))
def mj:yX:=bo 1 0
 (bb (vd (af (fX (ad bA (aa 0) (aC (.int 1)))) (af (ad cU (ad bA (aa 0) (aC (.int 0))) (aC (.int 1))) aq))))
theorem Zeq (T:Txt K mg):ACal (aY cn) P w K mg base "stocks" 1 ["shop"] mj:=bF T.Zp7 Zhp rfl λf cdv A outer sh H E hr=>by
 exact (aM (bd (ZrL (bS (ZqW hr.hd) rfl T.eL boot_tuple (aT (bS Zen rfl T.iE boot_range (aj (iW (bi bh cy (ac (pv 0)) (df rfl T.p8) (λ_ _=>rfl))) (aj (ak gm gg (bi bh cy (ac (pv 0)) (df rfl T.uq) (λ_ _=>rfl)) ai) au))) bz)))))
def mr:yX:=bo 3 0
 (bb (aW pA (af (ad eQ (aa 1) (aa 2)) (af (fX (ad bA (aa 0) (aC (.int 1)))) aq))))
theorem Zeu (T:Txt K mg):ACal (aY cn) P w K mg base "next_stock" 1 ["shop","level","fall"] mr:=bF T.Zqe Zhr rfl λf cdv A outer sh H E hr=>by
 exact (aM (bd (aZ (t:=aR) (bj (Zq0 rfl) rfl T.ZjM boot_max (aj (ak gl gf (ac (pv 1)) (ac (pv 2))) (aj (iW (bi bh cy (ac (pv 0)) (df rfl T.p8) (λ_ _=>rfl))) au))) ZfW)))
def mC:yX:=bo 2 0
 (ap (b7 (bc (ad (db λi j=>decide (i > j)) (aa 1) (aC (.int 0))))
  (bb (ad cm (fX (ad bA (aa 0) (aC (.int 7)))) (aa 1)))
  bQ)
 (bb (ad cm (ad bA (aa 0) (aC (.int 8))) (fX (aa 1)))))
theorem Zrs (T:Txt K mg):ACal (aY cn) P w K mg base "end_cost" 1 ["shop","stock"] mC:=bF T.Zqn Zhu rfl λf cdv A outer sh H E hr=>by
 exact (av (cg (bE kz dL (ac (pv 1)) ai (nomark _))
 (aM (bd (ak cN cJ (iW (bi bh cy (ac (pv 0)) (df rfl T.Zlo) (λ_ _=>rfl))) (ac (pv 1)))))
 bV)
 (aM (bd (ak cN cJ (bi bh cy (ac (pv 0)) (df rfl T.Zlk) (λ_ _=>rfl)) (iW (ac (pv 1)))))))
def mF:yX:=bo 1 0
 (b7 (eB (eA (jL "str" (aa 0))))
  kZ
  bQ)
theorem ZeB (T:Txt K mg):ACal (aY cn) P w K mg base "ask_text" 1 ["thing"] mF:=bF T.Zd7 Zbf rfl λf cdv A outer sh H E hr=>by
 exact (aM (cg (eW (eV (ni (T:="str") (Or.inr (Or.inr (.inl rfl))) rfl (bj m8 rfl T.iF boot_isinstance (aT (ac (pv 0)) (aT (kw (v:=.ty "str") rfl T.eT boot_str rfl) bz))))))
 (aM nc)
 bV))
noncomputable def jX:List Sl->Tr (Option Re):=fZ 1 0
 (j4 (eB (eA (jL "str" (aa 0)))) jY (ge bQ))
theorem Zd9 (T:Txt K mg) {C:Addr} (hC:mg "NoText"=some (.ref C)) (xc:Xcl K C fV "ValueError.__new__"):XCal (aY cn) P w K mg base "ask_text" 1 ["thing"] C jX:=lf T.Zd7 Zbf rfl λf cdv A outer sh H E hr=>by
 exact (jc (nz (eW (eV (ni (T:="str") (Or.inr (Or.inr (.inl rfl))) rfl (bj m8 rfl T.iF boot_isinstance (aT (ac (pv 0)) (aT (kw (v:=.ty "str") rfl T.eT boot_str rfl) bz)))))) (jc (ny (oY xP xc rfl hC))) (jT bV)))
noncomputable def oX:yT :=
 (ad (g7 false) (aa 0) (aC (.str "0123456789")))
def iK:yX:=bo 1 1
 (ap (aX 1 (ad jp (aa 0) (aC (.str "-"))))
 (ap (b7 (e8 (eB (bc (qK (db λi j=>decide (i<=j)) (db λi j=>decide (i<=j)) (aC (.int 1)) (aW dG (af (aa 1) aq)) (aC (.int 400))))) (eB (eA (aW qy (af (bw (cI (di (aa 1)) 1 [] (aw 0) oX)) aq)))))
  (bb (aC (.bool false)))
  bQ)
 (bb (vh (ad eS (ad bM (aa 1) (aC (.int 0))) (aC (.str "0"))) (ad da (aa 0) (aC (.str "0")))))))
theorem Zez (T:Txt K mg):ACal (aY cn) P w K mg base "is_number" 1 ["word"] iK:=bF T.Zqk Zbe rfl λf cdv A outer sh H E hr=>by
 exact (av (a9 (aO (i:=1) Zbe.nd rfl (.inl rfl) (de PySem.F.slot_str_removeprefix PySem.F.type_str_removeprefix ZjV ZfU ZhY (ac (pv 0)) aB)))
 (av (cg (gE (fW (eW (ZrC Zcl dL Zcl dL ai (aZ (t:=aR) (bj fU rfl T.eM boot_len (aj (ac (pv 1)) au)) fG) (df rfl T.Zli))) (iV (eW (eV (aZ (t:=aR) (bj (Zq9 rfl) rfl T.ZjR boot_all (aj (bW (eO (eI qV ["sign"] [] rfl (dH (ac (pv 1))) (λb=>(bg (bf (i:=0) (show ((bN qV ["sign"] [])).Nodup by trivial) rfl (.inl rfl)))) (λb=>(hZ (sZ hr) nG (ac (pv 0)) (ZrO rfl T.Zln) (by with_unfolding_all rfl))) rfl (show BlkOk qV (aI lO) _ [] by trivial)) (cr (by decide)))) au)) ZfY))))))
  (aM (bd iX))
  bV)
 (aM (bd (ZrM (hZ (gT hr) gL (bi bh cx (ac (pv 1)) ai (λ_ _=>rfl)) aB (nomark _)) (u9 (hZ (eK hr) eC (ac (pv 0)) aB (nomark _))))))))
noncomputable def ZcN:yW :=
 (ap (aX 7 (dg (af (ad bA (aa 2) (ad eQ (aa 6) (aa 1))) (af (aa 6) aq))))
 (ap (i7 (cY (bB (aw 8) (bB (aw 9) cO))) (aW iI (af (aa 7) (af (dg (af (ad cU (ad cm (aa 3) (ad bA (aa 0) (aC (.int 2)))) (ad bA (aa 5) (aC (.int 0)))) (af (ad bA (aa 5) (aC (.int 1))) aq))) aq))))
 (ap (gI 4 (dg (af (ad eQ (aa 8) (ad cm (ad cm (aa 3) (ad bA (aa 0) (aC (.int 3)))) (aa 6))) (af (aa 9) aq))))
 (aX 5 (aW iI (af (aa 7) (af (aa 5) aq)))))))
def pS:yX:=bo 4 6
 (ap (i0 4 (cq aq))
 (ap (aX 5 (dg (af (ad bA (aa 2) (fX (aC (.int 1)))) (af (ad bA (aa 0) (aC (.int 0))) aq))))
 (ap (fY (ve (af (aa 1) (af (ad cU (ad bA (aa 0) (aC (.int 0))) (aC (.int 1))) aq))) (aw 6) ZcN)
 (ap (kX 4)
 (fy 4)))))
theorem Zru (T:Txt K mg):ACal (aY cn) P w K mg base "cheapest_from" 1 ["shop","low","by_level","scale"] pS:=bF T.Zqq ip rfl λf cdv A outer sh H E hr=>by
 exact (av (kP (aO (i:=4) ip.nd rfl (.inl rfl) (cD au)))
 (av (a9 (aO (i:=5) ip.nd rfl (.inl rfl) (dI (aj (bi bh cy (ac (pv 2)) (iW ai) (λ_ _=>rfl)) (aj (bi bh cy (ac (pv 0)) (df rfl T.uq) (λ_ _=>rfl)) au)))))
 (av (hV wD rfl (ZrI (Zb5 rfl T.Zcy (bS Zen rfl T.iE boot_range (aj (ac (pv 1)) (aj (ak gm gg (bi bh cy (ac (pv 0)) (df rfl T.uq) (λ_ _=>rfl)) ai) au))))) (bg (bf (i:=6) ip.nd rfl (.inl rfl)))
  (av (a9 (aO (i:=7) ip.nd rfl (.inl rfl) (dI (aj (bi bh cy (ac (pv 2)) (ak gl gf (ac (pv 6)) (ac (pv 1))) (λ_ _=>rfl)) (aj (ac (pv 6)) au)))))
 (av (kR (kn (aZ (t:=aR) (bj (Zeo hr rfl) rfl T.tH boot_min (aj (ac (pv 7)) (aj (dI (aj (ak gm gg (ak cN cJ (ac (pv 3)) (bi bh cy (ac (pv 0)) (df rfl T.Zlg) (λ_ _=>rfl))) (bi bh cy (ac (pv 5)) ai (λ_ _=>rfl))) (aj (bi bh cy (ac (pv 5)) ai (λ_ _=>rfl)) au))) au))) Zaq) (gG rfl (cT (bg (bf (i:=8) ip.nd rfl (.inl rfl))) (cT (bg (bf (i:=9) ip.nd rfl (.inl rfl))) gF)) (cP (cP gy)))))
 (av (jJ (fj (gS we wC wB ju (pv 4) (aT (dI (aj (ak gl gf (ac (pv 8)) (ak cN cJ (ak cN cJ (ac (pv 3)) (bi bh cy (ac (pv 0)) (df rfl T.Zda) (λ_ _=>rfl))) (ac (pv 6)))) (aj (ac (pv 9)) au))) bz))))
 (aM (a9 (aO (i:=5) ip.nd rfl (.inl rfl) (aZ (t:=aR) (bj (Zeo hr rfl) rfl T.tH boot_min (aj (ac (pv 7)) (aj (ac (pv 5)) au))) Zaq))))))))
 (av (uY (fj (sT we xR xQ tJ (pv 4))))
 (aM (kQ (pv 4)))))))
noncomputable def jf:yV :=
 (bc (ad (db λi j=>decide (i ≥ j)) (aa 2) (aC (.int 10000000000000000000000000000000000000000000000000000000000000000))))
noncomputable def mJ:yW :=
 (ap (i7 (cY (bB (aw 2) (bB (aw 3) cO))) (aW mY (af (aa 2) (af (aC (.int 10000000000000000000000000000000000000000000000000000000000000000)) aq))))
 (gI 1 (ad jb (aW dN (af (aa 3) aq)) (aC (.int 64)))))
def jx:yX:=bo 1 3
 (ap (i0 1 (cq aq))
 (ap (aX 2 (aW h9 (af (aa 0) aq)))
 (ap (cV jf mJ 100000)
 (ap (gI 1 (aW dN (af (aa 2) aq)))
 (ap (kX 1)
 (jM 1 (bb (ad aN (qH (bc (ad (db λi j=>decide (i < j)) (aa 0) (aC (.int 0)))) (aC (.str "-")) (aC (.str ""))) (ad cv (aC (.str "")) (aa 1))))))))))
theorem uQ (T:Txt K mg):ACal (aY cn) P w K mg base "show_number" 1 ["number"] jx:=bF T.Zqa ly rfl λf cdv A outer sh H E hr=>by
 exact (av (kP (aO (i:=1) ly.nd rfl (.inl rfl) (cD au)))
 (av (a9 (aO (i:=2) ly.nd rfl (.inl rfl) (aZ (t:=aR) (bj iU rfl T.iG boot_abs (aj (ac (pv 0)) au)) j6)))
 (av (uW 100000 wD (bE Zcm dL (ac (pv 2)) (df rfl T.Zdb) (nomark _))
  (av (kR (kn (aZ (t:=aR) (bj Zq8 rfl T.ZjP boot_divmod (aj (ac (pv 2)) (aj (df rfl T.Zdb) au))) ZfX) (gG rfl (cT (bg (bf (i:=2) ly.nd rfl (.inl rfl))) (cT (bg (bf (i:=3) ly.nd rfl (.inl rfl))) gF)) (cP (cP gy)))))
 (aM (jJ (fj (gS we wC wB ju (pv 1) (aT (de PySem.F.slot_str_zfill PySem.F.type_str_zfill ZjU ZfT Zfp (aZ (t:=aR) (bS fS rfl T.eT boot_str (aj (ac (pv 3)) au)) fF) (df rfl T.Zlh)) bz)))))))
 (av (jJ (fj (gS we wC wB ju (pv 1) (aT (aZ (t:=aR) (bS fS rfl T.eT boot_str (aj (ac (pv 2)) au)) fF) bz))))
 (av (uY (fj (sT we xR xQ tJ (pv 1))))
 (aM (ng (k:=1) (bd (ak aV aU (Ze6 (bE iz dL (ac (pv 0)) ai (nomark _)) aB aB) (jK aB (ac (pv 1))))))))))))
noncomputable abbrev bZ:=pR
theorem cf (T:Txt K mg):ACal (aY cn) P w K mg base "_law_draw" 1 ["_law_pen_here","_law_most"] bZ:=ZpU rfl (Zju T)
noncomputable def rq:yV :=
 (bc (ad (db λi j=>decide (i > j)) (aa 0) (aC (.int 0))))
noncomputable def tZ:yW :=
 (kY 0 1 (af (ad iH (aa 1) (aa 0)) (af (aa 0) aq)))
def mz:yX:=bo 2 0
 (ap (aX 0 (aW h9 (af (aa 0) aq)))
 (ap (aX 1 (aW h9 (af (aa 1) aq)))
 (ap (cV rq tZ 100000)
 (fy 1))))
theorem Zew (T:Txt K mg):ACal (aY cn) P w K mg base "_law_divisor" 1 ["_law_one","_law_other"] mz:=bF T.ZqE nV rfl λf cdv A outer sh H E hr=>by
 exact (av (a9 (aO (i:=0) nV.nd rfl (.inl rfl) (aZ (t:=aR) (bj iU rfl T.iG boot_abs (aj (ac (pv 0)) au)) j6)))
 (av (a9 (aO (i:=1) nV.nd rfl (.inl rfl) (aZ (t:=aR) (bj iU rfl T.iG boot_abs (aj (ac (pv 1)) au)) j6)))
 (av (uW 100000 wD (bE kz dL (ac (pv 0)) ai (nomark _))
  (aM (uZ (sJ (i:=0) (j:=1) rfl nV.nd rfl rfl (by decide) rfl rfl (aj (ak o8 nF (ac (pv 1)) (ac (pv 0))) (aj (ac (pv 0)) au)) rfl))))
 (aM (kQ (pv 1))))))
noncomputable def oW:yT :=
 (aa 0)
noncomputable def o6:yV :=
 (bc (ad (g7 true) (aa 0) (aC (.str "0123456789"))))
def dE:yX:=bo 1 1
 (ap (aX 1 (aa 0))
 (ap (b7 (bc (ad da (dr (aa 0) dw (dh (aC (.int 1)))) (aC (.str "-"))))
  (aX 1 (dr (aa 0) (dh (aC (.int 1))) dw))
  bQ)
 (ap (b7 (e8 (bc (ad da (aa 1) (aC (.str "")))) (e8 (bc (ad (db λi j=>decide (i > j)) (aW dG (af (aa 1) aq)) (aC (.int 400)))) (bc (ad pe (bw (qG (di (aa 1)) 1 [] (aw 0) o6 oW)) (bw (cq aq))))))
  (bb (aC .none))
  bQ)
 (ap (b7 (e8 (bc (ad da (aa 0) (aC (.str "-0")))) (qN (bc (ad (db λi j=>decide (i > j)) (aW dG (af (aa 1) aq)) (aC (.int 1)))) (bc (ad da (ad bM (aa 1) (aC (.int 0))) (aC (.str "0"))))))
  (bb (aC .none))
  bQ)
 (bb (aW g6 (af (aa 0) aq)))))))
theorem Zrm (T:Txt K mg):ACal (aY cn) P w K mg base "_law_number_of" 1 ["_law_word"] dE:=bF T.Zqx rW rfl λf cdv A outer sh H E hr=>by
 exact (av (a9 (aO (i:=1) rW.nd rfl (.inl rfl) (ac (pv 0))))
 (av (cg (bE (eK hr) eC (dX (ac (pv 0)) dU (dS ai)) aB (nomark _))
  (aM (a9 (aO (i:=1) rW.nd rfl (.inl rfl) (dX (ac (pv 0)) (dS ai) dU))))
  bV)
 (av (cg (gE (fW (bE (eK hr) eC (ac (pv 1)) aB (nomark _)) (fW (bE kz dL (aZ (t:=aR) (bj fU rfl T.eM boot_len (aj (ac (pv 1)) au)) fG) ai (nomark _)) (iV (bE (Zje hr) ZfM (bW (ZrF (ZiO qY ["_law_sign"] [] rfl (dH (ac (pv 1))) (λb=>(bg (bf (i:=0) (show ((bN qY ["_law_sign"] [])).Nodup by trivial) rfl (.inl rfl)))) (λb=>(bE (Zjc hr) nG (ac (pv 0)) aB (by with_unfolding_all rfl))) (λb=>(ac (pv 0))) rfl (show BlkOk qY (aI lR) _ [] by trivial)) (cr (by decide)))) (bW (cD au)) (nomark _))))))
  (aM (bd gH))
  bV)
 (av (cg (gE (fW (bE (eK hr) eC (ac (pv 0)) aB (nomark _)) (iV (gE (ZeM (bE kz dL (aZ (t:=aR) (bj fU rfl T.eM boot_len (aj (ac (pv 1)) au)) fG) ai (nomark _)) (ZeL (bE (eK hr) eC (bi bh cx (ac (pv 1)) ai (λ_ _=>rfl)) aB (nomark _))))))))
  (aM (bd gH))
  bV)
 (aM (bd (aZ (t:=aR) (bS uP rfl T.mh boot_int (aj (ac (pv 0)) au)) rB)))))))
def jz:yX:=bo 1 2
 (ap (b7 (e8 (eB (eA (jL "tuple" (aa 0)))) (bc (ad eS (aW kB (af (aa 0) aq)) (aC (.int 2)))))
  (bb (aC (.bool false)))
  bQ)
 (ap (i7 (cY (bB (aw 1) (bB (aw 2) cO))) (aa 0))
 (ap (b7 (e8 (eB (eA (aH (aG mB (am (aa 1) aD))))) (e8 (eB (eA (aH (aG mB (am (aa 2) aD))))) (bc (ad (db λi j=>decide (i < j)) (aa 2) (aC (.int 1))))))
  (bb (aC (.bool false)))
  bQ)
 (bb (ad da (aH (aG mE (am (aa 1) (am (aa 2) aD)))) (aC (.int 1)))))))
theorem Zey (T:Txt K mg):ACal (aY cn) P w K mg base "is_share" 2 ["thing"] jz:=bF T.Zqj rT rfl λf cdv A outer sh H E hr=>by
 exact (av (cg (gE (fW (eW (eV (ni (T:="tuple") (Or.inr (Or.inr (Or.inr (Or.inr (.inl rfl))))) rfl (bj m8 rfl T.iF boot_isinstance (aT (ac (pv 0)) (aT (kw (v:=.ty "tuple") rfl T.eL boot_tuple rfl) bz)))))) (iV (bE (gT hr) gL (aZ (t:=aR) (bj qu rfl T.eM boot_len (aj (ac (pv 0)) au)) Zar) ai (nomark _)))))
 (aM (bd iX))
 bV)
 (av (kR (kn (ac (pv 0)) (gG rfl (cT (bg (bf (i:=1) rT.nd rfl (.inl rfl))) (cT (bg (bf (i:=2) rT.nd rfl (.inl rfl))) gF)) (cP (cP gy)))))
 (av (cg (gE (fW (eW (eV (aL (aJ (Zex T) (hr.mono (by decide)) rfl (ao (ac (pv 1)) aE))))) (fW (eW (eV (aL (aJ (Zex T) (hr.mono (by decide)) rfl (ao (ac (pv 2)) aE))))) (iV (bE iz dL (ac (pv 2)) ai (nomark _))))))
  (aM (bd iX))
  bV)
 (aM (bd (hZ (eK hr) eC (aL (aJ (ZeA T) (hr.mono (by decide)) rfl (ao (ac (pv 1)) (ao (ac (pv 2)) aE)))) ai (nomark _)))))))
def mn:yX:=bo 2 1
 (ap (b7 (bc (ad da (aa 1) (aC (.int 0))))
  kZ
  bQ)
 (ap (aX 2 (aH (aG mE (am (aa 0) (am (aa 1) aD)))))
 (ap (b7 (bc (ad (db λi j=>decide (i < j)) (aa 1) (aC (.int 0))))
  (aX 2 (fX (aa 2)))
  bQ)
 (bb (dg (af (ad iS (aa 0) (aa 2)) (af (ad iS (aa 1) (aa 2)) aq)))))))
theorem Zrd (T:Txt K mg):ACal (aY cn) P w K mg base "share" 2 ["top","bottom"] mn:=bF T.Zqc rS rfl λf cdv A outer sh H E hr=>by
 exact (av (cg (bE (eK hr) eC (ac (pv 1)) ai (nomark _))
 (aM nc)
 bV)
 (av (a9 (aO (i:=2) rS.nd rfl (.inl rfl) (aL (aJ (ZeA T) (hr.mono (by decide)) rfl (ao (ac (pv 0)) (ao (ac (pv 1)) aE))))))
 (av (cg (bE iz dL (ac (pv 1)) ai (nomark _))
  (aM (a9 (aO (i:=2) rS.nd rfl (.inl rfl) (iW (ac (pv 2))))))
  bV)
 (aM (bd (dI (aj (ak o9 nI (ac (pv 0)) (ac (pv 2))) (aj (ak o9 nI (ac (pv 1)) (ac (pv 2))) au))))))))
def mD:yX:=bo 3 3
 (ap (aX 3 (aH (aG mr (am (aa 0) (am (aa 1) (am (aa 2) aD))))))
 (ap (aX 4 (ad eQ (aa 3) (ad eQ (aa 1) (aa 2))))
 (ap (aX 5 (qH (bc (ad (db λi j=>decide (i > j)) (aa 3) (aC (.int 0)))) (ad cm (ad bA (aa 0) (aC (.int 4))) (aa 3)) (ad cm (ad bA (aa 0) (aC (.int 5))) (fX (aa 3)))))
 (bb (ad cU (aa 5) (ad cm (ad bA (aa 0) (aC (.int 6))) (aa 4)))))))
theorem Zrt (T:Txt K mg):ACal (aY cn) P w K mg base "day_cost" 2 ["shop","level","fall"] mD:=bF T.Zqo nS rfl λf cdv A outer sh H E hr=>by
 exact (av (a9 (aO (i:=3) nS.nd rfl (.inl rfl) (aL (aJ (Zeu T) (hr.mono (by decide)) rfl (ao (ac (pv 0)) (ao (ac (pv 1)) (ao (ac (pv 2)) aE)))))))
 (av (a9 (aO (i:=4) nS.nd rfl (.inl rfl) (ak gl gf (ac (pv 3)) (ak gl gf (ac (pv 1)) (ac (pv 2))))))
 (av (a9 (aO (i:=5) nS.nd rfl (.inl rfl) (Ze6 (bE kz dL (ac (pv 3)) ai (nomark _)) (ak cN cJ (bi bh cy (ac (pv 0)) (df rfl T.Zlm) (λ_ _=>rfl)) (ac (pv 3))) (ak cN cJ (bi bh cy (ac (pv 0)) (df rfl T.Zll) (λ_ _=>rfl)) (iW (ac (pv 3)))))))
 (aM (bd (ak gm gg (ac (pv 5)) (ak cN cJ (bi bh cy (ac (pv 0)) (df rfl T.Zlj) (λ_ _=>rfl)) (ac (pv 4)))))))))
def mq:yX:=bo 1 0
 (ap (b7 (eB (eA (aH (aG iK (am (aa 0) aD)))))
  kZ
  bQ)
 (bb (aW g6 (af (aa 0) aq))))
theorem Zet (T:Txt K mg):ACal (aY cn) P w K mg base "read_number" 2 ["word"] mq:=bF T.Zd4 Zbc rfl λf cdv A outer sh H E hr=>by
 exact (av (cg (eW (eV (aL (aJ (Zez T) (hr.mono (by decide)) rfl (ao (ac (pv 0)) aE)))))
 (aM nc)
 bV)
 (aM (bd (aZ (t:=aR) (bS uP rfl T.mh boot_int (aj (ac (pv 0)) au)) rB))))
noncomputable def jW:List Sl->Tr (Option Re):=fZ 1 0
 (fE (j4 (eB (eA (aH (aG iK (am (aa 0) aD))))) jY (ge bQ))
 (ge (bb (aW g6 (af (aa 0) aq)))))
theorem Zd8 (T:Txt K mg) {C:Addr} (hC:mg "NoText"=some (.ref C)) (xc:Xcl K C fV "ValueError.__new__"):XCal (aY cn) P w K mg base "read_number" 2 ["word"] C jW:=lf T.Zd4 Zbc rfl λf cdv A outer sh H E hr=>by
 exact (jd (nz (eW (eV (aL (aJ (Zez T) (hr.mono (by decide)) rfl (ao (ac (pv 0)) aE))))) (jc (ny (oY xP xc rfl hC))) (jT bV))
 (jT (aM (bd (aZ (t:=aR) (bS uP rfl T.mh boot_int (aj (ac (pv 0)) au)) rB)))))
noncomputable def sD:yT :=
 (aH (aG mC (am (aa 1) (am (aa 0) aD))))
def pQ:yX:=bo 1 0
 (qF (cI (k7 (aH (aG mj (am (aa 0) aD)))) 1 [0] (aw 0) sD))
theorem Zrr (T:Txt K mg):ACal (aY cn) P w K mg base "end_costs" 2 ["shop"] pQ:=bF T.Zqm Zht rfl λf cdv A outer sh H E hr=>by
 exact (aM (ZeY (eO (eI qW ["stock"] [0] rfl (qB (aL (aJ (Zeq T) (hr.mono (by decide)) rfl (ao (ac (pv 0)) aE)))) (λb=>(bg (bf (i:=0) (show ((bN qW ["stock"] [0])).Nodup by trivial) rfl (.inl rfl)))) (λb=>(aL (aJ (Zrs T) (hr.mono (by decide)) rfl (ao (ac (pv 1)) (ao (ac (pv 0)) aE))))) rfl (show BlkOk qW (aI lP) _ [0] by trivial)) (cr (by decide)))))
def pT:yX:=bo 3 0
 (vg (aG pS (am (aa 0) (am (fX (ad bA (aa 0) (aC (.int 1)))) (am (aa 1) (am (aa 2) aD))))))
theorem Zrv (T:Txt K mg):ACal (aY cn) P w K mg base "cheapest" 2 ["shop","by_level","scale"] pT:=bF T.Zqr Zhv rfl λf cdv A outer sh H E hr=>by
 exact (aM (ZrD (aJ (Zru T) (hr.mono (by decide)) rfl (ao (ac (pv 0)) (ao (iW (bi bh cy (ac (pv 0)) (df rfl T.p8) (λ_ _=>rfl))) (ao (ac (pv 1)) (ao (ac (pv 2)) aE)))))))
def pF:yX:=bo 1 2
 (ap (i7 (cY (bB (aw 1) (bB (aw 2) cO))) (aa 0))
 (bb (qI "/" (aH (aG jx (am (aa 1) aD))) (aH (aG jx (am (aa 2) aD))))))
theorem Zrb (T:Txt K mg):ACal (aY cn) P w K mg base "show_share" 2 ["one"] pF:=bF T.Zp9 rQ rfl λf cdv A outer sh H E hr=>by
 exact (av (kR (kn (ac (pv 0)) (gG rfl (cT (bg (bf (i:=1) rQ.nd rfl (.inl rfl))) (cT (bg (bf (i:=2) rQ.nd rfl (.inl rfl))) gF)) (cP (cP gy)))))
 (aM (bd (Ze7 (aL (aJ (uQ T) (hr.mono (by decide)) rfl (ao (ac (pv 1)) aE))) (aL (aJ (uQ T) (hr.mono (by decide)) rfl (ao (ac (pv 2)) aE)))))))
def mx:yX:=bo 1 2
 (ap (aX 1 (aH (aG bZ (bG 0 (am (aC (.int 8)) aD)))))
 (ap (b7 (bc (ad (db λi j=>decide (i > j)) (aa 1) (aC (.int 5))))
  (ap (aX 2 (ad cU (ad cm (aH (aG bZ (bG 0 (am (ad iw (aC (.int 10)) (aC (.int 6))) aD)))) (ad iw (aC (.int 10)) (aC (.int 6)))) (aH (aG bZ (bG 0 (am (ad iw (aC (.int 10)) (aC (.int 6))) aD))))))
 (bb (ad cm (ad cU (aa 2) (ad cm (ad iw (aC (.int 10)) (aC (.int 29))) (ad eQ (aa 1) (aC (.int 6))))) (ad eQ (aC (.int 1)) (ad cm (aC (.int 2)) (aH (aG bZ (bG 0 (am (aC (.int 2)) aD)))))))))
  bQ)
 (bb (ad eQ (aH (aG bZ (bG 0 (am (ad bA (bw (cq (af (aC (.int 7)) (af (aC (.int 31)) (af (aC (.int 2000)) aq))))) (ad iH (aa 1) (aC (.int 3)))) aD)))) (ad bA (bw (cq (af (aC (.int 3)) (af (aC (.int 15)) (af (aC (.int 1000)) aq))))) (ad iH (aa 1) (aC (.int 3))))))))
theorem Zev (T:Txt K mg):ACal (aY cn) P w K mg base "_law_number" 2 ["_law_pen_here"] mx:=bF T.Zqy rX rfl λf cdv A outer sh H E hr=>by
 exact (av (a9 (aO (i:=1) rX.nd rfl (.inl rfl) (aL (aJ (cf T) (hr.mono (by decide)) rfl (bP (pv 0) (ao ai aE))))))
 (av (cg (bE kz dL (ac (pv 1)) ai (nomark _))
  (av (a9 (aO (i:=2) rX.nd rfl (.inl rfl) (ak gm gg (ak cN cJ (aL (aJ (cf T) (hr.mono (by decide)) rfl (bP (pv 0) (ao (ak ky nE ai ai) aE)))) (ak ky nE ai ai)) (aL (aJ (cf T) (hr.mono (by decide)) rfl (bP (pv 0) (ao (ak ky nE ai ai) aE)))))))
 (aM (bd (ak cN cJ (ak gm gg (ac (pv 2)) (ak cN cJ (ak ky nE ai ai) (ak gl gf (ac (pv 1)) ai))) (ak gl gf ai (ak cN cJ ai (aL (aJ (cf T) (hr.mono (by decide)) rfl (bP (pv 0) (ao ai aE))))))))))
  bV)
 (aM (bd (ak gl gf (aL (aJ (cf T) (hr.mono (by decide)) rfl (bP (pv 0) (ao (bi bh cy (by refine bW ?_; refine cD ?_; refine aQ ?_ ?_; exact ai; refine aQ ?_ ?_; exact ai; refine aQ ?_ ?_; exact ai; exact au) (ak o8 nF (ac (pv 1)) ai) (λ_ _=>rfl)) aE)))) (bi bh cy (by refine bW ?_; refine cD ?_; refine aQ ?_ ?_; exact ai; refine aQ ?_ ?_; exact ai; refine aQ ?_ ?_; exact ai; exact au) (ak o8 nF (ac (pv 1)) ai) (λ_ _=>rfl)))))))
def my:yX:=bo 2 1
 (ap (aX 2 (ad cm (aH (aG mz (am (aa 0) (am (aa 1) aD)))) (ad eQ (aC (.int 1)) (ad cm (aC (.int 2)) (aW iO (af (ad (db λi j=>decide (i < j)) (aa 1) (aC (.int 0))) aq))))))
 (bb (dg (af (ad iS (aa 0) (aa 2)) (af (ad iS (aa 1) (aa 2)) aq)))))
theorem Zrn (T:Txt K mg):ACal (aY cn) P w K mg base "_law_lowest" 2 ["_law_top","_law_bottom"] my:=bF T.Zqz Zbg rfl λf cdv A outer sh H E hr=>by
 exact (av (a9 (aO (i:=2) Zbg.nd rfl (.inl rfl) (ak cN cJ (aL (aJ (Zew T) (hr.mono (by decide)) rfl (ao (ac (pv 0)) (ao (ac (pv 1)) aE)))) (ak gl gf ai (ak cN cJ ai (aZ (t:=aR) (bS Zep rfl T.mh boot_int (aj (hZ iz dL (ac (pv 1)) ai (nomark _)) au)) Zas))))))
 (aM (bd (dI (aj (ak o9 nI (ac (pv 0)) (ac (pv 2))) (aj (ak o9 nI (ac (pv 1)) (ac (pv 2))) au))))))
def pO:yX:=bo 2 9
 (ap (aX 2 (aH (aG bZ (bG 0 (am (aC (.int 8)) aD)))))
 (ap (aX 3 (aH (aG bZ (bG 0 (am (ad aN (aW dG (af (aa 1) aq)) (aC (.int 1))) aD)))))
 (ap (aX 4 (aC (.str " !\"#$&'()*+,-./0123456789:;<=>?@ABCDEFGHIJKLMNOPQRSTUVWXYZ[\\]^_`")))
 (ap (aX 4 (ad aN (aa 4) (aC (.str "abcdefghijklmnopqrstuvwxyz{|}~\n"))))
 (ap (aX 5 (aC (.str " ,-/@0123456789\n")))
 (ap (aX 6 (ad bM (bw (cq (af (ad bM (aa 4) (aH (aG bZ (bG 0 (am (aW dG (af (aa 4) aq)) aD))))) (af (ad bM (aa 5) (aH (aG bZ (bG 0 (am (aW dG (af (aa 5) aq)) aD))))) aq)))) (aH (aG bZ (bG 0 (am (aC (.int 2)) aD))))))
 (ap (b7 (bc (ad (db λi j=>decide (i < j)) (aa 2) (aC (.int 2))))
  (bb (ad aN (ad aN (dr (aa 1) dw (dh (aa 3))) (aa 6)) (dr (aa 1) (dh (aa 3)) dw)))
  bQ)
 (ap (b7 (bc (ad da (aa 2) (aC (.int 2))))
  (bb (ad aN (dr (aa 1) dw (dh (aa 3))) (dr (aa 1) (dh (ad aN (aa 3) (aC (.int 1)))) dw)))
  bQ)
 (ap (b7 (bc (ad (db λi j=>decide (i < j)) (aa 2) (aC (.int 5))))
  (bb (ad aN (ad aN (dr (aa 1) dw (dh (aa 3))) (aa 6)) (dr (aa 1) (dh (ad aN (aa 3) (aC (.int 1)))) dw)))
  bQ)
 (ap (aX 7 (ad bM (bw (cq (af (aC (.str " ")) (af (aC (.str ",")) (af (aC (.str "\n")) (af (aC (.str "/")) aq)))))) (aH (aG bZ (bG 0 (am (aC (.int 4)) aD))))))
 (ap (aX 8 (ad cK (aa 1) (aa 7)))
 (ap (aX 9 (aH (aG bZ (bG 0 (am (aW dG (af (aa 8) aq)) aD)))))
 (ap (b7 (bc (ad da (aa 2) (aC (.int 5))))
  (ap (aX 10 (bw (cq (af (aC (.str "")) (af (aC (.str "00")) (af (aC (.str "01")) (af (aC (.str "-0")) (af (aC (.str "--1")) (af (aC (.str "+1")) (af (aC (.str "1_0")) (af (aC (.str "x")) (af (aC (.str "0x1")) (af (aC (.str "1.0")) (af (aC (.str "1e3")) (af (aC (.str "1/2")) (af (aC (.str "1@2")) (af (aC (.str "-")) (af (aC (.str "1,")) (af (ad gX (aC (.str "7")) (aC (.int 4400))) aq)))))))))))))))))))
 (bb (ad cv (aa 7) (ad aN (ad aN (dr (aa 8) dw (dh (aa 9))) (bw (cq (af (ad bM (aa 10) (aH (aG bZ (bG 0 (am (aC (.int 16)) aD))))) aq)))) (dr (aa 8) (dh (ad aN (aa 9) (aC (.int 1)))) dw)))))
  bQ)
 (ap (b7 (bc (ad da (aa 2) (aC (.int 6))))
  (bb (ad cv (aa 7) (ad aN (dr (aa 8) dw (dh (aa 9))) (dr (aa 8) (dh (ad aN (aa 9) (aC (.int 1)))) dw))))
  bQ)
 (bb (ad cv (aa 7) (ad aN (dr (aa 8) dw (dh (ad aN (aa 9) (aC (.int 1))))) (dr (aa 8) (dh (aa 9)) dw))))))))))))))))))
theorem Zrq (T:Txt K mg):ACal (aY cn) P w K mg base "_law_bent_text" 2 ["_law_pen_here","_law_text"] pO:=bF T.ZqF fI rfl λf cdv A outer sh H E hr=>by
 refine @L2.av _ _ _ _ _ _ ?_ ?_; (refine @L2.a9 _ _ _ _ _ ?_; (refine @L2.aO _ _ (2) _ _ _ _ fI.nd rfl (.inl rfl) ?_ (by rfl) (by first   | exact .inl rfl   | exact .inr rfl   | assumption); (refine @L2.aL _ _ _ _ ?_; (refine @L2.aJ _ _ _ _ _ _ _ _ _ _ _ (cf T) (hr.mono (by decide)) rfl ?_ (by decide) (by rfl) (by rfl); (refine @L2.bP _ _ _ _ _ _ (pv 0) ?_ (by rfl); (exact @L2.ao _ _ _ _ _ _ ai aE (by rfl))))))); (refine @L2.av _ _ _ _ _ _ ?_ ?_; (refine @L2.a9 _ _ _ _ _ ?_; (refine @L2.aO _ _ (3) _ _ _ _ fI.nd rfl (.inl rfl) ?_ (by rfl) (by first   | exact .inl rfl   | exact .inr rfl   | assumption); (refine @L2.aL _ _ _ _ ?_; (refine @L2.aJ _ _ _ _ _ _ _ _ _ _ _ (cf T) (hr.mono (by decide)) rfl ?_ (by decide) (by rfl) (by rfl); (refine @L2.bP _ _ _ _ _ _ (pv 0) ?_ (by rfl); (refine @L2.ao _ _ _ _ _ _ ?_ aE (by rfl); (refine @L2.ak _ _ _ _ _ _ _ _ _ _ aV aU ?_ ai; (refine @L2.aZ _ _ _ _ (aR) _ _ (by refine @L2.bj _ _ _ _ _ _ _ _ _ fU rfl T.eM boot_len ?_ (by decide) (by decide) (by rfl) (by rfl); (refine @L2.aj _ _ _ _ _ _ ?_ au (by rfl); (exact (ac (pv 1))))) fG)))))))); (refine @L2.av _ _ _ _ _ _ ?_ ?_; (refine @L2.a9 _ _ _ _ _ ?_; (exact @L2.aO _ _ (4) _ _ _ _ fI.nd rfl (.inl rfl) aB (by rfl) (by first   | exact .inl rfl   | exact .inr rfl   | assumption))); (refine @L2.av _ _ _ _ _ _ ?_ ?_; (refine @L2.a9 _ _ _ _ _ ?_; (refine @L2.aO _ _ (4) _ _ _ _ fI.nd rfl (.inl rfl) ?_ (by rfl) (by first   | exact .inl rfl   | exact .inr rfl   | assumption); (refine @L2.ak _ _ _ _ _ _ _ _ _ _ aV aU ?_ aB; (exact (ac (pv 4)))))); (refine @L2.av _ _ _ _ _ _ ?_ ?_; (refine @L2.a9 _ _ _ _ _ ?_; (exact @L2.aO _ _ (5) _ _ _ _ fI.nd rfl (.inl rfl) aB (by rfl) (by first   | exact .inl rfl   | exact .inr rfl   | assumption))); (refine @L2.av _ _ _ _ _ _ ?_ ?_; (refine @L2.a9 _ _ _ _ _ ?_; (refine @L2.aO _ _ (6) _ _ _ _ fI.nd rfl (.inl rfl) ?_ (by rfl) (by first   | exact .inl rfl   | exact .inr rfl   | assumption); (refine @L2.bi _ _ _ _ _ _ _ _ _ bh cx ?_ ?_ (λ_ _=>rfl); (refine @L2.bW _ _ _ _ ?_; (refine @L2.cD _ _ _ _ _ ?_; (refine @L2.aQ _ _ _ _ _ _ ?_ ?_ (by rfl); (refine @L2.bi _ _ _ _ _ _ _ _ _ bh cx ?_ ?_ (λ_ _=>rfl); (exact (ac (pv 4))); (refine @L2.aL _ _ _ _ ?_; (refine @L2.aJ _ _ _ _ _ _ _ _ _ _ _ (cf T) (hr.mono (by decide)) rfl ?_ (by decide) (by rfl) (by rfl); (refine @L2.bP _ _ _ _ _ _ (pv 0) ?_ (by rfl); (refine @L2.ao _ _ _ _ _ _ ?_ aE (by rfl); (refine @L2.aZ _ _ _ _ (aR) _ _ (by refine @L2.bj _ _ _ _ _ _ _ _ _ fU rfl T.eM boot_len ?_ (by decide) (by decide) (by rfl) (by rfl); (refine @L2.aj _ _ _ _ _ _ ?_ au (by rfl); (exact (ac (pv 4))))) fG)))))); (refine @L2.aj _ _ _ _ _ _ ?_ au (by rfl); (refine @L2.bi _ _ _ _ _ _ _ _ _ bh cx ?_ ?_ (λ_ _=>rfl); (exact (ac (pv 5))); (refine @L2.aL _ _ _ _ ?_; (refine @L2.aJ _ _ _ _ _ _ _ _ _ _ _ (cf T) (hr.mono (by decide)) rfl ?_ (by decide) (by rfl) (by rfl); (refine @L2.bP _ _ _ _ _ _ (pv 0) ?_ (by rfl); (refine @L2.ao _ _ _ _ _ _ ?_ aE (by rfl); (refine @L2.aZ _ _ _ _ (aR) _ _ (by refine @L2.bj _ _ _ _ _ _ _ _ _ fU rfl T.eM boot_len ?_ (by decide) (by decide) (by rfl) (by rfl); (refine @L2.aj _ _ _ _ _ _ ?_ au (by rfl); (exact (ac (pv 5))))) fG)))))))))); (refine @L2.aL _ _ _ _ ?_; (refine @L2.aJ _ _ _ _ _ _ _ _ _ _ _ (cf T) (hr.mono (by decide)) rfl ?_ (by decide) (by rfl) (by rfl); (refine @L2.bP _ _ _ _ _ _ (pv 0) ?_ (by rfl); (exact @L2.ao _ _ _ _ _ _ ai aE (by rfl)))))))); (refine @L2.av _ _ _ _ _ _ ?_ ?_; (refine @L2.cg _ _ _ _ _ _ _ _ _ ?_ ?_ bV; (refine @L2.bE _ _ _ _ _ _ _ _ _ _ iz dL ?_ ai (nomark _); (exact (ac (pv 2)))); (refine @L2.aM _ _ _ _ ?_; (refine @L2.bd _ _ _ _ _ ?_; (refine @L2.ak _ _ _ _ _ _ _ _ _ _ aV aU ?_ ?_; (refine @L2.ak _ _ _ _ _ _ _ _ _ _ aV aU ?_ ?_; (refine @L2.dX _ _ _ _ _ _ _ _ _ _ ?_ dU ?_; (exact (ac (pv 1))); (refine @L2.dS _ _ _ _ ?_; (exact (ac (pv 3))))); (exact (ac (pv 6)))); (refine @L2.dX _ _ _ _ _ _ _ _ _ _ ?_ ?_ dU; (exact (ac (pv 1))); (refine @L2.dS _ _ _ _ ?_; (exact (ac (pv 3))))))))); (refine @L2.av _ _ _ _ _ _ ?_ ?_; (refine @L2.cg _ _ _ _ _ _ _ _ _ ?_ ?_ bV; (refine @L2.bE _ _ _ _ _ _ _ _ _ _ ?_ eC ?_ ai (nomark _); (exact (eK hr)); (exact (ac (pv 2)))); (refine @L2.aM _ _ _ _ ?_; (refine @L2.bd _ _ _ _ _ ?_; (refine @L2.ak _ _ _ _ _ _ _ _ _ _ aV aU ?_ ?_; (refine @L2.dX _ _ _ _ _ _ _ _ _ _ ?_ dU ?_; (exact (ac (pv 1))); (refine @L2.dS _ _ _ _ ?_; (exact (ac (pv 3))))); (refine @L2.dX _ _ _ _ _ _ _ _ _ _ ?_ ?_ dU; (exact (ac (pv 1))); (refine @L2.dS _ _ _ _ ?_; (refine @L2.ak _ _ _ _ _ _ _ _ _ _ aV aU ?_ ai; (exact (ac (pv 3)))))))))); (refine @L2.av _ _ _ _ _ _ ?_ ?_; (refine @L2.cg _ _ _ _ _ _ _ _ _ ?_ ?_ bV; (refine @L2.bE _ _ _ _ _ _ _ _ _ _ iz dL ?_ ai (nomark _); (exact (ac (pv 2)))); (refine @L2.aM _ _ _ _ ?_; (refine @L2.bd _ _ _ _ _ ?_; (refine @L2.ak _ _ _ _ _ _ _ _ _ _ aV aU ?_ ?_; (refine @L2.ak _ _ _ _ _ _ _ _ _ _ aV aU ?_ ?_; (refine @L2.dX _ _ _ _ _ _ _ _ _ _ ?_ dU ?_; (exact (ac (pv 1))); (refine @L2.dS _ _ _ _ ?_; (exact (ac (pv 3))))); (exact (ac (pv 6)))); (refine @L2.dX _ _ _ _ _ _ _ _ _ _ ?_ ?_ dU; (exact (ac (pv 1))); (refine @L2.dS _ _ _ _ ?_; (refine @L2.ak _ _ _ _ _ _ _ _ _ _ aV aU ?_ ai; (exact (ac (pv 3)))))))))); (refine @L2.av _ _ _ _ _ _ ?_ ?_; (refine @L2.a9 _ _ _ _ _ ?_; (refine @L2.aO _ _ (7) _ _ _ _ fI.nd rfl (.inl rfl) ?_ (by rfl) (by first   | exact .inl rfl   | exact .inr rfl   | assumption); (refine @L2.bi _ _ _ _ _ _ _ _ _ bh cx ?_ ?_ (λ_ _=>rfl); (refine @L2.bW _ _ _ _ ?_; (refine @L2.cD _ _ _ _ _ ?_; (refine @L2.aQ _ _ _ _ _ _ aB ?_ (by rfl); (refine @L2.aQ _ _ _ _ _ _ aB ?_ (by rfl); (refine @L2.aj _ _ _ _ _ _ aB ?_ (by rfl); (exact @L2.aj _ _ _ _ _ _ aB au (by rfl))))))); (refine @L2.aL _ _ _ _ ?_; (refine @L2.aJ _ _ _ _ _ _ _ _ _ _ _ (cf T) (hr.mono (by decide)) rfl ?_ (by decide) (by rfl) (by rfl); (refine @L2.bP _ _ _ _ _ _ (pv 0) ?_ (by rfl); (exact @L2.ao _ _ _ _ _ _ ai aE (by rfl)))))))); (refine @L2.av _ _ _ _ _ _ ?_ ?_; (refine @L2.a9 _ _ _ _ _ ?_; (refine @L2.aO _ _ (8) _ _ _ _ fI.nd rfl (.inl rfl) ?_ (by rfl) (by first   | exact .inl rfl   | exact .inr rfl   | assumption); (refine @L2.de _ _ _ _ _ _ _ _ _ _ _ _ vY vX eN eE eG ?_ ?_ (by rfl) (by rfl) (by rfl) (by rfl) (by rfl); (exact (ac (pv 1))); (exact (ac (pv 7)))))); (refine @L2.av _ _ _ _ _ _ ?_ ?_; (refine @L2.a9 _ _ _ _ _ ?_; (refine @L2.aO _ _ (9) _ _ _ _ fI.nd rfl (.inl rfl) ?_ (by rfl) (by first   | exact .inl rfl   | exact .inr rfl   | assumption); (refine @L2.aL _ _ _ _ ?_; (refine @L2.aJ _ _ _ _ _ _ _ _ _ _ _ (cf T) (hr.mono (by decide)) rfl ?_ (by decide) (by rfl) (by rfl); (refine @L2.bP _ _ _ _ _ _ (pv 0) ?_ (by rfl); (refine @L2.ao _ _ _ _ _ _ ?_ aE (by rfl); (refine @L2.aZ _ _ _ _ (aR) _ _ (by refine @L2.bj _ _ _ _ _ _ _ _ _ fU rfl T.eM boot_len ?_ (by decide) (by decide) (by rfl) (by rfl); (refine @L2.aj _ _ _ _ _ _ ?_ au (by rfl); (exact (ac (pv 8))))) fG))))))); (refine @L2.av _ _ _ _ _ _ ?_ ?_; (refine @L2.cg _ _ _ _ _ _ _ _ _ ?_ ?_ bV; (refine @L2.bE _ _ _ _ _ _ _ _ _ _ ?_ eC ?_ ai (nomark _); (exact (eK hr)); (exact (ac (pv 2)))); (refine @L2.av _ _ _ _ _ _ ?_ ?_; (refine @L2.a9 _ _ _ _ _ ?_; (refine @L2.aO _ _ (10) _ _ _ _ fI.nd rfl (.inl rfl) ?_ (by rfl) (by first   | exact .inl rfl   | exact .inr rfl   | assumption); (refine @L2.bW _ _ _ _ ?_; (refine @L2.cD _ _ _ _ _ ?_; (refine @L2.aQ _ _ _ _ _ _ aB ?_ (by rfl); (refine @L2.aQ _ _ _ _ _ _ aB ?_ (by rfl); (refine @L2.aQ _ _ _ _ _ _ aB ?_ (by rfl); (refine @L2.aQ _ _ _ _ _ _ aB ?_ (by rfl); (refine @L2.aQ _ _ _ _ _ _ aB ?_ (by rfl); (refine @L2.aQ _ _ _ _ _ _ aB ?_ (by rfl); (refine @L2.aQ _ _ _ _ _ _ aB ?_ (by rfl); (refine @L2.aQ _ _ _ _ _ _ aB ?_ (by rfl); (refine @L2.aQ _ _ _ _ _ _ aB ?_ (by rfl); (refine @L2.aQ _ _ _ _ _ _ aB ?_ (by rfl); (refine @L2.aQ _ _ _ _ _ _ aB ?_ (by rfl); (refine @L2.aQ _ _ _ _ _ _ aB ?_ (by rfl); (refine @L2.aQ _ _ _ _ _ _ aB ?_ (by rfl); (refine @L2.aQ _ _ _ _ _ _ aB ?_ (by rfl); (refine @L2.aj _ _ _ _ _ _ aB ?_ (by rfl); (refine @L2.aj _ _ _ _ _ _ ?_ au (by rfl); (exact (ak Zck Zao aB ai)))))))))))))))))))))); (refine @L2.aM _ _ _ _ ?_; (refine @L2.bd _ _ _ _ _ ?_; (refine @L2.de _ _ _ _ _ _ _ _ _ _ _ _ xC xB pj rA t9 ?_ ?_ (by rfl) (by rfl) (by rfl) (by rfl) (by rfl); (exact (ac (pv 7))); (refine @L2.ak _ _ _ _ _ _ _ _ _ _ aV aU ?_ ?_; (refine @L2.ak _ _ _ _ _ _ _ _ _ _ aV aU ?_ ?_; (refine @L2.dX _ _ _ _ _ _ _ _ _ _ ?_ dU ?_; (exact (ac (pv 8))); (refine @L2.dS _ _ _ _ ?_; (exact (ac (pv 9))))); (refine @L2.bW _ _ _ _ ?_; (refine @L2.cD _ _ _ _ _ ?_; (refine @L2.aj _ _ _ _ _ _ ?_ au (by rfl); (refine @L2.bi _ _ _ _ _ _ _ _ _ bh cx ?_ ?_ (λ_ _=>rfl); (exact (ac (pv 10))); (refine @L2.aL _ _ _ _ ?_; (refine @L2.aJ _ _ _ _ _ _ _ _ _ _ _ (cf T) (hr.mono (by decide)) rfl ?_ (by decide) (by rfl) (by rfl); (refine @L2.bP _ _ _ _ _ _ (pv 0) ?_ (by rfl); (exact @L2.ao _ _ _ _ _ _ ai aE (by rfl)))))))))); (refine @L2.dX _ _ _ _ _ _ _ _ _ _ ?_ ?_ dU; (exact (ac (pv 8))); (refine @L2.dS _ _ _ _ ?_; (refine @L2.ak _ _ _ _ _ _ _ _ _ _ aV aU ?_ ai; (exact (ac (pv 9)))))))))))); (refine @L2.av _ _ _ _ _ _ ?_ ?_; (refine @L2.cg _ _ _ _ _ _ _ _ _ ?_ ?_ bV; (refine @L2.bE _ _ _ _ _ _ _ _ _ _ ?_ eC ?_ ai (nomark _); (exact (eK hr)); (exact (ac (pv 2)))); (refine @L2.aM _ _ _ _ ?_; (refine @L2.bd _ _ _ _ _ ?_; (refine @L2.de _ _ _ _ _ _ _ _ _ _ _ _ xC xB pj rA t9 ?_ ?_ (by rfl) (by rfl) (by rfl) (by rfl) (by rfl); (exact (ac (pv 7))); (refine @L2.ak _ _ _ _ _ _ _ _ _ _ aV aU ?_ ?_; (refine @L2.dX _ _ _ _ _ _ _ _ _ _ ?_ dU ?_; (exact (ac (pv 8))); (refine @L2.dS _ _ _ _ ?_; (exact (ac (pv 9))))); (refine @L2.dX _ _ _ _ _ _ _ _ _ _ ?_ ?_ dU; (exact (ac (pv 8))); (refine @L2.dS _ _ _ _ ?_; (refine @L2.ak _ _ _ _ _ _ _ _ _ _ aV aU ?_ ai; (exact (ac (pv 9))))))))))); (refine @L2.aM _ _ _ _ ?_; (refine @L2.bd _ _ _ _ _ ?_; (refine @L2.de _ _ _ _ _ _ _ _ _ _ _ _ xC xB pj rA t9 ?_ ?_ (by rfl) (by rfl) (by rfl) (by rfl) (by rfl); (exact (ac (pv 7))); (refine @L2.ak _ _ _ _ _ _ _ _ _ _ aV aU ?_ ?_; (refine @L2.dX _ _ _ _ _ _ _ _ _ _ ?_ dU ?_; (exact (ac (pv 8))); (refine @L2.dS _ _ _ _ ?_; (refine @L2.ak _ _ _ _ _ _ _ _ _ _ aV aU ?_ ai; (exact (ac (pv 9)))))); (refine @L2.dX _ _ _ _ _ _ _ _ _ _ ?_ ?_ dU; (exact (ac (pv 8))); (refine @L2.dS _ _ _ _ ?_; (exact (ac (pv 9))))))))))))))))))))))
noncomputable def lY:yT :=
 (aH (aG dE (am (aa 0) aD)))
def gZ:yX:=bo 1 2
 (ap (aX 1 (ad cK (aa 0) (aC (.str "@"))))
 (ap (b7 (e8 (bc (ad eS (aW dG (af (aa 1) aq)) (aC (.int 2)))) (bc (ad eS (aW dG (af (ad cK (ad bM (aa 1) (aC (.int 0))) (aC (.str "/"))) aq)) (aC (.int 2)))))
  (bb (aC .none))
  bQ)
 (ap (aX 2 (bw (cI (di (ad aN (ad cK (ad bM (aa 1) (aC (.int 0))) (aC (.str "/"))) (dr (aa 1) (dh (aC (.int 1))) dw))) 1 [] (aw 0) lY)))
 (ap (b7 (e8 (bc (ad (g7 false) (aC .none) (aa 2))) (e8 (bc (ad (db λi j=>decide (i < j)) (ad bM (aa 2) (aC (.int 1))) (aC (.int 1)))) (bc (ad eS (aH (aG mz (am (ad bM (aa 2) (aC (.int 0))) (am (ad bM (aa 2) (aC (.int 1))) aD)))) (aC (.int 1))))))
  (bb (aC .none))
  bQ)
 (bb (dg (af (dg (af (ad bM (aa 2) (aC (.int 0))) (af (ad bM (aa 2) (aC (.int 1))) aq))) (af (ad bM (aa 2) (aC (.int 2))) aq))))))))
theorem Zro (T:Txt K mg):ACal (aY cn) P w K mg base "_law_entry_of" 2 ["_law_word"] gZ:=bF T.ZqB rY rfl λf cdv A outer sh H E hr=>by
 exact (av (a9 (aO (i:=1) rY.nd rfl (.inl rfl) (de vY vX eN eE eG (ac (pv 0)) aB)))
 (av (cg (gE (fW (bE (gT hr) gL (aZ (t:=aR) (bj fU rfl T.eM boot_len (aj (ac (pv 1)) au)) fG) ai (nomark _)) (iV (bE (gT hr) gL (aZ (t:=aR) (bj fU rfl T.eM boot_len (aj (de vY vX eN eE eG (bi bh cx (ac (pv 1)) ai (λ_ _=>rfl)) aB) au)) fG) ai (nomark _)))))
  (aM (bd gH))
  bV)
 (av (uX (sI (i:=2) qZ ["_law_one"] [] rfl rY.nd rfl rfl (dH (ak aV aU (de vY vX eN eE eG (bi bh cx (ac (pv 1)) ai (λ_ _=>rfl)) aB) (dX (ac (pv 1)) (dS ai) dU))) (λb=>(bg (bf (i:=0) (show ((bN qZ ["_law_one"] [])).Nodup by trivial) rfl (.inl rfl)))) (λb=>(aL (aJ (Zrm T) (hr.mono (by decide)) rfl (ao (ac (pv 0)) aE)))) rfl (show BlkOk qZ (aI lS) _ [] by trivial) rfl) (cr (by decide)))
 (av (cg (gE (fW (bE (sZ hr) nG gH (ac (pv 2)) (by with_unfolding_all rfl)) (fW (bE iz dL (bi bh cx (ac (pv 2)) ai (λ_ _=>rfl)) ai (nomark _)) (iV (bE (gT hr) gL (aL (aJ (Zew T) (hr.mono (by decide)) rfl (ao (bi bh cx (ac (pv 2)) ai (λ_ _=>rfl)) (ao (bi bh cx (ac (pv 2)) ai (λ_ _=>rfl)) aE)))) ai (nomark _))))))
  (aM (bd gH))
  bV)
 (aM (bd (dI (aj (dI (aj (bi bh cx (ac (pv 2)) ai (λ_ _=>rfl)) (aj (bi bh cx (ac (pv 2)) ai (λ_ _=>rfl)) au))) (aj (bi bh cx (ac (pv 2)) ai (λ_ _=>rfl)) au)))))))))
noncomputable def oQ:yT :=
 (aH (aG mq (am (aa 0) aD)))
def pH:yX:=bo 1 1
 (ap (qJ (aH (aG mF (am (aa 0) aD))))
 (ap (aX 1 (aW dM (af (bw (cI (di (ad cK (aa 0) (aC (.str "/")))) 1 [] (aw 0) oQ)) aq)))
 (ap (b7 (eB (eA (aH (aG jz (am (aa 1) aD)))))
  kZ
  bQ)
 (fy 1))))
theorem Zre (T:Txt K mg):ACal (aY cn) P w K mg base "read_share" 3 ["text"] pH:=bF T.Zd3 nQ rfl λf cdv A outer sh H E hr=>by
 exact (av (ZeZ (aL (aJ (ZeB T) (hr.mono (by decide)) rfl (ao (ac (pv 0)) aE))))
 (av (a9 (aO (i:=1) nQ.nd rfl (.inl rfl) (aZ (t:=aR) (bS fv rfl T.eL boot_tuple (aj (bW (eO (eI jO ["word"] [] rfl (dH (de vY vX eN eE eG (ac (pv 0)) aB)) (λb=>(bg (bf (i:=0) (show ((bN jO ["word"] [])).Nodup by trivial) rfl (.inl rfl)))) (λb=>(aL (aJ (Zet T) (hr.mono (by decide)) rfl (ao (ac (pv 0)) aE)))) rfl (show BlkOk jO (aI kj) _ [] by trivial)) (cr (by decide)))) au)) e9)))
 (av (cg (eW (eV (aL (aJ (Zey T) (hr.mono (by decide)) rfl (ao (ac (pv 1)) aE)))))
  (aM nc)
  bV)
 (aM (kQ (pv 1))))))
noncomputable def oK:List Sl->Tr (Option PyData) :=
 (ig jW (am (aa 0) aD))
noncomputable def jV:List Sl->Tr (Option Re):=fZ 1 1
 (fE (nD (ig jX (am (aa 0) aD)))
 (fE (ro 1 (lh dM (li (jZ (di (ad cK (aa 0) (aC (.str "/")))) 1 [] (aw 0) oK))))
 (fE (j4 (eB (eA (aH (aG jz (am (aa 1) aD))))) jY (ge bQ))
 (ge (fy 1)))))
theorem ZqH (T:Txt K mg) {C:Addr} (hC:mg "NoText"=some (.ref C)) (xc:Xcl K C fV "ValueError.__new__"):XCal (aY cn) P w K mg base "read_share" 3 ["text"] C jV:=lf T.Zd3 nQ rfl λf cdv A outer sh H E hr=>by
 exact (jd (Zaf (jU (Zd9 (cn:=cn) T hC xc) (hr.mono (by decide)) rfl o5 (ao (ac (pv 0)) aE)))
 (jd (Zfu (aO (i:=1) nQ.nd rfl (.inl rfl) (rj e9 (bS fv rfl T.eL boot_tuple (aT (rl (rg (sR jO ["word"] [] rfl (Zc8) rfl rfl rfl (dH (de vY vX eN eE eG (ac (pv 0)) aB)) (λb=>(bg (bf (i:=0) (show ((bN jO ["word"] [])).Nodup by trivial) rfl (.inl rfl)))) (λb=>(jU (Zd8 (cn:=cn) T hC xc) (hr.mono (by decide)) rfl Zcd (ao (ac (pv 0)) aE))) rfl (show BlkOk jO (aI kj) _ [] by trivial)) (cr (by decide)))) bz)))))
 (jd (nz (eW (eV (aL (aJ (Zey T) (hr.mono (by decide)) rfl (ao (ac (pv 1)) aE))))) (jc (ny (oY xP xc rfl hC))) (jT bV))
 (jT (aM (kQ (pv 1)))))))
noncomputable def ZcL:yW :=
 (ap (aX 8 (ad bA (aa 3) (ad cU (aH (aG mr (am (aa 0) (am (aa 2) (am (aa 6) aD))))) (ad bA (aa 0) (aC (.int 1))))))
 (nr p6 5 (ad cm (aa 7) (ad cU (ad cm (aa 4) (aH (aG mD (am (aa 0) (am (aa 2) (am (aa 6) aD)))))) (aa 8)))))
def pE:yX:=bo 5 4
 (ap (aX 5 (aC (.int 0)))
 (ap (fY (vm (aa 1)) (cY (bB (aw 6) (bB (aw 7) cO))) ZcL)
 (fy 5)))
theorem Zra (T:Txt K mg):ACal (aY cn) P w K mg base "weighed" 3 ["shop","day","level","ahead","scale"] pE:=bF T.Zp6 kg rfl λf cdv A outer sh H E hr=>by
 exact (av (a9 (aO (i:=5) kg.nd rfl (.inl rfl) ai))
 (av (hV wD rfl (ZrK (ZiB rfl rfl T.ZjO (ac (pv 1)))) (gG rfl (cT (bg (bf (i:=6) kg.nd rfl (.inl rfl))) (cT (bg (bf (i:=7) kg.nd rfl (.inl rfl))) gF)) (cP (cP gy)))
  (av (a9 (aO (i:=8) kg.nd rfl (.inl rfl) (bi bh cy (ac (pv 3)) (ak gm gg (aL (aJ (Zeu T) (hr.mono (by decide)) rfl (ao (ac (pv 0)) (ao (ac (pv 2)) (ao (ac (pv 6)) aE))))) (bi bh cy (ac (pv 0)) (df rfl T.p8) (λ_ _=>rfl))) (λ_ _=>rfl))))
 (aM (Ze0 ZfR (Zb0 (i:=5) kg.nd rfl (.inl rfl) (ak cN cJ (ac (pv 7)) (ak gm gg (ak cN cJ (ac (pv 4)) (aL (aJ (Zrt T) (hr.mono (by decide)) rfl (ao (ac (pv 0)) (ao (ac (pv 2)) (ao (ac (pv 6)) aE)))))) (ac (pv 8)))) (pip Zk0))))))
 (aM (kQ (pv 5)))))
def pG:yX:=bo 1 2
 (ap (i7 (cY (bB (aw 1) (bB (aw 2) cO))) (aa 0))
 (bb (qI "@" (aH (aG pF (am (aa 1) aD))) (aH (aG jx (am (aa 2) aD))))))
theorem Zrc (T:Txt K mg):ACal (aY cn) P w K mg base "show_entry" 3 ["entry"] pG:=bF T.Zqb rR rfl λf cdv A outer sh H E hr=>by
 exact (av (kR (kn (ac (pv 0)) (gG rfl (cT (bg (bf (i:=1) rR.nd rfl (.inl rfl))) (cT (bg (bf (i:=2) rR.nd rfl (.inl rfl))) gF)) (cP (cP gy)))))
 (aM (bd (Ze7 (aL (aJ (Zrb T) (hr.mono (by decide)) rfl (ao (ac (pv 1)) aE))) (aL (aJ (uQ T) (hr.mono (by decide)) rfl (ao (ac (pv 2)) aE)))))))
noncomputable def oV:yT :=
 (aH (aG gZ (am (aa 0) aD)))
noncomputable def gt:yW :=
 (ap (aX 3 (bw (cI (di (ad cK (aa 2) (aC (.str " ")))) 1 [] (aw 0) oV)))
 (ap (b7 (bc (ad (g7 false) (aC .none) (aa 3)))
  (bb (aC .none))
  bQ)
 (gI 1 (aW dM (af (aa 3) aq)))))
def mv:yX:=bo 1 3
 (ap (i0 1 (cq aq))
 (ap (fY (di (ad cK (aa 0) (aC (.str "\n")))) (aw 2) gt)
 (jM 1 (bb (aW dM (af (aa 1) aq))))))
theorem Zrk (T:Txt K mg):ACal (aY cn) P w K mg base "_law_table_of" 3 ["_law_text"] mv:=bF T.Zqu nU rfl λf cdv A outer sh H E hr=>by
 exact (av (kP (aO (i:=1) nU.nd rfl (.inl rfl) (cD au)))
 (av (hV wD rfl (dH (de vY vX eN eE eG (ac (pv 0)) aB)) (bg (bf (i:=2) nU.nd rfl (.inl rfl)))
  (av (uX (sI (i:=3) qX ["_law_word"] [] rfl nU.nd rfl rfl (dH (de vY vX eN eE eG (ac (pv 2)) aB)) (λb=>(bg (bf (i:=0) (show ((bN qX ["_law_word"] [])).Nodup by trivial) rfl (.inl rfl)))) (λb=>(aL (aJ (Zro T) (hr.mono (by decide)) rfl (ao (ac (pv 0)) aE)))) rfl (show BlkOk qX (aI lQ) _ [] by trivial) rfl) (cr (by decide)))
 (av (cg (bE (sZ hr) nG gH (ac (pv 3)) (by with_unfolding_all rfl))
  (aM (bd gH))
  bV)
 (aM (jJ (fj (gS we wC wB ju (pv 1) (aT (aZ (t:=aR) (bS fv rfl T.eL boot_tuple (aj (ac (pv 3)) au)) e9) bz))))))))
 (aM (ng (k:=1) (bd (aZ (t:=aR) (bS fv rfl T.eL boot_tuple (aj (ac (pv 1)) au)) e9))))))
def pN:yX:=bo 1 2
 (ap (i7 (cY (bB (aw 1) (bB (aw 2) cO))) (aH (aG my (am (aH (aG mx (bG 0 aD))) (am (ad aN (aW h9 (af (aH (aG mx (bG 0 aD))) aq)) (aC (.int 1))) aD)))))
 (bb (ad aN (ad aN (ad aN (ad aN (aW dN (af (aa 1) aq)) (aC (.str "/"))) (aW dN (af (aa 2) aq))) (aC (.str "@"))) (aW dN (af (ad eQ (aH (aG bZ (bG 0 (am (aC (.int 40)) aD)))) (aC (.int 20))) aq)))))
theorem Zrp (T:Txt K mg):ACal (aY cn) P w K mg base "_law_entry" 3 ["_law_pen_here"] pN:=bF T.ZqC rZ rfl λf cdv A outer sh H E hr=>by
 exact (av (kR (kn (aL (aJ (Zrn T) (hr.mono (by decide)) rfl (ao (aL (aJ (Zev T) (hr.mono (by decide)) rfl (bP (pv 0) aE))) (ao (ak aV aU (aZ (t:=aR) (bj iU rfl T.iG boot_abs (aj (aL (aJ (Zev T) (hr.mono (by decide)) rfl (bP (pv 0) aE))) au)) j6) ai) aE)))) (gG rfl (cT (bg (bf (i:=1) rZ.nd rfl (.inl rfl))) (cT (bg (bf (i:=2) rZ.nd rfl (.inl rfl))) gF)) (cP (cP gy)))))
 (aM (bd (ak aV aU (ak aV aU (ak aV aU (ak aV aU (aZ (t:=aR) (bS fS rfl T.eT boot_str (aj (ac (pv 1)) au)) fF) aB) (aZ (t:=aR) (bS fS rfl T.eT boot_str (aj (ac (pv 2)) au)) fF)) aB) (aZ (t:=aR) (bS fS rfl T.eT boot_str (aj (ak gl gf (aL (aJ (cf T) (hr.mono (by decide)) rfl (bP (pv 0) (ao ai aE)))) ai) au)) fF)))))
def pI:yX:=bo 1 1
 (ap (aX 1 (ad cK (aa 0) (aC (.str "@"))))
 (ap (b7 (bc (ad eS (aW dG (af (aa 1) aq)) (aC (.int 2))))
  kZ
  bQ)
 (bb (dg (af (aH (aG pH (am (ad bM (aa 1) (aC (.int 0))) aD))) (af (aH (aG mq (am (ad bM (aa 1) (aC (.int 1))) aD))) aq))))))
theorem Zrf (T:Txt K mg):ACal (aY cn) P w K mg base "read_entry" 4 ["word"] pI:=bF T.Zd5 nR rfl λf cdv A outer sh H E hr=>by
 exact (av (a9 (aO (i:=1) nR.nd rfl (.inl rfl) (de vY vX eN eE eG (ac (pv 0)) aB)))
 (av (cg (bE (gT hr) gL (aZ (t:=aR) (bj fU rfl T.eM boot_len (aj (ac (pv 1)) au)) fG) ai (nomark _))
  (aM nc)
  bV)
 (aM (bd (dI (aj (aL (aJ (Zre T) (hr.mono (by decide)) rfl (ao (bi bh cx (ac (pv 1)) ai (λ_ _=>rfl)) aE))) (aj (aL (aJ (Zet T) (hr.mono (by decide)) rfl (ao (bi bh cx (ac (pv 1)) ai (λ_ _=>rfl)) aE))) au)))))))
noncomputable def je:List Sl->Tr (Option Re):=fZ 1 1
 (fE (ge (aX 1 (ad cK (aa 0) (aC (.str "@")))))
 (fE (j4 (bc (ad eS (aW dG (af (aa 1) aq)) (aC (.int 2)))) jY (ge bQ))
 (nB (rn (ig jV (am (ad bM (aa 1) (aC (.int 0))) aD)) (ig jW (am (ad bM (aa 1) (aC (.int 1))) aD))))))
theorem ZqI (T:Txt K mg) {C:Addr} (hC:mg "NoText"=some (.ref C)) (xc:Xcl K C fV "ValueError.__new__"):XCal (aY cn) P w K mg base "read_entry" 4 ["word"] C je:=lf T.Zd5 nR rfl λf cdv A outer sh H E hr=>by
 exact (jd (Zfv (a9 (aO (i:=1) nR.nd rfl (.inl rfl) (de vY vX eN eE eG (ac (pv 0)) aB))))
 (jd (nz (bE (gT hr) gL (aZ (t:=aR) (bj fU rfl T.eM boot_len (aj (ac (pv 1)) au)) fG) ai (nomark _)) (jc (ny (oY xP xc rfl hC))) (jT bV))
 (jc (Zae (Zfw (jU (ZqH (cn:=cn) T hC xc) (hr.mono (by decide)) rfl o5 (ao (bi bh cx (ac (pv 1)) ai (λ_ _=>rfl)) aE)) (jU (Zd8 (cn:=cn) T hC xc) (hr.mono (by decide)) rfl o5 (ao (bi bh cx (ac (pv 1)) ai (λ_ _=>rfl)) aE)))))))
noncomputable def sy:yT :=
 (ad cU (ad cm (ad cm (aa 5) (ad bA (aa 1) (aC (.int 3)))) (aa 0)) (aH (aG pE (am (aa 1) (am (aa 2) (am (aa 0) (am (aa 3) (am (aa 4) aD))))))))
def pJ:yX:=bo 4 1
 (ap (aX 4 (ad cm (aa 3) (aW gN (af (aa 1) aq))))
 (qF (cI (k7 (aH (aG mj (am (aa 0) aD)))) 1 [0,1,2,3,4] (aw 0) sy)))
theorem Zrg (T:Txt K mg):ACal (aY cn) P w K mg base "level_sums" 4 ["shop","day","ahead","scale"] pJ:=bF T.Zqf Zbd rfl λf cdv A outer sh H E hr=>by
 exact (av (a9 (aO (i:=4) Zbd.nd rfl (.inr rfl) (ak cN cJ (ac (pv 3)) (aZ (t:=aR) (bj (Zem rfl) rfl T.Zcx boot_sum (aj (ac (pv 1)) au)) Zap))))
 (aM (ZeY (eO (eI qU ["level"] [0,1,2,3,4] rfl (qB (aL (aJ (Zeq T) (hr.mono (by decide)) rfl (ao (ac (pv 0)) aE)))) (λb=>(bg (bf (i:=0) (show ((bN qU ["level"] [0,1,2,3,4])).Nodup by trivial) rfl (.inl rfl)))) (λb=>(ak gm gg (ak cN cJ (ak cN cJ (ac (pv 5)) (bi bh cy (ac (pv 1)) (df rfl T.Zda) (λ_ _=>rfl))) (ac (pv 0))) (aL (aJ (Zra T) (hr.mono (by decide)) rfl (ao (ac (pv 1)) (ao (ac (pv 2)) (ao (ac (pv 0)) (ao (ac (pv 3)) (ao (ac (pv 4)) aE))))))))) rfl (show BlkOk qU (aI lM) _ [0,1,2,3,4] by trivial)) (cr (by decide))))))
noncomputable def oN:yT :=
 (aH (aG pG (am (aa 0) aD)))
noncomputable def oM:yT :=
 (ad cv (aC (.str " ")) (bw (cI (di (aa 0)) 1 [] (aw 0) oN)))
def ml:yX:=bo 1 0
 (bb (ad cv (aC (.str "\n")) (bw (cI (di (aa 0)) 1 [] (aw 0) oM))))
theorem Zer (T:Txt K mg):ACal (aY cn) P w K mg base "show_table" 4 ["table"] ml:=bF T.Zp8 Zhq rfl λf cdv A outer sh H E hr=>by
 exact (aM (bd (jK aB (bW (eO (eI lb ["day"] [] rfl (dH (ac (pv 0))) (λb=>(bg (bf (i:=0) (show ((bN lb ["day"] [])).Nodup by trivial) rfl (.inl rfl)))) (λb=>(jK aB (bW (eO (eI (bN lb ["day"] []) ["entry"] [] rfl (dH (ac (pv 0))) (λb=>(bg (bf (i:=0) (show ((bN (bN lb ["day"] []) ["entry"] [])).Nodup by trivial) rfl (.inl rfl)))) (λb=>(aL (aJ (Zrc T) (hr.mono (by decide)) rfl (ao (ac (pv 0)) aE)))) rfl (BlkOk.leaf rfl (by trivial) (by trivial))) (cr (by decide)))))) rfl (show BlkOk lb (aI lL) _ [] by trivial)) (cr (by decide)))))))
noncomputable def sC:yT :=
 (aH (aG pN (bG 1 aD)))
noncomputable def tY:yW :=
 (gI 3 (ad cv (aC (.str " ")) (bw (cI (i6 (af (ad aN (aC (.int 1)) (aH (aG bZ (bG 0 (am (aa 2) aD))))) aq)) 1 [0] (aw 0) sC))))
noncomputable def sB:yT :=
 (aH (aG pO (bG 1 (am (aa 2) aD))))
def pM:yX:=bo 2 7
 (ap (aX 2 (aW pz (af (ad bM (bw (cq (af (aC (.int 3)) (af (aC (.int 9)) (af (aC (.int 3)) (af (aC (.int 9)) (af (aC (.int 3)) (af (aC (.int 9)) (af (aC (.int 3)) (af (aC (.int 40)) aq)))))))))) (aH (aG bZ (bG 0 (am (aC (.int 8)) aD))))) (af (ad bM (bw (cq (af (aC (.int 40)) (af (aC (.int 9)) (af (aC (.int 9)) aq))))) (aa 1)) aq))))
 (ap (i0 3 (cq aq))
 (ap (fY (i6 (af (ad aN (aC (.int 1)) (aH (aG bZ (bG 0 (am (aC (.int 6)) aD))))) aq)) (aw 4) tY)
 (ap (jM 3 (aX 5 (ad cv (aC (.str "\n")) (aa 3))))
 (ap (aX 6 (ad aN (aC (.int 2)) (aH (aG bZ (bG 0 (am (aC (.int 9)) aD))))))
 (ap (aX 7 (bw (cq (af (aa 5) (af (ad aN (aa 5) (aC (.str "\n"))) (af (ad aN (aC (.str "\n")) (aa 5)) (af (ad aN (aa 5) (aC (.str " "))) (af (ad aN (aC (.str " ")) (aa 5)) (af (aC (.str "")) (af (aC (.str "1/1@0")) (af (aC (.str "1/1@")) (af (aC (.str "@1")) (af (aC (.str "1@1")) (af (aC (.str "1/1@1@1")) (af (aC (.str "1/1")) aq)))))))))))))))
 (ap (aX 7 (ad aN (aa 7) (bw (cq (af (ad aN (ad aN (ad aN (aW dN (af (aa 6) aq)) (aC (.str "/"))) (aW dN (af (aa 6) aq))) (aC (.str "@0"))) (af (ad aN (ad aN (aC (.str "0/")) (aW dN (af (aa 6) aq))) (aC (.str "@0"))) (af (aC (.str "-1/2@-3")) (af (aC (.str "1/-2@3")) (af (ad aN (ad aN (aa 5) (aC (.str "\n"))) (aa 5)) aq)))))))))
 (ap (aX 8 (ad aN (aC (.str "1")) (ad gX (aC (.str "0")) (ad aN (aC (.int 398)) (aH (aG bZ (bG 0 (am (aC (.int 3)) aD))))))))
 (ap (aX 7 (ad aN (aa 7) (bw (cq (af (ad aN (aa 8) (aC (.str "/3@0"))) (af (ad aN (ad aN (aC (.str "1/7")) (dr (aa 8) (dh (aC (.int 1))) dw)) (aC (.str "@0"))) (af (ad aN (aC (.str "0/1@-")) (aa 8)) (af (ad aN (ad aN (ad aN (ad aN (aa 5) (aC (.str " -"))) (aa 8)) (aC (.str "/9@"))) (aa 8)) aq))))))))
 (bb (ad aN (aa 7) (bw (cI (i6 (af (aC (.int 14)) aq)) 1 [0,5] (aw 0) sB)))))))))))))
theorem Zrj (T:Txt K mg):ACal (aY cn) P w K mg base "_law_texts" 4 ["_law_pen_here","_law_turn"] pM:=bF T.Zqt gk rfl λf cdv A outer sh H E hr=>by
 exact (av (a9 (aO (i:=2) gk.nd rfl (.inl rfl) (aZ (t:=aR) (bj (ZqZ rfl) rfl T.tH boot_min (aj (bi bh cx (by refine bW ?_; refine cD ?_; refine aQ ?_ ?_; exact ai; refine aQ ?_ ?_; exact ai; refine aQ ?_ ?_; exact ai; refine aQ ?_ ?_; exact ai; refine aQ ?_ ?_; exact ai; refine aQ ?_ ?_; exact ai; refine aQ ?_ ?_; exact ai; refine aQ ?_ ?_; exact ai; exact au) (aL (aJ (cf T) (hr.mono (by decide)) rfl (bP (pv 0) (ao ai aE)))) (λ_ _=>rfl)) (aj (bi bh cx (by refine bW ?_; refine cD ?_; refine aQ ?_ ?_; exact ai; refine aQ ?_ ?_; exact ai; refine aQ ?_ ?_; exact ai; exact au) (ac (pv 1)) (λ_ _=>rfl)) au))) ZfV)))
 (av (kP (aO (i:=3) gk.nd rfl (.inl rfl) (cD au)))
 (av (hV wD rfl (kS (kr rfl T.iE (aj (ak aV aU ai (aL (aJ (cf T) (hr.mono (by decide)) rfl (bP (pv 0) (ao ai aE))))) au))) (bg (bf (i:=4) gk.nd rfl (.inl rfl)))
  (aM (jJ (fj (gS we wC wB ju (pv 3) (aT (jK aB (bW (eO (eI jP ["_law_j"] [0] rfl (kS (kr rfl T.iE (aj (ak aV aU ai (aL (aJ (cf T) (hr.mono (by decide)) rfl (bP (pv 0) (ao (ac (pv 2)) aE))))) au))) (λb=>(bg (bf (i:=0) (show ((bN jP ["_law_j"] [0])).Nodup by trivial) rfl (.inl rfl)))) (λb=>(aL (aJ (Zrp T) (hr.mono (by decide)) rfl (bP (pv 1) aE)))) rfl (show BlkOk jP (aI km) _ [0] by trivial)) (cr (by decide))))) bz))))))
 (av (ng (k:=3) (a9 (aO (i:=5) gk.nd rfl (.inr rfl) (jK aB (ac (pv 3))))))
 (av (a9 (aO (i:=6) gk.nd rfl (.inl rfl) (ak aV aU ai (aL (aJ (cf T) (hr.mono (by decide)) rfl (bP (pv 0) (ao ai aE)))))))
 (av (a9 (aO (i:=7) gk.nd rfl (.inl rfl) (by refine bW ?_; refine cD ?_; refine aQ ?_ ?_; exact (ac (pv 5)); refine aQ ?_ ?_; exact (ak aV aU (ac (pv 5)) aB); refine aQ ?_ ?_; exact (ak aV aU aB (ac (pv 5))); refine aQ ?_ ?_; exact (ak aV aU (ac (pv 5)) aB); refine aQ ?_ ?_; exact (ak aV aU aB (ac (pv 5))); refine aQ ?_ ?_; exact aB; refine aQ ?_ ?_; exact aB; refine aQ ?_ ?_; exact aB; refine aQ ?_ ?_; exact aB; refine aQ ?_ ?_; exact aB; refine aQ ?_ ?_; exact aB; refine aQ ?_ ?_; exact aB; exact au)))
 (av (a9 (aO (i:=7) gk.nd rfl (.inl rfl) (ak aV aU (ac (pv 7)) (by refine bW ?_; refine cD ?_; refine aQ ?_ ?_; exact (ak aV aU (ak aV aU (ak aV aU (aZ (t:=aR) (bS fS rfl T.eT boot_str (aj (ac (pv 6)) au)) fF) aB) (aZ (t:=aR) (bS fS rfl T.eT boot_str (aj (ac (pv 6)) au)) fF)) aB); refine aQ ?_ ?_; exact (ak aV aU (ak aV aU aB (aZ (t:=aR) (bS fS rfl T.eT boot_str (aj (ac (pv 6)) au)) fF)) aB); refine aQ ?_ ?_; exact aB; refine aQ ?_ ?_; exact aB; refine aQ ?_ ?_; exact (ak aV aU (ak aV aU (ac (pv 5)) aB) (ac (pv 5))); exact au))))
 (av (a9 (aO (i:=8) gk.nd rfl (.inl rfl) (ak aV aU aB (ak Zck Zao aB (ak aV aU ai (aL (aJ (cf T) (hr.mono (by decide)) rfl (bP (pv 0) (ao ai aE)))))))))
 (av (a9 (aO (i:=7) gk.nd rfl (.inl rfl) (ak aV aU (ac (pv 7)) (by refine bW ?_; refine cD ?_; refine aQ ?_ ?_; exact (ak aV aU (ac (pv 8)) aB); refine aQ ?_ ?_; exact (ak aV aU (ak aV aU aB (dX (ac (pv 8)) (dS ai) dU)) aB); refine aQ ?_ ?_; exact (ak aV aU aB (ac (pv 8))); refine aQ ?_ ?_; exact (ak aV aU (ak aV aU (ak aV aU (ak aV aU (ac (pv 5)) aB) (ac (pv 8))) aB) (ac (pv 8))); exact au))))
 (aM (bd (ak aV aU (ac (pv 7)) (bW (eO (eI jP ["_law_k"] [0,5] rfl (kS (kr rfl T.iE (aj ai au))) (λb=>(bg (bf (i:=0) (show ((bN jP ["_law_k"] [0,5])).Nodup by trivial) rfl (.inl rfl)))) (λb=>(aL (aJ (Zrq T) (hr.mono (by decide)) rfl (bP (pv 1) (ao (ac (pv 2)) aE))))) rfl (show BlkOk jP (aI km) _ [0,5] by trivial)) (cr (by decide))))))))))))))))
noncomputable def oP:yT :=
 (aH (aG pI (am (aa 0) aD)))
noncomputable def oO:yT :=
 (aW dM (af (bw (cI (di (ad cK (aa 0) (aC (.str " ")))) 1 [] (aw 0) oP)) aq))
def mo:yX:=bo 1 0
 (ap (qJ (aH (aG mF (am (aa 0) aD))))
 (bb (aW dM (af (bw (cI (di (ad cK (aa 0) (aC (.str "\n")))) 1 [] (aw 0) oO)) aq))))
theorem Zes (T:Txt K mg):ACal (aY cn) P w K mg base "read_table" 5 ["text"] mo:=bF T.uK Zbb rfl λf cdv A outer sh H E hr=>by
 exact (av (ZeZ (aL (aJ (ZeB T) (hr.mono (by decide)) rfl (ao (ac (pv 0)) aE))))
 (aM (bd (aZ (t:=aR) (bS fv rfl T.eL boot_tuple (aj (bW (eO (eI f9 ["line"] [] rfl (dH (de vY vX eN eE eG (ac (pv 0)) aB)) (λb=>(bg (bf (i:=0) (show ((bN f9 ["line"] [])).Nodup by trivial) rfl (.inl rfl)))) (λb=>(aZ (t:=aR) (bS fv rfl T.eL boot_tuple (aj (bW (eO (eI (bN f9 ["line"] []) ["word"] [] rfl (dH (de vY vX eN eE eG (ac (pv 0)) aB)) (λb=>(bg (bf (i:=0) (show ((bN (bN f9 ["line"] []) ["word"] [])).Nodup by trivial) rfl (.inl rfl)))) (λb=>(aL (aJ (Zrf T) (hr.mono (by decide)) rfl (ao (ac (pv 0)) aE)))) rfl (BlkOk.leaf rfl (by trivial) (by trivial))) (cr (by decide)))) au)) e9)) rfl (show BlkOk f9 (aI ki) _ [] by trivial)) (cr (by decide)))) au)) e9))))
noncomputable def oJ:List Sl->Tr (Option PyData) :=
 (ig je (am (aa 0) aD))
noncomputable def oI:List Sl->Tr (Option PyData) :=
 (lh dM (li (jZ (di (ad cK (aa 0) (aC (.str " ")))) 1 [] (aw 0) oJ)))
noncomputable def ie:List Sl->Tr (Option Re):=fZ 1 0
 (fE (nD (ig jX (am (aa 0) aD)))
 (nB (lh dM (li (jZ (di (ad cK (aa 0) (aC (.str "\n")))) 1 [] (aw 0) oI)))))
theorem ZqG (T:Txt K mg) {C:Addr} (hC:mg "NoText"=some (.ref C)) (xc:Xcl K C fV "ValueError.__new__"):XCal (aY cn) P w K mg base "read_table" 5 ["text"] C ie:=lf T.uK Zbb rfl λf cdv A outer sh H E hr=>by
 exact (jd (Zaf (jU (Zd9 (cn:=cn) T hC xc) (hr.mono (by decide)) rfl o5 (ao (ac (pv 0)) aE)))
 (jc (Zae (rj e9 (bS fv rfl T.eL boot_tuple (aT (rl (rg (sR f9 ["line"] [] rfl (Zc8) rfl rfl rfl (dH (de vY vX eN eE eG (ac (pv 0)) aB)) (λb=>(bg (bf (i:=0) (show ((bN f9 ["line"] [])).Nodup by trivial) rfl (.inl rfl)))) (λb=>(rj e9 (bS fv rfl T.eL boot_tuple (aT (rl (rg (sR (bN f9 ["line"] []) ["word"] [] rfl (ZiZ) rfl rfl rfl (dH (de vY vX eN eE eG (ac (pv 0)) aB)) (λb=>(bg (bf (i:=0) (show ((bN (bN f9 ["line"] []) ["word"] [])).Nodup by trivial) rfl (.inl rfl)))) (λb=>(jU (ZqI (cn:=cn) T hC xc) (hr.mono (by decide)) rfl Zcd (ao (ac (pv 0)) aE))) rfl (BlkOk.leaf rfl (by trivial) (by trivial))) (cr (by decide)))) bz)))) rfl (show BlkOk f9 (aI ki) _ [] by trivial)) (cr (by decide)))) bz))))))
noncomputable def oS:yT :=
 (dg (af (aH (aG mn (am (aa 0) (am (aa 2) aD)))) (af (aa 1) aq)))
noncomputable def oR:yT :=
 (aa 0)
noncomputable def ZcM:yW :=
 (ap (aX 6 (aH (aG pJ (am (aa 0) (am (aa 5) (am (aa 3) (am (aa 4) aD)))))))
 (ap (nr mP 4 (aW gN (af (aa 5) aq)))
 (ap (aX 7 (aH (aG pT (am (aa 0) (am (aa 6) (am (aa 4) aD))))))
 (ap (gI 2 (aW dM (af (bw (cI (k7 (aa 7)) 2 [4] (cY (bB (aw 0) (bB (aw 1) cO))) oS)) aq)))
 (aX 3 (bw (cI (k7 (aa 7)) 2 [] (cY (bB (aw 0) (bB (aw 1) cO))) oR)))))))
def pK:yX:=bo 2 6
 (ap (i0 2 (cq aq))
 (ap (aX 3 (aH (aG pQ (am (aa 0) aD))))
 (ap (aX 4 (aC (.int 1)))
 (ap (fY (vf (aa 1)) (aw 5) ZcM)
 (ap (kX 2)
 (jM 2 (bb (aW dM (af (aa 2) aq)))))))))
theorem Zrh (T:Txt K mg):ACal (aY cn) P w K mg base "least" 5 ["shop","falls"] pK:=bF T.Zqg gP rfl λf cdv A outer sh H E hr=>by
 exact (av (kP (aO (i:=2) gP.nd rfl (.inl rfl) (cD au)))
 (av (a9 (aO (i:=3) gP.nd rfl (.inl rfl) (aL (aJ (Zrr T) (hr.mono (by decide)) rfl (ao (ac (pv 0)) aE)))))
 (av (a9 (aO (i:=4) gP.nd rfl (.inr rfl) ai))
 (av (hV wD rfl (ZrJ (Zb5 rfl T.Zcy (ac (pv 1)))) (bg (bf (i:=5) gP.nd rfl (.inl rfl)))
  (av (a9 (aO (i:=6) gP.nd rfl (.inl rfl) (aL (aJ (Zrg T) (hr.mono (by decide)) rfl (ao (ac (pv 0)) (ao (ac (pv 5)) (ao (ac (pv 3)) (ao (ac (pv 4)) aE))))))))
 (av (Ze0 ZfQ (Zb0 (i:=4) gP.nd rfl (.inr rfl) (aZ (t:=aR) (bj (Zem rfl) rfl T.Zcx boot_sum (aj (ac (pv 5)) au)) Zap) (pip ZkZ)))
 (av (a9 (aO (i:=7) gP.nd rfl (.inl rfl) (aL (aJ (Zrv T) (hr.mono (by decide)) rfl (ao (ac (pv 0)) (ao (ac (pv 6)) (ao (ac (pv 4)) aE)))))))
 (av (jJ (fj (gS we wC wB ju (pv 2) (aT (aZ (t:=aR) (bS fv rfl T.eL boot_tuple (aj (bW (eO (eI ic ["cost","level"] [4] rfl (qB (ac (pv 7))) (λb=>(gG rfl (cT (bg (bf (i:=0) (show ((bN ic ["cost","level"] [4])).Nodup by trivial) rfl (.inl rfl))) (cT (bg (bf (i:=1) (show ((bN ic ["cost","level"] [4])).Nodup by trivial) rfl (.inl rfl))) gF)) (cP (cP gy)))) (λb=>(dI (aj (aL (aJ (Zrd T) (hr.mono (by decide)) rfl (ao (ac (pv 0)) (ao (ac (pv 2)) aE)))) (aj (ac (pv 1)) au)))) rfl (show BlkOk ic (aI kl) _ [4] by trivial)) (sL (kq (cr (by decide)) (kq (cr (by decide)) sM))))) au)) e9) bz))))
 (aM (uX (sI (i:=3) ic ["cost","level"] [] rfl gP.nd rfl rfl (qB (ac (pv 7))) (λb=>(gG rfl (cT (bg (bf (i:=0) (show ((bN ic ["cost","level"] [])).Nodup by trivial) rfl (.inl rfl))) (cT (bg (bf (i:=1) (show ((bN ic ["cost","level"] [])).Nodup by trivial) rfl (.inl rfl))) gF)) (cP (cP gy)))) (λb=>(ac (pv 0))) rfl (show BlkOk ic (aI kl) _ [] by trivial) rfl) (sL (kq (cr (by decide)) (kq (cr (by decide)) sM))))))))))
 (av (uY (fj (sT we xR xQ tJ (pv 2))))
 (aM (ng (k:=2) (bd (aZ (t:=aR) (bS fv rfl T.eL boot_tuple (aj (ac (pv 2)) au)) e9)))))))))
noncomputable def ZbY:yT :=
 (aH (aG bZ (bG 1 (am (aC (.int 9)) aD))))
noncomputable def sA:yT :=
 (dg (af (ad aN (aC (.int 1)) (aH (aG bZ (bG 1 (am (aC (.int 3)) aD))))) (af (aH (aG bZ (bG 1 (am (aC (.int 4)) aD)))) (af (aH (aG bZ (bG 1 (am (aC (.int 3)) aD)))) aq))))
noncomputable def oU:yT :=
 (ad aN (ad aN (ad aN (ad aN (aW dN (af (ad bM (aa 0) (aC (.int 0))) aq)) (aC (.str "/"))) (aW dN (af (ad bM (aa 0) (aC (.int 1))) aq))) (aC (.str "@"))) (aW dN (af (aa 1) aq)))
noncomputable def mK:yW :=
 (gI 4 (ad cv (aC (.str " ")) (bw (cI (di (aa 5)) 2 [] (cY (bB (aw 0) (bB (aw 1) cO))) oU))))
def pL:yX:=bo 1 6
 (ap (aX 1 (ad aN (dg (af (aH (aG bZ (bG 0 (am (aC (.int 4)) aD)))) (af (aH (aG bZ (bG 0 (am (aC (.int 3)) aD)))) aq))) (aW dM (af (bw (cI (i6 (af (aC (.int 7)) aq)) 1 [0] (aw 0) ZbY)) aq))))
 (ap (aX 2 (aW dM (af (bw (cI (i6 (af (ad aN (aC (.int 1)) (aH (aG bZ (bG 0 (am (aC (.int 3)) aD))))) aq)) 1 [0] (aw 0) sA)) aq)))
 (ap (aX 3 (aH (aG pK (am (aa 1) (am (aa 2) aD)))))
 (ap (i0 4 (cq aq))
 (ap (fY (di (aa 3)) (aw 5) mK)
 (ap (jM 4 (aX 6 (ad cv (aC (.str "\n")) (aa 4))))
 (bb (qM (ad da (aH (aG ml (am (aa 3) aD))) (aa 6)) (ad da (aW iq (af (aH (aG mo (am (aa 6) aD))) aq)) (aW iq (af (aa 3) aq)))))))))))
theorem Zri (T:Txt K mg):ACal (aY cn) P w K mg base "_law_told_right" 6 ["_law_pen_here"] pL:=bF T.Zqs jm rfl λf cdv A outer sh H E hr=>by
 exact (av (a9 (aO (i:=1) jm.nd rfl (.inl rfl) (ak aV aU (dI (aj (aL (aJ (cf T) (hr.mono (by decide)) rfl (bP (pv 0) (ao ai aE)))) (aj (aL (aJ (cf T) (hr.mono (by decide)) rfl (bP (pv 0) (ao ai aE)))) au))) (aZ (t:=aR) (bS fv rfl T.eL boot_tuple (aj (bW (eO (eI gb ["_law_k"] [0] rfl (kS (kr rfl T.iE (aj ai au))) (λb=>(bg (bf (i:=0) (show ((bN gb ["_law_k"] [0])).Nodup by trivial) rfl (.inl rfl)))) (λb=>(aL (aJ (cf T) (hr.mono (by decide)) rfl (bP (pv 1) (ao ai aE))))) rfl (show BlkOk gb (aI jn) _ [0] by trivial)) (cr (by decide)))) au)) e9))))
 (av (a9 (aO (i:=2) jm.nd rfl (.inl rfl) (aZ (t:=aR) (bS fv rfl T.eL boot_tuple (aj (bW (eO (eI gb ["_law_k"] [0] rfl (kS (kr rfl T.iE (aj (ak aV aU ai (aL (aJ (cf T) (hr.mono (by decide)) rfl (bP (pv 0) (ao ai aE))))) au))) (λb=>(bg (bf (i:=0) (show ((bN gb ["_law_k"] [0])).Nodup by trivial) rfl (.inl rfl)))) (λb=>(dI (aj (ak aV aU ai (aL (aJ (cf T) (hr.mono (by decide)) rfl (bP (pv 1) (ao ai aE))))) (aj (aL (aJ (cf T) (hr.mono (by decide)) rfl (bP (pv 1) (ao ai aE)))) (aj (aL (aJ (cf T) (hr.mono (by decide)) rfl (bP (pv 1) (ao ai aE)))) au))))) rfl (show BlkOk gb (aI jn) _ [0] by trivial)) (cr (by decide)))) au)) e9)))
 (av (a9 (aO (i:=3) jm.nd rfl (.inl rfl) (aL (aJ (Zrh T) (hr.mono (by decide)) rfl (ao (ac (pv 1)) (ao (ac (pv 2)) aE))))))
 (av (kP (aO (i:=4) jm.nd rfl (.inl rfl) (cD au)))
 (av (hV wD rfl (dH (ac (pv 3))) (bg (bf (i:=5) jm.nd rfl (.inl rfl)))
  (aM (jJ (fj (gS we wC wB ju (pv 4) (aT (jK aB (bW (eO (eI gb ["_law_cost","_law_level"] [] rfl (dH (ac (pv 5))) (λb=>(gG rfl (cT (bg (bf (i:=0) (show ((bN gb ["_law_cost","_law_level"] [])).Nodup by trivial) rfl (.inl rfl))) (cT (bg (bf (i:=1) (show ((bN gb ["_law_cost","_law_level"] [])).Nodup by trivial) rfl (.inl rfl))) gF)) (cP (cP gy)))) (λb=>(ak aV aU (ak aV aU (ak aV aU (ak aV aU (aZ (t:=aR) (bS fS rfl T.eT boot_str (aj (bi bh cx (ac (pv 0)) ai (λ_ _=>rfl)) au)) fF) aB) (aZ (t:=aR) (bS fS rfl T.eT boot_str (aj (bi bh cx (ac (pv 0)) ai (λ_ _=>rfl)) au)) fF)) aB) (aZ (t:=aR) (bS fS rfl T.eT boot_str (aj (ac (pv 1)) au)) fF))) rfl (show BlkOk gb (aI jn) _ [] by trivial)) (sL (kq (cr (by decide)) (kq (cr (by decide)) sM)))))) bz))))))
 (av (ng (k:=4) (a9 (aO (i:=6) jm.nd rfl (.inl rfl) (jK aB (ac (pv 4))))))
 (aM (bd (Ze8 (hZ (eK hr) eC (aL (aJ (Zer T) (hr.mono (by decide)) rfl (ao (ac (pv 3)) aE))) (ac (pv 6)) (nomark _)) (u9 (hZ (eK hr) eC (aZ (t:=aR) (bj (qt hr) rfl T.ph boot_repr (aj (aL (aJ (Zes T) (hr.mono (by decide)) rfl (ao (ac (pv 6)) aE))) au)) nJ) (aZ (t:=aR) (bj (qt hr) rfl T.ph boot_repr (aj (ac (pv 3)) au)) nJ) (nomark _))))))))))))
noncomputable def mQ (t:Tr (Option Re)):Tr Re:=t.bind λo=>match o with
 | none=>.ret (.d (.str "no text"))
 | some r=>.ret (.d (.list [r.val]))
noncomputable def gY (f_read_table:Addr):yX:=λas=>match as with
 | [.fn a,.d x]=>mQ (if a=f_read_table then ie [.d x] else .fail)
 | _=>.fail
theorem uR (T:Txt K mg) {f_read_table:Addr} (h_read_table:mg "read_table"=some (.ref f_read_table)):ACal (aY cn) P w K mg base "_law_heard" 7 ["_law_read","_law_text"] (gY f_read_table):=by
 have len:∀ as m Z,(gY f_read_table as).ok m Z->as.length=2:=λas m Z h=>by
  unfold gY at h
  split at h
  ·rfl
  ·exact h.elim
 refine ⟨T.ZqA.ok lz (λvs H Q E h=>h.1) λf cdv A outer sh H vs Q E hr hsp=>?_,len⟩
 obtain ⟨hv,pa,m,G,as,wd,ar,z⟩:=hsp
 obtain ⟨C,D,a0,a1,a2,a3,a4,a5,a6,hC,hD,h0,h1,h2,h3,h4,h5,h6,xc⟩:=T.ZfF
 refine ⟨_,cG (aO (i:=2) lz.nd rfl (.inl rfl) sQ)
  (cG (aO (i:=3) lz.nd rfl (.inl rfl) sQ)
  (cG (Zit (i:=4) (j:=0) (l:=3) (k:=7 - 1) rfl rfl lz.nd (hr.mono (by decide)) rfl (.inl rfl) rfl (.inl rfl) (.inl rfl) (ao (PK:=(aY cn)) (ac (pv 1)) aE) xc.un rfl hD rfl rfl (.inl rfl) (.inl rfl) (λea=>fh (aO (i:=2) lz.nd rfl (.inl rfl) (pv 4))))
  (cG (iu (Zip (ZiY (pv 2)) (nomark _)) (fh (fi (o4 (aT (pv 3) bz)))) jq)
  (cG (iu (PW.pt (sF (sH (sG (bj (Zq5 xc.ci yl (by trivial) tR) rfl T.iF rfl (aT (pv 2) (aT (fK (v:=.ref C) rfl hC rfl) bz))))) (sE (sH (sG (bj (Zq4 xc.ci yl (by trivial) tR) rfl T.iF rfl (aT (pv 2) (aT (kw (v:=.ty "ValueError") rfl T.ZjS Zrw rfl) bz)))))))) (fh (fi dP)) jq)
  (cG (iu (sG (bj (Zq3 xc.ci yl (by trivial) tR) rfl T.iF rfl (aT (pv 2) (aT (sP (aT (fK (v:=.ref a0) rfl h0 rfl) (aT (fK (v:=.ref a1) rfl h1 rfl) (aT (fK (v:=.ref a2) rfl h2 rfl) (aT (fK (v:=.ref a3) rfl h3 rfl) (aT (fK (v:=.ref a4) rfl h4 rfl) (aT (fK (v:=.ref a5) rfl h5 rfl) (aT (fK (v:=.ref a6) rfl h6 rfl) bz)))))))) bz)))) (fh (fi dP)) jq)
  (fh (fi dP))))))),?_⟩
 unfold gY at z
 split at z
 rotate_left
 ·exact z.elim
 rename_i a x
 cases ar with
 | @cons v0 vs0 _ _ r0 ar =>
 cases ar with
 | @cons v vs1 _ _ r1 ar =>
 cases ar
 cases r0
 cases r1 with
 | d dx =>
 have ar1:ArsOk pa G [v] [.d x]:=.cons (.d dx) .nil
 have R0:Rl (aY cn) pa G H m (L2.start Zfj [.ref a,v]) ([.fn a,.d x]++List.replicate 3 .un) G H:=Rl.start wd (.cons .fn ar1) rfl
 have go:∀ (fx:List Sl->Tr (Option Re)) (ps:za),ps.length=1->(mQ (fx [.d x])).ok m (λm' r=>Kr (aY cn) pa m' G H r Q)->∀ (vs1:zb) (G1 H1:Hp),Stp pa G H G1 H1->Wd (aY cn) pa m G1 H1->ArsOk pa G1 vs1 [.d x]->∀ (Qn:VK) (En:XK),
   (∀ m2 r,Kr (aY cn) pa m2 G H (.d (.list [r])) Q->∀ v2 G2 H2,Stp pa G1 H1 G2 H2->Wd (aY cn) pa m2 G2 H2->Dn G2 v2 r->Qn v2 H2) ->
   (∀ m2,Kr (aY cn) pa m2 G H (.d (.str "no text")) Q->∀ G2 H2,Stp pa G1 H1 G2 H2->Wd (aY cn) pa m2 G2 H2->En (.ref C) none H2)->qE (aY cn) ps.length C fx vs1 H1 Qn En:=by
  intro fx ps hps z1 vs1 G1 H1 s1 w1 ar2 Qn En hn he
  refine ⟨by rw [ar2.length,hps]; rfl,pa,m,G1,[.d x],w1,ar2,Tr.ok_mono (Tr.ok_bind.mp z1) λm2 o ko=>?_⟩
  cases o with
  | none=>exact λG2 H2 s2 w2=>he m2 ko G2 H2 s2 w2
  | some r=>exact Kr.of (λv2 G2 H2 s2 w2 d2=>hn m2 r.val ko v2 G2 H2 s2 w2 d2) w1.some
 obtain ⟨fx,fd,ps,hps,FK,hk,hb,z1⟩:∃ (fx:List Sl->Tr (Option Re)) (fd:FuncData) (ps:za),ps.length=1/\FnOk P w K mg base (bX P w) (7 - 1) a fd ps (qE (aY cn) ps.length C fx)/\PySem.W.keepIn K (.ref a)=true/\Binds K fd ps []/\(mQ (fx [.d x])).ok m (λm' r=>Kr (aY cn) pa m' G H r Q):=by
  by_cases e0:a=f_read_table
  ·rw [if_pos e0] at z
   obtain ⟨f1,fd,FK,hm,hk,hb⟩:=(ZqG (P:=P) (w:=w) (base:=base) (cn:=cn) T hC xc.cl).cal.ex
   obtain rfl:f1=a:=by
    rw [e0]
    rw [h_read_table] at hm
    cases hm
    rfl
   exact ⟨_,fd,_,rfl,FK.mono (by decide),hk,hb,z⟩
  ·rw [if_neg e0] at z
   exact (show False from z).elim
 refine ⟨a,fd,ps,_,rfl,FK,hk,hb,pa,G,H,m,_,G,(R0.set .non 2).set .non 3,λvs1 G1 H1 s1 w1 ar2=>?_⟩
 refine go fx ps hps z1 vs1 G1 H1 s1 w1 ar2 _ _ (λm2 r ko v2 G2 H2 s2 w2 d2=>?_) (λm2 ko G2 H2 s2 w2=>⟨rfl,λea hea=>?_⟩)
 ·refine ⟨.non,rfl,true,congrArg V.bl (decide_eq_true rfl),v2,rfl,?_⟩
  refine ⟨by show 1<=sizeLine; decide,λq hq=>?_⟩
  exact Kn.lst (Kn.later ko (s1.trans s2 w1.some) w2.some) w2 (.cons d2 .nil) hq
 ·refine ⟨.ref ea,rfl,.ref ea,rfl,false,congrArg V.bl (decide_eq_false nofun),?_⟩
  refine ⟨.ref ea,rfl,ea,C,true,rfl,bJ,ZkC,true,rfl,?_⟩
  refine ⟨.ref ea,rfl,ea,"ValueError",true,rfl,bJ,xc.vt,true,rfl,?_⟩
  refine ⟨.ref ea,rfl,by show 7<=sizeLine; decide,λp hp=>?_⟩
  have hne:ea≠p:=λe=>by rw [e,bJ] at hp; cases hp
  obtain ⟨w3,s3⟩:=w2.own (o:=.ext (dZ ea (.ref C))) hea
  obtain ⟨w4,s4⟩:=w3.own (o:=.tup [.ref a0,.ref a1,.ref a2,.ref a3,.ref a4,.ref a5,.ref a6]) hp
  have hat:upd (upd H2 ea (.ext (dZ ea (.ref C)))) p (.tup [.ref a0,.ref a1,.ref a2,.ref a3,.ref a4,.ref a5,.ref a6]) ea=some (.ext (dZ ea (.ref C))):=by rw [aK hne,bJ]
  refine ⟨ea,p,[a0,a1,a2,a3,a4,a5,a6],false,rfl,hat,bJ,xc.any,false,rfl,?_⟩
  exact ko (.str "no text") G2 _ ((s1.trans s2 w1.some).trans (s3.trans s4 w3.some) w2.some) w4 (.str _)
noncomputable def mw (f_read_table:Addr):yX:=bo 3 0
 (ap (b7 (bc (ad p5 (aa 2) (aC .none)))
  (bb (ad da (aH (aG (gY f_read_table) (nn 0 (am (aa 1) aD)))) (aC (.str "no text"))))
  bQ)
 (bb (ad da (aW iq (af (aH (aG (gY f_read_table) (nn 0 (am (aa 1) aD)))) aq)) (aW iq (af (bw (cq (af (aa 2) aq))) aq)))))
theorem Zrl (T:Txt K mg) {f_read_table:Addr} (h_read_table:mg "read_table"=some (.ref f_read_table)):ACal (aY cn) P w K mg base "_law_right" 8 ["_law_read","_law_text","_law_due"] (mw f_read_table):=bF T.Zqv Zhw rfl λf cdv A outer sh H E hr=>by
 exact (av (cg (bE Zji ZfO (ac (pv 2)) gH (nomark _))
 (aM (bd (hZ (eK hr) eC (aL (aJ (uR T h_read_table) (hr.mono (by decide)) rfl (Zfa (pv 0) (ao (ac (pv 1)) aE)))) aB (nomark _))))
 bV)
 (aM (bd (hZ (eK hr) eC (aZ (t:=aR) (bj (qt hr) rfl T.ph boot_repr (aj (aL (aJ (uR T h_read_table) (hr.mono (by decide)) rfl (Zfa (pv 0) (ao (ac (pv 1)) aE)))) au)) nJ) (aZ (t:=aR) (bj (qt hr) rfl T.ph boot_repr (aj (bW (cD (aj (ac (pv 2)) au))) au)) nJ) (nomark _)))))
noncomputable def pU (f_read_table:Addr):yW :=
 (ap (aX 4 (aH (aG mv (am (aa 3) aD))))
 (b7 (e8 (eB (eA (aH (aG (mw f_read_table) (qD f_read_table (am (aa 3) (am (aa 4) aD))))))) (qN (bc (ad pZ (aa 4) (aC .none))) (bc (ad eS (aH (aG ml (am (aH (aG mo (am (aa 3) aD))) aD))) (aa 3)))))
  (bb (aC (.bool false)))
  bQ))
noncomputable def t4 (f_read_table:Addr):yW :=
 (b7 (bc (ad eS (aH (aG (gY f_read_table) (qD f_read_table (am (aa 5) aD)))) (aC (.str "no text"))))
  (bb (aC (.bool false)))
  bQ)
noncomputable def t3 (f_read_table:Addr):yW :=
 (ap (fY (di (aH (aG pM (bG 1 (am (aa 2) aD))))) (aw 3) (pU f_read_table))
 (fY (di (bw (cq (af (aC .none) (af (aC (.int 0)) (af (aC (.bool true)) (af (dg (af (dg (af (dg (af (dg (af (aC (.int 1)) (af (aC (.int 1)) aq))) (af (aC (.int 0)) aq))) aq)) aq)) (af (bw (cq (af (aC (.str "1/1@0")) aq))) (af (dg (af (aC (.str "1/1@0")) aq)) (af (bw (cq (af (bw (cq (af (aC (.int 1)) aq))) aq))) (af (aC (.dict [])) aq))))))))))) (aw 5) (t4 f_read_table)))
noncomputable def pP (f_read_table:Addr):yW :=
 (ap (b7 (eB (eA (aH (aG pL (bG 1 aD)))))
  (bb (aC (.bool false)))
  bQ)
 (ap (fY (i6 (af (aC (.int 3)) aq)) (aw 2) (t3 f_read_table))
 (bb (aC (.bool true)))))
noncomputable abbrev tX:zd:=.un::.pen::List.replicate 4 .un
theorem Zjt (T:Txt K mg) {f_read_table:Addr} (h_read_table:mg "read_table"=some (.ref f_read_table)) {f:Addr} {fd:FuncData} (F:Fun K "law" "law" lN f fd) (hl:(pP f_read_table tX).ok 0 λ_ o=>o=.ret (.d (.bool true))):FnOk P w K mg base ja 9 f fd ["_law_script"] (ZaX K):=by
 refine F.ok kh (λvs H Q E h=>?_) (λcdv A outer s H vs Q E hr h=>?_)
 ·obtain ⟨a,ns,rfl,_⟩:=h
  rfl
 ·obtain ⟨a,ns,rfl,hS,hlen,k⟩:=h
  have hu:=ul hr
  refine ⟨_,(cG (aO (i:=1) kh.nd rfl (.inl rfl) (Zb9 (Zjs T) (hr.mono (by decide)) rfl (aT (pv 0) bz)))
 (Zir (t:=λcn=>bx (aY cn) (pP f_read_table)) λcn=>(by refine @L2.av _ _ _ _ _ _ ?_ ?_; (refine @L2.cg _ _ _ _ _ _ _ _ _ ?_ ?_ bV; (refine @L2.eW _ _ _ _ _ ?_; (refine @L2.eV _ _ _ _ ?_ (by intro _; rfl); (refine @L2.aL _ _ _ _ ?_; (refine @L2.aJ _ _ _ _ _ _ _ _ _ _ _ (Zri T) (hr.mono (by decide)) rfl ?_ (by decide) (by rfl) (by rfl); (exact @L2.bP _ _ _ _ _ _ (pv 1) aE (by rfl)))))); (refine @L2.aM _ _ _ _ ?_; (exact (bd iX)))); (refine @L2.av _ _ _ _ _ _ ?_ ?_; (refine @L2.hV _ _ _ _ _ _ _ _ _ wD rfl ?_ ?_ ?_ (by intro _; rfl); (refine @L2.kS _ _ _ _ _ ?_; (refine @L2.kr _ _ _ _ _ _ rfl T.iE ?_ (by rfl); (exact @L2.aj _ _ _ _ _ _ ai au (by rfl)))); (refine @L2.bg _ _ _ _ ?_; (exact @L2.bf _ _ (2) _ kh.nd rfl (.inl rfl) (by first   | exact .inl rfl   | exact .inr rfl   | assumption))); (refine @L2.av _ _ _ _ _ _ ?_ ?_; (refine @L2.hV _ _ _ _ _ _ _ _ _ wD rfl ?_ ?_ ?_ (by intro _; rfl); (refine @L2.dH _ _ _ _ _ ?_; (refine @L2.aL _ _ _ _ ?_; (refine @L2.aJ _ _ _ _ _ _ _ _ _ _ _ (Zrj T) (hr.mono (by decide)) rfl ?_ (by decide) (by rfl) (by rfl); (refine @L2.bP _ _ _ _ _ _ (pv 1) ?_ (by rfl); (refine @L2.ao _ _ _ _ _ _ ?_ aE (by rfl); (exact (ac (pv 2)))))))); (refine @L2.bg _ _ _ _ ?_; (exact @L2.bf _ _ (3) _ kh.nd rfl (.inl rfl) (by first   | exact .inl rfl   | exact .inr rfl   | assumption))); (refine @L2.av _ _ _ _ _ _ ?_ ?_; (refine @L2.a9 _ _ _ _ _ ?_; (refine @L2.aO _ _ (4) _ _ _ _ kh.nd rfl (.inl rfl) ?_ (by rfl) (by first   | exact .inl rfl   | exact .inr rfl   | assumption); (refine @L2.aL _ _ _ _ ?_; (refine @L2.aJ _ _ _ _ _ _ _ _ _ _ _ (Zrk T) (hr.mono (by decide)) rfl ?_ (by decide) (by rfl) (by rfl); (refine @L2.ao _ _ _ _ _ _ ?_ aE (by rfl); (exact (ac (pv 3)))))))); (refine @L2.aM _ _ _ _ ?_; (refine @L2.cg _ _ _ _ _ _ _ _ _ ?_ ?_ bV; (refine @L2.gE _ _ _ _ ?_; (refine @L2.fW _ _ _ _ _ _ _ _ ?_ ?_; (refine @L2.eW _ _ _ _ _ ?_; (refine @L2.eV _ _ _ _ ?_ (by intro _; rfl); (refine @L2.aL _ _ _ _ ?_; (refine @L2.aJ _ _ _ _ _ _ _ _ _ _ _ (Zrl T h_read_table) (hr.mono (by decide)) rfl ?_ (by decide) (by rfl) (by rfl); (refine @L2.Zfb _ _ _ _ _ _ _ rfl h_read_table ?_ (by decide) (by rfl); (refine @L2.ao _ _ _ _ _ _ ?_ ?_ (by rfl); (exact (ac (pv 3))); (refine @L2.ao _ _ _ _ _ _ ?_ aE (by rfl); (exact (ac (pv 4)))))))))); (refine @L2.iV _ _ _ _ _ ?_; (refine @L2.gE _ _ _ _ ?_; (refine @L2.ZeM _ _ _ _ _ _ _ _ ?_ ?_; (refine @L2.bE _ _ _ _ _ _ _ _ _ _ Zja ZfN ?_ gH (nomark _); (exact (ac (pv 4)))); (refine @L2.ZeL _ _ _ _ _ ?_; (refine @L2.bE _ _ _ _ _ _ _ _ _ _ ?_ gL ?_ ?_ (nomark _); (exact (gT hr)); (refine @L2.aL _ _ _ _ ?_; (refine @L2.aJ _ _ _ _ _ _ _ _ _ _ _ (Zer T) (hr.mono (by decide)) rfl ?_ (by decide) (by rfl) (by rfl); (refine @L2.ao _ _ _ _ _ _ ?_ aE (by rfl); (refine @L2.aL _ _ _ _ ?_; (refine @L2.aJ _ _ _ _ _ _ _ _ _ _ _ (Zes T) (hr.mono (by decide)) rfl ?_ (by decide) (by rfl) (by rfl); (refine @L2.ao _ _ _ _ _ _ ?_ aE (by rfl); (exact (ac (pv 3))))))))); (exact (ac (pv 3)))))))))); (refine @L2.aM _ _ _ _ ?_; (exact (bd iX))))))); (refine @L2.aM _ _ _ _ ?_; (refine @L2.hV _ _ _ _ _ _ _ _ _ wD rfl ?_ ?_ ?_ (by intro _; rfl); (refine @L2.dH _ _ _ _ _ ?_; (refine @L2.bW _ _ _ _ ?_; (refine @L2.cD _ _ _ _ _ ?_; (refine @L2.aQ _ _ _ _ _ _ gH ?_ (by rfl); (refine @L2.aQ _ _ _ _ _ _ ai ?_ (by rfl); (refine @L2.aQ _ _ _ _ _ _ iX ?_ (by rfl); (refine @L2.aQ _ _ _ _ _ _ ?_ ?_ (by rfl); (refine @L2.dI _ _ _ _ _ _ ?_; (refine @L2.aQ _ _ _ _ _ _ ?_ au (by rfl); (refine @L2.dI _ _ _ _ _ _ ?_; (refine @L2.aQ _ _ _ _ _ _ ?_ au (by rfl); (refine @L2.dI _ _ _ _ _ _ ?_; (refine @L2.aQ _ _ _ _ _ _ ?_ ?_ (by rfl); (refine @L2.dI _ _ _ _ _ _ ?_; (refine @L2.aj _ _ _ _ _ _ ai ?_ (by rfl); (exact @L2.aj _ _ _ _ _ _ ai au (by rfl)))); (exact @L2.aj _ _ _ _ _ _ ai au (by rfl)))))))); (refine @L2.aQ _ _ _ _ _ _ ?_ ?_ (by rfl); (refine @L2.bW _ _ _ _ ?_; (refine @L2.cD _ _ _ _ _ ?_; (exact @L2.aj _ _ _ _ _ _ aB au (by rfl)))); (refine @L2.aQ _ _ _ _ _ _ ?_ ?_ (by rfl); (refine @L2.dI _ _ _ _ _ _ ?_; (exact @L2.aj _ _ _ _ _ _ aB au (by rfl))); (refine @L2.aQ _ _ _ _ _ _ ?_ ?_ (by rfl); (refine @L2.bW _ _ _ _ ?_; (refine @L2.cD _ _ _ _ _ ?_; (refine @L2.aj _ _ _ _ _ _ ?_ au (by rfl); (refine @L2.bW _ _ _ _ ?_; (refine @L2.cD _ _ _ _ _ ?_; (exact @L2.aj _ _ _ _ _ _ ai au (by rfl))))))); (exact @L2.aj _ _ _ _ _ _ ZrP au (by rfl)))))))))))); (refine @L2.bg _ _ _ _ ?_; (exact @L2.bf _ _ (5) _ kh.nd rfl (.inl rfl) (by first   | exact .inl rfl   | exact .inr rfl   | assumption))); (refine @L2.aM _ _ _ _ ?_; (refine @L2.cg _ _ _ _ _ _ _ _ _ ?_ ?_ bV; (refine @L2.bE _ _ _ _ _ _ _ _ _ _ ?_ gL ?_ aB (nomark _); (exact (gT hr)); (refine @L2.aL _ _ _ _ ?_; (refine @L2.aJ _ _ _ _ _ _ _ _ _ _ _ (uR T h_read_table) (hr.mono (by decide)) rfl ?_ (by decide) (by rfl) (by rfl); (refine @L2.Zfb _ _ _ _ _ _ _ rfl h_read_table ?_ (by decide) (by rfl); (refine @L2.ao _ _ _ _ _ _ ?_ aE (by rfl); (exact (ac (pv 5)))))))); (refine @L2.aM _ _ _ _ ?_; (exact (bd iX))))))))); (refine @L2.aM _ _ _ _ ?_; (exact (bd iX))))))),?_⟩
  refine ⟨_,rfl,a,ns,rfl,hS,hlen,λp c H' hp hP hs=>?_⟩
  exact Zkw (n:=4) hP rfl rfl (λH'=>k H') hl
end
end My
local macro_rules | `(tactic| simp_arith [$ls,*] $[$loc]?) => do let b : Lean.TSyntaxArray ``Lean.Parser.Tactic.simpLemma ← (("L2.Zmb L2.Zma L2.Zpj L2.ZoQ L2.ZoP L2.Zo8 L2.Zo5 L2.Zds L2.Zmq L2.ZoG L2.Zou L2.Zny L2.Zov L2.Zot L2.Znx L2.ZnZ L2.ZnW L2.ZnO L2.gA L2.qw L2.ZeW L2.ZeV L2.ZeU L2.ZeT L2.ZeS L2.ZeR L2.ZeQ L2.ZeP L2.Znw L2.Znv L2.Zmo L2.Zmh L2.Zmn L2.Zmm L2.Zml L2.Zmk L2.Zmi L2.Zmj L2.Zo4 L2.Zno L2.Znt L2.Zo2 L2.Zo3 L2.Znm L2.Znn L2.Zns L2.Zo1 L2.Znl L2.Znr L2.ZoZ L2.Zo0 L2.Znj L2.Znk L2.Znq L2.Zoc L2.Zoa L2.Zob L2.ZoH L2.ZoM L2.ZoL L2.ZoK L2.ZoI L2.ZoJ L2.Znu L2.ZoF L2.ZoE L2.ZoD L2.Zmg L2.Zmf L2.ZnD L2.ZnC L2.ZnF L2.ZnE L2.cz L2.ZoN L2.ZnH L2.ZnG L2.Zo9 L2.ZnB L2.ZnA L2.Zn0 L2.Zn1 L2.Zme L2.Zmc L2.Zmp L2.uu L2.Zdr L2.ZnY L2.ZnX L2.Zng L2.Znf L2.Zne L2.Zmd L2.Zdo L2.Zpe L2.Zpg L2.Zpi L2.Zph L2.Znb L2.Zna L2.Zpd L2.Zpa L2.ZoO L2.Zm9 L2.Zm8 L2.ZoC L2.Zos L2.Zor L2.ZmF L2.ZmC L2.ZmB L2.ZmE L2.ZmD L2.Zmw L2.Zn5 L2.Zn3 L2.Zn4 L2.Zm7 L2.Zm6 L2.Zm5 L2.Zm4 L2.Zm3 L2.Zm2 L2.Zm1 L2.Zm0 L2.ZmZ L2.ZmA L2.Zmz L2.Zmy L2.Zmx L2.Zkb L2.Zka L2.ZoT L2.ZoS L2.ZoR L2.Zod L2.Zni L2.Znh L2.ZoY L2.ZoX L2.ZoW L2.ZmY L2.ZmX L2.Zoe L2.Zlu L2.Zlv L2.Zlt L2.Zls L2.Zlw L2.ZoV L2.ZoU L2.Znp L2.Zld L2.Zlb L2.Zle L2.Zlf L2.Zlc L2.Znd L2.Znc L2.ZnV L2.ZnU L2.ZnT L2.ZmT L2.Zow L2.Zoy L2.Zox L2.Zol L2.Zok L2.ZlA L2.Zoj L2.mW L2.Zoh L2.Zoi L2.Zog L2.ZnN L2.ZnM L2.ZnL L2.ZjW L2.ZjX L2.ZjZ L2.ZjY L2.ZnI L2.ZnK L2.ZnJ L2.Zn6 L2.Zn8 L2.Zn9 L2.Zn7 L2.Zo7 L2.Zo6 L2.ZmW L2.ZmS L2.ZmR L2.ZmV L2.ZmQ L2.uy Tw.Zhg Tw.Zhf Tw.Zhe Tw.Zhd Tw.Zhc Tw.Zhb Tw.Zha Tw.Zg9 Tw.Zg8 L2.ZmP L2.iT L2.mU L2.ZmO L2.ZmG L2.uv L2.cQ L2.ZmI L2.ZmH L2.ZmK L2.ZmJ L2.ZmN L2.ZmL L2.ZmM L2.Zmv L2.Zmu L2.Zmt L2.Zms L2.Zmr L2.cZ L2.ZnS L2.ZnR L2.ZnP L2.ZnQ L2.dm L2.mV L2.Zof L2.ZlH L2.Zdn L2.Zl9 L2.ZlX L2.ZlW L2.ZlZ L2.ZlL L2.Zl0 L2.ZlN L2.Zl2 L2.ZlO L2.Zl8 L2.ZlV L2.Zl7 L2.ZlT L2.ZlU L2.Zl3 L2.Zl1 L2.ZlJ L2.ZlI L2.ZlK L2.ZoB L2.Zoq L2.Zop L2.Zoo L2.Zl5 L2.ZlQ L2.Zl4 L2.ZlP L2.ZlM L2.Zl6 L2.ZlS L2.ZlR L2.ZlY L2.ZlG L2.ZlF L2.Zpf L2.Zon L2.Zom L2.Zpc L2.Zpb L2.ZoA L2.Zoz L2.Zdp L2.Znz L2.Zn2 L2.rb2 L2.Tr.of_some L2.Tr.bind_assoc L2.Tr.draw_bind List.cons_append List.nil_append List.replicate_succ List.replicate_zero List.length_cons List.length_nil L2.Re.val_d L2.Re.val_own L2.blk L2.uS List.map_cons List.map_nil List.getElem?_cons_zero List.getElem?_cons_succ Option.getD_some Nat.reduceAdd Nat.reduceLeDiff List.isEmpty_cons".splitOn " ").toArray.map fun s => Lean.mkIdent s.toName).mapM fun i => `(Lean.Parser.Tactic.simpLemma| $i:ident); `(tactic| simp only [$b,*, $ls,*] $[$loc]?)
namespace My
open L2
theorem kO {a b:Str}:(a == b)=decide (a.cps.toList=b.cps.toList):=by
 by_cases h:a=b
 ·subst h; simp
 ·rw [beq_eq_false_iff_ne.mpr h,decide_eq_false λe=>h (jj e)]
theorem all_map {f:Nat->Bool} (l:List Nat):(l.map f).all id=l.all f:=by simp [List.all_map]
theorem Zho (l:List Nat):bH (bT (aw 0) oX [.un]) (l.map λc=>.str ⟨#[c]⟩)=.ret ((l.map λc=>decide (48<=c/\c<=57)).map PyData.bool):=by
 induction l with
 | nil=>rfl
 | cons c l ih =>
  have e0:bT (aw 0) oX [.un] (.str ⟨#[c]⟩)=.ret (.bool (decide (48<=c/\c<=57))):=by
   simp_arith [oX,ae,ah,ag,Zc3]
   rfl
  rw [vG,bH,e0,Tr.ret_bind,ih]
  rfl
theorem uC {w:Str} (h:w.length<=500000):iK [.d (.str w)]=.ret (.d (.bool (b8 w.cps.toList))):=by
 have hr:=ZhX w
 have hle:=len_removeprefix w "-"
 generalize hf:Txt.removeprefix w "-"=f at *
 have h1:w.length<=1048576:=by omega
 have h2:f.length<=1048576:=by omega
 have hfl:f.length=(figs w.cps.toList).length:=by rw [<- hr]; simp [Str.length]
 have hs:small (cM f).length=true:=dO (by unfold cM; rw [vB,wm]; exact h2)
 have em:=Zho f.cps.toList
 have ea:=Zdr (f.cps.toList.map λc=>decide (48<=c/\c<=57))
 rw [all_map] at ea
 unfold cM at hs
 by_cases hA:1<=f.length/\f.length<=400
 ·have hA1:decide ((1:Int)<=(f.length:Int))=true:=decide_eq_true (by omega)
  have hA2:decide ((f.length:Int)<=400)=true:=decide_eq_true (by omega)
  cases hB:f.cps.toList.all (λc=>decide (48<=c/\c<=57)) with
  | false =>
   rw [hB] at ea
   simp_arith [iK,ae,ah,ag,mV h1,hf,cQ h2,hA1,hA2,cM,hs,em,ea,vS,v3]
   unfold b8
   rw [<- hr,hB]
   simp
  | true =>
   rw [hB] at ea
   cases hc:f.cps.toList with
   | nil=>rw [hfl,<- hr,hc] at hA; simp at hA
   | cons c r =>
    have e3:br f.cps.toList 0=some c:=by rw [hc]; exact qw
    have e4:az bM (.str f) (.int 0)=.ret (.str ⟨#[c]⟩):=by rw [uw h2,e3]; rfl
    have e5:((⟨#[c]⟩:Str) == "0")=decide (c=48):=by
     rw [kO,re]
     simp
    have e6:(w == "0")=decide (w.cps.toList=[48]):=by rw [kO,re]
    have e7:b8 w.cps.toList=(decide (c≠48) || decide (w.cps.toList=[48])):=by
     unfold b8
     rw [<- hr,hB,hc]
     rw [decide_eq_true (by rw [hfl,<- hr,hc] at hA; exact hA)]
     simp
    simp_arith [iK,ae,ah,ag,mV h1,hf,cQ h2,hA1,hA2,cM,hs,em,ea,vS,v3,e4,e5]
    rw [e7]
    by_cases hz:c=48
    ·rw [decide_eq_true hz,decide_eq_false (λh=>h hz)]
     simp_arith [ae,ah,ag,vS,e6,Bool.false_or]
    ·rw [decide_eq_false hz,decide_eq_true hz]
     simp_arith [ae,ah,ag,v3,Bool.true_or]
 ·have hn:b8 w.cps.toList=false:=by
   unfold b8
   rw [<- hfl,decide_eq_false hA]
   rfl
  rw [hn]
  by_cases h3:1<=f.length
  ·have hA1:decide ((1:Int)<=(f.length:Int))=true:=decide_eq_true (by omega)
   have hA2:decide ((f.length:Int)<=400)=false:=decide_eq_false (by omega)
   simp_arith [iK,ae,ah,ag,mV h1,hf,cQ h2,hA1,hA2,v3]
  ·have hA1:decide ((1:Int)<=(f.length:Int))=false:=decide_eq_false (by omega)
   simp_arith [iK,ae,ah,ag,mV h1,hf,cQ h2,hA1,v3]
theorem uf {w:Str} (h:b8 w.cps.toList=true):bn g6 [.str w]=.ret (.int (eu w.cps.toList)):=by
 have hl:=Zjz h
 have hl2:w.length<=640:=by unfold Str.length; rw [<- wm]; omega
 unfold bn g6
 dsimp only
 rw [decide_eq_true hl2,if_pos rfl,Zk4 h]
 rfl
theorem Zal {w:Str} (h:w.length<=500000):jW [.d (.str w)]=.ret (if b8 w.cps.toList then some (.d (.int (eu w.cps.toList))) else none):=by
 cases hn:b8 w.cps.toList with
 | false =>
  simp_arith [jW,ae,ah,ag,uC h,hn,v3]
  rfl
 | true =>
  simp_arith [jW,ae,ah,ag,uC h,hn,vS,uf hn]
  rfl
theorem ZdF {w:Str} (h:w.length<=500000) (hn:b8 w.cps.toList=true):mq [.d (.str w)]=.ret (.d (.int (eu w.cps.toList))):=by
 simp_arith [mq,ae,ah,ag,uC h,hn,vS,uf hn]
theorem Zhn (l:List Nat):fM (mI (aw 0) o6 oW [.un]) (l.map λc=>.str ⟨#[c]⟩)=.ret ((l.filter λc=>!decide (48<=c/\c<=57)).map λc=>.str ⟨#[c]⟩):=by
 induction l with
 | nil=>rfl
 | cons c l ih =>
  have e0:mI (aw 0) o6 oW [.un] (.str ⟨#[c]⟩)=.ret (if (!decide (48<=c/\c<=57))=true then some (.str ⟨#[c]⟩) else none):=by
   simp_arith [o6,oW,ae,ah,ag,Zc3,if_true]
   cases hd:(!decide (48<=c/\c<=57)) with
   | false=>rfl
   | true=>rfl
  rw [vG,fM,e0,Tr.ret_bind,ih,Tr.ret_bind,List.filter_cons]
  cases hd:(!decide (48<=c/\c<=57)) with
  | false=>rfl
  | true=>rfl
theorem ZlB (l:List Nat):((l.filter λc=>!decide (48<=c/\c<=57)).map λc=>PyData.str ⟨#[c]⟩).isEmpty=l.all λc=>decide (48<=c/\c<=57):=by
 induction l with
 | nil=>rfl
 | cons c l ih =>
  rw [List.filter_cons,yN]
  cases hd:decide (48<=c/\c<=57) with
  | false=>rfl
  | true=>exact ih
theorem ZpE {w:Str} (h:w.length<=500000):dE [.d (.str w)]=.ret (.d (if b8 w.cps.toList then .int (eu w.cps.toList) else .none)):=by
 have h1:w.length<=1048576:=by omega
 have hb0:((Txt.slice w none (some 1)) == "-")=decide (w.cps.toList.head?=some 45):=by
  rw [kO,ZgX,tL]
  cases w.cps.toList with
  | nil=>rfl
  | cons c r=>simp
 obtain ⟨F,hF,hl,hbr⟩:∃ F:Str,F.cps.toList=figs w.cps.toList/\F.length<=1048576/\((((Txt.slice w none (some 1)) == "-")=true/\Txt.slice w (some 1) none=F)\/((((Txt.slice w none (some 1)) == "-")=false)/\w=F)):=by
  by_cases hm:w.cps.toList.head?=some 45
  ·refine ⟨Txt.slice w (some 1) none,?_,vO (x5 _ _ _) h1,.inl ⟨by rw [hb0,decide_eq_true hm],rfl⟩⟩
   rw [ZgZ]; unfold figs; rw [if_pos hm]
  ·refine ⟨w,?_,h1,.inr ⟨by rw [hb0,decide_eq_false hm],rfl⟩⟩
   unfold figs; rw [if_neg hm]
 have hFl:F.length=F.cps.toList.length:=by simp [Str.length]
 have hs:small (F.cps.toList.map λc=>PyData.str ⟨#[c]⟩).length=true:=dO (by rw [vB,<- hFl]; exact hl)
 have em:=Zhn F.cps.toList
 have ef:=ZlB F.cps.toList
 have en:(F == "")=decide (F.cps.toList=[]):=by rw [kO,tz]
 have ew:(w == "-0")=decide (w.cps.toList=[45,48]):=by rw [kO,Zj8]
 have hi:=λhn=>uf (w:=w) hn
 generalize hL:w.cps.toList=L at *
 -- what is told,by F's signs
 have key:b8 L=(!(decide (F.cps.toList=[])) && !decide (400 < F.cps.toList.length) && (F.cps.toList.all λc=>decide (48<=c/\c<=57)) && !(decide (L=[45,48])) && !(decide (1 < F.cps.toList.length) && decide (F.cps.toList.head?=some 48))):=by
  rw [hF]
  unfold b8
  cases hc:figs L with
  | nil=>simp
  | cons c r =>
   have e1:decide (1<=(c::r).length/\(c::r).length<=400)=!decide (400 < (c::r).length):=by
    rw [vN]
    by_cases h4:r.length+1<=400
    ·rw [decide_eq_true ⟨by omega,h4⟩,decide_eq_false (by omega)]; rfl
    ·rw [decide_eq_false (λz=>h4 z.2),decide_eq_true (by omega)]; rfl
   have e0:decide (c::r=([]:List Nat))=false:=decide_eq_false (by simp)
   rw [e1,e0]
   have e2:(decide ((c::r).head?≠some 48) || decide (L=[48]))=(!decide (L=[45,48]) && !(decide (1 < (c::r).length) && decide ((c::r).head?=some 48))):=by
    have hL2:(L=c::r/\c≠45)\/L=45::c::r:=by
     unfold figs at hc
     by_cases hm:L.head?=some 45
     ·rw [if_pos hm] at hc
      cases L with
      | nil=>cases hm
      | cons a l =>
       have ha:a=45:=vT hm
       rw [ha]
       exact .inr (by rw [show l=c::r from hc])
     ·rw [if_neg hm] at hc
      exact .inl ⟨hc,λe=>hm (by rw [hc,e]; rfl)⟩
    by_cases h48:c=48
    ·subst h48
     rcases hL2 with ⟨e,_⟩ | e <;> subst e <;> cases r <;> simp
    ·rcases hL2 with ⟨e,h45⟩ | e <;> subst e <;> simp [h48]
     exact .inl h45
   rw [e2]
   cases decide (400 < (c::r).length) <;> cases (c::r).all (λc=>decide (48<=c/\c<=57)) <;> simp
 have h400:decide ((F.length:Int) > 400)=decide (400 < F.cps.toList.length):=by
  rw [hFl]
  by_cases h4:400 < F.cps.toList.length
  ·rw [decide_eq_true h4,decide_eq_true (by omega)]
  ·rw [decide_eq_false h4,decide_eq_false (by omega)]
 have h1l:decide ((F.length:Int) > 1)=decide (1 < F.cps.toList.length):=by
  rw [hFl]
  by_cases h4:1 < F.cps.toList.length
  ·rw [decide_eq_true h4,decide_eq_true (by omega)]
  ·rw [decide_eq_false h4,decide_eq_false (by omega)]
 have e4:F.cps.toList≠[]->∃ c,F.cps.toList.head?=some c/\az bM (.str F) (.int 0)=.ret (.str ⟨#[c]⟩)/\((⟨#[c]⟩:Str) == "0")=decide (c=48):=by
  intro hne
  cases hc:F.cps.toList with
  | nil=>exact absurd hc hne
  | cons c r =>
   refine ⟨c,rfl,?_,?_⟩
   ·rw [uw hl,hc,qw]; rfl
   ·rw [kO,re]; simp
 cases hc:b8 L with
 | true =>
  have hi':=hi hc
  rw [hc] at key
  have key':=key.symm
  simp only [vQ,xb] at key'
  obtain ⟨⟨⟨⟨k1,k2⟩,k3⟩,k4⟩,k5⟩:=key'
  obtain ⟨c,hc1,hc2,hc3⟩:=e4 (of_decide_eq_false k1)
  rw [hc1] at k5
  have k6:decide (some c=some 48)=decide (c=48):=by simp
  rw [k6] at k5
  rw [k3] at ef
  rcases hbr with ⟨hb,hsl⟩ | ⟨hb,hsl⟩
  ·by_cases hz:1 < F.cps.toList.length
   ·rw [decide_eq_true hz,x4] at k5
    simp_arith [dE,ae,ah,ag,cZ h1,hb,hsl,en,k1,cQ hl,h400,k2,cM,hs,em,gz,ef,vS,v3,ew,k4,h1l,decide_eq_true hz,hc2,hc3,k5,hi',if_true]
   ·simp_arith [dE,ae,ah,ag,cZ h1,hb,hsl,en,k1,cQ hl,h400,k2,cM,hs,em,gz,ef,vS,v3,ew,k4,h1l,decide_eq_false hz,hi',if_true]
  ·subst hsl
   by_cases hz:1 < w.cps.toList.length
   ·rw [decide_eq_true hz,x4] at k5
    simp_arith [dE,ae,ah,ag,cZ h1,hb,en,k1,cQ hl,h400,k2,cM,hs,em,gz,ef,vS,v3,ew,k4,h1l,decide_eq_true hz,hc2,hc3,k5,hi',if_true]
   ·simp_arith [dE,ae,ah,ag,cZ h1,hb,en,k1,cQ hl,h400,k2,cM,hs,em,gz,ef,vS,v3,ew,k4,h1l,decide_eq_false hz,hi',if_true]
 | false =>
  rw [hc] at key
  cases k1:decide (F.cps.toList=[]) with
  | true =>
   rcases hbr with ⟨hb,hsl⟩ | ⟨hb,hsl⟩
   ·simp_arith [dE,ae,ah,ag,cZ h1,hb,hsl,en,k1,if_false,wb]
   ·subst hsl
    simp_arith [dE,ae,ah,ag,cZ h1,hb,en,k1,if_false,wb]
  | false =>
   cases k2:decide (400 < F.cps.toList.length) with
   | true =>
    rcases hbr with ⟨hb,hsl⟩ | ⟨hb,hsl⟩
    ·simp_arith [dE,ae,ah,ag,cZ h1,hb,hsl,en,k1,cQ hl,h400,k2,if_false,wb]
    ·subst hsl
     simp_arith [dE,ae,ah,ag,cZ h1,hb,en,k1,cQ hl,h400,k2,if_false,wb]
   | false =>
    cases k3:F.cps.toList.all (λc=>decide (48<=c/\c<=57)) with
    | false =>
     rw [k3] at ef
     rcases hbr with ⟨hb,hsl⟩ | ⟨hb,hsl⟩
     ·simp_arith [dE,ae,ah,ag,cZ h1,hb,hsl,en,k1,cQ hl,h400,k2,cM,hs,em,gz,ef,v3,if_false,wb]
     ·subst hsl
      simp_arith [dE,ae,ah,ag,cZ h1,hb,en,k1,cQ hl,h400,k2,cM,hs,em,gz,ef,v3,if_false,wb]
    | true =>
     rw [k3] at ef
     cases k4:decide (L=[45,48]) with
     | true =>
      rcases hbr with ⟨hb,hsl⟩ | ⟨hb,hsl⟩
      ·simp_arith [dE,ae,ah,ag,cZ h1,hb,hsl,en,k1,cQ hl,h400,k2,cM,hs,em,gz,ef,vS,ew,k4,if_false,wb]
      ·subst hsl
       simp_arith [dE,ae,ah,ag,cZ h1,hb,en,k1,cQ hl,h400,k2,cM,hs,em,gz,ef,vS,ew,k4,if_false,wb]
     | false =>
      obtain ⟨c,hc1,hc2,hc3⟩:=e4 (of_decide_eq_false k1)
      rw [k1,k2,k3,k4,hc1] at key
      have k6:decide (some c=some 48)=decide (c=48):=by simp
      rw [k6] at key
      have k5:decide (1 < F.cps.toList.length)=true/\decide (c=48)=true:=by simpa using key
      rcases hbr with ⟨hb,hsl⟩ | ⟨hb,hsl⟩
      ·simp_arith [dE,ae,ah,ag,cZ h1,hb,hsl,en,k1,cQ hl,h400,k2,cM,hs,em,gz,ef,vS,ew,k4,h1l,k5.1,hc2,hc3,k5.2,if_false,wb]
      ·subst hsl
       simp_arith [dE,ae,ah,ag,cZ h1,hb,en,k1,cQ hl,h400,k2,cM,hs,em,gz,ef,vS,ew,k4,h1l,k5.1,hc2,hc3,k5.2,if_false,wb]
end My
namespace My
open L2 Tw
theorem qe {i:Int} (h:i.natAbs.log2 < 1920):bn dN [.int i]=.ret (.str (ay i)):=by
 rw [Zdp h]
 exact congrArg (λs=>Tr.ret (PyData.str s)) (Zd1 i)
theorem tP {n k:Nat} (h:n < 2 ^ k) (hk:0 < k):n.log2 < k:=by
 by_cases h0:n=0
 ·subst h0; simpa using hk
 ·exact (yA h0).mpr h
theorem ZkQ (ps:za):(Str.join ⟨#[]⟩ ps).cps.toList=(ps.map λp=>p.cps.toList).flatten:=by
 induction ps with
 | nil=>rfl
 | cons p ps ih =>
  cases ps with
  | nil=>simp [Str.join]
  | cons q ps =>
   have e:Str.join ⟨#[]⟩ (p::q::ps)=p++⟨#[]⟩++Str.join ⟨#[]⟩ (q::ps):=rfl
   rw [e,w8,w8,wJ,wJ,ih]
   simp
theorem vx:(10000000000000000000000000000000000000000000000000000000000000000:Int)=((10 ^ 64:Nat):Int):=by decide
noncomputable def flt (ps:za):List Nat:=(ps.reverse.map λp=>p.cps.toList).flatten
theorem ZfI {i:Int}:∀ (n m:Nat) (ps:za) (J:Sl),m < 10 ^ (64 * (n+1))->ps.length+n<=100->(∀ p∈ps,p.length<=64)->∃ (m':Nat) (ps':za) (J':Sl),m' < 10 ^ 64/\digs m'++flt ps'=digs m++flt ps/\ps'.length<=ps.length+n/\(∀ p∈ps',p.length<=64)/\∀ fu,n < fu ->
  cV jf mJ fu [.d (.int i),.own (ps.map PyData.str),.d (.int m),J]=.ret (.next [.d (.int i),.own (ps'.map PyData.str),.d (.int m'),J']):=by
 have stop:∀ (m:Nat) (ps:za) (J:Sl) (fu:Nat),m < 10 ^ 64->0 < fu->cV jf mJ fu [.d (.int i),.own (ps.map PyData.str),.d (.int m),J]=.ret (.next [.d (.int i),.own (ps.map PyData.str),.d (.int m),J]):=by
  intro m ps J fu hm hf
  obtain ⟨f,rfl⟩:∃ f,fu=f+1:=⟨fu - 1,by omega⟩
  have e:jf [.d (.int i),.own (ps.map PyData.str),.d (.int m),J]=.ret false:=by
   have hd:decide ((m:Int) ≥ ((10 ^ 64:Nat):Int))=false:=decide_eq_false (by omega)
   simp_arith [jf,vx,ae,ah,ag,hd]
  rw [cV,e]
  rfl
 intro n
 induction n with
 | zero =>
  intro m ps J hm hl hp
  exact ⟨m,ps,J,hm,rfl,by omega,hp,λfu hf=>stop m ps J fu hm hf⟩
 | succ n ih =>
  intro m ps J hm hl hp
  by_cases hs:m < 10 ^ 64
  ·exact ⟨m,ps,J,hs,rfl,by omega,hp,λfu hf=>stop m ps J fu hs (by omega)⟩
  ·have hq0:0 < m / 10 ^ 64:=Nat.div_pos (by omega) (Nat.pow_pos (by decide))
   have hr:m % 10 ^ 64 < 10 ^ 64:=yo _ (Nat.pow_pos (by decide))
   have hq:m / 10 ^ 64 < 10 ^ (64 * (n+1)):=by
    refine Nat.div_lt_of_lt_mul ?_
    rw [<- Nat.pow_add]
    have:64+64 * (n+1)=64 * (n+1+1):=by omega
    rw [this]
    exact hm
   have hz:=Zfq (m % 10 ^ 64) hr
   have hzl:(Txt.zfill (ay ((m % 10 ^ 64:Nat):Int)) 64).length<=64:=by
    unfold Str.length
    rw [<- wm,hz]
    unfold padk
    rw [vW,wY]
    have:=jH 63 _ hr
    omega
   obtain ⟨m',ps',J',h1,h2,h3,h4,h5⟩:=ih (m / 10 ^ 64) (ps++[Txt.zfill (ay ((m % 10 ^ 64:Nat):Int)) 64]) (.d (.int (m % 10 ^ 64:Nat))) hq (by simp; omega) (λp hp'=>by
    rcases wE.mp hp' with hp' | hp'
    ·exact hp p hp'
    ·rw [xt.mp hp']; exact hzl)
   refine ⟨m',ps',J',h1,?_,by simp at h3; omega,h4,λfu hf=>?_⟩
   ·rw [h2]
    have e:=ZpW 63 (m / 10 ^ 64) (m % 10 ^ 64) hq0 hr
    have e2:m / 10 ^ 64 * 10 ^ (63+1)+m % 10 ^ 64=m:=Nat.div_add_mod' m (10 ^ 64)
    rw [e2] at e
    rw [e,ww]
    congr 1
    unfold flt
    rw [List.reverse_append,wk,List.flatten_append]
    show (Txt.zfill (ay ((m % 10 ^ 64:Nat):Int)) 64).cps.toList++[]++_=_
    rw [hz,v7]
   ·obtain ⟨f,rfl⟩:∃ f,fu=f+1:=⟨fu - 1,by omega⟩
    have e:jf [.d (.int i),.own (ps.map PyData.str),.d (.int m),J]=.ret true:=by
     have hd:decide ((m:Int) ≥ ((10 ^ 64:Nat):Int))=true:=decide_eq_true (by omega)
     simp_arith [jf,vx,ae,ah,ag,hd]
    have ed:bn mY [.int m,.int ((10 ^ 64:Nat):Int)]=.ret (.tuple [.int ((m / 10 ^ 64:Nat):Int),.int ((m % 10 ^ 64:Nat):Int)]):=by
     have hp:Builtin.divisionGoesByPylong (m:Int) ((10 ^ 64:Nat):Int)=false:=yJ (by trivial)
     unfold bn mY
     dsimp only
     rw [hp,if_pos (by trivial)]
     show Tr.ret _=_
     rw [show ((m:Int).fdiv ((10 ^ 64:Nat):Int))=((m / 10 ^ 64:Nat):Int) from (Int.ofNat_fdiv m (10 ^ 64)).symm,show ((m:Int).fmod ((10 ^ 64:Nat):Int))=((m % 10 ^ 64:Nat):Int) from (Int.ofNat_fmod m (10 ^ 64)).symm]
    have hr2:((m % 10 ^ 64:Nat):Int).natAbs.log2 < 1920:=by
     refine tP (vE (show ((m % 10 ^ 64:Nat):Int).natAbs < 10 ^ 64 by omega) ?_) (by decide)
     decide +kernel
    have ez:az jb (.str (ay ((m % 10 ^ 64:Nat):Int))) (.int 64)=.ret (.str (Txt.zfill (ay ((m % 10 ^ 64:Nat):Int)) 64)):=by
     unfold az jb
     dsimp only
     rw [if_pos (by trivial)]
     rfl
    have hsm:small ((ps.map PyData.str).length+1)=true:=cz (by rw [vB]; omega)
    have eb:mJ [.d (.int i),.own (ps.map PyData.str),.d (.int m),J]=.ret (.next [.d (.int i),.own ((ps++[Txt.zfill (ay ((m % 10 ^ 64:Nat):Int)) 64]).map PyData.str),.d (.int (m / 10 ^ 64:Nat)),.d (.int (m % 10 ^ 64:Nat))]):=by
     simp_arith [mJ,vx,ae,ah,ag,ed,qe hr2,ez,hsm,wk]
    rw [cV,e,Tr.ret_bind,if_pos rfl,eb]
    exact h5 f (by omega)
theorem uB {i:Int} (h:i.natAbs < 10 ^ 448):jx [.d (.int i)]=.ret (.d (.str (ay i))):=by
 obtain ⟨m',ps',J',h1,h2,h3,h4,h5⟩:=ZfI (i:=i) 6 i.natAbs [] .un h (by decide) (λp hp=>by cases hp)
 have hw:=h5 100000 (by decide)
 rw [wR] at hw
 have hl2:((m':Nat):Int).natAbs.log2 < 1920:=by
  refine tP (vE (show ((m':Nat):Int).natAbs < 10 ^ 64 by omega) ?_) (by decide)
  decide +kernel
 have h3':ps'.length<=6:=by simpa using h3
 have hsm:small ((ps'.map PyData.str).length+1)=true:=cz (by rw [vB]; omega)
 have hrev:((ps'.map PyData.str)++[PyData.str (ay m')]).reverse=((ay m')::ps'.reverse).map PyData.str:=by simp
 have hlen:∀ l:za,(∀ p∈l,p.length<=64)->(l.map (·.length)).sum<=64 * l.length:=by
  intro l
  induction l with
  | nil=>intro _; exact vF _
  | cons p l ih =>
   intro hp
   have:=ih λq hq=>hp q (vC _ hq)
   have:=hp p (by simp)
   rw [vG,wo,vN]
   omega
 have hd64:(ay (m':Int)).length<=64:=by
  rw [qk,kM]
  exact jH 63 m' h1
 have hj:("":Str).length<=16/\((ay (m':Int)::ps'.reverse).map (·.length)).sum+(ay (m':Int)::ps'.reverse).length<=1048576:=by
  refine ⟨by decide,?_⟩
  have:=hlen (ay (m':Int)::ps'.reverse) (λp hp=>by
   rcases vD.mp hp with rfl | hp
   ·exact hd64
   ·exact h4 p (List.mem_reverse.mp hp))
  have e:(ay (m':Int)::ps'.reverse).length<=7:=by simp; omega
  omega
 have ejl:(Txt.join "" (ay (m':Int)::ps'.reverse)).cps.toList=digs i.natAbs:=by
  rw [tjoin,tz,ZkQ,vG,wv,hU,kM]
  have h2':digs m'++flt ps'=digs i.natAbs++flt []:=h2
  have e0:flt []=[]:=rfl
  rw [e0,v7] at h2'
  exact h2'
 have ejlen:(Txt.join "" (ay (m':Int)::ps'.reverse)).length<=1000:=by
  unfold Str.length
  rw [<- wm,ejl]
  have:=jH 447 i.natAbs h
  omega
 have ha:iY i=((i.natAbs:Nat):Int):=by unfold iY; split <;> omega
 have ejn:az cv (.str "") (.list (PyData.str (ay (m':Int))::ps'.reverse.map PyData.str))=.ret (.str (Txt.join "" (ay (m':Int)::ps'.reverse))):=ae hj
 by_cases hn:i < 0
 ·have hadd:("-":Str).length+(Txt.join "" (ay (m':Int)::ps'.reverse)).length<=1048576:=by
   have:("-":Str).length=1:=by decide
   omega
  have er:("-":Str)++Txt.join "" (ay (m':Int)::ps'.reverse)=ay i:=by
   apply jj
   rw [w8,wJ,ejl,hU,tL]
   unfold cw
   rw [if_pos hn]
   rfl
  simp_arith [jx,ae,ah,ag,ha,hw,qe hl2,hsm,hrev,ejn,decide_eq_true hn,iT hadd,er]
 ·have hadd:("":Str).length+(Txt.join "" (ay (m':Int)::ps'.reverse)).length<=1048576:=by
   have:("":Str).length=0:=by decide
   omega
  have er:("":Str)++Txt.join "" (ay (m':Int)::ps'.reverse)=ay i:=by
   apply jj
   rw [w8,wJ,ejl,hU,tz]
   unfold cw
   rw [if_neg hn]
   rfl
  simp_arith [jx,ae,ah,ag,ha,hw,qe hl2,hsm,hrev,ejn,decide_eq_false hn,iT hadd,er]
noncomputable def fo:PyData->Bool
 | .str _=>true
 | _=>false
theorem ud (d:PyData):iN "str" (gh d)=fo d:=by cases d <;> rfl
theorem lg (d:PyData):jX [.d d]=.ret (if fo d=true then some (.d .none) else none):=by
 cases h:fo d with
 | false =>
  simp_arith [jX,ae,ah,ag,ud,h,v3]
  rfl
 | true =>
  simp_arith [jX,ae,ah,ag,ud,h,vS]
  rfl
theorem ZdK (t:Str):mF [.d (.str t)]=.ret (.d .none):=by
 have h:fo (.str t)=true:=rfl
 simp_arith [mF,ae,ah,ag,ud,h,vS]
theorem o7 {i:Int} (h:i.natAbs < 10 ^ 400):i.natAbs < 10 ^ 448:=yb h (Nat.pow_lt_pow_right (by decide) (by decide))
theorem ZdC {s:Shp} (h:s.Ok):mj [.d s.d]=.ret (.d (.tuple (bp (-s.depth) (s.top+1)))):=by
 have:=h.t0
 have:=h.d0
 have:=h.td
 have hr:lV (-s.depth) (s.top+1)=true:=by
  unfold lV
  rw [jE (by omega) (by omega),jE (by omega) (by omega)]
  simp
  omega
 simp_arith [mj,ae,ah,ag,Zdo hr]
theorem ZdG (s:Shp) (y f:Int):mr [.d s.d,.d (.int y),.d (.int f)]=.ret (.d (.int (s.nx y f))):=by
 simp_arith [mr,ae,ah,ag,Shp.nx]
theorem ZpO {s:Shp} (h:s.Ok) {x:Int} (hx:nb 20 x):mC [.d s.d,.d (.int x)]=.ret (.d (.int (s.fin x))):=by
 have f1:=bL (gW h.back) (by decide)
 have f2:=bL h.late (by decide)
 have f3:=bL hx (by decide)
 have f4:=bL (gW hx) (by decide)
 by_cases hp:x > 0
 ·simp_arith [mC,ae,ah,ag,decide_eq_true hp,f1,f3,Shp.fin,if_pos hp]
 ·simp_arith [mC,ae,ah,ag,decide_eq_false hp,f2,f4,Shp.fin,if_neg hp]
theorem ZpP {s:Shp} (h:s.Ok) {y f:Int} (hy:nb 20 y) (hf:nb 40 f):mD [.d s.d,.d (.int y),.d (.int f)]=.ret (.d (.int (s.day y f))):=by
 have hd:nb 7 s.depth:=by have:=h.t0; have:=h.d0; have:=h.td; exact cB (by show -128 < _; omega) (by show _ < 128; omega)
 have hn:nb 50 (s.nx y f):=by
  unfold Shp.nx jw
  exact pf (bK (gW hd) (by decide)) (bK (jt hy hf) (by decide))
 have f1:=bL h.keep (by decide)
 have f2:=bL hn (by decide)
 have f3:=bL (gW hn) (by decide)
 have f4:=bL h.lack (by decide)
 have f5:=bL h.lost (by decide)
 have f6:=bL (jt hn (jt hy hf)) (by decide)
 have e:=ZdG s y f
 by_cases hp:s.nx y f > 0
 ·simp_arith [mD,ae,ah,ag,e,decide_eq_true hp,f1,f2,f5,f6,Shp.day,if_pos hp]
 ·simp_arith [mD,ae,ah,ag,e,decide_eq_false hp,f3,f4,f5,f6,Shp.day,if_neg hp]
theorem ZpN {s:Shp} (h:s.Ok):pQ [.d s.d]=.ret (.own ((s.row s.fin).map PyData.int)):=by
 have:=h.t0
 have:=h.d0
 have:=h.td
 have hs:small (bp (-s.depth) (s.top+1)).length=true:=cz (by rw [cF]; omega)
 have e:bH (bT (aw 0) sD (blk 1 [0] [.d s.d])) (bp (-s.depth) (s.top+1))=.ret ((s.row s.fin).map PyData.int):=by
  refine Eq.trans (ZcA (f:=λx=>.int (s.fin x)) λz h1 h2=>?_) ?_
  ·have e1:=ZpO h (x:=z) (cB (by show -1048576 < _; omega) (by show _ < 1048576; omega))
   simp_arith [sD,ae,ah,ag,e1]
  ·unfold Shp.row Shp.n
   rw [wL]
   rfl
 simp_arith [pQ,ae,ah,ag,ZdC h,hs] at e ⊢
 simp_arith [e,ae,ah,ag]
theorem Zkm (l:y8):(l.map PyData.int).length=l.length:=vB ..
theorem Zpw {s:Shp} (h:s.Ok) {day:y8} (hd:DayB day) {y:Int} (y1:-s.depth<=y) (y2:y<=s.top) {A:Int->Int} {b:Nat} (hA:Bd s b A) {sc:Int} (hs:nb b sc) (hb:b<=5000) :
  pE [.d s.d,.d (tI day),.d (.int y),.d (lI (s.row A)),.d (.int sc)]=.ret (.d (.int (s.wg day y A sc))):=by
 have:=h.t0
 have:=h.d0
 have:=h.td
 have hy:nb 20 y:=cB (by show -1048576 < _; omega) (by show _ < 1048576; omega)
 apply u8
 simp_arith [pE,tI,lI,ae,ah,ag]
 refine dW (n:=0) (n':=0) (P:=λo=>∃ J1 J2 J3:Sl,o=.next [.d s.d,.d (.tuple (day.map PyData.int)),.d (.int y),.d (.list ((s.row A).map PyData.int)),.d (.int sc),.d (.int (s.wg day y A sc)),J1,J2,J3]) ?_ (by decide) ?_
 ·refine qA (n:=0) (λpre ρ=>∃ J1 J2 J3:Sl,ρ=[.d s.d,.d (.tuple (day.map PyData.int)),.d (.int y),.d (.list ((s.row A).map PyData.int)),.d (.int sc),.d (.int (s.wg day y A sc - ws (λf=>sc * s.day y f+A (s.nx y f)) pre.length (day.drop pre.length))),J1,J2,J3]) ⟨.un,.un,.un,?_⟩ (by simp) ?_ ?_
  ·have:s.wg day y A sc - ws (λf=>sc * s.day y f+A (s.nx y f)) 0 day=0:=by unfold Shp.wg; omega
   simp only [wU,yh,this]
  ·rintro pre x post ρ e ⟨J1,J2,J3,rfl⟩
   obtain ⟨w,hw,rfl⟩:=Zpq e
   rw [v5] at hw
   obtain ⟨v,hv,rfl⟩:=wG.mp hw
   refine ⟨_,rfl,?_⟩
   have hl:pre.length < day.length:=(vH.mp hv).1
   have hlen:=hd.len
   have hf:nb 40 (pre.length:Int):=cB (by show -1099511627776 < _; omega) (by show _ < 1099511627776; omega)
   have e1:=ZdG s y pre.length
   have e2:=ZpP h hy hf
   have n1:=tm s y pre.length
   have n2:=tj h y2 (show (0:Int)<=pre.length by omega)
   have e3:=ZhO (f:=A) n1 n2
   have v1:nb 30 v:=hd.nb v (yf hv)
   have b1:=cu hs (ql h hy hf)
   have f1:=bL hs (by omega)
   have f2:=bL (ql h hy hf) (by decide)
   have f3:=bL v1 (by decide)
   have f4:=bL (iD b1 (hA _ n1 n2)) (by omega)
   simp_arith [ZcL,ae,ah,ag,e1,e2,e3,f1,f2,f3,f4]
   have ed:day.drop pre.length=v::day.drop (pre.length+1):=by
    rw [wK hl]
    congr 1
    exact (vH.mp hv).2
   have el:(pre++[PyData.tuple [PyData.int pre.length,PyData.int v]]).length=pre.length+1:=by simp
   have ee:s.wg day y A sc - ws (λf=>sc * s.day y f+A (s.nx y f)) pre.length (day.drop pre.length)+v * (sc * s.day y pre.length+A (s.nx y pre.length)) =
     s.wg day y A sc - ws (λf=>sc * s.day y f+A (s.nx y f)) (pre++[PyData.tuple [PyData.int pre.length,PyData.int v]]).length (day.drop (pre++[PyData.tuple [PyData.int pre.length,PyData.int v]]).length):=by
    rw [el,ed,ws]
    omega
   rw [ee]
   exact cj ⟨_,rfl,_,_,_,rfl⟩
  ·rintro ρ ⟨J1,J2,J3,rfl⟩
   refine ⟨J1,J2,J3,?_⟩
   rw [Zpr,Zkm,xk,ws,Int.sub_zero]
 ·rintro _ ⟨J1,J2,J3,rfl⟩
  simp_arith [ae,ah,ag]
  exact cj rfl
theorem ZpG {s:Shp} (h:s.Ok) {day:y8} (hd:DayB day) {A:Int->Int} {b:Nat} (hA:Bd s b A) {sc:Int} (hs:nb b sc) (hb:b<=5000) :
  pJ [.d s.d,.d (tI day),.d (lI (s.row A)),.d (.int sc)]=.ret (.own ((s.row (s.sm day A sc)).map PyData.int)):=by
 have:=h.t0
 have:=h.d0
 have:=h.td
 have f1:=bL hs (by omega)
 have f2:=bL (il hd) (by decide)
 have f3:=bL (cu hs (il hd)) (by omega)
 have f4:=bL h.piece (by decide)
 have f5:=bL (cu (cu hs (il hd)) h.piece) (by omega)
 have es:bn gN [tI day]=.ret (.int day.sum):=uu day
 have hsm:small (bp (-s.depth) (s.top+1)).length=true:=cz (by rw [cF]; omega)
 have e:bH (bT (aw 0) sy (blk 1 [0,1,2,3,4] [.d s.d,.d (tI day),.d (lI (s.row A)),.d (.int sc),.d (.int (sc * day.sum))])) (bp (-s.depth) (s.top+1))=.ret ((s.row (s.sm day A sc)).map PyData.int):=by
  refine Eq.trans (ZcA (f:=λx=>.int (s.sm day A sc x)) λz h1 h2=>?_) ?_
  ·have e1:=Zpw h hd (y:=z) (by omega) (by omega) hA hs hb
   have hz:nb 20 z:=cB (by show -1048576 < _; omega) (by show _ < 1048576; omega)
   have f6:=bL hz (by decide)
   simp_arith [sy,ae,ah,ag,e1,f3,f4,f5,f6]
   rfl
  ·unfold Shp.row Shp.n
   rw [wL]
   rfl
 simp_arith [pJ,ae,ah,ag,ZdC h,hsm,es,f1,f2] at e ⊢
 simp_arith [e,ae,ah,ag]
theorem ZrB {xs:y6} {v:PyData} (h:xs[xs.length - 1]?=some v):br xs (-1)=some v:=by
 have hl:xs≠[]:=λe=>by subst e; cases h
 have hp:0 < xs.length:=yi.mpr hl
 obtain ⟨k,hk⟩:=Nat.exists_eq_succ_of_ne_zero (wq hp)
 unfold br iM
 have e0:(-1:Int)+(xs.length:Int)=(k:Int):=by rw [hk]; show (-1:Int)+((k:Int)+1)=k; rw [Int.add_comm,Int.add_assoc]; exact Int.add_zero _
 have e:((-1:Int)+(xs.length:Int)).toNat=xs.length - 1:=by rw [e0,hk]; exact xa k
 rw [if_neg (by decide),if_pos (by omega)]
 show xs[((-1:Int)+(xs.length:Int)).toNat]?=some v
 rw [e]
 exact h
noncomputable def fk (g:Int->Int) (top K P x:Int):PyData:=.tuple [.int (cst g top K P x),.int (lvl g top K x)]
theorem ZhZ {lo hi:Int} {F:Int->PyData}:((List.range (hi - lo).toNat).map λ(i:Nat)=>F (hi - 1 - i)).reverse=(bD lo (hi - lo).toNat).map F:=by
 unfold bD
 rw [wL]
 apply List.ext_getElem?
 intro i
 by_cases hi':i < (hi - lo).toNat
 ·rw [wZ (by simpa using hi'),vB,xV,v5,v5,wI (by omega),wI hi']
  show some (F (hi - 1 - (((hi - lo).toNat - 1 - i:Nat):Int)))=some (F (lo+(i:Int)))
  congr 2
  omega
 ·rw [List.getElem?_eq_none (by simpa using hi'),List.getElem?_eq_none (by simpa using hi')]
theorem ZpQ {s:Shp} (h:s.Ok) {low:Int} (hl:low<=s.top) (hl0:-1000<=low) {g:Int->Int} {b:Nat} (hg:∀ x,low<=x->x<=s.top->nb b (g x)) {sc:Int} (hs:nb b sc) (hK:0<=sc * s.start) (hb:b<=3000) :
  pS [.d s.d,.d (.int low),.d (lI ((bD low (s.top+1 - low).toNat).map g)),.d (.int sc)]=.ret (.own ((bD low (s.top+1 - low).toNat).map (fk g s.top (sc * s.start) (sc * s.piece)))):=by
 have:=h.t0
 have:=h.d0
 have:=h.td
 have hn:0 < (s.top+1 - low).toNat:=by omega
 have hlen:(((bD low (s.top+1 - low).toNat).map g).map PyData.int).length=(s.top+1 - low).toNat:=by rw [vB,vB,ir]
 have hat:∀ x,low<=x->x<=s.top->(((bD low (s.top+1 - low).toNat).map g).map PyData.int)[(x - low).toNat]?=some (.int (g x)):=λx h1 h2=>by
  unfold bD
  rw [wL,wL,v5,wI (by omega)]
  show some (PyData.int (g (low+((x - low).toNat:Int))))=_
  congr 3
  omega
 have hlast:br (((bD low (s.top+1 - low).toNat).map g).map PyData.int) (-1)=some (.int (g s.top)):=ZrB (by
  rw [hlen]
  have:=hat s.top hl (xA _)
  have e:(s.top - low).toNat=(s.top+1 - low).toNat - 1:=by
   obtain ⟨k,hk⟩:=xZ (Int.sub_nonneg_of_le hl)
   have hk2:s.top+1 - low=((k+1:Nat):Int):=by omega
   rw [hk,hk2]
   rfl
  rw [e] at this
  exact this)
 have r1:fP low=true:=jE (by omega) (by omega)
 have r2:fP (s.top+1)=true:=jE (by omega) (by omega)
 have f1:=bL hs (by omega)
 have f2:=bL h.start (by decide)
 have f3:=bL h.piece (by decide)
 have f4:=bL (cu hs h.piece) (by omega)
 apply u8
 simp_arith [pS,lI,ae,ah,ag,hlast,ZmU r1 r2]
 refine dW (n:=0) (n':=0) (P:=λo=>∃ J5 J6 J7 J8 J9:Sl,o=.next [.d s.d,.d (.int low),.d (.list (((bD low (s.top+1 - low).toNat).map g).map PyData.int)),.d (.int sc),.own ((List.range (s.top+1 - low).toNat).map λ(i:Nat)=>fk g s.top (sc * s.start) (sc * s.piece) (s.top+1 - 1 - i)),J5,J6,J7,J8,J9]) ?_ (by decide) ?_
 ·refine qA (n:=0) (λpre ρ=>∃ J6 J7 J8 J9:Sl,ρ=[.d s.d,.d (.int low),.d (.list (((bD low (s.top+1 - low).toNat).map g).map PyData.int)),.d (.int sc),.own ((List.range pre.length).map λ(i:Nat)=>fk g s.top (sc * s.start) (sc * s.piece) (s.top+1 - 1 - i)),.d (.tuple [.int (bst g s.top (pre.length - 1)).1,.int (bst g s.top (pre.length - 1)).2]),J6,J7,J8,J9]) ⟨.un,.un,.un,.un,rfl⟩ (by simp) ?_ ?_
  ·rintro pre x post ρ e ⟨J6,J7,J8,J9,rfl⟩
   obtain ⟨rfl,hpre⟩:=ZhR e
   refine ⟨_,rfl,?_⟩
   generalize hk:pre.length=k at hpre ⊢
   have hx1:low<=s.top+1 - 1 - (k:Int):=by omega
   have hx2:s.top+1 - 1 - (k:Int)<=s.top:=by omega
   have ha:br (((bD low (s.top+1 - low).toNat).map g).map PyData.int) (s.top+1 - 1 - (k:Int) - low)=some (.int (g (s.top+1 - 1 - (k:Int)))):=na (by omega) (hat _ hx1 hx2)
   have hxn:nb 20 (s.top+1 - 1 - (k:Int)):=cB (by show -1048576 < _; omega) (by show _ < 1048576; omega)
   have f5:=bL hxn (by decide)
   have hsm:small (((List.range k).map λ(i:Nat)=>fk g s.top (sc * s.start) (sc * s.piece) (s.top+1 - 1 - i)).length+1)=true:=cz (by rw [vB,xV]; omega)
   have el:(pre++[PyData.int (s.top+1 - 1 - (k:Int))]).length=k+1:=by rw [vW,hk]; rfl
   have m1:bn iI [.tuple [.int (g (s.top+1 - 1 - (k:Int))),.int (s.top+1 - 1 - (k:Int))],.tuple [.int (sc * s.start+(bst g s.top (k - 1)).1),.int (bst g s.top (k - 1)).2]]=.ret (.tuple [.int (pck g s.top (sc * s.start) (s.top+1 - 1 - (k:Int))).1,.int (pck g s.top (sc * s.start) (s.top+1 - 1 - (k:Int))).2]):=by
    rw [uy]
    cases k with
    | zero =>
     have ex:s.top+1 - 1 - ((0:Nat):Int)=s.top:=by simp
     rw [ex,Zcb,if_neg]
     show ¬ (sc * s.start+g s.top < g s.top\/sc * s.start+g s.top=g s.top/\s.top < s.top)
     omega
    | succ n =>
     have ex:s.top+1 - 1 - ((n+1:Nat):Int)=s.top - ((n+1:Nat):Int):=by omega
     rw [ex,Zcc,Nat.add_sub_cancel]
     have hb:=(qv g s.top n).1
     by_cases hc:sc * s.start+(bst g s.top n).1 < g (s.top - ((n+1:Nat):Int))
     ·rw [if_pos (.inl hc),if_pos hc]
     ·rw [if_neg (by omega),if_neg hc]
   have m2:bn iI [.tuple [.int (g (s.top+1 - 1 - (k:Int))),.int (s.top+1 - 1 - (k:Int))],.tuple [.int (bst g s.top (k - 1)).1,.int (bst g s.top (k - 1)).2]]=.ret (.tuple [.int (bst g s.top k).1,.int (bst g s.top k).2]):=by
    rw [uy]
    cases k with
    | zero =>
     have ex:s.top+1 - 1 - ((0:Nat):Int)=s.top:=by simp
     rw [ex,if_neg]
     ·rfl
     ·show ¬ (g s.top < g s.top\/g s.top=g s.top/\s.top < s.top)
      omega
    | succ n =>
     have ex:s.top+1 - 1 - ((n+1:Nat):Int)=s.top - ((n+1:Nat):Int):=by omega
     rw [ex,Nat.add_sub_cancel]
     have hb:=(qv g s.top n).1
     rw [bst]
     by_cases hc:(bst g s.top n).1 < g (s.top - ((n+1:Nat):Int))
     ·rw [if_pos (.inl hc),if_pos hc]
     ·rw [if_neg (by omega),if_neg hc]
   simp_arith [ZcN,ae,ah,ag,ha,m1,m2,f1,f2,f3,f4,f5,hsm]
   rw [el,yB,wk]
   exact cj ⟨_,rfl,_,_,_,_,rfl⟩
  ·rintro ρ ⟨J6,J7,J8,J9,rfl⟩
   rw [wt,cF]
   exact ⟨_,J6,J7,J8,J9,rfl⟩
 ·rintro _ ⟨J5,J6,J7,J8,J9,rfl⟩
  simp_arith [ae,ah,ag]
  rw [ZhZ]
  exact cj rfl
theorem ZpR {s:Shp} (h:s.Ok) {g:Int->Int} {b:Nat} (hg:Bd s b g) {sc:Int} (hs:nb b sc) (h0:0<=sc) (hb:b<=3000) :
  pT [.d s.d,.d (lI (s.row g)),.d (.int sc)]=.ret (.own ((bD (-s.depth) s.n).map (fk g s.top (sc * s.start) (sc * s.piece)))):=by
 have:=h.t0
 have:=h.d0
 have:=h.td
 have e:=ZpQ h (low:=-s.depth) (by omega) (by omega) (λx h1 h2=>hg x h1 h2) hs (xT h0 h.start0) hb
 simp_arith [pT,ae,ah,ag]
 unfold Shp.row Shp.n
 rw [e]
 simp_arith [ae,ah,ag]
theorem ZdI {a b:Int} (hb:nb 8000 b):mE [.d (.int a),.d (.int b)]=.ret (.d (.int (Nat.gcd a.natAbs b.natAbs:Nat))):=by
 have key:=euclid (p:=rz) (s:=t5) (E:=λa b=>[.d (.int a),.d (.int b)]) (λa b=>by
  simp_arith [rz,ae,ah,ag]
  by_cases h:b=0
  ·subst h; rfl
  ·rw [decide_eq_true h]
   congr 1
   simp [h]) (λa b h=>by
  have h':(b:Int)≠0:=by omega
  simp_arith [t5,ae,ah,ag,ux h',Zdi]) 8000 83999 a.natAbs b.natAbs hb
 have e:2 * 8000+1+83999=100000:=rfl
 rw [e] at key
 simp_arith [mE,ae,ah,ag,Ze9,key]
theorem Zpz {t b:Int} (h0:b≠0) (hb:nb 7000 b):mn [.d (.int t),.d (.int b)]=.ret (.d (ke t b)):=by
 have e:=ZdI (a:=t) (b:=b) (bK hb (by decide))
 have e0:(b == 0)=false:=beq_eq_false_iff_ne.mpr h0
 have hd:=Gc.uH (t:=t) h0
 have hf:=bL (uI (t:=t) hb h0) (by decide)
 unfold ke Gc.gr Gc.fN
 by_cases hn:b < 0
 ·have ed:Gc.den t b=-((Nat.gcd t.natAbs b.natAbs:Nat):Int):=by unfold Gc.den Gc.g9; rw [if_pos hn]
  rw [ed] at hd hf ⊢
  simp_arith [mn,ae,ah,ag,e0,e,decide_eq_true hn,qf hd hf]
 ·have ed:Gc.den t b=((Nat.gcd t.natAbs b.natAbs:Nat):Int):=by unfold Gc.den Gc.g9; rw [if_neg hn]
  rw [ed] at hd hf ⊢
  simp_arith [mn,ae,ah,ag,e0,e,decide_eq_false hn,qf hd hf]
theorem Zed {g:Int->Int} {top K P:Int}:∀ l:y8,bH (bT (cY (bB (aw 0) (bB (aw 1) cO))) oR [.un,.un]) (l.map (fk g top K P))=.ret ((l.map (cst g top K P)).map PyData.int)
 | []=>rfl
 | x::l=>by
  have ih:=Zed (g:=g) (top:=top) (K:=K) (P:=P) l
  have e0:bT (cY (bB (aw 0) (bB (aw 1) cO))) oR [.un,.un] (fk g top K P x)=.ret (.int (cst g top K P x)):=by
   simp_arith [oR,fk,ae,ah,ag]
  rw [vG,bH,e0,Tr.ret_bind,ih]
  rfl
theorem Zdv {g:Int->Int} {top K P B:Int} (hB:B≠0) (hn:nb 7000 B):∀ l:y8,bH (bT (cY (bB (aw 0) (bB (aw 1) cO))) oS [.un,.un,.d (.int B)]) (l.map (fk g top K P))=.ret (l.map λx=>uA (cst g top K P x) B (lvl g top K x))
 | []=>rfl
 | x::l=>by
  have ih:=Zdv (g:=g) (top:=top) (K:=K) (P:=P) hB hn l
  have e0:bT (cY (bB (aw 0) (bB (aw 1) cO))) oS [.un,.un,.d (.int B)] (fk g top K P x)=.ret (uA (cst g top K P x) B (lvl g top K x)):=by
   have e2:=Zpz (t:=cst g top K P x) hB hn
   simp_arith [oS,fk,ae,ah,ag,e2]
   rfl
  rw [vG,bH,e0,Tr.ret_bind,ih]
  rfl
theorem ZpH {s:Shp} (h:s.Ok) {fs:List y8} (hf:∀ l∈fs,DayB l) (hl:fs.length<=6):pK [.d s.d,.d (fD fs)]=.ret (.d (.tuple (s.tab fs))):=by
 have hsub:∀ k,∀ l∈fs.drop k,DayB l:=λk l hl=>hf l (List.mem_of_mem_drop hl)
 have hR:∀ k,Bd s 1900 (s.bk (fs.drop k)).1/\nb 1900 (s.bk (fs.drop k)).2:=λk=>by
  obtain ⟨h1,h2⟩:=ZeD h (hsub k)
  have:(fs.drop k).length<=6:=by rw [xD]; omega
  exact ⟨λx a b=>bK (h1 x a b) (by omega),bK h2 (by omega)⟩
 have hsc:∀ k,0 < (s.bk (fs.drop k)).2:=λk=>m9 (hsub k)
 apply u8
 simp_arith [pK,ae,ah,ag,ZpN h,ZkT]
 refine dW (n:=0) (n':=0) (P:=λo=>∃ J3 J4 J5 J6 J7:Sl,o=.next [.d s.d,.d (fD fs),.own (s.tab fs).reverse,J3,J4,J5,J6,J7]) ?_ (by decide) ?_
 ·refine qA (n:=0) (λpre ρ=>∃ J5 J6 J7:Sl,ρ=[.d s.d,.d (fD fs),.own (s.tab (fs.drop (fs.length - pre.length))).reverse,.d (lI (s.row (s.bk (fs.drop (fs.length - pre.length))).1)),.d (.int (s.bk (fs.drop (fs.length - pre.length))).2),J5,J6,J7]) ⟨.un,.un,.un,?_⟩ (by simp) ?_ ?_
  ·rw [wU,Nat.sub_zero,xk]
   rfl
  ·rintro pre x post ρ e ⟨J5,J6,J7,rfl⟩
   obtain ⟨d,rfl,hpl,hdr⟩:=Zh0 e
   refine ⟨_,rfl,?_⟩
   have hdd:DayB d:=hsub (fs.length - (pre.length+1)) d (by rw [hdr]; simp)
   obtain ⟨k1,k2⟩:=hR (fs.length - pre.length)
   have k3:=hsc (fs.length - pre.length)
   have el:(pre++[tI d]).length=pre.length+1:=by simp
   rw [el,hdr]
   have htl:(s.tab (fs.drop (fs.length - pre.length))).reverse.length<=6:=by rw [wt,ZaF,xD]; omega
   generalize hR':fs.drop (fs.length - pre.length)=R at *
   have e1:=ZpG h hdd k1 k2 (by decide)
   have b1:=ZaZ h hdd k1 k2
   have b2:=cu k2 (il hdd)
   have f1:=bL k2 (by decide)
   have f2:=bL (il hdd) (by decide)
   have hpos:=Int.mul_pos k3 hdd.pos
   have e2:=ZpR h (b:=1900+151) b1 (bK b2 (by decide)) (xn hpos) (by decide)
   have hsm:small ((bD (-s.depth) s.n).map (fk (s.sm d (s.bk R).1 (s.bk R).2) s.top ((s.bk R).2 * d.sum * s.start) ((s.bk R).2 * d.sum * s.piece))).length=true:=cz (by
    rw [vB,ir]
    have:=h.n_eq; have:=h.td; omega)
   have hsm2:small ((s.tab R).reverse.length+1)=true:=cz (by omega)
   unfold lI at e1 e2
   simp_arith [ZcM,lI,ae,ah,ag,e1,ZgN,f1,f2,e2,hsm,Zed,Zdv (Int.ne_of_gt hpos) (bK b2 (by decide)),hsm2]
   rw [Shp.tab,xz]
   exact cj ⟨_,rfl,_,_,_,rfl⟩
  ·rintro ρ ⟨J5,J6,J7,rfl⟩
   rw [wt,vB,Nat.sub_self,yh]
   exact Exists.intro _ (Exists.intro _ ⟨J5,J6,J7,rfl⟩)
 ·rintro _ ⟨J3,J4,J5,J6,J7,rfl⟩
  simp_arith [ae,ah,ag,List.reverse_reverse]
  exact cj rfl
theorem ZdJ {a b:Int} (ha:nb 8000 a):mz [.d (.int a),.d (.int b)]=.ret (.d (.int (Nat.gcd a.natAbs b.natAbs:Nat))):=by
 have key:=euclid (p:=rq) (s:=tZ) (E:=λa b=>[.d (.int b),.d (.int a)]) (λa b=>by
  simp_arith [rq,ae,ah,ag]
  by_cases h:b=0
  ·subst h; rfl
  ·rw [decide_eq_true h]
   congr 1
   exact decide_eq_true (by omega)) (λa b h=>by
  have h':(b:Int)≠0:=by omega
  simp_arith [tZ,ae,ah,ag,ux h',Zdi]) 8000 83999 b.natAbs a.natAbs ha
 have e:2 * 8000+1+83999=100000:=rfl
 rw [e] at key
 rw [yt]
 simp_arith [mz,ae,ah,ag,Ze9,key]
theorem gw:bn iO [.bool true]=.ret (.int 1):=rfl
theorem it0:bn iO [.bool false]=.ret (.int 0):=rfl
theorem ZpF {t b:Int} (h0:b≠0) (ht:nb 7000 t) (hb:nb 7000 b):my [.d (.int t),.d (.int b)]=.ret (.d (ke t b)):=by
 have e:=ZdJ (a:=t) (b:=b) (bK ht (by decide))
 have hd:=Gc.uH (t:=t) h0
 have hf:=bL (uI (t:=t) hb h0) (by decide)
 have f0:fit (0:Int)=true:=by decide
 have f1:fit (1:Int)=true:=by decide
 have f2:fit (2:Int)=true:=by decide
 have fa:fit (1 - 2 * 0:Int)=true:=by decide
 have fb:fit (1 - 2 * 1:Int)=true:=by decide
 have fg:fit ((Nat.gcd t.natAbs b.natAbs:Nat):Int)=true:=by
  have q:=uI (t:=t) hb h0
  unfold nb at q
  rw [Gc.qh] at q
  exact bL (k:=7000) (by unfold nb; exact q) (by decide)
 unfold ke Gc.gr Gc.fN
 by_cases hn:b < 0
 ·have ed:Gc.den t b=((Nat.gcd t.natAbs b.natAbs:Nat):Int) * (1 - 2 * 1):=by unfold Gc.den Gc.g9; rw [if_pos hn]; omega
  rw [ed] at hd hf ⊢
  simp_arith [my,ae,ah,ag,e,decide_eq_true hn,gw,↓reduceIte,f0,f1,f2,fb,fg,qf hd hf]
 ·have ed:Gc.den t b=((Nat.gcd t.natAbs b.natAbs:Nat):Int) * (1 - 2 * 0):=by unfold Gc.den Gc.g9; rw [if_neg hn]; omega
  rw [ed] at hd hf ⊢
  simp_arith [my,ae,ah,ag,e,decide_eq_false hn,it0,wb,↓reduceIte,f0,f1,f2,fa,fg,qf hd hf]
theorem fH:((((2:Nat):Int)) == 2)=true:=rfl
theorem ZkW (n:Int):iN "int" (gh (.int n))=true:=rfl
theorem ZkX (n:Int):iN "bool" (gh (.int n))=false:=rfl
theorem uc (xs:y6):iN "tuple" (gh (.tuple xs))=true:=rfl
theorem ZdB (n:Int):mB [.d (.int n)]=.ret (.d (.bool true)):=by
 simp_arith [mB,ae,ah,ag,ZkW,ZkX,v3]
theorem fq:small 2=true:=cz (by decide)
theorem aS (n:Int):bZ [.pen,.d (.int n)]=.draw n λr=>.ret (.d (.int r)):=rfl
theorem qd {n:Int} (h1:-1000000000<=n) (h2:n<=1000000000):fit n=true:=bL (k:=40) (Zcw (b:=1000000000) ⟨h1,h2⟩ (by decide)) (by decide)
theorem Zd6:Al (mx [.pen]) 4 λr=>∃ z:Int,r=.d (.int z)/\-150000000000000000000000000000<=z/\z<=150000000000000000000000000000:=by
 have e6:az iw (.int 10) (.int 6)=.ret (.int 1000000):=rfl
 have e29:az iw (.int 10) (.int 29)=.ret (.int 100000000000000000000000000000):=rfl
 simp_arith [mx,ae,ah,ag,aS]
 refine b6 (n:=3) (by decide) (by decide) (by decide) λw w0 w1=>?_
 try simp_arith [ae,ah,ag,aS]
 by_cases h5:w > 5
 ·simp_arith [decide_eq_true h5,ae,ah,ag,aS,e6]
  refine b6 (n:=2) (by decide) (by decide) (by decide) λa a0 a1=>?_
  have f1:fit a=true:=qd (by omega) (by omega)
  have f2:fit (1000000:Int)=true:=by decide
  simp_arith [ae,ah,ag,aS,e6,f1,f2]
  refine b6 (n:=1) (by decide) (by decide) (by decide) λb b0 b1=>?_
  have f3:fit (100000000000000000000000000000:Int)=true:=by decide
  have f4:fit (w - 6)=true:=qd (by omega) (by omega)
  have f5:fit (2:Int)=true:=by decide
  simp_arith [ae,ah,ag,aS,e29,f3,f4]
  refine b6 (n:=0) (by decide) (by decide) (by decide) λc c0 c1=>?_
  have f6:fit c=true:=qd (by omega) (by omega)
  have f7:fit (1 - 2 * c)=true:=qd (by omega) (by omega)
  have hw:w=6\/w=7:=by omega
  have hc:c=0\/c=1:=by omega
  have f8:fit (a * 1000000+b+100000000000000000000000000000 * (w - 6))=true:=bL (k:=98) (Zcw (b:=150000000000000000000000000000) (by omega) (by decide)) (by decide)
  simp_arith [ae,ah,ag,aS,f5,f6,f7,f8]
  refine cj ⟨_,rfl,?_⟩
  rcases hc with rfl | rfl <;> omega
 ·simp_arith [decide_eq_false h5,ae,ah,ag,aS]
  have hj:w.fmod 3=0\/w.fmod 3=1\/w.fmod 3=2:=by
   have:w.fmod 3=w % 3:=xL _ (by decide)
   omega
  have e3:=ux (m:=w) (n:=3) (by decide)
  rcases hj with h | h | h <;> rw [h] at e3
  ·simp_arith [ae,ah,ag,aS,e3]
   refine b6 (n:=0) (by decide) (by decide) (by decide) λa a0 a1=>?_
   try simp_arith [ae,ah,ag,aS,e3]
   exact cj ⟨_,rfl,by omega,by omega⟩
  ·simp_arith [ae,ah,ag,aS,e3]
   refine b6 (n:=0) (by decide) (by decide) (by decide) λa a0 a1=>?_
   try simp_arith [ae,ah,ag,aS,e3]
   exact cj ⟨_,rfl,by omega,by omega⟩
  ·simp_arith [ae,ah,ag,aS,e3]
   refine b6 (n:=0) (by decide) (by decide) (by decide) λa a0 a1=>?_
   try simp_arith [ae,ah,ag,aS,e3]
   exact cj ⟨_,rfl,by omega,by omega⟩
noncomputable def dD:List Int->Bool
 | [a,b]=>decide (1<=b) && decide (Nat.gcd a.natAbs b.natAbs=1)
 | _=>false
theorem rO {ns:y8} (h:dD ns=true):∃ a b,ns=[a,b]/\1<=b/\Nat.gcd a.natAbs b.natAbs=1:=by
 unfold dD at h
 split at h
 ·rename_i a b
  rw [vQ] at h
  exact ⟨a,b,rfl,of_decide_eq_true h.1,of_decide_eq_true h.2⟩
 ·cases h
theorem ZdH {ns:y8} (hn:∀ n∈ns,nb 7000 n):jz [.d (tI ns)]=.ret (.d (.bool (dD ns))):=by
 by_cases h2:ns.length=2
 ·obtain ⟨a,b,rfl⟩:∃ a b,ns=[a,b]:=by
   match ns,h2 with
   | [a,b],_=>exact ⟨a,b,rfl⟩
  have h1:=ZdI (a:=a) (b:=b) (bK (hn b (by simp)) (by decide))
  unfold tI
  by_cases hb:b < 1
  ·have e:dD [a,b]=false:=by
    show (decide (1<=b) && _)=false
    rw [decide_eq_false (by omega)]; rfl
   rw [e]
   simp_arith [jz,ae,ah,ag,uc,fH,vS,ZdB,decide_eq_true hb]
  ·have e:dD [a,b]=decide (Nat.gcd a.natAbs b.natAbs=1):=by
    show (decide (1<=b) && _)=_
    rw [decide_eq_true (by omega),x4]
   have e2:(((Nat.gcd a.natAbs b.natAbs:Nat):Int) == 1)=decide (Nat.gcd a.natAbs b.natAbs=1):=by
    by_cases hg:Nat.gcd a.natAbs b.natAbs=1
    ·rw [decide_eq_true hg,hg]; rfl
    ·rw [decide_eq_false hg]
     exact beq_eq_false_iff_ne.mpr (by omega)
   rw [e]
   simp_arith [jz,ae,ah,ag,uc,fH,vS,ZdB,decide_eq_false hb,h1,e2]
 ·have e:dD ns=false:=by
   unfold dD
   split
   ·exact absurd rfl h2
   ·rfl
  have e2:(((ns.map PyData.int).length:Int) == 2)=false:=beq_eq_false_iff_ne.mpr (by rw [vB]; omega)
  rw [e]
  unfold tI
  simp_arith [jz,ae,ah,ag,uc,e2,vS,v3]
noncomputable def cA (t:Str):Option y8:=(bI bv (Txt.split t ⟨#[47]⟩)).bind λns=>if dD ns=true then some ns else none
theorem kd {t:Str} {ns:y8} (h:cA t=some ns):bI bv (Txt.split t ⟨#[47]⟩)=some ns/\dD ns=true:=by
 unfold cA at h
 obtain ⟨ms,h1,h2⟩:=wV.mp h
 split at h2
 ·rename_i hc
  cases h2
  exact ⟨h1,hc⟩
 ·cases h2
theorem Zhj {t:Str} {ns:y8} (h:cA t=some ns):Rp (tI ns) 1 (13 * (t.length+1)):=r8 (λw a h=>Zcq h) (kd h).1
theorem Ze4 {l:za} {ns:y8} (h:bI bv l=some ns):∀ n∈ns,nb 7000 n:=by
 induction l generalizing ns with
 | nil=>cases (show some ([]:y8)=some ns from h); intro n hn; cases hn
 | cons w l ih =>
  obtain ⟨a,as',h1,h2,rfl⟩:=eY.mp h
  intro n hn
  rcases vD.mp hn with rfl | hn
  ·exact bK (tu h1) (by decide)
  ·exact ih h2 n hn
theorem ZfD {w:Str} (h:w.length<=500000):gK (aw 0) oK [.un] (.str w)=.ret ((bv w).map PyData.int):=by
 simp_arith [oK,ae,ah,ag,Zal h]
 unfold bv
 cases b8 w.cps.toList <;> rfl
theorem ZfE {t:Str} (h:t.length<=500000):jV [.d (.str t)]=.ret ((cA t).map λns=>.d (tI ns)):=by
 have hs:small ((Txt.split t ⟨#[47]⟩).map PyData.str).length=true:=dO (by rw [vB]; have:=fc 47 t; omega)
 have e:=pB (f:=bv) (g:=PyData.int) (h:=gK (aw 0) oK [.un]) (l:=Txt.split t ⟨#[47]⟩) λx hx=>ZfD (by have:=dQ hx; omega)
 unfold cA
 cases ha:bI bv (Txt.split t ⟨#[47]⟩) with
 | none =>
  rw [ha] at e
  simp_arith [jV,fe,ae,ah,ag,lg,fo,if_true,xq,dm h,hs,e,xH]
  rfl
 | some ns =>
  rw [ha] at e
  have es:=ZdH (Ze4 ha)
  unfold tI at es
  show _=Tr.ret (Option.map _ (if dD ns=true then some ns else none))
  cases hb:dD ns with
  | false =>
   rw [hb] at es
   simp_arith [jV,fe,ae,ah,ag,lg,fo,if_true,xq,dm h,hs,e,es,v3]
   rfl
  | true =>
   rw [hb] at es
   simp_arith [jV,fe,ae,ah,ag,lg,fo,if_true,xq,dm h,hs,e,es,vS]
   rfl
theorem Zih {w:Str} {i:Int} (h:w.length<=500000) (hn:bv w=some i):bT (aw 0) oQ [.un] (.str w)=.ret (.int i):=by
 obtain ⟨h1,rfl⟩:=pc hn
 simp_arith [oQ,ae,ah,ag,ZdF h h1]
theorem ZpD {t:Str} {ns:y8} (h:t.length<=500000) (hn:cA t=some ns):pH [.d (.str t)]=.ret (.d (tI ns)):=by
 obtain ⟨h1,h2⟩:=kd hn
 have hs:small ((Txt.split t ⟨#[47]⟩).map PyData.str).length=true:=dO (by rw [vB]; have:=fc 47 t; omega)
 have e:=pC (f:=bv) (g:=PyData.int) (h:=bT (aw 0) oQ [.un]) (l:=Txt.split t ⟨#[47]⟩) (λx hx a ha=>Zih (by have:=dQ hx; omega) ha) h1
 have es:=ZdH (Ze4 h1)
 rw [h2] at es
 unfold tI at es
 simp_arith [pH,fe,ae,ah,ag,ZdK,dm h,hs,e,es,vS]
 rfl
theorem mZ {i:Int} (h:i.natAbs < 10 ^ 448):(ay i).length<=500:=by
 rw [qk]
 unfold cw
 have:=jH 447 _ h
 split
 ·rw [vN]; omega
 ·omega
theorem Zpy {a b:Int} (ha:a.natAbs < 10 ^ 448) (hb:b.natAbs < 10 ^ 448):pF [.d (.tuple [.int a,.int b])]=.ret (.d (.str (ay a++⟨#[47]⟩++ay b))):=by
 have h1:=mZ ha
 have h2:=mZ hb
 simp_arith [pF,fe,ae,ah,ag,uB ha,uB hb,ah (a:=⟨#[47]⟩) (b:=ay a) (by omega),ag (a:=⟨#[47]⟩) (b:=ay a) (c:=ay b) (by omega)]
theorem Zhm {t:Str} {ns:y8} (hn:cA t=some ns):∃ a b,ns=[a,b]/\a.natAbs < 10 ^ 448/\b.natAbs < 10 ^ 448/\ay a++⟨#[47]⟩++ay b=t:=by
 obtain ⟨h1,h2⟩:=kd hn
 obtain ⟨a,b,rfl,h3,h4⟩:=rO h2
 have hl:=nh h1
 have hj:=xf t ⟨#[47]⟩
 cases hs:Txt.split t ⟨#[47]⟩ with
 | nil=>rw [hs] at hl; cases hl
 | cons w0 r =>
  cases r with
  | nil=>rw [hs] at hl; cases hl
  | cons w1 r =>
   cases r with
   | cons w2 r=>rw [hs] at hl; simp at hl
   | nil =>
    rw [hs] at h1 hj
    obtain ⟨x,xs,k1,k2,k3⟩:=eY.mp h1
    obtain ⟨y,ys,k4,k5,k6⟩:=eY.mp k2
    cases (show some ([]:y8)=some ys from k5)
    subst k6
    cases k3
    refine ⟨a,b,rfl,o7 (me k1),o7 (me k4),?_⟩
    rw [mf k1,mf k4]
    exact hj
theorem sO {P:PyData->Prop} {xs:y6} (h:∀ x∈xs,P x) {w:Int} (h0:0<=w) (h1:w < xs.length):∃ x,br xs w=some x/\P x:=by
 have hl:w.toNat < xs.length:=by omega
 have e:xs[w.toNat]?=some xs[w.toNat]:=by simp [hl]
 exact ⟨_,na h0 e,h _ (yx hl)⟩
theorem pW {a:Str} {w:Int} (h0:0<=w) (h1:w < a.length) (hl:a.length<=1048576):∃ c,az bM (.str a) (.int w)=.ret (.str ⟨#[c]⟩):=by
 have hw:w.toNat < a.cps.toList.length:=by rw [wm]; show _ < a.length; omega
 have e:a.cps.toList[w.toNat]?=some a.cps.toList[w.toNat]:=by simp [hw]
 refine ⟨a.cps.toList[w.toNat],?_⟩
 rw [uw hl,na h0 e]
 rfl
def jN (n:Nat) (d:PyData):Prop:=∃ u:Str,d=.str u/\u.length<=n
theorem qm (l:za) (lo hi:Option Int):∃ l':za,L2.fR (l.map PyData.str) lo hi=l'.map PyData.str/\(l'.map λw=>w.length+1).sum<=(l.map λw=>w.length+1).sum:=by
 have tk:∀ (l:za) (n:Nat),((l.take n).map λw=>w.length+1).sum<=(l.map λw=>w.length+1).sum:=by
  intro l
  induction l with
  | nil=>intro n; simp
  | cons w l ih =>
   intro n
   cases n with
   | zero=>simp
   | succ n=>rw [List.take_succ_cons,vG,wo,vG,wo]; have:=ih n; omega
 have dp:∀ (l:za) (n:Nat),((l.drop n).map λw=>w.length+1).sum<=(l.map λw=>w.length+1).sum:=by
  intro l
  induction l with
  | nil=>intro n; simp
  | cons w l ih =>
   intro n
   cases n with
   | zero=>simp
   | succ n=>rw [List.drop_succ_cons,vG,wo]; have:=ih n; omega
 unfold L2.fR
 refine ⟨_,by rw [<- List.map_drop,<- List.map_take],vO (tk _ _) (dp _ _)⟩
theorem t8 {sep:Str} (hs:sep.length=1) (l:za):(Txt.join sep l).length<=(l.map λw=>w.length+1).sum:=by
 have h2:=size_glued sep l
 rw [hs,Nat.mul_one] at h2
 have e:Txt.join sep l=PySem.Builtin.Str.glued sep l:=rfl
 rw [e,h2,iL]
 omega
theorem mL {sep:Str} (hs:sep.length=1) {l:za} (h:(l.map λw=>w.length+1).sum<=1048576):∃ u:Str,az cv (.str sep) (.list (l.map PyData.str))=.ret (.str u)/\u.length<=(l.map λw=>w.length+1).sum:=by
 refine ⟨Txt.join sep l,ae ⟨by omega,?_⟩,t8 hs l⟩
 rw [<- iL]
 exact h
theorem qo (l:za):l.length<=(l.map λw=>w.length+1).sum:=by
 rw [iL]; omega
noncomputable def qP:Str:=" !\"#$&'()*+,-./0123456789:;<=>?@ABCDEFGHIJKLMNOPQRSTUVWXYZ[\\]^_`"++"abcdefghijklmnopqrstuvwxyz{|}~\n"
theorem rP:qP.length=95:=by trivial
theorem sV:(" ,-/@0123456789\n":Str).length=16:=by trivial
theorem ZpB:az aN (.str " !\"#$&'()*+,-./0123456789:;<=>?@ABCDEFGHIJKLMNOPQRSTUVWXYZ[\\]^_`") (.str "abcdefghijklmnopqrstuvwxyz{|}~\n")=.ret (.str qP):=iT (by trivial)
theorem Zh4:az gX (.str "7") (.int 4400)=.ret (.str (ff "7" 4400)):=uv (by trivial)
theorem Zh3:(ff "7" 4400).length=4400:=by
 unfold ff
 rw [if_neg (by trivial)]
 show Array.size _=_
 rw [qc]
 have e:(List.replicate (4400:Int).toNat ("7":Str).cps).map (·.size)=List.replicate 4400 1:=by
  rw [List.map_replicate]
  congr 1
 rw [e]
 simp
theorem Zjx:∀ x∈[PyData.str "",.str "00",.str "01",.str "-0",.str "--1",.str "+1",.str "1_0",.str "x",.str "0x1",.str "1.0",.str "1e3",.str "1/2",.str "1@2",.str "-",.str "1,",.str (ff "7" 4400)],jN 4400 x:=by
 intro x hx
 simp only [vD,wa,or_false] at hx
 rcases hx with rfl | rfl | rfl | rfl | rfl | rfl | rfl | rfl | rfl | rfl | rfl | rfl | rfl | rfl | rfl | rfl
 all_goals first
  | exact ⟨_,rfl,by trivial⟩
  | exact ⟨_,rfl,by rw [Zh3]; exact vF _⟩
theorem ZhE {t:Str} (h:t.length<=100000):Al (pO [.pen,.d (.str t)]) 8 λr=>∃ u,r=.d (.str u)/\u.length<=2 * t.length+5000:=by
 have ht:t.length<=1048576:=by omega
 have h95:qP.length<=1048576:=by rw [rP]; decide
 have h16:(" ,-/@0123456789\n":Str).length<=1048576:=by rw [sV]; decide
 simp_arith [pO,ae,ah,ag,aS]
 refine b6 (n:=7) (by decide) (by decide) (by decide) λw w0 w1=>?_
 simp_arith [ae,ah,ag,aS,cQ ht]
 refine b6 (n:=6) (by omega) (by omega) (by decide) λp p0 p1=>?_
 simp_arith [ae,ah,ag,aS,ZpB,cQ h95,rP]
 refine b6 (n:=5) (by decide) (by decide) (by decide) λq q0 q1=>?_
 obtain ⟨c1,e1⟩:=pW (a:=qP) q0 (by rw [rP]; exact q1) h95
 simp_arith [ae,ah,ag,aS,e1,cQ h16,sV]
 refine b6 (n:=4) (by decide) (by decide) (by decide) λr r0 r1=>?_
 obtain ⟨c2,e2⟩:=pW (a:=" ,-/@0123456789\n") r0 (by rw [sV]; exact r1) h16
 simp_arith [ae,ah,ag,aS,e2]
 refine b6 (n:=3) (by decide) (by decide) (by decide) λk k0 k1=>?_
 obtain ⟨_,e3,sg,rfl,hsg⟩:=sO (P:=jN 1) (xs:=[PyData.str ⟨#[c1]⟩,.str ⟨#[c2]⟩]) (λx hx=>by
  simp only [vD,wa,or_false] at hx
  rcases hx with rfl | rfl
  ·exact ⟨_,rfl,vF _⟩
  ·exact ⟨_,rfl,vF _⟩) k0 k1
 have a1:∀ lo hi,(Txt.slice t lo hi).length<=t.length:=λlo hi=>x5 t lo hi
 have cat3:∀ lo hi lo' hi',∃ u,az aN (.str (Txt.slice t lo hi++sg)) (.str (Txt.slice t lo' hi'))=.ret (.str u)/\u.length<=2 * t.length+5000:=λlo hi lo' hi'=>by
  refine ⟨_,iT ?_,?_⟩ <;> (simp only [strLen_append]; have:=a1 lo hi; have:=a1 lo' hi'; omega)
 have cat2:∀ lo hi lo' hi',∃ u,az aN (.str (Txt.slice t lo hi)) (.str (Txt.slice t lo' hi'))=.ret (.str u)/\u.length<=2 * t.length+5000:=λlo hi lo' hi'=>by
  refine ⟨_,iT ?_,?_⟩ <;> (try simp only [strLen_append]) <;> (have:=a1 lo hi; have:=a1 lo' hi'; omega)
 have cat1:∀ lo hi,az aN (.str (Txt.slice t lo hi)) (.str sg)=.ret (.str (Txt.slice t lo hi++sg)):=λlo hi=>iT (by have:=a1 lo hi; omega)
 by_cases w2:w < 2
 ·obtain ⟨u,hu,hul⟩:=cat3 none (some p) (some p) none
  simp_arith [ae,ah,ag,aS,e3,decide_eq_true w2,cZ ht,cat1,hu]
  exact cj ⟨u,rfl,hul⟩
 by_cases w3:w=2
 ·have w3':(w == 2)=true:=beq_iff_eq.mpr w3
  obtain ⟨u,hu,hul⟩:=cat2 none (some p) (some (p+1)) none
  simp_arith [ae,ah,ag,aS,e3,decide_eq_false w2,w3',cZ ht,hu]
  exact cj ⟨u,rfl,hul⟩
 have w3':(w == 2)=false:=beq_eq_false_iff_ne.mpr w3
 by_cases w5:w < 5
 ·obtain ⟨u,hu,hul⟩:=cat3 none (some p) (some (p+1)) none
  simp_arith [ae,ah,ag,aS,e3,decide_eq_false w2,w3',decide_eq_true w5,cZ ht,cat1,hu]
  exact cj ⟨u,rfl,hul⟩
 simp_arith [ae,ah,ag,aS,e3,decide_eq_false w2,w3',decide_eq_false w5]
 refine b6 (n:=2) (by decide) (by decide) (by decide) λb b0 b1=>?_
 obtain ⟨_,e4,sep,⟨rfl,cc,hsep⟩⟩:=sO (P:=λd=>∃ u:Str,d=.str u/\∃ c,u=⟨#[c]⟩) (xs:=[PyData.str " ",.str ",",.str "\n", .str "/"]) (λx hx=>by
  simp only [vD,wa,or_false] at hx
  rcases hx with rfl | rfl | rfl | rfl
  ·exact ⟨_,rfl,_,io⟩
  ·exact ⟨_,rfl,_,ZqO⟩
  ·exact ⟨_,rfl,_,iC⟩
  ·exact ⟨_,rfl,_,fe⟩) b0 b1
 subst hsep
 have hsum:=lu cc t
 have hpos:=split_pos t ⟨#[cc]⟩
 have hcnt:=fc cc t
 simp_arith [ae,ah,ag,aS,e4,dm (a:=t) (c:=cc) (by omega),vB]
 generalize Txt.split t ⟨#[cc]⟩=ws at *
 refine b6 (n:=1) (by omega) (by omega) (by decide) λo o0 o1=>?_
 obtain ⟨l1,g1,n1⟩:=qm ws none (some o)
 obtain ⟨l2,g2,n2⟩:=qm ws (some (o+1)) none
 obtain ⟨l3,g3,n3⟩:=qm ws none (some (o+1))
 obtain ⟨l4,g4,n4⟩:=qm ws (some o) none
 have m1:=qo l1
 have m2:=qo l2
 have m3:=qo l3
 have m4:=qo l4
 by_cases w55:w=5
 ·have w5':(w == 5)=true:=beq_iff_eq.mpr w55
  simp_arith [ae,ah,ag,aS,w5',g1,Zh4]
  refine b6 (n:=0) (by decide) (by decide) (by decide) λz z0 z1=>?_
  obtain ⟨_,e5,od,rfl,hod⟩:=sO Zjx z0 z1
  have s1:small ((l1.map PyData.str).length+[PyData.str od].length)=true:=dO (by rw [vB]; show _+1<=_; omega)
  have s2:small ((l1.map PyData.str++[PyData.str od]).length+(l2.map PyData.str).length)=true:=dO (by rw [vW,vB,vB]; show _+1+_<=_; omega)
  have em:l1.map PyData.str++[PyData.str od]++l2.map PyData.str=(l1++[od]++l2).map PyData.str:=by simp
  have es:((l1++[od]++l2).map λw=>w.length+1).sum<=2 * (t.length+1)+4401:=by
   rw [wk,wk,xI,xI]
   show _+(od.length+1+0)+_<=_
   omega
  obtain ⟨u,hu,hul⟩:=mL (sep:=⟨#[cc]⟩) rfl (l:=l1++[od]++l2) (by omega)
  rw [<- em] at hu
  simp_arith [ae,ah,ag,aS,e5,mU s1,mU s2,g1,g2,hu]
  exact cj ⟨u,rfl,by omega⟩
 have w5':(w == 5)=false:=beq_eq_false_iff_ne.mpr w55
 by_cases w66:w=6
 ·have w6':(w == 6)=true:=beq_iff_eq.mpr w66
  have s1:small ((l1.map PyData.str).length+(l2.map PyData.str).length)=true:=dO (by rw [vB,vB]; omega)
  have em:l1.map PyData.str++l2.map PyData.str=(l1++l2).map PyData.str:=by simp
  have es:((l1++l2).map λw=>w.length+1).sum<=2 * (t.length+1):=by
   rw [wk,xI]
   omega
  obtain ⟨u,hu,hul⟩:=mL (sep:=⟨#[cc]⟩) rfl (l:=l1++l2) (by omega)
  rw [<- em] at hu
  simp_arith [ae,ah,ag,aS,w5',w6',g1,g2,mU s1,hu]
  exact cj ⟨u,rfl,by omega⟩
 ·have w6':(w == 6)=false:=beq_eq_false_iff_ne.mpr w66
  have s1:small ((l3.map PyData.str).length+(l4.map PyData.str).length)=true:=dO (by rw [vB,vB]; omega)
  have em:l3.map PyData.str++l4.map PyData.str=(l3++l4).map PyData.str:=by simp
  have es:((l3++l4).map λw=>w.length+1).sum<=2 * (t.length+1):=by
   rw [wk,xI]
   omega
  obtain ⟨u,hu,hul⟩:=mL (sep:=⟨#[cc]⟩) rfl (l:=l3++l4) (by omega)
  rw [<- em] at hu
  simp_arith [ae,ah,ag,aS,w5',w6',g3,g4,mU s1,hu]
  exact cj ⟨u,rfl,by omega⟩
noncomputable abbrev bu:=Int×Int×Int
noncomputable def eD (e:bu):PyData:=.tuple [.tuple [.int e.1,.int e.2.1],.int e.2.2]
noncomputable def lD (es:List bu):PyData:=.tuple (es.map eD)
noncomputable def tD (ls:List (List bu)):PyData:=.tuple (ls.map lD)
noncomputable def bC (w:Str):Option bu:=match Txt.split w ⟨#[64]⟩ with
 | [p,q]=>(cA p).bind λns=>match ns with
  | [a,b]=>(bv q).bind λl=>some (a,b,l)
  | _=>none
 | _=>none
noncomputable def dl (w:Str):Option (List bu):=bI bC (Txt.split w ⟨#[32]⟩)
noncomputable def et (t:Str):Option (List (List bu)):=bI dl (Txt.split t ⟨#[10]⟩)
theorem mX {w:Str} {e:bu} (h:bC w=some e):∃ p q,Txt.split w ⟨#[64]⟩=[p,q]/\cA p=some [e.1,e.2.1]/\bv q=some e.2.2:=by
 unfold bC at h
 split at h
 ·rename_i p q hs
  obtain ⟨ns,h1,h2⟩:=wV.mp h
  split at h2
  ·rename_i a b
   obtain ⟨l,h3,h4⟩:=wV.mp h2
   cases h4
   exact ⟨p,q,hs,h1,h3⟩
  ·cases h2
 ·cases h
theorem Zdx {w p q:Str} {a b l:Int} (hs:Txt.split w ⟨#[64]⟩=[p,q]) (h1:cA p=some [a,b]) (h2:bv q=some l):bC w=some (a,b,l):=by
 unfold bC
 rw [hs]
 show (cA p).bind _=_
 rw [h1]
 show (bv q).bind _=_
 rw [h2]
 rfl
theorem Zpt {w:Str} {e:bu} (h:bC w=some e):Rp (eD e) 2 (40 * (w.length+1)):=by
 obtain ⟨p,q,hs,h1,h2⟩:=mX h
 have hp:p.length<=w.length:=dQ (c:=64) (by rw [hs]; simp)
 have hq:q.length<=w.length:=dQ (c:=64) (by rw [hs]; simp)
 have r1:Rp (.tuple [.int e.1,.int e.2.1]) 1 (13 * (p.length+1)):=Zhj h1
 have r2:=Zcq h2
 refine oE (ZhJ (k:=1) (n:=13 * (w.length+1)) (xs:=[.tuple [.int e.1,.int e.2.1],.int e.2.2]) λx hx=>?_) (vF _) ?_
 ·simp only [vD,wa,or_false] at hx
  rcases hx with rfl | rfl
  ·exact oE r1 (vF _) (by omega)
  ·exact oE r2 (by omega) (by omega)
 ·show 2 * _+2 * 2+10<=_
  omega
theorem Zkf {w:Str} {es:List bu} (h:dl w=some es):Rp (lD es) 3 (52 * (w.length+1)):=r8 (λw a h=>Zpt h) h
theorem ZaE {t:Str} {ls:List (List bu)} (h:et t=some ls):Rp (tD ls) 4 (64 * (t.length+1)):=r8 (λw a h=>Zkf h) h
theorem kA {n:Nat} (h:n≠2):((n:Int) == 2)=false:=beq_eq_false_iff_ne.mpr (by omega)
theorem rC {ws:za} (h:ws.length=2):∃ p q,ws=[p,q]:=by
 match ws,h with
 | [a,b],_=>exact ⟨a,b,rfl⟩
theorem Zdy {w:Str} (h:(Txt.split w ⟨#[64]⟩).length≠2):bC w=none:=by
 cases he:bC w with
 | none=>rfl
 | some e =>
  obtain ⟨p,q,hs,_⟩:=mX he
  rw [hs] at h
  exact absurd rfl h
theorem Zhi {p:Str} {ns:y8} (h:cA p=some ns):∃ a b,ns=[a,b]:=by
 obtain ⟨_,h2⟩:=kd h
 obtain ⟨a,b,rfl,_⟩:=rO h2
 exact ⟨a,b,rfl⟩
theorem ZfG {w:Str} (h:w.length<=500000):je [.d (.str w)]=.ret ((bC w).map λe=>.d (eD e)):=by
 have hsp:=dm (a:=w) (c:=64) h
 by_cases h2:(Txt.split w ⟨#[64]⟩).length=2
 ·have hl:∀ v∈Txt.split w ⟨#[64]⟩,v.length<=500000:=λv hv=>by have:=dQ hv; omega
  obtain ⟨p,q,hs⟩:=rC h2
  rw [hs] at hsp hl
  have e1:=ZfE (hl p (by simp))
  have e2:=Zal (hl q (by simp))
  have eq:(if b8 q.cps.toList=true then some (Re.d (.int (eu q.cps.toList))) else none)=(bv q).map λi=>Re.d (.int i):=by
   unfold bv; cases b8 q.cps.toList <;> rfl
  rw [eq] at e2
  cases hp:cA p with
  | none =>
   have he:bC w=none:=by unfold bC; rw [hs]; show (cA p).bind _=_; rw [hp]; rfl
   rw [hp] at e1
   rw [he]
   simp_arith [je,eX,ae,ah,ag,hsp,fH,vS,e1,xH]
  | some ns =>
   obtain ⟨a,b,rfl⟩:=Zhi hp
   rw [hp] at e1
   cases hq:bv q with
   | none =>
    have he:bC w=none:=by unfold bC; rw [hs]; show (cA p).bind _=_; rw [hp]; show (bv q).bind _=_; rw [hq]; rfl
    rw [hq] at e2
    rw [he]
    simp_arith [je,eX,ae,ah,ag,hsp,fH,vS,e1,e2,xH,xq]
   | some l =>
    rw [hq] at e2
    rw [Zdx hs hp hq]
    simp_arith [je,eX,ae,ah,ag,hsp,fH,vS,e1,e2,xq]
    rfl
 ·have e2:=kA (n:=((Txt.split w ⟨#[64]⟩).map PyData.str).length) (by rw [vB]; exact h2)
  rw [Zdy h2]
  simp_arith [je,eX,ae,ah,ag,hsp,e2,v3,xH]
theorem ZfC {w:Str} (h:w.length<=500000):gK (aw 0) oJ [.un] (.str w)=.ret ((bC w).map eD):=by
 simp_arith [oJ,ae,ah,ag,ZfG h,Option.map_map]
 rfl
theorem ZfB {w:Str} (h:w.length<=500000):gK (aw 0) oI [.un] (.str w)=.ret ((dl w).map lD):=by
 have hs:small ((Txt.split w ⟨#[32]⟩).map PyData.str).length=true:=dO (by rw [vB]; have:=fc 32 w; omega)
 have e:=pB (f:=bC) (g:=eD) (h:=gK (aw 0) oJ [.un]) (l:=Txt.split w ⟨#[32]⟩) λx hx=>ZfC (by have:=dQ hx; omega)
 simp_arith [oI,io,ae,ah,ag,dm h,hs,e]
 unfold dl
 cases bI bC (Txt.split w ⟨#[32]⟩) <;> rfl
theorem ZfA {t:Str} (h:t.length<=500000):ie [.d (.str t)]=.ret ((et t).map λds=>.d (tD ds)):=by
 have hs:small ((Txt.split t ⟨#[10]⟩).map PyData.str).length=true:=dO (by rw [vB]; have:=fc 10 t; omega)
 have e:=pB (f:=dl) (g:=lD) (h:=gK (aw 0) oI [.un]) (l:=Txt.split t ⟨#[10]⟩) λx hx=>ZfB (by have:=dQ hx; omega)
 simp_arith [ie,iC,ae,ah,ag,lg,fo,if_true,xq,dm h,hs,e]
 unfold et
 cases bI dl (Txt.split t ⟨#[10]⟩) <;> rfl
theorem Zfz {d:PyData} (h:fo d=false):ie [.d d]=.ret none:=by
 simp_arith [ie,ae,ah,ag,lg,h,if_false,wb,xH]
theorem Zii {w:Str} {e:bu} (h:w.length<=500000) (hn:bC w=some e):pI [.d (.str w)]=.ret (.d (eD e)):=by
 obtain ⟨p,q,hs,h1,h2⟩:=mX hn
 have hp:p.length<=w.length:=dQ (c:=64) (by rw [hs]; simp)
 have hq:q.length<=w.length:=dQ (c:=64) (by rw [hs]; simp)
 have hsp:=dm (a:=w) (c:=64) h
 rw [hs] at hsp
 have e1:=ZpD (by omega) h1
 obtain ⟨h3,h4⟩:=pc h2
 have e2:=ZdF (by omega) h3
 rw [<- h4] at e2
 simp_arith [pI,eX,ae,ah,ag,hsp,fH,vS,e1,e2]
 rfl
theorem Zig {w:Str} {e:bu} (h:w.length<=500000) (hn:bC w=some e):bT (aw 0) oP [.un] (.str w)=.ret (eD e):=by
 simp_arith [oP,ae,ah,ag,Zii h hn]
theorem Zif {w:Str} {es:List bu} (h:w.length<=500000) (hn:dl w=some es):bT (aw 0) oO [.un] (.str w)=.ret (lD es):=by
 have hs:small ((Txt.split w ⟨#[32]⟩).map PyData.str).length=true:=dO (by rw [vB]; have:=fc 32 w; omega)
 have e:=pC (f:=bC) (g:=eD) (h:=bT (aw 0) oP [.un]) (l:=Txt.split w ⟨#[32]⟩) (λx hx a ha=>Zig (by have:=dQ hx; omega) ha) hn
 simp_arith [oO,io,ae,ah,ag,dm h,hs,e]
 rfl
theorem ZdE {t:Str} {ls:List (List bu)} (h:t.length<=500000) (hn:et t=some ls):mo [.d (.str t)]=.ret (.d (tD ls)):=by
 have hs:small ((Txt.split t ⟨#[10]⟩).map PyData.str).length=true:=dO (by rw [vB]; have:=fc 10 t; omega)
 have e:=pC (f:=dl) (g:=lD) (h:=bT (aw 0) oO [.un]) (l:=Txt.split t ⟨#[10]⟩) (λx hx a ha=>Zif (by have:=dQ hx; omega) ha) hn
 simp_arith [mo,iC,ae,ah,ag,ZdK,dm h,hs,e]
 rfl
theorem ZhD {w:Str} {e:bu} (hn:bC w=some e):pG [.d (eD e)]=.ret (.d (.str w)):=by
 obtain ⟨p,q,hs,h1,h2⟩:=mX hn
 obtain ⟨a,b,k1,ha,hb,eb⟩:=Zhm h1
 obtain ⟨x,y,z⟩:=e
 cases k1
 have e1:=Zpy ha hb
 rw [eb] at e1
 have e2:=uB (o7 (me h2))
 rw [mf h2] at e2
 have hj:=xf w ⟨#[64]⟩
 rw [hs] at hj
 have hj':p++⟨#[64]⟩++q=w:=hj
 have lp:p.length<=262144:=by
  rw [<- eb,strLen_append,strLen_append]
  have:=mZ ha
  have:=mZ hb
  show _+1+_<=_
  omega
 have lq:q.length<=262144:=by
  rw [<- mf h2]
  have:=mZ (o7 (me h2))
  omega
 unfold eD
 simp_arith [pG,eX,ae,ah,ag,e1,e2,ah (a:=⟨#[64]⟩) lp,ag (a:=⟨#[64]⟩) (b:=p) lq,hj']
theorem ZhB {w:Str} {e:bu} (hn:bC w=some e):bT (aw 0) oN [.un] (eD e)=.ret (.str w):=by
 simp_arith [oN,ae,ah,ag,ZhD hn]
theorem ZhA {w:Str} {es:List bu} (h:w.length<=500000) (hn:dl w=some es):bT (aw 0) oM [.un] (lD es)=.ret (.str w):=by
 have hl:=nh hn
 have hs:small (es.map eD).length=true:=dO (by rw [vB,hl]; have:=fc 32 w; omega)
 have e:=tO (f:=bC) (g:=eD) (h:=bT (aw 0) oN [.un]) (l:=Txt.split w ⟨#[32]⟩) (λx hx a ha=>ZhB ha) hn
 have ej:az cv (.str ⟨#[32]⟩) (.list ((Txt.split w ⟨#[32]⟩).map PyData.str))=.ret (.str w):=by
  rw [ae (ZaW h),tjoin,xf]
 unfold lD
 simp_arith [oM,io,ae,ah,ag,hs,e,ej]
theorem ZdD {t:Str} {ls:List (List bu)} (h:t.length<=500000) (hn:et t=some ls):ml [.d (tD ls)]=.ret (.d (.str t)):=by
 have hl:=nh hn
 have hs:small (ls.map lD).length=true:=dO (by rw [vB,hl]; have:=fc 10 t; omega)
 have e:=tO (f:=dl) (g:=lD) (h:=bT (aw 0) oM [.un]) (l:=Txt.split t ⟨#[10]⟩) (λx hx a ha=>ZhA (by have:=dQ hx; omega) ha) hn
 have ej:az cv (.str ⟨#[10]⟩) (.list ((Txt.split t ⟨#[10]⟩).map PyData.str))=.ret (.str t):=by
  rw [ae (ZaW h),tjoin,xf]
 unfold tD
 simp_arith [ml,iC,ae,ah,ag,hs,e,ej]
theorem u5 {α:Type} {f:Str->Option α} {g:α->Str}:∀ {l:List α},(∀ x∈l,f (g x)=some x)->bI f (l.map g)=some l
 | [],_=>rfl
 | x::l,h=>by
  rw [vG,fw,h x (by simp),u5 λy hy=>h y (vC _ hy)]
  rfl
theorem kL (i:Int) {c:Nat} (h1:c≠45) (h2:¬ (48<=c/\c<=57)):c ∉ (ay i).cps.toList:=by
 rw [hU]
 unfold cw
 have h:=qg i.natAbs
 split
 ·intro hm
  rcases vD.mp hm with e | hm
  ·exact h1 e
  ·exact h2 (h c hm)
 ·intro hm
  exact h2 (h c hm)
theorem Zhl {a b:Int} (ha:a.natAbs < 10 ^ 400) (hb:b.natAbs < 10 ^ 400) (hp:0 < b) (hg:Nat.gcd a.natAbs b.natAbs=1):cA (ay a++⟨#[47]⟩++ay b)=some [a,b]:=by
 have e:Txt.split (ay a++⟨#[47]⟩++ay b) ⟨#[47]⟩=[ay a,ay b]:=by
  have:=nN (c:=47) (ps:=[ay a,ay b]) (by simp) (λp hp=>by
   simp only [vD,wa,or_false] at hp
   rcases hp with rfl | rfl
   ·exact kL a (by decide) (by decide)
   ·exact kL b (by decide) (by decide))
  exact this
 unfold cA
 rw [e,fw,fw,tw ha,tw hb]
 show (if dD [a,b]=true then some [a,b] else none)=_
 rw [if_pos]
 show (decide (1<=b) && decide (Nat.gcd a.natAbs b.natAbs=1))=true
 rw [decide_eq_true (by omega),decide_eq_true hg]
 rfl
structure EOk (e:bu):Prop where
 a:e.1.natAbs < 10 ^ 400
 b:e.2.1.natAbs < 10 ^ 400
 p:0 < e.2.1
 g:Nat.gcd e.1.natAbs e.2.1.natAbs=1
 l:e.2.2.natAbs < 10 ^ 400
noncomputable def gC (e:bu):Str:=ay e.1++⟨#[47]⟩++ay e.2.1++⟨#[64]⟩++ay e.2.2
noncomputable def fm (es:List bu):Str:=Str.join ⟨#[32]⟩ (es.map gC)
noncomputable def lj (ls:List (List bu)):Str:=Str.join ⟨#[10]⟩ (ls.map fm)
theorem iR {c:Nat} {a b:Str} (h1:c ∉ a.cps.toList) (h2:c ∉ b.cps.toList):c ∉ (a++b).cps.toList:=by
 rw [w8,wJ]
 intro h
 rcases wE.mp h with h | h
 ·exact h1 h
 ·exact h2 h
theorem qa {c d:Nat} (h:c≠d):c ∉ (⟨#[d]⟩:Str).cps.toList:=by
 rw [Zjr]
 intro hm
 exact h (xt.mp hm)
theorem Zdz (e:bu) {c:Nat} (h:c < 45):c ∉ (gC e).cps.toList:=by
 unfold gC
 have k:∀ i,c ∉ (ay i).cps.toList:=λi=>kL i (by omega) (by omega)
 exact iR (iR (iR (iR (k _) (qa (by omega))) (k _)) (qa (by omega))) (k _)
theorem Zpu {e:bu} (h:EOk e):bC (gC e)=some e:=by
 have hs:Txt.split (gC e) ⟨#[64]⟩=[ay e.1++⟨#[47]⟩++ay e.2.1,ay e.2.2]:=by
  have:=nN (c:=64) (ps:=[ay e.1++⟨#[47]⟩++ay e.2.1,ay e.2.2]) (by simp) (λp hp=>by
   simp only [vD,wa,or_false] at hp
   rcases hp with rfl | rfl
   ·exact iR (iR (kL _ (by decide) (by decide)) (qa (by decide))) (kL _ (by decide) (by decide))
   ·exact kL _ (by decide) (by decide))
  exact this
 exact Zdx hs (Zhl h.a h.b h.p h.g) (tw h.l)
theorem ZcR {c d:Nat} (h:c≠d):∀ {ps:za},(∀ p∈ps,c ∉ p.cps.toList)->c ∉ (Str.join ⟨#[d]⟩ ps).cps.toList
 | [],_=>by intro hm; cases hm
 | [p],hp=>hp p (by simp)
 | p::q::ps,hp=>by
  have e:Str.join ⟨#[d]⟩ (p::q::ps)=p++⟨#[d]⟩++Str.join ⟨#[d]⟩ (q::ps):=rfl
  rw [e]
  exact iR (iR (hp p (by simp)) (qa h)) (ZcR h λr hr=>hp r (vC _ hr))
theorem Zkg {es:List bu} (h0:es≠[]) (h:∀ e∈es,EOk e):dl (fm es)=some es:=by
 unfold dl fm
 rw [nN (by simpa using h0) (λp hp=>by
  obtain ⟨e,_,rfl⟩:=wQ.mp hp
  exact Zdz e (by decide))]
 exact u5 λe he=>Zpu (h e he)
theorem Zgj {ls:List (List bu)} (h0:ls≠[]) (h1:∀ es∈ls,es≠[]) (h:∀ es∈ls,∀ e∈es,EOk e):et (lj ls)=some ls:=by
 unfold et lj
 rw [nN (by simpa using h0) (λp hp=>by
  obtain ⟨es,_,rfl⟩:=wQ.mp hp
  exact ZcR (by decide) λq hq=>by
   obtain ⟨e,_,rfl⟩:=wQ.mp hq
   exact Zdz e (by decide))]
 exact u5 λes he=>Zkg (h1 es he) (h es he)
theorem ZcW:SeqAt.shaped .none=true:=by decide
theorem Zk3 (i:Int):SeqAt.shaped (.int i)=true:=rfl
theorem Zpl:PyData.eqv .none .none=true:=by simp [PyData.eqv]
theorem Zpn (i:Int):PyData.eqv (.int i) .none=false:=by simp [PyData.eqv]
theorem Zc2 {l:za} {α:Type} {f:Str->Option α} {g:α->PyData} (hsh:∀ x∈l,∀ a,f x=some a->SeqAt.shaped (g a)=true) (hg:∀ x∈l,∀ a,f x=some a->PyData.eqv (g a) .none=false) :
  az (g7 false) .none (.list (l.map λx=>ck g (f x)))=.ret (.bool (bI f l).isNone):=by
 have hall:(l.map λx=>ck g (f x)).all SeqAt.shaped=true:=by
  rw [xE]
  intro y hy
  obtain ⟨x,hx,rfl⟩:=wQ.mp hy
  cases hfx:f x with
  | none=>exact ZcW
  | some a=>exact hsh x hx a hfx
 have he:=Zi7 (f:=f) (g:=g) (l:=l) (p:=λz=>PyData.eqv z .none) Zpl hg
 show Tr.of (mO false .none (.list _))=_
 unfold mO
 dsimp only
 rw [ZcW,hall,Bool.and_self,if_pos rfl]
 show Tr.ret (PyData.bool (List.any _ _))=_
 rw [he]
theorem ZpA (e:bu):SeqAt.shaped (eD e)=true:=rfl
theorem Zpo (e:bu):PyData.eqv (eD e) .none=false:=by simp [PyData.eqv,eD]
theorem en1 {w:Str} (h:w.length<=500000):bT (aw 0) lY [.un] (.str w)=.ret (ck PyData.int (bv w)):=by
 simp_arith [lY,ae,ah,ag,ZpE h]
 unfold bv
 cases b8 w.cps.toList <;> rfl
theorem Zhk {p:Str} (h:(Txt.split p ⟨#[47]⟩).length≠2):cA p=none:=by
 cases he:cA p with
 | none=>rfl
 | some ns =>
  obtain ⟨h1,h2⟩:=kd he
  obtain ⟨a,b,rfl,_⟩:=rO h2
  exact absurd (nh h1).symm h
theorem ZpM {w:Str} (h:w.length<=500000):gZ [.d (.str w)]=.ret (.d (ck eD (bC w))):=by
 have hsp:=dm (a:=w) (c:=64) h
 by_cases h2:(Txt.split w ⟨#[64]⟩).length=2
 ·have hl:∀ v∈Txt.split w ⟨#[64]⟩,v.length<=500000:=λv hv=>by have:=dQ hv; omega
  obtain ⟨p,q,hs⟩:=rC h2
  rw [hs] at hsp hl
  have hp:=hl p (by simp)
  have hq:=hl q (by simp)
  have hsp2:=dm (a:=p) (c:=47) hp
  by_cases h3:(Txt.split p ⟨#[47]⟩).length=2
  ·have hl2:∀ v∈Txt.split p ⟨#[47]⟩,v.length<=500000:=λv hv=>by have:=dQ hv; omega
   obtain ⟨u,v,fq⟩:=rC h3
   rw [fq] at hsp2 hl2
   have hu:=hl2 u (by simp)
   have hv:=hl2 v (by simp)
   have ec:L2.fR [PyData.str p,.str q] (some 1) none=[.str q]:=rfl
   have hs3:small 3=true:=cz (by decide)
   have hs2':small 2=true:=cz (by decide)
   have em:=tN (h:=bT (aw 0) lY [.un]) (F:=λx=>ck PyData.int (bv x)) (l:=[u,v,q]) λx hx=>en1 (by
    simp only [vD,wa,or_false] at hx
    rcases hx with rfl | rfl | rfl <;> assumption)
   have ei:=Zc2 (l:=[u,v,q]) (f:=bv) (g:=PyData.int) (λ_ _ a _=>Zk3 a) (λ_ _ a _=>Zpn a)
   have em':bH (bT (aw 0) lY [.un]) [.str u,.str v,.str q]=.ret [ck PyData.int (bv u),ck PyData.int (bv v),ck PyData.int (bv q)]:=em
   have ei':az (g7 false) .none (.list [ck PyData.int (bv u),ck PyData.int (bv v),ck PyData.int (bv q)])=.ret (.bool (bI bv [u,v,q]).isNone):=ei
   cases ha:bI bv [u,v,q] with
   | none =>
    rw [ha] at ei'
    have he:bC w=none:=by
     cases hw:bC w with
     | none=>rfl
     | some e =>
      obtain ⟨p',q',k1,k2,k3⟩:=mX hw
      rw [hs] at k1
      cases k1
      obtain ⟨k4,_⟩:=kd k2
      rw [fq] at k4
      obtain ⟨x,xs,m1,m2,m3⟩:=eY.mp k4
      obtain ⟨y,ys,m4,m5,m6⟩:=eY.mp m2
      rw [fw,m1,fw,m4,fw,k3] at ha
      cases ha
    rw [he]
    simp_arith [gZ,eX,fe,ae,ah,ag,hsp,hsp2,fH,vS,ec,em',ei',Option.isNone_none,xM]
    rfl
   | some ns =>
    rw [ha] at ei'
    obtain ⟨a,xs,m1,m2,rfl⟩:=eY.mp ha
    obtain ⟨b,ys,m4,m5,rfl⟩:=eY.mp m2
    obtain ⟨l,zs,m6,m7,rfl⟩:=eY.mp m5
    cases (show some ([]:y8)=some zs from m7)
    rw [m1,m4,m6] at em' ei'
    have hsh:cA p=if dD [a,b]=true then some [a,b] else none:=by
     unfold cA
     rw [fq,fw,fw,m1,m4]
     rfl
    have hen:bC w=if dD [a,b]=true then some (a,b,l) else none:=by
     unfold bC
     rw [hs]
     show (cA p).bind _=_
     rw [hsh]
     cases dD [a,b]
     ·rfl
     ·show (bv q).bind _=_
      rw [m6]
      rfl
    rw [hen]
    have ed:=ZdJ (a:=a) (b:=b) (bK (tu m1) (by decide))
    have oi:∀ i:Int,ck PyData.int (some i)=.int i:=λ_=>rfl
    simp only [oi] at em' ei'
    by_cases hb:b < 1
    ·have e:dD [a,b]=false:=by
      show (decide (1<=b) && _)=false
      rw [decide_eq_false (by omega)]; rfl
     rw [e]
     simp_arith [gZ,eX,fe,ae,ah,ag,hsp,hsp2,fH,vS,ec,em',ei',xM,decide_eq_true hb]
     rfl
    ·have e:dD [a,b]=decide (Nat.gcd a.natAbs b.natAbs=1):=by
      show (decide (1<=b) && _)=_
      rw [decide_eq_true (by omega),x4]
     have e2:(((Nat.gcd a.natAbs b.natAbs:Nat):Int) == 1)=decide (Nat.gcd a.natAbs b.natAbs=1):=by
      by_cases hg:Nat.gcd a.natAbs b.natAbs=1
      ·rw [decide_eq_true hg,hg]; rfl
      ·rw [decide_eq_false hg]
       exact beq_eq_false_iff_ne.mpr (by omega)
     rw [e]
     cases hg:decide (Nat.gcd a.natAbs b.natAbs=1) with
     | false =>
      rw [hg] at e2
      simp_arith [gZ,eX,fe,ae,ah,ag,hsp,hsp2,fH,vS,v3,ec,em',ei',xM,decide_eq_false hb,ed,e2]
      rfl
     | true =>
      rw [hg] at e2
      simp_arith [gZ,eX,fe,ae,ah,ag,hsp,hsp2,fH,vS,ec,em',ei',xM,decide_eq_false hb,ed,e2]
      rfl
  ·have he:bC w=none:=by
    unfold bC
    rw [hs]
    show (cA p).bind _=_
    rw [Zhk h3]
    rfl
   have e2:=kA (n:=((Txt.split p ⟨#[47]⟩).map PyData.str).length) (by rw [vB]; exact h3)
   rw [he]
   simp_arith [gZ,eX,fe,ae,ah,ag,hsp,hsp2,fH,vS,e2,v3]
   rfl
 ·have e2:=kA (n:=((Txt.split w ⟨#[64]⟩).map PyData.str).length) (by rw [vB]; exact h2)
  rw [Zdy h2]
  simp_arith [gZ,eX,ae,ah,ag,hsp,e2,v3]
  rfl
theorem Zgk {w:Str} (h:w.length<=500000):bT (aw 0) oV [.un] (.str w)=.ret (ck eD (bC w)):=by
 simp_arith [oV,ae,ah,ag,ZpM h]
theorem Zpx {t:Str} (h:t.length<=500000):mv [.d (.str t)]=.ret (.d (ck tD (et t))):=by
 have key:∀ (l:za),(∀ w∈l,w.length<=500000)->∀ (pre:List (List bu)) (J2 J3:Sl),pre.length+l.length<=1000000 ->
   ce (aw 2) gt (l.map PyData.str) [.d (.str t),.own (pre.map lD),J2,J3]=match bI dl l with
    | none=>.ret (.ret (.d .none))
    | some ds=>ce (aw 2) gt [] [.d (.str t),.own ((pre++ds).map lD),(match l.getLast? with | none=>J2 | some w=>.d (.str w)),(match ds.getLast? with | none=>J3 | some n=>.d (.list (n.map eD)))]:=by
  intro l
  induction l with
  | nil =>
   intro _ pre J2 J3 _
   show _=ce (aw 2) gt [] [.d (.str t),.own ((pre++[]).map lD),J2,J3]
   rw [v7]
   rfl
  | cons w l ih =>
   intro hl pre J2 J3 hp
   have hw:=hl w (by simp)
   have hs:small ((Txt.split w ⟨#[32]⟩).map PyData.str).length=true:=dO (by rw [vB]; have:=fc 32 w; omega)
   have e1:=tN (h:=bT (aw 0) oV [.un]) (F:=λx=>ck eD (bC x)) (l:=Txt.split w ⟨#[32]⟩) λx hx=>Zgk (by have:=dQ hx; omega)
   have e2:=Zc2 (l:=Txt.split w ⟨#[32]⟩) (f:=bC) (g:=eD) (λ_ _ a _=>ZpA a) (λ_ _ a _=>Zpo a)
   have eb:ce (aw 2) gt ((w::l).map PyData.str) [.d (.str t),.own (pre.map lD),J2,J3]=(gt [.d (.str t),.own (pre.map lD),.d (.str w),J3]).bind (jG (aw 2) gt (l.map PyData.str)):=by
    rw [vG,qb]
    rfl
   rw [eb,fw]
   cases hd:dl w with
   | none =>
    have hd':(bI bC (Txt.split w ⟨#[32]⟩)).isNone=true:=by unfold dl at hd; rw [hd]; rfl
    rw [hd'] at e2
    simp_arith [gt,io,ae,ah,ag,dm hw,hs,e1,e2]
    rfl
   | some ns =>
    have hd':(bI bC (Txt.split w ⟨#[32]⟩)).isNone=false:=by unfold dl at hd; rw [hd]; rfl
    rw [hd'] at e2
    have e3:=Zci (f:=bC) (g:=eD) (l:=Txt.split w ⟨#[32]⟩) hd
    have fq:small ((pre.map lD).length+1)=true:=dO (by rw [vB]; simp at hp; omega)
    rw [e3] at e1 e2
    have es:gt [.d (.str t),.own (pre.map lD),.d (.str w),J3]=.ret (.next [.d (.str t),.own ((pre++[ns]).map lD),.d (.str w),.d (.list (ns.map eD))]):=by
     simp_arith [gt,io,ae,ah,ag,dm hw,hs,e1,e2,fq,wk]
     rfl
    rw [es,Tr.ret_bind,mW,ih (λv hv=>hl v (vC _ hv)) (pre++[ns]) _ _ (by simp at hp ⊢; omega)]
    cases ha:bI dl l with
    | none=>rfl
    | some ds =>
     show ce _ _ [] _=ce _ _ [] _
     rw [ww]
     congr 1
     have e5:(match l.getLast? with | none=>Sl.d (.str w) | some v=>.d (.str v))=(match (w::l).getLast? with | none=>J2 | some v=>.d (.str v)):=by
      rw [List.getLast?_cons]
      cases l.getLast? <;> rfl
     have e6:(match ds.getLast? with | none=>Sl.d (.list (ns.map eD)) | some n=>.d (.list (n.map eD)))=(match (ns::ds).getLast? with | none=>J3 | some n=>.d (.list (n.map eD))):=by
      rw [List.getLast?_cons]
      cases ds.getLast? <;> rfl
     rw [e5,e6]
     rfl
 have hk:=key (Txt.split t ⟨#[10]⟩) (λw hw=>by have:=dQ hw; omega) [] .un .un (by have:=fc 10 t; simp; omega)
 rw [wR] at hk
 unfold et
 cases ha:bI dl (Txt.split t ⟨#[10]⟩) with
 | none =>
  rw [ha] at hk
  simp_arith [mv,iC,ae,ah,ag,dm h,hk]
  rfl
 | some ds =>
  rw [ha] at hk
  simp_arith [mv,iC,ae,ah,ag,dm h,hk]
  rfl
theorem qj {k:Nat} {i:Int} (h:i.natAbs < 10 ^ (k+1)):(ay i).length<=k+2:=by
 rw [qk]
 unfold cw
 have:=jH k _ h
 split
 ·rw [vN]; omega
 ·omega
theorem jk {k:Nat} {i:Int} (h:i.natAbs < 10 ^ (k+1)) (hk:k<=500):bn dN [.int i]=.ret (.str (ay i))/\(ay i).length<=k+2:=by
 refine ⟨qe (tP (vE h (vO (xF (by decide) (show k+1<=501 by omega)) ?_)) (by decide)),qj h⟩
 decide +kernel
theorem cat {a b:Str} (ha:a.length<=400000) (hb:b.length<=400000):az aN (.str a) (.str b)=.ret (.str (a++b)):=iT (by omega)
theorem ZaR {n:Nat} {ys:y6} (h:∀ y∈ys,jN n y):∃ us:za,ys=us.map PyData.str/\∀ u∈us,u.length<=n:=by
 induction ys with
 | nil=>exact ⟨[],rfl,λu hu=>by cases hu⟩
 | cons y ys ih =>
  obtain ⟨us,rfl,hus⟩:=ih λz hz=>h z (vC _ hz)
  obtain ⟨u,rfl,hu⟩:=h y (by simp)
  refine ⟨u::us,rfl,λv hv=>?_⟩
  rcases vD.mp hv with rfl | hv
  ·exact hu
  ·exact hus v hv
theorem lr {n:Nat} {us:za} (h:∀ u∈us,u.length<=n):(us.map λw=>w.length+1).sum<=us.length * (n+1):=by
 induction us with
 | nil=>simp
 | cons u us ih =>
  rw [vG,wo,vN,xl]
  have:=ih λv hv=>h v (vC _ hv)
  have:=h u (by simp)
  omega
theorem Zh2 {c:Str} {n:Int} (hc:c.length=1) (h0:0 < n) (h1:n<=100000):az gX (.str c) (.int n)=.ret (.str (ff c n))/\(ff c n).length<=n.toNat:=by
 refine ⟨uv ⟨h0,by omega,by rw [hc]; omega⟩,?_⟩
 unfold ff
 split
 ·rw [hc]; omega
 ·show Array.size _<=_
  rw [qc]
  simp only [List.map_replicate,List.sum_replicate_nat]
  have:c.cps.size=1:=hc
  rw [this]
  simp
theorem ZrS (n:Int):iY n=(n.natAbs:Int):=by unfold iY; split <;> omega
theorem ZhC:Al (pN [.pen]) 9 λr=>∃ u:Str,r=.d (.str u)/\u.length<=80:=by
 have l1:("/":Str).length=1:=by trivial
 have l2:("@":Str).length=1:=by trivial
 have cL:∀ (a:Str) (b:String),a.length<=400000->(b:Str).length<=4->az aN (.str a) (.str b)=.ret (.str (a++(b:Str))):=λa b h1 h2=>cat h1 (by omega)
 simp_arith [pN,ae,ah,ag,aS]
 refine dW (n:=4) (n':=5) Zd6 (by decide) ?_
 rintro _ ⟨x,rfl,x0,x1⟩
 simp_arith [ae,ah,ag,aS]
 refine dW (n:=4) (n':=1) Zd6 (by decide) ?_
 rintro _ ⟨y,rfl,y0,y1⟩
 have hb0:((y.natAbs:Int))+1≠0:=by omega
 have big:(150000000000000000000000000001:Int) < (2 ^ 7000:Nat):=by trivial
 have el:=ZpF (t:=x) (b:=(y.natAbs:Int)+1) hb0 (cB (by omega) (by omega)) (cB (by omega) (by omega))
 obtain ⟨b1,b2⟩:=Gc.ZcE (t:=x) hb0
 unfold ke at el
 generalize Gc.gr x ((y.natAbs:Int)+1)=t at *
 generalize Gc.fN x ((y.natAbs:Int)+1)=b at *
 obtain ⟨e1,n1⟩:=jk (k:=31) (i:=t) (by omega) (by decide)
 obtain ⟨e2,n2⟩:=jk (k:=31) (i:=b) (by omega) (by decide)
 have c1:=cL (ay t) "/" (by omega) (by omega)
 have c2:=cat (a:=ay t++("/":Str)) (b:=ay b) (by rw [strLen_append]; omega) (by omega)
 have c3:=cL (ay t++("/":Str)++ay b) "@" (by rw [strLen_append,strLen_append]; omega) (by omega)
 simp_arith [ae,ah,ag,aS,ZrS,el,e1,e2,c1,c2,c3]
 refine b6 (n:=0) (by decide) (by decide) (by decide) λk k0 k1=>?_
 obtain ⟨e3,n3⟩:=jk (k:=1) (i:=k - 20) (by omega) (by decide)
 have c4:=cat (a:=ay t++("/":Str)++ay b++("@":Str)) (b:=ay (k - 20)) (by rw [strLen_append,strLen_append,strLen_append]; omega) (by omega)
 simp_arith [ae,ah,ag,aS,e3,c4]
 exact cj ⟨_,rfl,by rw [strLen_append,strLen_append,strLen_append,strLen_append]; omega⟩
theorem xt1 (w:PyData):Al (bT (aw 0) sC [.un,.pen] w) 9 (jN 80):=by
 simp_arith [sC,ae,ah,ag,aS]
 refine dW (n:=9) (n':=0) ZhC (by decide) ?_
 rintro _ ⟨u,rfl,hu⟩
 simp_arith [ae,ah,ag,aS]
 exact cj ⟨u,rfl,hu⟩
theorem xt2 {ds:za} {most:Int} (m0:1<=most) (m1:most<=40) (hd:ds.length<=10) (J1 J4 J5 J6 J7 J8:Sl):Al (tY [.pen,J1,.d (.int most),.own (ds.map PyData.str),J4,J5,J6,J7,J8]) 361 λo=>∃ u:Str,o=.next [.pen,J1,.d (.int most),.own ((ds++[u]).map PyData.str),J4,J5,J6,J7,J8]/\u.length<=3240:=by
 have hs:small ((ds.map PyData.str).length+1)=true:=cz (by rw [vB]; omega)
 simp_arith [tY,ae,ah,ag,aS]
 refine b6 (n:=360) (by omega) (by omega) (by decide) λm m0' m1'=>?_
 have r1:gR [.int (1+m)]=.ret (bp 0 (1+m)):=kJ (jE (by omega) (by omega))
 have hsm:small (bp 0 (1+m)).length=true:=cz (by rw [cF]; omega)
 simp_arith [ae,ah,ag,aS,r1,hsm]
 refine dW (n:=360) (n':=0) (qz (n:=9) (P:=jN 80) (Q:=λys=>∃ us:za,ys=us.map PyData.str/\us.length<=40/\∀ u∈us,u.length<=80) (by rw [cF]; omega) (λx hx=>xt1 x) λys hl hys=>?_) (by decide) ?_
 ·obtain ⟨us,rfl,hus⟩:=ZaR hys
  rw [vB,cF] at hl
  exact ⟨us,rfl,by omega,hus⟩
 ·rintro _ ⟨us,rfl,hul,hus⟩
  have h1:=lr hus
  obtain ⟨u,hu,hu2⟩:=mL (sep:=⟨#[32]⟩) rfl (l:=us) (by omega)
  simp_arith [io,ae,ah,ag,aS,hu,hs]
  refine cj ⟨u,?_,by omega⟩
  rw [wk]
  rfl
theorem xt4 {T:Str} (hT:T.length<=100000) (w:PyData):Al (bT (aw 0) sB [.un,.pen,.d (.str T)] w) 8 (jN (2 * T.length+5000)):=by
 simp_arith [sB,ae,ah,ag,aS]
 refine dW (n:=8) (n':=0) (ZhE hT) (by decide) ?_
 rintro _ ⟨u,rfl,hu⟩
 simp_arith [ae,ah,ag,aS]
 exact cj ⟨u,rfl,hu⟩
theorem Zhz {turn:Int} (t0:0<=turn) (t1:turn < 3):Al (pM [.pen,.d (.int turn)]) 2300 λr=>∃ us:za,r=.d (.list (us.map PyData.str))/\us.length<=60/\∀ u∈us,u.length<=60000:=by
 have cL:∀ (a:Str) (b:String),a.length<=400000->(b:Str).length<=10->az aN (.str a) (.str b)=.ret (.str (a++(b:Str))):=λa b h1 h2=>cat h1 (by omega)
 have cR:∀ (a:String) (b:Str),(a:Str).length<=10->b.length<=400000->az aN (.str a) (.str b)=.ret (.str ((a:Str)++b)):=λa b h1 h2=>cat (by omega) h2
 have l1:("\n":Str).length=1:=by trivial
 have l2:(" ":Str).length=1:=by trivial
 have l3:("":Str).length=0:=by trivial
 have l4:("1/1@0":Str).length=5:=by trivial
 have l5:("1/1@":Str).length=4:=by trivial
 have l6:("@1":Str).length=2:=by trivial
 have l7:("1@1":Str).length=3:=by trivial
 have l8:("1/1@1@1":Str).length=7:=by trivial
 have l9:("1/1":Str).length=3:=by trivial
 have lA:("/":Str).length=1:=by trivial
 have lB:("@0":Str).length=2:=by trivial
 have lC:("0/":Str).length=2:=by trivial
 have lD:("-1/2@-3":Str).length=7:=by trivial
 have lE:("1/-2@3":Str).length=6:=by trivial
 have lF:("1":Str).length=1:=by trivial
 have lG:("/3@0":Str).length=4:=by trivial
 have lH:("1/7":Str).length=3:=by trivial
 have lI:("0/1@-":Str).length=5:=by trivial
 have lJ:(" -":Str).length=2:=by trivial
 have lK:("/9@":Str).length=3:=by trivial
 obtain ⟨cap,ec,cap0,cap1⟩:=Zb4 (xs:=[PyData.int 40,.int 9,.int 9]) (lo:=9) (hi:=40) (by simp [mM]) t0 t1
 simp_arith [pM,ae,ah,ag,aS]
 refine b6 (n:=2299) (by decide) (by decide) (by decide) λk k0 k1=>?_
 obtain ⟨y,hy,y0,y1⟩:=Zb4 (xs:=[PyData.int 3,.int 9,.int 3,.int 9,.int 3,.int 9,.int 3,.int 40]) (lo:=3) (hi:=40) (by simp [mM]) k0 k1
 simp_arith [ae,ah,ag,aS,hy,ec]
 have hm0:1<=jv y cap:=by unfold jv; split <;> omega
 have hm1:jv y cap<=40:=by unfold jv; split <;> omega
 generalize jv y cap=most at *
 refine b6 (n:=2298) (by decide) (by decide) (by decide) λd d0 d1=>?_
 have r1:gR [.int (1+d)]=.ret (bp 0 (1+d)):=kJ (jE (by omega) (by omega))
 simp_arith [ae,ah,ag,aS,r1]
 refine dW (n:=2166) (n':=120) (P:=λo=>∃ (ds:za) (J4:Sl),o=.next [.pen,.d (.int turn),.d (.int most),.own (ds.map PyData.str),J4,.un,.un,.un,.un]/\ds.length<=6/\∀ u∈ds,u.length<=3240) ?_ (by decide) ?_
 ·refine qA (n:=361) (λpre ρ=>∃ (ds:za) (J4:Sl),ρ=[.pen,.d (.int turn),.d (.int most),.own (ds.map PyData.str),J4,.un,.un,.un,.un]/\ds.length=pre.length/\∀ u∈ds,u.length<=3240) ⟨[],_,rfl,rfl,λ_ q=>by cases q⟩ (by rw [cF]; omega) ?_ ?_
  ·rintro pre x post ρ e ⟨ds,J4,rfl,hl,hn⟩
   obtain ⟨rfl,hpre⟩:=ZhS e
   refine ⟨_,rfl,u6 (xt2 hm0 hm1 (by omega) _ _ _ _ _ _) (vF _) ?_⟩
   rintro _ ⟨u,rfl,hu⟩
   refine ⟨_,rfl,ds++[u],_,rfl,by simp [hl],λv hv=>?_⟩
   rcases wE.mp hv with hq | hq
   ·exact hn v hq
   ·rw [xt.mp hq]; exact hu
  ·rintro ρ ⟨ds,J4,rfl,hl,hn⟩
   exact ⟨ds,J4,rfl,by rw [hl,cF]; omega,hn⟩
 ·rintro _ ⟨ds,J4,rfl,hdl,hds⟩
  have h1:=lr hds
  obtain ⟨T,hT,hT2⟩:=mL (sep:=⟨#[10]⟩) rfl (l:=ds) (by omega)
  have hT3:T.length<=20000:=by omega
  rw [<- iC] at hT
  simp_arith [ae,ah,ag,aS,hT]
  refine b6 (n:=119) (by decide) (by decide) (by decide) λb b0 b1=>?_
  obtain ⟨e1,n1⟩:=jk (k:=1) (i:=2+b) (by omega) (by decide)
  have d1:=cL T "\n" (by omega) (by omega)
  have d2:=cR "\n" T (by omega) (by omega)
  have d3:=cL T " " (by omega) (by omega)
  have d4:=cR " " T (by omega) (by omega)
  have d5:=cL (ay (2+b)) "/" (by omega) (by omega)
  have d6:=cat (a:=ay (2+b)++("/":Str)) (b:=ay (2+b)) (by rw [strLen_append]; omega) (by omega)
  have d7:=cL (ay (2+b)++("/":Str)++ay (2+b)) "@0" (by rw [strLen_append,strLen_append]; omega) (by omega)
  have d8:=cR "0/" (ay (2+b)) (by omega) (by omega)
  have d9:=cL (("0/":Str)++ay (2+b)) "@0" (by rw [strLen_append]; omega) (by omega)
  have dA:=cat (a:=T++("\n":Str)) (b:=T) (by rw [strLen_append]; omega) (by omega)
  simp_arith [ae,ah,ag,aS,e1,d1,d2,d3,d4,d5,d6,d7,d8,d9,dA]
  refine b6 (n:=118) (by decide) (by decide) (by decide) λg g0 g1=>?_
  obtain ⟨p1,q1⟩:=Zh2 (c:="0") (n:=398+g) (by trivial) (by omega) (by omega)
  generalize ff "0" (398+g)=Z at *
  have c1:=cR "1" Z (by omega) (by omega)
  generalize hW:(("1":Str)++Z)=W at *
  have hWl:W.length<=401:=by rw [<- hW,strLen_append]; omega
  have hsl:=x5 W (some 1) none
  generalize hW1:Txt.slice W (some 1) none=W1 at *
  have c2:=cL W "/3@0" (by omega) (by omega)
  have c3:=cR "1/7" W1 (by omega) (by omega)
  have c4:=cL (("1/7":Str)++W1) "@0" (by rw [strLen_append]; omega) (by omega)
  have c5:=cR "0/1@-" W (by omega) (by omega)
  have c6:=cL T " -" (by omega) (by omega)
  have c7:=cat (a:=T++(" -":Str)) (b:=W) (by rw [strLen_append]; omega) (by omega)
  have c8:=cL (T++(" -":Str)++W) "/9@" (by rw [strLen_append,strLen_append]; omega) (by omega)
  have c9:=cat (a:=T++(" -":Str)++W++("/9@":Str)) (b:=W) (by rw [strLen_append,strLen_append,strLen_append]; omega) (by omega)
  have r10:gR [.int 14]=.ret (bp 0 14):=kJ rfl
  have hs10:small (bp 0 14).length=true:=cz (by rw [cF]; decide)
  simp_arith [ae,ah,ag,aS,p1,c1,c2,cZ (a:=W) (by omega),hW1,c3,c4,c5,c6,c7,c8,c9,r10,hs10]
  refine dW (n:=112) (n':=0) (qz (n:=8) (P:=jN 50000) (Q:=λys=>∃ us:za,ys=us.map PyData.str/\us.length<=14/\∀ u∈us,u.length<=50000) (by rw [cF]; decide) (λx hx=>?_) λys hl hys=>?_) (by decide) ?_
  ·refine u6 (xt4 (by omega) x) (vF _) ?_
   rintro _ ⟨u,rfl,hu⟩
   exact ⟨u,rfl,by omega⟩
  ·obtain ⟨bs,rfl,hbs⟩:=ZaR hys
   rw [vB,cF] at hl
   exact ⟨bs,rfl,by omega,hbs⟩
  ·rintro _ ⟨bs,rfl,hbl,hbs⟩
   have hm2:∀ n,n<=30->small (n+(bs.map PyData.str).length)=true:=λn hn=>cz (by rw [vB]; omega)
   simp_arith [ae,ah,ag,aS,hm2]
   refine cj ⟨[T,T++("\n" : Str), ("\n" : Str) ++ T, T ++ (" " : Str), (" " : Str) ++ T, "", "1/1@0", "1/1@", "@1", "1@1", "1/1@1@1", "1/1", ay (2 + b) ++ ("/" : Str) ++ ay (2 + b) ++ ("@0" : Str), ("0/" : Str) ++ ay (2 + b) ++ ("@0" : Str), "-1/2@-3", "1/-2@3", T ++ ("\n" : Str) ++ T, W ++ ("/3@0" : Str), ("1/7" : Str) ++ W1 ++ ("@0" : Str), ("0/1@-" : Str) ++ W, T ++ (" -" : Str) ++ W ++ ("/9@":Str)++W]++bs,?_,by simp; omega,?_⟩
   ·rw [wk]
    rfl
   ·intro u hu
    rcases wE.mp hu with hu | hu
    ·simp only [vD,wa,or_false] at hu
     rcases hu with rfl | rfl | rfl | rfl | rfl | rfl | rfl | rfl | rfl | rfl | rfl | rfl | rfl | rfl | rfl | rfl | rfl | rfl | rfl | rfl | rfl <;> (try simp only [strLen_append]) <;> omega
    ·have:=hbs u hu; omega
theorem Zi5:2 ^ 400 < 10 ^ 400:=Nat.pow_lt_pow_left (by decide) (by decide)
theorem Zcv {i:Int} (h:nb 400 i):i.natAbs < 10 ^ 400:=yb h Zi5
noncomputable def ka (s:Shp) (day:y8) (rest:List y8) (x:Int):bu:=(Gc.gr ((s.bk (day::rest)).1 x) (s.bk (day::rest)).2,Gc.fN ((s.bk (day::rest)).1 x) (s.bk (day::rest)).2,s.lv day rest x)
noncomputable def kb (s:Shp):List y8->List (List bu)
 | []=>[]
 | day::rest=>((bD (-s.depth) s.n).map (ka s day rest))::kb s rest
theorem Zgi (s:Shp) (day:y8) (rest:List y8):s.tday day rest=lD ((bD (-s.depth) s.n).map (ka s day rest)):=by
 unfold Shp.tday lD
 rw [wL]
 rfl
theorem ZaG (s:Shp):∀ fs:List y8,s.tab fs=(kb s fs).map lD
 | []=>rfl
 | day::rest=>by
  show s.tday day rest::s.tab rest=_
  rw [Zgi,ZaG s rest]
  rfl
theorem ZaI (s:Shp):∀ fs:List y8,(kb s fs).length=fs.length
 | []=>rfl
 | day::rest=>by show (kb s rest).length+1=_; rw [ZaI s rest]; rfl
theorem Zge {s:Shp} (h:s.Ok) {day:y8} {rest:List y8} (hf:∀ l∈day::rest,DayB l) (hl:(day::rest).length<=6) {x:Int} (h1:-s.depth<=x) (h2:x<=s.top):EOk (ka s day rest x)/\-100<=(ka s day rest x).2.2/\(ka s day rest x).2.2<=100:=by
 have hb:=Zry h hf hl
 have hsc:=m9 (s:=s) hf
 obtain ⟨_,_,p,g⟩:=Gc.ZcD (t:=(s.bk (day::rest)).1 x) (b:=(s.bk (day::rest)).2) (by omega)
 obtain ⟨n1,n2⟩:=Zkc (hb.1 x h1 h2) hb.2 (by omega)
 have hq:=sU (g:=s.sms day rest) (top:=s.top) (K:=(s.bk rest).2 * day.sum * s.start) (x:=x) h2
 have k1:x<=s.lv day rest x:=hq.1
 have k2:s.lv day rest x<=s.top:=hq.2.1
 have:=h.t0
 have:=h.d0
 have:=h.td
 have e:(ka s day rest x).2.2=s.lv day rest x:=rfl
 refine ⟨⟨Zcv n1,Zcv n2,p,g,?_⟩,by rw [e]; omega,by rw [e]; omega⟩
 rw [e]
 have:(100:Nat) < 10 ^ 400:=by trivial
 omega
theorem ZaH {s:Shp} (h:s.Ok):∀ {fs:List y8},(∀ l∈fs,DayB l)->fs.length<=6->∀ es∈kb s fs,es≠[]/\es.length=s.n/\∀ e∈es,EOk e/\-100<=e.2.2/\e.2.2<=100
 | [],_,_,es,he=>by cases he
 | day::rest,hf,hl,es,he=>by
  rcases vD.mp he with rfl | he
  ·have hn:=h.n_eq
   have:=h.t0
   have:=h.d0
   have:=h.td
   refine ⟨?_,by rw [vB,ir],λe hm=>?_⟩
   ·intro e0
    have:=congrArg List.length e0
    rw [vB,ir] at this
    simp at this
    omega
   ·obtain ⟨x,hx,rfl⟩:=wQ.mp hm
    have hm:=si hx
    exact Zge h hf hl (by omega) (by omega)
  ·exact ZaH h (λl hl=>hf l (vC _ hl)) (by simp at hl; omega) es he
theorem ZdA {e:bu} (h:EOk e):(gC e).length<=1300:=by
 unfold gC
 rw [strLen_append,strLen_append,strLen_append,strLen_append]
 have:=qj (k:=399) h.a
 have:=qj (k:=399) h.b
 have:=qj (k:=399) h.l
 show _+1+_+1+_<=_
 omega
theorem Zkh {es:List bu} (hl:es.length<=10) (h:∀ e∈es,EOk e):(fm es).length<=14000:=by
 unfold fm
 rw [<- tjoin]
 refine vO (t8 rfl _) (vO (lr (n:=1300) λu hu=>?_) ?_)
 ·obtain ⟨e,he,rfl⟩:=wQ.mp hu
  exact ZdA (h e he)
 ·rw [vB]
  omega
theorem tq3 {e:bu} (h:EOk e):bT (cY (bB (aw 0) (bB (aw 1) cO))) oU [.un,.un] (eD e)=.ret (.str (gC e)):=by
 obtain ⟨a,b,l⟩:=e
 obtain ⟨e1,n1⟩:=jk (k:=399) (i:=a) h.a (by decide)
 obtain ⟨e2,n2⟩:=jk (k:=399) (i:=b) h.b (by decide)
 obtain ⟨e3,n3⟩:=jk (k:=399) (i:=l) h.l (by decide)
 have c1:=cat (a:=ay a) (b:=⟨#[47]⟩) (by omega) (by show 1<=_; omega)
 have c2:=cat (a:=ay a++⟨#[47]⟩) (b:=ay b) (by rw [strLen_append]; show _+1<=_; omega) (by omega)
 have c3:=cat (a:=ay a++⟨#[47]⟩++ay b) (b:=⟨#[64]⟩) (by rw [strLen_append,strLen_append]; show _+1+_<=_; omega) (by show 1<=_; omega)
 have c4:=cat (a:=ay a++⟨#[47]⟩++ay b++⟨#[64]⟩) (b:=ay l) (by rw [strLen_append,strLen_append,strLen_append]; show _+1+_+1<=_; omega) (by omega)
 unfold eD
 simp_arith [oU,fe,eX,ae,ah,ag,e1,e2,e3,c1,c2,c3,c4]
 rfl
theorem tl1 {ds:za} (hd:ds.length<=10) {es:List bu} (hl:es.length<=10) (h:∀ e∈es,EOk e) (A B C J6:Sl):mK [.pen,A,B,C,.own (ds.map PyData.str),.d (lD es),J6]=.ret (.next [.pen,A,B,C,.own ((ds++[fm es]).map PyData.str),.d (lD es),J6]):=by
 have hs:small ((ds.map PyData.str).length+1)=true:=cz (by rw [vB]; omega)
 have fq:small (es.map eD).length=true:=cz (by rw [vB]; omega)
 have em:∀ l:List bu,(∀ e∈l,EOk e)->bH (bT (cY (bB (aw 0) (bB (aw 1) cO))) oU [.un,.un]) (l.map eD)=.ret ((l.map gC).map PyData.str):=by
  intro l
  induction l with
  | nil=>intro _; rfl
  | cons e l ih =>
   intro hm
   rw [vG,bH,tq3 (hm e (by simp)),Tr.ret_bind,ih λf hf=>hm f (vC _ hf)]
   rfl
 have em:=em es h
 have ej:az cv (.str ⟨#[32]⟩) (.list ((es.map gC).map PyData.str))=.ret (.str (fm es)):=by
  rw [ae ⟨by show 1<=16; decide,?_⟩,tjoin]
  ·rfl
  ·rw [<- iL]
   refine vO (lr (n:=1300) λu hu=>?_) ?_
   ·obtain ⟨e,he,rfl⟩:=wQ.mp hu
    exact ZdA (h e he)
   ·rw [vB]
    omega
 unfold lD
 simp_arith [mK,io,ae,ah,ag,hs,fq,em,ej]
 rw [wk]
 rfl
theorem tl2 {A B C J6:Sl}:∀ {ls:List (List bu)} {ds:za} {J5:Sl},ds.length+ls.length<=10->(∀ es∈ls,es.length<=10/\∀ e∈es,EOk e)->∃ J,ce (aw 5) mK (ls.map lD) [.pen,A,B,C,.own (ds.map PyData.str),J5,J6]=.ret (.next [.pen,A,B,C,.own ((ds++ls.map fm).map PyData.str),J,J6])
 | [],ds,J5,_,_=>⟨J5,by rw [show ds++([]:List (List bu)).map fm=ds from v7 ds]; rfl⟩
 | es::ls,ds,J5,hd,h=>by
  have e1:=tl1 (ds:=ds) (by simp at hd; omega) (h es (by simp)).1 (h es (by simp)).2 A B C J6
  obtain ⟨J,eJ⟩:=tl2 (A:=A) (B:=B) (C:=C) (J6:=J6) (ls:=ls) (ds:=ds++[fm es]) (J5:=.d (lD es)) (by simp at hd ⊢; omega) (λfs hf=>h fs (vC _ hf))
  refine ⟨J,?_⟩
  rw [vG,qb]
  show (mK [.pen,A,B,C,.own (ds.map PyData.str),.d (lD es),J6]).bind _=_
  rw [e1,Tr.ret_bind,mW,eJ,ww]
  rfl
theorem tq2 (w:PyData):Al (bT (aw 0) sA [.un,.pen] w) 3 λd=>∃ ls:y8,d=tI ls/\DayB ls:=by
 have hs3:small 3=true:=cz (by decide)
 simp_arith [sA,ae,ah,ag,aS]
 refine b6 (n:=2) (by decide) (by decide) (by decide) λa a0 a1=>?_
 try simp_arith [ae,ah,ag,aS]
 refine b6 (n:=1) (by decide) (by decide) (by decide) λb b0 b1=>?_
 try simp_arith [ae,ah,ag,aS]
 refine b6 (n:=0) (by decide) (by decide) (by decide) λc c0 c1=>?_
 try simp_arith [ae,ah,ag,aS,hs3]
 refine cj ⟨[1+a,b,c],rfl,⟨by simp,λw hw=>?_,λw hw=>?_,?_⟩⟩
 ·simp only [vD,wa,or_false] at hw
  rcases hw with rfl | rfl | rfl <;> exact cB (by show -1073741824 < _; omega) (by show _ < 1073741824; omega)
 ·simp only [vD,wa,or_false] at hw
  rcases hw with rfl | rfl | rfl <;> omega
 ·show 0 < (1+a)+(b+(c+0))
  omega
theorem Zp5 {ys:y6} (h:∀ y∈ys,∃ ls:y8,y=tI ls/\DayB ls):∃ fs:List y8,ys=fs.map tI/\∀ l∈fs,DayB l:=by
 induction ys with
 | nil=>exact ⟨[],rfl,λl hl=>by cases hl⟩
 | cons y ys ih =>
  obtain ⟨fs,rfl,hf⟩:=ih λz hz=>h z (vC _ hz)
  obtain ⟨ls,rfl,hd⟩:=h y (by simp)
  refine ⟨ls::fs,rfl,λl hl=>?_⟩
  rcases vD.mp hl with rfl | hl
  ·exact hd
  ·exact hf l hl
theorem Zhy:Al (pL [.pen]) 30 λr=>r=.d (.bool true):=by
 have r7:gR [.int 7]=.ret (bp 0 7):=kJ rfl
 have hs7:small (bp 0 7).length=true:=cz (by rw [cF]; decide)
 simp_arith [pL,ae,ah,ag,aS]
 refine b6 (n:=29) (by decide) (by decide) (by decide) λt t0 t1=>?_
 try simp_arith [ae,ah,ag,aS]
 refine b6 (n:=28) (by decide) (by decide) (by decide) λd d0 d1=>?_
 simp_arith [ae,ah,ag,aS,r7,hs7]
 refine dW (n:=7) (n':=21) (qz (n:=1) (P:=mM 0 1000000) (Q:=λys=>∃ ps:y8,ys=ps.map PyData.int/\ps.length=7/\∀ p∈ps,0<=p/\p<=1000000) (by rw [cF]; decide) (λx hx=>?_) λys hl hys=>?_) (by decide) ?_
 ·simp_arith [ZbY,ae,ah,ag,aS]
  refine b6 (n:=0) (by decide) (by decide) (by decide) λr r0 r1=>?_
  try simp_arith [ae,ah,ag,aS]
  exact cj ⟨r,rfl,by omega,by omega⟩
 ·obtain ⟨ps,rfl,hp⟩:=Zc0 hys
  rw [vB,cF] at hl
  exact ⟨ps,rfl,hl,hp⟩
 ·rintro _ ⟨ps,rfl,hpl,hp⟩
  obtain ⟨a1,a2,a3,a4,a5,a6,a7,rfl⟩:=Zke hpl
  have hdr:(Shp.mk t d a1 a2 a3 a4 a5 a6 a7).Dr:=⟨t0,d0,by show t+d<=39; omega,hp⟩
  simp_arith [ae,ah,ag,aS]
  refine b6 (n:=20) (by decide) (by decide) (by decide) λm m0 m1=>?_
  have r6:gR [.int (1+m)]=.ret (bp 0 (1+m)):=kJ (jE (by omega) (by omega))
  have hs6:small (bp 0 (1+m)).length=true:=cz (by rw [cF]; omega)
  simp_arith [ae,ah,ag,aS,r6,hs6]
  refine dW (n:=9) (n':=0) (qz (n:=3) (P:=λd=>∃ ls:y8,d=tI ls/\DayB ls) (Q:=λys=>∃ fs:List y8,ys=fs.map tI/\1<=fs.length/\fs.length<=3/\∀ l∈fs,DayB l) (by rw [cF]; omega) (λx hx=>tq2 x) λys hl hys=>?_) (by decide) ?_
  ·obtain ⟨fs,rfl,hf⟩:=Zp5 hys
   rw [vB,cF] at hl
   exact ⟨fs,rfl,by omega,by omega,hf⟩
  ·rintro _ ⟨fs,rfl,hf1,hf3,hf⟩
   have esh:=@Zg7 t d a1 a2 a3 a4 a5 a6 a7
   generalize hS:Shp.mk t d a1 a2 a3 a4 a5 a6 a7=s at *
   have el:=ZpH hdr.ok hf (by omega)
   have hok:=ZaH hdr.ok hf (by omega)
   have hlen:=ZaI s fs
   rw [ZaG] at el
   have hn6:s.n<=10:=by
    have:=hdr.ok.n_eq
    have e1:s.top=t:=by rw [<- hS]
    have e2:s.depth=d:=by rw [<- hS]
    omega
   unfold fD at el
   generalize kb s fs=ls at *
   have hlok:∀ es∈ls,es.length<=10/\∀ e∈es,EOk e:=λes he=>⟨by rw [(hok es he).2.1]; exact hn6,λe hm=>((hok es he).2.2 e hm).1⟩
   obtain ⟨J,eJ⟩:=tl2 (A:=.d s.d) (B:=.d (.tuple (fs.map tI))) (C:=.d (.tuple (ls.map lD))) (J6:=.un) (ls:=ls) (ds:=[]) (J5:=.un) (by simp; omega) hlok
   rw [wR,List.nil_append] at eJ
   have hsum:((ls.map fm).map λw=>w.length+1).sum<=43000:=by
    refine vO (lr (n:=14000) λu hu=>?_) ?_
    ·obtain ⟨es,he,rfl⟩:=wQ.mp hu
     exact Zkh (hlok es he).1 (hlok es he).2
    ·rw [vB]; omega
   have ej:az cv (.str "\n") (.list ((ls.map fm).map PyData.str))=.ret (.str (lj ls)):=by
    rw [iC,ae ⟨by show 1<=16; decide,by rw [<- iL]; omega⟩,tjoin]
    rfl
   have htl:(lj ls).length<=43000:=by
    unfold lj
    rw [<- tjoin]
    exact vO (t8 rfl _) hsum
   have hne:ls≠[]:=by intro e; rw [e] at hlen; simp at hlen; omega
   have hdec:=Zgj hne (λes he=>(hok es he).1) (λes he e hm=>((hok es he).2.2 e hm).1)
   have e1:=ZdD (by omega) hdec
   have e2:=ZdE (by omega) hdec
   have e3:=Zdq (ZaE hdec) (by decide) (by omega)
   unfold tD at e1 e2 e3
   simp_arith [ae,ah,ag,aS,esh,el,eJ,ej,e1,e2,e3,beq_self_eq_true]
   exact cj rfl
section
variable {fr:Addr}
theorem ZpK {t:Str} (h:t.length<=500000):gY fr [.fn fr,.d (.str t)]=.ret (.d (match et t with | none=>.str "no text" | some ds=>.list [tD ds])):=by
 show mQ (if fr=fr then ie [.d (.str t)] else _)=_
 rw [if_pos rfl,ZfA h]
 cases et t <;> rfl
theorem ZpL {d:PyData} (h:fo d=false):gY fr [.fn fr,.d d]=.ret (.d (.str "no text")):=by
 show mQ (if fr=fr then ie [.d d] else _)=_
 rw [if_pos rfl,Zfz h]
 rfl
theorem hs1:small 1=true:=cz (by decide)
theorem ZcY (ds:List (List bu)):gx (tD ds)=false:=rfl
theorem ZcX:gx .none=true:=rfl
theorem ZpC {t:Str} (h:t.length<=60000):mw fr [.fn fr,.d (.str t),.d (ck tD (et t))]=.ret (.d (.bool true)):=by
 have eh:=ZpK (fr:=fr) (t:=t) (by omega)
 cases hr:et t with
 | none =>
  rw [hr] at eh
  simp_arith [mw,ck,ae,ah,ag,ZcX,eh,beq_self_eq_true]
 | some ds =>
  rw [hr] at eh
  have hq:=Zdq (ZhK (ZaE hr)) (by decide) (by omega)
  simp_arith [mw,ck,ae,ah,ag,ZcY,eh,hq,beq_self_eq_true,hs1]
theorem ZpJ {t:Str} (h:t.length<=60000) (U J2 J4 J5:Sl):pU fr [U,.pen,J2,.d (.str t),J4,J5]=.ret (.next [U,.pen,J2,.d (.str t),.d (ck tD (et t)),J5]):=by
 have e1:=Zpx (t:=t) (by omega)
 have e2:=ZpC (fr:=fr) h
 cases hr:et t with
 | none =>
  rw [hr] at e1 e2
  simp only [ck] at e1 e2
  simp_arith [pU,ck,ae,ah,ag,e1,e2,ZcX,vS]
 | some ds =>
  rw [hr] at e1 e2
  simp only [ck] at e1 e2
  have e3:=ZdE (by omega) hr
  have e4:=ZdD (by omega) hr
  simp_arith [pU,ck,ae,ah,ag,e1,e2,e3,e4,ZcY,beq_self_eq_true,vS,v3]
theorem ZpI {d:PyData} (h:fo d=false) (U J2 J3 J4:Sl):t4 fr [U,.pen,J2,J3,J4,.d d]=.ret (.next [U,.pen,J2,J3,J4,.d d]):=by
 have e1:=ZpL (fr:=fr) h
 simp_arith [t4,ae,ah,ag,e1,beq_self_eq_true,vS]
theorem Zkz {turn:Int} (t0:0<=turn) (t1:turn < 3) (J3 J4 J5:Sl):Al (t3 fr [.un,.pen,.d (.int turn),J3,J4,J5]) 2300 λo=>∃ J2 J3 J4 J5:Sl,o=.next [.un,.pen,J2,J3,J4,J5]:=by
 have hs8:small 8=true:=cz (by decide)
 have fq:small 2=true:=cz (by decide)
 simp_arith [t3,ae,ah,ag,aS]
 refine dW (n:=2300) (n':=0) (Zhz t0 t1) (by decide) ?_
 rintro _ ⟨us,rfl,hul,hus⟩
 simp_arith [ae,ah,ag,aS]
 refine dW (n:=0) (n':=0) (P:=λo=>∃ J3 J4:Sl,o=.next [.un,.pen,.d (.int turn),J3,J4,J5]) ?_ (by decide) ?_
 ·refine u7 (n:=0) (λρ=>∃ J3 J4:Sl,ρ=[.un,.pen,.d (.int turn),J3,J4,J5]) ⟨_,_,rfl⟩ (by simp) ?_ ?_
  ·rintro x ρ hx ⟨K3,K4,rfl⟩
   obtain ⟨u,hu,rfl⟩:=wQ.mp hx
   refine ⟨_,rfl,?_⟩
   have e:=ZpJ (fr:=fr) (hus u hu) .un (.d (.int turn)) K4 J5
   exact Ze5 e ⟨_,rfl,_,_,rfl⟩
  ·rintro ρ ⟨K3,K4,rfl⟩
   exact ⟨_,_,rfl⟩
 rintro _ ⟨L3,L4,rfl⟩
 simp_arith [ae,ah,ag,aS,hs8,fq,hs1]
 refine u7 (n:=0) (λρ=>∃ J5:Sl,ρ=[.un,.pen,.d (.int turn),L3,L4,J5]) ⟨_,rfl⟩ (by simp) ?_ ?_
 ·rintro x ρ hx ⟨L5,rfl⟩
  have hS:fo x=false:=by
   simp only [vD,wa,or_false] at hx
   rcases hx with rfl | rfl | rfl | rfl | rfl | rfl | rfl | rfl <;> rfl
  refine ⟨_,rfl,?_⟩
  have e:=ZpI (fr:=fr) hS .un (.d (.int turn)) L3 L4
  exact Ze5 e ⟨_,rfl,_,rfl⟩
 ·rintro ρ ⟨L5,rfl⟩
  exact ⟨_,_,_,_,rfl⟩
theorem Zkv:Al (pP fr tX) 7000 λo=>o=.ret (.d (.bool true)):=by
 have r3:gR [.int 3]=.ret (bp 0 3):=kJ rfl
 simp_arith [pP,tX,ae,ah,ag,aS]
 refine dW (n:=30) (n':=6900) Zhy (by decide) ?_
 rintro _ rfl
 simp_arith [ae,ah,ag,aS,vS,r3]
 refine dW (n:=6900) (n':=0) (P:=λo=>∃ J2 J3 J4 J5:Sl,o=.next [.un,.pen,J2,J3,J4,J5]) ?_ (by decide) ?_
 ·refine u7 (n:=2300) (λρ=>∃ J2 J3 J4 J5:Sl,ρ=[.un,.pen,J2,J3,J4,J5]) ⟨_,_,_,_,rfl⟩ (by rw [cF]; decide) ?_ ?_
  ·rintro x ρ hx ⟨J2,J3,J4,J5,rfl⟩
   obtain ⟨z,rfl,z0,z1⟩:=ZhT hx
   refine ⟨_,rfl,u6 (Zkz z0 z1 _ _ _) (vF _) ?_⟩
   rintro _ ⟨K2,K3,K4,K5,rfl⟩
   exact ⟨_,rfl,_,_,_,_,rfl⟩
  ·rintro ρ ⟨J2,J3,J4,J5,rfl⟩
   exact ⟨_,_,_,_,rfl⟩
 ·rintro _ ⟨J2,J3,J4,J5,rfl⟩
  simp_arith [ae,ah,ag,aS]
  exact cj rfl
end
end My
open PySem.W L2
set_option maxRecDepth 100000 in
set_option maxHeartbeats 0 in
theorem PySem.Challenge.cw_twomarks_k52_tables_as_texts_holds : PySem.Challenge.rw_twomarks_k52_tables_as_texts.Holds := by
 refine My.hd ?_
 k_fill
 refine L2.ZfK (l:=PySem.Challenge.rw_twomarks_k52_tables_as_texts) (n:=63) (k:=9) (x:="_law_script") (CX:=ja) (sp:=L2.ZaX) rfl (by decide) rfl ⟨rfl,by decide,by decide,rfl⟩ (λw h Y=>PySem.W.kIn_of Y) ?F ?S ?C
 case F =>
  intro w mg fa h KX G hmg
  have d_is_whole:Def (L2.aF KX) mg "is_whole" My.oa ["thing"]:=by
   dsimp only [L2.aF]
   refine' L2.bq KX G ?a ?l ?c ?k ?b
   (case a=>k_is); (case l=>k_is); (case c=>k_is); (case k=>k_is)
   (case b=>intro _ _ _ _ _ _ us hl; obtain ⟨_,rfl⟩:=L2.cC hl; rfl)
  have d_common_divisor:Def (L2.aF KX) mg "common_divisor" My.om ["one","other"]:=by
   dsimp only [L2.aF]
   refine' L2.bq KX G ?a ?l ?c ?k ?b
   (case a=>k_is); (case l=>k_is); (case c=>k_is); (case k=>k_is)
   (case b=>intro _ _ _ _ _ _ us hl; obtain ⟨_,_,rfl⟩:=L2.fO hl; rfl)
  have d_is_share:Def (L2.aF KX) mg "is_share" My.og ["thing"]:=by
   dsimp only [L2.aF]
   refine' L2.bq KX G ?a ?l ?c ?k ?b
   (case a=>k_is); (case l=>k_is); (case c=>k_is); (case k=>k_is)
   (case b=>intro _ _ _ _ _ _ us hl; obtain ⟨_,rfl⟩:=L2.cC hl; rfl)
  have d_share:Def (L2.aF KX) mg "share" My.n5 ["top","bottom"]:=by
   dsimp only [L2.aF]
   refine' L2.bq KX G ?a ?l ?c ?k ?b
   (case a=>k_is); (case l=>k_is); (case c=>k_is); (case k=>k_is)
   (case b=>intro _ _ _ _ _ _ us hl; obtain ⟨_,_,rfl⟩:=L2.fO hl; rfl)
  have d_stocks:Def (L2.aF KX) mg "stocks" My.nX ["shop"]:=by
   dsimp only [L2.aF]
   refine' L2.bq KX G ?a ?l ?c ?k ?b
   (case a=>k_is); (case l=>k_is); (case c=>k_is); (case k=>k_is)
   (case b=>intro _ _ _ _ _ _ us hl; obtain ⟨_,rfl⟩:=L2.cC hl; rfl)
  have d_next_stock:Def (L2.aF KX) mg "next_stock" My.n9 ["shop","level","fall"]:=by
   dsimp only [L2.aF]
   refine' L2.bq KX G ?a ?l ?c ?k ?b
   (case a=>k_is); (case l=>k_is); (case c=>k_is); (case k=>k_is)
   (case b=>intro _ _ _ _ _ _ us hl; obtain ⟨_,_,_,rfl⟩:=L2.mH hl; rfl)
  have d_day_cost:Def (L2.aF KX) mg "day_cost" My.oj ["shop","level","fall"]:=by
   dsimp only [L2.aF]
   refine' L2.bq KX G ?a ?l ?c ?k ?b
   (case a=>k_is); (case l=>k_is); (case c=>k_is); (case k=>k_is)
   (case b=>intro _ _ _ _ _ _ us hl; obtain ⟨_,_,_,rfl⟩:=L2.mH hl; rfl)
  have d_end_cost:Def (L2.aF KX) mg "end_cost" My.oh ["shop","stock"]:=by
   dsimp only [L2.aF]
   refine' L2.bq KX G ?a ?l ?c ?k ?b
   (case a=>k_is); (case l=>k_is); (case c=>k_is); (case k=>k_is)
   (case b=>intro _ _ _ _ _ _ us hl; obtain ⟨_,_,rfl⟩:=L2.fO hl; rfl)
  have d_ask_text:Def (L2.aF KX) mg "ask_text" My.oq ["thing"]:=by
   dsimp only [L2.aF]
   refine' L2.bq KX G ?a ?l ?c ?k ?b
   (case a=>k_is); (case l=>k_is); (case c=>k_is); (case k=>k_is)
   (case b=>intro _ _ _ _ _ _ us hl; obtain ⟨_,rfl⟩:=L2.cC hl; rfl)
  have d_is_number:Def (L2.aF KX) mg "is_number" My.lO ["word"]:=by
   dsimp only [L2.aF]
   refine' L2.bq KX G ?a ?l ?c ?k ?b
   (case a=>k_is); (case l=>k_is); (case c=>k_is); (case k=>k_is)
   (case b=>intro _ _ _ _ _ _ us hl; obtain ⟨_,rfl⟩:=L2.cC hl; rfl)
  have d_read_number:Def (L2.aF KX) mg "read_number" My.n6 ["word"]:=by
   dsimp only [L2.aF]
   refine' L2.bq KX G ?a ?l ?c ?k ?b
   (case a=>k_is); (case l=>k_is); (case c=>k_is); (case k=>k_is)
   (case b=>intro _ _ _ _ _ _ us hl; obtain ⟨_,rfl⟩:=L2.cC hl; rfl)
  have d_read_share:Def (L2.aF KX) mg "read_share" My.kj ["text"]:=by
   dsimp only [L2.aF]
   refine' L2.bq KX G ?a ?l ?c ?k ?b
   (case a=>k_is); (case l=>k_is); (case c=>k_is); (case k=>k_is)
   (case b=>intro _ _ _ _ _ _ us hl; obtain ⟨_,rfl⟩:=L2.cC hl; rfl)
  have d_read_entry:Def (L2.aF KX) mg "read_entry" My.n8 ["word"]:=by
   dsimp only [L2.aF]
   refine' L2.bq KX G ?a ?l ?c ?k ?b
   (case a=>k_is); (case l=>k_is); (case c=>k_is); (case k=>k_is)
   (case b=>intro _ _ _ _ _ _ us hl; obtain ⟨_,rfl⟩:=L2.cC hl; rfl)
  have d_read_table:Def (L2.aF KX) mg "read_table" My.ki ["text"]:=by
   dsimp only [L2.aF]
   refine' L2.bq KX G ?a ?l ?c ?k ?b
   (case a=>k_is); (case l=>k_is); (case c=>k_is); (case k=>k_is)
   (case b=>intro _ _ _ _ _ _ us hl; obtain ⟨_,rfl⟩:=L2.cC hl; rfl)
  have d_end_costs:Def (L2.aF KX) mg "end_costs" My.lP ["shop"]:=by
   dsimp only [L2.aF]
   refine' L2.bq KX G ?a ?l ?c ?k ?b
   (case a=>k_is); (case l=>k_is); (case c=>k_is); (case k=>k_is)
   (case b=>intro _ _ _ _ _ _ us hl; obtain ⟨_,rfl⟩:=L2.cC hl; rfl)
  have d_weighed:Def (L2.aF KX) mg "weighed" My.nW ["shop","day","level","ahead","scale"]:=by
   dsimp only [L2.aF]
   refine' L2.bq KX G ?a ?l ?c ?k ?b
   (case a=>k_is); (case l=>k_is); (case c=>k_is); (case k=>k_is)
   (case b=>intro _ _ _ _ _ _ us hl; obtain ⟨_,_,_,_,_,rfl⟩:=L2.Zkn hl; rfl)
  have d_level_sums:Def (L2.aF KX) mg "level_sums" My.lM ["shop","day","ahead","scale"]:=by
   dsimp only [L2.aF]
   refine' L2.bq KX G ?a ?l ?c ?k ?b
   (case a=>k_is); (case l=>k_is); (case c=>k_is); (case k=>k_is)
   (case b=>intro _ _ _ _ _ _ us hl; obtain ⟨_,_,_,_,rfl⟩:=L2.tT hl; rfl)
  have d_cheapest_from:Def (L2.aF KX) mg "cheapest_from" My.on ["shop","low","by_level","scale"]:=by
   dsimp only [L2.aF]
   refine' L2.bq KX G ?a ?l ?c ?k ?b
   (case a=>k_is); (case l=>k_is); (case c=>k_is); (case k=>k_is)
   (case b=>intro _ _ _ _ _ _ us hl; obtain ⟨_,_,_,_,rfl⟩:=L2.tT hl; rfl)
  have d_cheapest:Def (L2.aF KX) mg "cheapest" My.oo ["shop","by_level","scale"]:=by
   dsimp only [L2.aF]
   refine' L2.bq KX G ?a ?l ?c ?k ?b
   (case a=>k_is); (case l=>k_is); (case c=>k_is); (case k=>k_is)
   (case b=>intro _ _ _ _ _ _ us hl; obtain ⟨_,_,_,rfl⟩:=L2.mH hl; rfl)
  have d_least:Def (L2.aF KX) mg "least" My.kl ["shop","falls"]:=by
   dsimp only [L2.aF]
   refine' L2.bq KX G ?a ?l ?c ?k ?b
   (case a=>k_is); (case l=>k_is); (case c=>k_is); (case k=>k_is)
   (case b=>intro _ _ _ _ _ _ us hl; obtain ⟨_,_,rfl⟩:=L2.fO hl; rfl)
  have d_show_number:Def (L2.aF KX) mg "show_number" My.nZ ["number"]:=by
   dsimp only [L2.aF]
   refine' L2.bq KX G ?a ?l ?c ?k ?b
   (case a=>k_is); (case l=>k_is); (case c=>k_is); (case k=>k_is)
   (case b=>intro _ _ _ _ _ _ us hl; obtain ⟨_,rfl⟩:=L2.cC hl; rfl)
  have d_show_share:Def (L2.aF KX) mg "show_share" My.nY ["one"]:=by
   dsimp only [L2.aF]
   refine' L2.bq KX G ?a ?l ?c ?k ?b
   (case a=>k_is); (case l=>k_is); (case c=>k_is); (case k=>k_is)
   (case b=>intro _ _ _ _ _ _ us hl; obtain ⟨_,rfl⟩:=L2.cC hl; rfl)
  have d_show_entry:Def (L2.aF KX) mg "show_entry" My.n0 ["entry"]:=by
   dsimp only [L2.aF]
   refine' L2.bq KX G ?a ?l ?c ?k ?b
   (case a=>k_is); (case l=>k_is); (case c=>k_is); (case k=>k_is)
   (case b=>intro _ _ _ _ _ _ us hl; obtain ⟨_,rfl⟩:=L2.cC hl; rfl)
  have d_show_table:Def (L2.aF KX) mg "show_table" My.lL ["table"]:=by
   dsimp only [L2.aF]
   refine' L2.bq KX G ?a ?l ?c ?k ?b
   (case a=>k_is); (case l=>k_is); (case c=>k_is); (case k=>k_is)
   (case b=>intro _ _ _ _ _ _ us hl; obtain ⟨_,rfl⟩:=L2.cC hl; rfl)
  have d__law_pen:Def (L2.aF KX) mg "_law_pen" My.ou ["_law_script"]:=by
   dsimp only [L2.aF]
   refine' L2.bq KX G ?a ?l ?c ?k ?b
   (case a=>k_is); (case l=>k_is); (case c=>k_is); (case k=>k_is)
   (case b=>intro _ _ _ _ _ _ us hl; obtain ⟨_,rfl⟩:=L2.cC hl; rfl)
  have d__law_draw:Def (L2.aF KX) mg "_law_draw" My.oA ["_law_pen_here","_law_most"]:=by
   dsimp only [L2.aF]
   refine' L2.bq KX G ?a ?l ?c ?k ?b
   (case a=>k_is); (case l=>k_is); (case c=>k_is); (case k=>k_is)
   (case b=>intro _ _ _ _ _ _ us hl; obtain ⟨_,_,rfl⟩:=L2.fO hl; rfl)
  have d__law_number:Def (L2.aF KX) mg "_law_number" My.ow ["_law_pen_here"]:=by
   dsimp only [L2.aF]
   refine' L2.bq KX G ?a ?l ?c ?k ?b
   (case a=>k_is); (case l=>k_is); (case c=>k_is); (case k=>k_is)
   (case b=>intro _ _ _ _ _ _ us hl; obtain ⟨_,rfl⟩:=L2.cC hl; rfl)
  have d__law_divisor:Def (L2.aF KX) mg "_law_divisor" My.oB ["_law_one","_law_other"]:=by
   dsimp only [L2.aF]
   refine' L2.bq KX G ?a ?l ?c ?k ?b
   (case a=>k_is); (case l=>k_is); (case c=>k_is); (case k=>k_is)
   (case b=>intro _ _ _ _ _ _ us hl; obtain ⟨_,_,rfl⟩:=L2.fO hl; rfl)
  have d__law_lowest:Def (L2.aF KX) mg "_law_lowest" My.ox ["_law_top","_law_bottom"]:=by
   dsimp only [L2.aF]
   refine' L2.bq KX G ?a ?l ?c ?k ?b
   (case a=>k_is); (case l=>k_is); (case c=>k_is); (case k=>k_is)
   (case b=>intro _ _ _ _ _ _ us hl; obtain ⟨_,_,rfl⟩:=L2.fO hl; rfl)
  have d__law_number_of:Def (L2.aF KX) mg "_law_number_of" My.lR ["_law_word"]:=by
   dsimp only [L2.aF]
   refine' L2.bq KX G ?a ?l ?c ?k ?b
   (case a=>k_is); (case l=>k_is); (case c=>k_is); (case k=>k_is)
   (case b=>intro _ _ _ _ _ _ us hl; obtain ⟨_,rfl⟩:=L2.cC hl; rfl)
  have d__law_heard:Def (L2.aF KX) mg "_law_heard" My.oy ["_law_read","_law_text"]:=by
   dsimp only [L2.aF]
   refine' L2.bq KX G ?a ?l ?c ?k ?b
   (case a=>k_is); (case l=>k_is); (case c=>k_is); (case k=>k_is)
   (case b=>intro _ _ _ _ _ _ us hl; obtain ⟨_,_,rfl⟩:=L2.fO hl; rfl)
  have d__law_right:Def (L2.aF KX) mg "_law_right" My.ot ["_law_read","_law_text","_law_due"]:=by
   dsimp only [L2.aF]
   refine' L2.bq KX G ?a ?l ?c ?k ?b
   (case a=>k_is); (case l=>k_is); (case c=>k_is); (case k=>k_is)
   (case b=>intro _ _ _ _ _ _ us hl; obtain ⟨_,_,_,rfl⟩:=L2.mH hl; rfl)
  have d__law_bent_text:Def (L2.aF KX) mg "_law_bent_text" My.oD ["_law_pen_here","_law_text"]:=by
   dsimp only [L2.aF]
   refine' L2.bq KX G ?a ?l ?c ?k ?b
   (case a=>k_is); (case l=>k_is); (case c=>k_is); (case k=>k_is)
   (case b=>intro _ _ _ _ _ _ us hl; obtain ⟨_,_,rfl⟩:=L2.fO hl; rfl)
  have d__law_entry_of:Def (L2.aF KX) mg "_law_entry_of" My.lS ["_law_word"]:=by
   dsimp only [L2.aF]
   refine' L2.bq KX G ?a ?l ?c ?k ?b
   (case a=>k_is); (case l=>k_is); (case c=>k_is); (case k=>k_is)
   (case b=>intro _ _ _ _ _ _ us hl; obtain ⟨_,rfl⟩:=L2.cC hl; rfl)
  have d__law_table_of:Def (L2.aF KX) mg "_law_table_of" My.lQ ["_law_text"]:=by
   dsimp only [L2.aF]
   refine' L2.bq KX G ?a ?l ?c ?k ?b
   (case a=>k_is); (case l=>k_is); (case c=>k_is); (case k=>k_is)
   (case b=>intro _ _ _ _ _ _ us hl; obtain ⟨_,rfl⟩:=L2.cC hl; rfl)
  have d__law_entry:Def (L2.aF KX) mg "_law_entry" My.oz ["_law_pen_here"]:=by
   dsimp only [L2.aF]
   refine' L2.bq KX G ?a ?l ?c ?k ?b
   (case a=>k_is); (case l=>k_is); (case c=>k_is); (case k=>k_is)
   (case b=>intro _ _ _ _ _ _ us hl; obtain ⟨_,rfl⟩:=L2.cC hl; rfl)
  have d__law_texts:Def (L2.aF KX) mg "_law_texts" My.km ["_law_pen_here","_law_turn"]:=by
   dsimp only [L2.aF]
   refine' L2.bq KX G ?a ?l ?c ?k ?b
   (case a=>k_is); (case l=>k_is); (case c=>k_is); (case k=>k_is)
   (case b=>intro _ _ _ _ _ _ us hl; obtain ⟨_,_,rfl⟩:=L2.fO hl; rfl)
  have d__law_told_right:Def (L2.aF KX) mg "_law_told_right" My.jn ["_law_pen_here"]:=by
   dsimp only [L2.aF]
   refine' L2.bq KX G ?a ?l ?c ?k ?b
   (case a=>k_is); (case l=>k_is); (case c=>k_is); (case k=>k_is)
   (case b=>intro _ _ _ _ _ _ us hl; obtain ⟨_,rfl⟩:=L2.cC hl; rfl)
  have d_law:Def (L2.aF KX) mg "law" My.lN ["_law_script"]:=by
   dsimp only [L2.aF]
   refine' L2.bq KX G ?a ?l ?c ?k ?b
   (case a=>k_is); (case l=>k_is); (case c=>k_is); (case k=>k_is)
   (case b=>intro _ _ _ _ _ _ us hl; obtain ⟨_,rfl⟩:=L2.cC hl; rfl)
  have x_err:∃ C D a0 a1 a2 a3 a4 a5 a6:Addr,mg "NoText"=some (.ref C)/\mg "ShopError"=some (.ref D)/\mg "NoBack"=some (.ref a0)/\mg "NoFall"=some (.ref a1)/\mg "NoLevel"=some (.ref a2)/\mg "NoMean"=some (.ref a3)/\mg "NoRow"=some (.ref a4)/\mg "NoShare"=some (.ref a5)/\mg "NoStand"=some (.ref a6)/\L2.Exc (L2.aF KX) C D [a0,a1,a2,a3,a4,a5,a6]:=by
   dsimp only [L2.aF]
   refine' My.Zpk KX G ?c ?d ?z0 ?z1 ?z2 ?z3 ?z4 ?z5 ?z6 ?q ?q2 ?u ?v ?y
   (case c=>k_is); (case d=>k_is); (case z0=>k_is); (case z1=>k_is); (case z2=>k_is); (case z3=>k_is); (case z4=>k_is); (case z5=>k_is); (case z6=>k_is)
   (case q=>kernel_rfl!); (case q2=>kernel_rfl!); (case u=>kernel_rfl!); (case v=>kit_is); (case y=>kit_is)
  have T:My.Txt (L2.aF KX) mg:=by
   dsimp only [L2.aF] at *
   refine' My.Zf6 KX G ?z_len ?z_abs ?z_max ?z_min ?z_repr ?z_int ?z_list ?z_tuple ?z_str ?z_bool ?z_range ?z_isinstance ?z_sum ?z_all ?z_enumerate ?z_ValueError ?z_reversed ?z_divmod ?z_TOP ?z_DEPTH ?z_START ?z_PIECE ?z_KEEP ?z_LACK ?z_LOST ?z_BACK ?z_LATE ?z_MOST_FIGURES ?z_PART_FIGURES ?z_FIGURES ?z_PART d_is_whole d_common_divisor d_is_share d_share d_stocks d_next_stock d_day_cost d_end_cost d_ask_text d_is_number d_read_number d_read_share d_read_entry d_read_table d_end_costs d_weighed d_level_sums d_cheapest_from d_cheapest d_least d_show_number d_show_share d_show_entry d_show_table d__law_pen d__law_draw d__law_number d__law_divisor d__law_lowest d__law_number_of d__law_heard d__law_right d__law_bent_text d__law_entry_of d__law_table_of d__law_entry d__law_texts d__law_told_right d_law x_err
   (case z_len=>k_is)
   (case z_abs=>k_is)
   (case z_max=>k_is)
   (case z_min=>k_is)
   (case z_repr=>k_is)
   (case z_int=>k_is)
   (case z_list=>k_is)
   (case z_tuple=>k_is)
   (case z_str=>k_is)
   (case z_bool=>k_is)
   (case z_range=>k_is)
   (case z_isinstance=>k_is)
   (case z_sum=>k_is)
   (case z_all=>k_is)
   (case z_enumerate=>k_is)
   (case z_ValueError=>k_is)
   (case z_reversed=>k_is)
   (case z_divmod=>k_is)
   (case z_TOP=>k_is)
   (case z_DEPTH=>k_is)
   (case z_START=>k_is)
   (case z_PIECE=>k_is)
   (case z_KEEP=>k_is)
   (case z_LACK=>k_is)
   (case z_LOST=>k_is)
   (case z_BACK=>k_is)
   (case z_LATE=>k_is)
   (case z_MOST_FIGURES=>k_is)
   (case z_PART_FIGURES=>k_is)
   (case z_FIGURES=>k_is)
   (case z_PART=>k_is)
  obtain ⟨f_read_table,fd_read_table,F_read_table,hm_read_table,_⟩:=T.uK.ex
  obtain ⟨f,fd,F,hm,_⟩:=T.Zqh.ex
  have e0:=hmg.symm.trans hm
  cases e0
  refine ⟨fd,?_,λbase _ _=>My.Zjt T hm_read_table F (L2.Tr.ok_mono (L2.Tr.all_ok (My.Zkv ).out (by decide)) λ_ _ h=>h.2)⟩
  obtain ⟨oc,od,kV,doc,pm,an,cdv,ct,osl,rfl,lk,hcd⟩:=F.ex
  exact λs u=>.of_eq rfl
 case S=>exact λK H a ns hl _ hS=>⟨a,ns,rfl,hS,hl,λ_=>rfl⟩
 case C=>exact λ_ _ _ _ z=>z
