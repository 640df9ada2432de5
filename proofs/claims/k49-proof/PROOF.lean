import PyProof.Rows.All
import Wide.All
import OpenK.AllK
import Wide.FinOn
import Lean
import PyProof.EqAt
import PyProof.EqKinds
import PyProof.TupleCall
import PySem.Challenge.RW_twomarks_k49_whole_two_stores
set_option Elab.async false
set_option linter.all false
set_option maxRecDepth 100000
set_option maxHeartbeats 0
noncomputable abbrev My.vw : PySem.Program := PySem.W.view
 PySem.Challenge.rw_twomarks_k49_whole_two_stores.row.prog [1,2,4,5,7,8,9,10,11,12,13,14,15,16,17,18,19,20,22,23,24,25,26,27,28,29,30,32,33,35,36,37,38,40,41,42,43,44,45,46,47,48,49,50,51,52,53,54,55,56,57,58,59,60,61]
open PySem PySem.W in
theorem My.hd_s {p:Program} {N:Nat} {α β:Type} {S:Shared->α×β} {G:α×β} (a:∀ w,(openEnds treeTable p w N).map (λs=>(S s).1)=some G.1) (b:∀ w,(openEnds treeTable p w N).map (λs=>(S s).2)=some G.2):∀ w,(openEnds treeTable p w N).map S=some G:=λw=>by
 have h:=a w
 have g:=b w
 cases e:openEnds treeTable p w N with
 | none=>rw [e] at h;exact nomatch h
 | some s=>rw [e,Option.map_some] at h g;rw [Option.map_some];exact congrArg some (Prod.ext (Option.some.inj h) (Option.some.inj g))
open PySem PySem.W in
theorem My.hd_l {p q:Program} {loose:List Str} {Xt:Shared->Bool} {α:Type} {Yf:Shared->α} {Ya:World->α} {N:Nat} (a:∀ w,(openEnds treeTable p w N).map (λs=>openSeen q loose (importedModules p.main.body) Xt true s)=some (openGood q loose)) (b:∀ w,(openEnds treeTable p w N).map Yf=some (Ya w)):LeftO p q loose Xt Yf Ya N:=λw=>by
 have h:=a w;have g:=b w;cases e:openEnds treeTable p w N with
 |none=>rw [e] at h;exact nomatch h
 |some s=>rw [e,Option.map_some] at h g;rw [Option.map_some,Option.some.inj h,Option.some.inj g]
theorem My.hd_b {A B C H:Prop} (f:A->B->C->H) (p:A∧B∧C):H:=f p.1 p.2.1 p.2.2
local macro_rules
 | `(tactic| o_head $H:term)=>`(tactic| (
  refine My.hd_b (λa b c=>PySem.W.holds_open (q:=My.vw) (loose:=[])
   (Xt:=λs=>PySem.W.xlAt My.vw [] s && PySem.W.recOk
    (PySem.W.RowW.records PySem.Challenge.rw_twomarks_k49_whole_two_stores.row.toRowW) s)
   (XP:=PySem.W.XL My.vw []) (Yf:=($H).obs)
   (Ya:=($H).val) (YP:=($H).says) (N:=20000) (My.hd_l a b)
   ($H).of ($H).keeps (λs e=>PySem.W.xl_of s
    (Bool.and_eq_true_iff.mp e).1) PySem.W.XL.keeps
   (by rfl) (by rfl) (by rfl)
   (λs e=>PySem.W.recFacts_of
    (Bool.and_eq_true_iff.mp e).2)
   (by rfl) ?k1 (by decide +kernel)
   ⟨rfl,rfl,rfl,rfl,rfl,by decide +kernel⟩ ?hw c) ?hc
  (case k1=>assumption)))
open_top My.hd_0 for PySem.Challenge.rw_twomarks_k49_whole_two_stores
noncomputable def My.hd_n:=λx0 x1 x2 x3 b c=>My.hd_0 ⟨(My.hd_s x0 (My.hd_s x1 (My.hd_s x2 x3))),b,c⟩
noncomputable def My.hd_n0:=λx1 x2 x3 b c=>My.hd_n (λw=>by kernel_rfl) x1 x2 x3 b c
noncomputable def My.hd_n1:=λx2 x3 b c=>My.hd_n0 (λw=>by kernel_rfl) x2 x3 b c
noncomputable def My.hd_n2:=λx3 b c=>My.hd_n1 (λw=>by kernel_rfl) x3 b c
noncomputable def My.hd_n3:=λb c=>My.hd_n2 (λw=>by kernel_rfl) b c
noncomputable def My.hd_1:=My.hd_n3
noncomputable def My.hd:=λc=>My.hd_1 (λw=>by kernel_rfl) c
set_option maxHeartbeats 4000000
open PySem PySem.Spec PyProof.Rows
def v9:=@List.length_map
def Aa:=@PySem.Heap.get?_push_of_some
def Ab:=@List.mem_cons_of_mem
def Ac:=@List.length_cons
def Ad:=@List.getElem?_eq_some_iff
def Ae:=@List.mem_append_right
def Af:=@List.map_cons
def Ag:=@Nat.le_refl
def Ah:=@List.getElem?_eq_getElem
def Ai:=@PySem.Heap.get?_push_size
def Aj:=@List.mem_cons_self
def Ak:=@List.getElem?_map
def Am:=@List.size_toArray
def An:=@PySem.Heap.lt_size
def Ao:=@Nat.lt_of_lt_of_le
def Ap:=@Nat.le_trans
def Aq:=@List.length_append
def Ar:=@List.getElem?_set_ne
def As:=@Bool.false_ne_true
def At:=@List.getElem?_append_left
def Au:=@List.mem_cons
def Av:=@List.map_map
def Aw:=@Nat.ne_of_lt
def Ax:=@List.drop_eq_getElem_cons
def Ay:=@List.getElem?_set_self
def Az:=@List.getElem?_append_right
def AA:=@Option.some.inj
def AB:=@List.replicate_succ
def AC:=@Int.le_refl
def AD:=@List.mem_of_getElem?
def AE:=@List.length_set
def AF:=@Nat.lt_irrefl
def AG:=@List.getElem?_replicate
def AH:=@List.getElem?_cons_succ
def AI:=@List.append_nil
def AJ:=@List.lookup_cons
def AK:=@List.length_nil
def AL:=@Bool.and_eq_true
def AM:=@List.mem_map
def AN:=@Option.map_eq_some_iff
def AO:=@Int.toNat_natCast
def AQ:=@List.length_reverse
def AR:=@List.mem_append_left
def AS:=@List.drop_length
def AT:=@PySem.mem_of_lookup
def AU:=@List.sum_cons
def AV:=@List.zip_cons_cons
def AW:=@PySem.Heap.get?_update_other
def AX:=@PySem.Around.under_plainId
def AY:=@PySem.PassesOwn.never
def AZ:=@Nat.ne_of_gt
def A0:=@Nat.zero_le
def A1:=@PySem.Heap.size_push
def A2:=@List.append_assoc
def A3:=@List.getElem?_range
def A4:=@Int.mul_comm
def A5:=@List.isEmpty_cons
def A6:=@Int.mul_add
def A7:=@Int.mul_left_comm
def A8:=@PySem.F.plainAttrs_list
def A9:=@PyProof.Rows.callWith_type1
def Ba:=@Nat.le_of_not_lt
def Bb:=@List.not_mem_nil
def Bc:=@List.cons_append
def Be:=@List.map_congr_left
def Bf:=@List.flatten_cons
def Bg:=@List.nodup_cons
def Bh:=@Nat.pos_of_ne_zero
def Bi:=@List.length_drop
def Bj:=@PySem.Heap.get?_update_self
def Bk:=@Bool.and_eq_true_iff
def Bl:=@Int.eq_ofNat_of_zero_le
def Bm:=@PySem.Obj.data_mapFields
def Bn:=@Nat.mul_le_mul
def Bo:=@List.map_nil
def Bp:=@List.drop_zero
def Bq:=@List.length_range
def Br:=@List.nil_append
def Bs:=@List.mem_append
def Bt:=@List.foldl_cons
def Bu:=@List.find?_cons
def Bv:=@List.mem_singleton
def Bw:=@List.getElem?_reverse
def Bx:=@List.getElem?_eq_none
def By:=@PySem.Heap.SameBut.update
def Bz:=@Bool.false_eq_true
def BA:=@Int.natAbs_mul
def BB:=@PySem.F.plain_min_loop
def BC:=@PyProof.Rows.slot_tuple_getitem
def BD:=@List.reverse_cons
def BE:=@List.map_append
def BF:=@List.getElem?_cons_zero
def BG:=@Array.length_toList
def BH:=@List.getElem_mem
def BI:=@Int.mul_le_mul_of_nonneg_left
def BJ:=@List.mem_range
def BL:=@Nat.lt_of_le_of_lt
def BM:=@Nat.succ_mul
def BN:=@Int.mul_zero
def BO:=@PySem.F.slot_dict_keyiterator_iter
def BP:=@Array.getElem?_eq_some_iff
def BQ:=@List.replicate_zero
def BR:=@Int.mul_pos
def BS:=@Nat.le_of_lt
def BU:=@Int.le_of_lt
def BV:=@Int.add_comm
def BW:=@PySem.F.slot_tuple_iterator_next
def BX:=@List.of_mem_zip
def BY:=@List.mem_filterMap
def BZ:=@Int.mul_assoc
def B0:=@Int.emod_lt_of_pos
def B1:=@PySem.PyData.hasDict_of_canLay
def B2:=@Nat.lt_of_succ_lt_succ
def B3:=@Nat.sub_self
def B4:=@List.length_replicate
def B5:=@Int.sub_zero
def B6:=@Option.getD_some
def B7:=@List.all_eq_true
def B8:=@PySem.SeqAt.canLay_of_shaped
def B9:=@List.mem_of_mem_drop
def Ca:=@PySem.Obj.isFreed_of_fields
def Cb:=@List.take_succ_cons
def Cc:=@List.map_eq_nil_iff
def Cd:=@Int.emod_nonneg
def Ce:=@Bool.eq_iff_iff
def Cf:=@PySem.F.type_list_reverse
def Cg:=@PySem.F.slot_list_reverse
def Ch:=@List.getElem?_zip_eq_some
def Ci:=@Int.mul_nonneg
def Cj:=@PySem.F.type_list_append
def Ck:=@PySem.F.slot_list_append
def Cm:=@PySem.F.args_tuple_add_2
def Cn:=@Nat.lt_succ_of_lt
def Co:=@List.ext_getElem?
def Cp:=@Bool.not_eq_true'
def Cq:=@PySem.F.entry_tuple_add
def Cr:=@List.any_cons
def Cs:=@Nat.lt_succ_self
def Ct:=@List.take_length
def Cu:=@List.length_take
def Cv:=@PySem.W.cellsFrom_some
def Cw:=@PySem.F.slot_tuple_add
def Cy:=@List.sum_replicate_nat
def Cz:=@Nat.succ.inj
def CA:=@Nat.gcd_comm
def CB:=@List.forIn_cons
def CC:=@PySem.F.plain_list_iadd
def CD:=@Nat.pow_le_pow_right
def CF:=@List.length_pos_iff
def CG:=@List.length_flatMap
def CH:=@List.flatMap_append
def CI:=@List.filterMap_cons
def CJ:=@PySem.F.slot_zip_next
def CK:=@Bool.not_true
def CL:=@Array.append_assoc
def CM:=@Nat.le_of_succ_le
def CN:=@Nat.Coprime.dvd_of_dvd_mul_left
def CO:=@List.take_add_one
def CP:=@List.pairwise_map
def CQ:=@List.foldl_append
def CS:=@List.flatMap_cons
def CT:=@PySem.F.args_object_init_2
def CU:=@Int.mul_le_mul_of_nonneg_right
def CV:=@Nat.min_le_right
def CW:=@List.range'_succ
def CY:=@List.map_const'
def CZ:=@Int.mul_one
def C0:=@Int.fmod_eq_emod_of_nonneg
def C1:=@Int.eq_of_mul_eq_mul_right
def C2:=@Array.getElem?_eq_none_iff
def C3:=@PySem.Obj.cls_mapFields
def C4:=@List.mem_or_eq_of_mem_set
def C5:=@List.getElem?_eq_none_iff
def C6:=@List.forIn_nil
def C7:=@Bool.false_and
def C8:=@Lean.Omega.Int.ofNat_min
def C9:=@Int.mul_fdiv_cancel_left
def Da:=@PySem.F.args_dict_keyiterator_iter_1
def Db:=@PySem.W.mg_of
def Dc:=@PySem.F.args_tuple_lt_2
def Dd:=@Option.bind_eq_some_iff
def De:=@List.length_eq_zero_iff
def Df:=@PySem.F.entry_min_loop
def Dg:=@PySem.F.entry_dict_keyiterator_iter
abbrev Dh:=PySem.W.Frag
abbrev Dq:=PyData->PyData->Option PyData
abbrev Ds:=Value->Shared->Prop
abbrev Dt:=List PyData
abbrev Du:=List Int
abbrev Dv:=List Value
abbrev Dw:=List Str
abbrev Dy:=Str->Option Value
local macro_rules | `(tactic| trivial) => `(tactic| first | decide +kernel | exact ⟨rfl,rfl,rfl,by decide +kernel,rfl,by decide +kernel,by decide +kernel⟩ | exact ⟨rfl,by decide +kernel,by decide +kernel,by decide +kernel,by decide +kernel⟩ | fail "x")
def wp:=@PySem.wpAny_bind
def DB:=@PySem.wpAny_pure
def DC:=@of_decide_eq_true
def DD:=@if_pos
def DE:=@decide_eq_true
def DF:=@if_neg
def DG:=@decide_eq_false
def DH:=@PySem.wpAny_newObj_type
def DI:=@congrArg
def DJ:=@PySem.wpAny_mono
def DK:=@PySem.wpAny_holding
def DL:=@PySem.wpAny_call_entry
def DM:=@PySem.wpAny_field
def DN:=@PySem.wpAny_callSpecial?_slot
def DO:=@PySem.wpAny_of_eq
def DP:=@PySem.wpAny_seqItems
def DQ:=@decide_eq_true_eq
def DR:=@PySem.wpAny_standAt
def DS:=@PySem.codeAny_builtin
def DT:=@PyProof.Rows.boot_tuple
def DU:=@PySem.wpAny_comprehension_free
def DV:=@PySem.sizeLine_eq
def DW:=@PySem.plainId_quiet
def DX:=@PySem.wpAny_loadPart'
def DY:=@PySem.wpAny_setField_rec
def DZ:=@PySem.wpAny_passesOwn
def D3:=@PySem.builtinLookup_eq_fast
def D4:=@beq_eq_false_iff_ne
def D5:=@PySem.wpAny_setField
def D6:=@if_false
def D7:=@PySem.wpAny_specialOf
def D8:=@if_true
def D9:=@PySem.wpAny_rule
def Ea:=@PySem.wpAny_pyIter_list
def Eb:=@PySem.call_meets
def Ec:=@PySem.isSubtype_type
def Ed:=@PySem.codeAny_mono
def Ee:=@or_false
def Ef:=@PySem.wpAny_attempt
def Eg:=@PySem.wpAny_letGo
def Eh:=@PySem.wpAny_ite_split
def Ei:=@PySem.typeLookup_type
def Ej:=@PySem.codeAny_of_tree
def Ek:=@PyProof.Rows.boot_repr
def El:=@PySem.wpAny_typeOf
def Em:=@PySem.wpAny_Call_Name_kw
def En:=@PySem.wpAny_tryCatch
def Eo:=@PySem.wpAny_truthy_bool
def Ep:=@PySem.wpAny_pyIter_slot
def Er:=@PySem.wpAny_onRaise
def Es:=@PySem.wpAny_list_append_plain
def Et:=@PySem.wpAny_isInstance
def Eu:=@PySem.wpAny_pyNext_list_item
def Ev:=@PySem.wpAny_pyIter_rangeiter
def Ew:=@PySem.codeAny_compStart_list
def Ex:=@PySem.wpAny_pyNext_list_end
def Ey:=@PySem.wpAny_execs_nil
def Ez:=@PySem.codeAny_loop
def EA:=@PySem.wpAny_Name
def EB:=@PySem.boot_len
def EC:=@PySem.wpAny_updateSeq_pair
def ED:=@PySem.wpAny_loadName_local
def EE:=@PyProof.Rows.boot_sum
def EF:=@PySem.wpAny_noted
def EG:=@PySem.wpAny_loadName_cell
def EH:=@PySem.wpAny_pyIter_tuple
def EI:=@PySem.rangeSize_one
def EJ:=@and_congr_right
def EK:=@PySem.wpAny_assign_Name
def EL:=@PySem.typeIs_int
def EM:=@PySem.wpAny_execs_cons
def EN:=@PySem.noFill_tuple_add
def EO:=@forall_congr'
abbrev EQ:=@List
abbrev ER:=@Option
abbrev ES:=PySem.PyData
abbrev ET:=PySem.Value
abbrev EU:=PySem.Shared
abbrev EV:=PySem.Addr
abbrev EW:=PySem.Program
abbrev EX:=PySem.World
abbrev EY:=PySem.Around
abbrev EZ:=PySem.Heap
abbrev E1:=PySem.Expr
abbrev E3:=PySem.Stmt
noncomputable section
variable{k m kk ep wd t' kb:Nat}{x qual name q:PySem.Str}{α β K:Type}{b a lo y c hi:Int}{b1 b2:Bool}{F':Int->Int->Int}{A:Int->Int}
namespace L2
abbrev aH:=Sum Int Str
noncomputable def kZ:aH->ET->Bool
 |.inl k,v=>Value.isInt k v
 |.inr x,v=>Value.isStrOf x v
def Zkc(w:EX):aH->Int
 |.inl k=>hashInt k
 |.inr x=>hashStr w x
def gO:∀{k:aH}{v:ET},kZ k v=true->(∃i t,k=Sum.inl i/\v=Value.int i t)\/(∃x t,k=Sum.inr x/\v=Value.str x t)
 |.inl i,v,h=>by obtain⟨t,e⟩:=Value.isInt_shape (k:=i) (v:=v) h;exact .inl ⟨i,t,rfl,e⟩
 |.inr x,v,h=>by obtain⟨t,e⟩:=Value.isStrOf_shape (x:=x) (v:=v) h;exact .inr ⟨x,t,rfl,e⟩
def Zkb(i:Int)(t:Tok):kZ (.inl i) (.int i t)=true:=by simp[kZ,Value.isInt]
def Zka(x:Str)(t:Tok):kZ (.inr x) (.str x t)=true:=by simp[kZ,Value.isStrOf]
def Zj9(a b:Int):decide ((Sum.inl a:aH)=Sum.inl b)=(a==b):=by
 by_cases e:a=b
 ·subst e;simp
 ·have h:¬ (Sum.inl a:aH)=Sum.inl b:=λq=>e<|Sum.inl.inj q;rw[DG h];exact(D4.mpr e).symm
def Zj6(a b:Str):decide ((Sum.inr a:aH)=Sum.inr b)=decide (a=b):=by
 by_cases e:a=b
 ·subst e;simp
 ·have h:¬ (Sum.inr a:aH)=Sum.inr b:=λq=>e<|Sum.inr.inj q;rw[DG h,DG e]
def Zj8(a:Int)(b:Str):decide ((Sum.inl a:aH)=Sum.inr b)=false:=DG<|λq=>nomatch q
def Zj7(a:Str)(b:Int):decide ((Sum.inr a:aH)=Sum.inl b)=false:=DG<|λq=>nomatch q
def bH(prog:EW)(w:EX):PySem.KeyKind prog w aH where
 is:=kZ
 hash:=Zkc w
 inj:=λv a b ha hb=>by
  rcases gO ha with ⟨i,t,rfl,rfl⟩|⟨x,t,rfl,rfl⟩
  ·rcases gO hb with ⟨j,u,rfl,e⟩|⟨y,u,rfl,e⟩
   ·injection e with e1 _;rw[e1]
   ·exact nomatch e
  ·rcases gO hb with ⟨j,u,rfl,e⟩|⟨y,u,rfl,e⟩
   ·exact nomatch e
   ·injection e with e1 _;rw[e1]
 byValue:=λk v h=>by rcases gO h with ⟨i,t,rfl,rfl⟩|⟨x,t,rfl,rfl⟩ <;> rfl
 pyHash:=λhv h=>by
  rcases gO hv with ⟨i,t,rfl,rfl⟩|⟨x,t,rfl,rfl⟩
  ·exact wpAny_pyHash_int h
  ·exact wpAny_pyHash_str h
 eqBool:=λhu hv h=>by
  rcases gO hu with ⟨i,t,rfl,rfl⟩|⟨x,t,rfl,rfl⟩
  ·rcases gO hv with ⟨j,u,rfl,rfl⟩|⟨y,u,rfl,rfl⟩
   ·rw[Zj9]at h;exact wpAny_eqBool_int h
   ·rw[Zj8]at h;exact SeqAt.EqAt.int_str i t y u _ _ _ _ h
  ·rcases gO hv with ⟨j,u,rfl,rfl⟩|⟨y,u,rfl,rfl⟩
   ·rw[Zj7]at h;exact SeqAt.EqAt.str_int x t j u _ _ _ _ h
   ·rw[Zj6]at h;exact wpAny_eqBool_str h
 «strs»:=λk x t v h=>by
  rcases gO h with ⟨i,u,rfl,e⟩|⟨y,u,rfl,e⟩
  ·exact nomatch e
  ·injection e with e1 _;subst e1;cases v <;> rfl
def Zjx(prog:EW)(w:EX)(i:Int)(t:Tok):(bH prog w).is (.inl i) (.int i t)=true:=Zkb i t
def Zjw(prog:EW)(w:EX)(x:Str)(t:Tok):(bH prog w).is (.inr x) (.str x t)=true:=Zka x t
inductive V where
 |non|bl (b:Bool)|int (i:Int)|str (x:Str)|byt (b:Array UInt8)|flt (b:UInt64)|ref (a:EV)|ty (n:String)
 deriving DecidableEq
abbrev Dx:=EQ V
def RelV:V->ET->Prop
 |.non,u=>u=Value.none
 |.bl b,u=>u=Value.bool b
 |.int i,u=>∃t,u=Value.int i t
 |.str x,u=>∃t,u=Value.str x t
 |.byt b,u=>∃t,u=Value.bytes b t
 |.flt b,u=>∃t,u=Value.float b t
 |.ref a,u=>u=Value.ref a
 |.ty n,u=>u=Value.type n
abbrev Vals:EQ V->EQ ET->Prop:=Paired RelV
theorem Vals.length{xs:Dx}{us:Dv}(r:Vals xs us):xs.length=us.length:=Paired.length r
def Vals.get{xs:Dx}{us:Dv}{i:Nat}{x:V}(h:Vals xs us)(e:xs[i]?=some x):∃u,us[i]?=some u/\RelV x u:=by
 induction h generalizing i with
 |nil=>cases e
 |cons r t ih=>cases i with|zero=>cases e;exact⟨_,rfl,r⟩|succ i=>exact ih (i:=i) e
theorem Vals.set{x:V}{u:ET}(r:RelV x u){xs:Dx}{us:Dv}(i:Nat)(h:Vals xs us):Vals (xs.set i x) (us.set i u):=by
 induction h generalizing i with
 |nil=>exact .nil
 |cons q t ih=>cases i with|zero=>exact .cons r t|succ i=>exact .cons q<|ih i
def Vals.append{xs ys:Dx}{us ws:Dv}(h:Vals xs us)(s:Vals ys ws):Vals (xs++ys) (us++ws):=by
 induction h with
 |nil=>exact s
 |cons r t ih=>exact .cons r ih
theorem Vals.take{xs:Dx}{us:Dv}(n:Nat)(h:Vals xs us):Vals (xs.take n) (us.take n):=by
 induction h generalizing n with
 |nil=>rw[List.take_nil,List.take_nil];exact .nil
 |cons r t ih=>cases n with|zero=>exact .nil|succ n=>exact .cons r<|ih n
theorem Vals.drop{xs:Dx}{us:Dv}(n:Nat)(h:Vals xs us):Vals (xs.drop n) (us.drop n):=by
 induction h generalizing n with
 |nil=>rw[List.drop_nil,List.drop_nil];exact .nil
 |cons r t ih=>cases n with|zero=>exact .cons r t|succ n=>exact ih n
def Vals.none_of:∀{xs:Dx}{us:Dv}{i:Nat},Vals xs us->xs[i]?=none->us[i]?=none:=λ{xs us i} r e=>by have h1:=r.length;have h2:xs.length<=i:=C5.mp e;exact C5.mpr<|by omega
def RelO:ER V->ER ET->Prop
 |some v,some u=>RelV v u
 |none,none=>True
 |_,_=>False
def KV{κ:Type}:EQ (κ×V)->EQ (κ×ET)->Prop:=Paired λ(p:κ×V) (q:κ×ET)=>p.1=q.1/\RelV p.2 q.2
noncomputable def kV:aH->V
 |.inl i=>.int i
 |.inr x=>.str x
inductive HO where
 /-- a list -/
 |lst (xs:Dx)
 /-- a tuple (never changes) -/
 |tup (xs:Dx)
 /-- a dict whose keys are ints and texts;one whose keys are tuples of ints and texts (the empty one is both) -/
 |dK (kvs:List (aH×V))|dT (kvs:List (List aH×V))
 /-- a set of ints: E5 members,E5 size -/
 |set (S:Int->Bool) (n:Nat)
 /-- an instance of the class at C,E5 dict at dx,E5 attributes -/
 |ins (C dx:EV) (fs:List (Str×V))
 /-- the dict of the instance at x -/
 |own (x:EV)
 /-- the dict of an exception -/
 |xd (fs:List (Str×V))
 /-- a bound method,f of x -/
 |met (f x:EV)
 /-- a range object lo,lo+1,.. below hi -/
 |rng (lo hi:Int)
 /-- a thing that is known to the object (the script;a dict while a loop walks it): read,never written while it is so -/
 |frz (o:Obj) (u:HO)
 /-- a code object's table -/
 |tbl (ps:Array ET)
 /-- any other thing,by what is true of E5 one object (a def of one's own: SetO a S n:=HO.ext λh=>..) -/
 |ext (φ:EZ->Prop)
 |cod (ps:Array ET)
abbrev Hp:=EV->ER HO
noncomputable def upd(H:Hp)(a:EV)(o:HO):Hp:=λb=>if b=a then some o else H b
def bv{H:Hp}{a:EV}{o:HO}:upd H a o a=some o:=by unfold upd;rw[DD rfl]
def aA{H:Hp}{a b:EV}{o:HO}(h:b≠a):upd H a o b=H b:=by unfold upd;rw[DF h]
def Zgb{H:Hp}{a:EV}{o u:HO}:upd (upd H a o) a u=upd H a u:=by funext b;unfold upd;split <;> rfl
def cg{H:Hp}{a b:EV}{o:HO}(h:H a=some o)(h':H b=none):a≠b:=by intro e;subst e;rw[h]at h';cases h'
section
variable(P:EW)(w:EX)
def ObjOk(H:Hp)(h:EZ)(a:EV):HO->Prop
 |.lst xs=>xs.length<=sizeLine/\∃(E5:Dv)(n:Nat),Vals xs E5/\h.get? a=some {cls:=.type "list",data:=.seq E5.toArray n}
 |.tup xs=>xs.length<=sizeLine/\∃E5:Dv,Vals xs E5/\IsTup h a E5.toArray
 |.dK kvs=>kvs.length<=sizeLine/\(a==sysModules)=false/\∃vs,KV kvs vs/\h.DictOf (bH P w) a vs
 | .dT kvs=>kvs.length<=sizeLine/\(a==sysModules)=false/\∃xs:EQ (EQ aH×EV×ET),
   Paired (λ(p:EQ aH×V) (q:EQ aH×EV×ET)=>p.1=q.1/\H q.2.1=some (.tup<|p.1.map kV)/\RelV p.2 q.2.2) kvs xs /\
   ∃o es ep,h.get? a=some o/\o.ExactDict/\o.data=.dict es ep/\es.toList=xs.map (entryOfKey<|tupleKind<|bH P w)/\(xs.map (·.1)).Nodup
 |.set S n=>h.SetOf (intKind P w) a S n
 | .ins C dx fs=>H dx=some (.own a)/\fs.length<=1000/\dx≠a/\h.get? a=some (PySem.W.instObj C dx) /\
   ∃mA,h.Ns1 dx mA/\(∀f,RelO (fs.lookup f)<|mA f)/\PySem.Within mA (fs.map (·.1))
 |.own _=>∃o,h.get? a=some o
 |.xd fs=>∃mA,h.Ns1 a mA/\∀f,RelO (fs.lookup f) (mA f)
 |.rng lo hi=>∃t u v,h.get? a=some {cls:=.type "range",data:=.fields #[.int lo t,.int hi u,.int 1 v]}
 |.frz o u=>h.get? a=some o/\ObjOk H h a u
 |.tbl ps=>h.get? a=some {cls:=.none,data:=.fields ps}
 |.met f x=>h.get? a=some (PySem.W.methodObj (.ref f)<|.ref x)
 |.ext φ=>φ h/\(∃o,h.get? a=some o)/\∀h1 h2:EZ,φ h1->(∀o,h1.get? a=some o->h2.get? a=some o)->φ h2
 |.cod ps=>∃more:Array ET,h.get? a=some {cls:=.none,data:=.fields (ps++more)}/\PySem.TriplesOk (ps++more).toList/\∀(po:Pos)(v:ET),codeAmong po (ps++more).toList=some v->∃(c:EV)(ob:Obj)(vs:Array ET)(q:Str)(t:Tok),v=.ref c/\H c=some (.frz ob<|.own 0)/\ob.data=.fields vs/\vs[1]?=some (.str q t)
def HOk(H:Hp)(h:EZ):Prop:=∀a o,H a=some o->ObjOk P w H h a o
end
section
variable{P:EW}{w:EX}{H H':Hp}{h h':EZ}{a:EV}{o:HO}
theorem ObjOk.lt(x:ObjOk P w H h a o):a<h.objs.size:=by
 cases o with
 |lst xs=>obtain⟨_,_,_,_,e⟩:=x;exact An e
 |tup xs=>obtain⟨_,_,_,p⟩:=x;exact p.lt
 |dK kvs=>obtain⟨_,_,_,_,o,_,_,e,_⟩:=x;exact An e
 |dT kvs=>obtain⟨_,_,_,_,o,_,_,e,_⟩:=x;exact An e
 |set S n=>obtain⟨o,_,_,_,e,_⟩:=x;exact An e
 |ins C dx fs=>obtain⟨_,_,_,e,_⟩:=x;exact An e
 |own y=>obtain⟨_,e⟩:=x;exact An e
 |xd fs=>obtain⟨_,⟨_,_,_,e,_⟩,_⟩:=x;exact An e
 |rng lo hi=>obtain⟨_,_,_,e⟩:=x;exact An e
 |frz ob u=>obtain⟨e,_⟩:=x;exact An e
 |tbl ps=>exact An (show h.get? a=some _ from x)
 |met f y=>exact An (show h.get? a=some _ from x)
 |ext φ=>obtain⟨_,⟨_,e⟩,_⟩:=x;exact An e
 |cod ps=>obtain⟨_,e,_⟩:=x;exact An e
def Paired.mapP{F G:α->β->Prop}{l₁:EQ α}{l₂:EQ β}(h:Paired F l₁ l₂)(f:∀a b,F a b->G a b):Paired G l₁ l₂:=by
 induction h with
 |nil=>exact .nil
 |cons r t ih=>exact .cons (f _ _ r) ih
def ObjOk.stay(x:ObjOk P w H h a o)(k:∀b u,(b=a\/H b=some (.own a))->h.get? b=some u->h'.get? b=some u)
  (ho:∀b,H b=some (.own a)->H' b=some (.own a)) (ht:∀b xs,H b=some (.tup xs)->H' b=some (.tup xs)) (hf:∀b ob u vs,H b=some (.frz ob u)->ob.data=.fields vs->H' b=some (.frz ob u)):ObjOk P w H' h' a o:=by
 induction o with
 |lst xs=>obtain⟨z,E5,n,r,e⟩:=x;exact⟨z,E5,n,r,k _ _ (.inl rfl) e⟩
 |tup xs=>obtain⟨z,E5,r,ob,e,c⟩:=x;exact⟨z,E5,r,ob,k _ _ (.inl rfl) e,c⟩
 |dK kvs=>obtain⟨z,y,vs,r,ob,es,ep,e,c⟩:=x;exact⟨z,y,vs,r,ob,es,ep,k _ _ (.inl rfl) e,c⟩
 | dT kvs =>
  obtain⟨z,y,xs,r,ob,es,ep,e,c⟩:=x;exact⟨z,y,xs,Paired.mapP r λp q z=>⟨z.1,ht _ _ z.2.1,z.2.2⟩,ob,es,ep,k _ _ (.inl rfl) e,c⟩
 |set S n=>obtain⟨ob,es,ep,t,e,c⟩:=x;exact⟨ob,es,ep,t,k _ _ (.inl rfl) e,c⟩
 | ins C dx fs =>
  obtain⟨d,z,ne,e,mA,⟨od,es,ep,e2,c⟩,r⟩:=x;exact⟨ho _ d,z,ne,k _ _ (.inl rfl) e,mA,⟨od,es,ep,k _ _ (.inr d) e2,c⟩,r⟩
 |own y=>obtain⟨ob,e⟩:=x;exact⟨ob,k _ _ (.inl rfl) e⟩
 |xd fs=>obtain⟨mA,⟨od,es,ep,e,c⟩,r⟩:=x;exact⟨mA,⟨od,es,ep,k _ _ (.inl rfl) e,c⟩,r⟩
 |rng lo hi=>obtain⟨t,u,v,e⟩:=x;exact⟨t,u,v,k _ _ (.inl rfl) e⟩
 |frz ob u ih=>obtain⟨e,q⟩:=x;exact⟨k _ _ (.inl rfl) e,ih q⟩
 | tbl ps =>
  have e:h.get? a=some {cls:=.none,data:=.fields ps}:=x;show h'.get? a=some {cls:=.none,data:=.fields ps};exact k a _ (.inl rfl) e
 | met f y =>
  have e:h.get? a=some (PySem.W.methodObj (.ref f)<|.ref y):=x;show h'.get? a=some (PySem.W.methodObj (.ref f)<|.ref y);exact k a _ (.inl rfl) e
 |ext φ=>obtain⟨p,⟨o,e⟩,st⟩:=x;exact⟨st _ _ p λo q=>k _ _ (.inl rfl) q,⟨o,k _ _ (.inl rfl) e⟩,st⟩
 | cod ps =>
  obtain⟨more,e,tr,al⟩:=x;refine⟨more,k _ _ (.inl rfl) e,tr,λpo v hv=>?_⟩;obtain⟨c,ob,vs,q,t,r1,r2,r3⟩:=al po v hv;exact⟨c,ob,vs,q,t,r1,hf _ _ _ _ r2 r3.1,r3⟩
theorem HOk.lt(x:HOk P w H h)(e:H a=some o):a<h.objs.size:=(x a o e).lt
def HOk.fresh(x:HOk P w H h)(e:h.objs.size<=a):H a=none:=by
 cases q:H a with
 |none=>rfl
 |some u=>exact absurd (Ao (x.lt q) e)<|AF _
def HOk.kept(x:HOk P w H h)(k:∀b u,h.get? b=some u->h'.get? b=some u):HOk P w H h':=λa o e =>
 (x a o e).stay (λb u _ q=>k b u q) (λ_ q=>q) (λ_ _ q=>q) λ_ _ _ _ q _=>q
def HOk.laid(x:HOk P w H h)(k:∀b u,h.get? b=some u->h'.get? b=some u)(hp:h.objs.size<=a)(new:ObjOk P w (upd H a o) h' a o):HOk P w (upd H a o) h':=λb u e=>by
 have hn:=x.fresh hp;by_cases hb:b=a
 ·subst hb;rw[bv]at e;cases e;exact new
 ·rw[aA hb]at e;exact(x b u e).stay (λc v _ q=>k c v q) (λc q=>by rw[aA<|cg q hn];exact q) (λc xs q=>by rw[aA<|cg q hn];exact q) λc ob xs _ q _=>by rw[aA<|cg q hn];exact q
end
def Rd(H:Hp)(a:EV)(u:HO):Prop:=H a=some u\/∃o,H a=some (.frz o u)
def Rd.ok{P:EW}{w:EX}{H:Hp}{h:EZ}{a:EV}{u:HO}(r:Rd H a u)(x:HOk P w H h):ObjOk P w H h a u:=by
 rcases r with r|⟨o,r⟩
 ·exact x a u r
 ·obtain⟨_,q⟩:=x a _ r;exact q
def vK:ER HO->Prop
 |some (.lst _)=>True
 |some (.dK _)=>True
 |some (.dT _)=>True
 |some (.set _ _)=>True
 |some (.ins _ _ _)=>True
 |some (.ext _)=>True
 |_=>False
section
variable{P:EW}{w:EX}{H:Hp}{h h':EZ}{x e:EV}{o':HO}
def HOk.write(ok:HOk P w H h)(mu:vK (H x))(he:e=x\/H e=some (.own x))(k:∀b u,b≠e->h.get? b=some u->h'.get? b=some u)(heo:∃u,h'.get? e=some u)
  (new:ObjOk P w (upd H x o') h' x o'):HOk P w (upd H x o') h':=λb u q=>by
 have nown:∀c y,H c=some (.own y)->c≠x:=λc y r z=>by subst z;rw[r]at mu;exact mu
 have ntup:∀c xs,H c=some (.tup xs)->c≠x:=λc xs r z=>by subst z;rw[r]at mu;exact mu
 have nfrz:∀c ob u,H c=some (.frz ob u)->c≠x:=λc ob u r z=>by subst z;rw[r]at mu;exact mu
 by_cases hb:b=x
 ·subst hb;rw[bv]at q;cases q;exact new
 ·rw[aA hb]at q;by_cases hbe:b=e
  ·have q':H b=some (.own x):=by
    rcases he with z|z
    ·exact absurd (hbe.trans z) hb
    ·rw[hbe];exact z
   rw[q]at q';cases q';obtain⟨v,hv⟩:=heo;exact⟨v,by rw[hbe];exact hv⟩
  ·refine(ok b u q).stay (λc v hc r=>k c v ?_ r) (λc r=>by rw[aA<|nown c b r];exact r) (λc xs r=>by rw[aA<|ntup c xs r];exact r) λc ob xs _ r _=>by rw[aA<|nfrz c ob xs r];exact r
   rcases hc with rfl|hc
   ·exact hbe
   ·rintro rfl;rcases he with z|z
    ·exact nown c b hc z
    ·rw[hc]at z;cases z;exact hb rfl
end
structure Un(fs ex:List EV)(H H':Hp)(h h':EZ):Prop where
 keep:∀b o,h.get? b=some o->H b=none->b∉fs->b∉ex->h'.get? b=some o
 slot:∀b o,h.get? b=some o->H b=none->b∈fs->b∉ex->∃sl,h'.get? b=some {o with slots:=sl}
 free:∀b o,h.get? b=some o->H b=none->b∉ex->H' b=none
 there:∀b o,h.get? b=some o->b∉ex->∃o',h'.get? b=some o'
 tups:∀b xs,H b=some (.tup xs)->H' b=some (.tup xs)
 frzs:∀b o u,H b=some (.frz o u)->H' b=some (.frz o u)
 tbls:∀b ps,H b=some (.tbl ps)->∃more,H' b=some (.tbl<|ps++more)
section
variable{fs fs' ex ex':EQ EV}{H H1 H2:Hp}{h h1 h2 h':EZ}{a x e:EV}{o:HO}
def Un.any(u:Un fs ex H H1 h h1){b:EV}{ob:Obj}(q:h.get? b=some ob)(n:H b=none)(hx:b∉ex):∃sl,h1.get? b=some {ob with slots:=sl}:=by
 by_cases hb:b∈fs
 ·exact u.slot b ob q n hb hx
 ·exact⟨ob.slots,u.keep b ob q n hb hx⟩
def Un.kept(k:∀b u,h.get? b=some u->h'.get? b=some u):Un fs ex H H h h' :=
 ⟨λb ob q _ _ _=>k b ob q,λb ob q _ _ _=>⟨ob.slots,k b ob q⟩,λ_ _ _ n _=>n,λb ob q _=>⟨ob,k b ob q⟩,λ_ _ q=>q,λ_ _ _ q=>q,λ_ ps q=>⟨#[],by rw[q];simp⟩⟩
def Un.refl:Un fs ex H H h h:=Un.kept λ_ _ q=>q
def Un.laid(k:∀b u,h.get? b=some u->h'.get? b=some u)(hp:h.objs.size<=a)(hn:H a=none):Un fs ex H (upd H a o) h h' where
 keep:=λb u q _ _ _=>k b u q
 slot:=λb u q _ _ _=>⟨u.slots,k b u q⟩
 free:=λb u q n _=>by rw[aA<|Aw<|Ao (An q) hp];exact n
 there:=λb u q _=>⟨u,k b u q⟩
 tups:=λb xs q=>by rw[aA<|cg q hn];exact q
 frzs:=λb u xs q=>by rw[aA<|cg q hn];exact q
 tbls:=λb ps q=>⟨#[],by rw[aA<|cg q hn,q];simp⟩
def Un.write(mu:vK (H x))(he:e=x\/H e=some (.own x))(k:∀b u,b≠e->h.get? b=some u->h'.get? b=some u)(heo:∃u,h'.get? e=some u):Un fs ex H (upd H x o) h h':=by
 have hx:∀b,H b=none->b≠x:=λb n z=>by subst z;rw[n]at mu;exact mu
 have hb:∀b,H b=none->b≠e:=λb n z=>by
  subst z;rcases he with r|r
  ·exact hx b n r
  ·rw[n]at r;cases r
 have hm:∀b u,H b=some u->¬ vK (some u)->b≠x:=λb u q nm z=>by subst z;rw[q]at mu;exact nm mu
 refine⟨λb u q n _ _=>k b u (hb b n) q,λb u q n _ _=>⟨u.slots,k b u (hb b n) q⟩,λb u q n _=>by rw[aA<|hx b n];exact n,λb u q _=>?_,
  λb xs q=>by rw[aA<|hm b _ q λz=>z];exact q,λb u xs q=>by rw[aA<|hm b _ q λz=>z];exact q,λb ps q=>⟨#[],by rw[aA<|hm b _ q λz=>z,q];simp⟩⟩
 by_cases hbe:b=e
 ·subst hbe;exact heo
 ·exact⟨u,k b u hbe q⟩
end
noncomputable def trk(h:EZ)(H:Hp):EQ EV:=(List.range h.objs.size).filter λa=>(H a).isSome
def gu(h:EZ)(H:Hp):EZ:=PySem.W.hideAll h<|trk h H
def Zku(h:EZ)(H:Hp):(gu h H).objs.size=h.objs.size:=PySem.W.hideAll_size _ _
def Zkv{h:EZ}{H:Hp}{b:EV}{o:Obj}(e:h.get? b=some o)(n:H b=none):(gu h H).get? b=some o :=
 PySem.W.hideAll_get _ e λhm=>by have q:(H b).isSome=true:=(List.mem_filter.mp hm).2;rw[n]at q;simp at q
def Zjg{h:EZ}{H:Hp}{b:EV}{o:Obj}(e:(gu h H).get? b=some o):h.get? b=some o/\H b=none:=by
 have e':h.get? b=some o:=PySem.W.of_hideAll (trk h H) e;refine⟨e',?_⟩;cases q:H b with
 |none=>rfl
 | some x =>
  have hm:b∈trk h H:=List.mem_filter.mpr ⟨BJ.mpr<|An e',by simp[q]⟩
  have z:(gu h H).get? b=none:=PySem.W.hideAll_none (trk h H) hm;rw[z]at e;cases e
noncomputable def ZnP(g h:EZ)(L:EV):EQ (EV×Obj):=(List.range h.objs.size).filterMap λa=>if a=L\/(g.get? a).isSome=true then none else (h.get? a).map λo=>(a,o)
def rest(g h:EZ)(L d:EV):EQ (EV×Obj):=(ZnP g h L).filter λp=>decide (p.1≠d)
structure Mod(K:Dh)(mg:Dy)(base:EZ):Prop where
 kin:K.In base
 glob:base.Ns mainGlobals mg
 blt:∃mb,base.Ns builtinsNs mb/\∀x:Str,x≠"__name__"->mb x=bootBuiltins x
 nolimit:base.NoLimit
 nodig:base.NoDigits
structure Cx where
 prog:EW
 w:EX
 K:Dh
 mg:Dy
 base:EZ
 A:EY
 N:Dw
 s₀:EU
 H₀:Hp
 env:Env
 outer:List Env
 stack:List Env
 ex:List EV
 fn:Str->Bool
 calm:Bool
 pn:List (EV×Obj)
 xe:Ds
noncomputable def frs(l:EQ Env):EQ EV:=l.filterMap (·.frame)
abbrev Cx.fs(X:Cx):EQ EV:=frs X.outer
def gZ(sc:Scope)(x:Str):Prop:=sc.names.lookup x=some .local\/sc.names.lookup x=some .cell\/sc.names.lookup x=some .free
def gC(sc:Scope)(x:Str):Prop:=sc.names.lookup x=some .local\/sc.names.lookup x=some .cell
def ZoA(env:Env)(h:EZ)(m:Dy)(x:Str)(u:ET):Prop :=
 (env.kindOf x=some .local/\m x=some u)\/((env.kindOf x=some .cell\/env.kindOf x=some .free)/\∃c,env.cells.lookup x=some c/\h.IsCell c (some u))
structure Cx.Ok(X:Cx):Prop where
 mod:Mod X.K X.mg X.base
 kind:X.env.scope.kind=.function
 glob:X.env.globals=mainGlobals
 blt:X.env.builtins=builtinsNs
 above:X.s₀.heap.objs.size<=X.env.locals
 inj:∀x y c,X.env.cells.lookup x=some c->X.env.cells.lookup y=some c->x=y
 has:∀x,(X.env.kindOf x=some .cell\/X.env.kindOf x=some .free)->∃c,X.env.cells.lookup x=some c
 cab:∀x c,X.fn x=true->X.env.cells.lookup x=some c->X.s₀.heap.objs.size<=c
 hd:X.calm=true->X.A.handled=none
 frames:X.A.frames=some X.stack
 stk:X.stack=X.outer\/(X.stack=X.env::X.outer/\X.env.frame=some X.env.locals)
 exf:∀b∈X.ex,b≠X.env.locals/\∀x c,X.env.cells.lookup x=some c->c≠b
 bs:∀b o,X.base.get? b=some o->X.s₀.heap.get? b=some o/\X.H₀ b=none
 bsz:X.base.objs.size<=X.s₀.heap.objs.size
 noex:∀b o,X.base.get? b=some o->b∉X.ex
 exfs:∀b∈X.ex,b∉X.fs
 funs:X.s₀.heap.FunFrames X.base X.outer
 frf:∀b∈X.fs,X.H₀ b=none
structure Inv(X:Cx)(pins:List (EV×Obj))(σ:List (Option V))(H:Hp)(s:EU):Prop where
 ok:X.Ok
 os:s.os=X.s₀.os
 bare:AllBare s.gens
 base:Un X.fs X.ex X.H₀ H X.s₀.heap s.heap
 loc:∃m,s.heap.Ns X.env.locals m/\∀(i:Nat)(x:Str)(v:V),X.N[i]?=some x->σ[i]?=some (some v)->gZ X.env.scope x->∃u,RelV v u/\ZoA X.env s.heap m x u
 cell:∀x c,X.env.cells.lookup x=some c->∃v,s.heap.IsCell c v
 free:H X.env.locals=none
 freeC:∀x c,X.env.cells.lookup x=some c->H c=none
 pin:∀p∈X.pn++pins,s.heap.get? p.1=some p.2/\H p.1=none/\p.1≠X.env.locals/\p.1∉X.fs/\∀v,p.2.data≠.cell v
 hok:HOk X.prog X.w H s.heap
 len:σ.length=X.N.length
section
variable{X:Cx}{pins:EQ (EV×Obj)}{σ:EQ (ER V)}{H H':Hp}{s:EU}{h':EZ}
def Cx.Ok.nofr(ok:X.Ok){b:EV}{o:Obj}(e:X.base.get? b=some o):b∉X.fs:=λhb=>by have:=(ok.funs.mem hb).1;rw[e]at this;cases this
theorem Inv.bs(I:Inv X pins σ H s):∀b o,X.base.get? b=some o->s.heap.get? b=some o/\H b=none:=λb o e =>
 ⟨I.base.keep b o (I.ok.bs b o e).1 (I.ok.bs b o e).2 (I.ok.nofr e) (I.ok.noex b o e),I.base.free b o (I.ok.bs b o e).1 (I.ok.bs b o e).2 (I.ok.noex b o e)⟩
def Inv.bk(I:Inv X pins σ H s):∀b o,X.base.get? b=some o->s.heap.get? b=some o:=λb o e=>(I.bs b o e).1
theorem Inv.mod(I:Inv X pins σ H s):Mod X.K X.mg X.base:=I.ok.mod
def Inv.kIn(I:Inv X pins σ H s):X.K.In s.heap:=I.ok.mod.kin.keeps I.bk
theorem Inv.lt(I:Inv X pins σ H s):X.env.locals<s.heap.objs.size:=let ⟨_,hn,_⟩:=I.loc;hn.lt
def Inv.sz(I:Inv X pins σ H s):X.s₀.heap.objs.size<=s.heap.objs.size:=Ap I.ok.above<|BS I.lt
def Inv.nofs(I:Inv X pins σ H s){a:EV}(h:s.heap.objs.size<=a):a∉X.fs:=λhb=>by obtain⟨_,o,ho,_⟩:=I.ok.funs.mem hb;exact absurd (Ao (An ho)<|Ap I.sz h)<|AF _
def Inv.cne(I:Inv X pins σ H s):∀x c,X.env.cells.lookup x=some c->c≠X.env.locals:=λx c e z=>by obtain⟨v,o,ho,hd⟩:=I.cell x c e;obtain⟨m,⟨o',es,ep,Fu,Fa,_⟩,_⟩:=I.loc;rw[z,Fu]at ho;cases ho;rw[Fa]at hd;cases hd
theorem Inv.funs(I:Inv X pins σ H s):s.heap.FunFrames X.base X.outer:=by
 have all:∀(l:EQ Env),(∀b∈frs l,b∈X.fs)->X.s₀.heap.FunFrames X.base l->s.heap.FunFrames X.base l:=by
  intro l
  induction l with
  |nil=>intro _ _;trivial
  | cons env r ih =>
   intro hs hl;obtain⟨hk,⟨L,o,hf,hn,ho,hd⟩,hr⟩:=hl;have hL:L∈X.fs:=hs L<|by unfold frs;rw[CI,hf];exact Aj
   obtain⟨sl,e⟩:=I.base.slot L o ho (I.ok.frf L hL) hL λz=>I.ok.exfs L z hL;exact⟨hk,⟨L,_,hf,hn,e,hd⟩,ih (λb hb=>hs b<|by unfold frs;rw[CI,hf];exact Ab _ hb) hr⟩
 exact all X.outer (λ_ hb=>hb) I.ok.funs
theorem Inv.stack(I:Inv X pins σ H s):s.heap.FunFrames X.base X.stack:=by
 rcases I.ok.stk with e|⟨e,hf⟩
 ·rw[e];exact I.funs
 ·rw[e];obtain⟨m,hn,_⟩:=I.loc;refine .cons (by rw[I.ok.kind];decide) hf hn ?_ I.funs
  exact Heap.get?_none_of_le<|Ap I.ok.bsz I.ok.above
def Inv.stkSub(I:Inv X pins σ H s):∀b∈frs X.stack,b∈X.env.locals::X.fs:=λb hb=>by
 rcases I.ok.stk with e|⟨e,hf⟩
 ·rw[e]at hb;exact Ab _ hb
 ·rw[e]at hb;unfold frs at hb;rw[CI,hf]at hb;exact hb
def Inv.stkFree(I:Inv X pins σ H s):∀b∈frs X.stack,H b=none:=λb hb=>by
 rcases Au.mp (I.stkSub b hb)with e|hb
 ·rw[e];exact I.free
 ·obtain⟨_,o,ho,_⟩:=I.ok.funs.mem hb;exact I.base.free b o ho (I.ok.frf b hb) λz=>I.ok.exfs b z hb
def Inv.step{g':Array GenState}{d':Drawn}{ch:EQ EV}(I:Inv X pins σ H s)
  (hch:∀b∈ch,(b∈X.ex\/X.s₀.heap.objs.size<=b)/\b≠X.env.locals/\(∀x c,X.env.cells.lookup x=some c->c≠b)/\∀p∈X.pn++pins,p.1≠b)
  (keep:∀b o,b≠X.env.locals->b∉X.fs->b∉ch->s.heap.get? b=some o->H b=none->h'.get? b=some o)
  (slot:∀b o,b≠X.env.locals->b∈X.fs->b∉ch->s.heap.get? b=some o->H b=none->∃sl,h'.get? b=some {o with slots:=sl}) (free:∀b o,b∉ch->s.heap.get? b=some o->H b=none->H' b=none)
  (there:∀b o,b∉ch->s.heap.get? b=some o->∃o',h'.get? b=some o')
  (tups:∀b xs,H b=some (.tup xs)->H' b=some (.tup xs)) (frzs:∀b o u,H b=some (.frz o u)->H' b=some (.frz o u)) (tbls:∀b ps,H b=some (.tbl ps)->∃more,H' b=some (.tbl<|ps++more))
  (ns:∀m,s.heap.Ns X.env.locals m->h'.Ns X.env.locals m) (hok:HOk X.prog X.w H' h') (hg:AllBare g') :
  Inv X pins σ H' {s with heap:=h',gens:=g',drawn:=d',toks:=t'}:=by
 have neL:∀b o,X.s₀.heap.get? b=some o->b≠X.env.locals:=λb o e=>Aw<|Ao (An e) I.ok.above;have neC:∀b o,X.s₀.heap.get? b=some o->b∉X.ex->b∉ch:=λb o e hx hb=>by
  rcases(hch b hb).1 with z|z
  ·exact hx z
  ·exact absurd (Ao (An e) z)<|AF _
 have cellK:∀x c,X.env.cells.lookup x=some c->∀v,s.heap.IsCell c v->h'.IsCell c v:=λx c e v E4=>by
  obtain⟨o,ho,hd⟩:=E4;have nch:c∉ch:=λz=>(hch c z).2.2.1 x c e rfl;by_cases hc:c∈X.fs
  ·obtain⟨sl,q⟩:=slot c o (I.cne x c e) hc nch ho<|I.freeC x c e;exact⟨_,q,hd⟩
  ·exact⟨o,keep c o (I.cne x c e) hc nch ho<|I.freeC x c e,hd⟩
 refine⟨I.ok,I.os,hg,⟨λb o e n hb hx=>?_,λb o e n hb hx=>?_,λb o e n hx=>?_,λb o e hx=>?_,λb xs e=>tups b xs<|I.base.tups b xs e,λb o xs e=>frzs b o xs<|I.base.frzs b o xs e,λb ps e=>?_⟩,?_,λx c e=>?_,?_,λx c e=>?_,λp hp=>?_,hok,I.len⟩
 ·exact keep b o (neL b o e) hb (neC b o e hx) (I.base.keep b o e n hb hx)<|I.base.free b o e n hx
 ·obtain⟨sl,e1⟩:=I.base.slot b o e n hb hx;obtain⟨sl',e2⟩:=slot b _ (neL b o e) hb (neC b o e hx) e1<|I.base.free b o e n hx;exact⟨sl',e2⟩
 ·obtain⟨o',e1⟩:=I.base.there b o e hx;exact free b o' (neC b o e hx) e1<|I.base.free b o e n hx
 ·obtain⟨o',e1⟩:=I.base.there b o e hx;exact there b o' (neC b o e hx) e1
 ·obtain⟨m1,e1⟩:=I.base.tbls b ps e;obtain⟨m2,e2⟩:=tbls b _ e1;exact⟨m1++m2,by rw[e2,CL]⟩
 ·obtain⟨m,hn,hl⟩:=I.loc;refine⟨m,ns m hn,λi x v e1 e2 e3=>?_⟩;obtain⟨u,r,l⟩:=hl i x v e1 e2 e3;refine⟨u,r,?_⟩;rcases l with l|⟨k,c,e,z⟩
  ·exact .inl l
  ·exact .inr ⟨k,c,e,cellK x c e _ z⟩
 ·obtain⟨v,z⟩:=I.cell x c e;exact⟨v,cellK x c e v z⟩
 ·obtain⟨m,⟨o,_,_,ho,_⟩,_⟩:=I.loc;exact free _ o (λz=>(hch _ z).2.1 rfl) ho I.free
 ·obtain⟨v,o,ho,hd⟩:=I.cell x c e;exact free c o (λz=>(hch c z).2.2.1 x c e rfl) ho<|I.freeC x c e
 ·obtain⟨e,n,ne,nf,d⟩:=I.pin p hp;have nch:p.1∉ch:=λz=>(hch p.1 z).2.2.2 p hp rfl;exact⟨keep p.1 p.2 ne nf nch e n,free p.1 p.2 nch e n,ne,nf,d⟩
def Inv.un(I:Inv X pins σ H s)(u:Un X.fs [] H H' s.heap h')(hok:HOk X.prog X.w H' h'):Inv X pins σ H' {s with heap:=h',toks:=t'}:=by
 obtain⟨m,⟨o,es,ep,ho,r⟩,_⟩:=id I.loc;obtain⟨sl,hL⟩:=u.any ho I.free<|by simp
 exact I.step (g':=s.gens) (d':=s.drawn) (ch:=[]) (λ_ z=>nomatch z) (λb o _ hb _ e n=>u.keep b o e n hb<|by simp) (λb o _ hb _ e n=>u.slot b o e n hb<|by simp) (λb o _ e n=>u.free b o e n<|by simp) (λb o _ e=>u.there b o e<|by simp) u.tups u.frzs u.tbls (λm' hm=>by obtain⟨o',es',ep',Fu,r'⟩:=hm;rw[ho]at Fu;cases Fu;exact⟨_,es',ep',hL,r'⟩) hok I.bare
def Inv.call{g':Array GenState}{d':Drawn}{ch:EQ EV}(I:Inv X pins σ H s)(u:Un (frs X.stack) ch H H' s.heap h')(hok:HOk X.prog X.w H' h')(hg:AllBare g')
  (hch:∀b∈ch,(b∈X.ex\/X.s₀.heap.objs.size<=b)/\b≠X.env.locals/\(∀x c,X.env.cells.lookup x=some c->c≠b)/\∀p∈X.pn++pins,p.1≠b) :
  Inv X pins σ H' {s with heap:=h',gens:=g',drawn:=d',toks:=t'}:=by
 obtain⟨m,⟨o,es,ep,ho,r⟩,_⟩:=id I.loc;obtain⟨sl,hL⟩:=u.any ho I.free λz=>(hch _ z).2.1 rfl;exact I.step (ch:=ch) hch (λb o hL hb hc e n=>u.keep b o e n (λz=>(Au.mp<|I.stkSub b z).elim hL hb) hc) (λb o _ _ hc e n=>u.any e n hc) (λb o hc e n=>u.free b o e n hc) (λb o hc e=>u.there b o e hc) u.tups u.frzs u.tbls (λm' hm=>by obtain⟨o',es',ep',Fu,r'⟩:=hm;rw[ho]at Fu;cases Fu;exact⟨_,es',ep',hL,r'⟩) hok hg
def Inv.turned{it:EV}(I:Inv X pins σ H s)(k:∀b o,b≠it->s.heap.get? b=some o->h'.get? b=some o)(hn:H it=none)(hL:it≠X.env.locals)
  (h1:it∈X.ex\/X.s₀.heap.objs.size<=it) (h2:∀x c,X.env.cells.lookup x=some c->c≠it) (h3:∀p∈X.pn++pins,p.1≠it):Inv X pins σ H {s with heap:=h',toks:=t'}:=by
 have nit:∀b u,H b=some u->b≠it:=λb u e z=>by rw[z,hn]at e;cases e
 refine I.step (g':=s.gens) (d':=s.drawn) (ch:=[it]) (λb hb=>?_) (λb o _ _ hc e _=>k b o (λz=>hc<|by simp[z]) e) (λb o _ _ hc e _=>⟨o.slots,k b o (λz=>hc<|by simp[z]) e⟩) (λ_ _ _ _ n=>n)
  (λb o hc e=>⟨o,k b o (λz=>hc<|by simp[z]) e⟩) (λ_ _ e=>e) (λ_ _ _ e=>e) (λb ps e=>⟨#[],by rw[e];simp⟩) (λm hm=>?_) (λb u e=>?_) I.bare
 ·have e:b=it:=by simpa using hb
  subst e;exact⟨h1,hL,h2,h3⟩
 ·obtain⟨o,es,ep,ho,r⟩:=hm;exact⟨o,es,ep,k _ o (Ne.symm hL) ho,r⟩
 ·refine(I.hok b u e).stay (λc v hc q=>k c v ?_ q) (λ_ q=>q) (λ_ _ q=>q) λ_ _ _ _ q _=>q;rcases hc with z|z
  ·rw[z];exact nit b u e
  ·exact nit c _ z
def Inv.tok(I:Inv X pins σ H s)(t:Nat):Inv X pins σ H {s with toks:=t}:=I.un (h':=s.heap) (t':=t) Un.refl I.hok
theorem Inv.kept{t':Nat}(I:Inv X pins σ H s)(k:∀b u,s.heap.get? b=some u->h'.get? b=some u):Inv X pins σ H {s with heap:=h',toks:=t'}:=I.un (Un.kept k)<|I.hok.kept k
theorem Inv.laid{a:EV}{o:HO}{t':Nat}(I:Inv X pins σ H s)(k:∀b u,s.heap.get? b=some u->h'.get? b=some u)(hp:s.heap.objs.size<=a)(new:ObjOk X.prog X.w (upd H a o) h' a o) :
  Inv X pins σ (upd H a o) {s with heap:=h',toks:=t'}:=I.un (Un.laid k hp<|I.hok.fresh hp)<|I.hok.laid k hp new
theorem Inv.write{x e:EV}{o:HO}{t':Nat}(I:Inv X pins σ H s)(mu:vK (H x))(he:e=x\/H e=some (.own x))(k:∀b u,b≠e->s.heap.get? b=some u->h'.get? b=some u)(heo:∃u,h'.get? e=some u)
  (new:ObjOk X.prog X.w (upd H x o) h' x o):Inv X pins σ (upd H x o) {s with heap:=h',toks:=t'}:=I.un (Un.write mu he k heo)<|I.hok.write mu he k heo new
def Inv.pins_of{pins':EQ (EV×Obj)}(I:Inv X pins σ H s)(h:∀p∈pins',s.heap.get? p.1=some p.2/\H p.1=none/\p.1≠X.env.locals/\p.1∉X.fs/\∀v,p.2.data≠.cell v):Inv X pins' σ H s :=
 ⟨I.ok,I.os,I.bare,I.base,I.loc,I.cell,I.free,I.freeC,λp hp=>(Bs.mp hp).elim (λz=>I.pin p<|AR _ z)<|h p,I.hok,I.len⟩
def ZcO{N:Dw}(hN:N.Nodup){i j:Nat}(a:N[i]?=some x)(b:N[j]?=some x):i=j:=by obtain⟨h1,e1⟩:=Ad.mp a;obtain⟨h2,e2⟩:=Ad.mp b;exact(List.getElem_inj hN).mp<|e1.trans e2.symm
noncomputable def wf{M:Model}{A:EY}{E:Ds}{i:Nat}{v:V}{u:ET}{Q:Unit->EU->Prop}(I:Inv X pins σ H s)(hN:X.N.Nodup)(hi:X.N[i]?=some x)(hx:gC X.env.scope x)(r:RelV v u)
  (h:∀s',Inv X pins (σ.set i<|some v) H s'->(∃a,Heap.SameBut a s.heap s'.heap/\(a=X.env.locals\/X.env.cells.lookup x=some a))->Q () s') (hf:X.fn x=true\/X.env.scope.names.lookup x=some .local:=by first|exact .inl rfl|exact .inr rfl|assumption):wpAny M A (storeName X.env x u) Q E s:=by
 obtain⟨m,hn,hl⟩:=id I.loc;have hcls:(X.env.scope.kind == .class || (X.env.scope.kind == .module&&X.env.locals != X.env.globals))=false:=by rw[I.ok.kind];rfl
 have hiσ:i<σ.length:=by rw[I.len];exact(Ad.mp hi).1
 have cne:=I.cne;have tracked:∀{a:EV}{h':EZ},(∃o,s.heap.get? a=some o/\H a=none)->Heap.SameBut a s.heap h'->HOk X.prog X.w H h':=λ{a h'} ha hs b ob e=>by
  obtain⟨_,_,Fi⟩:=ha;refine(I.hok b ob e).stay (λc w' hc q=>(hs.2 c ?_).trans q) (λ_ q=>q) (λ_ _ q=>q) λ_ _ _ _ q _=>q;rintro rfl;rcases hc with rfl|hc
  ·rw[Fi]at e;cases e
  ·rw[Fi]at hc;cases hc
 rcases hx with hk|hk
 ·refine wpAny_storeName_local hk hn (λh' hn' hs=>?_) hcls;obtain⟨oL,_,_,hoL,_⟩:=id hn;refine h _ ⟨I.ok,I.os,I.bare,⟨λb o e n hb hx=>?_,λb o e n hb hx=>?_,I.base.free,λb o e hx=>?_,I.base.tups,I.base.frzs,I.base.tbls⟩,⟨_,hn',λj y v' e1 e2 e3=>?_⟩,λy c e=>?_,I.free,I.freeC,λp hp=>?_,tracked ⟨oL,hoL,I.free⟩ hs,by simpa using I.len⟩ ⟨_,hs,.inl rfl⟩
  ·exact(hs.2 b<|Aw<|Ao (An e) I.ok.above).trans<|I.base.keep b o e n hb hx
  ·obtain⟨sl,e1⟩:=I.base.slot b o e n hb hx;exact⟨sl,(hs.2 b<|Aw<|Ao (An e) I.ok.above).trans e1⟩
  ·obtain⟨o',e1⟩:=I.base.there b o e hx;exact⟨o',(hs.2 b<|Aw<|Ao (An e) I.ok.above).trans e1⟩
  ·by_cases hj:j=i
   ·subst hj;rw[hi]at e1;cases e1;rw[Ay hiσ]at e2;cases e2;exact⟨u,r,.inl ⟨hk,by simp⟩⟩
   ·rw[Ar<|Ne.symm hj]at e2;obtain⟨u',r',q⟩:=hl j y v' e1 e2 e3;refine⟨u',r',?_⟩;rcases q with ⟨k,e⟩|⟨k,c,e,z⟩
    ·refine .inl ⟨k,?_⟩;have:y≠x:=λe=>hj<|ZcO hN e1<|e ▸ hi;simp[this,e]
    ·exact .inr ⟨k,c,e,z.sameBut hs<|cne y c e⟩
  ·obtain⟨w',z⟩:=I.cell y c e;exact⟨w',z.sameBut hs<|cne y c e⟩
  ·obtain⟨e,n,ne,nf,d⟩:=I.pin p hp;exact⟨(hs.2 p.1 ne).trans e,n,ne,nf,d⟩
 ·have hfn:X.fn x=true:=by
   rcases hf with z|z
   ·exact z
   ·rw[z]at hk;cases hk
  obtain⟨c,hc⟩:=I.ok.has x<|.inl hk;obtain⟨w',z⟩:=I.cell x c hc;refine wpAny_storeName_cell I.ok.kind hk hc z (λh' hc' hs=>?_);obtain⟨oc,hoc,hocd⟩:=id z;refine h {s with heap:=h'} ⟨I.ok,I.os,I.bare,⟨λb o e n hb hx=>?_,λb o e n hb hx=>?_,I.base.free,λb o e hx=>?_,I.base.tups,I.base.frzs,I.base.tbls⟩,⟨m,hn.sameBut hs<|Ne.symm<|cne x c hc,λj y v' e1 e2 e3=>?_⟩,λy c' e=>?_,I.free,I.freeC,λp hp=>?_,tracked ⟨oc,hoc,I.freeC x c hc⟩ hs,by simpa using I.len⟩ ⟨c,hs,.inr hc⟩
  ·exact(hs.2 b<|Aw<|Ao (An e)<|I.ok.cab x c hfn hc).trans<|I.base.keep b o e n hb hx
  ·obtain⟨sl,e1⟩:=I.base.slot b o e n hb hx;exact⟨sl,(hs.2 b<|Aw<|Ao (An e)<|I.ok.cab x c hfn hc).trans e1⟩
  ·obtain⟨o',e1⟩:=I.base.there b o e hx;exact⟨o',(hs.2 b<|Aw<|Ao (An e)<|I.ok.cab x c hfn hc).trans e1⟩
  ·by_cases hj:j=i
   ·subst hj;rw[hi]at e1;cases e1;rw[Ay hiσ]at e2;cases e2;exact⟨u,r,.inr ⟨.inl hk,c,hc,hc'⟩⟩
   ·rw[Ar<|Ne.symm hj]at e2;obtain⟨u',r',q⟩:=hl j y v' e1 e2 e3;refine⟨u',r',?_⟩;rcases q with q|⟨k,c',e,z'⟩
    ·exact .inl q
    ·refine .inr ⟨k,c',e,z'.sameBut hs ?_⟩;rintro rfl;exact hj<|ZcO hN e1<|I.ok.inj _ _ _ e hc ▸ hi
  ·by_cases hcc:c'=c
   ·subst hcc;exact⟨_,hc'⟩
   ·obtain⟨w2,z2⟩:=I.cell y c' e;exact⟨w2,z2.sameBut hs hcc⟩
  ·obtain⟨e,n,ne,nf,d⟩:=I.pin p hp;refine⟨(hs.2 p.1 ?_).trans e,n,ne,nf,d⟩;intro q;rw[q,hoc]at e;have q':oc=p.2:=AA e;exact d w'<|by rw[<- q'];exact hocd
def qp{M:Model}{A:EY}{E:Ds}{i:Nat}{v:V}{u:ET}{Q:Unit->EU->Prop}(I:Inv X pins σ H s)(hN:X.N.Nodup)(hi:X.N[i]?=some x)(hx:gC X.env.scope x)(r:RelV v u)
  (h:∀s',Inv X pins (σ.set i<|some v) H s'->Q () s') (hf:X.fn x=true\/X.env.scope.names.lookup x=some .local:=by first|exact .inl rfl|exact .inr rfl|assumption):wpAny M A (storeName X.env x u) Q E s :=
 wf I hN hi hx r (λs' I' _=>h s' I') hf
def Inv.call'{s':EU}{ch:EQ EV}(I:Inv X pins σ H s)(ho:s'.os=s.os)(u:Un (frs X.stack) ch H H' s.heap s'.heap)(hok:HOk X.prog X.w H' s'.heap)(hg:AllBare s'.gens)
  (hch:∀b∈ch,(b∈X.ex\/X.s₀.heap.objs.size<=b)/\b≠X.env.locals/\(∀x c,X.env.cells.lookup x=some c->c≠b)/\∀p∈X.pn++pins,p.1≠b):Inv X pins σ H' s':=by obtain⟨h',g',d',t',o'⟩:=s';have e:o'=s.os:=ho;subst e;exact I.call (g':=g') (t':=t') (d':=d') u hok hg hch
end
abbrev XK:=ET->ER EV->Hp->Prop
abbrev St:=EQ<|ER V
abbrev VK:=V->Hp->Prop
abbrev TE:=St->Hp->VK->Prop
abbrev TT:=St->Hp->(Bool->Hp->Prop)->Prop
abbrev TA:=St->Hp->(EQ V->Hp->Prop)->Prop
structure Ends where
 nx:St->Hp->Prop
 rt:VK
 bk:St->Hp->Prop:=λ_ _=>False
 ct:St->Hp->Prop:=λ_ _=>False
abbrev TS:=Ends->St->Hp->Prop
end L2
variable{X:L2.Cx}{H G H₀ H' DA H1 G' G1:L2.Hp}{σ:L2.St}{vs xs ys:L2.Dx}{v:L2.V}{te ta:L2.TE}{Q:L2.VK}{o:L2.HO}
namespace L2
def EP(X:Cx)(pins:EQ (EV×Obj))(σ:St)(Q:VK)(u:ET)(s':EU):Prop:=∃v H',Inv X pins σ H' s'/\RelV v u/\Q v H'
def TP(X:Cx)(pins:EQ (EV×Obj))(σ:St)(Q:Bool->Hp->Prop)(b:Bool)(s':EU):Prop:=∃H',Inv X pins σ H' s'/\Q b H'
def AP(X:Cx)(pins:EQ (EV×Obj))(σ:St)(Q:EQ V->Hp->Prop)(us:Dv)(s':EU):Prop:=∃vs H',Inv X pins σ H' s'/\Vals vs us/\Q vs H'
def SP(X:Cx)(pins:EQ (EV×Obj))(D:Ends)(f:Flow)(s':EU):Prop :=
 match f with
 |.next=>∃σ' H',Inv X pins σ' H' s'/\D.nx σ' H'
 |.brk=>∃σ' H',Inv X pins σ' H' s'/\D.bk σ' H'
 |.cont=>∃σ' H',Inv X pins σ' H' s'/\D.ct σ' H'
 |.ret u=>∃v σ' H',Inv X pins σ' H' s'/\RelV v u/\D.rt v H'
def PE(X:Cx)(e:E1)(t:TE):Prop :=
 ∀(pins:EQ (EV×Obj))(s:EU)(σ:St)(H:Hp)(Q:VK),Inv X pins σ H s->t σ H Q->wpAny (model X.prog X.w) X.A (eval e X.env) (EP X pins σ Q) X.xe s
def PT(X:Cx)(e:E1)(t:TT):Prop :=
 ∀(pins:EQ (EV×Obj))(s:EU)(σ:St)(H:Hp)(Q:Bool->Hp->Prop),Inv X pins σ H s->t σ H Q->wpAny (model X.prog X.w) X.A (isTrue e X.env<|eval e X.env) (TP X pins σ Q) X.xe s
def PW(X:Cx)(e:E1)(t:TT):Prop :=
 ∀(whole:Sem ET)(pins:EQ (EV×Obj))(s:EU)(σ:St)(H:Hp)(Q:Bool->Hp->Prop),Inv X pins σ H s->t σ H Q->wpAny (model X.prog X.w) X.A (isTrue e X.env whole) (TP X pins σ Q) X.xe s
def PW.pt{e:E1}{t:TT}(h:PW X e t):PT X e t:=h _
def PA(X:Cx)(es:EQ E1)(t:TA):Prop :=
 ∀(pos:Pos)(pins:EQ (EV×Obj))(s:EU)(σ:St)(H:Hp)(Q:EQ V->Hp->Prop),Inv X pins σ H s->t σ H Q->wpAny (model X.prog X.w) X.A (spliced<|backTo pos<|starEach es X.env) (AP X pins σ Q) X.xe s
def PS(X:Cx)(st:E3)(t:TS):Prop :=
 ∀(pins:EQ (EV×Obj))(s:EU)(σ:St)(H:Hp)(D:Ends),Inv X pins σ H s->t D σ H->wpAny (model X.prog X.w) X.A (exec st X.env) (SP X pins D) X.xe s
def PSs(X:Cx)(st:EQ E3)(t:TS):Prop :=
 ∀(pins:EQ (EV×Obj))(s:EU)(σ:St)(H:Hp)(D:Ends),Inv X pins σ H s->t D σ H->wpAny (model X.prog X.w) X.A (execs st X.env) (SP X pins D) X.xe s
def thn{t:Sem α}{Q Q':α->EU->Prop}{M:Model}{A:EY}{E:Ds}{s:EU}(h:wpAny M A t Q E s)(hQ:∀a s,Q a s->Q' a s):wpAny M A t Q' E s:=DJ h hQ λ_ _ x=>x
section
def fb(i:Nat):TE:=λσ H Q=>∃v,σ[i]?=some (some v)/\Q v H
def tC(v:V):TE:=λ_ H Q=>Q v H
noncomputable def ZiE{i:Nat}{pos:Pos}(hN:X.N[i]?=some x)(hv:gZ X.env.scope x)(hd:(x==("__debug__":Str))=false:=by decide)(Fo:(x==("__classdict__":Str))=false:=by decide):PE X (.Name x pos) (fb i):=by
 intro pins s σ H Q I h;obtain⟨v,e,h⟩:=h;obtain⟨m,hn,hl⟩:=I.loc;obtain⟨u,r,l⟩:=hl i x v hN e hv;have fin:EP X pins σ Q u s:=⟨v,H,I,r,h⟩;rcases l with ⟨hk,hm⟩|⟨hk,c,hc,Fp⟩
 ·exact EA (ED I.ok.kind hk hn hm fin) hd
 ·rcases hk with hk|hk
  ·exact EA (EG I.ok.kind hk hc Fp fin) hd
  ·exact EA (wpAny_loadName_free I.ok.kind hk hc Fp fin Fo) hd
def bW{i j pos}:PE X (.Constant (.int i) j pos) (tC<|.int i):=λ_ _ _ H _ I h=>wpAny_Constant_int ⟨.int i,H,I.tok _,⟨_,rfl⟩,h⟩
def ZiO{b j pos}:PE X (.Constant (.bool b) j pos) (tC<|.bl b):=λ_ _ _ H _ I h=>Constant_bool ⟨.bl b,H,I,rfl,h⟩
def Gl(X:Cx)(x:Str):Prop:=X.env.kindOf x=some .globalImplicit
def Zc9{E:Ds}{pins:EQ (EV×Obj)}{s:EU}{u:ET}{pos:Pos}{Q:Ds}(I:Inv X pins σ H s)(hg:Gl X x)(hm:X.mg x=some u)(h:Q u s)
  (hd:(x==("__debug__":Str))=false:=by decide):wpAny (model X.prog X.w) X.A (eval (.Name x pos) X.env) Q E s :=
 Calls.Name_function_global I.ok.kind hg (Calls.loadGlobal_global (by rw[I.ok.glob];exact I.mod.glob.keeps I.bk) hm h) hd
noncomputable def jt{E:Ds}{pins:EQ (EV×Obj)}{s:EU}{u:ET}{pos:Pos}{Q:Ds}(I:Inv X pins σ H s)(hg:Gl X x)(hm:X.mg x=none)(hv:bootBuiltins x=some u)(h:Q u s)
  (hn:x≠"__name__":=by decide) (hd:(x==("__debug__":Str))=false:=by decide):wpAny (model X.prog X.w) X.A (eval (.Name x pos) X.env) Q E s:=by obtain⟨mb,h1,h2⟩:=I.mod.blt;exact Calls.Name_function_global I.ok.kind hg (Calls.loadGlobal_builtin (by rw[I.ok.glob];exact I.mod.glob.keeps I.bk) hm (by rw[I.ok.blt];exact h1.keeps I.bk) ((h2 x hn).trans hv) h) hd
def ZiK{u:ET}{pos:Pos}(hg:Gl X x)(hm:X.mg x=some u)(r:RelV v u)(hd:(x==("__debug__":Str))=false:=by decide):PE X (.Name x pos) (tC v) :=
 λ_ _ _ H _ I h=>Zc9 I hg hm ⟨v,H,I,r,h⟩ hd
variable{a b:E1}{tb:TE}{pos:Pos}
variable{tA tB':TT}{rest:EQ E1}
def ZgO(t u:TT):TT:=λσ H Q=>t σ H λc H1=>if c=true then u σ H1 Q else Q false H1
def tOr(t u:TT):TT:=λσ H Q=>t σ H λc H1=>if c=true then Q true H1 else u σ H1 Q
def ZgE(t:TT):TT:=λσ H Q=>t σ H λc H1=>Q (!c) H1
def Zcp(ha:PT X a tA):PW X (.BoolOp .And [a] pos) tA:=by
 intro wh pins s σ H Q I h;refine isTrue_and (thn (ha pins s σ H Q I h) λc s1 e=>?_);cases c with
 |true=>exact isTrue_and_nil e
 |false=>exact e
def Zib(ha:PT X a tA):PW X (.BoolOp .Or [a] pos) tA:=by
 intro wh pins s σ H Q I h;refine isTrue_or (thn (ha pins s σ H Q I h) λc s1 e=>?_);cases c with
 |false=>exact isTrue_or_nil e
 |true=>exact e
def Zcq(ha:PT X a tA)(hb:PW X (.BoolOp .And (b::rest) pos) tB'):PW X (.BoolOp .And (a::b::rest) pos) (ZgO tA tB'):=by
 intro wh pins s σ H Q I h;refine isTrue_and (thn (ha pins s σ H _ I h) λc s1 E4=>?_);obtain⟨H1,I1,q1⟩:=E4;cases c with
 |true=>exact hb wh pins s1 σ H1 Q I1 q1
 |false=>exact⟨H1,I1,q1⟩
def Zic(ha:PT X a tA)(hb:PW X (.BoolOp .Or (b::rest) pos) tB'):PW X (.BoolOp .Or (a::b::rest) pos) (tOr tA tB'):=by
 intro wh pins s σ H Q I h;refine isTrue_or (thn (ha pins s σ H _ I h) λc s1 E4=>?_);obtain⟨H1,I1,q1⟩:=E4;cases c with
 |true=>exact⟨H1,I1,q1⟩
 |false=>exact hb wh pins s1 σ H1 Q I1 q1
def Zig(ha:PT X a tA):PT X (.UnaryOp .Not a pos) (ZgE tA):=by intro pins s σ H Q I h;exact isTrue_not<|ha pins s σ H (λc H1=>Q (!c) H1) I h
def ZgN(ta tb:TE):TE:=λσ H Q=>ta σ H λx H1=>∃c,x=.bl c/\if c=true then tb σ H1 Q else Q (.bl false) H1
def ZiH{op}{t:TE}(h:PE X a t):PE X (.BoolOp op [a] pos) t:=λpins s σ H Q I hw=>BoolOp_one<|h pins s σ H Q I hw
def ZiP(ha:PE X a ta)(hb:PE X (.BoolOp .And (b::rest) pos) tb):PE X (.BoolOp .And (a::b::rest) pos) (ZgN ta tb):=by
 intro pins s σ H Q I h;refine BoolOp_and (thn (ha pins s σ H _ I h) λv s1 E4=>?_);obtain⟨x,H1,I1,r1,q1⟩:=E4;obtain⟨c,rfl,q1⟩:=q1;cases r1;refine Eo ?_;cases c with
 |true=>exact hb pins s1 σ H1 Q I1 q1
 |false=>exact⟨.bl false,H1,I1,rfl,q1⟩
def tIf(t:TT)(ta tb:TE):TE:=λσ H Q=>t σ H λc H1=>if c=true then ta σ H1 Q else tb σ H1 Q
def ZiJ{c:E1}(hc:PT X c tA)(ha:PE X a ta)(hb:PE X b tb):PE X (.IfExp c a b pos) (tIf tA ta tb):=by
 intro pins s σ H Q I h;refine wpAny_IfExp (thn (hc pins s σ H _ I h) λd s1 E4=>?_);obtain⟨H1,I1,q1⟩:=E4;cases d with
 |true=>exact ha pins s1 σ H1 Q I1 q1
 |false=>exact hb pins s1 σ H1 Q I1 q1
end
def SqL(K:Dh)(H:Hp)(a:EV)(xs:Dx):Prop :=
 Rd H a (.lst xs) \/
  ∃(o:Obj)(E5:Array ET)(n:Nat),K.lookup a=some o/\o.cls=.type "list"/\o.dict=none/\o.data=.seq E5 n/\E5.size<=sizeLine/\Vals xs E5.toList
def SqT(K:Dh)(H:Hp)(a:EV)(xs:Dx):Prop :=
 Rd H a (.tup xs) \/
  ∃(o:Obj)(E5:Array ET)(n:Nat),K.lookup a=some o/\o.cls=.type "tuple"/\o.data=.seq E5 n/\E5.size<=sizeLine/\Vals xs E5.toList
noncomputable def Zn4:ET->ER V
 |.none=>some .non
 |.bool b=>some (.bl b)
 |.int i _=>some (.int i)
 |.str x _=>some (.str x)
 |.bytes b _=>some (.byt b)
 |.float b _=>some (.flt b)
 |.ref a=>some (.ref a)
 |.type n=>some (.ty n)
 |_=>none
def RelV.abs{x:V}{u:ET}(r:RelV x u):Zn4 u=some x:=by
 cases x with
 |non=>cases r;rfl
 |bl _=>cases r;rfl
 |int _=>obtain⟨t,rfl⟩:=r;rfl
 |str _=>obtain⟨t,rfl⟩:=r;rfl
 |byt _=>obtain⟨t,rfl⟩:=r;rfl
 |flt _=>obtain⟨t,rfl⟩:=r;rfl
 |ref _=>cases r;rfl
 |ty _=>cases r;rfl
def RelV.inj{x y:V}{u:ET}(r:RelV x u)(q:RelV y u):x=y:=AA<|r.abs.symm.trans q.abs
theorem Vals.inj{xs ys:Dx}{us:Dv}(h:Vals xs us)(h':Vals ys us):xs=ys:=by
 induction h generalizing ys with
 |nil=>cases h';rfl
 |cons r t ih=>cases h' with|cons r' t'=>rw[r.inj r',ih t']
section
variable{pins:EQ (EV×Obj)}{s:EU}{a:EV}
def SqL.of{K:Dh}(h:H a=some (.lst xs)):SqL K H a xs:=.inl<|.inl h
def SqT.of{K:Dh}(h:H a=some (.tup xs)):SqT K H a xs:=.inl<|.inl h
def Inv.list(I:Inv X pins σ H s)(h:SqL X.K H a xs):∃E5:Dv,Vals xs E5/\PlainL s.heap a E5.toArray/\xs.length<=sizeLine:=by
 rcases h with h|⟨o,E5,n,hk,hc,hd,hs,hz,r⟩
 ·obtain⟨z,E5,n,r,e⟩:=h.ok I.hok;exact⟨E5,r,⟨_,n,e,rfl,rfl,rfl⟩,z⟩
 ·refine⟨E5.toList,r,⟨o,n,I.kIn a o hk,hc,hd,by simpa using hs⟩,?_⟩
  have e:=r.length;simp only[BG]at e;omega
def Inv.tuple(I:Inv X pins σ H s)(h:SqT X.K H a xs):∃E5:Dv,Vals xs E5/\IsTup s.heap a E5.toArray/\xs.length<=sizeLine:=by
 rcases h with h|⟨o,E5,n,hk,hc,hs,hz,r⟩
 ·obtain⟨z,E5,r,p⟩:=h.ok I.hok;exact⟨E5,r,p,z⟩
 ·refine⟨E5.toList,r,⟨o,I.kIn a o hk,hc,n,by simpa using hs⟩,?_⟩
  have e:=r.length;simp only[BG]at e;omega
def Inv.list_inj(I:Inv X pins σ H s)(h:SqL X.K H a xs)(h':SqL X.K H a ys):xs=ys:=by
 obtain⟨E5,r,⟨o,n,e,_,_,d⟩,_⟩:=I.list h;obtain⟨its',r',⟨o',n',e',_,_,d'⟩,_⟩:=I.list h';rw[e]at e';cases e';rw[d]at d';injection d' with d1 _;have:E5=its':=by simpa using DI Array.toList d1
 subst this;exact r.inj r'
def Inv.tuple_inj(I:Inv X pins σ H s)(h:SqT X.K H a xs)(h':SqT X.K H a ys):xs=ys:=by
 obtain⟨E5,r,⟨o,e,_,n,d⟩,_⟩:=I.tuple h;obtain⟨its',r',⟨o',e',_,n',d'⟩,_⟩:=I.tuple h';rw[e]at e';cases e';rw[d]at d';injection d' with d1 _;have:E5=its':=by simpa using DI Array.toList d1
 subst this;exact r.inj r'
end
noncomputable abbrev Cx.wish(X:Cx)(E:Ds):Cx:={X with xe:=E}
noncomputable abbrev Cx.nox(X:Cx):Cx:=X.wish λ_ _=>False
theorem Cx.Ok.wish{X:Cx}(ok:X.Ok)(E:Ds):(X.wish E).Ok :=
 ⟨ok.mod,ok.kind,ok.glob,ok.blt,ok.above,ok.inj,ok.has,ok.cab,ok.hd,ok.frames,ok.stk,ok.exf,ok.bs,ok.bsz,ok.noex,ok.exfs,ok.funs,ok.frf⟩
def Cx.Ok.unwish{E:Ds}(ok:(X.wish E).Ok):X.Ok :=
 ⟨ok.mod,ok.kind,ok.glob,ok.blt,ok.above,ok.inj,ok.has,ok.cab,ok.hd,ok.frames,ok.stk,ok.exf,ok.bs,ok.bsz,ok.noex,ok.exfs,ok.funs,ok.frf⟩
section
variable{pins:EQ (EV×Obj)}{s:EU}{E:Ds}
theorem Inv.wish(I:Inv X pins σ H s)(E:Ds):Inv (X.wish E) pins σ H s:=⟨I.ok.wish E,I.os,I.bare,I.base,I.loc,I.cell,I.free,I.freeC,I.pin,I.hok,I.len⟩
theorem Inv.unwish(I:Inv (X.wish E) pins σ H s):Inv X pins σ H s:=⟨I.ok.unwish,I.os,I.bare,I.base,I.loc,I.cell,I.free,I.freeC,I.pin,I.hok,I.len⟩
theorem SP.unwish{D:Ends}{f:Flow}{s':EU}(h:SP (X.wish E) pins D f s'):SP X pins D f s':=by
 cases f with
 |next=>obtain⟨σ',H',I,q⟩:=h;exact⟨σ',H',I.unwish,q⟩
 |brk=>obtain⟨σ',H',I,q⟩:=h;exact⟨σ',H',I.unwish,q⟩
 |cont=>obtain⟨σ',H',I,q⟩:=h;exact⟨σ',H',I.unwish,q⟩
 |ret u=>obtain⟨v,σ',H',I,r,q⟩:=h;exact⟨v,σ',H',I.unwish,r,q⟩
theorem PE.nox{e:E1}{t:TE}(h:PE X.nox e t):PE X e t:=λpins s σ H Q I hw =>
 DJ (h pins s σ H Q (I.wish _) hw) (λ_ _ ⟨v,H',I',r,q⟩=>⟨v,H',I'.unwish,r,q⟩) λ_ _ z=>False.elim z
theorem PSs.nox{st:EQ E3}{t:TS}(h:PSs X.nox st t):PSs X st t:=λpins s σ H D I hw =>
 DJ (h pins s σ H D (I.wish _) hw) (λ_ _ q=>q.unwish) λ_ _ z=>False.elim z
end
section
variable{st:E3}{rest:EQ E3}{t u:TS}{e:E1}{pos:Pos}
def ZgG:TS:=λD σ H=>D.nx σ H
def ZaK(t u:TS):TS:=λD σ H=>t {D with nx:=u D} σ H
def tz:PSs X [] ZgG:=λ_ _ σ H _ I h=>Ey ⟨σ,H,I,h⟩
def dI(h1:PS X st t)(h2:PSs X rest u):PSs X (st::rest) (ZaK t u):=by
 intro pins s σ H D I h;refine EM (thn (h1 pins s σ H {D with nx:=u D} I h) λf s1 q=>?_);cases f with
 | next =>
  obtain⟨σ',H',I',q⟩:=q;exact h2 pins s1 σ' H' D I' q
 |ret v=>exact q
 |brk=>exact q
 |cont=>exact q
def kC(h1:PS X st t):PSs X [st] t:=by
 intro pins s σ H D I h;refine EM (thn (h1 pins s σ H D I h) λf s1 q=>?_);cases f with
 |next=>exact Ey q
 |ret v=>exact q
 |brk=>exact q
 |cont=>exact q
def Inv.quiet{pins:EQ (EV×Obj)}{s:EU}(I:Inv X pins σ H s):interactive X.env=false:=by simp[interactive,I.ok.kind]
def sA(te:TE):TS:=λD σ H=>te σ H λ_ H1=>D.nx σ H1
noncomputable def jd(he:PE X e te)(hs:swapsWith e none pos.line X.env=pure false:=by rfl):PS X (.Expr e pos) (sA te):=by intro pins s σ H D I h;exact wpAny_Expr_any (thn (he pins s σ H _ I h) λv s1 ⟨x,H1,I1,r1,q1⟩=>⟨σ,H1,I1,q1⟩) I.quiet hs
def ZgB(te:TE):TS:=λD σ H=>te σ H D.rt
def io(he:PE X e te):PS X (.Return (some e) pos) (ZgB te):=by intro pins s σ H D I h;exact wpAny_Return_some<|thn (he pins s σ H _ I h) λv s1 ⟨x,H1,I1,r1,q1⟩=>⟨x,σ,H1,I1,r1,q1⟩
def ZgK(c:TT)(t u:TS):TS:=λD σ H=>c σ H λb H1=>if b=true then t D σ H1 else u D σ H1
def tD{c:E1}{a b:EQ E3}{tc:TT}(hc:PT X c tc)(ha:PSs X a t)(hb:PSs X b u):PS X (.If c a b pos) (ZgK tc t u):=by
 intro pins s σ H D I h;refine wpAny_If (thn (hc pins s σ H _ I h) λd s1 E4=>?_);obtain⟨H1,I1,q1⟩:=E4;cases d with
 |true=>exact ha pins s1 σ H1 D I1 q1
 |false=>exact hb pins s1 σ H1 D I1 q1
end
abbrev TG:=V->St->Hp->(St->Hp->Prop)->Prop
abbrev fZ:=EQ V->St->Hp->(St->Hp->Prop)->Prop
def PG(X:Cx)(target:E1)(t:TG):Prop :=
 ∀(pins:EQ (EV×Obj))(s:EU)(σ:St)(H:Hp)(v:V)(u:ET)(Q:St->Hp->Prop),Inv X pins σ H s->RelV v u->t v σ H Q ->
  wpAny (model X.prog X.w) X.A (assign target X.env u) (λ_ s'=>∃σ' H',Inv X pins σ' H' s'/\Q σ' H') X.xe s
def PGs(X:Cx)(ts:EQ E1)(t:fZ):Prop :=
 ∀(pins:EQ (EV×Obj))(s:EU)(σ:St)(H:Hp)(vs:Dx)(us:Dv)(Q:St->Hp->Prop),Inv X pins σ H s->Vals vs us->t vs σ H Q ->
  wpAny (model X.prog X.w) X.A (assignInOrder ((assignEach ts X.env).map (·.2)) us) (λ_ s'=>∃σ' H',Inv X pins σ' H' s'/\Q σ' H') X.xe s
abbrev zF:=V->V->V->Hp->(Hp->Prop)->Prop
def Zfy(X:Cx)(t:zF):Prop :=
 ∀(pins:EQ (EV×Obj))(s:EU)(σ:St)(H:Hp)(o i v:V)(ov iv u:ET)(Q:Hp->Prop),Inv X pins σ H s->RelV o ov->RelV i iv->RelV v u->t o i v H Q ->
  wpAny (model X.prog X.w) X.A (setItem ov iv u) (λ_ s'=>∃H',Inv X pins σ H' s'/\Q H') X.xe s
abbrev zG:=V->V->Hp->VK->Prop
def PIp(X:Cx)(op:Operator)(t:zG):Prop :=
 ∀(pins:EQ (EV×Obj))(s:EU)(σ:St)(H:Hp)(x y:V)(v u:ET)(Q:VK),Inv X pins σ H s->RelV x v->RelV y u->t x y H Q ->
  wpAny (model X.prog X.w) X.A (inplaceOp op v u) (EP X pins σ Q) X.xe s
section
variable{pos:Pos}
def da(i:Nat):TG:=λv σ H Q=>Q (σ.set i<|some v) H
def xu{i:Nat}(hN:X.N.Nodup)(hi:X.N[i]?=some x)(hx:gC X.env.scope x)(hf:X.fn x=true\/X.env.scope.names.lookup x=some .local:=by first|exact .inl rfl|exact .inr rfl|assumption):PG X (.Name x pos) (da i):=by intro pins s σ H v u Q I r h;exact EK<|qp I hN hi hx r (λs' I'=>⟨_,H,I',h⟩) hf
noncomputable def kF{i:Nat}(hN:X.N.Nodup)(hi:X.N[i]?=some x:=by rfl)(hx:gC X.env.scope x:=by first|exact Or.inl rfl|exact Or.inr rfl)(hf:X.fn x=true\/X.env.scope.names.lookup x=some .local:=by first|exact .inl rfl|exact .inr rfl|assumption):PG X (.Name x pos) (da i):=xu hN hi hx hf
def ZkE:fZ:=λvs σ H Q=>vs=[]/\Q σ H
def ZkG(t:TG)(u:fZ):fZ:=λvs σ H Q=>∃v r,vs=v::r/\t v σ H λσ' H'=>u r σ' H' Q
def ZiA:PGs X [] ZkE:=by intro pins s σ H vs us Q I r h;obtain⟨e,h⟩:=h;subst e;cases r;exact assignInOrder_nil ⟨σ,H,I,h⟩
def ZiB{e:E1}{es:EQ E1}{t:TG}{u:fZ}(h1:PG X e t)(h2:PGs X es u)
  (hs:(assignEach (e::es) X.env).map (·.2)=assign e X.env::(assignEach es X.env).map (·.2):=by rfl):PGs X (e::es) (ZkG t u):=by
 intro pins s σ H vs us Q I r h;obtain⟨v,vr,e1,h⟩:=h;subst e1;cases r with
 | cons r rr =>
  rw[hs];refine assignInOrder_cons (thn (h1 pins s σ H _ _ _ I r h) λ_ s1 E4=>?_);obtain⟨σ1,H1,I1,q1⟩:=E4;exact h2 pins s1 σ1 H1 _ _ Q I1 rr q1
def ZkD(K:Dh)(n:Nat)(t:fZ):TG:=λv σ H Q=>∃a xs,v=.ref a/\SqT K H a xs/\xs.length=n/\t xs σ H Q
def ZiC{es:EQ E1}{t:fZ}{n:Nat}(hc:X.calm=true)(h:PGs X es t)
  (hn:(assignEach es X.env).length=n:=by rfl) (Ft:(assignEach es X.env).findIdx? (·.1)=none:=by rfl):PG X (.Tuple es k pos) (ZkD X.K n t):=by
 intro pins s σ H v u Q I r hw;obtain⟨a,xs,e1,hq,hl,hw⟩:=hw;subst e1;cases r;obtain⟨E5,rv,ht,hz⟩:=I.tuple hq;refine assign_Tuple_tuple (I.ok.hd hc) ht (by simp[hn,<- hl,rv.length]) Ft λh' hx=>?_
 have I1:Inv X pins σ H {s with heap:=h'}:=I.kept (t':=s.toks) λb o e=>hx b o (Aw<|An e) e;exact h pins _ σ H xs _ Q I1 (by simpa using rv) hw
def yr(to ti:TE)(t:zF):TG:=λv σ H Q=>to σ H λo H1=>ti σ H1 λi H2=>t o i v H2 λH3=>Q σ H3
noncomputable def qK{o i:E1}{to ti:TE}{t:zF}(ho:PE X o to)(hi:PE X i ti)(hs:Zfy X t)
  (ha:∀v,assign (.Subscript o i pos) X.env v=(do
   let ov <- holding [v] (eval o X.env)
   let iv <- holding [v,ov] (eval i X.env)
   standAt pos
   holding [v,ov,iv] (setItem ov iv v)
   release [v,ov,iv] []):=by intro _;rfl):PG X (.Subscript o i pos) (yr to ti t):=by intro pins s σ H v u Q I r h;rw[ha];refine wp (DK<|thn (ho pins s σ H _ I h) λov s1 E4=>?_);obtain⟨x,H1,I1,r1,q1⟩:=E4;refine wp (DK<|thn (hi pins s1 σ H1 _ I1 q1) λiv s2 E4=>?_);obtain⟨y,H2,I2,r2,q2⟩:=E4;refine wp (DR<|wp<|DK<|thn (hs pins s2 σ H2 x y v ov iv u _ I2 r1 r2 r q2) λ_ s3 E4=>?_);obtain⟨H3,I3,q3⟩:=E4;exact wpAny_release ⟨σ,H3,I3,q3⟩
def cV(te:TE)(g:TG):TS:=λD σ H=>te σ H λx H1=>g x σ H1 D.nx
def fg{tg e:E1}{g:TG}(he:PE X e te)(hg:PG X tg g)(hs:swapsWithSole [tg] e pos.line X.env=pure false:=by rfl)(hw:swappedStores [tg] e X.env=pure none:=by rfl)
  (h1:(assignEach [tg] X.env).map (·.2)=[assign tg X.env]:=by rfl):PS X (.Assign [tg] e pos) (cV te g):=by intro pins s σ H D I h;refine wpAny_Assign_stores (thn (he pins s σ H _ I h) λv s1 E4=>?_) hs hw;obtain⟨x,H1,I1,r1,q1⟩:=E4;rw[h1];exact thn (hg pins s1 σ H1 x v _ I1 r1 q1) λ_ s2 q=>q
noncomputable def Zcs{i:Nat}{e:E1}{pos':Pos}(hN:X.N.Nodup)(hi:X.N[i]?=some x)(hx:gC X.env.scope x)(he:PE X e te)(hs:swapsWith e (some<|.Name x pos') pos.line X.env=pure false:=by rfl)(hf:X.fn x=true\/X.env.scope.names.lookup x=some .local:=by first|exact .inl rfl|exact .inr rfl|assumption) :
  PS X (.Assign [.Name x pos'] e pos) (cV te<|da i):=by intro pins s σ H D I h;refine wpAny_Assign_Name (thn (he pins s σ H _ I h) λv s1 E4=>?_) hs;obtain⟨y,H1,I1,r1,q1⟩:=E4;exact qp I1 hN hi hx r1 (λs2 I2=>⟨_,H1,I2,q1⟩) hf
def fM{i:Nat}{e:E1}{pos':Pos}(hN:X.N.Nodup)(he:PE X e te)(hi:X.N[i]?=some x:=by rfl)(hx:gC X.env.scope x:=by first|exact Or.inl rfl|exact Or.inr rfl)(hs:swapsWith e (some<|.Name x pos') pos.line X.env=pure false:=by rfl)(hf:X.fn x=true\/X.env.scope.names.lookup x=some .local:=by first|exact .inl rfl|exact .inr rfl|assumption):PS X (.Assign [.Name x pos'] e pos) (cV te<|da i):=Zcs hN hi hx he hs hf
def ZaL(i j:Nat)(ta:TA):TS:=λD σ H=>ta σ H λvs H1=>∃v w,vs=[v,w]/\D.nx ((σ.set i<|some v).set j<|some w) H1
def tB{i j:Nat}{y:Str}{a b:E1}{ta:TA}{px py pt:Pos}{kt k2 pt2}(hc:X.calm=true)(hN:X.N.Nodup)(hi:X.N[i]?=some x)(hj:X.N[j]?=some y)(hij:i≠j)
  (hx:X.env.scope.names.lookup x=some .local) (hy:X.env.scope.names.lookup y=some .local) (ha:PA X [a,b] ta)
  (hw:swappedStores [.Tuple [.Name x px,.Name y py] kt pt] (.Tuple [a,b] k2 pt2) X.env=pure (some [x,y]))
  (hs:swapsWithSole [.Tuple [.Name x px,.Name y py] kt pt] (.Tuple [a,b] k2 pt2) pos.line X.env=pure false:=by rfl) :
  PS X (.Assign [.Tuple [.Name x px,.Name y py] kt pt] (.Tuple [a,b] k2 pt2) pos) (ZaL i j ta):=by
 intro pins s σ H D I h;rw[exec_Assign_arm];refine wp<|DR ?_;rw[hs];refine wp<|DB ?_;rw[DF<|by decide]
 refine wp (Tuple_<|thn (ha _ pins s σ H _ I h) λus s1 E4=>?_);obtain⟨vs,H1,I1,r1,q1⟩:=E4;obtain⟨v,w,e1,q1⟩:=q1;subst e1;obtain⟨u1,u2,rfl,rv,rw'⟩:∃u1 u2,us=[u1,u2]/\RelV v u1/\RelV w u2:=by
  cases r1 with
  | cons p q =>
   cases q with
   | cons p' q' =>
    cases q';exact⟨_,_,rfl,p,p'⟩
 refine DH ?_<|by show 2<=sizeLine;decide
 have I2:Inv X pins σ H1 {s1 with heap:=s1.heap.push {cls:=.type "tuple",data:=.seq [u1,u2].toArray} }:=I1.kept (t':=s1.toks) λb o e=>Aa _ e;rw[hw];refine wp<|DB ?_;show wpAny (model X.prog X.w) X.A (do rule "assign.swapped-stores";let items <- unpackItems (.ref s1.heap.objs.size) 2 none;assignInOrder [λv=>bindName X.env y v,λv=>bindName X.env x v] items.reverse;pure Flow.next) _ _ _
 refine wp (D9<|wp<|unpackItems_tuple (items:=#[u1,u2]) (I.ok.hd hc) (IsTup.new s1.heap _) λh' hx'=>?_);have I3:=I2.kept (h':=h') (t':=s1.toks) λb o e=>hx' b o (Aw<|An e) e;show wpAny _ _ (assignInOrder [λv=>bindName X.env y v,λv=>bindName X.env x v] [u2,u1] >>= λ_=>pure Flow.next) _ _ _;refine wp (assignInOrder_cons<|wpAny_bindName<|qp I3 hN hj (.inl hy) rw' (λs2 I4=>?_)<|.inr hy);refine assignInOrder_cons (wpAny_bindName<|qp I4 hN hi (.inl hx) rv (λs3 I5=>assignInOrder_nil<|DB ?_)<|.inr hx);rw[List.set_comm _ _<|Ne.symm hij]at I5;exact⟨_,H1,I5,q1⟩
def ZaQ(i:Nat)(te:TE)(ti:zG):TS:=λD σ H=>∃x,σ[i]?=some (some x)/\te σ H λy H1=>ti x y H1 λz H2=>D.nx (σ.set i<|some z) H2
def tE{i:Nat}{e:E1}{op:Operator}{ti:zG}{pos':Pos}(hN:X.N.Nodup)(hi:X.N[i]?=some x)(hx:gC X.env.scope x)(he:PE X e te)(ho:PIp X op ti)(hf:X.fn x=true\/X.env.scope.names.lookup x=some .local:=by first|exact .inl rfl|exact .inr rfl|assumption) :
  PS X (.AugAssign (.Name x pos') op e pos) (ZaQ i te ti):=by
 intro pins s σ H D I h;obtain⟨v,e1,h⟩:=h;obtain⟨m,hn,hl⟩:=I.loc;have vis:gZ X.env.scope x:=by rcases hx with k|k;exact .inl k;exact .inr (.inl k)
 obtain⟨u,r,l⟩:=hl i x v hi e1 vis;refine wpAny_AugAssign_Name ?_;have go:wpAny (model X.prog X.w) X.A (eval e X.env) (λw s₂=>wpAny (model X.prog X.w) X.A (inplaceOp op u w) (λr s₃=>wpAny (model X.prog X.w) X.A (storeName X.env x r) (λ_=>SP X pins D .next) X.xe s₃) X.xe s₂) X.xe s:=by refine thn (he pins s σ H _ I h) λw s1 E4=>?_;obtain⟨y,H1,I1,r1,q1⟩:=E4;refine thn (ho pins s1 σ H1 v y u w _ I1 r r1 q1) λz s2 E4=>?_;obtain⟨zv,H2,I2,r2,q2⟩:=E4;exact qp I2 hN hi hx r2 (λs3 I3=>⟨_,H2,I3,q2⟩) hf
 rcases l with ⟨hk,hm⟩|⟨hk,c,hc,Fp⟩
 ·exact ED I.ok.kind hk hn hm go
 ·rcases hk with hk|hk
  ·exact EG I.ok.kind hk hc Fp go
  ·rcases hx with k|k
   ·have:X.env.scope.names.lookup x=some .free:=hk;rw[k]at this;cases this
   ·have:X.env.scope.names.lookup x=some .free:=hk;rw[k]at this;cases this
end
section
variable{pos:Pos}
def Zgu(c:TT)(tb:TS):TS:=λD σ H=>∃W:Nat->St->Hp->Prop,(∃m,W m σ H)/\∀m σ H,W m σ H ->
 c σ H λb H1=>if b=true then ∃N:St->Hp->Prop,(∀σ' H',N σ' H'->∃m',m'<m/\W m' σ' H')/\tb {D with nx:=N,ct:=N,bk:=D.nx} σ H1 else D.nx σ H1
def Zik{c:E1}{body:EQ E3}{tc:TT}{tb:TS}(hp:PassesOwn (model X.prog X.w) X.A X.env X.xe)(hc:PT X c tc)(hb:PSs X body tb):PS X (.While c body [] pos) (Zgu tc tb):=by
 intro pins s σ H D I h;obtain⟨W,⟨m0,w0⟩,turn⟩:=h;refine wpAny_While (codeAny_whileLoop (λn s'=>∃σ' H',Inv X pins σ' H' s'/\W n σ' H') ?_ m0 ⟨σ,H,I,w0⟩);rintro n s1 ⟨σ1,H1,I1,w1⟩;refine DZ hp (thn (hc pins s1 σ1 H1 _ I1<|turn n σ1 H1 w1) λb s2 E4=>?_);obtain⟨H2,I2,q2⟩:=E4;cases b with
 | true =>
  obtain⟨N,hN,q2⟩:=q2;rw[DD rfl];refine DZ hp (thn (hb pins s2 σ1 H2 _ I2 q2) λf s3 q3=>?_);cases f with
  | next =>
   obtain⟨σ3,H3,I3,n3⟩:=q3;obtain⟨m',hm,w3⟩:=hN σ3 H3 n3;exact⟨m',hm,σ3,H3,I3,w3⟩
  | cont =>
   obtain⟨σ3,H3,I3,n3⟩:=q3;obtain⟨m',hm,w3⟩:=hN σ3 H3 n3;exact⟨m',hm,σ3,H3,I3,w3⟩
  |brk=>exact q3
  |ret v=>exact q3
 | false =>
  rw[DF As];exact Ey ⟨σ1,H2,I2,q2⟩
end
structure It where
 go:Nat->Hp->Prop
 yld:Nat->Hp->V->Hp->Prop
 stop:Nat->Hp->Prop
def eL(X:Cx)(pins:EQ (EV×Obj))(H:Hp)(b:EV):Prop :=
 H b=none/\b≠X.env.locals/\b∉X.fs/\(b∈X.ex\/X.s₀.heap.objs.size<=b)/\(∀x c,X.env.cells.lookup x=some c->c≠b)/\∀p∈X.pn++pins,p.1≠b
def Inv.fpOk{pins:EQ (EV×Obj)}{s:EU}{b:EV}(I:Inv X pins σ H s)(hb:s.heap.objs.size<=b)(hn:H' b=none):eL X pins H' b:=by
 refine⟨hn,AZ<|Ao I.lt hb,I.nofs hb,.inr<|Ap I.sz hb,λx c e z=>?_,λp hp z=>?_⟩
 ·obtain⟨v,q⟩:=I.cell x c e;exact absurd (Ao q.lt<|by rw[z];exact hb)<|AF _
 ·exact absurd (Ao (An (I.pin p hp).1)<|by rw[z];exact hb)<|AF _
structure Turn(P:EW)(w:EX)(K:Dh)(tg:E1)(J:It)(fp:List EV)(it:EV)(tn:Nat->EZ->Prop):Prop where
 mem:it∈fp
 obj:∀i h,tn i h->∀b∈fp,∃o,h.get? b=some o/\∀v,o.data≠.cell v
 keep:∀i h h',tn i h->(∀b∈fp,∀o,h.get? b=some o->h'.get? b=some o)->tn i h'
 item:∀(X:Cx),X.prog=P->X.w=w->X.K=K->X.calm=true->∀(i:Nat)(pins:List (EV×Obj))(s:EU)(σ:St)(H:Hp)(E:Ds),Inv X pins σ H s->(∀b∈fp,eL X pins H b)->tn i s.heap->J.go i H ->
  wpAny (model P w) X.A (pyNext<|.ref it) (λr s1=>∃u,r=some u /\
   wpAny (model P w) X.A (letOwnedTupleGo tg (.ref it) u) (λ_ s2=>∃x H',Inv X pins σ H' s2/\RelV x u/\J.yld i H x H'/\tn (i+1) s2.heap/\∀b∈fp,H' b=none) E s1) E s
 done:∀(X:Cx),X.prog=P->X.w=w->X.K=K->X.calm=true->∀(i:Nat)(pins:List (EV×Obj))(s:EU)(σ:St)(H:Hp)(E:Ds),Inv X pins σ H s->(∀b∈fp,eL X pins H b)->tn i s.heap->J.stop i H ->
  wpAny (model P w) X.A (pyNext<|.ref it) (λr s1=>r=none/\Inv X pins σ H s1) E s
 self:∀(A:EY)(i:Nat)(s:EU)(Q:Ds)(E:Ds),tn i s.heap->Q (.ref it) s->wpAny (model P w) A (pyIter<|.ref it) Q E s
abbrev TI:=St->Hp->(It->Hp->Prop)->Prop
def p8(X:Cx)(pins:EQ (EV×Obj))(σ:St)(tg:E1)(R:It->Hp->Prop)(itv:ET)(s2:EU):Prop :=
 ∃(it:EV)(fp:EQ EV)(tn:Nat->EZ->Prop)(J:It)(H':Hp),itv=.ref it/\Inv X pins σ H' s2/\Turn X.prog X.w X.K tg J fp it tn/\tn 0 s2.heap/\(∀b∈fp,eL X pins H' b)/\R J H'
def PI(X:Cx)(tg iter:E1)(wi:TI):Prop :=
 ∀(pins:EQ (EV×Obj))(s:EU)(σ:St)(H:Hp)(R:It->Hp->Prop),Inv X pins σ H s->wi σ H R ->
  wpAny (model X.prog X.w) X.A (eval iter X.env) (λv s1=>wpAny (model X.prog X.w) X.A (pyIter v) (p8 X pins σ tg R) X.xe s1) X.xe s
def lc{M:Model}{A:EY}{E:Ds}{s:EU}{tg:E1}{it:EV}{u:ET}{o:Obj}{n:String}{vs:Array ET}{Q:Unit->EU->Prop}(ho:s.heap.get? it=some o)(hc:o.cls=.type n)(hd:o.data=.fields vs)
  (hn:["enumerate","zip","dict_itemiterator","dict_reverseitemiterator","odict_iterator","itertools.zip_longest","itertools.pairwise"].contains n=false) (hQ:Q () s):wpAny M A (letOwnedTupleGo tg (.ref it) u) Q E s:=by
 unfold letOwnedTupleGo;cases tg <;> first
  |exact DB hQ
  | (cases u <;> first
    |exact DB hQ
    | (refine wp (wpAny_load ho ?_)
       rw[hc,hd];show wpAny M A (if (["enumerate","zip","dict_itemiterator","dict_reverseitemiterator","odict_iterator","itertools.zip_longest","itertools.pairwise"].contains n&&vs[0]? == some (rawInt _))=true then _ else _) Q E s
       rw[DF<|by intro h;rw[hn,C7]at h;cases h]
       exact DB hQ))
def zX(K:Dh)(a:EV):It :=
 ⟨λi H=>∃xs x,SqL K H a xs/\xs[i]?=some x,λi H x H'=>H'=H/\∀xs,SqL K H a xs->xs[i]?=some x,λi H=>∃xs,SqL K H a xs/\xs.length<=i⟩
def zV(K:Dh)(a:EV):It :=
 ⟨λi H=>∃xs x,SqT K H a xs/\xs[i]?=some x,λi H x H'=>H'=H/\∀xs,SqT K H a xs->xs[i]?=some x,λi H=>∃xs,SqT K H a xs/\xs.length<=i⟩
def jS(lo:Int)(n:Nat):It:=⟨λi _=>i<n,λi H x H'=>H'=H/\x=.int (lo+i),λi _=>n<=i⟩
def Zgk{P:EW}{w:EX}{K:Dh}{tg:E1}(a it:EV):Turn P w K tg (zX K a) [it] it (λi h=>h.IsListIter it a i) where
 mem:=by simp
 obj:=λi h st b hb=>by
  have e:b=it:=by simpa using hb
  subst e;obtain⟨o,e,c,d⟩:=st;exact⟨o,e,λv z=>by rw[d]at z;cases z⟩
 keep:=λi h h' st k=>st.at λo e=>k it (by simp) o e
 item:=by
  intro X hP hw hK hc i pins s σ H E I hf st hg;subst hP hw hK;obtain⟨xs,x,hq,hx⟩:=hg;obtain⟨E5,rv,p,hz⟩:=I.list hq;obtain⟨u,hu,ru⟩:=rv.get hx;obtain⟨f0,f1,f2,f3,f4,f5⟩:=hf it<|by simp
  refine Eu st p.isList (x:=u) (by simpa using hu) λh' st' sb=>?_
  have I1:Inv X pins σ H {s with heap:=h'}:=I.turned (t':=s.toks) (λb o hb e=>(sb.2 b hb).trans e) f0 f1 f3 f4 f5;obtain⟨o,e,c,d⟩:=id st';exact⟨u,rfl,lc (s:={s with heap:=h'}) e c d (by decide) ⟨x,H,I1,ru,⟨rfl,λys hy=>by rw[I.list_inj hy hq];exact hx⟩,st',λb hb=>(hf b hb).1⟩⟩
 done:=by
  intro X hP hw hK hc i pins s σ H E I hf st hg;subst hP hw hK;obtain⟨xs,hq,hx⟩:=hg;obtain⟨E5,rv,p,hz⟩:=I.list hq;obtain⟨f0,f1,f2,f3,f4,f5⟩:=hf it<|by simp
  have hl:=rv.length;exact Ex (I.ok.hd hc) st p.isList (by simp;omega) λh' eb=>⟨rfl,I.turned (t':=s.toks) (λb o hb e=>eb b o hb e) f0 f1 f3 f4 f5⟩
 self:=λ_ _ _ _ _ st h=>wpAny_pyIter_listiter st h
def Zgh{P:EW}{w:EX}{K:Dh}{tg:E1}(a it:EV):Turn P w K tg (zV K a) [it] it (λi h=>h.IsTupleIter it a i) where
 mem:=by simp
 obj:=λi h st b hb=>by
  have e:b=it:=by simpa using hb
  subst e;obtain⟨o,e,c,d⟩:=st;exact⟨o,e,λv z=>by rw[d]at z;cases z⟩
 keep:=λi h h' st k=>st.at λo e=>k it (by simp) o e
 item:=by
  intro X hP hw hK hc i pins s σ H E I hf st hg;subst hP hw hK;obtain⟨xs,x,hq,hx⟩:=hg;obtain⟨E5,rv,p,hz⟩:=I.tuple hq;obtain⟨u,hu,ru⟩:=rv.get hx;obtain⟨f0,f1,f2,f3,f4,f5⟩:=hf it<|by simp
  refine wpAny_pyNext_tuple_item st (show s.heap.IsTuple a E5.toArray from p) (x:=u) (by simpa using hu) λh' st' sb=>?_
  have I1:Inv X pins σ H {s with heap:=h'}:=I.turned (t':=s.toks) (λb o hb e=>(sb.2 b hb).trans e) f0 f1 f3 f4 f5;obtain⟨o,e,c,d⟩:=id st';exact⟨u,rfl,lc (s:={s with heap:=h'}) e c d (by decide) ⟨x,H,I1,ru,⟨rfl,λys hy=>by rw[I.tuple_inj hy hq];exact hx⟩,st',λb hb=>(hf b hb).1⟩⟩
 done:=by
  intro X hP hw hK hc i pins s σ H E I hf st hg;subst hP hw hK;obtain⟨xs,hq,hx⟩:=hg;obtain⟨E5,rv,p,hz⟩:=I.tuple hq;obtain⟨f0,f1,f2,f3,f4,f5⟩:=hf it<|by simp
  have hl:=rv.length;exact wpAny_pyNext_tuple_end (I.ok.hd hc) st (show s.heap.IsTuple a E5.toArray from p) (by simp;omega) λh' eb=>⟨rfl,I.turned (t':=s.toks) (λb o hb e=>eb b o hb e) f0 f1 f3 f4 f5⟩
 self:=λ_ _ _ _ _ st h=>wpAny_pyIter_tupleiter st h
def Zgj{P:EW}{w:EX}{K:Dh}{tg:E1}(it:EV)(lo:Int)(n:Nat):Turn P w K tg (jS lo n) [it] it (λi h=>IsRangeIter h it (lo+(i:Nat)*1) ((n:Int)-(i:Nat)) 1) where
 mem:=by simp
 obj:=λi h st b hb=>by
  have e:b=it:=by simpa using hb
  subst e;exact⟨_,st,λv z=>by have z':Data.fields _=Data.cell v:=z;cases z'⟩
 keep:=λi h h' st k=>k it (by simp) _ st
 item:=by
  intro X hP hw hK hc i pins s σ H E I hf st hg;subst hP hw hK;obtain⟨f0,f1,f2,f3,f4,f5⟩:=hf it<|by simp
  have W:=Walks.range (prog:=X.prog) (w:=X.w) (I.ok.hd hc) it lo 1 n;refine W.item i s _ _ hg st λv h' tk hv st' kk=>?_;obtain⟨t,rfl⟩:=hv;have I1:Inv X pins σ H {s with heap:=h',toks:=tk}:=I.turned (λb o hb e=>kk b o (by simpa using hb) e) f0 f1 f3 f4 f5
  refine⟨_,rfl,lc (s:={s with heap:=h',toks:=tk}) (n:="range_iterator") st' rfl rfl (by decide) ⟨.int<|lo+i,H,I1,⟨t,?_⟩,⟨rfl,rfl⟩,st',λb hb=>(hf b hb).1⟩⟩
  rw[CZ]
 done:=by
  intro X hP hw hK hc i pins s σ H E I hf st hg;subst hP hw hK;obtain⟨f0,f1,f2,f3,f4,f5⟩:=hf it<|by simp
  exact wpAny_pyNext_range_end (I.ok.hd hc) st (by have:n<=i:=hg;omega) λh' eb=>⟨rfl,I.turned (t':=s.toks) (λb o hb e=>eb b o hb e) f0 f1 f3 f4 f5⟩
 self:=λ_ _ _ _ _ st h=>Ev st h
section
variable{tg:E1}
def ZbT{pins:EQ (EV×Obj)}{s:EU}{R:It->Hp->Prop}{E:Ds}{t u v:Tok}{tk:Nat}(I:Inv X pins σ H s)(h1:-(2^62)<=lo)(h2:lo<2^62)(h3:-(2^62)<=hi)(h4:hi<2^62)
  (q:R (jS lo (hi-lo).toNat) H):wpAny (model X.prog X.w) X.A (pyIter<|.ref s.heap.objs.size) (p8 X pins σ tg R) E {s with heap:=s.heap.push {cls:=.type "range",data:=.fields #[.int lo t,.int hi u,.int 1 v]},toks:=tk}:=by
 refine wpAny_pyIter_range (IsRange.new ..) (small_one h1 h2 h3 h4) ?_;have I1:Inv X pins σ H {s with heap:=s.heap.push {cls:=.type "range",data:=.fields #[.int lo t,.int hi u,.int 1 v]},toks:=tk}:=I.kept λb o e=>Aa _ e;refine⟨(s.heap.push {cls:=.type "range",data:=.fields #[.int lo t,.int hi u,.int 1 v]}).objs.size,[(s.heap.push {cls:=.type "range",data:=.fields #[.int lo t,.int hi u,.int 1 v]}).objs.size],_,_,H,rfl,
  I1.kept (t':=tk) λb o e=>Aa _ e,Zgj _ lo (hi-lo).toNat,?_,λb hb=>?_,q⟩
 ·have e1:lo+((0:Nat):Int)*1=lo:=by simp
  have e2:(((hi-lo).toNat:Nat):Int)-((0:Nat):Int)=Builtin.Range.rangeSize lo hi 1:=by rw[EI];split <;> omega
  show IsRangeIter _ _ (lo+((0:Nat):Int)*1) ((((hi-lo).toNat:Nat):Int)-((0:Nat):Int)) 1;rw[e1,e2];exact Ai _ rfl
 ·have e:b=(s.heap.push {cls:=.type "range",data:=.fields #[.int lo t,.int hi u,.int 1 v]}).objs.size:=by simpa using hb
  subst e;exact I1.fpOk (Ag _)<|I1.hok.fresh<|Ag _
def ZdB(ta:TA):TI:=λσ H R=>ta σ H λvs H1=>∃j:Int,vs=[.int j]/\-(2^62)<=j/\j<2^62/\R (jS 0 j.toNat) H1
def ZdA(ta:TA):TI:=λσ H R=>ta σ H λvs H1=>∃i j:Int,vs=[.int i,.int j]/\(-(2^62)<=i/\i<2^62/\-(2^62)<=j/\j<2^62)/\R (jS i (j-i).toNat) H1
def gI{a:E1}{ta:TA}{p pos:Pos}(hg:Gl X "range")(hm:X.mg "range"=none)(ha:PA X [a] ta)(hs:starEach [a] X.env=[(false,eval a X.env)]:=by rfl):PI X tg (.Call (.Name "range" p) [a] [] pos) (ZdB ta):=by
 intro pins s σ H R I h;refine Call_ (jt I hg hm boot_range<|A9 (thn (ha pos pins s σ H _ I h) λus s1 E4=>?_) hs rfl);obtain⟨vs,H1,I1,r1,q1⟩:=E4;obtain⟨j,e,q1,q2,q⟩:=q1;subst e;cases r1 with
 | cons r rr =>
  cases rr;obtain⟨t,rfl⟩:=r;exact call_range_1<|ZbT I1 (by omega) (by omega) q1 q2<|by simpa using q
def tH{a b:E1}{ta:TA}{p pos:Pos}(hg:Gl X "range")(hm:X.mg "range"=none)(ha:PA X [a,b] ta)(hs:starEach [a,b] X.env=[(false,eval a X.env),(false,eval b X.env)]:=by rfl)(FA:starEach [b] X.env=[(false,eval b X.env)]:=by rfl) :
  PI X tg (.Call (.Name "range" p) [a,b] [] pos) (ZdA ta):=by
 intro pins s σ H R I h;refine Call_<|jt I hg hm boot_range<|A9 (thn (ha pos pins s σ H _ I h) λus s1 E4=>?_) (by rw[hs,FA])<|by rw[FA];rfl
 obtain⟨vs,H1,I1,r1,q1⟩:=E4;obtain⟨i,j,e,⟨q1,q2,q3,q4⟩,q⟩:=q1;subst e;cases r1 with
 | cons r rr =>
  cases rr with
  | cons r' rr =>
   cases rr;obtain⟨t,rfl⟩:=r;obtain⟨t',rfl⟩:=r';exact call_range_2<|ZbT I1 q1 q2 q3 q4 q
def ZgM(wi:TI)(g:TG)(tb:TS):TS:=λD σ H=>wi σ H λJ H1=>∃W:Nat->Nat->St->Hp->Prop,(∃m,W 0 m σ H1)/\∀i m σ H,W i m σ H ->
 (J.stop i H/\D.nx σ H)\/(J.go i H/\∃N:St->Hp->Prop,(∀σ' H',N σ' H'->∃m',m'<m/\W (i+1) m' σ' H')/\∀x H',J.yld i H x H'->g x σ H' λσ2 H2=>tb {D with nx:=N,ct:=N,bk:=D.nx} σ2 H2)
def eO(fp:EQ EV)(h:EZ):EQ (EV×Obj):=fp.filterMap λb=>(h.get? b).map λo=>(b,o)
def er{fp:EQ EV}{h:EZ}{b:EV}{o:Obj}(hb:b∈fp)(e:h.get? b=some o):(b,o)∈eO fp h:=BY.mpr ⟨b,hb,by rw[e];rfl⟩
def Zjf{fp:EQ EV}{h:EZ}{p:EV×Obj}(hp:p∈eO fp h):p.1∈fp/\h.get? p.1=some p.2:=by
 obtain⟨b,hb,e⟩:=BY.mp hp;cases q:h.get? b with
 |none=>rw[q]at e;cases e
 | some o =>
  rw[q]at e;have e':(b,o)=p:=AA e;subst e';exact⟨hb,q⟩
def Inv.pinned{pins:EQ (EV×Obj)}{s:EU}{fp:EQ EV}(I:Inv X pins σ H s)(hf:∀b∈fp,eL X pins H b)(ho:∀b∈fp,∃o,s.heap.get? b=some o/\∀v,o.data≠.cell v):Inv X (pins++eO fp s.heap) σ H s :=
 I.pins_of λp hp=>(Bs.mp hp).elim (λz=>I.pin p<|Ae _ z) λz=>by obtain⟨hb,e⟩:=Zjf z;obtain⟨f0,f1,f2,_⟩:=hf p.1 hb;obtain⟨o,e',d⟩:=ho p.1 hb;rw[e]at e';cases e';exact⟨e,f0,f1,f2,d⟩
def Inv.unpinned{pins pl:EQ (EV×Obj)}{s:EU}(I:Inv X (pins++pl) σ H s):Inv X pins σ H s:=I.pins_of λp hp=>I.pin p<|Ae _<|AR _ hp
def Zim{iter:E1}{body:EQ E3}{wi:TI}{g:TG}{tb:TS}{pos:Pos}(hp:PassesOwn (model X.prog X.w) X.A X.env X.xe)(hc:X.calm=true)(hi:PI X tg iter wi)(hg:PG X tg g)(hb:PSs X body tb)
  (hs:∀x,foldedSetIterable iter X.env x=pure x:=by intro _;rfl):PS X (.For tg iter body [] pos) (ZgM wi g tb):=by
 intro pins s σ H D I h;refine wpAny_For (thn (hi pins s σ H _ I h) λv s1 h1=>thn h1 λitv s2 h2=>?_) hs;obtain⟨it,fp,tn,J,H2,e,I2,T,st2,f2,W,⟨m0,w0⟩,turn⟩:=h2;subst e
 -- what stays true of the iterator's objects through the loop
 have stat:∀{H':Hp},(∀b∈fp,H' b=none)->∀b∈fp,eL X pins H' b:=λhn b hb=>⟨hn b hb,(f2 b hb).2⟩;refine codeAny_forLoop_any (λn s'=>∃i σ' H',Inv X pins σ' H' s'/\tn i s'.heap/\(∀b∈fp,H' b=none)/\W i n σ' H') ?_ m0 ⟨0,σ,H2,I2,st2,λb hb=>(f2 b hb).1,w0⟩;rintro n s3 ⟨i,σ3,H3,I3,st3,fr3,w3⟩;rcases turn i n σ3 H3 w3 with ⟨stop,qn⟩|⟨go,N,hN,step⟩
 ·refine DZ hp (thn (T.done X rfl rfl rfl hc i pins s3 σ3 H3 X.xe I3 (stat fr3) st3 stop) λr s4 E4=>?_);obtain⟨hr,I4⟩:=E4;subst hr;exact Ey ⟨σ3,H3,I4,qn⟩
 ·refine DZ hp (thn (T.item X rfl rfl rfl hc i pins s3 σ3 H3 X.xe I3 (stat fr3) st3 go) λr s4 E4=>?_);obtain⟨u,hr,h4⟩:=E4;subst hr;refine DZ hp (thn h4 λ_ s5 E4=>?_);obtain⟨x,H5,I5,r5,y5,st5,fr5⟩:=E4;have I5':=I5.pinned (stat fr5)<|T.obj _ _ st5;refine DZ hp (thn (hg _ s5 σ3 H5 x u _ I5' r5<|step x H5 y5) λ_ s6 E4=>?_);obtain⟨σ6,H6,I6,q6⟩:=E4;refine DZ hp (thn (hb _ s6 σ6 H6 _ I6 q6) λf s7 q7=>?_);have again:∀{σ7:St}{H7:Hp},Inv X (pins++eO fp s5.heap) σ7 H7 s7->N σ7 H7->∃m,m<n/\∃i σ' H',Inv X pins σ' H' s7/\tn i s7.heap/\(∀b∈fp,H' b=none)/\W i m σ' H':=λ{σ7 H7} I7 n7=>by obtain⟨m',hm,w7⟩:=hN σ7 H7 n7;refine⟨m',hm,i+1,σ7,H7,I7.unpinned,T.keep _ _ _ st5 λb hb o e=>(I7.pin (b,o)<|Ae _<|Ae _<|er hb e).1,λb hb=>?_,w7⟩;obtain⟨o,e,d⟩:=T.obj _ _ st5 b hb;exact(I7.pin (b,o)<|Ae _<|Ae _<|er hb e).2.1
  cases f with
  |next=>obtain⟨σ7,H7,I7,n7⟩:=q7;exact again I7 n7
  |cont=>obtain⟨σ7,H7,I7,n7⟩:=q7;exact again I7 n7
  |brk=>obtain⟨σ7,H7,I7,q7⟩:=q7;exact⟨σ7,H7,I7.unpinned,q7⟩
  |ret v=>obtain⟨x7,σ7,H7,I7,r7,q7⟩:=q7;exact⟨x7,σ7,H7,I7.unpinned,r7,q7⟩
end
abbrev R2:=V->V->Hp->VK->Prop
def OpR(X:Cx)(f:ET->ET->Sem ET)(r:R2):Prop :=
 ∀(pins:EQ (EV×Obj))(s:EU)(σ:St)(H:Hp)(x y:V)(v u:ET)(Q:VK),Inv X pins σ H s->RelV x v->RelV y u->r x y H Q ->
  wpAny (model X.prog X.w) X.A (f v u) (EP X pins σ Q) X.xe s
def zE(X:Cx)(f:ET->Sem ET)(r:V->Hp->VK->Prop):Prop :=
 ∀(pins:EQ (EV×Obj))(s:EU)(σ:St)(H:Hp)(x:V)(v:ET)(Q:VK),Inv X pins σ H s->RelV x v->r x H Q ->
  wpAny (model X.prog X.w) X.A (f v) (EP X pins σ Q) X.xe s
def dH(X:Cx)(f:ET)(r:EQ V->Hp->VK->Prop):Prop :=
 ∀(pins:EQ (EV×Obj))(s:EU)(σ:St)(H:Hp)(xs:Dx)(us:Dv)(Q:VK),Inv X pins σ H s->Vals xs us->r xs H Q ->
  wpAny (model X.prog X.w) X.A (call f us) (EP X pins σ Q) X.xe s
def Zoc(X:Cx)(r:V->Hp->(Bool->Hp->Prop)->Prop):Prop :=
 ∀(pins:EQ (EV×Obj))(s:EU)(σ:St)(H:Hp)(x:V)(v:ET)(Q:Bool->Hp->Prop),Inv X pins σ H s->RelV x v->r x H Q ->
  wpAny (model X.prog X.w) X.A (truthy v) (TP X pins σ Q) X.xe s
def hZ(r:R2)(ta tb:TE):TE:=λσ H Q=>ta σ H λx H1=>tb σ H1 λy H2=>r x y H2 Q
def tUn(r:V->Hp->VK->Prop)(ta:TE):TE:=λσ H Q=>ta σ H λx H1=>r x H1 Q
def rI(C:Int->Int->Prop)(g:Int->Int->V):R2:=λx y H Q=>∃i j,x=.int i/\y=.int j/\C i j/\Q (g i j) H
def eN(g:Int->Int->V):R2:=λx y H Q=>∃i j,x=.int i/\y=.int j/\Q (g i j) H
def rU(g:Int->V):V->Hp->VK->Prop:=λx H Q=>∃i,x=.int i/\Q (g i) H
section
variable{a b c:E1}{tb tc:TE}{pos:Pos}
def yW(ha:PE X a ta)(hb:PE X b tb){pins:EQ (EV×Obj)}{s:EU}{R:V->V->Hp->Prop}(I:Inv X pins σ H s)
  (h:ta σ H λx H1=>tb σ H1 λy H2=>R x y H2) {Q:Ds} {f:ET->ET->Sem ET}
  (hf:∀v u s2 x y H2,Inv X pins σ H2 s2->RelV x v->RelV y u->R x y H2->wpAny (model X.prog X.w) X.A (f v u) Q X.xe s2) :
  wpAny (model X.prog X.w) X.A (eval a X.env) (λv s₁=>wpAny (model X.prog X.w) X.A (eval b X.env) (λu s₂=>wpAny (model X.prog X.w) X.A (f v u) Q X.xe s₂) X.xe s₁) X.xe s:=by refine thn (ha pins s σ H _ I h) λv s1 E4=>?_;obtain⟨x,H1,I1,r1,q1⟩:=E4;refine thn (hb pins s1 σ H1 _ I1 q1) λu s2 E4=>?_;obtain⟨y,H2,I2,r2,q2⟩:=E4;exact hf v u s2 x y H2 I2 r1 r2 q2
def cy{op:Operator}{r:R2}(ho:OpR X (binaryOp op) r)(ha:PE X a ta)(hb:PE X b tb):PE X (.BinOp a op b pos) (hZ r ta tb):=by intro pins s σ H Q I h;exact wpAny_BinOp<|yW ha hb I h λv u s2 x y H2 I2 rx ry q=>ho pins s2 σ H2 x y v u Q I2 rx ry q
def ZiF{op:UnaryOp}{r:V->Hp->VK->Prop}(ho:zE X (unaryOp op) r)(ha:PE X a ta):PE X (.UnaryOp op a pos) (tUn r ta):=by intro pins s σ H Q I h;exact UnaryOp_<|thn (ha pins s σ H _ I h) λv s1 ⟨x,H1,I1,r1,q1⟩=>ho pins s1 σ H1 x v Q I1 r1 q1
def iq{f:ET->ET->Sem ET}{C:Int->Int->Prop}{g:Int->Int->Int}
  (rule:∀(i j:Int)(t u:Tok)(s:EU)(Q:Ds)(E:Ds),C i j->Q (.int (g i j) s.toks) {s with toks:=s.toks+1}->wpAny (model X.prog X.w) X.A (f (.int i t)<|.int j u) Q E s) :
  OpR X f (rI C λi j=>.int<|g i j):=by intro pins s σ H x y v u Q I rx ry h;obtain⟨i,j,rfl,rfl,hc,q⟩:=h;obtain⟨t,rfl⟩:=rx;obtain⟨t',rfl⟩:=ry;exact rule i j t t' s _ _ hc ⟨.int<|g i j,H,I.tok _,⟨_,rfl⟩,q⟩
def xF{f:ET->ET->Sem ET}{g:Int->Int->Int}
  (rule:∀(i j:Int)(t u:Tok)(s:EU)(Q:Ds)(E:Ds),Q (.int (g i j) s.toks) {s with toks:=s.toks+1}->wpAny (model X.prog X.w) X.A (f (.int i t)<|.int j u) Q E s) :
  OpR X f (eN λi j=>.int<|g i j):=by intro pins s σ H x y v u Q I rx ry h;obtain⟨i,j,rfl,rfl,q⟩:=h;obtain⟨t,rfl⟩:=rx;obtain⟨t',rfl⟩:=ry;exact rule i j t t' s _ _ ⟨.int<|g i j,H,I.tok _,⟨_,rfl⟩,q⟩
def tO{f:ET->ET->Sem ET}{g:Int->Int->Bool}
  (rule:∀(i j:Int)(t u:Tok)(s:EU)(Q:Ds)(E:Ds),Q (.bool<|g i j) s->wpAny (model X.prog X.w) X.A (f (.int i t)<|.int j u) Q E s) :
  OpR X f (eN λi j=>.bl<|g i j):=by intro pins s σ H x y v u Q I rx ry h;obtain⟨i,j,rfl,rfl,q⟩:=h;obtain⟨t,rfl⟩:=rx;obtain⟨t',rfl⟩:=ry;exact rule i j t t' s _ _ ⟨.bl<|g i j,H,I,rfl,q⟩
def ZoB(i j:Int):Prop:=0<j/\j<1073741824
def ZfL(i j:Int):Prop:=0<=j/\j<=1000000/\i.natAbs<2^64
def CMul(i j:Int):Prop:=(-(2^64)<i/\i<2^64)\/(-(2^64)<j/\j<2^64)
def CMul.ok{i j:Int}(h:CMul i j):IntMulOk i j:=by
 rcases h with ⟨h1,h2⟩|⟨h1,h2⟩
 ·exact .of_left<|intBits_le_64 h1 h2
 ·exact .of_right<|intBits_le_64 h1 h2
def jf:OpR X (binaryOp .Add) (eN λi j=>.int<|i+j):=xF λ_ _ _ _ _ _ _ q=>add_int q
def ZiV:OpR X (binaryOp .Sub) (eN λi j=>.int<|i-j):=xF λ_ _ _ _ _ _ _ q=>sub_int q
def xC:OpR X (binaryOp .Mult) (rI CMul λi j=>.int<|i*j):=iq λ_ _ _ _ _ _ _ hc q=>mul_int q hc.ok
def xE:OpR X (binaryOp .FloorDiv) (rI ZoB λi j=>.int<|i / j):=iq λi j _ _ _ _ _ hc q=>by have h1:(0:Int)<j:=hc.1;have h2:j<1073741824:=hc.2;exact floordiv_int (by omega) (by rw[Int.fdiv_eq_ediv_of_nonneg i<|by omega];exact q)<|.inl<|PyProof.noPylong_small<|by omega
def ip:OpR X (binaryOp .Mod) (rI (λ_ j=>0<j) λi j=>.int<|i%j):=iq λi j _ _ _ _ _ hc q=>by have h1:(0:Int)<j:=hc;exact mod_int' (by omega)<|by rw[C0 i<|by omega];exact q
def kI:OpR X (binaryOp .Mod) (rI (λ_ j=>j≠0) λi j=>.int<|i.fmod j):=iq λ_ _ _ _ _ _ _ hc q=>mod_int' hc q
def qM:OpR X (binaryOp .Pow) (rI ZfL λi j=>.int<|i^j.toNat):=iq λ_ _ _ _ _ _ _ hc q=>pow_int_small hc.1 hc.2.1 hc.2.2 q
def Zdu:OpR X (inplaceOp .Add) (eN λi j=>.int<|i+j):=xF λ_ _ _ _ _ _ _ q=>iadd_int q
def unI{f:ET->Sem ET}{g:Int->Int}
  (rule:∀(i:Int)(t:Tok)(s:EU)(Q:Ds)(E:Ds),Q (.int (g i) s.toks) {s with toks:=s.toks+1}->wpAny (model X.prog X.w) X.A (f<|.int i t) Q E s) :
  zE X f (rU λi=>.int<|g i):=by intro pins s σ H x v Q I rx h;obtain⟨i,rfl,q⟩:=h;obtain⟨t,rfl⟩:=rx;exact rule i t s _ _ ⟨.int<|g i,H,I.tok _,⟨_,rfl⟩,q⟩
def Zgd:zE X (unaryOp .USub) (rU λi=>.int<|-i):=unI λ_ _ _ _ _ q=>neg_int q
end
noncomputable def scal:V->V->Bool
 |.non,.non=>true|.non,.int _=>true|.int _,.non=>true|.non,.bl _=>true|.bl _,.non=>true|.non,.str _=>true|.str _,.non=>true
 |.int _,.int _=>true|.bl _,.bl _=>true|.str _,.str _=>true|.byt _,.byt _=>true
 |.int _,.str _=>true|.str _,.int _=>true|.bl _,.str _=>true|.str _,.bl _=>true
 |_,_=>false
def rEq:R2:=λx y H Q=>scal x y=true/\Q (.bl<|decide (x=y)) H
def rNe:R2:=λx y H Q=>scal x y=true/\Q (.bl<|!decide (x=y)) H
def Zew{i j:Int}:decide (V.int i=V.int j)=(i==j):=by rw[Ce];simp
def Zey{i j:Bool}:decide (V.bl i=V.bl j)=(i==j):=by rw[Ce];simp
def uR{i j:Str}:decide (V.str i=V.str j)=(i==j):=by rw[Ce];simp
def Zex{i j:Array UInt8}:decide (V.byt i=V.byt j)=(i.toList==j.toList):=by rw[Ce];cases i;cases j;simp
section
variable{a b c:E1}{tb tc:TE}{pos:Pos}
def b8{pins:EQ (EV×Obj)}{s:EU}{k k':Bool}(I:Inv X pins σ H s)(q:Q (.bl k) H)(e:k=k'):EP X pins σ Q (.bool k') s:=by subst e;exact⟨.bl k,H,I,rfl,q⟩
def Zi5:OpR X (compareOp .Eq) rEq:=by
 intro pins s σ H x y v u Q I rx ry h;obtain⟨hs,q⟩:=h;cases x with
 | non =>
  cases rx;cases y with
  |non=>cases ry;exact PySem.EqNone.eq_none_none (b8 I q<|by simp)
  |bl j=>cases ry;exact PySem.EqNone.eq_none_bool (b8 I q<|by simp)
  |int j=>obtain⟨t',rfl⟩:=ry;exact PySem.EqNone.eq_none_int (b8 I q<|by simp)
  |str j=>obtain⟨t',rfl⟩:=ry;exact PySem.EqNone.eq_none_str (b8 I q<|by simp)
  |_=>exact absurd (show false=true from hs) As
 | bl i =>
  cases rx;cases y with
  |non=>cases ry;exact PySem.EqNone.eq_bool_none (b8 I q<|by simp)
  |bl j=>cases ry;exact eq_bool (b8 I q Zey)
  |str j=>obtain⟨t',rfl⟩:=ry;exact PySem.EqMixed.eq_bool_str (b8 I q<|by simp)
  |_=>exact absurd (show false=true from hs) As
 | int i =>
  obtain⟨t,rfl⟩:=rx;cases y with
  |non=>cases ry;exact PySem.EqNone.eq_int_none (b8 I q<|by simp)
  |int j=>obtain⟨t',rfl⟩:=ry;exact eq_int (b8 I q Zew)
  |str j=>obtain⟨t',rfl⟩:=ry;exact PySem.EqMixed.eq_int_str (b8 I q<|by simp)
  |_=>exact absurd (show false=true from hs) As
 | str i =>
  obtain⟨t,rfl⟩:=rx;cases y with
  |non=>cases ry;exact PySem.EqNone.eq_str_none (b8 I q<|by simp)
  |bl j=>cases ry;exact PySem.EqMixed.eq_str_bool (b8 I q<|by simp)
  |int j=>obtain⟨t',rfl⟩:=ry;exact PySem.EqMixed.eq_str_int (b8 I q<|by simp)
  |str j=>obtain⟨t',rfl⟩:=ry;exact eq_str (b8 I q uR)
  |_=>exact absurd (show false=true from hs) As
 | byt i =>
  obtain⟨t,rfl⟩:=rx;cases y with
  |byt j=>obtain⟨t',rfl⟩:=ry;exact PySem.W.eq_bytes (b8 I q Zex)
  |_=>exact absurd (show false=true from hs) As
 |_=>cases y <;> exact absurd (show false=true from hs) As
def Zi0:OpR X (compareOp .NotEq) rNe:=by
 intro pins s σ H x y v u Q I rx ry h;obtain⟨hs,q⟩:=h;cases x with
 | non =>
  cases rx;cases y with
  |non=>cases ry;exact PySem.EqNone.ne_none_none (b8 I q<|by simp)
  |bl j=>cases ry;exact PySem.EqNone.ne_none_bool (b8 I q<|by simp)
  |int j=>obtain⟨t',rfl⟩:=ry;exact PySem.EqNone.ne_none_int (b8 I q<|by simp)
  |str j=>obtain⟨t',rfl⟩:=ry;exact PySem.EqNone.ne_none_str (b8 I q<|by simp)
  |_=>exact absurd (show false=true from hs) As
 | bl i =>
  cases rx;cases y with
  |non=>cases ry;exact PySem.EqNone.ne_bool_none (b8 I q<|by simp)
  |bl j=>cases ry;exact ne_bool (b8 I q<|DI not Zey)
  |str j=>obtain⟨t',rfl⟩:=ry;exact PySem.EqMixed.ne_bool_str (b8 I q<|by simp)
  |_=>exact absurd (show false=true from hs) As
 | int i =>
  obtain⟨t,rfl⟩:=rx;cases y with
  |non=>cases ry;exact PySem.EqNone.ne_int_none (b8 I q<|by simp)
  |int j=>obtain⟨t',rfl⟩:=ry;exact ne_int (b8 I q<|DI not Zew)
  |str j=>obtain⟨t',rfl⟩:=ry;exact PySem.EqMixed.ne_int_str (b8 I q<|by simp)
  |_=>exact absurd (show false=true from hs) As
 | str i =>
  obtain⟨t,rfl⟩:=rx;cases y with
  |non=>cases ry;exact PySem.EqNone.ne_str_none (b8 I q<|by simp)
  |bl j=>cases ry;exact PySem.EqMixed.ne_str_bool (b8 I q<|by simp)
  |int j=>obtain⟨t',rfl⟩:=ry;exact PySem.EqMixed.ne_str_int (b8 I q<|by simp)
  |str j=>obtain⟨t',rfl⟩:=ry;exact ne_str (b8 I q<|DI not uR)
  |_=>exact absurd (show false=true from hs) As
 | byt i =>
  obtain⟨t,rfl⟩:=rx;cases y with
  |byt j=>obtain⟨t',rfl⟩:=ry;exact PySem.W.ne_bytes (b8 I q<|DI not Zex)
  |_=>exact absurd (show false=true from hs) As
 |_=>cases y <;> exact absurd (show false=true from hs) As
def xD:OpR X (compareOp .Lt) (eN λi j=>.bl<|decide (i<j)):=tO λ_ _ _ _ _ _ _ q=>lt_int q
def ZcJ:OpR X (compareOp .LtE) (eN λi j=>.bl<|decide (i<=j)):=tO λ_ _ _ _ _ _ _ q=>le_int q
def kJ:OpR X (compareOp .Gt) (eN λi j=>.bl<|decide (j<i)):=tO λ_ _ _ _ _ _ _ q=>gt_int q
def Zi3:OpR X (compareOp .GtE) (eN λi j=>.bl<|decide (j<=i)):=tO λ_ _ _ _ _ _ _ q=>ge_int q
def OpR.or{f:ET->ET->Sem ET}{r r':R2}(h:OpR X f r)(h':OpR X f r'):OpR X f (λx y H Q=>r x y H Q\/r' x y H Q):=by
 intro pins s σ H x y v u Q I rx ry q;rcases q with q|q
 ·exact h pins s σ H x y v u Q I rx ry q
 ·exact h' pins s σ H x y v u Q I rx ry q
def nomark(b:E1){op:CmpOp}(h:op≠.In:=by decide)(h2:op≠.NotIn:=by decide):behindInMarks op b=false:=by
 have e1:(op==CmpOp.In)=false:=by cases op <;> first|rfl|exact absurd rfl h
 have e2:(op==CmpOp.NotIn)=false:=by cases op <;> first|rfl|exact absurd rfl h2
 cases b <;> first|rfl|(show(_&&(op==CmpOp.In || op==CmpOp.NotIn)&&_)=false;rw[e1,e2,Bool.or_false,Bool.and_false,C7])
def ZiM{op:CmpOp}{r:R2}(ho:OpR X (compareOp op) r)(ha:PE X a ta)(hb:PE X b tb)(hm:behindInMarks op b=false):PE X (.Compare a [op] [b] pos) (hZ r ta tb):=by intro pins s σ H Q I h;exact wpAny_Compare1 (yW ha hb I h λv u s2 x y H2 I2 rx ry q=>ho pins s2 σ H2 x y v u Q I2 rx ry q) hm
def sy(t:TE):TT:=λσ H Q=>t σ H λx H'=>∃k,x=.bl k/\Q k H'
def qG{op:CmpOp}{r:R2}(ho:OpR X (compareOp op) r)(ha:PE X a ta)(hb:PE X b tb)(hm:behindInMarks op b=false):PT X (.Compare a [op] [b] pos) (sy<|hZ r ta tb):=by
 intro pins s σ H Q I h;refine wpAny_isTrue_Compare1 (thn (ha pins s σ H _ I h) λv s1 ⟨x,H1,I1,r1,q1⟩=>thn (hb pins s1 σ H1 _ I1 q1) λu s2 ⟨y,H2,I2,r2,q2⟩ =>
  thn (ho pins s2 σ H2 x y v u _ I2 r1 r2 q2) λc s3 ⟨z,H3,I3,r3,k,e,q3⟩=>?_) hm
 subst e;cases r3;exact Eo ⟨H3,I3,q3⟩
def Zfw(K:Dh)(x:V)(H:Hp)(k:Bool):Prop :=
 match x with
 |.non=>k=false
 |.bl b=>k=b
 |.int i=>k=(i != 0)
 |.str y=>y.length<=sizeLine/\k=((y.length:Int) != 0)
 |.byt y=>y.size<=sizeLine/\k=((y.size:Int) != 0)
 |.ref p=>(∃xs,SqL K H p xs/\k=!xs.isEmpty)\/(∃xs,SqT K H p xs/\k=!xs.isEmpty)\/∃kvs,H p=some (.dK kvs)/\k=!kvs.isEmpty
 |_=>False
def Zko{κ:Type}{kvs:EQ (κ×V)}{vs:EQ (κ×ET)}(r:KV kvs vs):(!vs.isEmpty)=!kvs.isEmpty:=by cases r <;> rfl
def Zds{E5:Dv}(r:Vals xs E5):(!E5.toArray.isEmpty)=!xs.isEmpty:=by cases r <;> simp
def jq:(sizeLine:Nat)<2^63:=by rw[DV];decide
def Zgq:Zoc X (λx H Q=>∃k,Zfw X.K x H k/\Q k H):=by
 intro pins s σ H x v Q I rx h;obtain⟨k,e,q⟩:=h;have hl:=jq;have hs:sizeLine=16777216:=DV;cases x with
 | non =>
  cases rx;have e':k=false:=e;subst e';exact truthy_none ⟨H,I,q⟩
 | bl b =>
  cases rx;have e':k=b:=e;subst e';exact Eo ⟨H,I,q⟩
 | int i =>
  obtain⟨t,rfl⟩:=rx;have e':k=(i != 0):=e;subst e';exact PySem.P.truthy_int ⟨H,I,q⟩
 | str y =>
  obtain⟨t,rfl⟩:=rx;obtain⟨hy,e'⟩:y.length<=sizeLine/\k=((y.length:Int) != 0):=e;subst e';exact PySem.P.truthy_str (by omega) ⟨H,I.tok _,q⟩
 | byt y =>
  obtain⟨t,rfl⟩:=rx;obtain⟨hy,e'⟩:y.size<=sizeLine/\k=((y.size:Int) != 0):=e;subst e';exact PySem.W.truthy_bytes (by omega) ⟨H,I.tok _,q⟩
 | ref p =>
  cases rx;have e':(∃xs,SqL X.K H p xs/\k=!xs.isEmpty)\/(∃xs,SqT X.K H p xs/\k=!xs.isEmpty)\/∃kvs,H p=some (.dK kvs)/\k=!kvs.isEmpty:=e;rcases e' with ⟨xs,hx,e'⟩|⟨xs,hx,e'⟩|⟨kvs,hx,e'⟩
  ·subst e';obtain⟨E5,r,pl,hz⟩:=I.list hx;have hlen:=r.length;exact wpAny_truthy_list pl.isList (by simp only[Am];omega) ⟨H,I.tok _,by rw[Zds r];exact q⟩
  ·subst e';obtain⟨E5,r,pl,hz⟩:=I.tuple hx;have hlen:=r.length;exact truthy_tuple pl (by simp only[Am];omega) ⟨H,I.tok _,by rw[Zds r];exact q⟩
  ·subst e';obtain⟨hz,hS,vs,r,m⟩:kvs.length<=sizeLine/\(p==sysModules)=false/\∃vs,KV kvs vs/\s.heap.DictOf (bH X.prog X.w) p vs:=I.hok p _ hx;have hlen:kvs.length=vs.length:=Paired.length r;exact wpAny_truthy_dict hS m (by omega) ⟨H,I.tok _,by rw[Zko r];exact q⟩
 |_=>exact(show False from e).elim
def Zif(ha:PE X a ta)(he:∀whole,isTrue a X.env whole=(do let v <- whole;standAt a.pos;holding [v] (truthy v))) :
  PT X a (λσ H Q=>ta σ H λx H'=>∃k,Zfw X.K x H' k/\Q k H'):=by intro pins s σ H Q I h;exact isTrue_plain (thn (ha pins s σ H _ I h) λv s1 ⟨x,H1,I1,r1,q1⟩=>Zgq pins s1 σ H1 x v Q I1 r1 q1)<|he _
def dW{x:V}{us:Dv}(r:Vals [x] us):∃u,us=[u]/\RelV x u:=by
 cases r with
 |cons r1 r2=>cases r2;exact⟨_,rfl,r1⟩
def vX{x y:V}{us:Dv}(r:Vals [x,y] us):∃u w',us=[u,w']/\RelV x u/\RelV y w':=by
 cases r with
 | cons r1 r2 =>
  cases r2 with
  |cons r3 r4=>cases r4;exact⟨_,_,rfl,r1,r3⟩
def pM:dH X (.builtin "abs") (λxs H Q=>∃i,xs=[.int i]/\Q (.int<|if i<0 then -i else i) H):=by intro pins s σ H xs us Q I r h;obtain⟨i,rfl,q⟩:=h;obtain⟨u,rfl,t,rfl⟩:=dW r;exact call_abs_int λu tk=>⟨.int<|if i<0 then -i else i,H,I.tok _,⟨_,rfl⟩,q⟩
def pL(hc:X.calm=true):dH X (.builtin "max") (λxs H Q=>∃i j,xs=[.int i,.int j]/\Q (.int<|if j>i then j else i) H):=by
 intro pins s σ H xs us Q I r h;obtain⟨i,j,rfl,q⟩:=h;obtain⟨u,w',rfl,⟨t,rfl⟩,⟨t',rfl⟩⟩:=vX r;refine max_two_ints (I.ok.hd hc) λh' tk k=>⟨_,H,I.kept k,?_,q⟩;by_cases hj:j>i
 ·rw[DD hj,DD hj];exact⟨_,rfl⟩
 ·rw[DF hj,DF hj];exact⟨_,rfl⟩
def ZmS:dH X (.type "int") (λxs H Q=>(∃i,xs=[.int i]/\Q (.int i) H)\/∃k,xs=[.bl k]/\Q (.int<|if k then 1 else 0) H):=by
 intro pins s σ H xs us Q I r h;rcases h with ⟨i,rfl,q⟩|⟨k,rfl,q⟩
 ·obtain⟨u,rfl,t,rfl⟩:=dW r;exact call_int_int ⟨.int i,H,I,⟨_,rfl⟩,q⟩
 ·obtain⟨u,rfl,r1⟩:=dW r;cases r1;exact call_int_bool ⟨.int<|if k then 1 else 0,H,I.tok _,⟨_,rfl⟩,q⟩
end
section
variable{prog:EW}{w:EX}{A:EY}{E:Ds}{s:EU}{K:Dh}{x dx C f:EV}{mA:Dy}{v:ET}
end
def RelO.some_of{o:ER ET}(r:RelO (some v) o):∃u,o=some u/\RelV v u:=by
 cases o with
 |none=>exact(show False from r).elim
 |some u=>exact⟨u,rfl,r⟩
section
variable{P:EW}{w:EX}{h h':EZ}{a C dx:EV}{fs fs':EQ (Str×V)}
end
section
variable{pins:EQ (EV×Obj)}{s:EU}{a C dx:EV}{fs:EQ (Str×V)}{f:Str}{A:EY}{E:Ds}
end
section
variable{o e value:E1}{f:Str}{pos pos' tpos:Pos}{tv:TE}
end
section
variable{pins:EQ (EV×Obj)}{s:EU}{A:EY}{E:Ds}{Q:Ds}{c:ET}{b:Bool}
end
structure Room(k:Nat)(A:EY):Prop where
 hd:A.handled=none
 dp:A.depth+3*k+5<recursionLimit
 un:A.units+16*k+200<cLine
 gd:A.guards=some []
def Room.mono{j:Nat}{A:EY}(r:Room k A)(h:j<=k):Room j A:=⟨r.hd,by have:=r.dp;omega,by have:=r.un;omega,r.gd⟩
theorem Room.deeper{k:Nat}{A:EY}(r:Room (k+1) A)(env:Env):Room k (A.deeper env) :=
 ⟨r.hd,by have:=r.dp;show A.depth+1+3*k+5<_;omega,by have:=r.un;show A.units+3+16*k+200<_;omega,r.gd⟩
theorem Room.depth{k:Nat}{A:EY}(r:Room k A):A.depth<recursionLimit:=by have:=r.dp;omega
theorem Room.units{k:Nat}{A:EY}(r:Room k A):A.units+64<cLine:=by have:=r.un;omega
def Room.units0{A:EY}(r:Room k A):A.units<cLine:=by have:=r.un;omega
def aT:TA:=λ_ H Q=>Q [] H
def fI(ta:TE)(tr:TA):TA:=λσ H Q=>ta σ H λx H1=>tr σ H1 λxs H2=>Q (x::xs) H2
section
variable{e:E1}{es:EQ E1}{t:TA}{pos:Pos}
def cL:PA X [] aT:=λ_ _ _ _ H Q I h=>Calls.spliced_nil ⟨[],H,I,.nil,h⟩
def ci(ha:PE X e te)(hr:PA X es t)(hs:starEach (e::es) X.env=(false,eval e X.env)::starEach es X.env:=by rfl):PA X (e::es) (fI te t):=by
 intro pos pins s σ H Q I h;rw[hs];show wpAny _ _ (spliced ((false,eval e X.env)::backTo pos (starEach es X.env))) _ _ s;refine Calls.spliced_cons (thn (ha pins s σ H _ I h) λu s1 E4=>?_);obtain⟨x,H1,I1,r1,q1⟩:=E4;exact thn (hr pos pins s1 σ H1 _ I1 q1) λus s2 E4=>by obtain⟨xs,H2,I2,r2,q2⟩:=E4;exact⟨x::xs,H2,I2,.cons r1 r2,q2⟩
def Zgw(t:TA):TE:=λσ H Q=>t σ H λxs H1=>xs.length<=sizeLine/\∀p,H1 p=none->Q (.ref p) (upd H1 p<|.tup xs)
def ZgH(t:TA):TE:=λσ H Q=>t σ H λxs H1=>xs.length<=sizeLine/\∀p,H1 p=none->Q (.ref p) (upd H1 p<|.lst xs)
def ZiG{x1}(h:PA X es t):PE X (.Tuple es x1 pos) (Zgw t):=by
 intro pins s σ H Q I hq;refine wpAny_Tuple_spliced<|thn (h pos pins s σ H _ I hq) λus s1 ⟨xs,H1,I1,r,z,q⟩=>⟨by rw[<- r.length];exact z,?_⟩
 have hf:H1 s1.heap.objs.size=none:=I1.hok.fresh<|Ag _;refine⟨.ref s1.heap.objs.size,upd H1 s1.heap.objs.size<|.tup xs,I1.laid (t':=s1.toks) (λb u e=>Aa _ e) (Ag _) ?_,rfl,q _ hf⟩;exact⟨z,us,r,⟨_,Ai _ rfl,rfl,_,rfl⟩⟩
def xw(h:PA X es t):PE X (.List es pos) (ZgH t):=by
 intro pins s σ H Q I hq;refine wpAny_List_spliced<|thn (h pos pins s σ H _ I hq) λus s1 ⟨xs,H1,I1,r,z,q⟩=>⟨by rw[<- r.length];exact z,?_⟩
 have hf:H1 s1.heap.objs.size=none:=I1.hok.fresh<|Ag _;refine⟨.ref s1.heap.objs.size,upd H1 s1.heap.objs.size<|.lst xs,I1.laid (t':=s1.toks) (λb u e=>Aa _ e) (Ag _) ?_,rfl,q _ hf⟩;exact⟨z,us,0,r,Ai _ rfl⟩
end
abbrev Sp:=EQ V->Hp->VK->XK->Prop
abbrev e9:=EQ Env->Hp->EU->XK->ET->EU->Prop
structure Env0(P:EW)(w:EX)(K:Dh)(mg:Dy)(base:EZ)(A:EY)(outer:List Env)(s:EU)(H:Hp):Prop where
 frames:A.frames=some outer
 mod:Mod K mg base
 bs:∀b o,base.get? b=some o->s.heap.get? b=some o/\H b=none
 bsz:base.objs.size<=s.heap.objs.size
 funs:s.heap.FunFrames base outer
 frf:∀b∈frs outer,H b=none
 hok:HOk P w H s.heap
 bare:AllBare s.gens
def CE(outer:EQ Env)(P:EW)(w:EX)(H:Hp)(s:EU)(Q:VK)(u:ET)(s':EU):Prop :=
 ∃v H',s'.os=s.os/\AllBare s'.gens/\Un (frs outer) [] H H' s.heap s'.heap/\HOk P w H' s'.heap/\RelV v u/\Q v H'
def CR(CX:e9)(outer:EQ Env)(P:EW)(w:EX)(H:Hp)(s:EU)(Q:VK)(E:XK)(r:Result)(s':EU):Prop :=
 match r with
 |.ok (.ret u)=>CE outer P w H s Q u s'
 |.ok _=>False
 |.error e=>CX outer H s E e s'
structure FnOk(P:EW)(w:EX)(K:Dh)(mg:Dy)(base:EZ)(CX:e9)(k:Nat)(f:EV)(fd:FuncData)(ps:Dw)(sp:Sp):Prop where
 len:∀vs H Q E,sp vs H Q E->vs.length=ps.length
 run:∀(A:EY)(outer:List Env)(s:EU)(H:Hp)(args:Args)(us:Dv)(vs:Dx)(Q:VK)(E:XK),Room k A->Env0 P w K mg base A outer s H->BindsTo s fd args (ps.zip us)->Vals vs us->sp vs H Q E ->
  codeAny (model P w) A (.call (.ref f) args) (CR CX outer P w H s Q E) s
def FnOk.imp{P:EW}{w:EX}{K:Dh}{mg:Dy}{base:EZ}{CX:e9}{f:EV}{fd:FuncData}{ps:Dw}{sp sp':Sp}(F:FnOk P w K mg base CX k f fd ps sp)
  (h:∀vs H Q E,sp' vs H Q E->sp vs H Q E):FnOk P w K mg base CX k f fd ps sp' :=
 ⟨λvs H Q E q=>F.len vs H Q E<|h _ _ _ _ q,λA outer s H args us vs Q E hr he hb hv hs=>F.run A outer s H args us vs Q E hr he hb hv<|h _ _ _ _ hs⟩
section
variable{pins:EQ (EV×Obj)}{s s':EU}
def Inv.env0(I:Inv X pins σ H s):Env0 X.prog X.w X.K X.mg X.base X.A X.stack s H :=
 ⟨I.ok.frames,I.ok.mod,I.bs,Ap I.ok.bsz I.sz,I.stack,I.stkFree,I.hok,I.bare⟩
def Inv.after{u:ET}(I:Inv X pins σ H s)(h:CE X.stack X.prog X.w H s Q u s'):EP X pins σ Q u s':=by obtain⟨v,H',os,bare,un,hok,r,q⟩:=h;obtain⟨hh,g,d,t,os'⟩:=s';obtain rfl:os'=s.os:=os;exact⟨v,H',I.call (h':=hh) (g':=g) (d':=d) (t':=t) (ch:=[]) un hok bare<|λb z=>absurd z<|by simp,r,q⟩
end
def ZaO(sp:Sp)(dvs:Dx)(E:XK)(t:TA):TE:=λσ H Q=>t σ H λvs H1=>sp (vs++dvs) H1 Q E
def Binds(K:Dh)(fd:FuncData)(ps:Dw)(ds:Dv):Prop :=
 ∀(s:EU)(us:Dv),K.In s.heap->(us++ds).length=ps.length->BindsTo s fd ⟨us,[]⟩ (ps.zip<|us++ds)
def Binds.all{K:Dh}{fd:FuncData}{ps:Dw}(h:∀us:Dv,us.length=ps.length->bindArgs fd ⟨us,[]⟩=pure (ps.zip us)):Binds K fd ps []:=λs us _ hl=>by rw[AI]at hl ⊢;exact .of_eq<|h us hl
def zK(CX:e9)(X:Cx)(E:XK):Prop:=∀(pins:EQ (EV×Obj))(σ:St)(H:Hp)(s:EU)(e:ET)(s':EU),Inv X pins σ H s->CX X.stack H s E e s'->X.xe e s'
section
variable{CX:e9}{f C:EV}{fd:FuncData}{ps:Dw}{sp:Sp}{dvs:Dx}{ds:Dv}{E:XK}{m:Str}{p pos apos:Pos}{e o:E1}{es:EQ E1}{t:TA}
def ZhF{pins:EQ (EV×Obj)}{s:EU}{us:Dv}(F:FnOk X.prog X.w X.K X.mg X.base CX k f fd ps sp)(hr:Room k X.A)(hb:Binds X.K fd ps ds)(hd:Vals dvs ds)(hx:zK CX X E)
  (I:Inv X pins σ H s) (r:Vals vs us) (h:sp (vs++dvs) H Q E):wpAny (model X.prog X.w) X.A (call (.ref f) us) (EP X pins σ Q) X.xe s:=by
 have r2:Vals (vs++dvs) (us++ds):=r.append hd;have hl:(us++ds).length=ps.length:=by rw[<- r2.length];exact F.len _ _ _ _ h
 refine wpAny_call (Ed (F.run X.A X.stack s H ⟨us,[]⟩ (us++ds) (vs++dvs) Q E hr I.env0 (hb s us I.kIn hl) r2 h) λr s' hq=>?_);cases r with
 |error e=>exact hx pins σ H s e s' I hq
 | ok fl =>
  cases fl with
  |ret u=>exact I.after hq
  |next=>exact False.elim hq
  |brk=>exact False.elim hq
  |cont=>exact False.elim hq
def ZiN(F:FnOk X.prog X.w X.K X.mg X.base CX k f fd ps sp)(hr:Room k X.A)(hg:Gl X x)(hm:X.mg x=some (.ref f))(hk:PySem.W.keepIn X.K (.ref f)=true)(hb:Binds X.K fd ps ds)(hd:Vals dvs ds)(hx:zK CX X E)
  (ha:PA X (e::es) t) (Fn:(x==("__debug__":Str))=false:=by decide) (he:starEach (e::es) X.env=(false,eval e X.env)::starEach es X.env:=by rfl) (Fc:(backTo pos<|starEach es X.env).any (·.1)=false:=by rfl) :
  PE X (.Call (.Name x p) (e::es) [] pos) (ZaO sp dvs E t):=by intro pins s σ H Q I h;refine Em<|Zc9 I hg hm ?_ Fn;refine PySem.W.callWith_K (h₀:=X.base) I.ok.mod.kin hk (thn (ha pos pins s σ H _ I h) λus s1 ⟨vs,H1,I1,r,q⟩=>⟨I1.kIn,?_⟩) he Fc;exact ZhF F hr hb hd hx I1 r q
end
def PK(X:Cx)(kws:EQ Keyword)(t:TA):Prop :=
 ∀(pos:Pos)(pins:EQ (EV×Obj))(s:EU)(σ:St)(H:Hp)(Q:EQ V->Hp->Prop),Inv X pins σ H s->t σ H Q->wpAny (model X.prog X.w) X.A (evalAll<|(backToKw pos<|keywordEach kws X.env).map (·.2)) (AP X pins σ Q) X.xe s
section
variable{CX:e9}{f C:EV}{fd:FuncData}{ps ks:Dw}{sp:Sp}{E:XK}{m:Str}{p pos apos kpos:Pos}{e o:E1}{es:EQ E1}{kws:EQ Keyword}{t tk:TA}{nm:ER Str}
variable{g:EQ ET->EQ ET->EQ ET}{gV:EQ V->EQ V->EQ V}
end
structure FnScope(N P:Dw)(sc:Scope):Prop where
 kind:sc.kind=.function
 co:sc.isCoroutine=false
 gen:sc.isGenerator=false
 nd:N.Nodup
 pre:N.take P.length=P
 par:∀x∈P,sc.names.lookup x=some .local\/sc.names.lookup x=some .cell
 nofree:∀y∈sc.names,y.2≠.free
theorem Ze2{kindOf:Str->ER NameKind}{x:Str}:∀{binds:EQ (Str×ET)}{m:Dy},(∀v,(x,v)∉binds)->bindL kindOf binds m x=m x
 | [],_,_=>rfl
 | (n,v)::r,m,h=>by
  unfold bindL;rw[Ze2 λw hw=>h w<|Ab _ hw]
  split
  ·have:x≠n:=by rintro rfl;exact h v Aj
   simp[this]
  ·rfl
theorem Ze4{kindOf:Str->ER NameKind}{x:Str}:∀{binds:EQ (Str×ET)}{m:Dy},(∀v,(x,v)∉binds)->bindC kindOf binds m x=m x
 | [],_,_=>rfl
 | (n,v)::r,m,h=>by
  unfold bindC;rw[Ze4 λw hw=>h w<|Ab _ hw]
  split
  ·rfl
  ·have:x≠n:=by rintro rfl;exact h v Aj
   simp[this]
theorem Ze3{kindOf:Str->ER NameKind}{x:Str}{v:ET}:∀{P:Dw}{vs:Dv}{i:Nat}{m:Dy},P.Nodup->P[i]?=some x->vs[i]?=some v->kindOf x=some .local ->
  bindL kindOf (P.zip vs) m x=some v
 | [],_,_,_,_,h,_,_=>by simp at h
 |_::_,[],_,_,_,_,h,_=>by simp at h
 |p::P,w::vs,0,m,nd,h1,h2,hk=>by simp at h1 h2;subst h1;subst h2;show bindL kindOf ((p,w)::P.zip vs) m p=_;unfold bindL;rw[Ze2 λv hv=>(Bg.mp nd).1 (BX hv).1,DD hk];simp
 |p::P,w::vs,i+1,m,nd,h1,h2,hk=>by show bindL kindOf ((p,w)::P.zip vs) m x=_;unfold bindL;exact Ze3 (i:=i) (Bg.mp nd).2 (by simpa using h1) (by simpa using h2) hk
theorem Ze5{kindOf:Str->ER NameKind}{x:Str}{v:ET}:∀{P:Dw}{vs:Dv}{i:Nat}{m:Dy},P.Nodup->P[i]?=some x->vs[i]?=some v->kindOf x≠some .local ->
  bindC kindOf (P.zip vs) m x=some v
 | [],_,_,_,_,h,_,_=>by simp at h
 |_::_,[],_,_,_,_,h,_=>by simp at h
 |p::P,w::vs,0,m,nd,h1,h2,hk=>by simp at h1 h2;subst h1;subst h2;show bindC kindOf ((p,w)::P.zip vs) m p=_;unfold bindC;rw[Ze4 λv hv=>(Bg.mp nd).1 (BX hv).1,DF hk];simp
 |p::P,w::vs,i+1,m,nd,h1,h2,hk=>by show bindC kindOf ((p,w)::P.zip vs) m x=_;unfold bindC;exact Ze5 (i:=i) (Bg.mp nd).2 (by simpa using h1) (by simpa using h2) hk
noncomputable def start(N:Dw)(vs:Dx):St:=vs.map some++List.replicate (N.length-vs.length) none
noncomputable def eI(CX:e9)(P:EW)(w:EX)(K:Dh)(mg:Dy)(base:EZ)(N:Dw)(qual:Str)(scope:Scope)(f:EV)(cd:ET)(A:EY)(outer:EQ Env)(s:EU)(H:Hp)(E:XK):Cx where
 prog:=P
 w:=w
 K:=K
 mg:=mg
 base:=base
 A:=A.deeper<|envOfC qual scope s.heap.objs.size f cd
 N:=N
 s₀:=s
 H₀:=H
 env:=envOfC qual scope s.heap.objs.size f cd
 outer:=outer
 stack:=envOfC qual scope s.heap.objs.size f cd::outer
 ex:=[]
 calm:=true
 fn:=λ_=>true
 pn:=[]
 xe:=λe s'=>wpAny (model P w) (A.deeper<|envOfC qual scope s.heap.objs.size f cd) (leaving (envOfC qual scope s.heap.objs.size f cd) e) (λ_ s''=>CX outer H s E e s'') (λe' s''=>CX outer H s E e' s'') s'
def ZeL{sc:Scope}{n:Nat}(h:sc.names.lookup x=some .cell):∃c,(cellsFrom n sc.names []).lookup x=some c:=by have q:=Cv sc.names n []<|.inl h;exact Option.isSome_iff_exists.mp q
def Zdv{CX:e9}{P:EW}{w:EX}{K:Dh}{mg:Dy}{base:EZ}{N ps:Dw}{scope:Scope}{f:EV}{cd:ET}{A:EY}{outer:EQ Env}{s s1:EU}{E:XK}{us:Dv}
  (S:FnScope N ps scope) (hd:A.handled=none) (e0:Env0 P w K mg base A outer s H) (hl:vs.length=ps.length) (r:Vals vs us)
  (x:InCallC s s.heap.objs.size (bindL (envOfC qual scope s.heap.objs.size f cd).kindOf (ps.zip us) λ_=>none) (cellsFrom (s.heap.objs.size+1) scope.names []) (bindC (envOfC qual scope s.heap.objs.size f cd).kindOf (ps.zip us) λ_=>none) s1) :
  Inv (eI CX P w K mg base N qual scope f cd A outer s H E) [] (start N vs) H s1:=by
 have Fc:ps.length<=N.length:=by have:=DI List.length S.pre;rw[Cu]at this;omega
 obtain⟨h1,tk,rfl,hk⟩:=x.done;have noA:∀b:EV,b∉(eI CX P w K mg base N qual scope f cd A outer s H E).ex:=λb z=>absurd (show b∈([]:EQ EV)from z)<|by simp
 refine⟨⟨e0.mod,S.kind,rfl,rfl,Ag _,λy z c h1 h2=>?_,λy hy=>?_,λy c _ h=>?_,λ_=>hd,Around.frames_deeper e0.frames,.inr ⟨rfl,rfl⟩,λb z=>absurd z<|noA b,e0.bs,e0.bsz,λb _ _=>noA b,λb z=>absurd z<|noA b,e0.funs,e0.frf⟩,
  rfl,e0.bare,Un.kept hk,⟨_,x.toInCall.ns,λi y v h1 h2 h3=>?_⟩,λy c h=>⟨_,x.cell y c h⟩,e0.hok.fresh<|Ag _,λy c h=>?_,λp hp=>absurd (show p∈([]:EQ (EV×Obj))from hp)<|by simp,e0.hok.kept hk,?_⟩
 ·exact name_of_addr x.apart (AT h1)<|AT h2
 ·have hy:scope.names.lookup y=some .cell\/scope.names.lookup y=some .free:=hy;rcases hy with hy|hy
  ·exact ZeL hy
  ·exact absurd rfl (S.nofree _<|AT hy)
 ·exact BS<|x.above y c<|AT h
 ·have hi:i<vs.length:=by
   unfold start at h2;by_cases hi:i<vs.length
   ·exact hi
   ·rw[Az<|by simpa using hi]at h2
    rw[AG]at h2
    split at h2 <;> cases h2
  have ha:vs[i]?=some v:=by
   unfold start at h2;rw[At<|by simpa using hi,Ak]at h2
   cases e:vs[i]? with
   |none=>rw[e]at h2;cases h2
   |some a=>rw[e]at h2;cases h2;rfl
  obtain⟨u,hu,rv⟩:=r.get ha;have hp:ps[i]?=some y:=by rw[<- S.pre,List.getElem?_take_of_lt<|by omega];exact h1
  have ndP:ps.Nodup:=by rw[<- S.pre];exact S.nd.sublist<|List.take_sublist _ _
  refine⟨u,rv,?_⟩;rcases S.par y (AD hp)with k|k
  ·exact .inl ⟨k,Ze3 ndP hp hu k⟩
  ·obtain⟨c,e⟩:=ZeL (n:=s.heap.objs.size+1) k;refine .inr ⟨.inl k,c,e,?_⟩;have q:=x.cell y c e;rw[Ze5 ndP hp hu<|by show scope.names.lookup y≠_;rw[k];decide]at q
   exact q
 ·exact e0.hok.fresh<|BS<|x.above y c<|AT h
 ·unfold start;show _=N.length;rw[Aq,v9,B4];omega
def ZkI{CX:e9}{P:EW}{w:EX}{K:Dh}{mg:Dy}{base:EZ}{f:EV}{params:Arguments}{body:EQ E3}{scope:Scope}{dV kV doc pm E7 ct oc:ET}{an od:ER EV}
  {osl:Array (ER ET)} {N ps:Dw} {sp:Sp} (lk:K.lookup f=some ⟨oc,od,.func<|PySem.W.fnOf name qual params body scope dV kV doc pm an E7 ct,osl⟩) (Fo:PySem.W.codeIn K E7 qual=true) (S:FnScope N ps scope)
  (len:∀vs H Q E,sp vs H Q E->vs.length=ps.length)
  (Ff:∀(A:EY)(outer:EQ Env)(s:EU)(H:Hp)(vs:Dx)(Q:VK)(E:XK),Room k (A.deeper<|envOfC qual scope s.heap.objs.size f E7)->sp vs H Q E ->
   ∃t,PSs (eI CX P w K mg base N qual scope f E7 A outer s H E) body t/\t {nx:=λ_ H'=>Q .non H',rt:=Q} (start N vs) H) :
  FnOk P w K mg base CX (k+1) f (PySem.W.fnOf name qual params body scope dV kV doc pm an E7 ct) ps sp:=by
 refine⟨len,λA outer s H args us vs Q E hr e0 hb r hsp=>?_⟩;have hl:=len _ _ _ _ hsp;have KX:K.In s.heap:=e0.mod.kin.keeps λb o e=>(e0.bs b o e).1;have lim:s.heap.NoLimit:=e0.mod.nolimit.keeps λb o e=>(e0.bs b o e).1;have hkind:∀y∈ps.zip us,scope.names.lookup y.1=some .local\/(scope.names.lookup y.1=some .cell/\((cellsFrom (s.heap.objs.size+1) scope.names []).lookup y.1).isSome=true):=λ⟨n,v⟩ hy=>by
  rcases S.par n (BX hy).1 with q|q
  ·exact .inl q
  ·exact .inr ⟨q,Cv _ _ _<|.inl q⟩
 refine codeAny_call_function hr.depth (KX _ _ lk) rfl S.co S.gen rfl (PySem.W.codeRec_of KX Fo) (hb _ _ _ _ ?_);refine wpAny_newFunctionEnv_cells S.kind hkind λenv he s1 x=>?_;subst he;refine⟨lim.keeps x.toInCall.keep,codeAny_func ?_⟩;obtain⟨t,ht,hq⟩:=Ff A outer s H vs Q E (hr.deeper _) hsp;have I:Inv (eI CX P w K mg base N qual scope f E7 A outer s H E) [] (start N vs) H s1:=Zdv S hr.hd e0 hl r x;refine DJ (ht [] s1 (start N vs) H _ I hq) (λfl s' hs=>?_) λe s' hs=>hs;have fin:∀{σ':St}{H':Hp}{v:V}{u:ET},Inv (eI CX P w K mg base N qual scope f E7 A outer s H E) [] σ' H' s'->RelV v u->Q v H'->CE outer P w H s Q u s' :=
  λ{σ' H' v u} J rv q=>⟨v,H',J.os,J.bare,J.base,J.hok,rv,q⟩
 cases fl with
 | ret u =>
  obtain⟨v,σ',H',J,rv,q⟩:=hs;exact fin J rv q
 | next =>
  obtain⟨σ',H',J,q⟩:=hs;exact fin (v:=V.non) (u:=Value.none) J rfl q
 | brk =>
  obtain⟨_,_,_,q⟩:=hs;exact False.elim q
 | cont =>
  obtain⟨_,_,_,q⟩:=hs;exact False.elim q
section
variable{p pos:Pos}{e:E1}{es:EQ E1}{t:TA}{id T:String}{r:EQ V->Hp->VK->Prop}
def gE(r:EQ V->Hp->VK->Prop)(t:TA):TE:=λσ H Q=>t σ H λvs H1=>r vs H1 Q
def bu(hc:dH X (.builtin id) r)(hg:Gl X x)(hm:X.mg x=none)(hv:bootBuiltins x=some (.builtin id))(ha:PA X (e::es) t)(hn:x≠"__name__":=by decide)(Fn:(x==("__debug__":Str))=false:=by decide)
  (he:starEach (e::es) X.env=(false,eval e X.env)::starEach es X.env:=by rfl) (Fc:(backTo pos<|starEach es X.env).any (·.1)=false:=by rfl):PE X (.Call (.Name x p) (e::es) [] pos) (gE r t):=by intro pins s σ H Q I h;refine Em<|jt I hg hm hv ?_ hn Fn;exact PyProof.Rows.callWith_builtin1 (thn (ha pos pins s σ H _ I h) λus s1 ⟨vs,H1,I1,r1,q1⟩=>hc pins s1 σ H1 vs us Q I1 r1 q1) he Fc
def cD(hc:dH X (.type T) r)(hg:Gl X x)(hm:X.mg x=none)(hv:bootBuiltins x=some (.type T))(ha:PA X (e::es) t)(hn:x≠"__name__":=by decide)(Fn:(x==("__debug__":Str))=false:=by decide)
  (he:starEach (e::es) X.env=(false,eval e X.env)::starEach es X.env:=by rfl) (Fc:(backTo pos<|starEach es X.env).any (·.1)=false:=by rfl):PE X (.Call (.Name x p) (e::es) [] pos) (gE r t):=by intro pins s σ H Q I h;refine Em<|jt I hg hm hv ?_ hn Fn;exact A9 (thn (ha pos pins s σ H _ I h) λus s1 ⟨vs,H1,I1,r1,q1⟩=>hc pins s1 σ H1 vs us Q I1 r1 q1) he Fc
end
end L2
variable{r:L2.R2}{wi:L2.TI}{CX:L2.e9}{sp:L2.Sp}
namespace HT
noncomputable def cG:EQ Int->EQ Int->Bool
 | [],[]=>false
 | [],_::_=>true
 |_::_,[]=>false
 |x::xs,y::ys=>if x=y then cG xs ys else decide (x<y)
def xR(x y:Int)(xs ys:Du):cG (x::xs) (y::ys)=if x=y then cG xs ys else decide (x<y):=rfl
def Zc4:cG [] []=false:=rfl
def ZjM(y:Int)(ys:Du):cG [] (y::ys)=true:=rfl
def ZjN(x:Int)(xs:Du):cG (x::xs) []=false:=rfl
def ZdV(A:EY)(s:EU)(a:Int)(t:Tok)(c:Int)(u:Tok):∃e,SeqAt.EqAt A s (.int a t) (.int c u) e/\(e=true ↔ a=c) :=
 ⟨(a==c),SeqAt.EqAt.int_int a t c u,by simp⟩
def ZbS(A:EY)(s:EU)(a:Int)(t:Tok)(c:Int)(u:Tok)(prog:EW)(w:EX)(E:Ds)(Q:Ds)(h:Q (.bool<|decide (a<c)) s) :
  wpAny (model prog w) A (richCompare .Lt (.int a t)<|.int c u) Q E s :=
 (PyProof.Rows.lt_int h:wpAny (model prog w) A (compareOp .Lt (.int a t)<|.int c u) Q E s)
section
open PySem.SeqAt
open PySem.AutoSeq1 (wpAny_loadPart')
open PySem.MeetsSeq PySem.MeetsSeq2 PySem.MeetsSeq3
def Zgp(l b:EV)(items items2:Array ET)(n n2:Nat)(dd dd2:ER EV)(sl dB:Array (ER ET))(ns ms:Du)(hi:IntsAre items.toList ns)(hj:IntsAre items2.toList ms) :
  Meets (Builtin.«tuple.__lt__» ⟨[.ref l,.ref b],[]⟩)
   (λ_ R s=>s.heap.get? l=some {cls:=.type "tuple",dict:=dd,data:=.seq items n,slots:=sl}/\s.heap.get? b=some {cls:=.type "tuple",dict:=dd2,data:=.seq items2 n2,slots:=dB} /\
    R (.ok<|.ret<|.bool<|cG ns ms) s) :=
 .of_wp λprog w A R s h=>by
  obtain⟨hp,g,d,tk,os⟩:=s;obtain⟨hl,hb,h⟩:=h;have f2:=AutoSeq1.sub_tuple_tuple;have z1:items.size=ns.length:=by rw[<- hi.length];simp
  have z2:items2.size=ms.length:=by rw[<- hj.length];simp
  wp_walk using DX hl,DX hb,wpAny_forIn_list _ (λrest b s'=>b.1=none/\s'=⟨hp,g,d,tk,os⟩/\∃(vs ws:Dv)(ns' ms':Du),rest=vs.zip ws /\
   IntsAre vs ns'/\IntsAre ws ms'/\ns'.length+items2.size=ms'.length+items.size/\R (.ok<|.ret<|.bool<|cG ns' ms') ⟨hp,g,d,tk,os⟩) _
  case turn =>
   rintro⟨y,x⟩ rest b s' ⟨FB,rfl,vs,ws,ns',ms',hz,hvi,hwi,hlen,hR⟩;cases hvi with
   |nil=>rw[List.zip_nil_left]at hz;cases hz
   | cons a t hvi' =>
    cases hwi with
    |nil=>rw[List.zip_nil_right]at hz;cases hz
    | cons c u hwi' =>
     rw[AV]at hz;injection hz with hyx hrest;injection hyx with hy hx;subst hy hx;rw[xR]at hR;simp only[Ac]at hlen;obtain⟨e,he,hiff⟩:=ZdV A.in1 ⟨hp,g,d,tk,os⟩ a t c u;refine wp<|he prog w _ _ ?_;cases e with
     | true =>
      rw[DD<|hiff.mp rfl]at hR
      wp_walk
      exact⟨rfl,rfl,_,_,_,_,hrest,hvi',hwi',by omega,hR⟩
     | false =>
      rw[DF<|λq=>absurd (hiff.mpr q) As]at hR;have hri:=ZbS A.in1 ⟨hp,g,d,tk,os⟩ a t c u prog w
      wp_walk using hri
      exact⟨_,rfl,by simpa using hR⟩
  case fin =>
   rintro⟨b1,b2⟩ s' ⟨FB,rfl,vs,ws,ns',ms',hz,hvi,hwi,hlen,hR⟩;simp only at FB;subst FB;have hv:cG ns' ms'=decide (items.size<items2.size):=by
    cases hvi with
    | nil =>
     cases hwi with
     | nil =>
      simp only[AK]at hlen;rw[Zc4];exact(DG<|by omega).symm
     | cons c u hw =>
      simp only[AK,Ac]at hlen;rw[ZjM];exact(DE<|by omega).symm
    | cons a t hv =>
     cases hwi with
     | nil =>
      simp only[AK,Ac]at hlen;rw[ZjN];exact(DG<|by omega).symm
     | cons c u hw =>
      rw[AV]at hz;cases hz
   rw[hv]at hR
   wp_walk
   exact⟨_,rfl,by simpa [Builtin.Tuple.tupleCompareSizes]using hR⟩
  case h =>
   exact⟨rfl,rfl,items.toList,items2.toList,ns,ms,rfl,hi,hj,by omega,h⟩
end
section
variable{prog:EW}{w:EX}{A:EY}{E:Ds}{s:EU}
def ZcY{l b:EV}{items items2:Array ET}{ns ms:Du}{Q:Ds}(hl:IsTup s.heap l items)(hb:IsTup s.heap b items2)(hi:IntsAre items.toList ns)(hj:IntsAre items2.toList ms)
  (hu:A.units<cLine) (h:Q (.bool<|cG ns ms) s):wpAny (model prog w) A (compareOp .Lt (.ref l)<|.ref b) Q E s:=by
 obtain⟨⟨cls,dd,data,sl⟩,ho,hc,n,hd⟩:=id hl;obtain⟨⟨cls2,dd2,data2,dB⟩,ho2,hc2,n2,hd2⟩:=id hb;simp only at hc hd hc2 hd2;subst hc hd hc2 hd2;exact richCompare_meets_room (op:=.Lt) ⟨_,ho,rfl⟩ ⟨_,ho2,rfl⟩ PySem.F.slot_tuple_lt PySem.F.entry_tuple_lt (Dc _ _) (Zgp l b items items2 n n2 dd dd2 sl dB ns ms hi hj)
  ⟨ho,ho2,show Value.bool (cG ns ms)≠Value.notImplemented/\Q (.bool<|cG ns ms) s from⟨(λx=>nomatch x),h⟩⟩ hu
def ZmH{t b:EV}{vs ws:Dv}{Q:Ds}(ht:IsTup s.heap t vs.toArray)(hb:IsTup s.heap b ws.toArray)(hv:vs≠[])
  (h1:ws=[]->Q (.ref t) s) (h2:ws≠[]->Q (.ref s.heap.objs.size) {s with heap:=s.heap.push {cls:=.type "tuple",data:=.seq (vs++ws).toArray} })
  (Fg:vs.length+ws.length<=sizeLine):wpAny (model prog w) A (binaryOp .Add (.ref t)<|.ref b) Q E s:=by
 obtain⟨⟨cls,dd,data,sl⟩,ho,hc,n,hd⟩:=id ht;obtain⟨⟨cls2,dd2,data2,dB⟩,ho2,hc2,n2,hd2⟩:=id hb;simp only at hc hd hc2 hd2;subst hc hd hc2 hd2;have e:vs.toArray++ws.toArray=(vs++ws).toArray:=by simp
 by_cases hw:ws=[]
 ·exact concat_meets ⟨_,ho,rfl⟩ ⟨_,ho2,rfl⟩ EN seq_tuple_add Cw Cq (Cm _ _)
   (tuple_addW1 t b vs.toArray ws.toArray n n2 dd dd2 sl dB (by simpa using hv)<|by simp[hw]) ⟨ho,ho2,h1 hw⟩
 ·refine concat_meets ⟨_,ho,rfl⟩ ⟨_,ho2,rfl⟩ EN seq_tuple_add Cw Cq (Cm _ _)
   (tuple_addW2 t b vs.toArray ws.toArray n n2 dd dd2 sl dB (by simpa using hv) (by simpa using hw)<|by rw[Am,Am];exact Fg) ⟨ho,ho2,?_⟩
  rw[e];exact h2 hw
noncomputable def aR(n d:Nat):ER Int->Nat
 |none=>d
 |some v=>if v<0 then (v+(n:Int)).toNat else min v.toNat n
def ZhC(n d k:Nat):aR n d (some (k:Int))=min k n:=by
 show(if (k:Int)<0 then ((k:Int)+(n:Int)).toNat else min (k:Int).toNat n)=min k n
 rw[DF<|by omega,AO]
def ZhD(n d:Nat)(hd:d<=n)(o:ER Int):aR n d o<=n:=by
 cases o with
 |none=>exact hd
 | some v =>
  show(if v<0 then (v+(n:Int)).toNat else min v.toNat n)<=n
  by_cases hv:v<0
  ·rw[DD hv];omega
  ·rw[DF hv];exact CV _ _
def ZeK(v:Int)(n d:Nat):(if v<0 then max (v+(n:Int)) 0 else min v (n:Int))=((aR n d (some v):Nat):Int):=by
 show(if v<0 then max (v+(n:Int)) 0 else min v (n:Int))=(((if v<0 then (v+(n:Int)).toNat else min v.toNat n):Nat):Int)
 by_cases hv:v<0
 ·rw[DD hv,DD hv,Int.ofNat_toNat]
 ·rw[DF hv,DF hv];obtain⟨k,rfl⟩:=Bl<|Int.not_lt.mp hv;rw[AO,<- C8]
def Zn2(lo hi:ER Int)(n:Nat):Builtin.Slice.sliceAdjust lo hi 1 (n:Int)=(((aR n 0 lo:Nat):Int),((aR n n hi:Nat):Int)):=by
 have h1:¬ ((1:Int)<0):=by omega
 unfold Builtin.Slice.sliceAdjust;simp only[h1,D6];refine Prod.ext ?_ ?_
 ·cases lo with
  |none=>rfl
  |some v=>exact ZeK v n 0
 ·cases hi with
  |none=>rfl
  |some v=>exact ZeK v n n
def Ziq(i j:Nat):Builtin.Slice.slicePlaces (i:Int) (j:Int) 1=j-i:=by
 unfold Builtin.Slice.slicePlaces;have h1:(1:Int)>0:=by omega
 simp only[h1,D8,Int.ediv_one]
 split <;> omega
def Za1{v:ET}{o:ER Int}{Q:ER Int->EU->Prop}(p:IsPart v o)(h:Q o s):wpAny (model prog w) A (Builtin.Slice.slicePartIndex v) Q E s:=by
 cases p with
 |none=>exact slicePart_none h
 |int i t=>exact slicePart_int h
def Za3{sl:EV}{vl vu:ET}{lo hi:ER Int}{n:Nat}{Q:Int×Int×Nat->EU->Prop}(hs:s.heap.IsSliceOf sl vl vu .none)(pl:IsPart vl lo)(pu:IsPart vu hi)
  (h:Q (((aR n 0 lo:Nat):Int),1,aR n n hi-aR n 0 lo) s):wpAny (model prog w) A (Builtin.Slice.sliceApplied (.ref sl)<|pure (n:Int)) Q E s:=by
 obtain⟨os,hos,hcs,hds⟩:=id hs;unfold Builtin.Slice.sliceApplied Builtin.Slice.sliceFields;refine wp<|wp<|DM hos hds (x:=vl) rfl (wp<|DM hos hds (x:=vu) rfl (wp<|DM hos hds (x:=.none) rfl (DB ?_)));refine wp<|slicePart_none ?_;show wpAny _ _ (if ((1:Int)==0)=true then _ else _) _ _ s
 rw[DF<|by decide]
 refine wp<|Za1 pl<|wp<|Za1 pu<|wp<|DB ?_;show wpAny _ _ (match Builtin.Slice.sliceAdjust lo hi 1 (n:Int) with|(lo,hi)=>pure (lo,(1:Int),Builtin.Slice.slicePlaces lo hi 1)) _ _ s
 rw[Zn2 lo hi n];show wpAny _ _ (pure (((aR n 0 lo:Nat):Int),(1:Int),Builtin.Slice.slicePlaces ((aR n 0 lo:Nat):Int) ((aR n n hi:Nat):Int) 1)) _ _ s;rw[Ziq];exact DB h
def Ziw(xs:Array ET)(i k:Nat):((List.range k).filterMap λ(m:Nat)=>xs[((i:Int)+(m:Int)*1).toNat]?).toArray=((xs.toList.drop i).take k).toArray:=by
 have e:(λ(m:Nat)=>xs[((i:Int)+(m:Int)*1).toNat]?)=λm=>xs[i+m]?:=by
  funext m;have:((i:Int)+(m:Int)*1).toNat=i+m:=by omega
  rw[this]
 rw[e];have:=pick_run xs i k;rw[List.filterMap_map]at this;have e2:((λx=>xs[x]?) ∘ λx=>i+x)=λm=>xs[i+m]?:=rfl;rw[e2]at this;rw[this]
def Zkx{t sl:EV}{items:Array ET}{vl vu:ET}{lo hi:ER Int}{Q:Ds}(ht:IsTup s.heap t items)(hs:s.heap.IsSliceOf sl vl vu .none)(pl:IsPart vl lo)(pu:IsPart vu hi)
  (hw:¬ (aR items.size 0 lo=0/\aR items.size items.size hi=items.size))
  (h:Q (.ref s.heap.objs.size) {s with heap:=s.heap.push {cls:=.type "tuple",data:=.seq ((items.toList.drop<|aR items.size 0 lo).take<|aR items.size items.size hi-aR items.size 0 lo).toArray} })
  (Fg:items.size<=sizeLine):wpAny (model prog w) A (getItem (.ref t)<|.ref sl) Q E s:=by
 have htake:sizeOk (.seq ((items.toList.drop<|aR items.size 0 lo).take<|aR items.size items.size hi-aR items.size 0 lo).toArray):=by show((items.toList.drop<|aR items.size 0 lo).take<|aR items.size items.size hi-aR items.size 0 lo).toArray.size<=sizeLine;rw[Am,Cu,Bi,BG];exact Ap (CV _ _)<|Ap (Nat.sub_le _ _) Fg
 have hj:aR items.size items.size hi<=items.size:=ZhD _ _ (Ag _) hi;obtain⟨os,hos,hcs,hds⟩:=id hs;have hTs:s.TypeIs (.ref sl) "slice":=⟨os,hos,hcs⟩;unfold getItem
 try with_reducible refine DK ?_
 first|refine wp (DB ?_)|skip
 refine wp<|wpAny_sequenceKey ht.typeIs (by decide) ?_
 refine wp (DN (name:=Str.ofString "__getitem__") ht.typeIs BC
  (DL BC ht.typeIs entry_tuple_getitem ?_<|args_tuple_getitem _ _))
 show wpAny _ _ (Builtin.Tuple.tupleItemsOf (.ref t) >>= _) _ _ s;refine wp<|tupleItemsOf_ ht ?_;refine wp<|El hTs ?_;rw[DD<|by decide]
 refine wp<|Za3 hs pl pu ?_;have hno:¬ ((((aR items.size 0 lo:Nat):Int)==0&&(1:Int)==1&&(aR items.size items.size hi-aR items.size 0 lo)==items.size)=true):=by intro q;rw[AL,AL]at q;have q1:((aR items.size 0 lo:Nat):Int)=0:=eq_of_beq q.1.1;have q2:aR items.size items.size hi-aR items.size 0 lo=items.size:=eq_of_beq q.2;exact hw ⟨by omega,by omega⟩
 show wpAny _ _ (if (((aR items.size 0 lo:Nat):Int)==0&&(1:Int)==1&&(aR items.size items.size hi-aR items.size 0 lo)==items.size)=true then _ else _) _ _ s
 rw[DF hno,Ziw]
 first
  |exact wp (m:=Builtin.Tuple.tupleExact _) (DH (DB ⟨_,rfl,DB h⟩) htake)
  |exact wp (m:=Builtin.Tuple.tupleExact _) (DH (wp<|DB<|DB ⟨_,rfl,DB h⟩) htake)
  |exact wp (wp (m:=Builtin.Tuple.tupleExact _)<|DH (DB<|DB ⟨_,rfl,DB h⟩) htake)
  |exact wp (wp (m:=Builtin.Tuple.tupleExact _)<|DH (DB ⟨_,rfl,DB h⟩) htake)
end
end HT
namespace L2
abbrev TO:=St->Hp->(ER Int->Hp->Prop)->Prop
def PO(X:Cx)(e:ER E1)(t:TO):Prop :=
 ∀(pins:EQ (EV×Obj))(s:EU)(σ:St)(H:Hp)(Q:ER Int->Hp->Prop),Inv X pins σ H s->t σ H Q ->
  wpAny (model X.prog X.w) X.A (evalPart e X.env) (λu s'=>∃o H',Inv X pins σ H' s'/\IsPart u o/\Q o H') X.xe s
def ZgF:TO:=λ_ H Q=>Q none H
def ZgC(t:TE):TO:=λσ H Q=>t σ H λx H1=>∃i,x=.int i/\Q (some i) H1
def q9{ns:Du}:∀{us:Dv},Vals (ns.map V.int) us->IntsAre us ns:=by
 induction ns with
 |nil=>intro us r;rw[Bo]at r;cases r;exact .nil
 | cons n ns ih =>
  intro us r;rw[Af]at r;cases r with
  | cons r1 r2 =>
   obtain⟨t,e⟩:=r1;subst e;exact .cons n t<|ih r2
section
variable{e:E1}{lo hi:ER E1}{tl th:TO}{pos p2:Pos}
def Zcw:PO X none ZgF:=by intro pins s σ H Q I h;rw[evalPart_none];exact DB ⟨none,H,I,.none,h⟩
def Zcv(h:PE X e te):PO X (some e) (ZgC te):=by intro pins s σ H Q I hw;rw[evalPart_some];refine thn (h pins s σ H _ I hw) λu s1 E4=>?_;obtain⟨x,H1,I1,r1,q1⟩:=E4;obtain⟨i,rfl,q⟩:=q1;obtain⟨t,rfl⟩:=r1;exact⟨some i,H1,I1,.int i t,q⟩
def SlR(X:Cx)(r:V->ER Int->ER Int->Hp->VK->Prop):Prop :=
 ∀(pins:EQ (EV×Obj))(s:EU)(σ:St)(H:Hp)(x:V)(v vl vu:ET)(lo hi:ER Int)(sl:EV)(Q:VK),Inv X pins σ H s->RelV x v->s.heap.IsSliceOf sl vl vu .none->IsPart vl lo->IsPart vu hi->r x lo hi H Q ->
  ∃T id,typeLookup (.type T) "__getitem__"=pure (some<|.builtin id)/\s.TypeIs v T/\wpAny (model X.prog X.w) X.A (getItem v<|.ref sl) (EP X pins σ Q) X.xe s
def SlR.or{r r':V->ER Int->ER Int->Hp->VK->Prop}(h:SlR X r)(h':SlR X r'):SlR X (λx lo hi H Q=>r x lo hi H Q\/r' x lo hi H Q):=by
 intro pins s σ H x v vl vu lo hi sl Q I rx hs pl pu q;rcases q with q|q
 ·exact h pins s σ H x v vl vu lo hi sl Q I rx hs pl pu q
 ·exact h' pins s σ H x v vl vu lo hi sl Q I rx hs pl pu q
def tSl(r:V->ER Int->ER Int->Hp->VK->Prop)(te:TE)(tl th:TO):TE:=λσ H Q=>te σ H λx H1=>tl σ H1 λl H2=>th σ H2 λu H3=>r x l u H3 Q
def ZcB{r:V->ER Int->ER Int->Hp->VK->Prop}(hr:SlR X r)(he:PE X e te)(hl:PO X lo tl)(hu:PO X hi th):PE X (.Subscript e (.Slice lo hi none p2) pos) (tSl r te tl th):=by intro pins s σ H Q I h;refine Subscript_ (thn (he pins s σ H _ I h) λv s1 E4=>?_);obtain⟨x,H1,I1,r1,q1⟩:=E4;refine wpAny_Slice (thn (hl pins s1 σ H1 _ I1 q1) λvl s2 ⟨l,H2,I2,pl,q2⟩=>thn (hu pins s2 σ H2 _ I2 q2) λvu s3 E4=>?_);obtain⟨u,H3,I3,pu,q3⟩:=E4;rw[evalPart_none];refine DB ?_;have I4:Inv X pins σ H3 {s3 with heap:=s3.heap.push {cls:=.type "slice",data:=.fields #[vl,vu,.none]} }:=I3.kept (t':=s3.toks) λb ob q=>Aa _ q;obtain⟨T,id,hT,ht,hg⟩:=hr pins {s3 with heap:=s3.heap.push {cls:=.type "slice",data:=.fields #[vl,vu,.none]} } σ H3 x v vl vu l u s3.heap.objs.size Q I4 r1 (Heap.IsSliceOf.new ..) pl pu q3;show wpAny (model X.prog X.w) X.A (subscriptTail e (.Slice lo hi none p2) v<|.ref s3.heap.objs.size) (EP X pins σ Q) X.xe {s3 with heap:=s3.heap.push {cls:=.type "slice",data:=.fields #[vl,vu,.none]} };exact tail_any (ops:=[.ref s3.heap.objs.size,v]) ht hT hg<|by with_unfolding_all rfl
def fA(xs:Dx)(lo hi:ER Int):Dx:=(xs.drop<|HT.aR xs.length 0 lo).take<|HT.aR xs.length xs.length hi-HT.aR xs.length 0 lo
def ZeF(xs:Dx)(lo hi:ER Int):(fA xs lo hi).length<=xs.length:=by unfold fA;rw[Cu,Bi];exact Ap (CV _ _)<|Nat.sub_le _ _
def ZbY(K:Dh):V->ER Int->ER Int->Hp->VK->Prop:=λx lo hi H Q=>∃a xs,x=.ref a/\SqT K H a xs /\
 ¬ (HT.aR xs.length 0 lo=0/\HT.aR xs.length xs.length hi=xs.length)/\∀p,H p=none->Q (.ref p) (upd H p<|.tup<|fA xs lo hi)
def Zg9:SlR X (ZbY X.K):=by
 intro pins s σ H x v vl vu lo hi sl Q I rx hs pl pu h;obtain⟨a,xs,rfl,hx,hw,q⟩:=h;cases rx;obtain⟨E5,r,ht,hz⟩:=I.tuple hx;have hlen:E5.toArray.size=xs.length:=by rw[Am];exact r.length.symm
 refine⟨"tuple",_,PyProof.Rows.slot_tuple_getitem.lookup,ht.typeIs,?_⟩;refine HT.Zkx ht hs pl pu (by rw[hlen];exact hw) ?_<|by rw[hlen];exact hz
 rw[hlen];refine⟨.ref s.heap.objs.size,_,I.laid (t':=s.toks) (o:=.tup<|fA xs lo hi) (λb ob q=>Aa _ q) (Ag _) ?_,rfl,q _<|I.hok.fresh<|Ag _⟩;exact⟨Ap (ZeF xs lo hi) hz,_,(r.drop<|HT.aR xs.length 0 lo).take<|HT.aR xs.length xs.length hi-HT.aR xs.length 0 lo,IsTup.new _ _⟩
def Zcg(K:Dh):R2:=λx y H Q=>∃a b xs ys,x=.ref a/\y=.ref b/\SqT K H a xs/\SqT K H b ys/\xs≠[]/\xs.length+ys.length<=sizeLine /\
 (ys=[]->Q (.ref a) H)/\(ys≠[]->∀p,H p=none->Q (.ref p) (upd H p<|.tup<|xs++ys))
def Vals.nil_iff{us:Dv}(r:Vals xs us):us=[] ↔ xs=[]:=by
 cases r with
 |nil=>simp
 |cons _ _=>simp
def Zi6:OpR X (binaryOp .Add) (Zcg X.K):=by
 intro pins s σ H x y v u Q I rx ry h;obtain⟨a,b,xs,ys,rfl,rfl,ha,hb,hx,hz,q1,q2⟩:=h;cases rx;cases ry;obtain⟨E5,r1,p1,_⟩:=I.tuple ha;obtain⟨its2,r2,p2,_⟩:=I.tuple hb;refine HT.ZmH p1 p2 (λz=>hx<|r1.nil_iff.mp z) (λz=>⟨.ref a,H,I,rfl,q1<|r2.nil_iff.mp z⟩) (λz=>?_)<|by rw[<- r1.length,<- r2.length];exact hz
 refine⟨.ref s.heap.objs.size,_,I.laid (t':=s.toks) (o:=.tup<|xs++ys) (λb ob q=>Aa _ q) (Ag _) ?_,rfl,q2 (λw=>z<|r2.nil_iff.mpr w) _<|I.hok.fresh<|Ag _⟩;exact⟨by rw[Aq];exact hz,_,r1.append r2,IsTup.new _ _⟩
end
noncomputable def b7(n:Nat)(i:Int):ER Nat:=if 0<=i then (if i<n then some i.toNat else none)else if -(n:Int)<=i then some (i+n).toNat else none
def ba(xs:EQ α)(i:Int):ER α:=(b7 xs.length i).bind λj=>xs[j]?
def uy{n:Nat}{i:Int}{j:Nat}(h:b7 n i=some j):seqIndex? i n=some j/\j<n/\-(n:Int)<=i/\i<n:=by
 unfold b7 at h;by_cases h0:0<=i
 ·rw[DD h0]at h;by_cases h1:i<n
  ·rw[DD h1]at h;have e:i.toNat=j:=AA h;exact⟨by rw[seqIndex_of h0 h1,e],by omega,by omega,h1⟩
  ·rw[DF h1]at h;cases h
 ·rw[DF h0]at h;by_cases h1:-(n:Int)<=i
  ·rw[DD h1]at h;have e:(i+n).toNat=j:=AA h;exact⟨by rw[seqIndex_neg (by omega) h1,e],by omega,h1,by omega⟩
  ·rw[DF h1]at h;cases h
def y4{xs:EQ α}{i:Int}{v:α}(h:ba xs i=some v):∃j,seqIndex? i xs.length=some j/\xs[j]?=some v/\j<xs.length/\-(xs.length:Int)<=i/\i<xs.length:=by
 unfold ba at h;cases e:b7 xs.length i with
 |none=>rw[e]at h;cases h
 | some j =>
  rw[e]at h;obtain⟨h1,h2,h3,h4⟩:=uy e;exact⟨j,h1,h,h2,h3,h4⟩
def eV{xs:EQ α}{j:Nat}{v:α}(h:xs[j]?=some v):ba xs (j:Int)=some v:=by
 have hj:j<xs.length:=(Ad.mp h).1;have e:b7 xs.length (j:Int)=some j:=by unfold b7;rw[DD<|by omega,DD<|by omega];simp
 unfold ba;rw[e];exact h
def vF(b:E1):Prop:=∀o i,subscripted b false o i=operate [o,i] (getItem o i)
def IxR(X:Cx)(r:R2):Prop :=
 ∀(value slice:E1)(pins:EQ (EV×Obj))(s:EU)(σ:St)(H:Hp)(x y:V)(v u:ET)(Q:VK),Inv X pins σ H s->RelV x v->RelV y u->r x y H Q ->
  subscripted slice false v u=operate [v,u] (getItem v u)->wpAny (model X.prog X.w) X.A (subscriptTail value slice v u) (EP X pins σ Q) X.xe s
def MtR(X:Cx)(id:String)(r:V->EQ V->Hp->VK->Prop):Prop :=
 ∀(pins:EQ (EV×Obj))(s:EU)(σ:St)(H:Hp)(x:V)(xs:Dx)(v:ET)(us:Dv)(Q:VK),Inv X pins σ H s->RelV x v->Vals xs us->r x xs H Q ->
  wpAny (model X.prog X.w) X.A (call (.builtin id) (v::us)) (EP X pins σ Q) X.xe s
section
variable{a b:E1}{tb:TE}{pos:Pos}
def IxR.or{r':R2}(h:IxR X r)(h':IxR X r'):IxR X (λx y H Q=>r x y H Q\/r' x y H Q):=by
 intro value slice pins s σ H x y v u Q I rx ry q hs;rcases q with q|q
 ·exact h value slice pins s σ H x y v u Q I rx ry q hs
 ·exact h' value slice pins s σ H x y v u Q I rx ry q hs
def fj(hr:IxR X r)(ha:PE X a ta)(hb:PE X b tb)(hs:vF b):PE X (.Subscript a b pos) (hZ r ta tb):=by intro pins s σ H Q I h;exact Subscript_<|yW ha hb I h λv u s2 x y H2 I2 rx ry q=>hr a b pins s2 σ H2 x y v u Q I2 rx ry q<|hs _ _
def sP(K:Dh):R2:=λx y H Q=>∃p xs i v,x=.ref p/\y=.int i/\SqL K H p xs/\ba xs i=some v/\Q v H
def Zb9(K:Dh):R2:=λx y H Q=>∃p xs i v,x=.ref p/\y=.int i/\SqT K H p xs/\ba xs i=some v/\Q v H
def Zca:R2:=λx y H Q=>∃z i c,x=.str z/\y=.int i/\z.length<=sizeLine/\ba z.cps.toList i=some c/\Q (.str ⟨#[c]⟩) H
def ft:IxR X (sP X.K):=by
 intro value slice pins s σ H x y v u Q I rx ry h hs;obtain⟨p,xs,i,z,rfl,rfl,hq,he,q⟩:=h;cases rx;obtain⟨t,rfl⟩:=ry;obtain⟨E5,r,pl,hz⟩:=I.list hq;obtain⟨j,h1,h2,h3,h4,h5⟩:=y4 he;obtain⟨w,ew,rw'⟩:=r.get h2;have hl:=r.length;have hn:=jq;have fin:EP X pins σ Q w s:=⟨z,H,I,rw',q⟩;by_cases h0:0<=i
 ·have hj:i.toNat=j:=by rw[seqIndex_of h0 h5]at h1;exact AA h1
  exact item_listR pl.isList h0 (by omega) (by rw[hj];simpa using ew) fin hs
 ·have hj:(i+(E5.toArray.size:Int)).toNat=j:=by
   rw[seqIndex_neg (by omega) h4]at h1
   rw[Am,<- hl];exact AA h1
  exact subscriptTail_builtinR (x:=w) pl.isList.typeIs slot_list_getitem.lookup
   (wpAny_getItem_list_neg (Q:=λr s'=>r=w/\EP X pins σ Q r s') pl.isList (by omega) (by rw[Am] <;> omega) (by omega) (by rw[hj];simpa using ew) ⟨rfl,fin⟩) hs
def Zkl:IxR X (Zb9 X.K):=by
 intro value slice pins s σ H x y v u Q I rx ry h hs;obtain⟨p,xs,i,z,rfl,rfl,hq,he,q⟩:=h;cases rx;obtain⟨t,rfl⟩:=ry;obtain⟨E5,r,pl,hz⟩:=I.tuple hq;obtain⟨j,h1,h2,h3,h4,h5⟩:=y4 he;obtain⟨w,ew,rw'⟩:=r.get h2;have hl:=r.length;have hn:=jq;have fin:EP X pins σ Q w s:=⟨z,H,I,rw',q⟩;exact subscriptTail_builtinR (x:=w) pl.typeIs slot_tuple_getitem.lookup
  (getItem_tuple (j:=j) (Q:=λr s'=>r=w/\EP X pins σ Q r s') pl (by omega) (by omega) (by rw[Am,<- hl];exact h1) (by simpa using ew) ⟨rfl,fin⟩) hs
def Zkm:IxR X Zca:=by
 intro value slice pins s σ H x y v u Q I rx ry h hs;obtain⟨z,i,c,rfl,rfl,hz,he,q⟩:=h;obtain⟨t,rfl⟩:=rx;obtain⟨t',rfl⟩:=ry;obtain⟨j,h1,h2,h3,h4,h5⟩:=y4 he;have hl:z.cps.toList.length=z.length:=by simp[Str.length]
 rw[hl]at h1 h4 h5;have hn:=jq;exact tail_any (typeIs_str s z t) slot_str_getitem.lookup (getItem_str (c:=c) (by
  have e1:decide (i < -(2^63:Int))=false:=DG (by omega)
  have e2:decide (i≥2^63)=false:=DG (by omega)
  rw[e1,e2,Bool.or_false]) (by rw[h1];simpa using h2) ⟨.str ⟨#[c]⟩,H,I.tok _,⟨_,rfl⟩,q⟩) hs
def rIx(K:Dh):R2:=λx y H Q=>sP K x y H Q\/Zb9 K x y H Q\/Zca x y H Q
def Zkn:IxR X (rIx X.K):=ft.or<|Zkl.or Zkm
def ZjF(E5:Dv)(n j:Nat)(u:ET):Obj.mapSeq (·.setIfInBounds j u) {cls:=.type "list",data:=.seq E5.toArray n}={cls:=.type "list",data:=.seq (E5.set j u).toArray n}:=by simp[Obj.mapSeq]
theorem Inv.lst{pins:EQ (EV×Obj)}{σ:St}{H:Hp}{s:EU}{p:EV}{xs:Dx}(I:Inv X pins σ H s)(h:H p=some (.lst xs)) :
  ∃(E5:Dv)(n:Nat),Vals xs E5/\s.heap.get? p=some {cls:=.type "list",data:=.seq E5.toArray n}/\xs.length<=sizeLine:=by obtain⟨z,E5,n,r,e⟩:=I.hok p _ h;exact⟨E5,n,r,e,z⟩
def Inv.lstUpd{pins:EQ (EV×Obj)}{s:EU}{p:EV}{E5 its':Dv}{n n':Nat}{f:Obj->Obj}(I:Inv X pins σ H s)(h:H p=some (.lst xs))
  (ho:s.heap.get? p=some {cls:=.type "list",data:=.seq E5.toArray n}) (hf:f {cls:=.type "list",data:=.seq E5.toArray n}={cls:=.type "list",data:=.seq its'.toArray n'}) (r:Vals ys its') (hz:ys.length<=sizeLine) (t:Nat) :
  Inv X pins σ (upd H p<|.lst ys) {s with heap:=s.heap.update p f,toks:=t}:=by
 have e:(s.heap.update p f).get? p=some {cls:=.type "list",data:=.seq its'.toArray n'}:=by rw[Bj f ho<|by rw[hf] <;> rfl,hf]
 refine I.write (x:=p) (e:=p) (by rw[h];trivial) (.inl rfl) (λb u hb q=>(AW _ _<|Ne.symm hb).trans q) ⟨_,e⟩ ?_
 exact⟨hz,its',n',r,e⟩
def wS:V->V->V->Hp->(Hp->Prop)->Prop:=λo i v H Q=>∃p xs k j,o=.ref p/\i=.int k/\H p=some (.lst xs)/\b7 xs.length k=some j/\Q (upd H p<|.lst<|xs.set j v)
def qv:Zfy X wS:=by
 intro pins s σ H o i v ov iv u Q I ro ri rv h;obtain⟨p,xs,k,j,rfl,rfl,hp,hj,q⟩:=h;cases ro;obtain⟨t,rfl⟩:=ri;obtain⟨E5,n,r,ho,hz⟩:=I.lst hp;obtain⟨h1,h2,h3,h4⟩:=uy hj;have hl:=r.length;have hn:=jq;have I':Inv X pins σ (upd H p<|.lst<|xs.set j v) {s with heap:=s.heap.update p (Obj.mapSeq (·.setIfInBounds j u))} :=
  I.lstUpd hp ho (ZjF E5 n j u) (r.set rv j) (by rw[AE];exact hz) s.toks
 by_cases h0:0<=k
 ·have hk:k.toNat=j:=by rw[seqIndex_of h0 h4]at h1;exact AA h1
  exact PySem.W.ki_setAt ho h0 (by omega) (by rw[Am,<- hl];exact h4)<|by rw[hk];exact⟨_,I',q⟩
 ·have hk:(k+(E5.toArray.size:Int)).toNat=j:=by
   rw[seqIndex_neg (by omega) h3]at h1
   rw[Am,<- hl];exact AA h1
  exact PySem.W.ki_setBack ho (by omega) (by rw[Am,<- hl];exact h3) (by omega)<|by rw[hk];exact⟨_,I',q⟩
def ZeD{n:Nat}{i:Int}(h:i<0):max 0 (min (i+(n:Int)) n)=(((i+n).toNat:Nat):Int):=by rw[Int.min_eq_left<|by omega,Int.ofNat_toNat,Int.max_comm]
def ZeE{n:Nat}{i:Int}(h:¬ i<0):max 0 (min i (n:Int))=((min i.toNat n:Nat):Int):=by obtain⟨k,rfl⟩:=Bl<|Int.not_lt.mp h;rw[AO,<- C8];exact Int.max_eq_right<|Int.natCast_nonneg _
def Zg6(lo hi:ER Int)(n:Nat):(sliceBounds lo hi none n).1=((HT.aR n 0 lo:Nat):Int)/\(sliceBounds lo hi none n).2.1=((HT.aR n n hi:Nat):Int)/\(sliceBounds lo hi none n).2.2=1:=by
 refine⟨?_,?_,rfl⟩
 ·cases lo with
  |none=>simp[sliceBounds,HT.aR]
  | some i =>
   simp only[sliceBounds,HT.aR,Option.getD_none,show(1:Int)>0 by decide,D8]
   by_cases h:i<0
   ·simp only[h,D8];exact ZeD h
   ·simp only[h,D6];exact ZeE h
 ·cases hi with
  |none=>simp[sliceBounds,HT.aR]
  | some i =>
   simp only[sliceBounds,HT.aR,Option.getD_none,show(1:Int)>0 by decide,D8]
   by_cases h:i<0
   ·simp only[h,D8];exact ZeD h
   ·simp only[h,D6];exact ZeE h
def Zg7(E5:Dv)(lo hi:ER Int):slicePick E5.toArray lo hi none=((E5.drop<|HT.aR E5.length 0 lo).take<|HT.aR E5.length E5.length hi-HT.aR E5.length 0 lo).toArray:=by obtain⟨h1,h2,h3⟩:=Zg6 lo hi E5.toArray.size;unfold slicePick;rw[h1,h2,h3];simp only[sliceRange_one,pick_run,Am] <;> rfl
def ZbZ(K:Dh):V->ER Int->ER Int->Hp->VK->Prop:=λx lo hi H Q=>∃a xs,x=.ref a/\SqL K H a xs/\∀p,H p=none->Q (.ref p) (upd H p<|.lst<|fA xs lo hi)
def Za4:SlR X (ZbZ X.K):=by
 intro pins s σ H x v vl vu lo hi sl Q I rx hs pl pu h;obtain⟨a,xs,rfl,hx,q⟩:=h;cases rx;obtain⟨E5,r,ht,hz⟩:=I.list hx;have hlen:=r.length;refine⟨"list",_,slot_list_getitem.lookup,ht.isList.typeIs,?_⟩;refine wpAny_getItem_list_slice ht.isList hs pl pu .none (by simp) ?_<|by rw[Am] <;> omega
 rw[Zg7,<- hlen];refine⟨.ref s.heap.objs.size,_,I.laid (t':=s.toks) (o:=.lst<|fA xs lo hi) (λb ob q=>Aa _ q) (Ag _) ?_,rfl,q _<|I.hok.fresh<|Ag _⟩;exact⟨Ap (ZeF xs lo hi) hz,_,0,(r.drop<|HT.aR xs.length 0 lo).take<|HT.aR xs.length xs.length hi-HT.aR xs.length 0 lo,Ai _ rfl⟩
def iM:dH X (.builtin "len") (λxs H Q=>∃p ys,xs=[.ref p]/\(SqL X.K H p ys\/SqT X.K H p ys)/\Q (.int ys.length) H):=by
 intro pins s σ H xs us Q I r h;obtain⟨p,ys,rfl,hq,q⟩:=h;obtain⟨u,rfl,rx⟩:=dW r;cases rx;have hn:=jq;rcases hq with hq|hq
 ·obtain⟨E5,r',pl,hz⟩:=I.list hq;have hlen:=r'.length;exact Calls.call_len_list pl.isList (by simp only[Am] <;> omega) ⟨.int ys.length,H,I.tok _,⟨s.toks+1,by rw[Am,hlen]⟩,q⟩
 ·obtain⟨E5,r',pl,hz⟩:=I.tuple hq;have hlen:=r'.length;exact len_tuple pl (by simp only[Am] <;> omega) ⟨.int ys.length,H,I.tok _,⟨s.toks+1,by rw[Am,hlen]⟩,q⟩
def ZmQ:dH X (.type "list") (λxs H Q=>∃p ys,xs=[.ref p]/\(SqL X.K H p ys\/SqT X.K H p ys)/\∀l,H l=none->Q (.ref l) (upd H l<|.lst ys)):=by
 intro pins s σ H xs us Q I r h;obtain⟨p,ys,rfl,hq,q⟩:=h;obtain⟨u,rfl,rx⟩:=dW r;cases rx;have fin:∀(E5:Dv),Vals ys E5->ys.length<=sizeLine->∀(h':EZ)(c':Nat),(∀b o',s.heap.get? b=some o'->h'.get? b=some o') ->
   h'.get? s.heap.objs.size=some {cls:=.type "list",dict:=none,data:=.seq E5.toArray c',slots:=#[]}->EP X pins σ Q (.ref s.heap.objs.size) {s with heap:=h'}:=λE5 r' hz h' c' kp e =>
  ⟨.ref s.heap.objs.size,_,I.laid (t':=s.toks) kp (Ag _)<|show ObjOk X.prog X.w _ h' _ (.lst ys)from⟨hz,E5,c',r',e⟩,rfl,q _<|I.hok.fresh<|Ag _⟩
 rcases hq with hq|hq
 ·obtain⟨E5,r',pl,hz⟩:=I.list hq;have hlen:=r'.length;obtain⟨o,ho,hc,n,hd⟩:=pl.isList;exact call_list_seq p (.inl rfl) ho hc hd (λh' c' kp e=>fin E5 r' hz h' c' kp e)<|by simp only[Am] <;> omega
 ·obtain⟨E5,r',pl,hz⟩:=I.tuple hq;have hlen:=r'.length;obtain⟨o,ho,hc,n,hd⟩:=pl;exact call_list_seq p (.inr rfl) ho hc hd (λh' c' kp e=>fin E5 r' hz h' c' kp e)<|by simp only[Am] <;> omega
def dr:dH X (.type "tuple") (λxs H Q=>∃p ys,xs=[.ref p]/\((SqL X.K H p ys/\∀l,H l=none->Q (.ref l) (upd H l<|.tup ys))\/(SqT X.K H p ys/\Q (.ref p) H))):=by
 intro pins s σ H xs us Q I r h;obtain⟨p,ys,rfl,h⟩:=h;obtain⟨u,rfl,rx⟩:=dW r;cases rx;rcases h with ⟨hq,q⟩|⟨hq,q⟩
 ·obtain⟨E5,r',pl,hz⟩:=I.list hq;have hlen:=r'.length;refine call_tuple_list pl.isList (λh' kp=>?_) (by simp only[Am] <;> omega)
  have I1:Inv X pins σ H {s with heap:=h'}:=I.kept (t':=s.toks) kp;have I2:Inv X pins σ (upd H h'.objs.size<|.tup ys) {s with heap:=h'.push {cls:=.type "tuple",data:=.seq E5.toArray} } :=
   I1.laid (t':=s.toks) (λb o e=>Aa _ e) (Ag _) (show ObjOk X.prog X.w _ _ _ (.tup ys)from⟨hz,E5,r',IsTup.new _ _⟩)
  exact⟨.ref h'.objs.size,_,I2,rfl,q _<|I1.hok.fresh<|Ag _⟩
 ·obtain⟨E5,r',pl,hz⟩:=I.tuple hq;exact call_tuple_same pl ⟨.ref p,H,I,rfl,q⟩
def vY(K:Dh)(T:String)(x:V)(H:Hp):Prop:=match x with
 |.str _=>T="str"
 |.int _=>T="int"
 | .ref p=>(T="list"/\∃xs,SqL K H p xs)\/(T="tuple"/\∃o,K.lookup p=some o/\o.cls=.type "tuple"/\o.dict=none) \/
   (T="dict"/\((∃kvs,H p=some (.dK kvs))\/∃kvs,H p=some (.dT kvs)))\/(T="set"/\∃S n,H p=some (.set S n))
 |_=>False
def Zay{pins:EQ (EV×Obj)}{s:EU}{T:String}{x:V}{v:ET}(I:Inv X pins σ H s)(r:RelV x v)(ty:vY X.K T x H) :
  s.TypeIs v T/\∀a,v=.ref a->∃ob,s.heap.get? a=some ob/\ob.dict=none:=by
 cases x with
 | str z =>
  obtain⟨t,rfl⟩:=r;cases (show T="str" from ty)
  exact⟨typeIs_str s z t,λ_ e=>nomatch e⟩
 | int i =>
  obtain⟨t,rfl⟩:=r;cases (show T="int" from ty)
  exact⟨EL s i t,λ_ e=>nomatch e⟩
 | ref p =>
  cases r;rcases ty with ⟨rfl,xs,hq⟩|⟨rfl,o,hk,hc,hd⟩|⟨rfl,hk⟩|⟨rfl,S,n,hk⟩
  ·obtain⟨E5,_,pl,_⟩:=I.list hq;refine⟨pl.isList.typeIs,λa e=>?_⟩;cases e;obtain⟨o,n,e,c,hd,_⟩:=pl;exact⟨o,e,hd⟩
  ·refine⟨⟨o,I.kIn p o hk,hc⟩,λa e=>?_⟩;cases e;exact⟨o,I.kIn _ o hk,hd⟩
  ·have z:∃o,s.heap.get? p=some o/\o.ExactDict:=by
    rcases hk with ⟨kvs,hk⟩|⟨kvs,hk⟩
    ·obtain⟨_,_,_,_,o,_,_,e,ex,_⟩:=I.hok p _ hk;exact⟨o,e,ex⟩
    ·obtain⟨_,_,_,_,o,_,_,e,ex,_⟩:=I.hok p _ hk;exact⟨o,e,ex⟩
   obtain⟨o,e,ex⟩:=z;refine⟨⟨o,e,ex.1⟩,λa e2=>?_⟩;cases e2;exact⟨o,e,ex.2.1⟩
  ·obtain⟨o,_,_,_,e,ex,_⟩:=I.hok p _ hk;refine⟨⟨o,e,ex.1⟩,λa e2=>?_⟩;cases e2;exact⟨o,e,ex.2.1⟩
 |_=>exact False.elim ty
def ZaP(K:Dh)(T:String)(r:V->EQ V->Hp->VK->Prop)(to:TE):TE:=λσ H Q=>to σ H λx H1=>vY K T x H1/\r x [] H1 Q
def wb(K:Dh)(T:String)(r:V->EQ V->Hp->VK->Prop)(to:TE)(t:TA):TE:=λσ H Q=>to σ H λx H1=>vY K T x H1/\t σ H1 λxs H2=>r x xs H2 Q
variable{o e:E1}{es:EQ E1}{to:TE}{t:TA}{apos cpos:Pos}{T id:String}{r:V->EQ V->Hp->VK->Prop}
def xx(pa:PlainAttrs T)(slot:Slot T name id)(hty:typeOf (.builtin id)=pure (.type "method_descriptor"))(hm:MtR X id r)(ho:PE X o to)
  (hbase:attributeBase o name X.env (eval o X.env)=eval o X.env:=by rfl) (hline:(apos.endLine==cpos.line)=true:=by rfl):PE X (.Call (.Attribute o name apos) [] [] cpos) (ZaP X.K T r to):=by intro pins s σ H Q I h;refine wpAny_Call_method0_late hbase hline (thn (ho pins s σ H _ I h) λv s1 E4=>?_);obtain⟨x,H1,I1,r1,ty,q1⟩:=E4;obtain⟨h1,h2⟩:=Zay I1 r1 ty;exact⟨T,id,pa,slot,hty,h1,h2,Calls.callWith_builtin rfl (PySem.evalArgs_none<|hm pins s1 σ H1 x [] v [] Q I1 r1 .nil q1)⟩
def tK(pa:PlainAttrs T)(slot:Slot T name id)(hty:typeOf (.builtin id)=pure (.type "method_descriptor"))(hm:MtR X id r)(ho:PE X o to)(ha:PA X (e::es) t)
  (hbase:attributeBase o name X.env (eval o X.env)=eval o X.env:=by rfl)
  (hfew:((backTo cpos<|starEach (e::es) X.env).all (λx=>!x.1)&&(backToKw cpos<|keywordEach [] X.env).all (λx=>x.1.isSome)
   && decide ((e::es).length+([]:EQ Keyword).length+(if ([]:EQ Keyword).isEmpty then 0 else 1)<30))=true:=by rfl)
  (hline:(apos.endLine==cpos.line)=true:=by rfl) (hs:starEach (e::es) X.env=(false,eval e X.env)::starEach es X.env:=by rfl) (hplain:(backTo cpos<|starEach es X.env).any (·.1)=false:=by rfl) :
  PE X (.Call (.Attribute o name apos) (e::es) [] cpos) (wb X.K T r to t):=by
 intro pins s σ H Q I h;refine wpAny_Call_method_late hbase hfew hline rfl (thn (ho pins s σ H _ I h) λv s1 E4=>?_);obtain⟨x,H1,I1,r1,ty,q1⟩:=E4;obtain⟨h1,h2⟩:=Zay I1 r1 ty;refine⟨T,id,pa,slot,hty,h1,h2,?_⟩;have hA:=ha cpos pins s1 σ H1 _ I1 q1;rw[hs]at hA ⊢;refine Calls.callWith_builtin (by show(false || (backTo cpos<|starEach es X.env).any (·.1))=false;rw[hplain] <;> rfl)<|Calls.evalArgs_plain ?_
 exact thn hA λus s2 E4=>by obtain⟨vs,H2,I2,r2,q2⟩:=E4;exact hm pins s2 σ H2 x vs v us Q I2 r1 r2 q2
end
def zT(X:Cx)(id:String)(r:V->EQ V->Hp->VK->Prop):Prop :=
 ∀(pins:EQ (EV×Obj))(s:EU)(σ:St)(H:Hp)(x:V)(xs:Dx)(v:ET)(us:Dv)(Q:VK),Inv X pins σ H s->RelV x v->Vals xs us->r x xs H Q ->
  wpAny (model X.prog X.w) X.A (call (.builtin id) (v::us)) (EP X pins σ Q) X.xe s
def Vals.one{x:V}{us:Dv}(h:Vals [x] us):∃u,us=[u]/\RelV x u:=by
 cases h with
 |cons r t=>cases t;exact⟨_,rfl,r⟩
def Vals.two:∀{x y:V}{us:Dv},Vals [x,y] us->∃u v,us=[u,v]/\RelV x u/\RelV y v
 |_,_,_,.cons r (.cons q .nil)=>⟨_,_,rfl,r,q⟩
def Vals.zero:∀{us:Dv},Vals [] us->us=[]
 |_,.nil=>rfl
theorem Vals.reverse{xs:Dx}{us:Dv}(h:Vals xs us):Vals xs.reverse us.reverse:=by
 induction h with
 |nil=>exact .nil
 |cons r t ih=>rw[BD,BD];exact Vals.append ih<|.cons r .nil
theorem Vals.rep{xs:Dx}{us:Dv}(h:Vals xs us):∀k:Nat,Vals (List.replicate k xs).flatten (List.replicate k us).flatten
 |0=>.nil
 |k+1=>by rw[AB,AB,Bf,Bf];exact Vals.append h<|Vals.rep h k
theorem ZdL(E5:Dv):∀(k:Nat)(acc:Dv),
  List.foldl (λx1 x2=>x1++x2) acc.toArray (List.replicate k E5.toArray)=(acc++(List.replicate k E5).flatten).toArray
 |0,acc=>by simp
 | k+1,acc=>by
  have e:acc.toArray++E5.toArray=(acc++E5).toArray:=by simp
  have e2:(acc++E5)++(List.replicate k E5).flatten=acc++(List.replicate (k+1) E5).flatten:=by rw[AB,Bf,A2]
  rw[<- e2,<- ZdL E5 k (acc++E5),<- e,AB,Bt]
section
variable{pins:EQ (EV×Obj)}{s:EU}{l b:EV}{zs:Dx}
def Inv.lset{E5 its':Dv}{n:Nat}{f:Array ET->Array ET}(I:Inv X pins σ H s)(hH:H l=some (.lst xs))
  (e:s.heap.get? l=some {cls:=.type "list",data:=.seq E5.toArray n}) (hf:f E5.toArray=its'.toArray) (hv:Vals ys its') (hz:ys.length<=sizeLine) :
  Inv X pins σ (upd H l<|.lst ys) {s with heap:=s.heap.update l<|Obj.mapSeq f,toks:=t'}:=by
 have q:=PySem.IsL.update e f;rw[hf]at q;refine I.write (x:=l) (e:=l) (by rw[hH];exact trivial) (.inl rfl) (λb' u hb hu=>(AW s.heap (Obj.mapSeq f)<|Ne.symm hb).trans hu) ⟨_,q⟩ ?_
 exact⟨hz,its',_,hv,q⟩
def Inv.lnew{E5:Dv}(I:Inv X pins σ H s)(hv:Vals ys E5)(hz:ys.length<=sizeLine) :
  Inv X pins σ (upd H s.heap.objs.size<|.lst ys) {s with heap:=s.heap.push {cls:=.type "list",data:=.seq E5.toArray},toks:=t'} :=
 I.laid (λ_ _ q=>Aa _ q) (Ag _) ⟨hz,E5,0,hv,Ai _ rfl⟩
theorem Inv.fresh(I:Inv X pins σ H s):H s.heap.objs.size=none:=I.hok.fresh<|Ag _
def Inv.lstM(I:Inv X pins σ H s)(hH:H l=some (.lst xs)):xs.length<=sizeLine/\∃(E5:Dv)(n:Nat),Vals xs E5/\xs.length=E5.length/\s.heap.get? l=some {cls:=.type "list",data:=.seq E5.toArray n}:=by obtain⟨z,E5,n,r,e⟩:=I.hok l _ hH;exact⟨z,E5,n,r,r.length,e⟩
def ZcM{n:Nat}(h:n<=sizeLine):Builtin.List.listTooLong n=false:=by unfold Builtin.List.listTooLong;exact DG<|by omega
end
def Zci:V->EQ V->Hp->VK->Prop:=λx vs H Q=>∃l xs y,x=.ref l/\vs=[y]/\H l=some (.lst xs)/\xs.length<sizeLine/\Q .non (upd H l<|.lst<|xs++[y])
def xL:zT X "list.append" Zci:=by
 intro pins s σ H x vs v us Q I rx rv h;obtain⟨l,xs,y,rfl,rfl,hH,hz,q⟩:=h;cases rx;obtain⟨u,rfl,ru⟩:=rv.one;obtain⟨z,E5,n,r,hl,e⟩:=I.lstM hH;refine Eb F.slot_list_append ⟨_,e,rfl⟩ F.entry_list_append (F.args_list_append_2 _ _) (PySem.list_append l E5.toArray n u<|by rw[Am];omega) ⟨e,?_⟩
 refine⟨.non,_,I.lset (its':=E5++[u]) hH e (by simp) (r.append<|.cons ru .nil) ?_,rfl,q⟩
 rw[Aq,List.length_singleton];omega
def Zcc:V->EQ V->Hp->VK->Prop:=λx vs H Q=>∃l b xs zs,x=.ref l/\vs=[.ref b]/\H l=some (.lst xs)/\H b=some (.lst zs)/\xs.length+zs.length<=sizeLine/\Q .non (upd H l<|.lst<|xs++zs)
def Zju:zT X "list.extend" Zcc:=by
 intro pins s σ H x vs v us Q I rx rv h;obtain⟨l,b,xs,zs,rfl,rfl,hH,hB,hz,q⟩:=h;cases rx;obtain⟨u,rfl,ru⟩:=rv.one;cases ru;obtain⟨z,E5,n,r,hl,e⟩:=I.lstM hH;obtain⟨z2,its2,n2,r2,hl2,e2⟩:=I.lstM hB;have Fg:E5.toArray.size+its2.toArray.size<=sizeLine:=by rw[Am,Am];omega
 have hlong:¬ (!E5.toArray.isEmpty&&Builtin.List.listTooLong (E5.toArray.size+its2.toArray.size))=true:=by rw[ZcM Fg,Bool.and_false];exact As
 refine Eb F.slot_list_extend ⟨_,e,rfl⟩ F.entry_list_extend (F.args_list_extend_2 _ _)
  (AutoSeq1.list_extend_list_list_0 l E5.toArray n b its2.toArray n2 hlong (by rw[Am];omega)<|by omega) ⟨e,e2,?_⟩
 refine⟨.non,_,I.lset (its':=E5++its2) hH e (by simp) (r.append r2) ?_,rfl,q⟩
 rw[Aq];omega
def Zb0:V->EQ V->Hp->VK->Prop:=λx vs H Q=>∃l xs,x=.ref l/\vs=[]/\H l=some (.lst xs)/\Q .non (upd H l<|.lst xs.reverse)
def xK:zT X "list.reverse" Zb0:=by
 intro pins s σ H x vs v us Q I rx rv h;obtain⟨l,xs,rfl,rfl,hH,q⟩:=h;cases rx;have hus:=rv.zero;subst hus;obtain⟨z,E5,n,r,hl,e⟩:=I.lstM hH;refine Eb F.slot_list_reverse ⟨_,e,rfl⟩ F.entry_list_reverse (F.args_list_reverse_1 _) (AutoSeq1.list_reverse_list_0 l E5.toArray n<|by rw[Am];omega) ⟨e,?_⟩
 refine⟨.non,_,I.lset (its':=E5.reverse) hH e (by simp) r.reverse ?_,rfl,q⟩
 rw[AQ];omega
def wT:R2:=λx y H Q=>∃l b xs zs,x=.ref l/\y=.ref b/\H l=some (.lst xs)/\H b=some (.lst zs)/\xs.length+zs.length<=sizeLine/\∀p,H p=none->Q (.ref p) (upd H p<|.lst<|xs++zs)
def ZcK:OpR X (binaryOp .Add) wT:=by
 intro pins s σ H x y v u Q I rx ry h;obtain⟨l,b,xs,zs,rfl,rfl,hH,hB,hz,q⟩:=h;cases rx;cases ry;obtain⟨z,E5,n,r,hl,e⟩:=I.lstM hH;obtain⟨z2,its2,n2,r2,hl2,e2⟩:=I.lstM hB;refine PySem.P.add_list e e2 ?_<|by rw[Am,Am];omega
 have ea:E5.toArray++its2.toArray=(E5++its2).toArray:=by simp
 rw[ea];exact⟨.ref _,_,I.lnew (t':=s.toks) (r.append r2)<|by rw[Aq];omega,rfl,q _ I.fresh⟩
def Zb2:R2:=λx y H Q=>∃l k xs,x=.ref l/\y=.int k/\H l=some (.lst xs)/\-(2^63)<=k/\k<2^63/\xs.length*k.toNat<=sizeLine /\
 ∀p,H p=none->Q (.ref p) (upd H p<|.lst (List.replicate k.toNat xs).flatten)
def ZjQ(xs:EQ α)(k:Nat):(List.replicate k xs).flatten.length=k*xs.length:=by
 induction k with
 |zero=>simp
 |succ k ih=>rw[AB,Bf,Aq,ih,BM,Nat.add_comm]
def ZiX:OpR X (binaryOp .Mult) Zb2:=by
 intro pins s σ H x y v u Q I rx ry h;obtain⟨l,k,xs,rfl,rfl,hH,h1,h2,hz,q⟩:=h;cases rx;obtain⟨t,rfl⟩:=ry;obtain⟨z,E5,n,r,hl,e⟩:=I.lstM hH;have hlen:E5.toArray.size*k.toNat<=sizeLine:=by rw[Am,<- hl];exact hz
 have hcap:¬ E5.toArray.size*k.toNat>(2^63-1) / 8:=by
  have:(sizeLine:Nat)<=(2^63-1) / 8:=by decide
  omega
 have hfit:¬ (!Builtin.List.listFitsIndex k)=true:=by rw[fitsIndex_both h1 h2];exact As
 have hlong:¬ Builtin.List.listTooLong (E5.toArray.size*k.toNat)=true:=by rw[ZcM hlen];exact As
 have hnew:List.foldl (λx1 x2=>x1++x2) #[] (List.replicate (if E5.toArray.isEmpty=true then 0 else k.toNat) E5.toArray)=(List.replicate k.toNat E5).flatten.toArray:=by
  have f0:∀m:Nat,List.foldl (λx1 x2=>x1++x2) #[] (List.replicate m E5.toArray)=(List.replicate m E5).flatten.toArray:=λm=>by have:=ZdL E5 m [];rw[Br]at this;exact this
  rw[f0];cases E5 with
  |nil=>simp
  |cons a r'=>rw[DF<|by simp]
 refine wpAny_binaryOp_repeat_ref (T:="list") (U:="int") (by decide) ⟨_,e,rfl⟩ (λs'=>EL s' k t) noFill_list_mul F.fills_int_mul F.slot_int_rmul repeat_list F.slot_int_index.lookup
  (Eb F.slot_int_rmul (EL s k t) F.entry_int_rmul (F.args_int_rmul_2 _ _) (int___rmul___int_list k t l E5.toArray n)
   ⟨e,rfl,⟨_,e,rfl⟩,Eb F.slot_list_mul ⟨_,e,rfl⟩ F.entry_list_mul (F.args_list_mul_2 _ _) (AutoListH.list___mul___list_int_3 l E5.toArray n k t hfit hcap hlong) ⟨e,?_⟩⟩)
 rw[hnew];exact⟨.ref _,_,I.lnew (t':=s.toks) (r.rep k.toNat)<|by rw[ZjQ,Nat.mul_comm];exact hz,rfl,q _ I.fresh⟩
section
variable{prog:EW}{w:EX}{A:EY}{E:Ds}{s:EU}
end
section
variable{κ:Type}[DecidableEq κ]
noncomputable def fH(kvs:EQ (κ×V))(k:κ):ER V:=(kvs.find? λkv=>decide (kv.1=k)).map (·.2)
noncomputable def dC(kvs:EQ (κ×V))(k:κ)(v:V):EQ (κ×V) :=
 if (kvs.any λkv=>decide (kv.1=k))=true then kvs.map (λkv=>if kv.1=k then (kv.1,v)else kv)else kvs++[(k,v)]
def sj{p:κ×V}{r:EQ (κ×V)}{k:κ}(e:p.1=k):fH (p::r) k=some p.2:=by simp[fH,Bu,e]
def sr{p:κ×V}{r:EQ (κ×V)}{k:κ}(e:¬ p.1=k):fH (p::r) k=fH r k:=by simp[fH,Bu,e]
theorem Zax(k:κ):∀kvs:EQ (κ×V),(kvs.any λkv=>decide (kv.1=k))=(fH kvs k).isSome
 | []=>rfl
 | p::r=>by
  rw[Cr];by_cases e:p.1=k
  ·simp only[sj e,DE e,Bool.true_or,Option.isSome_some]
  ·rw[sr e,DG e,Bool.false_or];exact Zax k r
def Zc5(kvs:EQ (κ×V))(k:κ)(v:V):(dC kvs k v).length<=kvs.length+1:=by
 unfold dC
 split
 ·rw[v9];omega
 ·rw[Aq,Ac,AK];omega
def RelO.isSome_eq{o:ER V}{u:ER ET}(r:RelO o u):o.isSome=u.isSome:=by
 cases o with
 | none=>cases u with
  |none=>rfl
  |some _=>exact(show False from r).elim
 | some _=>cases u with
  |none=>exact(show False from r).elim
  |some _=>rfl
def KV.val{kvs:EQ (κ×V)}{vs:EQ (κ×ET)}(r:KV kvs vs)(k:κ):RelO (fH kvs k) (valueAt vs k):=by
 unfold KV at r
 induction r with
 |nil=>exact True.intro
 | @cons p q ps qs h t ih =>
  obtain⟨h1,h2⟩:=h;by_cases e:p.1=k
  ·have e':q.1=k:=h1.symm.trans e;have b:valueAt (q::qs) k=some q.2:=by simp[valueAt,Bu,e']
   rw[sj e,b];exact h2
  ·have e':¬ q.1=k:=λz=>e<|h1.trans z;have b:valueAt (q::qs) k=valueAt qs k:=by simp[valueAt,Bu,e']
   rw[sr e,b];exact ih
end
def Zdn{P:EW}{w:EX}{k:aH}{u:ET}(r:RelV (kV k) u):(bH P w).is k u=true:=by
 cases k with
 |inl i=>obtain⟨t,e⟩:=(show ∃t,u=Value.int i t from r);subst e;exact Zjx P w i t
 |inr x=>obtain⟨t,e⟩:=(show ∃t,u=Value.str x t from r);subst e;exact Zjw P w x t
theorem Zdq{P:EW}{w:EX}:∀{ks:EQ aH}{us:Dv},Vals (ks.map kV) us->ItemsAre (bH P w) ks us
 | [],_,r=>by rw[Bo]at r;cases r;exact .nil
 | k::ks,_,r=>by
  rw[Af]at r;cases r with
  |cons h t=>exact .cons (Zdn h)<|Zdq t
abbrev KT(H:Hp):EQ (EQ aH×V)->EQ (EQ aH×EV×ET)->Prop:=Paired λp q=>p.1=q.1/\H q.2.1=some (.tup<|p.1.map kV)/\RelV p.2 q.2.2
def KT.val{kvs:EQ (EQ aH×V)}{xs:EQ (EQ aH×EV×ET)}(r:KT H kvs xs)(k:EQ aH):RelO (fH kvs k) ((atKey xs k).map (·.2)):=by
 induction r with
 |nil=>exact True.intro
 | @cons p q ps qs h t ih =>
  obtain⟨h1,_,h2⟩:=h;by_cases e:p.1=k
  ·have e':q.1=k:=h1.symm.trans e;have b:atKey (q::qs) k=some q.2:=by simp[atKey,Bu,e']
   rw[sj e,b];exact h2
  ·have e':¬ q.1=k:=λz=>e<|h1.trans z;have b:atKey (q::qs) k=atKey qs k:=by simp[atKey,Bu,e']
   rw[sr e,b];exact ih
def KT.repl{kvs:EQ (EQ aH×V)}{xs:EQ (EQ aH×EV×ET)}(r:KT H kvs xs)(k:EQ aH){y:V}{u:ET}(ry:RelV y u) :
  KT H (kvs.map λkv=>if kv.1=k then (kv.1,y)else kv) (xs.map<|putAt k u):=by
 induction r with
 |nil=>exact .nil
 | @cons p q ps qs h t ih =>
  rw[Af,Af];refine .cons ?_ ih;obtain⟨h1,h2,h3⟩:=h;unfold putAt;by_cases e:p.1=k
  ·rw[DD e,DD<|h1.symm.trans e];exact⟨h1,h2,ry⟩
  ·rw[DF e,DF<|λz=>e<|h1.trans z];exact⟨h1,h2,h3⟩
def KT.put{kvs:EQ (EQ aH×V)}{xs:EQ (EQ aH×EV×ET)}(r:KT H kvs xs)(k:EQ aH){b:EV}{y:V}{u:ET}(hb:H b=some (.tup<|k.map kV))(ry:RelV y u) :
  KT H (dC kvs k y) (storedH xs k b u):=by
 have e:(kvs.any λkv=>decide (kv.1=k))=(atKey xs k).isSome:=by rw[Zax,(r.val k).isSome_eq,Option.isSome_map]
 unfold dC storedH;rw[e];by_cases q:(atKey xs k).isSome=true
 ·rw[DD q,DD q];exact r.repl k ry
 ·rw[DF q,DF q];exact Paired.snoc r ⟨rfl,hb,ry⟩
def KT.keeps{kvs:EQ (EQ aH×V)}{xs:EQ (EQ aH×EV×ET)}(r:KT H kvs xs)(ht:∀b ys,H b=some (.tup ys)->H' b=some (.tup ys)):KT H' kvs xs :=
 Paired.mapP r λ_ _ z=>⟨z.1,ht _ _ z.2.1,z.2.2⟩
section
variable{P:EW}{w:EX}{h:EZ}{a:EV}
def ZbR{u:HO}(ok:HOk P w H h)(e:Rd H a u):ObjOk P w H h a u:=e.ok ok
def Zen{kvs:EQ (aH×V)}(ok:HOk P w H h)(e:Rd H a (.dK kvs)):kvs.length<=sizeLine/\(a==sysModules)=false/\∃vs,KV kvs vs/\h.DictOf (bH P w) a vs :=
 show ObjOk P w H h a (.dK kvs)from ZbR ok e
def q5{ks:EQ aH}(ok:HOk P w H h)(e:H a=some (.tup<|ks.map kV)):(tupleKind<|bH P w).is h ks a:=by
 obtain⟨_,E5,r,o,h1,h2,n,h3⟩:=(show ObjOk P w H h a (.tup<|ks.map kV)from ok a _ e)
 exact⟨o,E5.toArray,n,h1,h2,h3,by simpa using Zdq r⟩
def Zeg{kvs:EQ (EQ aH×V)}(ok:HOk P w H h)(e:Rd H a (.dT kvs)):kvs.length<=sizeLine/\(a==sysModules)=false /\
  ∃xs,KT H kvs xs/\h.DictOfH (tupleKind<|bH P w) a xs:=by
 obtain⟨z,y,xs,r,o,es,ep,h1,h2,h3,h4,h5⟩:=(show ObjOk P w H h a (.dT kvs)from ZbR ok e)
 refine⟨z,y,xs,r,o,es,ep,h1,h2,h3,h4,λx hx=>?_,h5⟩;have all:∀{l:EQ (EQ aH×V)}{m:EQ (EQ aH×EV×ET)},KT H l m->∀x∈m,(tupleKind<|bH P w).is h x.1 x.2.1:=by
  intro l m q
  induction q with
  |nil=>intro x hx;exact nomatch hx
  | @cons p q ps qs hq t ih =>
   intro x hx;rcases Au.mp hx with e|hx
   ·subst e;exact q5 ok<|by rw[<- hq.1];exact hq.2.1
   ·exact ih x hx
 exact all r x hx
end
def zY(H:Hp)(a:EV)(y:V)(r:ER V):Prop :=
 (∃kvs k,Rd H a (.dK kvs)/\y=kV k/\r=fH kvs k)\/∃kvs k b,Rd H a (.dT kvs)/\y=.ref b/\H b=some (.tup<|k.map kV)/\r=fH kvs k
section
variable{pins:EQ (EV×Obj)}{s:EU}{a:EV}{y:V}{u r:ET}{o:ER V}{A:EY}{E:Ds}
def Inv.big(I:Inv X pins σ H s):sysModules<s.heap.objs.size:=by have h:mainGlobals<s.heap.objs.size:=(I.mod.glob.keeps I.bk).lt;exact Nat.lt_trans (by decide) h
def ZlY{Q:Ds}(hu:A.units+1<cLine)(I:Inv X pins σ H s)(g:zY H a y (some v))(ry:RelV y u)(h:∀w' s',Inv X pins σ H s'->RelV v w'->Q w' s') :
  wpAny (model X.prog X.w) A (getItem (.ref a) u) Q E s:=by
 rcases g with ⟨kvs,k,e,ey,l⟩|⟨kvs,k,b,e,ey,eb,l⟩
 ·subst ey;obtain⟨z,hd,vs,rel,dd⟩:=Zen I.hok e;obtain⟨w',hw,rw'⟩:=RelO.some_of (v:=v) (o:=valueAt vs k) (by rw[l];exact rel.val k)
  exact wpAny_getItem_of (Zdn ry) dd.mapOf hw<|h w' _ (I.tok _) rw'
 ·subst ey;cases (show u=Value.ref b from ry)
  obtain⟨z,hd,xs,rel,dd⟩:=Zeg I.hok e;obtain⟨w',hw,rw'⟩:=RelO.some_of (v:=v) (o:=(atKey xs k).map (·.2))<|by rw[l];exact rel.val k
  obtain⟨p,hp,hp2⟩:=AN.mp hw;refine wpAny_getItem_heap (tupleKind_room_in1 hu) (q5 I.hok eb) dd hp ?_;rw[hp2];exact h w' _ (I.tok _) rw'
end
section
variable{pins:EQ (EV×Obj)}{s:EU}{a:EV}{kvs:EQ (aH×V)}{k:aH}{u:ET}{A:EY}{E:Ds}
end
def ZfA(i:E1):Prop:=∀ov iv,subscripted i false ov iv=operate [ov,iv] (getItem ov iv)
def ZgS{prog:EW}{w:EX}{A:EY}{E:Ds}{s:EU}{env:Env}{value slice:E1}{pos:Pos}{T id:String}{Q:Ds}
  (hl:typeLookup (.type T) "__getitem__"=pure (some<|.builtin id)) (hs:ZfA slice)
  (h:wpAny (model prog w) A (eval value env) (λo s₁=>wpAny (model prog w) A (eval slice env) (λi s₂=>s₂.TypeIs o T/\wpAny (model prog w) A (getItem o i) Q E s₂) E s₁) E s) :
  wpAny (model prog w) A (eval (.Subscript value slice pos) env) Q E s:=by
 refine Subscript_ (DJ h (λo s₁ h₁=>DJ h₁ (λi s₂ h₂=>?_) λ_ _ x=>x) λ_ _ x=>x);obtain⟨hT,h₂⟩:=h₂;unfold subscriptTail;refine wp ?_;rw[getitemInPython_of_ne hT.not_modules];refine wp<|D7 hT hl ?_;have fin:wpAny (model prog w) A (subscripted slice false o i) (λr s₃=>wpAny (model prog w) A (letTemporaryGo value o r >>= λ_=>pure r) Q E s₃) E s₂:=by rw[hs o i];exact wpAny_operating<|DJ h₂ (λr s₃ h₃=>wp<|wpAny_letTemporaryGo<|DB h₃) λ_ _ x=>x
 first
  |exact DB (wp fin)
  |exact wp (DB<|wp fin)
  |exact wp fin
def ZlD{pins:EQ (EV×Obj)}{s:EU}{a:EV}{y:V}{o:ER V}(I:Inv X pins σ H s)(g:zY H a y o):s.TypeIs (.ref a) "dict":=by
 rcases g with ⟨kvs,k,e,_,_⟩|⟨kvs,k,b,e,_,_,_⟩
 ·obtain⟨_,_,vs,_,dd⟩:=Zen I.hok e;exact dd.typeIs
 ·obtain⟨_,_,xs,_,dd⟩:=Zeg I.hok e;exact dd.typeIs
def ZaN(td ty:TE):TE:=λσ H Q=>td σ H λx H1=>ty σ H1 λy H2=>∃a v,x=.ref a/\zY H2 a y (some v)/\Q v H2
section
variable{o i e value:E1}{pos pos' tpos:Pos}{td ty tv:TE}
def gj(hu:X.A.units+1<cLine)(ho:PE X o td)(hi:PE X i ty)(hs:ZfA i):PE X (.Subscript o i pos) (ZaN td ty):=by intro pins s σ H Q I h;refine ZgS PySem.F.slot_dict_getitem.lookup hs (thn (ho pins s σ H _ I h) λu s1 ⟨x,H1,I1,rx,q1⟩=>thn (hi pins s1 σ H1 _ I1 q1) λiv s2 E4=>?_);obtain⟨y,H2,I2,ry,a,v,ex,g,q2⟩:=E4;subst ex;obtain rfl:u=Value.ref a:=rx;exact⟨ZlD I2 g,ZlY hu I2 g ry λw' s3 I3 rw'=>⟨v,H2,I3,rw',q2⟩⟩
end
section
variable{pos:Pos}
end
structure M1(X:Cx)(o:E1)(m:Str)(apos:Pos)(e:E1)(cpos:Pos):Prop where
 base:attributeBase o m X.env (eval o X.env)=eval o X.env
 few:((backTo cpos<|starEach [e] X.env).all (λx=>!x.1)&&(backToKw cpos<|keywordEach [] X.env).all (λx=>x.1.isSome)
  && decide (([e]:List E1).length+([]:List Keyword).length+(if ([]:List Keyword).isEmpty then 0 else 1)<30))=true
 line:(apos.endLine==cpos.line)=true
 trees:backTo cpos (starEach [e] X.env)=[(false,eval e X.env)]
structure M2(X:Cx)(o:E1)(m:Str)(apos:Pos)(e f:E1)(cpos:Pos):Prop where
 base:attributeBase o m X.env (eval o X.env)=eval o X.env
 few:((backTo cpos<|starEach [e,f] X.env).all (λx=>!x.1)&&(backToKw cpos<|keywordEach [] X.env).all (λx=>x.1.isSome)
  && decide (([e,f]:List E1).length+([]:List Keyword).length+(if ([]:List Keyword).isEmpty then 0 else 1)<30))=true
 line:(apos.endLine==cpos.line)=true
 trees:backTo cpos (starEach [e,f] X.env)=[(false,eval e X.env),(false,eval f X.env)]
section
variable{pins:EQ (EV×Obj)}{s:EU}{a:EV}{y d:V}{u r:ET}{o:ER V}{A:EY}{E:Ds}
end
section
variable{o e f:E1}{apos cpos:Pos}{td ty tx:TE}
end
section
variable{pins:EQ (EV×Obj)}{s:EU}{a:EV}{kvs:EQ (aH×V)}{A:EY}{E:Ds}
end
section
variable{pins:EQ (EV×Obj)}{s:EU}{a:EV}{y:V}{u:ET}{A:EY}{E:Ds}
end
end L2
namespace Att
open PySem.W PySem.Calls
def ints_of_wellAll{P:Params}{h:EZ}:∀(ns:Du)(vs:Dv),WellAll P h vs (ns.map WData.int)->IntsAre vs ns:=by
 intro ns
 induction ns with
 | nil =>
  intro vs w;rw[Bo]at w;cases w;exact .nil
 | cons n ns ih =>
  intro vs w;rw[Af]at w;cases w with
  | cons a b =>
   cases a;exact .cons _ _<|ih _ b
def script_of{l:OpenLaw}{n:Nat}(hn:l.most=some n){P:Params}{h:EZ}{args:EQ WData}{vals:Dv}
  (hpre:l.row.toRowW.claim.pre args=true) (hwl:WellAll P h vals args) :
  ∃a vs ns,vals=[Value.ref a]/\args=[WData.list<|ns.map WData.int]/\h.get? a=some {cls:=.type "list",data:=.seq vs.toArray}/\IntsAre vs ns/\ns.length<=n:=by
 have hsh:WShape.hasAll [] args [.list .int]=true:=(pre_splitW hpre).1;have hc:l.pre.holds [] {args:=args}=true:=(pre_splitW hpre).2;obtain⟨d,r,rfl,h1,h2⟩:=hasAllW_cons hsh;obtain rfl:=hasAllW_nil h2;obtain⟨xs,rfl,h3⟩:=hasW_list h1;obtain⟨ns,rfl⟩:=items_int h3;have hlen:ns.length<=n:=by
  unfold OpenLaw.pre at hc;have h4:(WTm.not<|.lt (.lit<|.int (n:Int))<|.len<|.arg 0).holds [] {args:=[.list<|ns.map .int]}=true:=by have h4:=(holds_andW hc).1;rw[hn]at h4;exact h4
  have h5:=condW_of h4<|w_not<|w_lt w_lit<|w_len_list<|w_arg rfl;rw[v9]at h5;refine Ba λq=>?_;have q':(n:Int)<((ns.length:Nat):Int):=by omega
  first
   |(rw[DE q']at h5;exact absurd h5<|by decide)
   |(simp at h5;omega)
 cases hwl with
 | cons w1 w2 =>
  cases w2;cases w1 with
  |list ho hall=>exact⟨_,_,ns,rfl,rfl,ho,ints_of_wellAll ns _ hall,hlen⟩
def post_true(l:OpenLaw)(args:EQ WData):l.row.toRowW.claim.post args (.bool true) args=true :=
 postW_of (r:=l.row.toRowW) (X:=(true==true))
  (show WShape.has [] (.bool true) .bool=true by first|rfl|decide|simp[WShape.has,WShape.arms,WShape.armsAll])
  (show(WTm.eq .res<|.lit<|.bool true).value [] {args:=args,res:=some<|.bool true,after:=args}=some (.bool<|true==true)from w_eq_bool (w_res rfl) w_lit) rfl
def attach_call{l:OpenLaw}{n:Nat}{q:EW}{loose:Dw}{XP:Dy->EZ->Prop}{YP:EX->EZ->Prop}{d:DefRec}
  (hn:l.most=some n) (hdf:d.params.defaults=[])
  (call:∀(w:EX)(s₀ s₁:EU)(mg mb:Dy)(fa:EV)(o:Obj)(pm cd doc:ET)(a:EV)(vs:Dv)(ns:Du),
   Ground q loose [] XP w s₀ mg mb s₁.heap->YP w s₁.heap ->
   s₁.heap.get? fa=some o->o.data=.func (docDef d.name d.params d.body d.scope pm cd doc)->s₁.heap.CodeRec cd d.name->mg d.name=some (.ref fa) ->
   s₁.heap.get? a=some {cls:=.type "list",data:=.seq vs.toArray}->IntsAre vs ns->ns.length<=n->s₁.gens=#[] ->
   codeAny (model l.prog w) callerA (.call (.ref fa) ⟨[.ref a],[]⟩) (λr s'=>r=.ok (.ret<|.bool true)/\OldK s₁.heap s'.heap/\s'.os=s₁.os/\AllBare s'.gens) s₁) :
  WalkO q loose XP YP l.row.toRowW d [] (λf vs=>PySem.call f vs):=by intro w s₀ s₁ mg mb G Y fa o pm cd doc dV kV ho hd Fo hD hmg hg args vals as hpre hlay hrd hwl hlo;obtain rfl:dV=.none:=Dflts.none hD hdf;obtain rfl:kV=.none:=Dflts.noKw hD;obtain⟨a,vs,ns,rfl,rfl,hobj,hints,hlen⟩:=script_of hn hpre hwl;refine enter_call (Ed (call w s₀ s₁ mg mb fa o pm cd doc a vs ns G Y ho (fd_plain hd) Fo hmg hobj hints hlen hg) λr s' hq=>?_);obtain⟨rfl,h2,h3,h4⟩:=hq;exact⟨.inl ⟨.bool true,.bool true,[],rfl,λ_=>rfl,.bool true,post_true l _,λ_=>⟨List.Pairwise.nil,λ_ hm=>(nomatch hm)⟩⟩,h2,h3,h4⟩
section
variable{prog:EW}{w:EX}{A:EY}{E:Ds}{s:EU}{K:Frag}
end
end Att
namespace L2
def Zga{vs:Dv}{ns:Du}(h:IntsAre vs ns):Vals (ns.map V.int) vs:=by
 induction h with
 |nil=>exact .nil
 |cons n t h ih=>exact .cons ⟨t,rfl⟩ ih
def Zod(H:Hp):Prop:=∀b,H b=none\/∃o xs,H b=some (.frz o<|.lst xs)
abbrev KOf{K:Dh}{h:EZ}(_:K.In h):Dh:=K
noncomputable def fy(s:E3):Arguments:=match s with
 |.FunctionDef _ a _ _ _ _ _ _ _ _=>a
 |_=>{posonlyargs:=[],args:=[],vararg:=none,kwonlyargs:=[],kw_defaults:=[],kwarg:=none,defaults:=[]}
noncomputable def db(s:E3):EQ E3:=match s with
 |.FunctionDef _ _ b _ _ _ _ _ _ _=>b
 |_=>[]
noncomputable def az(s:E3):Scope:=match s with
 |.FunctionDef _ _ _ _ _ _ sc _ _ _=>sc
 |_=>{kind:=.function,names:=[],isGenerator:=false,isCoroutine:=false}
abbrev cO:e9:=λ_ _ _ _ _ _=>False
abbrev E0:XK:=λ_ _ _=>False
def ZiS:zK cO X E0:=λ_ _ _ _ _ _ _ h=>h.elim
structure Fun(K:Dh)(x qual:Str)(st:E3)(f:EV)(fd:FuncData):Prop where
 ex:∃(oc:ET)(od:Option EV)(kV doc pm:ET)(an:Option EV)(E7 ct:ET)(osl:Array (Option ET)),
  fd=PySem.W.fnOf x qual (fy st) (db st) (az st) .none kV doc pm an E7 ct/\K.lookup f=some ⟨oc,od,.func fd,osl⟩/\PySem.W.codeIn K E7 qual=true
 kp:PySem.W.keepIn K (.ref f)=true
section
variable{P:EW}{w:EX}{K:Dh}{mg:Dy}{base:EZ}
def Fun.ok{st:E3}{f:EV}{fd:FuncData}{N ps:Dw}(F:Fun K x qual st f fd)(S:FnScope N ps (az st))(len:∀vs H Q E,sp vs H Q E->vs.length=ps.length)
  (Ff:∀(E7:ET)(A:EY)(outer:EQ Env)(s:EU)(H:Hp)(vs:Dx)(Q:VK)(E:XK),Room k (A.deeper<|envOfC qual (az st) s.heap.objs.size f E7)->sp vs H Q E ->
   ∃t,PSs (eI cO P w K mg base N qual (az st) f E7 A outer s H E).nox (db st) t/\t {nx:=λ_ H'=>Q .non H',rt:=Q} (start N vs) H):FnOk P w K mg base cO (k+1) f fd ps sp:=by obtain⟨oc,od,kV,doc,pm,an,E7,ct,osl,rfl,lk,Fo⟩:=F.ex;refine ZkI lk Fo S len λA outer s H vs Q E hr hsp=>?_;obtain⟨t,h,q⟩:=Ff E7 A outer s H vs Q E hr hsp;exact⟨t,h.nox,q⟩
def Fun.binds{st:E3}{f:EV}{fd:FuncData}{ps:Dw}(F:Fun K x qual st f fd)
  (h:∀(kV doc pm:ET)(an:ER EV)(E7 ct:ET)(us:Dv),us.length=ps.length->bindArgs (PySem.W.fnOf x qual (fy st) (db st) (az st) .none kV doc pm an E7 ct) ⟨us,[]⟩=pure (ps.zip us)):Binds K fd ps []:=by obtain⟨oc,od,kV,doc,pm,an,E7,ct,osl,rfl,lk,Fo⟩:=F.ex;exact .all<|h kV doc pm an E7 ct
def ZdG{st:E3}{f:EV}{oc:ET}{od an:ER EV}{osl:Array (ER ET)}{kV doc pm E7 ct:ET}(l:K.lookup f=some ⟨oc,od,.func<|PySem.W.fnOf x qual (fy st) (db st) (az st) .none kV doc pm an E7 ct,osl⟩)
  (c:PySem.W.codeIn K E7 qual=true) (k:PySem.W.keepIn K (.ref f)=true):Fun K x qual st f (PySem.W.fnOf x qual (fy st) (db st) (az st) .none kV doc pm an E7 ct):=⟨⟨oc,od,kV,doc,pm,an,E7,ct,osl,rfl,l,c⟩,k⟩
end
def eQ{A:EY}(hr:Room k A):A.units+1<cLine:=BL (Nat.add_le_add_left (by decide:1<=64) _) hr.units
def pv(i:Nat){pos:Pos}(hN:X.N[i]?=some x:=by rfl)(hv:gZ X.env.scope x:=by first|exact Or.inl rfl|exact Or.inr (.inl rfl)|exact Or.inr (.inr rfl))(hd:(x==("__debug__":Str))=false:=by decide)
  (Fo:(x==("__classdict__":Str))=false:=by decide):PE X (.Name x pos) (fb i):=ZiE hN hv hd Fo
def uz{c A B:Prop}[Decidable c](h1:c->A)(h2:¬ c->B):if c then A else B:=by
 by_cases h:c
 ·rw[DD h];exact h1 h
 ·rw[DF h];exact h2 h
def Same(H H':Hp):Prop:=∀b o,H b=some o->H' b=some o
def Same.refl(H:Hp):Same H H:=λ_ _ h=>h
def Same.free(e:Same H H'){l:EV}(h:H' l=Option.none):H l=Option.none:=by
 cases q:H l with
 |none=>rfl
 | some o =>
  rw[e l o q]at h;cases h
def Same.seq{K:Dh}{a:EV}(e:Same H H')(h:SqL K H a xs):SqL K H' a xs:=by
 rcases h with (h|⟨o,h⟩)|h
 ·exact .inl<|.inl<|e _ _ h
 ·exact .inl<|.inr ⟨o,e _ _ h⟩
 ·exact .inr h
structure Blk where
 cl:List (Str×EV)
 C:EV
 s:EU
 H:Hp
 fp:List EV
 pn:List (EV×Obj)
noncomputable def aP(X:Cx)(N:Dw)(scope:Scope)(b:Blk):Cx where
 prog:=X.prog
 w:=X.w
 K:=X.K
 mg:=X.mg
 base:=X.base
 A:=X.A
 N:=N
 s₀:=b.s
 H₀:=b.H
 env:=compEnvC scope b.cl b.C X.env
 outer:=X.stack
 stack:=X.stack
 ex:=b.fp
 fn:=λx=>scope.names.lookup x==some .cell
 calm:=X.calm
 pn:=b.pn
 xe:=λ_ _=>False
noncomputable def bN(Nx ts:Dw)(ix:EQ Nat):Dw:=ts++ix.map λj=>(Nx[j]?).getD Str.empty
noncomputable def cQ(n:Nat)(ix:EQ Nat)(σ:St):St:=List.replicate n none++ix.map λj=>(σ[j]?).getD none
structure BlkOk(Nx:Dw)(sc scope:Scope)(ix:List Nat):Prop where
 kind:scope.kind=.function
 cells:∀y∈scope.names,y.2=.cell->scope.names.lookup y.1=some .cell
 locs:∀y∈scope.names,y.2=.local->scope.names.lookup y.1=some .local
 frees:∀y∈scope.names,y.2=.free->sc.names.lookup y.1=some .cell\/sc.names.lookup y.1=some .free
 caps:∀j∈ix,j<Nx.length/\scope.names.lookup ((Nx[j]?).getD Str.empty)=some .free
theorem yv{env:Env}{f:Str×NameKind->EQ (Str×EV)->Sem (ForInStep<|EQ<|Str×EV)}
  (h1:∀n k r,k≠NameKind.free->f (n,k) r=pure (.yield r)) (h2:∀n r c,env.cells.lookup n=some c->f (n,NameKind.free) r=pure (.yield ((n,c)::r))) :
  ∀(names:EQ (Str×NameKind))(acc:EQ (Str×EV)),(∀y∈names,y.2=.free->∃c,env.cells.lookup y.1=some c)->(∀x c,acc.lookup x=some c->env.cells.lookup x=some c) ->
   ∃cl,forIn names acc f=pure cl/\(∀x c,cl.lookup x=some c->env.cells.lookup x=some c)/\(∀y∈names,y.2=.free->∃c,cl.lookup y.1=some c)/\∀x c,acc.lookup x=some c->∃c',cl.lookup x=some c'
 | [],acc,_,ha=>⟨acc,rfl,ha,(λ_ h=>nomatch h),λx c h=>⟨c,h⟩⟩
 | (n,k)::names,acc,hn,ha=>by
  have hn':∀y∈names,y.2=.free->∃c,env.cells.lookup y.1=some c:=λy hy=>hn y<|Ab _ hy;by_cases hk:k=.free
  ·subst hk;obtain⟨c,hc⟩:=hn (n,.free) Aj rfl;have ha':∀x d,((n,c)::acc).lookup x=some d->env.cells.lookup x=some d:=λx d e=>by
    rw[AJ]at e;cases hx:x==n with
    | true =>
     rw[hx]at e;have hxn:x=n:=by simpa using hx
     subst hxn;cases e;exact hc
    | false =>
     rw[hx]at e;exact ha x d e
   obtain⟨cl,e,p1,p2,p3⟩:=yv h1 h2 names ((n,c)::acc) hn' ha';refine⟨cl,?_,p1,λy hy hf=>?_,λx d hx=>?_⟩
   ·rw[CB,h2 n acc c hc,pure_bind];exact e
   ·rcases Au.mp hy with rfl|hy
    ·exact p3 n c<|by simp
    ·exact p2 y hy hf
   ·by_cases e1:x=n
    ·subst e1;exact p3 x c<|by simp
    ·exact p3 x d<|by rw[AJ,beq_false_of_ne e1];exact hx
  ·obtain⟨cl,e,p1,p2,p3⟩:=yv h1 h2 names acc hn' ha;refine⟨cl,?_,p1,λy hy hf=>?_,p3⟩
   ·rw[CB,h1 n k acc hk,pure_bind];exact e
   ·rcases Au.mp hy with rfl|hy
    ·exact absurd hf hk
    ·exact p2 y hy hf
def jE{scope:Scope}{env:Env}(hn:∀y∈scope.names,y.2=.free->∃c,env.cells.lookup y.1=some c) :
  ∃cl,closureFor scope env=pure cl/\(∀x c,cl.lookup x=some c->env.cells.lookup x=some c)/\∀y∈scope.names,y.2=.free->∃c,cl.lookup y.1=some c:=by
 unfold closureFor;have key:=yv (env:=env) (f:=λ(x:Str×NameKind) (r:EQ (Str×EV))=>match x with
  |(name,kind)=>if (kind==NameKind.free)=true then (do let a <- cellOf env name;pure (ForInStep.yield ((name,a)::r)))else pure<|ForInStep.yield r)
  (λn k r hk=>by
   have hb:(k==NameKind.free)=false:=by simpa using hk
   show(if (k==NameKind.free)=true then _ else _)=_
   rw[hb]
   rfl)
  (λn r c hc=>by
   show(do let a <- cellOf env n;pure (ForInStep.yield ((n,a)::r)))=_
   unfold cellOf;rw[hc]
   rfl) scope.names [] hn (λx c h=>by simp at h)
 obtain⟨cl,e,p1,p2,_⟩:=key;refine⟨cl,?_,p1,p2⟩;show(forIn scope.names [] _ >>= λr=>pure r)=pure cl;exact(DI (λt=>t >>= λr=>pure r) e).trans<|pure_bind _ _
section
variable{pins:EQ (EV×Obj)}{s:EU}
def ZbP{scope:Scope}{env:Env}(h:scope.names.lookup x=some .free):(relabel scope env).names.lookup x=some .cell\/(relabel scope env).names.lookup x=some .free:=by
 unfold relabel;show List.lookup x (scope.names.map _)=_\/List.lookup x (scope.names.map _)=_;generalize scope.names=l at h
 induction l with
 |nil=>simp at h
 | cons p r ih =>
  obtain⟨n,k⟩:=p;rw[Af];cases hx:x==n with
  | true =>
   rw[AJ,hx]at h;have hk:k=.free:=by simpa using h
   subst hk;by_cases hc:(NameKind.free==NameKind.free&&env.scope.kind == .function&&env.kindOf n==some .cell)=true
   ·refine .inl ?_;show List.lookup x ((if (NameKind.free==NameKind.free&&env.scope.kind == .function&&env.kindOf n==some .cell)=true then (n,NameKind.cell)else (n,NameKind.free))::_)=_
    rw[DD hc,AJ,hx]
   ·refine .inr ?_;show List.lookup x ((if (NameKind.free==NameKind.free&&env.scope.kind == .function&&env.kindOf n==some .cell)=true then (n,NameKind.cell)else (n,NameKind.free))::_)=_
    rw[DF hc,AJ,hx]
  | false =>
   rw[AJ,hx]at h;have key:∀q:Str×NameKind,(q=(n,NameKind.cell)\/q=(n,k))->∀l',List.lookup x (q::l')=List.lookup x l':=λq hq l'=>by rcases hq with rfl|rfl <;> rw[AJ,hx]
   have hq:(if (k==NameKind.free&&env.scope.kind == .function&&env.kindOf n==some .cell)=true then (n,NameKind.cell)else (n,k))=(n,NameKind.cell)\/(if (k==NameKind.free&&env.scope.kind == .function&&env.kindOf n==some .cell)=true then (n,NameKind.cell)else (n,k))=(n,k):=by
    split
    ·exact .inl rfl
    ·exact .inr rfl
   rcases ih h with z|z
   ·exact .inl<|(key _ hq _).trans z
   ·exact .inr<|(key _ hq _).trans z
def Zh3{scope:Scope}{env:Env}(h:(relabel scope env).names.lookup x=some .cell\/(relabel scope env).names.lookup x=some .free):∃y∈scope.names,y.1=x/\(y.2=.free\/y.2=.cell):=by
 unfold relabel at h;have h':List.lookup x (scope.names.map λ(n,k)=>if (k == .free&&env.scope.kind == .function&&env.kindOf n==some .cell)then (n,NameKind.cell)else (n,k))=some .cell\/List.lookup x (scope.names.map λ(n,k)=>if (k == .free&&env.scope.kind == .function&&env.kindOf n==some .cell)then (n,NameKind.cell)else (n,k))=some .free:=h
 clear h;generalize scope.names=l at h'
 induction l with
 |nil=>simp at h'
 | cons p r ih =>
  obtain⟨n,k⟩:=p;rw[Af]at h';cases hx:x==n with
  | true =>
   have hxn:x=n:=by simpa using hx
   by_cases hk:k=.free
   ·exact⟨(n,k),Aj,hxn.symm,.inl hk⟩
   ·
    have hb:(k==NameKind.free)=false:=by simpa using hk
    have e:(if (k==NameKind.free&&env.scope.kind == .function&&env.kindOf n==some .cell)=true then (n,NameKind.cell)else (n,k))=(n,k):=by
     rw[hb]
     rfl
    have h2:List.lookup x ((n,k)::r.map λ(n,k)=>if (k == .free&&env.scope.kind == .function&&env.kindOf n==some .cell)then (n,NameKind.cell)else (n,k))=some .cell\/List.lookup x ((n,k)::r.map λ(n,k)=>if (k == .free&&env.scope.kind == .function&&env.kindOf n==some .cell)then (n,NameKind.cell)else (n,k))=some .free:=by rw[<- e];exact h'
    rw[AJ,hx]at h2;rcases h2 with z|z
    ·exact⟨(n,k),Aj,hxn.symm,.inr<|AA z⟩
    ·exact absurd (AA z) hk
  | false =>
   have hq:∀q:Str×NameKind,(q=(n,NameKind.cell)\/q=(n,k))->∀l',List.lookup x (q::l')=List.lookup x l':=λq hq l'=>by rcases hq with rfl|rfl <;> rw[AJ,hx]
   have hqq:(if (k==NameKind.free&&env.scope.kind == .function&&env.kindOf n==some .cell)=true then (n,NameKind.cell)else (n,k))=(n,NameKind.cell)\/(if (k==NameKind.free&&env.scope.kind == .function&&env.kindOf n==some .cell)=true then (n,NameKind.cell)else (n,k))=(n,k):=by
    split
    ·exact .inl rfl
    ·exact .inr rfl
   obtain⟨y,hy,e⟩:=ih (by
    rcases h' with z|z
    ·exact .inl ((hq _ hqq _).symm.trans z)
    ·exact .inr ((hq _ hqq _).symm.trans z))
   exact⟨y,Ab _ hy,e⟩
def ZmF:∀(names:EQ (Str×NameKind))(h:EZ)(acc:EQ (Str×EV)),
  (∀x c,(cellsFrom h.objs.size names acc).lookup x=some c->acc.lookup x=some c\/(h.objs.size<=c/\(pushCells h names).IsCell c none/\(x,NameKind.cell)∈names)) /\
  (∀x,((x,NameKind.cell)∈names\/∃c,acc.lookup x=some c)->∃c,(cellsFrom h.objs.size names acc).lookup x=some c) /\
  (∀x c,(x,NameKind.cell)∈names->(cellsFrom h.objs.size names acc).lookup x=some c->h.objs.size<=c) /\
  ((∀x c,acc.lookup x=some c->c<h.objs.size)->(∀x y c,acc.lookup x=some c->acc.lookup y=some c->x=y)->∀x y c,(cellsFrom h.objs.size names acc).lookup x=some c->(cellsFrom h.objs.size names acc).lookup y=some c->x=y):=by
 intro names
 induction names with
 |nil=>intro h acc;exact⟨λx c e=>.inl e,λx e=>by rcases e with e|e;cases e;exact e,λx c e=>(by cases e),λ_ i=>i⟩
 | cons p r ih =>
  obtain⟨name,kind⟩:=p;intro h acc;unfold cellsFrom pushCells;by_cases hk:kind=.cell
  ·subst hk;have FC:((NameKind.cell==NameKind.cell)=true):=rfl;rw[DD FC,DD FC];have ih':=ih (h.push {cls:=.type "cell",data:=.cell none}) ((name,h.objs.size)::acc);rw[A1]at ih';obtain⟨i1,i2,i4,i3⟩:=ih';refine⟨λx c e=>?_,λx e=>?_,λx c e1 e2=>?_,λhb hi=>i3 (λx c e=>?_) λx y c e1 e2=>?_⟩
   ·rcases i1 x c e with z|⟨z1,z2,z3⟩
    ·rw[AJ]at z;cases hx:x==name with
     | true =>
      rw[hx]at z;have hxn:x=name:=by simpa using hx
      cases z;exact .inr ⟨Ag _,⟨_,pushCells_keeps _ _ _ _<|Ai _ rfl,rfl⟩,by rw[hxn];exact Aj⟩
     |false=>rw[hx]at z;exact .inl z
    ·exact .inr ⟨by omega,z2,Ab _ z3⟩
   ·refine i2 x ?_;by_cases hx:x=name
    ·exact .inr ⟨h.objs.size,by rw[AJ,hx];simp⟩
    ·rcases e with e|⟨c,e⟩
     ·rcases Au.mp e with q|q
      ·exact absurd (DI Prod.fst q) hx
      ·exact .inl q
     ·exact .inr ⟨c,by rw[AJ,beq_false_of_ne hx];exact e⟩
   ·rcases i1 x c e2 with z|⟨z,_,_⟩
    ·rw[AJ]at z;cases hx:x==name with
     |true=>rw[hx]at z;cases z;exact Ag _
     | false =>
      have hxn:x≠name:=by simpa using hx
      rcases Au.mp e1 with q|q
      ·exact absurd (DI Prod.fst q) hxn
      ·exact CM<|i4 x c q e2
    ·exact CM z
   ·rw[AJ]at e;cases hx:x==name with
    |true=>rw[hx]at e;cases e;exact Cs _
    |false=>rw[hx]at e;exact Cn<|hb x c e
   ·rw[AJ]at e1 e2;cases hx:x==name with
    | true =>
     have hxn:x=name:=by simpa using hx
     rw[hx]at e1;cases e1;cases hy:y==name with
     | true =>
      have hyn:y=name:=by simpa using hy
      rw[hxn,hyn]
     |false=>rw[hy]at e2;exact absurd (hb y _ e2) (AF _)
    | false =>
     rw[hx]at e1;cases hy:y==name with
     |true=>rw[hy]at e2;cases e2;exact absurd (hb x _ e1) (AF _)
     |false=>rw[hy]at e2;exact hi x y c e1 e2
  ·have FC:¬ ((kind==NameKind.cell)=true):=by simpa using hk
   rw[DF FC,DF FC];obtain⟨i1,i2,i4,i3⟩:=ih h acc;refine⟨λx c e=>?_,λx e=>i2 x ?_,λx c e1 e2=>?_,i3⟩
   ·rcases i1 x c e with z|⟨z1,z2,z3⟩
    ·exact .inl z
    ·exact .inr ⟨z1,z2,Ab _ z3⟩
   ·rcases e with e|e
    ·rcases Au.mp e with q|q
     ·exact absurd (DI Prod.snd q).symm hk
     ·exact .inl q
    ·exact .inr e
   ·rcases Au.mp e1 with q|q
    ·exact absurd (DI Prod.snd q).symm hk
    ·exact i4 x c q e2
def r6{M:Model}{A:EY}{E:Ds}{s:EU}{scope:Scope}{globals:EV}{cl:EQ (Str×EV)}{outer:Env}{Q:Env->EU->Prop}
  (h:Q {scope:=scope,locals:=s.heap.objs.size,globals:=globals,cells:=cellsFrom (s.heap.objs.size+1) scope.names cl,qual:=qual,func:=none,code:=outer.code,frame:=outer.frame,builtins:=outer.builtins} {s with heap:=pushCells (s.heap.push {cls:=.type "dict",data:=.dict #[]}) scope.names}) :
  wpAny M A (newFunctionEnv scope globals cl [] qual none .none<|some outer) Q E s:=by
 simp only[newFunctionEnv,Option.isSome_some,D8];refine wp<|wpAny_alloc ?_;refine wp<|wpAny_layCells _ (λname kind cells=>by cases hkc:kind==NameKind.cell <;> simp[hkc]) _ _ _ _ ?_
 rw[show({s with heap:=s.heap.push {cls:=.type "dict",data:=.dict #[]} }:EU).heap.objs.size=s.heap.objs.size+1 from A1 ..]
 rw[C6];exact wp<|DB<|DB h
def Zns{Nx ts:Dw}{ix:EQ Nat}{i:Nat}(h:(bN Nx ts ix)[i]?=some x)(hi:ts.length<=i):∃j,ix[i-ts.length]?=some j/\x=(Nx[j]?).getD Str.empty:=by
 unfold bN at h;rw[Az hi,Ak]at h;cases e:ix[i-ts.length]? with
 |none=>rw[e]at h;cases h
 |some j=>rw[e]at h;exact⟨j,rfl,(AA h).symm⟩
def Zkq{scope:Scope}{cl:EQ (Str×EV)}{fp:EQ EV}{C:EV}{h3:EZ}{tk:Nat}{m:Dy}{Nx ts:Dw}{ix:EQ Nat}
  (I:Inv X pins σ H s) (Fj:X.N=Nx) (ok:BlkOk Nx X.env.scope scope ix) (cs1:∀x c,cl.lookup x=some c->X.env.cells.lookup x=some c\/(C<c/\h3.IsCell c none/\(x,NameKind.cell)∈scope.names)) (csI:∀x y c,cl.lookup x=some c->cl.lookup y=some c->x=y) (cl2:∀y∈scope.names,(y.2=.free\/y.2=.cell)->∃c,cl.lookup y.1=some c) (csA:∀x c,(x,NameKind.cell)∈scope.names->cl.lookup x=some c->C<=c)
  (hf:∀b∈fp,eL X pins H b) (FD:∀b∈fp,b<s.heap.objs.size) (hC:s.heap.objs.size<=C) (kp:∀b o,s.heap.get? b=some o->h3.get? b=some o) (hns:h3.Ns C m) :
  Inv (aP X (bN Nx ts ix) scope ⟨cl,C,s,H,fp,X.pn++pins⟩) [] (cQ ts.length ix σ) H {s with heap:=h3,toks:=tk}:=by
 have below:∀{b:EV},b<s.heap.objs.size->b≠C:=λhb=>Aw<|Ao hb hC;have nstk:∀b,b≠X.env.locals->b∉X.fs->b∉frs X.stack:=λb h1 h2 hb=>by
  rcases Au.mp (I.stkSub b hb)with z|z
  ·exact h1 z
  ·exact h2 z
 refine⟨⟨I.ok.mod,?_,I.ok.glob,I.ok.blt,hC,csI,λx hx=>?_,λx c hfn e=>Ap hC<|csA x c (AT<|eq_of_beq hfn) e,I.ok.hd,I.ok.frames,.inl rfl,λb hb=>⟨below<|FD b hb,λx c e=>by
  rcases cs1 x c e with z|⟨z,_,_⟩
  ·exact(hf b hb).2.2.2.2.1 x c z
  ·exact AZ (Ao (FD b hb)<|Ap hC<|BS z)⟩,I.bs,Ap I.ok.bsz I.sz,λb o e hb=>?_,λb hb=>nstk b (hf b hb).2.1 (hf b hb).2.2.1,I.stack,I.stkFree⟩,
  rfl,I.bare,Un.kept kp,⟨m,hns,λi x v h1 h2 h3'=>?_⟩,λx c e=>?_,I.hok.fresh hC,λx c e=>by
  rcases cs1 x c e with z|⟨z,_,_⟩
  ·exact I.freeC x c z
  ·exact I.hok.fresh (Ap hC<|BS z),λp hp=>?_,I.hok.kept kp,?_⟩
 ·exact ok.kind
 ·have hx':(relabel scope X.env).names.lookup x=some .cell\/(relabel scope X.env).names.lookup x=some .free:=hx;obtain⟨y,hy,e1,e2⟩:=Zh3 hx';obtain⟨c,hc⟩:=cl2 y hy e2;exact⟨c,by rw[<- e1];exact hc⟩
 ·rcases(hf b hb).2.2.2.1 with z|z
  ·exact I.ok.noex b o e z
  ·exact absurd (Ao (An e)<|Ap I.ok.bsz z)<|AF _
 ·have hi:ts.length<=i:=by
   rcases Nat.lt_or_ge i ts.length with z|z
   ·exfalso;have h2':(cQ ts.length ix σ)[i]?=some (some v):=h2;unfold cQ at h2';rw[At<|by simpa using z,AG]at h2'
    split at h2' <;> cases h2'
   ·exact z
  obtain⟨j,hj,ex⟩:=Zns h1 hi;have h2':(cQ ts.length ix σ)[i]?=some (some v):=h2;unfold cQ at h2';rw[Az<|by simpa using hi,Ak,B4,hj]at h2'
  have hσ:σ[j]?=some (some v):=by
   have q:(σ[j]?).getD none=some v:=AA h2';cases e:σ[j]? with
   |none=>rw[e]at q;cases q
   |some w=>rw[e]at q;exact DI some q
  obtain⟨hjl,Fi⟩:=ok.caps j<|AD hj;have hNj:X.N[j]?=some x:=by
   rw[Fj,ex,Ah hjl]
   rfl
  rw[<- ex]at Fi;obtain⟨c,hc⟩:=cl2 (x,.free) (AT Fi)<|.inl rfl;have cl1:X.env.cells.lookup x=some c:=by
   rcases cs1 x c hc with z|⟨_,_,z⟩
   ·exact z
   ·have:=ok.cells _ z rfl;rw[Fi]at this;cases this
  have kx:=ok.frees (x,.free) (AT Fi) rfl;obtain⟨m0,hn0,hl0⟩:=I.loc;obtain⟨u,ru,look⟩:=hl0 j x v hNj hσ<|by rcases kx with z|z;exact .inr (.inl z);exact .inr (.inr z)
  refine⟨u,ru,.inr ⟨ZbP Fi,c,hc,?_⟩⟩;rcases look with ⟨k1,_⟩|⟨_,c',hc',z⟩
  ·have k1':X.env.scope.names.lookup x=some .local:=k1;rcases kx with z|z
   ·rw[k1']at z;cases z
   ·rw[k1']at z;cases z
  ·have e:=cl1;rw[hc']at e;cases e;obtain⟨o,ho,hd⟩:=z;exact⟨o,kp _ _ ho,hd⟩
 ·rcases cs1 x c e with z|⟨_,z,_⟩
  ·obtain⟨v,o,ho,hd⟩:=I.cell x c z;exact⟨v,o,kp _ _ ho,hd⟩
  ·exact⟨_,z⟩
 ·have hp':p∈X.pn++pins:=by simpa [aP]using hp
  obtain⟨e,n,ne,nf,d⟩:=I.pin p hp';exact⟨kp _ _ e,n,below<|An e,nstk _ ne nf,d⟩
 ·show(cQ ts.length ix σ).length=(bN Nx ts ix).length;unfold cQ bN;simp
def Inv.track{D:EV}{E5:Dv}{n:Nat}(I:Inv X pins σ H s)(hD:H D=none)(ho:s.heap.get? D=some {cls:=.type "list",data:=.seq E5.toArray n})(r:Vals ys E5)(hz:ys.length<=sizeLine)
  (hL:D≠X.env.locals) (hs0:X.s₀.heap.objs.size<=D) (hc:∀x c,X.env.cells.lookup x=some c->c≠D) (hp:∀p∈X.pn++pins,p.1≠D):Inv X pins σ (upd H D<|.lst ys) s:=by
 have ne:∀{b:EV}{o:HO},H b=some o->b≠D:=λe=>cg e hD;refine I.step (g':=s.gens) (d':=s.drawn) (t':=s.toks) (h':=s.heap) (ch:=[D]) (λb hb=>?_) (λb o _ _ _ e _=>e) (λb o _ _ _ e _=>⟨o.slots,e⟩) (λb o hb e n=>?_) (λb o _ e=>⟨o,e⟩)
  (λb xs e=>by rw[aA<|ne e];exact e) (λb o u e=>by rw[aA<|ne e];exact e) (λb ps e=>⟨#[],by rw[aA<|ne e,e];simp⟩) (λm hm=>hm) (λb u e=>?_) I.bare
 ·have e:b=D:=by simpa using hb
  subst e;exact⟨.inr hs0,hL,hc,hp⟩
 ·have FB:b≠D:=by simpa using hb
  rw[aA FB];exact n
 ·by_cases hb:b=D
  ·subst hb;rw[bv]at e;cases e;exact⟨hz,E5,n,r,ho⟩
  ·rw[aA hb]at e;exact(I.hok b u e).stay (λc v _ q=>q) (λc q=>by rw[aA<|ne q];exact q) (λc xs q=>by rw[aA<|ne q];exact q) λc ob xs _ q _=>by rw[aA<|ne q];exact q
end
def ZmB{prog:EW}{w:EX}{A:EY}{R:Result->EU->Prop}{s:EU}{elt target iter:E1}{scope:Scope}{pos:Pos}{it acc:ET}{env:Env}(J:Nat->EU->Prop)
  (step:∀k s0,J k s0->wpAny (model prog w) A (pyNext it) (λgot s1=>match got with
   |none=>R (.ok .next) s1
   | some v=>wpAny (model prog w) A (letOwnedTupleGo target it v) (λ_ s2=>wpAny (model prog w) A (assign target env v) (λ_ s3=>wpAny (model prog w) A (eval elt env) (λy s4 =>
     wpAny (model prog w) A (call (.builtin "list.append") [acc,y]) (λ_ s5=>∃j,j<k/\J j s5) (λ_ _=>False) s4) (λ_ _=>False) s3) (λ_ _=>False) s2) (λ_ _=>False) s1) (λ_ _=>False) s0)
  (k:Nat) (h:J k s):codeAny (model prog w) A (.compLoop (.ListComp elt [⟨target,iter,[],0⟩] scope pos) 0 it acc env) R s:=by
 refine Ez rfl J (λk0 s0 hJ=>?_) k h;show wpAny _ _ ((compTurn (.ListComp elt [⟨target,iter,[],0⟩] scope pos) 0 it acc env).onRaise<|λx=>do noteFrame x env;theTreesLotGoes x) _ _ s0
 apply EF;rw[compTurn_list1];refine wp (DR<|wp<|DJ (step k0 s0 hJ) (λgot s1 h1=>?_) λ_ _ z=>z.elim);cases got with
 |none=>exact DB h1
 | some v =>
  refine wp (DJ h1 (λ_ s2 h2=>?_) λ_ _ z=>z.elim);refine wp (DJ h2 (λ_ s3 h3=>?_) λ_ _ z=>z.elim);refine wp (wp<|DJ h3 (λy s4 h4=>?_) λ_ _ z=>z.elim);exact wp<|DJ h4 (λ_ s5 h5=>DB<|DB ⟨rfl,h5⟩) λ_ _ z=>z.elim
def gb(wi:TI)(n:Nat)(ix:EQ Nat)(g:Blk->TG)(te:Blk->TE):TE:=λσ H Q=>wi σ H λJ H1=>∀b:Blk,∃W:Nat->Nat->St->EQ V->Hp->Prop,(∃m,W 0 m (cQ n ix σ) [] H1)/\∀i m τ ys H2,W i m τ ys H2 ->
 (J.stop i H2/\∀p v H',H2 p=none->v=V.ref p->H'=upd H2 p (.lst ys)->Q v H') \/
 (J.go i H2/\ys.length<sizeLine/\∀x H3,J.yld i H2 x H3->g b x τ H3 λτ2 H4=>te b τ2 H4 λy H5=>∃m',m'<m/\W (i+1) m' τ2 (ys++[y]) H5)
section
variable{pins:EQ (EV×Obj)}{s:EU}
structure BlkS(X:Cx)(pins:List (EV×Obj))(σ:St)(Nx ts:Dw)(ix:List Nat)(scope:Scope)(s2:EU)(H1:Hp)(fp:List EV)(o0:Obj)(cs:List (Str×EV))(C:EV)(h3:EZ):Prop where
 hC:s2.heap.objs.size<=C
 hDC:s2.heap.objs.size≠C
 I3:Inv (aP X (bN Nx ts ix) scope ⟨cs,C,s2,H1,fp,X.pn++pins⟩) [] (cQ ts.length ix σ) H1 {s2 with heap:=h3}
 kp:∀b o,s2.heap.get? b=some o->h3.get? b=some o
 hD3:h3.get? s2.heap.objs.size=some o0
 fC:H1 s2.heap.objs.size=none
 cellIn:∀x c,cs.lookup x=some c->c≠s2.heap.objs.size
 pinIn:∀p∈X.pn++pins,p.1<s2.heap.objs.size
 nofrs:s2.heap.objs.size∉frs X.stack
 pinD:∀{τ:St}{H':Hp}{s':EU}{ob:Obj},Inv (aP X (bN Nx ts ix) scope ⟨cs,C,s2,H1,fp,X.pn++pins⟩) [] τ H' s'->s'.heap.get? s2.heap.objs.size=some ob->H' s2.heap.objs.size=none->(∀v,ob.data≠.cell v)->Inv (aP X (bN Nx ts ix) scope ⟨cs,C,s2,H1,fp,X.pn++pins⟩) [(s2.heap.objs.size,ob)] τ H' s'
 stat:∀{H':Hp}{ob:Obj},(∀b∈fp,H' b=none)->∀b∈fp,eL (aP X (bN Nx ts ix) scope ⟨cs,C,s2,H1,fp,X.pn++pins⟩) [(s2.heap.objs.size,ob)] H' b
def uX{o0:Obj}{scope:Scope}{Nx ts:Dw}{ix:EQ Nat}{cl:EQ (Str×EV)}{s2:EU}{fp:EQ EV}{G:EZ}(Fj:X.N=Nx)(ok:BlkOk Nx X.env.scope scope ix)(cl1:∀x c,cl.lookup x=some c->X.env.cells.lookup x=some c)(cl2:∀y∈scope.names,y.2=.free->∃c,cl.lookup y.1=some c)
  (I2:Inv X pins σ H1 s2) (f2:∀b∈fp,eL X pins H1 b) (FD:∀b∈fp,b<s2.heap.objs.size) (hG:s2.heap.push o0=G) (hfr:o0.isFreed=false:=by rfl):BlkS X pins σ Nx ts ix scope s2 H1 fp o0 (cellsFrom (G.objs.size+1) scope.names cl) G.objs.size (pushCells (G.push {cls:=.type "dict",data:=.dict #[]}) scope.names):=by
 have hGs:G.objs.size=s2.heap.objs.size+1:=by rw[<- hG,A1]
 have kpG:∀b o,G.get? b=some o->(pushCells (G.push {cls:=.type "dict",data:=.dict #[]}) scope.names).get? b=some o:=λb o e=>pushCells_keeps _ _ _ _<|Aa _ e;have hns3:(pushCells (G.push {cls:=.type "dict",data:=.dict #[]}) scope.names).Ns G.objs.size (λ_=>none):=(Heap.Ns.new G<|.type "dict").keeps<|pushCells_keeps _ _;obtain⟨sp1,sp2,sp4,sp3⟩:=ZmF scope.names (G.push {cls:=.type "dict",data:=.dict #[]}) cl;rw[A1]at sp1 sp2 sp3 sp4;generalize hh3:pushCells (G.push {cls:=.type "dict",data:=.dict #[]}) scope.names=h3 at kpG hns3 sp1 ⊢;have kp:∀b o,s2.heap.get? b=some o->h3.get? b=some o:=λb o e=>kpG b o<|by rw[<- hG];exact Aa _ e
 have hD3:h3.get? s2.heap.objs.size=some o0:=kpG _ _<|by rw[<- hG];exact Ai _ hfr
 have clB:∀x c,cl.lookup x=some c->c<G.objs.size+1:=λx c e=>by obtain⟨v,q⟩:=I2.cell x c<|cl1 x c e;exact Cn<|Ao q.lt<|by rw[hGs];exact Nat.le_succ _
 have csI:=sp3 clB λx y c e1 e2=>I2.ok.inj x y c (cl1 x c e1)<|cl1 y c e2;have cs1:∀x c,(cellsFrom (G.objs.size+1) scope.names cl).lookup x=some c->X.env.cells.lookup x=some c\/(G.objs.size<c/\h3.IsCell c none/\(x,NameKind.cell)∈scope.names):=λx c e=>by
  rcases sp1 x c e with z|⟨z1,z2,z3⟩
  ·exact .inl<|cl1 x c z
  ·exact .inr ⟨by omega,z2,z3⟩
 have cs2:∀y∈scope.names,(y.2=.free\/y.2=.cell)->∃c,(cellsFrom (G.objs.size+1) scope.names cl).lookup y.1=some c:=λy hy hk=>by
  refine sp2 y.1 ?_;rcases hk with z|z
  ·exact .inr<|cl2 y hy z
  ·exact .inl<|by rw[<- z];exact hy
 have csA:∀x c,(x,NameKind.cell)∈scope.names->(cellsFrom (G.objs.size+1) scope.names cl).lookup x=some c->G.objs.size<=c:=λx c e1 e2=>CM<|sp4 x c e1 e2;generalize hcs:cellsFrom (G.objs.size+1) scope.names cl=cs at csI cs1 cs2 csA ⊢;generalize hCe:G.objs.size=C at hns3 cs1 csA ⊢;have hC:s2.heap.objs.size<=C:=by omega
 have hDC:s2.heap.objs.size≠C:=by omega
 let B:Blk:=⟨cs,C,s2,H1,fp,X.pn++pins⟩
 have I3:Inv (aP X (bN Nx ts ix) scope B) [] (cQ ts.length ix σ) H1 {s2 with heap:=h3}:=Zkq I2 Fj ok cs1 csI cs2 csA f2 FD hC kp hns3;have fC:H1 s2.heap.objs.size=none:=I2.hok.fresh<|Ag _;have cellIn:∀x c,cs.lookup x=some c->c≠s2.heap.objs.size:=λx c e=>by
  rcases cs1 x c e with z|⟨z,_,_⟩
  ·obtain⟨v,q⟩:=I2.cell x c z;exact Aw q.lt
  ·exact AZ<|BL hC z
 have pinIn:∀p∈X.pn++pins,p.1<s2.heap.objs.size:=λp hp=>An (I2.pin p hp).1;have nofrs:s2.heap.objs.size∉frs X.stack:=λhb=>by
  rcases Au.mp (I2.stkSub _ hb)with z|z
  ·exact absurd I2.lt<|by rw[<- z];exact AF _
  ·exact I2.nofs (Ag _) z
 -- a state with the list at E5 place,pinned
 have pinD:∀{τ:St}{H':Hp}{s':EU}{ob:Obj},Inv (aP X (bN Nx ts ix) scope B) [] τ H' s'->s'.heap.get? s2.heap.objs.size=some ob->H' s2.heap.objs.size=none->(∀v,ob.data≠.cell v)->Inv (aP X (bN Nx ts ix) scope B) [(s2.heap.objs.size,ob)] τ H' s' :=
  λ{τ H' s' ob} I' ho hn hd=>I'.pins_of λp hp=>by
   have e:p=(s2.heap.objs.size,ob):=by simpa using hp
   subst e;exact⟨ho,hn,hDC,nofrs,hd⟩
 have stat:∀{H':Hp}{ob:Obj},(∀b∈fp,H' b=none)->∀b∈fp,eL (aP X (bN Nx ts ix) scope B) [(s2.heap.objs.size,ob)] H' b:=λ{H' ob} hn b hb=>by
  refine⟨hn b hb,Aw<|Ao (FD b hb) hC,λz=>?_,.inl hb,λx c e=>by
   rcases cs1 x c e with z|⟨z,_,_⟩
   ·exact(f2 b hb).2.2.2.2.1 x c z
   ·exact AZ (Ao (FD b hb)<|Ap hC<|BS z),λp hp=>?_⟩
  ·rcases Au.mp (I2.stkSub _ z)with q|q
   ·exact(f2 b hb).2.1 q
   ·exact(f2 b hb).2.2.1 q
  ·rcases Bs.mp hp with z|z
   ·exact(f2 b hb).2.2.2.2.2 p z
   ·have e:p=(s2.heap.objs.size,ob):=by simpa using z
    subst e;exact AZ<|FD b hb
 exact⟨hC,hDC,I3,kp,hD3,fC,cellIn,pinIn,nofrs,pinD,stat⟩
def rY(X:Cx)(pins:EQ (EV×Obj))(σ:St)(Q:VK)(R:ET->EV->Result->EU->Prop):Prop:=∀(D C:EV)(H':Hp)(s':EU)(v:V),Inv X pins σ H' s'->v=.ref D->Q v H'->(∃m,s'.heap.Ns C m)->H' C=none->C≠X.env.locals->X.s₀.heap.objs.size<=C->(∀x c,X.env.cells.lookup x=some c->c≠C)->(∀p∈X.pn++pins,p.1≠C) ->
   R (.ref D) C (.ok .next) s'
def yV{scope:Scope}{Nx ts:Dw}{ix:EQ Nat}{cs:EQ (Str×EV)}{C:EV}{s2 s6:EU}{H5:Hp}{fp:EQ EV}{τ:St}{E5:Dv}{n:Nat}{R:ET->EV->Result->EU->Prop}(I2:Inv X pins σ H1 s2)(f2:∀b∈fp,eL X pins H1 b)(hC:s2.heap.objs.size<=C)(hDC:s2.heap.objs.size≠C)(pinIn:∀p∈X.pn++pins,p.1<s2.heap.objs.size)
  (I6:Inv (aP X (bN Nx ts ix) scope ⟨cs,C,s2,H1,fp,X.pn++pins⟩) [(s2.heap.objs.size,({cls:=.type "list",data:=.seq (List.toArray E5) n}:Obj))] τ H5 s6) (rv:Vals ys E5) (hz:ys.length<=sizeLine) (hR:rY X pins σ Q R)
  (qn:∀p v H',H5 p=none->v=V.ref p->H'=upd H5 p (.lst ys)->Q v H'):R (.ref s2.heap.objs.size) C (.ok .next) s6:=by
 obtain⟨ho,hn,_,_,_⟩:=I6.pin (s2.heap.objs.size,({cls:=.type "list",data:=.seq (List.toArray E5) n}:Obj))<|Ae _<|by simp
 have I7:Inv X pins σ H5 s6:=I2.call' (ch:=fp) (H':=H5) (by exact I6.os) I6.base I6.hok I6.bare λb hb=>⟨(f2 b hb).2.2.2.1,(f2 b hb).2.1,(f2 b hb).2.2.2.2.1,(f2 b hb).2.2.2.2.2⟩
 have hs0:X.s₀.heap.objs.size<=s2.heap.objs.size:=I2.sz;have I8:=I7.track hn ho rv hz (AZ I2.lt) hs0 (λx c e z=>by obtain⟨v,q⟩:=I2.cell x c e;exact absurd q.lt<|by rw[z];exact AF _)<|λp hp=>Aw<|pinIn p hp
 obtain⟨m6,hm6,_⟩:=I6.loc;refine hR _ C _ s6 _ I8 rfl (qn _ _ _ hn rfl rfl) ⟨m6,hm6⟩ ?_ (λz=>?_) (Ap hs0 hC) (λx c e z=>?_) λp hp=>Aw<|Ao (pinIn p hp) hC
 ·rw[aA<|Ne.symm hDC];exact I6.free
 ·exact absurd (Ao I2.lt hC)<|by rw[z];exact AF _
 ·obtain⟨v,q⟩:=I2.cell x c e;exact absurd (Ao q.lt hC)<|by rw[z];exact AF _
def Zdc{elt target iter:E1}{scope:Scope}{pos:Pos}{Nx ts:Dw}{ix:EQ Nat}{g:Blk->TG}{te:Blk->TE}{cl:EQ (Str×EV)}{s2:EU}{itv:ET}{R:ET->EV->Result->EU->Prop}
  {E:Ds} {Q:VK}
  (hc:X.calm=true) (hg:∀b,PG (aP X (bN Nx ts ix) scope b) target<|g b) (he:∀b,PE (aP X (bN Nx ts ix) scope b) elt<|te b)
  (Fj:X.N=Nx) (ok:BlkOk Nx X.env.scope scope ix) (cl1:∀x c,cl.lookup x=some c->X.env.cells.lookup x=some c) (cl2:∀y∈scope.names,y.2=.free->∃c,cl.lookup y.1=some c)
  (h2:p8 X pins σ target (λJ H1=>∀b:Blk,∃W:Nat->Nat->St->EQ V->Hp->Prop,(∃m,W 0 m (cQ ts.length ix σ) [] H1)/\∀i m τ ys H2,W i m τ ys H2 ->
   (J.stop i H2/\∀p v H',H2 p=none->v=V.ref p->H'=upd H2 p (.lst ys)->Q v H') \/
   (J.go i H2/\ys.length<sizeLine/\∀x H3,J.yld i H2 x H3->g b x τ H3 λτ2 H4=>te b τ2 H4 λy H5=>∃m',m'<m/\W (i+1) m' τ2 (ys++[y]) H5)) itv s2)
  (hR:rY X pins σ Q R) :
  wpAny (model X.prog X.w) X.A (newList []) (λacc s₃=>wpAny (model X.prog X.w) X.A (newFunctionEnv scope X.env.globals cl [] X.env.qual none .none<|some X.env) (λcenv s₄ =>
   codeAny (model X.prog X.w) X.A (.compStart (.ListComp elt [⟨target,iter,[],0⟩] scope pos) 0 itv acc {cenv with scope:=relabel scope X.env}) (R acc cenv.locals) s₄) E s₃) E s2:=by
 obtain⟨it,fp,tn,J,H1,e,I2,T,st2,f2,q2⟩:=h2;subst e;refine DH<|r6 ?_;dsimp only;generalize hG:s2.heap.push {cls:=.type "list",dict:=none,data:=.seq ([]:Dv).toArray}=G;have FD:∀b∈fp,b<s2.heap.objs.size:=λb hb=>let ⟨o,e,_⟩:=T.obj _ _ st2 b hb;An e
 have S:=uX (ts:=ts) Fj ok cl1 cl2 I2 f2 FD hG;generalize pushCells (G.push {cls:=.type "dict",data:=.dict #[]}) scope.names=h3 at S ⊢;generalize cellsFrom (G.objs.size+1) scope.names cl=cs at S ⊢;generalize G.objs.size=C at S ⊢;obtain⟨hC,hDC,I3,kp,hD3,fC,cellIn,pinIn,nofrs,pinD,stat⟩:=S
 let B:Blk:=⟨cs,C,s2,H1,fp,X.pn++pins⟩
 obtain⟨W,⟨m0,w0⟩,turn⟩:=q2 B;have loop:∀s4:EU,s4={s2 with heap:=h3} ->
   codeAny (model X.prog X.w) X.A (.compLoop (.ListComp elt [⟨target,iter,[],0⟩] scope pos) 0 (.ref it) (.ref s2.heap.objs.size)<|compEnvC scope cs C X.env) (R (.ref s2.heap.objs.size) C) s4:=by
  rintro s4 rfl;refine ZmB (λk s'=>∃i τ ys E5 n H',Inv (aP X (bN Nx ts ix) scope B) [(s2.heap.objs.size,({cls:=.type "list",data:=.seq (List.toArray E5) n}:Obj))] τ H' s'/\tn i s'.heap/\(∀b∈fp,H' b=none)/\Vals ys E5/\ys.length<=sizeLine/\W i k τ ys H') ?_ m0
   ⟨0,_,[],[],_,H1,pinD I3 hD3 fC (λv z=>by cases z),T.keep _ _ _ st2 λb hb o e=>kp b o e,λb hb=>(f2 b hb).1,.nil,A0 _,w0⟩
  rintro k s5 ⟨i,τ,ys,E5,n,H5,I5,st5,fr5,rv,hz,w5⟩;rcases turn i k τ ys H5 w5 with ⟨stop,qn⟩|⟨go,E6,step⟩
  ·refine thn (T.done (aP X (bN Nx ts ix) scope B) rfl rfl rfl hc i _ s5 τ H5 _ I5 (stat fr5) st5 stop) λgot s6 E4=>?_;obtain⟨rfl,I6⟩:=E4;exact yV I2 f2 hC hDC pinIn I6 rv hz hR qn
  ·refine thn (T.item (aP X (bN Nx ts ix) scope B) rfl rfl rfl hc i _ s5 τ H5 _ I5 (stat fr5) st5 go) λgot s6 E4=>?_;obtain⟨u,hr,h6⟩:=E4;subst hr;refine thn h6 λ_ s7 E4=>?_;obtain⟨x,H7,I7,r7,y7,st7,fr7⟩:=E4;have I7':=I7.pinned (stat fr7)<|T.obj _ _ st7;refine thn (hg B _ s7 τ H7 x u _ I7' r7<|step x H7 y7) λ_ s8 E4=>?_;obtain⟨τ8,H8,I8,q8⟩:=E4;refine thn (he B _ s8 τ8 H8 _ I8 q8) λy s9 E4=>?_;obtain⟨vy,H9,I9,r9,m',Fv,w9⟩:=E4;obtain⟨ho,hn,_,_,_⟩:=I9.pin (s2.heap.objs.size,({cls:=.type "list",data:=.seq (List.toArray E5) n}:Obj)) (Ae _<|AR _<|by simp)
   have lenv:=rv.length;refine Es (l:=s2.heap.objs.size) ⟨n,ho⟩ (λh' Fc Fq=>?_)<|by rw[Am];omega
   obtain⟨n',Fu⟩:=Fc;have eobj:(E5.toArray.push y)=List.toArray (E5++[y]):=by simp
   rw[eobj]at Fu;have I9':Inv (aP X (bN Nx ts ix) scope B) [] τ8 H9 s9:=I9.pins_of λp hp=>absurd hp<|by simp
   have I10:Inv (aP X (bN Nx ts ix) scope B) [] τ8 H9 {s9 with heap:=h'}:=I9'.turned (it:=s2.heap.objs.size) (t':=s9.toks) (λb o hb e=>(Fq.2 b hb).trans e) hn hDC (.inr<|Ag _) cellIn (λp hp=>by have hp':p∈(X.pn++pins)++[]:=hp;rw[AI]at hp';exact Aw<|pinIn p hp')
   refine⟨m',Fv,i+1,τ8,ys++[vy],E5++[y],n',H9,pinD I10 Fu hn (λv z=>by cases z),?_,λb hb=>?_,rv.append<|.cons r9 .nil,by rw[Aq];show ys.length+1<=_;omega,w9⟩
   ·refine T.keep _ _ _ st7 λb hb o e=>?_;have q:=(I9.pin (b,o)<|Ae _<|Ae _<|er hb e).1;exact(Fq.2 b<|Aw<|FD b hb).trans q
   ·obtain⟨o,e,d⟩:=T.obj _ _ st7 b hb;exact(I9.pin (b,o)<|Ae _<|Ae _<|er hb e).2.1
 exact Ew (loop _ rfl)<|T.self X.A 0 _ _ _ (T.keep _ _ _ st2 λb hb o e=>kp b o e)<|loop _ rfl
def je{elt target iter:E1}{scope:Scope}{pos:Pos}{g:Blk->TG}{te:Blk->TE}(Nx:Dw)(ts:Dw)(ix:EQ Nat)
  (hc:X.calm=true) (hi:PI X target iter wi) (hg:∀b,PG (aP X (bN Nx ts ix) scope b) target<|g b) (he:∀b,PE (aP X (bN Nx ts ix) scope b) elt<|te b)
  (Fj:X.N=Nx) (ok:BlkOk Nx X.env.scope scope ix) (hs:∀x,foldedSetIterable iter X.env x=pure x:=by intro _;rfl) :
  PE X (.ListComp elt [⟨target,iter,[],0⟩] scope pos) (gb wi ts.length ix g te):=by intro pins s σ H Q I h;obtain⟨cl,hcl,cl1,cl2⟩:=jE (scope:=scope) (env:=X.env) λy hy hf=>I.ok.has y.1<|ok.frees y hy hf;rw[eval_ListComp];refine DU (use:=none) rfl hs hcl ok.kind ok.locs (thn (hi pins s σ H _ I h) λv s1 h1=>thn h1 λitv s2 h2=>?_);refine Zdc (R:=λacc C=>compPost (model X.prog X.w) X.A X.xe none (EP X pins σ Q) acc C) hc hg he Fj ok cl1 cl2 h2 ?_;rintro D C H' s' v I' rfl q ⟨m,hm⟩ hn hL h0 Fh hp;exact⟨m,hm,λh' Fq=>⟨.ref D,H',I'.turned (it:=C) (t':=s'.toks) (λb o hb e=>(Fq.2 b hb).trans e) hn hL (.inr h0) Fh hp,rfl,q⟩⟩
def qH{elt target iter:E1}{scope:Scope}{pos pos' spos:Pos}{g:Blk->TG}{te:Blk->TE}{i:Nat}(Nx:Dw)(ts:Dw)(ix:EQ Nat)
  (hc:X.calm=true) (hN:X.N.Nodup) (hix:X.N[i]?=some x) (hx:X.env.scope.names.lookup x=some .local) (hi:PI X target iter wi) (hg:∀b,PG (aP X (bN Nx ts ix) scope b) target<|g b) (he:∀b,PE (aP X (bN Nx ts ix) scope b) elt<|te b)
  (Fj:X.N=Nx) (ok:BlkOk Nx X.env.scope scope ix) (hsw:swapsWith (.ListComp elt [⟨target,iter,[],0⟩] scope pos) (some<|.Name x pos') spos.line X.env=pure true) (hs:∀x,foldedSetIterable iter X.env x=pure x:=by intro _;rfl) :
  PS X (.Assign [.Name x pos'] (.ListComp elt [⟨target,iter,[],0⟩] scope pos) spos) (cV (gb wi ts.length ix g te)<|da i):=by
 intro pins s σ H D0 I h;obtain⟨cl,hcl,cl1,cl2⟩:=jE (scope:=scope) (env:=X.env) λy hy hf=>I.ok.has y.1<|ok.frees y hy hf;rw[exec_Assign_Name_used _ _ _ _ hsw];refine wp<|DR<|wp ?_;show wpAny _ X.A (do let _ <- comprehension (.ListComp elt [⟨target,iter,[],0⟩] scope pos) scope X.env _ (newList []) false (eval iter X.env) (some<|assign (.Name x pos') X.env)) _ _ s
 refine wp (thn (DU (use:=some<|assign (.Name x pos') X.env) (Q:=λ_ s'=>SP X pins D0 .next s') rfl hs hcl ok.kind ok.locs (thn (hi pins s σ H _ I h) λv s1 h1=>thn h1 λitv s2 h2=>?_)) λ_ s' hq=>DB<|DB hq);refine Zdc (R:=λacc C=>compPost (model X.prog X.w) X.A X.xe (some<|assign (.Name x pos') X.env) (λ_ s'=>SP X pins D0 .next s') acc C) (Q:=λx H1=>da i x σ H1 D0.nx) hc hg he Fj ok cl1 cl2 h2 ?_;rintro D C H' s' v I' rfl q ⟨m,hm⟩ hn hL h0 Fh hp;show wpAny _ X.A (assign (.Name x pos') X.env<|.ref D) _ _ _;refine EK<|wf I' hN hix (.inl hx) (show RelV (.ref D) (.ref D)from rfl) (λs'' I'' hch=>?_)<|.inr hx
 obtain⟨a,Fq,ha⟩:=hch;have haC:C≠a:=by
  rcases ha with z|z
  ·rw[z];exact hL
  ·exact λe=>Fh _ _ z e.symm
 exact⟨m,hm.sameBut Fq haC,λh'' hs''=>⟨_,H',I''.turned (it:=C) (t':=s''.toks) (λb o hb e=>(hs''.2 b hb).trans e) hn hL (.inr h0) Fh hp,q⟩⟩
end
def Zh2{scope:Scope}{env:Env}(h:scope.names.lookup x=some .cell\/scope.names.lookup x=some .free):(relabel scope env).names.lookup x=some .cell\/(relabel scope env).names.lookup x=some .free:=by
 rcases h with h|h
 ·refine .inl ?_;unfold relabel;show List.lookup x (scope.names.map _)=_;generalize scope.names=l at h
  induction l with
  |nil=>simp at h
  | cons p r ih =>
   obtain⟨n,k⟩:=p;rw[Af];show List.lookup x ((if (k==NameKind.free&&env.scope.kind == .function&&env.kindOf n==some .cell)=true then (n,NameKind.cell)else (n,k))::_)=_
   cases hx:x==n with
   | true =>
    rw[AJ,hx]at h;have hk:k=.cell:=by simpa using h
    subst hk;rw[DF<|by rw[show(NameKind.cell==NameKind.free)=false from rfl];simp,AJ,hx]
   | false =>
    rw[AJ,hx]at h
    split <;> rw[AJ,hx] <;> exact ih h
 ·exact ZbP h
def BlkOk.nest{Nx:Dw}{sc scope:Scope}{env:Env}{ix:EQ Nat}(h:BlkOk Nx sc scope ix):BlkOk Nx (relabel sc env) scope ix :=
 ⟨h.kind,h.cells,h.locs,λy hy z=>Zh2<|h.frees y hy z,h.caps⟩
mutual
/-- the value bears the datum -/
inductive Dn(H:Hp):V->ES->Prop
 |non:Dn H .non .none
 |bl (b:Bool):Dn H (.bl b) (.bool b)
 |int (i:Int):Dn H (.int i) (.int i)
 |str (x:Str):Dn H (.str x) (.str x)
 |tup {a:EV} {xs:Dx} {ds:Dt}:H a=some (.tup xs)->DnAll H xs ds->Dn H (.ref a) (.tuple ds)
 |lst {a:EV} {xs:Dx} {ds:Dt}:H a=some (.lst xs)->DnAll H xs ds->Dn H (.ref a) (.list ds)
 |dct {a:EV} {ks:List (aH×V)} {ds:Dt}:Rd H a (.dK ks)->DnAll H (ks.map (·.2)) ds->Dn H (.ref a) (.dict<|(ks.map λk=>match k.1 with|.inl i=>PyData.int i|.inr x=>PyData.str x).zip ds)
 |dcp {a:EV} {o:Obj} {ks:List (Du×V)} {ds:Dt}:ks≠[]->H a=some (.frz o<|.dT<|ks.map λk=>(k.1.map Sum.inl,k.2))->DnAll H (ks.map (·.2)) ds->Dn H (.ref a) (.dict<|(ks.map λk=>PyData.tuple<|k.1.map PyData.int).zip ds)
inductive DnAll(H:Hp):List V->List ES->Prop
 |nil:DnAll H [] []
 |cons {v:V} {vs:Dx} {d:ES} {ds:Dt}:Dn H v d->DnAll H vs ds->DnAll H (v::vs) (d::ds)
end
mutual
theorem Dn.mono{H H':Hp}(e:∀b o,H b=some o->H' b=some o):∀{v:V}{d:ES},Dn H v d->Dn H' v d
 |_,_,.non=>.non
 |_,_,.bl b=>.bl b
 |_,_,.int i=>.int i
 |_,_,.str x=>.str x
 |_,_,.tup h r=>.tup (e _ _ h) (DnAll.mono e r)
 |_,_,.lst h r=>.lst (e _ _ h) (DnAll.mono e r)
 |_,_,.dct h r=>.dct (h.imp (e _ _) λ⟨o,h⟩=>⟨o,e _ _ h⟩) (DnAll.mono e r)
 |_,_,.dcp n h r=>.dcp n (e _ _ h)<|DnAll.mono e r
theorem DnAll.mono{H H':Hp}(e:∀b o,H b=some o->H' b=some o):∀{vs:Dx}{ds:Dt},DnAll H vs ds->DnAll H' vs ds
 |_,_,.nil=>.nil
 |_,_,.cons r t=>.cons (Dn.mono e r)<|DnAll.mono e t
end
theorem DnAll.ints{H:Hp}:∀ns:Du,DnAll H (ns.map V.int) (ns.map PyData.int)
 | []=>.nil
 |n::ns=>.cons (.int n)<|DnAll.ints ns
theorem DnAll.length{H:Hp}{vs:Dx}{ds:Dt}(h:DnAll H vs ds):vs.length=ds.length:=by
 induction vs generalizing ds with
 |nil=>cases h;rfl
 |cons v vs ih=>cases h with|cons r t=>exact DI (·+1)<|ih t
def DnAll.append{ws:Dx}{ds es:Dt}(h:DnAll H vs ds)(s:DnAll H ws es):DnAll H (vs++ws) (ds++es):=by
 induction vs generalizing ds with
 |nil=>cases h;exact s
 |cons v vs ih=>cases h with|cons r t=>exact .cons r<|ih t
mutual
/-- data without dicts -/
theorem Dn.reads{P:EW}{w:EX}{H:Hp}{h:EZ}(ok:HOk P w H h):∀{v:V}{d:ES}{u:ET},Dn H v d->d.hasDict=false->RelV v u->∃as,Reads h u d as
 |_,_,_,.non,_,r=>by cases r;exact⟨_,.none⟩
 |_,_,_,.bl b,_,r=>by cases r;exact⟨_,.bool b⟩
 |_,_,_,.int i,_,r=>by obtain⟨t,rfl⟩:=r;exact⟨_,.int i t⟩
 |_,_,_,.str x,_,r=>by obtain⟨t,rfl⟩:=r;exact⟨_,.str x t⟩
 | _,_,_,.tup e rs,hd,r=>by
  cases r;obtain⟨z,E5,rv,o,h1,h2,n,h3⟩:=ok _ _ e;obtain⟨as,q⟩:=DnAll.reads ok rs (by simpa [PyData.hasDict]using hd) rv
  exact⟨_,.tuple h1 h2 h3<|by simpa using q⟩
 | _,_,_,.lst e rs,hd,r=>by
  cases r;obtain⟨z,E5,n,rv,h1⟩:=ok _ _ e;obtain⟨as,q⟩:=DnAll.reads ok rs (by simpa [PyData.hasDict]using hd) rv
  exact⟨_,.list h1 rfl rfl (by simpa using q)⟩
 |_,_,_,.dct e rs,hd,r=>by simp[PyData.hasDict]at hd
 |_,_,_,.dcp n e rs,hd,r=>by simp[PyData.hasDict]at hd
theorem DnAll.reads{P:EW}{w:EX}{H:Hp}{h:EZ}(ok:HOk P w H h):∀{vs:Dx}{ds:Dt}{us:Dv},DnAll H vs ds->PyData.hasDictAll ds=false->Vals vs us->∃as,ReadsAll h us ds as
 |_,_,_,.nil,_,r=>by cases r;exact⟨_,.nil⟩
 | _,_,_,.cons p t,hd,r=>by
  cases r with
  | cons r1 r2 =>
   simp only[PyData.hasDictAll,Bool.or_eq_false_iff]at hd;obtain⟨as,q⟩:=Dn.reads ok p hd.1 r1;obtain⟨bs,q2⟩:=DnAll.reads ok t hd.2 r2;exact⟨_,.cons q q2⟩
end
def gx(hr:Room k X.A):dH X (.builtin "repr") (λxs H Q=>∃v d,xs=[v]/\Dn H v d/\d.hasDict=false/\d.showable=true/\d.depth<=32/\d.shown.length<=sizeLine/\Q (.str d.shown) H):=by
 intro pins s σ H xs us Q I r h;obtain⟨v,d,rfl,hd,hn,hs,hdp,hz,q⟩:=h;obtain⟨u,rfl,ru⟩:=dW r;have hun:=hr.units;have viaRef:∀{a:EV}{as:EQ EV},Reads s.heap (.ref a) d as->wpAny (model X.prog X.w) X.A (call (.builtin "repr") [.ref a]) (EP X pins σ Q) X.xe s:=λ{a as} rd =>
  repr_of_reads' rd hs (PyData.noDict_hsm hn) hr.gd (by omega) (λ_ _ e=>e) (λh' u' tk hk=>⟨.str d.shown,H,I.kept hk,⟨_,rfl⟩,q⟩) hz
 obtain⟨as,rd⟩:=Dn.reads I.hok hd hn ru;cases rd with
 |none=>exact PySem.P.repr_of_none ⟨.str "None",H,I.tok _,⟨_,rfl⟩,q⟩
 |bool b=>exact PySem.P.repr_of_bool ⟨.str<|if b then "True" else "False",H,I.tok _,⟨_,rfl⟩,q⟩
 |int i t=>exact PySem.P.repr_of_int (by simpa [PyData.showable]using hs) ⟨.str<|toString i,H,I.tok _,⟨_,rfl⟩,q⟩
 |str x t=>exact PySem.P.repr_of_str ⟨.str<|reprText x,H,I.tok _,⟨_,rfl⟩,q⟩ hz
 |list h1 h2 h3 h4=>exact viaRef (.list h1 h2 h3 h4)
 |tuple h1 h2 h3 h4=>exact viaRef (.tuple h1 h2 h3 h4)
 |dict h1 h2 h3 h4 h5=>simp[PyData.hasDict]at hn
def Zi4(hr:Room k X.A):OpR X (compareOp .Eq) (λx y H Q=>∃d e,Dn H x d/\Dn H y e/\SeqAt.shaped d=true/\SeqAt.shaped e=true/\Q (.bl<|PyData.eqv d e) H):=by intro pins s σ H x y v u Q I rx ry h;obtain⟨d,e,hd,he,sd,se,q⟩:=h;obtain⟨as,r1⟩:=Dn.reads I.hok hd (B1 _<|B8 sd) rx;obtain⟨bs,r2⟩:=Dn.reads I.hok he (B1 _<|B8 se) ry;exact SeqAt.compareEq_shaped r1 r2 sd se hr.units ⟨.bl _,H,I,rfl,q⟩
def ZiZ(hr:Room k X.A):OpR X (compareOp .NotEq) (λx y H Q=>∃d e,Dn H x d/\Dn H y e/\SeqAt.shaped d=true/\SeqAt.shaped e=true/\Q (.bl<|!PyData.eqv d e) H):=by intro pins s σ H x y v u Q I rx ry h;obtain⟨d,e,hd,he,sd,se,q⟩:=h;obtain⟨as,r1⟩:=Dn.reads I.hok hd (B1 _<|B8 sd) rx;obtain⟨bs,r2⟩:=Dn.reads I.hok he (B1 _<|B8 se) ry;exact SeqAt.compareNe_shaped r1 r2 sd se hr.units ⟨.bl _,H,I,rfl,q⟩
def ZeO:dH X (.type "range") (λxs H Q=>∃i j:Int,xs=[.int i,.int j]/\∀p,H p=none->Q (.ref p) (upd H p<|.rng i j)):=by
 intro pins s σ H xs us Q I r h;obtain⟨i,j,rfl,q⟩:=h;cases r with
 | cons r1 rr =>
  cases rr with
  | cons r2 rr =>
   cases rr;obtain⟨t,rfl⟩:=r1;obtain⟨u,rfl⟩:=r2;refine call_range_2 ?_;exact⟨.ref s.heap.objs.size,_,I.laid (t':=s.toks+1) (λb o e=>Aa _ e) (Ag _)<|show ObjOk X.prog X.w _ _ _ (.rng i j)from⟨t,u,s.toks,Ai _ rfl⟩,rfl,q _<|I.hok.fresh<|Ag _⟩
def fL(lo:Int)(n:Nat):Dx:=(List.range n).map λ(k:Nat)=>V.int<|lo+(k:Int)
def Zf9(lo:Int):∀(n:Nat)(l:Dv),l.length=n->(∀(j:Nat)(v:ET),l[j]?=some v->∃t,v=Value.int (lo+(j:Int)) t)->Vals (fL lo n) l:=by
 intro n;unfold fL
 induction n with
 | zero =>
  intro l hl _;have e:l=[]:=De.mp hl;subst e;exact .nil
 | succ n ih =>
  intro l hl hl2;obtain⟨l',x,rfl⟩:∃l' x,l=l'++[x]:=⟨l.dropLast,l.getLast (by intro e;rw[e]at hl;cases hl),(List.dropLast_concat_getLast _).symm⟩
  have FE:l'.length=n:=by rw[Aq]at hl;simpa using hl
  rw[List.range_succ,BE];refine Vals.append (ih l' FE λj v hv=>hl2 j v<|by rw[At (Ad.mp hv).1];exact hv)<|.cons ?_ .nil
  obtain⟨t,e⟩:=hl2 n x<|by rw[Az<|by omega,FE,B3];rfl
  exact⟨t,e⟩
structure Def(K:Dh)(mg:Dy)(x:Str)(st:E3)(ps:Dw):Prop where
 ex:∃f fd,Fun K x x st f fd/\mg x=some (.ref f)/\Binds K fd ps []
structure Callee(P:EW)(w:EX)(K:Dh)(mg:Dy)(base:EZ)(x:Str)(k:Nat)(ps:Dw)(sp:Sp):Prop where
 ex:∃f fd,FnOk P w K mg base cO k f fd ps sp/\mg x=some (.ref f)/\PySem.W.keepIn K (.ref f)=true/\Binds K fd ps []
section
variable{P:EW}{w:EX}{K:Dh}{mg:Dy}{base:EZ}
theorem Def.ok{x:Str}{st:E3}{N ps:Dw}{k:Nat}{sp:Sp}(D:Def K mg x st ps)(S:FnScope N ps (az st))(len:∀vs H Q E,sp vs H Q E->vs.length=ps.length)
  (Ff:∀(f:EV)(E7:ET)(A:EY)(outer:EQ Env)(s:EU)(H:Hp)(vs:Dx)(Q:VK)(E:XK),Room k (A.deeper<|envOfC x (az st) s.heap.objs.size f E7)->sp vs H Q E ->
   ∃t,PSs (eI cO P w K mg base N x (az st) f E7 A outer s H E).nox (db st) t/\t {nx:=λ_ H'=>Q .non H',rt:=Q} (start N vs) H):Callee P w K mg base x (k+1) ps sp:=by obtain⟨f,fd,F,hm,hb⟩:=D.ex;exact⟨f,fd,F.ok S len λE7 A outer s H vs Q E hr h=>Ff f E7 A outer s H vs Q E hr h,hm,F.kp,hb⟩
def ZlF{st:E3}{ps:Dw}{h:EZ}{f:EV}{oc:ET}{od an:ER EV}{osl:Array (ER ET)}{kV doc pm E7 ct:ET}(X:K.In h)(G:h.Ns mainGlobals mg)
  (a:PySem.W.nsIn K mainGlobals x=some (some<|.ref f)) (l:K.lookup f=some ⟨oc,od,.func<|PySem.W.fnOf x x (fy st) (db st) (az st) .none kV doc pm an E7 ct,osl⟩)
  (c:PySem.W.codeIn K E7 x=true) (k:PySem.W.keepIn K (.ref f)=true)
  (hb:∀(kV doc pm:ET)(an:ER EV)(E7 ct:ET)(us:Dv),us.length=ps.length->bindArgs (PySem.W.fnOf x x (fy st) (db st) (az st) .none kV doc pm an E7 ct) ⟨us,[]⟩=pure (ps.zip us)):Def K mg x st ps:=by have F:=ZdG (st:=st) l c k;exact⟨f,_,F,Db X G a,F.binds hb⟩
end
section
variable{ps:Dw}{e:E1}{es:EQ E1}{t:TA}{p pos:Pos}
def tJ(C:Callee X.prog X.w X.K X.mg X.base x k ps sp)(hr:Room k X.A)(hg:Gl X x)(ha:PA X (e::es) t)(Fn:(x==("__debug__":Str))=false:=by decide)
  (he:starEach (e::es) X.env=(false,eval e X.env)::starEach es X.env:=by rfl) (Fc:(backTo pos<|starEach es X.env).any (·.1)=false:=by rfl):PE X (.Call (.Name x p) (e::es) [] pos) (ZaO sp [] E0 t):=by obtain⟨f,fd,F,hm,hk,hb⟩:=C.ex;exact ZiN F hr hg hm hk hb .nil ZiS ha Fn he Fc
def ZiL{i:Int}(hg:Gl X x)(h:∃t,X.mg x=some (.int i t))(hd:(x==("__debug__":Str))=false:=by decide):PE X (.Name x pos) (tC<|.int i):=by obtain⟨t,e⟩:=h;exact ZiK hg e ⟨t,rfl⟩ hd
end
def ZgJ(t:TS):TS:=λD σ H=>∃J:St->Hp->Prop,t {D with nx:=J} σ H/\∀σ' H',J σ' H'->D.nx σ' H'
def ZgI(t:TT):TT:=λσ H Q=>∃J:Bool->Hp->Prop,t σ H J/\∀b H',J b H'->Q b H'
section
variable{st:E3}{e:E1}
def PS.join{t:TS}(h:PS X st t):PS X st (ZgJ t):=by
 rintro pins s σ H D I ⟨J,q,hJ⟩;refine thn (h pins s σ H _ I q) λf s' z=>?_;cases f with
 |next=>obtain⟨σ',H',I',q'⟩:=z;exact⟨σ',H',I',hJ _ _ q'⟩
 |brk=>exact z
 |cont=>exact z
 |ret u=>exact z
def PT.join{t:TT}(h:PT X e t):PT X e (ZgI t):=by rintro pins s σ H Q I ⟨J,q,hJ⟩;refine thn (h pins s σ H _ I q) λb s' ⟨H',I',q'⟩=>⟨H',I',hJ _ _ q'⟩
end
section
variable{p c:EV}{l:Int}
end
def Kept(p:EV)(H H':Hp):Prop:=∀b o,H b=some o->b≠p->H' b=some o
def Kept.refl{p:EV}:Kept p H H:=λ_ _ h _=>h
def Kept.pen{p:EV}(a:Kept p H H'):Kept p H (upd H' p o):=λc u h n=>by rw[aA n];exact a c u h n
def Same.new{q:EV}(a:Same H H')(hq:H' q=none):Same H (upd H' q o):=λc u h=>by have e:=a c u h;rw[aA<|cg e hq];exact e
section
variable{prog:EW}{w:EX}{A:EY}{E:Ds}{s:EU}{r:EV}{t u v:Tok}{n:Nat}
def ZmC{Q:EQ ET->EU->Prop}(hh:A.handled=none)(hr:IsRange s.heap r a b c t u v)(hs:Builtin.Range.small a b c=true)(hn:Builtin.Range.rangeSize a b c=n)(hl:n<=2^24)
  (hQ:∀(h':EZ)(tk:Nat)(acc:Array ET),(∀b o,s.heap.get? b=some o->h'.get? b=some o)->ItemsOf (λi v=>∃t,v=.int (a+i*c) t) acc n->Q acc.toList {s with heap:=h',toks:=tk}):wpAny (model prog w) A (collect<|.ref r) Q E s:=by
 unfold collect;apply wp;apply wpAny_runValue;refine DS F.entry_proto_collect ?_;rw[AX F.plain_proto_collect _];show wpAny _ A.in1 (newList [] >>= λz=>again<|.builtin "list.__iadd__" ⟨[z,.ref r],[]⟩) _ _ s;refine wp<|DH<|DB ⟨DW CC _,DS F.entry_list_iadd ?_⟩;rw[AX CC _];show wpAny _ A.in1 (Builtin.List.listExtendWith (.ref s.heap.objs.size) (.ref r)<|.ref s.heap.objs.size) _ _ {s with heap:=s.heap.push {cls:=.type "list",data:=.seq ([]:Dv).toArray} }
 let R:Result->EU->Prop:=λz s'=>match z with
  | .ok (.ret v)=>wpAny (model prog w) A (match v with
   | .ref q=>(do match (<- load q).data with
    |.seq xs _=>pure xs.toList
    |_=>unsupported "internal:collect")
   |_=>unsupported "internal:collect") Q E s'
  |.ok _=>False
  |.error e=>E e s'
 refine wpAny_extend_range (R:=R) (s:={s with heap:=s.heap.push {cls:=.type "list",data:=.seq ([]:Dv).toArray} }) hh (Aa _ hr) hs hn hl _ _ _ (show(s.heap.push {cls:=.type "list",data:=.seq ([]:Dv).toArray}).get? s.heap.objs.size=some {cls:=.type "list",data:=.seq #[]}from Ai _ rfl) λh' tk acc c' hk hS Fk=>?_
 show wpAny _ A (load s.heap.objs.size >>= _) _ _ {s with heap:=h',toks:=tk};exact wp<|wpAny_load hS<|DB<|hQ h' tk acc (λb o e=>hk b o (Aw<|An e)<|Aa _ e) Fk
def Zgn{Q:Ds}(hh:A.handled=none)(hr:IsRange s.heap r a b c t u v)(hs:Builtin.Range.small a b c=true)(hn:Builtin.Range.rangeSize a b c=n)(hl:n<=2^24)
  (hQ:∀(h':EZ)(tk:Nat)(acc:Array ET),(∀b o,s.heap.get? b=some o->h'.get? b=some o)->ItemsOf (λi v=>∃t,v=.int (a+i*c) t) acc n->Q (.ref h'.objs.size) {s with heap:=h'.push {cls:=.type "tuple",data:=.seq acc},toks:=tk}) :
  wpAny (model prog w) A (call (.type "tuple") [.ref r]) Q E s:=by
 refine callType_codes (Q₁:=λz s1=>s1.TypeIs z "tuple"/\Q z s1) F.called_tuple (F.typeCall_tuple_1 _) F.entry_object_init ?_ λz s1 h1=>?_
 ·apply Ej;show wpAny _ A.in1.in1 (do checkBuiltinCall "tuple.__new__" ⟨[.type "tuple",.ref r],[]⟩;again (.builtin "tuple.__new__" ⟨[.type "tuple",.ref r],[]⟩)) _ _ s
  refine wp<|DO (F.newCall_tuple_1 _)<|DB ⟨DW F.plain_tuple_new _,DS F.entry_tuple_new ?_⟩;rw[AX F.plain_tuple_new _];have f1:=sub_tuple_self;have f2:=init_tuple_lookup;have f3:=madeHere_tuple;have fT:s.TypeIs (.ref r) "range":=⟨_,hr,rfl⟩
  wp_walk using El fT,ZmC (A:=A.in1.in1) hh hr hs hn hl
  intro h' tk acc hk Fk;show wpAny _ _ (Builtin.Tuple.tupleExact acc.toList.toArray >>= λz=>ret z) _ _ _;unfold Builtin.Tuple.tupleExact;have e:acc.toList.toArray=acc:=by simp
  rw[e];refine wp<|DH (DB ⟨⟨_,Ai _ rfl,rfl⟩,hQ h' tk acc hk Fk⟩) ?_;show acc.size<=sizeLine;rw[Fk.1,DV];exact hl
 ·exact⟨h1.1,CT z _,object_init_meets F.called_tuple.init.lookup F.called_tuple.made (by decide) prog w A.in1 _ s1 ⟨h1.1,rfl,h1.2⟩⟩
end
def ZmL(hh:X.A.handled=none):dH X (.type "tuple") (λxs H Q=>∃a lo hi,xs=[.ref a]/\H a=some (.rng lo hi)/\-(2^62)<=lo/\lo<2^62/\-(2^62)<=hi/\hi<2^62/\(hi-lo).toNat<=1000/\∀p,H p=none->Q (.ref p) (upd H p<|.tup<|fL lo (hi-lo).toNat)):=by
 intro pins s σ H xs us Q I r h;obtain⟨a,lo,hi,rfl,ha,b1,b2,b3,b4,hn,q⟩:=h;obtain⟨u,rfl,ru⟩:=dW r;cases ru;obtain⟨t,u,v,e⟩:=I.hok a _ ha;have Fg:Builtin.Range.rangeSize lo hi 1=(((hi-lo).toNat:Nat):Int):=by rw[EI];split <;> omega
 refine Zgn hh (r:=a) (t:=t) (u:=u) (v:=v) e (small_one b1 b2 b3 b4) Fg (by omega) λh' tk acc hk Fk=>?_
 have I1:Inv X pins σ H {s with heap:=h',toks:=tk}:=I.kept hk;have hv:Vals (fL lo (hi-lo).toNat) acc.toList:=Zf9 lo _ _ (by simpa using Fk.1) λj v hv=>by
  obtain⟨t,e⟩:=Fk.2 j v<|by simpa using hv
  exact⟨t,by rw[e,CZ]⟩
 have hz:(fL lo (hi-lo).toNat).length<=sizeLine:=by unfold fL;rw[v9,Bq];exact Ap hn<|by decide
 refine⟨.ref h'.objs.size,_,I1.laid (h':=h'.push {cls:=.type "tuple",data:=.seq acc}) (t':=tk) (λb o e=>Aa _ e) (Ag _)<|show ObjOk X.prog X.w _ _ _ (.tup<|fL lo (hi-lo).toNat)from⟨hz,acc.toList,hv,⟨_,Ai _ rfl,rfl,0,by simp⟩⟩,rfl,q _<|I1.hok.fresh<|Ag _⟩
def Zjl:fillsNumberSlot (.type "tuple") "mul"=pure false :=
 PySem.fillsNumberSlot_seq (id:="tuple.__mul__") (r:=some<|.builtin "tuple.__rmul__") PySem.F.slot_tuple_mul.lookup (by trivial) PySem.F.slot_tuple_rmul.lookup (by trivial)
def Zh1:seqRepeat? (.type "tuple")=pure (some<|.builtin "tuple.__mul__"):=by unfold seqRepeat?;rw[PySem.seqSlot_of (T:="tuple") (name:="__mul__") (id:="tuple.__mul__") PySem.F.slot_tuple_mul.lookup<|by trivial,PySem.seqSlot_of (T:="tuple") (name:="__rmul__") (id:="tuple.__rmul__") PySem.F.slot_tuple_rmul.lookup<|by trivial];rfl
def ZhX(x:Int)(t:Tok)(l:EV)(items:Array ET)(n:Nat)(dd:ER EV)(sl:Array (ER ET)) :
  Meets (Builtin.«int.__rmul__» ⟨[.int x t,.ref l],[]⟩) (λ_ R s=>s.heap.get? l=some {cls:=.type "tuple",dict:=dd,data:=.seq items n,slots:=sl}/\R (.ok<|.ret Value.notImplemented) s):=by
 refine .of_wp λprog w A R s h=>?_;obtain⟨hp,g,d,tk,os⟩:=s;obtain⟨hl,h⟩:=h
 wp_walk
 exact⟨_,rfl,h⟩
def Zjt(x:Int)(t:Tok)(l:EV)(items:Array ET)(n:Nat)(dd:ER EV)(sl:Array (ER ET))(h1:1<x)(h2:x<=1000)(h3:items.isEmpty=false)(h4:items.size<=1000) :
  Meets (Builtin.«tuple.__mul__» ⟨[.ref l,.int x t],[]⟩) (λ_ R s=>s.heap.get? l=some {cls:=.type "tuple",dict:=dd,data:=.seq items n,slots:=sl} /\
   R (.ok<|.ret<|.ref s.heap.objs.size) {s with heap:=s.heap.push {cls:=.type "tuple",data:=.seq ((List.replicate x.toNat items).foldl (·++·) #[])} }):=by
 refine .of_wp λprog w A R s h=>?_;obtain⟨hp,g,d,tk,os⟩:=s;obtain⟨hl,h⟩:=h;have hp0:0<=(items.size:Int)*x:=Ci (by omega)<|by omega
 have hp1:(items.size:Int)*x<=1000*1000:=Int.mul_le_mul (by omega) h2 (by omega)<|by omega
 have E8:items.size≠0:=λe=>by simp[Array.isEmpty,e]at h3
 wp_walk
 refine Eh (λz=>absurd z<|by simp;omega)<|λ_=>?_
 refine wp ?_;unfold Builtin.Tuple.tupleItemsOf;refine wp<|DP hl rfl (DB ?_);refine Eh (λz=>absurd z<|by rw[h3];simp;omega)<|λ_=>?_
 refine Eh (λz=>absurd z<|by rw[h3];simp;omega)<|λ_=>?_
 refine Eh (λz=>absurd z<|by omega)<|λ_=>?_
 refine Eh (λz=>absurd z<|by unfold Builtin.Tuple.tupleTooMany;rw[DV];simp;omega)<|λ_=>?_
 unfold Builtin.Tuple.tupleExact;have hlen:∀k:Nat,((List.replicate k items).foldl (·++·) #[]).size=k*items.size:=λk=>by
  have key:∀(k:Nat)(acc:Array ET),((List.replicate k items).foldl (·++·) acc).size=acc.size+k*items.size:=by
   intro k
   induction k with
   |zero=>intro acc;simp
   | succ k ih =>
    intro acc;rw[AB,Bt,ih,Array.size_append,BM];omega
  simpa using key k #[]
 refine wp<|DH (DB ⟨_,rfl,h⟩) ?_;show((List.replicate x.toNat items).foldl (·++·) #[]).size<=sizeLine;rw[hlen,DV];have hx:x.toNat<=1000:=by omega
 exact Ap (Bn hx h4)<|by decide
def Zb1(K:Dh):R2:=λx y H Q=>∃a k xs,x=.ref a/\y=.int k/\SqT K H a xs/\1<k/\k<=1000/\xs≠[]/\xs.length<=1000/\∀p,H p=none->Q (.ref p) (upd H p<|.tup (List.replicate k.toNat xs).flatten)
theorem Zau{xs:Dx}{us:Dv}(r:Vals xs us):∀k:Nat,Vals (List.replicate k xs).flatten (List.replicate k us).flatten
 |0=>.nil
 |k+1=>by rw[AB,AB,Bf,Bf];exact r.append<|Zau r k
def ZiW:OpR X (binaryOp .Mult) (Zb1 X.K):=by
 intro pins s σ H x y v u Q I rx ry h;obtain⟨a,k,xs,rfl,rfl,hq,h1,h2,E8,hl,q⟩:=h;cases rx;obtain⟨t,rfl⟩:=ry;obtain⟨E5,rv,p,hz⟩:=I.tuple hq;obtain⟨o,ho,hc,n,hd⟩:=p;obtain⟨oc,od,odd,osl⟩:=o;have hc':oc=.type "tuple":=hc;have Fa:odd=.seq E5.toArray n:=hd;subst hc' Fa;have hlen:=rv.length;have hemp:E5.toArray.isEmpty=false:=by
  cases E5 with
  |nil=>cases rv;exact absurd rfl E8
  |cons i r=>rfl
 have efl:(List.replicate k.toNat E5.toArray).foldl (·++·) #[]=(List.replicate k.toNat E5).flatten.toArray:=by
  have key:∀(k:Nat)(acc:Array ET),(List.replicate k E5.toArray).foldl (·++·) acc=acc++(List.replicate k E5).flatten.toArray:=by
   intro k
   induction k with
   |zero=>intro acc;simp
   | succ k ih =>
    intro acc;rw[AB,Bt,ih,AB,Bf];simp
  simpa using key k.toNat #[]
 refine wpAny_binaryOp_repeat_ref (T:="tuple") (U:="int") (by decide) ⟨_,ho,rfl⟩ (λs'=>EL s' k t) Zjl PySem.F.fills_int_mul PySem.F.slot_int_rmul Zh1 PySem.F.slot_int_index.lookup ?_
 refine Eb PySem.F.slot_int_rmul (EL s k t) PySem.F.entry_int_rmul (PySem.F.args_int_rmul_2 _ _) (ZhX k t a E5.toArray n od osl) ⟨ho,rfl,⟨_,ho,rfl⟩,?_⟩;refine Eb PySem.F.slot_tuple_mul ⟨_,ho,rfl⟩ PySem.F.entry_tuple_mul (PySem.F.args_tuple_mul_2 _ _) (Zjt k t a E5.toArray n od osl h1 h2 hemp<|by rw[Am];omega) ⟨ho,?_⟩
 rw[efl];have hzz:(List.replicate k.toNat xs).flatten.length<=sizeLine:=by
  have hx:k.toNat<=1000:=by omega
  have e:(List.replicate k.toNat xs).flatten.length=k.toNat*xs.length:=by simp
  rw[e,DV];exact Ap (Bn hx hl)<|by decide
 exact⟨.ref s.heap.objs.size,_,I.laid (t':=s.toks) (λb o e=>Aa _ e) (Ag _)<|show ObjOk X.prog X.w _ _ _ (.tup (List.replicate k.toNat xs).flatten)from⟨hzz,_,Zau rv k.toNat,IsTup.new _ _⟩,rfl,q _<|I.hok.fresh<|Ag _⟩
def Zc1{n:Nat}(h:n<2^1900):n.log2<1900:=by
 by_cases h0:n=0
 ·rw[h0];decide
 ·exact(Nat.log2_lt h0).mpr h
def Zhb{i:Int}(h:i.natAbs<2^1900):(PyData.int i).shown.length<=1901:=by
 have e:=int_text_length_le (k:=1900) (by decide)<|Zc1 h
 have q:(Str.ofString<|toString i).length<=1901:=by rw[PySem.ofString_length];exact e
 simpa [PyData.shown]using q
theorem Za7:∀(ns:Du),(∀n∈ns,n.natAbs<2^1900)->((PyData.shownAll<|ns.map PyData.int).map (·.length)).sum<=ns.length*1901/\(PyData.shownAll<|ns.map PyData.int).length=ns.length
 | [],_=>⟨by simp[PyData.shownAll],rfl⟩
 |n::r,h=>by obtain⟨h1,h2⟩:=Za7 r λx hx=>h x<|Ab _ hx;have h3:=Zhb<|h n Aj;rw[Af,PyData.shownAll,Af,AU,Ac,Ac,h2,BM];exact⟨by omega,rfl⟩
theorem Za8:∀(ns:Du),(∀n∈ns,n.natAbs<2^1900)->PyData.showableAll (ns.map PyData.int)=true
 | [],_=>rfl
 |n::r,h=>by rw[Af,PyData.showableAll,Za8 r λx hx=>h x<|Ab _ hx,Bool.and_true];have q:=Zc1<|h n Aj;simp only[PyData.showable,DQ];omega
noncomputable def aF(lo:Int)(n:Nat):Du:=(List.range n).map λ(k:Nat)=>lo+(k:Int)
def Zh5(lo:Int)(n:Nat):fL lo n=(aF lo n).map V.int:=by
 unfold fL aF;rw[Av]
 rfl
def c5(lo:Int)(n:Nat):(aF lo n).length=n:=by unfold aF;rw[v9,Bq]
def jb{x:Int}{n:Nat}(h:x∈aF lo n):lo<=x/\x<lo+n:=by unfold aF at h;obtain⟨k,hk,rfl⟩:=AM.mp h;have:=BJ.mp hk;omega
def CMulG(i j:Int):Prop:=i.natAbs<2^8000/\j.natAbs<2^8000
def ZfM(i j:Int):Prop:=j≠0/\j.natAbs<2^8000
def Ze1{x:Int}(h:x.natAbs<2^8000):Builtin.Int.intBits x<=8000:=by
 unfold Builtin.Int.intBits
 split
 ·exact A0 _
 ·rename_i hx;have h0:x.natAbs≠0:=by intro z;have e:x=0:=Int.natAbs_eq_zero.mp z;rw[e]at hx;exact hx rfl
  exact(Nat.log2_lt h0).mpr h
def CMulG.ok{i j:Int}(h:CMulG i j):IntMulOk i j:=by
 have h1:=Ze1 h.1;have h2:=Ze1 h.2;unfold IntMulOk;have e:Builtin.Int.intTooBig ((Builtin.Int.intBits i+Builtin.Int.intBits j:Nat):Int)=false:=by
  unfold Builtin.Int.intTooBig;refine DG ?_;have hb:((16000:Nat):Int)<=(bitsLine:Int):=by decide
  omega
 intro z;rw[AL]at z;have z2:Builtin.Int.intTooBig ((Builtin.Int.intBits i+Builtin.Int.intBits j:Nat):Int)=true:=z.2;rw[e]at z2;cases z2
def Zi1:OpR X (binaryOp .Mult) (rI CMulG λi j=>.int<|i*j):=iq λ_ _ _ _ _ _ _ hc q=>mul_int q hc.ok
def kK:OpR X (binaryOp .FloorDiv) (rI ZfM λi j=>.int<|i.fdiv j):=iq λi j _ _ _ _ _ hc q=>by
 refine floordiv_int hc.1 q<|.inl<|PyProof.noPylong_of_log2 ?_;by_cases h0:j.natAbs=0
 ·exact absurd (Int.natAbs_eq_zero.mp h0) hc.1
 ·exact Nat.lt_trans ((Nat.log2_lt h0).mpr hc.2)<|by decide
end L2
namespace Gc
noncomputable def iH(a b:Int):Int:=((Nat.gcd a.natAbs b.natAbs:Nat):Int)
def den(t b:Int):Int:=if b<0 then -iH t b else iH t b
def bS(t b:Int):Int:=t.fdiv<|den t b
def bO(t b:Int):Int:=b.fdiv<|den t b
def yp{t:Int}(h:b≠0):0<Nat.gcd t.natAbs b.natAbs:=Nat.gcd_pos_of_pos_right _<|by omega
def rz{t:Int}(h:b≠0):den t b≠0:=by
 have:=yp (t:=t) h;unfold den iH
 split <;> omega
def yH(t b:Int):(den t b).natAbs=Nat.gcd t.natAbs b.natAbs:=by
 unfold den iH
 split <;> omega
def eA{t:Int}(h:b≠0):t=den t b*bS t b/\b=den t b*bO t b/\0<bO t b/\Nat.gcd (bS t b).natAbs (bO t b).natAbs=1:=by
 have hd:=rz (t:=t) h;have ha:=yH t b;have hg:=yp (t:=t) h;have d1:den t b∣t:=Int.natAbs_dvd_natAbs.mp<|by rw[ha];exact Nat.gcd_dvd_left _ _
 have d2:den t b∣b:=Int.natAbs_dvd_natAbs.mp<|by rw[ha];exact Nat.gcd_dvd_right _ _
 obtain⟨x,hx⟩:=d1;obtain⟨y,hy⟩:=d2;have e1:bS t b=x:=by show t.fdiv (den t b)=x;generalize den t b=d at hd hx;rw[hx];exact C9 _ hd
 have e2:bO t b=y:=by show b.fdiv (den t b)=y;generalize den t b=d at hd hy;rw[hy];exact C9 _ hd
 rw[e1,e2];refine⟨hx,hy,?_,?_⟩
 ·have hb:(0<b/\0<den t b)\/(b<0/\den t b<0):=by
   unfold den iH
   split <;> omega
  rcases hb with ⟨p,q⟩|⟨p,q⟩
  ·rcases(show 0<y\/y<=0 by omega)with z|z
   ·exact z
   ·exfalso;have:=Ci (BU q) (show 0<=-y by omega)
    rw[Int.mul_neg,<- hy]at this;omega
  ·rcases(show 0<y\/y<=0 by omega)with z|z
   ·exact z
   ·exfalso;have:=Ci (show 0<=-den t b by omega) (show 0<=-y by omega)
    rw[Int.neg_mul_neg,<- hy]at this;omega
 ·have h1:t.natAbs=Nat.gcd t.natAbs b.natAbs*x.natAbs:=by have:=DI Int.natAbs hx;rw[BA,ha]at this;exact this
  have h2:b.natAbs=Nat.gcd t.natAbs b.natAbs*y.natAbs:=by have:=DI Int.natAbs hy;rw[BA,ha]at this;exact this
  have h3:Nat.gcd t.natAbs b.natAbs=Nat.gcd t.natAbs b.natAbs*Nat.gcd x.natAbs y.natAbs:=by rw[<- Nat.gcd_mul_left,<- h1,<- h2]
  have h4:Nat.gcd t.natAbs b.natAbs*1=Nat.gcd t.natAbs b.natAbs*Nat.gcd x.natAbs y.natAbs:=by rw[Nat.mul_one];exact h3
  exact(Nat.eq_of_mul_eq_mul_left hg h4).symm
def ZjJ{t:Int}(h:b≠0):(bS t b).natAbs<=t.natAbs/\(bO t b).natAbs<=b.natAbs:=by
 obtain⟨h1,h2,_,_⟩:=eA (t:=t) h;have hg:=yp (t:=t) h;have ha:=yH t b;constructor
 ·have e:=DI Int.natAbs h1;rw[BA,ha]at e;rw[e];exact Nat.le_mul_of_pos_left _ hg
 ·have e:=DI Int.natAbs h2;rw[BA,ha]at e;rw[e];exact Nat.le_mul_of_pos_left _ hg
def ZjI{t u:Int}(hb:0<b)(hc:0<c)(g1:Nat.gcd t.natAbs b.natAbs=1)(g2:Nat.gcd u.natAbs c.natAbs=1)(h:t*c=u*b):t=u/\b=c:=by
 have k1:b.natAbs∣c.natAbs:=by
  have d:b.natAbs∣t.natAbs*c.natAbs:=⟨u.natAbs,by rw[<- BA,h,BA,Nat.mul_comm]⟩
  exact CN (show Nat.Coprime b.natAbs t.natAbs by unfold Nat.Coprime;rw[CA];exact g1) d
 have k2:c.natAbs∣b.natAbs:=by
  have d:c.natAbs∣u.natAbs*b.natAbs:=⟨t.natAbs,by rw[<- BA,<- h,BA,Nat.mul_comm]⟩
  exact CN (show Nat.Coprime c.natAbs u.natAbs by unfold Nat.Coprime;rw[CA];exact g2) d
 have e:b=c:=by have:=Nat.dvd_antisymm k1 k2;omega
 subst e;exact⟨C1 (by omega) h,rfl⟩
end Gc
namespace L2
inductive Tr(α:Type) where
 |ret (a:α)
 |draw (n:Int) (k:Int->Tr α)
 |fail
namespace Tr
variable{γ:Type}
noncomputable def bind:Tr α->(α->Tr β)->Tr β
 |.ret a,f=>f a
 |.draw n k,f=>.draw n λr=>(k r).bind f
 |.fail,_=>.fail
@[simp] theorem ret_bind(a:α)(f:α->Tr β):(Tr.ret a).bind f=f a:=rfl
@[simp] theorem draw_bind(n:Int)(k:Int->Tr α)(f:α->Tr β):(Tr.draw n k).bind f=.draw n λr=>(k r).bind f:=rfl
@[simp] theorem fail_bind(f:α->Tr β):(Tr.fail:Tr α).bind f=.fail:=rfl
@[simp] theorem bind_assoc:∀(t:Tr α)(f:α->Tr β)(g:β->Tr γ),(t.bind f).bind g=t.bind λa=>(f a).bind g
 |.ret a,f,g=>rfl
 |.draw n k,f,g=>by simp only[draw_bind];congr 1;funext r;exact bind_assoc (k r) f g
 |.fail,f,g=>rfl
noncomputable def of:ER α->Tr α
 |some a=>.ret a
 |none=>.fail
@[simp] theorem of_some(a:α):Tr.of (some a)=.ret a:=rfl
@[simp] theorem of_none:Tr.of (none:ER α)=.fail:=rfl
def ok:Tr α->Nat->(Nat->α->Prop)->Prop
 |.ret a,m,Q=>Q m a
 |.draw n k,m,Q=>m<400000/\0<n/\n<1073741824/\∀r,0<=r->r<n->(k r).ok (m+1) Q
 |.fail,_,_=>False
theorem ok_mono:∀{t:Tr α}{m:Nat}{Q Q':Nat->α->Prop},t.ok m Q->(∀m a,Q m a->Q' m a)->t.ok m Q'
 |.ret a,m,_,_,h,hq=>hq m a h
 |.draw n k,m,_,_,⟨h1,h2,h3,h⟩,hq=>⟨h1,h2,h3,λr h0 h1=>ok_mono (h r h0 h1) hq⟩
theorem ok_bind:∀{t:Tr α}{f:α->Tr β}{m:Nat}{Q:Nat->β->Prop},(t.bind f).ok m Q ↔ t.ok m λm' a=>(f a).ok m' Q
 |.ret a,f,m,Q=>Iff.rfl
 |.draw n k,f,m,Q=>by show(_/\_/\_/\∀r,_) ↔ (_/\_/\_/\∀r,_);refine EJ λ_=>EJ λ_=>EJ λ_=>EO λr=>EO λ_=>EO λ_=>ok_bind
 |.fail,f,m,Q=>Iff.rfl
def ok_of{o:ER α}{Q:Nat->α->Prop}(h:(Tr.of o).ok m Q):∃a,o=some a/\Q m a:=by
 cases o with
 |none=>exact h.elim
 |some a=>exact⟨a,rfl,h⟩
def all:Tr α->Nat->(α->Prop)->Prop
 |.ret a,_,P=>P a
 |.draw w k,n+1,P=>0<w/\w<1073741824/\∀r,0<=r->r<w->(k r).all n P
 |.draw _ _,0,_=>False
 |.fail,_,_=>False
theorem all_ok:∀{t:Tr α}{n m:Nat}{P:α->Prop},t.all n P->m+n<=400000->t.ok m λm' a=>m'<=m+n/\P a
 |.ret a,n,m,P,h,hm=>⟨by omega,h⟩
 |.draw w k,n+1,m,P,⟨h1,h2,h⟩,hm=>⟨by omega,h1,h2,λr a b=>ok_mono (all_ok (h r a b)<|by omega) λm' x E4=>by obtain⟨p,q⟩:=E4;exact⟨by omega,q⟩⟩
theorem all_mono:∀{t:Tr α}{n n':Nat}{P P':α->Prop},t.all n P->n<=n'->(∀a,P a->P' a)->t.all n' P'
 |.ret a,n,n',P,P',h,hn,hp=>hp a h
 |.draw w k,n+1,n'+1,P,P',⟨h1,h2,h⟩,hn,hp=>⟨h1,h2,λr a b=>all_mono (h r a b) (by omega) hp⟩
 |.draw w k,n+1,0,P,P',h,hn,hp=>by omega
theorem all_bind:∀{t:Tr α}{f:α->Tr β}{n n':Nat}{P:α->Prop}{P':β->Prop},t.all n P->(∀a,P a->(f a).all n' P')->(t.bind f).all (n+n') P'
 |.ret a,f,n,n',P,P',h,hf=>all_mono (hf a h) (by omega) λ_ x=>x
 | .draw w k,f,n+1,n',P,P',⟨h1,h2,h⟩,hf=>by
  have e:n+1+n'=(n+n')+1:=by omega
  rw[e];exact⟨h1,h2,λr a b=>all_bind (h r a b) hf⟩
end Tr
abbrev Sub(G H:Hp):Prop:=∀b o,G b=some o->H b=some o
structure Pk where
 is:HO->Hp->Nat->Prop
 mono:∀{o:HO}{G G':Hp}{m:Nat},Sub G G'->is o G m->is o G' m
structure Wd(PK:Pk)(pa:EV)(m:Nat)(G H:Hp):Prop where
 sub:Sub G H
 gpa:G pa=none
 pen:∃o,H pa=some o/\PK.is o G m
structure Stp(pa:EV)(G H G' H':Hp):Prop where
 gs:Sub G G'
 gn:∀b o,G' b=some o->G b=some o\/H b=none\/(b≠pa/\∃xs,H b=some (.tup xs))
 hk:∀b o,H b=some o->b≠pa->H' b=some o
def Stp.refl{pa:EV}:Stp pa G H G H:=⟨λ_ _ h=>h,λ_ _ h=>.inl h,λ_ _ h _=>h⟩
def Stp.trans{pa:EV}{G2 H2:Hp}(a:Stp pa G H G1 H1)(b:Stp pa G1 H1 G2 H2)(hp:∃o,H1 pa=some o):Stp pa G H G2 H2:=by
 refine⟨λc o h=>b.gs c o<|a.gs c o h,λc o h=>?_,λc o h n=>b.hk c o (a.hk c o h n) n⟩;rcases b.gn c o h with z|z|⟨hc,xs,z⟩
 ·exact a.gn c o z
 ·refine .inr<|.inl ?_;cases e:H c with
  |none=>rfl
  | some u =>
   by_cases hc:c=pa
   ·subst hc;obtain⟨o',z'⟩:=hp;rw[z']at z;cases z
   ·rw[a.hk c u e hc]at z;cases z
 ·cases e:H c with
  |none=>exact .inr (.inl rfl)
  | some u =>
   rw[a.hk c u e hc]at z;cases z;exact .inr<|.inr ⟨hc,xs,rfl⟩
section
variable{PK:Pk}{pa:EV}
theorem Wd.some(w:Wd PK pa m G H):∃o,H pa=some o:=let ⟨o,h,_⟩:=w.pen;⟨o,h⟩
def Wd.ne(w:Wd PK pa m G H){p:EV}(hp:H p=none):pa≠p:=λe=>by obtain⟨o,h⟩:=w.some;rw[e,hp]at h;cases h
def Sub.new{p:EV}(hp:G p=none):Sub G (upd G p o):=λb u h=>by rw[aA<|cg h hp];exact h
def Wd.gnone(w:Wd PK pa m G H){p:EV}(hp:H p=none):G p=none:=by
 cases e:G p with
 |none=>rfl
 |some o=>rw[w.sub p o e]at hp;cases hp
def Sub.upd2{p:EV}(s:Sub G H):Sub (upd G p o) (upd H p o):=λb u h=>by
 by_cases e:b=p
 ·subst e;rw[bv]at h ⊢;exact h
 ·rw[aA e]at h ⊢;exact s b u h
theorem Wd.new(w:Wd PK pa m G H){p:EV}{o:HO}(hp:H p=none):Wd PK pa m (upd G p o) (upd H p o)/\Stp pa G H (upd G p o) (upd H p o):=by
 have hg:=w.gnone hp;have E8:=w.ne hp;refine⟨⟨w.sub.upd2,by rw[aA E8];exact w.gpa,?_⟩,⟨Sub.new hg,λb u h=>?_,λb u h _=>by rw[aA<|cg h hp];exact h⟩⟩
 ·obtain⟨u,h,q⟩:=w.pen;exact⟨u,by rw[aA E8];exact h,PK.mono (Sub.new hg) q⟩
 ·by_cases e:b=p
  ·subst e;exact .inr<|.inl hp
  ·rw[aA e]at h;exact .inl h
def Wd.own(w:Wd PK pa m G H){p:EV}{o:HO}(hp:H p=none):Wd PK pa m G (upd H p o)/\Stp pa G H G (upd H p o):=by
 have E8:=w.ne hp;refine⟨⟨λb u h=>by rw[aA<|cg (w.sub b u h) hp];exact w.sub b u h,w.gpa,?_⟩,⟨λ_ _ h=>h,λ_ _ h=>.inl h,λb u h _=>by rw[aA<|cg h hp];exact h⟩⟩
 obtain⟨u,h,q⟩:=w.pen;exact⟨u,by rw[aA E8];exact h,q⟩
def Wd.freeze(w:Wd PK pa m G H){p:EV}(hp:H p=Option.some o)(hg:G p=none)(E8:pa≠p):Wd PK pa m (upd G p o) H:=by
 refine⟨λb u h=>?_,by rw[aA E8];exact w.gpa,?_⟩
 ·by_cases e:b=p
  ·subst e;rw[bv]at h;rw[hp];exact h
  ·rw[aA e]at h;exact w.sub b u h
 ·obtain⟨u,h,q⟩:=w.pen;exact⟨u,h,PK.mono (Sub.new hg) q⟩
def Kn(PK:Pk)(pa:EV)(m:Nat)(G H:Hp)(x:ES)(Q:VK):Prop:=∀v G' H',Stp pa G H G' H'->Wd PK pa m G' H'->Dn G' v x->Q v H'
variable{x:ES}{ds:Dt}{p:EV}
def Kn.here(k:Kn PK pa m G H x Q)(w:Wd PK pa m G H)(d:Dn G v x):Q v H:=k v G H .refl w d
theorem Kn.tup(k:Kn PK pa m G H (.tuple ds) Q)(w:Wd PK pa m G H)(d:DnAll G vs ds)(hp:H p=none):Q (.ref p) (upd H p<|.tup vs):=by obtain⟨w1,s1⟩:=w.new (o:=.tup vs) hp;exact k _ _ _ s1 w1<|.tup bv<|DnAll.mono s1.gs d
theorem Kn.lst(k:Kn PK pa m G H (.list ds) Q)(w:Wd PK pa m G H)(d:DnAll G vs ds)(hp:H p=none):Q (.ref p) (upd H p<|.lst vs):=by obtain⟨w1,s1⟩:=w.new (o:=.lst vs) hp;exact k _ _ _ s1 w1<|.lst bv<|DnAll.mono s1.gs d
def Kn.later(k:Kn PK pa m G H x Q)(s:Stp pa G H G1 H1)(hp:∃o,H1 pa=Option.some o):Kn PK pa m G1 H1 x Q:=λv G' H' s' w d=>k v G' H' (s.trans s' hp) w d
end
inductive Sl where
 |un|d (x:ES)|own (xs:Dt)|pen|dic (kvs:List (Int×ES))|fn (a:EV)|dip (kvs:List (Du×ES))|pr (W:Hp->V->Prop)
inductive KD(G:Hp):List (aH×V)->List (Int×ES)->Prop
 |nil:KD G [] []
 |cons {i:Int} {v:V} {d:ES} {ks:List (aH×V)} {kvs:List (Int×ES)}:Dn G v d->KD G ks kvs->KD G ((.inl i,v)::ks) ((i,d)::kvs)
theorem KD.mono{G G':Hp}(s:Sub G G'){ks:EQ (aH×V)}{kvs:EQ (Int×ES)}(h:KD G ks kvs):KD G' ks kvs:=by
 induction h with
 |nil=>exact .nil
 |cons h _ ih=>exact .cons (h.mono s) ih
noncomputable abbrev cu(k:Du×V):EQ aH×V:=(k.1.map Sum.inl,k.2)
inductive KP(G:Hp):List (Du×V)->List (Du×ES)->Prop
 |nil:KP G [] []
 |cons {i:Du} {v:V} {d:ES} {ks:List (Du×V)} {kvs:List (Du×ES)}:Dn G v d->KP G ks kvs->KP G ((i,v)::ks) ((i,d)::kvs)
theorem KP.mono{G G':Hp}(s:Sub G G'){ks:EQ (Du×V)}{kvs:EQ (Du×ES)}(h:KP G ks kvs):KP G' ks kvs:=by
 induction h with
 |nil=>exact .nil
 |cons h _ ih=>exact .cons (h.mono s) ih
inductive SlOk(pa:EV)(H₀ G H:Hp):Option V->Sl->Prop
 |un {o:Option V}:SlOk pa H₀ G H o .un
 |d {v:V} {x:ES}:Dn G v x->SlOk pa H₀ G H (some v) (.d x)
 |own {p:EV} {vs:Dx} {xs:Dt}:H p=some (.lst vs)->G p=none->H₀ p=none->DnAll G vs xs->SlOk pa H₀ G H (some<|.ref p) (.own xs)
 |pen:SlOk pa H₀ G H (some<|.ref pa) .pen
 |fn {a:EV}:SlOk pa H₀ G H (some<|.ref a) (.fn a)
 |pr {v:V} {W:Hp->V->Prop}:(∀G',Sub G G'->W G' v)->SlOk pa H₀ G H (some v) (.pr W)
 |dic {p:EV} {ks:List (aH×V)} {kvs:List (Int×ES)}:H p=some (.dK ks)->G p=none->H₀ p=none->KD G ks kvs->SlOk pa H₀ G H (some<|.ref p) (.dic kvs)
 |dip {p:EV} {ks:List (Du×V)} {kvs:List (Du×ES)}:H p=some (.dT<|ks.map cu)->G p=none->H₀ p=none->KP G ks kvs->SlOk pa H₀ G H (some<|.ref p) (.dip kvs)
structure Rl(PK:Pk)(pa:EV)(DA H₀:Hp)(m:Nat)(σ:St)(ρ:List Sl)(G H:Hp):Prop where
 wd:Wd PK pa m G H
 st:Stp pa DA H₀ G H
 p0:∃o,H₀ pa=some o
 sl:∀(i:Nat)(s:Sl),ρ[i]?=some s->∃o,σ[i]?=some o/\SlOk pa H₀ G H o s
 len:ρ.length=σ.length
 dj:∀(i j:Nat)(xs ys:Dt),i≠j->ρ[i]?=some (.own xs)->ρ[j]?=some (.own ys)->σ[i]?≠σ[j]?
 dj2:∀(i j:Nat)(xs ys:List (Int×ES)),i≠j->ρ[i]?=some (.dic xs)->ρ[j]?=some (.dic ys)->σ[i]?≠σ[j]?
section
variable{PK:Pk}{pa:EV}{ρ:EQ Sl}
def sD{l:EQ α}{i:Nat}{x y:α}(h:(l.set k x)[i]?=some y)(hn:x≠y):k≠i/\l[i]?=some y:=by
 have hi:k≠i:=λe=>by
  subst e;have hl:k<l.length:=by
   have:=(Ad.mp h).1
   rwa [AE]at this
  rw[Ay hl]at h;exact hn<|AA h
 rw[Ar hi]at h;exact⟨hi,h⟩
def Zer{T:α->Sl}{x:Sl}{v:ER V}(dj:∀(i j:Nat)(a b:α),i≠j->ρ[i]?=some (T a)->ρ[j]?=some (T b)->σ[i]?≠σ[j]?)(hn:∀a,x≠T a) :
  ∀(i j:Nat)(a b:α),i≠j->(ρ.set k x)[i]?=some (T a)->(ρ.set k x)[j]?=some (T b)->(σ.set k v)[i]?≠(σ.set k v)[j]?:=λi j a b hij h1 h2=>by obtain⟨hi,h1⟩:=sD h1<|hn a;obtain⟨hj,h2⟩:=sD h2<|hn b;rw[Ar hi,Ar hj];exact dj i j a b hij h1 h2
def Zeq{T:α->Sl}{x:Sl}(dj:∀(i j:Nat)(a b:α),i≠j->ρ[i]?=some (T a)->ρ[j]?=some (T b)->σ[i]?≠σ[j]?)(hn:∀a,x≠T a) :
  ∀(i j:Nat)(a b:α),i≠j->(ρ.set k x)[i]?=some (T a)->(ρ.set k x)[j]?=some (T b)->σ[i]?≠σ[j]?:=λi j a b hij h1 h2 =>
 dj i j a b hij (sD h1<|hn a).2 (sD h2<|hn b).2
def SlOk.step{o:ER V}{s:Sl}(k:SlOk pa H₀ G H o s)(hp0:∃o,H₀ pa=some o)(st:Stp pa G H G' H'):SlOk pa H₀ G' H' o s:=by
 cases k with
 |un=>exact .un
 |d h=>exact .d (h.mono st.gs)
 |pen=>exact .pen
 |fn=>exact .fn
 |pr z9=>exact .pr λG' s=>z9 G' λb o z=>s b o (st.gs b o z)
 | @own p vs xs h1 h2 h3 h4 =>
  have E8:p≠pa:=λe=>by obtain⟨u,hu⟩:=hp0;rw[<- e,h3]at hu;cases hu
  refine .own (st.hk _ _ h1 E8) ?_ h3<|DnAll.mono st.gs h4;cases e:G' p with
  |none=>rfl
  | some u =>
   rcases st.gn p u e with z|z|⟨_,_,z⟩
   ·rw[h2]at z;cases z
   ·rw[h1]at z;cases z
   ·rw[h1]at z;cases z
 | @dic p ks kvs h1 h2 h3 h4 =>
  have E8:p≠pa:=λe=>by obtain⟨u,hu⟩:=hp0;rw[<- e,h3]at hu;cases hu
  refine .dic (st.hk _ _ h1 E8) ?_ h3<|h4.mono st.gs;cases e:G' p with
  |none=>rfl
  | some u =>
   rcases st.gn p u e with z|z|⟨_,_,z⟩
   ·rw[h2]at z;cases z
   ·rw[h1]at z;cases z
   ·rw[h1]at z;cases z
 | @dip p ks kvs h1 h2 h3 h4 =>
  have E8:p≠pa:=λe=>by obtain⟨u,hu⟩:=hp0;rw[<- e,h3]at hu;cases hu
  refine .dip (st.hk _ _ h1 E8) ?_ h3<|h4.mono st.gs;cases e:G' p with
  |none=>rfl
  | some u =>
   rcases st.gn p u e with z|z|⟨_,_,z⟩
   ·rw[h2]at z;cases z
   ·rw[h1]at z;cases z
   ·rw[h1]at z;cases z
theorem Rl.step{G' H':Hp}{m':Nat}(r:Rl PK pa DA H₀ m σ ρ G H)(s:Stp pa G H G' H')(w:Wd PK pa m' G' H'):Rl PK pa DA H₀ m' σ ρ G' H' :=
 ⟨w,r.st.trans s r.wd.some,r.p0,λi sl h=>let ⟨o,h1,h2⟩:=r.sl i sl h;⟨o,h1,h2.step r.p0 s⟩,r.len,r.dj,r.dj2⟩
theorem Rl.set(r:Rl PK pa DA H₀ m σ ρ G H){v:V}{x:ES}(d:Dn G v x)(k:Nat):Rl PK pa DA H₀ m (σ.set k<|some v) (ρ.set k<|.d x) G H:=by
 refine⟨r.wd,r.st,r.p0,λi s h=>?_,by rw[AE,AE];exact r.len,λi j xs ys hij h1 h2=>?_,Zer r.dj2 λa h=>by cases h⟩
 ·by_cases e:k=i
  ·subst e;have hl:k<ρ.length:=by
    have:=(Ad.mp h).1
    rwa [AE]at this
   rw[Ay hl]at h;cases h;exact⟨_,Ay<|by rw[<- r.len];exact hl,.d d⟩
  ·rw[Ar e]at h ⊢;exact r.sl i s h
 ·have hi:k≠i:=λe=>by
   subst e;have hl:k<ρ.length:=by
    have:=(Ad.mp h1).1
    rwa [AE]at this
   rw[Ay hl]at h1;cases h1
  have hj:k≠j:=λe=>by
   subst e;have hl:k<ρ.length:=by
    have:=(Ad.mp h2).1
    rwa [AE]at this
   rw[Ay hl]at h2;cases h2
  rw[Ar hi]at h1 ⊢;rw[Ar hj]at h2 ⊢;exact r.dj i j xs ys hij h1 h2
def Rl.setO(r:Rl PK pa DA H₀ m σ ρ G H){p:EV}{xs:Dt}(h1:H p=some (.lst vs))(h2:G p=none)(h3:H₀ p=none)(h4:DnAll G vs xs)
  (hd:∀(i:Nat)(ys:Dt),ρ[i]?=some (.own ys)->σ[i]?≠some (some<|.ref p)) (k:Nat):Rl PK pa DA H₀ m (σ.set k<|some<|.ref p) (ρ.set k<|.own xs) G H:=by
 have up:∀{i:Nat}{s:Sl},(ρ.set k<|.own xs)[i]?=some s->i=k->s=.own xs/\(σ.set k<|some<|V.ref p)[i]?=some (some<|.ref p):=λ{i s} h e=>by
  subst e;have hl:i<ρ.length:=by
   have:=(Ad.mp h).1
   rwa [AE]at this
  rw[Ay hl]at h;cases h;exact⟨rfl,Ay<|by rw[<- r.len];exact hl⟩
 refine⟨r.wd,r.st,r.p0,λi s h=>?_,by rw[AE,AE];exact r.len,λi j ys zs hij e1 e2=>?_,Zer r.dj2 λa h=>by cases h⟩
 ·by_cases e:i=k
  ·obtain⟨e1,e2⟩:=up h e;subst e1;exact⟨_,e2,.own h1 h2 h3 h4⟩
  ·rw[Ar<|Ne.symm e]at h ⊢;exact r.sl i s h
 ·by_cases ei:i=k
  ·have q:=(up e1 ei).2;have hj:k≠j:=λe=>hij<|ei.trans e;rw[q];rw[Ar hj]at e2 ⊢;exact λz=>hd j zs e2 z.symm
  ·rw[Ar<|Ne.symm ei]at e1 ⊢;by_cases ej:j=k
   ·rw[(up e2 ej).2];exact hd i ys e1
   ·rw[Ar<|Ne.symm ej]at e2 ⊢;exact r.dj i j ys zs hij e1 e2
def Rl.h0(r:Rl PK pa DA H₀ m σ ρ G H){p:EV}(hp:H p=none):H₀ p=none:=by
 cases e:H₀ p with
 |none=>rfl
 | some u =>
  by_cases hc:p=pa
  ·subst hc;obtain⟨o,h⟩:=r.wd.some;rw[hp]at h;cases h
  ·rw[r.st.hk p u e hc]at hp;cases hp
def Rl.apart(r:Rl PK pa DA H₀ m σ ρ G H){p:EV}(hp:H p=none)(i:Nat)(ys:Dt)(h:ρ[i]?=some (.own ys)):σ[i]?≠some (some<|.ref p):=λe=>by
 obtain⟨o,h1,h2⟩:=r.sl i _ h;rw[e]at h1;cases h1;cases h2 with
 |own a _ _ _=>rw[hp]at a;cases a
def Rl.change(r:Rl PK pa DA H₀ m σ ρ G H){xs ys:Dt}{p:EV}{ws:Dx}(hk:ρ[k]?=some (.own xs))(hσ:σ[k]?=some (some<|.ref p))(d:DnAll G ws ys) :
  Rl PK pa DA H₀ m σ (ρ.set k<|.own ys) G (upd H p<|.lst ws):=by
 obtain⟨o,h1,h2⟩:=r.sl k _ hk;rw[hσ]at h1;cases h1;cases h2 with
 | @own _ vs _ a1 a2 a3 a4 =>
  have E8:pa≠p:=λe=>by obtain⟨u,hu⟩:=r.p0;rw[e,a3]at hu;cases hu
  have hl:k<ρ.length:=(Ad.mp hk).1;refine⟨⟨λb o h=>?_,r.wd.gpa,?_⟩,⟨r.st.gs,r.st.gn,λb o h hb=>?_⟩,r.p0,λi s h=>?_,by rw[AE];exact r.len,λi j us ws hij e1 e2=>?_,Zeq r.dj2 λa h=>by cases h⟩
  ·rw[aA<|λe=>by subst e;rw[a2]at h;cases h]
   exact r.wd.sub b o h
  ·obtain⟨u,h,q⟩:=r.wd.pen;exact⟨u,by rw[aA E8];exact h,q⟩
  ·rw[aA<|λe=>by subst e;rw[a3]at h;cases h]
   exact r.st.hk b o h hb
  ·by_cases e:k=i
   ·subst e;rw[Ay hl]at h;cases h;exact⟨_,hσ,.own bv a2 a3 d⟩
   ·rw[Ar e]at h;obtain⟨o,q1,q2⟩:=r.sl i s h;refine⟨o,q1,?_⟩;cases q2 with
    |un=>exact .un
    |d z=>exact .d z
    |pen=>exact .pen
    |fn=>exact .fn
    |pr z9=>exact .pr z9
    |dic b1 b2 b3 b4=>exact .dic (by rw[aA<|λe2=>by subst e2;rw[a1]at b1;cases b1];exact b1) b2 b3 b4
    |dip b1 b2 b3 b4=>exact .dip (by rw[aA<|λe2=>by subst e2;rw[a1]at b1;cases b1];exact b1) b2 b3 b4
    | own b1 b2 b3 b4 =>
     refine .own ?_ b2 b3 b4;rw[aA]
     ·exact b1
     ·intro e2;subst e2;exact r.dj k i _ _ e hk h<|by rw[hσ,q1]
  ·by_cases ei:k=i
   ·subst ei;rw[Ar hij]at e2;exact r.dj k j _ _ hij hk e2
   ·rw[Ar ei]at e1;by_cases ej:k=j
    ·subst ej;exact r.dj i k _ _ hij e1 hk
    ·rw[Ar ej]at e2;exact r.dj i j _ _ hij e1 e2
noncomputable def fz(k:Nat)(ρ:EQ Sl):EQ Sl:=match ρ[k]? with
 |some (.own xs)=>ρ.set k (.d<|.list xs)
 |_=>ρ
theorem Rl.freeze(r:Rl PK pa DA H₀ m σ ρ G H)(k:Nat):∃G',Sub G G'/\Rl PK pa DA H₀ m σ (fz k ρ) G' H:=by
 unfold fz
 split
 ·rename_i xs hk;obtain⟨o,h1,h2⟩:=r.sl k _ hk;cases h2 with
  | @own p vs _ a1 a2 a3 a4 =>
   have E8:pa≠p:=λe=>by obtain⟨u,hu⟩:=r.p0;rw[e,a3]at hu;cases hu
   have hl:k<ρ.length:=(Ad.mp hk).1;have sb:Sub G (upd G p<|.lst vs):=Sub.new a2;refine⟨upd G p<|.lst vs,sb,r.wd.freeze a1 a2 E8,⟨λb o h=>sb b o<|r.st.gs b o h,λb o h=>?_,r.st.hk⟩,r.p0,λi s h=>?_,by rw[AE];exact r.len,λi j us ws hij e1 e2=>?_,Zeq r.dj2 λa h=>by cases h⟩
   ·by_cases e:b=p
    ·subst e;exact .inr<|.inl a3
    ·rw[aA e]at h;exact r.st.gn b o h
   ·by_cases e:k=i
    ·subst e;rw[Ay hl]at h;cases h;exact⟨_,h1,.d<|.lst bv<|DnAll.mono sb a4⟩
    ·rw[Ar e]at h;obtain⟨o,q1,q2⟩:=r.sl i s h;refine⟨o,q1,?_⟩;cases q2 with
     |un=>exact .un
     |d z=>exact .d (z.mono sb)
     |pen=>exact .pen
     |fn=>exact .fn
     |pr z9=>exact .pr λG' s=>z9 G' λb o z=>s b o (sb b o z)
     |dic b1 b2 b3 b4=>exact .dic b1 (by rw[aA<|λe2=>by subst e2;rw[a1]at b1;cases b1];exact b2) b3 (b4.mono sb)
     |dip b1 b2 b3 b4=>exact .dip b1 (by rw[aA<|λe2=>by subst e2;rw[a1]at b1;cases b1];exact b2) b3 (b4.mono sb)
     | own b1 b2 b3 b4 =>
      refine .own b1 ?_ b3<|DnAll.mono sb b4;rw[aA]
      ·exact b2
      ·intro e2;subst e2;exact r.dj k i _ _ e hk h<|by rw[h1,q1]
   ·have hi:k≠i:=λe=>by subst e;rw[Ay hl]at e1;cases e1
    have hj:k≠j:=λe=>by subst e;rw[Ay hl]at e2;cases e2
    rw[Ar hi]at e1;rw[Ar hj]at e2;exact r.dj i j _ _ hij e1 e2
 ·exact⟨G,λ_ _ h=>h,r⟩
end
def TAe(PK:Pk)(i:EQ Sl->Tr ES):TE:=λσ H Q=>∃pa DA H₀ m ρ G,Rl PK pa DA H₀ m σ ρ G H/\(i ρ).ok m λm' x=>Kn PK pa m' G H x Q
def TAt(PK:Pk)(i:EQ Sl->Tr Bool):TT:=λσ H Q=>∃pa DA H₀ m ρ G,Rl PK pa DA H₀ m σ ρ G H/\(i ρ).ok m λm' b=>∀G' H',Stp pa G H G' H'->Wd PK pa m' G' H'->Q b H'
def TAd(PK:Pk)(i:EQ Sl->Tr Dt):TA:=λσ H Q=>∃pa DA H₀ m ρ G,Rl PK pa DA H₀ m σ ρ G H/\(i ρ).ok m λm' xs=>∀vs G' H',Stp pa G H G' H'->Wd PK pa m' G' H'->DnAll G' vs xs->Q vs H'
def Ko1(PK:Pk)(pa:EV)(m:Nat)(G H:Hp)(xs:Dt)(Q:VK):Prop:=∀p vs G' H',Stp pa G H G' H'->Wd PK pa m G' H'->H p=none->G' p=none->H' p=some (.lst vs)->DnAll G' vs xs->Q (.ref p) H'
def dR(PK:Pk)(i:EQ Sl->Tr Dt):TE:=λσ H Q=>∃pa DA H₀ m ρ G,Rl PK pa DA H₀ m σ ρ G H/\(i ρ).ok m λm' xs=>Ko1 PK pa m' G H xs Q
inductive ArOk(pa:EV)(G:Hp):V->Sl->Prop
 |d {v:V} {x:ES}:Dn G v x->ArOk pa G v (.d x)
 |pen:ArOk pa G (.ref pa) .pen
 |fn {a:EV}:ArOk pa G (.ref a) (.fn a)
inductive ArsOk(pa:EV)(G:Hp):List V->List Sl->Prop
 |nil:ArsOk pa G [] []
 |cons {v:V} {vs:Dx} {s:Sl} {ss:List Sl}:ArOk pa G v s->ArsOk pa G vs ss->ArsOk pa G (v::vs) (s::ss)
theorem ArOk.mono{pa:EV}{G G':Hp}{v:V}{s:Sl}(h:ArOk pa G v s)(e:Sub G G'):ArOk pa G' v s:=by
 cases h with
 |d z=>exact .d (z.mono e)
 |pen=>exact .pen
 |fn=>exact .fn
theorem ArsOk.mono{pa:EV}{G G':Hp}(e:Sub G G'){vs:Dx}{ss:EQ Sl}(h:ArsOk pa G vs ss):ArsOk pa G' vs ss:=by
 induction h with
 |nil=>exact .nil
 |cons h t ih=>exact .cons (h.mono e) ih
theorem ArsOk.length{pa:EV}{G:Hp}{vs:Dx}{ss:EQ Sl}(h:ArsOk pa G vs ss):vs.length=ss.length:=by
 induction h with
 |nil=>rfl
 |cons h t ih=>exact DI (·+1) ih
def TAa(PK:Pk)(i:EQ Sl->Tr (EQ Sl)):TA:=λσ H Q=>∃pa DA H₀ m ρ G,Rl PK pa DA H₀ m σ ρ G H/\(i ρ).ok m λm' as=>∀vs G' H',Stp pa G H G' H'->Wd PK pa m' G' H'->ArsOk pa G' vs as->Q vs H'
inductive Re where
 |d (x:ES)|own (xs:Dt)
def Re.val:Re->ES
 |.d x=>x
 |.own xs=>.list xs
@[simp] theorem Re.val_d(x:ES):(Re.d x).val=x:=rfl
@[simp] theorem Re.val_own(xs:Dt):(Re.own xs).val=.list xs:=rfl
inductive Ou where
 |next (ρ:List Sl)|ret (r:Re)|brk (ρ:List Sl)|cont (ρ:List Sl)
abbrev Di:=EQ Sl->Tr ES
abbrev Dj:=EQ Sl->Tr (EQ ES)
abbrev Dk:=EQ Sl->Tr Bool
abbrev Dl:=EQ Sl->Tr Ou
abbrev Dm:=EQ Sl->Tr Re
abbrev Do:=EQ ES->EQ Sl->ER (EQ Sl)
abbrev Dp:=ES->EQ Sl->ER (EQ Sl)
abbrev Dz:=EQ Sl
def Zfx(H₀ G H:Hp)(v:V):Re->Prop
 |.d x=>Dn G v x
 |.own xs=>∃p vs,v=.ref p/\H p=some (.lst vs)/\G p=none/\H₀ p=none/\DnAll G vs xs
def Kr(PK:Pk)(pa:EV)(m:Nat)(DA H₀:Hp)(r:Re)(Q:VK):Prop:=∀v G H,Stp pa DA H₀ G H->Wd PK pa m G H->Zfx H₀ G H v r->Q v H
def Ko(PK:Pk)(pa:EV)(DA H₀ Gs:Hp)(D:Ends)(m:Nat):Ou->Prop
 |.next ρ=>∀σ G H,Sub Gs G->Rl PK pa DA H₀ m σ ρ G H->D.nx σ H
 |.ret r=>Kr PK pa m DA H₀ r D.rt
 |.brk ρ=>∀σ G H,Sub Gs G->Rl PK pa DA H₀ m σ ρ G H->D.bk σ H
 |.cont ρ=>∀σ G H,Sub Gs G->Rl PK pa DA H₀ m σ ρ G H->D.ct σ H
def bg(PK:Pk)(i:Dl):TS:=λD σ H=>∃pa DA H₀ m ρ G,Rl PK pa DA H₀ m σ ρ G H/\(i ρ).ok m (Ko PK pa DA H₀ G D)
def PE.imp{e:E1}{t t':TE}(h:PE X e t)(q:∀σ H Q,t' σ H Q->t σ H Q):PE X e t':=λpins s σ H Q I z=>h pins s σ H Q I<|q σ H Q z
def PT.imp{e:E1}{t t':TT}(h:PT X e t)(q:∀σ H Q,t' σ H Q->t σ H Q):PT X e t':=λpins s σ H Q I z=>h pins s σ H Q I<|q σ H Q z
def PW.imp{e:E1}{t t':TT}(h:PW X e t)(q:∀σ H Q,t' σ H Q->t σ H Q):PW X e t':=λwh pins s σ H Q I z=>h wh pins s σ H Q I<|q σ H Q z
def PA.imp{e:EQ E1}{t t':TA}(h:PA X e t)(q:∀σ H Q,t' σ H Q->t σ H Q):PA X e t':=λpos pins s σ H Q I z=>h pos pins s σ H Q I<|q σ H Q z
def PS.imp{e:E3}{t t':TS}(h:PS X e t)(q:∀D σ H,t' D σ H->t D σ H):PS X e t':=λpins s σ H D I z=>h pins s σ H D I<|q D σ H z
def PSs.imp{e:EQ E3}{t t':TS}(h:PSs X e t)(q:∀D σ H,t' D σ H->t D σ H):PSs X e t':=λpins s σ H D I z=>h pins s σ H D I<|q D σ H z
variable{PK:Pk}{a b c e:E1}{es:EQ E1}{pos:Pos}{i j l:Di}
def TAe.then{k:ES->Tr β}{Z:Nat->β->Prop}{pa:EV}{ρ:Dz}(R:Rl PK pa DA H₀ m σ ρ G H)(h:((i ρ).bind k).ok m Z)
  (hq:∀m1 x v G1 H1,Stp pa G H G1 H1->Wd PK pa m1 G1 H1->Rl PK pa DA H₀ m1 σ ρ G1 H1->Dn G1 v x->(k x).ok m1 Z->Q v H1):TAe PK i σ H Q:=by refine⟨pa,DA,H₀,m,ρ,G,R,Tr.ok_mono (Tr.ok_bind.mp h) λm1 x hx v G1 H1 s1 w1 d1=>?_⟩;exact hq m1 x v G1 H1 s1 w1 (R.step s1 w1) d1 hx
noncomputable def aa(k:Nat):Di:=λρ=>match ρ[k]? with
 |some (.d x)=>.ret x
 |_=>.fail
def aC(d:ES):Di:=λ_=>.ret d
def ZnW(h:PE X e (fb k)):PE X e (TAe PK<|aa k):=h.imp λσ H Q E4=>by
 obtain⟨pa,DA,H₀,m,ρ,G,R,q⟩:=E4;unfold aa at q
 split at q
 ·rename_i x hx;obtain⟨o,h1,h2⟩:=R.sl k _ hx;cases h2 with
  |d z=>exact⟨_,h1,Kn.here q R.wd z⟩
 ·exact q.elim
def zl{d:ES}(h:PE X e (tC v))(hd:∀G,Dn G v d):PE X e (TAe PK<|aC d):=h.imp λσ H Q E4=>by obtain⟨pa,DA,H₀,m,ρ,G,R,q⟩:=E4;exact Kn.here q R.wd<|hd G
def ai{n:Int}{k pos}:PE X (.Constant (.int n) k pos) (TAe PK<|aC<|.int n):=zl bW λ_=>.int n
def iT{n:Bool}{k pos}:PE X (.Constant (.bool n) k pos) (TAe PK<|aC<|.bool n):=zl ZiO λ_=>.bl n
def dg{n:Int}(hg:Gl X x)(h:∃t,X.mg x=some (.int n t))(hd:(x==("__debug__":Str))=false:=by decide):PE X (.Name x pos) (TAe PK<|aC<|.int n):=zl (ZiL hg h hd) λ_=>.int n
def cS(r:R2)(f:Dq):Prop:=∀(PK:Pk)(pa:EV)(m:Nat)(G H:Hp)(x y:V)(dx dy dz:ES)(Q:VK),Wd PK pa m G H->Dn G x dx->Dn G y dy->f dx dy=some dz->Kn PK pa m G H dz Q->r x y H Q
def ac(f:Dq)(i j:Di):Di:=λρ=>(i ρ).bind λx=>(j ρ).bind λy=>Tr.of<|f x y
def vB{f:Dq}(hv:cS r f):∀σ H Q,TAe PK (ac f i j) σ H Q->hZ r (TAe PK i) (TAe PK j) σ H Q:=by rintro σ H Q ⟨pa,DA,H₀,m,ρ,G,R,q⟩;refine TAe.then R q λm1 x v G1 H1 s1 w1 R1 d1 q1=>?_;refine TAe.then R1 q1 λm2 y u G2 H2 s2 w2 R2 d2 q2=>?_;obtain⟨z,hz,k⟩:=Tr.ok_of q2;exact hv PK pa m2 G2 H2 v u x y z Q w2 (d1.mono s2.gs) d2 hz<|Kn.later k (s1.trans s2 w1.some) w2.some
def cM{op:Operator}{f:Dq}(ho:OpR X (binaryOp op) r)(hv:cS r f)(ha:PE X a (TAe PK i))(hb:PE X b (TAe PK j)):PE X (.BinOp a op b pos) (TAe PK<|ac f i j) :=
 (cy ho ha hb).imp (vB hv)
def zj{op:CmpOp}{f:Dq}(ho:OpR X (compareOp op) r)(hv:cS r f)(ha:PE X a (TAe PK i))(hb:PE X b (TAe PK j))(hm:behindInMarks op b=false):PE X (.Compare a [op] [b] pos) (TAe PK<|ac f i j) :=
 (ZiM ho ha hb hm).imp (vB hv)
def Zfs{f:Dq}(hr:IxR X r)(hv:cS r f)(ha:PE X a (TAe PK i))(hb:PE X b (TAe PK j))(hs:vF b):PE X (.Subscript a b pos) (TAe PK<|ac f i j) :=
 (fj hr ha hb hs).imp (vB hv)
def ZoK{f:Dq}(hr:IxR X r)(hv:cS r f)(ha:PE X a (TAe PK i))(hb:PE X b (TAe PK j))(hs:vF b:=by intro _ _;rfl):PE X (.Subscript a b pos) (TAe PK<|ac f i j):=Zfs hr hv ha hb hs
def qj:ES->ER Bool
 |.bool b=>some b
 |_=>none
@[simp] theorem ZoD(b:Bool):qj (.bool b)=some b:=rfl
def cN(i:Di):Dk:=λρ=>(i ρ).bind λx=>Tr.of<|qj x
def Zn7:∀σ H Q,TAt PK (cN i) σ H Q->sy (TAe PK i) σ H Q:=by rintro σ H Q ⟨pa,DA,H₀,m,ρ,G,R,q⟩;refine TAe.then R q λm1 x v G1 H1 s1 w1 R1 d1 q1=>?_;obtain⟨b,hb,k⟩:=Tr.ok_of q1;cases d1 <;> simp only[qj]at hb <;> cases hb;exact⟨_,rfl,k G1 H1 s1 w1⟩
def Zgx{t t':TE}(h:∀σ H Q,t' σ H Q->t σ H Q):∀σ H Q,sy t' σ H Q->sy t σ H Q:=λσ H Q z=>h σ H _ z
def dP{op:CmpOp}{f:Dq}(ho:OpR X (compareOp op) r)(hv:cS r f)(ha:PE X a (TAe PK i))(hb:PE X b (TAe PK j))(hm:behindInMarks op b=false):PT X (.Compare a [op] [b] pos) (TAt PK<|cN<|ac f i j) :=
 (qG ho ha hb hm).imp λσ H Q z=>Zgx (vB hv) σ H Q<|Zn7 σ H Q z
noncomputable def ZaC:ES->ER Bool
 |.bool b=>some b
 |.int n=>some (n != 0)
 |.none=>some false
 |.list xs=>some (!xs.isEmpty)
 |.tuple xs=>some (!xs.isEmpty)
 |_=>none
def pU(i:Di):Dk:=λρ=>(i ρ).bind λx=>Tr.of<|ZaC x
theorem DnAll.isEmpty{H:Hp}{vs:Dx}{ds:Dt}(h:DnAll H vs ds):vs.isEmpty=ds.isEmpty:=by cases h <;> rfl
def uZ(h:PE X e (TAe PK i))(he:∀whole,isTrue e X.env whole=(do let v <- whole;standAt e.pos;holding [v] (truthy v)):=by intro _;rfl):PT X e (TAt PK<|pU i):=(Zif h he).imp λσ H Q E4=>by
 obtain⟨pa,DA,H₀,m,ρ,G,R,q⟩:=E4;refine TAe.then R q λm1 x v G1 H1 s1 w1 R1 d1 q1=>?_;obtain⟨b,hb,k⟩:=Tr.ok_of q1;have fin:=k G1 H1 s1 w1;cases d1 with
 |non=>cases hb;exact⟨_,rfl,fin⟩
 |bl b=>cases hb;exact⟨_,rfl,fin⟩
 |int n=>cases hb;exact⟨_,rfl,fin⟩
 |str _=>cases hb
 |tup h1 h2=>cases hb;exact⟨_,.inr<|.inl ⟨_,SqT.of<|w1.sub _ _ h1,rfl⟩,by rw[h2.isEmpty];exact fin⟩
 |lst h1 h2=>cases hb;exact⟨_,.inl ⟨_,SqL.of<|w1.sub _ _ h1,rfl⟩,by rw[h2.isEmpty];exact fin⟩
 |dct _ _=>cases hb
 |dcp _ _ _=>cases hb
def zy(i j:Dk):Dk:=λρ=>(i ρ).bind λx=>if x=true then j ρ else .ret false
noncomputable def vq(i j:Dk):Dk:=λρ=>(i ρ).bind λx=>if x=true then .ret true else j ρ
noncomputable def rO(i:Dk):Dk:=λρ=>(i ρ).bind λx=>.ret<|!x
variable{p q:Dk}{rest:EQ E1}
def TAt.then{k:Bool->Tr β}{Z:Nat->β->Prop}{Q:Bool->Hp->Prop}{pa:EV}{ρ:Dz}(R:Rl PK pa DA H₀ m σ ρ G H)(h:((p ρ).bind k).ok m Z)
  (hq:∀m1 x G1 H1,Stp pa G H G1 H1->Wd PK pa m1 G1 H1->Rl PK pa DA H₀ m1 σ ρ G1 H1->(k x).ok m1 Z->Q x H1):TAt PK p σ H Q:=by refine⟨pa,DA,H₀,m,ρ,G,R,Tr.ok_mono (Tr.ok_bind.mp h) λm1 x hx G1 H1 s1 w1=>?_⟩;exact hq m1 x G1 H1 s1 w1 (R.step s1 w1) hx
def Zfc{ρ:Dz}{pa:EV}{Q:Bool->Hp->Prop}(R1:Rl PK pa DA H₀ m σ ρ G1 H1)(s1:Stp pa G H G1 H1)(h:(q ρ).ok m λm' b=>∀G' H',Stp pa G H G' H'->Wd PK pa m' G' H'->Q b H'):TAt PK q σ H1 Q :=
 ⟨pa,DA,H₀,m,ρ,G1,R1,Tr.ok_mono h λm2 b k G2 H2 s2 w2=>k G2 H2 (s1.trans s2 R1.wd.some) w2⟩
def zi{ρ:Dz}{pa:EV}(R1:Rl PK pa DA H₀ m σ ρ G1 H1)(s1:Stp pa G H G1 H1)(h:(i ρ).ok m λm' x=>Kn PK pa m' G H x Q):TAe PK i σ H1 Q :=
 ⟨pa,DA,H₀,m,ρ,G1,R1,Tr.ok_mono h λm2 b k=>Kn.later k s1 R1.wd.some⟩
def Znv(ha:PT X a (TAt PK p)):PW X (.BoolOp .And [a] pos) (TAt PK p):=Zcp ha
def Ze9(ha:PT X a (TAt PK p)):PW X (.BoolOp .Or [a] pos) (TAt PK p):=Zib ha
def Znw(ha:PT X a (TAt PK p))(hb:PW X (.BoolOp .And (b::rest) pos) (TAt PK q)):PW X (.BoolOp .And (a::b::rest) pos) (TAt PK<|zy p q):=(Zcq ha hb).imp λσ H Q E4=>by
 obtain⟨pa,DA,H₀,m,ρ,G,R,z⟩:=E4;refine TAt.then R z λm1 x G1 H1 s1 w1 R1 q1=>?_;cases x with
 |true=>rw[DD rfl]at q1 ⊢;exact Zfc R1 s1 q1
 |false=>rw[DF As]at q1 ⊢;exact q1 G1 H1 s1 w1
def Zfa(ha:PT X a (TAt PK p))(hb:PW X (.BoolOp .Or (b::rest) pos) (TAt PK q)):PW X (.BoolOp .Or (a::b::rest) pos) (TAt PK<|vq p q):=(Zic ha hb).imp λσ H Q E4=>by
 obtain⟨pa,DA,H₀,m,ρ,G,R,z⟩:=E4;refine TAt.then R z λm1 x G1 H1 s1 w1 R1 q1=>?_;cases x with
 |true=>rw[DD rfl]at q1 ⊢;exact q1 G1 H1 s1 w1
 |false=>rw[DF As]at q1 ⊢;exact Zfc R1 s1 q1
def yY(h:PW X e (TAt PK p)):PT X e (TAt PK p):=h.pt
def yZ(ha:PT X a (TAt PK p)):PT X (.UnaryOp .Not a pos) (TAt PK<|rO p):=(Zig ha).imp λσ H Q E4=>by obtain⟨pa,DA,H₀,m,ρ,G,R,z⟩:=E4;refine TAt.then R z λm1 x G1 H1 s1 w1 R1 q1=>?_;exact q1 G1 H1 s1 w1
def zx(i j:Di):Di:=λρ=>(cN i ρ).bind λx=>if x=true then j ρ else .ret<|.bool false
def TAe.thenB{k:Bool->Tr β}{Z:Nat->β->Prop}{pa:EV}{ρ:Dz}(R:Rl PK pa DA H₀ m σ ρ G H)(h:((cN i ρ).bind k).ok m Z)
  (hq:∀m1 c G1 H1,Stp pa G H G1 H1->Wd PK pa m1 G1 H1->Rl PK pa DA H₀ m1 σ ρ G1 H1->(k c).ok m1 Z->Q (.bl c) H1):TAe PK i σ H Q:=by unfold cN at h;rw[Tr.bind_assoc]at h;refine TAe.then R h λm1 x v G1 H1 s1 w1 R1 d1 q1=>?_;rw[Tr.ok_bind]at q1;obtain⟨c,hb,q1⟩:=Tr.ok_of q1;cases d1 <;> simp only[qj]at hb <;> cases hb;exact hq m1 _ G1 H1 s1 w1 R1 q1
def ZnY{op}(h:PE X a (TAe PK i)):PE X (.BoolOp op [a] pos) (TAe PK i):=ZiH h
def Zn1(ha:PE X a (TAe PK i))(hb:PE X (.BoolOp .And (b::rest) pos) (TAe PK j)):PE X (.BoolOp .And (a::b::rest) pos) (TAe PK<|zx i j):=(ZiP ha hb).imp λσ H Q E4=>by
 obtain⟨pa,DA,H₀,m,ρ,G,R,z⟩:=E4;refine TAe.thenB R z λm1 x G1 H1 s1 w1 R1 q1=>⟨x,rfl,?_⟩;cases x with
 |true=>rw[DD rfl]at q1 ⊢;exact zi R1 s1 q1
 |false=>rw[DF As]at q1 ⊢;exact(Kn.later q1 s1 w1.some).here w1<|.bl false
noncomputable def zt(p:Dk)(i j:Di):Di:=λρ=>(p ρ).bind λx=>if x=true then i ρ else j ρ
def ZnZ(hc:PT X c (TAt PK p))(ha:PE X a (TAe PK i))(hb:PE X b (TAe PK j)):PE X (.IfExp c a b pos) (TAe PK<|zt p i j):=(ZiJ hc ha hb).imp λσ H Q E4=>by
 obtain⟨pa,DA,H₀,m,ρ,G,R,z⟩:=E4;refine TAt.then R z λm1 x G1 H1 s1 w1 R1 q1=>?_;cases x with
 |true=>rw[DD rfl]at q1 ⊢;exact zi R1 s1 q1
 |false=>rw[DF As]at q1 ⊢;exact zi R1 s1 q1
variable{is:Dj}
def ao:Dj:=λ_=>.ret []
noncomputable def af(i:Di)(is:Dj):Dj:=λρ=>(i ρ).bind λx=>(is ρ).bind λxs=>.ret (x::xs)
def aq:PA X [] (TAd PK ao):=cL.imp λσ H Q E4=>by obtain⟨pa,DA,H₀,m,ρ,G,R,z⟩:=E4;exact z [] G H .refl R.wd .nil
def TAd.then{k:EQ ES->Tr β}{Z:Nat->β->Prop}{Q:EQ V->Hp->Prop}{pa:EV}{ρ:Dz}(R:Rl PK pa DA H₀ m σ ρ G H)(h:((is ρ).bind k).ok m Z)
  (hq:∀m1 xs vs G1 H1,Stp pa G H G1 H1->Wd PK pa m1 G1 H1->Rl PK pa DA H₀ m1 σ ρ G1 H1->DnAll G1 vs xs->(k xs).ok m1 Z->Q vs H1):TAd PK is σ H Q:=by refine⟨pa,DA,H₀,m,ρ,G,R,Tr.ok_mono (Tr.ok_bind.mp h) λm1 x hx v G1 H1 s1 w1 d1=>?_⟩;exact hq m1 x v G1 H1 s1 w1 (R.step s1 w1) d1 hx
def aw(ha:PE X e (TAe PK i))(hr:PA X es (TAd PK is))(hs:starEach (e::es) X.env=(false,eval e X.env)::starEach es X.env:=by rfl):PA X (e::es) (TAd PK<|af i is):=(ci ha hr hs).imp λσ H Q E4=>by obtain⟨pa,DA,H₀,m,ρ,G,R,z⟩:=E4;refine TAe.then R z λm1 x v G1 H1 s1 w1 R1 d1 q1=>?_;refine TAd.then R1 q1 λm2 xs vs G2 H2 s2 w2 R2 d2 q2=>?_;exact q2 _ _ _ (s1.trans s2 w1.some) w2<|.cons (d1.mono s2.gs) d2
noncomputable def small(n:Nat):Bool:=decide (n<=sizeLine)
def bL(is:Dj):Di:=λρ=>(is ρ).bind λxs=>if small xs.length=true then .ret (.tuple xs)else .fail
def bY(is:Dj):Di:=λρ=>(is ρ).bind λxs=>.ret<|.list xs
def fX(is:Dj):Dj:=λρ=>(is ρ).bind λxs=>if small xs.length=true then .ret xs else .fail
def c6{c:Bool}{t:Tr α}{Q:Nat->α->Prop}(h:(if c=true then t else .fail).ok m Q):c=true/\t.ok m Q:=by
 cases c with
 |true=>exact⟨rfl,h⟩
 |false=>exact h.elim
def bU{x1}(h:PA X es (TAd PK is)):PE X (.Tuple es x1 pos) (TAe PK<|bL is):=(ZiG h).imp λσ H Q E4=>by obtain⟨pa,DA,H₀,m,ρ,G,R,z⟩:=E4;refine TAd.then R z λm1 xs vs G1 H1 s1 w1 R1 d1 q1=>?_;obtain⟨hs,k⟩:=c6 q1;exact⟨by rw[d1.length];exact DC hs,λp hp=>(Kn.later k s1 w1.some).tup w1 d1 hp⟩
def Ko1.new{pa:EV}{xs:Dt}{p:EV}(k:Ko1 PK pa m G H xs Q)(w:Wd PK pa m G H)(d:DnAll G vs xs)(hp:H p=none):Q (.ref p) (upd H p<|.lst vs):=by obtain⟨w1,s1⟩:=w.own (o:=.lst vs) hp;exact k p vs G _ s1 w1 hp (w.gnone hp) bv d
def Ko1.later{pa:EV}{xs:Dt}(k:Ko1 PK pa m G H xs Q)(s:Stp pa G H G1 H1)(hp:∃o,H1 pa=some o):Ko1 PK pa m G1 H1 xs Q:=λp vs G' H' s' w' h1 h2 h3 h4=>by
 refine k p vs G' H' (s.trans s' hp) w' ?_ h2 h3 h4;cases e:H p with
 |none=>rfl
 | some u =>
  by_cases hc:p=pa
  ·subst hc;obtain⟨o,z⟩:=hp;rw[h1]at z;cases z
  ·rw[s.hk p u e hc]at h1;cases h1
def gU(h:PA X es (TAd PK is)):PE X (.List es pos) (dR PK<|fX is):=(xw h).imp λσ H Q E4=>by obtain⟨pa,DA,H₀,m,ρ,G,R,z⟩:=E4;refine TAd.then R z λm1 xs vs G1 H1 s1 w1 R1 d1 q1=>?_;obtain⟨hs,k⟩:=c6 q1;exact⟨by rw[d1.length];exact DC hs,λp hp=>(Ko1.later k s1 w1.some).new w1 d1 hp⟩
def Ko1.of{pa:EV}{xs:Dt}(k:Kn PK pa m G H (.list xs) Q)(hp:∃o,H pa=some o):Ko1 PK pa m G H xs Q:=λp vs G' H' s w h1 h2 h3 h4=>by
 have E8:pa≠p:=λe=>by obtain⟨o,z⟩:=hp;rw[e,h1]at z;cases z
 have sb:Sub G' (upd G' p<|.lst vs):=Sub.new h2;refine k _ (upd G' p<|.lst vs) H' ⟨λb o h=>sb b o<|s.gs b o h,λb o h=>?_,s.hk⟩ (w.freeze h3 h2 E8)<|.lst bv<|DnAll.mono sb h4;by_cases e:b=p
 ·subst e;exact .inr<|.inl h1
 ·rw[aA e]at h;exact s.gn b o h
def cz(h:PE X e (dR PK is)):PE X e (TAe PK<|bY is):=h.imp λσ H Q E4=>by obtain⟨pa,DA,H₀,m,ρ,G,R,z⟩:=E4;refine⟨pa,DA,H₀,m,ρ,G,R,Tr.ok_mono (Tr.ok_bind.mp z) λm1 xs k=>Ko1.of k R.wd.some⟩
def eZ(r:EQ V->Hp->VK->Prop)(f:EQ ES->ER ES):Prop:=∀(PK:Pk)(pa:EV)(m:Nat)(G H:Hp)(vs:Dx)(ds:Dt)(d:ES)(Q:VK),Wd PK pa m G H->DnAll G vs ds->f ds=some d->Kn PK pa m G H d Q->r vs H Q
def aZ(f:EQ ES->ER ES)(is:Dj):Di:=λρ=>(is ρ).bind λxs=>Tr.of<|f xs
def zu(f:EQ ES->ER Dt)(is:Dj):Dj:=λρ=>(is ρ).bind λxs=>Tr.of<|f xs
def Zn9{r:EQ V->Hp->VK->Prop}{f:EQ ES->ER ES}(hv:eZ r f):∀σ H Q,TAe PK (aZ f is) σ H Q->gE r (TAd PK is) σ H Q:=by rintro σ H Q ⟨pa,DA,H₀,m,ρ,G,R,z⟩;refine TAd.then R z λm1 xs vs G1 H1 s1 w1 R1 d1 q1=>?_;obtain⟨d,hd,k⟩:=Tr.ok_of q1;exact hv PK pa m1 G1 H1 vs xs d Q w1 d1 hd<|Kn.later k s1 w1.some
def bb{t:TA}{r:EQ V->Hp->VK->Prop}{f:EQ ES->ER ES}(h:PE X e (gE r<|TAd PK is))(hv:eZ r f):PE X e (TAe PK<|aZ f is):=h.imp<|Zn9 hv
variable{as:EQ Sl->Tr Dz}
def aE:EQ Sl->Tr Dz:=λ_=>.ret []
noncomputable def ah(i:Di)(as:EQ Sl->Tr Dz):EQ Sl->Tr Dz:=λρ=>(i ρ).bind λx=>(as ρ).bind λxs=>.ret (.d x::xs)
noncomputable def cA(k:Nat)(as:EQ Sl->Tr Dz):EQ Sl->Tr Dz:=λρ=>match ρ[k]? with
 |some .pen=>(as ρ).bind λxs=>.ret (.pen::xs)
 |_=>.fail
def aJ:PA X [] (TAa PK aE):=cL.imp λσ H Q E4=>by obtain⟨pa,DA,H₀,m,ρ,G,R,z⟩:=E4;exact z [] G H .refl R.wd .nil
def TAa.then{k:EQ Sl->Tr β}{Z:Nat->β->Prop}{Q:EQ V->Hp->Prop}{pa:EV}{ρ:Dz}(R:Rl PK pa DA H₀ m σ ρ G H)(h:((as ρ).bind k).ok m Z)
  (hq:∀m1 xs vs G1 H1,Stp pa G H G1 H1->Wd PK pa m1 G1 H1->Rl PK pa DA H₀ m1 σ ρ G1 H1->ArsOk pa G1 vs xs->(k xs).ok m1 Z->Q vs H1):TAa PK as σ H Q:=by refine⟨pa,DA,H₀,m,ρ,G,R,Tr.ok_mono (Tr.ok_bind.mp h) λm1 x hx v G1 H1 s1 w1 d1=>?_⟩;exact hq m1 x v G1 H1 s1 w1 (R.step s1 w1) d1 hx
def bC(ha:PE X e (TAe PK i))(hr:PA X es (TAa PK as))(hs:starEach (e::es) X.env=(false,eval e X.env)::starEach es X.env:=by rfl):PA X (e::es) (TAa PK<|ah i as):=(ci ha hr hs).imp λσ H Q E4=>by obtain⟨pa,DA,H₀,m,ρ,G,R,z⟩:=E4;refine TAe.then R z λm1 x v G1 H1 s1 w1 R1 d1 q1=>?_;refine TAa.then R1 q1 λm2 xs vs G2 H2 s2 w2 R2 d2 q2=>?_;exact q2 _ _ _ (s1.trans s2 w1.some) w2<|.cons (.d<|d1.mono s2.gs) d2
def cR(ha:PE X e (fb k))(hr:PA X es (TAa PK as))(hs:starEach (e::es) X.env=(false,eval e X.env)::starEach es X.env:=by rfl):PA X (e::es) (TAa PK<|cA k as):=(ci ha hr hs).imp λσ H Q E4=>by
 obtain⟨pa,DA,H₀,m,ρ,G,R,z⟩:=E4;unfold cA at z
 split at z
 ·rename_i hk;obtain⟨o,h1,h2⟩:=R.sl k _ hk;cases h2;refine⟨_,h1,?_⟩;refine TAa.then R z λm2 xs vs G2 H2 s2 w2 R2 d2 q2=>?_;exact q2 _ _ _ s2 w2<|.cons .pen d2
 ·exact z.elim
def zp(PK:Pk)(n:Nat)(f:Dm):Sp:=λvs H Q _=>vs.length=n/\∃pa m G as,Wd PK pa m G H/\ArsOk pa G vs as/\(f as).ok m λm' r=>Kr PK pa m' G H r Q
noncomputable def aD(f:Dm)(as:EQ Sl->Tr Dz):Dm:=λρ=>(as ρ).bind f
def aG(f:Dm):Di:=λρ=>(f ρ).bind λr=>.ret r.val
def p7(PK:Pk)(i:Dm):TE:=λσ H Q=>∃pa DA H₀ m ρ G,Rl PK pa DA H₀ m σ ρ G H/\(i ρ).ok m λm' r=>Kr PK pa m' G H r Q
def Kr.later{pa:EV}{r:Re}(k:Kr PK pa m G H r Q)(s:Stp pa G H G1 H1)(hp:∃o,H1 pa=some o):Kr PK pa m G1 H1 r Q:=λv G' H' s' w' d=>by
 refine k v G' H' (s.trans s' hp) w' ?_;cases r with
 |d x=>exact d
 | own xs =>
  obtain⟨p,vs,e,h1,h2,h3,h4⟩:=d;refine⟨p,vs,e,h1,h2,?_,h4⟩;cases e:H p with
  |none=>rfl
  | some u =>
   by_cases hc:p=pa
   ·subst hc;obtain⟨o,z⟩:=hp;rw[h3]at z;cases z
   ·rw[s.hk p u e hc]at h3;cases h3
theorem Kr.of{pa:EV}{m:Nat}{G H:Hp}{r:Re}{Q:VK}(k:Kn PK pa m G H r.val Q)(hp:∃o,H pa=some o):Kr PK pa m G H r Q:=λv G' H' s w d=>by
 cases r with
 |d x=>exact k v G' H' s w d
 | own xs =>
  obtain⟨p,vs,rfl,h1,h2,h3,h4⟩:=d;exact Ko1.of k hp p vs G' H' s w h3 h2 h1 h4
def gX{f:Dm}(h:PE X e (p7 PK f)):PE X e (TAe PK<|aG f):=h.imp (by intro σ H Q z;obtain⟨pa,DA,H₀,m,ρ,G,R,z⟩:=z;exact⟨pa,DA,H₀,m,ρ,G,R,Tr.ok_mono (Tr.ok_bind.mp z) λm1 r k=>Kr.of k R.wd.some⟩)
structure ACal(PK:Pk)(P:EW)(w:EX)(K:Dh)(mg:Dy)(base:EZ)(x:Str)(k:Nat)(ps:Dw)(f:Dm):Prop where
 cal:Callee P w K mg base x k ps (zp PK ps.length f)
 len:∀as m Z,(f as).ok m Z->as.length=ps.length
def gz{ps:Dw}{f:Dm}{pp:Pos}(C:ACal PK X.prog X.w X.K X.mg X.base x k ps f)(hr:Room k X.A)(hg:Gl X x)(ha:PA X (e::es) (TAa PK as))
  (Fn:(x==("__debug__":Str))=false:=by decide)
  (he:starEach (e::es) X.env=(false,eval e X.env)::starEach es X.env:=by rfl) (Fc:(backTo pos<|starEach es X.env).any (·.1)=false:=by rfl):PE X (.Call (.Name x pp) (e::es) [] pos) (p7 PK<|aD f as) :=
 (tJ C.cal hr hg ha Fn he Fc).imp λσ H Q E4=>by obtain⟨pa,DA,H₀,m,ρ,G,R,z⟩:=E4;refine TAa.then R z λm1 xs vs G1 H1 s1 w1 R1 d1 q1=>?_;show zp PK ps.length f (vs++[]) H1 Q E0;rw[AI];exact⟨by rw[d1.length];exact C.len _ _ _ q1,pa,m1,G1,xs,w1,d1,Tr.ok_mono q1 λm2 r k=>Kr.later k s1 w1.some⟩
def ZoJ{n:Nat}{ps:Dw}{f:Dm}{pp:Pos}(C:ACal PK X.prog X.w X.K X.mg X.base x k ps f)(hr:Room n X.A)(ha:PA X (e::es) (TAa PK as))(hk:k<=n:=by decide)(hg:Gl X x:=by rfl)(Fn:(x==("__debug__":Str))=false:=by decide)(he:starEach (e::es) X.env=(false,eval e X.env)::starEach es X.env:=by rfl)(Fc:(backTo pos<|starEach es X.env).any (·.1)=false:=by rfl):PE X (.Call (.Name x pp) (e::es) [] pos) (p7 PK<|aD f as):=gz C (hr.mono hk) hg ha Fn he Fc
variable{PK:Pk}{a b c e:E1}{es:EQ E1}{pos:Pos}{i j l:Di}{is:Dj}{as:EQ Sl->Tr Dz}{f:Dm}{p q:Dk}{st:E3}{sts:EQ E3}{s t u:Dl}
noncomputable def av(s t:Dl):Dl:=λρ=>(s ρ).bind λo=>match o with
 |.next ρ'=>t ρ'
 |o=>.ret o
def eJ:Dl:=λρ=>.ret<|.next ρ
def Ko.later{pa:EV}{Gs:Hp}{D:Ends}{o:Ou}(k:Ko PK pa DA H₀ Gs D m o)(sb:Sub Gs G):Ko PK pa DA H₀ G D m o:=by
 cases o with
 |next ρ=>exact λσ G' H s R=>k σ G' H (λb o h=>s b o<|sb b o h) R
 |ret r=>exact k
 |brk ρ=>exact λσ G' H s R=>k σ G' H (λb o h=>s b o<|sb b o h) R
 |cont ρ=>exact λσ G' H s R=>k σ G' H (λb o h=>s b o<|sb b o h) R
def Sub.refl:Sub G G:=λ_ _ h=>h
def Sub.trans{G2:Hp}(a:Sub G G1)(b:Sub G1 G2):Sub G G2:=λc o h=>b c o<|a c o h
def fB:PSs X [] (bg PK eJ):=tz.imp λD σ H E4=>by obtain⟨pa,DA,H₀,m,ρ,G,R,z⟩:=E4;exact z σ G H .refl R
def Zn8:∀D σ H,bg PK (av s t) D σ H->ZaK (bg PK s) (bg PK t) D σ H:=by
 rintro D σ H ⟨pa,DA,H₀,m,ρ,G,R,z⟩;refine⟨pa,DA,H₀,m,ρ,G,R,Tr.ok_mono (Tr.ok_bind.mp z) λm1 o k=>?_⟩;cases o with
 |next ρ'=>exact λσ' G' H' sb R'=>⟨pa,DA,H₀,m1,ρ',G',R',Tr.ok_mono k λ_ _ k'=>Ko.later k' sb⟩
 |ret r=>exact k
 |brk ρ'=>exact k
 |cont ρ'=>exact k
def ay(h1:PS X st (bg PK s))(h2:PSs X sts (bg PK t)):PSs X (st::sts) (bg PK<|av s t):=(dI h1 h2).imp Zn8
def aS(h1:PS X st (bg PK s)):PSs X [st] (bg PK s):=kC h1
def vt:Dl:=λ_=>.fail
def ZnH:PS X st (bg PK vt):=λ_ _ _ _ _ _ h=>by obtain⟨pa,DA,H₀,m,ρ,G,R,z⟩:=h;exact z.elim
def bF(i:Di):Dl:=λρ=>(i ρ).bind λx=>.ret<|.ret<|.d x
def bJ(he:PE X e (TAe PK i)):PS X (.Return (some e) pos) (bg PK<|bF i):=(io he).imp λD σ H E4=>by obtain⟨pa,DA,H₀,m,ρ,G,R,z⟩:=E4;refine TAe.then R z λm1 x v G1 H1 s1 w1 R1 d1 q1=>?_;exact q1 v G1 H1 R1.st w1 d1
def iV(is:Dj):Dl:=λρ=>(is ρ).bind λx=>.ret<|.ret<|.own x
def pP(he:PE X e (dR PK is)):PS X (.Return (some e) pos) (bg PK<|iV is):=(io he).imp λD σ H E4=>by obtain⟨pa,DA,H₀,m,ρ,G,R,z⟩:=E4;refine⟨pa,DA,H₀,m,ρ,G,R,Tr.ok_mono (Tr.ok_bind.mp z) λm1 xs k p vs G1 H1 s1 w1 h1 h2 h3 h4=>?_⟩;exact k (.ref p) G1 H1 (R.st.trans s1 R.wd.some) w1 ⟨p,vs,rfl,h3,h2,R.h0 h1,h4⟩
def rN(f:Dm):Dl:=λρ=>(f ρ).bind λr=>.ret<|.ret r
def za(he:PE X e (p7 PK f)):PS X (.Return (some e) pos) (bg PK<|rN f):=(io he).imp (by intro D σ H z;obtain⟨pa,DA,H₀,m,ρ,G,R,z⟩:=z;exact⟨pa,DA,H₀,m,ρ,G,R,Tr.ok_mono (Tr.ok_bind.mp z) λm1 r k=>Kr.later k R.st R.wd.some⟩)
noncomputable def gB(k:Nat):Dl:=λρ=>match ρ[k]? with
 |some (.d x)=>.ret (.ret<|.d x)
 |some (.own xs)=>.ret (.ret<|.own xs)
 |_=>.fail
def u5(he:PE X e (fb k)):PS X (.Return (some e) pos) (bg PK<|gB k):=(io he).imp λD σ H E4=>by
 obtain⟨pa,DA,H₀,m,ρ,G,R,z⟩:=E4;unfold gB at z
 split at z
 ·rename_i x hx;obtain⟨o,h1,h2⟩:=R.sl k _ hx;cases h2 with
  |d d1=>exact⟨_,h1,z _ G H R.st R.wd d1⟩
 ·rename_i xs hx;obtain⟨o,h1,h2⟩:=R.sl k _ hx;cases h2 with
  |own a1 a2 a3 a4=>exact⟨_,h1,z _ G H R.st R.wd ⟨_,_,rfl,a1,a2,a3,a4⟩⟩
 ·exact z.elim
noncomputable def eK(p:Dk)(s t:Dl):Dl:=λρ=>(p ρ).bind λx=>if x=true then s ρ else t ρ
def fE{xs ys:EQ E3}(hc:PT X c (TAt PK p))(ha:PSs X xs (bg PK s))(hb:PSs X ys (bg PK t)):PS X (.If c xs ys pos) (bg PK<|eK p s t):=(tD hc ha hb).imp λD σ H E4=>by
 obtain⟨pa,DA,H₀,m,ρ,G,R,z⟩:=E4;refine TAt.then R z λm1 x G1 H1 s1 w1 R1 q1=>?_;cases x with
 |true=>rw[DD rfl]at q1 ⊢;exact⟨pa,DA,H₀,m1,ρ,G1,R1,Tr.ok_mono q1 λ_ _ k'=>Ko.later k' s1.gs⟩
 |false=>rw[DF As]at q1 ⊢;exact⟨pa,DA,H₀,m1,ρ,G1,R1,Tr.ok_mono q1 λ_ _ k'=>Ko.later k' s1.gs⟩
def aU(k:Nat)(i:Di):Dl:=λρ=>(i ρ).bind λx=>.ret<|.next<|ρ.set k<|.d x
def y8(h:PS X st (cV (TAe PK i)<|da k)):PS X st (bg PK<|aU k i):=h.imp λD σ H E4=>by obtain⟨pa,DA,H₀,m,ρ,G,R,z⟩:=E4;refine TAe.then R z λm1 x v G1 H1 s1 w1 R1 d1 q1=>?_;exact q1 _ G1 H1 s1.gs<|R1.set d1 k
def iU(k:Nat)(is:Dj):Dl:=λρ=>(is ρ).bind λx=>.ret<|.next<|ρ.set k<|.own x
def rH(h:PS X st (cV (dR PK is)<|da k)):PS X st (bg PK<|iU k is):=h.imp λD σ H E4=>by obtain⟨pa,DA,H₀,m,ρ,G,R,z⟩:=E4;refine⟨pa,DA,H₀,m,ρ,G,R,Tr.ok_mono (Tr.ok_bind.mp z) λm1 xs k' p vs G1 H1 s1 w1 h1 h2 h3 h4=>?_⟩;exact k' _ G1 H1 s1.gs<|(R.step s1 w1).setO h3 h2 (R.h0 h1) h4 (λn ys e=>R.apart h1 n ys e) k
def jQ(f:Dq)(k:Nat)(i:Di):Dl:=λρ=>(aa k ρ).bind λx=>(i ρ).bind λy=>(Tr.of<|f x y).bind λz=>.ret<|.next<|ρ.set k<|.d z
def u8{g:Dq}(hv:cS r g)(h:PS X st (ZaQ k (TAe PK i) r)):PS X st (bg PK<|jQ g k i):=h.imp λD σ H E4=>by
 obtain⟨pa,DA,H₀,m,ρ,G,R,z⟩:=E4;unfold jQ aa at z
 split at z
 ·rename_i x hx;obtain⟨o,h1,h2⟩:=R.sl k _ hx;cases h2 with
  | d d0 =>
   refine⟨_,h1,?_⟩;refine TAe.then R z λm1 y v G1 H1 s1 w1 R1 d1 q1=>?_;rw[Tr.ok_bind]at q1;obtain⟨w,hw,q1⟩:=Tr.ok_of q1;refine hv PK pa m1 G1 H1 _ v x y w _ w1 (d0.mono s1.gs) d1 hw λu G2 H2 s2 w2 d2=>?_;exact q1 _ G2 H2 (s1.gs.trans s2.gs)<|(R1.step s2 w2).set d2 k
 ·exact z.elim
def p6(k:Nat)(i:Di):Dl:=λρ=>match ρ[k]? with
 |some (.own xs)=>(i ρ).bind λx=>if small (xs.length+1)=true then .ret (.next<|ρ.set k<|.own<|xs++[x])else .fail
 |_=>.fail
def DnAll.snoc{ds:Dt}{d:ES}(h:DnAll H vs ds)(h1:Dn H v d):DnAll H (vs++[v]) (ds++[d]):=h.append<|.cons h1 .nil
def zc{K:Dh}{st:E3}(h:PS X st (sA<|wb K "list" Zci (fb k)<|fI (TAe PK i) aT)):PS X st (bg PK<|p6 k i):=h.imp λD σ H E4=>by
 obtain⟨pa,DA,H₀,m,ρ,G,R,z⟩:=E4;unfold p6 at z
 split at z
 ·rename_i xs hx;obtain⟨o,h1,h2⟩:=R.sl k _ hx;cases h2 with
  | @own p vs _ a1 a2 a3 a4 =>
   refine⟨_,h1,.inl ⟨rfl,_,SqL.of a1⟩,?_⟩;refine TAe.then R z λm1 x v G1 H1 s1 w1 R1 d1 q1=>?_;obtain⟨hs,q1⟩:=c6 q1;obtain⟨o,h1',h2⟩:=R1.sl k _ hx;rw[h1]at h1';cases h1';cases h2 with
   | @own _ vs1 _ b1 b2 b3 b4 =>
    have hs':xs.length+1<=sizeLine:=DC hs;refine⟨p,vs1,v,rfl,rfl,b1,by rw[b4.length];omega,?_⟩
    exact q1 σ G1 _ s1.gs<|R1.change hx h1<|b4.snoc d1
 ·exact z.elim
theorem DnAll.set{H:Hp}:∀{vs:Dx}{ds:Dt}{v:V}{d:ES}(n:Nat),DnAll H vs ds->Dn H v d->DnAll H (vs.set n v) (ds.set n d)
 |_,_,_,_,_,.nil,_=>.nil
 |_,_,_,_,0,.cons _ t,h=>.cons h t
 |_,_,_,_,n+1,.cons g t,h=>.cons g<|DnAll.set n t h
def vo(k:Nat)(n i:Di):Dl:=λρ=>(i ρ).bind λx=>match ρ[k]? with
 | some (.own xs)=>(n ρ).bind λy=>match y with
  |.int y=>(Tr.of<|b7 xs.length y).bind λt=>.ret (.next<|ρ.set k<|.own<|xs.set t x)
  |_=>.fail
 |_=>.fail
def ZnF{n:Di}(h:PS X st (cV (TAe PK i)<|yr (fb k) (TAe PK n) wS)):PS X st (bg PK<|vo k n i):=h.imp λD σ H E4=>by
 obtain⟨pa,DA,H₀,m,ρ,G,R,z⟩:=E4;refine TAe.then R z λm1 x v G1 H1 s1 w1 R1 d1 q1=>?_
 split at q1
 ·rename_i xs hx;obtain⟨o,h1,h2⟩:=R1.sl k _ hx;cases h2 with
  | @own p vs _ a1 a2 a3 a4 =>
   refine⟨_,h1,?_⟩;refine TAe.then R1 q1 λm2 y u G2 H2 s2 w2 R2 d2 q2=>?_;obtain⟨o,h1',h2⟩:=R2.sl k _ hx;rw[h1]at h1';cases h1';cases h2 with
   | @own _ vs2 _ b1 b2 b3 b4 =>
    cases d2 with
    | int y =>
     rw[Tr.ok_bind]at q2;obtain⟨n',hn,q2⟩:=Tr.ok_of q2;refine⟨p,vs2,y,n',rfl,rfl,b1,by rw[b4.length];exact hn,?_⟩
     exact q2 σ G2 _ (s1.gs.trans s2.gs) (R2.change hx h1<|b4.set n'<|d1.mono s2.gs)
    |_=>exact q2.elim
 ·exact q1.elim
theorem DnAll.reverse{H:Hp}{vs:Dx}{ds:Dt}(h:DnAll H vs ds):DnAll H vs.reverse ds.reverse:=by
 induction vs generalizing ds with
 |nil=>cases h;exact .nil
 |cons v vs ih=>cases h with|cons r t=>rw[BD,BD];exact DnAll.append (ih t)<|.cons r .nil
noncomputable def pW(k:Nat):Dl:=λρ=>match ρ[k]? with
 |some (.own xs)=>.ret (.next<|ρ.set k<|.own xs.reverse)
 |_=>.fail
def y9{K:Dh}(h:PS X st (sA<|ZaP K "list" Zb0<|fb k)):PS X st (bg PK<|pW k):=h.imp λD σ H E4=>by
 obtain⟨pa,DA,H₀,m,ρ,G,R,z⟩:=E4;unfold pW at z
 split at z
 ·rename_i xs hx;obtain⟨o,h1,h2⟩:=R.sl k _ hx;cases h2 with
  | @own p vs _ a1 a2 a3 a4 =>
   refine⟨_,h1,.inl ⟨rfl,_,SqL.of a1⟩,p,vs,rfl,rfl,a1,?_⟩;exact z σ G _ .refl<|R.change hx h1 a4.reverse
 ·exact z.elim
def pZ(k:Nat)(s:Dl):Dl:=λρ=>s<|fz k ρ
def u7(h:PS X st (bg PK s)):PS X st (bg PK<|pZ k s):=h.imp λD σ H E4=>by obtain⟨pa,DA,H₀,m,ρ,G,R,z⟩:=E4;obtain⟨G',sb,R'⟩:=R.freeze k;exact⟨pa,DA,H₀,m,_,G',R',Tr.ok_mono z λ_ _ k'=>Ko.later k' sb⟩
def b9(PK:Pk)(g:Dp):TG:=λv σ H Q=>∃pa DA H₀ m ρ G x ρ',Rl PK pa DA H₀ m σ ρ G H/\Dn G v x/\g x ρ=some ρ'/\∀σ',Rl PK pa DA H₀ m σ' ρ' G H->Q σ' H
def rX(PK:Pk)(g:Do):fZ:=λvs σ H Q=>∃pa DA H₀ m ρ G xs ρ',Rl PK pa DA H₀ m σ ρ G H/\DnAll G vs xs/\g xs ρ=some ρ'/\∀σ',Rl PK pa DA H₀ m σ' ρ' G H->Q σ' H
def PG.imp{tg:E1}{t t':TG}(h:PG X tg t)(q:∀v σ H Q,t' v σ H Q->t v σ H Q):PG X tg t':=λpins s σ H v u Q I r z=>h pins s σ H v u Q I r<|q v σ H Q z
def PGs.imp{tg:EQ E1}{t t':fZ}(h:PGs X tg t)(q:∀v σ H Q,t' v σ H Q->t v σ H Q):PGs X tg t':=λpins s σ H v u Q I r z=>h pins s σ H v u Q I r<|q v σ H Q z
noncomputable def aj(k:Nat):Dp:=λx ρ=>some<|ρ.set k<|.d x
def iR(h:PG X e (da k)):PG X e (b9 PK<|aj k):=h.imp λv σ H Q E4=>by obtain⟨pa,DA,H₀,m,ρ,G,x,ρ',R,d,e,q⟩:=E4;cases e;exact q _<|R.set d k
def bx:Do:=λxs ρ=>match xs with
 | []=>some ρ
 |_=>none
noncomputable def aK(g:Dp)(gs:Do):Do:=λxs ρ=>match xs with
 |x::xs=>(g x ρ).bind λρ'=>gs xs ρ'
 | []=>none
def zh:PGs X [] (rX PK bx):=ZiA.imp λvs σ H Q E4=>by
 obtain⟨pa,DA,H₀,m,ρ,G,xs,ρ',R,d,e,q⟩:=E4;cases d with
 |nil=>cases e;exact⟨rfl,q _ R⟩
 |cons _ _=>cases e
def pS{g:Dp}{gs:Do}(h1:PG X e (b9 PK g))(h2:PGs X es (rX PK gs))
  (hs:(assignEach (e::es) X.env).map (·.2)=assign e X.env::(assignEach es X.env).map (·.2):=by rfl):PGs X (e::es) (rX PK<|aK g gs):=(ZiB h1 h2 hs).imp λvs σ H Q E4=>by
 obtain⟨pa,DA,H₀,m,ρ,G,xs,ρ',R,d,e,q⟩:=E4;cases d with
 |nil=>cases e
 | cons d1 d2 =>
  have e':(g _ ρ).bind (λρ'=>gs _ ρ')=some ρ':=e;cases h:g _ ρ with
  |none=>rw[h]at e';cases e'
  | some ρ1 =>
   rw[h]at e';exact⟨_,_,rfl,pa,DA,H₀,m,ρ,G,_,ρ1,R,d1,h,λσ1 R1=>⟨pa,DA,H₀,m,ρ1,G,_,ρ',R1,d2,e',q⟩⟩
def bB(gs:Do):Dp:=λx ρ=>match x with
 |.tuple xs=>gs xs ρ
 |_=>none
def re(n:Nat)(gs:Do):Prop:=∀xs ρ ρ',gs xs ρ=some ρ'->xs.length=n
def yn:re 0 bx:=λxs ρ ρ' h=>by cases xs with|nil=>rfl|cons _ _=>cases h
def lb{n:Nat}{g:Dp}{gs:Do}(h:re n gs):re (n+1) (aK g gs):=λxs ρ ρ' e=>by
 cases xs with
 |nil=>cases e
 | cons x xs =>
  have e':(g x ρ).bind (λρ'=>gs xs ρ')=some ρ':=e;cases h1:g x ρ with
  |none=>rw[h1]at e';cases e'
  | some ρ1 =>
   rw[h1]at e';exact DI (·+1)<|h xs ρ1 ρ' e'
def ZnU{gs:Do}{n:Nat}(hc:X.calm=true)(h:PGs X es (rX PK gs))(hl:re n gs)
  (hn:(assignEach es X.env).length=n:=by rfl) (Ft:(assignEach es X.env).findIdx? (·.1)=none:=by rfl):PG X (.Tuple es k pos) (b9 PK<|bB gs):=(ZiC hc h hn Ft).imp λv σ H Q E4=>by
 obtain⟨pa,DA,H₀,m,ρ,G,x,ρ',R,d,e,q⟩:=E4;cases d with
 |tup h1 h2=>exact⟨_,_,rfl,SqT.of<|R.wd.sub _ _ h1,by rw[h2.length];exact hl _ _ _ e,pa,DA,H₀,m,ρ,G,_,ρ',R,h2,e,q⟩
 |_=>cases e
def gY(g:Dp)(i:Di):Dl:=λρ=>(i ρ).bind λx=>(Tr.of<|g x ρ).bind λρ'=>.ret<|.next ρ'
def jL{g:Dp}(h:PS X st (cV (TAe PK i)<|b9 PK g)):PS X st (bg PK<|gY g i):=h.imp λD σ H E4=>by obtain⟨pa,DA,H₀,m,ρ,G,R,z⟩:=E4;refine TAe.then R z λm1 x v G1 H1 s1 w1 R1 d1 q1=>?_;rw[Tr.ok_bind]at q1;obtain⟨ρ',hg,q1⟩:=Tr.ok_of q1;exact⟨pa,DA,H₀,m1,ρ,G1,x,ρ',R1,d1,hg,λσ' R'=>q1 σ' G1 H1 s1.gs R'⟩
noncomputable def jN(k n:Nat)(is:Dj):Dl:=λρ=>(is ρ).bind λxs=>match xs with
 | [x,y]=>.ret (.next<|(ρ.set k<|.d x).set n<|.d y)
 |_=>.fail
def u6{n:Nat}(h:PS X st (ZaL k n<|TAd PK is)):PS X st (bg PK<|jN k n is):=h.imp λD σ H E4=>by
 obtain⟨pa,DA,H₀,m,ρ,G,R,z⟩:=E4;refine TAd.then R z λm1 xs vs G1 H1 s1 w1 R1 d1 q1=>?_
 split at q1
 ·cases d1 with
  | cons e1 d1 =>
   cases d1 with
   | cons e2 d1 =>
    cases d1;exact⟨_,_,rfl,q1 _ G1 H1 s1.gs<|(R1.set e1 k).set e2 n⟩
 ·exact q1.elim
def hV(PK:Pk)(pa:EV)(J:It)(G:Hp)(xs:Dt):Prop:=∀m G2 H2,Sub G G2->Wd PK pa m G2 H2 ->
 (∀(n:Nat)(d:ES),xs[n]?=some d->J.go n H2/\∀x H3,J.yld n H2 x H3->∃G3,Stp pa G2 H2 G3 H3/\Wd PK pa m G3 H3/\Dn G3 x d)/\J.stop xs.length H2
def cq(PK:Pk)(is:Dj):TI:=λσ H R=>∃pa DA H₀ m ρ G,Rl PK pa DA H₀ m σ ρ G H/\(is ρ).ok m λm' xs=>∀J G' H',Stp pa G H G' H'->Wd PK pa m' G' H'->hV PK pa J G' xs->R J H'
def PI.imp{tg iter:E1}{t t':TI}(h:PI X tg iter t)(q:∀σ H R,t' σ H R->t σ H R):PI X tg iter t':=λpins s σ H R I z=>h pins s σ H R I<|q σ H R z
def cI(g:Dp)(s:Dl):EQ ES->EQ Sl->Tr Ou
 | [],ρ=>.ret (.next ρ)
 | x::xs,ρ=>(Tr.of<|g x ρ).bind λρ1=>(s ρ1).bind λo=>match o with
  |.next ρ2=>cI g s xs ρ2
  |.cont ρ2=>cI g s xs ρ2
  |.brk ρ2=>.ret (.next ρ2)
  |.ret r=>.ret<|.ret r
def dQ(is:Dj)(g:Dp)(s:Dl):Dl:=λρ=>(is ρ).bind λxs=>cI g s xs ρ
def eY{tg iter:E1}{body:EQ E3}{g:Dp}(hp:PassesOwn (model X.prog X.w) X.A X.env X.xe)(hc:X.calm=true)(hi:PI X tg iter (cq PK is))(hg:PG X tg (b9 PK g))(hb:PSs X body (bg PK s))
  (hs:∀x,foldedSetIterable iter X.env x=pure x:=by intro _;rfl):PS X (.For tg iter body [] pos) (bg PK<|dQ is g s):=(Zim hp hc hi hg hb hs).imp λD σ H E4=>by
 obtain⟨pa,DA,H₀,m,ρ,G,R,z⟩:=E4;refine⟨pa,DA,H₀,m,ρ,G,R,Tr.ok_mono (Tr.ok_bind.mp z) λm1 xs k J G1 H1 s1 w1 jo=>?_⟩
 let W:Nat->Nat->St->Hp->Prop:=λn mm σ H=>mm=xs.length-n/\n<=xs.length/\∃m ρ G,Sub G1 G/\Rl PK pa DA H₀ m σ ρ G H/\(cI g s (xs.drop n) ρ).ok m (Ko PK pa DA H₀ G1 D)
 refine⟨W,⟨xs.length,rfl,A0 _,m1,ρ,G1,λ_ _ h=>h,R.step s1 w1,Tr.ok_mono k λ_ _ k'=>Ko.later k' s1.gs⟩,?_⟩;rintro n mm σ2 H2 ⟨rfl,hn,m2,ρ2,G2,sb,R2,k2⟩;obtain⟨j1,j2⟩:=jo m2 G2 H2 sb R2.wd;by_cases E6:n<xs.length
 ·have hx:xs[n]?=some xs[n]:=by simp[E6]
  obtain⟨jg,jy⟩:=j1 n _ hx;refine .inr ⟨jg,W (n+1)<|xs.length-(n+1),λσ' H' h'=>⟨_,by omega,h'⟩,λx H3 y=>?_⟩
  obtain⟨G3,s3,w3,d3⟩:=jy x H3 y;rw[Ax E6]at k2;unfold cI at k2;rw[Tr.ok_bind]at k2;obtain⟨ρ3,hg3,k3⟩:=Tr.ok_of k2;refine⟨pa,DA,H₀,m2,ρ2,G3,_,ρ3,R2.step s3 w3,d3,hg3,λσ4 R4=>?_⟩;refine⟨pa,DA,H₀,m2,ρ3,G3,R4,Tr.ok_mono (Tr.ok_bind.mp k3) λm5 o ko=>?_⟩;have again:∀ρ5,(cI g s (xs.drop<|n+1) ρ5).ok m5 (Ko PK pa DA H₀ G1 D)->∀σ5 G5 H5,Sub G3 G5->Rl PK pa DA H₀ m5 σ5 ρ5 G5 H5->W (n+1) (xs.length-(n+1)) σ5 H5:=λρ5 k5 σ5 G5 H5 sb5 R5 =>
   ⟨rfl,E6,m5,ρ5,G5,(sb.trans s3.gs).trans sb5,R5,k5⟩
  cases o with
  |next ρ5=>exact again ρ5 ko
  |cont ρ5=>exact again ρ5 ko
  |brk ρ5=>exact λσ5 G5 H5 sb5 R5=>ko σ5 G5 H5 ((sb.trans s3.gs).trans sb5) R5
  |ret r=>exact ko
 ·have e:n=xs.length:=by omega
  subst e;refine .inl ⟨j2,?_⟩;rw[AS]at k2;exact k2 σ2 G2 H2 sb R2
variable{PK:Pk}{a b c e:E1}{es:EQ E1}{pos:Pos}{i j l:Di}{is:Dj}{as:EQ Sl->Tr Dz}{f:Dm}{p q:Dk}{st:E3}{sts:EQ E3}{s t u:Dl}
noncomputable def dU(p:Dk)(s:Dl):Nat->EQ Sl->Tr Ou
 |0,_=>.fail
 | n+1,ρ=>(p ρ).bind λb=>if b=true then (s ρ).bind λo=>match o with
   |.next ρ2=>dU p s n ρ2
   |.cont ρ2=>dU p s n ρ2
   |.brk ρ2=>.ret (.next ρ2)
   |.ret r=>.ret<|.ret r
  else .ret<|.next ρ
def Zff{body:EQ E3}(n:Nat)(hp:PassesOwn (model X.prog X.w) X.A X.env X.xe)(hc:PT X c (TAt PK p))(hb:PSs X body (bg PK s)):PS X (.While c body [] pos) (bg PK<|dU p s n):=(Zik hp hc hb).imp λD σ H E4=>by
 obtain⟨pa,DA,H₀,m,ρ,G,R,z⟩:=E4
 let W:Nat->St->Hp->Prop:=λn σ H=>∃m ρ G1,Sub G G1/\Rl PK pa DA H₀ m σ ρ G1 H/\(dU p s n ρ).ok m (Ko PK pa DA H₀ G D)
 refine⟨W,⟨n,m,ρ,G,.refl,R,z⟩,?_⟩;rintro n σ2 H2 ⟨m2,ρ2,G2,sb,R2,k2⟩;cases n with
 |zero=>exact k2.elim
 | succ n =>
  unfold dU at k2;refine TAt.then R2 k2 λm3 x G3 H3 s3 w3 R3 k3=>?_;cases x with
  | false =>
   rw[DF As]at k3 ⊢;exact k3 σ2 G3 H3 (sb.trans s3.gs) R3
  | true =>
   rw[DD rfl]at k3 ⊢;refine⟨W n,λσ' H' h=>⟨n,by omega,h⟩,pa,DA,H₀,m3,ρ2,G3,R3,Tr.ok_mono (Tr.ok_bind.mp k3) λm4 o ko=>?_⟩
   have again:∀ρ5,(dU p s n ρ5).ok m4 (Ko PK pa DA H₀ G D)->∀σ5 G5 H5,Sub G3 G5->Rl PK pa DA H₀ m4 σ5 ρ5 G5 H5->W n σ5 H5:=λρ5 k5 σ5 G5 H5 sb5 R5 =>
    ⟨m4,ρ5,G5,(sb.trans s3.gs).trans sb5,R5,k5⟩
   cases o with
   |next ρ5=>exact again ρ5 ko
   |cont ρ5=>exact again ρ5 ko
   |brk ρ5=>exact λσ5 G5 H5 sb5 R5=>ko σ5 G5 H5 ((sb.trans s3.gs).trans sb5) R5
   |ret r=>exact ko
noncomputable def iN:Sl->Sl
 |.own _=>.un
 |.dic _=>.un
 |.dip _=>.un
 |s=>s
def blk(n:Nat)(ix:EQ Nat)(ρ:Dz):Dz:=List.replicate n .un++ix.map λj=>iN<|(ρ[j]?).getD .un
theorem Rl.blk{pa:EV}{DA H₀ G H:Hp}{m:Nat}{σ:St}{ρ:Dz}(R:Rl PK pa DA H₀ m σ ρ G H)(n:Nat)(ix:EQ Nat):Rl PK pa DA H₀ m (cQ n ix σ) (blk n ix ρ) G H:=by
 have key:∀(k:Nat)(s:Sl),(L2.blk n ix ρ)[k]?=some s->(∃o,(cQ n ix σ)[k]?=some o/\SlOk pa H₀ G H o s)/\(∀xs,s≠.own xs)/\∀xs,s≠.dic xs:=λk s h=>by
  unfold L2.blk at h;unfold cQ;by_cases hk:k<n
  ·rw[At<|by simpa using hk,AG,DD hk]at h
   rw[At<|by simpa using hk,AG,DD hk]
   cases h;exact⟨⟨_,rfl,.un⟩,(λxs h=>by cases h),λxs h=>by cases h⟩
  ·rw[Az<|by simpa using Ba hk,B4,Ak]at h
   rw[Az<|by simpa using Ba hk,B4,Ak]
   cases hj:ix[k-n]? with
   |none=>rw[hj]at h;cases h
   | some j =>
    rw[hj]at h;have h':iN ((ρ[j]?).getD .un)=s:=AA h;subst h';show(∃o,some ((σ[j]?).getD none)=some o/\_)/\_;cases hr:ρ[j]? with
    |none=>exact⟨⟨_,rfl,.un⟩,(λxs h=>by cases h),λxs h=>by cases h⟩
    | some s' =>
     obtain⟨o,h1,h2⟩:=R.sl j s' hr;rw[h1];cases h2 with
     |un=>exact⟨⟨_,rfl,.un⟩,(λxs h=>by cases h),λxs h=>by cases h⟩
     |d z=>exact⟨⟨_,rfl,.d z⟩,(λxs h=>by cases h),λxs h=>by cases h⟩
     |own _ _ _ _=>exact⟨⟨_,rfl,.un⟩,(λxs h=>by cases h),λxs h=>by cases h⟩
     |dic _ _ _ _=>exact⟨⟨_,rfl,.un⟩,(λxs h=>by cases h),λxs h=>by cases h⟩
     |dip _ _ _ _=>exact⟨⟨_,rfl,.un⟩,(λxs h=>by cases h),λxs h=>by cases h⟩
     |pen=>exact⟨⟨_,rfl,.pen⟩,(λxs h=>by cases h),λxs h=>by cases h⟩
     |fn=>exact⟨⟨_,rfl,.fn⟩,(λxs h=>by cases h),λxs h=>by cases h⟩
     |pr z9=>exact⟨⟨_,rfl,.pr z9⟩,(λxs h=>by cases h),λxs h=>by cases h⟩
 refine⟨R.wd,R.st,R.p0,λk s h=>(key k s h).1,?_,λk n' xs ys _ h1 _=>absurd rfl ((key k _ h1).2.1 xs),λk n' xs ys _ h1 _=>absurd rfl ((key k _ h1).2.2 xs)⟩;unfold L2.blk cQ;simp
def dA(n:Nat)(g:Dp):Prop:=∀x ρ ρ',g x ρ=some ρ'->ρ'.length=ρ.length/\∀k,n<=k->ρ'[k]?=ρ[k]?
def vE(n:Nat)(g:Do):Prop:=∀x ρ ρ',g x ρ=some ρ'->ρ'.length=ρ.length/\∀k,n<=k->ρ'[k]?=ρ[k]?
def cC{n:Nat}(h:k<n):dA n (aj k):=λx ρ ρ' e=>by cases e;exact⟨AE,λj hj=>Ar<|by omega⟩
def kE{n:Nat}:vE n bx:=λx ρ ρ' e=>by
 cases x with
 |nil=>cases e;exact⟨rfl,λ_ _=>rfl⟩
 |cons _ _=>cases e
def fi{n:Nat}{g:Dp}{gs:Do}(h1:dA n g)(h2:vE n gs):vE n (aK g gs):=λx ρ ρ' e=>by
 cases x with
 |nil=>cases e
 | cons x xs =>
  have e':(g x ρ).bind (λρ'=>gs xs ρ')=some ρ':=e;cases h:g x ρ with
  |none=>rw[h]at e';cases e'
  | some ρ1 =>
   rw[h]at e';obtain⟨a1,a2⟩:=h1 x ρ ρ1 h;obtain⟨b1,b2⟩:=h2 xs ρ1 ρ' e';exact⟨b1.trans a1,λk hk=>(b2 k hk).trans<|a2 k hk⟩
def kD{n:Nat}{gs:Do}(h2:vE n gs):dA n (bB gs):=λx ρ ρ' e=>by
 cases x with
 |tuple xs=>exact h2 xs ρ ρ' e
 |_=>cases e
noncomputable def aX(h:ES->Tr ES):EQ ES->Tr Dt
 | []=>.ret []
 |x::xs=>(h x).bind λy=>(aX h xs).bind λys=>.ret (y::ys)
def bV(is:Dj)(n:Nat)(ix:EQ Nat)(g:Dp)(el:Di):Dj:=λρ =>
 (is ρ).bind λxs=>if small xs.length=true then aX (λx=>(Tr.of<|g x<|blk n ix ρ).bind el) xs else .fail
def Rl.weak{pa:EV}{ρ ρ':Dz}(R:Rl PK pa DA H₀ m σ ρ' G H)(hl:ρ'.length=ρ.length)(h:∀(k:Nat)(s:Sl),ρ[k]?=some s->s=.un\/ρ'[k]?=some s):Rl PK pa DA H₀ m σ ρ G H:=by
 refine⟨R.wd,R.st,R.p0,λk s hk=>?_,hl.symm.trans R.len,λk n xs ys hkn h1 h2=>?_,λk n xs ys hkn h1 h2=>?_⟩
 ·rcases h k s hk with e|e
  ·subst e;have E6:k<σ.length:=by rw[<- R.len,hl];exact(Ad.mp hk).1
   exact⟨σ[k],by simp[E6],.un⟩
  ·exact R.sl k s e
 ·rcases h k _ h1 with e|e
  ·cases e
  ·rcases h n _ h2 with e'|e'
   ·cases e'
   ·exact R.dj k n xs ys hkn e e'
 ·rcases h k _ h1 with e|e
  ·cases e
  ·rcases h n _ h2 with e'|e'
   ·cases e'
   ·exact R.dj2 k n xs ys hkn e e'
def xU{n:Nat}{ix:EQ Nat}{g:Dp}(hn:dA n g):∀σ H Q,dR PK (bV is n ix g i) σ H Q->gb (cq PK is) n ix (λ_=>b9 PK g) (λ_=>TAe PK i) σ H Q:=by
 rintro σ H Q ⟨pa,DA,H₀,m,ρ,G,R,z⟩;refine⟨pa,DA,H₀,m,ρ,G,R,Tr.ok_mono (Tr.ok_bind.mp z) λm1 xs k J G1 H1 s1 w1 jo=>λB=>?_⟩;obtain⟨hs,k⟩:=c6 k;have hs:xs.length<=sizeLine:=DC hs
 let el:ES->Tr ES:=λx=>(Tr.of<|g x<|blk n ix ρ).bind i
 let W:Nat->Nat->St->EQ V->Hp->Prop:=λk mm τ ys H2=>mm=xs.length-k/\k<=xs.length/\ys.length=k/\∃m G2 ds,Sub G1 G2/\Stp pa G H G2 H2/\Rl PK pa DA H₀ m τ (blk n ix ρ) G2 H2 /\
  DnAll G2 ys ds/\(aX el<|xs.drop k).ok m λm' zs=>Ko1 PK pa m' G H (ds++zs) Q
 refine⟨W,⟨xs.length,rfl,A0 _,rfl,m1,G1,[],.refl,s1,(R.step s1 w1).blk n ix,.nil,k⟩,?_⟩;rintro k mm τ ys H2 ⟨rfl,hk,hy,m2,G2,ds,sb,st2,R2,dn,k2⟩;obtain⟨j1,j2⟩:=jo m2 G2 H2 sb R2.wd;by_cases E6:k<xs.length
 ·have hx:xs[k]?=some xs[k]:=by simp[E6]
  obtain⟨jg,jy⟩:=j1 k _ hx;refine .inr ⟨jg,by omega,λx H3 y=>?_⟩
  obtain⟨G3,s3,w3,d3⟩:=jy x H3 y;rw[Ax E6]at k2;unfold aX at k2;rw[Tr.ok_bind,Tr.ok_bind]at k2;obtain⟨ρ3,hg3,k3⟩:=Tr.ok_of k2;refine⟨pa,DA,H₀,m2,_,G3,_,ρ3,R2.step s3 w3,d3,hg3,λτ4 R4=>?_⟩;refine⟨pa,DA,H₀,m2,ρ3,G3,R4,Tr.ok_mono k3 λm5 yd k5=>?_⟩;intro v G5 H5 s5 w5 d5;have s35:=s3.trans s5 w3.some;obtain⟨pl,pk⟩:=hn _ _ _ hg3;refine⟨xs.length-(k+1),by omega,rfl,E6,by rw[Aq,hy];rfl,m5,G5,ds++[yd],sb.trans s35.gs,st2.trans s35 R2.wd.some,?_,(DnAll.mono s35.gs dn).snoc d5,?_⟩
  ·refine(R4.step s5 w5).weak pl λq sl hq=>?_;by_cases FF:q<n
   ·left
    unfold blk at hq;rw[At<|by simpa using FF,AG,DD FF]at hq
    cases hq
    rfl
   ·right
    rw[pk q<|Ba FF];exact hq
  ·refine Tr.ok_mono (Tr.ok_bind.mp k5) λm6 zs k6=>?_;rw[A2];exact k6
 ·have e:k=xs.length:=by omega
  subst e;refine .inl ⟨j2,λp v H' hp ev eH=>?_⟩;subst ev eH;rw[AS]at k2;have k2':Ko1 PK pa m2 G H (ds++[]) Q:=k2;rw[AI]at k2';exact(Ko1.later k2' st2 R2.wd.some).new R2.wd dn hp
def pQ{n:Nat}{ix:EQ Nat}{g:Dp}(h:PE X e (gb (cq PK is) n ix (λ_=>b9 PK g)<|λ_=>TAe PK i))(hn:dA n g):PE X e (dR PK<|bV is n ix g i):=h.imp<|xU hn
def wc{te':TE}{g:TG}(h:∀σ H Q,te' σ H Q->te σ H Q):∀D σ H,cV te' g D σ H->cV te g D σ H:=λD σ H z=>h σ H _ z
def ZnE{n:Nat}{ix:EQ Nat}{g:Dp}(h:PS X st (cV (gb (cq PK is) n ix (λ_=>b9 PK g)<|λ_=>TAe PK i)<|da k))(hn:dA n g):PS X st (bg PK<|iU k<|bV is n ix g i) :=
 rH (h.imp<|wc<|xU hn)
noncomputable def uL:Ou->Tr Re
 |.next _=>.ret (.d .none)
 |.ret r=>.ret r
 |_=>.fail
def bd(n k:Nat)(s:Dl):Dm:=λas=>if decide (as.length=n)=true then (s<|as++List.replicate k .un).bind uL else .fail
theorem Rl.start{pa:EV}{G H:Hp}{m:Nat}{N:Dw}{vs:Dx}{as:Dz}{k:Nat}(w:Wd PK pa m G H)(ar:ArsOk pa G vs as)(hk:N.length-vs.length=k):Rl PK pa G H m (L2.start N vs) (as++List.replicate k .un) G H:=by
 have key:∀{vs:Dx}{as:Dz},ArsOk pa G vs as->∀(q:Nat)(s:Sl),as[q]?=some s->(∃o,(vs.map some)[q]?=some o/\SlOk pa H G H o s)/\(∀xs,s≠.own xs)/\∀xs,s≠.dic xs:=by
  intro vs as h
  induction h with
  |nil=>intro q s h;simp at h
  | cons h1 h2 ih =>
   intro q s h;cases q with
   | zero =>
    simp at h;subst h;cases h1 with
    |d z=>exact⟨⟨_,rfl,.d z⟩,(λxs h=>by cases h),λxs h=>by cases h⟩
    |pen=>exact⟨⟨_,rfl,.pen⟩,(λxs h=>by cases h),λxs h=>by cases h⟩
    |fn=>exact⟨⟨_,rfl,.fn⟩,(λxs h=>by cases h),λxs h=>by cases h⟩
   | succ q =>
    obtain⟨⟨o,p1,p2⟩,p3⟩:=ih q s<|by simpa using h
    exact⟨⟨o,by simpa using p1,p2⟩,p3⟩
 have hl:=ar.length;have key2:∀(q:Nat)(s:Sl),(as++List.replicate k .un)[q]?=some s->(∃o,(L2.start N vs)[q]?=some o/\SlOk pa H G H o s)/\(∀xs,s≠.own xs)/\∀xs,s≠.dic xs:=λq s h=>by
  unfold L2.start;by_cases hq:q<as.length
  ·rw[At hq]at h;rw[At<|by rw[v9,hl];exact hq]
   exact key ar q s h
  ·rw[Az<|by omega,AG]at h
   rw[Az<|by rw[v9];omega,AG,v9,hl]
   split at h
   ·rename_i hq2;cases h;rw[DD<|by omega]
    exact⟨⟨_,rfl,.un⟩,(λxs h=>by cases h),λxs h=>by cases h⟩
   ·cases h
 refine⟨w,.refl,w.some,λq s h=>(key2 q s h).1,?_,λq n xs ys _ h1 _=>absurd rfl ((key2 q _ h1).2.1 xs),λq n xs ys _ h1 _=>absurd rfl ((key2 q _ h1).2.2 xs)⟩;unfold L2.start;simp[hl,hk];omega
def bA{P:EW}{w:EX}{K:Dh}{mg:Dy}{base:EZ}{N ps:Dw}(D:Def K mg x st ps)(S:FnScope N ps (az st))(hk:N.length-ps.length=k)
  (Ff:∀(f:EV)(E7:ET)(A:EY)(outer:EQ Env)(sh:EU)(H:Hp)(E:XK),Room kk (A.deeper<|envOfC x (az st) sh.heap.objs.size f E7) ->
   PSs (eI cO P w K mg base N x (az st) f E7 A outer sh H E).nox (db st) (bg PK s)):ACal PK P w K mg base x (kk+1) ps (bd ps.length k s):=by
 have len:∀as m Z,(bd ps.length k s as).ok m Z->as.length=ps.length:=λas m Z h=>by unfold bd at h;exact DC (c6 h).1
 refine⟨D.ok S (λvs H Q E h=>h.1) λf E7 A outer sh H vs Q E hr hsp=>?_,len⟩;obtain⟨hv,pa,m,G,as,wd,ar,z⟩:=hsp;refine⟨_,Ff f E7 A outer sh H E hr,?_⟩;unfold bd at z;obtain⟨_,z⟩:=c6 z;refine⟨pa,G,H,m,_,G,Rl.start wd ar<|by rw[hv];exact hk,Tr.ok_mono (Tr.ok_bind.mp z) λm1 o ko=>?_⟩
 cases o with
 |next ρ=>exact λσ G1 H1 sb R1=>ko .non G1 H1 R1.st R1.wd .non
 |ret r=>exact ko
 |brk ρ=>exact ko.elim
 |cont ρ=>exact ko.elim
def Ziy{tg l:E1}{tl:TE}(hl:PE X l tl):PI X tg l (λσ H R=>tl σ H λx H1=>∃a,x=.ref a/\((∃xs,SqL X.K H1 a xs/\R (zX X.K a) H1)\/(∃xs,SqT X.K H1 a xs/\R (zV X.K a) H1))):=by
 intro pins s σ H R I h;refine thn (hl pins s σ H _ I h) λv s1 E4=>?_;obtain⟨x,H1,I1,r1,q1⟩:=E4;obtain⟨a,e,q⟩:=q1;subst e;cases r1;rcases q with ⟨xs,hq,q⟩|⟨xs,hq,q⟩
 ·obtain⟨E5,rv,p,hz⟩:=I1.list hq;refine Ea p.isList ?_;refine⟨s1.heap.objs.size,[s1.heap.objs.size],_,_,H1,rfl,I1.kept (t':=s1.toks) λb o e=>Aa _ e,Zgk a _,⟨_,Ai _ rfl,rfl,rfl⟩,λb hb=>?_,q⟩;have e:b=s1.heap.objs.size:=by simpa using hb
  subst e;exact I1.fpOk (Ag _)<|I1.hok.fresh<|Ag _
 ·obtain⟨E5,rv,p,hz⟩:=I1.tuple hq;refine EH (show s1.heap.IsTuple a E5.toArray from p) ?_
  refine⟨s1.heap.objs.size,[s1.heap.objs.size],_,_,H1,rfl,I1.kept (t':=s1.toks) λb o e=>Aa _ e,Zgh a _,⟨_,Ai _ rfl,rfl,rfl⟩,λb hb=>?_,q⟩;have e:b=s1.heap.objs.size:=by simpa using hb
  subst e;exact I1.fpOk (Ag _)<|I1.hok.fresh<|Ag _
theorem DnAll.get{H:Hp}:∀{vs:Dx}{ds:Dt}(n:Nat){d:ES},DnAll H vs ds->ds[n]?=some d->∃v,vs[n]?=some v/\Dn H v d
 |_,_,_,_,.nil,e=>by simp at e
 |_,_,0,_,.cons g t,e=>by simp at e;subst e;exact⟨_,rfl,g⟩
 | _,_,n+1,_,.cons g t,e=>by
  obtain⟨v,h1,h2⟩:=DnAll.get n t<|by simpa using e
  exact⟨v,by simpa using h1,h2⟩
def Zki{K:Dh}{pa a:EV}{xs:Dt}(h:G a=some (.lst vs))(d:DnAll G vs xs):hV PK pa (zX K a) G xs:=λm G2 H2 sb w=>by
 have hq:SqL K H2 a vs:=SqL.of<|w.sub _ _<|sb _ _ h;refine⟨λn x hx=>?_,vs,hq,by rw[d.length];exact Ag _⟩
 obtain⟨v,hv,dv⟩:=d.get n hx;refine⟨⟨vs,v,hq,hv⟩,λy H3 E4=>?_⟩;obtain⟨e,hy⟩:=E4;subst e;have:=hy vs hq;rw[hv]at this;cases this;exact⟨G2,.refl,w,dv.mono sb⟩
def Zkf{K:Dh}{pa a:EV}{xs:Dt}(h:G a=some (.tup vs))(d:DnAll G vs xs):hV PK pa (zV K a) G xs:=λm G2 H2 sb w=>by
 have hq:SqT K H2 a vs:=SqT.of<|w.sub _ _<|sb _ _ h;refine⟨λn x hx=>?_,vs,hq,by rw[d.length];exact Ag _⟩
 obtain⟨v,hv,dv⟩:=d.get n hx;refine⟨⟨vs,v,hq,hv⟩,λy H3 E4=>?_⟩;obtain⟨e,hy⟩:=E4;subst e;have:=hy vs hq;rw[hv]at this;cases this;exact⟨G2,.refl,w,dv.mono sb⟩
noncomputable def fP:ES->ER Dt
 |.list xs=>some xs
 |.tuple xs=>some xs
 |_=>none
@[simp] theorem ZoG(xs:Dt):fP (.list xs)=some xs:=rfl
@[simp] theorem ZoF(xs:Dt):fP (.tuple xs)=some xs:=rfl
def bZ(i:Di):Dj:=λρ=>(i ρ).bind λx=>Tr.of<|fP x
def cw{tg l:E1}(hl:PE X l (TAe PK i)):PI X tg l (cq PK<|bZ i):=(Ziy hl).imp λσ H R0 E4=>by
 obtain⟨pa,DA,H₀,m,ρ,G,R,z⟩:=E4;refine TAe.then R z λm1 x v G1 H1 s1 w1 R1 d1 q1=>?_;obtain⟨xs,hx,q1⟩:=Tr.ok_of q1;cases d1 with
 |lst h1 h2=>cases hx;exact⟨_,rfl,.inl ⟨_,SqL.of<|w1.sub _ _ h1,q1 _ G1 H1 s1 w1<|Zki h1 h2⟩⟩
 |tup h1 h2=>cases hx;exact⟨_,rfl,.inr ⟨_,SqT.of<|w1.sub _ _ h1,q1 _ G1 H1 s1 w1<|Zkf h1 h2⟩⟩
 |_=>cases hx
def bh(lo hi:Int):Dt:=(aF lo (hi-lo).toNat).map PyData.int
def Zdo{pa:EV}{n:Nat}:hV PK pa (jS lo n) G ((aF lo n).map PyData.int):=λm G2 H2 sb w=>by
 refine⟨λk x hx=>?_,by show n<=_;rw[v9,c5];exact Ag _⟩
 have hk:k<n:=by
  have:=(Ad.mp hx).1
  rwa [v9,c5]at this
 refine⟨hk,λy H3 E4=>?_⟩;obtain⟨e1,e2⟩:=E4;subst e1 e2;have:x=.int (lo+k):=by unfold aF at hx;simp[hk]at hx;exact hx.symm
 subst this;exact⟨G2,.refl,w,.int _⟩
noncomputable def eD(n:Int):Bool:=decide (-(2^62)<=n/\n<2^62)
def qD:EQ ES->ER Dt
 | [.int n]=>if eD n=true then some (bh 0 n)else none
 |_=>none
def kw:EQ ES->ER Dt
 | [.int k,.int n]=>if (eD k&&eD n)=true then some (bh k n)else none
 |_=>none
def fG(is:Dj):Dj:=λρ=>(is ρ).bind λxs=>Tr.of<|qD xs
def jM(is:Dj):Dj:=λρ=>(is ρ).bind λxs=>Tr.of<|kw xs
def ZhW{xs ys:Dt}(d:DnAll G vs xs)(h:qD xs=some ys):∃n:Int,vs=[.int n]/\-(2^62)<=n/\n<2^62/\ys=bh 0 n:=by
 unfold qD at h
 split at h
 ·rename_i n
  split at h
  ·rename_i hn;cases h;cases d with
   | cons d1 d2 =>
    cases d2;cases d1;have:=DC hn;exact⟨n,rfl,this.1,this.2,rfl⟩
  ·cases h
 ·cases h
def ZbH{xs ys:Dt}(d:DnAll G vs xs)(h:kw xs=some ys):∃k n:Int,vs=[.int k,.int n]/\(-(2^62)<=k/\k<2^62/\-(2^62)<=n/\n<2^62)/\ys=bh k n:=by
 unfold kw at h
 split at h
 ·rename_i k n
  split at h
  ·rename_i hn;cases h;cases d with
   | cons d1 d2 =>
    cases d2 with
    | cons d2 d3 =>
     cases d3;cases d1;cases d2;rw[AL]at hn;have h1:=DC hn.1;have h2:=DC hn.2;exact⟨k,n,rfl,⟨h1.1,h1.2,h2.1,h2.2⟩,rfl⟩
  ·cases h
 ·cases h
def gW{tg e:E1}(h:PI X tg e (ZdB<|TAd PK is)):PI X tg e (cq PK<|fG is):=h.imp λσ H R0 E4=>by obtain⟨pa,DA,H₀,m,ρ,G,R,z⟩:=E4;refine TAd.then R z λm1 xs vs G1 H1 s1 w1 R1 d1 q1=>?_;obtain⟨ys,hy,q1⟩:=Tr.ok_of q1;obtain⟨n,e,h1,h2,rfl⟩:=ZhW d1 hy;refine⟨n,e,h1,h2,?_⟩;have q:=q1 (jS 0 n.toNat) G1 H1 s1 w1;unfold bh at q;rw[B5]at q;exact q Zdo
def vd{tg e:E1}(h:PI X tg e (ZdA<|TAd PK is)):PI X tg e (cq PK<|jM is):=h.imp λσ H R0 E4=>by obtain⟨pa,DA,H₀,m,ρ,G,R,z⟩:=E4;refine TAd.then R z λm1 xs vs G1 H1 s1 w1 R1 d1 q1=>?_;obtain⟨ys,hy,q1⟩:=Tr.ok_of q1;obtain⟨k,n,e,h1,rfl⟩:=ZbH d1 hy;exact⟨k,n,e,h1,q1 (jS k (n-k).toNat) G1 H1 s1 w1 Zdo⟩
variable{PK:Pk}{a b c e:E1}{es:EQ E1}{pos:Pos}{i j l:Di}{is:Dj}
noncomputable def fit(n:Int):Bool:=decide (n.natAbs<2^8000)
def aW:Dq
 |.int m,.int n=>some (.int<|m+n)
 |.tuple xs,.tuple ys=>if (!xs.isEmpty&&small (xs.length+ys.length))=true then some (.tuple<|xs++ys)else none
 |.list xs,.list ys=>if small (xs.length+ys.length)=true then some (.list<|xs++ys)else none
 |_,_=>none
def wU(K:Dh):R2:=λx y H Q=>eN (λi j=>.int<|i+j) x y H Q\/Zcg K x y H Q\/wT x y H Q
def ZcL:OpR X (binaryOp .Add) (wU X.K):=jf.or<|Zi6.or ZcK
def Zar{K:Dh}:cS (wU K) aW:=λPK pa m G H x y dx dy dz Q w hx hy hz k=>by
 unfold aW at hz
 split at hz
 ·cases hz;cases hx;cases hy;exact .inl ⟨_,_,rfl,rfl,k.here w<|.int _⟩
 ·rename_i xs ys
  split at hz
  ·rename_i hc;rw[AL]at hc;have h1:xs.isEmpty=false:=by simpa using hc.1
   have h2:xs.length+ys.length<=sizeLine:=DC hc.2;cases hz;cases hx with
   | tup a1 a2 =>
    cases hy with
    | tup b1 b2 =>
     refine .inr<|.inl ⟨_,_,_,_,rfl,rfl,SqT.of<|w.sub _ _ a1,SqT.of<|w.sub _ _ b1,?_,by rw[a2.length,b2.length];exact h2,λe=>?_,λe p hp=>k.tup w (a2.append b2) hp⟩
     ·intro e;rw[<- a2.isEmpty,e]at h1;cases h1
     ·subst e;cases b2;refine k.here w ?_;rw[AI];exact .tup a1 a2
  ·cases hz
 ·rename_i xs ys
  split at hz
  ·rename_i hc;have h2:xs.length+ys.length<=sizeLine:=DC hc;cases hz;cases hx with
   | lst a1 a2 =>
    cases hy with
    |lst b1 b2=>exact .inr<|.inr ⟨_,_,_,_,rfl,rfl,w.sub _ _ a1,w.sub _ _ b1,by rw[a2.length,b2.length];exact h2,λp hp=>k.lst w (a2.append b2) hp⟩
  ·cases hz
 ·cases hz
def ce:Dq
 |.int m,.int n=>some (.int<|m-n)
 |_,_=>none
def Zf1:cS (eN λi j=>.int<|i-j) ce:=λPK pa m G H x y dx dy dz Q w hx hy hz k=>by
 unfold ce at hz
 split at hz
 ·cases hz;cases hx;cases hy;exact⟨_,_,rfl,rfl,k.here w<|.int _⟩
 ·cases hz
theorem DnAll.rep{H:Hp}{vs:Dx}{ds:Dt}(h:DnAll H vs ds):∀k:Nat,DnAll H (List.replicate k vs).flatten (List.replicate k ds).flatten
 |0=>.nil
 |k+1=>by rw[AB,AB,Bf,Bf];exact h.append<|h.rep k
def Zb6(K:Dh):R2:=λx y H Q=>rI CMulG (λi j=>.int<|i*j) x y H Q\/Zb1 K x y H Q\/Zb2 x y H Q
def Zi2:OpR X (binaryOp .Mult) (Zb6 X.K):=Zi1.or<|ZiW.or ZiX
def bj:Dq
 |.int m,.int n=>if (fit m&&fit n)=true then some (.int<|m*n)else none
 |.tuple xs,.int n=>if (decide (1<n)&&decide (n<=1000) && !xs.isEmpty&&decide (xs.length<=1000))=true then some (.tuple (List.replicate n.toNat xs).flatten)else none
 |.list xs,.int n=>if (decide (-(2^63)<=n)&&decide (n<2^63)&&small (xs.length*n.toNat))=true then some (.list (List.replicate n.toNat xs).flatten)else none
 |_,_=>none
def Zf3{K:Dh}:cS (Zb6 K) bj:=λPK pa m G H x y dx dy dz Q w hx hy hz k=>by
 unfold bj at hz
 split at hz
 ·split at hz
  ·rename_i hc;rw[AL]at hc;cases hz;cases hx;cases hy;exact .inl ⟨_,_,rfl,rfl,⟨DC hc.1,DC hc.2⟩,k.here w<|.int _⟩
  ·cases hz
 ·split at hz
  ·rename_i hc;simp only[AL,DQ,Cp]at hc;cases hz;cases hy;cases hx with
   | tup a1 a2 =>
    refine .inr<|.inl ⟨_,_,_,rfl,rfl,SqT.of<|w.sub _ _ a1,hc.1.1.1,hc.1.1.2,?_,by rw[a2.length];exact hc.2,λp hp=>k.tup w (a2.rep _) hp⟩
    intro e;have:=hc.1.2;rw[<- a2.isEmpty,e]at this;cases this
  ·cases hz
 ·split at hz
  ·rename_i hc;simp only[AL,DQ]at hc;cases hz;cases hy;cases hx with
   |lst a1 a2=>exact .inr<|.inr ⟨_,_,_,rfl,rfl,w.sub _ _ a1,hc.1.1,hc.1.2,by rw[a2.length];exact DC hc.2,λp hp=>k.lst w (a2.rep _) hp⟩
  ·cases hz
 ·cases hz
def fv:Dq
 |.int m,.int n=>if (decide (n≠0)&&fit n)=true then some (.int<|m.fdiv n)else none
 |_,_=>none
def jW:cS (rI ZfM λi j=>.int<|i.fdiv j) fv:=λPK pa m G H x y dx dy dz Q w hx hy hz k=>by
 unfold fv at hz
 split at hz
 ·split at hz
  ·rename_i hc;rw[AL]at hc;cases hz;cases hx;cases hy;exact⟨_,_,rfl,rfl,⟨DC hc.1,DC hc.2⟩,k.here w<|.int _⟩
  ·cases hz
 ·cases hz
noncomputable def eh:Dq
 |.int m,.int n=>if decide (n≠0)=true then some (.int<|m.fmod n)else none
 |_,_=>none
def jV:cS (rI (λ_ j=>j≠0) λi j=>.int<|i.fmod j) eh:=λPK pa m G H x y dx dy dz Q w hx hy hz k=>by
 unfold eh at hz
 split at hz
 ·split at hz
  ·rename_i hc;cases hz;cases hx;cases hy;exact⟨_,_,rfl,rfl,DC hc,k.here w<|.int _⟩
  ·cases hz
 ·cases hz
noncomputable def gi:Dq
 |.int m,.int n=>if (decide (0<=n)&&decide (n<=1000000)&&decide (m.natAbs<2^64))=true then some (.int<|m^n.toNat)else none
 |_,_=>none
def vV:cS (rI ZfL λi j=>.int<|i^j.toNat) gi:=λPK pa m G H x y dx dy dz Q w hx hy hz k=>by
 unfold gi at hz
 split at hz
 ·split at hz
  ·rename_i hc;simp only[AL,DQ]at hc;cases hz;cases hx;cases hy;exact⟨_,_,rfl,rfl,⟨hc.1.1,hc.1.2,hc.2⟩,k.here w<|.int _⟩
  ·cases hz
 ·cases hz
def fW(i:Di):Di:=λρ=>(i ρ).bind λx=>match x with
 |.int n=>.ret (.int<|-n)
 |_=>.fail
def iS(ha:PE X a (TAe PK i)):PE X (.UnaryOp .USub a pos) (TAe PK<|fW i):=(ZiF Zgd ha).imp λσ H Q E4=>by
 obtain⟨pa,DA,H₀,m,ρ,G,R,z⟩:=E4;refine TAe.then R z λm1 x v G1 H1 s1 w1 R1 d1 q1=>?_;cases d1 with
 |int n=>exact⟨n,rfl,(Kn.later q1 s1 w1.some).here w1<|.int _⟩
 |_=>exact q1.elim
noncomputable def fS(f:Int->Int->Bool):Dq
 |.int m,.int n=>some (.bool<|f m n)
 |_,_=>none
def hY{f:Int->Int->Bool}:cS (eN λi j=>.bl<|f i j) (fS f):=λPK pa m G H x y dx dy dz Q w hx hy hz k=>by
 unfold fS at hz
 split at hz
 ·cases hz;cases hx;cases hy;exact⟨_,_,rfl,rfl,k.here w<|.bl _⟩
 ·cases hz
noncomputable def gw:Dq
 |.str m,.str n=>some (.bool<|m==n)
 |x,y=>if (SeqAt.shaped x&&SeqAt.shaped y)=true then some (.bool<|PyData.eqv x y)else none
noncomputable def ir:Dq
 |.str m,.str n=>some (.bool<|!(m==n))
 |x,y=>if (SeqAt.shaped x&&SeqAt.shaped y)=true then some (.bool<|!PyData.eqv x y)else none
def Zcd:R2:=λx y H Q=>rEq x y H Q\/∃d e,Dn H x d/\Dn H y e/\SeqAt.shaped d=true/\SeqAt.shaped e=true/\Q (.bl<|PyData.eqv d e) H
def Zb4:R2:=λx y H Q=>rNe x y H Q\/∃d e,Dn H x d/\Dn H y e/\SeqAt.shaped d=true/\SeqAt.shaped e=true/\Q (.bl<|!PyData.eqv d e) H
def qN(hr:Room k X.A):OpR X (compareOp .Eq) Zcd:=Zi5.or<|Zi4 hr
def tM(hr:Room k X.A):OpR X (compareOp .NotEq) Zb4:=Zi0.or<|ZiZ hr
def qg:cS Zcd gw:=λPK pa m G H x y dx dy dz Q w hx hy hz k=>by
 unfold gw at hz
 split at hz
 ·cases hz;cases hx;cases hy;exact .inl ⟨rfl,by rw[uR];exact k.here w<|.bl _⟩
 ·split at hz
  ·rename_i hc;rw[AL]at hc;cases hz;exact .inr ⟨_,_,hx.mono w.sub,hy.mono w.sub,hc.1,hc.2,k.here w<|.bl _⟩
  ·cases hz
def sa:cS Zb4 ir:=λPK pa m G H x y dx dy dz Q w hx hy hz k=>by
 unfold ir at hz
 split at hz
 ·cases hz;cases hx;cases hy;exact .inl ⟨rfl,by rw[uR];exact k.here w<|.bl _⟩
 ·split at hz
  ·rename_i hc;rw[AL]at hc;cases hz;exact .inr ⟨_,_,hx.mono w.sub,hy.mono w.sub,hc.1,hc.2,k.here w<|.bl _⟩
  ·cases hz
def ak:Dq
 |.list xs,.int n=>ba xs n
 |.tuple xs,.int n=>ba xs n
 |_,_=>none
theorem DnAll.at{H:Hp}{vs:Dx}{ds:Dt}{n:Int}{d:ES}(h:DnAll H vs ds)(e:ba ds n=some d):∃v,ba vs n=some v/\Dn H v d:=by
 unfold ba at e ⊢;rw[<- h.length]at e;cases hn:b7 vs.length n with
 |none=>rw[hn]at e;cases e
 | some j =>
  rw[hn]at e;exact h.get j e
def Zf4{K:Dh}:cS (rIx K) ak:=λPK pa m G H x y dx dy dz Q w hx hy hz k=>by
 unfold ak at hz
 split at hz
 ·cases hy;cases hx with
  | lst a1 a2 =>
   obtain⟨v,h1,h2⟩:=a2.at hz;exact .inl ⟨_,_,_,v,rfl,rfl,SqL.of<|w.sub _ _ a1,h1,k.here w h2⟩
 ·cases hy;cases hx with
  | tup a1 a2 =>
   obtain⟨v,h1,h2⟩:=a2.at hz;exact .inr<|.inl ⟨_,_,_,v,rfl,rfl,SqT.of<|w.sub _ _ a1,h1,k.here w h2⟩
 ·cases hz
noncomputable def dL:EQ ES->ER ES
 | [.list xs]=>some (.int xs.length)
 | [.tuple xs]=>some (.int xs.length)
 |_=>none
def qh{K:Dh}:eZ (λxs H Q=>∃p ys,xs=[.ref p]/\(SqL K H p ys\/SqT K H p ys)/\Q (.int ys.length) H) dL:=λPK pa m G H vs ds d Q w hv hd k=>by
 unfold dL at hd
 split at hd
 ·cases hd;cases hv with
  | cons h1 h2 =>
   cases h2;cases h1 with
   |lst a1 a2=>exact⟨_,_,rfl,.inl<|SqL.of<|w.sub _ _ a1,by rw[a2.length];exact k.here w<|.int _⟩
 ·cases hd;cases hv with
  | cons h1 h2 =>
   cases h2;cases h1 with
   |tup a1 a2=>exact⟨_,_,rfl,.inr<|SqT.of<|w.sub _ _ a1,by rw[a2.length];exact k.here w<|.int _⟩
 ·cases hd
noncomputable def vf(n:Int):Int:=if n<0 then -n else n
def pT:EQ ES->ER ES
 | [.int n]=>some (.int<|vf n)
 |_=>none
def vW:eZ (λxs H Q=>∃i,xs=[.int i]/\Q (.int<|if i<0 then -i else i) H) pT:=λPK pa m G H vs ds d Q w hv hd k=>by
 unfold pT at hd
 split at hd
 ·cases hd;cases hv with
  |cons h1 h2=>cases h2;cases h1;exact⟨_,rfl,k.here w<|.int _⟩
 ·cases hd
noncomputable def dD(m n:Int):Int:=if n>m then n else m
def gN:EQ ES->ER ES
 | [.int m,.int n]=>some (.int<|dD m n)
 |_=>none
def jX:eZ (λxs H Q=>∃i j,xs=[.int i,.int j]/\Q (.int<|if j>i then j else i) H) gN:=λPK pa m G H vs ds d Q w hv hd k=>by
 unfold gN at hd
 split at hd
 ·cases hd;cases hv with
  |cons h1 h2=>cases h2 with|cons h2 h3=>cases h3;cases h1;cases h2;exact⟨_,_,rfl,k.here w<|.int _⟩
 ·cases hd
noncomputable def ra:EQ ES->ER ES
 | [.int n]=>some (.int n)
 | [.bool n]=>some (.int<|if n then 1 else 0)
 |_=>none
def Zf7:eZ (λxs H Q=>(∃i,xs=[.int i]/\Q (.int i) H)\/∃k,xs=[.bl k]/\Q (.int<|if k then 1 else 0) H) ra:=λPK pa m G H vs ds d Q w hv hd k=>by
 unfold ra at hd
 split at hd
 ·cases hd;cases hv with
  |cons h1 h2=>cases h2;cases h1;exact .inl ⟨_,rfl,k.here w<|.int _⟩
 ·cases hd;cases hv with
  |cons h1 h2=>cases h2;cases h1;exact .inr ⟨_,rfl,k.here w<|.int _⟩
 ·cases hd
noncomputable def cP:EQ ES->ER ES
 | [.list xs]=>some (.tuple xs)
 | [.tuple xs]=>some (.tuple xs)
 |_=>none
def dh{K:Dh}:eZ (λxs H Q=>∃p ys,xs=[.ref p]/\((SqL K H p ys/\∀l,H l=none->Q (.ref l) (upd H l<|.tup ys))\/(SqT K H p ys/\Q (.ref p) H))) cP:=λPK pa m G H vs ds d Q w hv hd k=>by
 unfold cP at hd
 split at hd
 ·cases hd;cases hv with
  | cons h1 h2 =>
   cases h2;cases h1 with
   |lst a1 a2=>exact⟨_,_,rfl,.inl ⟨SqL.of<|w.sub _ _ a1,λp hp=>k.tup w a2 hp⟩⟩
 ·cases hd;cases hv with
  | cons h1 h2 =>
   cases h2;cases h1 with
   |tup a1 a2=>exact⟨_,_,rfl,.inr ⟨SqT.of<|w.sub _ _ a1,k.here w<|.tup a1 a2⟩⟩
 ·cases hd
noncomputable def ja(d:ES):Bool:=!d.hasDict&&d.showable&&decide (d.depth<=32)&&decide (d.shown.length<=sizeLine)
def di:EQ ES->ER ES
 | [d]=>if ja d=true then some (.str d.shown)else none
 |_=>none
def ga:eZ (λxs H Q=>∃v d,xs=[v]/\Dn H v d/\d.hasDict=false/\d.showable=true/\d.depth<=32/\d.shown.length<=sizeLine/\Q (.str d.shown) H) di:=λPK pa m G H vs ds d Q w hv hd k=>by
 unfold di at hd
 split at hd
 ·split at hd
  ·rename_i hc;unfold ja at hc;simp only[AL,DQ,Cp]at hc;cases hd;cases hv with
   |cons h1 h2=>cases h2;exact⟨_,_,rfl,h1.mono w.sub,hc.1.1.1,hc.1.1.2,hc.1.2,hc.2,k.here w<|.str _⟩
  ·cases hd
 ·cases hd
def iL(xs:Dt)(lo hi:ER Int):Dt:=(xs.drop<|HT.aR xs.length 0 lo).take<|HT.aR xs.length xs.length hi-HT.aR xs.length 0 lo
theorem DnAll.take{H:Hp}:∀{vs:Dx}{ds:Dt}(n:Nat),DnAll H vs ds->DnAll H (vs.take n) (ds.take n)
 |_,_,0,_=>.nil
 |_,_,_+1,.nil=>.nil
 |_,_,n+1,.cons r t=>.cons r<|DnAll.take n t
theorem DnAll.drop{H:Hp}:∀{vs:Dx}{ds:Dt}(n:Nat),DnAll H vs ds->DnAll H (vs.drop n) (ds.drop n)
 |_,_,0,r=>r
 |_,_,_+1,.nil=>.nil
 |_,_,n+1,.cons r t=>DnAll.drop n t
def DnAll.cut{ds:Dt}(h:DnAll H vs ds)(lo hi:ER Int):DnAll H (fA vs lo hi) (iL ds lo hi):=by unfold fA iL;rw[h.length];exact(h.drop _).take _
abbrev fV:=EQ Sl->Tr (ER Int)
def pX:fV:=λ_=>.ret none
noncomputable def jO(i:Di):fV:=λρ=>(i ρ).bind λx=>match x with
 |.int n=>.ret (some n)
 |_=>.fail
def TAp(PK:Pk)(i:fV):TO:=λσ H Q=>∃pa DA H₀ m ρ G,Rl PK pa DA H₀ m σ ρ G H/\(i ρ).ok m λm' x=>∀G' H',Stp pa G H G' H'->Wd PK pa m' G' H'->Q x H'
def PO.imp{e:ER E1}{t t':TO}(h:PO X e t)(q:∀σ H Q,t' σ H Q->t σ H Q):PO X e t':=λpins s σ H Q I z=>h pins s σ H Q I<|q σ H Q z
def vc:PO X none (TAp PK pX):=Zcw.imp λσ H Q E4=>by obtain⟨pa,DA,H₀,m,ρ,G,R,z⟩:=E4;exact z G H .refl R.wd
def va(h:PE X e (TAe PK i)):PO X (some e) (TAp PK<|jO i):=(Zcv h).imp λσ H Q E4=>by
 obtain⟨pa,DA,H₀,m,ρ,G,R,z⟩:=E4;refine TAe.then R z λm1 x v G1 H1 s1 w1 R1 d1 q1=>?_;cases d1 with
 |int n=>exact⟨n,rfl,q1 G1 H1 s1 w1⟩
 |_=>exact q1.elim
def Zkw{prog:EW}{w:EX}{A:EY}{E:Ds}{s:EU}{t sl:EV}{items:Array ET}{vl vu:ET}{lo hi:ER Int}{Q:Ds}(ht:IsTup s.heap t items)(hs:s.heap.IsSliceOf sl vl vu .none)(pl:IsPart vl lo)(pu:IsPart vu hi)
  (hw:HT.aR items.size 0 lo=0/\HT.aR items.size items.size hi=items.size) (h:Q (.ref t) s):wpAny (model prog w) A (getItem (.ref t)<|.ref sl) Q E s:=by
 obtain⟨os,hos,hcs,hds⟩:=id hs;have hTs:s.TypeIs (.ref sl) "slice":=⟨os,hos,hcs⟩;unfold getItem
 try with_reducible refine DK ?_
 first|refine wp (DB ?_)|skip
 refine wp<|wpAny_sequenceKey ht.typeIs (by decide) ?_
 refine wp (DN (name:=Str.ofString "__getitem__") ht.typeIs BC
  (DL BC ht.typeIs entry_tuple_getitem ?_<|args_tuple_getitem _ _))
 show wpAny _ _ (Builtin.Tuple.tupleItemsOf (.ref t) >>= _) _ _ s;refine wp<|tupleItemsOf_ ht ?_;refine wp<|El hTs ?_;rw[DD<|by decide]
 refine wp<|HT.Za3 hs pl pu ?_;have hyes:(((HT.aR items.size 0 lo:Nat):Int)==0&&(1:Int)==1&&(HT.aR items.size items.size hi-HT.aR items.size 0 lo)==items.size)=true:=by rw[hw.1,hw.2];simp
 show wpAny _ _ (if (((HT.aR items.size 0 lo:Nat):Int)==0&&(1:Int)==1&&(HT.aR items.size items.size hi-HT.aR items.size 0 lo)==items.size)=true then _ else _) _ _ s
 rw[DD hyes];refine wp (m:=Builtin.Tuple.tupleIsExact<|.ref t) ?_;unfold Builtin.Tuple.tupleIsExact;refine wp<|El ht.typeIs ?_;refine DB ?_;rw[DD<|by decide]
 refine wp<|D9 ?_;exact DB ⟨_,rfl,DB h⟩
def ZbX(K:Dh):V->ER Int->ER Int->Hp->VK->Prop:=λx lo hi H Q=>∃a xs,x=.ref a/\SqT K H a xs/\(HT.aR xs.length 0 lo=0/\HT.aR xs.length xs.length hi=xs.length)/\Q (.ref a) H
def Zg8:SlR X (ZbX X.K):=by
 intro pins s σ H x v vl vu lo hi sl Q I rx hs pl pu h;obtain⟨a,xs,rfl,hx,hw,q⟩:=h;cases rx;obtain⟨E5,r,ht,hz⟩:=I.tuple hx;have hlen:E5.toArray.size=xs.length:=by rw[Am];exact r.length.symm
 refine⟨"tuple",_,PyProof.Rows.slot_tuple_getitem.lookup,ht.typeIs,?_⟩;exact Zkw ht hs pl pu (by rw[hlen];exact hw) ⟨.ref a,H,I,rfl,q⟩
def Zh6(K:Dh):V->ER Int->ER Int->Hp->VK->Prop:=λx lo hi H Q=>ZbZ K x lo hi H Q\/ZbY K x lo hi H Q\/ZbX K x lo hi H Q
def Zha:SlR X (Zh6 X.K):=Za4.or<|Zg9.or Zg8
def Za2(x:ES)(lo hi:ER Int):ER ES:=match x with
 |.list xs=>some (.list<|iL xs lo hi)
 |.tuple xs=>some (.tuple<|iL xs lo hi)
 |_=>none
def pV(i:Di)(p q:fV):Di:=λρ=>(i ρ).bind λx=>(p ρ).bind λlo=>(q ρ).bind λhi=>Tr.of<|Za2 x lo hi
def TAp.then{p:fV}{k:ER Int->Tr β}{Z:Nat->β->Prop}{Q:ER Int->Hp->Prop}{pa:EV}{ρ:Dz}(R:Rl PK pa DA H₀ m σ ρ G H)(h:((p ρ).bind k).ok m Z)
  (hq:∀m1 x G1 H1,Stp pa G H G1 H1->Wd PK pa m1 G1 H1->Rl PK pa DA H₀ m1 σ ρ G1 H1->(k x).ok m1 Z->Q x H1):TAp PK p σ H Q:=by refine⟨pa,DA,H₀,m,ρ,G,R,Tr.ok_mono (Tr.ok_bind.mp h) λm1 x hx G1 H1 s1 w1=>?_⟩;exact hq m1 x G1 H1 s1 w1 (R.step s1 w1) hx
def ve{p q:fV}{lo hi:ER E1}{p2:Pos}(he:PE X e (TAe PK i))(hl:PO X lo (TAp PK p))(hu:PO X hi (TAp PK q)):PE X (.Subscript e (.Slice lo hi none p2) pos) (TAe PK<|pV i p q):=(ZcB Zha he hl hu).imp λσ H Q E4=>by
 obtain⟨pa,DA,H₀,m,ρ,G,R,z⟩:=E4;refine TAe.then R z λm1 x v G1 H1 s1 w1 R1 d1 q1=>?_;refine TAp.then R1 q1 λm2 lo G2 H2 s2 w2 R2 q2=>?_;refine TAp.then R2 q2 λm3 hi G3 H3 s3 w3 R3 q3=>?_;obtain⟨d,hd,k⟩:=Tr.ok_of q3;have s13:=(s1.trans s2 w1.some).trans s3 w2.some;have k':=Kn.later k s13 w3.some;have d3:=d1.mono<|s2.gs.trans s3.gs;cases d3 with
 |lst a1 a2=>cases hd;exact .inl ⟨_,_,rfl,SqL.of<|w3.sub _ _ a1,λp hp=>k'.lst w3 (a2.cut lo hi) hp⟩
 | @tup a xs ds a1 a2 =>
  cases hd;by_cases hw:HT.aR xs.length 0 lo=0/\HT.aR xs.length xs.length hi=xs.length
  ·refine .inr<|.inr ⟨_,_,rfl,SqT.of<|w3.sub _ _ a1,hw,k'.here w3 ?_⟩;have e:iL ds lo hi=ds:=by unfold iL;rw[<- a2.length,hw.1,hw.2];simp;rw[a2.length];exact Ct
   rw[e];exact .tup a1 a2
  ·exact .inr (.inl ⟨_,_,rfl,SqT.of<|w3.sub _ _ a1,hw,λp hp=>k'.tup w3 (a2.cut lo hi) hp⟩)
 |_=>cases hd
def DnAll.range(lo:Int)(n:Nat):DnAll H (fL lo n) ((aF lo n).map PyData.int):=by rw[Zh5];exact DnAll.ints _
def qC(lo hi:Int):Bool:=eD lo&&eD hi&&decide ((hi-lo).toNat<=1000)
def qB:EQ ES->ER Dt
 | [.int lo,.int hi]=>if qC lo hi=true then some (bh lo hi)else none
 |_=>none
def ZhU{xs ys:Dt}(d:DnAll G vs xs)(h:qB xs=some ys):∃k n:Int,vs=[.int k,.int n]/\(-(2^62)<=k/\k<2^62/\-(2^62)<=n/\n<2^62/\(n-k).toNat<=1000)/\ys=bh k n:=by
 unfold qB at h
 split at h
 ·split at h
  ·rename_i hn;cases h;cases d with
   | cons d1 d2 =>
    cases d2 with
    | cons d2 d3 =>
     cases d3;cases d1;cases d2;unfold qC at hn;rw[AL,AL]at hn;have h1:=DC hn.1.1;have h2:=DC hn.1.2;exact⟨_,_,rfl,⟨h1.1,h1.2,h2.1,h2.2,DC hn.2⟩,rfl⟩
  ·cases h
 ·cases h
def Zgz(t:TA):TE:=gE (λxs H Q=>∃a lo hi,xs=[.ref a]/\H a=some (.rng lo hi)/\-(2^62)<=lo/\lo<2^62/\-(2^62)<=hi/\hi<2^62/\(hi-lo).toNat<=1000/\∀p,H p=none->Q (.ref p) (upd H p<|.tup<|fL lo (hi-lo).toNat))
 (fI (gE (λxs H Q=>∃i j:Int,xs=[.int i,.int j]/\∀p,H p=none->Q (.ref p) (upd H p<|.rng i j)) t) aT)
def zo(is:Dj):Di:=λρ=>(is ρ).bind λxs=>(Tr.of<|qB xs).bind λys=>.ret<|.tuple ys
def ZnX(h:PE X e (Zgz<|TAd PK is)):PE X e (TAe PK<|zo is):=h.imp λσ H Q E4=>by obtain⟨pa,DA,H₀,m,ρ,G,R,z⟩:=E4;refine TAd.then R z λm1 xs vs G1 H1 s1 w1 R1 d1 q1=>?_;rw[Tr.ok_bind]at q1;obtain⟨ys,hy,k⟩:=Tr.ok_of q1;obtain⟨lo,hi,rfl,⟨b1,b2,b3,b4,b5⟩,rfl⟩:=ZhU d1 hy;refine⟨lo,hi,rfl,λp hp=>?_⟩;obtain⟨w2,s2⟩:=w1.own (o:=.rng lo hi) hp;refine⟨p,lo,hi,rfl,bv,b1,b2,b3,b4,b5,λq hq=>?_⟩;exact(Kn.later k (s1.trans s2 w1.some) w2.some).tup w2 (DnAll.range _ _) hq
noncomputable def ints?:EQ ES->ER Du
 | []=>some []
 |.int n::xs=>(ints? xs).bind λns=>some (n::ns)
 |_=>none
@[simp] theorem ints?_map:∀ns:Du,ints? (ns.map PyData.int)=some ns
 | []=>rfl
 |n::ns=>by rw[Af,ints?,ints?_map ns];rfl
def DnAll.ints_inv{ds:Dt}{ns:Du}(a:DnAll H vs ds)(h:ints? ds=some ns):vs=ns.map V.int/\ds=ns.map PyData.int:=by
 induction vs generalizing ds ns with
 |nil=>cases a;cases h;exact⟨rfl,rfl⟩
 | cons v vs ih =>
  cases a with
  | cons g t =>
   cases g with
   | int n =>
    unfold ints? at h;rename_i ds;cases e:ints? ds with
    |none=>rw[e]at h;cases h
    | some ms =>
     rw[e]at h;cases h;obtain⟨h1,h2⟩:=ih t e;exact⟨by rw[h1];rfl,by rw[h2];rfl⟩
   |_=>unfold ints? at h;cases h
section
variable{prog:EW}{w:EX}{A:EY}{E:Ds}{s:EU}
def ItAt(b:Bool)(h:EZ)(it a:EV)(k:Nat):Prop:=match b with
 |true=>h.IsListIter it a k
 |false=>h.IsTupleIter it a k
def SqAt(b:Bool)(h:EZ)(a:EV)(items:Array ET):Prop:=match b with
 |true=>h.IsList a items
 |false=>h.IsTuple a items
theorem ItAt.at{b:Bool}{h h':EZ}{it a:EV}{k:Nat}(x:ItAt b h it a k)(e:∀o,h.get? it=some o->h'.get? it=some o):ItAt b h' it a k:=by
 cases b with
 |true=>exact Heap.IsListIter.at x e
 |false=>obtain⟨o,ho,r⟩:=(show h.IsTupleIter it a k from x);exact⟨o,e o ho,r⟩
theorem SqAt.at{b:Bool}{h h':EZ}{a:EV}{items:Array ET}(x:SqAt b h a items)(e:∀o,h.get? a=some o->h'.get? a=some o):SqAt b h' a items:=by
 cases b with
 |true=>exact Heap.IsList.at x e
 |false=>exact Heap.IsTuple.at x e
def ItAt.there{b:Bool}{h:EZ}{it a:EV}(x:ItAt b h it a k):∃o,h.get? it=some o/\∀v,o.data≠.cell v:=by
 cases b with
 |true=>obtain⟨o,ho,_,hd⟩:=(show h.IsListIter it a k from x);exact⟨o,ho,λv z=>by rw[hd]at z;cases z⟩
 |false=>obtain⟨o,ho,_,hd⟩:=(show h.IsTupleIter it a k from x);exact⟨o,ho,λv z=>by rw[hd]at z;cases z⟩
def Zjm{it l:EV}{i:Nat}{items:Array ET}{x:ET}{Q:Ds}(hit:s.heap.IsTupleIter it l i)(hl:s.heap.IsTuple l items)(hx:items[i]?=some x)
  (hQ:∀h',h'.IsTupleIter it l (i+1)->Heap.SameBut it s.heap h'->Q x {s with heap:=h'}):wpAny (model prog w) A (Builtin.SmallTypes.nextOf<|.ref it) Q E s:=by
 obtain⟨o,ho,hc,hd⟩:=id hit;obtain⟨ol,hol,_,nl,hdl⟩:=hl;unfold Builtin.SmallTypes.nextOf;refine wp<|DN (name:=Str.ofString "__next__") hit.typeIs BW<|DL BW hit.typeIs F.entry_tuple_iterator_next ?_<|F.args_tuple_iterator_next_1 _;show wpAny _ _ (field (.ref it) 0 >>= _) _ _ s;refine wp<|DM ho hd (x:=.ref l) rfl ?_;show wpAny _ _ (if (Value.ref l==Value.none)=true then _ else _) _ _ s;rw[DF<|show ¬ ((Value.ref l==Value.none)=true)from As]
 show wpAny _ _ (field (.ref it) 1 >>= _) _ _ s;refine wp<|DM ho hd (x:=.int i 0) rfl ?_;show wpAny _ _ (seqItems? (.ref l) >>= _) _ _ s;refine wp<|DP hol hdl ?_;simp only[AO,hx];refine wp<|D5 ho hd (by simp)<|DB ⟨x,rfl,DB<|hQ _ ⟨_,Bj _ ho<|Ca<|Bm hd _,(C3 ..).trans hc,?_⟩<|By ..⟩
 rw[Bm hd];simp[rawInt]
def Zjn{it l:EV}{i:Nat}{items:Array ET}{Q:Ds}(hh:A.handled=none)(hit:s.heap.IsTupleIter it l i)(hl:s.heap.IsTuple l items)(hx:items[i]?=none)
  (hE:∀h' e,Heap.ExtBut it s.heap h'->(∃o,h'.get? e=some o/\o.cls=.type "StopIteration")->E (.ref e) {s with heap:=h'}):wpAny (model prog w) A (Builtin.SmallTypes.nextOf<|.ref it) Q E s:=by
 obtain⟨o,ho,hc,hd⟩:=id hit;obtain⟨ol,hol,_,nl,hdl⟩:=hl;unfold Builtin.SmallTypes.nextOf;refine wp<|DN (name:=Str.ofString "__next__") hit.typeIs BW<|DL BW hit.typeIs F.entry_tuple_iterator_next ?_<|F.args_tuple_iterator_next_1 _;show wpAny _ _ (field (.ref it) 0 >>= _) _ _ s;refine wp<|DM ho hd (x:=.ref l) rfl ?_;show wpAny _ _ (if (Value.ref l==Value.none)=true then _ else _) _ _ s;rw[DF<|show ¬ ((Value.ref l==Value.none)=true)from As]
 show wpAny _ _ (field (.ref it) 1 >>= _) _ _ s;refine wp<|DM ho hd (x:=.int i 0) rfl ?_;show wpAny _ _ (seqItems? (.ref l) >>= _) _ _ s;refine wp<|DP hol hdl ?_;simp only[AO,hx];refine wp (D9<|wp<|D5 ho hd (by simp) ?_);show wpAny _ _ (newExc (.type "StopIteration") [] >>= _) _ _ _
 refine wp ?_;simp only[newExc,newTuple];refine wp<|DH ?_<|by size_fits
 refine wp (m:=firstArgMember _ _) (DO (a:=Value.none) (by first|rfl|(simp only[firstArgMember];rfl)) ?_);refine DH ?_ (by size_fits);simp only[raiseNew]
 refine wp<|wpAny_handled ?_;first|rw[show A.in1.handled=none from hh]|rw[hh]
 refine wp<|DB<|wpAny_throw<|hE _ _ (((By ..).extBut.push _).push _) ⟨_,Ai _ rfl,rfl⟩
def tQ{b:Bool}{it l:EV}{i:Nat}{items:Array ET}{x:ET}{Q:Ds}(hit:ItAt b s.heap it l i)(hl:SqAt b s.heap l items)(hx:items[i]?=some x)
  (hQ:∀h',ItAt b h' it l (i+1)->Heap.SameBut it s.heap h'->Q x {s with heap:=h'}):wpAny (model prog w) A (Builtin.SmallTypes.nextOf<|.ref it) Q E s:=by
 cases b with
 |true=>exact wpAny_nextOf_list_item hit hl hx hQ
 |false=>exact Zjm hit hl hx hQ
def xH{b:Bool}{it l:EV}{i:Nat}{items:Array ET}{Q:Ds}(hh:A.handled=none)(hit:ItAt b s.heap it l i)(hl:SqAt b s.heap l items)(hx:items[i]?=none)
  (hE:∀h' e,Heap.ExtBut it s.heap h'->(∃o,h'.get? e=some o/\o.cls=.type "StopIteration")->E (.ref e) {s with heap:=h'}):wpAny (model prog w) A (Builtin.SmallTypes.nextOf<|.ref it) Q E s:=by
 cases b with
 |true=>exact wpAny_nextOf_list_end hh hit hl hx hE
 |false=>exact Zjn hh hit hl hx hE
def ItAt.bt{b:Bool}{h h':EZ}{it a c:EV}(x:ItAt b h it a k)(e:Heap.ExtBut c h h')(n:it≠c):ItAt b h' it a k:=x.at λo q=>e it o n q
def SqAt.bt{b:Bool}{h h':EZ}{a c:EV}{items:Array ET}(x:SqAt b h a items)(e:Heap.ExtBut c h h')(n:a≠c):SqAt b h' a items:=x.at λo q=>e a o n q
def ZfN{z TI TO i1 i2 l1 l2:EV}{k1 k2:Nat}{xs ys:Array ET}{x y a b:ET}{Q:Ds}(D:ZipApart z TI TO i1 i2 l1 l2)
  (hz:IsZip s.heap z TI TO .none) (hTI:IsPair s.heap TI (.ref i1) (.ref i2)) (hTO:IsPair s.heap TO a b) (h1:ItAt b1 s.heap i1 l1 k1) (h2:ItAt b2 s.heap i2 l2 k2) (hl1:SqAt b1 s.heap l1 xs) (hl2:SqAt b2 s.heap l2 ys) (hx:xs[k1]?=some x) (hy:ys[k2]?=some y)
  (hQ:∀h',IsZip h' z TI TO (rawInt s.heap.objs.size)->IsPair h' TO x y->ItAt b1 h' i1 l1 (k1+1)->ItAt b2 h' i2 l2 (k2+1)->IsPair h' s.heap.objs.size x y ->
   (∀c o,c≠z->c≠TO->c≠i1->c≠i2->s.heap.get? c=some o->h'.get? c=some o)->Q (.ref s.heap.objs.size) {s with heap:=h'}) :
  wpAny (model prog w) A (Builtin.«zip.__next__» ⟨[.ref z],[]⟩) (λfin s'=>∃v,fin=.done (.ret v)/\Q v s') E s:=by
 show wpAny _ _ (field (.ref z) 2 >>= _) _ _ _;refine wp<|DM hz rfl (x:=.bool false) rfl ?_;show wpAny _ _ (field (.ref z) 3 >>= _) _ _ _;refine wp<|DM hz rfl (x:=.ref TI) rfl ?_;refine wp<|DP hTI rfl ?_;show wpAny _ _ (Builtin.SmallTypes.ownedTupleIsFree (.ref z) >>= _) _ _ _;refine wp ?_;unfold Builtin.SmallTypes.ownedTupleIsFree;refine wp<|DM hz rfl (x:=.none) rfl (DB ?_);simp only[D8];refine wp<|D9 ?_;refine wp<|DM hz rfl (x:=.ref TO) rfl ?_;refine wp (DY hz (by simp) λg1 hz1 e1=>?_);replace hz1:IsZip g1 z TI TO .ellipsis:=hz1
 refine wp ?_;simp only[List.zipIdx_cons,List.zipIdx_nil,CB,C6];refine wp<|wp<|Er ?_;show wpAny _ _ (Builtin.SmallTypes.nextOf (.ref i1) >>= _) _ _ _;refine wp (tQ (h1.bt e1.extBut D.i1z) (hl1.bt e1.extBut D.l1z) hx λg2 t1 e2=>DB ?_);have p2:IsPair g2 TO a b:=e2.extBut _ _ D.TOi1<|e1.extBut _ _ D.TOz hTO;refine wp<|DP p2 rfl ?_;refine wp (EC p2 λg3 p3 e3=>?_);replace p3:IsPair g3 TO x b:=p3;refine wp<|Eg<|DB ?_;refine wp<|wp<|Er ?_;show wpAny _ _ (Builtin.SmallTypes.nextOf (.ref i2) >>= _) _ _ _;refine wp (tQ (((h2.bt e1.extBut D.i2z).bt e2.extBut D.i12.symm).bt e3.extBut D.TOi2.symm) (((hl2.bt e1.extBut D.l2z).bt e2.extBut D.l2i1).bt e3.extBut D.l2TO) hy λg4 t2 e4=>DB ?_);have p4:IsPair g4 TO x b:=e4.extBut _ _ D.TOi2 p3;refine wp<|DP p4 rfl ?_;refine wp (EC p4 λg5 p5 e5=>?_);replace p5:IsPair g5 TO x y:=p5;refine wp<|Eg<|DB<|DB ?_;refine wp<|DP p5 rfl ?_;refine wp<|wpAny_newTuple ?_;have Fg:g5.objs.size=s.heap.objs.size:=by rw[e5.1,e4.1,e3.1,e2.1,e1.1]
 have z5:IsZip g5 z TI TO .ellipsis:=e5.extBut _ _ D.TOz.symm<|e4.extBut _ _ D.i2z.symm<|e3.extBut _ _ D.TOz.symm<|e2.extBut _ _ D.i1z.symm hz1;have k5:∀c o,c≠z->c≠TO->c≠i1->c≠i2->s.heap.get? c=some o->g5.get? c=some o:=λc o c1 c2 c3 c4 q=>e5.extBut _ _ c2<|e4.extBut _ _ c4<|e3.extBut _ _ c2<|e2.extBut _ _ c3<|e1.extBut _ _ c1 q;have u1:ItAt b1 g5 i1 l1 (k1+1):=((t1.bt e3.extBut D.TOi1.symm).bt e4.extBut D.i12).bt e5.extBut D.TOi1.symm;have u2:ItAt b2 g5 i2 l2 (k2+1):=t2.bt e5.extBut D.TOi2.symm;have zlt:z<g5.objs.size:=An z5;show wpAny _ _ (Builtin.SmallTypes.ownedTupleHandOut (.ref z) (.ref g5.objs.size) >>= _) _ _ _;refine wp ?_;unfold Builtin.SmallTypes.ownedTupleHandOut;have z6:IsZip (g5.push {cls:=.type "tuple",data:=.seq #[x,y]}) z TI TO .ellipsis:=Aa _ z5;refine wp (DY z6 (by simp) λg7 z7 e7=>?_);replace z7:IsZip g7 z TI TO (rawInt g5.objs.size):=z7
 refine DY z7 (by simp) λg8 z8 e8=>?_;replace z8:IsZip g8 z TI TO (rawInt g5.objs.size):=z8
 have up:∀c o,c≠z->g5.get? c=some o->g8.get? c=some o:=λc o c1 q=>e8.extBut _ _ c1<|e7.extBut _ _ c1<|Aa _ q;have t8:IsPair g8 g5.objs.size x y:=e8.extBut _ _ (AZ zlt)<|e7.extBut _ _ (AZ zlt)<|Ai _ rfl;rw[Fg]at z8 t8;refine DB ⟨_,rfl,?_⟩;show Q (.ref g5.objs.size) _;rw[Fg];exact hQ g8 z8 (up _ _ D.TOz p5) (u1.at λo q=>up _ o D.i1z q) (u2.at λo q=>up _ o D.i2z q) t8 λc o c1 c2 c3 c4 q=>up c o c1<|k5 c o c1 c2 c3 c4 q
def ZfO{z TI TO i1 i2 l1 l2:EV}{k1 k2:Nat}{xs ys:Array ET}{a b:ET}{Q:Fin->EU->Prop}(hh:A.handled=none)(D:ZipApart z TI TO i1 i2 l1 l2)
  (hz:IsZip s.heap z TI TO .none) (hTI:IsPair s.heap TI (.ref i1) (.ref i2)) (hTO:IsPair s.heap TO a b) (h1:ItAt b1 s.heap i1 l1 k1) (h2:ItAt b2 s.heap i2 l2 k2) (hl1:SqAt b1 s.heap l1 xs) (hl2:SqAt b2 s.heap l2 ys) (hend:xs[k1]?=none\/ys[k2]?=none)
  (hE:∀h' e,(∀c o,c≠z->c≠TO->c≠i1->c≠i2->s.heap.get? c=some o->h'.get? c=some o)->(∃o,h'.get? e=some o/\o.cls=.type "StopIteration")->E (.ref e) {s with heap:=h'}) :
  wpAny (model prog w) A (Builtin.«zip.__next__» ⟨[.ref z],[]⟩) Q E s:=by
 show wpAny _ _ (field (.ref z) 2 >>= _) _ _ _;refine wp<|DM hz rfl (x:=.bool false) rfl ?_;show wpAny _ _ (field (.ref z) 3 >>= _) _ _ _;refine wp<|DM hz rfl (x:=.ref TI) rfl ?_;refine wp<|DP hTI rfl ?_;show wpAny _ _ (Builtin.SmallTypes.ownedTupleIsFree (.ref z) >>= _) _ _ _;refine wp ?_;unfold Builtin.SmallTypes.ownedTupleIsFree;refine wp<|DM hz rfl (x:=.none) rfl (DB ?_);simp only[D8];refine wp<|D9 ?_;refine wp<|DM hz rfl (x:=.ref TO) rfl ?_;refine wp (DY hz (by simp) λg1 hz1 e1=>?_);replace hz1:IsZip g1 z TI TO .ellipsis:=hz1
 refine wp ?_;simp only[List.zipIdx_cons,List.zipIdx_nil,CB,C6];refine wp<|wp<|Er ?_;show wpAny _ _ (Builtin.SmallTypes.nextOf (.ref i1) >>= _) _ _ _;cases hx:xs[k1]? with
 | none =>
  refine wp (xH hh (h1.bt e1.extBut D.i1z) (hl1.bt e1.extBut D.l1z) hx λg2 e e2 he=>?_);obtain⟨oe,hoe,hce⟩:=he;have z2:IsZip g2 z TI TO .ellipsis:=e2 _ _ D.i1z.symm hz1;have ne:e≠z:=λq=>by subst q;rw[z2]at hoe;cases hoe;simp at hce
  exact DY z2 (by simp) λg3 _ e3=>hE g3 e (λc o c1 _ c3 _ q=>e3.extBut _ _ c1<|e2 _ _ c3<|e1.extBut _ _ c1 q) ⟨oe,e3.extBut _ _ ne hoe,hce⟩
 | some x =>
  have hy:ys[k2]?=none:=by rcases hend with h|h;rw[hx]at h;cases h;exact h
  refine wp (tQ (h1.bt e1.extBut D.i1z) (hl1.bt e1.extBut D.l1z) hx λg2 t1 e2=>DB ?_);have p2:IsPair g2 TO a b:=e2.extBut _ _ D.TOi1<|e1.extBut _ _ D.TOz hTO;refine wp<|DP p2 rfl ?_;refine wp (EC p2 λg3 p3 e3=>?_);refine wp<|Eg<|DB ?_;refine wp<|wp<|Er ?_;show wpAny _ _ (Builtin.SmallTypes.nextOf (.ref i2) >>= _) _ _ _;refine wp (xH hh (((h2.bt e1.extBut D.i2z).bt e2.extBut D.i12.symm).bt e3.extBut D.TOi2.symm) (((hl2.bt e1.extBut D.l2z).bt e2.extBut D.l2i1).bt e3.extBut D.l2TO) hy λg4 e e4 he=>?_);obtain⟨oe,hoe,hce⟩:=he;have z4:IsZip g4 z TI TO .ellipsis:=e4 _ _ D.i2z.symm<|e3.extBut _ _ D.TOz.symm<|e2.extBut _ _ D.i1z.symm hz1;have ne:e≠z:=λq=>by subst q;rw[z4]at hoe;cases hoe;simp at hce
  exact DY z4 (by simp) λg5 _ e5=>hE g5 e (λc o c1 c2 c3 c4 q=>e5.extBut _ _ c1<|e4 _ _ c4<|e3.extBut _ _ c2<|e2.extBut _ _ c3<|e1.extBut _ _ c1 q) ⟨oe,e5.extBut _ _ ne hoe,hce⟩
noncomputable def eB(b:Bool)(l:EV):Obj:=match b with
 |true=>{cls:=.type "list_iterator",data:=.fields #[.ref l,.int 0 0]}
 |false=>{cls:=.type "tuple_iterator",data:=.fields #[.ref l,.int 0 0]}
def kB{b:Bool}{l:EV}{items:Array ET}{Q:Ds}(hl:SqAt b s.heap l items)(hQ:Q (.ref s.heap.objs.size) {s with heap:=s.heap.push (eB b l)}):wpAny (model prog w) A (pyIter<|.ref l) Q E s:=by
 cases b with
 |true=>exact Ea hl hQ
 |false=>exact EH hl hQ
theorem SqAt.push{b:Bool}{h:EZ}{l:EV}{items:Array ET}(x:SqAt b h l items)(o:Obj):SqAt b (h.push o) l items:=x.at λ_ q=>Aa _ q
def uB{b:Bool}{h:EZ}{it l:EV}(e:h.get? it=some (eB b l)):ItAt b h it l 0:=by
 cases b with
 |true=>exact⟨_,e,rfl,rfl⟩
 |false=>exact⟨_,e,rfl,rfl⟩
abbrev zA(b1:Bool)(h:EZ)(l1:EV):EZ:=h.push<|eB b1 l1
abbrev zB(b1 b2:Bool)(h:EZ)(l1 l2:EV):EZ:=(zA b1 h l1).push<|eB b2 l2
abbrev zC(b1 b2:Bool)(h:EZ)(l1 l2:EV):EZ:=(zB b1 b2 h l1 l2).push {cls:=.type "tuple",data:=.seq #[.ref h.objs.size,.ref (zA b1 h l1).objs.size]}
abbrev zD(b1 b2:Bool)(h:EZ)(l1 l2:EV):EZ:=(zC b1 b2 h l1 l2).push {cls:=.type "tuple",data:=.seq #[.none,.none]}
abbrev zH(b1 b2:Bool)(h:EZ)(l1 l2:EV):EZ:=(zD b1 b2 h l1 l2).push {cls:=.type "zip",data:=.fields #[.none,.bool false,.bool false,.ref (zB b1 b2 h l1 l2).objs.size,.ref (zC b1 b2 h l1 l2).objs.size]}
def ZjB(b1 b2:Bool)(l1 l2:EV)(xs ys:Array ET) :
  Meets (Builtin.«zip.__new__» ⟨[.type "zip",.ref l1,.ref l2],[]⟩) (λ_ R s=>SqAt b1 s.heap l1 xs/\SqAt b2 s.heap l2 ys/\R (.ok<|.ret<|.ref (zD b1 b2 s.heap l1 l2).objs.size) {s with heap:=zH b1 b2 s.heap l1 l2}) :=
 .of_wp λprog w A R s h=>by
  obtain⟨hp,g,d,tk,os⟩:=s;obtain⟨hl1,hl2,h⟩:=h;have Fm:=sub_zip;have q1:SqAt b1 (Shared.heap ⟨hp,g,d,tk,os⟩) l1 xs:=hl1;have q2:SqAt b2 (Shared.heap ⟨hp.push<|eB b1 l1,g,d,tk,os⟩) l2 ys:=hl2.push _
  wp_walk using kB q1,kB q2
  exact⟨_,rfl,h⟩
def ZmK{l1 l2:EV}{xs ys:Array ET}{Q:Ds}(hl1:SqAt b1 s.heap l1 xs)(hl2:SqAt b2 s.heap l2 ys)
  (h:∀h',IsZip h' (s.heap.objs.size+4) (s.heap.objs.size+2) (s.heap.objs.size+3) .none->IsPair h' (s.heap.objs.size+2) (.ref s.heap.objs.size) (.ref<|s.heap.objs.size+1)->IsPair h' (s.heap.objs.size+3) .none .none ->
   ItAt b1 h' s.heap.objs.size l1 0->ItAt b2 h' (s.heap.objs.size+1) l2 0->(∀c o,s.heap.get? c=some o->h'.get? c=some o)->Q (.ref<|s.heap.objs.size+4) {s with heap:=h'}) :
  wpAny (model prog w) A (call (.type "zip") [.ref l1,.ref l2]) Q E s:=by
 refine callType_new F.called_zip (by decide) (F.typeCall_zip_2 _ _) (F.newCall_zip_2 _ _) (λobj=>F.args_object_init_3 obj _ _) F.entry_zip_new (ZjB b1 b2 l1 l2 xs ys) ⟨hl1,hl2,?_⟩
 have n1:(zA b1 s.heap l1).objs.size=s.heap.objs.size+1:=A1 ..;have n2:(zB b1 b2 s.heap l1 l2).objs.size=s.heap.objs.size+2:=(A1 ..).trans<|by rw[n1]
 have n3:(zC b1 b2 s.heap l1 l2).objs.size=s.heap.objs.size+3:=(A1 ..).trans<|by rw[n2]
 have n4:(zD b1 b2 s.heap l1 l2).objs.size=s.heap.objs.size+4:=(A1 ..).trans<|by rw[n3]
 have a5:IsZip (zH b1 b2 s.heap l1 l2) (zD b1 b2 s.heap l1 l2).objs.size (zB b1 b2 s.heap l1 l2).objs.size (zC b1 b2 s.heap l1 l2).objs.size .none:=Ai _ rfl;have a4:IsPair (zH b1 b2 s.heap l1 l2) (zC b1 b2 s.heap l1 l2).objs.size .none .none:=Aa _<|Ai _ rfl;have a3:IsPair (zH b1 b2 s.heap l1 l2) (zB b1 b2 s.heap l1 l2).objs.size (.ref s.heap.objs.size) (.ref (zA b1 s.heap l1).objs.size):=Aa _<|Aa _<|Ai _ rfl;have a2:(zH b1 b2 s.heap l1 l2).get? (zA b1 s.heap l1).objs.size=some (eB b2 l2):=Aa _<|Aa _<|Aa _<|Ai _<|by cases b2 <;> rfl
 have a1:(zH b1 b2 s.heap l1 l2).get? s.heap.objs.size=some (eB b1 l1):=Aa _<|Aa _<|Aa _<|Aa _<|Ai _<|by cases b1 <;> rfl
 rw[n2,n3,n4]at a5;rw[n3]at a4;rw[n1,n2]at a3;rw[n1]at a2;show _/\_;rw[n4];exact⟨⟨_,a5,rfl⟩,h _ a5 a3 a4 (uB a1) (uB a2) λc o x=>Aa _<|Aa _<|Aa _<|Aa _<|Aa _ x⟩
def Zh7{z TI TO i1 i2 l1 l2:EV}{k1 k2:Nat}{xs ys:Array ET}{x y a b:ET}{Q:ER ET->EU->Prop}(D:ZipApart z TI TO i1 i2 l1 l2)
  (hz:IsZip s.heap z TI TO .none) (hTI:IsPair s.heap TI (.ref i1) (.ref i2)) (hTO:IsPair s.heap TO a b) (h1:ItAt b1 s.heap i1 l1 k1) (h2:ItAt b2 s.heap i2 l2 k2) (hl1:SqAt b1 s.heap l1 xs) (hl2:SqAt b2 s.heap l2 ys) (hx:xs[k1]?=some x) (hy:ys[k2]?=some y)
  (hQ:∀h',IsZip h' z TI TO (rawInt s.heap.objs.size)->IsPair h' TO x y->ItAt b1 h' i1 l1 (k1+1)->ItAt b2 h' i2 l2 (k2+1)->IsPair h' s.heap.objs.size x y ->
   (∀c o,c≠z->c≠TO->c≠i1->c≠i2->s.heap.get? c=some o->h'.get? c=some o)->Q (some<|.ref s.heap.objs.size) {s with heap:=h'}):wpAny (model prog w) A (pyNext<|.ref z) Q E s:=by have hT:s.TypeIs (.ref z) "zip":=⟨_,hz,rfl⟩;unfold pyNext;exact wp<|Ef<|DN (name:=Str.ofString "__next__") hT CJ<|DL CJ hT F.entry_zip_next (ZfN D hz hTI hTO h1 h2 hl1 hl2 hx hy λh' a1 a2 a3 a4 a5 a6=>DB<|hQ h' a1 a2 a3 a4 a5 a6)<|F.args_zip_next_1 _
def Zh8{z TI TO i1 i2 l1 l2:EV}{k1 k2:Nat}{xs ys:Array ET}{a b:ET}{Q:ER ET->EU->Prop}(hh:A.handled=none)(D:ZipApart z TI TO i1 i2 l1 l2)
  (hz:IsZip s.heap z TI TO .none) (hTI:IsPair s.heap TI (.ref i1) (.ref i2)) (hTO:IsPair s.heap TO a b) (h1:ItAt b1 s.heap i1 l1 k1) (h2:ItAt b2 s.heap i2 l2 k2) (hl1:SqAt b1 s.heap l1 xs) (hl2:SqAt b2 s.heap l2 ys) (hend:xs[k1]?=none\/ys[k2]?=none)
  (hQ:∀h',(∀c o,c≠z->c≠TO->c≠i1->c≠i2->s.heap.get? c=some o->h'.get? c=some o)->Q none {s with heap:=h'}):wpAny (model prog w) A (pyNext<|.ref z) Q E s:=by have hT:s.TypeIs (.ref z) "zip":=⟨_,hz,rfl⟩;unfold pyNext;refine wp (Ef<|DN (name:=Str.ofString "__next__") hT CJ<|DL CJ hT F.entry_zip_next (ZfO hh D hz hTI hTO h1 h2 hl1 hl2 hend λh' e hk he=>?_)<|F.args_zip_next_1 _);obtain⟨o,ho,hc⟩:=he;exact wp<|Et (T:="StopIteration") (b:=true) ⟨o,ho,hc⟩ isSubtype_stop<|DB<|hQ _ hk
end
section
variable{pins:EQ (EV×Obj)}{s:EU}{h':EZ}
def Inv.turns{ch:EQ EV}(I:Inv X pins σ H s)(k:∀b o,b∉ch->s.heap.get? b=some o->h'.get? b=some o)(hf:∀b∈ch,eL X pins H b):Inv X pins σ H {s with heap:=h',toks:=t'}:=by
 have nit:∀b u,H b=some u->b∉ch:=λb u e z=>by rw[(hf b z).1]at e;cases e
 refine I.step (g':=s.gens) (d':=s.drawn) (ch:=ch) (λb hb=>?_) (λb o _ _ hc e _=>k b o hc e) (λb o _ _ hc e _=>⟨o.slots,k b o hc e⟩) (λ_ _ _ _ n=>n)
  (λb o hc e=>⟨o,k b o hc e⟩) (λ_ _ e=>e) (λ_ _ _ e=>e) (λb ps e=>⟨#[],by rw[e];simp⟩) (λm hm=>?_) (λb u e=>?_) I.bare
 ·obtain⟨_,f1,_,f3,f4,f5⟩:=hf b hb;exact⟨f3,f1,f4,f5⟩
 ·obtain⟨o,es,ep,ho,r⟩:=hm;exact⟨o,es,ep,k _ o (λz=>(hf _ z).2.1 rfl) ho,r⟩
 ·refine(I.hok b u e).stay (λc v hc q=>k c v ?_ q) (λ_ q=>q) (λ_ _ q=>q) λ_ _ _ _ q _=>q;rcases hc with z|z
  ·rw[z];exact nit b u e
  ·exact nit c _ z
def Inv.pair{T:EV}{x y:V}{u v:ET}(I:Inv X pins σ H s)(hT:H T=none)(ho:IsPair s.heap T u v)(r1:RelV x u)(r2:RelV y v)
  (hL:T≠X.env.locals) (hs0:X.s₀.heap.objs.size<=T) (hc:∀x c,X.env.cells.lookup x=some c->c≠T) (hp:∀p∈X.pn++pins,p.1≠T):Inv X pins σ (upd H T<|.tup [x,y]) s:=by
 have ne:∀{b:EV}{o:HO},H b=some o->b≠T:=λe=>cg e hT;refine I.step (g':=s.gens) (d':=s.drawn) (t':=s.toks) (h':=s.heap) (ch:=[T]) (λb hb=>?_) (λb o _ _ _ e _=>e) (λb o _ _ _ e _=>⟨o.slots,e⟩) (λb o hb e n=>?_) (λb o _ e=>⟨o,e⟩)
  (λb xs e=>by rw[aA<|ne e];exact e) (λb o u e=>by rw[aA<|ne e];exact e) (λb ps e=>⟨#[],by rw[aA<|ne e,e];simp⟩) (λm hm=>hm) (λb u e=>?_) I.bare
 ·have e:b=T:=by simpa using hb
  subst e;exact⟨.inr hs0,hL,hc,hp⟩
 ·have FB:b≠T:=by simpa using hb
  rw[aA FB];exact n
 ·by_cases hb:b=T
  ·subst hb;rw[bv]at e;cases e;exact⟨by show 2<=sizeLine;decide,[_,_],.cons r1<|.cons r2 .nil,⟨_,ho,rfl,_,rfl⟩⟩
  ·rw[aA hb]at e;exact(I.hok b u e).stay (λc v _ q=>q) (λc q=>by rw[aA<|ne q];exact q) (λc xs q=>by rw[aA<|ne q];exact q) λc ob xs _ q _=>by rw[aA<|ne q];exact q
end
noncomputable def bq(b:Bool)(xs:Dx):HO:=match b with
 |true=>.lst xs
 |false=>.tup xs
def cW{P:EW}{w:EX}{h:EZ}(ok:HOk P w H h){b:Bool}{a:EV}(e:H a=some (bq b xs)):∃E5:Dv,Vals xs E5/\SqAt b h a E5.toArray:=by
 cases b with
 |true=>obtain⟨_,E5,n,r,q⟩:=ok a _ e;exact⟨E5,r,⟨_,q,rfl,n,rfl⟩⟩
 |false=>obtain⟨_,E5,r,q⟩:=ok a _ e;exact⟨E5,r,q⟩
def iX(b1 b2:Bool)(l1 l2:EV):It :=
 ⟨λi H=>∃xs ys x y,H l1=some (bq b1 xs)/\H l2=some (bq b2 ys)/\xs[i]?=some x/\ys[i]?=some y,
  λi H v H'=>∃xs ys x y p,H l1=some (bq b1 xs)/\H l2=some (bq b2 ys)/\xs[i]?=some x/\ys[i]?=some y/\H p=none/\v=.ref p/\H'=upd H p (.tup [x,y]),
  λi H=>∃xs ys,H l1=some (bq b1 xs)/\H l2=some (bq b2 ys)/\(xs[i]?=none\/ys[i]?=none)⟩
def ZSt(b1 b2:Bool)(z TI TO i1 i2 l1 l2:EV)(i:Nat)(h:EZ):Prop :=
 IsZip h z TI TO .none/\IsPair h TI (.ref i1) (.ref i2)/\(∃a b,IsPair h TO a b)/\ItAt b1 h i1 l1 i/\ItAt b2 h i2 l2 i
def Zgg{P:EW}{w:EX}{K:Dh}{elts:EQ E1}{x1:Nat}{pos:Pos}{l1 l2:EV}(z TI TO i1 i2:EV)
  (d:TI≠z/\TO≠z/\i1≠z/\i2≠z/\TI≠TO/\TI≠i1/\TI≠i2/\TO≠i1/\TO≠i2/\i1≠i2) :
  Turn P w K (.Tuple elts x1 pos) (iX b1 b2 l1 l2) [z,TI,TO,i1,i2] z (ZSt b1 b2 z TI TO i1 i2 l1 l2) where
 mem:=by simp
 obj:=λi h st b hb=>by
  obtain⟨hz,hTI,⟨a,c,hTO⟩,h1,h2⟩:=st;simp at hb;rcases hb with rfl|rfl|rfl|rfl|rfl
  ·exact⟨_,hz,λv q=>by cases q⟩
  ·exact⟨_,hTI,λv q=>by cases q⟩
  ·exact⟨_,hTO,λv q=>by cases q⟩
  ·exact h1.there
  ·exact h2.there
 keep:=λi h h' st k=>by obtain⟨hz,hTI,⟨a,c,hTO⟩,h1,h2⟩:=st;exact⟨k _ (by simp) _ hz,k _ (by simp) _ hTI,⟨a,c,k _ (by simp) _ hTO⟩,h1.at λo e=>k _ (by simp) o e,h2.at λo e=>k _ (by simp) o e⟩
 item:=by
  intro X hP hw hK hc i pins s σ H E I hf st hg;subst hP hw hK;obtain⟨xs,ys,x,y,e1,e2,hx,hy⟩:=hg;obtain⟨hz,hTI,⟨a,c,hTO⟩,h1,h2⟩:=st;obtain⟨us,r1,q1⟩:=cW I.hok e1;obtain⟨vs,r2,q2⟩:=cW I.hok e2;obtain⟨u,hu,ru⟩:=r1.get hx;obtain⟨v,hv,rv⟩:=r2.get hy;have n1:∀b∈[z,TI,TO,i1,i2],l1≠b/\l2≠b:=λb hb=>⟨cg e1 (hf b hb).1,cg e2 (hf b hb).1⟩;obtain⟨d1,d2,d3,d4,d5,d6,d7,d8,d9,d10⟩:=d;have D:ZipApart z TI TO i1 i2 l1 l2:=⟨d1,d2,d3,d4,d5,d6,d7,d8,d9,d10,(n1 z<|by simp).1,(n1 TO<|by simp).1,(n1 i1<|by simp).1,(n1 i2<|by simp).1,(n1 z<|by simp).2,(n1 TO<|by simp).2,(n1 i1<|by simp).2,(n1 i2<|by simp).2⟩
  refine Zh7 D hz hTI hTO h1 h2 q1 q2 (by simpa using hu) (by simpa using hv) λh' z' p' t1 t2 pr kk=>?_
  refine⟨_,rfl,wpAny_letOwnedTupleGo_zip z' λh2' z2 sb=>?_⟩;have lt:∀{b:EV}{o:Obj},s.heap.get? b=some o->s.heap.objs.size≠b:=λq=>AZ<|An q;have zlt:=lt hz;have I1:Inv X pins σ H {s with heap:=h2'}:=I.turns (ch:=[z,TI,TO,i1,i2]) (t':=s.toks) (λb o hb e=>by simp at hb;exact sb.extBut _ _ hb.1<|kk b o hb.1 hb.2.2.1 hb.2.2.2.1 hb.2.2.2.2 e) hf
  have hTn:H s.heap.objs.size=none:=I.hok.fresh<|Ag _;have I2:=I1.pair (T:=s.heap.objs.size) (x:=x) (y:=y) hTn (sb.extBut _ _ zlt pr) ru rv (AZ I.lt) I.sz
   (λq cc e hq=>by obtain⟨vv,zz⟩:=I.cell q cc e;exact absurd zz.lt<|by rw[hq];exact AF _) (λp hp hq=>absurd (An (I.pin p hp).1)<|by rw[hq];exact AF _)
  refine⟨.ref s.heap.objs.size,_,I2,rfl,⟨xs,ys,x,y,_,e1,e2,hx,hy,hTn,rfl,rfl⟩,⟨z2,sb.extBut _ _ d1<|kk _ _ d1 d5 d6 d7 hTI,⟨u,v,sb.extBut _ _ d2 p'⟩,t1.at λo e=>sb.extBut _ _ d3 e,t2.at λo e=>sb.extBut _ _ d4 e⟩,λb hb=>?_⟩;have hbn:b≠s.heap.objs.size:=by
   simp at hb;obtain⟨o1,g1,_⟩:=h1.there;obtain⟨o2,g2,_⟩:=h2.there;rcases hb with rfl|rfl|rfl|rfl|rfl
   ·exact(lt hz).symm
   ·exact(lt hTI).symm
   ·exact(lt hTO).symm
   ·exact(lt g1).symm
   ·exact(lt g2).symm
  rw[aA hbn];exact(hf b hb).1
 done:=by
  intro X hP hw hK hc i pins s σ H E I hf st hg;subst hP hw hK;obtain⟨xs,ys,e1,e2,hend⟩:=hg;obtain⟨hz,hTI,⟨a,c,hTO⟩,h1,h2⟩:=st;obtain⟨us,r1,q1⟩:=cW I.hok e1;obtain⟨vs,r2,q2⟩:=cW I.hok e2;have n1:∀b∈[z,TI,TO,i1,i2],l1≠b/\l2≠b:=λb hb=>⟨cg e1 (hf b hb).1,cg e2 (hf b hb).1⟩;obtain⟨d1,d2,d3,d4,d5,d6,d7,d8,d9,d10⟩:=d;have D:ZipApart z TI TO i1 i2 l1 l2:=⟨d1,d2,d3,d4,d5,d6,d7,d8,d9,d10,(n1 z<|by simp).1,(n1 TO<|by simp).1,(n1 i1<|by simp).1,(n1 i2<|by simp).1,(n1 z<|by simp).2,(n1 TO<|by simp).2,(n1 i1<|by simp).2,(n1 i2<|by simp).2⟩
  refine Zh8 (I.ok.hd hc) D hz hTI hTO h1 h2 q1 q2 (hend.imp (λq=>by simpa using r1.none_of q)<|λq=>by simpa using r2.none_of q) λh' kk=>⟨rfl,?_⟩
  exact I.turns (ch:=[z,TI,TO,i1,i2]) (t':=s.toks) (λb o hb e=>by simp at hb;exact kk b o hb.1 hb.2.2.1 hb.2.2.2.1 hb.2.2.2.2 e) hf
 self:=λ_ _ _ _ _ st h=>wpAny_pyIter_zip st.1 h
end L2
variable{is:L2.Dj}{ρ τ:L2.Dz}{g:L2.Dp}{i j:L2.Di}{gs:L2.Do}{f:L2.Dm}
namespace L2
open AutoSeq1 (wpAny_loadPart')
section
variable{tg:E1}{PK:Pk}{a b:E1}{p pos:Pos}
def Zdz(ta tb:TE):TI:=λσ H R=>ta σ H λx H1=>tb σ H1 λy H2=>∃b1 b2 l1 l2 xs ys,x=.ref l1/\y=.ref l2/\H2 l1=some (bq b1 xs)/\H2 l2=some (bq b2 ys)/\R (iX b1 b2 l1 l2) H2
def Zix{elts:EQ E1}{x1:Nat}{tpos:Pos}{tb:TE}(hc:X.calm=true)(hg:Gl X "zip")(hm:X.mg "zip"=none)(ha:PE X a ta)(hb:PE X b tb)
  (hs:starEach [a,b] X.env=[(false,eval a X.env),(false,eval b X.env)]:=by rfl) (FA:starEach [b] X.env=[(false,eval b X.env)]:=by rfl):PI X (.Tuple elts x1 tpos) (.Call (.Name "zip" p) [a,b] [] pos) (Zdz ta tb):=by
 intro pins s σ H R I h;have hab:PA X [a,b] (fI ta<|fI tb aT):=ci ha (ci hb cL<|by rw[FA];rfl)<|by rw[hs,FA]
 refine Call_<|jt I hg hm boot_zip<|A9 (thn (hab pos pins s σ H (λvs H2=>∃b1 b2 l1 l2 xs ys,vs=[.ref l1,.ref l2]/\H2 l1=some (bq b1 xs)/\H2 l2=some (bq b2 ys)/\R (iX b1 b2 l1 l2) H2) I ?_) λus s1 ⟨vs,H1,I1,r1,q1⟩=>?_) (by rw[hs,FA])<|by rw[FA];rfl
 ·refine(show ta σ H _ from ?_)
  have h':ta σ H λx H1=>tb σ H1 λy H2=>∃b1 b2 l1 l2 xs ys,x=.ref l1/\y=.ref l2/\H2 l1=some (bq b1 xs)/\H2 l2=some (bq b2 ys)/\R (iX b1 b2 l1 l2) H2:=h;have e:(λ(x:V) (H1:Hp)=>tb σ H1 λy H2=>∃b1 b2 l1 l2 xs ys,x=.ref l1/\y=.ref l2/\H2 l1=some (bq b1 xs)/\H2 l2=some (bq b2 ys)/\R (iX b1 b2 l1 l2) H2) =
    λx H1=>fI tb aT σ H1 λxs H2=>∃b1 b2 l1 l2 us ys,x::xs=[.ref l1,.ref l2]/\H2 l1=some (bq b1 us)/\H2 l2=some (bq b2 ys)/\R (iX b1 b2 l1 l2) H2:=by
   funext x H1;show _=tb σ H1 _;congr 1;funext y H2;show _=(∃b1 b2 l1 l2 us ys,[x,y]=[.ref l1,.ref l2]/\H2 l1=some (bq b1 us)/\H2 l2=some (bq b2 ys)/\R (iX b1 b2 l1 l2) H2);apply propext;constructor
   ·rintro⟨b1,b2,l1,l2,xs,ys,rfl,rfl,q⟩;exact⟨b1,b2,l1,l2,xs,ys,rfl,q⟩
   ·rintro⟨b1,b2,l1,l2,xs,ys,e,q⟩;have e1:x=V.ref l1/\y=V.ref l2:=by simpa using e
    exact⟨b1,b2,l1,l2,xs,ys,e1.1,e1.2,q⟩
  rw[e]at h';exact h'
 ·obtain⟨b1,b2,l1,l2,xs,ys,rfl,e1,e2,q⟩:=q1;obtain⟨u1,u2,rfl,r1,r2⟩:=vX r1;cases r1;cases r2;obtain⟨us,ru,q1⟩:=cW I1.hok e1;obtain⟨vs,rv,q2⟩:=cW I1.hok e2;refine ZmK q1 q2 λh' z pTI pTO t1 t2 kk=>?_;have I2:Inv X pins σ H1 {s1 with heap:=h'}:=I1.kept (t':=s1.toks) kk;have na:∀n k:Nat,n≠k->(s1.heap.objs.size+n:Nat)≠s1.heap.objs.size+k:=λn k h e=>h (by omega)
  refine wpAny_pyIter_zip z ⟨s1.heap.objs.size+4,[s1.heap.objs.size+4,s1.heap.objs.size+2,s1.heap.objs.size+3,s1.heap.objs.size,s1.heap.objs.size+1],_,_,H1,rfl,I2,Zgg _ _ _ _ _ ⟨na 2 4<|by decide,na 3 4<|by decide,na 0 4<|by decide,na 1 4<|by decide,na 2 3<|by decide,na 2 0<|by decide,na 2 1<|by decide,na 3 0<|by decide,na 3 1<|by decide,na 0 1<|by decide⟩,⟨z,pTI,⟨_,_,pTO⟩,t1,t2⟩,λb hb=>?_,q⟩
  have hle:s1.heap.objs.size<=b:=by simp at hb;rcases hb with rfl|rfl|rfl|rfl|rfl <;> first|exact Nat.le_add_right _ _|exact Ag _
  exact I1.fpOk hle<|I1.hok.fresh hle
noncomputable def hX(xs ys:Dt):Dt:=(xs.zip ys).map λ(x,y)=>.tuple [x,y]
def rc{x:ES}{xs:Dt}(d:Dn G v x)(h:fP x=some xs):∃b a vs,v=.ref a/\G a=some (bq b vs)/\DnAll G vs xs:=by
 cases d with
 |lst h1 h2=>cases h;exact⟨true,_,_,rfl,h1,h2⟩
 |tup h1 h2=>cases h;exact⟨false,_,_,rfl,h1,h2⟩
 |_=>cases h
def uF{b:Bool}(h:some (bq b xs)=some (bq b ys)):xs=ys:=by cases b <;> (cases h;rfl)
def Zke{pa:EV}{l1 l2:EV}{us:Dx}{xs ys:Dt}(h1:G l1=some (bq b1 us))(h2:G l2=some (bq b2 vs))(d1:DnAll G us xs)(d2:DnAll G vs ys):hV PK pa (iX b1 b2 l1 l2) G (hX xs ys):=λm G2 H2 sb w=>by
 have e1:H2 l1=some (bq b1 us):=w.sub _ _<|sb _ _ h1;have e2:H2 l2=some (bq b2 vs):=w.sub _ _<|sb _ _ h2;refine⟨λn d hd=>?_,us,vs,e1,e2,?_⟩
 ·unfold hX at hd;rw[Ak]at hd;cases hz:(xs.zip ys)[n]? with
  |none=>rw[hz]at hd;cases hd
  | some xy =>
   rw[hz]at hd;cases hd;have hxy:=Ch.mp hz;obtain⟨u,hu,du⟩:=d1.get n hxy.1;obtain⟨v,hv,dv⟩:=d2.get n hxy.2;refine⟨⟨us,vs,u,v,e1,e2,hu,hv⟩,λx H3 E4=>?_⟩;obtain⟨us',vs',u',v',p,f1,f2,hu',hv',hp,ex,eH⟩:=E4;rw[e1]at f1;rw[e2]at f2;have:=uF f1;have:=uF f2;subst us' vs';rw[hu]at hu';rw[hv]at hv';cases hu';cases hv';subst ex eH;obtain⟨w3,s3⟩:=w.new (o:=.tup [u,v]) hp;exact⟨_,s3,w3,.tup bv<|.cons ((du.mono sb).mono s3.gs)<|.cons ((dv.mono sb).mono s3.gs) .nil⟩
 ·unfold hX;rw[v9,List.length_zip,d1.length.symm,d2.length.symm];rcases Nat.le_total us.length vs.length with hle|hle
  ·left
   rw[Nat.min_eq_left hle];simp
  ·right
   rw[Nat.min_eq_right hle];simp
def vm(i j:Di):Dj:=λρ=>(i ρ).bind λx=>(j ρ).bind λy=>(Tr.of<|fP x).bind λxs=>(Tr.of<|fP y).bind λys=>.ret<|hX xs ys
def ZnS{iter:E1}(h:PI X tg iter (Zdz (TAe PK i)<|TAe PK j)):PI X tg iter (cq PK<|vm i j):=h.imp λσ H R0 E4=>by obtain⟨pa,DA,H₀,m,ρ,G,R,z⟩:=E4;refine TAe.then R z λm1 x v G1 H1 s1 w1 R1 d1 q1=>?_;refine TAe.then R1 q1 λm2 y u G2 H2 s2 w2 R2 d2 q2=>?_;rw[Tr.ok_bind]at q2;obtain⟨xs,hx,q2⟩:=Tr.ok_of q2;rw[Tr.ok_bind]at q2;obtain⟨ys,hy,q2⟩:=Tr.ok_of q2;obtain⟨b1,l1,us,rfl,e1,f1⟩:=rc (d1.mono s2.gs) hx;obtain⟨b2,l2,vs,rfl,e2,f2⟩:=rc d2 hy;exact⟨b1,b2,l1,l2,us,vs,rfl,rfl,w2.sub _ _ e1,w2.sub _ _ e2,q2 _ G2 H2 (s1.trans s2 w1.some) w2<|Zke e1 e2 f1 f2⟩
end
def Zeh{prog:EW}{w:EX}{A:EY}(hh:A.handled=none)(b:Bool)(it l:EV)(E8:l≠it)(items:Array ET):Draws prog w A it [it,l] items.size (λi v=>items[i]?=some v) (λi h=>ItAt b h it l i/\SqAt b h l items) where
 live:=λ_ _ st=>let ⟨o,ho,_⟩:=st.1.there;⟨o,ho⟩
 frame:=λ_ _ _ st hk=>⟨st.1.at λo e=>hk it (by simp) o e,st.2.at λo e=>hk l (by simp) o e⟩
 item:=λi s Q E hi st hQ=>tQ st.1 st.2 (x:=items[i]) (by simp[hi]) λh' hit' hs'=>hQ _ h' s.toks (by simp[hi]) ⟨hit',st.2.bt hs'.extBut E8⟩ hs'
 done:=λs Q E st hE=>xH hh st.1 st.2 (by simp) hE
def ZjE(b:Bool)(l:EV)(items:Array ET) :
  Meets (Builtin.«enumerate.__new__» ⟨[.type "enumerate",.ref l],[]⟩) (λ_ R s=>SqAt b s.heap l items /\
   R (.ok<|.ret<|.ref (s.heap.push<|eB b l).objs.size) {s with heap:=(s.heap.push<|eB b l).push {cls:=.type "enumerate",data:=.fields #[.none,.bool false,.ref s.heap.objs.size,rawInt 0,.none,.none]} }) :=
 .of_wp λprog w A R s h=>by
  obtain⟨hp,g,d,tk,os⟩:=s;obtain⟨hl,h⟩:=h;have Fm:=sub_enumerate;have q:SqAt b (Shared.heap ⟨hp,g,d,tk,os⟩) l items:=hl;have ho:∃ob,hp.get? l=some ob:=by
   cases b with
   |true=>obtain⟨ob,e,_⟩:=hl;exact⟨ob,e⟩
   |false=>obtain⟨ob,e,_⟩:=hl;exact⟨ob,e⟩
  obtain⟨ob,ho⟩:=ho
  wp_walk using DX ho
  refine wpAny_stack_any λst=>DB ?_
  split
  ·rename_i c _ _ _ _ _;cases (c==Value.type "enumerate")
   ·wp_walk using DX ho,kB q
    exact⟨_,rfl,h⟩
   ·wp_walk using DX ho,kB q
    exact⟨_,rfl,h⟩
  ·wp_walk using DX ho,kB q
   exact⟨_,rfl,h⟩
section
variable{prog:EW}{w:EX}{A:EY}{E:Ds}{s:EU}
def ZmT{b:Bool}{l:EV}{items:Array ET}{Q:Ds}(hl:SqAt b s.heap l items)
  (h:∀h',IsEnum h' (s.heap.objs.size+1) s.heap.objs.size 0 .none->ItAt b h' s.heap.objs.size l 0->(∀c o,s.heap.get? c=some o->h'.get? c=some o)->Q (.ref<|s.heap.objs.size+1) {s with heap:=h'}) :
  wpAny (model prog w) A (call (.type "enumerate") [.ref l]) Q E s:=by
 refine callType_new F.called_enumerate (by decide) (F.typeCall_enumerate_1 _) (F.newCall_enumerate_1 _) (λobj=>CT obj _) F.entry_enumerate_new (ZjE b l items) ⟨hl,?_⟩
 have n1:(s.heap.push<|eB b l).objs.size=s.heap.objs.size+1:=A1 ..;have a2:IsEnum ((s.heap.push<|eB b l).push {cls:=.type "enumerate",data:=.fields #[.none,.bool false,.ref s.heap.objs.size,rawInt 0,.none,.none]}) (s.heap.push<|eB b l).objs.size s.heap.objs.size 0 .none:=Ai _ rfl;have a1:((s.heap.push<|eB b l).push {cls:=.type "enumerate",data:=.fields #[.none,.bool false,.ref s.heap.objs.size,rawInt 0,.none,.none]}).get? s.heap.objs.size=some (eB b l):=Aa _<|Ai _<|by cases b <;> rfl
 rw[n1]at a2;show _/\_;rw[n1];exact⟨⟨_,a2,rfl⟩,h _ a2 (uB a1) λc o x=>Aa _<|Aa _ x⟩
end
def jT(b:Bool)(l:EV):It :=
 ⟨λi H=>∃xs x,H l=some (bq b xs)/\xs[i]?=some x,
  λi H v H'=>∃xs x p,H l=some (bq b xs)/\xs[i]?=some x/\H p=none/\v=.ref p/\H'=upd H p (.tup [.int i,x]),
  λi H=>∃xs,H l=some (bq b xs)/\xs.length=i⟩
def Zgm{P:EW}{w:EX}{K:Dh}{elts:EQ E1}{x1:Nat}{pos:Pos}{b:Bool}{l:EV}(e it:EV)(E8:e≠it) :
  Turn P w K (.Tuple elts x1 pos) (jT b l) [e,it] e (λi h=>(∃old,IsEnum h e it i old)/\ItAt b h it l i) where
 mem:=by simp
 obj:=λi h st c hb=>by
  obtain⟨⟨old,he⟩,h1⟩:=st;simp at hb;rcases hb with rfl|rfl
  ·exact⟨_,he,λv q=>by cases q⟩
  ·exact h1.there
 keep:=λi h h' st k=>by obtain⟨⟨old,he⟩,h1⟩:=st;exact⟨⟨old,k _ (by simp) _ he⟩,h1.at λo q=>k _ (by simp) o q⟩
 item:=by
  intro X hP hw hK hc i pins s σ H E I hf st hg;subst hP hw hK;obtain⟨xs,x,e1,hx⟩:=hg;obtain⟨⟨old,he⟩,h1⟩:=st;obtain⟨us,r1,q1⟩:=cW I.hok e1;obtain⟨u,hu,ru⟩:=r1.get hx;have nl:∀c∈[e,it],l≠c:=λc hc=>cg e1 (hf c hc).1;have E6:i<us.toArray.size:=by have:=(Ad.mp hu).1;simpa using this
  refine wpAny_pyNext_enum_itemD (Zeh (A:=X.A.in1) (show X.A.in1.handled=none from I.ok.hd hc) b it l (nl it<|by simp) us.toArray) he ⟨h1,q1⟩ E6 E8 (by simp only[Au,Bb,Ee,not_or];exact⟨E8,(nl e<|by simp).symm⟩) λx' h' tk hP' ho st' hT Fg kk=>?_
  have hxu:x'=u:=by
   have q:us[i]?=some x':=by simpa using hP'
   rw[hu]at q;cases q
   rfl
  subst hxu;refine⟨_,rfl,wpAny_letOwnedTupleGo_enum ho λh2' z2 sb=>?_⟩;have lt:∀{c:EV}{o:Obj},s.heap.get? c=some o->s.heap.objs.size≠c:=λq=>AZ<|An q;have I1:Inv X pins σ H {s with heap:=h2',toks:=tk+1}:=I.turns (ch:=[e,it]) (λc o hb q=>by simp at hb;exact sb.extBut _ _ hb.1<|kk c o hb.1 hb.2 q) hf
  have hTn:H s.heap.objs.size=none:=I.hok.fresh<|Ag _;have I2:=I1.pair (T:=s.heap.objs.size) (x:=.int i) (y:=x) hTn (sb.extBut _ _ (lt he) hT) ⟨tk,rfl⟩ ru (AZ I.lt) I.sz
   (λq cc ee hq=>by obtain⟨vv,zz⟩:=I.cell q cc ee;exact absurd zz.lt<|by rw[hq];exact AF _) (λp hp hq=>absurd (An (I.pin p hp).1)<|by rw[hq];exact AF _)
  refine⟨.ref s.heap.objs.size,_,I2,rfl,⟨xs,x,_,e1,hx,hTn,rfl,rfl⟩,⟨⟨_,z2⟩,st'.1.at λo q=>sb.extBut _ _ (Ne.symm E8) q⟩,λc hb=>?_⟩;have hbn:c≠s.heap.objs.size:=by
   simp at hb;obtain⟨o1,g1,_⟩:=h1.there;rcases hb with rfl|rfl
   ·exact(lt he).symm
   ·exact(lt g1).symm
  rw[aA hbn];exact(hf c hb).1
 done:=by
  intro X hP hw hK hc i pins s σ H E I hf st hg;subst hP hw hK;obtain⟨xs,e1,hend⟩:=hg;obtain⟨⟨old,he⟩,h1⟩:=st;obtain⟨us,r1,q1⟩:=cW I.hok e1;have nl:∀c∈[e,it],l≠c:=λc hc=>cg e1 (hf c hc).1;have Fg:us.toArray.size=i:=by rw[Am,<- r1.length];exact hend
  subst Fg;refine wpAny_pyNext_enum_endD (Zeh (A:=X.A.in1) (show X.A.in1.handled=none from I.ok.hd hc) b it l (nl it<|by simp) us.toArray) he ⟨h1,q1⟩ λh' eb=>⟨rfl,?_⟩
  exact I.turns (ch:=[e,it]) (t':=s.toks) (λc o hb q=>by simp at hb;exact eb c o hb.2 q) hf
 self:=λ_ _ _ _ _ st h=>by obtain⟨⟨old,he⟩,_⟩:=st;exact wpAny_pyIter_enum he h
section
variable{tg:E1}{PK:Pk}{a b:E1}{p pos:Pos}
def ZdC(ta:TE):TI:=λσ H R=>ta σ H λx H1=>∃b l xs,x=.ref l/\H1 l=some (bq b xs)/\R (jT b l) H1
def qJ{elts:EQ E1}{x1:Nat}{tpos:Pos}(hc:X.calm=true)(hg:Gl X "enumerate")(hm:X.mg "enumerate"=none)(ha:PE X a ta)
  (hs:starEach [a] X.env=[(false,eval a X.env)]:=by rfl):PI X (.Tuple elts x1 tpos) (.Call (.Name "enumerate" p) [a] [] pos) (ZdC ta):=by
 intro pins s σ H R I h;have hab:PA X [a] (fI ta aT):=ci ha cL<|by rw[hs];rfl
 have h':fI ta aT σ H λvs H1=>∃x,vs=[x]/\∃b l xs,x=.ref l/\H1 l=some (bq b xs)/\R (jT b l) H1:=by
  have e:(λ(x:V) (H1:Hp)=>∃b l xs,x=.ref l/\H1 l=some (bq b xs)/\R (jT b l) H1)=λx H1=>aT σ H1 λxs H2=>∃y,x::xs=[y]/\∃b l xs,y=.ref l/\H2 l=some (bq b xs)/\R (jT b l) H2:=by
   funext x H1;apply propext;constructor
   ·exact λq=>⟨x,rfl,q⟩
   ·rintro⟨y,e,q⟩;have e':x=y:=by simpa using e
    subst e';exact q
  have h0:ta σ H λx H1=>∃b l xs,x=.ref l/\H1 l=some (bq b xs)/\R (jT b l) H1:=h;rw[e]at h0;exact h0
 refine Call_<|jt I hg hm boot_enumerate<|A9 (thn (hab pos pins s σ H _ I h') λus s1 E4=>?_) (by rw[hs];rfl) rfl
 obtain⟨vs,H1,I1,r1,q1⟩:=E4;obtain⟨x,rfl,b,l,xs,rfl,e1,q⟩:=q1;obtain⟨u,rfl,ru⟩:=dW r1;cases ru;obtain⟨us,ru,q1⟩:=cW I1.hok e1;refine ZmT q1 λh' z t1 kk=>?_;have I2:Inv X pins σ H1 {s1 with heap:=h'}:=I1.kept (t':=s1.toks) kk;refine wpAny_pyIter_enum z ⟨s1.heap.objs.size+1,[s1.heap.objs.size+1,s1.heap.objs.size],_,_,H1,rfl,I2,Zgm _ _<|λq=>absurd (show(s1.heap.objs.size+1:Nat)=s1.heap.objs.size from q)<|by omega,⟨⟨_,z⟩,t1⟩,λc hb=>?_,q⟩
 have hle:s1.heap.objs.size<=c:=by simp at hb;rcases hb with rfl|rfl <;> first|exact Nat.le_add_right _ _|exact Ag _
 exact I1.fpOk hle<|I1.hok.fresh hle
noncomputable def eE(xs:Dt):Dt:=(List.range xs.length).zipWith (λ(n:Nat) x=>.tuple [.int n,x]) xs
def Zkk{pa:EV}{b:Bool}{l:EV}{us:Dx}{xs:Dt}(h1:G l=some (bq b us))(d1:DnAll G us xs):hV PK pa (jT b l) G (eE xs):=λm G2 H2 sb w=>by
 have e1:H2 l=some (bq b us):=w.sub _ _<|sb _ _ h1;have hlen:(eE xs).length=xs.length:=by unfold eE;simp
 refine⟨λn d hd=>?_,us,e1,by rw[hlen,d1.length]⟩
 have hn:n<xs.length:=by rw[<- hlen];exact(Ad.mp hd).1
 have Fa:d=.tuple [.int n,xs[n]]:=by unfold eE at hd;rw[List.getElem?_zipWith]at hd;simp[hn]at hd;exact hd.symm
 subst Fa;obtain⟨u,hu,du⟩:=d1.get n<|show xs[n]?=some xs[n]by simp[hn]
 refine⟨⟨us,u,e1,hu⟩,λx H3 E4=>?_⟩;obtain⟨us',u',p,f1,hu',hp,ex,eH⟩:=E4;rw[e1]at f1;have:=uF f1;subst us';rw[hu]at hu';cases hu';subst ex eH;obtain⟨w3,s3⟩:=w.new (o:=.tup [.int n,u]) hp;exact⟨_,s3,w3,.tup bv<|.cons (.int n)<|.cons ((du.mono sb).mono s3.gs) .nil⟩
def jP(i:Di):Dj:=λρ=>(i ρ).bind λx=>(Tr.of<|fP x).bind λxs=>.ret<|eE xs
def rK{iter:E1}(h:PI X tg iter (ZdC<|TAe PK i)):PI X tg iter (cq PK<|jP i):=h.imp λσ H R0 E4=>by obtain⟨pa,DA,H₀,m,ρ,G,R,z⟩:=E4;refine TAe.then R z λm1 x v G1 H1 s1 w1 R1 d1 q1=>?_;rw[Tr.ok_bind]at q1;obtain⟨xs,hx,q1⟩:=Tr.ok_of q1;obtain⟨b1,l1,us,rfl,e1,f1⟩:=rc d1 hx;exact⟨b1,l1,us,rfl,w1.sub _ _ e1,q1 _ G1 H1 s1 w1<|Zkk e1 f1⟩
end
end L2
namespace L2
section
variable{prog:EW}{w:EX}{A:EY}
def ZfU(hh:A.handled=none)(b:Bool)(I ax:EV)(E8:ax≠I)(items:Array ET):Walks prog w A I [I,ax] [I] items.size (λi v=>items[i]?=some v) (λi h=>ItAt b h I ax i/\SqAt b h ax items):=by
 cases b with
 |true=>exact Walks.list hh I ax E8 items
 |false=>exact Walks.tuple hh I ax E8 items
end
def Zkr{ns:Du}{us:Dv}(r:Vals (ns.map V.int) us){i:Nat}{v:ET}(h:us[i]?=some v):∃t,v=.int ((ns[i]?).getD 0) t:=by
 have hi:i<us.length:=(Ad.mp h).1;have hl:us.length=ns.length:=by rw[<- r.length,v9]
 obtain⟨u,e1,e2⟩:=r.get (i:=i) (x:=V.int ns[i])<|by simp[show i<ns.length by omega]
 rw[h]at e1;cases e1;obtain⟨t,e2⟩:=e2;exact⟨t,by simp[show i<ns.length by omega,e2]⟩
def Zip(ns:Du):preSum (λi=>(ns[i]?).getD 0) ns.length=ns.sum:=by
 have key:∀k,k<=ns.length->preSum (λi=>(ns[i]?).getD 0) k=(ns.take k).sum:=by
  intro k
  induction k with
  |zero=>intro _;simp[preSum]
  | succ k ih =>
   intro hk;rw[preSum,ih<|by omega,CO,List.sum_append]
   simp[show k<ns.length by omega]
 rw[key _<|Ag _,Ct]
section
variable{PK:Pk}
def gT(hc:X.calm=true):dH X (.builtin "sum") (λxs H Q=>∃(b:Bool)(l:EV)(ns:Du),xs=[.ref l]/\H l=some (bq b<|ns.map V.int)/\Q (.int ns.sum) H):=by
 intro pins s σ H xs us Q I r h;obtain⟨b,l,ns,rfl,e1,q⟩:=h;obtain⟨u,rfl,ru⟩:=dW r;cases ru;obtain⟨vs,rv,sq⟩:=cW I.hok e1;have E6:l<s.heap.objs.size:=I.hok.lt e1;refine call_sum_walkG<|kB sq ?_;refine⟨s.heap.objs.size,[s.heap.objs.size,l],[s.heap.objs.size],vs.toArray.size,_,_,λi=>(ns[i]?).getD 0,rfl,ZfU (A:=X.A.in1) (I.ok.hd hc) b _ l (Aw E6) vs.toArray,
  ⟨uB (Ai _<|by cases b <;> rfl),sq.push _⟩,λc hc=>?_,λi v hv=>Zkr rv<|by simpa using hv,λh' tk t' hk=>?_⟩
 ·rw[A1];simp at hc;rcases hc with rfl|rfl
  ·exact Cs _
  ·exact Cn E6
 ·refine⟨.int ns.sum,H,I.kept (t':=tk) λc o e=>hk c o (λz=>?_)<|Aa _ e,⟨t',?_⟩,q⟩
  ·have:c=s.heap.objs.size:=by simpa using z
   subst this;exact AF _<|An e
  ·have e:vs.toArray.size=ns.length:=by rw[Am,<- rv.length,v9]
   rw[e,Zip]
noncomputable def bools?:EQ ES->ER (EQ Bool)
 | []=>some []
 |.bool n::xs=>(bools? xs).bind λns=>some (n::ns)
 |_=>none
@[simp] theorem bools?_map:∀ns:EQ Bool,bools? (ns.map PyData.bool)=some ns
 | []=>rfl
 |n::ns=>by rw[Af,bools?,bools?_map ns];rfl
def qP(p:EQ ES->ER α)(f:α->ER ES):EQ ES->ER ES
 | [x]=>(fP x).bind λxs=>(p xs).bind f
 |_=>none
def cJ:EQ ES->ER ES:=qP ints? λns=>some<|.int ns.sum
def Zi8{p:EQ ES->ER α}{f:α->ER ES}{ds:Dt}{d:ES}(hv:DnAll G vs ds)(h:qP p f ds=some d):∃b l us xs y,vs=[.ref l]/\G l=some (bq b us)/\DnAll G us xs/\p xs=some y/\f y=some d:=by
 unfold qP at h
 split at h
 ·rename_i x;cases hx:fP x with
  |none=>rw[hx]at h;cases h
  | some xs =>
   rw[hx]at h;have h':(p xs).bind f=some d:=h;cases hp:p xs with
   |none=>rw[hp]at h';cases h'
   | some y =>
    rw[hp]at h';cases hv with
    | cons h1 h2 =>
     cases h2;obtain⟨b,l,us,rfl,e1,e2⟩:=rc h1 hx;exact⟨b,l,us,xs,y,rfl,e1,e2,hp,h'⟩
 ·cases h
def gD:eZ (λxs H Q=>∃(b:Bool)(l:EV)(ns:Du),xs=[.ref l]/\H l=some (bq b<|ns.map V.int)/\Q (.int ns.sum) H) cJ:=λPK pa m G H vs ds d Q w hv hd k=>by obtain⟨b,l,us,xs,ns,rfl,e1,e2,hp,hf⟩:=Zi8 hv hd;obtain⟨rfl,rfl⟩:=e2.ints_inv hp;cases hf;exact⟨b,l,ns,rfl,w.sub _ _ e1,k.here w<|.int _⟩
variable{a b c e:E1}{pos:Pos}{l:Di}
def Zdt:OpR X (inplaceOp .Mult) (rI CMulG λi j=>.int<|i*j):=iq λ_ _ _ _ _ _ _ hc q=>imul_int q hc.ok
def pip{op:Operator}(h:OpR X (inplaceOp op) r):PIp X op r:=h
noncomputable def rb:Dq
 |.int m,.int n=>some (.int<|m+n)
 |_,_=>none
def Zaq:cS (eN λi j=>.int<|i+j) rb:=λPK pa m G H x y dx dy dz Q w hx hy hz k=>by
 unfold rb at hz
 split at hz
 ·cases hz;cases hx;cases hy;exact⟨_,_,rfl,rfl,k.here w<|.int _⟩
 ·cases hz
def la:Dq
 |.int m,.int n=>if (fit m&&fit n)=true then some (.int<|m*n)else none
 |_,_=>none
def Zap:cS (rI CMulG λi j=>.int<|i*j) la:=λPK pa m G H x y dx dy dz Q w hx hy hz k=>by
 unfold la at hz
 split at hz
 ·split at hz
  ·rename_i hc;rw[AL]at hc;cases hz;cases hx;cases hy;exact⟨_,_,rfl,rfl,⟨DC hc.1,DC hc.2⟩,k.here w<|.int _⟩
  ·cases hz
 ·cases hz
end
def Zjh{PK:Pk}:∀σ H Q,TAe PK (bY is) σ H Q->dR PK is σ H Q:=by intro σ H Q z;obtain⟨pa,DA,H₀,m,ρ,G,R,z⟩:=z;exact⟨pa,DA,H₀,m,ρ,G,R,Tr.ok_mono (Tr.ok_bind.mp z) λm1 xs k=>Ko1.of k R.wd.some⟩
def y6{PK:Pk}{st:E3}{n:Nat}{ix:EQ Nat}(h:PS X st (cV (gb (cq PK is) n ix (λ_=>b9 PK g)<|λ_=>TAe PK i)<|da k))(hn:dA n g):PS X st (bg PK<|aU k<|bY<|bV is n ix g i) :=
 y8 (h.imp<|wc λσ H Q z=>xU hn σ H Q<|Zjh σ H Q z)
variable{s t:Dl}{l:Di}{as:EQ Sl->Tr Dz}{p q:Dk}{n:Nat}{x y d:ES}{xs ys:Dt}{sl:Sl}
def lF:aa 0 (.d x::ρ)=.ret x:=rfl
def lE:aa (k+1) (sl::ρ)=aa k ρ:=rfl
def pI:aC d ρ=.ret d:=rfl
def aL(g:Dq)(x y:ES):Tr ES:=Tr.of<|g x y
def Ze6(g:Dq)(j:Di)(ρ:Dz)(x:ES):Tr ES:=(j ρ).bind<|aL g x
def oV{g:Dq}:ac g i j ρ=(i ρ).bind (Ze6 g j ρ):=rfl
def oU{g:Dq}:Ze6 g j ρ x=(j ρ).bind (aL g x):=rfl
def pz(m n:Int):aL aW (.int m) (.int n)=.ret (.int<|m+n):=rfl
def pj(h1:xs.isEmpty=false)(h2:small (xs.length+ys.length)=true):aL aW (.tuple xs) (.tuple ys)=.ret (.tuple<|xs++ys):=by simp[aL,aW,h1,h2]
def pq(h2:small (xs.length+ys.length)=true):aL aW (.list xs) (.list ys)=.ret (.list<|xs++ys):=by simp[aL,aW,h2]
def lU(m n:Int):aL ce (.int m) (.int n)=.ret (.int<|m-n):=rfl
def nq{m n:Int}(h1:fit m=true)(h2:fit n=true):aL bj (.int m) (.int n)=.ret (.int<|m*n):=by simp[aL,bj,h1,h2]
def rn{m n:Int}(h1:n≠0)(h2:fit n=true):aL fv (.int m) (.int n)=.ret (.int<|m.fdiv n):=by simp[aL,fv,h1,h2]
def nr{m n:Int}(h1:n≠0):aL eh (.int m) (.int n)=.ret (.int<|m.fmod n):=by simp[aL,eh,h1]
def oN{g:Int->Int->Bool}(m n:Int):aL (fS g) (.int m) (.int n)=.ret (.bool<|g m n):=rfl
def oD(m n:Int):aL gw (.int m) (.int n)=.ret (.bool<|m==n):=rfl
def np(m n:Int):aL ir (.int m) (.int n)=.ret (.bool<|!(m==n)):=rfl
def oE(m n:Bool):aL gw (.bool m) (.bool n)=.ret (.bool<|m==n):=rfl
def oC(m n:Str):aL gw (.str m) (.str n)=.ret (.bool<|m==n):=rfl
def nk(m n:Str):aL ir (.str m) (.str n)=.ret (.bool<|!(m==n)):=rfl
def nT(n:Int):aL ak (.list xs) (.int n)=Tr.of (ba xs n):=rfl
def dN(n:Int):aL ak (.tuple xs) (.int n)=Tr.of (ba xs n):=rfl
def gy{xs:EQ α}{n:Int}{v:α}(h0:0<=n)(h:xs[n.toNat]?=some v):ba xs n=some v:=by have e:(n.toNat:Int)=n:=Int.toNat_of_nonneg h0;rw[<- e];exact eV h
section
variable{a0 a1 a2 a3 a4 a5 a6 a7 a8:α}{r:EQ α}
def fU:ba (a0::r) 0=some a0:=eV (j:=0) rfl
def iP:ba (a0::a1::r) 1=some a1:=eV (j:=1) rfl
def iO:ba (a0::a1::a2::r) 2=some a2:=eV (j:=2) rfl
def jK:ba (a0::a1::a2::a3::r) 3=some a3:=eV (j:=3) rfl
def jJ:ba (a0::a1::a2::a3::a4::r) 4=some a4:=eV (j:=4) rfl
def jI:ba (a0::a1::a2::a3::a4::a5::r) 5=some a5:=eV (j:=5) rfl
def jH:ba (a0::a1::a2::a3::a4::a5::a6::r) 6=some a6:=eV (j:=6) rfl
def jG:ba (a0::a1::a2::a3::a4::a5::a6::a7::r) 7=some a7:=eV (j:=7) rfl
def jF:ba (a0::a1::a2::a3::a4::a5::a6::a7::a8::r) 8=some a8:=eV (j:=8) rfl
end
def ZcQ:ES->Tr ES
 |.int n=>.ret (.int<|-n)
 |_=>.fail
def nj:fW i ρ=(i ρ).bind ZcQ:=by unfold fW;refine DI (Tr.bind<|i ρ) (funext λx=>?_);cases x <;> rfl
def ni(n:Int):ZcQ (.int n)=.ret (.int<|-n):=rfl
def ZaA(x:ES):Tr Bool:=Tr.of<|qj x
def lT:cN i ρ=(i ρ).bind ZaA:=rfl
def lM(b:Bool):ZaA (.bool b)=.ret b:=rfl
def jY(x:ES):Tr Bool:=Tr.of<|ZaC x
def lS:pU i ρ=(i ρ).bind jY:=rfl
def lR(b:Bool):jY (.bool b)=.ret b:=rfl
def lQ(n:Int):jY (.int n)=.ret (n != 0):=rfl
def lP:jY (.list xs)=.ret (!xs.isEmpty):=rfl
def lN:jY (.tuple xs)=.ret (!xs.isEmpty):=rfl
def lO:jY .none=.ret false:=rfl
def zf(q:Dk)(ρ:Dz)(b:Bool):Tr Bool:=if b=true then q ρ else .ret false
def xB(q:Dk)(ρ:Dz)(b:Bool):Tr Bool:=if b=true then .ret true else q ρ
def ZcN(b:Bool):Tr Bool:=.ret<|!b
def ph:zy p q ρ=(p ρ).bind (zf q ρ):=rfl
def mY:vq p q ρ=(p ρ).bind (xB q ρ):=rfl
def ng:rO p ρ=(p ρ).bind ZcN:=rfl
def pf:zf q ρ true=q ρ:=rfl
def pg:zf q ρ false=.ret false:=rfl
def mW:xB q ρ true=.ret true:=rfl
def mX:xB q ρ false=q ρ:=rfl
def m8(b:Bool):ZcN b=.ret (!b):=rfl
def ze(j:Di)(ρ:Dz)(b:Bool):Tr ES:=if b=true then j ρ else .ret<|.bool false
def pe:zx i j ρ=(cN i ρ).bind (ze j ρ):=rfl
def pb:ze j ρ true=j ρ:=rfl
def pc:ze j ρ false=.ret (.bool false):=rfl
def yl(i j:Di)(ρ:Dz)(b:Bool):Tr ES:=if b=true then i ρ else j ρ
def oo:zt p i j ρ=(p ρ).bind (yl i j ρ):=rfl
def om:yl i j ρ true=i ρ:=rfl
def on:yl i j ρ false=j ρ:=rfl
def yM(x:ES)(xs:Dt):Tr Dt:=.ret (x::xs)
def ZeJ(is:Dj)(ρ:Dz)(x:ES):Tr Dt:=(is ρ).bind<|yM x
def nh:ao ρ=.ret []:=rfl
def oM:af i is ρ=(i ρ).bind (ZeJ is ρ):=rfl
def oK:ZeJ is ρ x=(is ρ).bind (yM x):=rfl
def oJ:yM x xs=.ret (x::xs):=rfl
def v6(xs:Dt):Tr ES:=if small xs.length=true then .ret (.tuple xs)else .fail
def lL:bL is ρ=(is ρ).bind v6:=rfl
def lK(h:small xs.length=true):v6 xs=.ret (.tuple xs):=by unfold v6;rw[DD h]
def ZcZ(xs:Dt):Tr ES:=.ret<|.list xs
def ny:bY is ρ=(is ρ).bind ZcZ:=rfl
def nv:ZcZ xs=.ret (.list xs):=rfl
def xQ(xs:Dt):Tr Dt:=if small xs.length=true then .ret xs else .fail
def nD:fX is ρ=(is ρ).bind xQ:=rfl
def nz(h:small xs.length=true):xQ xs=.ret xs:=by unfold xQ;rw[DD h]
def bD{n:Nat}(h:n<=10000):small n=true:=DE<|Ap h<|by decide
def bz(g:EQ ES->ER ES)(xs:Dt):Tr ES:=Tr.of<|g xs
def yN(g:EQ ES->ER Dt)(xs:Dt):Tr Dt:=Tr.of<|g xs
def oS{g:EQ ES->ER ES}:aZ g is ρ=(is ρ).bind (bz g):=rfl
def oO{g:EQ ES->ER Dt}:zu g is ρ=(is ρ).bind (yN g):=rfl
def nH:bz dL [.list xs]=.ret (.int xs.length):=rfl
def iK:bz dL [.tuple xs]=.ret (.int xs.length):=rfl
def pA(n:Int):bz pT [.int n]=.ret (.int<|vf n):=rfl
def nu(m n:Int):bz gN [.int m,.int n]=.ret (.int<|dD m n):=rfl
def nX(n:Int):bz ra [.int n]=.ret (.int n):=rfl
def nY(b:Bool):bz ra [.bool b]=.ret (.int<|if b then 1 else 0):=rfl
def lJ:bz cP [.list xs]=.ret (.tuple xs):=rfl
def lG:bz cP [.tuple xs]=.ret (.tuple xs):=rfl
def rm(h:ja x=true):bz di [x]=.ret (.str x.shown):=by simp[bz,di,h]
def iI(ns:Du):bz cJ [.list<|ns.map .int]=.ret (.int ns.sum):=by unfold bz cJ qP;simp
def fw(ns:Du):bz cJ [.tuple<|ns.map .int]=.ret (.int ns.sum):=by unfold bz cJ qP;simp
def ia(x:ES)(lo:ER Int)(hi:ER Int):Tr ES:=Tr.of<|Za2 x lo hi
def dB(q:fV)(ρ:Dz)(x:ES)(lo:ER Int):Tr ES:=(q ρ).bind<|ia x lo
def sl1(p q:fV)(ρ:Dz)(x:ES):Tr ES:=(p ρ).bind<|dB q ρ x
def lZ{p q:fV}:pV i p q ρ=(i ρ).bind (sl1 p q ρ):=rfl
def lY{p q:fV}:sl1 p q ρ x=(p ρ).bind (dB q ρ x):=rfl
def lX{q:fV}{lo:ER Int}:dB q ρ x lo=(q ρ).bind (ia x lo):=rfl
def lW{lo hi:ER Int}:ia (.list xs) lo hi=.ret (.list<|iL xs lo hi):=rfl
def lV{lo hi:ER Int}:ia (.tuple xs) lo hi=.ret (.tuple<|iL xs lo hi):=rfl
def mT:pX ρ=.ret none:=rfl
def pa1:ES->Tr (ER Int)
 |.int n=>.ret (some n)
 |_=>.fail
def mS:jO i ρ=(i ρ).bind pa1:=by unfold jO;refine DI (Tr.bind<|i ρ) (funext λx=>?_);cases x <;> rfl
def mR(n:Int):pa1 (.int n)=.ret (some n):=rfl
def vZ(xs:Dt):Tr ES:=(Tr.of<|qB xs).bind λys=>.ret<|.tuple ys
def lH:zo is ρ=(is ρ).bind vZ:=rfl
def jv(h:qC lo hi=true):vZ [.int lo,.int hi]=.ret (.tuple<|bh lo hi):=by simp[vZ,qB,h]
def pE:aE ρ=.ret []:=rfl
noncomputable def rL(x:Sl)(xs:Dz):Tr Dz:=.ret (x::xs)
def vh(as:EQ Sl->Tr Dz)(ρ:Dz)(x:ES):Tr Dz:=(as ρ).bind<|rL<|.d x
def pF:ah i as ρ=(i ρ).bind (vh as ρ):=rfl
def pH:vh as ρ x=(as ρ).bind (rL<|.d x):=rfl
def pG{xs:Dz}:rL sl xs=.ret (sl::xs):=rfl
noncomputable def kG:Nat->EQ Sl->Tr Unit
 |0,.pen::_=>.ret ()
 |k+1,_::ρ=>kG k ρ
 |_,_=>.fail
def mO:kG 0 (.pen::ρ)=.ret ():=rfl
def mM:kG (k+1) (sl::ρ)=kG k ρ:=rfl
def aap(as:EQ Sl->Tr Dz)(ρ:Dz)(_:Unit):Tr Dz:=(as ρ).bind<|rL .pen
def pC:cA k as ρ=(kG k ρ).bind (aap as ρ):=by
 have key:∀(k:Nat)(σ:Dz)(as:EQ Sl->Tr Dz)(ρ:Dz),(match σ[k]? with|some Sl.pen=>(as ρ).bind λxs=>Tr.ret (Sl.pen::xs)|_=>Tr.fail)=(kG k σ).bind (aap as ρ):=by
  intro k
  induction k with
  | zero =>
   intro σ as ρ;cases σ with
   |nil=>rfl
   |cons s r=>cases s <;> rfl
  | succ k ih =>
   intro σ as ρ;cases σ with
   |nil=>rfl
   |cons s r=>exact ih r as ρ
 exact key k ρ as ρ
def pB(u:Unit):aap as ρ u=(as ρ).bind (rL .pen):=rfl
def oT:aD f as ρ=(as ρ).bind f:=rfl
def re1(r:Re):Tr ES:=.ret r.val
def mL:aG f ρ=(f ρ).bind re1:=rfl
def mK(r:Re):re1 r=.ret r.val:=rfl
def oI{as:Dz}(h:as.length=n):bd n k s as=(s<|as++List.replicate k .un).bind uL:=by unfold bd;rw[DD<|DE h]
def oz:uL (.next ρ)=.ret (.d .none):=rfl
def oy(r:Re):uL (.ret r)=.ret r:=rfl
def qw(t:Dl):Ou->Tr Ou
 |.next ρ=>t ρ
 |o=>.ret o
def mj:av s t ρ=(s ρ).bind (qw t):=by unfold av;refine DI (Tr.bind<|s ρ) (funext λo=>?_);cases o <;> rfl
def mf:qw t (.next ρ)=t ρ:=rfl
def me(r:Re):qw t (.ret r)=.ret (.ret r):=rfl
def mi:qw t (.brk ρ)=.ret (.brk ρ):=rfl
def mh:qw t (.cont ρ)=.ret (.cont ρ):=rfl
def l4:eJ ρ=.ret (.next ρ):=rfl
def yi(s t:Dl)(ρ:Dz)(b:Bool):Tr Ou:=if b=true then s ρ else t ρ
def oa:eK p s t ρ=(p ρ).bind (yi s t ρ):=rfl
def n6:yi s t ρ true=s ρ:=rfl
def n8:yi s t ρ false=t ρ:=rfl
def ZbO(x:ES):Tr Ou:=.ret<|.ret<|.d x
def mJ:bF i ρ=(i ρ).bind ZbO:=rfl
def mI:ZbO x=.ret (.ret<|.d x):=rfl
def ZbN(xs:Dt):Tr Ou:=.ret<|.ret<|.own xs
def mH:iV is ρ=(is ρ).bind ZbN:=rfl
def mG:ZbN xs=.ret (.ret<|.own xs):=rfl
def ZbM(r:Re):Tr Ou:=.ret<|.ret r
def mF:rN f ρ=(f ρ).bind ZbM:=rfl
def mE(r:Re):ZbM r=.ret (.ret r):=rfl
def mD:gB 0 (.d x::ρ)=.ret (.ret<|.d x):=rfl
def mC:gB 0 (.own xs::ρ)=.ret (.ret<|.own xs):=rfl
def mB:gB (k+1) (sl::ρ)=gB k ρ:=rfl
def sE(k:Nat)(ρ:Dz)(x:ES):Tr Ou:=.ret<|.next<|ρ.set k<|.d x
def md:aU k i ρ=(i ρ).bind (sE k ρ):=rfl
def ma:sE k ρ x=.ret (.next<|ρ.set k<|.d x):=rfl
def Zbb(k:Nat)(ρ:Dz)(x:Dt):Tr Ou:=.ret<|.next<|ρ.set k<|.own x
def l9:iU k is ρ=(is ρ).bind (Zbb k ρ):=rfl
def l8:Zbb k ρ xs=.ret (.next<|ρ.set k<|.own xs):=rfl
def kX{a b:α}{r:EQ α}:(a::r).set 0 b=b::r:=rfl
def kW{a b:α}{r:EQ α}:(a::r).set (k+1) b=a::r.set k b:=rfl
def yX(g:Dq)(k:Nat)(ρ:Dz)(x y:ES):Tr Ou:=(aL g x y).bind<|sE k ρ
def Zfb(g:Dq)(k:Nat)(i:Di)(ρ:Dz)(x:ES):Tr Ou:=(i ρ).bind<|yX g k ρ x
def oY{g:Dq}:jQ g k i ρ=(aa k ρ).bind (Zfb g k i ρ):=rfl
def oX{g:Dq}:Zfb g k i ρ x=(i ρ).bind (yX g k ρ x):=rfl
def oW{g:Dq}:yX g k ρ x y=(aL g x y).bind (sE k ρ):=rfl
def oq(m n:Int):aL rb (.int m) (.int n)=.ret (.int<|m+n):=rfl
def nZ{m n:Int}(h1:fit m=true)(h2:fit n=true):aL la (.int m) (.int n)=.ret (.int<|m*n):=by simp[aL,la,h1,h2]
noncomputable def gk:Nat->EQ Sl->Tr Dt
 |0,.own xs::_=>.ret xs
 |k+1,_::ρ=>gk k ρ
 |_,_=>.fail
def mV:gk 0 (.own xs::ρ)=.ret xs:=rfl
def mU:gk (k+1) (sl::ρ)=gk k ρ:=rfl
theorem qL{β:Type}{g:EQ ES->Tr β}:∀(k:Nat)(σ:Dz),(match σ[k]? with|some (Sl.own xs)=>g xs|_=>Tr.fail)=(gk k σ).bind g
 |0,[]=>rfl
 |0,s::r=>by cases s <;> rfl
 |k+1,[]=>rfl
 |k+1,s::r=>qL k r
def u9(k:Nat)(ρ:Dz)(xs:Dt)(x:ES):Tr Ou:=if small (xs.length+1)=true then .ret (.next<|ρ.set k<|.own<|xs++[x])else .fail
def Zfj(k:Nat)(i:Di)(ρ:Dz)(xs:Dt):Tr Ou:=(i ρ).bind<|u9 k ρ xs
def o9:p6 k i ρ=(gk k ρ).bind (Zfj k i ρ):=qL k ρ
def o7:Zfj k i ρ xs=(i ρ).bind (u9 k ρ xs):=rfl
def o6(h:small (xs.length+1)=true):u9 k ρ xs x=.ret (.next<|ρ.set k<|.own<|xs++[x]):=by unfold u9;rw[DD h]
def ZbL(k:Nat)(ρ:Dz)(xs:Dt):Tr Ou:=.ret<|.next<|ρ.set k<|.own xs.reverse
def mz:pW k ρ=(gk k ρ).bind (ZbL k ρ):=qL k ρ
def my:ZbL k ρ xs=.ret (.next<|ρ.set k<|.own xs.reverse):=rfl
def ot:pZ k s ρ=s (fz k ρ):=rfl
def lq:fz 0 (.own xs::ρ)=.d (.list xs)::ρ:=rfl
def lr:fz 0 (.d x::ρ)=.d x::ρ:=rfl
def lp:fz 0 (.pen::ρ)=.pen::ρ:=rfl
def lm:fz 0 (.un::ρ)=.un::ρ:=rfl
def lu:fz (k+1) (sl::ρ)=sl::fz k ρ:=by
 unfold fz;rw[AH];cases h:ρ[k]? with
 |none=>rfl
 |some s=>cases s <;> rfl
def xG(ρ:Dz):Tr Ou:=.ret<|.next ρ
def Zfd(g:Dp)(ρ:Dz)(x:ES):Tr Ou:=(Tr.of<|g x ρ).bind xG
def o5:gY g i ρ=(i ρ).bind (Zfd g ρ):=rfl
def oZ:Zfd g ρ x=(Tr.of<|g x ρ).bind xG:=rfl
def mZ:xG ρ=.ret (.next ρ):=rfl
def lg:aj k x ρ=some (ρ.set k<|.d x):=rfl
def le:bB gs (.tuple xs) ρ=gs xs ρ:=rfl
def lh:bx [] ρ=some ρ:=rfl
def lj:aK g gs (x::xs) ρ=(g x ρ).bind (gs xs):=rfl
def lf{a:α}{g:α->ER β}:(some a).bind g=g a:=rfl
noncomputable def ZcG(k n:Nat)(ρ:Dz):EQ ES->Tr Ou
 | [x,y]=>.ret (.next<|(ρ.set k<|.d x).set n<|.d y)
 |_=>.fail
def mQ:jN k n is ρ=(is ρ).bind (ZcG k n ρ):=by
 unfold jN;refine DI (Tr.bind<|is ρ)<|funext λxs=>?_
 match xs with
 | []=>rfl
 | [_]=>rfl
 | [_,_]=>rfl
 |_::_::_::_=>rfl
def mP:ZcG k n ρ [x,y]=.ret (.next<|(ρ.set k<|.d x).set n<|.d y):=rfl
def cH(x:ES):Tr Dt:=Tr.of<|fP x
def nW:bZ i ρ=(i ρ).bind cH:=rfl
def nV:cH (.list xs)=.ret xs:=rfl
def nU:cH (.tuple xs)=.ret xs:=rfl
def fe(xs:Dt):Tr Dt:=Tr.of<|qD xs
def ky(xs:Dt):Tr Dt:=Tr.of<|kw xs
def mv:fG is ρ=(is ρ).bind fe:=rfl
def mr:jM is ρ=(is ρ).bind ky:=rfl
def eC{n:Int}(h1:-1000000000000<=n)(h2:n<=1000000000000):eD n=true:=DE<|by omega
def gR{n:Int}(h:eD n=true):fe [.int n]=.ret (bh 0 n):=by simp[fe,qD,h]
def uM{m n:Int}(h1:eD m=true)(h2:eD n=true):ky [.int m,.int n]=.ret (bh m n):=by simp[ky,kw,h1,h2]
def vL(xs:Dt)(ys:Dt):Tr Dt:=.ret<|hX xs ys
def vM(y:ES)(xs:Dt):Tr Dt:=(cH y).bind<|vL xs
def vN(x y:ES):Tr Dt:=(cH x).bind<|vM y
def Zac(j:Di)(ρ:Dz)(x:ES):Tr Dt:=(j ρ).bind<|vN x
def lD:vm i j ρ=(i ρ).bind (Zac j ρ):=rfl
def lC:Zac j ρ x=(j ρ).bind (vN x):=rfl
def lB:vN x y=(cH x).bind (vM y):=rfl
def lA:vM y xs=(cH y).bind (vL xs):=rfl
def lz:vL xs ys=.ret (hX xs ys):=rfl
def yy(xs:Dt):Tr Dt:=.ret<|eE xs
def ZdW(x:ES):Tr Dt:=(cH x).bind yy
def oF:jP i ρ=(i ρ).bind ZdW:=rfl
def oH:ZdW x=(cH x).bind yy:=rfl
def oG:yy xs=.ret (eE xs):=rfl
def ZdK(g:Dp)(s:Dl)(ρ:Dz)(xs:Dt):Tr Ou:=cI g s xs ρ
def ow:dQ is g s ρ=(is ρ).bind (ZdK g s ρ):=rfl
def ou:ZdK g s ρ xs=cI g s xs ρ:=rfl
def ZdJ(g:Dp)(s:Dl)(xs:Dt):Ou->Tr Ou
 |.next ρ=>cI g s xs ρ
 |.cont ρ=>cI g s xs ρ
 |.brk ρ=>.ret (.next ρ)
 |.ret r=>.ret<|.ret r
def rf(g:Dp)(s:Dl)(xs:Dt)(ρ:Dz):Tr Ou:=(s ρ).bind<|ZdJ g s xs
def lw:cI g s [] ρ=.ret (.next ρ):=rfl
def yu:cI g s (x::xs) ρ=(Tr.of<|g x ρ).bind (rf g s xs):=by rw[cI];refine DI (Tr.bind<|Tr.of<|g x ρ) (funext λρ1=>?_);unfold rf;refine DI (Tr.bind<|s ρ1) (funext λo=>?_);cases o <;> rfl
def yx:ZdJ g s xs (.next ρ)=cI g s xs ρ:=rfl
def bP(g:Dp)(el:Di)(τ:Dz)(x:ES):Tr ES:=(Tr.of<|g x τ).bind el
def xV(n:Nat)(ix:EQ Nat)(g:Dp)(el:Di)(ρ:Dz)(xs:Dt):Tr Dt:=if small xs.length=true then aX (bP g el<|blk n ix ρ) xs else .fail
def nR{ix:EQ Nat}:bV is n ix g i ρ=(is ρ).bind (xV n ix g i ρ):=rfl
def nQ{ix:EQ Nat}(h:small xs.length=true):xV n ix g i ρ xs=aX (bP g i<|blk n ix ρ) xs:=by unfold xV;rw[DD h]
def nO:bP g i τ x=(Tr.of<|g x τ).bind i:=rfl
theorem ZcV{h:ES->Tr ES}{n:Nat}{P:ES->Prop}:∀{xs:Dt},(∀x∈xs,(h x).all n P)->(aX h xs).all (xs.length*n) λys=>ys.length=xs.length/\∀y∈ys,P y
 | [],_=>⟨rfl,λy hy=>by cases hy⟩
 | x::xs,hx=>by
  have e:(x::xs).length*n=n+(xs.length*n+0):=by rw[Ac,BM];omega
  rw[e,aX];refine Tr.all_bind (hx x<|by simp) λy hy=>Tr.all_bind (ZcV λz hz=>hx z<|Ab _ hz) λys hys=>?_
  exact⟨by simp[hys.1],λz hz=>by
   rcases Au.mp hz with rfl|hz
   ·exact hy
   ·exact hys.2 z hz⟩
theorem ZdI{g:Dp}{n:Nat}(I:EQ ES->EQ Sl->Prop){Q:Ou->Prop} :
  ∀{xs pre:Dt}{ρ:Dz},I pre ρ->(∀pre x post ρ,pre++x::post=pre++x::post->I pre ρ->x∈xs->∃ρ1,g x ρ=some ρ1/\(s ρ1).all n λo=>∃ρ2,o=.next ρ2/\I (pre++[x]) ρ2)->(∀ρ,I (pre++xs) ρ->Q (.next ρ))->(cI g s xs ρ).all (xs.length*n) Q
 | [],pre,ρ,h0,_,hq=>hq ρ (by rw[AI];exact h0)
 | x::xs,pre,ρ,h0,ht,hq=>by
  obtain⟨ρ1,e,ha⟩:=ht pre x xs ρ rfl h0 (by simp)
  have en:(x::xs).length*n=n+xs.length*n:=by rw[Ac,BM];omega
  rw[en,yu,e,Tr.of_some,Tr.ret_bind];unfold rf;refine Tr.all_bind ha λo ⟨ρ2,eo,h2⟩=>?_;subst eo;rw[yx];exact ZdI I h2 (λpre y post ρ e h hy=>ht pre y post ρ e h<|Ab _ hy)<|λρ h=>hq ρ<|by rw[A2]at h;exact h
def ZlB{w:Int}{k:Int->Tr α}{n:Nat}{P:α->Prop}(h1:0<w)(h2:w<1073741824)(h:∀r,0<=r->r<w->(k r).all n P):(Tr.draw w k).all (n+1) P:=⟨h1,h2,h⟩
def xM(y:ES)(ys:Dt):Tr Dt:=.ret (y::ys)
def mt1(h:ES->Tr ES)(xs:Dt)(y:ES):Tr Dt:=(aX h xs).bind<|xM y
def kO{h:ES->Tr ES}:aX h []=.ret []:=rfl
def kP{h:ES->Tr ES}{x:ES}{xs:Dt}:aX h (x::xs)=(h x).bind (mt1 h xs):=rfl
def kR{h:ES->Tr ES}{y:ES}{xs:Dt}:mt1 h xs y=(aX h xs).bind (xM y):=rfl
def kQ{y:ES}{ys:Dt}:xM y ys=.ret (y::ys):=rfl
def pick{xs:EQ α}{r:Int}(h0:0<=r)(h1:r<xs.length):∃v,ba xs r=some v/\v∈xs:=by
 have h:r.toNat<xs.length:=by omega
 exact⟨xs[r.toNat],gy h0<|by simp[h],BH h⟩
def ZjL{xs:EQ α}(h:xs.length=7):∃a b c d e f g,xs=[a,b,c,d,e,f,g]:=by
 rcases xs with _|⟨a,_|⟨b,_|⟨c,_|⟨d,_|⟨e,_|⟨f,_|⟨g,_|⟨k,xs⟩⟩⟩⟩⟩⟩⟩⟩
 ·cases h
 ·cases h
 ·cases h
 ·cases h
 ·cases h
 ·cases h
 ·cases h
 ·exact⟨a,b,c,d,e,f,g,rfl⟩
 ·exact absurd h<|by simp
end L2
namespace L2
@[irreducible] def Al(t:Tr α)(n:Nat)(P:α->Prop):Prop:=t.all n P
section
variable{t:Tr α}{n n' N:Nat}{P:α->Prop}{P':β->Prop}
def Al.of(h:t.all n P):Al t n P:=by unfold Al;exact h
def Al.out(h:Al t n P):t.all n P:=by unfold Al at h;exact h
def cp{a:α}(h:P a):Al (.ret a) n P:=.of h
def dw{w:Int}{k:Int->Tr α}(h1:0<w)(h2:w<1073741824)(hN:n+1<=N)(h:∀r,0<=r->r<w->Al (k r) n P):Al (.draw w k) N P:=.of<|Tr.all_mono (ZlB h1 h2 λr a b=>(h r a b).out) hN λ_ h=>h
def cY{f:α->Tr β}(h:Al t n P)(hN:n+n'<=N)(hf:∀a,P a->Al (f a) n' P'):Al (t.bind f) N P':=.of<|Tr.all_mono (Tr.all_bind h.out λa ha=>(hf a ha).out) hN λ_ h=>h
def rJ{Q:α->Prop}(h:Al t n P)(hN:n<=N)(hq:∀a,P a->Q a):Al t N Q:=.of<|Tr.all_mono h.out hN hq
def Zfo{s:Dl}{xs:Dt}{Q:Ou->Prop}(I:EQ Sl->Prop)(h0:I ρ)(hN:xs.length*n<=N)(ht:∀x ρ,x∈xs->I ρ->∃ρ1,g x ρ=some ρ1/\Al (s ρ1) n λo=>∃ρ2,o=.next ρ2/\I ρ2)(hq:∀ρ,I ρ->Q (.next ρ)):Al (cI g s xs ρ) N Q :=
 .of (Tr.all_mono (ZdI (λ_ ρ=>I ρ) (pre:=[]) h0 (λpre x post ρ _ h hx=>let ⟨ρ1,e,a⟩:=ht x ρ hx h;⟨ρ1,e,a.out⟩) λρ h=>hq ρ h) hN λ_ h=>h)
def zg{h:ES->Tr ES}{P:ES->Prop}{xs:Dt}{Q:EQ ES->Prop}(hN:xs.length*n<=N)(hx:∀x∈xs,Al (h x) n P)(hq:∀ys,ys.length=xs.length->(∀y∈ys,P y)->Q ys):Al (aX h xs) N Q :=
 .of (Tr.all_mono (ZcV λx m=>(hx x m).out) hN λys ⟨a,b⟩=>hq ys a b)
end
def fQ(lo hi:Int)(x:ES):Prop:=∃z:Int,x=.int z/\lo<=z/\z<=hi
def cB:(bh lo hi).length=(hi-lo).toNat:=by unfold bh;rw[v9,c5]
def Zcz{xs:Dt}{r:Int}(h:∀x∈xs,fQ lo hi x)(h0:0<=r)(h1:r<xs.length):∃z:Int,ba xs r=some (.int z)/\lo<=z/\z<=hi:=by obtain⟨v,e,m⟩:=pick h0 h1;obtain⟨z,rfl,a,b⟩:=h v m;exact⟨z,e,a,b⟩
end L2
namespace L2
variable{PK:Pk}{a b c e:E1}{es:EQ E1}{pos:Pos}{l:Di}{p q:Dk}{st:E3}
noncomputable def eT:ES->Bool
 |.none=>true
 |.bool _=>true
 |.int _=>true
 |.str _=>true
 |_=>false
variable{PK:Pk}{a b c e:E1}{es:EQ E1}{pos:Pos}{l:Di}{as:EQ Sl->Tr Dz}
structure PkLow(PK:Pk):Prop where
 low:∀{o o':HO}{G G':Hp}{m m':Nat},PK.is o G m->Sub G G'->PK.is o' G' m'->PK.is o' G m'
inductive ArB(pa:EV)(G H:Hp):V->Sl->Prop
 |ok {v:V} {s:Sl}:ArOk pa G v s->ArB pa G H v s
 |own {p:EV} {vs:Dx} {xs:Dt}:H p=some (.lst vs)->G p=none->pa≠p->DnAll G vs xs->ArB pa G H (.ref p) (.d<|.list xs)
inductive ArsB(pa:EV)(G H:Hp):List V->List Sl->Prop
 |nil:ArsB pa G H [] []
 |cons {v:V} {vs:Dx} {s:Sl} {ss:Dz}:ArB pa G H v s->ArsB pa G H vs ss->ArsB pa G H (v::vs) (s::ss)
def ArB.step{pa:EV}{s:Sl}(h:ArB pa G H v s)(st:Stp pa G H G' H'):ArB pa G' H' v s:=by
 cases h with
 |ok h=>exact .ok (h.mono st.gs)
 | @own p vs xs h1 h2 h3 h4 =>
  refine .own (st.hk _ _ h1<|Ne.symm h3) ?_ h3<|DnAll.mono st.gs h4;cases e:G' p with
  |none=>rfl
  | some u =>
   rcases st.gn p u e with z|z|⟨_,_,z⟩
   ·rw[h2]at z;cases z
   ·rw[h1]at z;cases z
   ·rw[h1]at z;cases z
theorem ArsB.ok{pa:EV}{m:Nat}{G H:Hp}:∀{vs:Dx}{ss:Dz}{G1:Hp},Sub G G1->Wd PK pa m G1 H->ArsB pa G H vs ss->∃G2,Sub G1 G2/\Wd PK pa m G2 H/\ArsOk pa G2 vs ss
 |_,_,G1,_,w,.nil=>⟨G1,λ_ _ h=>h,w,.nil⟩
 | _,_,G1,sb,w,.cons h t=>by
  obtain⟨G2,s2,w2,t2⟩:=ArsB.ok sb w t;cases h with
  |ok h=>exact⟨G2,s2,w2,.cons (h.mono<|sb.trans s2) t2⟩
  | @own p vs xs h1 h2 h3 h4 =>
   cases e:G2 p with
   | none =>
    have s3:Sub G2 (upd G2 p<|.lst vs):=Sub.new e;exact⟨upd G2 p<|.lst vs,s2.trans s3,w2.freeze h1 e h3,.cons (.d<|.lst bv<|DnAll.mono ((sb.trans s2).trans s3) h4)<|ArsOk.mono s3 t2⟩
   | some u =>
    have:=w2.sub p u e;rw[h1]at this;cases this;exact⟨G2,s2,w2,.cons (.d<|.lst e<|DnAll.mono (sb.trans s2) h4) t2⟩
def TAb(PK:Pk)(i:EQ Sl->Tr Dz):TA:=λσ H Q=>∃pa DA H₀ m ρ G,Rl PK pa DA H₀ m σ ρ G H/\(i ρ).ok m λm' as=>∀vs G' H',Stp pa G H G' H'->Wd PK pa m' G' H'->ArsB pa G' H' vs as->Q vs H'
def TAb.then{k:EQ Sl->Tr β}{Z:Nat->β->Prop}{Q:EQ V->Hp->Prop}{pa:EV}(R:Rl PK pa DA H₀ m σ ρ G H)(h:((as ρ).bind k).ok m Z)
  (hq:∀m1 xs vs G1 H1,Stp pa G H G1 H1->Wd PK pa m1 G1 H1->Rl PK pa DA H₀ m1 σ ρ G1 H1->ArsB pa G1 H1 vs xs->(k xs).ok m1 Z->Q vs H1):TAb PK as σ H Q:=by refine⟨pa,DA,H₀,m,ρ,G,R,Tr.ok_mono (Tr.ok_bind.mp h) λm1 x hx v G1 H1 s1 w1 d1=>?_⟩;exact hq m1 x v G1 H1 s1 w1 (R.step s1 w1) d1 hx
def Zn5:PA X [] (TAb PK aE):=cL.imp λσ H Q E4=>by obtain⟨pa,DA,H₀,m,ρ,G,R,z⟩:=E4;exact z [] G H .refl R.wd .nil
noncomputable def vg(k:Nat)(as:EQ Sl->Tr Dz):EQ Sl->Tr Dz:=λρ=>match ρ[k]? with
 |some (.own xs)=>(as ρ).bind λys=>.ret (.d (.list xs)::ys)
 |some (.d x)=>(as ρ).bind λys=>.ret (.d x::ys)
 |_=>.fail
def Zn6(ha:PE X e (fb k))(hr:PA X es (TAb PK as))(hs:starEach (e::es) X.env=(false,eval e X.env)::starEach es X.env:=by rfl):PA X (e::es) (TAb PK<|vg k as):=(ci ha hr hs).imp λσ H Q E4=>by
 obtain⟨pa,DA,H₀,m,ρ,G,R,z⟩:=E4;unfold vg at z
 split at z
 ·rename_i xs hk;obtain⟨o,h1,h2⟩:=R.sl k _ hk;cases h2 with
  | @own p vs _ a1 a2 a3 a4 =>
   have E8:pa≠p:=λe=>by obtain⟨u,hu⟩:=R.p0;rw[e,a3]at hu;cases hu
   refine⟨_,h1,?_⟩;refine TAb.then R z λm2 ys ws G2 H2 s2 w2 R2 d2 q2=>?_;exact q2 _ _ _ s2 w2<|.cons ((ArB.own a1 a2 E8 a4).step s2) d2
 ·rename_i x hk;obtain⟨o,h1,h2⟩:=R.sl k _ hk;cases h2 with
  | d d1 =>
   refine⟨_,h1,?_⟩;refine TAb.then R z λm2 ys ws G2 H2 s2 w2 R2 d2 q2=>?_;exact q2 _ _ _ s2 w2<|.cons (.ok<|.d<|d1.mono s2.gs) d2
 ·exact z.elim
def Dn.flat_any{x:ES}(h:Dn G v x)(f:eT x=true):Dn G' v x:=by
 cases h with
 |non=>exact .non
 |bl b=>exact .bl b
 |int i=>exact .int i
 |str s=>exact .str s
 |_=>cases f
variable{xs:Dt}{x:ES}{sl:Sl}
noncomputable def jr:Nat->EQ Sl->Tr ES
 |0,.own xs::_=>.ret (.list xs)
 |0,.d x::_=>.ret x
 |k+1,_::ρ=>jr k ρ
 |_,_=>.fail
def nI:jr 0 (.own xs::ρ)=.ret (.list xs):=rfl
def nJ:jr 0 (.d x::ρ)=.ret x:=rfl
def nF:jr (k+1) (sl::ρ)=jr k ρ:=rfl
def nE:vg k as ρ=(jr k ρ).bind (vh as ρ):=by
 have key:∀(k:Nat)(σ:Dz)(as:EQ Sl->Tr Dz)(ρ:Dz),(match σ[k]? with|some (.own xs)=>(as ρ).bind λys=>Tr.ret (Sl.d (.list xs)::ys)|some (.d x)=>(as ρ).bind λys=>Tr.ret (Sl.d x::ys)|_=>Tr.fail)=(jr k σ).bind (vh as ρ):=by
  intro k
  induction k with
  | zero =>
   intro σ as ρ;cases σ with
   |nil=>rfl
   |cons s r=>cases s <;> rfl
  | succ k ih =>
   intro σ as ρ;cases σ with
   |nil=>rfl
   |cons s r=>exact ih r as ρ
 exact key k ρ as ρ
def Zmz{prog:EW}{w:EX}{A:EY}{R:Result->EU->Prop}{s:EU}{elt target iter cnd:E1}{scope:Scope}{pos:Pos}{it acc:ET}{env:Env}(J:Nat->EU->Prop)
  (step:∀k s0,J k s0->wpAny (model prog w) A (pyNext it) (λgot s1=>match got with
   |none=>R (.ok .next) s1
   | some v=>wpAny (model prog w) A (letOwnedTupleGo target it v) (λ_ s2=>wpAny (model prog w) A (assign target env v) (λ_ s3=>wpAny (model prog w) A (isTrue cnd env<|eval cnd env) (λok s3'=>if ok=true then wpAny (model prog w) A (eval elt env) (λy s4 =>
     wpAny (model prog w) A (call (.builtin "list.append") [acc,y]) (λ_ s5=>∃j,j<k/\J j s5) (λ_ _=>False) s4) (λ_ _=>False) s3' else ∃j,j<k/\J j s3') (λ_ _=>False) s3) (λ_ _=>False) s2) (λ_ _=>False) s1) (λ_ _=>False) s0)
  (k:Nat) (h:J k s):codeAny (model prog w) A (.compLoop (.ListComp elt [⟨target,iter,[cnd],0⟩] scope pos) 0 it acc env) R s:=by
 refine Ez rfl J (λk0 s0 hJ=>?_) k h;show wpAny _ _ ((compTurn (.ListComp elt [⟨target,iter,[cnd],0⟩] scope pos) 0 it acc env).onRaise<|λx=>do noteFrame x env;theTreesLotGoes x) _ _ s0
 apply EF;rw[compTurn_list];refine wp (DR<|wp<|DJ (step k0 s0 hJ) (λgot s1 h1=>?_) λ_ _ z=>z.elim);cases got with
 |none=>exact DB h1
 | some v =>
  refine wp (DJ h1 (λ_ s2 h2=>?_) λ_ _ z=>z.elim);refine wp (DJ h2 (λ_ s3 h3=>?_) λ_ _ z=>z.elim);refine wp (DJ (wpAny_tests_one h3) (λok s3' h3'=>?_) λ_ _ z=>z.elim);cases ok with
  |false=>exact DB ⟨rfl,h3'⟩
  | true =>
   refine wp (wp<|DJ h3' (λy s4 h4=>?_) λ_ _ z=>z.elim);exact wp<|DJ h4 (λ_ s5 h5=>DB<|DB ⟨rfl,h5⟩) λ_ _ z=>z.elim
def v8(wi:TI)(n:Nat)(ix:EQ Nat)(g:Blk->TG)(tc:Blk->TT)(te:Blk->TE):TE:=λσ H Q=>wi σ H λJ H1=>∀b:Blk,∃W:Nat->Nat->St->EQ V->Hp->Prop,(∃m,W 0 m (cQ n ix σ) [] H1)/\∀i m τ ys H2,W i m τ ys H2 ->
 (J.stop i H2/\∀p v H',H2 p=none->v=V.ref p->H'=upd H2 p (.lst ys)->Q v H') \/
 (J.go i H2/\ys.length<sizeLine/\∀x H3,J.yld i H2 x H3->g b x τ H3 λτ2 H4=>tc b τ2 H4 λok H4'=>if ok=true then te b τ2 H4' λy H5=>∃m',m'<m/\W (i+1) m' τ2 (ys++[y]) H5 else ∃m',m'<m/\W (i+1) m' τ2 ys H4')
section
variable{pins:EQ (EV×Obj)}{s:EU}
def ZjV{elt target iter cnd:E1}{scope:Scope}{pos:Pos}{Nx ts:Dw}{ix:EQ Nat}{g:Blk->TG}{tc:Blk->TT}{te:Blk->TE}{cl:EQ (Str×EV)}{s2:EU}{itv:ET}{R:ET->EV->Result->EU->Prop}
  {E:Ds} {Q:VK}
  (hc:X.calm=true) (hg:∀b,PG (aP X (bN Nx ts ix) scope b) target<|g b) (hcn:∀b,PT (aP X (bN Nx ts ix) scope b) cnd<|tc b) (he:∀b,PE (aP X (bN Nx ts ix) scope b) elt<|te b)
  (Fj:X.N=Nx) (ok:BlkOk Nx X.env.scope scope ix) (cl1:∀x c,cl.lookup x=some c->X.env.cells.lookup x=some c) (cl2:∀y∈scope.names,y.2=.free->∃c,cl.lookup y.1=some c)
  (h2:p8 X pins σ target (λJ H1=>∀b:Blk,∃W:Nat->Nat->St->EQ V->Hp->Prop,(∃m,W 0 m (cQ ts.length ix σ) [] H1)/\∀i m τ ys H2,W i m τ ys H2 ->
   (J.stop i H2/\∀p v H',H2 p=none->v=V.ref p->H'=upd H2 p (.lst ys)->Q v H') \/
   (J.go i H2/\ys.length<sizeLine/\∀x H3,J.yld i H2 x H3->g b x τ H3 λτ2 H4=>tc b τ2 H4 λok H4'=>if ok=true then te b τ2 H4' λy H5=>∃m',m'<m/\W (i+1) m' τ2 (ys++[y]) H5 else ∃m',m'<m/\W (i+1) m' τ2 ys H4')) itv s2)
  (hR:rY X pins σ Q R) :
  wpAny (model X.prog X.w) X.A (newList []) (λacc s₃=>wpAny (model X.prog X.w) X.A (newFunctionEnv scope X.env.globals cl [] X.env.qual none .none<|some X.env) (λcenv s₄ =>
   codeAny (model X.prog X.w) X.A (.compStart (.ListComp elt [⟨target,iter,[cnd],0⟩] scope pos) 0 itv acc {cenv with scope:=relabel scope X.env}) (R acc cenv.locals) s₄) E s₃) E s2:=by
 obtain⟨it,fp,tn,J,H1,e,I2,T,st2,f2,q2⟩:=h2;subst e;refine DH<|r6 ?_;dsimp only;generalize hG:s2.heap.push {cls:=.type "list",dict:=none,data:=.seq ([]:Dv).toArray}=G;have FD:∀b∈fp,b<s2.heap.objs.size:=λb hb=>let ⟨o,e,_⟩:=T.obj _ _ st2 b hb;An e
 have S:=uX (ts:=ts) Fj ok cl1 cl2 I2 f2 FD hG;generalize pushCells (G.push {cls:=.type "dict",data:=.dict #[]}) scope.names=h3 at S ⊢;generalize cellsFrom (G.objs.size+1) scope.names cl=cs at S ⊢;generalize G.objs.size=C at S ⊢;obtain⟨hC,hDC,I3,kp,hD3,fC,cellIn,pinIn,nofrs,pinD,stat⟩:=S
 let B:Blk:=⟨cs,C,s2,H1,fp,X.pn++pins⟩
 obtain⟨W,⟨m0,w0⟩,turn⟩:=q2 B;have loop:∀s4:EU,s4={s2 with heap:=h3} ->
   codeAny (model X.prog X.w) X.A (.compLoop (.ListComp elt [⟨target,iter,[cnd],0⟩] scope pos) 0 (.ref it) (.ref s2.heap.objs.size)<|compEnvC scope cs C X.env) (R (.ref s2.heap.objs.size) C) s4:=by
  rintro s4 rfl;refine Zmz (λk s'=>∃i τ ys E5 n H',Inv (aP X (bN Nx ts ix) scope B) [(s2.heap.objs.size,({cls:=.type "list",data:=.seq (List.toArray E5) n}:Obj))] τ H' s'/\tn i s'.heap/\(∀b∈fp,H' b=none)/\Vals ys E5/\ys.length<=sizeLine/\W i k τ ys H') ?_ m0
   ⟨0,_,[],[],_,H1,pinD I3 hD3 fC (λv z=>by cases z),T.keep _ _ _ st2 λb hb o e=>kp b o e,λb hb=>(f2 b hb).1,.nil,A0 _,w0⟩
  rintro k s5 ⟨i,τ,ys,E5,n,H5,I5,st5,fr5,rv,hz,w5⟩;rcases turn i k τ ys H5 w5 with ⟨stop,qn⟩|⟨go,E6,step⟩
  ·refine thn (T.done (aP X (bN Nx ts ix) scope B) rfl rfl rfl hc i _ s5 τ H5 _ I5 (stat fr5) st5 stop) λgot s6 E4=>?_;obtain⟨rfl,I6⟩:=E4;exact yV I2 f2 hC hDC pinIn I6 rv hz hR qn
  ·refine thn (T.item (aP X (bN Nx ts ix) scope B) rfl rfl rfl hc i _ s5 τ H5 _ I5 (stat fr5) st5 go) λgot s6 E4=>?_;obtain⟨u,hr,h6⟩:=E4;subst hr;refine thn h6 λ_ s7 E4=>?_;obtain⟨x,H7,I7,r7,y7,st7,fr7⟩:=E4;have I7':=I7.pinned (stat fr7)<|T.obj _ _ st7;refine thn (hg B _ s7 τ H7 x u _ I7' r7<|step x H7 y7) λ_ s8 E4=>?_;obtain⟨τ8,H8,I8,q8⟩:=E4;refine thn (hcn B _ s8 τ8 H8 _ I8 q8) λokk s8' E4=>?_;obtain⟨H8',I8',q8'⟩:=E4;cases okk with
   | false =>
    obtain⟨m',Fv,w9⟩:=q8';obtain⟨ho,hn,_,_,_⟩:=I8'.pin (s2.heap.objs.size,({cls:=.type "list",data:=.seq (List.toArray E5) n}:Obj))<|Ae _<|AR _<|by simp
    have I9':Inv (aP X (bN Nx ts ix) scope B) [] τ8 H8' s8':=I8'.pins_of λp hp=>absurd hp<|by simp
    refine⟨m',Fv,i+1,τ8,ys,E5,n,H8',pinD I9' ho hn (λv z=>by cases z),?_,λb hb=>?_,rv,hz,w9⟩
    ·refine T.keep _ _ _ st7 λb hb o e=>?_;exact(I8'.pin (b,o)<|Ae _<|Ae _<|er hb e).1
    ·obtain⟨o,e,d⟩:=T.obj _ _ st7 b hb;exact(I8'.pin (b,o)<|Ae _<|Ae _<|er hb e).2.1
   |true =>
   refine thn (he B _ s8' τ8 H8' _ I8' q8') λy s9 E4=>?_;obtain⟨vy,H9,I9,r9,m',Fv,w9⟩:=E4;obtain⟨ho,hn,_,_,_⟩:=I9.pin (s2.heap.objs.size,({cls:=.type "list",data:=.seq (List.toArray E5) n}:Obj))<|Ae _<|AR _<|by simp
   have lenv:=rv.length;refine Es (l:=s2.heap.objs.size) ⟨n,ho⟩ (λh' Fc Fq=>?_)<|by rw[Am];omega
   obtain⟨n',Fu⟩:=Fc;have eobj:(E5.toArray.push y)=List.toArray (E5++[y]):=by simp
   rw[eobj]at Fu;have I9':Inv (aP X (bN Nx ts ix) scope B) [] τ8 H9 s9:=I9.pins_of λp hp=>absurd hp<|by simp
   have I10:Inv (aP X (bN Nx ts ix) scope B) [] τ8 H9 {s9 with heap:=h'}:=I9'.turned (it:=s2.heap.objs.size) (t':=s9.toks) (λb o hb e=>(Fq.2 b hb).trans e) hn hDC (.inr<|Ag _) cellIn (λp hp=>by have hp':p∈(X.pn++pins)++[]:=hp;rw[AI]at hp';exact Aw<|pinIn p hp')
   refine⟨m',Fv,i+1,τ8,ys++[vy],E5++[y],n',H9,pinD I10 Fu hn (λv z=>by cases z),?_,λb hb=>?_,rv.append<|.cons r9 .nil,by rw[Aq];show ys.length+1<=_;omega,w9⟩
   ·refine T.keep _ _ _ st7 λb hb o e=>?_;have q:=(I9.pin (b,o)<|Ae _<|Ae _<|er hb e).1;exact(Fq.2 b<|Aw<|FD b hb).trans q
   ·obtain⟨o,e,d⟩:=T.obj _ _ st7 b hb;exact(I9.pin (b,o)<|Ae _<|Ae _<|er hb e).2.1
 exact Ew (loop _ rfl)<|T.self X.A 0 _ _ _ (T.keep _ _ _ st2 λb hb o e=>kp b o e)<|loop _ rfl
def ZiI{elt target iter cnd:E1}{scope:Scope}{pos:Pos}{g:Blk->TG}{tc:Blk->TT}{te:Blk->TE}(Nx:Dw)(ts:Dw)(ix:EQ Nat)
  (hc:X.calm=true) (hi:PI X target iter wi) (hg:∀b,PG (aP X (bN Nx ts ix) scope b) target<|g b) (hcn:∀b,PT (aP X (bN Nx ts ix) scope b) cnd<|tc b) (he:∀b,PE (aP X (bN Nx ts ix) scope b) elt<|te b)
  (Fj:X.N=Nx) (ok:BlkOk Nx X.env.scope scope ix) (hs:∀x,foldedSetIterable iter X.env x=pure x:=by intro _;rfl) :
  PE X (.ListComp elt [⟨target,iter,[cnd],0⟩] scope pos) (v8 wi ts.length ix g tc te):=by intro pins s σ H Q I h;obtain⟨cl,hcl,cl1,cl2⟩:=jE (scope:=scope) (env:=X.env) λy hy hf=>I.ok.has y.1<|ok.frees y hy hf;rw[eval_ListComp];refine DU (use:=none) rfl hs hcl ok.kind ok.locs (thn (hi pins s σ H _ I h) λv s1 h1=>thn h1 λitv s2 h2=>?_);refine ZjV (R:=λacc C=>compPost (model X.prog X.w) X.A X.xe none (EP X pins σ Q) acc C) hc hg hcn he Fj ok cl1 cl2 h2 ?_;rintro D C H' s' v I' rfl q ⟨m,hm⟩ hn hL h0 Fh hp;exact⟨m,hm,λh' Fq=>⟨.ref D,H',I'.turned (it:=C) (t':=s'.toks) (λb o hb e=>(Fq.2 b hb).trans e) hn hL (.inr h0) Fh hp,rfl,q⟩⟩
end
section
variable{PK:Pk}{e:E1}{st:E3}{p:Dk}
noncomputable def tV(y:ER ES)(ys:Dt):Tr Dt:=.ret (match y with
 |some y=>y::ys
 |none=>ys)
def eP(h:ES->Tr (ER ES)):EQ ES->Tr Dt
 | []=>.ret []
 |x::xs=>(h x).bind λy=>(eP h xs).bind<|tV y
noncomputable def gQ(p:Dk)(i:Di)(τ:Dz):Tr (ER ES):=(p τ).bind λok=>if ok=true then (i τ).bind λy=>.ret (some y)else .ret none
def vz(is:Dj)(n:Nat)(ix:EQ Nat)(g:Dp)(p:Dk)(el:Di):Dj:=λρ =>
 (is ρ).bind λxs=>if small xs.length=true then eP (λx=>(Tr.of<|g x<|blk n ix ρ).bind<|gQ p el) xs else .fail
def ZjU{n:Nat}{ix:EQ Nat}(hn:dA n g):∀σ H Q,dR PK (vz is n ix g p i) σ H Q->v8 (cq PK is) n ix (λ_=>b9 PK g) (λ_=>TAt PK p) (λ_=>TAe PK i) σ H Q:=by
 rintro σ H Q ⟨pa,DA,H₀,m,ρ,G,R,z⟩;refine⟨pa,DA,H₀,m,ρ,G,R,Tr.ok_mono (Tr.ok_bind.mp z) λm1 xs k J G1 H1 s1 w1 jo=>λB=>?_⟩;obtain⟨hs,k⟩:=c6 k;have hs:xs.length<=sizeLine:=DC hs
 let el:ES->Tr (ER ES):=λx=>(Tr.of<|g x<|blk n ix ρ).bind<|gQ p i
 let W:Nat->Nat->St->EQ V->Hp->Prop:=λk mm τ ys H2=>mm=xs.length-k/\k<=xs.length/\ys.length<=k/\∃m G2 ds,Sub G1 G2/\Stp pa G H G2 H2/\Rl PK pa DA H₀ m τ (blk n ix ρ) G2 H2 /\
  DnAll G2 ys ds/\(eP el<|xs.drop k).ok m λm' zs=>Ko1 PK pa m' G H (ds++zs) Q
 refine⟨W,⟨xs.length,rfl,A0 _,Ag _,m1,G1,[],.refl,s1,(R.step s1 w1).blk n ix,.nil,k⟩,?_⟩;rintro k mm τ ys H2 ⟨rfl,hk,hy,m2,G2,ds,sb,st2,R2,dn,k2⟩;obtain⟨j1,j2⟩:=jo m2 G2 H2 sb R2.wd;by_cases E6:k<xs.length
 ·have hx:xs[k]?=some xs[k]:=by simp[E6]
  obtain⟨jg,jy⟩:=j1 k _ hx;refine .inr ⟨jg,by omega,λx H3 y=>?_⟩
  obtain⟨G3,s3,w3,d3⟩:=jy x H3 y;rw[Ax E6]at k2;unfold eP at k2;rw[Tr.ok_bind,Tr.ok_bind]at k2;obtain⟨ρ3,hg3,k3⟩:=Tr.ok_of k2;refine⟨pa,DA,H₀,m2,_,G3,_,ρ3,R2.step s3 w3,d3,hg3,λτ4 R4=>?_⟩;obtain⟨pl,pk⟩:=hn _ _ _ hg3;have hback:∀(q:Nat)(sl:Sl),(blk n ix ρ)[q]?=some sl->sl=.un\/ρ3[q]?=some sl:=λq sl hq=>by
   by_cases FF:q<n
   ·left
    unfold blk at hq;rw[At<|by simpa using FF,AG,DD FF]at hq
    cases hq
    rfl
   ·right
    rw[pk q<|Ba FF];exact hq
  unfold gQ at k3;rw[Tr.ok_bind]at k3;refine⟨pa,DA,H₀,m2,ρ3,G3,R4,Tr.ok_mono k3 λm4 ok k4 G4 H4 s4 w4=>?_⟩;have R4':=R4.step s4 w4;have s34:=s3.trans s4 w3.some;cases ok with
  | false =>
   have k4':((eP el<|xs.drop<|k+1).bind<|tV none).ok m4 λm' zs=>Ko1 PK pa m' G H (ds++zs) Q:=k4;refine⟨xs.length-(k+1),by omega,rfl,E6,by omega,m4,G4,ds,sb.trans s34.gs,st2.trans s34 R2.wd.some,R4'.weak pl hback,DnAll.mono s34.gs dn,?_⟩
   exact Tr.ok_mono (Tr.ok_bind.mp k4') λm6 zs k6=>k6
  | true =>
   have k4':((i ρ3).bind λy=>.ret<|some y).ok m4 λm' y=>((eP el<|xs.drop<|k+1).bind<|tV y).ok m' λm' zs=>Ko1 PK pa m' G H (ds++zs) Q:=k4;rw[Tr.ok_bind]at k4';refine⟨pa,DA,H₀,m4,ρ3,G4,R4',Tr.ok_mono k4' λm5 yd k5=>?_⟩;intro v G5 H5 s5 w5 d5;have s35:=s34.trans s5 w4.some;refine⟨xs.length-(k+1),by omega,rfl,E6,by rw[Aq];show ys.length+1<=_;omega,m5,G5,ds++[yd],sb.trans s35.gs,st2.trans s35 R2.wd.some,(R4'.step s5 w5).weak pl hback,(DnAll.mono s35.gs dn).snoc d5,?_⟩
   have k5':((eP el<|xs.drop<|k+1).bind<|tV<|some yd).ok m5 λm' zs=>Ko1 PK pa m' G H (ds++zs) Q:=k5;refine Tr.ok_mono (Tr.ok_bind.mp k5') λm6 zs k6=>?_;rw[A2];exact k6
 ·have e:k=xs.length:=by omega
  subst e;refine .inl ⟨j2,λp v H' hp ev eH=>?_⟩;subst ev eH;rw[AS]at k2;have k2':Ko1 PK pa m2 G H (ds++[]) Q:=k2;rw[AI]at k2';exact(Ko1.later k2' st2 R2.wd.some).new R2.wd dn hp
def ZnM{n:Nat}{ix:EQ Nat}(h:PE X e (v8 (cq PK is) n ix (λ_=>b9 PK g) (λ_=>TAt PK p)<|λ_=>TAe PK i))(hn:dA n g):PE X e (dR PK<|vz is n ix g p i):=h.imp<|ZjU hn
end
def BlkOk.leaf{Nx:Dw}{sc scope:Scope}(h1:scope.kind=.function)(h2:∀y∈scope.names,y.2≠.cell/\y.2≠.free)(h3:∀y∈scope.names,y.2=.local->scope.names.lookup y.1=some .local):BlkOk Nx sc scope [] :=
 ⟨h1,λy hy z=>absurd z (h2 y hy).1,h3,λy hy z=>absurd z (h2 y hy).2,λj hj=>by cases hj⟩
section
theorem Zei{prog:EW}{w:EX}{A:EY}{E:Ds}{it t:EV}{items:Array ET}(E8:t≠it):∀(n i:Nat)(s:EU)(Q:EQ ET->EU->Prop),s.heap.IsListIter it t i->s.heap.IsList t items->i+n<=items.size ->
  (∀h',h'.IsListIter it t (i+n)->Heap.SameBut it s.heap h'->Q ((items.toList.drop i).take n) {s with heap:=h'})->wpAny (model prog w) A (draw (.ref it) n) Q E s
 |0,i,s,Q,hit,_,_,hQ=>by show wpAny _ _ (pure []) Q E s;exact DB (by simpa using hQ s.heap hit (Heap.SameBut.refl ..))
 | n+1,i,s,Q,hit,ht,hle,hQ=>by
  have E6:i<items.size:=by omega
  show wpAny _ _ (pyNext (.ref it) >>= _) Q E s;refine wp<|Eu hit ht (x:=items[i]) (by simp[E6]) λh₁ hit₁ hs₁=>?_
  refine wp<|DK<|Zei E8 n (i+1) _ _ hit₁ (ht.extBut hs₁.extBut E8) (by omega) λh₂ hit₂ hs₂=>DB ?_
  have hd:items.toList.drop i=items[i]::items.toList.drop (i+1):=by simp[Ax,E6]
  have:=hQ h₂ (by rw[show i+(n+1)=i+1+n by omega];exact hit₂)<|hs₁.trans hs₂
  rw[hd,Cb]at this;exact this
def Zgc{prog:EW}{w:EX}{A:EY}{E:Ds}{s:EU}{t:EV}{items:Array ET}{Q:EQ ET->EU->Prop}(hh:A.handled=none)(ht:s.heap.IsList t items)
  (hQ:∀h',Heap.ExtBut s.heap.objs.size s.heap h'->Q items.toList {s with heap:=h'}):wpAny (model prog w) A (unpackItems (.ref t) items.size none) Q E s:=by
 have E6:t≠s.heap.objs.size:=by obtain⟨o,ho,_⟩:=ht;exact Aw<|An ho
 have push:∀ob,(s.heap.push ob).IsList t items:=λob=>ht.at λo e=>Aa _ e;unfold unpackItems;refine wp ?_
 ·unfold notIterableAtAll;refine wp<|D7 ht.typeIs PySem.F.slot_list_iter.lookup ?_;refine DB ?_;simp only[Bz,D6];refine wp<|DK<|Ea ht ?_;refine wp (DK<|Zei E6 items.size 0 _ _ ⟨_,Ai _ rfl,rfl,rfl⟩ (push _) (by omega) λh₁ hit₁ hs₁=>?_)
  have hall:List.take items.size (List.drop 0 items.toList)=items.toList:=by rw[Bp];exact List.take_of_length_le<|by simp
  rw[hall];rw[DF<|by simp]
  have ht₁:h₁.IsList t items:=(push _).extBut hs₁.extBut E6;refine wp<|DK<|Ex hh hit₁ ht₁ (by simp) λh₂ he₂=>?_
  simp only[Option.isSome_none,Bz,D6];refine DB<|hQ h₂ λb o hb e=>he₂ b o hb<|hs₁.extBut b o hb<|Aa _ e
def ZnA{prog:EW}{w:EX}{A:EY}{E:Ds}{s:EU}{env:Env}{elts:EQ E1}{x1}{pos:Pos}{t:EV}{items:Array ET}{Q:Unit->EU->Prop}(hh:A.handled=none)(ht:s.heap.IsList t items)
  (hn:(assignEach elts env).length=items.size) (hstar:(assignEach elts env).findIdx? (·.1)=none)
  (h:∀h',Heap.ExtBut s.heap.objs.size s.heap h'->wpAny (model prog w) A (assignInOrder ((assignEach elts env).map (·.2)) items.toList) Q E {s with heap:=h'}) :
  wpAny (model prog w) A (assign (.Tuple elts x1 pos) env<|.ref t) Q E s:=by rw[arm_assign_Tuple];refine wp<|DR ?_;unfold unpack;rw[hn,hstar];exact wp<|DK<|Zgc hh ht h
def ZkF(n:Nat)(t:fZ):TG:=λv σ H Q=>∃a xs,v=.ref a/\H a=some (.lst xs)/\xs.length=n/\t xs σ H Q
def ZiD{es:EQ E1}{t:fZ}{n:Nat}{pos:Pos}(hc:X.calm=true)(h:PGs X es t)
  (hn:(assignEach es X.env).length=n:=by rfl) (Ft:(assignEach es X.env).findIdx? (·.1)=none:=by rfl):PG X (.Tuple es k pos) (ZkF n t):=by
 intro pins s σ H v u Q I r hw;obtain⟨a,xs,e1,hq,hl,hw⟩:=hw;subst e1;cases r;obtain⟨E5,rv,ht⟩:=cW I.hok (b:=true) hq;have ht':s.heap.IsList a E5.toArray:=ht;refine ZnA (I.ok.hd hc) ht' (by simp[hn,<- hl,rv.length]) Ft λh' hx=>?_
 have I1:Inv X pins σ H {s with heap:=h'}:=I.kept (t':=s.toks) λb o e=>hx b o (Aw<|An e) e;exact h pins _ σ H xs _ Q I1 (by simpa using rv) hw
noncomputable def uI(gs:Do)(x:ES)(ρ:Dz):ER Dz:=match x with
 |.list xs=>gs xs ρ
 |_=>none
def Zfr{PK:Pk}{es:EQ E1}{pos:Pos}{n:Nat}(hc:X.calm=true)(h:PGs X es (rX PK gs))(hl:re n gs)
  (hn:(assignEach es X.env).length=n:=by rfl) (Ft:(assignEach es X.env).findIdx? (·.1)=none:=by rfl):PG X (.Tuple es k pos) (b9 PK<|uI gs):=(ZiD hc h hn Ft).imp λv σ H Q E4=>by
 obtain⟨pa,DA,H₀,m,ρ,G,x,ρ',R,d,e,q⟩:=E4;cases d with
 |lst h1 h2=>exact⟨_,_,rfl,R.wd.sub _ _ h1,by rw[h2.length];exact hl _ _ _ e,pa,DA,H₀,m,ρ,G,_,ρ',R,h2,e,q⟩
 |_=>cases e
section
variable{n:Nat}{p:Dk}{xs:Dt}{x:ES}
def ux(g:Dp)(p:Dk)(el:Di)(τ:Dz)(x:ES):Tr (ER ES):=(Tr.of<|g x τ).bind<|gQ p el
def xT(n:Nat)(ix:EQ Nat)(g:Dp)(p:Dk)(el:Di)(ρ:Dz)(xs:Dt):Tr Dt:=if small xs.length=true then eP (ux g p el<|blk n ix ρ) xs else .fail
def nL{ix:EQ Nat}:vz is n ix g p i ρ=(is ρ).bind (xT n ix g p i ρ):=rfl
def nN{ix:EQ Nat}(h:small xs.length=true):xT n ix g p i ρ xs=eP (ux g p i<|blk n ix ρ) xs:=by unfold xT;rw[DD h]
def nM:ux g p i τ x=(Tr.of<|g x τ).bind (gQ p i):=rfl
noncomputable def yj(y:ES):Tr (ER ES):=.ret<|some y
def yk(i:Di)(τ:Dz)(b:Bool):Tr (ER ES):=if b=true then (i τ).bind yj else .ret none
def og:gQ p i τ=(p τ).bind (yk i τ):=rfl
def oi:yk i τ true=(i τ).bind yj:=rfl
def oj:yk i τ false=.ret none:=rfl
def oh:yj x=.ret (some x):=rfl
end
end
section
variable{PK:Pk}{e:E1}{as:EQ Sl->Tr Dz}
noncomputable def slD:EQ Sl->ER Dt
 | []=>some []
 |.d x::r=>(slD r).bind λxs=>some (x::xs)
 |_=>none
theorem ArsOk.slD{pa:EV}{G:Hp}{vs:Dx}{ss:Dz}{ds:Dt}(a:ArsOk pa G vs ss)(h:L2.slD ss=some ds):DnAll G vs ds:=by
 induction a generalizing ds with
 |nil=>cases h;exact .nil
 | cons h0 t ih =>
  cases h0 with
  | d h1 =>
   unfold L2.slD at h;cases e:L2.slD _ with
   |none=>rw[e]at h;cases h
   | some xs =>
    rw[e]at h;cases h;exact .cons h1 (ih e)
  |pen=>cases h
  |fn=>cases h
def rh(d:ES):Tr ES:=if eT d=true then .ret d else .fail
def zw(f:EQ ES->ER ES)(as:EQ Sl->Tr Dz):Di:=λρ=>(as ρ).bind λss=>(Tr.of<|(slD ss).bind f).bind rh
def Zn0{r:EQ V->Hp->VK->Prop}{f:EQ ES->ER ES}(L:PkLow PK)(h:PE X e (gE r<|TAb PK as))(hv:eZ r f):PE X e (TAe PK<|zw f as):=h.imp λσ H Q E4=>by
 obtain⟨pa,DA,H₀,m,ρ,G,R,z⟩:=E4;refine TAb.then R z λm1 ss vs G1 H1 s1 w1 R1 d1 q1=>?_;obtain⟨d,hd,q1⟩:=Tr.ok_of<|Tr.ok_bind.mp q1;obtain⟨G2,s2,w2,d2⟩:=ArsB.ok (λ_ _ h=>h) w1 d1;cases e:slD ss with
 |none=>rw[e]at hd;cases hd
 | some ds =>
  rw[e]at hd;unfold rh at q1;obtain⟨hf,k⟩:=c6 (c:=eT d) q1;refine hv PK pa m1 G2 H1 vs ds d Q w2 (ArsOk.slD d2 e) hd ?_;intro v G3 H3 s3 w3 d3;have s13:Stp pa G1 H1 G1 H3:=⟨λ_ _ h=>h,λ_ _ h=>.inl h,s3.hk⟩;obtain⟨o1,e1,p1⟩:=w1.pen;obtain⟨o3,e3,p3⟩:=w3.pen;have w13:Wd PK pa m1 G1 H3:=⟨λb o h=>s3.hk b o (w1.sub b o h) (λz=>by subst z;rw[w1.gpa]at h;cases h),w1.gpa,o3,e3,L.low p1 (s2.trans s3.gs) p3⟩
  exact k v G1 H3 (s1.trans s13 w1.some) w13<|Dn.flat_any d3 hf
end
section
variable{as:EQ Sl->Tr Dz}{f:EQ ES->ER ES}{x:ES}{xs:Dt}{p:Dk}{s:Dl}
def ZeM(f:EQ ES->ER ES)(ss:Dz):Tr ES:=(Tr.of<|(slD ss).bind f).bind rh
def oR:zw f as ρ=(as ρ).bind (ZeM f):=rfl
def oQ:ZeM f [.d x]=(bz f [x]).bind rh:=rfl
def ox(n:Int):rh (.int n)=.ret (.int n):=rfl
def qu(k:Nat)(ρ:Dz)(x:ES)(xs:Dt):ES->Tr Ou
 |.int y=>(Tr.of<|b7 xs.length y).bind λt=>.ret (.next<|ρ.set k<|.own<|xs.set t x)
 |_=>.fail
def wk(k:Nat)(n:Di)(ρ:Dz)(x:ES)(xs:Dt):Tr Ou:=(n ρ).bind<|qu k ρ x xs
def wl(k:Nat)(n:Di)(ρ:Dz)(x:ES):Tr Ou:=(gk k ρ).bind<|wk k n ρ x
def l7:vo k j i ρ=(i ρ).bind (wl k j ρ):=by
 unfold vo;refine DI (Tr.bind<|i ρ) (funext λx=>?_);rw[wl,<- qL k ρ];cases ρ[k]? with
 |none=>rfl
 | some sl =>
  cases sl with
  | own xs =>
   show((j ρ).bind _:Tr Ou)=(j ρ).bind (qu k ρ x xs);refine DI (Tr.bind<|j ρ) (funext λy=>?_);cases y <;> rfl
  |_=>rfl
def l6{n:Di}:wl k n ρ x=(gk k ρ).bind (wk k n ρ x):=rfl
def l5{n:Di}:wk k n ρ x xs=(n ρ).bind (qu k ρ x xs):=rfl
def ZkQ{t:Nat}(h:b7 xs.length y=some t):qu k ρ x xs (.int y)=.ret (.next<|ρ.set k<|.own<|xs.set t x):=by
 simp only[qu,h]
 rfl
end
end L2
namespace L2
open AutoSeq1 (wpAny_loadPart')
def qd(hi:Int)(n:Nat):It:=⟨λi _=>i<n,λi H x H'=>H'=H/\x=.int (hi-i),λi _=>n<=i⟩
def Zgi{P:EW}{w:EX}{K:Dh}{tg:E1}(it:EV)(hi:Int)(n:Nat):Turn P w K tg (qd hi n) [it] it (λi h=>IsRangeIter h it (hi+(i:Nat)*(-1)) ((n:Int)-(i:Nat))<|-1) where
 mem:=by simp
 obj:=λi h st b hb=>by
  have e:b=it:=by simpa using hb
  subst e;exact⟨_,st,λv z=>by have z':Data.fields _=Data.cell v:=z;cases z'⟩
 keep:=λi h h' st k=>k it (by simp) _ st
 item:=by
  intro X hP hw hK hc i pins s σ H E I hf st hg;subst hP hw hK;obtain⟨f0,f1,f2,f3,f4,f5⟩:=hf it<|by simp
  have W:=Walks.range (prog:=X.prog) (w:=X.w) (I.ok.hd hc) it hi (-1) n;refine W.item i s _ _ hg st λv h' tk hv st' kk=>?_;obtain⟨t,rfl⟩:=hv;have I1:Inv X pins σ H {s with heap:=h',toks:=tk}:=I.turned (λb o hb e=>kk b o (by simpa using hb) e) f0 f1 f3 f4 f5
  refine⟨_,rfl,lc (s:={s with heap:=h',toks:=tk}) (n:="range_iterator") st' rfl rfl (by decide) ⟨.int<|hi-i,H,I1,⟨t,?_⟩,⟨rfl,rfl⟩,st',λb hb=>(hf b hb).1⟩⟩
  have e:hi+(i:Int) * -1=hi-i:=by omega
  rw[e]
 done:=by
  intro X hP hw hK hc i pins s σ H E I hf st hg;subst hP hw hK;obtain⟨f0,f1,f2,f3,f4,f5⟩:=hf it<|by simp
  exact wpAny_pyNext_range_end (I.ok.hd hc) st (by have:n<=i:=hg;omega) λh' eb=>⟨rfl,I.turned (t':=s.toks) (λb o hb e=>eb b o hb e) f0 f1 f3 f4 f5⟩
 self:=λ_ _ _ _ _ st h=>Ev st h
def ZjD(r:EV)(a b c:Int)(t u v:Tok)(hs:¬ (!(Builtin.Range.rangeFitsLong a&&Builtin.Range.rangeFitsLong b&&Builtin.Range.rangeFitsLong c&&Builtin.Range.rangeFitsLong (-c)&&Builtin.Range.rangeFitsLong (a-c)&&Builtin.Range.rangeFitsLong (Builtin.Range.rangeSize a b c)))=true) :
  Meets (Builtin.«range.__reversed__» ⟨[.ref r],[]⟩) (λ_ R s=>s.heap.get? r=some {cls:=.type "range",dict:=none,data:=.fields #[.int a t,.int b u,.int c v],slots:=#[]} /\
   R (.ok<|.ret<|.ref s.heap.objs.size) {s with heap:=s.heap.push {cls:=.type "range_iterator",data:=.fields #[rawInt<|a+(Builtin.Range.rangeSize a b c-1)*c,rawInt<|Builtin.Range.rangeSize a b c,rawInt<|-c]},toks:=s.toks}) :=
 .of_wp λprog w A R s h=>by
  obtain⟨hp,g,d,tk,os⟩:=s;obtain⟨hl,h⟩:=h;have hs':=hs;rw[Cp,Bool.not_eq_false]at hs'
  wp_walk
  rw[DD hs'];exact⟨_,rfl,h⟩
def lx{n:Int}(h1:-(2^63)<=n)(h2:n<2^63):Builtin.Range.rangeFitsLong n=true:=by unfold Builtin.Range.rangeFitsLong;simp;omega
section
variable{prog:EW}{w:EX}{A:EY}{E:Ds}{s:EU}
def ZmD{r:EV}{t u v:Tok}{Q₁:Ds}(hr:IsRange s.heap r a b 1 t u v)(ha:-(2^62)<=a)(ha':a<2^62)(hb:-(2^62)<=b)(FB:b<2^62)
  (h:Q₁ (.ref s.heap.objs.size) {s with heap:=s.heap.push {cls:=.type "range_iterator",data:=.fields #[rawInt<|a+(Builtin.Range.rangeSize a b 1-1)*1,rawInt<|Builtin.Range.rangeSize a b 1,rawInt<|-1]} }) :
  codeAny (model prog w) A (.call (.builtin "reversed.__new__") ⟨[.type "reversed",.ref r],[]⟩) (wants Q₁ E) s:=by
 have hT:s.TypeIs (.ref r) "range":=⟨_,hr,rfl⟩;refine Ej ?_;show wpAny _ A.in1 (do checkBuiltinCall "reversed.__new__" ⟨[.type "reversed",.ref r],[]⟩;again (.builtin "reversed.__new__" ⟨[.type "reversed",.ref r],[]⟩)) _ _ s
 refine wp<|DO (F.newCall_reversed_1 _)<|DB ⟨DW F.plain_reversed_new _,DS F.entry_reversed_new ?_⟩;rw[AX F.plain_reversed_new _];unfold Builtin.«reversed.__new__»;refine wp<|DO (newClass_reversed _) ?_
 try dsimp only
 refine wp<|DO (a:=()) (by first|rfl|kernel_rfl) ?_
 refine wp<|DO (a:=()) (by first|rfl|kernel_rfl) ?_
 try dsimp only
 refine wp<|D7 hT F.slot_range_reversed.lookup ?_
 try dsimp only
 refine wp<|DO (F.slot_range_reversed.bind _) ?_
 try dsimp only
 first
 |rw[DF<|show ¬ ((Value.builtin "range.__reversed__" == Value.none)=true)from As]
 |(show wpAny _ _ (if (Value.builtin "range.__reversed__" == Value.none)=true then _ else _) _ _ _;rw[DF<|show ¬ ((Value.builtin "range.__reversed__" == Value.none)=true)from As])
 refine wp<|D9 ?_;have Fg:Builtin.Range.rangeSize a b 1=if a<b then b-a else 0:=EI a b
 refine wp (m:=runValue<|.call (.builtin "range.__reversed__") ⟨[.ref r],[]⟩) (show wpAny _ _ (call (.builtin "range.__reversed__") [.ref r]) _ _ _ from
  Eb F.slot_range_reversed hT F.entry_range_reversed (F.args_range_reversed_1 _) (ZjD r a b 1 t u v ?_) ⟨hr,?_⟩)
 ·rw[Cp,Bool.not_eq_false,lx (by omega)<|by omega,lx (by omega)<|by omega,lx (by decide)<|by decide,lx (by decide)<|by decide,lx (n:=a-1) (by omega)<|by omega,lx (n:=Builtin.Range.rangeSize a b 1) (by rw[Fg];split <;> omega)<|by rw[Fg];split <;> omega]
  rfl
 ·first
  |exact DB h
  |exact wp (DB<|DB h)
def ZgR:isSubtype (.type "range_iterator") (.type "reversed")=pure false:=by rw[Ec];kernel_rfl
def ZmO{r:EV}{t u v:Tok}{Q:Ds}(hr:IsRange s.heap r a b 1 t u v)(ha:-(2^62)<=a)(ha':a<2^62)(hb:-(2^62)<=b)(FB:b<2^62)
  (h:Q (.ref s.heap.objs.size) {s with heap:=s.heap.push {cls:=.type "range_iterator",data:=.fields #[rawInt<|a+(Builtin.Range.rangeSize a b 1-1)*1,rawInt<|Builtin.Range.rangeSize a b 1,rawInt<|-1]} }):wpAny (model prog w) A (call (.type "reversed") [.ref r]) Q E s:=by
 refine callType_other (U:="range_iterator") (Q₁:=λobj s₁=>obj=.ref s.heap.objs.size/\s₁={s with heap:=s.heap.push {cls:=.type "range_iterator",data:=.fields #[rawInt<|a+(Builtin.Range.rangeSize a b 1-1)*1,rawInt<|Builtin.Range.rangeSize a b 1,rawInt<|-1]} }) (by trivial) F.create_reversed ⟨_,_,F.mro_reversed⟩ F.made_reversed ZgR (F.typeCall_reversed_1 _) (ZmD hr ha ha' hb FB ⟨rfl,rfl⟩) ?_
 rintro obj s₁ ⟨rfl,rfl⟩;exact⟨⟨_,Ai _ rfl,rfl⟩,h⟩
end
def ZcI:Manifest.owners.lookup (String.ofList ['d','e','s','r','e','v','e','r'].reverse)=some Manifest.sig_reversed:=by kernel_rfl
def Zg5:Slot "reversed" "__init__" "object.__init__" :=
 .of (owner:="object") (n:="__init__") (by rw[Ei,D3];kernel_rfl) (by trivial) (by trivial) (by trivial)
  (by first|exact .inl (by trivial)|exact .inr (by trivial)) (by rw[Ec];kernel_rfl)
def qt:Slot "reversed" "__next__" "reversed.__next__" :=
 .of (owner:="reversed") (n:="__next__") (by rw[Ei,D3];kernel_rfl) (by trivial) (by trivial) (by trivial)
  (by first|exact .inl (by trivial)|exact .inr (by trivial)) (by rw[Ec];kernel_rfl)
def Zd0:entryFor table "reversed.__next__"=some Builtin.«reversed.__next__»:=entryFor_of_tree<|by kernel_rfl
def Zfh(a:ET):argsOk "reversed.__next__" ⟨[a],[]⟩:=by unfold argsOk;rw[signature?_of (id:="reversed.__next__") (n:=['_','_','t','x','e','n','_','_']) (o:=['d','e','s','r','e','v','e','r']) (by kernel_rfl) ZcI];kernel_rfl
def Za0:Slot "reversed" "__iter__" "reversed.__iter__" :=
 .of (owner:="reversed") (n:="__iter__") (by rw[Ei,D3];kernel_rfl) (by trivial) (by trivial) (by trivial)
  (by first|exact .inl (by trivial)|exact .inr (by trivial)) (by rw[Ec];kernel_rfl)
def ZnK(a:ET):argsOk "reversed.__iter__" ⟨[a],[]⟩:=by unfold argsOk;rw[signature?_of (id:="reversed.__iter__") (n:=['_','_','r','e','t','i','_','_']) (o:=['d','e','s','r','e','v','e','r']) (by kernel_rfl) ZcI];kernel_rfl
def Zk7:entryFor table "reversed.__iter__"=some Builtin.«dict_keyiterator.__iter__» :=
 entryFor_alias (id':="dict_keyiterator.__iter__") (by kernel_rfl) (by first|rfl|decide +kernel|(unfold String.splitOn;simp +decide [String.splitOnAux])) (by trivial) (by kernel_rfl)
def ZmJ:TypeCalled "reversed" "reversed.__new__" "object.__init__" :=
 ⟨by trivial,by trivial,⟨_,_,F.mro_reversed⟩,F.made_reversed,by trivial,by rw[Ec];kernel_rfl,Zg5⟩
def Zjk:typeLookup (.type "tuple") "__reversed__"=pure none:=by rw[Ei,D3];kernel_rfl
def ZjC(l:EV)(items:Array ET)(hfit:(items.size:Int)<2^63) :
  Meets (Builtin.«reversed.__new__» ⟨[.type "reversed",.ref l],[]⟩) (λ_ R s=>IsTup s.heap l items /\
   R (.ok<|.ret<|.ref s.heap.objs.size) {s with heap:=s.heap.push {cls:=.type "reversed",data:=.fields #[.ref l,rawInt<|(items.size:Int)-1]},toks:=s.toks+1+1}) :=
 .of_wp λprog w A R s h=>by
  obtain⟨hp,g,d,tk,os⟩:=s;obtain⟨hl,h⟩:=h;have FE:(Shared.mk hp g d tk os).heap.IsTuple l items:=hl;unfold Builtin.«reversed.__new__»;refine wp<|DO (newClass_reversed _) ?_
  try dsimp only
  refine wp<|DO (a:=()) (by first|rfl|kernel_rfl) ?_
  refine wp<|DO (a:=()) (by first|rfl|kernel_rfl) ?_
  try dsimp only
  refine wp<|D7 FE.typeIs Zjk ?_
  try dsimp only
  refine wp ?_;show wpAny _ _ (isInstance (Value.ref l) (.type "dict") >>= _) _ _ _;refine wp<|Et (T:="tuple") (b:=false) FE.typeIs (by rw[Ec];kernel_rfl) ?_
  show wpAny _ _ (specialOf (Value.ref l) "__getitem__" >>= _) _ _ _;refine wp<|D7 FE.typeIs F.slot_tuple_getitem.lookup ?_;refine DB ?_;show wpAny _ _ (call (Value.builtin "len") [Value.ref l] >>= _) _ _ _;refine wp<|len_tuple hl hfit ?_;refine wp<|DO (a:=some (items.size:Int)) rfl ?_;show wpAny _ _ (newObj (.type "reversed") (.fields #[.ref l,rawInt<|(items.size:Int)-1]) >>= _) _ _ _;refine wp<|DH ?_;exact DB ⟨_,rfl,h⟩
def IsTRev(h:EZ)(a l:EV)(i:Int):Prop:=∃o,h.get? a=some o/\o.cls=.type "reversed"/\o.data=.fields #[.ref l,rawInt i]
def IsTRev.at{h h':EZ}{a l:EV}{i:Int}(x:IsTRev h a l i)(e:∀o,h.get? a=some o->h'.get? a=some o):IsTRev h' a l i:=let ⟨o,ho,r⟩:=x;⟨o,e _ ho,r⟩
section
variable{prog:EW}{w:EX}{A:EY}{E:Ds}{s:EU}
def ZmM{l:EV}{items:Array ET}{Q:Ds}(hl:IsTup s.heap l items)(hfit:(items.size:Int)<2^63)
  (h:Q (.ref s.heap.objs.size) {s with heap:=s.heap.push {cls:=.type "reversed",data:=.fields #[.ref l,rawInt<|(items.size:Int)-1]},toks:=s.toks+1+1}) :
  wpAny (model prog w) A (call (.type "reversed") [.ref l]) Q E s :=
 callType_new ZmJ (by decide) (F.typeCall_reversed_1 _) (F.newCall_reversed_1 _) (λobj=>CT obj _) F.entry_reversed_new (ZjC l items hfit) ⟨hl,⟨_,Ai _ rfl,rfl⟩,h⟩
def Zh9{it l:EV}{i:Nat}{items:Array ET}{x:ET}{Q:ER ET->EU->Prop}(hit:IsTRev s.heap it l (i:Int))(hl:IsTup s.heap l items)(E8:l≠it)(hx:items[i]?=some x)(hfit:(items.size:Int)<2^63)
  (hQ:∀h',IsTRev h' it l ((i:Int)-1)->Heap.SameBut it s.heap h'->Q (some x) {s with heap:=h',toks:=s.toks+1}):wpAny (model prog w) A (pyNext<|.ref it) Q E s:=by
 obtain⟨o,ho,hc,hd⟩:=id hit;have hT:s.TypeIs (.ref it) "reversed":=⟨o,ho,hc⟩;have FE:s.heap.IsTuple l items:=hl;have E6:i<items.size:=(BP.mp hx).1;unfold pyNext;refine wp (Ef (DN (name:=Str.ofString "__next__") hT qt
  (DL qt hT Zd0 ?_<|Zfh _)))
 unfold Builtin.«reversed.__next__»;refine wp<|DO (a:=(Value.ref it,[])) rfl ?_
 try dsimp only
 refine wp<|DM ho hd (x:=.ref l) rfl ?_;refine wp<|DM ho hd (x:=rawInt (i:Int)) rfl ?_;show wpAny _ _ (if (i:Int)<0 then _ else _) _ _ s
 rw[DF<|by omega]
 refine wp<|D7 FE.typeIs F.slot_tuple_getitem.lookup ?_;show wpAny _ _ (mkInt (i:Int) >>= _) _ _ s;refine wp<|wpAny_mkInt ?_;refine wp<|Ef<|getItem_tuple (j:=i) (x:=x) hl (by omega) (by omega) ?_ hx ?_
 ·unfold seqIndex?;simp;omega
 ·dsimp only;refine wp<|DM ho hd (x:=rawInt (i:Int)) rfl ?_;show wpAny _ _ (setField (.ref it) 1 (rawInt<|(i:Int)-1) >>= _) _ _ _;refine wp (D5 ho hd (by simp) ?_)
  refine DB ⟨x,rfl,DB<|hQ _ ?_<|By ..⟩;exact⟨_,Bj _ ho<|Ca<|Bm hd _,(C3 ..).trans hc,by rw[Bm hd];simp⟩
def Zia{it l:EV}{Q:ER ET->EU->Prop}(hh:A.handled=none)(hit:IsTRev s.heap it l (-1))
  (hQ:∀h',Heap.ExtBut it s.heap h'->Q none {s with heap:=h'}):wpAny (model prog w) A (pyNext<|.ref it) Q E s:=by
 obtain⟨o,ho,hc,hd⟩:=id hit;have hT:s.TypeIs (.ref it) "reversed":=⟨o,ho,hc⟩;unfold pyNext;refine wp (Ef (DN (name:=Str.ofString "__next__") hT qt
  (DL qt hT Zd0 ?_<|Zfh _)))
 unfold Builtin.«reversed.__next__»;refine wp<|DO (a:=(Value.ref it,[])) rfl ?_
 try dsimp only
 refine wp<|DM ho hd (x:=.ref l) rfl ?_;refine wp<|DM ho hd (x:=rawInt<|-1) rfl ?_;show wpAny _ _ (if (-1:Int)<0 then _ else _) _ _ s
 rw[DD<|by decide]
 refine wp<|D9 ?_;refine wp ?_;show wpAny _ _ (setField (.ref it) 1 (rawInt<|-1) >>= _) _ _ _;refine wp<|D5 ho hd (by simp) ?_
 have ho2:=Bj (Obj.mapFields λx_1=>x_1.setIfInBounds 1<|rawInt<|-1) ho<|Ca<|Bm hd _;refine D5 ho2 (Bm hd _) (by simp) ?_
 have eb:Heap.ExtBut it s.heap ((s.heap.update it<|Obj.mapFields λx_1=>x_1.setIfInBounds 1<|rawInt<|-1).update it<|Obj.mapFields λx_1=>x_1.setIfInBounds 0 Value.none):=λb o' hb e=>(By _ _ _).extBut b o' hb<|(By _ _ _).extBut b o' hb e;show wpAny _ _ (newExc (.type "StopIteration") [] >>= _ >>= _) _ _ _;refine wp ?_;refine wp ?_;simp only[newExc,newTuple];refine wp<|DH ?_<|by size_fits
 refine wp (m:=firstArgMember _ _)<|DO (a:=Value.none) (by first|rfl|(simp only[firstArgMember];rfl)) ?_
 refine DH ?_<|by size_fits
 simp only[raiseNew];refine wp<|wpAny_handled ?_
 first|rw[show A.in1.handled=none from hh]|rw[hh]
 refine wp<|DB<|wpAny_throw ?_;refine wp<|Et (T:="StopIteration") (b:=true) ⟨_,Ai _ rfl,rfl⟩ isSubtype_stop ?_;exact DB<|hQ _<|(eb.push _).push _
def Zco{it l:EV}{i:Int}{Q:Ds}(hit:IsTRev s.heap it l i)(h:Q (.ref it) s):wpAny (model prog w) A (pyIter<|.ref it) Q E s:=by obtain⟨o,ho,hc,hd⟩:=id hit;have hT:s.TypeIs (.ref it) "reversed":=⟨o,ho,hc⟩;refine Ep hT Za0<|DL Za0 hT Zk7 ?_<|ZnK _;show wpAny _ _ (ret<|.ref it) _ _ s;exact DB ⟨_,rfl,"reversed",_,hT,qt.lookup,h⟩
end
def qc(b:Bool)(l:EV)(n:Nat):It :=
 ⟨λi H=>i<n/\∃xs,H l=some (bq b xs)/\xs.length=n,λi H x H'=>H'=H/\∃xs,H l=some (bq b xs)/\xs[n-1-i]?=some x,λi _=>i=n⟩
def RvAt(b:Bool)(h:EZ)(it l:EV)(i:Int):Prop:=match b with
 |true=>h.IsRevIter it l i
 |false=>IsTRev h it l i
def RvAt.there{b:Bool}{h:EZ}{it l:EV}{i:Int}(x:RvAt b h it l i):∃o n vs,h.get? it=some o/\o.cls=.type n/\o.data=.fields vs/\["enumerate","zip","dict_itemiterator","dict_reverseitemiterator","odict_iterator","itertools.zip_longest","itertools.pairwise"].contains n=false:=by
 cases b with
 |true=>obtain⟨o,h1,h2,h3⟩:=x;exact⟨o,_,_,h1,h2,h3,by decide⟩
 |false=>obtain⟨o,h1,h2,h3⟩:=x;exact⟨o,_,_,h1,h2,h3,by decide⟩
theorem RvAt.at{b:Bool}{h h':EZ}{it l:EV}{i:Int}(x:RvAt b h it l i)(e:∀o,h.get? it=some o->h'.get? it=some o):RvAt b h' it l i:=by
 cases b with
 |true=>exact Heap.IsRevIter.at x e
 |false=>exact IsTRev.at x e
def Zaz{P:EW}{w:EX}{K:Dh}{tg:E1}{b:Bool}{l:EV}{n:Nat}(it:EV)(hn:(n:Int)<2^63):Turn P w K tg (qc b l n) [it] it (λi h=>RvAt b h it l<|(n:Int)-1-(i:Nat)) where
 mem:=by simp
 obj:=λi h st c hb=>by
  have e:c=it:=by simpa using hb
  subst e;obtain⟨o,_,_,h1,_,h3,_⟩:=st.there;exact⟨o,h1,λv z=>by rw[h3]at z;cases z⟩
 keep:=λi h h' st k=>st.at λo e=>k it (by simp) o e
 item:=by
  intro X hP hw hK hc i pins s σ H E I hf st hg;subst hP hw hK;obtain⟨hi,xs,e1,hlen⟩:=hg;obtain⟨us,r1,q1⟩:=cW I.hok e1;obtain⟨f0,f1,f2,f3,f4,f5⟩:=hf it<|by simp
  have hxl:n-1-i<xs.length:=by omega
  have hx:xs[n-1-i]?=some xs[n-1-i]:=Ah hxl;obtain⟨u,hu,ru⟩:=r1.get hx;have ne:l≠it:=cg e1 f0;have ei:(n:Int)-1-(i:Nat)=((n-1-i:Nat):Int):=by omega
  have ei2:((n-1-i:Nat):Int)-1=(n:Int)-1-((i+1:Nat):Int):=by omega
  rw[ei]at st;have usz:us.toArray.size=n:=by rw[Am,<- r1.length];exact hlen
  have fin:∀(h':EZ)(tk:Nat),RvAt b h' it l ((n:Int)-1-((i+1:Nat):Int))->Heap.SameBut it s.heap h'->∃u',some u=some u'/\wpAny (model X.prog X.w) X.A (letOwnedTupleGo tg (.ref it) u') (λ_ s2=>∃x H',Inv X pins σ H' s2/\RelV x u'/\(qc b l n).yld i H x H'/\RvAt b s2.heap it l ((n:Int)-1-((i+1:Nat):Int))/\∀b∈[it],H' b=none) E {s with heap:=h',toks:=tk}:=λh' tk st' sb=>by have I1:Inv X pins σ H {s with heap:=h',toks:=tk}:=I.turned (λb o hb e=>(sb.2 b hb).trans e) f0 f1 f3 f4 f5;obtain⟨o,nm,vs,g1,g2,g3,g4⟩:=st'.there;exact⟨u,rfl,lc (s:={s with heap:=h',toks:=tk}) g1 g2 g3 g4 ⟨_,H,I1,ru,⟨rfl,xs,e1,hx⟩,st',λb hb=>(hf b hb).1⟩⟩
  cases b with
  | true =>
   refine wpAny_pyNext_rev_item (i:=n-1-i) st q1 (x:=u) (by simpa using hu) λh' st' sb=>?_
   rw[ei2]at st';exact fin h' s.toks st' sb
  | false =>
   refine Zh9 (i:=n-1-i) st q1 ne (x:=u) (by simpa using hu) (by rw[usz];exact hn) λh' st' sb=>?_
   rw[ei2]at st';exact fin h' (s.toks+1) st' sb
 done:=by
  intro X hP hw hK hc i pins s σ H E I hf st hg;subst hP hw hK;obtain⟨f0,f1,f2,f3,f4,f5⟩:=hf it<|by simp
  have hi:i=n:=hg;subst hi;have e:(i:Int)-1-(i:Nat)=-1:=by omega
  rw[e]at st;cases b with
  |true=>exact wpAny_pyNext_rev_end (I.ok.hd hc) st λh' eb=>⟨rfl,I.turned (t':=s.toks) (λb o hb e=>eb b o hb e) f0 f1 f3 f4 f5⟩
  |false=>exact Zia (I.ok.hd hc) st λh' eb=>⟨rfl,I.turned (t':=s.toks) (λb o hb e=>eb b o hb e) f0 f1 f3 f4 f5⟩
 self:=λ_ _ _ _ _ st h=>by
  cases b with
  |true=>exact wpAny_pyIter_revIter st h
  |false=>exact Zco st h
section
variable{tg:E1}{PK:Pk}{a b:E1}{p pos:Pos}
def ym(ta:TE):TI:=λσ H R=>ta σ H λx H1=>(∃b l xs,x=.ref l/\H1 l=some (bq b xs)/\R (qc b l xs.length) H1) \/
 (∃l lo hi,x=.ref l/\H1 l=some (.rng lo hi)/\-(2^62)<=lo/\lo<2^62/\-(2^62)<=hi/\hi<2^62/\R (qd (lo+(hi-lo).toNat-1) (hi-lo).toNat) H1)
def xt(hg:Gl X "reversed")(hm:X.mg "reversed"=none)(ha:PE X a ta)
  (hs:starEach [a] X.env=[(false,eval a X.env)]:=by rfl):PI X tg (.Call (.Name "reversed" p) [a] [] pos) (ym ta):=by
 intro pins s σ H R I h;have hab:PA X [a] (fI ta aT):=ci ha cL<|by rw[hs];rfl
 have h':fI ta aT σ H λvs H1=>∃x,vs=[x]/\((∃b l xs,x=.ref l/\H1 l=some (bq b xs)/\R (qc b l xs.length) H1) \/
   (∃l lo hi,x=.ref l/\H1 l=some (.rng lo hi)/\-(2^62)<=lo/\lo<2^62/\-(2^62)<=hi/\hi<2^62/\R (qd (lo+(hi-lo).toNat-1) (hi-lo).toNat) H1)):=by
  have h0:ta σ H λx H1=>(∃b l xs,x=.ref l/\H1 l=some (bq b xs)/\R (qc b l xs.length) H1) \/
   (∃l lo hi,x=.ref l/\H1 l=some (.rng lo hi)/\-(2^62)<=lo/\lo<2^62/\-(2^62)<=hi/\hi<2^62/\R (qd (lo+(hi-lo).toNat-1) (hi-lo).toNat) H1):=h
  refine cast (DI (ta σ H) ?_) h0;funext x H1;apply propext;constructor
  ·exact λq=>⟨x,rfl,q⟩
  ·rintro⟨y,e,q⟩;have e':x=y:=by simpa using e
   subst e';exact q
 refine Call_<|jt I hg hm boot_reversed<|A9 (thn (hab pos pins s σ H _ I h') λus s1 E4=>?_) (by rw[hs];rfl) rfl
 obtain⟨vs,H1,I1,r1,q1⟩:=E4;obtain⟨x,rfl,q1⟩:=q1;obtain⟨u,rfl,ru⟩:=dW r1;have fp:∀c∈[s1.heap.objs.size],eL X pins H1 c:=λc hb=>by
  have e:c=s1.heap.objs.size:=by simpa using hb
  subst e;exact I1.fpOk (Ag _)<|I1.hok.fresh<|Ag _
 have hn:=jq;rcases q1 with ⟨b,l,xs,rfl,e1,q⟩|⟨l,lo,hi,rfl,e1,b1,b2,b3,b4,q⟩
 ·cases ru;obtain⟨us,r2,q2⟩:=cW I1.hok e1;have usz:us.toArray.size=xs.length:=by rw[Am,<- r2.length]
  have hz:xs.length<=sizeLine:=by
   cases b with
   |true=>exact(I1.hok _ _ e1).1
   |false=>exact(I1.hok _ _ e1).1
  cases b with
  | true =>
   refine call_reversed_list q2<|wpAny_pyIter_revIter ⟨_,Ai _ rfl,rfl,rfl⟩ ?_;refine⟨_,_,_,_,H1,rfl,I1.kept (t':=s1.toks) λb o e=>Aa _ e,Zaz (b:=true) (l:=l) (n:=xs.length) s1.heap.objs.size<|by omega,?_,fp,q⟩
   refine⟨_,Ai _ rfl,rfl,?_⟩;rw[usz];show Data.fields #[_,rawInt<|(xs.length:Int)-1]=Data.fields #[_,rawInt<|(xs.length:Int)-1-((0:Nat):Int)];simp
  | false =>
   refine ZmM q2 (by rw[usz];omega)<|Zco ⟨_,Ai _ rfl,rfl,rfl⟩ ?_
   refine⟨_,_,_,_,H1,rfl,I1.kept (t':=s1.toks+1+1) λb o e=>Aa _ e,Zaz (b:=false) (l:=l) (n:=xs.length) s1.heap.objs.size<|by omega,?_,fp,q⟩
   refine⟨_,Ai _ rfl,rfl,?_⟩;rw[usz];show Data.fields #[_,rawInt<|(xs.length:Int)-1]=Data.fields #[_,rawInt<|(xs.length:Int)-1-((0:Nat):Int)];simp
 ·cases ru;obtain⟨t,u,v,e⟩:=I1.hok _ _ e1;have Fg:Builtin.Range.rangeSize lo hi 1=((hi-lo).toNat:Int):=by rw[EI];split <;> omega
  refine ZmO e b1 b2 b3 b4<|Ev (Ai _ rfl) ?_;refine⟨_,_,_,_,H1,rfl,I1.kept (t':=s1.toks) λb o e=>Aa _ e,Zgi s1.heap.objs.size (lo+(hi-lo).toNat-1) (hi-lo).toNat,?_,fp,q⟩;rw[Fg];have e1:lo+(((hi-lo).toNat:Int)-1)*1=lo+(hi-lo).toNat-1+((0:Nat):Int)*(-1):=by simp;omega
  have e2:((hi-lo).toNat:Int)=((hi-lo).toNat:Int)-((0:Nat):Int):=by simp
  rw[e1];show IsRangeIter _ _ _ (((hi-lo).toNat:Int)-((0:Nat):Int))<|-1;rw[<- e2];exact Ai _ rfl
end
end L2
namespace L2
section
variable{tg:E1}{PK:Pk}{e:E1}{p pos:Pos}
def Zkh{pa:EV}{b:Bool}{l:EV}{us:Dx}{xs:Dt}(h1:G l=some (bq b us))(d1:DnAll G us xs):hV PK pa (qc b l us.length) G xs.reverse:=λm G2 H2 sb w=>by
 have e1:H2 l=some (bq b us):=w.sub _ _<|sb _ _ h1;have hlen:us.length=xs.length:=d1.length;refine⟨λn d hd=>?_,by show xs.reverse.length=us.length;rw[AQ,hlen]⟩
 have hn:n<xs.length:=by
  have:=(Ad.mp hd).1
  rwa [AQ]at this
 have Fa:xs[xs.length-1-n]?=some d:=by rw[Bw hn]at hd;exact hd
 refine⟨⟨by omega,us,e1,rfl⟩,λy H3 E4=>?_⟩
 obtain⟨eH,vs,f1,hy⟩:=E4;subst eH;rw[e1]at f1;have:=uF f1;subst this;rw[hlen]at hy;obtain⟨v,hv,dv⟩:=d1.get _ Fa;rw[hv]at hy;cases hy;exact⟨G2,.refl,w,dv.mono sb⟩
def vp(i:Di):Dj:=λρ=>(i ρ).bind λx=>(Tr.of<|fP x).bind λxs=>.ret xs.reverse
def Zfp{iter:E1}(h:PI X tg iter (ym<|TAe PK i)):PI X tg iter (cq PK<|vp i):=h.imp λσ H R0 E4=>by obtain⟨pa,DA,H₀,m,ρ,G,R,z⟩:=E4;refine TAe.then R z λm1 x v G1 H1 s1 w1 R1 d1 q1=>?_;rw[Tr.ok_bind]at q1;obtain⟨xs,hx,q1⟩:=Tr.ok_of q1;obtain⟨b1,l1,us,rfl,e1,f1⟩:=rc d1 hx;exact .inl ⟨b1,l1,us,rfl,w1.sub _ _ e1,q1 _ G1 H1 s1 w1<|Zkh e1 f1⟩
def Zkg{pa:EV}{n:Nat}:hV PK pa (qd (lo+n-1) n) G ((aF lo n).map PyData.int).reverse:=λm G2 H2 sb w=>by
 have hl:((aF lo n).map PyData.int).length=n:=by rw[v9,c5]
 refine⟨λk x hx=>?_,by show n<=_;rw[AQ,hl];exact Ag _⟩
 have hk:k<n:=by
  have:=(Ad.mp hx).1
  rwa [AQ,hl]at this
 refine⟨hk,λy H3 E4=>?_⟩;obtain⟨e1,e2⟩:=E4;subst e1 e2;have:x=.int (lo+n-1-k):=by
  rw[Bw<|by rw[hl];exact hk,hl]at hx
  unfold aF at hx;rw[Av,Ak,A3<|by omega]at hx
  cases hx;show PyData.int (lo+((n-1-k:Nat):Int))=_;congr 1;omega
 subst this;exact⟨G2,.refl,w,.int _⟩
def zr(is:Dj):Dj:=λρ=>(is ρ).bind λxs=>(Tr.of<|kw xs).bind λys=>.ret ys.reverse
def ZgA(t:TA):TE:=gE (λxs H Q=>∃i j:Int,xs=[.int i,.int j]/\∀p,H p=none->Q (.ref p) (upd H p<|.rng i j)) t
def ZnT{iter:E1}(h:PI X tg iter (ym<|ZgA<|TAd PK is)):PI X tg iter (cq PK<|zr is):=h.imp λσ H R0 E4=>by obtain⟨pa,DA,H₀,m,ρ,G,R,z⟩:=E4;refine TAd.then R z λm1 xs vs G1 H1 s1 w1 R1 d1 q1=>?_;rw[Tr.ok_bind]at q1;obtain⟨ys,hy,q1⟩:=Tr.ok_of q1;obtain⟨k,n,e,⟨h1,h2,h3,h4⟩,rfl⟩:=ZbH d1 hy;refine⟨k,n,e,λp hp=>?_⟩;obtain⟨w2,s2⟩:=w1.own (o:=.rng k n) hp;refine .inr ⟨p,k,n,rfl,bv,h1,h2,h3,h4,?_⟩;exact q1 (qd (k+(n-k).toNat-1) (n-k).toNat) G1 _ (s1.trans s2 w1.some) w2 Zkg
end
section
variable{PK:Pk}{n:Di}
def rS(k:Nat)(i:Di):Dl:=λρ=>match ρ[k]? with
 | some (.own xs)=>(i ρ).bind λx=>match x with
  |.list ys=>if small (xs.length+ys.length)=true then .ret (.next<|ρ.set k<|.own<|xs++ys)else .fail
  |_=>.fail
 |_=>.fail
def ZnJ{K:Dh}{st:E3}(h:PS X st (sA<|wb K "list" Zcc (fb k)<|fI (TAe PK i) aT)):PS X st (bg PK<|rS k i):=h.imp λD σ H E4=>by
 obtain⟨pa,DA,H₀,m,ρ,G,R,z⟩:=E4;unfold rS at z
 split at z
 ·rename_i xs hx;obtain⟨o,h1,h2⟩:=R.sl k _ hx;cases h2 with
  | @own p vs _ a1 a2 a3 a4 =>
   refine⟨_,h1,.inl ⟨rfl,_,SqL.of a1⟩,?_⟩;refine TAe.then R z λm1 x v G1 H1 s1 w1 R1 d1 q1=>?_;cases d1 with
   | @lst l us ds b1 b2 =>
    obtain⟨hs,q1⟩:=c6 q1;obtain⟨o,h1',h2⟩:=R1.sl k _ hx;rw[h1]at h1';cases h1';cases h2 with
    | @own _ vs1 _ c1 c2 c3 c4 =>
     have hs':xs.length+ds.length<=sizeLine:=DC hs;refine⟨p,l,vs1,us,rfl,rfl,c1,w1.sub _ _ b1,by rw[c4.length,b2.length];exact hs',?_⟩
     exact q1 σ G1 _ s1.gs (R1.change hx h1<|c4.append b2)
   |_=>exact q1.elim
 ·exact z.elim
end
section
variable{prog:EW}{w:EX}{A:EY}{E:Ds}{s:EU}
end
section
variable{PK:Pk}{e st:E1}{ts:TE}{p2 pos:Pos}
end
abbrev hU(h0 h:EZ):Prop:=∀c o,h0.get? c=some o->h.get? c=some o
def zZ(prog:EW)(w:EX)(A:EY)(h0:EZ)(P:Nat->ET->Prop)(bt:Nat->Nat->Bool):Prop :=
 ∀i j vi vj (s:EU) (Q:Ds) (E:Ds),j<i->hU h0 s.heap->P i vi->P j vj->Q (.bool<|bt i j) s->wpAny (model prog w) A (richCompare .Lt vi vj) Q E s
theorem Zfi(bt:Nat->Nat->Bool):∀j,argBest bt j<=j
 |0=>Ag _
 | j+1=>by
  have:=Zfi bt j;unfold argBest
  split <;> omega
section
variable{prog:EW}{w:EX}{A:EY}{R:Result->EU->Prop}{I S:EV}{fp wr:EQ EV}{n:Nat}{P:Nat->ET->Prop}{St:Nat->EZ->Prop}{h0:EZ}
def qR:(toString "min"++toString ".loop":String)="min.loop":=by decide
def ZjA(W:Walks prog w A.in1 I fp wr n P St)(bt:Nat->Nat->Bool)(hcmp:zZ prog w A.in1 h0 P bt)(hSf:S∉fp)(h0w:∀c o,h0.get? c=some o->c∉wr/\c≠S) :
  ∀(k j:Nat)(s:EU)(vb:ET)(c:Nat),n-(j+1)=k->j+1<=n->hU h0 s.heap->St (j+1) s.heap->P (argBest bt j) vb ->
  s.heap.get? S=some {cls:=.type "list",data:=.seq #[vb,vb] c} ->
  (∀v h' tk,P (argBest bt<|n-1) v->(∀b o,b∉wr->b≠S->s.heap.get? b=some o->h'.get? b=some o)->R (.ok<|.ret v) {s with heap:=h',toks:=tk}) ->
  codeAny (model prog w) A (.builtin "min.loop" ⟨[.ref I,.none,.ref S],[]⟩) R s:=by
 have hSw:S∉wr:=λh=>hSf<|W.sub _ h;intro k
 induction k with
 | zero =>
  intro j s vb c hk hj kp Ft hPb hS hR;have hin:j+1=n:=by omega
  refine DS Df (by rw[AX BB _];show wpAny _ A.in1 (seqItems? (.ref S) >>= _) _ _ s;refine wp<|DP hS rfl ?_;show wpAny _ A.in1 (tryCatch (pyNext<|.ref I) _ >>= _) _ _ s;refine wp (En<|W.done s _ _ (hin ▸ Ft) λh' tk FC=>?_);have hS':=FC S _ hSw hS;show wpAny _ A.in1 (updateSeq S (λ_=>#[]) >>= _) _ _ _;refine wp<|wpAny_updateSeq hS' rfl (wp<|Eg<|DB ?_);exact hR vb _ tk (by rw[<- hin];exact hPb) λb o hbw hbS e=>(AW _ _<|Ne.symm hbS).trans<|FC b o hbw e)
 | succ k ih =>
  intro j s vb c hk hj kp Ft hPb hS hR;have E6:j+1<n:=by omega
  refine DS Df (by
   rw[AX BB _];show wpAny _ A.in1 (seqItems? (.ref S) >>= _) _ _ s;refine wp<|DP hS rfl ?_;show wpAny _ A.in1 (tryCatch (pyNext<|.ref I) _ >>= _) _ _ s;refine wp (En<|W.item (j+1) s _ _ E6 Ft λv h' tk hP hst' FC=>?_);have hS':=FC S _ hSw hS;have kp':hU h0 h':=λc o e=>FC c o (h0w c o e).1 (kp c o e);show wpAny _ A.in1 (tryCatch (holding [v,v]<|richCompare .Lt v vb >>= _) _ >>= _) _ _ _;refine wp<|En<|DK<|wp<|hcmp (j+1) (argBest bt j) v vb _ _ _ (Nat.lt_succ_of_le<|Zfi bt j) kp' hP hPb<|wp<|DK<|Eo<|wp<|Eg<|DB ?_;cases hb:bt (j+1) (argBest bt j)with
   | true =>
    simp only[D8];refine wp<|wpAny_updateSeq hS' rfl (wp<|Eg ?_);rw[qR];refine DB ⟨DW BB _,ih (j+1) _ v _ (by omega) E6 (λc o e=>(AW _ _<|Ne.symm (h0w c o e).2).trans<|kp' c o e) (W.frame _ _ _ hst' λb hbf o e=>?_) (by simp only[argBest,hb,D8];exact hP) (Bj _ hS' rfl)
     λv' h'' tk'' hP' hk''=>hR v' h'' tk'' hP' λb o hbw hbS e=>hk'' b o hbw hbS<|(AW _ _<|Ne.symm hbS).trans<|FC b o hbw e⟩
    exact(AW _ _<|λh:S=b=>hSf<|by rw[h];exact hbf).trans e
   | false =>
    simp only[Bz,D6];refine wp<|Eg ?_;rw[qR];exact DB ⟨DW BB _,ih (j+1) _ vb c (by omega) E6 kp' hst' (by simp only[argBest,hb,Bz,D6];exact hPb) hS' λv' h'' tk'' hP' hk'' =>
     hR v' h'' tk'' hP' λb o hbw hbS e=>hk'' b o hbw hbS<|FC b o hbw e⟩)
def ZcT(W:Walks prog w A.in1 I fp wr n P St)(bt:Nat->Nat->Bool)(hcmp:zZ prog w A.in1 h0 P bt)(hSf:S∉fp)(h0w:∀c o,h0.get? c=some o->c∉wr/\c≠S)(hn:0<n){s:EU}{c:Nat}(kp:hU h0 s.heap)(Ft:St 0 s.heap)
  (hS:s.heap.get? S=some {cls:=.type "list",data:=.seq #[] c})
  (hR:∀v h' tk,P (argBest bt<|n-1) v->(∀b o,b∉wr->b≠S->s.heap.get? b=some o->h'.get? b=some o)->R (.ok<|.ret v) {s with heap:=h',toks:=tk}) :
  codeAny (model prog w) A (.builtin "min.loop" ⟨[.ref I,.none,.ref S],[]⟩) R s:=by
 have hSw:S∉wr:=λh=>hSf<|W.sub _ h;refine DS Df (by
  rw[AX BB _];show wpAny _ A.in1 (seqItems? (.ref S) >>= _) _ _ s;refine wp<|DP hS rfl ?_;show wpAny _ A.in1 (tryCatch (pyNext<|.ref I) _ >>= _) _ _ s;refine wp (En<|W.item 0 s _ _ hn Ft λv h' tk hP hst' FC=>?_);have hS':=FC S _ hSw hS;have kp':hU h0 h':=λc o e=>FC c o (h0w c o e).1 (kp c o e);show wpAny _ A.in1 (updateSeq S (λ_=>#[v,v]) >>= _) _ _ _;refine wp<|wpAny_updateSeq hS' rfl ?_;rw[qR];refine DB ⟨DW BB _,ZjA W bt hcmp hSf h0w _ 0 _ v _ rfl hn (λc o e=>(AW _ _<|Ne.symm (h0w c o e).2).trans<|kp' c o e) (W.frame _ _ _ hst' λb hbf o e=>?_) hP (Bj _ hS' rfl)
   λv' h'' tk'' hP' hk''=>hR v' h'' tk'' hP' λb o hbw hbS e=>hk'' b o hbw hbS<|(AW _ _<|Ne.symm hbS).trans<|FC b o hbw e⟩
  exact(AW _ _<|λh:S=b=>hSf<|by rw[h];exact hbf).trans e)
end
section
variable{prog:EW}{w:EX}{A:EY}{E:Ds}{s:EU}
def Zjy{a b:ET}{Q:Ds}{c:Bool}(hh:A.handled=none)(hcmp:∀(s':EU)(Q:Ds)(E:Ds),hU s.heap s'.heap->Q (.bool c) s'->wpAny (model prog w) A.in1 (richCompare .Lt b a) Q E s')
  (h:∀h' tk,hU s.heap h'->Q (if c=true then b else a) {s with heap:=h',toks:=tk}):wpAny (model prog w) A (call (.builtin "min") [a,b]) Q E s:=by
 refine call_function_tree F.kind_min F.plain_min F.entry_min (F.args_min2 _ _) (by
  show wpAny _ A.in1 (Builtin.Builtins.bindParams "min" ["key","default"] 0 ⟨[],[]⟩ >>= _) _ _ s;refine wp<|DO (a:=[none,none]) rfl ?_;show wpAny _ A.in1 (newTuple [a,b] >>= _) _ _ s;refine wp<|DH ?_;have hT:(s.heap.push {cls:=.type "tuple",data:=.seq #[a,b]}).IsTuple s.heap.objs.size #[a,b]:=⟨_,Ai _ rfl,rfl,0,rfl⟩;have Fg:(s.heap.push {cls:=.type "tuple",data:=.seq #[a,b]}).objs.size=s.heap.objs.size+1:=A1 ..;have hgk:hU s.heap (s.heap.push {cls:=.type "tuple",data:=.seq #[a,b]}):=λc o e=>Aa _ e;generalize (s.heap.push {cls:=.type "tuple",data:=.seq #[a,b]})=g at hT Fg hgk ⊢;refine wp<|EH hT<|wp<|DH ?_;rw[qR];have E6:∀{c:Nat}{o:Obj},s.heap.get? c=some o->c<s.heap.objs.size:=λe=>An e;have hsz2:∀ob:Obj,(g.push ob).objs.size=s.heap.objs.size+2:=λob=>by rw[A1,Fg]
  have W:=Walks.tuple (prog:=prog) (w:=w) (A:=A.in1) hh g.objs.size s.heap.objs.size (by rw[Fg];exact Aw<|Cs _) #[a,b]
  refine DB ⟨DW BB _,ZcT (A:=A) (h0:=s.heap) W (λi j=>if i=1/\j=0 then c else false) ?_ ?_ ?_ (show 0<2 by decide) ?_ ⟨?_,?_⟩ (Ai _ rfl) ?_⟩
  ·intro i j vi vj s' Q' E' hji kp hi hj hq;have hi2:i<2:=by have:=(BP.mp hi).1;simpa using this
   have e1:i=1:=by omega
   have e2:j=0:=by omega
   subst e1 e2;have e3:b=vi:=by simpa using hi
   have e4:a=vj:=by simpa using hj
   subst e3 e4;exact hcmp s' Q' E' kp (by simpa using hq)
  ·intro hm;have Fv:(g.push {cls:=.type "tuple_iterator",data:=.fields #[.ref s.heap.objs.size,.int 0 0]}).objs.size∈[g.objs.size,s.heap.objs.size]:=hm;rw[hsz2,Fg]at Fv;simp at Fv
  ·intro (c:Nat) o e;have hc:=E6 e;refine⟨λhm=>?_,?_⟩
   ·have Fv:c=g.objs.size:=by simpa using hm
    rw[Fv,Fg]at hc;omega
   ·show c≠(g.push {cls:=.type "tuple_iterator",data:=.fields #[.ref s.heap.objs.size,.int 0 0]}).objs.size;rw[hsz2];omega
  ·exact λc o e=>Aa _ (Aa _<|hgk c o e)
  ·exact⟨_,Aa _<|Ai _ rfl,rfl,rfl⟩
  ·exact hT.at λo e=>Aa _ (Aa _ e)
  ·intro v h' tk hP hk;have hv:v=if c=true then b else a:=by
    cases c with
    | true =>
     have e:argBest (λi j=>if i=1/\j=0 then true else false) ((#[a,b]:Array ET).size-1)=1:=rfl
     rw[e]at hP;simpa using hP.symm
    | false =>
     have e:argBest (λi j=>if i=1/\j=0 then false else false) ((#[a,b]:Array ET).size-1)=0:=rfl
     rw[e]at hP;simpa using hP.symm
   rw[hv];refine h h' tk λ(c:Nat) o e=>hk c o (λhm=>?_) ?_ (Aa _<|Aa _<|hgk c o e)
   ·have hc:=E6 e;have Fv:c=g.objs.size:=by simpa using hm
    rw[Fv,Fg]at hc;omega
   ·have hc:=E6 e;show c≠(g.push {cls:=.type "tuple_iterator",data:=.fields #[.ref s.heap.objs.size,.int 0 0]}).objs.size;rw[hsz2];omega)
end
def Zb7:EQ V->Hp->VK->Prop:=λxs H Q=>∃a b ns ms,xs=[.ref a,.ref b]/\H a=some (.tup<|ns.map V.int)/\H b=some (.tup<|ms.map V.int)/\Q (if HT.cG ms ns=true then .ref b else .ref a) H
def ZeP(hr:Room k X.A)(hc:X.calm=true):dH X (.builtin "min") Zb7:=by
 intro pins s σ H xs us Q I r h;obtain⟨a,b,ns,ms,rfl,ha,hb,q⟩:=h;obtain⟨u,w',rfl,ru,rw'⟩:=vX r;cases ru;cases rw';obtain⟨u1,r1,p1⟩:=cW (b:=false) I.hok ha;obtain⟨u2,r2,p2⟩:=cW (b:=false) I.hok hb;have i1:IntsAre u1.toArray.toList ns:=q9 r1;have i2:IntsAre u2.toArray.toList ms:=q9 r2;refine Zjy (c:=HT.cG ms ns) (I.ok.hd hc) (λs' Q' E' kp hq=>?_) λh' tk kp=>⟨_,H,I.kept kp,?_,q⟩
 ·have q1:IsTup s'.heap a u1.toArray:=SqAt.at (b:=false) p1 λo e=>kp a o e;have q2:IsTup s'.heap b u2.toArray:=SqAt.at (b:=false) p2 λo e=>kp b o e;exact HT.ZcY q2 q1 i2 i1 (show X.A.units+1<cLine from by have:=hr.units;omega) hq
 ·cases HT.cG ms ns
  ·exact rfl
  ·exact rfl
def iw:EQ ES->ER ES
 | [.tuple xs,.tuple ys]=>(ints? xs).bind λns=>(ints? ys).bind λms=>some (if HT.cG ms ns=true then .tuple (ms.map PyData.int)else .tuple<|ns.map PyData.int)
 |_=>none
def Zas:eZ Zb7 iw:=λPK pa m G H vs ds d Q w hv hd k=>by
 unfold iw at hd
 split at hd
 ·rename_i xs ys;cases e1:ints? xs with
  |none=>rw[e1]at hd;cases hd
  | some ns =>
   cases e2:ints? ys with
   |none=>rw[e1,e2]at hd;cases hd
   | some ms =>
    rw[e1,e2]at hd;have Fa:(if HT.cG ms ns=true then PyData.tuple (ms.map PyData.int)else .tuple<|ns.map PyData.int)=d:=AA hd
    cases hv with
    | cons h1 h2 =>
     cases h2 with
     | cons h2 h3 =>
      cases h3;cases h1 with
      | @tup a us _ a1 a2 =>
       cases h2 with
       | @tup b ws _ b1 b2 =>
        obtain⟨rfl,rfl⟩:=a2.ints_inv e1;obtain⟨rfl,rfl⟩:=b2.ints_inv e2;refine⟨a,b,ns,ms,rfl,w.sub _ _ a1,w.sub _ _ b1,?_⟩;subst Fa;cases hl:HT.cG ms ns
        ·rw[hl]at k;exact k.here w<|.tup a1<|DnAll.ints _
        ·rw[hl]at k;exact k.here w<|.tup b1<|DnAll.ints _
 ·cases hd
section
variable{PK:Pk}{e:E1}
end
section
variable{prog:EW}{w:EX}{A:EY}{E:Ds}{s:EU}
def Zjz{l:EV}{items:Array ET}{Q:Ds}{bt:Nat->Nat->Bool}(hh:A.handled=none)(hl:s.heap.IsList l items)(hn:0<items.size)
  (hcmp:zZ prog w A.in1 s.heap (λi v=>items[i]?=some v) bt)
  (h:∀h' tk v,hU s.heap h'->items[argBest bt<|items.size-1]?=some v->Q v {s with heap:=h',toks:=tk}):wpAny (model prog w) A (call (.builtin "min") [.ref l]) Q E s:=by
 refine call_function_tree F.kind_min F.plain_min F.entry_min (F.args_min1 _) (by
  show wpAny _ A.in1 (Builtin.Builtins.bindParams "min" ["key","default"] 0 ⟨[],[]⟩ >>= _) _ _ s;refine wp<|DO (a:=[none,none]) rfl ?_;refine wp<|DB ?_;refine wp<|Ea hl<|wp<|DH ?_;rw[qR];have E6:∀{c:Nat}{o:Obj},s.heap.get? c=some o->c<s.heap.objs.size:=λe=>An e;obtain⟨ol,hol,_⟩:=id hl;have hll:(l:Nat)<s.heap.objs.size:=An hol;have Fg:∀ob:Obj,(s.heap.push ob).objs.size=s.heap.objs.size+1:=λob=>A1 ..;have W:=Walks.list (prog:=prog) (w:=w) (A:=A.in1) hh s.heap.objs.size l (show(l:Nat)≠s.heap.objs.size from Aw hll) items
  refine DB ⟨DW BB _,ZcT (A:=A) (h0:=s.heap) W bt hcmp ?_ ?_ hn ?_ ⟨?_,?_⟩ (Ai _ rfl) ?_⟩
  ·intro hm;have Fv:((s.heap.push {cls:=.type "list_iterator",data:=.fields #[.ref l,.int 0 0]}).objs.size:Nat)∈([s.heap.objs.size,l]:EQ Nat):=hm;rw[Fg]at Fv;rcases Au.mp Fv with z|z
   ·exact absurd z (Nat.succ_ne_self _)
   ·rcases Au.mp z with z|z
    ·have hll':=hll;rw[<- z]at hll';exact absurd hll' (Nat.not_lt.mpr<|Nat.le_succ _)
    ·cases z
  ·intro (c:Nat) o e;have hc:=E6 e;refine⟨λhm=>?_,?_⟩
   ·have Fv:c=s.heap.objs.size:=by simpa using hm
    omega
   ·show c≠(s.heap.push {cls:=.type "list_iterator",data:=.fields #[.ref l,.int 0 0]}).objs.size;rw[Fg];omega
  ·exact λc o e=>Aa _ (Aa _ e)
  ·exact⟨_,Aa _<|Ai _ rfl,rfl,rfl⟩
  ·exact hl.at λo e=>Aa _ (Aa _ e)
  ·intro v h' tk hP hk;refine h h' tk v (λ(c:Nat) o e=>hk c o (λhm=>?_) ?_<|Aa _<|Aa _ e) hP
   ·have hc:=E6 e;have Fv:c=s.heap.objs.size:=by simpa using hm
    omega
   ·have hc:=E6 e;show c≠(s.heap.push {cls:=.type "list_iterator",data:=.fields #[.ref l,.int 0 0]}).objs.size;rw[Fg];omega)
end
section
variable{PK:Pk}{a b:E1}{pos:Pos}
end
section
variable{prog:EW}{w:EX}{A:EY}{E:Ds}{s:EU}
def ZmI{t b:EV}{ws:Dv}{Q:Ds}(ht:IsTup s.heap t ([]:Dv).toArray)(hb:IsTup s.heap b ws.toArray)(h1:Q (.ref b) s):wpAny (model prog w) A (binaryOp .Add (.ref t)<|.ref b) Q E s:=by obtain⟨⟨cls,dd,data,sl⟩,ho,hc,n,hd⟩:=id ht;obtain⟨⟨cls2,dd2,data2,dB⟩,ho2,hc2,n2,hd2⟩:=id hb;simp only at hc hd hc2 hd2;subst hc hd hc2 hd2;exact concat_meets ⟨_,ho,rfl⟩ ⟨_,ho2,rfl⟩ EN seq_tuple_add Cw Cq (Cm _ _) (tuple_addW0 t b _ ws.toArray n n2 dd dd2 sl dB rfl) ⟨ho,ho2,h1⟩
end
def Zch(K:Dh):R2:=λx y H Q=>∃a b ys,x=.ref a/\y=.ref b/\SqT K H a []/\SqT K H b ys/\Q (.ref b) H
def Zi7:OpR X (binaryOp .Add) (Zch X.K):=by intro pins s σ H x y v u Q I rx ry h;obtain⟨a,b,ys,rfl,rfl,ha,hb,q⟩:=h;cases rx;cases ry;obtain⟨E5,r1,p1,_⟩:=I.tuple ha;obtain⟨its2,r2,p2,_⟩:=I.tuple hb;cases r1;exact ZmI p1 p2 ⟨.ref b,H,I,rfl,q⟩
def fF:Dq
 |.tuple [],.tuple ys=>some (.tuple ys)
 |x,y=>aW x y
def Zcj(K:Dh):R2:=λx y H Q=>wU K x y H Q\/Zch K x y H Q
def tN:OpR X (binaryOp .Add) (Zcj X.K):=ZcL.or Zi7
def si{K:Dh}:cS (Zcj K) fF:=λPK pa m G H x y dx dy dz Q w hx hy hz k=>by
 unfold fF at hz
 split at hz
 ·cases hz;cases hx with
  | tup a1 a2 =>
   cases a2;cases hy with
   |tup b1 b2=>exact .inr ⟨_,_,_,rfl,rfl,SqT.of<|w.sub _ _ a1,SqT.of<|w.sub _ _ b1,k.here w<|.tup b1 b2⟩
 ·exact .inl<|Zar PK pa m G H x y _ _ dz Q w hx hy hz k
def pw{ys:Dt}:aL fF (.tuple []) (.tuple ys)=.ret (.tuple ys):=rfl
def gv{x:ES}{xs ys:Dt}(h:small ((x::xs).length+ys.length)=true):aL fF (.tuple (x::xs)) (.tuple ys)=.ret (.tuple (x::xs++ys)):=by
 show Tr.of (aW (.tuple (x::xs))<|.tuple ys)=_;unfold aW;simp only[A5,Bool.not_false,Bool.true_and,h,D8]
 rfl
section
variable{PK:Pk}{a b:E1}{pos:Pos}
end
def kY{n:Nat}:∀{us:EQ α},us.length=n+1->∃(a:α)(t:EQ α),us=a::t/\t.length=n
 |a::t,h=>⟨a,t,rfl,Cz h⟩
def ZjO{us:EQ α}(h:us.length=0):us=[]:=List.eq_nil_of_length_eq_zero h
def Zc8{us:EQ α}(h:us.length=1):∃a,us=[a]:=by obtain⟨a,t,rfl,h2⟩:=kY h;exact⟨a,by rw[ZjO h2]⟩
def uw{us:EQ α}(h:us.length=2):∃a0 a1,us=[a0,a1]:=by obtain⟨a0,t,rfl,h2⟩:=kY h;obtain⟨a1,rfl⟩:=Zc8 h2;exact⟨a0,a1,rfl⟩
def uv{us:EQ α}(h:us.length=3):∃a0 a1 a2,us=[a0,a1,a2]:=by obtain⟨a0,t,rfl,h2⟩:=kY h;obtain⟨a1,a2,rfl⟩:=uw h2;exact⟨a0,a1,a2,rfl⟩
def Zc7{us:EQ α}(h:us.length=4):∃a0 a1 a2 a3,us=[a0,a1,a2,a3]:=by obtain⟨a0,t,rfl,h2⟩:=kY h;obtain⟨a1,a2,a3,rfl⟩:=uv h2;exact⟨a0,a1,a2,a3,rfl⟩
def Zc6{us:EQ α}(h:us.length=5):∃a0 a1 a2 a3 a4,us=[a0,a1,a2,a3,a4]:=by obtain⟨a0,t,rfl,h2⟩:=kY h;obtain⟨a1,a2,a3,a4,rfl⟩:=Zc7 h2;exact⟨a0,a1,a2,a3,a4,rfl⟩
def ZjS{us:EQ α}(h:us.length=6):∃a0 a1 a2 a3 a4 a5,us=[a0,a1,a2,a3,a4,a5]:=by obtain⟨a0,t,rfl,h2⟩:=kY h;obtain⟨a1,a2,a3,a4,a5,rfl⟩:=Zc6 h2;exact⟨a0,a1,a2,a3,a4,a5,rfl⟩
section
variable{PK:Pk}{pos:Pos}{n:Nat}{s t:Dl}
def ZnD{sts:EQ E3}:PSs X sts (bg PK vt):=λ_ _ _ _ _ _ h=>by obtain⟨pa,DA,H₀,m,ρ,G,R,z⟩:=h;exact z.elim
end
section
variable{PK:Pk}{a b c d e:E1}{pos:Pos}{l n:Di}
end
end L2
set_option exponentiation.threshold 9000
namespace Tw
open L2
def nb(k:Nat)(n:Int):Prop:=n.natAbs<2^k
def aB{n:Int}(h:nb k n)(hk:k<=8000):fit n=true:=DE<|Ao h<|CD (by decide) hk
def aM{l:Nat}{n:Int}(h:nb k n)(hk:k<=l):nb l n:=Ao h<|CD (by decide) hk
def bM{l:Nat}{m n:Int}(h:nb k m)(h':nb l n):nb (k+l) (m*n):=by unfold nb at *;rw[BA,Nat.pow_add];exact Nat.mul_lt_mul'' h h'
def bX{l:Nat}{m n:Int}(h:nb k m)(h':nb l n):nb (max k l+1) (m+n):=by have h1:=aM h<|Nat.le_max_left k l;have h2:=aM h'<|Nat.le_max_right k l;unfold nb at *;rw[Nat.pow_succ,Nat.mul_two];exact BL (Int.natAbs_add_le m n)<|Nat.add_lt_add h1 h2
def gK{n:Int}(h:nb k n):nb k (-n):=by unfold nb at *;omega
def gJ{l:Nat}{m n:Int}(h:nb k m)(h':nb l n):nb (max k l+1) (m-n):=by rw[Int.sub_eq_add_neg];exact bX h<|gK h'
def bc{n:Int}(h1:-(2^k:Nat)<n)(h2:n<(2^k:Nat)):nb k n:=by unfold nb;omega
def kL{c:Prop}[Decidable c]{m n:Int}(h:nb k m)(h':nb k n):nb k (if c then m else n):=by split <;> assumption
noncomputable def ws(f:Int->Int):Nat->EQ Int->Int
 |_,[]=>0
 |k,w::l=>w*f k+ws f (k+1) l
theorem ZaR{a:Nat}:∀{l:Du},(∀w∈l,nb a w)->nb (a+l.length) l.sum
 | [],h=>by unfold nb;simp;exact Bh (by simp)
 | w::l,h=>by
  rw[AU];refine aM (bX (h w<|by simp)<|ZaR (l:=l) λv hv=>h v<|Ab _ hv) ?_
  rw[Ac];omega
structure Shp where
 top:Int
 depth:Int
 start:Int
 piece:Int
 keep:Int
 lack:Int
 lost:Int
 back:Int
 late:Int
noncomputable def Shp.l(s:Shp):Du:=[s.top,s.depth,s.start,s.piece,s.keep,s.lack,s.lost,s.back,s.late]
@[irreducible] def Shp.d(s:Shp):ES:=.tuple<|s.l.map PyData.int
structure Shp.Ok(s:Shp):Prop where
 t0:0<=s.top
 d0:0<=s.depth
 td:s.top+s.depth<=100
 start0:0<=s.start
 start:nb 45 s.start
 piece:nb 45 s.piece
 keep:nb 45 s.keep
 lack:nb 45 s.lack
 lost:nb 45 s.lost
 back:nb 45 s.back
 late:nb 45 s.late
def kl(s:Shp):aL ak s.d (.int 0)=.ret (.int s.top):=by unfold Shp.d;rw[dN];exact DI Tr.of fU
def kj(s:Shp):aL ak s.d (.int 1)=.ret (.int s.depth):=by unfold Shp.d;rw[dN];exact DI Tr.of iP
def ki(s:Shp):aL ak s.d (.int 2)=.ret (.int s.start):=by unfold Shp.d;rw[dN];exact DI Tr.of iO
def kh(s:Shp):aL ak s.d (.int 3)=.ret (.int s.piece):=by unfold Shp.d;rw[dN];exact DI Tr.of jK
def kg(s:Shp):aL ak s.d (.int 4)=.ret (.int s.keep):=by unfold Shp.d;rw[dN];exact DI Tr.of jJ
def kc(s:Shp):aL ak s.d (.int 5)=.ret (.int s.lack):=by unfold Shp.d;rw[dN];exact DI Tr.of jI
def ka(s:Shp):aL ak s.d (.int 6)=.ret (.int s.lost):=by unfold Shp.d;rw[dN];exact DI Tr.of jH
def j9(s:Shp):aL ak s.d (.int 7)=.ret (.int s.back):=by unfold Shp.d;rw[dN];exact DI Tr.of jG
def j8(s:Shp):aL ak s.d (.int 8)=.ret (.int s.late):=by unfold Shp.d;rw[dN];exact DI Tr.of jF
section
variable(s:Shp)
def Shp.nx(y f:Int):Int:=dD (y-f)<|-s.depth
noncomputable def Shp.day(y f:Int):Int:=(if s.nx y f>0 then s.keep*s.nx y f else s.lack * -s.nx y f)+s.lost*(s.nx y f-(y-f))
noncomputable def Shp.ord(x y:Int):Int:=if y<=x then 0 else s.start+s.piece*(y-x)
noncomputable def Shp.fin(x:Int):Int:=if x>0 then -s.back*x else s.late * -x
def Shp.wg(day:Du)(y:Int)(ahead:Int->Int)(sc:Int):Int:=ws (λf=>sc*s.day y f+ahead (s.nx y f)) 0 day
noncomputable def Shp.sm(day:Du)(ahead:Int->Int)(sc:Int)(y:Int):Int:=sc*day.sum*s.piece*y+s.wg day y ahead sc
end
def Shp.n(s:Shp):Nat:=(s.top+1 - -s.depth).toNat
def Shp.row(s:Shp)(f:Int->Int):Du:=(aF (-s.depth) s.n).map f
def lI(l:Du):ES:=.list<|l.map PyData.int
noncomputable def tI(l:Du):ES:=.tuple<|l.map PyData.int
def fD(fs:EQ Du):ES:=.tuple<|fs.map tI
def Shp.Ok.n_eq{s:Shp}(h:s.Ok):(s.n:Int)=s.top+s.depth+1:=by have:=h.t0;have:=h.d0;unfold Shp.n;omega
def ZhQ{s:Shp}{f:Int->Int}{x:Int}(h1:-s.depth<=x)(h2:x<=s.top):(s.row f)[(x+s.depth).toNat]?=some (f x):=by
 unfold Shp.row aF;rw[Av,Ak,A3<|by unfold Shp.n;omega]
 show some (f<|-s.depth+((x+s.depth).toNat:Int))=_;congr 2;omega
def ZhP{s:Shp}{f:Int->Int}{x:Int}(h1:-s.depth<=x)(h2:x<=s.top):ba ((s.row f).map PyData.int) (x+s.depth)=some (.int<|f x) :=
 gy (by omega) (by rw[Ak,ZhQ h1 h2];rfl)
def cF(s:Shp)(y f:Int):-s.depth<=s.nx y f:=by unfold Shp.nx dD;split <;> omega
def cE{s:Shp}(h:s.Ok){f:Int}(hy:y<=s.top)(hf:0<=f):s.nx y f<=s.top:=by have:=h.t0;have:=h.d0;unfold Shp.nx dD;split <;> omega
end Tw
variable{s:Tw.Shp}
namespace L2
variable{s t:Dl}{l:Di}{n:Nat}{x y d:ES}{xs ys:Dt}{sl:Sl}
def kz{a:α}{f:α->Tr β}:(Tr.ret a).bind f=f a:=Eq.trans (Tr.ret_bind a f)<|Eq.refl _
def li:uI gs (.list xs) ρ=gs xs ρ:=by cases h:gs xs ρ <;> exact h
def qy(xs:Dt):Tr Dt:=.ret xs.reverse
def ZbC(x:ES):Tr Dt:=(cH x).bind qy
def mx:vp i ρ=(i ρ).bind ZbC:=rfl
def mq:ZbC x=(cH x).bind qy:=rfl
def mo:qy xs=.ret xs.reverse:=rfl
def ZbB(xs:Dt):Tr Dt:=(ky xs).bind qy
def mw:zr is ρ=(is ρ).bind ZbB:=rfl
def ml:ZbB xs=(ky xs).bind qy:=rfl
def yw(k:Nat)(ρ:Dz)(xs:Dt):ES->Tr Ou
 |.list ys=>if small (xs.length+ys.length)=true then .ret (.next<|ρ.set k<|.own<|xs++ys)else .fail
 |_=>.fail
def ZdR(k:Nat)(i:Di)(ρ:Dz)(xs:Dt):Tr Ou:=(i ρ).bind<|yw k ρ xs
def oB:rS k i ρ=(gk k ρ).bind (ZdR k i ρ):=by
 refine Eq.trans ?_<|qL k ρ;unfold rS;cases ρ[k]? with
 |none=>rfl
 | some sl =>
  cases sl with
  |own xs=>exact DI (Tr.bind<|i ρ) (funext λx=>by cases x <;> rfl)
  |_=>rfl
def oA:ZdR k i ρ xs=(i ρ).bind (yw k ρ xs):=rfl
def jz(h:small (xs.length+ys.length)=true):yw k ρ xs (.list ys)=.ret (.next<|ρ.set k<|.own<|xs++ys):=by
 show(if small (xs.length+ys.length)=true then _ else _)=_
 rw[DD h]
def iJ(a b c d:Int):bz iw [.tuple [.int a,.int b],.tuple [.int c,.int d]]=.ret (if c<a\/c=a/\d<b then .tuple [.int c,.int d]else .tuple [.int a,.int b]):=by
 have h1:ints? [PyData.int a,.int b]=some [a,b]:=ints?_map [a,b];have h2:ints? [PyData.int c,.int d]=some [c,d]:=ints?_map [c,d];unfold bz iw;simp only[h1,h2];show Tr.of (some _)=_;rw[Tr.of_some];have e:HT.cG [c,d] [a,b]=true ↔ (c<a\/c=a/\d<b):=by
  simp only[HT.xR,HT.Zc4];by_cases hca:c=a
  ·subst hca;by_cases Fn:d=b
   ·simp[Fn]
   ·simp[Fn]
  ·simp[hca]
 by_cases hc:(c<a\/c=a/\d<b)
 ·rw[DD<|e.mpr hc,DD hc];rfl
 ·rw[DF<|λz=>hc<|e.mp z,DF hc];rfl
def ZnR{t:Tr α}{P:α->Prop}(h:Al t 0 P):∃a,t=.ret a/\P a:=by
 have h':=h.out;cases t with
 |ret a=>exact⟨a,rfl,h'⟩
 |draw w k=>exact h'.elim
 |fail=>exact h'.elim
def pR{t:Tr α}{a:α}(h:Al t 0 λb=>b=a):t=.ret a:=by obtain⟨b,e,rfl⟩:=ZnR h;exact e
def ZnQ{t:Tr α}{a:α}{P:α->Prop}{N:Nat}(h:t=.ret a)(hp:P a):Al t N P:=by rw[h];exact cp hp
theorem ZdH{s:Dl}{g:Dp}{n:Nat}{full:Dt}(I:EQ ES->EQ Sl->Prop){Q:Ou->Prop}(ht:∀pre x post ρ,full=pre++x::post->I pre ρ->∃ρ1,g x ρ=some ρ1/\(s ρ1).all n λo=>∃ρ2,o=.next ρ2/\I (pre++[x]) ρ2)(hq:∀ρ,I full ρ->Q (.next ρ)) :
  ∀{xs pre:Dt}{ρ:Dz},full=pre++xs->I pre ρ->(cI g s xs ρ).all (xs.length*n) Q
 | [],pre,ρ,e,h0=>hq ρ (by rw[e,AI];exact h0)
 | x::xs,pre,ρ,e0,h0=>by
  obtain⟨ρ1,e,ha⟩:=ht pre x xs ρ e0 h0;have en:(x::xs).length*n=n+xs.length*n:=by rw[Ac,BM];omega
  rw[en,yu,e,Tr.of_some,Tr.ret_bind];unfold rf;refine Tr.all_bind ha λo ⟨ρ2,eo,h2⟩=>?_;subst eo;rw[yx];exact ZdH I ht hq (by rw[e0,A2];rfl) h2
def iQ{n N:Nat}{s:Dl}{xs:Dt}{Q:Ou->Prop}(I:EQ ES->EQ Sl->Prop)(h0:I [] ρ)(hN:xs.length*n<=N)(ht:∀pre x post ρ,xs=pre++x::post->I pre ρ->∃ρ1,g x ρ=some ρ1/\Al (s ρ1) n λo=>∃ρ2,o=.next ρ2/\I (pre++[x]) ρ2)(hq:∀ρ,I xs ρ->Q (.next ρ)):Al (cI g s xs ρ) N Q :=
 .of (Tr.all_mono (ZdH (full:=xs) I (λpre x post ρ e h=>let ⟨ρ1,e,a⟩:=ht pre x post ρ e h;⟨ρ1,e,a.out⟩) hq (pre:=[]) rfl h0) hN λ_ h=>h)
def ZhV{pre post:Dt}{x:ES}(h:(bh lo hi).reverse=pre++x::post):x=.int (hi-1-pre.length)/\(pre.length:Int)<hi-lo:=by
 have h1:((bh lo hi).reverse)[pre.length]?=some x:=by rw[h];simp
 have hl:pre.length<((bh lo hi).reverse).length:=(Ad.mp h1).1;rw[AQ,cB]at hl;rw[Bw<|by rw[cB];exact hl,cB]at h1
 unfold bh aF at h1;rw[Av,Ak,A3<|by omega]at h1
 refine⟨?_,by omega⟩
 cases h1;show PyData.int (lo+(((hi-lo).toNat-1-pre.length:Nat):Int))=_;congr 1;omega
def ZcU{h:ES->Tr ES}{f:Int->ES}(hx:∀z:Int,lo<=z->z<hi->h (.int z)=.ret (f z)):aX h (bh lo hi)=.ret ((aF lo (hi-lo).toNat).map f):=by
 have key:∀l:Du,(∀z∈l,lo<=z/\z<hi)->aX h (l.map PyData.int)=.ret (l.map f):=by
  intro l
  induction l with
  |nil=>intro _;rfl
  | cons z l ih =>
   intro hz;have hh:=hz z<|by simp
   rw[Af,aX,hx z hh.1 hh.2,Tr.ret_bind,ih λy hy=>hz y<|Ab _ hy]
   rfl
 unfold bh;refine key _ λz hz=>?_;have:=jb hz;omega
def rp{xs:Dt}{pre post:Dt}{x:ES}(h:eE xs=pre++x::post):∃y,xs[pre.length]?=some y/\x=.tuple [.int pre.length,y]:=by
 have h1:(eE xs)[pre.length]?=some x:=by rw[h];simp
 unfold eE at h1;rw[List.getElem?_zipWith]at h1;cases hx:xs[pre.length]? with
 |none=>rw[hx]at h1;simp at h1
 | some y =>
  have hl:pre.length<xs.length:=(Ad.mp hx).1;rw[hx,A3 hl]at h1;simp at h1;exact⟨y,rfl,h1.symm⟩
def jB(xs:Dt):(eE xs).length=xs.length:=by unfold eE;simp
end L2
namespace Tw
open L2
def bst(g:Int->Int)(top:Int):Nat->Int×Int
 |0=>(g top,top)
 |n+1=>if (bst g top n).1<g (top-((n+1:Nat):Int))then bst g top n else (g<|top-((n+1:Nat):Int),top-((n+1:Nat):Int))
theorem uW(g:Int->Int)(top:Int):∀n:Nat,top-n<=(bst g top n).2/\(bst g top n).2<=top/\g (bst g top n).2=(bst g top n).1
 |0=>by unfold bst;simp
 | n+1=>by
  have ih:=uW g top n;unfold bst
  split
  ·exact⟨by omega,ih.2.1,ih.2.2⟩
  ·exact⟨AC _,by omega,rfl⟩
theorem yT(g:Int->Int)(top:Int):∀(n:Nat)(y:Int),top-n<=y->y<=top->(bst g top n).1<=g y
 | 0,y,h1,h2=>by
  have:y=top:=by omega
  subst this;unfold bst;exact AC _
 | n+1,y,h1,h2=>by
  by_cases hy:y=top-((n+1:Nat):Int)
  ·unfold bst
   split
   ·subst hy;omega
   ·subst hy;exact AC _
  ·have ih:=yT g top n y (by omega) h2
   unfold bst
   split
   ·exact ih
   ·omega
def pck(g:Int->Int)(top K x:Int):Int×Int :=
 match (top-x).toNat with
 |0=>(g x,x)
 |n+1=>if K+(bst g top n).1<g x then (K+(bst g top n).1,(bst g top n).2)else (g x,x)
def cst(g:Int->Int)(top K P x:Int):Int:=(pck g top K x).1-P*x
def lvl(g:Int->Int)(top K x:Int):Int:=(pck g top K x).2
def xz(g:Int->Int)(top K:Int):pck g top K top=(g top,top):=by
 unfold pck;rw[Int.sub_self]
 rfl
def xA(g:Int->Int)(top K:Int)(n:Nat):pck g top K (top-((n+1:Nat):Int))=if K+(bst g top n).1<g (top-((n+1:Nat):Int))then (K+(bst g top n).1,(bst g top n).2)else (g<|top-((n+1:Nat):Int),top-((n+1:Nat):Int)):=by
 unfold pck;have e:(top-(top-((n+1:Nat):Int))).toNat=n+1:=by omega
 rw[e]
def ZiR{g:Int->Int}{top K x:Int}(hx:x<=top):(pck g top K x).1<=g x/\∀y,x<y->y<=top->(pck g top K x).1<=K+g y:=by
 by_cases ht:x=top
 ·subst ht;rw[xz];exact⟨AC _,λy h1 h2=>by omega⟩
 ·obtain⟨n,hn⟩:∃n:Nat,x=top-((n+1:Nat):Int):=⟨(top-x-1).toNat,by omega⟩
  subst hn;rw[xA]
  split
  ·rename_i hc;exact⟨by dsimp only;omega,λy h1 h2=>by have:=yT g top n y (by omega) h2;dsimp only;omega⟩
  ·rename_i hc;exact⟨AC _,λy h1 h2=>by have:=yT g top n y (by omega) h2;dsimp only;omega⟩
def ZcF{g:Int->Int}{top K x:Int}(hx:x<=top):x<=(pck g top K x).2/\(pck g top K x).2<=top/\(((pck g top K x).2=x/\(pck g top K x).1=g x)\/(x<(pck g top K x).2/\(pck g top K x).1=K+g (pck g top K x).2/\(pck g top K x).1<g x)):=by
 by_cases ht:x=top
 ·subst ht;rw[xz];exact⟨AC _,AC _,.inl ⟨rfl,rfl⟩⟩
 ·obtain⟨n,hn⟩:∃n:Nat,x=top-((n+1:Nat):Int):=⟨(top-x-1).toNat,by omega⟩
  subst hn;rw[xA];have hb:=uW g top n
  split
  ·rename_i hc;exact⟨by dsimp only;omega,hb.2.1,.inr ⟨by dsimp only;omega,by dsimp only;rw[hb.2.2],hc⟩⟩
  ·exact⟨AC _,by dsimp only;omega,.inl ⟨rfl,rfl⟩⟩
def ZiQ{g:Int->Int}{top K x:Int}{b:Nat}(hx:x<=top)(hg:∀y,x<=y->y<=top->nb b (g y))(hK:nb b K):nb (b+1) (pck g top K x).1:=by
 obtain⟨h1,h2,h3⟩:=ZcF (g:=g) (K:=K) hx;rcases h3 with ⟨e1,e2⟩|⟨e1,e2,e3⟩
 ·rw[e2];exact aM (hg x (AC _) hx)<|by omega
 ·rw[e2];exact aM (bX hK<|hg _ h1 h2)<|by omega
structure DayB(l:Du):Prop where
 len:l.length<=16
 nb:∀w∈l,nb 30 w
 w0:∀w∈l,0<=w
 pos:0<l.sum
def fR(h:s.Ok){f:Int}(hy:nb 20 y)(hf:nb 40 f):nb 100 (s.day y f):=by
 have hd:nb 7 s.depth:=by have:=h.t0;have:=h.d0;have:=h.td;exact bc (by show -128<_;omega)<|by show _<128;omega
 have hn:nb 50 (s.nx y f):=by unfold Shp.nx dD;exact kL (aM (gK hd)<|by decide)<|aM (gJ hy hf)<|by decide
 unfold Shp.day;refine aM (bX (kL (k:=95) (bM h.keep hn)<|bM h.lack<|gK hn)<|bM h.lost<|gJ hn<|gJ hy hf)<|by decide
def Bd(s:Shp)(b:Nat)(f:Int->Int):Prop:=∀x,-s.depth<=x->x<=s.top->nb b (f x)
def ZfQ(h:s.Ok){day:Du}(hd:DayB day)(y1:-s.depth<=y)(y2:y<=s.top){b:Nat}(hA:Bd s b A){sc:Int}(hs:nb b sc):nb (b+150) (s.wg day y A sc):=by
 have:=h.t0;have:=h.d0;have:=h.td;have hlen:=hd.len;have hy:nb 20 y:=bc (by show -1048576<_;omega)<|by show _<1048576;omega
 have key:∀(l:Du)(k:Nat),(∀w∈l,nb 30 w)->k+l.length<=16->nb (30+(b+101)+l.length) (ws (λf=>sc*s.day y f+A (s.nx y f)) k l):=by
  intro l
  induction l with
  |nil=>intro k _ _;unfold ws nb;exact Bh (by simp)
  | cons w l ih =>
   intro k hw hk;rw[Ac]at hk ⊢;have hf:nb 40 (k:Int):=bc (by show -1099511627776<_;omega)<|by show _<1099511627776;omega
   have b1:=bX (bM hs<|fR h hy hf)<|hA _ (cF s y k)<|cE h y2<|show(0:Int)<=k by omega
   have h1:=bM (hw w<|by simp) b1
   have h2:=ih (k+1) (λv hv=>hw v<|Ab _ hv)<|by omega
   unfold ws;exact aM (bX h1 h2)<|by omega
 exact aM (key day 0 hd.nb<|by omega)<|by omega
def iZ{day:Du}(hd:DayB day):nb 46 day.sum:=aM (ZaR hd.nb) (by have:=hd.len;omega)
def ZaY(h:s.Ok){day:Du}(hd:DayB day){b:Nat}(hA:Bd s b A){sc:Int}(hs:nb b sc):Bd s (b+151) (s.sm day A sc):=λy y1 y2=>by
 have:=h.t0;have:=h.d0;have:=h.td;have hy:nb 20 y:=bc (by show -1048576<_;omega)<|by show _<1048576;omega
 unfold Shp.sm;exact aM (bX (bM (bM (bM hs<|iZ hd) h.piece) hy)<|ZfQ h hd y1 y2 hA hs)<|by omega
def Shp.bk(s:Shp):EQ Du->(Int->Int)×Int
 | []=>(s.fin,1)
 |day::rest=>(cst (s.sm day (s.bk rest).1 (s.bk rest).2) s.top ((s.bk rest).2*day.sum*s.start)<|(s.bk rest).2*day.sum*s.piece,(s.bk rest).2*day.sum)
def Shp.sms(s:Shp)(day:Du)(rest:EQ Du)(y:Int):Int:=s.sm day (s.bk rest).1 (s.bk rest).2 y
theorem Ze0{s:Shp}:∀{fs:EQ Du},(∀l∈fs,DayB l)->0<(s.bk fs).2
 | [],_=>by show(0:Int)<1;decide
 |day::rest,h=>BR (Ze0 λl hl=>h l<|Ab _ hl) (h day<|by simp).pos
def rj(h:s.Ok):Bd s 100 s.fin:=λx h1 h2=>by
 have:=h.t0;have:=h.d0;have:=h.td;have hx:nb 20 x:=bc (by show -1048576<_;omega)<|by show _<1048576;omega
 unfold Shp.fin;exact aM (kL (k:=65) (bM (gK h.back) hx)<|bM h.late<|gK hx)<|by decide
def Zmr(h:s.Ok){g:Int->Int}{b:Nat}(hg:Bd s b g){sc:Int}(hs:nb b sc):Bd s (b+112) (cst g s.top (sc*s.start)<|sc*s.piece):=λx h1 h2=>by
 have:=h.t0;have:=h.d0;have:=h.td;have hx:nb 20 x:=bc (by show -1048576<_;omega)<|by show _<1048576;omega
 unfold cst;have k1:=ZiQ (b:=b+45) (K:=sc*s.start) h2 (λy y1 y2=>aM (hg y (by omega) y2)<|by omega)<|bM hs h.start
 exact aM (gJ k1<|bM (bM hs h.piece) hx)<|by omega
theorem pN{s:Shp}(h:s.Ok):∀{fs:EQ Du},(∀l∈fs,DayB l)->Bd s (100+300*fs.length) (s.bk fs).1/\nb (100+300*fs.length) (s.bk fs).2
 | [],_=>⟨rj h,bc (by show -(2^100:Nat)<(1:Int);omega)<|by show(1:Int)<(2^100:Nat);omega⟩
 | day::rest,hf=>by
  obtain⟨i1,i2⟩:=pN h (fs:=rest) λl hl=>hf l<|Ab _ hl;have hd:=hf day<|by simp
  have k1:=ZaY h hd i1 i2;have k2:=bM i2<|iZ hd;rw[Ac];refine⟨λx h1 h2=>aM (Zmr h (b:=100+300*rest.length+151) k1 (aM k2<|by omega) x h1 h2)<|by omega,aM k2<|by omega⟩
def Zh0{fs:EQ Du}{pre post:Dt}{x:ES}(h:(fs.map tI).reverse=pre++x::post):∃(day:Du),x=tI day/\pre.length<fs.length/\fs.drop (fs.length-(pre.length+1))=day::fs.drop (fs.length-pre.length):=by
 have h1:((fs.map tI).reverse)[pre.length]?=some x:=by rw[h];simp
 have hl:pre.length<((fs.map tI).reverse).length:=(Ad.mp h1).1;rw[AQ,v9]at hl;rw[Bw<|by rw[v9];exact hl,v9,Ak]at h1
 obtain⟨day,hd,rfl⟩:=AN.mp h1;refine⟨day,rfl,hl,?_⟩;have e:fs.length-(pre.length+1)=fs.length-1-pre.length:=by rw[Nat.add_comm pre.length 1,Nat.sub_add_eq]
 have e2:fs.length-pre.length=fs.length-1-pre.length+1:=by omega
 rw[e,e2,Ax<|by omega]
 congr 1;exact(Ad.mp hd).2
abbrev rng(lo hi:Int):Du:=aF lo (hi-lo).toNat
def wR(lo:Int)(a b:Nat):aF lo (a+b)=aF lo a++aF (lo+a) b:=by unfold aF;rw[List.range_add,BE,Av];congr 1;apply Be;intro k _;show lo+((a+k:Nat):Int)=lo+(a:Int)+(k:Int);omega
def f3(lo a b c:Int)(t:Int->Int->Int->ER α):ER α:=(rng lo a).findSome? λu=>(rng (u+1) b).findSome? λv=>(rng (v+1) c).findSome? λw=>t u v w
structure Shp.Dr(s:Shp):Prop where
 t0:0<=s.top
 d0:0<=s.depth
 td:s.top+s.depth<=39
 p:∀n∈[s.start,s.piece,s.keep,s.lack,s.lost,s.back,s.late],0<=n/\n<=1000000
def Shp.Dr.ok(h:s.Dr):s.Ok:=by
 have hp:=h.p;simp only[Au,Bb,Ee,forall_eq_or_imp,forall_eq]at hp;obtain⟨h1,h2,h3,h4,h5,h6,h7⟩:=hp;have k:∀n:Int,0<=n/\n<=1000000->nb 45 n:=λn hn=>bc (by show -35184372088832<_;omega)<|by show _<35184372088832;omega
 exact⟨h.t0,h.d0,by have:=h.td;omega,h1.1,k _ h1,k _ h2,k _ h3,k _ h4,k _ h5,k _ h6,k _ h7⟩
def Za6{d e f g h i:Int}:PyData.tuple [.int a,.int b,.int c,.int d,.int e,.int f,.int g,.int h,.int i]=(Shp.mk a b c d e f g h i).d:=by
 unfold Shp.d
 rfl
def Zdr(l:Du):cH (tI l)=.ret (l.map PyData.int):=rfl
def iG(l:EQ Du):cH (fD l)=.ret (l.map tI):=rfl
def ZgP(l:Du):bz cJ [tI l]=.ret (.int l.sum):=fw l
def ZjP(l:Du):bz dL [tI l]=.ret (.int l.length):=by show Tr.ret (PyData.int ((l.map PyData.int).length:Int))=_;rw[v9]
structure Rp(d:ES)(k n:Nat):Prop where
 hd:d.hasDict=false
 sh:d.showable=true
 dp:d.depth<=k
 ln:d.shown.length<=n
def qA{d:ES}{n:Nat}(h:Rp d k n)(hk:k<=32)(hn:n<=10000000):ja d=true:=by
 unfold ja;rw[h.hd,h.sh,DE<|Ap h.dp hk,DE<|Ap h.ln<|Ap hn<|by rw[DV];decide]
 rfl
def dY{d:ES}{n k' n':Nat}(h:Rp d k n)(hk:k<=k')(hn:n<=n'):Rp d k' n':=⟨h.hd,h.sh,Ap h.dp hk,Ap h.ln hn⟩
def ZhL{i:Int}(h:nb 1900 i):Rp (.int i) 0 1901:=by
 have h1:=Za8 [i] λn hn=>by simp at hn;subst hn;exact h
 have h2:=(Za7 [i] λn hn=>by simp at hn;subst hn;exact h).1
 refine⟨rfl,?_,A0 _,?_⟩
 ·simp only[Af,Bo,PyData.showableAll,Bool.and_true]at h1;exact h1
 ·simp only[Af,Bo,PyData.shownAll,AU,List.sum_nil,Ac,AK]at h2;omega
theorem ZbF{k n:Nat}:∀{xs:Dt},(∀x∈xs,Rp x k n)->PyData.hasDictAll xs=false/\PyData.showableAll xs=true/\PyData.depthAll xs<=k/\((PyData.shownAll xs).map (·.length)).sum<=xs.length*n/\(PyData.shownAll xs).length=xs.length
 | [],_=>⟨rfl,rfl,A0 _,by simp[PyData.shownAll],rfl⟩
 | x::xs,h=>by
  obtain⟨h1,h2,h3,h4,h5⟩:=ZbF (xs:=xs) λy hy=>h y<|Ab _ hy;have hx:=h x<|by simp
  refine⟨?_,?_,?_,?_,?_⟩
  ·rw[PyData.hasDictAll,hx.hd,h1];rfl
  ·rw[PyData.showableAll,hx.sh,h2];rfl
  ·rw[PyData.depthAll];have:=hx.dp;omega
  ·rw[PyData.shownAll,Af,AU,Ac,BM];have:=hx.ln;omega
  ·rw[PyData.shownAll,Ac,Ac,h5]
def i9{xs:Dt}{n:Nat}(h:∀x∈xs,Rp x k n):Rp (.tuple xs) (k+1) (xs.length*n+2*xs.length+10):=by
 obtain⟨h1,h2,h3,h4,h5⟩:=ZbF h;have c3:=tupleText_len_le<|PyData.shownAll xs;refine⟨?_,?_,?_,?_⟩
 ·rw[PyData.hasDict,h1]
 ·rw[PyData.showable,h2]
 ·rw[PyData.depth];omega
 ·rw[PyData.shown];omega
def qz{l:Du}(h:∀n∈l,nb 1900 n)(hl:l.length<=m):Rp (tI l) 1 (m*1903+10):=by
 refine dY (i9 (k:=0) (n:=1901) λx hx=>?_) (Ag _) ?_
 ·obtain⟨i,hi,rfl⟩:=AM.mp hx;exact ZhL<|h i hi
 ·rw[v9];have:l.length*1903<=m*1903:=Nat.mul_le_mul_right _ hl;omega
def ZhI(h:s.Ok):Rp s.d 1 20000:=by
 have e:s.d=tI s.l:=by unfold Shp.d;rfl
 rw[e];refine dY (qz (m:=9) (λn hn=>?_)<|Ag _) (Ag _)<|by decide
 have:=h.t0;have:=h.d0;have:=h.td;unfold Shp.l at hn;simp only[Au,Bb,Ee]at hn;have k:∀n:Int,nb 45 n->nb 1900 n:=λn hn=>aM hn<|by decide
 have k1:nb 1900 s.top:=k _<|bc (by show -35184372088832<_;omega)<|by show _<35184372088832;omega
 have k2:nb 1900 s.depth:=k _<|bc (by show -35184372088832<_;omega)<|by show _<35184372088832;omega
 rcases hn with rfl|rfl|rfl|rfl|rfl|rfl|rfl|rfl|rfl
 ·exact k1
 ·exact k2
 ·exact k _ h.start
 ·exact k _ h.piece
 ·exact k _ h.keep
 ·exact k _ h.lack
 ·exact k _ h.lost
 ·exact k _ h.back
 ·exact k _ h.late
def qo(x:Str):(x==x)=true:=by simp
def euclid{p:Dk}{s:Dl}{E:Nat->Nat->EQ Sl}(hp:∀a b:Nat,p (E a b)=.ret (decide (b≠0)))(hs:∀a b:Nat,b≠0->s (E a b)=.ret (.next<|E b<|a%b)) :
  ∀n k a b:Nat,b<2^n->dU p s (2*n+1+k) (E a b)=.ret (.next<|E (Nat.gcd a b) 0):=by
 have stop:∀k a:Nat,dU p s (k+1) (E a 0)=.ret (.next<|E a 0):=λk a=>by
  rw[dU,hp,Tr.ret_bind]
  rfl
 have go:∀k a b:Nat,b≠0->dU p s (k+1) (E a b)=dU p s k (E b<|a%b):=λk a b hb=>by rw[dU,hp,Tr.ret_bind,DE hb,DD rfl,hs a b hb,Tr.ret_bind]
 intro n
 induction n with
 | zero =>
  intro k a b hb;have e:b=0:=by simp at hb;exact hb
  subst e;rw[Nat.gcd_zero_right,Nat.add_comm (2*0+1) k];exact stop k a
 | succ n ih =>
  intro k a b hb;by_cases h0:b=0
  ·subst h0;have e:2*(n+1)+1+k=(2*(n+1)+k)+1:=by omega
   rw[Nat.gcd_zero_right,e];exact stop _ a
  ·have e:2*(n+1)+1+k=(2*n+2+k)+1:=by omega
   rw[e,go _ a b h0];have hr:a%b<b:=Nat.mod_lt _<|Bh h0;by_cases h1:a%b=0
   ·rw[h1];have e2:2*n+2+k=(2*n+1+k)+1:=by omega
    have eg:Nat.gcd a b=b:=by rw[CA,Nat.gcd_rec,h1,Nat.gcd_zero_left]
    rw[e2,eg];exact stop _ b
   ·have e2:2*n+2+k=(2*n+1+k)+1:=by omega
    rw[e2,go _ b (a%b) h1];have E6:b%(a%b)<2^n:=by
     have h2:b%(a%b)<a%b:=Nat.mod_lt _<|Bh h1;have h3:b%(a%b)+a%b<=b:=by
      have h4:=Nat.div_add_mod b<|a%b;have h5:1<=b / (a%b):=(Nat.le_div_iff_mul_le<|Bh h1).mpr<|by omega
      have h6:a%b<=(a%b)*(b / (a%b)):=Nat.le_mul_of_pos_right _ h5;omega
     rw[Nat.pow_succ]at hb;omega
    rw[ih k (a%b) (b%(a%b)) E6];have eg:Nat.gcd a b=Nat.gcd (a%b) (b%(a%b)):=by rw[CA a b,Nat.gcd_rec b a,Nat.gcd_rec (a%b) b,CA]
    rw[eg]
def ZdO(a b:Nat):(a:Int).fmod (b:Int)=((a%b:Nat):Int):=by
 rw[C0 _<|Int.natCast_nonneg b]
 rfl
def Zfu(n:Int):vf n=(n.natAbs:Int):=by
 unfold vf
 split <;> omega
def br(t b:Int):ES:=.tuple [.int<|Gc.bS t b,.int<|Gc.bO t b]
def cm{t:Int}{l:Nat}(ht:nb k t)(hb:nb l b)(h0:b≠0):nb k (Gc.bS t b)/\nb l (Gc.bO t b):=by obtain⟨h1,h2⟩:=Gc.ZjJ (t:=t) h0;exact⟨BL h1 ht,BL h2 hb⟩
def Zeu{t:Int}{l:Nat}(hb:nb l b)(h0:b≠0):nb l (Gc.den t b):=by unfold nb;rw[Gc.yH];exact BL (Nat.gcd_le_right _<|by omega) hb
def jC(c sc l:Int):ES:=.tuple [br c sc,.int l]
def Shp.lv(s:Shp)(day:Du)(rest:EQ Du)(x:Int):Int:=lvl (s.sms day rest) s.top ((s.bk rest).2*day.sum*s.start) x
def Shp.tday(s:Shp)(day:Du)(rest:EQ Du):ES:=.tuple<|(aF (-s.depth) s.n).map λx=>jC ((s.bk (day::rest)).1 x) (s.bk (day::rest)).2 (s.lv day rest x)
def Shp.tab(s:Shp):EQ Du->EQ ES
 | []=>[]
 |day::rest=>s.tday day rest::s.tab rest
theorem ZaJ(s:Shp):∀fs:EQ Du,(s.tab fs).length=fs.length
 | []=>rfl
 |d::r=>by rw[Shp.tab,Ac,Ac,ZaJ s r]
def pr(p:Int×Int):Du:=[p.1,p.2]
end Tw
namespace L2
section
variable{PK:Pk}{e a b:E1}{es:EQ E1}{pos:Pos}
def ae(k:Nat)(hN:X.N[k]?=some x:=by rfl)(hv:gZ X.env.scope x:=by first|exact Or.inl rfl|exact Or.inr (.inl rfl)|exact Or.inr (.inr rfl))(hd:(x==("__debug__":Str))=false:=by decide)
  (Fo:(x==("__classdict__":Str))=false:=by decide):PE X (.Name x pos) (TAe PK<|aa k):=ZnW<|pv k hN hv hd Fo
def zm{ps:Dw}{as:EQ Sl->Tr Dz}{pp:Pos}(C:ACal PK X.prog X.w X.K X.mg X.base x k ps f)(hr:Room m X.A)(ha:PA X (e::es) (TAa PK as))(hk:k<=m:=by decide)(hg:Gl X x:=by exact rfl)
  (Fn:(x==("__debug__":Str))=false:=by decide)
  (he:starEach (e::es) X.env=(false,eval e X.env)::starEach es X.env:=by rfl) (Fc:(backTo pos<|starEach es X.env).any (·.1)=false:=by rfl):PE X (.Call (.Name x pp) (e::es) [] pos) (p7 PK<|aD f as):=gz C (hr.mono hk) hg ha Fn he Fc
def aY{ps:Dw}{sc:Scope}{pos':Pos}(k:Nat)(S:FnScope X.N ps sc)(he:PE X e (TAe PK i))(hi:X.N[k]?=some x:=by rfl)(hx:gC X.env.scope x:=by first|exact Or.inl rfl|exact Or.inr rfl)
  (hs:swapsWith e (some<|.Name x pos') pos.line X.env=pure false:=by rfl) (hf:X.fn x=true\/X.env.scope.names.lookup x=some .local:=by first|exact .inl rfl|exact .inr rfl):PS X (.Assign [.Name x pos'] e pos) (bg PK<|aU k i):=y8<|Zcs S.nd hi hx he hs hf
def bQ{ps:Dw}{sc:Scope}(k:Nat)(S:FnScope X.N ps sc)(hi:X.N[k]?=some x:=by rfl)(hx:gC X.env.scope x:=by first|exact Or.inl rfl|exact Or.inr rfl)(hf:X.fn x=true\/X.env.scope.names.lookup x=some .local:=by first|exact .inl rfl|exact .inr rfl) :
  PG X (.Name x pos) (b9 PK<|aj k):=iR<|xu S.nd hi hx hf
def bG(k:Nat)(hN:X.N.Nodup:=by exact(show(bN _ _ _).Nodup by trivial))(hi:X.N[k]?=some x:=by rfl)(hx:gC X.env.scope x:=by first|exact Or.inl rfl|exact Or.inr rfl)(hf:X.fn x=true\/X.env.scope.names.lookup x=some .local:=by first|exact .inl rfl|exact .inr rfl) :
  PG X (.Name x pos) (b9 PK<|aj k):=iR<|xu hN hi hx hf
def au(ha:PE X a (TAe PK i))(hb:PE X b (TAe PK j))(hs:vF b:=by exact λ_ _=>rfl):PE X (.Subscript a b pos) (TAe PK<|ac ak i j):=Zfs Zkn Zf4 ha hb hs
def dt{Nx:Dw}{sc scope:Scope}{ix:EQ Nat} (h:(∀y∈scope.names,y.2=.cell->scope.names.lookup y.1=some .cell)/\(∀y∈scope.names,y.2=.local->scope.names.lookup y.1=some .local)/\(∀y∈scope.names,y.2=.free->sc.names.lookup y.1=some .cell\/sc.names.lookup y.1=some .free) /\
  ∀j∈ix,j<Nx.length/\scope.names.lookup ((Nx[j]?).getD Str.empty)=some .free) (k:scope.kind=.function:=by rfl):BlkOk Nx sc scope ix:=⟨k,h.1,h.2.1,h.2.2.1,h.2.2.2⟩
def be(ha:PE X a (TAe PK i))(hb:PE X b (TAe PK j)):PE X (.BinOp a .Add b pos) (TAe PK<|ac aW i j):=cM ZcL Zar ha hb
def bw(ha:PE X a (TAe PK i))(hb:PE X b (TAe PK j)):PE X (.BinOp a .Mult b pos) (TAe PK<|ac bj i j):=cM Zi2 Zf3 ha hb
def cx(ha:PE X a (TAe PK i))(hb:PE X b (TAe PK j)):PE X (.BinOp a .Sub b pos) (TAe PK<|ac ce i j):=cM ZiV Zf1 ha hb
def ap(k:Nat){as:EQ Sl->Tr Dz}(hr:PA X es (TAa PK as))(hN:X.N[k]?=some x:=by rfl)(hv:gZ X.env.scope x:=by first|exact Or.inl rfl|exact Or.inr (.inl rfl)|exact Or.inr (.inr rfl))(hd:(x==("__debug__":Str))=false:=by decide)
  (Fo:(x==("__classdict__":Str))=false:=by decide) (hs:starEach (.Name x pos::es) X.env=(false,eval (.Name x pos) X.env)::starEach es X.env:=by rfl):PA X (.Name x pos::es) (TAa PK<|ah (aa k) as):=bC (ae k hN hv hd Fo) hr hs
def aN(k:Nat){as:Dj}(hr:PA X es (TAd PK as))(hN:X.N[k]?=some x:=by rfl)(hv:gZ X.env.scope x:=by first|exact Or.inl rfl|exact Or.inr (.inl rfl)|exact Or.inr (.inr rfl))(hd:(x==("__debug__":Str))=false:=by decide)
  (Fo:(x==("__classdict__":Str))=false:=by decide) (hs:starEach (.Name x pos::es) X.env=(false,eval (.Name x pos) X.env)::starEach es X.env:=by rfl):PA X (.Name x pos::es) (TAd PK<|af (aa k) as):=aw (ae k hN hv hd Fo) hr hs
def aO{ps:Dw}{as:EQ Sl->Tr Dz}{pp:Pos}(C:ACal PK X.prog X.w X.K X.mg X.base x k ps f)(hr:Room m X.A)(ha:PA X (e::es) (TAa PK as))(hk:k<=m:=by decide)(hg:Gl X x:=by exact rfl)
  (Fn:(x==("__debug__":Str))=false:=by decide)
  (he:starEach (e::es) X.env=(false,eval e X.env)::starEach es X.env:=by rfl) (Fc:(backTo pos<|starEach es X.env).any (·.1)=false:=by rfl):PE X (.Call (.Name x pp) (e::es) [] pos) (TAe PK<|aG<|aD f as):=gX<|gz C (hr.mono hk) hg ha Fn he Fc
def dq{elt target iter:E1}{scope:Scope}(Nx:Dw)(st:E3)(ts:Dw)(ix:EQ Nat)(hi:PI X target iter (cq PK is))(hg:∀b,PG (aP X (bN Nx ts ix) scope b) target<|b9 PK g)(he:∀b,PE (aP X (bN Nx ts ix) scope b) elt<|TAe PK i)
  (hn:dA ts.length g:=by first|exact cC (by decide)|exact kD (fi (cC<|by decide)<|fi (cC<|by decide) kE)) (hc:X.calm=true:=by rfl) (Fj:X.N=Nx:=by rfl) (ok:BlkOk Nx (az st) scope ix:=by exact dt<|by trivial) (hsc:X.env.scope=az st:=by rfl)
  (hs:∀x,foldedSetIterable iter X.env x=pure x:=by intro _;rfl):PE X (.ListComp elt [⟨target,iter,[],0⟩] scope pos) (dR PK<|bV is ts.length ix g i):=pQ (je Nx ts ix hc hi hg he Fj (hsc ▸ ok) hs) hn
def cU{e0 e1:E1}{x2:Nat}{g':Dp}(h0:PG X e0 (b9 PK g))(h1:PG X e1 (b9 PK g'))(hc:X.calm=true:=by rfl)(hn:(assignEach [e0,e1] X.env).length=2:=by rfl)(Ft:(assignEach [e0,e1] X.env).findIdx? (·.1)=none:=by rfl)(hs0:(assignEach [e0,e1] X.env).map (·.2)=assign e0 X.env::(assignEach [e1] X.env).map (·.2):=by rfl)(hs1:(assignEach [e1] X.env).map (·.2)=assign e1 X.env::(assignEach [] X.env).map (·.2):=by rfl) :
  PG X (.Tuple [e0,e1] x2 pos) (b9 PK<|bB<|aK g<|aK g' bx):=ZnU hc (pS h0 (pS h1 zh hs1) hs0) (lb<|lb yn) hn Ft
end
end L2
namespace HT
section
open PySem.SeqAt
open PySem.AutoSeq1 (wpAny_loadPart')
open PySem.MeetsSeq PySem.MeetsSeq2 PySem.MeetsSeq3
def Zgo(l b:EV)(a c:Int)(t u:Tok)(y x:ET)(n n2:Nat)(dd dd2:ER EV)(sl dB:Array (ER ET))(e q:Bool) :
  Meets (Builtin.«tuple.__lt__» ⟨[.ref l,.ref b],[]⟩)
   (λA R s=>s.heap.get? l=some {cls:=.type "tuple",dict:=dd,data:=.seq #[.int a t,y] n,slots:=sl}/\s.heap.get? b=some {cls:=.type "tuple",dict:=dd2,data:=.seq #[.int c u,x] n2,slots:=dB} /\
    EqAt A.in1 s y x e/\(∀(prog:EW)(w:EX)(E:Ds)(Q:Ds),Q (.bool q) s->wpAny (model prog w) A.in1 (richCompare .Lt y x) Q E s) /\
    R (.ok<|.ret<|.bool<|if a=c then (if e=true then false else q)else decide (a<c)) s) :=
 .of_wp λprog w A R s h=>by
  obtain⟨hp,g,d,tk,os⟩:=s;obtain⟨hl,hb,hE,hq,h⟩:=h;have f2:=AutoSeq1.sub_tuple_tuple
  wp_walk using DX hl,DX hb,wpAny_forIn_list _ (λrest b s'=>b.1=none/\s'=⟨hp,g,d,tk,os⟩/\((rest=[(.int a t,.int c u),(y,x)])\/(rest=[(y,x)]/\a=c)\/(rest=[]/\a=c/\e=true))) _
  case turn =>
   rintro⟨y',x'⟩ rest b s' ⟨FB,rfl,hz⟩;rcases hz with hz|⟨hz,hac⟩|⟨hz,_⟩
   ·injection hz with hyx hrest;injection hyx with hy hx;subst hy hx;obtain⟨e1,he1,hiff⟩:=ZdV A.in1 ⟨hp,g,d,tk,os⟩ a t c u;refine wp<|he1 prog w _ _ ?_;cases e1 with
    | true =>
     wp_walk
     exact⟨rfl,rfl,.inr<|.inl ⟨hrest,hiff.mp rfl⟩⟩
    | false =>
     rw[DF<|λq=>absurd (hiff.mpr q) As]at h;have hri:=ZbS A.in1 ⟨hp,g,d,tk,os⟩ a t c u prog w
     wp_walk using hri
     exact⟨_,rfl,by simpa using h⟩
   ·injection hz with hyx hrest;injection hyx with hy hx;subst hy hx;rw[DD hac]at h;refine wp<|hE prog w _ _ ?_;cases e with
    | true =>
     wp_walk
     exact⟨rfl,rfl,.inr<|.inr ⟨hrest,hac,rfl⟩⟩
    | false =>
     have hri:=hq prog w
     wp_walk using hri
     exact⟨_,rfl,by simpa using h⟩
   ·cases hz
  case fin =>
   rintro⟨b1,b2⟩ s' ⟨FB,rfl,hz⟩;simp only at FB;subst FB;rcases hz with hz|⟨hz,_⟩|⟨_,hac,he⟩
   ·cases hz
   ·cases hz
   ·rw[DD hac,DD he]at h
    wp_walk
    exact⟨_,rfl,by simpa [Builtin.Tuple.tupleCompareSizes]using h⟩
  case h =>
   exact⟨rfl,rfl,.inl rfl⟩
end
end HT
namespace HT
theorem Zc3:∀ns:Du,cG ns ns=false
 | []=>rfl
 |n::ns=>by rw[xR,DD rfl];exact Zc3 ns
theorem yg:∀{vs:Dv}{ns:Du},IntsAre vs ns->vs.length=ns.length/\∀j (h:j<vs.length),∃t,vs[j]=.int (ns[j]?.getD 0) t
 |_,_,.nil=>⟨rfl,λj h=>by cases h⟩
 | _,_,.cons n t r=>by
  obtain⟨h1,h2⟩:=yg r;refine⟨by rw[Ac,Ac,h1],λj h=>?_⟩
  cases j with
  |zero=>exact⟨t,rfl⟩
  | succ j =>
   obtain⟨t',e⟩:=h2 j<|by simpa using h
   exact⟨t',by simpa using e⟩
theorem Zdx:∀{vs:Dv}{ns ms:Du},IntsAre vs ns->IntsAre vs ms->ns=ms
 |_,_,_,.nil,h=>by cases h;rfl
 | _,_,_,.cons n t r,h=>by
  cases h with
  |cons _ _ r'=>rw[Zdx r r']
def ZnO{ns ms:Du}:((List.range<|min ns.length ms.length).all (λj=>decide (ns[j]?.getD 0=ms[j]?.getD 0))&&ns.length==ms.length)=decide (ns=ms):=by
 rw[Ce,AL,B7,DQ,beq_iff_eq];constructor
 ·rintro⟨h1,h2⟩;refine List.ext_getElem h2 λj a b=>?_;have:=DC (h1 j<|BJ.mpr<|by omega)
  simpa [Ah a,Ah b]using this
 ·rintro rfl;exact⟨λj _=>DE rfl,rfl⟩
section
variable{prog:EW}{w:EX}{A:EY}{E:Ds}{s:EU}
def Zk6{l b:EV}{items items2:Array ET}{ns ms:Du}(hl:IsTup s.heap l items)(hb:IsTup s.heap b items2)(hi:IntsAre items.toList ns)(hj:IntsAre items2.toList ms)(hu:A.units<cLine) :
  SeqAt.EqAt A s (.ref l) (.ref b) (decide (ns=ms)):=by
 by_cases hlb:l=b
 ·subst hlb;have e:items=items2:=by
   obtain⟨o,h1,h2,n,h3⟩:=id hl;obtain⟨o',h1',h2',n',h3'⟩:=id hb;rw[h1]at h1';cases h1';rw[h3]at h3';cases h3'
   rfl
  subst e;rw[DE<|Zdx hi hj];exact SeqAt.EqAt.same _
 ·obtain⟨z1,g1⟩:=yg hi;obtain⟨z2,g2⟩:=yg hj;have r:=SeqAt.RcAt.tuples (e:=λj=>decide (ns[j]?.getD 0=ms[j]?.getD 0)) hl hb hu λj h1 h2=>by
   obtain⟨t1,e1⟩:=g1 j<|by simpa using h1
   obtain⟨t2,e2⟩:=g2 j<|by simpa using h2
   have e1':items[j]=.int (ns[j]?.getD 0) t1:=by simpa using e1
   have e2':items2[j]=.int (ms[j]?.getD 0) t2:=by simpa using e2
   rw[e1',e2'];exact SeqAt.EqAt.int_int (ns[j]?.getD 0) t1 (ms[j]?.getD 0) t2
  have s1:items.size=ns.length:=by rw[<- z1];simp
  have s2:items2.size=ms.length:=by rw[<- z2];simp
  rw[s1,s2,ZnO]at r;exact SeqAt.EqAt.of_refs hlb r
def bR(p q:Int×Du):Bool:=if p.1=q.1 then cG p.2 q.2 else decide (p.1<q.1)
def ZjG{l b r1 r2:EV}{t u:Tok}{cH it2:Array ET}{ns ms:Du}{Q:Ds}(hl:IsTup s.heap l #[.int a t,.ref r1])(hb:IsTup s.heap b #[.int c u,.ref r2])
  (h1:IsTup s.heap r1 cH) (h2:IsTup s.heap r2 it2) (hi:IntsAre cH.toList ns) (hj:IntsAre it2.toList ms)
  (hu:A.units+1<cLine) (h:Q (.bool<|bR (a,ns) (c,ms)) s):wpAny (model prog w) A (compareOp .Lt (.ref l)<|.ref b) Q E s:=by
 obtain⟨⟨cls,dd,data,sl⟩,ho,hc,n,hd⟩:=id hl;obtain⟨⟨cls2,dd2,data2,dB⟩,ho2,hc2,n2,hd2⟩:=id hb;simp only at hc hd hc2 hd2;subst hc hd hc2 hd2;have ev:(if a=c then (if decide (ns=ms)=true then false else cG ns ms)else decide (a<c))=bR (a,ns) (c,ms):=by
  unfold bR;dsimp only;by_cases e:ns=ms
  ·rw[DE e,DD rfl,e,Zc3]
  ·rw[DG e,DF As]
 refine richCompare_meets_room (op:=.Lt) ⟨_,ho,rfl⟩ ⟨_,ho2,rfl⟩ PySem.F.slot_tuple_lt PySem.F.entry_tuple_lt (Dc _ _) (Zgo l b a c t u (.ref r1) (.ref r2) n n2 dd dd2 sl dB (decide (ns=ms))<|cG ns ms)
  ⟨ho,ho2,Zk6 h1 h2 hi hj ?_,λprog w E Q hq=>?_,?_⟩ (by omega)
 ·exact hu
 ·exact(ZcY h1 h2 hi hj hu hq:wpAny (model prog w) A.in1 (compareOp .Lt (.ref r1)<|.ref r2) Q E s)
 ·rw[ev];exact⟨(λx=>nomatch x),h⟩
end
end HT
namespace L2
section
variable{PK:Pk}{pos:Pos}
end
end L2
namespace PySem
def dk_list_keys:typeLookup (.type "list") "keys"=pure none:=by rw[Ei,D3];kernel_rfl
section
variable{prog:EW}{w:EX}{A:EY}{E:Ds}{s:EU}{a:EV}{o:Obj}{xs:Array ET}
def dk_list_miss{Q:ER ET->EU->Prop}(hx:s.heap.get? a=some o)(hc:o.cls=.type "list")(hdat:o.data=.seq xs k)(hd:o.dict=none)(hA:A.handled=none)
  (h:∀h' tk,(∀b ob,s.heap.get? b=some ob->h'.get? b=some ob)->Q none {s with heap:=h',toks:=tk}) :
  wpAny (model prog w) A (getAttr? (.ref a) "keys") Q E s:=by
 obtain⟨c,dct,dat,sl⟩:=o;simp only at hc hdat hd;subst hc hdat hd;obtain⟨hp,g,d,tk,os⟩:=s;have hT:∀tk',(⟨hp,g,d,tk',os⟩:EU).TypeIs (.ref a) "list":=λ_=>⟨_,hx,rfl⟩;have f1:=sub_AttributeError;have f3:=F.slot_list_getattribute.lookup;have f4:=F.slot_list_getattribute.bind<|.ref a;have f5:=am_list_getattr_none;unfold getAttr? getAttrBy? getAttrBy
 repeat (any_goals (first|assumption|exact hT _|((with_reducible show wpAny _ _ (call (Value.builtin "list.__getattribute__") _ _) _ _ _);refine Eb F.slot_list_getattribute (hT _) am_entry_list_getattribute (F.args_list_getattribute_2 _ _) (meets_getattribute_miss_list a xs k sl "keys" _ dk_list_keys (by decide)<|by size_fits) ⟨hx,hA,λh' tk' e hx'=>?_⟩)|wp_step))
 obtain⟨t',u',he⟩:=hx'.there;show wpAny _ _ (getattributeRaised _ _ _ _ _ _ _) _ _ _;unfold getattributeRaised
 repeat (any_goals (first|assumption|exact h _ _ hx'.keeps|wp_step))
end
section
variable{prog:EW}{w:EX}{A:EY}{E:Ds}{s:EU}
end
section
variable{prog:EW}{w:EX}{A:EY}{E:Ds}{s:EU}
end
def F.dk_entry_loop:entryFor table "dict.update.loop"=some Builtin.«dict.update.loop»:=entryFor_of_tree<|by kernel_rfl
def F.dk_plain_loop:plainId "dict.update.loop"=true:=by trivial
section
variable[DecidableEq K]
end
end PySem
namespace L2
section
variable{prog:EW}{w:EX}{A:EY}{R:Result->EU->Prop}[DecidableEq K]{knd:KeyKind prog w K}{kf:Nat->K}
end
section
variable{prog:EW}{w:EX}{A:EY}{E:Ds}{s:EU}[DecidableEq K]{knd:KeyKind prog w K}{kf:Nat->K}
end
section
variable{PK:Pk}{a:E1}{p p2 pos pos2:Pos}
end
section
variable{PK:Pk}{e:E1}{es:EQ E1}
end
section
variable{prog:EW}{w:EX}{A:EY}{R:Result->EU->Prop}[DecidableEq K]{knd:KeyKind prog w K}{kf:Nat->K}
end
section
variable{prog:EW}{w:EX}{A:EY}{E:Ds}{s:EU}[DecidableEq K]{knd:KeyKind prog w K}{kf:Nat->K}
end
section
variable{tg:E1}
end
variable{PK:Pk}
section
variable{ks:EQ (aH×V)}{kvs:EQ (Int×ES)}
end
section
variable{PK:Pk}{pa:EV}
end
variable{PK:Pk}{a b c e:E1}{es:EQ E1}{pos:Pos}{l:Di}{st:E3}{s:Dl}
section
variable{pins:EQ (EV×Obj)}{s:EU}
end
def Zmv(kx vx target iter:E1)(scope:Scope)(pos:Pos)(it:ET)(D:EV)(env:Env) :
  compTurn (.DictComp kx vx [⟨target,iter,[],0⟩] scope pos) 0 it (.ref D) env=(standAt iter.pos >>= λ_=>pyNext it >>= λr=>match r with
   |none=>pure (.done .next)
   | some v=>letOwnedTupleGo target it v >>= λ_=>assign target env v >>= λ_ =>
    (eval kx env >>= λkv=>holding [kv] (eval vx env) >>= λvv=>standAt {kx.pos with endLine:=vx.pos.endLine,endCol:=vx.pos.endCol} >>= λ_=>holding [kv,vv]<|dictSet D kv vv) >>= λ_ =>
     again (.compLoop (.DictComp kx vx [⟨target,iter,[],0⟩] scope pos) 0 it (.ref D) env)):=by rfl
def ZmA{prog:EW}{w:EX}{A:EY}{R:Result->EU->Prop}{s:EU}{kx vx target iter:E1}{scope:Scope}{pos:Pos}{it:ET}{D:EV}{env:Env}(J:Nat->EU->Prop)
  (step:∀k s0,J k s0->wpAny (model prog w) A (pyNext it) (λgot s1=>match got with
   |none=>R (.ok .next) s1
   | some v=>wpAny (model prog w) A (letOwnedTupleGo target it v) (λ_ s2=>wpAny (model prog w) A (assign target env v) (λ_ s3=>wpAny (model prog w) A (eval kx env) (λkv s4 =>
     wpAny (model prog w) A (eval vx env) (λy s5=>wpAny (model prog w) A (dictSet D kv y) (λ_ s6=>∃j,j<k/\J j s6) (λ_ _=>False) s5) (λ_ _=>False) s4) (λ_ _=>False) s3) (λ_ _=>False) s2) (λ_ _=>False) s1) (λ_ _=>False) s0)
  (k:Nat) (h:J k s):codeAny (model prog w) A (.compLoop (.DictComp kx vx [⟨target,iter,[],0⟩] scope pos) 0 it (.ref D) env) R s:=by
 refine Ez rfl J (λk0 s0 hJ=>?_) k h;show wpAny _ _ ((compTurn (.DictComp kx vx [⟨target,iter,[],0⟩] scope pos) 0 it (.ref D) env).onRaise<|λx=>do noteFrame x env;theTreesLotGoes x) _ _ s0
 apply EF;rw[Zmv];refine wp (DR<|wp<|DJ (step k0 s0 hJ) (λgot s1 h1=>?_) λ_ _ z=>z.elim);cases got with
 |none=>exact DB h1
 | some v =>
  refine wp (DJ h1 (λ_ s2 h2=>?_) λ_ _ z=>z.elim);refine wp (DJ h2 (λ_ s3 h3=>?_) λ_ _ z=>z.elim);refine wp (wp<|DJ h3 (λkv s4 h4=>?_) λ_ _ z=>z.elim);refine wp (DK<|DJ h4 (λy s5 h5=>?_) λ_ _ z=>z.elim);refine wp (DR<|DK<|DJ h5 (λ_ s6 h6=>?_) λ_ _ z=>z.elim);exact DB ⟨rfl,h6⟩
section
variable{pins:EQ (EV×Obj)}{s:EU}
def ZkM(kx vx gens scope pos)(env:Env):eval (.DictComp kx vx gens scope pos) env=comprehension (.DictComp kx vx gens scope pos) scope env (firstIterPos gens pos) newDict (firstAsync gens) (firstIter gens env):=by rw[eval]
end
section
variable{pins:EQ (EV×Obj)}{s:EU}
def Inv.trackT{D:EV}{ys:EQ (EQ aH×V)}{xs:EQ (EQ aH×EV×ET)}(I:Inv X pins σ H s)(hD:H D=none)(ho:s.heap.DictOfH (tupleKind<|bH X.prog X.w) D xs)(r:KT H ys xs)(hz:ys.length<=sizeLine)(hsys:(D==sysModules)=false)
  (hL:D≠X.env.locals) (hs0:X.s₀.heap.objs.size<=D) (hc:∀x c,X.env.cells.lookup x=some c->c≠D) (hp:∀p∈X.pn++pins,p.1≠D):∃o,Inv X pins σ (upd H D<|.frz o<|.dT ys) s:=by
 have ne:∀{b:EV}{o:HO},H b=some o->b≠D:=λe=>cg e hD;obtain⟨o,es,ep,h1,h2,h3,h4,_,h5⟩:=ho;refine⟨o,?_⟩;refine I.step (g':=s.gens) (d':=s.drawn) (t':=s.toks) (h':=s.heap) (ch:=[D]) (λb hb=>?_) (λb o _ _ _ e _=>e) (λb o _ _ _ e _=>⟨o.slots,e⟩) (λb o hb e n=>?_) (λb o _ e=>⟨o,e⟩)
  (λb xs e=>by rw[aA<|ne e];exact e) (λb o u e=>by rw[aA<|ne e];exact e) (λb ps e=>⟨#[],by rw[aA<|ne e,e];simp⟩) (λm hm=>hm) (λb u e=>?_) I.bare
 ·have e:b=D:=by simpa using hb
  subst e;exact⟨.inr hs0,hL,hc,hp⟩
 ·have FB:b≠D:=by simpa using hb
  rw[aA FB];exact n
 ·by_cases hb:b=D
  ·subst hb;rw[bv]at e;cases e;exact⟨h1,hz,hsys,xs,r.keeps λc zs q=>by rw[aA<|ne q];exact q,o,es,ep,h1,h2,h3,h4,h5⟩
  ·rw[aA hb]at e;exact(I.hok b u e).stay (λc v _ q=>q) (λc q=>by rw[aA<|ne q];exact q) (λc xs q=>by rw[aA<|ne q];exact q) λc ob xs _ q _=>by rw[aA<|ne q];exact q
end
def ZhR{A:EY}{P:EW}{w:EX}(hu:A.units<cLine):(tupleKind<|bH P w).room A:=hu
def Zj4{KA:EV->Prop}{kvs:EQ (EQ aH×V)}{xs:EQ (EQ aH×EV×ET)}(r:KT H kvs xs)(hk:∀x∈xs,KA x.2.1)(st:∀b zs,KA b->H b=some (.tup zs)->H' b=some (.tup zs)):KT H' kvs xs:=by
 induction r with
 |nil=>exact .nil
 |@cons p q ps qs h t ih=>exact .cons ⟨h.1,st _ _ (hk q<|by simp) h.2.1,h.2.2⟩<|ih λx hx=>hk x<|Ab _ hx
def Zj5{P:EW}{w:EX}{h:EZ}(ok:HOk P w H h){l:EQ (EQ aH×V)}{m:EQ (EQ aH×EV×ET)}(r:KT H l m):∀x∈m,(tupleKind<|bH P w).is h x.1 x.2.1:=by
 induction r with
 |nil=>intro x hx;exact nomatch hx
 | @cons p q ps qs hq t ih =>
  intro x hx;rcases Au.mp hx with e|hx
  ·subst e;exact q5 ok<|by rw[<- hq.1];exact hq.2.1
  ·exact ih x hx
def Zes{P:EW}{w:EX}{h h':EZ}{D:EV}{l:EQ (EQ aH×V)}{m:EQ (EQ aH×EV×ET)}(ok:HOk P w H h')(r:KT H l m)(d:h.DictOfH (tupleKind<|bH P w) D m)(e:∀o,h.get? D=some o->h'.get? D=some o):h'.DictOfH (tupleKind<|bH P w) D m:=by obtain⟨o,es,ep,h1,h2,h3,h4,_,h5⟩:=d;exact⟨o,es,ep,e o h1,h2,h3,h4,Zj5 ok r,h5⟩
def ZaV{KA:EV->Prop}{xs:EQ (EQ aH×EV×ET)}{k:EQ aH}{c:EV}{u:ET}(h:∀x∈xs,KA x.2.1):∀x∈storedH xs k c u,KA x.2.1\/x.2.1=c:=by
 intro x hx;unfold storedH at hx
 split at hx
 ·obtain⟨y,hy,rfl⟩:=AM.mp hx;refine .inl ?_;unfold putAt
  split <;> exact h y hy
 ·rcases Bs.mp hx with z|z
  ·exact .inl<|h x z
  ·rw[Bv.mp z];exact .inr rfl
def qm(wi:TI)(n:Nat)(ix:EQ Nat)(g:Blk->TG)(tk te:Blk->TE):TE:=λσ H Q=>wi σ H λJ H1=>∀b:Blk,∃W:Nat->Nat->St->EQ (EQ aH×V)->(EV->Prop)->Hp->Prop,(∃m,W 0 m (cQ n ix σ) [] (λ_=>False) H1)/\∀i m τ ys KA H2,W i m τ ys KA H2 ->
 (J.stop i H2/\∀p v o H',H2 p=none->v=V.ref p->H'=upd H2 p (.frz o<|.dT ys)->Q v H') \/
 (J.go i H2/\ys.length<sizeLine/\∀x H3,J.yld i H2 x H3->g b x τ H3 λτ2 H4=>tk b τ2 H4 λkv H5=>te b τ2 H5 λy H6=>∃(z:EQ aH)(c:EV)(m':Nat),kv=.ref c/\H6 c=some (.tup<|z.map kV)/\(∀b xs,KA b->H2 b=some (.tup xs)->H6 b=some (.tup xs))/\m'<m/\W (i+1) m' τ2 (dC ys z y) (λb=>KA b\/b=c) H6)
section
variable{pins:EQ (EV×Obj)}{s:EU}
def ZeB{kx vx target iter:E1}{scope:Scope}{pos:Pos}{Nx ts:Dw}{ix:EQ Nat}{g:Blk->TG}{tk te:Blk->TE}{cl:EQ (Str×EV)}{s2:EU}{itv:ET}{R:ET->EV->Result->EU->Prop}
  {E:Ds} {Q:VK}
  (hu:X.A.units<cLine) (hc:X.calm=true) (hg:∀b,PG (aP X (bN Nx ts ix) scope b) target<|g b) (hk:∀b,PE (aP X (bN Nx ts ix) scope b) kx<|tk b) (he:∀b,PE (aP X (bN Nx ts ix) scope b) vx<|te b)
  (Fj:X.N=Nx) (ok:BlkOk Nx X.env.scope scope ix) (cl1:∀x c,cl.lookup x=some c->X.env.cells.lookup x=some c) (cl2:∀y∈scope.names,y.2=.free->∃c,cl.lookup y.1=some c)
  (h2:p8 X pins σ target (λJ H1=>∀b:Blk,∃W:Nat->Nat->St->EQ (EQ aH×V)->(EV->Prop)->Hp->Prop,(∃m,W 0 m (cQ ts.length ix σ) [] (λ_=>False) H1)/\∀i m τ ys KA H2,W i m τ ys KA H2 ->
   (J.stop i H2/\∀p v o H',H2 p=none->v=V.ref p->H'=upd H2 p (.frz o<|.dT ys)->Q v H') \/
   (J.go i H2/\ys.length<sizeLine/\∀x H3,J.yld i H2 x H3->g b x τ H3 λτ2 H4=>tk b τ2 H4 λkv H5=>te b τ2 H5 λy H6=>∃(z:EQ aH)(c:EV)(m':Nat),kv=.ref c/\H6 c=some (.tup<|z.map kV)/\(∀b xs,KA b->H2 b=some (.tup xs)->H6 b=some (.tup xs))/\m'<m/\W (i+1) m' τ2 (dC ys z y) (λb=>KA b\/b=c) H6)) itv s2)
  (hR:rY X pins σ Q R) :
  wpAny (model X.prog X.w) X.A newDict (λacc s₃=>wpAny (model X.prog X.w) X.A (newFunctionEnv scope X.env.globals cl [] X.env.qual none .none<|some X.env) (λcenv s₄ =>
   codeAny (model X.prog X.w) X.A (.compStart (.DictComp kx vx [⟨target,iter,[],0⟩] scope pos) 0 itv acc {cenv with scope:=relabel scope X.env}) (R acc cenv.locals) s₄) E s₃) E s2:=by
 obtain⟨it,fp,tn,J,H1,e,I2,T,st2,f2,q2⟩:=h2;subst e;refine DH<|r6 ?_;dsimp only;generalize hG:s2.heap.push {cls:=.type "dict",dict:=none,data:=.dict #[]}=G;have FD:∀b∈fp,b<s2.heap.objs.size:=λb hb=>let ⟨o,e,_⟩:=T.obj _ _ st2 b hb;An e
 have S:=uX (ts:=ts) Fj ok cl1 cl2 I2 f2 FD hG;generalize pushCells (G.push {cls:=.type "dict",data:=.dict #[]}) scope.names=h3 at S ⊢;generalize cellsFrom (G.objs.size+1) scope.names cl=cs at S ⊢;generalize G.objs.size=C at S ⊢;obtain⟨hC,hDC,I3,kp,hD3,fC,cellIn,pinIn,nofrs,pinD,stat⟩:=S
 let B:Blk:=⟨cs,C,s2,H1,fp,X.pn++pins⟩
 have hDo:h3.DictOfH (tupleKind<|bH X.prog X.w) s2.heap.objs.size []:=⟨_,#[],_,hD3,⟨rfl,rfl,by first|rfl|decide|trivial⟩,rfl,rfl,(λx hx=>nomatch (show x∈([]:EQ (EQ aH×EV×ET))from hx)),List.nodup_nil⟩
 obtain⟨W,⟨m0,w0⟩,turn⟩:=q2 B;have loop:∀s4:EU,s4={s2 with heap:=h3} ->
   codeAny (model X.prog X.w) X.A (.compLoop (.DictComp kx vx [⟨target,iter,[],0⟩] scope pos) 0 (.ref it) (.ref s2.heap.objs.size)<|compEnvC scope cs C X.env) (R (.ref s2.heap.objs.size) C) s4:=by
  rintro s4 rfl;refine ZmA (λk s'=>∃i τ ys us ob KA H',Inv (aP X (bN Nx ts ix) scope B) [(s2.heap.objs.size,(ob:Obj))] τ H' s'/\tn i s'.heap/\(∀b∈fp,H' b=none)/\KT H' ys us/\(∀x∈us,KA x.2.1)/\s'.heap.DictOfH (tupleKind<|bH X.prog X.w) s2.heap.objs.size us/\ys.length<=sizeLine/\W i k τ ys KA H') ?_ m0
   ⟨0,_,[],[],_,_,H1,pinD I3 hD3 fC (λv z=>by cases z),T.keep _ _ _ st2 λb hb o e=>kp b o e,λb hb=>(f2 b hb).1,.nil,(λx hx=>nomatch hx),hDo,A0 _,w0⟩
  rintro k s5 ⟨i,τ,ys,us,ob,KA,H5,I5,st5,fr5,rv,hKA,hDO,hz,w5⟩;rcases turn i k τ ys KA H5 w5 with ⟨stop,qn⟩|⟨go,E6,step⟩
  ·have p5:=I5.pin (s2.heap.objs.size,ob) (Ae _<|by simp)
   refine thn (T.done (aP X (bN Nx ts ix) scope B) rfl rfl rfl hc i _ s5 τ H5 _ I5 (stat fr5) st5 stop) λgot s6 E4=>?_;obtain⟨hr,I6⟩:=E4;subst hr;obtain⟨ho,hn,_,_,_⟩:=I6.pin (s2.heap.objs.size,ob)<|Ae _<|by simp
   have hDO6:s6.heap.DictOfH (tupleKind<|bH X.prog X.w) s2.heap.objs.size us:=Zes I6.hok rv hDO λo e=>by rw[p5.1]at e;cases e;exact ho
   have I7:Inv X pins σ H5 s6:=I2.call' (ch:=fp) (H':=H5) (by exact I6.os) I6.base I6.hok I6.bare λb hb=>⟨(f2 b hb).2.2.2.1,(f2 b hb).2.1,(f2 b hb).2.2.2.2.1,(f2 b hb).2.2.2.2.2⟩
   have hs0:X.s₀.heap.objs.size<=s2.heap.objs.size:=I2.sz;obtain⟨o8,I8⟩:=I7.trackT hn hDO6 rv hz (D4.mpr<|AZ I2.big) (AZ I2.lt) hs0 (λx c e z=>by obtain⟨v,q⟩:=I2.cell x c e;exact absurd q.lt<|by rw[z];exact AF _)<|λp hp=>Aw<|pinIn p hp
   obtain⟨m6,hm6,_⟩:=I6.loc;refine hR _ C _ s6 _ I8 rfl (qn _ _ o8 _ hn rfl rfl) ⟨m6,hm6⟩ ?_ (λz=>?_) (Ap hs0 hC) (λx c e z=>?_) λp hp=>Aw<|Ao (pinIn p hp) hC
   ·rw[aA<|Ne.symm hDC];exact I6.free
   ·exact absurd (Ao I2.lt hC)<|by rw[z];exact AF _
   ·obtain⟨v,q⟩:=I2.cell x c e;exact absurd (Ao q.lt hC)<|by rw[z];exact AF _
  ·have p5:=I5.pin (s2.heap.objs.size,ob) (Ae _<|by simp)
   refine thn (T.item (aP X (bN Nx ts ix) scope B) rfl rfl rfl hc i _ s5 τ H5 _ I5 (stat fr5) st5 go) λgot s6 E4=>?_;obtain⟨u,hr,h6⟩:=E4;subst hr;refine thn h6 λ_ s7 E4=>?_;obtain⟨x,H7,I7,r7,y7,st7,fr7⟩:=E4;have I7':=I7.pinned (stat fr7)<|T.obj _ _ st7;refine thn (hg B _ s7 τ H7 x u _ I7' r7<|step x H7 y7) λ_ s8 E4=>?_;obtain⟨τ8,H8,I8,q8⟩:=E4;refine thn (hk B _ s8 τ8 H8 _ I8 q8) λkv sk E4=>?_;obtain⟨vk,Hk,Ik,rk,qk⟩:=E4;refine thn (he B _ sk τ8 Hk _ Ik qk) λy s9 E4=>?_;obtain⟨vy,H9,I9,r9,zk,c9,m',ek,ec,stay,Fv,w9⟩:=E4;subst ek;cases (show kv=Value.ref c9 from rk)
   have rv9:KT H9 ys us:=Zj4 rv hKA stay;obtain⟨ho,hn,_,_,_⟩:=I9.pin (s2.heap.objs.size,ob)<|Ae _<|AR _<|by simp
   have hDO9:s9.heap.DictOfH (tupleKind<|bH X.prog X.w) s2.heap.objs.size us:=Zes I9.hok rv9 hDO λo e=>by rw[p5.1]at e;cases e;exact ho
   have lenv:ys.length=us.length:=Paired.length rv;refine wpAny_dictSet_heap (knd:=tupleKind<|bH X.prog X.w) (k:=zk) (ZhR hu) (q5 I9.hok ec) hDO9 (λh' hpl0 Fq=>?_)<|by omega
   have Fc:=hpl0;obtain⟨ob',es',ep',Fu,hc',Fa,_⟩:=hpl0;have I9':Inv (aP X (bN Nx ts ix) scope B) [] τ8 H9 s9:=I9.pins_of λp hp=>absurd hp<|by simp
   have I10:Inv (aP X (bN Nx ts ix) scope B) [] τ8 H9 {s9 with heap:=h',toks:=s9.toks+(tupleKind<|bH X.prog X.w).draws zk}:=I9'.turned (it:=s2.heap.objs.size) (t':=s9.toks+(tupleKind<|bH X.prog X.w).draws zk) (λb o hb e=>(Fq.2 b hb).trans e) hn hDC (.inr<|Ag _) cellIn (λp hp=>by have hp':p∈(X.pn++pins)++[]:=hp;rw[AI]at hp';exact Aw<|pinIn p hp')
   refine⟨m',Fv,i+1,τ8,dC ys zk vy,storedH us zk c9 y,ob',_,H9,pinD I10 Fu hn (λv z=>by rw[Fa]at z;cases z),?_,λb hb=>?_,rv9.put zk ec r9,ZaV hKA,Fc,by have:=Zc5 ys zk vy;omega,w9⟩
   ·refine T.keep _ _ _ st7 λb hb o e=>?_;have q:=(I9.pin (b,o)<|Ae _<|Ae _<|er hb e).1;exact(Fq.2 b<|Aw<|FD b hb).trans q
   ·obtain⟨o,e,d⟩:=T.obj _ _ st7 b hb;exact(I9.pin (b,o)<|Ae _<|Ae _<|er hb e).2.1
 exact codeAny_compStart_dict (loop _ rfl)<|T.self X.A 0 _ _ _ (T.keep _ _ _ st2 λb hb o e=>kp b o e)<|loop _ rfl
def ZcE{kx vx target iter:E1}{scope:Scope}{pos:Pos}{g:Blk->TG}{tk te:Blk->TE}(Nx:Dw)(ts:Dw)(ix:EQ Nat)
  (hu:X.A.units<cLine) (hc:X.calm=true) (hi:PI X target iter wi) (hg:∀b,PG (aP X (bN Nx ts ix) scope b) target<|g b) (hk:∀b,PE (aP X (bN Nx ts ix) scope b) kx<|tk b) (he:∀b,PE (aP X (bN Nx ts ix) scope b) vx<|te b)
  (Fj:X.N=Nx) (ok:BlkOk Nx X.env.scope scope ix) (hs:∀x,foldedSetIterable iter X.env x=pure x:=by intro _;rfl) :
  PE X (.DictComp kx vx [⟨target,iter,[],0⟩] scope pos) (qm wi ts.length ix g tk te):=by intro pins s σ H Q I h;obtain⟨cl,hcl,cl1,cl2⟩:=jE (scope:=scope) (env:=X.env) λy hy hf=>I.ok.has y.1<|ok.frees y hy hf;rw[ZkM];refine DU (use:=none) rfl hs hcl ok.kind ok.locs (thn (hi pins s σ H _ I h) λv s1 h1=>thn h1 λitv s2 h2=>?_);refine ZeB (R:=λacc C=>compPost (model X.prog X.w) X.A X.xe none (EP X pins σ Q) acc C) hu hc hg hk he Fj ok cl1 cl2 h2 ?_;rintro D C H' s' v I' rfl q ⟨m,hm⟩ hn hL h0 Fh hp;exact⟨m,hm,λh' Fq=>⟨.ref D,H',I'.turned (it:=C) (t':=s'.toks) (λb o hb e=>(Fq.2 b hb).trans e) hn hL (.inr h0) Fh hp,rfl,q⟩⟩
def Zil{kx vx target iter:E1}{scope:Scope}{pos pos' spos:Pos}{g:Blk->TG}{tk te:Blk->TE}{i:Nat}(Nx:Dw)(ts:Dw)(ix:EQ Nat)
  (hu:X.A.units<cLine) (hc:X.calm=true) (hN:X.N.Nodup) (hix:X.N[i]?=some x) (hx:X.env.scope.names.lookup x=some .local) (hi:PI X target iter wi) (hg:∀b,PG (aP X (bN Nx ts ix) scope b) target<|g b) (hk:∀b,PE (aP X (bN Nx ts ix) scope b) kx<|tk b) (he:∀b,PE (aP X (bN Nx ts ix) scope b) vx<|te b)
  (Fj:X.N=Nx) (ok:BlkOk Nx X.env.scope scope ix) (hsw:swapsWith (.DictComp kx vx [⟨target,iter,[],0⟩] scope pos) (some<|.Name x pos') spos.line X.env=pure true) (hs:∀x,foldedSetIterable iter X.env x=pure x:=by intro _;rfl) :
  PS X (.Assign [.Name x pos'] (.DictComp kx vx [⟨target,iter,[],0⟩] scope pos) spos) (cV (qm wi ts.length ix g tk te)<|da i):=by
 intro pins s σ H D0 I h;obtain⟨cl,hcl,cl1,cl2⟩:=jE (scope:=scope) (env:=X.env) λy hy hf=>I.ok.has y.1<|ok.frees y hy hf;rw[exec_Assign_Name_used _ _ _ _ hsw];refine wp<|DR<|wp ?_;show wpAny _ X.A (do let _ <- comprehension (.DictComp kx vx [⟨target,iter,[],0⟩] scope pos) scope X.env _ newDict false (eval iter X.env) (some<|assign (.Name x pos') X.env)) _ _ s
 refine wp (thn (DU (use:=some<|assign (.Name x pos') X.env) (Q:=λ_ s'=>SP X pins D0 .next s') rfl hs hcl ok.kind ok.locs (thn (hi pins s σ H _ I h) λv s1 h1=>thn h1 λitv s2 h2=>?_)) λ_ s' hq=>DB<|DB hq);refine ZeB (R:=λacc C=>compPost (model X.prog X.w) X.A X.xe (some<|assign (.Name x pos') X.env) (λ_ s'=>SP X pins D0 .next s') acc C) (Q:=λx H1=>da i x σ H1 D0.nx) hu hc hg hk he Fj ok cl1 cl2 h2 ?_;rintro D C H' s' v I' rfl q ⟨m,hm⟩ hn hL h0 Fh hp;show wpAny _ X.A (assign (.Name x pos') X.env<|.ref D) _ _ _;refine EK<|wf I' hN hix (.inl hx) (show RelV (.ref D) (.ref D)from rfl) (λs'' I'' hch=>?_)<|.inr hx
 obtain⟨a,Fq,ha⟩:=hch;have haC:C≠a:=by
  rcases ha with z|z
  ·rw[z];exact hL
  ·exact λe=>Fh _ _ z e.symm
 exact⟨m,hm.sameBut Fq haC,λh'' hs''=>⟨_,H',I''.turned (it:=C) (t':=s''.toks) (λb o hb e=>(hs''.2 b hb).trans e) hn hL (.inr h0) Fh hp,q⟩⟩
end
section
variable{PK:Pk}{e:E1}{kx:Di}
end
def pD(kvs:EQ (Du×ES)):ES:=.dict<|kvs.map λkv=>(.tuple<|kv.1.map PyData.int,kv.2)
noncomputable def ij(kvs:EQ (Du×ES))(k:Du)(v:ES):EQ (Du×ES) :=
 if (kvs.any λkv=>decide (kv.1=k))=true then kvs.map (λkv=>if kv.1=k then (kv.1,v)else kv)else kvs++[(k,v)]
theorem uC:∀{a b:Du},a.map (Sum.inl:Int->aH)=b.map Sum.inl->a=b
 | [],[],_=>rfl
 | [],_::_,e=>by cases e
 |_::_,[],e=>by cases e
 |x::xs,y::ys,e=>by rw[Af,Af]at e;injection e with e1 e2;rw[Sum.inl.inj e1,uC e2]
def Zks(a b:Du):decide (a.map (Sum.inl:Int->aH)=b.map Sum.inl)=decide (a=b):=by
 by_cases h:a=b
 ·rw[DE h,DE<|by rw[h]]
 ·rw[DG h,DG λe=>h<|uC e]
def xr(ks:EQ (Du×V))(k:Du)(v:V):dC (ks.map cu) (k.map Sum.inl) v=(dC ks k v).map cu:=by
 have ha:((ks.map cu).any λkv=>decide (kv.1=k.map Sum.inl))=ks.any λkv=>decide (kv.1=k):=by
  induction ks with
  |nil=>rfl
  |cons p ks ih=>rw[Af,Cr,Cr,ih];show(decide (p.1.map Sum.inl=k.map Sum.inl) || _)=_;rw[Zks]
 have hm:(ks.map cu).map (λkv=>if kv.1=k.map Sum.inl then (kv.1,v)else kv)=(ks.map λkv=>if kv.1=k then (kv.1,v)else kv).map cu:=by
  clear ha
  induction ks with
  |nil=>rfl
  | cons p ks ih =>
   rw[Af,Af,Af,Af,ih];by_cases h:p.1=k
   ·rw[DD h,DD<|show p.1.map Sum.inl=k.map Sum.inl by rw[h]]
   ·rw[DF h,DF λe=>h<|uC e]
 unfold dC;rw[ha,hm]
 split
 ·rfl
 ·rw[BE]
  rfl
section
variable{ks:EQ (Du×V)}{kvs:EQ (Du×ES)}
theorem KP.any(h:KP G ks kvs)(k:Du):(ks.any λkv=>decide (kv.1=k))=kvs.any λkv=>decide (kv.1=k):=by
 induction h with
 |nil=>rfl
 |cons _ _ ih=>rw[Cr,Cr,ih]
def KP.snoc(h:KP G ks kvs){k:Du}{d:ES}(hd:Dn G v d):KP G (ks++[(k,v)]) (kvs++[(k,d)]):=by
 induction h with
 |nil=>exact .cons hd .nil
 |cons h1 _ ih=>exact .cons h1 ih
theorem KP.map(h:KP G ks kvs){k:Du}{v:V}{d:ES}(hd:Dn G v d):KP G (ks.map λkv=>if kv.1=k then (kv.1,v)else kv) (kvs.map λkv=>if kv.1=k then (kv.1,d)else kv):=by
 induction h with
 |nil=>exact .nil
 | @cons i u x ks kvs h1 _ ih =>
  rw[Af,Af];by_cases hk:i=k
  ·rw[DD hk,DD hk];exact .cons hd ih
  ·rw[DF hk,DF hk];exact .cons h1 ih
def KP.put(h:KP G ks kvs)(k:Du){d:ES}(hd:Dn G v d):KP G (dC ks k v) (ij kvs k d):=by
 unfold dC ij;rw[h.any]
 split
 ·exact h.map hd
 ·exact h.snoc hd
def KP.vals(h:KP G ks kvs):DnAll G (ks.map (·.2)) (kvs.map (·.2)):=by
 induction h with
 |nil=>exact .nil
 |cons h1 _ ih=>exact .cons h1 ih
theorem KP.zip(h:KP G ks kvs):((ks.map λk=>PyData.tuple<|k.1.map PyData.int).zip<|kvs.map (·.2))=kvs.map λkv=>(.tuple<|kv.1.map PyData.int,kv.2):=by
 induction h with
 |nil=>rfl
 |cons h1 _ ih=>rw[Af,Af,AV,ih,Af]
def KP.ne(h:KP G ks kvs)(hn:kvs≠[]):ks≠[]:=by
 cases h with
 |nil=>exact absurd rfl hn
 |cons _ _=>exact List.cons_ne_nil _ _
def KP.dn(h:KP G ks kvs)(hn:kvs≠[]){a:EV}{o:Obj}(r:G a=some (.frz o<|.dT<|ks.map cu)):Dn G (.ref a) (pD kvs) :=
 Eq.mp (DI (λz=>Dn G (V.ref a)<|PyData.dict z) h.zip) (Dn.dcp (h.ne hn) r h.vals)
end
def Kn.pd{PK:Pk}{pa:EV}{ks:EQ (Du×V)}{kvs:EQ (Du×ES)}{p:EV}(k:Kn PK pa m G H (pD kvs) Q)(hn:kvs≠[])(w:Wd PK pa m G H)(d:KP G ks kvs)(hp:H p=none)(o:Obj):Q (.ref p) (upd H p<|.frz o<|.dT<|ks.map cu):=by obtain⟨w1,s1⟩:=w.new (o:=.frz o<|.dT<|ks.map cu) hp;exact k _ _ _ s1 w1<|(d.mono s1.gs).dn hn bv
section
variable{PK:Pk}{e:E1}{kx:Di}
def cX:EQ (Du×ES)->EQ ES->ER ES
 |kvs,[]=>if kvs.isEmpty=true then none else some (pD kvs)
 |kvs,.tuple [.tuple ks,v]::ps=>(ints? ks).bind λns=>cX (ij kvs ns v) ps
 |_,_=>none
def yE(i:Di)(τ:Dz):ES->Tr ES
 | .tuple ks=>match ints? ks with
  |some ns=>(i τ).bind λv=>.ret (.tuple [.tuple<|ns.map PyData.int,v])
  |none=>.fail
 |_=>.fail
def gS(kx i:Di)(τ:Dz):Tr ES:=(kx τ).bind<|yE i τ
def iW(is:Dj)(n:Nat)(ix:EQ Nat)(g:Dp)(kx i:Di):Di:=λρ =>
 (is ρ).bind λxs=>if small xs.length=true then (aX (λx=>(Tr.of<|g x<|blk n ix ρ).bind<|gS kx i) xs).bind λps=>Tr.of (cX [] ps)else .fail
def Zek{n:Nat}{ix:EQ Nat}(hn:dA n g):∀σ H Q,TAe PK (iW is n ix g kx i) σ H Q->qm (cq PK is) n ix (λ_=>b9 PK g) (λ_=>TAe PK kx) (λ_=>TAe PK i) σ H Q:=by
 rintro σ H Q ⟨pa,DA,H₀,m,ρ,G,R,z⟩;refine⟨pa,DA,H₀,m,ρ,G,R,Tr.ok_mono (Tr.ok_bind.mp z) λm1 xs k J G1 H1 s1 w1 jo=>λB=>?_⟩;obtain⟨hs,k⟩:=c6 k;have hs:xs.length<=sizeLine:=DC hs
 let el:ES->Tr ES:=λx=>(Tr.of<|g x<|blk n ix ρ).bind<|gS kx i
 let W:Nat->Nat->St->EQ (EQ aH×V)->(EV->Prop)->Hp->Prop:=λk mm τ ys KA H2=>mm=xs.length-k/\k<=xs.length/\ys.length<=k/\∃m G2 ks kvs,ys=ks.map cu/\Sub G1 G2/\Stp pa G H G2 H2/\Rl PK pa DA H₀ m τ (blk n ix ρ) G2 H2 /\
  KP G2 ks kvs/\(∀c,KA c->∃o,G2 c=some o)/\((aX el<|xs.drop k).bind λzs=>Tr.of<|cX kvs zs).ok m λm' d=>Kn PK pa m' G H d Q
 refine⟨W,⟨xs.length,rfl,A0 _,Ag _,m1,G1,[],[],rfl,.refl,s1,(R.step s1 w1).blk n ix,.nil,(λ_ h=>h.elim),k⟩,?_⟩;rintro k mm τ ys KA H2 ⟨rfl,hk,hy,m2,G2,ks,kvs,rfl,sb,st2,R2,dn,hKA,k2⟩;obtain⟨j1,j2⟩:=jo m2 G2 H2 sb R2.wd;by_cases E6:k<xs.length
 ·have hx:xs[k]?=some xs[k]:=by simp[E6]
  obtain⟨jg,jy⟩:=j1 k _ hx;refine .inr ⟨jg,by omega,λx H3 y=>?_⟩
  obtain⟨G3,s3,w3,d3⟩:=jy x H3 y;rw[Ax E6]at k2;unfold aX at k2;rw[Tr.ok_bind,Tr.ok_bind,Tr.ok_bind]at k2;obtain⟨ρ3,hg3,k3⟩:=Tr.ok_of k2;refine⟨pa,DA,H₀,m2,_,G3,_,ρ3,R2.step s3 w3,d3,hg3,λτ4 R4=>?_⟩;unfold gS at k3;refine⟨pa,DA,H₀,m2,ρ3,G3,R4,Tr.ok_mono (Tr.ok_bind.mp k3) λm5 kd k5=>?_⟩;intro v G5 H5 s5 w5 d5;have s35:=s3.trans s5 w3.some;obtain⟨pl,pk⟩:=hn _ _ _ hg3;obtain⟨ns,rfl,k7⟩:∃ns:Du,kd=.tuple (ns.map PyData.int)/\((i ρ3).bind λv=>Tr.ret<|PyData.tuple [.tuple<|ns.map PyData.int,v]).ok m5 λm' y=>((aX el<|xs.drop<|k+1).bind λzs=>Tr.ret (y::zs)).ok m' λm' zs=>(Tr.of<|cX kvs zs).ok m' λm'' d=>Kn PK pa m'' G H d Q:=by
   cases kd with
   | tuple kk =>
    unfold yE at k5;dsimp only at k5;cases hi:ints? kk with
    |none=>rw[hi]at k5;exact k5.elim
    | some ns =>
     rw[hi]at k5;have hkk:kk=ns.map PyData.int:=by
      cases d5 with
      |tup h1 h2=>exact(h2.ints_inv hi).2
     subst hkk;exact⟨ns,rfl,k5⟩
   |_=>exact k5.elim
  obtain⟨c,rfl,hc⟩:∃c,v=.ref c/\G5 c=some (.tup<|ns.map V.int):=by
   cases d5 with
   | tup h1 h2 =>
    obtain⟨e1,_⟩:=h2.ints_inv<|ints?_map ns;exact⟨_,rfl,by rw[<- e1];exact h1⟩
  refine⟨pa,DA,H₀,m5,ρ3,G5,R4.step s5 w5,Tr.ok_mono (Tr.ok_bind.mp k7) λm6 yd k6=>?_⟩;intro u G6 H6 s6 w6 d6;have s56:=s35.trans s6 w5.some;have k8:((aX el<|xs.drop<|k+1).bind λzs=>Tr.of<|cX (ij kvs ns yd) zs).ok m6 λm' d=>Kn PK pa m' G H d Q:=by have k6':((aX el<|xs.drop<|k+1).bind λzs=>Tr.ret (PyData.tuple [.tuple<|ns.map PyData.int,yd]::zs)).ok m6 λm' zs=>(Tr.of<|cX kvs zs).ok m' λm'' d=>Kn PK pa m'' G H d Q:=k6;rw[Tr.ok_bind]at k6' ⊢;refine Tr.ok_mono k6' λm' zs q=>?_;have q':(Tr.of<|cX kvs (PyData.tuple [.tuple<|ns.map PyData.int,yd]::zs)).ok m' λm'' d=>Kn PK pa m'' G H d Q:=q;unfold cX at q';rw[ints?_map]at q';exact q'
  have hmap:(ns.map (Sum.inl:Int->aH)).map kV=ns.map V.int:=by rw[Av];rfl
  refine⟨ns.map Sum.inl,c,xs.length-(k+1),rfl,?_,λb zs hb hz=>?_,by omega,rfl,E6,?_,m6,G6,dC ks ns u,ij kvs ns yd,xr _ _ _,sb.trans s56.gs,st2.trans s56 R2.wd.some,?_,(KP.mono s56.gs dn).put ns d6,λb hb=>?_,k8⟩
  ·rw[hmap];exact w6.sub _ _<|s6.gs _ _ hc
  ·obtain⟨o,ho⟩:=hKA b hb;refine s56.hk b _ hz λz=>?_;rw[z,R2.wd.gpa]at ho;cases ho
  ·rw[xr,v9];rw[v9]at hy;have:=Zc5 ks ns u;omega
  ·refine((R4.step s5 w5).step s6 w6).weak pl λq sl hq=>?_;by_cases FF:q<n
   ·left
    unfold blk at hq;rw[At<|by simpa using FF,AG,DD FF]at hq
    cases hq
    rfl
   ·right
    rw[pk q<|Ba FF];exact hq
  ·rcases hb with hb|rfl
   ·obtain⟨o,ho⟩:=hKA b hb;exact⟨o,s56.gs _ _ ho⟩
   ·exact⟨_,s6.gs _ _ hc⟩
 ·have e:k=xs.length:=by omega
  subst e;refine .inl ⟨j2,λp v o H' hp ev eH=>?_⟩;subst ev eH;rw[AS]at k2;have k2':(Tr.of<|cX kvs []).ok m2 λm' d=>Kn PK pa m' G H d Q:=k2;unfold cX at k2';have E8:kvs≠[]:=by intro e;rw[e]at k2';exact k2'.elim
  have hne':kvs.isEmpty=false:=by cases kvs with|nil=>exact absurd rfl E8|cons _ _=>rfl
  rw[hne']at k2';have k3:Kn PK pa m2 G H (pD kvs) Q:=k2';exact(Kn.later k3 st2 R2.wd.some).pd E8 R2.wd dn hp o
def Zft{n:Nat}{ix:EQ Nat}(h:PE X e (qm (cq PK is) n ix (λ_=>b9 PK g) (λ_=>TAe PK kx)<|λ_=>TAe PK i))(hn:dA n g):PE X e (TAe PK<|iW is n ix g kx i):=h.imp<|Zek hn
def ZnG{st:E3}{n:Nat}{ix:EQ Nat}(h:PS X st (cV (qm (cq PK is) n ix (λ_=>b9 PK g) (λ_=>TAe PK kx)<|λ_=>TAe PK i)<|da k))(hn:dA n g):PS X st (bg PK<|aU k<|iW is n ix g kx i) :=
 y8 (h.imp<|wc<|Zek hn)
def eR(kvs:EQ (ES×ES))(ns:Du):ER ES:=(kvs.find? λkv=>match kv.1 with|.tuple xs=>decide (ints? xs=some ns)|_=>false).map (·.2)
def cT:Dq
 |.dict kvs,.tuple ks=>(ints? ks).bind (eR kvs)
 |_,_=>none
theorem ZeA{G:Hp}{ns:Du}{d:ES}:∀{ks:EQ (Du×V)}{ds:Dt},DnAll G (ks.map (·.2)) ds->eR ((ks.map λk=>PyData.tuple<|k.1.map PyData.int).zip ds) ns=some d->∃v,fH (ks.map cu) (ns.map Sum.inl)=some v/\Dn G v d
 | [],_,h,e=>by cases h;cases e
 | kv::ks,_,h,e=>by
  rw[Af]at h;cases h with
  | @cons _ _ x ds h1 h2 =>
   rw[Af,AV]at e;unfold eR at e;rw[Bu]at e;dsimp only at e;rw[ints?_map]at e;by_cases hk:kv.1=ns
   ·rw[DE<|by rw[hk]]at e
    have e':some x=some d:=e;cases e';exact⟨kv.2,sj<|by show kv.1.map Sum.inl=_;rw[hk],h1⟩
   ·rw[DG λz=>hk<|AA z]at e;obtain⟨v,hv,dn⟩:=ZeA h2 (show eR _ ns=some d from e)
    exact⟨v,by rw[Af,sr λz=>hk<|uC z];exact hv,dn⟩
theorem Zez{ns:Du}:∀{ks:EQ (aH×V)}{ds:Dt},eR ((ks.map λk=>match k.1 with|.inl i=>PyData.int i|.inr x=>PyData.str x).zip ds) ns=none
 | [],_=>rfl
 |_::_,[]=>rfl
 |k::ks,d::ds=>by rw[Af,AV];unfold eR;rw[Bu];obtain⟨k,v⟩:=k;cases k <;> exact Zez
def gA(h:PE X e (ZaN (TAe PK i)<|TAe PK j)):PE X e (TAe PK<|ac cT i j):=h.imp λσ H Q E4=>by
 obtain⟨pa,DA,H₀,m,ρ,G,R,q⟩:=E4;refine TAe.then R q λm1 x v G1 H1 s1 w1 R1 d1 q1=>?_;refine TAe.then R1 q1 λm2 y u G2 H2 s2 w2 R2 d2 q2=>?_;obtain⟨z,hz,k⟩:=Tr.ok_of q2;cases d2 with
 | @tup b vs es h1 h2 =>
  cases d1 with
  | @dcp a o ks ds r0 r1 r2 =>
   have hz':((ints? es).bind<|eR _)=some z:=hz;cases hi:ints? es with
   |none=>rw[hi]at hz';cases hz'
   | some ns =>
    rw[hi]at hz';obtain⟨v',hv,dn⟩:=ZeA r2 hz';obtain⟨e1,_⟩:=h2.ints_inv hi;refine⟨_,v',rfl,.inr ⟨_,ns.map Sum.inl,b,(Or.inr ⟨o,w2.sub _ _<|s2.gs _ _ r1⟩),rfl,?_,hv.symm⟩,(Kn.later k (s1.trans s2 w1.some) w2.some).here w2<|dn.mono s2.gs⟩;rw[Av];have:=w2.sub _ _ h1;rw[e1]at this;exact this
  | @dct _ ks ds r1 r2 =>
   have hz':((ints? es).bind<|eR _)=some z:=hz;cases hi:ints? es with
   |none=>rw[hi]at hz';cases hz'
   | some ns =>
    rw[hi]at hz';have hz'':eR _ ns=some z:=hz';exact nomatch (Eq.trans (Eq.symm<|Zez (ks:=ks) (ds:=ds) (ns:=ns)) hz'')
  |_=>cases hz
 |_=>cases d1 <;> cases hz
end
abbrev Pr:=Int×Du
def dO:EQ Pr->Pr
 | []=>(0,[])
 |x::r=>r.foldl (λb y=>if HT.bR y b=true then y else b) x
theorem Ze7:∀(nss:EQ Pr)(k:Nat),k<nss.length->nss[argBest (λi j=>HT.bR (nss[i]?.getD (0,[]))<|nss[j]?.getD (0,[])) k]?=some (dO<|nss.take<|k+1)
 | [],k,h=>by cases h
 |x::r,0,h=>by simp[argBest,dO]
 | x::r,k+1,h=>by
  have ih:=Ze7 (x::r) k<|by omega
  have hk:k<r.length:=by simpa using h
  have et:(x::r).take (k+1+1)=(x::r).take (k+1)++[r[k]]:=by
   rw[Cb,Cb,CO,Ah hk]
   rfl
  have eb:dO ((x::r).take<|k+1+1)=if HT.bR r[k] (dO<|(x::r).take<|k+1)=true then r[k]else dO ((x::r).take<|k+1):=by
   rw[et,Cb];show(r.take k++[r[k]]).foldl (λb y=>if HT.bR y b=true then y else b) x=_
   rw[CQ]
   rfl
  have ex:(x::r)[k+1]?=some r[k]:=by rw[AH,Ah hk]
  rw[eb];unfold argBest;have e1:((x::r)[k+1]?).getD (0,[])=r[k]:=by rw[ex];rfl
  have e2:((x::r)[argBest (λi j=>HT.bR ((x::r)[i]?.getD (0,[]))<|(x::r)[j]?.getD (0,[])) k]?).getD (0,[])=dO ((x::r).take<|k+1):=by rw[ih];rfl
  rw[e1,e2]
  split
  ·exact ex
  ·exact ih
def Zb8:EQ V->Hp->VK->Prop:=λxs H Q=>∃(l:EV)(vs:Dx)(nss:EQ Pr),xs=[.ref l]/\H l=some (.lst vs)/\nss≠[]/\vs.length=nss.length /\
 (∀i:Nat,∀p:Pr,nss[i]?=some p->∃a c:EV,vs[i]?=some (.ref a)/\H a=some (.tup [.int p.1,.ref c])/\H c=some (.tup<|p.2.map V.int)) /\
 ∀(i:Nat)(a:EV),vs[i]?=some (.ref a)->nss[i]?=some (dO nss)->Q (.ref a) H
def ZmP(hr:Room k X.A)(hc:X.calm=true):dH X (.builtin "min") Zb8:=by
 intro pins s σ H xs us Q I r h;obtain⟨l,vs,nss,rfl,hl,E8,hlen,hat,q⟩:=h;obtain⟨u,rfl,ru⟩:=dW r;cases ru;obtain⟨us,r1,p1⟩:=cW (b:=true) I.hok hl;have hul:=r1.length;have p1':s.heap.IsList l us.toArray:=p1;have hpos:0<nss.length:=CF.mpr E8;have look:∀(i:Nat)(v:ET),us.toArray[i]?=some v->∃(a c:EV)(p:Pr),v=.ref a/\nss[i]?=some p/\vs[i]?=some (.ref a)/\H a=some (.tup [.int p.1,.ref c])/\H c=some (.tup<|p.2.map V.int):=λi v hv=>by
  have hv':us[i]?=some v:=by simpa using hv
  have hi:i<us.length:=(Ad.mp hv').1;have hi2:i<nss.length:=by omega
  obtain⟨a,c,ha,hH,hC⟩:=hat i nss[i]<|Ah hi2;obtain⟨u',hu',ru'⟩:=r1.get ha;rw[hv']at hu';cases hu';cases ru';exact⟨a,c,nss[i],rfl,Ah hi2,ha,hH,hC⟩
 have pair:∀{a c:EV}{p:Pr},H a=some (.tup [.int p.1,.ref c])->∃t,IsTup s.heap a #[.int p.1 t,.ref c]:=λ{a c p} h=>by
  obtain⟨u1,w1,t1⟩:=cW (b:=false) I.hok h;cases w1 with
  | cons r1 w1 =>
   cases w1 with
   | cons r2 w1 =>
    cases w1;obtain⟨t,rfl⟩:=r1;cases r2;exact⟨t,t1⟩
 refine Zjz (bt:=λi j=>HT.bR (nss[i]?.getD (0,[]))<|nss[j]?.getD (0,[])) (I.ok.hd hc) p1' (by rw[Am];omega) (λi j vi vj s' Q' E' _ kp hi hj hq=>?_) λh' tk v kp hv=>?_
 ·obtain⟨a,ca,p,rfl,e1,_,hHa,hCa⟩:=look i vi hi;obtain⟨b,cb,p',rfl,e2,_,hHb,hCb⟩:=look j vj hj;obtain⟨ta,t1⟩:=pair hHa;obtain⟨tb,t2⟩:=pair hHb;obtain⟨u3,w3,t3⟩:=cW (b:=false) I.hok hCa;obtain⟨u4,w4,t4⟩:=cW (b:=false) I.hok hCb;have i1:IntsAre u3.toArray.toList p.2:=q9 w3;have i2:IntsAre u4.toArray.toList p'.2:=q9 w4;have q1:IsTup s'.heap a #[.int p.1 ta,.ref ca]:=SqAt.at (b:=false) t1 λo e=>kp a o e;have q2:IsTup s'.heap b #[.int p'.1 tb,.ref cb]:=SqAt.at (b:=false) t2 λo e=>kp b o e;have q3:IsTup s'.heap ca u3.toArray:=SqAt.at (b:=false) t3 λo e=>kp ca o e;have q4:IsTup s'.heap cb u4.toArray:=SqAt.at (b:=false) t4 λo e=>kp cb o e;have hq':Q' (.bool<|HT.bR (p.1,p.2) (p'.1,p'.2)) s':=by
   have:HT.bR (nss[i]?.getD (0,[])) (nss[j]?.getD (0,[]))=HT.bR p p':=by rw[e1,e2];rfl
   have hq2:Q' (.bool<|HT.bR (nss[i]?.getD (0,[]))<|nss[j]?.getD (0,[])) s':=hq;rw[this]at hq2;exact hq2
  exact HT.ZjG q1 q2 q3 q4 i1 i2 (show X.A.units+1+1<cLine from by have:=hr.units;omega) hq'
 ·obtain⟨a,ca,p,rfl,e1,e2,hHa,hCa⟩:=look _ v hv;have Fg:us.toArray.size-1=nss.length-1:=by rw[Am];omega
  rw[Fg]at e1 e2;have hb:=Ze7 nss (nss.length-1)<|by omega
  have et:nss.take (nss.length-1+1)=nss:=List.take_of_length_le<|by omega
  rw[et]at hb;exact⟨.ref a,H,I.kept kp,rfl,q _ a e2 hb⟩
noncomputable def dm(p:Pr):ES:=.tuple [.int p.1,.tuple<|p.2.map PyData.int]
def prs?:EQ ES->ER (EQ Pr)
 | []=>some []
 |.tuple [.int a,.tuple ks]::xs=>(ints? ks).bind λns=>(prs? xs).bind λr=>some ((a,ns)::r)
 |_=>none
theorem prs?_map:∀ps:EQ Pr,prs? (ps.map dm)=some ps
 | []=>rfl
 | p::r=>by
  rw[Af];show(ints?<|p.2.map PyData.int).bind _=_;rw[ints?_map];show(prs?<|r.map dm).bind _=_;rw[prs?_map r]
  rfl
theorem Zct{H:Hp}:∀{vs:Dx}{ds:Dt}{ps:EQ Pr},DnAll H vs ds->prs? ds=some ps->vs.length=ps.length/\ds=ps.map dm/\∀i:Nat,∀p:Pr,ps[i]?=some p->∃a c:EV,vs[i]?=some (.ref a)/\H a=some (.tup [.int p.1,.ref c])/\H c=some (.tup<|p.2.map V.int)
 | [],_,ps,.nil,h=>by cases h;exact⟨rfl,rfl,λi p h=>by cases h⟩
 | v::vs,_,ps,.cons (d:=d) (ds:=ds) hd ht,h=>by
  unfold prs? at h
  split at h
  ·rename_i e;cases e
  ·rename_i a ks xs e;injection e with e1 e2;subst e1 e2;cases hi:ints? ks with
   |none=>rw[hi]at h;cases h
   | some ns =>
    cases e2:prs? ds with
    |none=>rw[hi,e2]at h;cases h
    | some r =>
     rw[hi,e2]at h;have h':(a,ns)::r=ps:=AA h;subst h';obtain⟨k1,k2,k3⟩:=Zct ht e2;cases hd with
     | @tup b us _ a1 a2 =>
      cases a2 with
      | cons b1 b2 =>
       cases b2 with
       | cons b2 b3 =>
        cases b3;cases b1;cases b2 with
        | @tup c ws _ c1 c2 =>
         obtain⟨rfl,rfl⟩:=c2.ints_inv hi;refine⟨by simp[k1],by rw[Af,<- k2];rfl,λi p hp=>?_⟩
         cases i with
         |zero=>cases hp;exact⟨b,c,rfl,a1,c1⟩
         |succ i=>exact k3 i p hp
  ·cases h
def tT:EQ ES->ER ES
 | [.list xs]=>(prs? xs).bind λps=>if ps.isEmpty=true then none else some (dm<|dO ps)
 |_=>none
def Zf6:eZ Zb8 tT:=λPK pa m G H vs ds d Q w hv hd k=>by
 unfold tT at hd
 split at hd
 ·rename_i xs;cases e1:prs? xs with
  |none=>rw[e1]at hd;cases hd
  | some ps =>
   rw[e1]at hd;have Fa:(if ps.isEmpty=true then none else some<|dm<|dO ps)=some d:=hd
   cases hv with
   | cons h1 h2 =>
    cases h2;cases h1 with
    | @lst l us _ a1 a2 =>
     obtain⟨k1,k2,k3⟩:=Zct a2 e1
     split at Fa
     ·cases Fa
     ·rename_i E8;cases Fa;refine⟨l,us,ps,rfl,w.sub _ _ a1,λz=>E8<|by rw[z];rfl,k1,λi p hi=>?_,λi a ham hHa=>?_⟩
      ·obtain⟨a,c,e1,e2,e3⟩:=k3 i p hi;exact⟨a,c,e1,w.sub _ _ e2,w.sub _ _ e3⟩
      ·obtain⟨a',c,e1,e2,e3⟩:=k3 i _ hHa;rw[ham]at e1;cases e1;exact k.here w<|.tup e2<|.cons (.int _)<|.cons (.tup e3<|DnAll.ints _) .nil
 ·cases hd
def Zmu(elt t0 i0 t1 i1:E1)(scope:Scope)(pos:Pos)(it acc:ET)(env:Env) :
  compTurn (.ListComp elt [⟨t0,i0,[],0⟩,⟨t1,i1,[],0⟩] scope pos) 0 it acc env=(standAt i0.pos >>= λ_=>pyNext it >>= λr=>match r with
   |none=>pure (.done .next)
   | some v=>letOwnedTupleGo t0 it v >>= λ_=>assign t0 env v >>= λ_ =>
    (eval i1 env >>= λx=>standAt i1.pos >>= λ_=>foldedSetIterable i1 env x >>= λx=>holding [x] (pyIter x) >>= λj =>
     runOwn (.compStart (.ListComp elt [⟨t0,i0,[],0⟩,⟨t1,i1,[],0⟩] scope pos) 1 j acc env) env >>= λ_ =>
     again (.compLoop (.ListComp elt [⟨t0,i0,[],0⟩,⟨t1,i1,[],0⟩] scope pos) 0 it acc env))):=by rfl
def Zmt(elt t0 i0 t1 i1:E1)(scope:Scope)(pos:Pos)(it acc:ET)(env:Env) :
  compTurn (.ListComp elt [⟨t0,i0,[],0⟩,⟨t1,i1,[],0⟩] scope pos) 1 it acc env=(standAt i1.pos >>= λ_=>pyNext it >>= λr=>match r with
   |none=>pure (.done .next)
   | some v=>letOwnedTupleGo t1 it v >>= λ_=>assign t1 env v >>= λ_ =>
    (eval elt env >>= λx=>call (.builtin "list.append") [acc,x] >>= λ_=>pure ()) >>= λ_ =>
     again (.compLoop (.ListComp elt [⟨t0,i0,[],0⟩,⟨t1,i1,[],0⟩] scope pos) 1 it acc env)):=by rfl
section
variable{prog:EW}{w:EX}{A:EY}{R:Result->EU->Prop}{s:EU}{elt t0 i0 t1 i1:E1}{scope:Scope}{pos:Pos}{it acc:ET}{env:Env}
noncomputable def ZaW(elt t0 i0 t1 i1:E1)(scope:Scope)(pos:Pos)(it acc:ET)(env:Env)(plain:Bool):Sem Fin :=
 let loop:ET->Sem Fin:=λj=>again<|.compLoop (.ListComp elt [⟨t0,i0,[],0⟩,⟨t1,i1,[],0⟩] scope pos) 1 j acc env
 if plain=true then loop it >>= λf=>pure f
 else rule "comprehension.iter-twice" >>= λ_=>standAt i1.pos >>= λ_=>pyIter it >>= loop
def ZgX(elt t0 i0 t1 i1:E1)(scope:Scope)(pos:Pos)(it acc:ET)(env:Env) :
  compStart (.ListComp elt [⟨t0,i0,[],0⟩,⟨t1,i1,[],0⟩] scope pos) 1 it acc env=ask >>= λz=>ZaW elt t0 i0 t1 i1 scope pos it acc env (z.params.followText "comprehension-iter-twice"):=by rfl
def Zmw(h0:codeAny (model prog w) A (.compLoop (.ListComp elt [⟨t0,i0,[],0⟩,⟨t1,i1,[],0⟩] scope pos) 1 it acc env) R s)
  (h:wpAny (model prog w) A (pyIter it) (λj s1=>codeAny (model prog w) A (.compLoop (.ListComp elt [⟨t0,i0,[],0⟩,⟨t1,i1,[],0⟩] scope pos) 1 j acc env) R s1)
   (notedBy (model prog w) A env λx s1=>R (.error x) s1) s) :
  codeAny (model prog w) A (.compStart (.ListComp elt [⟨t0,i0,[],0⟩,⟨t1,i1,[],0⟩] scope pos) 1 it acc env) R s:=by
 have tree:∀E,(∀x s1,notedBy (model prog w) A env (λx s1=>R (.error x) s1) x s1->E x s1)->wpAny (model prog w) A (compStart (.ListComp elt [⟨t0,i0,[],0⟩,⟨t1,i1,[],0⟩] scope pos) 1 it acc env)
   (λfin s1=>match fin with|.done f=>R (.ok f) s1|.again c=>c.quiet=true/\codeAny (model prog w) A c R s1) E s:=λE hE=>by
  rw[ZgX];apply wp;apply wpAny_askSetting;unfold ZaW;cases Params.followText _ _ with
  |true=>exact wp (DB<|DB ⟨rfl,h0⟩)
  | false =>
   apply wp;apply D9;apply wp;apply DR;apply wp;exact DJ h (λj s1 hj=>DB ⟨rfl,hj⟩) hE
 exact Ej<|wpAny_notedAt<|tree _ λ_ _ z=>z
def Zmx(J:Nat->EU->Prop)
  (step:∀k s0,J k s0->wpAny (model prog w) A (pyNext it) (λgot s1=>match got with
   |none=>R (.ok .next) s1
   | some v=>wpAny (model prog w) A (letOwnedTupleGo t1 it v) (λ_ s2=>wpAny (model prog w) A (assign t1 env v) (λ_ s3=>wpAny (model prog w) A (eval elt env) (λy s4 =>
     wpAny (model prog w) A (call (.builtin "list.append") [acc,y]) (λ_ s5=>∃j,j<k/\J j s5) (λ_ _=>False) s4) (λ_ _=>False) s3) (λ_ _=>False) s2) (λ_ _=>False) s1) (λ_ _=>False) s0)
  (k:Nat) (h:J k s):codeAny (model prog w) A (.compLoop (.ListComp elt [⟨t0,i0,[],0⟩,⟨t1,i1,[],0⟩] scope pos) 1 it acc env) R s:=by
 refine Ez rfl J (λk0 s0 hJ=>?_) k h;show wpAny _ _ ((compTurn (.ListComp elt [⟨t0,i0,[],0⟩,⟨t1,i1,[],0⟩] scope pos) 1 it acc env).onRaise<|λx=>do noteFrame x env;theTreesLotGoes x) _ _ s0
 apply EF;rw[Zmt];refine wp (DR<|wp<|DJ (step k0 s0 hJ) (λgot s1 h1=>?_) λ_ _ z=>z.elim);cases got with
 |none=>exact DB h1
 | some v =>
  refine wp (DJ h1 (λ_ s2 h2=>?_) λ_ _ z=>z.elim);refine wp (DJ h2 (λ_ s3 h3=>?_) λ_ _ z=>z.elim);refine wp (wp<|DJ h3 (λy s4 h4=>?_) λ_ _ z=>z.elim);exact wp<|DJ h4 (λ_ s5 h5=>DB<|DB ⟨rfl,h5⟩) λ_ _ z=>z.elim
def Zmy(J:Nat->EU->Prop)(hs:∀x,foldedSetIterable i1 env x=pure x)
  (step:∀k s0,J k s0->wpAny (model prog w) A (pyNext it) (λgot s1=>match got with
   |none=>R (.ok .next) s1
   | some v=>wpAny (model prog w) A (letOwnedTupleGo t0 it v) (λ_ s2=>wpAny (model prog w) A (assign t0 env v) (λ_ s3=>wpAny (model prog w) A (eval i1 env) (λx s4 =>
     wpAny (model prog w) A (pyIter x) (λj s5=>codeAny (model prog w) A (.compStart (.ListComp elt [⟨t0,i0,[],0⟩,⟨t1,i1,[],0⟩] scope pos) 1 j acc env) (λr s6=>(∃f,r=.ok f)/\∃j,j<k/\J j s6) s5)
      (λ_ _=>False) s4) (λ_ _=>False) s3) (λ_ _=>False) s2) (λ_ _=>False) s1) (λ_ _=>False) s0)
  (k:Nat) (h:J k s):codeAny (model prog w) A (.compLoop (.ListComp elt [⟨t0,i0,[],0⟩,⟨t1,i1,[],0⟩] scope pos) 0 it acc env) R s:=by
 refine Ez rfl J (λk0 s0 hJ=>?_) k h;show wpAny _ _ ((compTurn (.ListComp elt [⟨t0,i0,[],0⟩,⟨t1,i1,[],0⟩] scope pos) 0 it acc env).onRaise<|λx=>do noteFrame x env;theTreesLotGoes x) _ _ s0
 apply EF;rw[Zmu];refine wp (DR<|wp<|DJ (step k0 s0 hJ) (λgot s1 h1=>?_) λ_ _ z=>z.elim);cases got with
 |none=>exact DB h1
 | some v =>
  refine wp (DJ h1 (λ_ s2 h2=>?_) λ_ _ z=>z.elim);refine wp (DJ h2 (λ_ s3 h3=>?_) λ_ _ z=>z.elim);refine wp (DJ h3 (λx s4 h4=>?_) λ_ _ z=>z.elim);refine wp<|DR<|wp<|DO (hs x) ?_;refine wp (DK<|DJ h4 (λj s5 h5=>?_) λ_ _ z=>z.elim);refine wp<|wpAny_runOwn ?_;refine Ed h5 λr s6 h6=>?_;obtain⟨⟨f,rfl⟩,h6⟩:=h6;exact DB ⟨rfl,h6⟩
end
def Ziu{fp:EQ EV}{h:EZ}{p:EV×Obj}(hp:p∈eO fp h):p.1∈fp:=by
 obtain⟨b,hb,e⟩:=BY.mp hp;cases z:h.get? b with
 |none=>rw[z]at e;cases e
 |some o=>rw[z]at e;cases e;exact hb
def wa(wi:TI)(n:Nat)(ix:EQ Nat)(g:Blk->TG)(wi1:Blk->TI)(g1:Blk->TG)(te:Blk->TE):TE:=λσ H Q=>wi σ H λJ H1=>∀b:Blk,∃W:Nat->Nat->St->EQ V->Hp->Prop,(∃m,W 0 m (cQ n ix σ) [] H1)/\∀i m τ ys H2,W i m τ ys H2 ->
   (J.stop i H2/\∀p v H',H2 p=none->v=V.ref p->H'=upd H2 p (.lst ys)->Q v H') \/
   (J.go i H2/\∀x H3,J.yld i H2 x H3->g b x τ H3 λτ2 H4=>wi1 b τ2 H4 λJ1 H5=>∃W1:Nat->Nat->St->EQ V->Hp->Prop,(∃m1,W1 0 m1 τ2 ys H5)/\∀k1 m1 τ3 zs H6,W1 k1 m1 τ3 zs H6 ->
    (J1.stop k1 H6/\∃m',m'<m/\W (i+1) m' τ3 zs H6) \/
    (J1.go k1 H6/\zs.length<sizeLine/\∀x1 H7,J1.yld k1 H6 x1 H7->g1 b x1 τ3 H7 λτ4 H8=>te b τ4 H8 λy H9=>∃m1',m1'<m1/\W1 (k1+1) m1' τ4 (zs++[y]) H9))
section
variable{pins:EQ (EV×Obj)}{s:EU}
def ZjX{elt target iter t1 i1:E1}{scope:Scope}{pos:Pos}{Nx ts:Dw}{ix:EQ Nat}{g g1:Blk->TG}{wi1:Blk->TI}{te:Blk->TE}{cl:EQ (Str×EV)}{s2:EU}{itv:ET}{R:ET->EV->Result->EU->Prop}
  {E:Ds} {Q:VK}
  (hc:X.calm=true) (hg:∀b,PG (aP X (bN Nx ts ix) scope b) target<|g b) (hi1:∀b,PI (aP X (bN Nx ts ix) scope b) t1 i1<|wi1 b) (hg1:∀b,PG (aP X (bN Nx ts ix) scope b) t1<|g1 b) (he:∀b,PE (aP X (bN Nx ts ix) scope b) elt<|te b) (hs1:∀b x,foldedSetIterable i1 (aP X (bN Nx ts ix) scope b).env x=pure x)
  (Fj:X.N=Nx) (ok:BlkOk Nx X.env.scope scope ix) (cl1:∀x c,cl.lookup x=some c->X.env.cells.lookup x=some c) (cl2:∀y∈scope.names,y.2=.free->∃c,cl.lookup y.1=some c)
  (h2:p8 X pins σ target (λJ H1=>∀b:Blk,∃W:Nat->Nat->St->EQ V->Hp->Prop,(∃m,W 0 m (cQ ts.length ix σ) [] H1)/\∀i m τ ys H2,W i m τ ys H2 ->
   (J.stop i H2/\∀p v H',H2 p=none->v=V.ref p->H'=upd H2 p (.lst ys)->Q v H') \/
   (J.go i H2/\∀x H3,J.yld i H2 x H3->g b x τ H3 λτ2 H4=>wi1 b τ2 H4 λJ1 H5=>∃W1:Nat->Nat->St->EQ V->Hp->Prop,(∃m1,W1 0 m1 τ2 ys H5)/\∀k1 m1 τ3 zs H6,W1 k1 m1 τ3 zs H6 ->
    (J1.stop k1 H6/\∃m',m'<m/\W (i+1) m' τ3 zs H6) \/
    (J1.go k1 H6/\zs.length<sizeLine/\∀x1 H7,J1.yld k1 H6 x1 H7->g1 b x1 τ3 H7 λτ4 H8=>te b τ4 H8 λy H9=>∃m1',m1'<m1/\W1 (k1+1) m1' τ4 (zs++[y]) H9))) itv s2)
  (hR:rY X pins σ Q R) :
  wpAny (model X.prog X.w) X.A (newList []) (λacc s₃=>wpAny (model X.prog X.w) X.A (newFunctionEnv scope X.env.globals cl [] X.env.qual none .none<|some X.env) (λcenv s₄ =>
   codeAny (model X.prog X.w) X.A (.compStart (.ListComp elt [⟨target,iter,[],0⟩,⟨t1,i1,[],0⟩] scope pos) 0 itv acc {cenv with scope:=relabel scope X.env}) (R acc cenv.locals) s₄) E s₃) E s2:=by
 obtain⟨it,fp,tn,J,H1,e,I2,T,st2,f2,q2⟩:=h2;subst e;refine DH<|r6 ?_;dsimp only;generalize hG:s2.heap.push {cls:=.type "list",dict:=none,data:=.seq ([]:Dv).toArray}=G;have FD:∀b∈fp,b<s2.heap.objs.size:=λb hb=>let ⟨o,e,_⟩:=T.obj _ _ st2 b hb;An e
 have S:=uX (ts:=ts) Fj ok cl1 cl2 I2 f2 FD hG;generalize pushCells (G.push {cls:=.type "dict",data:=.dict #[]}) scope.names=h3 at S ⊢;generalize cellsFrom (G.objs.size+1) scope.names cl=cs at S ⊢;generalize G.objs.size=C at S ⊢;obtain⟨hC,hDC,I3,kp,hD3,fC,cellIn,pinIn,nofrs,pinD,stat⟩:=S
 let B:Blk:=⟨cs,C,s2,H1,fp,X.pn++pins⟩
 obtain⟨W,⟨m0,w0⟩,turn⟩:=q2 B;have loop:∀s4:EU,s4={s2 with heap:=h3} ->
   codeAny (model X.prog X.w) X.A (.compLoop (.ListComp elt [⟨target,iter,[],0⟩,⟨t1,i1,[],0⟩] scope pos) 0 (.ref it) (.ref s2.heap.objs.size)<|compEnvC scope cs C X.env) (R (.ref s2.heap.objs.size) C) s4:=by
  rintro s4 rfl;refine Zmy (λk s'=>∃i τ ys E5 n H',Inv (aP X (bN Nx ts ix) scope B) [(s2.heap.objs.size,({cls:=.type "list",data:=.seq (List.toArray E5) n}:Obj))] τ H' s'/\tn i s'.heap/\(∀b∈fp,H' b=none)/\Vals ys E5/\ys.length<=sizeLine/\W i k τ ys H') (hs1 B) ?_ m0
   ⟨0,_,[],[],_,H1,pinD I3 hD3 fC (λv z=>by cases z),T.keep _ _ _ st2 λb hb o e=>kp b o e,λb hb=>(f2 b hb).1,.nil,A0 _,w0⟩
  rintro k s5 ⟨i,τ,ys,E5,n,H5,I5,st5,fr5,rv,hz,w5⟩;rcases turn i k τ ys H5 w5 with ⟨stop,qn⟩|⟨go,step⟩
  ·refine thn (T.done (aP X (bN Nx ts ix) scope B) rfl rfl rfl hc i _ s5 τ H5 _ I5 (stat fr5) st5 stop) λgot s6 E4=>?_;obtain⟨rfl,I6⟩:=E4;exact yV I2 f2 hC hDC pinIn I6 rv hz hR qn
  ·refine thn (T.item (aP X (bN Nx ts ix) scope B) rfl rfl rfl hc i _ s5 τ H5 _ I5 (stat fr5) st5 go) λgot s6 E4=>?_;obtain⟨u,hr,h6⟩:=E4;subst hr;refine thn h6 λ_ s7 E4=>?_;obtain⟨x,H7,I7,r7,y7,st7,fr7⟩:=E4;have I7':=I7.pinned (stat fr7)<|T.obj _ _ st7;refine thn (hg B _ s7 τ H7 x u _ I7' r7<|step x H7 y7) λ_ s8 E4=>?_;obtain⟨τ8,H8,I8,q8⟩:=E4;refine thn (hi1 B _ s8 τ8 H8 _ I8 q8) λv9 s9 h9=>thn h9 λitv1 s10 h10=>?_;obtain⟨cH,fp1,tn1,J1,H10,e1,I10,T1,st10,f10,W1,⟨m1,w10⟩,turn1⟩:=h10;subst e1;have hP0:∀p∈eO fp s7.heap,p.1∈fp:=λp hp=>Ziu hp;have notD:∀p∈eO fp s7.heap,p.1≠s2.heap.objs.size:=λp hp=>Aw<|FD _<|hP0 p hp;have stat1:∀{H':Hp}{its':Dv}{n':Nat},(∀b∈fp1,H' b=none)->∀b∈fp1,eL (aP X (bN Nx ts ix) scope B) ([(s2.heap.objs.size,({cls:=.type "list",data:=.seq (List.toArray its') n'}:Obj))]++eO fp s7.heap) H' b:=λ{H' its' n'} hn b hb=>by
    refine⟨hn b hb,(f10 b hb).2.1,(f10 b hb).2.2.1,(f10 b hb).2.2.2.1,(f10 b hb).2.2.2.2.1,λp hp=>?_⟩;rcases Bs.mp hp with z|z
    ·exact(f10 b hb).2.2.2.2.2 p (AR _ z)
    ·rcases Bs.mp z with z|z
     ·have e:p=(s2.heap.objs.size,({cls:=.type "list",data:=.seq (List.toArray its') n'}:Obj)):=by simpa using z
      subst e;exact(f10 b hb).2.2.2.2.2 (s2.heap.objs.size,({cls:=.type "list",data:=.seq (List.toArray E5) n}:Obj)) (Ae _<|AR _<|by simp)
     ·exact(f10 b hb).2.2.2.2.2 p (Ae _<|Ae _ z)
   have loop1:codeAny (model X.prog X.w) X.A (.compLoop (.ListComp elt [⟨target,iter,[],0⟩,⟨t1,i1,[],0⟩] scope pos) 1 (.ref cH) (.ref s2.heap.objs.size)<|compEnvC scope cs C X.env) (λr s6=>(∃f,r=.ok f)/\∃j,j<k/\∃i τ ys E5 n H',Inv (aP X (bN Nx ts ix) scope B) [(s2.heap.objs.size,({cls:=.type "list",data:=.seq (List.toArray E5) n}:Obj))] τ H' s6/\tn i s6.heap/\(∀b∈fp,H' b=none)/\Vals ys E5/\ys.length<=sizeLine/\W i j τ ys H') s10:=by
    refine Zmx (λk1 s'=>∃i1 τ ys E5 n H',Inv (aP X (bN Nx ts ix) scope B) ([(s2.heap.objs.size,({cls:=.type "list",data:=.seq (List.toArray E5) n}:Obj))]++eO fp s7.heap) τ H' s'/\tn1 i1 s'.heap/\(∀b∈fp1,H' b=none)/\Vals ys E5/\ys.length<=sizeLine/\W1 i1 k1 τ ys H') ?_ m1
     ⟨0,_,ys,E5,n,H10,I10,st10,λb hb=>(f10 b hb).1,rv,hz,w10⟩
    rintro k1 s11 ⟨j1,τ11,zs,jts,n11,H11,I11,st11,fr11,rv11,hz11,w11⟩;rcases turn1 j1 k1 τ11 zs H11 w11 with ⟨stop1,m',Fv,wn⟩|⟨go1,hlt1,step1⟩
    ·refine thn (T1.done (aP X (bN Nx ts ix) scope B) rfl rfl rfl hc j1 _ s11 τ11 H11 _ I11 (stat1 fr11) st11 stop1) λgot s12 E4=>?_;obtain⟨hr,I12⟩:=E4;subst hr;refine⟨⟨_,rfl⟩,m',Fv,i+1,τ11,zs,jts,n11,H11,I12.unpinned,?_,λb hb=>?_,rv11,hz11,wn⟩
     ·exact T.keep _ _ _ st7 λb hb o e=>(I12.pin (b,o)<|Ae _<|Ae _<|er hb e).1
     ·obtain⟨o,e,d⟩:=T.obj _ _ st7 b hb;exact(I12.pin (b,o)<|Ae _<|Ae _<|er hb e).2.1
    ·refine thn (T1.item (aP X (bN Nx ts ix) scope B) rfl rfl rfl hc j1 _ s11 τ11 H11 _ I11 (stat1 fr11) st11 go1) λgot s12 E4=>?_;obtain⟨u1,hr,h12⟩:=E4;subst hr;refine thn h12 λ_ s13 E4=>?_;obtain⟨x13,H13,I13,r13,y13,st13,fr13⟩:=E4;have I13':=I13.pinned (stat1 fr13)<|T1.obj _ _ st13;refine thn (hg1 B _ s13 τ11 H13 x13 u1 _ I13' r13<|step1 x13 H13 y13) λ_ s14 E4=>?_;obtain⟨τ14,H14,I14,q14⟩:=E4;refine thn (he B _ s14 τ14 H14 _ I14 q14) λy s15 E4=>?_;obtain⟨vy,H15,I15,r15,m15,hm15,w15⟩:=E4;have pD:(s2.heap.objs.size,({cls:=.type "list",data:=.seq (List.toArray jts) n11}:Obj))∈[(s2.heap.objs.size,({cls:=.type "list",data:=.seq (List.toArray jts) n11}:Obj))]++eO fp s7.heap:=AR _ (by simp)
     obtain⟨ho,hn,_,_,_⟩:=I15.pin _<|Ae _<|AR _ pD;have lenv:=rv11.length;refine Es (l:=s2.heap.objs.size) ⟨n11,ho⟩ (λh' Fc Fq=>?_)<|by rw[Am];omega
     obtain⟨n',Fu⟩:=Fc;have eobj:(jts.toArray.push y)=List.toArray (jts++[y]):=by simp
     rw[eobj]at Fu;have I15':Inv (aP X (bN Nx ts ix) scope B) (eO fp s7.heap) τ14 H15 s15:=I15.pins_of λp hp=>I15.pin p<|Ae _<|AR _<|Ae _ hp;have I16:Inv (aP X (bN Nx ts ix) scope B) (eO fp s7.heap) τ14 H15 {s15 with heap:=h'}:=I15'.turned (it:=s2.heap.objs.size) (t':=s15.toks) (λb o hb e=>(Fq.2 b hb).trans e) hn hDC (.inr<|Ag _) cellIn (λp hp=>by
      rcases Bs.mp hp with z|z
      ·exact Aw (pinIn p z)
      ·exact notD p z)
     have I17:Inv (aP X (bN Nx ts ix) scope B) ([(s2.heap.objs.size,({cls:=.type "list",data:=.seq (List.toArray<|jts++[y]) n'}:Obj))]++eO fp s7.heap) τ14 H15 {s15 with heap:=h'}:=I16.pins_of λp hp=>by
      rcases Bs.mp hp with z|z
      ·have e:p=(s2.heap.objs.size,({cls:=.type "list",data:=.seq (List.toArray<|jts++[y]) n'}:Obj)):=by simpa using z
       subst e;exact⟨Fu,hn,hDC,nofrs,λv z=>by cases z⟩
      ·exact I16.pin p<|Ae _ z
     refine⟨m15,hm15,j1+1,τ14,zs++[vy],jts++[y],n',H15,I17,?_,λb hb=>?_,rv11.append<|.cons r15 .nil,by rw[Aq];show zs.length+1<=_;omega,w15⟩
     ·refine T1.keep _ _ _ st13 λb hb o e=>?_;have q:=(I15.pin (b,o)<|Ae _<|Ae _<|er hb e).1;refine(Fq.2 b ?_).trans q;exact λz=>(f10 b hb).2.2.2.2.2 (s2.heap.objs.size,({cls:=.type "list",data:=.seq (List.toArray E5) n}:Obj)) (Ae _<|AR _<|by simp) z.symm
     ·obtain⟨o,e,d⟩:=T1.obj _ _ st13 b hb;exact(I15.pin (b,o)<|Ae _<|Ae _<|er hb e).2.1
   exact Zmw loop1<|T1.self X.A 0 _ _ _ st10 loop1
 exact Ew (loop _ rfl)<|T.self X.A 0 _ _ _ (T.keep _ _ _ st2 λb hb o e=>kp b o e)<|loop _ rfl
def ZcC{elt target iter t1 i1:E1}{scope:Scope}{pos:Pos}{g g1:Blk->TG}{wi1:Blk->TI}{te:Blk->TE}(Nx:Dw)(ts:Dw)(ix:EQ Nat)
  (hc:X.calm=true) (hi:PI X target iter wi) (hg:∀b,PG (aP X (bN Nx ts ix) scope b) target<|g b) (hi1:∀b,PI (aP X (bN Nx ts ix) scope b) t1 i1<|wi1 b) (hg1:∀b,PG (aP X (bN Nx ts ix) scope b) t1<|g1 b) (he:∀b,PE (aP X (bN Nx ts ix) scope b) elt<|te b)
  (Fj:X.N=Nx) (ok:BlkOk Nx X.env.scope scope ix) (hs1:∀b x,foldedSetIterable i1 (aP X (bN Nx ts ix) scope b).env x=pure x:=by intro _ _;rfl) (hs:∀x,foldedSetIterable iter X.env x=pure x:=by intro _;rfl) :
  PE X (.ListComp elt [⟨target,iter,[],0⟩,⟨t1,i1,[],0⟩] scope pos) (wa wi ts.length ix g wi1 g1 te):=by intro pins s σ H Q I h;obtain⟨cl,hcl,cl1,cl2⟩:=jE (scope:=scope) (env:=X.env) λy hy hf=>I.ok.has y.1<|ok.frees y hy hf;rw[eval_ListComp];refine DU (use:=none) rfl hs hcl ok.kind ok.locs (thn (hi pins s σ H _ I h) λv s1 h1=>thn h1 λitv s2 h2=>?_);refine ZjX (R:=λacc C=>compPost (model X.prog X.w) X.A X.xe none (EP X pins σ Q) acc C) hc hg hi1 hg1 he hs1 Fj ok cl1 cl2 h2 ?_;rintro D C H' s' v I' rfl q ⟨m,hm⟩ hn hL h0 Fh hp;exact⟨m,hm,λh' Fq=>⟨.ref D,H',I'.turned (it:=C) (t':=s'.toks) (λb o hb e=>(Fq.2 b hb).trans e) hn hL (.inr h0) Fh hp,rfl,q⟩⟩
end
noncomputable def iz(h:ES->Tr Dt):EQ ES->Tr Dt
 | []=>.ret []
 |x::xs=>(h x).bind λys=>(iz h xs).bind λzs=>.ret<|ys++zs
def iE(a:Nat)(is1:Dj)(b:Nat)(el:Di)(ρ:Dz)(x:ES):Tr Dt :=
 (is1<|ρ.set a<|.d x).bind λys=>if decide (ys.length<=100)=true then aX (λy=>el<|(ρ.set a<|.d x).set b<|.d y) ys else .fail
def pY(is:Dj)(n:Nat)(ix:EQ Nat)(a:Nat)(is1:Dj)(b:Nat)(el:Di):Dj:=λρ =>
 (is ρ).bind λxs=>if decide (xs.length<=100)=true then iz (iE a is1 b el<|blk n ix ρ) xs else .fail
section
variable{PK:Pk}{e:E1}{is1:Dj}
def ZeZ{n:Nat}{ix:EQ Nat}(h:k<n){s:Sl}(e:(blk n ix ρ)[k]?=some s):s=.un:=by
 unfold blk at e;rw[At<|by simpa using h,AG,DD h]at e
 cases e
 rfl
def ZjW{n a b:Nat}{ix:EQ Nat}(ha:a<n)(hb:b<n)(hab:a≠b):∀σ H Q,dR PK (pY is n ix a is1 b i) σ H Q->wa (cq PK is) n ix (λ_=>b9 PK<|aj a) (λ_=>cq PK is1) (λ_=>b9 PK<|aj b) (λ_=>TAe PK i) σ H Q:=by
 rintro σ H Q ⟨pa,DA,H₀,m,ρ,G,R,z⟩;refine⟨pa,DA,H₀,m,ρ,G,R,Tr.ok_mono (Tr.ok_bind.mp z) λm1 xs k J G1 H1 s1 w1 jo=>λB=>?_⟩;obtain⟨hs,k⟩:=c6 k;have hs:xs.length<=100:=DC hs
 let W:Nat->Nat->St->EQ V->Hp->Prop:=λk mm τ ys H2=>mm=xs.length-k/\k<=xs.length/\ys.length<=100*k/\∃m G2 ds,Sub G1 G2/\Stp pa G H G2 H2/\Rl PK pa DA H₀ m τ (blk n ix ρ) G2 H2 /\
  DnAll G2 ys ds/\(iz (iE a is1 b i<|blk n ix ρ)<|xs.drop k).ok m λm' zs=>Ko1 PK pa m' G H (ds++zs) Q
 refine⟨W,⟨xs.length,rfl,A0 _,A0 _,m1,G1,[],.refl,s1,(R.step s1 w1).blk n ix,.nil,k⟩,?_⟩;rintro k mm τ ys H2 ⟨rfl,hk,hy,m2,G2,ds,sb,st2,R2,dn,k2⟩;obtain⟨j1,j2⟩:=jo m2 G2 H2 sb R2.wd;by_cases E6:k<xs.length
 ·have hx:xs[k]?=some xs[k]:=by simp[E6]
  obtain⟨jg,jy⟩:=j1 k _ hx;refine .inr ⟨jg,λx H3 y=>?_⟩;obtain⟨G3,s3,w3,d3⟩:=jy x H3 y;rw[Ax E6]at k2;unfold iz at k2;rw[Tr.ok_bind]at k2;unfold iE at k2;rw[Tr.ok_bind]at k2;refine⟨pa,DA,H₀,m2,_,G3,_,_,R2.step s3 w3,d3,rfl,λτ4 R4=>?_⟩;refine⟨pa,DA,H₀,m2,_,G3,R4,Tr.ok_mono k2 λm5 ys5 k5 J1 G5 H5 s5 w5 jo1=>?_⟩;obtain⟨hs5,k5⟩:=c6 k5;have hs5:ys5.length<=100:=DC hs5;have s35:=s3.trans s5 w3.some;generalize hρ:(blk n ix ρ).set a (.d xs[k])=ρ1 at *;have hbl:∀s,ρ1[b]?=some s->s=.un:=λs hq=>by rw[<- hρ,Ar hab]at hq;exact ZeZ hb hq
  let W1:Nat->Nat->St->EQ V->Hp->Prop:=λk1 mm τ zs H6=>mm=ys5.length-k1/\k1<=ys5.length/\zs.length=ys.length+k1/\∃m G6 es,Sub G5 G6/\Stp pa G H G6 H6/\Rl PK pa DA H₀ m τ ρ1 G6 H6 /\
   DnAll G6 zs (ds++es)/\(aX (λy=>i<|ρ1.set b<|.d y)<|ys5.drop k1).ok m λm' us=>((iz (iE a is1 b i<|blk n ix ρ)<|xs.drop<|k+1).bind λzs=>.ret<|(es++us)++zs).ok m' λm'' ws=>Ko1 PK pa m'' G H (ds++ws) Q
  refine⟨W1,⟨ys5.length,rfl,A0 _,rfl,m5,G5,[],.refl,st2.trans s35 R2.wd.some,R4.step s5 w5,by rw[AI];exact DnAll.mono s35.gs dn,k5⟩,?_⟩
  rintro k1 mm1 τ6 zs H6 ⟨rfl,hk1,hz,m6,G6,es,sb6,st6,R6,dn6,k6⟩;obtain⟨i1,i2⟩:=jo1 m6 G6 H6 sb6 R6.wd;by_cases hlt1:k1<ys5.length
  ·have hx1:ys5[k1]?=some ys5[k1]:=by simp[hlt1]
   obtain⟨ig,iy⟩:=i1 k1 _ hx1;refine .inr ⟨ig,?_,λx1 H7 y1=>?_⟩
   ·rw[hz];have h1:ys.length<=10000:=Ap hy<|Nat.mul_le_mul_left 100<|Ap hk hs;have h2:20000<sizeLine:=by decide
    omega
   obtain⟨G7,s7,w7,d7⟩:=iy x1 H7 y1;rw[Ax hlt1]at k6;unfold aX at k6;rw[Tr.ok_bind]at k6;refine⟨pa,DA,H₀,m6,_,G7,_,_,R6.step s7 w7,d7,rfl,λτ8 R8=>?_⟩;refine⟨pa,DA,H₀,m6,_,G7,R8,Tr.ok_mono k6 λm9 yd k9=>?_⟩;intro v G9 H9 s9 w9 d9;have s79:=s7.trans s9 w7.some;refine⟨ys5.length-(k1+1),by omega,rfl,hlt1,by rw[Aq,hz];rfl,m9,G9,es++[yd],sb6.trans s79.gs,st6.trans s79 R6.wd.some,?_,?_,?_⟩
   ·refine(R8.step s9 w9).weak AE λq sl hq=>?_;by_cases hqb:q=b
    ·subst hqb;exact .inl<|hbl sl hq
    ·right
     rw[Ar<|Ne.symm hqb];exact hq
   ·rw[<- A2];exact(DnAll.mono s79.gs dn6).snoc d9
   ·refine Tr.ok_mono (Tr.ok_bind.mp k9) λm10 us k10=>?_;rw[A2];exact k10
  ·have e1:k1=ys5.length:=by omega
   subst e1;refine .inl ⟨i2,xs.length-(k+1),by omega,rfl,E6,by rw[hz,Nat.mul_succ];omega,m6,G6,ds++es,(sb.trans s35.gs).trans sb6,st6,?_,dn6,?_⟩
   ·refine R6.weak (by rw[<- hρ];exact AE) λq sl hq=>?_
    by_cases hqa:q=a
    ·subst hqa;exact .inl<|ZeZ ha hq
    ·right
     rw[<- hρ,Ar<|Ne.symm hqa];exact hq
   ·rw[AS]at k6;have k6':((iz (iE a is1 b i<|blk n ix ρ)<|xs.drop<|k+1).bind λzs=>Tr.ret<|(es++[])++zs).ok m6 λm'' ws=>Ko1 PK pa m'' G H (ds++ws) Q:=k6;refine Tr.ok_mono (Tr.ok_bind.mp k6') λm7 ws k7=>?_;have k7':Ko1 PK pa m7 G H (ds++((es++[])++ws)) Q:=k7;rw[AI,<- A2]at k7';exact k7'
 ·have e:k=xs.length:=by omega
  subst e;refine .inl ⟨j2,λp v H' hp ev eH=>?_⟩;subst ev eH;rw[AS]at k2;have k2':Ko1 PK pa m2 G H (ds++[]) Q:=k2;rw[AI]at k2';exact(Ko1.later k2' st2 R2.wd.some).new R2.wd dn hp
def Zfk{n a b:Nat}{ix:EQ Nat}(h:PE X e (wa (cq PK is) n ix (λ_=>b9 PK<|aj a) (λ_=>cq PK is1) (λ_=>b9 PK<|aj b)<|λ_=>TAe PK i))(ha:a<n)(hb:b<n)(hab:a≠b):PE X e (dR PK<|pY is n ix a is1 b i):=h.imp<|ZjW ha hb hab
end
def RawD(h:EZ)(d:EV)(es:Array DictEntry)(ep:Nat):Prop:=∃o,h.get? d=some o/\o.ExactDict/\o.data=.dict es ep
def RawD.mono{h h':EZ}{d:EV}{es:Array DictEntry}(r:RawD h d es ep)(k:∀o,h.get? d=some o->h'.get? d=some o):RawD h' d es ep :=
 let ⟨o,a,b⟩:=r;⟨o,k o a,b⟩
def RawD.ty{s:EU}{d:EV}{es:Array DictEntry}(r:RawD s.heap d es ep):s.TypeIs (.ref d) "dict":=let ⟨o,a,b,_⟩:=r;⟨o,a,b.1⟩
noncomputable abbrev ya(d:EV)(i n ep:Nat):Array ET:=#[.ref d,.int i 0,.int n 0,.int ep 0]
def KiAt(h:EZ)(it d:EV)(i n ep:Nat):Prop:=∃o,h.get? it=some o/\o.cls=.type "dict_keyiterator"/\o.data=.fields (ya d i n ep)
section
variable{prog:EW}{w:EX}{A:EY}{E:Ds}{s:EU}{d it:EV}{es:Array DictEntry}{i:Nat}
def KiAt.ty{n:Nat}(k:KiAt s.heap it d i n ep):s.TypeIs (.ref it) "dict_keyiterator":=let ⟨o,a,b,_⟩:=k;⟨o,a,b⟩
def Zdp{Q:Ds}(lo:(d==sysModules)=false)(r:RawD s.heap d es ep)
  (q:Q (.ref s.heap.objs.size) {s with heap:=s.heap.push {cls:=.type "dict_keyiterator",data:=.fields (ya d 0 es.size ep)} }):wpAny (model prog w) A (pyIter<|.ref d) Q E s:=by
 have ht:=r.ty;obtain⟨o,h1,h2,h3⟩:=r;have nl:¬ (d==sysModules)=true:=by rw[lo];decide
 apply Ep ht F.slot_dict_iter;refine DL F.slot_dict_iter ht F.entry_dict_iter (b:=Builtin.«dict.__iter__») ?_<|F.args_dict_iter_1 _;unfold Builtin.«dict.__iter__»;apply wp;unfold Builtin.Dict.dictSlotNone;apply wp;apply wpAny_notOrdered_dict ht;apply DB (a:=Value.ref d);show wpAny _ _ (Builtin.Dict.showsAll d >>= _) _ _ s;apply wp;unfold Builtin.Dict.showsAll;rw[DF nl];apply DB;apply wp;apply wpAny_dictEntries h1 h3;apply wp;apply wpAny_dictEpoch h1 h3;apply wp;refine DH ?_<|by size_fits
 exact DB ⟨_,rfl,_,_,⟨_,Ai _ rfl,rfl⟩,F.slot_dict_keyiterator_next.lookup,q⟩
def tP{Q:ER ET->EU->Prop}(hh:A.handled=none)(k:KiAt s.heap it d i es.size ep)(r:RawD s.heap d es ep)
  (qi:∀e h',es[i]?=some e->KiAt h' it d (i+1) es.size ep->Heap.SameBut it s.heap h'->Q (some e.key) {s with heap:=h'})
  (qe:es[i]?=none->∀h',Heap.ExtBut it s.heap h'->Q none {s with heap:=h'}):wpAny (model prog w) A (pyNext<|.ref it) Q E s:=by
 have ht:=k.ty;obtain⟨o,h1,h2,h3⟩:=k;obtain⟨od,d1,d2,d3⟩:=r;have own:Builtin.Dict_items.ownsTuple "dict_keyiterator"=false:=by decide
 have named:∀{A:EY}{E:Ds}{P:String->EU->Prop},P "dict_keyiterator" s->wpAny (model prog w) A (typeNameOfWhole<|.ref it) P E s:=λq=>wpAny_typeNameOfWhole_keyiter ht q;unfold pyNext;apply wp;apply Ef;apply DN (name:=Str.ofString "__next__") ht F.slot_dict_keyiterator_next;refine DL F.slot_dict_keyiterator_next ht F.entry_dict_keyiterator_next ?_<|F.args_dict_keyiterator_next_1 _;apply wp;apply DB;apply wp;apply wp;apply wp;apply named;apply DB;apply wp;apply wpAny_fieldsOf h1 h3;simp only[own,Bz,D6];show wpAny _ _ (if (Value.ref d==Value.none)=true then _ else _) _ _ s
 rw[DF<|show ¬ (Value.ref d==Value.none)=true from nofun]
 apply wp;apply DB;apply wp;apply wpAny_dictEntries d1 d3;rw[DF<|by simp]
 apply wp;apply DB;apply wp;apply wpAny_dictEpoch d1 d3;rw[DF<|by simp]
 apply DB;have nn:¬ (i:Int)<0:=by omega
 simp only[nn,D6,AO];cases hx:es[i]? with
 | some e =>
  dsimp only;apply wp;apply wp;apply named;apply DB;apply wp;apply wpAny_isOneOf_keyiter ht;show wpAny _ _ (setField (.ref it) 1 (rawInt<|(i:Int)+1) >>= _) _ _ s;apply wp;apply D5 h1 h3<|by simp
  have k':KiAt (s.heap.update it<|Obj.mapFields (·.setIfInBounds 1 (rawInt<|(i:Int)+1))) it d (i+1) es.size ep :=
   ⟨_,Bj _ h1<|Ca<|Bm h3 _,(C3 ..).trans h2,by rw[Bm h3];simp[rawInt]⟩
  apply wp;apply DK;apply wp;apply wpAny_isOneOf_keyiter (s:={s with heap:=s.heap.update it (Obj.mapFields (·.setIfInBounds 1 (rawInt<|(i:Int)+1)))}) k'.ty;show wpAny _ _ (pure e.key) _ _ _;exact DB (DB ⟨_,rfl,DB<|qi e _ hx k'<|By ..⟩)
 | none =>
  dsimp only;apply wp;apply wp;apply named;apply DB;show wpAny _ _ (setField (.ref it) 0 .none >>= _) _ _ s;apply wp;apply D5 h1 h3<|by simp
  show wpAny _ _ (newExc (.type "StopIteration") [] >>= _) _ _ _;apply wp;simp only[newExc,newTuple];apply wp;refine DH ?_<|by size_fits
  apply wp (m:=firstArgMember _ _);refine DO (a:=Value.none) (by first|rfl|(simp only[firstArgMember];rfl)) ?_
  refine DH ?_<|by size_fits
  simp only[raiseNew];apply wp;apply wpAny_handled;rw[show A.in1.handled=none from hh]
  first
   |(apply wp;apply DB;apply wpAny_throw)
   |apply wpAny_throw
  apply wp;refine Et (b:=true) (T:="StopIteration") ⟨_,Ai _ rfl,rfl⟩ isSubtype_stop ?_;exact DB<|qe hx _<|((By ..).extBut.push _).push _
end
section
variable{PK:Pk}{pa:EV}
def Inv.knownT{pins:EQ (EV×Obj)}{s:EU}{a:EV}{ks:EQ (EQ aH×V)}(I:Inv X pins σ H s)(h:H a=some (.dT ks)):∃o,Inv X pins σ (upd H a<|.frz o<|.dT ks) s:=by
 obtain⟨hz,hS,xs,r,o,es,ep,ho,h1,h2,h3,h4⟩:=(show ObjOk X.prog X.w H s.heap a (.dT ks)from I.hok a _ h)
 refine⟨o,?_⟩;have r':KT (upd H a<|.frz o<|.dT ks) ks xs:=KT.keeps r λc ys ec=>by
  rw[aA λe=>by subst e;rw[h]at ec;cases ec]
  exact ec
 exact I.write (t':=s.toks) (h':=s.heap) (e:=a) (by rw[h];trivial) (.inl rfl) (λb u _ q=>q) ⟨o,ho⟩ ⟨ho,hz,hS,xs,r',o,es,ep,ho,h1,h2,h3,h4⟩
end
section
variable{PK:Pk}{e:E1}{st:E3}{s:Dl}
end
def uJ{pins:EQ (EV×Obj)}{s:EU}{a:EV}{o:Obj}{ks:EQ (EQ aH×V)}(I:Inv X pins σ H s)(h:H a=some (.frz o<|.dT ks)) :
  ∃xs es ep,KT H ks xs/\s.heap.get? a=some o/\o.data=.dict es ep/\RawD s.heap a es ep/\(a==sysModules)=false/\es.toList=xs.map (entryOfKey<|tupleKind<|bH X.prog X.w)/\ks.length<=sizeLine:=by
 obtain⟨ho,hz,hS,xs,r,o',es,ep,Fu,h1,h2,h3,_⟩:=(show ObjOk X.prog X.w H s.heap a (.frz o<|.dT ks)from I.hok a _ h)
 rw[ho]at Fu;cases Fu;exact⟨xs,es,ep,r,ho,h2,⟨o,ho,h1,h2⟩,hS,h3,hz⟩
theorem KT.at{H:Hp}{ks:EQ (EQ aH×V)}{xs:EQ (EQ aH×EV×ET)}(r:KT H ks xs):∀(i:Nat)(k:EQ aH×V),ks[i]?=some k->∃x,xs[i]?=some x/\H x.2.1=some (.tup<|k.1.map kV):=by
 induction r with
 |nil=>intro i k h;cases h
 | @cons a b l m h _ ih =>
  intro i k e;cases i with
  | zero =>
   cases e;exact⟨b,rfl,h.2.1⟩
  | succ i =>
   rw[AH]at e ⊢;exact ih i k e
def ZdX{ks:EQ (EQ aH×V)}{xs:EQ (EQ aH×EV×ET)}{es:Array DictEntry}(r:KT H ks xs)(e:es.toList=xs.map (entryOfKey<|tupleKind<|bH X.prog X.w)):es.size=ks.length:=by have:=DI List.length e;rw[BG,v9]at this;exact this.trans r.length.symm
def ZdZ{xs:EQ (EQ aH×EV×ET)}{es:Array DictEntry}(e:es.toList=xs.map (entryOfKey<|tupleKind<|bH X.prog X.w)){i:Nat}{x:EQ aH×EV×ET}(h:xs[i]?=some x){y:DictEntry}(hy:es[i]?=some y):y.key=.ref x.2.1:=by
 have q:=entry_at e i;rw[hy,h]at q;cases q
 rfl
def zW(a:EV)(o:Obj)(ks:EQ (EQ aH×V)):It :=
 ⟨λi H=>H a=some (.frz o<|.dT ks)/\i<ks.length,λi H x H'=>H'=H/\∃k b,ks[i]?=some k/\x=.ref b/\H b=some (.tup<|k.1.map kV),λi H=>H a=some (.frz o<|.dT ks)/\ks.length<=i⟩
def Zgl{P:EW}{w:EX}{K:Dh}{tg:E1}(a it:EV){o:Obj}{ks:EQ (EQ aH×V)}{es:Array DictEntry}(hep:o.data=.dict es ep)(hs:es.size=ks.length):Turn P w K tg (zW a o ks) [it] it (λi h=>KiAt h it a i es.size ep) where
 mem:=by simp
 obj:=λi h st b hb=>by
  have e:b=it:=by simpa using hb
  subst e;obtain⟨o,e,c,d⟩:=st;exact⟨o,e,λv z=>by rw[d]at z;cases z⟩
 keep:=λi h h' st k=>by obtain⟨o,e,c,d⟩:=st;exact⟨o,k it (by simp) o e,c,d⟩
 item:=by
  intro X hP hw hK hc i pins s σ H E I hf st hg;subst hP hw hK;obtain⟨hq,hi⟩:=hg;obtain⟨xs,es',ep',r,ho,hd,rw',lo,he,_⟩:=uJ I hq;rw[hep]at hd;cases hd;obtain⟨x,hx,hb⟩:=r.at i ks[i]<|by simp[hi]
  obtain⟨f0,f1,f2,f3,f4,f5⟩:=hf it<|by simp
  refine tP (I.ok.hd hc) st rw' (λy h' hy st' sb=>?_) λhn=>?_
  ·have I1:Inv X pins σ H {s with heap:=h'}:=I.turned (t':=s.toks) (λb o hb e=>(sb.2 b hb).trans e) f0 f1 f3 f4 f5;obtain⟨o,e,c,d⟩:=id st';rw[ZdZ he hx hy];exact⟨_,rfl,lc (s:={s with heap:=h'}) e c d (by decide) ⟨.ref x.2.1,H,I1,rfl,⟨rfl,ks[i],x.2.1,by simp[hi],rfl,hb⟩,st',λb hb=>(hf b hb).1⟩⟩
  ·rw[C2]at hn;omega
 done:=by
  intro X hP hw hK hc i pins s σ H E I hf st hg;subst hP hw hK;obtain⟨hq,hi⟩:=hg;obtain⟨xs,es',ep',r,ho,hd,rw',lo,he,_⟩:=uJ I hq;rw[hep]at hd;cases hd;obtain⟨f0,f1,f2,f3,f4,f5⟩:=hf it<|by simp
  refine tP (I.ok.hd hc) st rw' (λy h' hy=>?_) λ_ h' eb=>⟨rfl,I.turned (t':=s.toks) (λb o hb e=>eb b o hb e) f0 f1 f3 f4 f5⟩;have:=(BP.mp hy).1;omega
 self:=λA i s Q E st h=>by apply Ep st.ty BO;refine DL BO st.ty Dg ?_<|Da _;show wpAny _ _ (ret<|.ref it) _ _ s;exact DB ⟨_,rfl,_,_,st.ty,F.slot_dict_keyiterator_next.lookup,h⟩
section
variable{PK:Pk}
def jR(PK:Pk):Prop:=∀xs G m,¬ PK.is (.tup xs) G m
def Wd.take{pa:EV}(nt:jR PK)(w:Wd PK pa m G H){b:EV}{ns:Du}(h:H b=Option.some (.tup<|ns.map V.int)):∃G',Stp pa G H G' H/\Wd PK pa m G' H/\Dn G' (.ref b) (.tuple<|ns.map PyData.int):=by
 have E8:pa≠b:=λe=>by obtain⟨o,h1,h2⟩:=w.pen;rw[e,h]at h1;cases h1;exact nt _ _ _ h2
 cases e:G b with
 | some o =>
  have:=w.sub b o e;rw[h]at this;cases this;exact⟨G,.refl,w,.tup e<|DnAll.ints ns⟩
 | none =>
  have sb:Sub G (upd G b<|.tup<|ns.map V.int):=Sub.new e;refine⟨upd G b<|.tup<|ns.map V.int,⟨sb,λc o hc=>?_,λ_ _ q _=>q⟩,w.freeze h e E8,.tup bv<|DnAll.ints ns⟩;by_cases ec:c=b
  ·subst ec;exact .inr<|.inr ⟨Ne.symm E8,_,h⟩
  ·rw[aA ec]at hc;exact .inl hc
def fq:EQ (ES×ES)->ER (EQ Du)
 | []=>some []
 |(.tuple ks,_)::r=>(ints? ks).bind λns=>(fq r).map (ns::·)
 |_::_=>none
def uA:ES->ER Dt
 |.dict []=>none
 |.dict kvs=>(fq kvs).map λks=>ks.map λk=>PyData.tuple (k.map PyData.int)
 |_=>none
theorem Zdm:∀{l:EQ (Du×V)}{ds:Dt},ds.length=l.length->fq ((l.map λk=>PyData.tuple<|k.1.map PyData.int).zip ds)=some (l.map (·.1))
 | [],ds,h=>by
  cases ds with
  |nil=>rfl
  |cons _ _=>cases h
 |k::l,[],h=>by cases h
 | k::l,d::ds,h=>by
  rw[Af,AV,Af];unfold fq;rw[ints?_map,Zdm<|Cz h]
  rfl
def Dn.keys{x:ES}{xs:Dt}(d:Dn G v x)(h:uA x=some xs) :
  ∃a o l,v=.ref a/\G a=some (.frz o<|.dT<|List.map cu l)/\xs=l.map λk=>PyData.tuple (k.1.map PyData.int):=by
 cases d with
 | @dct a ks ds h1 h2 =>
  have hl:=h2.length;rw[v9]at hl;cases ks with
  |nil=>rw[Bo,List.zip_nil_left]at h;cases h
  | cons k ks =>
   cases ds with
   |nil=>cases hl
   | cons y ds =>
    rw[Af,AV]at h;obtain⟨c,_⟩:=k;cases c <;> cases h
 | @dcp a o ks ds h0 h1 h2 =>
  have hl:=h2.length;rw[v9]at hl;refine⟨a,o,ks,rfl,h1,?_⟩;have e:=Zdm (l:=ks) (ds:=ds) hl.symm;cases ks with
  |nil=>exact absurd rfl h0
  | cons k ks =>
   cases ds with
   |nil=>cases hl
   | cons y ds =>
    rw[Af,AV]at h e;have h:(fq ((PyData.tuple<|k.1.map PyData.int,y)::(ks.map λk=>PyData.tuple<|k.1.map PyData.int).zip ds)).map (λks=>ks.map λk=>PyData.tuple<|k.map PyData.int)=some xs:=h;rw[e]at h;cases h;exact Av
 |_=>cases h
def ye(ns:Du):(ns.map (Sum.inl:Int->aH)).map kV=ns.map V.int:=by rw[Av];rfl
def Zkj{pa a:EV}{o:Obj}{l:EQ (Du×V)}(nt:jR PK)(h:G a=some (.frz o<|.dT<|l.map cu)):hV PK pa (zW a o<|l.map cu) G (l.map λk=>PyData.tuple<|k.1.map PyData.int):=λm G2 H2 sb w=>by
 have hq:=w.sub _ _<|sb _ _ h;refine⟨λn x hx=>?_,hq,by rw[v9,v9];exact Ag _⟩
 rw[Ak]at hx;obtain⟨k,hk,rfl⟩:=AN.mp hx;refine⟨⟨hq,by rw[v9];exact(Ad.mp hk).1⟩,?_⟩
 rintro y H3 ⟨rfl,k',b,e1,rfl,e2⟩;rw[Ak,hk]at e1;cases e1;have e2:H3 b=some (.tup<|(k.1.map (Sum.inl:Int->aH)).map kV):=e2;rw[ye]at e2;exact w.take nt e2
def vA(i:Di):Dj:=λρ=>(i ρ).bind λx=>Tr.of<|uA x
def Zkt(tl:TE):TI:=λσ H R=>tl σ H λx H1=>∃a o ks,x=.ref a/\H1 a=some (.frz o<|.dT ks)/\R (zW a o ks) H1
def Ziz{tg e:E1}{tl:TE}(he:PE X e tl):PI X tg e (Zkt tl):=by
 intro pins s σ H R I h;refine thn (he pins s σ H _ I h) λv s1 E4=>?_;obtain⟨x,H1,I1,r1,a,o,ks,rfl,hp,q⟩:=E4;cases r1;obtain⟨xs,es,ep,r,ho,hd,rw',lo,he,_⟩:=uJ I1 hp;have hs:=ZdX r he;refine Zdp lo rw' ?_;refine⟨s1.heap.objs.size,[s1.heap.objs.size],_,_,H1,rfl,I1.kept (t':=s1.toks) λb o e=>Aa _ e,Zgl a _ hd hs,⟨_,Ai _ rfl,rfl,rfl⟩,λb hb=>?_,q⟩;have e:b=s1.heap.objs.size:=by simpa using hb
 subst e;exact I1.fpOk (Ag _)<|I1.hok.fresh<|Ag _
def Zfq{tg e:E1}(nt:jR PK)(he:PE X e (TAe PK i)):PI X tg e (cq PK<|vA i):=(Ziz he).imp λσ H R0 E4=>by obtain⟨pa,DA,H₀,m,ρ,G,R,z⟩:=E4;refine TAe.then R z λm1 x v G1 H1 s1 w1 R1 d1 q1=>?_;obtain⟨xs,hx,q1⟩:=Tr.ok_of q1;obtain⟨a,o,l,rfl,hG,rfl⟩:=d1.keys hx;exact⟨a,o,_,rfl,w1.sub _ _ hG,q1 _ G1 H1 s1 w1<|Zkj nt hG⟩
end
section
variable{prog:EW}{w:EX}{A:EY}{E:Ds}{s:EU}
end
section
variable{prog:EW}{w:EX}{A:EY}{R:Result->EU->Prop}{I:EV}{fp wr:EQ EV}{G:Array GenState->Array GenState->Prop}{n:Nat}{P:Nat->ET->Prop}{St:Nat->EU->Prop}
end
section
variable{prog:EW}{w:EX}{A:EY}{E:Ds}{s:EU}
end
section
variable{prog:EW}{w:EX}{A:EY}{E:Ds}{s:EU}
end
end L2
namespace PySem.F
end PySem.F
namespace L2
section
variable{prog:EW}{w:EX}{A:EY}{E:Ds}{s:EU}{I p:EV}{first:ET}{i n ep':Nat}{o:Obj}{es:Array (Int×ET)}{t:SetTable}
end
section
variable{prog:EW}{w:EX}{A:EY}{E:Ds}{s:EU}{I p:EV}{i n:Nat}{o:Obj}{es:Array (Int×ET)}{t:SetTable}
end
end L2
namespace PySem.F
end PySem.F
namespace L2
section
variable{prog:EW}{w:EX}{A:EY}{E:Ds}{s:EU}{I p tp:EV}{n:Nat}{o:Obj}{es:Array (Int×ET)}{t:SetTable}
end
section
variable{prog:EW}{w:EX}{A:EY}{E:Ds}{s:EU}{p:EV}
end
section
variable{prog:EW}{w:EX}{A:EY}{E:Ds}{s:EU}{p:EV}
end
section
variable{prog:EW}{w:EX}{A:EY}{E:Ds}{s:EU}{p:EV}
end
variable{PK:Pk}{e:E1}
section
variable{prog:EW}{w:EX}{A:EY}{E:Ds}{s:EU}{p:EV}
end
variable{PK:Pk}{e:E1}
section
variable{prog:EW}{w:EX}{A:EY}{E:Ds}{s:EU}{d:EV}{es:Array DictEntry}
abbrev ZfK(es:Array DictEntry):Nat->ET->Prop:=λi v=>∃e,es[i]?=some e/\v=e.key
def ZfT(hh:A.handled=none)(it:EV)(E8:d≠it):Walks prog w A it [it,d] [it] es.size (ZfK es) (λi h=>KiAt h it d i es.size ep/\RawD h d es ep) where
 sub:=λb hb=>by cases hb with|head=>exact Aj ..|tail _ h=>cases h
 frame:=λi h h' st k=>by obtain⟨⟨o,a,b⟩,r⟩:=st;exact⟨⟨o,k it (Aj ..) o a,b⟩,r.mono λo q=>k d (Ab _<|Aj ..) o q⟩
 item:=λi s Q E hi st q=>by
  refine tP hh st.1 st.2 (λy h' hy st' sb=>?_) λhn=>?_
  ·exact q y.key h' s.toks ⟨y,hy,rfl⟩ ⟨st',st.2.mono λo z=>sb.extBut d o E8 z⟩ λb o hb z=>sb.extBut b o (λe=>hb<|by rw[e];exact Aj ..) z
  ·rw[C2]at hn;omega
 done:=λs Q E st q=>by
  refine tP hh st.1 st.2 (λy h' hy=>?_) λ_ h' eb=>q h' s.toks λb o hb z=>eb b o (λe=>hb<|by rw[e];exact Aj ..) z
  have:=(BP.mp hy).1;omega
 self:=λi s Q E st q=>by obtain⟨st,_⟩:=st;apply Ep st.ty BO;refine DL BO st.ty Dg ?_<|Da _;show wpAny _ _ (ret<|.ref it) _ _ s;exact DB ⟨_,rfl,_,_,st.ty,F.slot_dict_keyiterator_next.lookup,q⟩
def ZgZ(lo:(d==sysModules)=false):PySem.W.KdlSrc prog w "dict" d d es.size (ZfK es) (λh=>RawD h d es ep) where
 type:=λs r=>r.ty
 there:=λh r=>let ⟨o,a,_⟩:=r;⟨An a,An a⟩
 keep:=λh h' r k=>r.mono λo q=>k d (.inl rfl) o q
 notList:=by decide
 notTuple:=by decide
 hint:=λA E s Q r q=>PySem.W.kdl_hint_dict r.ty q
 iter:=λA s hh r=>by refine⟨{cls:=.type "dict_keyiterator",data:=.fields (ya d 0 es.size ep)},λi h=>KiAt h s.heap.objs.size d i es.size ep/\RawD h d es ep,λE Q q=>Zdp lo r q,?_,⟨_,Ai _ rfl,rfl,rfl⟩,r.mono λo q=>Aa _ q⟩;obtain⟨o,a,_⟩:=r;exact ZfT hh _<|Aw<|An a
def gather{T:String}{r:EV}{n:Nat}{P:Nat->ET->Prop}{OK:EZ->Prop}{R:EQ ET->EU->Prop}(src:PySem.W.KdlSrc prog w T r d n P OK)(hh:A.handled=none)(ok:OK s.heap)(hk:n<=sizeLine)
  (h:∀h' tk acc,(∀b o,s.heap.get? b=some o->h'.get? b=some o)->s.heap.objs.size<=h'.objs.size->ItemsOf P acc n->R acc.toList {s with heap:=h',toks:=tk}):wpAny (model prog w) A (collect<|.ref r) R E s:=by
 obtain⟨hr,hd⟩:=src.there _ ok;have g0:(s.heap.push {cls:=.type "list",data:=.seq ([]:Dv).toArray}).get? s.heap.objs.size=some {cls:=.type "list",data:=.seq #[]}:=Ai _ rfl;have walk:=PySem.W.kdl_extend (A:=A) (s:={s with heap:=s.heap.push {cls:=.type "list",data:=.seq ([]:Dv).toArray} })
  (R:=λ(q:Result) (s':EU)=>∃h' tk acc c,q=.ok (.ret<|.ref s.heap.objs.size)/\s'={s with heap:=h',toks:=tk}/\(∀b o,s.heap.get? b=some o->h'.get? b=some o)/\h'.get? s.heap.objs.size=some {cls:=.type "list",dict:=none,data:=.seq acc c,slots:=#[]}/\ItemsOf P acc n)
  src hh (src.keep _ _ ok λb _ o q=>Aa _ q) s.heap.objs.size (AZ hr) (AZ hd) (.ref s.heap.objs.size) 0 g0
  (λh' tk acc c k1 k2 k3=>⟨h',tk,acc,c,rfl,rfl,λb o q=>k1 b o (Aw<|An q)<|Aa _ q,k2,k3⟩) hk
 unfold collect;refine wp<|wpAny_runValue<|DS F.entry_proto_collect ?_;rw[AX F.plain_proto_collect _];show wpAny _ A.in1 (newList [] >>= λl=>again<|.builtin "list.__iadd__" ⟨[l,.ref r],[]⟩) _ _ s;refine wp<|DH<|DB ⟨DW CC _,DS F.entry_list_iadd ?_⟩;rw[AX CC _];refine DJ walk (λfl s' z=>?_) λe s' z=>?_
 ·have fin:∀{q:Result}{s':EU},(∃h' tk acc c,q=.ok (.ret<|.ref s.heap.objs.size)/\s'={s with heap:=h',toks:=tk}/\(∀b o,s.heap.get? b=some o->h'.get? b=some o)/\h'.get? s.heap.objs.size=some {cls:=.type "list",dict:=none,data:=.seq acc c,slots:=#[]}/\ItemsOf P acc n) ->
    q=.ok (.ret<|.ref s.heap.objs.size)/\wpAny (model prog w) A (load s.heap.objs.size >>= λo=>match o.data with|.seq xs _=>pure xs.toList|_=>unsupported "internal:collect") R E s':=λz=>by obtain⟨h',tk,acc,c,e,rfl,k1,k2,k3⟩:=z;exact⟨e,wp<|wpAny_load k2<|DB<|h h' tk acc k1 (BS<|An k2) k3⟩
  cases fl with
  | done f =>
   obtain⟨e,q⟩:=fin z;cases e;exact q
  | again c1 =>
   refine⟨z.1,Ed z.2 λq s2 y=>?_⟩;obtain⟨e,q'⟩:=fin y;subst e;exact q'
 ·obtain⟨_,_,_,_,e',_⟩:=z;cases e'
end
noncomputable def iD:EQ Int->EQ Int->Bool
 |x::xs,y::ys=>if x=y then iD xs ys else decide (x<y)
 |_,_=>false
def NumT(h:EZ)(v:ET)(ns:Du):Prop:=∃a o us n,v=.ref a/\h.get? a=some o/\o.cls=.type "tuple"/\o.data=.seq us n/\IntsAre us.toList ns
def NumT.keeps{h h':EZ}{v:ET}{ns:Du}(t:NumT h v ns)(k:∀b o,h.get? b=some o->h'.get? b=some o):NumT h' v ns :=
 let ⟨a,o,us,n,e,h1,r⟩:=t;⟨a,o,us,n,e,k a o h1,r⟩
section
variable{prog:EW}{w:EX}{A:EY}{E:Ds}{s:EU}{Q:Bool->EU->Prop}{b:Bool}
theorem Zc2:∀{xs ys:Du}{us vs:Dv}{i:Nat},IntsAre us xs->IntsAre vs ys->xs.length=ys.length->Q (iD xs ys) s->PySem.W.KatLex prog w A b false Q (us.zip vs) i s
 | [],[],_,_,i,hu,hv,_,q=>by cases hu;exact PySem.W.kat_nil q
 | x::xs,y::ys,_,_,i,hu,hv,hl,q=>by
  cases hu with
  | cons _ t hu =>
   cases hv with
   | cons _ t' hv =>
    rename_i us vs;rw[AV];refine PySem.W.kat_cons<|wpAny_eqBool_int ?_;unfold iD at q;by_cases e:x=y
    ·rw[DD e]at q;rw[show(x==y)=true from beq_iff_eq.mpr e]
     exact PySem.W.kat_yes<|Zc2 hu hv (Cz hl) q
    ·rw[DF e]at q;rw[show(x==y)=false from D4.mpr e]
     refine PySem.W.kat_no ?_;cases (b&&i==0)with
     |true=>exact oneLt_int q
     | false =>
      refine PySem.W.kat_one _ _<|lt_int ?_;exact q
 | [],_::_,_,_,_,_,_,h,_=>by cases h
 |_::_,[],_,_,_,_,_,h,_=>by cases h
def Zdy{us:Dv}{ns:Du}(h:IntsAre us ns):us.length=ns.length:=by
 induction h with
 |nil=>rfl
 |cons _ _ _ ih=>rw[Ac,Ac,ih]
def ZjH{u v:ET}{xs ys:Du}(hu:NumT s.heap u xs)(hv:NumT s.heap v ys)(hl:xs.length=ys.length)(q:Q (iD xs ys) s):wpAny (model prog w) A (keyLt' (tuples' b) u v) Q E s:=by
 obtain⟨a,o,us,n,rfl,h1,h2,h3,h4⟩:=hu;obtain⟨a',o',us',n',rfl,k1,k2,k3,k4⟩:=hv;refine PySem.W.kat_lt h1 h3 k1 k3 ?_;have e:decide (us.size<us'.size)=false:=by rw[<- BG,<- BG,Zdy h4,Zdy k4,hl];exact DG<|AF _
 rw[e];exact Zc2 h4 k4 hl q
end
section
variable{prog:EW}{w:EX}{A:EY}{E:Ds}{s:EU}
theorem ZdP{h:EZ}:∀{vs:Dv},(∀v∈vs,∃n ns,NumT h v (n::ns))->∃fs,PySem.W.KatTups h vs fs/\fs.length=vs.length/\∀f∈fs,∃n t,f=Value.int n t
 | [],_=>⟨[],PySem.W.KatTups.nil,rfl,nofun⟩
 | v::vs,hv=>by
  obtain⟨fs,h1,h2,h3⟩:=ZdP (vs:=vs) λu hu=>hv u<|Ab _ hu;obtain⟨n,ns,a,o,us,k,rfl,a1,a2,a3,a4⟩:=hv v<|Aj ..;cases hus:us.toList with
  |nil=>rw[hus]at a4;cases a4
  | cons u ul =>
   rw[hus]at a4;cases a4 with
   | cons _ t hr =>
    refine⟨.int n t::fs,PySem.W.KatTups.cons a1 a2 a3 ?_ h1,by rw[Ac,Ac,h2],λf hf=>?_⟩
    ·rw[<- Array.getElem?_toList,hus]
     rfl
    ·rcases Au.mp hf with rfl|hf
     ·exact⟨n,t,rfl⟩
     ·exact h3 f hf
open PySem.W in
theorem Zfe{cmp:Nat->Nat->(Bool->EU->Prop)->EU->Prop}{N:Nat}{p:Array Nat}(hc:∀n C,1<=n->n<N->C false s->cmp (p.getD n 0) (p.getD (n-1) 0) C s) :
  ∀(f n:Nat){Q:Nat->EU->Prop},1<=n->n+f<=N->Q (n+f) s->(kas_asc p f n).kasWp cmp Q s
 |0,n,Q,_,_,q=>q
 | f+1,n,Q,h1,h2,q=>by
  refine hc n _ h1 (by omega) ?_
  have e:n+(f+1)=n+1+f:=by omega
  rw[e]at q h2;exact Zfe hc f (n+1) (by omega) h2 q
open PySem.W in
def Zg2{cmp:Nat->Nat->(Bool->EU->Prop)->EU->Prop}{N:Nat}(h2:2<=N)(hc:∀n C,n+1<N->C false s->cmp (n+1) n C s){G:Array Nat->EU->Prop}(g:G (List.toArray<|List.range N) s):(kas_sort N).kasWp cmp G s:=by
 have at':∀i,i<N->(List.toArray<|List.range N).getD i 0=i:=λi hi=>by simp[Array.getD,hi]
 unfold kas_sort kas_count;rw[KasT.kasWp_bind,KasT.kasWp_bind];refine Zfe (N:=N) (λn C h1 h3 q=>?_) (N-1) 1 (Ag _) (by omega) ?_
 ·rw[at' n h3,at' (n-1)<|by omega]
  obtain⟨m,rfl⟩:∃m,n=m+1:=⟨n-1,by omega⟩
  exact hc m C h3 q
 ·have e:1+(N-1)=N:=by omega
  rw[e];show KasT.kasWp cmp (if (N==N)=true then _ else _) _ s
  rw[DD<|beq_self_eq_true N];show KasT.kasWp cmp (if N<N then _ else _) G s
  rw[DF<|AF N];exact g
def yo{vs:Dv}{i:Nat}{v:ET}(h:vs[i]?=some v):vs.getD i Value.none=v:=by rw[List.getD_eq_getElem?_getD,h];rfl
def Zh4(vs:Dv):(List.toArray<|List.range vs.length).toList.map (λi=>vs.getD i Value.none)=vs:=by
 apply Co;intro i;rw[Ak];by_cases hi:i<vs.length
 ·have e:(List.toArray<|List.range vs.length).toList[i]?=some i:=by simp[hi]
  rw[e,Ah hi];show some (vs.getD i Value.none)=_;rw[yo<|Ah hi]
 ·have e:(List.toArray<|List.range vs.length).toList[i]?=none:=by simp;omega
  rw[e,Bx<|by omega]
  rfl
structure Rising(h:EZ)(vs:Dv)(kss:List Du):Prop where
 len:vs.length=kss.length
 num:∀(i:Nat)(v:ET)(ns:Du),vs[i]?=some v->kss[i]?=some ns->NumT h v ns
 ne:∀ns∈kss,ns≠[]
 up:∀(i:Nat)(x y:Du),kss[i]?=some x->kss[i+1]?=some y->y.length=x.length/\iD y x=false
def Rising.keeps{h h':EZ}{vs:Dv}{kss:EQ Du}(r:Rising h vs kss)(k:∀v∈vs,∀ns,NumT h v ns->NumT h' v ns):Rising h' vs kss :=
 ⟨r.len,λi v ns a b=>k v (AD a) ns<|r.num i v ns a b,r.ne,r.up⟩
def Rising.head{h:EZ}{vs:Dv}{kss:EQ Du}(r:Rising h vs kss):∀v∈vs,∃n ns,NumT h v (n::ns):=λv hv=>by
 obtain⟨i,hi,e⟩:=List.mem_iff_getElem.mp hv;have hk:i<kss.length:=by rw[<- r.len];exact hi
 have q:=r.num i v kss[i] (by rw[Ah hi,e])<|Ah hk
 have n0:=r.ne kss[i]<|BH hk;cases e2:kss[i]with
 |nil=>exact absurd e2 n0
 |cons n ns=>exact⟨n,ns,e2 ▸ q⟩
def Zg1{a:EV}{vs:Dv}{n:Nat}{P:PySem.Fin->EU->Prop}(ho:s.heap.get? a=some (seqObj "list" vs.toArray n)){kss:EQ Du}(hr:Rising s.heap vs kss)(h64:vs.length<64)
  (h:P (.done<|.ret .none) {s with heap:=sortedHeap s.heap a vs vs.toArray}):wpAny (model prog w) A (Builtin.«list.sort» ⟨[.ref a],[]⟩) P E s:=by
 have ha:a<s.heap.objs.size:=An ho;have Fg:vs.toArray.size=vs.length:=Am ..;obtain⟨e1,ho1⟩:∃e1,(s.heap.update a<|Obj.mapSeq λ_=>#[]).get? a=some (seqObj "list" #[] e1):=⟨_,get?_update_seq ho λ_=>#[]⟩
 let h3:EZ:=((s.heap.update a<|Obj.mapSeq λ_=>#[]).push<|seqObj "tuple" vs.toArray 0).push<|seqObj "list" #[] 0
 have kp:∀b o,(s.heap.update a<|Obj.mapSeq λ_=>#[]).get? b=some o->h3.get? b=some o:=λb o q=>Aa _<|Aa _ q;have ho3:h3.get? a=some (seqObj "list" #[] e1):=kp _ _ ho1;have hr3:Rising h3 vs kss:=hr.keeps λv hv ns t=>by
  obtain⟨b,o,us,k,e,t1,t2,t3,t4⟩:=t;have hb:b≠a:=λe=>by rw[e,ho]at t1;cases t1;have t2:Value.type "list"=Value.type "tuple":=t2;exact absurd t2<|by decide
  exact⟨b,o,us,k,e,kp _ _<|(AW _ _<|Ne.symm hb).trans t1,t2,t3,t4⟩
 rw[list_sort_plain];apply wp;apply listItems_at ho rfl;apply wp;refine listUpdate_at ho rfl ?_ (by rw[Fg,DV];omega) (A0 _)
 apply wp;apply seqEpoch_at ho1 rfl;apply wp;refine wpAny_newTuple ?_<|by show vs.length<=_;rw[DV];omega
 apply wp;refine wpAny_newList ?_<|A0 _;apply DK;show wpAny (model prog w) A _ P E {s with heap:=h3};dsimp only;have tail:∀st:SortSt,(arrOf st).map (·.2)=vs.toArray->failedOf st=none->wpAny (model prog w) A (do
   let touched:=(<- seqEpoch a) != e1
   Builtin.List.listUpdate (.ref a) λ_=>(arrOf st).map (·.2)
   if let some e:=failedOf st then rule "list.sort.comparison-raised";throw e
   if touched then rule "list.sort.modified";raiseError "ValueError" "list modified during sort"
   ret .none) P E {s with heap:=h3}:=λst q1 q2=>by
  apply wp;apply seqEpoch_at ho3 rfl;rw[q1];apply wp;refine listUpdate_at ho3 rfl ?_ (A0 _) (by rw[Fg,DV];omega)
  rw[q2];simp only[bne_self_eq_false,Bz,D6];exact DB h
 by_cases h2:vs.toArray.size<2
 ·rw[DD h2,DD h2];apply wp;apply DB;rw[StateT.run_pure];apply wp;apply DB;refine tail (SortSt.mk' general' (vs.toArray.zip vs.toArray) #[] 7 none) ?_ rfl;show(vs.toArray.zip vs.toArray).map (·.2)=_;rw[Array.map_snd_zip<|Ag _]
 ·rw[DF h2,DF h2];have h2':2<=vs.length:=by omega
  obtain⟨fs,f1,f2,f3⟩:=ZdP hr3.head;apply wp;refine PySem.W.kat_kind (s:={s with heap:=h3}) (T:=.type "int") f1 (by omega) (λv hv=>?_) (by decide) ?_
  ·obtain⟨k,t,rfl⟩:=f3 v hv;exact PySem.W.Looks.of_pure rfl
  apply wp;refine DJ (PySem.W.kat_run (s:={s with heap:=h3}) (Q:=λst s'=>s'={s with heap:=h3}/\(arrOf st).map (·.2)=vs.toArray/\failedOf st=none) (G:=λp s'=>p=List.toArray (List.range vs.length)/\s'={s with heap:=h3}) rfl h2' h64
   (λp st s' a1 a2 a3 a4=>?_) ?_) ?_ λ_ _ e=>e
  ·obtain⟨rfl,rfl⟩:=a4;exact⟨rfl,(PySem.W.kat_snds rfl a2).trans<|DI List.toArray<|Zh4 vs,a3⟩
  ·refine Zg2 h2' (λi C hi q=>?_) ⟨rfl,rfl⟩;have b1:i<kss.length:=by rw[<- hr.len];omega
   have b2:i+1<kss.length:=by rw[<- hr.len];omega
   have c1:vs[i]?=some vs[i]:=Ah<|by omega
   have c2:vs[i+1]?=some vs[i+1]:=Ah<|by omega
   obtain⟨u1,u2⟩:=hr3.up i _ _ (Ah b1)<|Ah b2;show wpAny _ _ (keyLt' _ (vs.getD (i+1) Value.none)<|vs.getD i Value.none) C _ _;rw[yo c1,yo c2];exact ZjH (hr3.num _ _ _ c2<|Ah b2) (hr3.num _ _ _ c1<|Ah b1) u1<|by rw[u2];exact q
  ·rintro⟨⟨⟩,st⟩ s' ⟨rfl,q1,q2⟩;exact tail st q1 q2
end
def ff:EQ Du->Bool
 |x::y::r=>!x.isEmpty&&(y.length==x.length) && !iD y x&&ff (y::r)
 | [x]=>!x.isEmpty
 | []=>true
theorem ZbK:∀{l:EQ Du},ff l=true->∀x∈l,x≠[]
 | [],_,x,hx=>by cases hx
 | [a],h,x,hx=>by rw[Bv.mp hx];intro e;rw[e]at h;cases h
 | a::b::r,h,x,hx=>by
  unfold ff at h;obtain⟨h1,h2⟩:=Bk.mp h;rcases Au.mp hx with rfl|hx
  ·intro e;rw[e]at h1;cases h1
  ·exact ZbK h2 x hx
theorem ZbI:∀{l:EQ Du},ff l=true->∀(i:Nat)(x y:Du),l[i]?=some x->l[i+1]?=some y->y.length=x.length/\iD y x=false
 | [],_,i,x,y,h,_=>by cases h
 | [a],_,i,x,y,_,h=>by rw[AH]at h;cases h
 | a::b::r,h,i,x,y,h1,h2=>by
  unfold ff at h;obtain⟨h3,h4⟩:=Bk.mp h;cases i with
  | zero =>
   cases h1;cases h2;obtain⟨h5,h6⟩:=Bk.mp h3;obtain⟨_,h7⟩:=Bk.mp h5;exact⟨beq_iff_eq.mp h7,by simpa using h6⟩
  | succ i =>
   rw[AH]at h1 h2;exact ZbI h4 i x y h1 h2
def Zjj{P:EW}{w:EX}{h:EZ}(ok:HOk P w H h){b:EV}{ns:Du}(e:H b=some (.tup<|ns.map V.int)):NumT h (.ref b) ns:=by obtain⟨_,E5,r,o,h1,h2,n,h3⟩:=ok b _ e;exact⟨b,o,E5.toArray,n,rfl,h1,h2,h3,by simpa using q9 r⟩
def ZbW:EQ V->Hp->VK->Prop:=λxs H Q=>∃p o l,xs=[.ref p]/\H p=some (.frz o<|.dT<|List.map cu l)/\ff (l.map (·.1))=true/\l.length<64 /\
  ∀(q:EV)(bs:EQ EV),H q=none->bs.length=l.length->(∀(i:Nat)(b:EV)(k:Du×V),bs[i]?=some b->l[i]?=some k->H b=some (.tup<|k.1.map V.int))->Q (.ref q) (upd H q<|.lst<|bs.map V.ref)
theorem Zat:∀bs:EQ EV,Vals (bs.map V.ref) (bs.map Value.ref)
 | []=>.nil
 |_::bs=>.cons rfl (Zat bs)
def ZmN(hc:X.calm=true):dH X (.builtin "sorted") ZbW:=by
 intro pins s σ H xs us Q I r h;obtain⟨p,o,l,rfl,hp,hk,h64,q⟩:=h;obtain⟨u,rfl,ru⟩:=dW r;cases ru;obtain⟨xs,es,ep,rk,ho,hd,rw',lo,he,_⟩:=uJ I hp;have hs:es.size=l.length:=(ZdX rk he).trans<|v9 ..;have xl:xs.length=l.length:=rk.length.symm.trans<|v9 ..;have hh:=I.ok.hd hc;refine Calls.call_function_entry kind_sorted plain_sorted entry_sorted (args_sorted1 _) ?_;unfold Builtin.«sorted»;refine wp (m:=checkCount "sorted" 1 1 _)<|DB<|wp<|gather (A:=X.A.in1) (ZgZ lo) (by simp[hh]) rw' (by rw[hs,DV];omega) λh1 tk acc kp Fg it=>?_
 let bs:EQ EV:=xs.map (·.2.1)
 have bl:bs.length=l.length:=by rw[v9];exact xl
 have Fk:acc.toList=bs.map Value.ref:=by
  apply Co;intro i;rw[Ak,Ak,Array.getElem?_toList];by_cases hi:i<es.size
  ·have hb:i<acc.size:=by rw[it.1];exact hi
   have h1:acc[i]?=some acc[i]:=Array.getElem?_eq_getElem hb;obtain⟨y,y1,y2⟩:=it.2 i _ h1;have hbx:i<xs.length:=by rw[xl,<- hs];exact hi
   have hx:xs[i]?=some xs[i]:=Ah hbx;rw[h1,hx,y2,ZdZ he hx y1]
   rfl
  ·have h1:acc[i]?=none:=Array.getElem?_eq_none (by rw[it.1];omega)
   have hx:xs[i]?=none:=Bx<|by rw[xl,<- hs];omega
   rw[h1,hx]
   rfl
 have hH:∀(i:Nat)(b:EV)(k:Du×V),bs[i]?=some b->l[i]?=some k->H b=some (.tup<|k.1.map V.int):=λi b k h1 h2=>by
  rw[Ak]at h1;obtain⟨x,hx,rfl⟩:=AN.mp h1;obtain⟨x',hx',e⟩:=rk.at i (cu k)<|by rw[Ak,h2];rfl
  rw[hx]at hx';cases hx';have e:H x.2.1=some (.tup<|(k.1.map (Sum.inl:Int->aH)).map kV):=e;rw[ye]at e;exact e
 have hr:Rising (h1.push<|seqObj "list" acc.toList.toArray 0) acc.toList (l.map (·.1)):=by
  refine⟨by rw[Fk,v9,bl,v9],λi v ns a b=>?_,ZbK hk,ZbI hk⟩
  rw[Fk,Ak]at a;obtain⟨c,hc',rfl⟩:=AN.mp a;rw[Ak]at b;obtain⟨k,FC,rfl⟩:=AN.mp b;exact(Zjj I.hok<|hH i c k hc' FC).keeps λb o z=>Aa _<|kp b o z
 have al:acc.toList.length=l.length:=by rw[Fk,v9,bl]
 refine wp<|wpAny_newList ?_<|by rw[al,DV];omega
 have g1:(h1.push<|seqObj "list" acc.toList.toArray 0).get? h1.objs.size=some (seqObj "list" acc.toList.toArray 0):=Ai _ rfl;refine wp<|DK<|DL slot_list_sort ⟨_,g1,rfl⟩ entry_list_sort (Zg1 (s:={s with heap:=h1.push<|seqObj "list" acc.toList.toArray 0,toks:=tk}) g1 hr (by rw[al];exact h64) ⟨_,rfl,?_⟩)<|args_list_sort _
 obtain⟨e,he'⟩:=sortedHeap_at (out:=acc.toList.toArray) g1;refine DB ⟨_,rfl,.ref h1.objs.size,_,I.laid (a:=h1.objs.size) (o:=.lst<|bs.map V.ref) (t':=tk) (λb o z=>?_) Fg ⟨by rw[v9,bl,DV];omega,bs.map Value.ref,e,Zat bs,by rw[<- Fk];exact he'⟩,rfl,q _ bs (I.hok.fresh Fg) bl hH⟩
 have hb:=An<|kp b o z;rw[sortedHeap_old (Aw hb)<|by rw[A1];exact Cn hb]
 exact Aa _<|kp b o z
section
variable{PK:Pk}{e:E1}
def Zfv(PK:Pk)(r:EQ V->Hp->VK->Prop)(f:EQ ES->ER Dt):Prop:=∀(pa:EV)(m:Nat)(G H:Hp)(vs:Dx)(ds:Dt)(d:Dt)(Q:VK),Wd PK pa m G H->DnAll G vs ds->f ds=some d->Ko1 PK pa m G H d Q->r vs H Q
def ZnN{t:TA}{r:EQ V->Hp->VK->Prop}{f:EQ ES->ER Dt}(h:PE X e (gE r<|TAd PK is))(hv:Zfv PK r f):PE X e (dR PK<|zu f is):=h.imp λσ H Q E4=>by obtain⟨pa,DA,H₀,m,ρ,G,R,z⟩:=E4;refine TAd.then R z λm1 xs vs G1 H1 s1 w1 R1 d1 q1=>?_;obtain⟨d,hd,k⟩:=Tr.ok_of q1;exact hv _ _ _ _ _ _ _ _ w1 d1 hd<|Ko1.later k s1 w1.some
def j4:EQ ES->ER Dt
 | [.dict (p::kvs)]=>(fq (p::kvs)).bind λks=>if (decide (ks.length<64)&&ff ks)=true then some (ks.map λk=>PyData.tuple<|k.map PyData.int)else none
 |_=>none
def ZgY{x:ES}{d:Dt}(h:j4 [x]=some d):uA x=some d/\∀l:EQ (Du×V),d=(l.map λk=>PyData.tuple<|k.1.map PyData.int)->l.length<64/\ff (l.map (·.1))=true:=by
 have inj:∀{a b:EQ Du},(a.map λk=>PyData.tuple<|k.map PyData.int)=(b.map λk=>PyData.tuple<|k.map PyData.int)->a=b:=by
  intro a
  induction a with
  | nil=>intro b e;cases b with
   |nil=>rfl
   |cons _ _=>cases e
  | cons x a ih=>intro b e;cases b with
   |nil=>cases e
   | cons y b =>
    rw[Af,Af]at e;injection e with e1 e2;injection e1 with e1;rw[ih e2];have:ints? (x.map PyData.int)=ints? (y.map PyData.int):=by rw[e1]
    rw[ints?_map,ints?_map]at this;rw[AA this]
 cases x with
 | dict kvs =>
  cases kvs with
  |nil=>cases h
  | cons p kvs =>
   have h:((fq (p::kvs)).bind λks=>if (decide (ks.length<64)&&ff ks)=true then some (ks.map λk=>PyData.tuple<|k.map PyData.int)else none)=some d:=h
   obtain⟨ks,hk,h2⟩:=Dd.mp h
   split at h2
   ·rename_i hc;cases h2;obtain⟨c1,c2⟩:=Bk.mp hc;refine⟨show(fq (p::kvs)).map _=_ by rw[hk];rfl,λl e=>?_⟩
    have e':ks=l.map (·.1):=inj (e.trans (Av (f:=λk:Du×V=>k.1) (g:=λk:Du=>PyData.tuple<|k.map PyData.int) (l:=l)).symm);have hl:ks.length=l.length:=by rw[e',v9]
    exact⟨by rw[<- hl];exact DC c1,by rw[<- e'];exact c2⟩
   ·cases h2
 |_=>cases h
theorem Wd.takes{pa:EV}{m:Nat}(nt:jR PK){H:Hp}:∀{bs:EQ EV}{l:EQ (Du×V)}{G:Hp},Wd PK pa m G H->bs.length=l.length->(∀(i:Nat)(b:EV)(k:Du×V),bs[i]?=Option.some b->l[i]?=Option.some k->H b=Option.some (.tup<|k.1.map V.int)) ->
  ∃G',Stp pa G H G' H/\Wd PK pa m G' H/\DnAll G' (bs.map V.ref) (l.map λk=>PyData.tuple<|k.1.map PyData.int)
 | [],[],G,w,_,_=>⟨G,.refl,w,.nil⟩
 | [],_::_,_,_,h,_=>by cases h
 |_::_,[],_,_,h,_=>by cases h
 |b::bs,k::l,G,w,h,hb=>by obtain⟨G1,s1,w1,d1⟩:=w.take nt<|hb 0 b k rfl rfl;obtain⟨G2,s2,w2,d2⟩:=Wd.takes nt (bs:=bs) (l:=l) w1 (Cz h) λi b k e1 e2=>hb (i+1) b k e1 e2;exact⟨G2,s1.trans s2 w1.some,w2,.cons (d1.mono s2.gs) d2⟩
def Zf5(nt:jR PK):Zfv PK ZbW j4:=λpa m G H vs ds d Q w hv hd k=>by
 cases hv with
 |nil=>cases hd
 | cons h1 h2 =>
  cases h2 with
  | cons _ _ =>
   unfold j4 at hd
   split at hd
   ·rename_i e;cases e
   ·cases hd
  | nil =>
   obtain⟨h3,h4⟩:=ZgY hd;obtain⟨a,o,l,rfl,hG,rfl⟩:=h1.keys h3;obtain⟨c1,c2⟩:=h4 l rfl;refine⟨a,o,l,rfl,w.sub _ _ hG,c2,c1,λq bs hq hl hb=>?_⟩;obtain⟨G1,s1,w1,d1⟩:=Wd.takes nt w hl hb;obtain⟨w2,s2⟩:=w1.own (o:=.lst<|bs.map V.ref) hq;exact k q _ _ _ (s1.trans s2 w1.some) w2 hq (w1.gnone hq) bv d1
end
section
variable{prog:EW}{w:EX}{A:EY}{R:Result->EU->Prop}[DecidableEq K]{knd:KeyKind prog w K}{kf:Nat->K}
end
section
variable{prog:EW}{w:EX}{A:EY}{E:Ds}{s:EU}[DecidableEq K]{knd:KeyKind prog w K}{kf:Nat->K}
end
section
variable{prog:EW}{w:EX}{A:EY}{R:Result->EU->Prop}
abbrev TK:=EQ aH×EV×ET
def PrT(P:EW)(w:EX)(h:EZ)(d it:EV)(items:Array ET)(xs:EQ TK):Prop :=
 items.size=xs.length/\∀(i:Nat)(x:TK),xs[i]?=some x->(∃(p:EV)(o:Obj)(n:Nat),items[i]?=some (.ref p)/\p≠d/\p≠it/\h.get? p=some o/\o.cls=.type "tuple"/\o.data=.seq #[.ref x.2.1,x.2.2] n) /\
  x.2.1≠d/\x.2.1≠it/\(tupleKind<|bH P w).is h x.1 x.2.1
def yc{P:EW}{w:EX}{h h':EZ}{k:EQ aH}{a:EV}(t:(tupleKind<|bH P w).is h k a)(e:∀o,h.get? a=some o->h'.get? a=some o):(tupleKind<|bH P w).is h' k a :=
 let ⟨o,us,n,h1,r⟩:=t;⟨o,us,n,e o h1,r⟩
def PrT.keeps{h h':EZ}{d it:EV}{items:Array ET}{xs:EQ TK}(x:PrT prog w h d it items xs)(k:∀b o,b≠d->b≠it->h.get? b=some o->h'.get? b=some o):PrT prog w h' d it items xs :=
 ⟨x.1,λi v hv=>let ⟨⟨p,o,n,a1,a2,a3,a4,a5⟩,b1,b2,b3⟩:=x.2 i v hv;⟨⟨p,o,n,a1,a2,a3,k _ _ a2 a3 a4,a5⟩,b1,b2,yc b3 λo q=>k _ _ b1 b2 q⟩⟩
noncomputable def fu(xs:EQ TK):EQ TK:=xs.foldl (λys x=>storedH ys x.1 x.2.1 x.2.2) []
def ZdM(xs:EQ TK)(x:TK):fu (xs++[x])=storedH (fu xs) x.1 x.2.1 x.2.2:=by
 unfold fu;rw[CQ]
 rfl
def ZdN:∀xs:EQ TK,(fu xs).length<=xs.length:=by
 have g:∀(xs ys:EQ TK),(xs.foldl (λys x=>storedH ys x.1 x.2.1 x.2.2) ys).length<=ys.length+xs.length:=by
  intro xs
  induction xs with
  |nil=>intro ys;exact Ag _
  | cons x xs ih =>
   intro ys;refine Ap (ih<|storedH ys x.1 x.2.1 x.2.2) ?_;have:(storedH ys x.1 x.2.1 x.2.2).length<=ys.length+1:=by
    unfold storedH
    split
    ·rw[v9];omega
    ·rw[Aq];exact Ag _
   rw[Ac];omega
 intro xs;have:=g xs [];rw[AK,Nat.zero_add]at this;exact this
def DhAt(P:EW)(w:EX)(h:EZ)(d it:EV)(ys:EQ TK):Prop:=h.DictOfH (tupleKind<|bH P w) d ys/\∀y∈ys,y.2.1≠d/\y.2.1≠it
def DhAt.keeps{h h':EZ}{d it:EV}{ys:EQ TK}(x:DhAt prog w h d it ys)(k:∀b o,b≠it->h.get? b=some o->h'.get? b=some o)(hd:d≠it):DhAt prog w h' d it ys:=by obtain⟨⟨o,es,ep,h1,h2,h3,h4,h5,h6⟩,q⟩:=x;exact⟨⟨o,es,ep,k _ _ hd h1,h2,h3,h4,λy hy=>yc (h5 y hy) λo z=>k _ _ (q y hy).2 z,h6⟩,q⟩
def ZlE(hu:A.units+1<cLine)(hh:A.handled=none){it l d:EV}(items:Array ET)(xs:EQ TK)(hli:l≠it)(hdi:d≠it)(hdl:d≠l)(Fg:items.size<=sizeLine) :
  ∀(k i:Nat)(s:EU),items.size-i=k->i<=items.size->s.heap.IsListIter it l i->s.heap.IsList l items->PrT prog w s.heap d it items xs->DhAt prog w s.heap d it (fu<|xs.take i) ->
   (∀h' tk,DhAt prog w h' d it (fu xs)->(∀b o,b≠d->b≠it->s.heap.get? b=some o->h'.get? b=some o)->R (.ok<|.ret .none) {s with heap:=h',toks:=tk}) ->
   codeAny (model prog w) A (.builtin "dict.update.loop" ⟨[.ref d,.ref it,rawInt i,.none],[]⟩) R s:=by
 intro k
 induction k with
 | zero =>
  intro i s hk hi h1 h2 hP hD hR;have hin:i=items.size:=by omega
  subst hin;refine DS F.dk_entry_loop ?_;rw[AX F.dk_plain_loop _];show wpAny _ A.in1 (pyNext (.ref it) >>= _) _ _ s;refine wp<|Ex (A:=A.in1) hh h1 h2 (by simp) λh' eb=>?_
  show wpAny _ A.in1 (Builtin.Dict.addKeywords d [] >>= _) _ _ _;refine wp<|DB ?_;refine DB (hR h' s.toks ?_ λb o _ hb q=>eb b o hb q);rw[hP.1,Ct]at hD;exact hD.keeps (λb o hb q=>eb b o hb q) hdi
 | succ k ih =>
  intro i s hk hi h1 h2 hP hD hR;have E6:i<items.size:=by omega
  have hlv:i<xs.length:=by rw[<- hP.1];exact E6
  obtain⟨⟨p,o,n,a1,a2,a3,a4,a5,a6⟩,b1,b2,b3⟩:=hP.2 i xs[i]<|Ah hlv;refine DS F.dk_entry_loop ?_;rw[AX F.dk_plain_loop _];show wpAny _ A.in1 (pyNext (.ref it) >>= _) _ _ s;refine wp (Eu h1 h2 a1 λh' hit' sb=>?_);have hx':xs.take (i+1)=xs.take i++[xs[i]]:=by rw[CO,Ah hlv];rfl
  have hD':DhAt prog w h' d it (fu<|xs.take i):=hD.keeps (λb o hb q=>sb.extBut b o hb q) hdi;have hT:h'.get? p=some o:=sb.extBut _ _ a3 a4;have hlen:(fu<|xs.take i).length<=i:=Ap (ZdN _)<|by rw[Cu];omega
  show wpAny _ A.in1 (holding [Value.ref p] _ >>= _) _ _ _;refine wp<|DK<|wp ?_;refine En ?_;unfold Builtin.Dict.pairItems;refine wp<|El (T:="tuple") ⟨_,hT,a5⟩ ?_;show wpAny _ _ (seqItems? (.ref p) >>= _) _ _ _;refine wp<|DP hT a6<|DB ?_;show wpAny _ _ (holding [.ref xs[i].2.1,xs[i].2.2]<|dictSet d (.ref xs[i].2.1) xs[i].2.2) _ _ _;refine DK<|wpAny_dictSet_heap (knd:=tupleKind<|bH prog w) (k:=xs[i].1) (tupleKind_room_in1 hu) (yc b3 λo q=>sb.extBut _ _ b2 q) hD'.1 (λh2' hD2 FA=>?_)<|by omega
  have ei:rawInt ((i:Int)+1)=rawInt ((i+1:Nat):Int):=rfl;refine DB ⟨DW F.dk_plain_loop _,?_⟩;have kp:∀b o,b≠d->h'.get? b=some o->h2'.get? b=some o:=λb o hb q=>FA.extBut b o hb q;have kq:∀b o,b≠d->b≠it->s.heap.get? b=some o->h2'.get? b=some o:=λb o b1 b2 q=>kp b o b1<|sb.extBut _ _ b2 q;rw[ei];refine ih (i+1) _ (by omega) E6 ?_ ?_ (hP.keeps kq) ⟨by rw[hx',ZdM];exact hD2,λy hy=>?_⟩ λh3 tk3 hD3 k3=>?_
  ·obtain⟨o',g1,g2⟩:=hit';exact⟨o',kp _ _ (Ne.symm hdi) g1,g2⟩
  ·obtain⟨o',g1,g2⟩:=h2;exact⟨o',kq _ _ (Ne.symm hdl) hli g1,g2⟩
  ·rw[hx',ZdM]at hy;rcases ZaV (KA:=λc=>c≠d/\c≠it) hD'.2 y hy with z|z
   ·exact z
   ·rw[z];exact⟨b1,b2⟩
  ·exact hR h3 tk3 hD3 λb o b1 b2 q=>k3 b o b1 b2<|kq b o b1 b2 q
end
section
variable{prog:EW}{w:EX}{A:EY}{E:Ds}{s:EU}
def ZmU(hu:A.units+4<cLine)(hh:A.handled=none){l:EV}{items:Array ET}{xs:EQ TK}{o:Obj}{n:Nat}{Q:Ds}(Fg:items.size<=sizeLine)
  (hl:s.heap.get? l=some o) (hc:o.cls=.type "list") (hd:o.data=.seq items n) (hn:o.dict=none) (hv:items.size=xs.length)
  (hP:∀(i:Nat)(x:TK),xs[i]?=some x->(∃(p:EV)(o:Obj)(n:Nat),items[i]?=some (.ref p)/\s.heap.get? p=some o/\o.cls=.type "tuple"/\o.data=.seq #[.ref x.2.1,x.2.2] n)/\(tupleKind<|bH prog w).is s.heap x.1 x.2.1)
  (h:∀h' tk,h'.DictOfH (tupleKind<|bH prog w) s.heap.objs.size (fu xs)->(∀b o,s.heap.get? b=some o->h'.get? b=some o)->Q (.ref s.heap.objs.size) {s with heap:=h',toks:=tk}) :
  wpAny (model prog w) A (call (.type "dict") [.ref l]) Q E s:=by
 refine callType_codes (Q₁:=λobj s₁=>obj=.ref s.heap.objs.size/\s₁={s with heap:=s.heap.push {cls:=.type "dict",data:=.dict #[]} }) F.kt_called_dict (F.kt_typeCall_dict_1 _) F.entry_dict_init (kt_code_dict_new _ ⟨rfl,rfl⟩) ?_;rintro obj s₁ ⟨rfl,rfl⟩;have hnew:(s.heap.push {cls:=.type "dict",data:=.dict #[]}).DictOfH (tupleKind<|bH prog w) s.heap.objs.size []:=Heap.DictOfH.new s.heap;have kp:∀b o,s.heap.get? b=some o->(s.heap.push {cls:=.type "dict",data:=.dict #[]}).get? b=some o:=λb o q=>Aa _ q;have FE:(s.heap.push {cls:=.type "dict",data:=.dict #[]}).get? l=some o:=kp _ _ hl;have lt:∀{c:EV}{o:Obj},s.heap.get? c=some o->s.heap.objs.size≠c:=λq=>AZ<|An q;have hdl:=lt hl;generalize hG:s.heap.push {cls:=.type "dict",data:=.dict #[]}=G at *;refine⟨hnew.typeIs,F.args_dict_init_2 _ _,?_⟩;unfold Builtin.«dict.__init__»;refine wp ?_;unfold Builtin.Dict.selfAndRest;refine wp<|wpAny_notOrdered_dict hnew.typeIs ?_;show wpAny _ _ (pure (s.heap.objs.size,[Value.ref l])) _ _ _;refine DB ?_;show wpAny _ _ (Builtin.Dict.updateFrom "dict.__init__" s.heap.objs.size (.ref l) [] .none) _ _ _;unfold Builtin.Dict.updateFrom;refine wp<|El (T:="list") ⟨_,FE,hc⟩ ?_;rw[DD<|by decide]
 refine wp ?_;refine dk_list_miss FE hc hd hn (by exact hh) λh3 tk3 k3=>?_
 rw[DD<|by rfl]
 refine wp<|D9 ?_;have hl3:h3.get? l=some o:=k3 _ _ FE;refine wp<|Ea (s:={s with heap:=h3,toks:=tk3}) (items:=items) ⟨o,hl3,hc,n,hd⟩ ?_;refine DB ⟨DW F.dk_plain_loop _,?_⟩;have l3:∀{c:EV}{o:Obj},h3.get? c=some o->c≠h3.objs.size:=λq=>Aw<|An q;have hnew3:h3.DictOfH (tupleKind<|bH prog w) s.heap.objs.size []:=by obtain⟨o',es,ep,g1,g2,g3,g4,_,g6⟩:=hnew;exact⟨o',es,ep,k3 _ _ g1,g2,g3,g4,nofun,g6⟩
 have hd3:s.heap.objs.size≠h3.objs.size:=by obtain⟨o',_,_,g1,_⟩:=hnew3;exact l3 g1
 have kn:∀b o,h3.get? b=some o->(h3.push {cls:=.type "list_iterator",data:=.fields #[.ref l,.int 0 0]}).get? b=some o:=λb o q=>Aa _ q;have hD0:DhAt prog w (h3.push {cls:=.type "list_iterator",data:=.fields #[.ref l,.int 0 0]}) s.heap.objs.size h3.objs.size []:=by obtain⟨o',es,ep,g1,g2,g3,g4,_,g6⟩:=hnew3;exact⟨⟨o',es,ep,kn _ _ g1,g2,g3,g4,nofun,g6⟩,nofun⟩
 refine ZlE (A:=A.in1) (by show A.units+1+1<cLine;omega) hh (it:=h3.objs.size) (l:=l) items xs (l3 hl3) hd3 hdl Fg items.size 0 _ (by omega) (A0 _) ⟨_,Ai _ rfl,rfl,rfl⟩ ⟨o,kn _ _ hl3,hc,n,hd⟩ ⟨hv,λi x q=>?_⟩ hD0 λh4 tk4 hD4 k4=>?_
 ·obtain⟨⟨p,o',n',b1,b2,b3,b4⟩,b5⟩:=hP i x q;obtain⟨o2,us,n2,c1,c2⟩:=b5;exact⟨⟨p,o',n',b1,(lt b2).symm,l3<|k3 _ _<|kp _ _ b2,kn _ _<|k3 _ _<|kp _ _ b2,b3,b4⟩,(lt c1).symm,l3<|k3 _ _<|kp _ _ c1,⟨o2,us,n2,kn _ _<|k3 _ _<|kp _ _ c1,c2⟩⟩
 ·exact⟨rfl,h h4 tk4 hD4.1 λb o q=>k4 b o (lt q).symm (l3<|k3 _ _<|kp _ _ q)<|kn _ _<|k3 _ _<|kp _ _ q⟩
end
inductive PtV(H:Hp):List V->List (Du×V)->Prop
 |nil:PtV H [] []
 |cons {p b:EV} {k:Du} {v:V} {ps:Dx} {kvs:List (Du×V)}:H p=some (.tup [.ref b,v])->H b=some (.tup<|k.map V.int)->PtV H ps kvs->PtV H (.ref p::ps) ((k,v)::kvs)
def PtV.sub(s:Sub G H){ps:Dx}{kvs:EQ (Du×V)}(h:PtV G ps kvs):PtV H ps kvs:=by
 induction h with
 |nil=>exact .nil
 |cons h1 h2 _ ih=>exact .cons (s _ _ h1) (s _ _ h2) ih
def Zie{P:EW}{w:EX}{h:EZ}(ok:HOk P w H h){ps:Dx}{kvs:EQ (Du×V)}(hp:PtV H ps kvs):∀{E5:Dv},Vals ps E5->∃xs:EQ TK,KT H (kvs.map cu) xs/\E5.length=xs.length /\
  ∀(i:Nat)(x:TK),xs[i]?=some x->(∃(p:EV)(o:Obj)(n:Nat),E5[i]?=some (.ref p)/\h.get? p=some o/\o.cls=.type "tuple"/\o.data=.seq #[.ref x.2.1,x.2.2] n)/\(tupleKind<|bH P w).is h x.1 x.2.1:=by
 induction hp with
 |nil=>intro E5 r;cases r;exact⟨[],.nil,rfl,λi x q=>by cases q⟩
 | @cons p b k v ps kvs hp hb h2 ih =>
  intro E5 r;cases r with
  | cons r1 r2 =>
   cases r1;obtain⟨xs,g1,g2,g3⟩:=ih r2;obtain⟨_,its2,q1,o,q2,q3,n,q4⟩:=ok p _ hp;obtain⟨u1,u2,rfl,x1,x2⟩:=Vals.two q1;cases x1;have FB:H b=some (.tup<|(k.map (Sum.inl:Int->aH)).map kV):=by rw[ye];exact hb
   refine⟨(k.map Sum.inl,b,u2)::xs,.cons ⟨rfl,FB,x2⟩ g1,by rw[Ac,Ac,g2],λi x q=>?_⟩
   cases i with
   | zero =>
    cases q;exact⟨⟨p,o,n,rfl,q2,q3,by rw[q4]⟩,q5 ok FB⟩
   | succ i =>
    rw[AH]at q;obtain⟨⟨p',o',n',a1,a2,a3,a4⟩,a5⟩:=g3 i x q;exact⟨⟨p',o',n',by rw[AH];exact a1,a2,a3,a4⟩,a5⟩
def rg(kvs:EQ (Du×V)):EQ (Du×V):=kvs.foldl (λys x=>dC ys x.1 x.2) []
theorem Zdk{H:Hp}:∀{kvs:EQ (Du×V)}{xs:EQ TK}{ys:EQ (Du×V)}{zs:EQ TK},KT H (kvs.map cu) xs->KT H (ys.map cu) zs ->
  KT H ((kvs.foldl (λys x=>dC ys x.1 x.2) ys).map cu) (xs.foldl (λys x=>storedH ys x.1 x.2.1 x.2.2) zs)
 | [],xs,ys,zs,h,r=>by cases h;exact r
 | k::kvs,xs,ys,zs,h,r=>by
  rw[Af]at h;cases h with
  | @cons _ x _ xs h1 h2 =>
   obtain⟨h3,h4,h5⟩:=h1;rw[Bt,Bt];refine Zdk h2 ?_;rw[<- xr];have e:x.1=k.1.map Sum.inl:=h3.symm;rw[e];exact r.put (k.1.map Sum.inl) h4 h5
def rDT:EQ V->Hp->VK->Prop:=λxs H Q=>∃l ps kvs,xs=[.ref l]/\H l=some (.lst ps)/\PtV H ps kvs/\∀(q:EV)(o:Obj),H q=none->Q (.ref q) (upd H q<|.frz o<|.dT<|(rg kvs).map cu)
def ZmV(hu:X.A.units+64<cLine)(hc:X.calm=true):dH X (.type "dict") rDT:=by
 intro pins s σ H xs us Q I r h;obtain⟨l,ps,kvs,rfl,hl,hp,q⟩:=h;obtain⟨u,rfl,ru⟩:=dW r;cases ru;obtain⟨z,E5,n,rv,h1⟩:=I.hok _ _ hl;obtain⟨xs,g1,g2,g3⟩:=Zie I.hok hp rv;have hbig:=I.big;have hle:E5.length<=sizeLine:=by rw[<- rv.length];exact z
 refine ZmU (xs:=xs) (by omega) (I.ok.hd hc) (l:=l) (items:=E5.toArray) (by rw[Am];exact hle) h1 rfl rfl rfl (by rw[Am];exact g2) (λi x hv=>?_) λh3 tk3 hD k3=>?_
 ·obtain⟨⟨p,o,n',a1,a2,a3,a4⟩,a5⟩:=g3 i x hv;exact⟨⟨p,o,n',by rw[List.getElem?_toArray];exact a1,a2,a3,a4⟩,a5⟩
 ·have kt:KT H ((rg kvs).map cu) (fu xs):=Zdk g1 (ys:=[]) (zs:=[]) .nil;have hfr:H s.heap.objs.size=none:=I.hok.fresh<|Ag _;have kt':KT (upd H s.heap.objs.size<|.dT<|(rg kvs).map cu) ((rg kvs).map cu) (fu xs):=kt.keeps λb ys e=>by rw[aA<|cg e hfr];exact e
  have I1:Inv X pins σ (upd H s.heap.objs.size<|.dT<|(rg kvs).map cu) {s with heap:=h3,toks:=tk3}:=by
   refine I.laid (a:=s.heap.objs.size) (t':=tk3) (λc o q=>k3 c o q) (Ag _) ?_;refine⟨?_,D4.mpr<|AZ hbig,fu xs,kt',?_⟩
   ·rw[kt.length];exact Ap (ZdN xs)<|by rw[<- g2];exact hle
   ·obtain⟨o,es,ep,e1,e2,e3,e4,_,e6⟩:=hD;exact⟨o,es,ep,e1,e2,e3,e4,e6⟩
  obtain⟨o,I2⟩:=I1.knownT bv;rw[Zgb]at I2;exact⟨.ref s.heap.objs.size,_,I2,rfl,q _ o hfr⟩
def rA:EQ ES->ER ES
 | [.list ds]=>cX [] ds
 |_=>none
theorem Zet{G:Hp}:∀{ds:Dt}{ps:Dx}{ys:EQ (Du×V)}{kvs:EQ (Du×ES)}{d:ES},DnAll G ps ds->KP G ys kvs->cX kvs ds=some d ->
  ∃xs zs,PtV G ps xs/\KP G (xs.foldl (λys x=>dC ys x.1 x.2) ys) zs/\zs≠[]/\d=pD zs
 | [],_,ys,kvs,d,h,r,e=>by
  cases h;unfold cX at e
  split at e
  ·cases e
  ·rename_i hn;cases e;exact⟨[],kvs,.nil,r,λz=>hn<|by rw[z];rfl,rfl⟩
 | x::ds,_,ys,kvs,d,h,r,e=>by
  cases h with
  | cons h1 h2 =>
   unfold cX at e
   split at e
   ·rename_i e0;cases e0
   ·rename_i ks v ps e0;cases e0;obtain⟨ns,hi,e⟩:=Dd.mp e;cases h1 with
    | tup a1 a2 =>
     cases a2 with
     | cons b1 b2 =>
      cases b2 with
      | cons b3 b4 =>
       cases b4;cases b1 with
       | tup c1 c2 =>
        obtain⟨e1,_⟩:=c2.ints_inv hi;rw[e1]at c1;obtain⟨xs,zs,g1,g2,g3,g4⟩:=Zet h2 (r.put ns b3) e;exact⟨(ns,_)::xs,zs,.cons a1 c1 g1,g2,g3,g4⟩
   ·cases e
def Zf8:eZ rDT rA:=λPK pa m G H vs ds d Q w hv hd k=>by
 unfold rA at hd
 split at hd
 ·cases hv with
  | cons d1 d2 =>
   cases d2;cases d1 with
   | lst a1 a2 =>
    obtain⟨xs,zs,g1,g2,g3,rfl⟩:=Zet a2 .nil hd;exact⟨_,_,xs,rfl,w.sub _ _ a1,g1.sub w.sub,λq o hq=>k.pd g3 w g2 hq o⟩
 ·cases hd
variable{PK:Pk}{e:E1}
structure Rws(H G H':Hp)(ps:List EV)(rows:List Dt):Prop where
 len:ps.length=rows.length
 row:∀(i:Nat)(q:EV)(r:Dt),ps[i]?=some q->rows[i]?=some r->H q=none/\G q=none/\∃vs,H' q=some (.lst vs)/\DnAll G vs r
def Rws.mem{ps:EQ EV}{rows:EQ Dt}(h:Rws H G H' ps rows){q:EV}(hq:q∈ps):H q=none/\G q=none/\∃vs,H' q=some (.lst vs):=by
 obtain⟨i,hi,e⟩:=List.mem_iff_getElem.mp hq;have h2:i<rows.length:=by rw[<- h.len];exact hi
 obtain⟨a,b,vs,c,_⟩:=h.row i q rows[i] (by rw[Ah hi,e])<|Ah h2
 exact⟨a,b,vs,c⟩
def Rws.step{pa:EV}{G2 H2:Hp}{ps:EQ EV}{rows:EQ Dt}(h:Rws H G H1 ps rows)(st:Stp pa G H1 G2 H2)(hp:∃o,H pa=some o):Rws H G2 H2 ps rows:=by
 refine⟨h.len,λi q r h1 h2=>?_⟩;obtain⟨a,b,vs,c,d⟩:=h.row i q r h1 h2;have E8:q≠pa:=λe=>by obtain⟨o,z⟩:=hp;rw[<- e,a]at z;cases z
 refine⟨a,?_,vs,st.hk _ _ c E8,DnAll.mono st.gs d⟩;cases e:G2 q with
 |none=>rfl
 | some u =>
  rcases st.gn q u e with z|z|⟨_,_,z⟩
  ·rw[b]at z;cases z
  ·rw[c]at z;cases z
  ·rw[c]at z;cases z
def Stp.old{pa:EV}(st:Stp pa G H G' H')(hp:∃o,H' pa=some o){p:EV}(h:H' p=none):H p=none:=by
 cases e:H p with
 |none=>rfl
 | some u =>
  by_cases hc:p=pa
  ·subst hc;obtain⟨o,z⟩:=hp;rw[h]at z;cases z
  ·rw[st.hk p u e hc]at h;cases h
def zU(PK:Pk)(pa:EV)(m:Nat)(G H:Hp)(rows:EQ Dt)(Q:VK):Prop:=∀p ps G' H',Stp pa G H G' H'->Wd PK pa m G' H'->H p=none->G' p=none->H' p=some (.lst<|ps.map V.ref)->ps.Nodup->p∉ps->Rws H G' H' ps rows->Q (.ref p) H'
def zI(PK:Pk)(i:EQ Sl->Tr (EQ Dt)):TE:=λσ H Q=>∃pa DA H₀ m ρ G,Rl PK pa DA H₀ m σ ρ G H/\(i ρ).ok m λm' xs=>zU PK pa m' G H xs Q
noncomputable def iA(h:ES->Tr Dt):EQ ES->Tr (EQ Dt)
 | []=>.ret []
 |x::xs=>(h x).bind λy=>(iA h xs).bind λys=>.ret (y::ys)
def rR(is:Dj)(n:Nat)(ix:EQ Nat)(g:Dp)(el:Dj):EQ Sl->Tr (EQ Dt):=λρ =>
 (is ρ).bind λxs=>if small xs.length=true then iA (λx=>(Tr.of<|g x<|blk n ix ρ).bind el) xs else .fail
variable{i:Dj}
def ZjZ{n:Nat}{ix:EQ Nat}(hn:dA n g):∀σ H Q,zI PK (rR is n ix g i) σ H Q->gb (cq PK is) n ix (λ_=>b9 PK g) (λ_=>dR PK i) σ H Q:=by
 rintro σ H Q ⟨pa,DA,H₀,m,ρ,G,R,z⟩;refine⟨pa,DA,H₀,m,ρ,G,R,Tr.ok_mono (Tr.ok_bind.mp z) λm1 xs k J G1 H1 s1 w1 jo=>λB=>?_⟩;obtain⟨hs,k⟩:=c6 k;have hs:xs.length<=sizeLine:=DC hs
 let el:ES->Tr Dt:=λx=>(Tr.of<|g x<|blk n ix ρ).bind i
 let W:Nat->Nat->St->EQ V->Hp->Prop:=λk mm τ ys H2=>mm=xs.length-k/\k<=xs.length/\ys.length=k/\∃m G2 ps rows,Sub G1 G2/\Stp pa G H G2 H2/\Rl PK pa DA H₀ m τ (blk n ix ρ) G2 H2 /\
  ys=ps.map V.ref/\ps.Nodup/\Rws H G2 H2 ps rows/\(iA el<|xs.drop k).ok m λm' zs=>zU PK pa m' G H (rows++zs) Q
 refine⟨W,⟨xs.length,rfl,A0 _,rfl,m1,G1,[],[],.refl,s1,(R.step s1 w1).blk n ix,rfl,List.nodup_nil,⟨rfl,λi q r h=>by cases h⟩,k⟩,?_⟩
 rintro k mm τ ys H2 ⟨rfl,hk,hy,m2,G2,ps,rows,sb,st2,R2,rfl,nd,rw0,k2⟩;obtain⟨j1,j2⟩:=jo m2 G2 H2 sb R2.wd;by_cases E6:k<xs.length
 ·have hx:xs[k]?=some xs[k]:=by simp[E6]
  obtain⟨jg,jy⟩:=j1 k _ hx;refine .inr ⟨jg,by omega,λx H3 y=>?_⟩
  obtain⟨G3,s3,w3,d3⟩:=jy x H3 y;rw[Ax E6]at k2;unfold iA at k2;rw[Tr.ok_bind,Tr.ok_bind]at k2;obtain⟨ρ3,hg3,k3⟩:=Tr.ok_of k2;refine⟨pa,DA,H₀,m2,_,G3,_,ρ3,R2.step s3 w3,d3,hg3,λτ4 R4=>?_⟩;refine⟨pa,DA,H₀,m2,ρ3,G3,R4,Tr.ok_mono k3 λm5 yd k5=>?_⟩;intro p vs G5 H5 s5 w5 hp gp hv d5;have s35:=s3.trans s5 w3.some;have r3:=rw0.step s3 R.wd.some;have hH:H p=none:=(st2.trans s3 R2.wd.some).old w3.some hp;have hnp:p∉ps:=λhq=>by obtain⟨_,_,us,c⟩:=r3.mem hq;rw[hp]at c;cases c
  obtain⟨pl,pk⟩:=hn _ _ _ hg3;have r5:=r3.step s5 R.wd.some;refine⟨xs.length-(k+1),by omega,rfl,E6,by rw[Aq,hy];rfl,m5,G5,ps++[p],rows++[yd],sb.trans s35.gs,st2.trans s35 R2.wd.some,?_,by rw[BE];rfl,?_,⟨by rw[Aq,Aq,r5.len];rfl,λi q r h1 h2=>?_⟩,?_⟩
  ·refine(R4.step s5 w5).weak pl λq sl hq=>?_;by_cases FF:q<n
   ·left
    unfold blk at hq;rw[At<|by simpa using FF,AG,DD FF]at hq
    cases hq
    rfl
   ·right
    rw[pk q<|Ba FF];exact hq
  ·rw[List.nodup_append];exact⟨nd,by simp,λa ha b hb e=>by rw[Bv]at hb;subst hb;subst e;exact hnp ha⟩
  ·by_cases hi:i<ps.length
   ·rw[At hi]at h1;rw[At<|by rw[<- r5.len];exact hi]at h2
    exact r5.row i q r h1 h2
   ·have hi':i=ps.length:=by have:=(Ad.mp h1).1;rw[Aq]at this;have:i<ps.length+1:=this;omega
    subst hi';rw[Az<|Ag _,B3]at h1;rw[r5.len,Az<|Ag _,B3]at h2;cases h1;cases h2;exact⟨hH,gp,vs,hv,d5⟩
  ·refine Tr.ok_mono (Tr.ok_bind.mp k5) λm6 zs k6=>?_;rw[A2];exact k6
 ·have e:k=xs.length:=by omega
  subst e;refine .inl ⟨j2,λp v H' hp ev eH=>?_⟩;subst ev eH;rw[AS]at k2;have k2':zU PK pa m2 G H (rows++[]) Q:=k2;rw[AI]at k2';obtain⟨w3,s3⟩:=R2.wd.own (o:=.lst<|ps.map V.ref) hp;refine k2' p ps G2 _ (st2.trans s3 R2.wd.some) w3 (st2.old R2.wd.some hp) (R2.wd.gnone hp) bv nd (λhq=>?_)<|rw0.step s3 R.wd.some;obtain⟨_,_,us,c⟩:=rw0.mem hq;rw[hp]at c;cases c
variable{PK:Pk}{e:E1}
theorem ZcP{α:Type}:∀{l:EQ α}{i j:Nat},l.Nodup->(hi:i<l.length)->(hj:j<l.length)->l[i]=l[j]->i=j
 |_::_,0,0,_,_,_,_=>rfl
 |x::l,0,j+1,h,_,hj,e=>by have e:x=l[j]'(B2 hj):=e;exact absurd (by rw[e];exact BH _) (Bg.mp h).1
 |x::l,i+1,0,h,hi,_,e=>by have e:l[i]'(B2 hi)=x:=e;exact absurd (by rw[<- e];exact BH _) (Bg.mp h).1
 |x::l,i+1,j+1,h,hi,hj,e=>DI (·+1)<|ZcP (Bg.mp h).2 (B2 hi) (B2 hj) e
theorem Rl.rows{pa:EV}{DA H₀ G H G' H' H4:Hp}{m m1 m4:Nat}{σ:St}{ρ:Dz}{p:EV}{ps:EQ EV}{rows0 rows:EQ Dt}(R:Rl PK pa DA H₀ m σ ρ G H)(s1:Stp pa G H G' H')(w1:Wd PK pa m1 G' H')
  (hp:H p=none) (gp:G' p=none) (r0:Rws H G' H' ps rows0)
  (hk:∀b o,H' b=some o->b≠pa->b∉ps->H4 b=some o) (h4:H4 p=some (.lst<|ps.map V.ref))
  (pen:∃o,H4 pa=some o/\PK.is o G' m4) (len:ps.length=rows.length)
  (row:∀(i:Nat)(q:EV)(r:Dt),ps[i]?=some q->rows[i]?=some r->∃vs,H4 q=some (.lst vs)/\DnAll G' vs r) (k:Nat) :
  ∃Gz,Sub G' Gz/\Rl PK pa DA H₀ m4 (σ.set k<|some<|.ref p) (ρ.set k<|.d<|.list<|rows.map PyData.list) Gz H4:=by
 classical
 let Gz:Hp:=λb=>if b=p\/b∈ps then H4 b else G' b
 have yes:∀{b},(b=p\/b∈ps)->Gz b=H4 b:=λh=>DD h;have no:∀{b},¬ (b=p\/b∈ps)->Gz b=G' b:=λh=>DF h;have fresh:∀{b},(b=p\/b∈ps)->H b=none/\G' b=none:=λ{b} h=>by
  rcases h with rfl|h
  ·exact⟨hp,gp⟩
  ·exact⟨(r0.mem h).1,(r0.mem h).2.1⟩
 have hpa:¬ (pa=p\/pa∈ps):=λh=>by obtain⟨o,z⟩:=R.wd.some;rw[(fresh h).1]at z;cases z
 have sb:Sub G' Gz:=λb o h=>by
  rw[no λz=>by rw[(fresh z).2]at h;cases h]
  exact h
 have keep:∀b o,H' b=some o->b≠pa->¬ (b=p\/b∈ps)->H4 b=some o:=λb o h1 h2 h3=>hk b o h1 h2 λz=>h3<|.inr z;have wz:Wd PK pa m4 Gz H4:=by
  refine⟨λb o h=>?_,by rw[no hpa];exact w1.gpa,?_⟩
  ·by_cases hb:b=p\/b∈ps
   ·rw[yes hb]at h;exact h
   ·rw[no hb]at h;exact keep b o (w1.sub b o h) (λz=>by subst z;rw[w1.gpa]at h;cases h) hb
  ·obtain⟨o,h1,h2⟩:=pen;exact⟨o,h1,PK.mono sb h2⟩
 have st:=R.st.trans s1 R.wd.some;have stz:Stp pa DA H₀ Gz H4:=by
  refine⟨λb o h=>sb b o<|st.gs b o h,λb o h=>?_,λb o h hb=>?_⟩
  ·by_cases hq:b=p\/b∈ps
   ·exact .inr<|.inl<|R.h0 (fresh hq).1
   ·rw[no hq]at h;exact st.gn b o h
  ·refine keep b o (st.hk b o h hb) hb λz=>?_;rw[R.h0 (fresh z).1]at h;cases h
 have Rz:Rl PK pa DA H₀ m4 σ ρ Gz H4:=by
  refine⟨wz,stz,R.p0,λi s h=>?_,R.len,R.dj,R.dj2⟩;obtain⟨o,h1,h2⟩:=R.sl i s h;refine⟨o,h1,?_⟩;cases h2 with
  |un=>exact .un
  |d z=>exact .d (z.mono λb o h=>sb b o<|s1.gs b o h)
  |pen=>exact .pen
  |fn=>exact .fn
  |pr z9=>exact .pr λG' s=>z9 G' λb o z=>s b o (sb b o<|s1.gs b o z)
  | @dic q ks kvs a1 a2 a3 a4 =>
   have hq:¬ (q=p\/q∈ps):=λz=>by rw[(fresh z).1]at a1;cases a1
   have E8:q≠pa:=λe=>by obtain⟨u,hu⟩:=R.p0;rw[<- e,a3]at hu;cases hu
   refine .dic (keep q _ (s1.hk q _ a1 E8) E8 hq) ?_ a3 (a4.mono λb o h=>sb b o<|s1.gs b o h);rw[no hq];cases e:G' q with
   |none=>rfl
   | some u =>
    rcases s1.gn q u e with z|z|⟨_,_,z⟩
    ·rw[a2]at z;cases z
    ·rw[a1]at z;cases z
    ·rw[a1]at z;cases z
  | @dip q ks kvs a1 a2 a3 a4 =>
   have hq:¬ (q=p\/q∈ps):=λz=>by rw[(fresh z).1]at a1;cases a1
   have E8:q≠pa:=λe=>by obtain⟨u,hu⟩:=R.p0;rw[<- e,a3]at hu;cases hu
   refine .dip (keep q _ (s1.hk q _ a1 E8) E8 hq) ?_ a3 (a4.mono λb o h=>sb b o<|s1.gs b o h);rw[no hq];cases e:G' q with
   |none=>rfl
   | some u =>
    rcases s1.gn q u e with z|z|⟨_,_,z⟩
    ·rw[a2]at z;cases z
    ·rw[a1]at z;cases z
    ·rw[a1]at z;cases z
  | @own q vs xs a1 a2 a3 a4 =>
   have hq:¬ (q=p\/q∈ps):=λz=>by rw[(fresh z).1]at a1;cases a1
   have E8:q≠pa:=λe=>by obtain⟨u,hu⟩:=R.p0;rw[<- e,a3]at hu;cases hu
   refine .own (keep q _ (s1.hk q _ a1 E8) E8 hq) ?_ a3 (DnAll.mono (λb o h=>sb b o<|s1.gs b o h) a4);rw[no hq];cases e:G' q with
   |none=>rfl
   | some u =>
    rcases s1.gn q u e with z|z|⟨_,_,z⟩
    ·rw[a2]at z;cases z
    ·rw[a1]at z;cases z
    ·rw[a1]at z;cases z
 refine⟨Gz,sb,Rz.set (.lst (by rw[yes<|.inl rfl];exact h4) ?_) k⟩
 clear Rz stz st wz;have yes':∀{b},b∈ps->Gz b=H4 b:=λh=>yes<|.inr h
 clear_value Gz
 clear hk h4 no fresh keep r0
 induction ps generalizing rows with
 | nil =>
  cases rows with
  |nil=>exact .nil
  |cons _ _=>cases len
 | cons q qs ih =>
  cases rows with
  |nil=>cases len
  | cons r rs =>
   obtain⟨vs,e1,e2⟩:=row 0 q r rfl rfl;refine .cons (.lst (by rw[yes'<|Aj ..];exact e1)<|DnAll.mono sb e2) ?_
   exact ih (Cz len) (λi q r h1 h2=>row (i+1) q r h1 h2) (λh=>yes<|h.imp id<|Ab _) (λh=>hpa<|h.imp id<|Ab _)<|λh=>yes'<|Ab _ h
def jc(rows:EQ Dt)(a b x:ES):ER (EQ Dt):=match a,b with
 |.int a,.int b=>(b7 rows.length a).bind λn=>(rows[n]?).bind λr=>(b7 r.length b).bind λl=>if eT x=true then some (rows.set n<|r.set l x)else none
 |_,_=>none
def qE(rows:EQ Dt):Sl:=.d<|.list<|rows.map PyData.list
def zq(k:Nat)(A:EQ Sl->Tr (EQ Dt))(v i j:Di)(t:Dl):Dl:=λρ=>(A ρ).bind λrows =>
 if k<ρ.length then (v<|ρ.set k<|qE rows).bind λx=>(i<|ρ.set k<|qE rows).bind λa=>(j<|ρ.set k<|qE rows).bind λb=>(Tr.of<|jc rows a b x).bind λrows'=>t (ρ.set k<|qE rows')else .fail
variable{A:EQ Sl->Tr (EQ Dt)}{v i:Di}{t:Dl}{st3 st4:E3}{rest:EQ E3}
def ZnC(L:PkLow PK)(h3:PS X st3 (cV (zI PK A)<|da k))(h4:PS X st4 (cV (TAe PK v)<|yr (hZ (sP X.K) (fb k)<|TAe PK i) (TAe PK j) wS))
  (hr:PSs X rest (bg PK t)):PSs X (st3::st4::rest) (bg PK<|zq k A v i j t):=(dI h3<|dI h4 hr).imp λD σ H E4=>by
 obtain⟨pa,DA,H₀,m,ρ,G,R,z⟩:=E4;refine⟨pa,DA,H₀,m,ρ,G,R,Tr.ok_mono (Tr.ok_bind.mp z) λm1 rows z1=>?_⟩;intro p ps G1 H1 s1 w1 hp gp h1 nd npp r1;have hl:k<ρ.length:=by
  by_cases hl:k<ρ.length
  ·exact hl
  ·rw[DF hl]at z1;exact z1.elim
 rw[DD hl]at z1;have rowsH:∀(i:Nat)(q:EV)(r:Dt),ps[i]?=some q->rows[i]?=some r->∃vs,H1 q=some (.lst vs)/\DnAll G1 vs r:=λi q r e1 e2=>(r1.row i q r e1 e2).2.2;obtain⟨Gf,sf,Rf⟩:=R.rows s1 w1 hp gp r1 (λb o h _ _=>h) h1 w1.pen r1.len rowsH k;have hnpa:p≠pa:=λz=>by obtain⟨o,y⟩:=R.wd.some;rw[<- z,hp]at y;cases y
 show TAe PK v (σ.set k<|some<|.ref p) H1 _;have hσ:(σ.set k<|some<|V.ref p)[k]?=some (some<|.ref p):=Ay<|by rw[<- R.len];exact hl
 refine TAe.then Rf z1 λm2 x u G2 H2 s2 w2 R2 d2 z2=>?_;refine⟨.ref p,hσ,?_⟩;refine TAe.then R2 z2 λm3 a ua G3 H3 s3 w3 R3 d3 z3=>?_;have s13:=s2.trans s3 w2.some;have k3:∀b o,H1 b=some o->b≠pa->H3 b=some o:=s13.hk
 -- what is put
 have z3':=Tr.ok_bind.mp z3;have hmid:∃aI n q,a=.int aI/\b7 rows.length aI=some n/\ps[n]?=some q:=by
  have:∃(m':Nat)(b:ES)(rows':_),jc rows a b x=some rows':=by
   clear z z1 z2 z3;generalize hT:j (ρ.set k<|qE rows)=T at z3';clear hT;have key:∀(T:Tr ES)(mm:Nat)(Q:Nat->ES->Prop),T.ok mm Q->∃m' b,Q m' b:=by
    intro T
    induction T with
    |ret b=>intro mm Q h;exact⟨_,_,h⟩
    |draw n kk ih=>intro mm Q h;exact ih 0 _ _ (h.2.2.2 0 (AC _) h.2.1)
    |fail=>intro mm Q h;exact h.elim
   obtain⟨m',b,hb⟩:=key T _ _ z3';rw[Tr.ok_bind]at hb;obtain⟨rows',hr,_⟩:=Tr.ok_of hb;exact⟨m',b,rows',hr⟩
  obtain⟨_,b,rows',hr⟩:=this;unfold jc at hr
  split at hr
  ·rename_i aI bI;cases hn:b7 rows.length aI with
   |none=>rw[hn]at hr;cases hr
   | some n =>
    rw[hn]at hr;have E6:=(uy hn).2.1;exact⟨aI,n,ps[n]'(by rw[r1.len];exact E6),rfl,hn,Ah _⟩
  ·cases hr
 obtain⟨aI,n,q,rfl,hn,hq⟩:=hmid;have hqm:q∈ps:=AD hq;have hqpa:q≠pa:=λz=>by obtain⟨o,y⟩:=R.wd.some;rw[<- z,(r1.mem hqm).1]at y;cases y
 cases d3;refine⟨p,ps.map V.ref,aI,.ref q,rfl,rfl,SqL.of<|k3 _ _ h1 hnpa,?_,?_⟩
 ·unfold ba;rw[v9,r1.len,hn];show(ps.map V.ref)[n]?=_;rw[Ak,hq];rfl
 refine TAe.then R3 z3 λm4 b ub G4 H4 s4 w4 R4 d4 z4=>?_;have s14:=s13.trans s4 w3.some;rw[Tr.ok_bind]at z4;obtain⟨rows',hput,z4⟩:=Tr.ok_of z4;have E6:=(uy hn).2.1;obtain⟨_,_,vs,hvs,dvs⟩:=r1.row n q rows[n] hq<|Ah E6;unfold jc at hput;cases d4 with
 | int bI =>
  have e0:((b7 rows.length aI).bind λn=>(rows[n]?).bind λr=>(b7 r.length bI).bind λl=>if eT x=true then some (rows.set n<|r.set l x)else none)=some rows':=hput
  rw[hn]at e0;have e1:((rows[n]?).bind λr=>(b7 r.length bI).bind λl=>if eT x=true then some (rows.set n<|r.set l x)else none)=some rows':=e0
  rw[Ah E6]at e1;have e2:((b7 rows[n].length bI).bind λl=>if eT x=true then some (rows.set n<|rows[n].set l x)else none)=some rows':=e1
  cases hb:b7 rows[n].length bI with
  |none=>rw[hb]at e2;cases e2
  | some l =>
   rw[hb]at e2;have e3:(if eT x=true then some (rows.set n<|rows[n].set l x)else none)=some rows':=e2
   have hf:eT x=true:=by
    by_cases hf:eT x=true
    ·exact hf
    ·rw[DF hf]at e3;cases e3
   rw[DD hf]at e3;cases e3;have hv4:H4 q=some (.lst vs):=s14.hk q _ hvs hqpa;refine⟨q,vs,bI,l,rfl,rfl,hv4,by rw[dvs.length];exact hb,?_⟩
   obtain⟨o1,e1',p1⟩:=w1.pen;obtain⟨o4,e4',p4⟩:=w4.pen;obtain⟨Gz,sz,Rz⟩:=R.rows (H4:=upd H4 q<|.lst<|vs.set l u) (m4:=m4) (rows:=rows.set n<|rows[n].set l x) s1 w1 hp gp r1
    (λb o h hb hbp=>by rw[aA<|λz=>hbp<|by rw[z];exact hqm];exact s14.hk b o h hb)
    (by rw[aA<|λz=>npp<|by rw[z];exact hqm];exact s14.hk _ _ h1 hnpa)
    ⟨o4,by rw[aA<|Ne.symm hqpa];exact e4',L.low p1 (sf.trans s14.gs) p4⟩
    (by rw[AE];exact r1.len)
    (λi q' r h1 h2=>by
     by_cases hi:i=n
     ·subst hi;rw[hq]at h1;cases h1;rw[Ay E6]at h2;cases h2;exact⟨_,bv,dvs.set l<|Dn.flat_any d2 hf⟩
     ·rw[Ar<|Ne.symm hi]at h2;have E8:q'≠q:=λz=>by subst z;obtain⟨b1,b2⟩:=Ad.mp h1;obtain⟨c1,c2⟩:=Ad.mp hq;exact hi (ZcP nd b1 c1<|b2.trans c2.symm)
      obtain⟨us,y1,y2⟩:=rowsH i q' r h1 h2;refine⟨us,?_,y2⟩;rw[aA E8];exact s14.hk q' _ y1 λz=>by obtain⟨o,y⟩:=R.wd.some;rw[<- z,(r1.mem<|AD h1).1]at y;cases y) k
   exact⟨pa,DA,H₀,m4,_,Gz,Rz,Tr.ok_mono z4 λ_ _ k'=>Ko.later k'<|s1.gs.trans sz⟩
 |_=>cases hput
def ZnI{st:E3}{el:Dj}{n:Nat}{ix:EQ Nat}(h:PS X st (cV (gb (cq PK is) n ix (λ_=>b9 PK g)<|λ_=>dR PK el)<|da k))(hn:dA n g):PS X st (cV (zI PK<|rR is n ix g el)<|da k) :=
 h.imp λD σ H z=>ZjZ hn σ H _ z
def Zb3:R2:=λx y H Q=>∃p q xs,x=.ref p/\y=.ref q/\H p=some (.lst xs)/\H q=some (.lst [])/\Q (.bl<|!xs.isEmpty) H
def ZiY(hr:Room k X.A):OpR X (compareOp .NotEq) Zb3:=by
 intro pins s σ H x y v u Q I rx ry h;obtain⟨p,q,xs,rfl,rfl,h1,h2,z⟩:=h;cases rx;cases ry;obtain⟨E5,r,pl,hz⟩:=I.list<|SqL.of h1;obtain⟨its2,r2,pl2,hz2⟩:=I.list<|SqL.of h2;have hu:X.A.units<cLine:=by have:=hr.un;omega
 cases r2;cases r with
 | nil =>
  exact SeqAt.RcNeAt.lists (e:=λ_=>true) pl.isList pl2.isList rfl hu (λj h1=>absurd h1<|by simp) X.prog X.w X.xe _ ⟨.bl _,H,I,rfl,z⟩
 | cons a b =>
  exact SeqAt.RcNeAt.lists_lengths pl.isList pl2.isList (by simp) hu X.prog X.w X.xe _ ⟨.bl _,H,I,rfl,z⟩
noncomputable def tR:Dq
 |.list xs,.list []=>some (.bool<|!xs.isEmpty)
 |_,_=>none
def Zf2:cS Zb3 tR:=λPK pa m G H x y dx dy dz Q w hx hy hz k=>by
 unfold tR at hz
 split at hz
 ·cases hz;cases hx with
  | lst a1 a2 =>
   cases hy with
   | lst b1 b2 =>
    cases b2;exact⟨_,_,_,rfl,rfl,w.sub _ _ a1,w.sub _ _ b1,by rw[a2.isEmpty];exact k.here w<|.bl _⟩
 ·cases hz
section
variable{prog:EW}{w:EX}{A:EY}{R:Result->EU->Prop}{s:EU}
def ZmE{e:E1}{env:Env}
  (h:wpAny (model prog w) (A.deeper env) (eval e env) (λv z=>R (.ok<|.ret v) z) (λx z=>wpAny (model prog w) (A.deeper env) (leaving env x) (λ_ y=>R (.error x) y) (λx' y=>R (.error x') y) z) s) :
  codeAny (model prog w) A (.expr e env) R s :=
 Ej (show wpAny _ (A.deeper env) (do point;ret (<- (eval e env).onRaise (leaving env))) _ _ s from
  wp (wpAny_point<|wp<|Er<|DJ h (λv z q=>DB q) λ_ _ q=>q))
noncomputable def jA(scope:Scope)(cl:EQ (Str×EV))(q:Str)(L f:EV)(cd:ET):Env :=
 {scope:=scope,locals:=L,globals:=mainGlobals,cells:=cl,qual:=q,func:=some f,code:=cd,frame:=some L,builtins:=builtinsNs}
def ZmR{f c:EV}{o oc:Obj}{fd:FuncData}{e:E1}{ag:Args}{vs:Array ET}{t:Tok}(dep:A.depth<recursionLimit)(hf:s.heap.get? f=some o)(df:o.data=.func fd)(n1:fd.scope.isCoroutine=false)(n2:fd.scope.isGenerator=false)(hb:fd.body=.expr e)
  (hc:fd.code=.ref c) (gc:s.heap.get? c=some oc) (dc:oc.data=.fields vs) (hq:vs[1]?=some (.str q t))
  (h:wpAny (model prog w) A.in1 (bindArgs fd ag) (λbs z=>wpAny (model prog w) A.in1 (newFunctionEnv fd.scope fd.globals fd.closure bs (q++".<locals>.") (some f) (.ref c) none fd.builtins)
   (λenv y=>y.heap.NoLimit/\codeAny (model prog w) A (.expr e env) R y) (λx y=>R (.error x) y) z) (λx z=>R (.error x) z) s):codeAny (model prog w) A (.call (.ref f) ag) R s :=
 Ej (show wpAny _ A.in1 (callAny (.ref f) ag) _ _ s from by unfold callAny;refine wp<|wpAny_load hf ?_;simp only[df,callFunction,n1,n2,hb,hc];refine wp (m:=field (.ref c) 1) (DM gc dc hq<|wp<|DB<|wp<|DJ h (λbs z k=>wp<|DJ k (λenv y k2=>?_) λ_ _ k'=>k') λ_ _ k'=>k');exact wp<|wpAny_enterFrame k2.1 dep<|DB ⟨rfl,k2.2⟩)
end
def rC(CX:e9)(P:EW)(w:EX)(K:Dh)(mg:Dy)(base:EZ)(N:Dw)(scope:Scope)(cl:EQ (Str×EV))(q:Str)(f:EV)(cd:ET)(A:EY)(outer:EQ Env)(s:EU)(H:Hp)(E:XK):Cx where
 prog:=P
 w:=w
 K:=K
 mg:=mg
 base:=base
 A:=A.deeper<|jA scope cl q s.heap.objs.size f cd
 N:=N
 s₀:=s
 H₀:=H
 env:=jA scope cl q s.heap.objs.size f cd
 outer:=outer
 stack:=jA scope cl q s.heap.objs.size f cd::outer
 ex:=[]
 calm:=true
 fn:=λ_=>false
 pn:=[]
 xe:=λe z=>wpAny (model P w) (A.deeper<|jA scope cl q s.heap.objs.size f cd) (leaving (jA scope cl q s.heap.objs.size f cd) e) (λ_ y=>CX outer H s E e y) (λe' y=>CX outer H s E e' y) z
structure CelOk(N:Dw)(cl:List (Str×EV))(σ:St)(H:Hp)(h:EZ):Prop where
 inj:∀x y c,cl.lookup x=some c->cl.lookup y=some c->x=y
 is:∀x c,cl.lookup x=some c->(∃v,h.IsCell c v)/\H c=none
 at':∀(i:Nat)(x:Str),N[i]?=some x->∃c,cl.lookup x=some c/\∀v,σ[i]?=some (some v)->∃u,RelV v u/\h.IsCell c (some u)
 len:σ.length=N.length
section
variable{P:EW}{w:EX}{K:Dh}{mg:Dy}{base:EZ}{N:Dw}{scope:Scope}{cl:EQ (Str×EV)}{f:EV}{cd:ET}{A:EY}{outer:EQ Env}{s:EU}{E:XK}
end
structure CodK(K:Dh)(c P:EV):Prop where
 ex:∃o vs file tf flags tg inF text tt,K.lookup c=some o/\o.cls=.type "code"/\o.data=.fields vs/\vs[11]?=some (.ref P)/\vs.getD 18 .none=.str file tf/\vs.getD 7 .none=.int flags tg/\vs.getD 9 .none=.bool inF/\vs.getD 10 .none=.int text tt
 ne:c≠P
structure BltK(h:EZ)(mg:Dy):Prop where
 ex:∃bm o,mg "__builtins__"=some (.ref bm)/\bm≠builtinsNs/\h.get? bm=some o/\o.cls=.type "module"/\o.dict=some builtinsNs/\o.data=.plain
theorem Zfl{po:Pos}{a b c:ET}(hab:∃i t j u,a=.int i t/\b=.int j u):∀l:Dv,PySem.TriplesOk l->∀v,codeAmong po (l++[a,b,c])=some v->codeAmong po l=some v\/v=c
 | [],_,v,h=>by
  obtain⟨i,t,j,u,rfl,rfl⟩:=hab;rw[Br,codeAmong]at h
  split at h
  ·exact .inr (AA h).symm
  ·cases h
 | .int i t::.int j u::d::r,k,v,h=>by
  rw[Bc,Bc,Bc,codeAmong]at h;rw[codeAmong]
  split at h
  ·rename_i q;rw[DD q];exact .inl h
  ·rename_i q;rw[DF q];exact Zfl hab r k v h
 |.int i t::.int j u::[],k,v,h=>(k:False).elim
 |.int i t::[],k,v,h=>(k:False).elim
section
variable{pins:EQ (EV×Obj)}{s:EU}
def Inv.code{c P:EV}{ps:Array ET}(I:Inv X pins σ H s)(ck:CodK X.K c P)(hP:H P=some (.cod ps)) :
  ∃more,s.heap.IsCode c P (ps++more)/\s.heap.TableAt c P (ps++more)/\PySem.TriplesOk (ps++more).toList/\∀(po:Pos)(v:ET),codeAmong po (ps++more).toList=some v->∃(c:EV)(ob:Obj)(vs:Array ET)(q:Str)(t:Tok),v=.ref c/\H c=some (.frz ob<|.own 0)/\ob.data=.fields vs/\vs[1]?=some (.str q t):=by
 obtain⟨o,vs,file,tf,flags,tg,inF,text,tt,e1,e2,e3,e4,e5,e6,e7,e8⟩:=ck.ex;obtain⟨more,t1,t2,t3⟩:=I.hok P _ hP;have g:=I.kIn c o e1;have e4':vs.getD 11 .none=.ref P:=by
  rw[Array.getD_eq_getD_getElem?,e4]
  rfl
 exact⟨more,⟨o,vs,file,tf,flags,tg,inF,text,tt,_,g,e3,e4',e5,e6,e7,e8,t1,rfl,t2,ck.ne⟩,⟨⟨o,vs,g,e2,e3,e4⟩,t1⟩,t2,t3⟩
def Inv.lam{P f c:EV}{ps more:Array ET}{h3:EZ}{tk:Nat}{fo oc:Obj}(I:Inv X pins σ H s)(hP:H P=some (.cod ps))(kp:∀b o,b≠P->s.heap.get? b=some o->h3.get? b=some o)(hf:s.heap.objs.size<=f)(gf:h3.get? f=some fo)
  (tb:h3.get? P=some {cls:=.none,data:=.fields (ps++more)}) (tr:PySem.TriplesOk (ps++more).toList)
  (hc:H1 c=some (.frz oc<|.own 0)) (gc:h3.get? c=some oc) (hH:H1=H\/(s.heap.objs.size<=c/\c≠f/\H1=upd H c (.frz oc<|.own 0)))
  (al:∀(po:Pos)(v:ET),codeAmong po (ps++more).toList=some v->∃(c:EV)(ob:Obj)(vs:Array ET)(q:Str)(t:Tok),v=.ref c/\H1 c=some (.frz ob<|.own 0)/\ob.data=.fields vs/\vs[1]?=some (.str q t)) :
  Inv X pins σ (upd H1 f<|.frz fo<|.own 0) {s with heap:=h3,toks:=tk}/\H1 f=none:=by
 have nf:=I.hok.fresh hf;have cf:H1 f=none:=by
  rcases hH with rfl|⟨_,E8,rfl⟩
  ·exact nf
  ·rw[aA<|Ne.symm E8];exact nf
 have up:∀b u,H b=some u->H1 b=some u:=λb u e=>by
  rcases hH with rfl|⟨z,_,rfl⟩
  ·exact e
  ·rw[aA<|cg e<|I.hok.fresh z];exact e
 have up2:∀b u,H b=some u->upd H1 f (.frz fo<|.own 0) b=some u:=λb u e=>by rw[aA<|cg (up b u e) cf];exact up b u e
 have old:∀b o,s.heap.get? b=some o->H b=none->upd H1 f (.frz fo<|.own 0) b=none:=λb o e n=>by
  have hb:=An e;rw[aA<|Aw<|Ao hb hf];rcases hH with rfl|⟨z,_,rfl⟩
  ·exact n
  ·rw[aA<|Aw<|Ao hb z];exact n
 have nP:∀b,H b=none->b≠P:=λb n z=>by rw[z,hP]at n;cases n
 refine⟨I.un (h':=h3) (t':=tk) ⟨λb o e n _ _=>kp b o (nP b n) e,λb o e n _ _=>⟨o.slots,kp b o (nP b n) e⟩,λb o e n _=>old b o e n,λb o e _=>?_,λb xs e=>up2 b _ e,λb o u e=>up2 b _ e,λb qs e=>⟨#[],by rw[up2 b _ e];simp⟩⟩ λb u e=>?_,cf⟩
 ·by_cases hb:b=P
  ·exact⟨_,by rw[hb];exact tb⟩
  ·exact⟨o,kp b o hb e⟩
 ·by_cases hb:b=f
  ·subst hb;rw[bv]at e;cases e;exact⟨gf,fo,gf⟩
  ·have e0:=e;rw[aA hb]at e;have own1:∀b' y,H b'=some (.own y)->upd H1 f (.frz fo<|.own 0) b'=some (.own y):=λb' y q=>up2 b' _ q;by_cases hbP:b=P
   ·subst hbP;have:u=.cod ps:=by have:=up b _ hP;rw[this]at e;exact(AA e).symm
    subst this;refine⟨more,tb,tr,λpo v hv=>?_⟩;obtain⟨c',ob,vs,q,t,r1,r2,r3⟩:=al po v hv;exact⟨c',ob,vs,q,t,r1,by rw[aA<|cg r2 cf];exact r2,r3⟩
   ·have key:H b=some u\/(b=c/\u=.frz oc (.own 0)):=by
     rcases hH with rfl|⟨z,_,rfl⟩
     ·exact .inl e
     ·by_cases q:b=c
      ·subst q;rw[bv]at e;exact .inr ⟨rfl,(AA e).symm⟩
      ·rw[aA q]at e;exact .inl e
    rcases key with e1|⟨rfl,rfl⟩
    ·refine(I.hok b u e1).stay (λb' v hv q=>kp b' v (λz=>?_) q) (λb' q=>own1 b' _ q) (λb' xs q=>up2 b' _ q) λb' ob u' _ q _=>up2 b' _ q;subst z;rcases hv with z|z
     ·exact hbP z.symm
     ·rw[hP]at z;cases z
    ·exact⟨gc,oc,gc⟩
end
end L2
namespace L2
open PySem.Calls
section
variable{M:Model}{A:EY}{E:Ds}
variable{nm:Str}{C N:EV}{bs bm:Dv}{hdct:Bool}{sn:Dw}{sub:Dv}{ab:Bool}{col:ER Bool}{dd:ER EV}{k0 k1 k2 k3 k5:ER ET}{newId:String}
variable{nm' q':Str}{D N':EV}{bs' bm':Dv}{hdct':Bool}{sn':Dw}{sub':Dv}{ab':Bool}{col':ER Bool}{dd':ER EV}{j0 j1 j2 j3 j5:ER ET}{newId':String}
end
section
variable{prog:EW}{w:EX}{A:EY}{E:Ds}{s:EU}{env:Env}
end
end L2
namespace L2
section
variable{pins:EQ (EV×Obj)}{s:EU}
end
end L2
namespace PySem
section
variable{M:Model}{A:EY}{E:Ds}{h:EZ}{g:Array GenState}{d:Drawn}{t:Nat}{os:OsState}
variable{nm:Str}{C N:EV}{bs bm bmB:Dv}{hdct:Bool}{sn:Dw}{sub:Dv}{ab:Bool}{col:ER Bool}{dd:ER EV}{k0 k1 k2 k3 k5:ER ET}{B newId:String}
end
section
variable{prog:EW}{w:EX}{A:EY}{E:Ds}{h:EZ}{g:Array GenState}{d:Drawn}{t:Nat}{os:OsState}{a:EV}{o:Obj}
 {nm q:Str} {C N:EV} {bs bm bmB:Dv} {hdct:Bool} {sn:Dw} {sub:Dv} {ab:Bool} {col:ER Bool} {dd:ER EV} {k0 k1 k2 k3 k5:ER ET} {B newId:String} {mN:Dy}
end
end PySem
namespace L2
section
variable{C:EV}{B:String}{bmB:Dv}
end
open Classical in
noncomputable def cut(cs:EQ EV)(H:Hp):Hp:=λb=>if b∈cs then none else H b
open Classical in
def glue(cs:EQ EV)(H H':Hp):Hp:=λb=>if b∈cs then H b else H' b
def eU{cs:EQ EV}{b:EV}(h:b∈cs):cut cs H b=none:=DD h
def bT{cs:EQ EV}{b:EV}(h:b∉cs):cut cs H b=H b:=DF h
def ju{cs:EQ EV}{b:EV}(h:b∈cs):glue cs H H' b=H b:=DD h
def dM{cs:EQ EV}{b:EV}(h:b∉cs):glue cs H H' b=H' b:=DF h
def yK{cs:EQ EV}{b:EV}(n:H b=none):cut cs H b=none:=by
 by_cases z:b∈cs
 ·exact eU z
 ·rw[bT z];exact n
def Lent(cs:EQ EV)(H:Hp):Prop:=∀c∈cs,∃(o:Obj)(v:ER ET),H c=some (.frz o<|.own 0)/\o.data=.cell v
section
variable{P:EW}{w:EX}{K:Dh}{mg:Dy}{base:EZ}{A:EY}{outer:EQ Env}{s s':EU}{cs:EQ EV}{h h':EZ}
def Lent.no{b:EV}{u:HO}(L:Lent cs H)(e:H b=some u)(hu:∀o v,u=.frz o (.own 0)->o.data≠.cell v):b∉cs:=λz=>by obtain⟨o,v,e1,e2⟩:=L b z;rw[e]at e1;exact hu o v (AA e1) e2
theorem HOk.cut(L:Lent cs H)(ok:HOk P w H h):HOk P w (L2.cut cs H) h:=λb u e=>by
 have hb:b∉cs:=λz=>by rw[eU z]at e;cases e
 rw[bT hb]at e;refine(ok b u e).stay (λ_ _ _ q=>q) (λc q=>?_) (λc xs q=>?_) λc ob u' vs q d=>?_
 ·rw[bT<|L.no q λo v z=>by cases z];exact q
 ·rw[bT<|L.no q λo v z=>by cases z];exact q
 ·rw[bT<|L.no q λo v z=>by cases z;rw[d];intro z;cases z];exact q
theorem Env0.cut(e0:Env0 P w K mg base A outer s H)(L:Lent cs H):Env0 P w K mg base A outer s (L2.cut cs H) :=
 ⟨e0.frames,e0.mod,λb o e=>⟨(e0.bs b o e).1,by
  by_cases z:b∈cs
  ·exact eU z
  ·rw[bT z];exact(e0.bs b o e).2⟩,e0.bsz,e0.funs,λb hb=>by
  by_cases z:b∈cs
  ·exact eU z
  ·rw[bT z];exact e0.frf b hb,e0.hok.cut L,e0.bare⟩
theorem Un.glue(L:Lent cs H)(ok:HOk P w H s.heap)(un:Un (frs outer) [] (L2.cut cs H) H' s.heap h'):Un (frs outer) [] H (L2.glue cs H H') s.heap h' where
 keep:=λb o e n hb hx=>un.keep b o e (yK n) hb hx
 slot:=λb o e n hb hx=>un.slot b o e (yK n) hb hx
 free:=λb o e n hx=>by
  by_cases z:b∈cs
  ·rw[ju z];exact n
  ·rw[dM z];exact un.free b o e (by rw[bT z];exact n) hx
 there:=λb o e hx=>un.there b o e hx
 tups:=λb xs e=>by
  have z:=L.no e λo v q=>by cases q
  rw[dM z];exact un.tups b xs<|by rw[bT z];exact e
 frzs:=λb o u e=>by
  by_cases z:b∈cs
  ·rw[ju z];exact e
  ·rw[dM z];exact un.frzs b o u<|by rw[bT z];exact e
 tbls:=λb ps e=>by
  have z:=L.no e λo v q=>by cases q
  rw[dM z];exact un.tbls b ps<|by rw[bT z];exact e
theorem HOk.glue(L:Lent cs H)(e0:Env0 P w K mg base A outer s H)(un:Un (frs outer) [] (L2.cut cs H) H' s.heap h')(ok':HOk P w H' h'):HOk P w (L2.glue cs H H') h':=λb u e=>by
 have nC:∀c∈cs,H' c=none:=λc hc=>by obtain⟨o,v,e1,_⟩:=L c hc;exact un.free c o (e0.hok c _ e1).1 (eU hc) (by simp)
 have up:∀c u',H' c=some u'->c∉cs:=λc u' q z=>by rw[nC c z]at q;cases q
 by_cases hb:b∈cs
 ·rw[ju hb]at e;obtain⟨o,v,e1,_⟩:=L b hb;rw[e]at e1;cases e1;have g:=un.keep b o (e0.hok b _ e).1 (eU hb) (λz=>by have:=e0.frf b z;rw[e]at this;cases this) (by simp)
  exact⟨g,o,g⟩
 ·rw[dM hb]at e;exact(ok' b u e).stay (λ_ _ _ q=>q) (λc q=>by rw[dM<|up c _ q];exact q) (λc xs q=>by rw[dM<|up c _ q];exact q) λc ob u' vs q _=>by rw[dM<|up c _ q];exact q
theorem CE.glue{Q:VK}{u:ET}(L:Lent cs H)(e0:Env0 P w K mg base A outer s H)(h:CE outer P w (L2.cut cs H) s (λv H'=>Q v<|L2.glue cs H H') u s'):CE outer P w H s Q u s':=by obtain⟨v,H',os,bare,un,ok',r,q⟩:=h;exact⟨v,_,os,bare,un.glue L e0.hok,HOk.glue L e0 un ok',r,q⟩
end
section
variable{P:EW}{w:EX}{K:Dh}{mg:Dy}{base:EZ}
end
section
variable{pins:EQ (EV×Obj)}{s:EU}
def ZjT{A:EY}{E:Ds}{i:Nat}{pos:Pos}{Q:Ds}(I:Inv X pins σ H s)(hN:X.N[i]?=some x)(hv:gZ X.env.scope x)(e:σ[i]?=some (some v))(h:∀u,RelV v u->Q u s)
  (hd:(x==("__debug__":Str))=false:=by decide) (Fo:(x==("__classdict__":Str))=false:=by decide):wpAny (model X.prog X.w) A (eval (.Name x pos) X.env) Q E s:=by
 obtain⟨m,hn,hl⟩:=I.loc;obtain⟨u,r,l⟩:=hl i x v hN e hv;rcases l with ⟨hk,hm⟩|⟨hk,c,hc,Fp⟩
 ·exact EA (ED I.ok.kind hk hn hm<|h u r) hd
 ·rcases hk with hk|hk
  ·exact EA (EG I.ok.kind hk hc Fp<|h u r) hd
  ·exact EA (wpAny_loadName_free I.ok.kind hk hc Fp (h u r) Fo) hd
end
open Classical in
noncomputable def lend(cs:EQ EV)(h:EZ)(H:Hp):Hp:=λb=>if b∈cs then (h.get? b).map λo=>HO.frz o (.own 0)else H b
def xS{cs:EQ EV}{h:EZ}{b:EV}(z:b∈cs):lend cs h H b=(h.get? b).map λo=>HO.frz o (.own 0):=DD z
def fO{cs:EQ EV}{h:EZ}{b:EV}(z:b∉cs):lend cs h H b=H b:=DF z
def cr(env:Env):EQ EV:=env.cells.filterMap λp=>env.cells.lookup p.1
def jh{env:Env}{c:EV}(h:c∈cr env):∃x,env.cells.lookup x=some c:=by obtain⟨p,_,e⟩:=BY.mp h;exact⟨p.1,e⟩
def yh{env:Env}{c:EV}(h:env.cells.lookup x=some c):c∈cr env:=BY.mpr ⟨(x,c),AT h,h⟩
section
variable{pins:EQ (EV×Obj)}{s:EU}
def Inv.lent(I:Inv X pins σ H s):Lent (cr X.env) (lend (cr X.env) s.heap H):=λc hc=>by obtain⟨x,e⟩:=jh hc;obtain⟨v,o,e1,e2⟩:=I.cell x c e;exact⟨o,v,by rw[xS hc,e1];rfl,e2⟩
def Inv.lend_cut(I:Inv X pins σ H s):cut (cr X.env) (lend (cr X.env) s.heap H)=H:=funext λb=>by
 by_cases z:b∈cr X.env
 ·rw[eU z];obtain⟨x,e⟩:=jh z;exact(I.freeC x b e).symm
 ·rw[bT z,fO z]
def Inv.lend0(I:Inv X pins σ H s)(hfn:∀x,X.fn x=true):Env0 X.prog X.w X.K X.mg X.base X.A X.stack s (lend (cr X.env) s.heap H):=by
 have e0:=I.env0;have big:∀c∈cr X.env,X.s₀.heap.objs.size<=c:=λc hc=>by obtain⟨x,e⟩:=jh hc;exact I.ok.cab x c (hfn x) e
 have none':∀b u,H b=some u->b∉cr X.env:=λb u e z=>by obtain⟨x,q⟩:=jh z;rw[I.freeC x b q]at e;cases e
 refine⟨e0.frames,e0.mod,λb o e=>⟨(e0.bs b o e).1,?_⟩,e0.bsz,e0.funs,λb hb=>?_,λb u e=>?_,e0.bare⟩
 ·rw[fO λz=>absurd (Ao (An e)<|Ap I.ok.bsz<|big b z)<|AF _];exact(e0.bs b o e).2
 ·have hz:b∉cr X.env:=λz=>by
   rcases Au.mp (I.stkSub b hb)with q|q
   ·obtain⟨x,e⟩:=jh z;exact I.cne x b e q
   ·obtain⟨_,o,ho,_⟩:=I.ok.funs.mem q;exact absurd (Ao (An ho)<|big b z)<|AF _
  rw[fO hz];exact e0.frf b hb
 ·by_cases z:b∈cr X.env
  ·rw[xS z]at e;cases g:s.heap.get? b with
   |none=>rw[g]at e;cases e
   | some o =>
    rw[g]at e;cases e;exact⟨g,o,g⟩
  ·rw[fO z]at e;exact(I.hok b u e).stay (λ_ _ _ q=>q) (λc q=>by rw[fO<|none' c _ q];exact q) (λc xs q=>by rw[fO<|none' c _ q];exact q) λc ob u' vs q _=>by rw[fO<|none' c _ q];exact q
end
noncomputable def pK:EQ Nat->EQ Sl->ER Dt
 | [],_=>some []
 | j::ix,ρ=>match ρ[j]? with
  |some (.d x)=>(pK ix ρ).map (x::·)
  |_=>none
theorem ZeN{PK:Pk}{pa:EV}{DA H₀ G H:Hp}{m:Nat}{σ:St}{ρ:Dz}(R:Rl PK pa DA H₀ m σ ρ G H):∀{ix:EQ Nat}{xs:Dt},pK ix ρ=some xs->∃vs,DnAll G vs xs/\vs.length=ix.length/\∀(i j:Nat),ix[i]?=some j->∃v,vs[i]?=some v/\σ[j]?=some (some v)
 | [],xs,h=>by cases h;exact⟨[],.nil,rfl,λi j e=>by simp at e⟩
 | j::ix,xs,h=>by
  rw[pK]at h
  split at h
  ·rename_i x hx;cases e:pK ix ρ with
   |none=>rw[e]at h;cases h
   | some ys =>
    rw[e]at h;cases h;obtain⟨vs,d,hl,k⟩:=ZeN R e;obtain⟨o,ho,so⟩:=R.sl j _ hx;cases so with
    | @d v _ dv =>
     refine⟨v::vs,.cons dv d,by rw[Ac,Ac,hl],λi j' hi=>?_⟩
     cases i with
     | zero =>
      simp at hi;subst hi;exact⟨v,rfl,ho⟩
     | succ i =>
      obtain⟨u,h1,h2⟩:=k i j'<|by simpa using hi
      exact⟨u,by simpa using h1,h2⟩
  ·cases h
theorem zd{pa:EV}{G:Hp}:∀{vs:Dx}{xs:Dt},DnAll G vs xs->ArsOk pa G vs (xs.map Sl.d)
 |_,_,.nil=>.nil
 |_,_,.cons h t=>.cons (.d h)<|zd t
structure LamScP(ps NF:Dw)(sc:Scope):Prop where
 kind:sc.kind=.function
 co:sc.isCoroutine=false
 gen:sc.isGenerator=false
 nd:(ps++NF).Nodup
 nc:∀y∈sc.names,y.2≠.cell
 par:∀x∈ps,sc.names.lookup x=some .local
 fr:∀x,sc.names.lookup x=some .free->x∈NF
 all:∀x∈NF,sc.names.lookup x=some .free
theorem Zaa:∀{ps:Dw}{us:Dv}{i:Nat}{x:Str}{u:ET},ps.Nodup->ps[i]?=some x->us[i]?=some u->(ps.zip us).reverse.lookup x=some u
 | [],_,_,_,_,_,h,_=>by simp at h
 |_::_,[],_,_,_,_,_,h=>by simp at h
 | p::ps,w::us,i,x,u,nd,h1,h2=>by
  rw[Bg]at nd;rw[AV,BD,List.lookup_append];cases i with
  | zero =>
   simp at h1 h2;subst h1;subst h2;have:(ps.zip us).reverse.lookup p=none:=by rw[List.lookup_eq_none_iff];intro y hy;rw[List.mem_reverse]at hy;have hm:=(BX (a:=y.1) (b:=y.2) hy).1;have:p≠y.1:=λe=>nd.1<|e ▸ hm;simpa using this
   rw[this];simp
  | succ i =>
   rw[Zaa (i:=i) nd.2 (by simpa using h1)<|by simpa using h2]
   rfl
section
variable{P:EW}{w:EX}{K:Dh}{mg:Dy}{base:EZ}{ps NF:Dw}{scope:Scope}{cl:EQ (Str×EV)}{f:EV}{cd:ET}{A:EY}{outer:EQ Env}{s:EU}{E:XK}{us:Dv}
def Zkp{h':EZ}{tk:Nat}(S:LamScP ps NF scope)(hd:A.handled=none)(e0:Env0 P w K mg base A outer s H)(c:CelOk NF cl σ H s.heap)(r:Vals vs us)(hl:vs.length=ps.length)
  (hn:h'.Ns s.heap.objs.size (λx=>(ps.zip us).reverse.lookup x)) (hs:Heap.SameBut s.heap.objs.size (s.heap.push {cls:=.type "frame",data:=.dict #[]}) h') :
  Inv (rC CX P w K mg base (ps++NF) scope cl q f cd A outer s H E) [] (vs.map some++σ) H {s with heap:=h',toks:=tk}:=by
 have kp:∀b u,s.heap.get? b=some u->h'.get? b=some u:=λb u e=>hs.extBut b u (Aw<|An e)<|Aa _ e;have noA:∀b:EV,b∉(rC CX P w K mg base (ps++NF) scope cl q f cd A outer s H E).ex:=λb z=>absurd (show b∈([]:EQ EV)from z)<|by simp
 have cellK:∀{c':EV}{v:ER ET},s.heap.IsCell c' v->h'.IsCell c' v:=λ{c' v} hz=>by obtain⟨o,ho,hd⟩:=hz;exact⟨o,kp _ _ ho,hd⟩
 refine⟨⟨e0.mod,S.kind,rfl,rfl,Ag _,c.inj,λx hx=>?_,λx c' z=>(nomatch z),λ_=>hd,Around.frames_deeper e0.frames,.inr ⟨rfl,rfl⟩,λb z=>absurd z<|noA b,e0.bs,e0.bsz,λb _ _=>noA b,λb z=>absurd z<|noA b,e0.funs,e0.frf⟩,
  rfl,e0.bare,Un.kept kp,⟨_,hn,λi x v h1 h2 h3=>?_⟩,λx c' h=>?_,e0.hok.fresh<|Ag _,λx c' h=>(c.is x c' h).2,λp hp=>absurd (show p∈([]:EQ (EV×Obj))from hp)<|by simp,e0.hok.kept kp,?_⟩
 ·have hx:scope.names.lookup x=some .cell\/scope.names.lookup x=some .free:=hx;rcases hx with z|z
  ·exact absurd rfl (S.nc _<|AT z)
  ·obtain⟨i,hi⟩:=List.mem_iff_getElem?.mp<|S.fr x z;obtain⟨c',e,_⟩:=c.at' i x hi;exact⟨c',e⟩
 ·have h1:(ps++NF)[i]?=some x:=h1;by_cases hi:i<ps.length
  ·rw[At hi]at h1;rw[At<|by rw[v9,hl];exact hi,Ak]at h2
   cases e:vs[i]? with
   |none=>rw[e]at h2;cases h2
   | some a =>
    rw[e]at h2;cases h2;obtain⟨u,hu,rv⟩:=r.get e;have hp:=S.par x<|AD h1;exact⟨u,rv,.inl ⟨hp,Zaa (S.nd.sublist<|List.sublist_append_left _ _) h1 hu⟩⟩
  ·rw[Az<|by omega]at h1
   rw[Az<|by rw[v9,hl];omega,v9,hl]at h2
   obtain⟨c',e,k⟩:=c.at' _ x h1;obtain⟨u,r,z⟩:=k v h2;exact⟨u,r,.inr ⟨.inr<|S.all x<|AD h1,c',e,cellK z⟩⟩
 ·obtain⟨⟨v,z⟩,_⟩:=c.is x c' h;exact⟨v,cellK z⟩
 ·show(vs.map some++σ).length=(ps++NF).length;rw[Aq,Aq,v9,hl,c.len]
structure LamFdP(fd:FuncData)(ps:Dw)(e:E1)(scope:Scope)(cl:List (Str×EV))(cd:ET):Prop where
 body:fd.body=.expr e
 sc:fd.scope=scope
 cl:fd.closure=cl
 cd:fd.code=cd
 gl:fd.globals=mainGlobals
 bl:fd.builtins=builtinsNs
 bi:∀us:Dv,us.length=ps.length->bindArgs fd ⟨us,[]⟩=pure (ps.zip us)
def Zj3{o oc:Obj}{fd:FuncData}{e:E1}{c:EV}{as:Array ET}{qn:Str}{t:Tok}(hr:Room (k+1) A)(e0:Env0 P w K mg base A outer s H)(S:LamScP ps NF scope)(hf:s.heap.get? f=some o)(df:o.data=.func fd)(F:LamFdP fd ps e scope cl (.ref c))
  (gc:s.heap.get? c=some oc) (dc:oc.data=.fields as) (hq:as[1]?=some (.str qn t)) (C:CelOk NF cl σ H s.heap) (r:Vals vs us) (hl:vs.length=ps.length)
  (he:PE (rC CX P w K mg base (ps++NF) scope cl (qn++".<locals>.") f (.ref c) A outer s H E) e te) (ht:te (vs.map some++σ) H Q):codeAny (model P w) A (.call (.ref f) ⟨us,[]⟩) (CR CX outer P w H s Q E) s:=by
 have lim:s.heap.NoLimit:=e0.mod.nolimit.keeps λb o e=>(e0.bs b o e).1;refine ZmR hr.depth hf df (by rw[F.sc];exact S.co) (by rw[F.sc];exact S.gen) F.body F.cd gc dc hq ?_
 rw[F.bi us<|by rw[<- r.length,hl],F.sc,F.gl,F.cl,F.bl]
 refine DB (wpAny_newFunctionEnv S.nc (λx hx=>S.par x.1 (BX (a:=x.1) (b:=x.2) hx).1) (λh' hn hs=>?_) S.kind);have kp:∀b u,s.heap.get? b=some u->h'.get? b=some u:=λb u e=>hs.extBut b u (Aw<|An e)<|Aa _ e;refine⟨lim.keeps kp,ZmE ?_⟩;refine DJ (he [] _ _ H Q (Zkp S hr.hd e0 C r hl hn hs) ht) (λu z hz=>?_) λx z hz=>hz;obtain⟨v,H',J,r,hQ⟩:=hz;exact⟨v,H',J.os,J.bare,J.base,J.hok,r,hQ⟩
end
def iF(as:EQ Arg):Arguments:=⟨[],as,none,[],[],none,[]⟩
def ZaM(cells:EQ (Str×EV))(P:EV)(ps:Dw)(e:E1)(scope:Scope):TE:=λσ H Q=>(∃ps,H P=some (.cod ps))/\∀(f c:EV)(cl:EQ (Str×EV))(fo oc:Obj)(fd:FuncData)(vs:Array ET)(q:Str)(t:Tok)(H1:Hp),
 LamFdP fd ps e scope cl (.ref c)->fo.data=.func fd->(∀x c,cl.lookup x=some c->cells.lookup x=some c)->(∀y∈scope.names,y.2=.free->∃c,cl.lookup y.1=some c)->H1 c=some (.frz oc<|.own 0)->oc.data=.fields vs->vs[1]?=some (.str q t) ->
 (H1=H\/(H c=none/\H1=upd H c (.frz oc<|.own 0)))->H1 f=none->Q (.ref f) (upd H1 f<|.frz fo<|.own 0)
def ZoC(as:EQ Arg)(ps:Dw):Prop:=∀fd:FuncData,fd.params=iF as->fd.defaults=.none->fd.kwdefaults=.none->∀us:Dv,us.length=ps.length->bindArgs fd ⟨us,[]⟩=pure (ps.zip us)
def ZcD{c0 P:EV}{as:EQ Arg}{pn:Dw}{e:E1}{scope:Scope}{pos:Pos}(ck:CodK X.K c0 P)(bk:BltK X.base X.mg)(hc0:X.env.code=.ref c0)(hbi:ZoC as pn)(hfr:∀y∈scope.names,y.2=.free->X.env.kindOf y.1=some .cell\/X.env.kindOf y.1=some .free) :
  PE X (.Lambda (iF as) e scope pos) (ZaM X.env.cells P pn e scope):=by
 intro pins s σ H Q I h;obtain⟨⟨ps,hP⟩,hQ⟩:=h;obtain⟨cl,hcl,cl1,cl2⟩:=jE (scope:=scope) (env:=X.env) λy hy hf=>I.ok.has y.1<|hfr y hy hf;obtain⟨bm,bo,hbm,bne,bK,b1,b2,b3⟩:=bk.ex;obtain⟨mn,hg⟩:∃mg,s.heap.Ns X.env.globals mg/\mg=X.mg:=⟨X.mg,by rw[I.ok.glob];exact I.mod.glob.keeps I.bk,rfl⟩
 obtain⟨hg,rfl⟩:=hg;rw[arm_eval_Lambda];show wpAny _ X.A (do let dv <- evalAll [];let kdv <- holding dv (evalAllOpt []);makeFunction "<lambda>" (X.env.qual++"<lambda>") (iF as) (.expr e) scope X.env dv kdv [] pos pos.line) _ _ s
 refine wp<|DB<|wp<|DK<|DB ?_;simp only[makeFunction,iF,List.zip_nil_right,List.filterMap_nil,List.isEmpty_nil,D8,pure_bind,hcl]
 -- the closure's tuple
 have go:∀(ct:ET)(h1:EZ),(∀b o,s.heap.get? b=some o->h1.get? b=some o)->s.heap.objs.size<=h1.objs.size->wpAny (model X.prog X.w) X.A (do
   let cd <- functionCode X.env pos pos.line "<lambda>" (X.env.qual++"<lambda>") (iF as) scope (.expr e)
   let bl <- builtinsFor X.env.globals X.env.builtins
   let nm <- nsGet X.env.globals "__name__"
   newObj (.type "function") (.func {name:="<lambda>",qualname:=X.env.qual++"<lambda>",params:=iF as,body:=.expr e,scope:=scope,globals:=X.env.globals,closure:=cl,closureTuple:=ct,code:=cd,builtins:=bl,defaults:=.none,kwdefaults:=.none,annotations:=none,pyModule:=nm.getD .none,doc:=.none})) (EP X pins σ Q) X.xe {s with heap:=h1}:=by
  intro ct h1 kp1 hz1;have I1:Inv X pins σ H {s with heap:=h1}:=I.kept (t':=s.toks) kp1;obtain⟨more,ic,ta,tr,al⟩:=I1.code ck hP;have fin:∀(c:EV)(oc:Obj)(vs:Array ET)(q:Str)(t:Tok)(h2:EZ)(tk:Nat)(more2:Array ET)(H1:Hp),(∀b o,b≠P->h1.get? b=some o->h2.get? b=some o)->h1.objs.size<=h2.objs.size->h2.get? P=some {cls:=.none,data:=.fields (ps++more2)}->PySem.TriplesOk (ps++more2).toList ->
    H1 c=some (.frz oc<|.own 0)->h2.get? c=some oc->oc.data=.fields vs->vs[1]?=some (.str q t)->(H1=H\/(s.heap.objs.size<=c/\H1=upd H c (.frz oc<|.own 0))) ->
    (∀(po:Pos)(v:ET),codeAmong po (ps++more2).toList=some v->∃(c:EV)(ob:Obj)(vs:Array ET)(q:Str)(t:Tok),v=.ref c/\H1 c=some (.frz ob<|.own 0)/\ob.data=.fields vs/\vs[1]?=some (.str q t)) ->
    wpAny (model X.prog X.w) X.A (do
     let bl <- builtinsFor X.env.globals X.env.builtins
     let nm <- nsGet X.env.globals "__name__"
     newObj (.type "function") (.func {name:="<lambda>",qualname:=X.env.qual++"<lambda>",params:=iF as,body:=.expr e,scope:=scope,globals:=X.env.globals,closure:=cl,closureTuple:=ct,code:=.ref c,builtins:=bl,defaults:=.none,kwdefaults:=.none,annotations:=none,pyModule:=nm.getD .none,doc:=.none})) (EP X pins σ Q) X.xe {s with heap:=h2,toks:=tk}:=by
   intro c oc vs q t h2 tk more2 H1 kp2 hz2 tb tr2 hc gc dc hq hH al2;have gP:∀b o,X.K.lookup b=some o->b≠P:=λb o e z=>by have:=(I.bs b o<|I.mod.kin b o e).2;rw[z,hP]at this;cases this
   have hg2:h2.Ns X.env.globals X.mg:=by obtain⟨o,es,ep,e1,e2⟩:=hg;refine⟨o,es,ep,kp2 _ o (λz=>?_)<|kp1 _ o e1,e2⟩;obtain⟨o',_,_,e',_⟩:=I.mod.glob;have:=(I.bs _ o' e').2;rw[<- I.ok.glob,z,hP]at this;cases this
   refine wp<|wpAny_builtinsFor (s:={s with heap:=h2,toks:=tk}) hg2 hbm bne (kp2 bm bo (λz=>by have:=(I.bs bm bo bK).2;rw[z,hP]at this;cases this)<|kp1 _ _ (I.bs bm bo bK).1) b1 b2 b3<|wp<|wpAny_nsGet hg2 ?_
   simp only[newObj];refine wp<|wpAny_alloc<|DB ?_;generalize hfd:({name:="<lambda>",qualname:=X.env.qual++"<lambda>",params:=iF as,body:=.expr e,scope:=scope,globals:=X.env.globals,closure:=cl,closureTuple:=ct,code:=.ref c,builtins:=builtinsNs,defaults:=.none,kwdefaults:=.none,annotations:=none,pyModule:=(X.mg "__name__").getD .none,doc:=.none}:FuncData)=fd;have hfo:h2.objs.size<(h2.push {cls:=.type "function",data:=.func fd}).objs.size:=by rw[A1];exact Cs _
   have gcl:=An gc;obtain⟨J,nf⟩:=I.lam (P:=P) (f:=h2.objs.size) (c:=c) (ps:=ps) (more:=more2) (h3:=h2.push {cls:=.type "function",data:=.func fd}) (tk:=tk) (fo:={cls:=.type "function",data:=.func fd}) (oc:=oc) (H1:=H1) hP
    (λb o hb e=>Aa _<|kp2 b o hb<|kp1 b o e) (Ap hz1 hz2) (Ai _ rfl) (Aa _ tb) tr2 hc (Aa _ gc) (by
     rcases hH with z|⟨z1,z2⟩
     ·exact .inl z
     ·exact .inr ⟨z1,Aw gcl,z2⟩) al2
   refine⟨.ref h2.objs.size,_,J,rfl,hQ _ c cl _ oc fd vs q t H1 ⟨by rw[<- hfd],by rw[<- hfd],by rw[<- hfd],by rw[<- hfd],by rw[<- hfd];exact I.ok.glob,by rw[<- hfd],hbi fd (by rw[<- hfd]) (by rw[<- hfd])<|by rw[<- hfd]⟩ rfl cl1 cl2 hc dc hq (by
     rcases hH with z|⟨z1,z2⟩
     ·exact .inl z
     ·exact .inr ⟨I.hok.fresh z1,z2⟩) nf⟩
  cases hit:codeAmong pos (ps++more).toList with
  | some v =>
   obtain⟨c,ob,vs,q,t,rfl,r2,r3,r4⟩:=al pos v hit;refine wp<|wpAny_functionCode_hit hc0 ic hit ?_;exact fin c ob vs q t h1 s.toks more H (λb o _ e=>e) (Ag _) ta.2 tr r2 (I1.hok c _ r2).1 r3 r4 (.inl rfl) al
  | none =>
   refine wp (wpAny_functionCodeX hc0 ic ta hit λc h2 tk hx hge E6 ic2 hrec ta2 _=>?_);obtain⟨c',oc,vs,t,e',gc,dc,hq⟩:=hrec;cases e';have sz:h1.objs.size<=h2.objs.size:=Ap hge<|BS E6;have hge':s.heap.objs.size<=c:=Ap hz1 hge;have tb:h2.get? P=some {cls:=.none,data:=.fields (ps++(more++#[rawInt pos.line,rawInt pos.col,.ref c]))}:=by rw[<- CL];exact ta2.2
   have tl:(ps++(more++#[rawInt pos.line,rawInt pos.col,.ref c])).toList=(ps++more).toList++[rawInt pos.line,rawInt pos.col,.ref c]:=by rw[<- CL];simp
   refine fin c oc vs _ t h2 tk (more++#[rawInt pos.line,rawInt pos.col,.ref c]) (upd H c<|.frz oc<|.own 0) (λb o hb e=>hx b o hb e) sz tb (by rw[tl];exact TriplesOk_snoc _ _ _ _ tr) bv gc dc hq (.inr ⟨hge',rfl⟩) λpo v hv=>?_
   rw[tl]at hv;rcases Zfl ⟨_,_,_,_,rfl,rfl⟩ _ tr v hv with z|rfl
   ·obtain⟨c2,ob,vs2,q2,t2,r1,r2,r3⟩:=al po v z;exact⟨c2,ob,vs2,q2,t2,r1,by rw[aA<|cg r2<|I.hok.fresh hge'];exact r2,r3⟩
   ·exact⟨c,oc,vs,_,t,rfl,bv,dc,hq⟩
 by_cases hce:cl.isEmpty=true
 ·simp only[hce,D8,pure_bind];exact go .none s.heap (λ_ _ e=>e)<|Ag _
 ·simp only[hce,D6];refine wp<|wpAny_newObjAsIs_type ?_;exact go _ _ (λb o e=>Aa _ e)<|by rw[A1];exact Nat.le_succ _
abbrev TL:=(St->V->Hp->Prop)->St->Hp->Prop
def PSL(X:Cx)(st:EQ E3)(T:TL):Prop :=
 ∀(s:EU)(σ:St)(H:Hp)(D:St->V->Hp->Prop),Inv X [] σ H s->T D σ H->wpAny (model X.prog X.w) X.A (execs st X.env) (λfl s'=>match fl with
  |.ret u=>∃v σ' H',Inv X [] σ' H' s'/\RelV v u/\D σ' v H'
  |_=>False) X.xe s
section
variable{st:E3}{rest:EQ E3}{t:TS}{T:TL}{e:E1}{pos:Pos}
def v7(te:TE):TL:=λD σ H=>te σ H λv H'=>D σ v H'
def Zij(he:PE X e te):PSL X [.Return (some e) pos] (v7 te):=by intro s σ H D I h;exact EM<|wpAny_Return_some<|thn (he [] s σ H _ I h) λv s1 ⟨x,H1,I1,r1,q1⟩=>⟨x,σ,H1,I1,r1,q1⟩
def ZaF(t:TS)(T:TL):TL:=λD σ H=>t {nx:=λσ' H'=>T D σ' H',rt:=λ_ _=>False} σ H
end
theorem PSL.nox{X:Cx}{st:EQ E3}{T:TL}(h:PSL X.nox st T):PSL X st T:=λs σ H D I hw =>
 DJ (h s σ H D (I.wish _) hw) (λfl s' q=>by
  cases fl with
  | ret u =>
   obtain⟨v,σ',H',J,r,z⟩:=q;exact⟨v,σ',H',J.unwish,r,z⟩
  |next=>exact q
  |brk=>exact q
  |cont=>exact q) λ_ _ z=>False.elim z
structure CelsAt(N:Dw)(env:Env)(σ:St)(H₀ H3 H2:Hp):Prop where
 inj:∀x y c,env.cells.lookup x=some c->env.cells.lookup y=some c->x=y
 lent:Lent (cr env) H2
 cut:cut (cr env) H2=H3
 fresh:∀c∈cr env,H₀ c=none
 at':∀(j:Nat)(y:Str)(v:V)(a:EV),N[j]?=some y->σ[j]?=some (some v)->env.scope.names.lookup y=some .cell->env.cells.lookup y=some a->∃o u,H2 a=some (.frz o<|.own 0)/\o.data=.cell (some u)/\RelV v u
def ZkH{P:EW}{w:EX}{K:Dh}{mg:Dy}{base:EZ}{f:EV}{params:Arguments}{body:EQ E3}{scope:Scope}{dV kV doc pm E7 ct oc:ET}{an od:ER EV}
  {osl:Array (ER ET)} {N ps:Dw} {sp:Sp} (lk:K.lookup f=some ⟨oc,od,.func<|PySem.W.fnOf name qual params body scope dV kV doc pm an E7 ct,osl⟩) (Fo:PySem.W.codeIn K E7 qual=true) (S:FnScope N ps scope)
  (len:∀vs H Q E,sp vs H Q E->vs.length=ps.length)
  (Ff:∀(A:EY)(outer:EQ Env)(s:EU)(H:Hp)(vs:Dx)(Q:VK)(E:XK),Room k (A.deeper<|envOfC qual scope s.heap.objs.size f E7)->sp vs H Q E ->
   ∃T,PSL (eI cO P w K mg base N qual scope f E7 A outer s H E) body T/\T (λσ v H3=>∀H2,CelsAt N (envOfC qual scope s.heap.objs.size f E7) σ H H3 H2->Q v H2) (start N vs) H) :
  FnOk P w K mg base cO (k+1) f (PySem.W.fnOf name qual params body scope dV kV doc pm an E7 ct) ps sp:=by
 refine⟨len,λA outer s H args us vs Q E hr e0 hb r hsp=>?_⟩;have hl:=len _ _ _ _ hsp;have KX:K.In s.heap:=e0.mod.kin.keeps λb o e=>(e0.bs b o e).1;have lim:s.heap.NoLimit:=e0.mod.nolimit.keeps λb o e=>(e0.bs b o e).1;have hkind:∀y∈ps.zip us,scope.names.lookup y.1=some .local\/(scope.names.lookup y.1=some .cell/\((cellsFrom (s.heap.objs.size+1) scope.names []).lookup y.1).isSome=true):=λ⟨n,v⟩ hy=>by
  rcases S.par n (BX hy).1 with q|q
  ·exact .inl q
  ·exact .inr ⟨q,Cv _ _ _<|.inl q⟩
 refine codeAny_call_function hr.depth (KX _ _ lk) rfl S.co S.gen rfl (PySem.W.codeRec_of KX Fo) (hb _ _ _ _ ?_);refine wpAny_newFunctionEnv_cells S.kind hkind λenv he s1 x=>?_;subst he;refine⟨lim.keeps x.toInCall.keep,codeAny_func ?_⟩;obtain⟨T,ht,hq⟩:=Ff A outer s H vs Q E (hr.deeper _) hsp;have I:Inv (eI cO P w K mg base N qual scope f E7 A outer s H E) [] (start N vs) H s1:=Zdv S hr.hd e0 hl r x;refine DJ (ht s1 (start N vs) H _ I hq) (λfl s' hs=>?_) λe s' hs=>hs;cases fl with
 |next=>exact False.elim hs
 |brk=>exact False.elim hs
 |cont=>exact False.elim hs
 | ret u =>
  obtain⟨v,σ',H',J,rv,q⟩:=hs;have e1:=J.lend0 λ_=>rfl;have big:∀c∈cr (envOfC qual scope s.heap.objs.size f E7),s.heap.objs.size<=c:=λc hc=>by obtain⟨y,hy⟩:=jh hc;exact J.ok.cab y c rfl hy
  have none':∀b u,H' b=some u->b∉cr (envOfC qual scope s.heap.objs.size f E7):=λb u e z=>by obtain⟨y,hy⟩:=jh z;have:=J.freeC y b hy;rw[e]at this;cases this
  have old:∀b o,s.heap.get? b=some o->b∉cr (envOfC qual scope s.heap.objs.size f E7):=λb o e z=>absurd (Ao (An e)<|big b z)<|AF _;have un:Un (frs outer) [] H H' s.heap s'.heap:=J.base;refine⟨v,lend (cr<|envOfC qual scope s.heap.objs.size f E7) s'.heap H',J.os,J.bare,⟨un.keep,un.slot,λb o e n hx=>?_,un.there,λb xs e=>?_,λb o u e=>?_,λb ps e=>?_⟩,e1.hok,rv,q _ ⟨J.ok.inj,J.lent,J.lend_cut,λc hc=>e0.hok.fresh<|big c hc,λj y v' a h1 h2 h3 h4=>?_⟩⟩
  ·rw[fO<|old b o e];exact un.free b o e n hx
  ·have:=un.tups b xs e;rw[fO<|none' b _ this];exact this
  ·have:=un.frzs b o u e;rw[fO<|none' b _ this];exact this
  ·obtain⟨more,this⟩:=un.tbls b ps e;rw[fO<|none' b _ this];exact⟨more,this⟩
  ·obtain⟨m,hn,hl⟩:=J.loc;obtain⟨u',ru,l⟩:=hl j y v' h1 h2<|.inr<|.inl h3;rcases l with ⟨z,_⟩|⟨_,a',z,⟨o,g1,g2⟩⟩
   ·have z:scope.names.lookup y=some .local:=z;have h3:scope.names.lookup y=some .cell:=h3;rw[h3]at z;cases z
   ·have h4':(eI cO P w K mg base N qual scope f E7 A outer s H E).env.cells.lookup y=some a:=h4;rw[h4']at z;cases z;exact⟨o,u',by rw[xS<|yh h4,g1];rfl,g2,ru⟩
def vG(o0:HO):Pk where
 is o _ _:=o=o0
 mono:=λ_ h=>h
def Zcx{o0:HO}:PkLow (vG o0):=⟨λ_ _ h=>h⟩
mutual
theorem Dn.cutC{cs:List EV}{G:Hp}(L:Lent cs G):∀{v:V}{d:ES},Dn G v d->Dn (L2.cut cs G) v d
 |_,_,.non=>.non
 |_,_,.bl b=>.bl b
 |_,_,.int i=>.int i
 |_,_,.str x=>.str x
 |_,_,.tup h r=>.tup (by rw[bT<|L.no h λo v z=>by cases z];exact h) (DnAll.cutC L r)
 |_,_,.lst h r=>.lst (by rw[bT<|L.no h λo v z=>by cases z];exact h) (DnAll.cutC L r)
 |_,_,.dct h r=>.dct (h.imp (λh=>by rw[bT<|L.no h λo v z=>by cases z];exact h) λ⟨o,h⟩=>⟨o,by rw[bT<|L.no h λo v z=>by cases z];exact h⟩) (DnAll.cutC L r)
 |_,_,.dcp n h r=>.dcp n (by rw[bT<|L.no h λo v z=>by cases z];exact h)<|DnAll.cutC L r
theorem DnAll.cutC{cs:List EV}{G:Hp}(L:Lent cs G):∀{vs:Dx}{ds:Dt},DnAll G vs ds->DnAll (L2.cut cs G) vs ds
 |_,_,.nil=>.nil
 |_,_,.cons r t=>.cons (Dn.cutC L r)<|DnAll.cutC L t
end
section
variable{P:EW}{w:EX}{K:Dh}{mg:Dy}{base:EZ}
end
structure DefK(K:Dh)(mg:Dy)(x:Str)(st:E3)(ps:Dw)(c0 Pt:EV):Prop where
 ex:∃(fa:EV)(oc:ET)(od:Option EV)(kV doc pm:ET)(an:Option EV)(ct:ET)(osl:Array (Option ET)),mg x=some (.ref fa)/\K.lookup fa=some ⟨oc,od,.func<|PySem.W.fnOf x x (fy st) (db st) (az st) .none kV doc pm an (.ref c0) ct,osl⟩ /\
  PySem.W.keepIn K (.ref fa)=true/\Binds K (PySem.W.fnOf x x (fy st) (db st) (az st) .none kV doc pm an (.ref c0) ct) ps []
 cd:PySem.W.codeIn K (.ref c0) x=true
 ck:CodK K c0 Pt
structure LamDP(Nx:Dw)(sc scope:Scope)(pl NF:Dw)(ix:List Nat):Prop where
 kind:scope.kind=.function
 co:scope.isCoroutine=false
 gen:scope.isGenerator=false
 nd:(pl++NF).Nodup
 nc:∀y∈scope.names,y.2≠.cell
 par:∀x∈pl,scope.names.lookup x=some .local
 fr:∀y∈scope.names,y.2=.free->y.1∈NF
 all:∀x∈NF,scope.names.lookup x=some .free/\sc.names.lookup x=some .cell
 nl:ix.map (λj=>Nx[j]?)=NF.map some
theorem LamDP.sc{Nx:Dw}{sc scope:Scope}{pl NF:Dw}{ix:EQ Nat}(d:LamDP Nx sc scope pl NF ix):LamScP pl NF scope :=
 ⟨d.kind,d.co,d.gen,d.nd,d.nc,d.par,λx h=>d.fr (x,.free) (AT h) rfl,λx h=>(d.all x h).1⟩
def LamDP.ln{Nx:Dw}{sc scope:Scope}{pl NF:Dw}{ix:EQ Nat}(d:LamDP Nx sc scope pl NF ix):ix.length=NF.length:=by
 have:=DI List.length d.nl
 rwa [v9,v9]at this
def LamDP.at'{Nx:Dw}{sc scope:Scope}{pl NF:Dw}{ix:EQ Nat}(d:LamDP Nx sc scope pl NF ix)(a:Nat)(y:Str)(h:NF[a]?=some y):∃j,ix[a]?=some j/\Nx[j]?=some y:=by
 have:=DI (λl=>l[a]?) d.nl;simp only[Ak,h,Option.map_some]at this;cases e:ix[a]? with
 |none=>rw[e]at this;cases this
 | some j =>
  rw[e]at this;exact⟨j,rfl,AA this⟩
def LamDP.hfr{Nx:Dw}{sc scope:Scope}{pl NF:Dw}{ix:EQ Nat}(d:LamDP Nx sc scope pl NF ix):∀y∈scope.names,y.2=.free->sc.names.lookup y.1=some .cell\/sc.names.lookup y.1=some .free:=λy hy hf=>.inl (d.all y.1<|d.fr y hy hf).2
section
variable{P:EW}{w:EX}{K:Dh}{mg:Dy}{base:EZ}{PK:Pk}
end
section
variable{P:EW}{w:EX}{K:Dh}{mg:Dy}{base:EZ}
end
def ZmW{M:Model}{A:EY}{E:Ds}{s:EU}{env:Env}{pos:Pos}{f:EV}{oc:ET}{od:ER EV}{fd:FuncData}{osl:Array (ER ET)}{Q:Ds}{e:E1}{rest:EQ E1}
  (h:wpAny M A (spliced<|backTo pos<|starEach (e::rest) env) (λvs s₁=>s₁.heap.get? f=some ⟨oc,od,.func fd,osl⟩/\wpAny M A (call (.ref f)<|[]++vs) Q E s₁) E s)
  (he:starEach (e::rest) env=(false,eval e env)::starEach rest env) (hplain:(backTo pos<|starEach rest env).any (·.1)=false):wpAny M A (callWith pos (.ref f) [] (backTo pos<|starEach (e::rest) env) []) Q E s:=by rw[he]at h ⊢;exact PySem.W.callWith_of (P:=λg=>g.get? f=some ⟨oc,od,.func fd,osl⟩) (by show((false || (backTo pos<|starEach rest env).any (·.1)) || false)=false;rw[hplain];rfl) (λg e=>⟨.frame,.inl rfl,(PySem.W.Looks.ld (part:=none) e).andThen .now⟩)<|PySem.Calls.evalArgs_plain h
def Zjd{c:Prop}[Decidable c]{t:Tr α}{Z:Nat->α->Prop}(h:(if c then t else Tr.fail).ok m Z):c/\t.ok m Z:=by
 by_cases q:c
 ·rw[DD q]at h;exact⟨q,h⟩
 ·rw[DF q]at h;exact h.elim
section
def vD(PK:Pk)(js:Dj)(te:TE):TA:=λσ H Q=>∃pa DA H₀ m ρ G,Rl PK pa DA H₀ m σ ρ G H/\(js ρ).ok m λm' xs=>∀vs G' H',Stp pa G H G' H'->Wd PK pa m' G' H'->DnAll G' vs xs->te σ H' λv H2=>Q (vs++[v]) H2
variable{PK:Pk}{e:E1}{es:EQ E1}{js:Dj}
def aw1(h:PE X e te)(hs:starEach [e] X.env=(false,eval e X.env)::starEach [] X.env:=by rfl):PA X [e] (vD PK ao te):=(ci h cL hs).imp λσ H Q hz=>by obtain⟨pa,DA,H₀,m,ρ,G,R,z⟩:=hz;exact z [] G H .refl R.wd .nil
def rG(h:PE X e (TAe PK i))(hr:PA X es (vD PK js te))(hs:starEach (e::es) X.env=(false,eval e X.env)::starEach es X.env:=by rfl):PA X (e::es) (vD PK (af i js) te):=(ci h hr hs).imp λσ H Q hz=>by obtain⟨pa,DA,H₀,m,ρ,G,R,z⟩:=hz;refine TAe.then R z λm1 x v G1 H1 s1 w1 R1 d1 q1=>?_;refine⟨pa,DA,H₀,m1,ρ,G1,R1,Tr.ok_mono (Tr.ok_bind.mp q1) λm2 xs q2 vs G2 H2 s2 w2 d2=>?_⟩;exact q2 (v::vs) G2 H2 (s1.trans s2 w1.some) w2<|.cons (d1.mono s2.gs) d2
theorem Zfg{pa:EV}{G:Hp}:∀{vs:Dx}{xs:Dt},DnAll G vs xs->ArsOk pa G (vs++[.ref pa]) (xs.map Sl.d++[.pen])
 |_,_,.nil=>.cons .pen .nil
 |_,_,.cons h t=>.cons (.d h)<|Zfg t
end
def PKs(ts:EQ EV)(PK:Pk):Pk where
 is o G m:=PK.is o G m/\∀t∈ts,∃ps,G t=some (.cod ps)
 mono:=λs h=>⟨PK.mono s h.1,λt ht=>let ⟨ps,e⟩:=h.2 t ht;⟨ps,s _ _ e⟩⟩
theorem PKs.low{ts:EQ EV}{PK:Pk}(L:PkLow PK):PkLow (PKs ts PK):=⟨λh s h'=>⟨L.low h.1 s h'.1,h.2⟩⟩
section
variable{ts:EQ EV}{PK:Pk}
def Wd.unS{pa:EV}(w:Wd (PKs ts PK) pa m G H):Wd PK pa m G H:=⟨w.sub,w.gpa,let ⟨o,h,k⟩:=w.pen;⟨o,h,k.1⟩⟩
def Wd.reS{pa:EV}{m':Nat}(w:Wd (PKs ts PK) pa m G H)(s:Sub G G')(w':Wd PK pa m' G' H'):Wd (PKs ts PK) pa m' G' H' :=
 ⟨w'.sub,w'.gpa,let ⟨o,h,k⟩:=w'.pen;⟨o,h,k,λt ht=>let ⟨_,_,_,ke⟩:=w.pen;let ⟨ps,e⟩:=ke t ht;⟨ps,s _ _ e⟩⟩⟩
def ACal.cods{P:EW}{w:EX}{K:Dh}{mg:Dy}{base:EZ}{ps:Dw}(C:ACal PK P w K mg base x k ps f):ACal (PKs ts PK) P w K mg base x k ps f:=by obtain⟨C,len⟩:=C;obtain⟨g,fd,F,hm,hk,hb⟩:=C.ex;refine⟨⟨g,fd,F.imp λvs H Q E h=>?_,hm,hk,hb⟩,len⟩;obtain⟨hv,pa,m,G,as,wd,ar,z⟩:=h;exact⟨hv,pa,m,G,as,wd.unS,ar,Tr.ok_mono z λm' r h v G' H' s w' d=>h v G' H' s (wd.reS s.gs w') d⟩
end
def Zcr{PK:Pk}{e:E1}{pos:Pos}(he:PE X e te):PSL X [.Return (some e) pos] (ZaF (bg PK λρ=>.ret<|.next ρ)<|v7 te):=λs σ H D I h=>Zij he s σ H D I (by obtain⟨pa,DA,H₀,m,ρ,G,R,z⟩:=h;exact z σ G H (λ_ _ h=>h) R)
def qr(ts:EQ EV)(K:Dh):Sp:=λvs H Q _=>∃(a:EV)(ns:Du),vs=[.ref a]/\SqL K H a (ns.map V.int)/\ns.length<=63/\(∀t∈ts,H t=some (.cod #[]))/\∀H',(∀t∈ts,H' t=some (.cod #[]))->Q (.bl true) H'
noncomputable def tabs(ts:EQ EV)(H0:Hp):Hp:=λb=>if b∈ts then some (.cod #[])else H0 b
def ZaI{ts:EQ EV}{H0:Hp}{b:EV}(h:b∈ts):tabs ts H0 b=some (.cod #[]):=DD h
def ql{ts:EQ EV}{H0:Hp}{b:EV}(h:b∉ts):tabs ts H0 b=H0 b:=DF h
def Zj2{P:EW}{w:EX}{K:Dh}{mg mb:Dy}{fa a:EV}{ts:EQ EV}{fd:FuncData}{s₁:EU}{vs:Dv}{ns:Du}
  (KX:K.In s₁.heap) (hns:s₁.heap.Ns mainGlobals mg) (hb:s₁.heap.Ns builtinsNs mb) (hbb:∀x:Str,x≠"__name__"->mb x=bootBuiltins x) (hlim:s₁.heap.NoLimit) (hdig:s₁.heap.NoDigits) (hg:s₁.gens=#[])
  (ha:s₁.heap.get? a=some {cls:=.type "list",data:=.seq vs.toArray}) (hi:IntsAre vs ns) (hl:ns.length<=sizeLine) (h63:ns.length<=63) (hr:Room k callerA)
  (tb:∀t∈ts,s₁.heap.get? t=some {cls:=.none,data:=.fields #[]}) (hKP:∀t∈ts,K.lookup t=none) (ck:∀t∈ts,∃c0,CodK K c0 t) (hBl:BltK s₁.heap mg)
  (F:∀base:EZ,K.In base->base.Ns mainGlobals mg->BltK base mg->FnOk P w K mg base cO k fa fd [x] (qr ts K)) (hbind:∀(s:EU)(u:ET),BindsTo s fd ⟨[u],[]⟩ [(x,u)]) :
  codeAny (model P w) callerA (.call (.ref fa) ⟨[.ref a],[]⟩) (λr s'=>r=.ok (.ret<|.bool true)/\OldK s₁.heap s'.heap/\s'.os=s₁.os/\AllBare s'.gens) s₁:=by
 have rv:=Zga hi;have lenV:=hi.length;have apl:a∉ts:=λz=>by rw[tb a z]at ha;cases ha
 have core:∀H0:Hp,Zod H0->SqL K H0 a (ns.map V.int)->HOk P w H0 s₁.heap->(∀b,H0 b≠none->b=a)->(H0 a≠none->K.lookup a=none) ->
   codeAny (model P w) callerA (.call (.ref fa) ⟨[.ref a],[]⟩) (λr s'=>r=.ok (.ret<|.bool true)/\OldK s₁.heap s'.heap/\s'.os=s₁.os/\AllBare s'.gens) s₁:=by
  intro H0 hO hS0 hok0 hA0 hK;have hout:∀b u,H0 b=some u->b∉ts:=λb u e z=>by
   have:=hA0 b<|by rw[e];simp
   exact apl<|this ▸ z
  have hup:∀b u,H0 b=some u->tabs ts H0 b=some u:=λb u e=>by rw[ql<|hout b u e];exact e
  have hS:SqL K (tabs ts H0) a (ns.map V.int):=Same.seq (λb o e=>hup b o e) hS0;have hok:HOk P w (tabs ts H0) s₁.heap:=λb u e=>by
   by_cases z:b∈ts
   ·rw[ZaI z]at e;cases e;exact⟨#[],tb b z,trivial,λpo v hv=>by cases hv⟩
   ·rw[ql z]at e;exact(hok0 b u e).stay (λ_ _ _ q=>q) (λc q=>hup c _ q) (λc xs q=>hup c _ q) λc ob u' vs q _=>hup c _ q
  have hA:∀b,tabs ts H0 b≠none->b=a\/b∈ts:=λb h=>by
   by_cases z:b∈ts
   ·exact .inr z
   ·rw[ql z]at h;exact .inl<|hA0 b h
  generalize hH:tabs ts H0=H at *;have hPl:∀t∈ts,H t=some (.cod #[]):=λt ht=>by rw[<- hH];exact ZaI ht
  have hb0:∀b u,H0 b=some u->H b=some u:=hup;have base_of:∀{b:EV}{o:Obj},s₁.heap.get? b=some o->H b=none->(gu s₁.heap H).get? b=some o:=λe n=>Zkv e n;have noA:∀{b:EV}{o:Obj}{es:Array DictEntry}{ep:Nat},s₁.heap.get? b=some o->o.data=.dict es ep->H b=none:=λ{b o es ep} e d=>by
   cases q:H b with
   |none=>rfl
   | some u =>
    rcases hA b (by rw[q];simp)with e'|e'
    ·subst e';rw[ha]at e;cases e;have d':Data.seq vs.toArray _=Data.dict es ep:=d;cases d'
    ·rw[tb b e']at e;cases e;have d':Data.fields #[]=Data.dict es ep:=d;cases d'
  have nsK:∀{b:EV}{m:Dy},s₁.heap.Ns b m->(gu s₁.heap H).Ns b m:=λ{b m} E4=>by obtain⟨o,es,ep,e,d,r⟩:=E4;exact⟨o,es,ep,base_of e<|noA e d,d,r⟩
  have hKb:K.In (gu s₁.heap H):=λb o e=>base_of (KX b o e) (by
   cases q:H b with
   |none=>rfl
   | some u =>
    rcases hA b (by rw[q];simp)with e'|e'
    ·subst e';cases q0:H0 b with
     | none =>
      rw[<- hH,ql apl,q0]at q;cases q
     |some u0=>rw[hK<|by rw[q0];simp]at e;cases e
    ·rw[hKP b e']at e;cases e)
  have hBb:BltK (gu s₁.heap H) mg:=by
   obtain⟨bm,bo,b1,b2,b3,b4,b5,b6⟩:=hBl.ex;refine⟨bm,bo,b1,b2,base_of b3 ?_,b4,b5,b6⟩;cases q:H bm with
   |none=>rfl
   | some u =>
    rcases hA bm (by rw[q];simp)with e'|e'
    ·subst e';rw[ha]at b3;cases b3;cases b6
    ·rw[tb bm e']at b3;cases b3;cases b6
  have hM:Mod K mg (gu s₁.heap H):=⟨hKb,nsK hns,⟨mb,nsK hb,hbb⟩,let ⟨mc,h1,h2⟩:=hlim;⟨mc,nsK h1,h2⟩,let ⟨mc,h1,h2⟩:=hdig;⟨mc,nsK h1,h2⟩⟩
  have e0:Env0 P w K mg (gu s₁.heap H) callerA [] s₁ H:=⟨rfl,hM,λb o e=>Zjg e,Nat.le_of_eq<|Zku _ _,trivial,λb hb=>absurd (show b∈([]:EQ EV)from hb)<|by simp,hok,.of_eq hg⟩
  refine Ed ((F _ hKb (nsK hns) hBb).run callerA [] s₁ H ⟨[.ref a],[]⟩ [.ref a] [.ref a] (λv H'=>v=.bl true/\∀t∈ts,H' t=some (.cod #[])) (λ_ _ _=>False) hr e0 (hbind s₁<|.ref a) (.cons rfl .nil) ⟨a,ns,rfl,hS,h63,hPl,λH' q=>⟨rfl,q⟩⟩) λr s' h=>?_;cases r with
  |error e=>exact False.elim h
  | ok fl =>
   cases fl with
   |next=>exact False.elim h
   |brk=>exact False.elim h
   |cont=>exact False.elim h
   | ret u =>
    obtain⟨v,H',os,bare,un,hok',r',q',hP'⟩:=h;have q':v=.bl true:=q';subst q';obtain rfl:u=Value.bool true:=r';have cases3:∀b o,s₁.heap.get? b=some o->s'.heap.get? b=some o\/(b∈ts/\∃more,s'.heap.get? b=some {cls:=.none,data:=.fields (#[]++more)}):=λb o e=>by
     by_cases z:b∈ts
     ·obtain⟨more,t1,_⟩:=hok' b _<|hP' b z;exact .inr ⟨z,more,t1⟩
     ·left
      cases q:H b with
      |none=>exact un.keep b o e q (by intro z;exact absurd (show b∈([]:EQ EV)from z)<|by simp) (by simp)
      | some u =>
       rcases hO b with z0|⟨ob,xs,z0⟩
       ·rw[<- hH,ql z,z0]at q;cases q
       ·have z1:=hb0 b _ z0;have z2:=un.frzs b ob _ z1;obtain⟨e1,_⟩:=hok b _ z1;obtain⟨e2,_⟩:=hok' b _ z2;rw[e]at e1;cases e1;exact e2
    refine⟨rfl,⟨λb o e=>?_,λb o e=>?_⟩,os,bare⟩
    ·rcases cases3 b o e with z|⟨hz,more,z⟩
     ·exact .inl z
     ·rw[tb b hz]at e;cases e;obtain⟨c0,ck⟩:=ck b hz;obtain⟨oc,vs',_,_,_,_,_,_,_,e1,e2,e3,e4,_⟩:=ck.ex;exact .inr<|.inl ⟨⟨c0,oc,vs',KX c0 oc e1,e2,e3,e4⟩,rfl,#[],more,rfl,z⟩
    ·rcases cases3 b o e with z|⟨_,more,z⟩
     ·exact⟨_,z⟩
     ·exact⟨_,z⟩
 cases hk:K.lookup a with
 | some o =>
  have e:=KX a o hk;rw[ha]at e;cases e;refine core (λ_=>none) (λ_=>.inl rfl) (.inr ⟨_,vs.toArray,_,hk,rfl,rfl,rfl,by rw[Am,lenV];exact hl,by simpa using rv⟩) (λb u z=>by have z':(none:ER HO)=some u:=z;cases z') (λb z=>absurd rfl z) λz=>absurd rfl z
 | none =>
  refine core (λb=>if b=a then some (.frz {cls:=.type "list",data:=.seq vs.toArray}<|.lst<|ns.map V.int)else none) (λb=>?_) (.inl<|.inr ⟨{cls:=.type "list",data:=.seq vs.toArray},DD rfl⟩) (λb u z=>?_) (λb z=>?_) λ_=>hk
  ·by_cases hb:b=a
   ·exact .inr ⟨_,_,DD hb⟩
   ·exact .inl<|DF hb
  ·by_cases hb:b=a
   ·have z':=(DD hb).symm.trans z;cases z';subst hb;exact⟨ha,by rw[v9];exact hl,vs,_,rv,ha⟩
   ·have z':=(DF hb).symm.trans z;cases z'
  ·by_cases hb:b=a
   ·exact hb
   ·exact absurd (DF hb) z
abbrev WF:=EQ ES->ER ES
def WayD(P:EW)(w:EX)(K:Dh)(mg:Dy)(base:EZ)(kk:Nat)(o:HO)(G:Hp)(F:WF):Prop :=
 (∃(oc:ET)(od:ER EV)(fd:FuncData)(osl:Array (ER ET)),o=.frz ⟨oc,od,.func fd,osl⟩ (.own 0)) /\
 ∀(f:EV)(A:EY)(outer:EQ Env)(s:EU)(H G':Hp)(vs:Dx)(us:Dv)(xs:Dt)(d:ES),Room kk A->Env0 P w K mg base A outer s H->Sub G G'->Sub G' H->G' f=none->H f=some o->Vals vs us->DnAll G' vs xs->F xs=some d ->
  codeAny (model P w) A (.call (.ref f) ⟨us,[]⟩) (CR cO outer P w H s (λv H'=>∃G2,Stp f G' H G2 H'/\Sub G2 H'/\G2 f=none/\H' f=some o/\Dn G2 v d) E0) s
noncomputable def f9(n:Nat)(t:Di)(caps:Dt):WF:=λxs=>if xs.length=n then
 match t ((xs++caps).map Sl.d)with
 |.ret d=>some d
 |_=>none
 else none
section
variable{P:EW}{w:EX}{K:Dh}{mg:Dy}{base:EZ}
def ZfS{ps NF:Dw}{scope:Scope}{cl:EQ (Str×EV)}{cs:EQ EV}{c:EV}{oc:Obj}{e:E1}{fd:FuncData}{fc:ET}{fdd:ER EV}{osl:Array (ER ET)}{as:Array ET}{tk:Tok}{t:Di}{caps:Dt}{cv:Dx}
  (S:LamScP ps NF scope) (F:LamFdP fd ps e scope cl (.ref c)) (dc:oc.data=.fields as) (hq:as[1]?=some (.str q tk)) (inj:∀x y a,cl.lookup x=some a->cl.lookup y=some a->x=y)
  (gc:G c=some (.frz oc<|.own 0)) (L:Lent cs G) (hcs:∀x a,cl.lookup x=some a->a∈cs) (hcl:cv.length=NF.length)
  (cap:∀(i:Nat)(x:Str),NF[i]?=some x->∃a o,cl.lookup x=some a/\G a=some (.frz o<|.own 0)/\∀v,cv[i]?=some v->∃u,RelV v u/\o.data=.cell (some u)) (hd:DnAll G cv caps)
  (he:∀(f:EV)(A:EY)(outer:EQ Env)(s:EU)(H:Hp)(E:XK),Room kk (A.deeper<|jA scope cl (q++".<locals>.") s.heap.objs.size f<|.ref c)->PE (rC cO P w K mg base (ps++NF) scope cl (q++".<locals>.") f (.ref c) A outer s H E).nox e (TAe (vG<|.frz ⟨fc,fdd,.func fd,osl⟩<|.own 0) t)) :
  WayD P w K mg base (kk+1) (.frz ⟨fc,fdd,.func fd,osl⟩<|.own 0) G (f9 ps.length t caps):=by
 refine⟨⟨_,_,_,_,rfl⟩,λf A outer s H G' vs us xs d hr e0 sG sH gf hf r hv hn=>?_⟩;have LG:Lent cs G':=λa ha=>by obtain⟨o,v,e1,e2⟩:=L a ha;exact⟨o,v,sG _ _ e1,e2⟩
 have LH:Lent cs H:=λa ha=>by obtain⟨o,v,e1,e2⟩:=LG a ha;exact⟨o,v,sH _ _ e1,e2⟩
 have cel:∀{a:EV}{o:Obj},H a=some (.frz o<|.own 0)->s.heap.get? a=some o:=λz=>(e0.hok _ _ z).1;have fcs:f∉cs:=LH.no hf λo v z=>by cases z;intro z;cases z
 have hl:vs.length=ps.length/\t ((xs++caps).map Sl.d)=.ret d:=by
  unfold f9 at hn
  split at hn
  ·rename_i h1
   split at hn
   ·rename_i n' h2;cases hn;exact⟨by rw[hv.length];exact h1,h2⟩
   ·cases hn
  ·cases hn
 have C:CelOk NF cl (cv.map some) (cut cs H) s.heap:=by
  refine⟨inj,λx a z=>?_,λi x hx=>?_,by rw[v9,hcl]⟩
  ·obtain⟨o,v,e1,e2⟩:=LH a<|hcs x a z;exact⟨⟨v,o,cel e1,e2⟩,eU<|hcs x a z⟩
  ·obtain⟨a,o,e1,e2,e3⟩:=cap i x hx;refine⟨a,e1,λv hv=>?_⟩;rw[Ak]at hv;cases ev:cv[i]? with
   |none=>rw[ev]at hv;cases hv
   | some v' =>
    rw[ev]at hv;cases hv;obtain⟨u,r,d⟩:=e3 v ev;exact⟨u,r,o,cel<|sH _ _<|sG _ _ e2,d⟩
 have nC:∀{H':Hp}{h':EZ},Un (frs outer) [] (cut cs H) H' s.heap h'->∀b∈cs,H' b=none:=λ{H' h'} un b hb=>by obtain⟨o,v,e1,_⟩:=LH b hb;exact un.free b o (cel e1) (eU hb)<|by simp
 have subC:Sub (cut cs G') (cut cs H):=λb o h=>by
  have hb:b∉cs:=λz=>by rw[eU z]at h;cases h
  rw[bT hb]at h ⊢;exact sH b o h
 have wd:Wd (vG<|.frz ⟨fc,fdd,.func fd,osl⟩<|.own 0) f 0 (cut cs G') (cut cs H):=⟨subC,yK gf,_,by rw[bT fcs];exact hf,rfl⟩
 have ar:ArsOk f (cut cs G') (vs++cv) ((xs++caps).map Sl.d):=zd<|DnAll.cutC LG<|hv.append<|hd.mono sG;have R:=Rl.start (N:=ps++NF) (k:=0) wd ar<|by rw[Aq,Aq,hl.1,hcl,B3]
 have stt:L2.start (ps++NF) (vs++cv)=vs.map some++cv.map some:=by unfold L2.start;rw[Aq,Aq,hl.1,hcl,B3];simp
 rw[stt]at R;have e00:(xs++caps).map Sl.d++List.replicate 0 Sl.un=(xs++caps).map Sl.d:=by simp
 rw[e00]at R;have run:=Zj3 (CX:=cO) (E:=E0) (Q:=λv H'=>∃G1,Stp f (cut cs G') (cut cs H) G1 H'/\Sub G1 H'/\G1 f=none/\H' f=some (.frz ⟨fc,fdd,.func fd,osl⟩<|.own 0)/\Dn G1 v d) hr (e0.cut LH) S (cel hf) rfl F (cel<|sH _ _<|sG _ _ gc) dc hq C r hl.1 (he f A outer s (cut cs H) _<|hr.deeper _).nox ⟨f,_,_,_,_,_,R,by rw[hl.2];intro v G1 H1 s1 w1 d1;obtain⟨o1,h1,h2⟩:=w1.pen;have h2:o1=.frz ⟨fc,fdd,.func fd,osl⟩ (.own 0):=h2;exact⟨G1,s1,w1.sub,w1.gpa,h1.trans<|by rw[h2],d1⟩⟩
 refine Ed run λrr s' hz=>?_;cases rr with
 |error x=>exact hz
 | ok fl =>
  cases fl with
  |next=>exact hz
  |brk=>exact hz
  |cont=>exact hz
  | ret u =>
   obtain⟨v,H',os,bare,un,ok',r,q⟩:=hz;obtain⟨G1,s1,sub1,gf1,hf1,d1⟩:=q;have nG:∀b∈cs,G1 b=none:=λb hb=>by
    cases e:G1 b with
    |none=>rfl
    | some u =>
     have:=sub1 b u e;rw[nC un b hb]at this;cases this
   refine CE.glue LH e0 ⟨v,H',os,bare,un,ok',r,L2.glue cs G' G1,⟨λb o h=>?_,λb o h=>?_,λb o h hn=>?_⟩,λb o h=>?_,?_,?_,d1.mono λb o h=>?_⟩
   ·by_cases z:b∈cs
    ·rw[ju z];exact h
    ·rw[dM z];exact s1.gs b o<|by rw[bT z];exact h
   ·by_cases z:b∈cs
    ·rw[ju z]at h;exact .inl h
    ·rw[dM z]at h;rcases s1.gn b o h with y|y|⟨y,xs',y2⟩
     ·rw[bT z]at y;exact .inl y
     ·rw[bT z]at y;exact .inr<|.inl y
     ·rw[bT z]at y2;exact .inr<|.inr ⟨y,xs',y2⟩
   ·by_cases z:b∈cs
    ·rw[ju z];exact h
    ·rw[dM z];exact s1.hk b o (by rw[bT z];exact h) hn
   ·by_cases z:b∈cs
    ·rw[ju z]at h ⊢;exact sH _ _ h
    ·rw[dM z]at h ⊢;exact sub1 _ _ h
   ·rw[dM fcs];exact gf1
   ·rw[dM fcs];exact hf1
   ·by_cases z:b∈cs
    ·rw[nG b z]at h;cases h
    ·rw[dM z];exact h
end
def tS(n k j:Nat)(s:Dl)(ix:EQ Nat)(t:Di):EQ Sl->ER WF:=λas=>match s (as++List.replicate k .un)with
 |.ret (.next ρ)=>(pK ix<|fz j ρ).map (f9 n t)
 |_=>none
def WayH(P:EW)(w:EX)(K:Dh)(mg:Dy)(base:EZ)(kk:Nat)(H:Hp)(pa:EV)(v:V)(F:WF):Prop :=
 ∃(f:EV)(o:HO)(G0:Hp),v=.ref f/\H f=some o/\f≠pa/\Sub G0 H/\G0 f=none/\G0 pa=none/\WayD P w K mg base kk o G0 F
def WayH.step{P:EW}{w:EX}{K:Dh}{mg:Dy}{base:EZ}{pa:EV}{F:WF}(h:WayH P w K mg base kk H pa v F)(st:Stp pa G H G' H'):WayH P w K mg base kk H' pa v F:=by obtain⟨f,o,G0,e,h1,h2,h3,h4,h5,h6⟩:=h;exact⟨f,o,G0,e,st.hk _ _ h1 h2,h2,λb u z=>st.hk _ _ (h3 b u z) (λy=>by rw[y,h5]at z;cases z),h4,h5,h6⟩
def qq(P:EW)(w:EX)(K:Dh)(mg:Dy)(base:EZ)(kb:Nat)(PK:Pk)(n:Nat)(mk:EQ Sl->ER WF):Sp:=λvs H Q _=>vs.length=n/\∃pa m G as F,Wd PK pa m G H/\ArsOk pa G vs as/\mk as=some F /\
 ∀v H2,Stp pa G H G H2->Wd PK pa m G H2->WayH P w K mg base kb H2 pa v F->Q v H2
section
variable{P:EW}{w:EX}{K:Dh}{mg:Dy}{base:EZ}{PK:Pk}
open Classical in
def ZcS{st:E3}{N ps pl NF:Dw}{ix:EQ Nat}{c0 Pt:EV}{j:Nat}{s:Dl}{t:Di}{e:E1}{scope:Scope}
  (D:DefK K mg x st ps c0 Pt) (S:FnScope N ps (az st)) (hk:N.length-ps.length=k) (low:PkLow PK) (hPK:∀o G m,PK.is o G m->∃ps,G Pt=some (.cod ps)) (hfz:∀o G m,PK.is o G m->∃vs,o=.lst vs) (d:LamDP N (az st) scope pl NF ix)
  (Ff:∀(f:EV)(A:EY)(outer:EQ Env)(sh:EU)(H:Hp)(E:XK),Room kk (A.deeper<|envOfC x (az st) sh.heap.objs.size f<|.ref c0) ->
   PSL (eI cO P w K mg base N x (az st) f (.ref c0) A outer sh H E).nox (db st) (ZaF (bg PK s)<|v7<|ZaM (envOfC x (az st) sh.heap.objs.size f<|.ref c0).cells Pt pl e scope))
  (he:∀(o0:HO)(cl:EQ (Str×EV))(q:Str)(f c:EV)(A:EY)(outer:EQ Env)(s:EU)(H:Hp)(E:XK),Room kb (A.deeper<|jA scope cl q s.heap.objs.size f<|.ref c)->PE (rC cO P w K mg base (pl++NF) scope cl q f (.ref c) A outer s H E).nox e (TAe (vG o0) t)) :
  Callee P w K mg base x (kk+1) ps (qq P w K mg base (kb+1) PK ps.length<|tS pl.length k j s ix t):=by
 obtain⟨fa,oc,od,kV,doc,pm,an,ct,osl,hm,lk,hkp,hbd⟩:=D.ex;refine⟨fa,_,?_,hm,hkp,hbd⟩;refine ZkH lk D.cd S (λvs H Q E h=>h.1) λA outer sh H vs Q E hr h=>⟨_,(Ff fa A outer sh H E hr).nox,?_⟩;obtain⟨hv,pa,m,G,as,F,wd,ar,hF,hQ⟩:=h;unfold tS at hF
 split at hF
 ·rename_i ρ' hs;cases hc:pK ix (fz j ρ')with
  |none=>rw[hc]at hF;cases hF
  | some caps =>
   rw[hc]at hF;cases hF;refine⟨pa,G,H,m,as++List.replicate k .un,G,Rl.start wd ar<|by rw[hv];exact hk,?_⟩
   rw[hs];intro σ' G1 H1 sb R1;obtain⟨G2,sb2,R2⟩:=R1.freeze j;obtain⟨cv,dv,hvl,hvs⟩:=ZeN R2 hc;obtain⟨o1,ho1,hi1⟩:=R1.wd.pen;obtain⟨ps0,hP0⟩:=hPK o1 G1 m hi1;refine⟨⟨ps0,R1.wd.sub _ _ hP0⟩,λf c cl fo oc' fd as' qn tk H1' a1 a2 a3 a4 a5 a6 a7 a8 a9 H2 ca=>?_⟩;obtain⟨fc,fdd,fdat,fsl⟩:=fo;have a2:fdat=.func fd:=a2;subst a2;have up1:∀b o,H1 b=some o->H1' b=some o:=λb o h=>by
    rcases a8 with rfl|⟨n1,rfl⟩
    ·exact h
    ·rw[aA<|cg h n1];exact h
   have up:∀b o,H1' b=some o->upd H1' f (.frz ⟨fc,fdd,.func fd,fsl⟩<|.own 0) b=some o:=λb o h=>by rw[aA<|cg h a9];exact h
   have hcs:∀b u,upd H1' f (.frz ⟨fc,fdd,.func fd,fsl⟩<|.own 0) b=some u->b∉cr (envOfC x (az st) sh.heap.objs.size fa<|.ref c0)/\H2 b=some u:=λb u h=>by
    rw[<- ca.cut]at h;have hb:b∉cr (envOfC x (az st) sh.heap.objs.size fa<|.ref c0):=λz=>by rw[eU z]at h;cases h
    rw[bT hb]at h;exact⟨hb,h⟩
   have toH2:∀b o,H1 b=some o->b∉cr (envOfC x (az st) sh.heap.objs.size fa<|.ref c0)/\H2 b=some o:=λb o h=>hcs b o<|up b o<|up1 b o h;have hf2:=hcs f _ bv;have hc2:=hcs c _<|up c _ a5;have fne:f≠c:=λz=>by rw[z,a5]at a9;cases a9
   generalize hG:(λb=>if b∈cr (envOfC x (az st) sh.heap.objs.size fa<|.ref c0)then H2 b else if b=c then some (.frz oc'<|.own 0)else G2 b:Hp)=G3
   have g_in:∀b,b∈cr (envOfC x (az st) sh.heap.objs.size fa<|.ref c0)->G3 b=H2 b:=λb hb=>by rw[<- hG];exact DD hb
   have g_c:G3 c=some (.frz oc'<|.own 0):=by rw[<- hG];show(if _ then _ else _)=_;rw[DF hc2.1,DD rfl]
   have g_out:∀b,b∉cr (envOfC x (az st) sh.heap.objs.size fa<|.ref c0)->b≠c->G3 b=G2 b:=λb hb hn=>by rw[<- hG];show(if _ then _ else _)=_;rw[DF hb,DF hn]
   have s23:Sub G2 G3:=λb o h=>by
    have h1:=R2.wd.sub b o h;have hb:=(toH2 b o h1).1;by_cases z:b=c
    ·subst z;have:=up1 b o h1;rw[a5]at this;cases this;exact g_c
    ·rw[g_out b hb z];exact h
   have s3H:Sub G3 H2:=λb o h=>by
    by_cases hb:b∈cr (envOfC x (az st) sh.heap.objs.size fa<|.ref c0)
    ·rw[g_in b hb]at h;exact h
    ·by_cases z:b=c
     ·subst z;rw[g_c]at h;cases h;exact hc2.2
     ·rw[g_out b hb z]at h;exact(toH2 b o<|R2.wd.sub b o h).2
   have g3f:G3 f=none:=by
    rw[g_out f hf2.1 fne];cases e:G2 f with
    |none=>rfl
    | some u =>
     have:=up1 f u<|R2.wd.sub f u e;rw[a9]at this;cases this
   have sG1:Sub G G1:=R1.st.gs;have fpa:f≠pa:=λz=>by have:=up1 pa o1 ho1;rw[<- z,a9]at this;cases this
   have st2:Stp pa G H G H2:=⟨λ_ _ h=>h,λ_ _ h=>.inl h,λb o h hn=>(toH2 b o<|R1.st.hk b o h hn).2⟩;have wd2:Wd PK pa m G H2:=⟨λb o h=>(toH2 b o<|R1.wd.sub b o<|sG1 b o h).2,wd.gpa,o1,(toH2 pa o1 ho1).2,by obtain⟨o0,ho0,hi0⟩:=wd.pen;exact low.low hi0 sG1 hi1⟩
   have cpa:pa≠c:=λz=>by have:=up1 pa o1 ho1;rw[z,a5]at this;cases this;obtain⟨vs',e'⟩:=hfz _ _ _ hi1;cases e'
   have g3p:G3 pa=none:=by rw[g_out pa (toH2 pa o1 ho1).1 cpa];exact R2.wd.gpa
   refine hQ (.ref f) H2 st2 wd2 ⟨f,_,G3,rfl,hf2.2,fpa,s3H,g3f,g3p,?_⟩;refine ZfS d.sc a1 a6 a7 (λx y a h1 h2=>ca.inj x y a (a3 x a h1)<|a3 y a h2) g_c (λa ha=>?_) (λx a h=>yh<|a3 x a h) (by rw[hvl,d.ln]) (λi y hy=>?_) (dv.mono s23) λf A outer s H E hr=>he _ cl _ f c A outer s H E hr
   ·obtain⟨o,v,e1,e2⟩:=ca.lent a ha;exact⟨o,v,by rw[g_in a ha];exact e1,e2⟩
   ·obtain⟨fr,cel⟩:=d.all y<|AD hy;obtain⟨a,ha⟩:=a4 (y,.free) (AT fr) rfl;obtain⟨jx,hj,hNj⟩:=d.at' i y hy;obtain⟨v,h1,h2⟩:=hvs i jx hj;obtain⟨o,u,e3,e4,e5⟩:=ca.at' jx y v a hNj h2 cel<|a3 y a ha;refine⟨a,o,ha,by rw[g_in a<|yh<|a3 y a ha];exact e3,λv' hv'=>?_⟩
    rw[h1]at hv';cases hv';exact⟨u,e5,e4⟩
 ·cases hF
end
section
variable{P:EW}{w:EX}{K:Dh}{mg:Dy}{base:EZ}
def WayD.mono{F:WF}(h:WayD P w K mg base kk o G F)(s:Sub G G'):WayD P w K mg base kk o G' F :=
 ⟨h.1,λf A outer s' H G2 vs us xs d hr e0 sG=>h.2 f A outer s' H G2 vs us xs d hr e0 λb o z=>sG b o<|s b o z⟩
noncomputable def f8(P:EW)(w:EX)(K:Dh)(mg:Dy)(base:EZ)(kk:Nat)(o0:HO)(F:WF):Pk where
 is o G _:=o=o0/\WayD P w K mg base kk o0 G F
 mono:=λs h=>⟨h.1,h.2.mono s⟩
def qI{o0:HO}{F:WF}:PkLow (f8 P w K mg base kk o0 F):=⟨λh _ h'=>⟨h'.1,h.2⟩⟩
end
def vn(F:WF)(j:Nat)(i:Dj):Di:=λρ=>match ρ[j]? with
 |some .pen=>(i ρ).bind λxs=>Tr.of (F xs)
 |_=>.fail
def ZnV{o0:HO}{F:WF}{j:Nat}{e:E1}{es:EQ E1}{i:Dj}{p pos:Pos}(hr:Room kk X.A)(hj:X.N[j]?=some x)(hv:gZ X.env.scope x)(ha:PA X (e::es) (TAd (f8 X.prog X.w X.K X.mg X.base kk o0 F) i))
  (Fn:(x==("__debug__":Str))=false:=by decide) (Fo:(x==("__classdict__":Str))=false:=by decide)
  (he:starEach (e::es) X.env=(false,eval e X.env)::starEach es X.env:=by rfl) (Fc:(backTo pos<|starEach es X.env).any (·.1)=false:=by rfl) :
  PE X (.Call (.Name x p) (e::es) [] pos) (TAe (f8 X.prog X.w X.K X.mg X.base kk o0 F)<|vn F j i):=by
 intro pins s σ H Q I h;obtain⟨pa,DA,H₀,m,ρ,G,R,z⟩:=h;unfold vn at z
 split at z
 ·rename_i hx;obtain⟨o,h1,h2⟩:=R.sl j _ hx;cases h2;refine Em (ZjT I hj hv h1 (λu r=>?_) Fn Fo);obtain rfl:u=.ref pa:=r;obtain⟨oP,hoP,eo,⟨oc,od,fd,osl,eW⟩,_⟩:=R.wd.pen;refine ZmW (oc:=oc) (od:=od) (fd:=fd) (osl:=osl) (thn (ha pos pins s σ H (λvs H1=>∃G1 m1 xs d,Stp pa G H G1 H1/\Wd (f8 X.prog X.w X.K X.mg X.base kk o0 F) pa m1 G1 H1/\DnAll G1 vs xs/\F xs=some d/\Kn (f8 X.prog X.w X.K X.mg X.base kk o0 F) pa m1 G H d Q) I ⟨pa,DA,H₀,m,ρ,G,R,Tr.ok_mono (Tr.ok_bind.mp z) λm1 xs q vs G1 H1 s1 w1 d1=>by obtain⟨y,hy,k⟩:=Tr.ok_of q;exact⟨G1,m1,xs,y,s1,w1,d1,hy,k⟩⟩) λus s1 hz=>?_) he Fc
  obtain⟨vs,H1,I1,r,G1,m1,xs,d,st1,w1,d1,hF,kn⟩:=hz;obtain⟨o1,ho1,rfl,W⟩:=w1.pen;refine⟨by rw[eW]at ho1;exact(I1.hok pa _ ho1).1,?_⟩
  refine wpAny_call (Ed (W.2 pa X.A X.stack s1 H1 G1 vs us xs d hr I1.env0 (λ_ _ h=>h) w1.sub w1.gpa ho1 r d1 hF) λrr s' hq=>?_);cases rr with
  |error ex=>exact False.elim hq
  | ok fl =>
   cases fl with
   |next=>exact False.elim hq
   |brk=>exact False.elim hq
   |cont=>exact False.elim hq
   | ret u =>
    obtain⟨v,H',os,bare,un,ok',r',G2,s2,sb2,g2,h2,d2⟩:=hq;refine I1.after ⟨v,H',os,bare,un,ok',r',?_⟩;exact kn v G2 H' (st1.trans s2 w1.some) ⟨sb2,g2,_,h2,rfl,W.mono s2.gs⟩ d2
 ·exact z.elim
def sC(P:EW)(w:EX)(K:Dh)(mg:Dy)(base:EZ)(kb n:Nat)(f:WF->EQ Sl->Tr Re):Sp:=λvs H Q E=>vs.length=n/\∃o0 F,zp (f8 P w K mg base kb o0 F) n (f F) vs H Q E
def Zn3{st:E3}{P:EW}{w:EX}{K:Dh}{mg:Dy}{base:EZ}{N ps:Dw}{s:WF->EQ Sl->Tr Ou}(D:Def K mg x st ps)(S:FnScope N ps (az st))(hk:N.length-ps.length=k)
  (Ff:∀(o0:HO)(F:WF)(f:EV)(E7:ET)(A:EY)(outer:EQ Env)(sh:EU)(H:Hp)(E:XK),Room kk (A.deeper<|envOfC x (az st) sh.heap.objs.size f E7) ->
   PSs (eI cO P w K mg base N x (az st) f E7 A outer sh H E).nox (db st) (bg (f8 P w K mg base kb o0 F)<|s F)):Callee P w K mg base x (kk+1) ps (sC P w K mg base kb ps.length λF=>bd ps.length k<|s F):=by
 refine D.ok S (λvs H Q E h=>h.1) λf E7 A outer sh H vs Q E hr hsp=>?_;obtain⟨_,o0,F,hv,pa,m,G,as,wd,ar,z⟩:=hsp;refine⟨_,Ff o0 F f E7 A outer sh H E hr,?_⟩;unfold bd at z;obtain⟨_,z⟩:=c6 z;refine⟨pa,G,H,m,_,G,Rl.start wd ar<|by rw[hv];exact hk,Tr.ok_mono (Tr.ok_bind.mp z) λm1 o ko=>?_⟩
 cases o with
 |next ρ=>exact λσ G1 H1 sb R1=>ko .non G1 H1 R1.st R1.wd .non
 |ret r=>exact ko
 |brk ρ=>exact ko.elim
 |cont ρ=>exact ko.elim
section
variable{P:EW}{w:EX}{K:Dh}{mg:Dy}{base:EZ}
def WaysH(P:EW)(w:EX)(K:Dh)(mg:Dy)(base:EZ)(kk:Nat)(H:Hp)(pa:EV)(vs:Dx)(Fs:EQ WF):Prop :=
 vs.length=Fs.length/\∀(i:Nat)(v:V)(F:WF),vs[i]?=some v->Fs[i]?=some F->WayH P w K mg base kk H pa v F
theorem WaysH.step{kk:Nat}{G H G' H':Hp}{pa:EV}{vs:Dx}{Fs:EQ WF}(h:WaysH P w K mg base kk H pa vs Fs)(st:Stp pa G H G' H'):WaysH P w K mg base kk H' pa vs Fs:=⟨h.1,λi v F a b=>(h.2 i v F a b).step st⟩
def WaysH.append{pa:EV}{us:Dx}{Fs Gs:EQ WF}(h:WaysH P w K mg base kk H pa vs Fs)(h':WaysH P w K mg base kk H pa us Gs):WaysH P w K mg base kk H pa (vs++us) (Fs++Gs):=by
 refine⟨by rw[Aq,Aq,h.1,h'.1],λi v F a b=>?_⟩
 by_cases z:i<vs.length
 ·rw[At z]at a;rw[At<|by rw[<- h.1];exact z]at b
  exact h.2 i v F a b
 ·rw[Az<|Ba z]at a;rw[Az<|by rw[<- h.1];exact Ba z,<- h.1]at b
  exact h'.2 _ v F a b
def WaysH.nil{pa:EV}:WaysH P w K mg base kk H pa [] []:=⟨rfl,λi v F a=>by cases a⟩
def WaysH.one{pa:EV}{F:WF}(h:WayH P w K mg base kk H pa v F):WaysH P w K mg base kk H pa [v] [F]:=by
 refine⟨rfl,λi v' F' a b=>?_⟩;cases i with
 |zero=>cases a;cases b;exact h
 |succ i=>cases a
def WaysP(P:EW)(w:EX)(K:Dh)(mg:Dy)(base:EZ)(kk:Nat)(Fs:EQ WF):Hp->V->Prop:=λG v=>∃l vs,v=.ref l/\G l=some (.lst vs)/\vs.length=Fs.length /\
 ∀(i:Nat)(v:V)(F:WF),vs[i]?=some v->Fs[i]?=some F->∃f o G0,v=.ref f/\G f=some o/\Sub G0 G/\G0 f=none/\WayD P w K mg base kk o G0 F
def WaysP.mono{Fs:EQ WF}(h:WaysP P w K mg base kk Fs G v)(s:Sub G G'):WaysP P w K mg base kk Fs G' v:=by obtain⟨l,vs,e,h1,h2,h3⟩:=h;refine⟨l,vs,e,s _ _ h1,h2,λi v F a b=>?_⟩;obtain⟨f,o,G0,e,q1,q2,q3,q4⟩:=h3 i v F a b;exact⟨f,o,G0,e,s _ _ q1,λb o z=>s _ _<|q2 b o z,q3,q4⟩
end
section
variable{PK:Pk}
abbrev WyH(X:Cx)(kb:Nat):=WayH X.prog X.w X.K X.mg X.base kb
abbrev rV(X:Cx)(kb:Nat):=WaysH X.prog X.w X.K X.mg X.base kb
def vC(X:Cx)(kb:Nat)(PK:Pk)(i:EQ Sl->Tr WF):TE:=λσ H Q=>∃pa DA H₀ m ρ G,Rl PK pa DA H₀ m σ ρ G H/\(i ρ).ok m λm' F=>∀v G' H',Stp pa G H G' H'->Wd PK pa m' G' H'->WyH X kb H' pa v F->Q v H'
def rW(X:Cx)(kb:Nat)(PK:Pk)(i:EQ Sl->Tr (EQ WF)):TE:=λσ H Q=>∃pa DA H₀ m ρ G,Rl PK pa DA H₀ m σ ρ G H/\(i ρ).ok m λm' Fs=>∀p vs G' H',Stp pa G H G' H'->Wd PK pa m' G' H'->p≠pa->H' p=some (.lst vs)->rV X kb H' pa vs Fs->Q (.ref p) H'
def rP(nm:Nat)(mk:EQ Sl->ER WF)(js:Dj):EQ Sl->Tr WF:=λρ=>(js ρ).bind λxs=>if xs.length=nm then Tr.of (mk<|xs.map Sl.d)else .fail
def Ze8{nm:Nat}{ps:Dw}{mk:EQ Sl->ER WF}{js:Dj}{e:E1}{es:EQ E1}{pp pos:Pos}(C:Callee X.prog X.w X.K X.mg X.base x k ps (qq X.prog X.w X.K X.mg X.base kb PK nm mk))(hr:Room k X.A)(hg:Gl X x)(ha:PA X (e::es) (TAd PK js))
  (Fn:(x==("__debug__":Str))=false:=by decide)
  (he:starEach (e::es) X.env=(false,eval e X.env)::starEach es X.env:=by rfl) (Fc:(backTo pos<|starEach es X.env).any (·.1)=false:=by rfl):PE X (.Call (.Name x pp) (e::es) [] pos) (vC X kb PK<|rP nm mk js) :=
 (tJ C hr hg ha Fn he Fc).imp λσ H Q E4=>by obtain⟨pa,DA,H₀,m,ρ,G,R,z⟩:=E4;refine⟨pa,DA,H₀,m,ρ,G,R,Tr.ok_mono (Tr.ok_bind.mp z) λm1 xs q vs G1 H1 s1 w1 d1=>?_⟩;obtain⟨hn,q⟩:=Zjd q;obtain⟨F,hF,q⟩:=Tr.ok_of q;show qq _ _ _ _ _ _ _ _ _ (vs++[]) H1 Q E0;rw[AI];exact⟨by rw[d1.length];exact hn,pa,m1,G1,_,F,w1,zd d1,hF,λv H2 s2 w2 hw=>q v G1 H2 (s1.trans s2 w1.some) w2 hw⟩
noncomputable def zn(i:EQ Sl->Tr WF):EQ Sl->Tr (EQ WF):=λρ=>(i ρ).bind λF=>.ret [F]
def Znt{e:E1}{i:EQ Sl->Tr WF}{pos:Pos}(h:PE X e (vC X kb PK i))(hs:starEach [e] X.env=(false,eval e X.env)::starEach [] X.env:=by rfl):PE X (.List [e] pos) (rW X kb PK<|zn i) :=
 (xw<|ci h cL hs).imp λσ H Q E4=>by
  obtain⟨pa,DA,H₀,m,ρ,G,R,z⟩:=E4;refine⟨pa,DA,H₀,m,ρ,G,R,Tr.ok_mono (Tr.ok_bind.mp z) λm1 F q v G1 H1 s1 w1 hw=>?_⟩;refine⟨by show 1<=sizeLine;decide,λp hp=>?_⟩
  obtain⟨w2,s2⟩:=w1.own (o:=.lst [v]) hp;exact q p [v] G1 _ (s1.trans s2 w1.some) w2 (Ne.symm<|w1.ne hp) bv<|.one<|hw.step s2
noncomputable def kT(h:ES->Tr WF):EQ ES->Tr (EQ WF)
 | []=>.ret []
 |x::xs=>(h x).bind λy=>(kT h xs).bind λys=>.ret (y::ys)
def rQ(is:Dj)(n:Nat)(ix:EQ Nat)(g:Dp)(el:EQ Sl->Tr WF):EQ Sl->Tr (EQ WF):=λρ =>
 (is ρ).bind λxs=>if small xs.length=true then kT (λx=>(Tr.of<|g x<|blk n ix ρ).bind el) xs else .fail
variable{i:EQ Sl->Tr WF}
def ZjY{n:Nat}{ix:EQ Nat}(hn:dA n g):∀σ H Q,rW X kb PK (rQ is n ix g i) σ H Q->gb (cq PK is) n ix (λ_=>b9 PK g) (λ_=>vC X kb PK i) σ H Q:=by
 rintro σ H Q ⟨pa,DA,H₀,m,ρ,G,R,z⟩;refine⟨pa,DA,H₀,m,ρ,G,R,Tr.ok_mono (Tr.ok_bind.mp z) λm1 xs k J G1 H1 s1 w1 jo=>λB=>?_⟩;obtain⟨hs,k⟩:=c6 k;have hs:xs.length<=sizeLine:=DC hs
 let el:ES->Tr WF:=λx=>(Tr.of<|g x<|blk n ix ρ).bind i
 let W:Nat->Nat->St->EQ V->Hp->Prop:=λk mm τ ys H2=>mm=xs.length-k/\k<=xs.length/\ys.length=k/\∃m G2 Fs,Sub G1 G2/\Stp pa G H G2 H2/\Rl PK pa DA H₀ m τ (blk n ix ρ) G2 H2 /\
  rV X kb H2 pa ys Fs/\(kT el<|xs.drop k).ok m λm' zs=>∀p vs G' H',Stp pa G H G' H'->Wd PK pa m' G' H'->p≠pa->H' p=some (.lst vs)->rV X kb H' pa vs (Fs++zs)->Q (.ref p) H'
 refine⟨W,⟨xs.length,rfl,A0 _,rfl,m1,G1,[],.refl,s1,(R.step s1 w1).blk n ix,.nil,k⟩,?_⟩;rintro k mm τ ys H2 ⟨rfl,hk,hy,m2,G2,Fs,sb,st2,R2,wh,k2⟩;obtain⟨j1,j2⟩:=jo m2 G2 H2 sb R2.wd;by_cases E6:k<xs.length
 ·have hx:xs[k]?=some xs[k]:=by simp[E6]
  obtain⟨jg,jy⟩:=j1 k _ hx;refine .inr ⟨jg,by omega,λx H3 y=>?_⟩
  obtain⟨G3,s3,w3,d3⟩:=jy x H3 y;rw[Ax E6]at k2;unfold kT at k2;rw[Tr.ok_bind,Tr.ok_bind]at k2;obtain⟨ρ3,hg3,k3⟩:=Tr.ok_of k2;refine⟨pa,DA,H₀,m2,_,G3,_,ρ3,R2.step s3 w3,d3,hg3,λτ4 R4=>?_⟩;refine⟨pa,DA,H₀,m2,ρ3,G3,R4,Tr.ok_mono k3 λm5 yd k5=>?_⟩;intro v G5 H5 s5 w5 d5;have s35:=s3.trans s5 w3.some;obtain⟨pl,pk⟩:=hn _ _ _ hg3;refine⟨xs.length-(k+1),by omega,rfl,E6,by rw[Aq,hy];rfl,m5,G5,Fs++[yd],sb.trans s35.gs,st2.trans s35 R2.wd.some,?_,(wh.step s35).append<|.one d5,?_⟩
  ·refine(R4.step s5 w5).weak pl λq sl hq=>?_;by_cases FF:q<n
   ·left
    unfold blk at hq;rw[At<|by simpa using FF,AG,DD FF]at hq
    cases hq
    rfl
   ·right
    rw[pk q<|Ba FF];exact hq
  ·refine Tr.ok_mono (Tr.ok_bind.mp k5) λm6 zs k6=>?_;rw[A2];exact k6
 ·have e:k=xs.length:=by omega
  subst e;refine .inl ⟨j2,λp v H' hp ev eH=>?_⟩;subst ev eH;rw[AS]at k2;have k2:∀p vs G' H',Stp pa G H G' H'->Wd PK pa m2 G' H'->p≠pa->H' p=some (.lst vs)->rV X kb H' pa vs (Fs++[])->Q (.ref p) H':=k2;rw[AI]at k2;obtain⟨w3,s3⟩:=R2.wd.own (o:=.lst ys) hp;exact k2 p ys G2 _ (st2.trans s3 R2.wd.some) w3 (Ne.symm<|R2.wd.ne hp) bv<|wh.step s3
def Znu{e:E1}{n:Nat}{ix:EQ Nat}(h:PE X e (gb (cq PK is) n ix (λ_=>b9 PK g)<|λ_=>vC X kb PK i))(hn:dA n g):PE X e (rW X kb PK<|rQ is n ix g i):=h.imp<|ZjY hn
end
def Zih{ι:Type}{e:EQ E3}{t:ι->TS}(h:∀i,PSs X e<|t i):PSs X e (λD σ H=>∃i,t i D σ H):=λpins s σ H D I z=>by obtain⟨i,z⟩:=z;exact h i pins s σ H D I z
section
variable{PK:Pk}
def tF:Sl->Bool
 |.own _=>false
 |.dic _=>false
 |.dip _=>false
 |_=>true
noncomputable def qO:Ou->Tr Ou
 |.ret (.d<|.bool b)=>.ret (.ret<|.d<|.bool b)
 |_=>.fail
def rM(j:Nat)(W:EQ WF->Hp->V->Prop)(i1 i2:EQ Sl->Tr (EQ WF))(t:EQ WF->EQ Sl->Tr Ou):Dl:=λρ=>if (ρ.all tF&&decide (j<ρ.length))=true then
  (i1 ρ).bind λF1=>(i2 ρ).bind λF2=>if decide (F1.length+F2.length<=1000)=true then (t (F1++F2)<|ρ.set j<|.pr<|W<|F1++F2).bind qO else .fail
 else .fail
def Zja{o:Ou}{Z:Nat->Ou->Prop}(h:(qO o).ok m Z):∃b,o=.ret (.d<|.bool b)/\Z m (.ret<|.d<|.bool b):=by
 unfold qO at h
 split at h
 ·exact⟨_,rfl,h⟩
 ·exact h.elim
def ZnB{j:Nat}{i1 i2:EQ Sl->Tr (EQ WF)}{t:EQ WF->EQ Sl->Tr Ou}{st:E3}{rest:EQ E3}(low:PkLow PK)(h:PS X st (cV (hZ wT (rW X kb PK i1)<|rW X kb PK i2)<|da j))(hr:∀Fs,PSs X rest<|bg PK<|t Fs) :
  PSs X (st::rest) (bg PK<|rM j (WaysP X.prog X.w X.K X.mg X.base kb) i1 i2 t):=by
 refine(dI h<|Zih hr).imp λD σ H E4=>?_;obtain⟨pa,DA,H₀,m,ρ,G,R,z⟩:=E4;unfold rM at z;obtain⟨hp,z⟩:=c6 z;rw[AL,B7,DQ]at hp;obtain⟨Fc,hj⟩:=hp;refine⟨pa,DA,H₀,m,ρ,G,R,Tr.ok_mono (Tr.ok_bind.mp z) λm1 F1 z1 p vs G1 H1 s1 w1 npa hv ws1=>?_⟩;have R1:=R.step s1 w1;refine⟨pa,DA,H₀,m1,ρ,G1,R1,Tr.ok_mono (Tr.ok_bind.mp z1) λm2 F2 z2 q us G2 H2 s2 w2 nqa hu ws2=>?_⟩;obtain⟨hl,z2⟩:=c6 z2;have hl:=DC hl;have R2:=R1.step s2 w2;refine⟨p,q,vs,us,rfl,rfl,s2.hk _ _ hv npa,hu,?_,λr hrn=>?_⟩
 ·rw[ws1.1,ws2.1];exact Ap hl<|by rw[DV];decide
 obtain⟨w3,s3⟩:=w2.own (o:=.lst<|vs++us) hrn;have nra:r≠pa:=Ne.symm<|w2.ne hrn;have ws:rV X kb (upd H2 r<|.lst<|vs++us) pa (vs++us) (F1++F2):=((ws1.step s2).append ws2).step s3;have hr3:upd H2 r (.lst<|vs++us) r=some (.lst<|vs++us):=bv;have st3:=(R2.st.trans s3 w2.some);generalize upd H2 r (.lst<|vs++us)=H3 at *;generalize hFs:F1++F2=Fs at *
 let Gt:Hp:=λb=>if b=pa then none else H3 b
 have gt:∀b,b≠pa->Gt b=H3 b:=λb h=>DF h;have gtp:Gt pa=none:=DD rfl;have gsub:∀{G':Hp},Sub G' H3->G' pa=none->Sub G' Gt:=λ{G'} a b c o h=>by
  by_cases e:c=pa
  ·subst e;rw[b]at h;cases h
  ·rw[gt c e];exact a c o h
 have tsub:Sub Gt H3:=λb o h=>by
  by_cases e:b=pa
  ·subst e;rw[gtp]at h;cases h
  ·rw[gt b e]at h;exact h
 have g2t:Sub G2 Gt:=gsub w3.sub w3.gpa;have hWs:WaysP X.prog X.w X.K X.mg X.base kb Fs Gt (.ref r):=by
  refine⟨r,vs++us,rfl,by rw[gt r nra];exact hr3,ws.1,λi v F a b=>?_⟩
  obtain⟨f,o,G0,e,h1,h2,h3,h4,h5,h6⟩:=ws.2 i v F a b;exact⟨f,o,G0,e,by rw[gt f h2];exact h1,gsub h3 h5,h4,h6⟩
 obtain⟨o3,ho3,hi3⟩:=w3.pen;have Rt:Rl PK pa Gt H3 m2 (σ.set j<|some<|.ref r) (ρ.set j<|.pr<|WaysP X.prog X.w X.K X.mg X.base kb Fs) Gt H3:=by
  have own':∀(i:Nat)(s:Sl),(ρ.set j<|.pr<|WaysP X.prog X.w X.K X.mg X.base kb Fs)[i]?=some s->tF s=true:=λi s hi=>by
   by_cases e:j=i
   ·subst e;rw[Ay hj]at hi;cases hi
    rfl
   ·rw[Ar e]at hi;exact Fc s<|AD hi
  refine⟨⟨tsub,gtp,o3,ho3,PK.mono g2t hi3⟩,.refl,⟨o3,ho3⟩,λi s hi=>?_,by rw[AE,AE];exact R2.len,λi k xs ys _ hi _=>?_,λi k xs ys _ hi _=>?_⟩
  ·by_cases e:j=i
   ·subst e;rw[Ay hj]at hi;cases hi;exact⟨_,Ay<|by rw[<- R2.len];exact hj,.pr λG' s=>hWs.mono s⟩
   ·have pls:=own' i s hi;rw[Ar e]at hi ⊢;obtain⟨o,h1,h2⟩:=R2.sl i s hi;refine⟨o,h1,?_⟩;cases h2 with
    |un=>exact .un
    |d z=>exact .d (z.mono g2t)
    |pen=>exact .pen
    |fn=>exact .fn
    |pr z=>exact .pr λG' s=>z G' (g2t.trans s)
    |own _ _ _ _=>cases pls
    |dic _ _ _ _=>cases pls
    |dip _ _ _ _=>cases pls
  ·exact absurd (own' i _ hi)<|by intro h;cases h
  ·exact absurd (own' i _ hi)<|by intro h;cases h
 refine⟨Fs,pa,Gt,H3,m2,_,Gt,Rt,Tr.ok_mono (Tr.ok_bind.mp z2) λm4 o ko=>?_⟩;obtain⟨b,rfl,ko⟩:=Zja ko;have ko:Kr PK pa m4 DA H₀ (.d<|.bool b) D.rt:=ko;intro v G4 H4 s4 w4 d4;have d4:Dn G4 v (.bool b):=d4;cases d4;obtain⟨o4,ho4,hi4⟩:=w4.pen;obtain⟨o0,ho0,hi0⟩:=R.wd.pen;have gg:Sub G Gt:=((s1.gs.trans s2.gs).trans g2t);refine ko (.bl b) G H4 ⟨R.st.gs,R.st.gn,λc u hc hn=>s4.hk _ _ (st3.hk _ _ hc hn) hn⟩ ⟨λc u hc=>?_,R.wd.gpa,o4,ho4,low.low hi0 (gg.trans s4.gs) hi4⟩<|.bl b;have:=gg c u hc;exact s4.hk _ _ (tsub _ _ this) λe=>by rw[e,gtp]at this;cases this
end
section
variable{f:EV}{o:Obj}
def rD(hf:G f=some (.frz o<|.own 0)){b:EV}{u:HO}(h:G b=some u)(hu:∀o,u≠.frz o (.own 0)):b ∉ [f]:=λz=>by rw[Bv]at z;subst z;rw[hf]at h;cases h;exact hu _ rfl
mutual
theorem Dn.cutF(hf:G f=some (.frz o<|.own 0)):∀{v:V}{d:ES},Dn G v d->Dn (L2.cut [f] G) v d
 |_,_,.non=>.non
 |_,_,.bl b=>.bl b
 |_,_,.int i=>.int i
 |_,_,.str x=>.str x
 |_,_,.tup h r=>.tup (by rw[bT<|rD hf h λo z=>by cases z];exact h) (DnAll.cutF hf r)
 |_,_,.lst h r=>.lst (by rw[bT<|rD hf h λo z=>by cases z];exact h) (DnAll.cutF hf r)
 |_,_,.dct h r=>.dct (h.imp (λh=>by rw[bT<|rD hf h λo z=>by cases z];exact h) λ⟨o,h⟩=>⟨o,by rw[bT<|rD hf h λo z=>by cases z];exact h⟩) (DnAll.cutF hf r)
 |_,_,.dcp n h r=>.dcp n (by rw[bT<|rD hf h λo z=>by cases z];exact h)<|DnAll.cutF hf r
theorem DnAll.cutF(hf:G f=some (.frz o<|.own 0)):∀{vs:Dx}{ds:Dt},DnAll G vs ds->DnAll (L2.cut [f] G) vs ds
 |_,_,.nil=>.nil
 |_,_,.cons r t=>.cons (Dn.cutF hf r)<|DnAll.cutF hf t
end
end
def Zjc{c:Prop}{inst:Decidable c}{t:Tr α}{Z:Nat->α->Prop}(h:(@ite _ c inst t Tr.fail).ok m Z):c/\t.ok m Z:=by
 by_cases q:c
 ·rw[DD q]at h;exact⟨q,h⟩
 ·rw[DF q]at h;exact h.elim
open Classical in
def rT(jw:Nat)(W:EQ WF->Hp->V->Prop)(Fs:EQ WF)(f:WF->EQ Sl->Tr Re)(js:Dj)(ik:Di):Dm:=λρ=>if ρ[jw]?=some (.pr<|W Fs)then
  (js ρ).bind λxs=>(ik ρ).bind λi=>match i with
   | .int n=>match ba Fs n with
    | some F=>match f F (xs.map Sl.d++[.pen])with
     |.ret r=>.ret r
     |_=>.fail
    |none=>.fail
   |_=>.fail
 else .fail
def Znz{xs:EQ α}{ys:EQ β}(h:xs.length=ys.length){n:Int}{y:β}(e:ba ys n=some y):∃(k:Nat)(x:α),ba xs n=some x/\xs[k]?=some x/\ys[k]?=some y:=by
 unfold ba at e ⊢;rw[h];cases hk:b7 ys.length n with
 |none=>rw[hk]at e;cases e
 | some k =>
  rw[hk]at e;have e:ys[k]?=some y:=e;have E6:k<xs.length:=by rw[h];exact(Ad.mp e).1
  exact⟨k,xs[k],by show xs[k]?=_;simp[E6],by simp[E6],e⟩
section
variable{PK:Pk}{e e1:E1}{es:EQ E1}
def ZnL{jw:Nat}{ps:Dw}{Fs:EQ WF}{f:WF->EQ Sl->Tr Re}{js:Dj}{ik:Di}{pp pos:Pos}
  (C:Callee X.prog X.w X.K X.mg X.base x k ps (sC X.prog X.w X.K X.mg X.base kb ps.length f)) (hlen:∀F as m Z,(f F as).ok m Z->as.length=ps.length) (hr:Room k X.A) (hg:Gl X x)
  (hL:∀o G m,PK.is o G m->∃vs,o=.lst vs)
  (ha:PA X (e::es) (vD PK js<|hZ (sP X.K) (fb jw)<|TAe PK ik))
  (Fn:(x==("__debug__":Str))=false:=by decide)
  (he:starEach (e::es) X.env=(false,eval e X.env)::starEach es X.env:=by rfl) (Fc:(backTo pos<|starEach es X.env).any (·.1)=false:=by rfl) :
  PE X (.Call (.Name x pp) (e::es) [] pos) (p7 PK<|rT jw (WaysP X.prog X.w X.K X.mg X.base kb) Fs f js ik) :=
 (tJ C hr hg ha Fn he Fc).imp λσ H Q E4=>by
  obtain⟨pa,DA,H₀,m,ρ,G,R,z⟩:=E4;unfold rT at z;obtain⟨hw,z⟩:=Zjc z;refine⟨pa,DA,H₀,m,ρ,G,R,Tr.ok_mono (Tr.ok_bind.mp z) λm1 xs q1 vs G1 H1 s1 w1 d1=>?_⟩;have R1:=R.step s1 w1;obtain⟨o,hσ,hso⟩:=R1.sl jw _ hw;cases hso with
  |@pr v _ hpr =>
  refine⟨v,hσ,pa,DA,H₀,m1,ρ,G1,R1,Tr.ok_mono (Tr.ok_bind.mp q1) λm2 i q2 u G2 H2 s2 w2 d2=>?_⟩
  split at q2
  ·rename_i n;cases d2
   split at q2
   ·rename_i F hF
    split at q2
    ·rename_i y hf;obtain⟨l,ws,rfl,hl,hlen',hws⟩:=hpr G2 s2.gs;obtain⟨k',v',hat,e1',e2'⟩:=Znz hlen' hF;obtain⟨fa,o,G0,rfl,hfa,hG0,hf0,W⟩:=hws k' v' F e1' e2';refine⟨l,ws,n,.ref fa,rfl,rfl,SqL.of<|w2.sub _ _ hl,hat,?_⟩;obtain⟨⟨oc,od,fd,osl,rfl⟩,_⟩:=id W;have cutsub:Sub (L2.cut [fa] G2) G2:=λb u h=>by
      by_cases zb:b∈[fa]
      ·rw[eU zb]at h;cases h
      ·rw[bT zb]at h;exact h
     have fapa:fa≠pa:=λz=>by have:=w2.gpa;rw[<- z,hfa]at this;cases this
     have nfa:∀{b:EV},b≠fa->b ∉ [fa]:=λh z=>h<|Bv.mp z;have h0c:Sub G0 (L2.cut [fa] G2):=λb u h=>by
      rw[bT<|nfa λz=>by rw[z,hf0]at h;cases h]
      exact hG0 b u h
     show sC _ _ _ _ _ _ _ _ ((vs++[.ref fa])++[]) H2 Q E0;rw[AI];have har:ArsOk fa (L2.cut [fa] G2) (vs++[.ref fa]) (xs.map Sl.d++[.pen]):=Zfg<|DnAll.cutF hfa<|d1.mono s2.gs;have hok:(f F<|xs.map Sl.d++[.pen]).ok m2 λm' r=>Kr (f8 X.prog X.w X.K X.mg X.base kb (.frz ⟨oc,od,.func fd,osl⟩<|.own 0) F) fa m' (L2.cut [fa] G2) H2 r Q:=by
      rw[hf];intro v3 G3 H3 s3 w3 d3;obtain⟨o3,ho3,⟨rfl,_⟩⟩:=w3.pen;obtain⟨op,hop,hip⟩:=w2.pen;have hk3:∀b u,H2 b=some u->H3 b=some u:=λb u h=>by
       by_cases zb:b=fa
       ·subst zb;have:=w2.sub _ _ hfa;rw[this]at h;rw[ho3];exact h
       ·exact s3.hk b u h zb
      have gne:∀b u,G3 b=some u->b≠fa:=λb u h z=>by rw[z,w3.gpa]at h;cases h
      have up3:Sub G3 (upd G3 fa<|.frz ⟨oc,od,.func fd,osl⟩<|.own 0):=λb u h=>by rw[aA<|gne b u h];exact h
      have g3pa:G3 pa=none:=by
       cases ee:G3 pa with
       |none=>rfl
       | some u =>
        rcases s3.gn pa u ee with y1|y1|⟨_,us,y1⟩
        ·have:=cutsub _ _ y1;rw[w2.gpa]at this;cases this
        ·rw[hop]at y1;cases y1
        ·rw[hop]at y1;obtain⟨vs',e'⟩:=hL _ _ _ hip;rw[e']at y1;cases y1
      have sg:Sub G2 (upd G3 fa<|.frz ⟨oc,od,.func fd,osl⟩<|.own 0):=λb u h=>by
       by_cases zb:b=fa
       ·subst zb;rw[hfa]at h;rw[bv];exact h
       ·rw[aA zb];exact s3.gs b u<|by rw[bT<|nfa zb];exact h
      have k2:Kr PK pa m2 G2 H2 y Q:=Kr.later q2 (s1.trans s2 w1.some) w2.some;have d4:Zfx H2 (upd G3 fa<|.frz ⟨oc,od,.func fd,osl⟩<|.own 0) H3 v3 y:=by
       cases y with
       |d x=>exact Dn.mono up3 d3
       | own xs' =>
        obtain⟨p,us,e1,e2,e3,e4,e5⟩:=d3;refine⟨p,us,e1,e2,?_,e4,DnAll.mono up3 e5⟩;rw[aA<|λz=>by rw[z,w2.sub _ _ hfa]at e4;cases e4]
        exact e3
      refine k2 v3 (upd G3 fa<|.frz ⟨oc,od,.func fd,osl⟩<|.own 0) H3 ⟨sg,λb u h=>?_,λb u h _=>hk3 b u h⟩ ⟨λb u h=>?_,by rw[aA<|Ne.symm fapa];exact g3pa,op,hk3 _ _ hop,PK.mono sg hip⟩ d4
      ·by_cases zb:b=fa
       ·subst zb;rw[bv]at h;exact .inl<|hfa.trans h
       ·rw[aA zb]at h;rcases s3.gn b u h with y1|y1|⟨_,us,y1⟩
        ·exact .inl<|cutsub _ _ y1
        ·exact .inr<|.inl y1
        ·refine .inr (.inr ⟨λz=>?_,us,y1⟩);rw[z,hop]at y1;obtain⟨vs',e'⟩:=hL _ _ _ hip;rw[e']at y1;cases y1
      ·by_cases zb:b=fa
       ·subst zb;rw[bv]at h;rw[ho3];exact h
       ·rw[aA zb]at h;exact w3.sub b u h
     have hlv:(vs++[V.ref fa]).length=ps.length:=by rw[har.length];exact hlen _ _ _ _ hok
     exact⟨hlv,_,F,hlv,fa,m2,L2.cut [fa] G2,_,⟨λb u h=>w2.sub b u<|cutsub b u h,eU<|Bv.mpr rfl,_,w2.sub _ _ hfa,rfl,W.mono h0c⟩,har,hok⟩
    ·exact q2.elim
   ·exact q2.elim
  ·exact q2.elim
end
variable{s:Dl}{kx:Di}{is1:Dj}{n a b:Nat}{ix:EQ Nat}{xs ys:Dt}
theorem dE{α:Type}{h:ES->Tr ES}{f g:α->ES}:∀{l:EQ α},(∀x∈l,h (f x)=.ret (g x))->aX h (l.map f)=.ret (l.map g)
 | [],_=>rfl
 | x::l,e=>by
  rw[Af,aX,e x<|Aj ..,Tr.ret_bind,dE λy hy=>e y<|Ab _ hy]
  rfl
def Zdb{el:Di}{x:ES}{f g:α->ES}{l:EQ α}(h1:is1 (ρ.set a<|.d x)=.ret (l.map f))(h2:l.length<=100)(h3:∀y∈l,el ((ρ.set a<|.d x).set b<|.d<|f y)=.ret (g y)):iE a is1 b el ρ x=.ret (l.map g):=by
 unfold iE;rw[h1,Tr.ret_bind,DD<|DE<|by rw[v9];exact h2]
 exact dE h3
theorem ZcW{α:Type}{h:ES->Tr Dt}{f:α->ES}{g:α->EQ ES}:∀{l:EQ α},(∀x∈l,h (f x)=.ret (g x))->iz h (l.map f)=.ret (l.flatMap g)
 | [],_=>rfl
 | x::l,e=>by
  rw[Af,iz,e x<|Aj ..,Tr.ret_bind,ZcW λy hy=>e y<|Ab _ hy]
  rfl
def Zda{el:Di}{f:α->ES}{g:α->EQ ES}{l:EQ α}(h1:is ρ=.ret (l.map f))(h2:l.length<=100)(h3:∀x∈l,iE a is1 b el (blk n ix ρ) (f x)=.ret (g x)):pY is n ix a is1 b el ρ=.ret (l.flatMap g):=by
 unfold pY;rw[h1,Tr.ret_bind,DD<|DE<|by rw[v9];exact h2]
 exact ZcW h3
noncomputable def eF(p:Du×ES):ES:=.tuple [.tuple<|p.1.map PyData.int,p.2]
def Zid{kvs:EQ (Du×ES)}{k:Du}{v:ES}(h:k∉kvs.map (·.1)):ij kvs k v=kvs++[(k,v)]:=by unfold ij;rw[DF];intro e;obtain⟨p,hp,e⟩:=List.any_eq_true.mp e;exact h<|by rw[<- DC e];exact List.mem_map_of_mem hp
theorem yG:∀{l kvs:EQ (Du×ES)},kvs++l≠[]->((kvs++l).map (·.1)).Nodup->cX kvs (l.map eF)=some (pD<|kvs++l)
 | [],kvs,h,_=>by rw[AI]at h ⊢;unfold cX;rw[Bo];dsimp only;rw[DF];intro e;exact h (List.isEmpty_iff.mp e)
 | p::l,kvs,h,nd=>by
  rw[Af];unfold eF cX;rw[ints?_map];show cX (ij kvs p.1 p.2) (l.map eF)=_;have hn:p.1∉kvs.map (·.1):=λz=>by rw[BE,List.nodup_append]at nd;exact nd.2.2 _ z _ (by rw[Af];exact Aj ..) rfl
  rw[Zid hn];have e:kvs++[(p.1,p.2)]++l=kvs++p::l:=by rw[A2];rfl
  rw[yG (l:=l) (kvs:=kvs++[(p.1,p.2)]) (by rw[e];exact h)<|by rw[e];exact nd,e]
def yI{f:α->ES}{kv:α->EQ Int×ES}{l:EQ α}(h1:is ρ=.ret (l.map f))(h2:l.length<=10000)(h0:l≠[])(nd:(l.map λx=>(kv x).1).Nodup)
  (h3:∀x∈l,(Tr.of<|g (f x)<|blk n ix ρ).bind (gS kx i)=.ret (eF<|kv x)):iW is n ix g kx i ρ=.ret (pD<|l.map kv):=by
 unfold iW;rw[h1,Tr.ret_bind,DD<|bD<|by rw[v9];exact h2,dE (g:=λx=>eF<|kv x) h3,Tr.ret_bind]
 have e:l.map (λx=>eF<|kv x)=(l.map kv).map eF:=by rw[Av];rfl
 rw[e,yG (kvs:=[])]
 ·rfl
 ·intro z;exact h0<|Cc.mp z
 ·rw[Br,Av];exact nd
def yD{ns:Du}{v:ES}(h1:kx τ=.ret (.tuple<|ns.map PyData.int))(h2:i τ=.ret v):gS kx i τ=.ret (eF (ns,v)):=by
 unfold gS;rw[h1,Tr.ret_bind];unfold yE;dsimp only;rw[ints?_map];dsimp only;rw[h2]
 rfl
def Zk4{l:EQ (Du×ES)}(h0:l≠[])(nd:(l.map (·.1)).Nodup):bz rA [.list<|l.map eF]=.ret (pD l):=by
 show Tr.of (cX []<|l.map eF)=_;rw[yG (kvs:=[]) h0 nd]
 rfl
theorem ZdE:∀{l:EQ (Du×ES)}{k:Du}{v:ES},(l.map (·.1)).Nodup->(k,v)∈l->eR (l.map λkv=>(PyData.tuple<|kv.1.map PyData.int,kv.2)) k=some v
 | [],_,_,_,h=>by cases h
 | p::l,k,v,nd,h=>by
  rw[Af]at nd ⊢;unfold eR;rw[Bu];dsimp only;rw[ints?_map];rcases Au.mp h with e|h
  ·subst e;rw[DE rfl]
   rfl
  ·have hn:p.1≠k:=λe=>by rw[<- e]at h;exact(Bg.mp nd).1 (AM.mpr ⟨_,h,rfl⟩)
   rw[DG λz=>hn<|AA z];exact ZdE (Bg.mp nd).2 h
def ZdU{l:EQ (Du×ES)}{k:Du}{v:ES}(nd:(l.map (·.1)).Nodup)(h:(k,v)∈l):aL cT (pD l) (.tuple<|k.map PyData.int)=.ret v:=by
 show Tr.of ((ints?<|k.map PyData.int).bind<|eR _)=_;rw[ints?_map];show Tr.of (eR _ k)=_;rw[ZdE nd h]
 rfl
theorem yb:∀l:EQ (Du×ES),fq (l.map λkv=>(PyData.tuple<|kv.1.map PyData.int,kv.2))=some (l.map (·.1))
 | []=>rfl
 | p::l=>by
  rw[Af];unfold fq;rw[ints?_map,yb l]
  rfl
def yf(x:ES):Tr Dt:=Tr.of<|uA x
def ZdT:vA i ρ=(i ρ).bind yf:=rfl
def Zk3{l:EQ (Du×ES)}(h:l≠[]):yf (pD l)=.ret (l.map λkv=>PyData.tuple<|kv.1.map PyData.int):=by
 cases l with
 |nil=>exact absurd rfl h
 | cons p l =>
  show Tr.of ((fq<|(p::l).map λkv=>(PyData.tuple<|kv.1.map PyData.int,kv.2)).map _)=_;rw[yb,Option.map_some,Tr.of_some,Av]
  rfl
def ZkP{l:EQ (Du×ES)}(h:l≠[])(h1:l.length<64)(h2:ff (l.map (·.1))=true):yN j4 [pD l]=.ret (l.map λkv=>PyData.tuple<|kv.1.map PyData.int):=by
 cases l with
 |nil=>exact absurd rfl h
 | cons p l =>
  show Tr.of ((fq<|(p::l).map λkv=>(PyData.tuple<|kv.1.map PyData.int,kv.2)).bind _)=_;rw[yb];rw[Option.bind_some];rw[DD<|by rw[h2,DE<|by rw[v9];exact h1];rfl,Tr.of_some,Av]
  rfl
def ZkZ{ps:EQ Pr}(h:ps≠[]):bz tT [.list<|ps.map dm]=.ret (dm<|dO ps):=by
 show Tr.of ((prs?<|ps.map dm).bind _)=_;rw[prs?_map];rw[Option.bind_some];rw[DF λe=>h<|List.isEmpty_iff.mp e]
 rfl
def Znp:∀{ps:EQ Pr},ps≠[]->dO ps∈ps
 | [],h=>absurd rfl h
 | x::r,_=>by
  have key:∀(r:EQ Pr)(b:Pr),r.foldl (λb y=>if HT.bR y b=true then y else b) b=b\/r.foldl (λb y=>if HT.bR y b=true then y else b) b∈r:=by
   intro r
   induction r with
   |nil=>intro b;exact .inl rfl
   | cons y r ih =>
    intro b;rw[Bt];rcases ih (if HT.bR y b=true then y else b)with e|e
    ·rw[e]
     split
     ·exact .inr<|Aj ..
     ·exact .inl rfl
    ·exact .inr<|Ab _ e
  show r.foldl (λb y=>if HT.bR y b=true then y else b) x∈x::r
  rcases key r x with e|e
  ·rw[e];exact Aj ..
  ·exact Ab _ e
end L2
variable{F:L2.WF}
namespace Tw
open L2
abbrev Pt:=Int×Int
noncomputable def kS(p:Pt):Du:=[p.1,p.2]
noncomputable def am(p:Pt):ES:=.tuple [.int p.1,.int p.2]
def tw(p q:Pt):Prop:=p.1<q.1\/p.1=q.1/\p.2<q.2
def fh(a b:Du):EQ Pt:=a.flatMap λx=>b.map λy=>(x,y)
def Zcu{a b:Du}{p:Pt}:p∈fh a b ↔ p.1∈a/\p.2∈b:=by
 unfold fh;rw[List.mem_flatMap];constructor
 ·rintro⟨x,hx,h⟩;obtain⟨y,hy,rfl⟩:=AM.mp h;exact⟨hx,hy⟩
 ·rintro⟨h1,h2⟩;exact⟨p.1,h1,AM.mpr ⟨p.2,h2,rfl⟩⟩
def Zin{a b:Du}(ha:a.Pairwise (· < ·))(hb:b.Pairwise (· < ·)):(fh a b).Pairwise tw:=by
 unfold fh;rw[List.pairwise_flatMap];refine⟨λx _=>?_,ha.imp λ{x y} hxy p hp q hq=>?_⟩
 ·rw[CP];exact hb.imp λh=>.inr ⟨rfl,h⟩
 ·obtain⟨u,_,rfl⟩:=AM.mp hp;obtain⟨v,_,rfl⟩:=AM.mp hq;exact .inl hxy
def ZbV(lo:Int)(n:Nat):(aF lo n).Pairwise (· < ·):=by unfold aF;rw[CP];exact List.pairwise_lt_range.imp λh=>by omega
def Zio(a b:Du)(u v:Int->Bool):(fh a b).filter (λq=>u q.1&&v q.2)=fh (a.filter u) (b.filter v):=by
 have row:∀(x:Int),(b.map λy=>(x,y)).filter (λq:Pt=>u q.1&&v q.2)=if u x=true then (b.filter v).map λy=>(x,y)else []:=λx=>by
  rw[List.filter_map];cases hu:u x with
  | true =>
   rw[DD rfl];congr 2;funext y;show(u x&&v y)=v y;rw[hu];rfl
  | false =>
   rw[DF<|by decide]
   have:∀l:Du,l.filter ((λq:Pt=>u q.1&&v q.2) ∘ λy=>(x,y))=[]:=λl=>by
    induction l with
    |nil=>rfl
    | cons y l ih =>
     rw[List.filter_cons,DF]
     ·exact ih
     ·show ¬ (u x&&v y)=true;rw[hu,C7];decide
   rw[this]
   rfl
 unfold fh
 induction a with
 |nil=>rfl
 | cons x a ih =>
  rw[CS,List.filter_append,ih,row,List.filter_cons]
  split
  ·rw[CS]
  ·rw[Br]
def ZbU(c:Int):∀(n:Nat)(lo:Int),lo<=c->(aF lo n).filter (λx=>decide (c<=x))=aF c (lo+n-c).toNat:=by
 intro n lo h;by_cases hc:c<=lo+n
 ·have e:n=(c-lo).toNat+(lo+n-c).toNat:=by omega
  have e2:lo+((c-lo).toNat:Int)=c:=by omega
  have split:aF lo n=aF lo (c-lo).toNat++aF c (lo+n-c).toNat:=by have:=wR lo (c-lo).toNat (lo+n-c).toNat;rw[<- e,e2]at this;exact this
  rw[split,List.filter_append];have f1:(aF lo (c-lo).toNat).filter (λx=>decide (c<=x))=[]:=List.filter_eq_nil_iff.mpr λx hx=>by have:=jb hx;rw[DQ];omega
  have f2:(aF c (lo+n-c).toNat).filter (λx=>decide (c<=x))=aF c (lo+n-c).toNat:=List.filter_eq_self.mpr λx hx=>by have:=jb hx;rw[DQ];omega
  rw[f1,f2]
  rfl
 ·have e:(lo+n-c).toNat=0:=by omega
  rw[e];exact List.filter_eq_nil_iff.mpr λx hx=>by have:=jb hx;rw[DQ];omega
theorem ZbJ:∀{l:EQ Pt},l.Pairwise tw->ff (l.map kS)=true
 | [],_=>rfl
 | [a],_=>rfl
 | a::b::r,h=>by
  have hab:=(List.pairwise_cons.mp h).1 b (Aj ..);have ih:=ZbJ (List.pairwise_cons.mp h).2;rw[Af,Af];rw[Af]at ih;unfold ff;rw[ih];have:iD (kS b) (kS a)=false:=by
   show(if b.1=a.1 then (if b.2=a.2 then false else decide (b.2<a.2))else decide (b.1<a.1))=false
   rcases hab with h|⟨h1,h2⟩
   ·rw[DF<|by omega,DG<|by omega]
   ·rw[DD h1.symm,DF<|by omega,DG<|by omega]
  rw[this]
  rfl
def Zkd{p q:Pt}(h:kS p=kS q):p=q:=by unfold kS at h;injection h with h1 h2;injection h2 with h2 _;exact Prod.ext h1 h2
def qY{l:EQ Pt}(h:l.Pairwise tw):(l.map kS).Nodup:=by
 unfold List.Nodup;rw[CP];refine h.imp λ{p q} hpq e=>?_;have e:=Zkd e;subst e;rcases hpq with h|⟨_,h⟩
 ·exact absurd h<|Int.lt_irrefl _
 ·exact absurd h<|Int.lt_irrefl _
section
variable(s:Shp)
def Shp.sts:EQ Pt:=fh (aF (-s.depth) s.n)<|aF (-s.depth) s.n
def Shp.rzs(p:Pt):EQ Pt:=fh (aF p.1 (s.top+1-p.1).toNat)<|aF p.2 (s.top+1-p.2).toNat
def Shp.tb(F:Int->Int->Int):EQ (Du×ES):=s.sts.map λp=>(kS p,.int<|F p.1 p.2)
def wss(g:Int->Int->Int):Nat->EQ Du->Int
 |_,[]=>0
 |i,l::ls=>ws (g i) 0 l+wss g (i+1) ls
noncomputable def aQ(day:EQ Du):Int:=(day.map List.sum).sum
noncomputable def Shp.c2(F:Int->Int->Int)(c y1 y2 i j:Int):Int:=c*(s.day y1 i+s.day y2 j)+F (s.nx y1 i) (s.nx y2 j)
def Shp.w2(day:EQ Du)(F:Int->Int->Int)(c y1 y2:Int):Int:=wss (s.c2 F c y1 y2) 0 day
def Shp.cand(W:Int->Int->Int)(c:Int)(p:Pt):EQ Pr:=(s.rzs p).map λq=>(c*s.ord (p.1+p.2) (q.1+q.2)+W q.1 q.2,kS q)
def Shp.bp(W:Int->Int->Int)(c:Int)(p:Pt):Pr:=dO<|s.cand W c p
def Shp.dk:EQ (EQ Du)->(Int->Int->Int)×Int
 | []=>(λa b=>s.fin a+s.fin b,1)
 |day::r=>(λa b=>(s.bp (s.w2 day (Shp.dk r).1 (Shp.dk r).2) ((Shp.dk r).2*aQ day) (a,b)).1,(Shp.dk r).2*aQ day)
def Shp.pick(day:EQ Du)(r:EQ (EQ Du))(p:Pt):Pr:=s.bp (s.w2 day (s.dk r).1 (s.dk r).2) ((s.dk r).2*aQ day) p
def Shp.ddayL(day:EQ Du)(r:EQ (EQ Du)):Dt:=s.sts.map λp=>.tuple [br (s.pick day r p).1 ((s.dk r).2*aQ day),.tuple<|(s.pick day r p).2.map PyData.int]
noncomputable def Shp.dtab:EQ (EQ Du)->EQ ES
 | []=>[]
 |day::r=>.tuple (s.ddayL day r)::Shp.dtab r
end
def aV(h:s.Ok){p:Pt}:p∈s.sts ↔ (-s.depth<=p.1/\p.1<=s.top)/\(-s.depth<=p.2/\p.2<=s.top):=by
 have:=h.n_eq;have key:∀x:Int,x∈aF (-s.depth) s.n ↔ -s.depth<=x/\x<=s.top:=λx=>by
  constructor
  ·intro hx;have:=jb hx;omega
  ·intro hx;unfold aF;exact AM.mpr ⟨(x+s.depth).toNat,BJ.mpr<|by omega,by omega⟩
 unfold Shp.sts;rw[Zcu,key,key]
def eM{p q:Pt}(h1:p.1<=s.top)(h2:p.2<=s.top):q∈s.rzs p ↔ (p.1<=q.1/\q.1<=s.top)/\(p.2<=q.2/\q.2<=s.top):=by
 have key:∀(a x:Int),a<=s.top->(x∈aF a (s.top+1-a).toNat ↔ a<=x/\x<=s.top):=λa x ha=>by
  constructor
  ·intro hx;have:=jb hx;omega
  ·intro hx;unfold aF;exact AM.mpr ⟨(x-a).toNat,BJ.mpr<|by omega,by omega⟩
 unfold Shp.rzs;rw[Zcu,key _ _ h1,key _ _ h2]
def jZ(s:Shp):s.sts.Pairwise tw:=Zin (ZbV _ _)<|ZbV _ _
def we(h:s.Ok):s.sts≠[]:=by have:=h.t0;have:=h.d0;exact List.ne_nil_of_mem<|(aV h (p:=(0,0))).mpr ⟨⟨by show -s.depth<=(0:Int);omega,by show(0:Int)<=s.top;omega⟩,⟨by show -s.depth<=(0:Int);omega,by show(0:Int)<=s.top;omega⟩⟩
def dX(s:Shp):s.sts.length=s.n*s.n:=by
 unfold Shp.sts fh;rw[CG];have:((aF (-s.depth) s.n).map λx=>((aF (-s.depth) s.n).map λy=>(x,y)).length)=(aF (-s.depth) s.n).map λ_=>s.n:=Be λx _=>by rw[v9,c5]
 rw[this,CY,Cy,c5]
def ZgV(h:s.Ok){p:Pt}(hp:p∈s.sts):s.sts.filter (λq=>decide (p.1<=q.1)&&decide (p.2<=q.2))=s.rzs p:=by
 have hn:=h.n_eq;obtain⟨⟨a1,a2⟩,b1,b2⟩:=(aV h).mp hp;unfold Shp.sts Shp.rzs;rw[Zio _ _ (λx=>decide (p.1<=x))<|λx=>decide (p.2<=x),ZbU _ _ _ a1,ZbU _ _ _ b1];have e1:-s.depth+(s.n:Int)-p.1=s.top+1-p.1:=by omega
 have e2:-s.depth+(s.n:Int)-p.2=s.top+1-p.2:=by omega
 rw[e1,e2]
def Zgt(s:Shp)(F:Int->Int->Int):(s.tb F).map (·.1)=s.sts.map kS:=by unfold Shp.tb;rw[Av];rfl
def Zgs(s:Shp)(F:Int->Int->Int):((s.tb F).map (·.1)).Nodup:=by rw[Zgt];exact qY<|jZ s
def ZaG(h:s.Ok){F:Int->Int->Int}(h1:-s.depth<=a)(h2:a<=s.top)(h3:-s.depth<=b)(h4:b<=s.top):aL cT (pD<|s.tb F) (.tuple [.int a,.int b])=.ret (.int<|F a b) :=
 ZdU (k:=[a,b]) (Zgs s F) (AM.mpr ⟨(a,b),(aV h).mpr ⟨⟨h1,h2⟩,h3,h4⟩,rfl⟩)
def wL(h:s.Ok){p:Pt}(hp:p∈s.sts):s.rzs p≠[]:=by obtain⟨⟨a1,a2⟩,b1,b2⟩:=(aV h).mp hp;exact List.ne_nil_of_mem<|(eM a2 b2 (q:=p)).mpr ⟨⟨AC _,a2⟩,AC _,b2⟩
def yU(h:s.Ok){W:Int->Int->Int}{p:Pt}(hp:p∈s.sts):∃q∈s.rzs p,s.bp W c p=(c*s.ord (p.1+p.2) (q.1+q.2)+W q.1 q.2,kS q):=by have hn:s.cand W c p≠[]:=λe=>wL h hp<|Cc.mp e;obtain⟨q,hq,e⟩:=AM.mp<|Znp hn;exact⟨q,hq,e.symm⟩
def ZhY{g:α->ES}{fs:EQ α}{pre post:Dt}{x:ES}(h:(fs.map g).reverse=pre++x::post):∃d:α,x=g d/\pre.length<fs.length/\fs.drop (fs.length-(pre.length+1))=d::fs.drop (fs.length-pre.length):=by
 have h1:((fs.map g).reverse)[pre.length]?=some x:=by rw[h];simp
 have hl:pre.length<((fs.map g).reverse).length:=(Ad.mp h1).1;rw[AQ,v9]at hl;rw[Bw<|by rw[v9];exact hl,v9,Ak]at h1
 obtain⟨d,hd,rfl⟩:=AN.mp h1;refine⟨d,rfl,hl,?_⟩;have e:fs.length-(pre.length+1)=fs.length-1-pre.length:=by omega
 have e2:fs.length-pre.length=fs.length-1-pre.length+1:=by omega
 rw[e,e2,Ax<|by omega]
 congr 1;exact(Ad.mp hd).2
theorem Zab{α:Type}{f g:α->ES}:∀l:EQ α,hX (l.map f) (l.map g)=l.map λx=>.tuple [f x,g x]
 | []=>rfl
 |x::l=>by have ih:=Zab (f:=f) (g:=g) l;unfold hX at ih ⊢;rw[Af,Af,AV,Af,ih,Af]
def ZgU(s:Shp):((aF (-s.depth) s.n).flatMap λx=>(aF (-s.depth) s.n).map λy=>am (x,y))=s.sts.map am:=by
 unfold Shp.sts fh;rw[List.map_flatMap];simp only[Av]
 rfl
def ZhE(s:Shp)(p:Pt):((aF p.1 (s.top+1-p.1).toNat).flatMap λx=>(aF p.2 (s.top+1-p.2).toNat).map λy=>am (x,y))=(s.rzs p).map am:=by
 unfold Shp.rzs fh;rw[List.map_flatMap];simp only[Av]
 rfl
def ZgQ(p:Pt):bz cJ [am p]=.ret (.int<|p.1+p.2):=by
 have e:=fw [p.1,p.2];have e2:[p.1,p.2].sum=p.1+p.2:=by rw[AU,AU,List.sum_nil,Int.add_zero]
 rw[e2]at e;exact e
def ZdQ(day:EQ Du):(day.map λl=>PyData.int l.sum)=(day.map List.sum).map PyData.int:=by rw[Av];rfl
structure DdB(day:List Du):Prop where
 len:day.length<=3
 row:∀l∈day,l.length<=3/\∀w∈l,0<=w/\w<=1000
 pos:0<aQ day
def r8{w:Int}(h:0<=w/\w<=1000):nb 10 w:=bc (by show -1024<_;omega)<|by show _<1024;omega
def jU(s:Shp)(b:Nat)(F:Int->Int->Int):Prop:=∀x y,-s.depth<=x->x<=s.top->-s.depth<=y->y<=s.top->nb b (F x y)
def dF(h:s.Ok)(y1:-s.depth<=y)(y2:y<=s.top):nb 20 y:=by have:=h.t0;have:=h.d0;have:=h.td;exact bc (by show -1048576<_;omega)<|by show _<1048576;omega
def gr(h:k<=1000):nb 40 (k:Int):=bc (by show -1099511627776<_;omega)<|by show _<1099511627776;omega
def ZeY(h:s.Ok){F:Int->Int->Int}{b:Nat}(hF:jU s b F)(hc:nb b c){y1 y2:Int}(a1:-s.depth<=y1)(a2:y1<=s.top)(b1:-s.depth<=y2)(b2:y2<=s.top){i j:Nat}(hi:i<=1000)(hj:j<=1000):nb (b+102) (s.c2 F c y1 y2 i j):=by
 have n1:=fR h (dF h a1 a2)<|gr hi;have n2:=fR h (dF h b1 b2)<|gr hj;have n3:=hF _ _ (cF s y1 i) (cE h a2<|show(0:Int)<=i by omega) (cF s y2 j)<|cE h b2<|show(0:Int)<=j by omega
 unfold Shp.c2;exact aM (bX (bM hc<|bX n1 n2) n3)<|by omega
theorem Zai{f:Int->Int}{b:Nat}:∀{l:Du}{k:Nat},(∀i:Nat,i<k+l.length->nb b (f i))->(∀w∈l,0<=w/\w<=1000)->nb (b+10+l.length) (ws f k l)
 | [],k,_,_=>by unfold ws nb;exact Bh (by simp)
 | w::l,k,hf,h=>by
  unfold ws;have h1:=bM (r8<|h w<|Aj ..)<|hf k<|by rw[Ac];omega
  have h2:=Zai (f:=f) (b:=b) (l:=l) (k:=k+1) (λi hi=>hf i<|by rw[Ac];omega) λv hv=>h v<|Ab _ hv
  exact aM (bX h1 h2)<|by rw[Ac];omega
theorem vP{g:Int->Int->Int}{b:Nat}:∀{L:EQ Du}{k:Nat},(∀i j:Nat,i<k+L.length->j<=3->nb b (g i j))->(∀l∈L,l.length<=3/\∀w∈l,0<=w/\w<=1000)->nb (b+13+L.length) (wss g k L)
 | [],k,_,_=>by unfold wss nb;exact Bh (by simp)
 | l::L,k,hg,h=>by
  unfold wss;obtain⟨l1,l2⟩:=h l<|Aj ..;have h1:=Zai (f:=g k) (b:=b) (l:=l) (k:=0) (λj hj=>hg k j (by rw[Ac];omega)<|by omega) l2
  have h2:=vP (g:=g) (b:=b) (L:=L) (k:=k+1) (λi j hi hj=>hg i j (by rw[Ac];omega) hj) λv hv=>h v<|Ab _ hv
  exact aM (bX h1 h2)<|by rw[Ac];omega
def ZfZ(h:s.Ok){day:EQ Du}(hd:DdB day){F:Int->Int->Int}{b:Nat}(hF:jU s b F)(hc:nb b c):jU s (b+120) (s.w2 day F c):=λy1 y2 a1 a2 b1 b2=>by have hl:=hd.len;unfold Shp.w2;exact aM (vP (b:=b+102) (λi j hi hj=>ZeY h hF hc a1 a2 b1 b2 (by omega)<|by omega) hd.row)<|by omega
theorem sB:∀{l:Du},(∀w∈l,0<=w/\w<=1000)->0<=l.sum/\l.sum<=1000*l.length
 | [],_=>⟨AC _,AC _⟩
 |w::l,h=>by have h1:=h w<|Aj ..;have h2:=sB (l:=l) λv hv=>h v<|Ab _ hv;rw[AU,Ac];omega
theorem wj:∀{L:EQ Du},(∀l∈L,l.length<=3/\∀w∈l,0<=w/\w<=1000)->0<=aQ L/\aQ L<=3000*L.length
 | [],_=>⟨AC _,AC _⟩
 | l::L,h=>by
  obtain⟨l1,l2⟩:=h l<|Aj ..;have h1:=sB l2;have h2:=wj (L:=L) λv hv=>h v<|Ab _ hv;have e:aQ (l::L)=l.sum+aQ L:=by unfold aQ;rw[Af,AU]
  rw[e,Ac];omega
def j7{day:EQ Du}(hd:DdB day):nb 20 (aQ day):=by have:=wj hd.row;have:=hd.len;exact bc (by show -1048576<_;omega)<|by show _<1048576;omega
def tL(h:s.Ok){x:Int}(hx:nb 20 x)(hy:nb 20 y):nb 100 (s.ord x y):=by unfold Shp.ord;refine kL (bc (by decide)<|by decide)<|aM (bX h.start<|bM h.piece<|gJ hy hx)<|by decide
theorem eG(h:s.Ok):∀{ds:EQ (EQ Du)},(∀d∈ds,DdB d)->jU s (102+150*ds.length) (s.dk ds).1/\nb (102+150*ds.length) (s.dk ds).2/\0<(s.dk ds).2
 | [],_=>⟨λx y a1 a2 b1 b2=>aM (bX (rj h x a1 a2)<|rj h y b1 b2)<|by decide,aM (show nb 102 (1:Int)from bc (by decide)<|by decide)<|by decide,show(0:Int)<1 from by decide⟩
 | day::r,hd=>by
  obtain⟨k1,k2,k3⟩:=eG h (ds:=r) λd Fa=>hd d<|Ab _ Fa;have hday:=hd day<|Aj ..;have c1:nb (102+150*r.length+20) ((s.dk r).2*aQ day):=bM k2<|j7 hday;refine⟨λx y a1 a2 b1 b2=>?_,aM c1<|by rw[Ac];omega,BR k3 hday.pos⟩
  have hp:((x,y):Pt)∈s.sts:=(aV h).mpr ⟨⟨a1,a2⟩,b1,b2⟩;obtain⟨q,hq,e⟩:=yU h (W:=s.w2 day (s.dk r).1 (s.dk r).2) (c:=(s.dk r).2*aQ day) hp;obtain⟨⟨q1,q2⟩,q3,q4⟩:=(eM a2 b2).mp hq;have ht:=h.t0;have hd0:=h.d0;have htd:=h.td;have q1:x<=q.1:=q1;have q3:y<=q.2:=q3;show nb _ (s.bp (s.w2 day (s.dk r).1 (s.dk r).2) ((s.dk r).2*aQ day) (x,y)).1;rw[e];have n1:=tL h (x:=x+y) (y:=q.1+q.2) (bc (by show -1048576<_;omega)<|by show _<1048576;omega)<|bc (by show -1048576<_;omega)<|by show _<1048576;omega
  have n2:=ZfZ h hday k1 k2 q.1 q.2 (by omega) q2 (by omega) q4
  exact aM (bX (bM c1 n1) n2)<|by rw[Ac];omega
def yO(h:s.Ok){W:Int->Int->Int}{b:Nat}(hW:jU s b W)(hc:nb b c){p q:Pt}(hp:p∈s.sts)(hq:q∈s.rzs p):q∈s.sts/\nb 20 (p.1+p.2)/\nb 20 (q.1+q.2):=by have ht:=h.t0;have hd0:=h.d0;have htd:=h.td;obtain⟨⟨a1,a2⟩,b1,b2⟩:=(aV h).mp hp;obtain⟨⟨q1,q2⟩,q3,q4⟩:=(eM a2 b2).mp hq;exact⟨(aV h).mpr ⟨⟨by omega,q2⟩,by omega,q4⟩,bc (by show -1048576<_;omega)<|by show _<1048576;omega,bc (by show -1048576<_;omega)<|by show _<1048576;omega⟩
structure E2 where
 t:Int
 b:Int
 q:Pt
def E2.d(e:E2):ES:=.tuple [.tuple [.int e.t,.int e.b],am e.q]
noncomputable def look(l:EQ (Pt×α))(p:Pt):ER α:=(l.find? λx=>decide (x.1=p)).map (·.2)
section
variable(s:Shp)
noncomputable def Shp.own2(W:Int->Int->Int)(c:Int)(p q:Pt):Int:=c*s.ord (p.1+p.2) (q.1+q.2)+W q.1 q.2
end
theorem Zaj{c B:Int}{f f':Int->Int}:∀{l:Du}{k:Nat},(∀i:Nat,c*f i=B*f' i)->c*ws f k l=B*ws f' k l
 | [],k,h=>by unfold ws;rw[BN,BN]
 |w::l,k,h=>by unfold ws;rw[A6,A6,Zaj h,A7,h k,A7]
theorem Zaf{c B:Int}{f f':Int->Int->Int}:∀{l:EQ Du}{k:Nat},(∀i j:Nat,c*f i j=B*f' i j)->c*wss f k l=B*wss f' k l
 | [],k,h=>by unfold wss;rw[BN,BN]
 |w::l,k,h=>by unfold wss;rw[A6,A6,Zaf h,Zaj λj=>h k j]
end Tw
variable{p:Tw.Pt}
namespace Tw
open L2
def Zav{W:Int->Int}{B x:Int}(hx:x<=y)(hy:y<=s.top):cst (λy=>B*s.piece*y+W y) s.top (B*s.start) (B*s.piece) x<=s.ord x y*B+W y:=by
 obtain⟨p1,p2⟩:=ZiR (g:=λy=>B*s.piece*y+W y) (K:=B*s.start) (x:=x) (top:=s.top)<|by omega
 unfold cst Shp.ord;by_cases h:y<=x
 ·have e:y=x:=by omega
  subst e;rw[DD h];omega
 ·rw[DF h];have:=p2 y (by omega) hy
  have e:(s.start+s.piece*(y-x))*B+W y=B*s.start+(B*s.piece*y+W y)-B*s.piece*x:=by grind
  rw[e];omega
def Zaw{W:Int->Int}{B x:Int}(hx:x<=s.top):∃y,x<=y/\y<=s.top/\cst (λy=>B*s.piece*y+W y) s.top (B*s.start) (B*s.piece) x=s.ord x y*B+W y:=by
 obtain⟨q1,q2,q3⟩:=ZcF (g:=λy=>B*s.piece*y+W y) (K:=B*s.start) (x:=x) (top:=s.top) hx;refine⟨_,q1,q2,?_⟩;generalize hl:(pck (λy=>B*s.piece*y+W y) s.top (B*s.start) x).2=l at *;unfold cst Shp.ord;rcases q3 with ⟨e1,e2⟩|⟨e1,e2,_⟩
 ·rw[e2,DD<|by omega,e1]
  omega
 ·rw[e2,DF<|by omega]
  grind
def uY(s:Shp)(day:Du)(rest:EQ Du):(s.bk (day::rest)).1=cst (λy=>(s.bk rest).2*day.sum*s.piece*y+s.wg day y (s.bk rest).1 (s.bk rest).2) s.top ((s.bk rest).2*day.sum*s.start) ((s.bk rest).2*day.sum*s.piece):=rfl
theorem Zak{f g:Int->Int}:∀{l:Du}{k:Nat},ws (λx=>f x+g x) k l=ws f k l+ws g k l
 | [],k=>rfl
 |w::l,k=>by unfold ws;rw[Zak (l:=l),A6];omega
noncomputable def Shp.tm(s:Shp)(m:Int):Shp:=⟨s.top,s.depth,m*s.start,m*s.piece,m*s.keep,m*s.lack,m*s.lost,m*s.back,m*s.late⟩
def ZaE(s:Shp)(m y f:Int):(s.tm m).day y f=m*s.day y f:=by
 unfold Shp.day Shp.tm Shp.nx;dsimp only
 split <;> grind
def ZaD(s:Shp)(m x:Int):(s.tm m).fin x=m*s.fin x:=by
 unfold Shp.fin Shp.tm;dsimp only
 split <;> grind
def wm{t m:Int}(hb:0<b)(hm:0<m):br (m*t) (m*b)=br t b:=by
 obtain⟨p1,p2,p3,p4⟩:=Gc.eA (t:=t) (b:=b)<|by omega
 have hmb:0<m*b:=BR hm hb;obtain⟨q1,q2,q3,q4⟩:=Gc.eA (t:=m*t) (b:=m*b)<|by omega
 have hd:Gc.den t b≠0:=Gc.rz<|by omega
 have Fa:Gc.den (m*t) (m*b)≠0:=Gc.rz<|by omega
 have key:Gc.bS (m*t) (m*b)*Gc.bO t b=Gc.bS t b*Gc.bO (m*t) (m*b):=by
  generalize Gc.bS (m*t) (m*b)=T' at *;generalize Gc.bO (m*t) (m*b)=B' at *;generalize Gc.bS t b=T at *;generalize Gc.bO t b=C at *;generalize Gc.den (m*t) (m*b)=d' at *;generalize Gc.den t b=d at *;have e:(T'*C)*(d'*d)=(T*B')*(d'*d):=by
   have e1:(T'*C)*(d'*d)=(d'*T')*(d*C):=by grind
   have e2:(T*B')*(d'*d)=(d*T)*(d'*B'):=by grind
   rw[e1,e2,<- q1,<- p2,<- p1,<- q2]
   grind
  exact C1 (Int.mul_ne_zero Fa hd) e
 obtain⟨e1,e2⟩:=Gc.ZjI q3 p3 q4 p4 key;unfold br;rw[e1,e2]
end Tw
namespace L2
theorem uK{α:Type}{g:Dp}{s:Dl}{r:Re}{mk:α->ES}{full:EQ α}(ok:α->Bool)(I:EQ α->EQ Sl->Prop)
  (ht:∀pre x post ρ,full=pre++x::post->I pre ρ->∃ρ1,g (mk x) ρ=some ρ1/\((ok x=true/\∃ρ2,s ρ1=.ret (.next ρ2)/\I (pre++[x]) ρ2)\/(ok x=false/\s ρ1=.ret (.ret r)))) :
  ∀{xs pre:EQ α}{ρ:Dz},full=pre++xs->I pre ρ->(xs.all ok=true/\∃ρ2,cI g s (xs.map mk) ρ=.ret (.next ρ2)/\I full ρ2)\/(xs.all ok=false/\cI g s (xs.map mk) ρ=.ret (.ret r))
 | [],pre,ρ,e,h0=>by rw[AI]at e;subst e;exact .inl ⟨rfl,ρ,rfl,h0⟩
 | x::xs,pre,ρ,e,h0=>by
  obtain⟨ρ1,e1,hx⟩:=ht pre x xs ρ e h0;rw[Af,yu,e1,Tr.of_some,Tr.ret_bind,List.all_cons];unfold rf;rcases hx with ⟨o,ρ2,e2,h2⟩|⟨o,e2⟩
  ·rw[e2,Tr.ret_bind,yx,o,Bool.true_and];exact uK ok I ht (by rw[e,A2];rfl) h2
  ·rw[e2,Tr.ret_bind,o];exact .inr ⟨rfl,rfl⟩
end L2
namespace Tw
open L2
end Tw
namespace L2
def Zir{y b:Pr}(h:HT.bR y b=true):y.1<=b.1:=by
 unfold HT.bR at h
 split at h
 ·omega
 ·have:=DC h;omega
def Zit{y b:Pr}(h:¬ HT.bR y b=true):b.1<=y.1:=by
 unfold HT.bR at h
 split at h
 ·omega
 ·have:¬ y.1<b.1:=λz=>h<|DE z;omega
def Znq:∀{ps:EQ Pr}{x:Pr},x∈ps->(dO ps).1<=x.1
 | [],x,h=>by cases h
 | y::r,x,h=>by
  have key:∀(r:EQ Pr)(b:Pr),(r.foldl (λb y=>if HT.bR y b=true then y else b) b).1<=b.1/\∀x∈r,(r.foldl (λb y=>if HT.bR y b=true then y else b) b).1<=x.1:=by
   intro r
   induction r with
   |nil=>intro b;exact⟨AC _,nofun⟩
   | cons y r ih =>
    intro b;rw[Bt];obtain⟨i1,i2⟩:=ih<|if HT.bR y b=true then y else b
    have hb:(if HT.bR y b=true then y else b).1<=b.1/\(if HT.bR y b=true then y else b).1<=y.1:=by
     by_cases z:HT.bR y b=true
     ·rw[DD z];exact⟨Zir z,AC _⟩
     ·rw[DF z];exact⟨AC _,Zit z⟩
    refine⟨Int.le_trans i1 hb.1,λx hx=>?_⟩;rcases Au.mp hx with rfl|hx
    ·exact Int.le_trans i1 hb.2
    ·exact i2 x hx
  obtain⟨k1,k2⟩:=key r y;show(r.foldl (λb y=>if HT.bR y b=true then y else b) y).1<=x.1
  rcases Au.mp h with rfl|h
  ·exact k1
  ·exact k2 x h
end L2
namespace Tw
open L2
noncomputable def tu:EQ Int->Pt
 | [a,b]=>(a,b)
 |_=>(0,0)
def Shp.pkE(s:Shp)(day:EQ Du)(r:EQ (EQ Du))(p:Pt):E2:=⟨Gc.bS (s.pick day r p).1 ((s.dk r).2*aQ day),Gc.bO (s.pick day r p).1 ((s.dk r).2*aQ day),tu (s.pick day r p).2⟩
noncomputable def Shp.tbE(s:Shp):EQ (EQ Du)->EQ (EQ E2)
 | []=>[]
 |day::r=>(s.sts.map<|s.pkE day r)::Shp.tbE s r
def tG(h:s.Ok){day:EQ Du}{r:EQ (EQ Du)}(hp:p∈s.sts):∃q∈s.rzs p,s.pick day r p=(s.own2 (s.w2 day (s.dk r).1 (s.dk r).2) ((s.dk r).2*aQ day) p q,kS q)/\∀o∈s.rzs p,(s.pick day r p).1<=s.own2 (s.w2 day (s.dk r).1 (s.dk r).2) ((s.dk r).2*aQ day) p o:=by obtain⟨q,hq,e⟩:=yU h (W:=s.w2 day (s.dk r).1 (s.dk r).2) (c:=(s.dk r).2*aQ day) hp;exact⟨q,hq,e,λo ho=>Znq<|AM.mpr ⟨o,ho,rfl⟩⟩
theorem sx(h:s.Ok):∀ds:EQ (EQ Du),s.dtab ds=(s.tbE ds).map λes=>.tuple (es.map E2.d)
 | []=>rfl
 | day::r=>by
  rw[Shp.dtab,Shp.tbE,Af,sx h r];congr 2;unfold Shp.ddayL;rw[Av];refine Be λp hp=>?_;obtain⟨q,hq,e,_⟩:=tG h (day:=day) (r:=r) hp;show _=PyData.tuple [.tuple [.int<|Gc.bS (s.pick day r p).1 ((s.dk r).2*aQ day),.int<|Gc.bO (s.pick day r p).1 ((s.dk r).2*aQ day)],am<|tu (s.pick day r p).2];rw[e]
  rfl
theorem qf{g g':Int->Int->Int}:∀{ls:EQ Du}{k:Nat},(∀i j:Nat,g i j=g' i j)->wss g k ls=wss g' k ls
 | [],k,_=>rfl
 | l::ls,k,h=>by
  unfold wss;have e:∀{l:Du}{n:Nat},ws (g k) n l=ws (g' k) n l:=λ{l}=>by
   induction l with
   |nil=>intro n;rfl
   |cons w l ih=>intro n;unfold ws;rw[h,ih]
  rw[e,qf h]
theorem Zag{f g:Int->Int->Int}:∀{ls:EQ Du}{k:Nat},wss (λi j=>f i j+g i j) k ls=wss f k ls+wss g k ls
 | [],k=>rfl
 | l::ls,k=>by
  unfold wss;rw[Zag,show ws (λj=>f (k:Int) j+g k j) 0 l=ws (f k) 0 l+ws (g k) 0 l from Zak]
  omega
theorem vR{a:Int}:∀{l:Du}{k:Nat},ws (λ_=>a) k l=l.sum*a
 | [],k=>by unfold ws;simp
 |w::l,k=>by unfold ws;rw[vR,AU,Int.add_mul]
theorem rZ{A:Int->Int}:∀{ls:EQ Du}{k:Nat},wss (λi _=>A i) k ls=ws A k (ls.map List.sum)
 | [],k=>rfl
 |l::ls,k=>by unfold wss;rw[Af,ws,rZ,vR]
theorem vQ{f g:Int->Int->Int}:∀{ls:EQ Du}{k:Nat},(∀l∈ls,∀w∈l,0<=w)->(∀i j:Nat,f i j<=g i j)->wss f k ls<=wss g k ls
 | [],k,_,_=>AC _
 | l::ls,k,h,hf=>by
  unfold wss;have e:∀{l:Du}{n:Nat},(∀w∈l,0<=w)->ws (f k) n l<=ws (g k) n l:=λ{l}=>by
   induction l with
   |nil=>intro n _;exact AC _
   | cons w l ih =>
    intro n hw;unfold ws;have h1:=BI (hf k n)<|hw w<|Aj ..;have h2:=ih (n:=n+1) λv hv=>hw v<|Ab _ hv;omega
  have h1:=e (n:=0)<|h l<|Aj ..;have h2:=vQ (k:=k+1) (λl hl=>h l<|Ab _ hl) hf;omega
def tr(wd:Nat)(day:EQ Du):EQ Du:=(List.range wd).map λj=>day.map λl=>l[j]?.getD 0
theorem ZaU:∀{l:EQ Nat}{f g:Nat->Int},(l.map λj=>f j+g j).sum=(l.map f).sum+(l.map g).sum
 | [],f,g=>rfl
 |x::l,f,g=>by rw[Af,Af,Af,AU,AU,AU,ZaU];omega
theorem Zad{g:Int->Int->Int}{row:Nat->EQ Int}:∀(n k:Nat),wss g k ((List.range' k n).map row)=((List.range' k n).map λ(j:Nat)=>ws (g (j:Int)) 0<|row j).sum
 |0,k=>rfl
 |n+1,k=>by rw[CW,Af,Af,AU,wss,Zad n<|k+1]
theorem Zah{f:Int->Int}:∀(l:Du)(k:Nat)(h:Nat->Int),(∀i,i<l.length->h (k+i)=l[i]?.getD 0)->ws f k l=((List.range' k l.length).map λ(j:Nat)=>h j*f (j:Int)).sum
 | [],k,h,_=>rfl
 | w::l,k,h,hh=>by
  rw[Ac,CW,Af,AU,ws,Zah l (k+1) h λi hi=>by
   have:=hh (i+1) (by rw[Ac];omega)
   rw[show k+1+i=k+(i+1)by omega,this]
   rfl]
  have:=hh 0<|by rw[Ac];omega
  rw[Nat.add_zero]at this;rw[this]
  rfl
def vO{g:Int->Int->Int}{day:EQ Du}(hw:∀l∈day,l.length=wd):wss g 0 (tr wd day)=wss (λi j=>g j i) 0 day:=by
 have key:∀(ls:EQ Du)(k:Nat),(∀l∈ls,l.length=wd)->((List.range' 0 wd).map λ(j:Nat)=>ws (g (j:Int)) k<|ls.map λl=>l[j]?.getD 0).sum=wss (λi j=>g j i) k ls:=λls=>by
  induction ls with
  | nil =>
   intro k _;have:∀n s:Nat,((List.range' s n).map λ(j:Nat)=>ws (g (j:Int)) k<|([]:EQ Du).map λl=>l[j]?.getD 0).sum=0:=λn=>by
    induction n with
    |zero=>intro s;rfl
    |succ n ih=>intro s;rw[CW,Af,AU,ih];rfl
   exact this wd 0
  | cons l ls ih =>
   intro k h;have e1:((List.range' 0 wd).map λ(j:Nat)=>ws (g (j:Int)) k<|(l::ls).map λl=>l[j]?.getD 0)=(List.range' 0 wd).map λ(j:Nat)=>(l[j]?.getD 0*g (j:Int) k)+ws (g (j:Int)) (k+1) (ls.map λl=>l[j]?.getD 0):=rfl;rw[e1,ZaU,ih (k+1) λl hl=>h l<|Ab _ hl,show wss (λi j=>g j i) k (l::ls)=ws (λj=>g j (k:Int)) 0 l+wss (λi j=>g j i) (k+1) ls from rfl]
   rw[Zah (f:=λj=>g j k) l 0 (λi=>l[i]?.getD 0) λi _=>by rw[Nat.zero_add]]
   rw[h l<|Aj ..]
 unfold tr;rw[List.range_eq_range',Zad];exact key day 0 hw
def Zae(ls:EQ Du)(k:Nat):wss (λ_ _=>1) k ls=aQ ls:=by
 rw[rZ (A:=λ_=>1),vR,CZ]
 rfl
def j6{day:EQ Du}(hw:∀l∈day,l.length=wd):aQ (tr wd day)=aQ day:=by rw[<- Zae _ 0,vO hw,Zae]
def ZfP{day:EQ Du}(hw:∀l∈day,l.length=wd):wss (λ_ j=>A j) 0 day=ws A 0 ((tr wd day).map List.sum):=by rw[<- rZ,vO hw]
def jD(h:s.Ok)(day:EQ Du)(r:EQ (EQ Du)){x:Int}(x1:-s.depth<=x)(x2:x<=s.top)(y1:-s.depth<=y)(y2:y<=s.top) :
  (∃a b,x<=a/\a<=s.top/\y<=b/\b<=s.top/\(s.dk (day::r)).1 x y=(s.dk r).2*aQ day*s.ord (x+y) (a+b)+s.w2 day (s.dk r).1 (s.dk r).2 a b) /\
  ∀a b,x<=a->a<=s.top->y<=b->b<=s.top->(s.dk (day::r)).1 x y<=(s.dk r).2*aQ day*s.ord (x+y) (a+b)+s.w2 day (s.dk r).1 (s.dk r).2 a b:=by
 obtain⟨q,hq,e1,e2⟩:=tG h (day:=day) (r:=r) (p:=(x,y))<|(aV h).mpr ⟨⟨x1,x2⟩,y1,y2⟩;obtain⟨⟨q1,q2⟩,q3,q4⟩:=(eM (p:=(x,y)) x2 y2).mp hq;refine⟨⟨q.1,q.2,q1,q2,q3,q4,?_⟩,λa b a1 a2 b1 b2=>?_⟩
 ·show(s.pick day r (x,y)).1=_;rw[e1]
  rfl
 ·exact e2 (a,b)<|(eM (p:=(x,y)) x2 y2).mpr ⟨⟨a1,a2⟩,b1,b2⟩
def Zf0(h:s.Ok){F:Int->Int->Int}(hF:∀x y,-s.depth<=x->x<=s.top->-s.depth<=y->y<=s.top->F x y=F' x y)(day:EQ Du)(c:Int)(a2:a<=s.top)(b2:b<=s.top):s.w2 day F c a b=s.w2 day F' c a b:=by unfold Shp.w2;refine qf λi j=>?_;unfold Shp.c2;rw[hF _ _ (cF s a i) (cE h a2<|show(0:Int)<=i by omega) (cF s b j)<|cE h b2<|show(0:Int)<=j by omega]
def Zao(h:s.Ok){F:Int->Int->Int}(hF:∀x y,-s.depth<=x->x<=s.top->-s.depth<=y->y<=s.top->F x y<=F' x y){day:EQ Du}(hd:DdB day)(c:Int)(a2:a<=s.top)(b2:b<=s.top):s.w2 day F c a b<=s.w2 day F' c a b:=by
 unfold Shp.w2;refine vQ (λl hl w hw=>((hd.row l hl).2 w hw).1) λi j=>?_;unfold Shp.c2;have:=hF _ _ (cF s a i) (cE h a2<|show(0:Int)<=i by omega) (cF s b j)<|cE h b2<|show(0:Int)<=j by omega
 omega
def zJ(wd:Nat)(day:EQ Du):Prop:=∀l∈day,l.length=wd
inductive Trn:List (List Du)->List (List Du)->Prop
 |nil:Trn [] []
 |cons {wd:Nat} {day:List Du} {r r':List (List Du)} (hw:zJ wd day) (ht:Trn r r'):Trn (day::r) (tr wd day::r')
theorem Zel(h:s.Ok):∀{ds ds':EQ (EQ Du)},Trn ds ds'->(s.dk ds').2=(s.dk ds).2/\∀x y,-s.depth<=x->x<=s.top->-s.depth<=y->y<=s.top->(s.dk ds').1 x y=(s.dk ds).1 y x
 |_,_,.nil=>⟨rfl,λx y _ _ _ _=>BV _ _⟩
 | _,_,.cons (wd:=wd) (day:=day) (r:=r) (r':=r') hw ht=>by
  obtain⟨k1,k2⟩:=Zel h ht;have e2:(s.dk (tr wd day::r')).2=(s.dk (day::r)).2:=by show(s.dk r').2*aQ (tr wd day)=(s.dk r).2*aQ day;rw[k1,j6 hw]
  refine⟨e2,λx y x1 x2 y1 y2=>?_⟩;have ew:∀a b,a<=s.top->b<=s.top->s.w2 (tr wd day) (s.dk r').1 (s.dk r').2 a b=s.w2 day (s.dk r).1 (s.dk r).2 b a:=λa b ha hb=>by unfold Shp.w2;rw[vO hw];refine qf λi j=>?_;unfold Shp.c2;rw[k1,k2 _ _ (cF s a j) (cE h ha<|show(0:Int)<=j by omega) (cF s b i)<|cE h hb<|show(0:Int)<=i by omega,BV<|s.day a j]
  obtain⟨⟨a,b,a1,a2,b1,b2,e⟩,m⟩:=jD h (tr wd day) r' x1 x2 y1 y2;obtain⟨⟨a',b',a1',a2',b1',b2',e'⟩,m'⟩:=jD h day r y1 y2 x1 x2;have q1:=m b' a' b1' b2' a1' a2';have q2:=m' b a b1 b2 a1 a2;rw[ew _ _ (by omega)<|by omega]at e q1
  have es:(s.dk r').2*aQ (tr wd day)=(s.dk r).2*aQ day:=e2;rw[es]at e q1;rw[BV x y,BV a b]at e;rw[BV x y,BV b' a']at q1;omega
noncomputable def Shp.fre(s:Shp):Shp:=⟨s.top,s.depth,0,s.piece,s.keep,s.lack,s.lost,s.back,s.late⟩
def yt(h:s.Ok):s.fre.Ok:=⟨h.t0,h.d0,h.td,AC _,show nb 45 (0:Int)from bc (by trivial)<|by trivial,h.piece,h.keep,h.lack,h.lost,h.back,h.late⟩
def ZiT{x:Int}(h0:0<=s.start)(hx:x<=a)(hy:y<=b):s.ord (x+y) (a+b)<=s.ord x a+s.ord y b:=by
 unfold Shp.ord;by_cases h1:a<=x
 ·by_cases h2:b<=y
  ·rw[DD h1,DD h2,DD<|by omega];omega
  ·rw[DD h1,DF h2,DF<|by omega]
   have:a+b-(x+y)=b-y:=by omega
   rw[this];omega
 ·by_cases h2:b<=y
  ·rw[DF h1,DD h2,DF<|by omega]
   have:a+b-(x+y)=a-x:=by omega
   rw[this];omega
  ·rw[DF h1,DF h2,DF<|by omega]
   have:a+b-(x+y)=(a-x)+(b-y):=by omega
   rw[this,A6];omega
def ZiU{x:Int}(hx:x<=a)(hy:y<=b):s.fre.ord (x+y) (a+b)=s.fre.ord x a+s.fre.ord y b:=by
 unfold Shp.ord;have e:s.fre.start=0:=rfl;rw[e];by_cases h1:a<=x
 ·by_cases h2:b<=y
  ·rw[DD h1,DD h2,DD<|by omega];omega
  ·rw[DD h1,DF h2,DF<|by omega]
   have:a+b-(x+y)=b-y:=by omega
   rw[this];omega
 ·by_cases h2:b<=y
  ·rw[DF h1,DD h2,DF<|by omega]
   have:a+b-(x+y)=a-x:=by omega
   rw[this];omega
  ·rw[DF h1,DF h2,DF<|by omega]
   have:a+b-(x+y)=(a-x)+(b-y):=by omega
   rw[this,A6];omega
def aln(ds:EQ (EQ Du)):EQ Du:=ds.map λday=>day.map List.sum
def h8(day:EQ Du):(day.map List.sum).sum=aQ day:=rfl
def Zan{day:EQ Du}(hw:zJ wd day)(F G:Int->Int)(c a b:Int):s.w2 day (λx y=>F x+G y) c a b=s.wg (day.map List.sum) a F c+s.wg ((tr wd day).map List.sum) b G c:=by unfold Shp.w2 Shp.wg;rw[<- rZ (A:=λf=>c*s.day a f+F (s.nx a f)),<- ZfP (A:=λf=>c*s.day b f+G (s.nx b f)) hw,<- Zag];refine qf λi j=>?_;unfold Shp.c2;rw[A6];show _+(F (s.nx a i)+G (s.nx b j))=_;omega
theorem rF:∀{ds ds':EQ (EQ Du)},Trn ds ds'->(s.bk<|aln ds).2=(s.dk ds).2/\(s.bk<|aln ds').2=(s.dk ds).2
 |_,_,.nil=>⟨rfl,rfl⟩
 | _,_,.cons (wd:=wd) (day:=day) (r:=r) (r':=r') hw ht=>by
  obtain⟨k1,k2⟩:=rF ht;constructor
  ·show(s.bk<|aln r).2*(day.map List.sum).sum=(s.dk r).2*aQ day;rw[k1,h8]
  ·show(s.bk<|aln r').2*((tr wd day).map List.sum).sum=(s.dk r).2*aQ day;rw[k2,h8,j6 hw]
theorem yF(h:s.Ok):∀{ds ds':EQ (EQ Du)},Trn ds ds'->(∀d∈ds,DdB d)->∀x y,-s.depth<=x->x<=s.top->-s.depth<=y->y<=s.top->(s.dk ds).1 x y<=(s.bk<|aln ds).1 x+(s.bk<|aln ds').1 y
 |_,_,.nil,_=>λx y _ _ _ _=>AC _
 |_,_,.cons (wd:=wd) (day:=day) (r:=r) (r':=r') hw ht,hd=>λx y x1 x2 y1 y2=>by have hr:∀d∈r,DdB d:=λd Fa=>hd d<|Ab _ Fa;have ih:=yF h ht hr;obtain⟨s1,s2⟩:=rF (s:=s) ht;have hc:0<=(s.dk r).2*aQ day:=BU (eG h hd).2.2;obtain⟨a,a1,a2,ea⟩:=Zaw (s:=s) (W:=λy=>s.wg (day.map List.sum) y (s.bk<|aln r).1 (s.bk<|aln r).2) (B:=(s.bk<|aln r).2*(day.map List.sum).sum) (x:=x) x2;obtain⟨b,b1,b2,eb⟩:=Zaw (s:=s) (W:=λy=>s.wg ((tr wd day).map List.sum) y (s.bk<|aln r').1 (s.bk<|aln r').2) (B:=(s.bk<|aln r').2*((tr wd day).map List.sum).sum) (x:=y) y2;have m:=(jD h day r x1 x2 y1 y2).2 a b a1 a2 b1 b2;have n1:=Zao h ih (hd day<|Aj ..) (s.dk r).2 a2 b2;rw[Zan hw]at n1;have n2:=BI (ZiT (s:=s) h.start0 a1 b1) hc;show _<=(s.bk (day.map List.sum::aln r)).1 x+(s.bk ((tr wd day).map List.sum::aln r')).1 y;rw[uY,uY,ea,eb];rw[s1,s2,h8,h8,j6 hw];rw[A6,A4 _<|s.ord x a,A4 _<|s.ord y b]at n2;omega
theorem Zep(h:s.Ok):∀{ds ds':EQ (EQ Du)},Trn ds ds'->(∀d∈ds,DdB d)->∀x y,-s.depth<=x->x<=s.top->-s.depth<=y->y<=s.top->(s.fre.dk ds).1 x y=(s.fre.bk<|aln ds).1 x+(s.fre.bk<|aln ds').1 y
 |_,_,.nil,_=>λx y _ _ _ _=>rfl
 |_,_,.cons (wd:=wd) (day:=day) (r:=r) (r':=r') hw ht,hd=>λx y x1 x2 y1 y2=>by have hr:∀d∈r,DdB d:=λd Fa=>hd d<|Ab _ Fa;have hf:=yt h;have ih:=Zep h ht hr;have hi:=yF hf (Trn.cons hw ht) hd x y x1 x2 y1 y2;obtain⟨s1,s2⟩:=rF (s:=s.fre) ht;obtain⟨a,b,a1,a2,b1,b2,e⟩:=(jD hf day r x1 x2 y1 y2).1;rw[Zf0 hf ih day _ a2 b2,Zan hw,ZiU a1 b1]at e;have ea:=Zav (s:=s.fre) (W:=λy=>s.fre.wg (day.map List.sum) y (s.fre.bk<|aln r).1 (s.fre.bk<|aln r).2) (B:=(s.fre.bk<|aln r).2*(day.map List.sum).sum) (x:=x) a1 a2;have eb:=Zav (s:=s.fre) (W:=λy=>s.fre.wg ((tr wd day).map List.sum) y (s.fre.bk<|aln r').1 (s.fre.bk<|aln r').2) (B:=(s.fre.bk<|aln r').2*((tr wd day).map List.sum).sum) (x:=y) b1 b2;have hi:(s.fre.dk (day::r)).1 x y<=(s.fre.bk (day.map List.sum::aln r)).1 x+(s.fre.bk ((tr wd day).map List.sum::aln r')).1 y:=hi;show _=(s.fre.bk (day.map List.sum::aln r)).1 x+(s.fre.bk ((tr wd day).map List.sum::aln r')).1 y;rw[uY,uY]at hi ⊢;rw[s1,s2,h8,h8,j6 hw]at hi ⊢;rw[s1,h8]at ea;rw[s2,h8,j6 hw]at eb;rw[A6,A4 _<|s.fre.ord x a,A4 _<|s.fre.ord y b]at e;omega
theorem Zeo(h:s.Ok):∀{ds:EQ (EQ Du)},(∀d∈ds,DdB d)->∀x y,-s.depth<=x->x<=s.top->-s.depth<=y->y<=s.top->(s.fre.dk ds).1 x y<=(s.dk ds).1 x y/\(s.fre.dk ds).2=(s.dk ds).2
 | [],_=>λx y _ _ _ _=>⟨AC _,rfl⟩
 | day::r,hd=>λx y x1 x2 y1 y2=>by
  have hr:∀d∈r,DdB d:=λd Fa=>hd d<|Ab _ Fa;have hf:=yt h;have ih:=Zeo h hr;have e2:(s.fre.dk r).2=(s.dk r).2:=(ih x y x1 x2 y1 y2).2;have hc:0<=(s.dk r).2*aQ day:=BU (eG h hd).2.2;refine⟨?_,by show(s.fre.dk r).2*aQ day=(s.dk r).2*aQ day;rw[e2]⟩
  obtain⟨a,b,a1,a2,b1,b2,e⟩:=(jD h day r x1 x2 y1 y2).1;have m:=(jD hf day r x1 x2 y1 y2).2 a b a1 a2 b1 b2;have n1:=Zao hf (F:=(s.fre.dk r).1) (F':=(s.dk r).1) (λx y a b c d=>(ih x y a b c d).1) (hd day<|Aj ..) (s.dk r).2 a2 b2;have n3:s.fre.w2 day (s.dk r).1 (s.dk r).2 a b=s.w2 day (s.dk r).1 (s.dk r).2 a b:=rfl;have n2:s.fre.ord (x+y) (a+b)<=s.ord (x+y) (a+b):=by
   have:=h.start0;have e0:s.fre.start=0:=rfl;have e1:s.fre.piece=s.piece:=rfl;unfold Shp.ord;rw[e0,e1]
   split <;> omega
  have n2:=BI n2 hc;rw[e2]at m;omega
end Tw
namespace L2
noncomputable def gM(m:Int)(x:Pr):Pr:=(m*x.1,x.2)
def Zis{m:Int}(hm:0<m)(x y:Pr):HT.bR (gM m x) (gM m y)=HT.bR x y:=by
 unfold HT.bR gM;dsimp only;by_cases h:x.1=y.1
 ·rw[DD h,DD<|by rw[h]]
 ·rw[DF h,DF λz=>h<|Int.eq_of_mul_eq_mul_left (by omega) z]
  by_cases h2:x.1<y.1
  ·rw[DE h2,DE<|Int.mul_lt_mul_of_pos_left h2 hm]
  ·rw[DG h2,DG λz=>h2<|Int.lt_of_mul_lt_mul_left z<|BU hm]
def Zno{m:Int}(hm:0<m):∀{ps:EQ Pr},ps≠[]->dO (ps.map<|gM m)=gM m (dO ps)
 | [],h=>absurd rfl h
 | x::r,_=>by
  have key:∀(r:EQ Pr)(b:Pr),(r.map<|gM m).foldl (λb y=>if HT.bR y b=true then y else b) (gM m b)=gM m (r.foldl (λb y=>if HT.bR y b=true then y else b) b):=by
   intro r
   induction r with
   |nil=>intro b;rfl
   | cons y r ih =>
    intro b;rw[Af,Bt,Bt,Zis hm,<- ih];congr 1
    split <;> rfl
  exact key r x
end L2
namespace Tw
open L2
def Zgr(s:Shp)(m x y:Int):(s.tm m).ord x y=m*s.ord x y:=by
 unfold Shp.ord Shp.tm;dsimp only
 split
 ·simp
 ·rw[A6,BZ]
def ZfY(h:s.Ok){m:Int}{F:Int->Int->Int}(hF:∀x y,-s.depth<=x->x<=s.top->-s.depth<=y->y<=s.top->F' x y=m*F x y)(day:EQ Du)(c:Int)(a2:a<=s.top)(b2:b<=s.top):(s.tm m).w2 day F' c a b=m*s.w2 day F c a b:=by
 unfold Shp.w2;rw[<- Int.one_mul (wss _ _ _)];refine Zaf λi j=>?_;unfold Shp.c2;rw[ZaE,ZaE];have q:=hF _ _ (cF s a i) (cE h a2<|show(0:Int)<=i by omega) (cF s b j)<|cE h b2<|show(0:Int)<=j by omega
 show 1*(c*(m*s.day a i+m*s.day b j)+F' (s.nx a i) (s.nx b j))=_;rw[q,Int.one_mul,<- A6 m,A7,<- A6]
def Zcy(h:s.Ok){m:Int}(hm:0<m){r:EQ (EQ Du)}(hr:(s.tm m).dk r=((s.tm m).dk r)/\((s.tm m).dk r).2=(s.dk r).2/\∀x y,-s.depth<=x->x<=s.top->-s.depth<=y->y<=s.top->((s.tm m).dk r).1 x y=m*(s.dk r).1 x y)(day:EQ Du)(hp:p∈s.sts):(s.tm m).pick day r p=gM m (s.pick day r p):=by obtain⟨_,k1,k2⟩:=hr;obtain⟨⟨a1,a2⟩,b1,b2⟩:=(aV h).mp hp;unfold Shp.pick Shp.bp;rw[k1,<- Zno hm (ps:=s.cand (s.w2 day (s.dk r).1 (s.dk r).2) ((s.dk r).2*aQ day) p) (λe=>wL h hp<|Cc.mp e)];congr 1;unfold Shp.cand;rw[Av];refine Be λq hq=>?_;have hq:q∈s.rzs p:=hq;obtain⟨⟨q1,q2⟩,q3,q4⟩:=(eM a2 b2).mp hq;show((s.dk r).2*aQ day*(s.tm m).ord (p.1+p.2) (q.1+q.2)+(s.tm m).w2 day ((s.tm m).dk r).1 (s.dk r).2 q.1 q.2,kS q)=(m*((s.dk r).2*aQ day*s.ord (p.1+p.2) (q.1+q.2)+s.w2 day (s.dk r).1 (s.dk r).2 q.1 q.2),kS q);rw[Zgr,ZfY h k2 day _ q2 q4,A6 m,A7 m]
theorem Zem(h:s.Ok){m:Int}(hm:0<m):∀(ds:EQ (EQ Du)),((s.tm m).dk ds).2=(s.dk ds).2/\∀x y,-s.depth<=x->x<=s.top->-s.depth<=y->y<=s.top->((s.tm m).dk ds).1 x y=m*(s.dk ds).1 x y
 | []=>⟨rfl,λx y _ _ _ _=>by show(s.tm m).fin x+(s.tm m).fin y=m*(s.fin x+s.fin y);rw[ZaD,ZaD,A6]⟩
 | day::r=>by
  obtain⟨k1,k2⟩:=Zem h hm r;refine⟨by show((s.tm m).dk r).2*aQ day=(s.dk r).2*aQ day;rw[k1],λx y x1 x2 y1 y2=>?_⟩
  show((s.tm m).pick day r (x,y)).1=m*(s.pick day r (x,y)).1;rw[Zcy h hm ⟨rfl,k1,k2⟩ day<|(aV h).mpr ⟨⟨x1,x2⟩,y1,y2⟩]
  rfl
abbrev fY:=Nat->Pt->EQ Pt->Pt
def Shp.wal(s:Shp)(f:fY):EQ (EQ Du)->Nat->Pt->EQ Pt->Int
 | [],_,p,_=>s.fin p.1+s.fin p.2
 |day::r,t,p,row=>wss (λi j=>(s.dk r).2*(s.day (f t p row).1 i+s.day (f t p row).2 j)+Shp.wal s f r (t+1) (s.nx (f t p row).1 i,s.nx (f t p row).2 j) (row++[(i,j)])) 0 day+s.ord (p.1+p.2) ((f t p row).1+(f t p row).2)*((s.dk r).2*aQ day)
theorem Zam(h:s.Ok){f:fY}(hf:∀t p row,p∈s.sts->f t p row∈s.rzs p):∀{ds:EQ (EQ Du)},(∀d∈ds,DdB d)->∀t p row,p∈s.sts->(s.dk ds).1 p.1 p.2<=s.wal f ds t p row
 | [],_,_,_,_,_=>AC _
 | day::r,hd,t,p,row,hp=>by
  obtain⟨⟨x1,x2⟩,y1,y2⟩:=(aV h).mp hp;have hq:=hf t p row hp;obtain⟨⟨a1,a2⟩,b1,b2⟩:=(eM x2 y2).mp hq;have m:=(jD h day r x1 x2 y1 y2).2 _ _ a1 a2 b1 b2;have ih:=Zam h hf (ds:=r) λd Fa=>hd d<|Ab _ Fa;unfold Shp.wal;generalize f t p row=q at *;have n:s.w2 day (s.dk r).1 (s.dk r).2 q.1 q.2<=wss (λi j=>(s.dk r).2*(s.day q.1 i+s.day q.2 j)+s.wal f r (t+1) (s.nx q.1 i,s.nx q.2 j) (row++[(i,j)])) 0 day:=by
   unfold Shp.w2;refine vQ (λl hl w hw=>(((hd day<|Aj ..).row l hl).2 w hw).1) λi j=>?_;unfold Shp.c2;have q:=ih (t+1) (s.nx q.1 i,s.nx q.2 j) (row++[((i:Int),(j:Int))])<|(aV h).mpr ⟨⟨cF s q.1 i,cE h a2<|show(0:Int)<=i by omega⟩,cF s q.2 j,cE h b2<|show(0:Int)<=j by omega⟩
   dsimp only at q;omega
  rw[A4<|(s.dk r).2*aQ day]at m;omega
theorem Zal(h:s.Ok){f:fY}{ds0:EQ (EQ Du)}(hf:∀t day r p row,ds0.drop t=day::r->p∈s.sts->f t p row=tu (s.pick day r p).2):∀{ds:EQ (EQ Du)}(t:Nat),ds0.drop t=ds->∀p row,p∈s.sts->s.wal f ds t p row=(s.dk ds).1 p.1 p.2
 | [],_,_,_,_,_=>rfl
 | day::r,t,e,p,row,hp=>by
  obtain⟨⟨x1,x2⟩,y1,y2⟩:=(aV h).mp hp;obtain⟨q,hq,e1,_⟩:=tG h (day:=day) (r:=r) hp;obtain⟨⟨a1,a2⟩,b1,b2⟩:=(eM x2 y2).mp hq;have hfq:f t p row=q:=by rw[hf t day r p row e hp,e1];rfl
  have e':ds0.drop (t+1)=r:=by
   rw[<- List.tail_drop,e]
   rfl
  have ih:=Zal h hf (ds:=r) (t+1) e';unfold Shp.wal;rw[hfq];have ev:(s.dk (day::r)).1 p.1 p.2=s.own2 (s.w2 day (s.dk r).1 (s.dk r).2) ((s.dk r).2*aQ day) p q:=by show(s.pick day r (p.1,p.2)).1=_;rw[e1]
  rw[ev];unfold Shp.own2 Shp.w2;have n:wss (s.c2 (s.dk r).1 (s.dk r).2 q.1 q.2) 0 day=wss (λi j=>(s.dk r).2*(s.day q.1 i+s.day q.2 j)+s.wal f r (t+1) (s.nx q.1 i,s.nx q.2 j) (row++[(i,j)])) 0 day:=by refine qf λi j=>?_;unfold Shp.c2;rw[ih (s.nx q.1 i,s.nx q.2 j) (row++[((i:Int),(j:Int))])<|(aV h).mpr ⟨⟨cF s q.1 i,cE h a2<|show(0:Int)<=i by omega⟩,cF s q.2 j,cE h b2<|show(0:Int)<=j by omega⟩]
  rw[n,A4<|(s.dk r).2*aQ day,BV]
def rq{t:Int}(hb:0<b):0<Gc.den t b:=by
 obtain⟨_,h2,h3,_⟩:=Gc.eA (t:=t) (b:=b)<|by omega
 rcases Int.lt_trichotomy 0 (Gc.den t b)with z|z|z
 ·exact z
 ·rw[<- z,Int.zero_mul]at h2;omega
 ·have:=Int.mul_neg_of_neg_of_pos z h3;omega
def Zba{X Y S:Int}(hS:0<S):br (Gc.bS X S*Gc.bO Y S+Gc.bS Y S*Gc.bO X S) (Gc.bO X S*Gc.bO Y S)=br (X+Y) S:=by
 obtain⟨x1,x2,x3,_⟩:=Gc.eA (t:=X) (b:=S)<|by omega
 obtain⟨y1,y2,y3,_⟩:=Gc.eA (t:=Y) (b:=S)<|by omega
 have g1:=rq (t:=X) hS;have g2:=rq (t:=Y) hS;generalize Gc.den X S=g at *;generalize Gc.den Y S=k at *;generalize Gc.bS X S=a at *;generalize Gc.bO X S=b at *;generalize Gc.bS Y S=c at *;generalize Gc.bO Y S=d at *;have e1:g*k*(a*d+c*b)=S*(X+Y):=by
  have q1:g*k*(a*d)=X*S:=by
   rw[x1]
   conv=>rhs;rw[y2]
   simp only[BZ,A4,A7]
  have q2:g*k*(c*b)=Y*S:=by
   rw[y1]
   conv=>rhs;rw[x2]
   simp only[BZ,A4,A7]
  rw[A6,q1,q2,A6,A4 X S,A4 Y S]
 have e2:g*k*(b*d)=S*S:=by
  have:g*b*(k*d)=S*S:=by rw[<- x2,<- y2]
  rw[<- this];simp only[BZ,A4,A7]
 rw[<- wm (m:=g*k) (BR x3 y3) (BR g1 g2),e1,e2,wm hS hS]
def Za9{A C S:Int}(hS:0<S):Gc.bS A S*Gc.bO C S<=Gc.bS C S*Gc.bO A S ↔ A<=C:=by
 obtain⟨x1,x2,x3,_⟩:=Gc.eA (t:=A) (b:=S)<|by omega
 obtain⟨y1,y2,y3,_⟩:=Gc.eA (t:=C) (b:=S)<|by omega
 have g1:=rq (t:=A) hS;have g2:=rq (t:=C) hS;generalize Gc.den A S=g at *;generalize Gc.den C S=k at *;generalize Gc.bS A S=a at *;generalize Gc.bO A S=b at *;generalize Gc.bS C S=c at *;generalize Gc.bO C S=d at *;have q1:g*k*(a*d)=A*S:=by
  have:g*a*(k*d)=A*S:=by rw[<- x1,<- y2]
  rw[<- this];simp only[BZ,A4,A7]
 have q2:g*k*(c*b)=C*S:=by
  have:k*c*(g*b)=C*S:=by rw[<- y1,<- x2]
  rw[<- this];simp only[BZ,A4,A7]
 have hg:=BR g1 g2;constructor
 ·intro h;have:=BI h<|BU hg;rw[q1,q2]at this;exact Int.le_of_mul_le_mul_right this hS
 ·intro h;have:=CU h<|BU hS;rw[<- q1,<- q2]at this;exact Int.le_of_mul_le_mul_left this hg
end Tw
namespace L2
noncomputable def ZcA(c:EV)(at' left:Int):HO:=.lst [.ref c,.int at',.int left]
structure Pen2(H:Hp)(p c:EV)(ns:Du)(m:Nat):Prop where
 ex:∃(k:Nat)(left:Int),H p=some (ZcA c k left)/\k<=m/\0<=left
 cells:H c=some (.lst<|ns.map V.int)
 len:ns.length<=63
 ne:c≠p
def ZaX:Sp:=λvs H Q _=>∃(p c:EV)(ns:Du)(m:Nat)(most:Int),vs=[.ref p,.int most]/\Pen2 H p c ns m/\m<=500000/\0<most/\most<1073741824 /\
 ∀(r:Int)(H':Hp),0<=r->r<most->Pen2 H' p c ns (m+1)->Kept p H H'->Q (.int r) H'
def Zg0(K:Dh):Sp:=λvs H Q _=>∃(a:EV)(ns:Du),vs=[.ref a]/\SqL K H a (ns.map V.int)/\ns.length<=63 /\
 ∀(p c:EV)(H':Hp),H p=none->Pen2 H' p c ns 0->Same H H'->Q (.ref p) H'
def dS(cn:EV×Du):Pk where
 is:=λo G m=>∃(k:Nat)(left:Int),o=ZcA cn.1 k left/\k<=m/\0<=left/\G cn.1=some (.lst<|cn.2.map V.int)/\cn.2.length<=63
 mono:=λs ⟨k,left,e,h1,h2,h3,h4⟩=>⟨k,left,e,h1,h2,s _ _ h3,h4⟩
def cK{cn:EV×Du}:PkLow (dS cn):=⟨λ⟨_,_,_,_,_,h3,_⟩ _ ⟨k,left,e,h1,h2,_,h4⟩=>⟨k,left,e,h1,h2,h3,h4⟩⟩
def Zii{ι:Type}{e:EQ E3}{t:ι->TS}(h:∀i,PSs X e<|t i):PSs X e (λD σ H=>∃i,t i D σ H):=λpins s σ H D I z=>by obtain⟨i,z⟩:=z;exact h i pins s σ H D I z
noncomputable def uk:Dm:=λas=>match as with
 | [.pen,.d<|.int most]=>.draw most λr=>.ret (.d<|.int r)
 |_=>.fail
def Zej{as:Dz}{Z:Nat->Re->Prop}(h:(uk as).ok m Z):∃most,as=[.pen,.d<|.int most]:=by
 unfold uk at h
 split at h
 ·exact⟨_,rfl⟩
 ·exact h.elim
def ZlC{cn:EV×Du}{P:EW}{w:EX}{K:Dh}{mg:Dy}{base:EZ}{ps:Dw}(hp:ps.length=2)(C:Callee P w K mg base x k ps ZaX):ACal (dS cn) P w K mg base x k ps uk:=by
 refine⟨?_,λas m Z h=>by obtain⟨most,rfl⟩:=Zej h;exact hp.symm⟩
 obtain⟨f,fd,F,hm,hk,hb⟩:=C.ex;refine⟨f,fd,F.imp λvs H Q E h=>?_,hm,hk,hb⟩;obtain⟨hv,pa,m,G,as,wd,ar,z⟩:=h;obtain⟨most,rfl⟩:=Zej z;obtain⟨h1,h2,h3,h4⟩:=z;cases ar with
 | cons a1 ar =>
  cases ar with
  | cons a2 ar =>
   cases ar;cases a1;cases a2 with
   | d d2 =>
    cases d2;obtain⟨c,ns⟩:=cn;obtain⟨o,ho,kk,left,rfl,q1,q2,q3,q4⟩:=wd.pen
    replace q3:G c=some (.lst<|ns.map V.int):=q3
    have ncp:c≠pa:=λz=>by rw[z,wd.gpa]at q3;cases q3
    refine⟨pa,c,ns,m,most,rfl,⟨⟨kk,left,ho,q1,q2⟩,wd.sub _ _ q3,q4,ncp⟩,by omega,h2,h3,λr H' r0 r1 P' K'=>?_⟩
    refine h4 r r0 r1 (.int r) G H' ⟨λ_ _ q=>q,λ_ _ q=>.inl q,λb o e n=>K' b o e n⟩ ⟨λb o e=>K' b o (wd.sub b o e) (λz=>by subst z;rw[wd.gpa]at e;cases e),wd.gpa,?_⟩<|.int r
    obtain⟨⟨k2,l2,e2,g1,g2⟩,_,_,_⟩:=P';exact⟨_,e2,k2,l2,rfl,g1,g2,q3,q4⟩
def Zj1{ts:EQ EV}{D:Ends}{p c:EV}{ns:Du}{s:Dl}{n:Nat}(P:Pen2 H p c ns 0)(hT:∀t∈ts,H t=some (.cod #[]))(hσ:σ.length=n+2)(h1:σ[1]?=some (some<|.ref p))(hrt:∀H',(∀t∈ts,H' t=some (.cod #[]))->D.rt (.bl true) H')
  (h:(s (.un::.pen::List.replicate n .un)).ok 0 λ_ o=>o=.ret (.d<|.bool true)):∃cn,bg (PKs ts<|dS cn) s D σ H:=by
 obtain⟨⟨k,l,e,hk,hl⟩,hc,hn,ncp⟩:=P;have npc:p≠c:=Ne.symm ncp;have pts:p∉ts:=λz=>by have:=hT p z;rw[e]at this;cases this
 have key:∀(i:Nat)(sl:Sl),(Sl.un::.pen::List.replicate n .un)[i]?=some sl->sl=.un\/(i=1/\sl=.pen):=λi sl hi=>by
  match i with
  |0=>simp at hi;exact .inl hi.symm
  |1=>simp at hi;exact .inr ⟨rfl,hi.symm⟩
  | i+2 =>
   simp[AG]at hi;exact .inl hi.2.symm
 obtain⟨G,gs,gp,gc,gt⟩:∃G:Hp,Sub G H/\G p=none/\G c=some (.lst<|ns.map V.int)/\∀t∈ts,∃ps,G t=some (.cod ps):=by
  refine⟨λb=>if b=p then none else H b,λb o hb=>?_,DD rfl,?_,λt ht=>⟨#[],?_⟩⟩
  ·by_cases z:b=p
   ·simp[z]at hb
   ·simpa [z]using hb
  ·simp[ncp,hc]
  ·have:t≠p:=λz=>pts<|z ▸ ht;simp[this,hT t ht]
 refine⟨(c,ns),p,G,H,0,_,G,⟨⟨gs,gp,?_⟩,.refl,⟨_,e⟩,λi sl hi=>?_,by simp[hσ],λi j xs ys _ hi _=>?_,λi j xs ys _ hi _=>by rcases key i _ hi with z|⟨_,z⟩ <;> cases z⟩,Tr.ok_mono h λm o ho=>?_⟩
 ·exact⟨_,e,⟨k,l,rfl,hk,hl,gc,hn⟩,gt⟩
 ·have E6:i<σ.length:=by have:=(Ad.mp hi).1;simp at this;omega
  rcases key i sl hi with rfl|⟨rfl,rfl⟩
  ·exact⟨σ[i],by simp[E6],.un⟩
  ·exact⟨_,h1,.pen⟩
 ·rcases key i _ hi with z|⟨_,z⟩ <;> cases z
 ·subst ho;intro v G' H' s' w' d;cases (show Dn G' v (.bool true)from d)
  exact hrt H' λt ht=>s'.hk _ _ (hT t ht) λz=>pts<|z ▸ ht
def ZfV{l:PySem.W.OpenLaw}{q:EW}{loose:Dw}{XP:Dy->EZ->Prop}{d:DefRec}{K:Params->Dh}{as ts:EQ EV}{e:∀P:Params,as=(K P).map (λx=>x.fst)}
  (hn:l.most=some 63) (hdf:d.params.defaults=[]) (hr:Room k callerA)
  (F:∀(w:EX)(mg:Dy)(fa:EV)(h:EZ),(K w.params).In h->h.Ns mainGlobals mg->mg d.name=some (.ref fa) ->
   ∃(fd:FuncData)(us:EQ EV),(∀t∈us,t∈ts/\(K w.params).lookup t=none/\∃c0,CodK (K w.params) c0 t)/\(∀(s:EU)(u:ET),BindsTo s fd ⟨[u],[]⟩ [(x,u)]) /\
    ∀base:EZ,(K w.params).In base->base.Ns mainGlobals mg->BltK base mg->FnOk l.prog w (K w.params) mg base cO k fa fd [x] (qr us<|K w.params)) :
  PySem.W.WalkO q loose XP (PySem.W.kmHook K as e ts).says l.row.toRowW d [] (λf vs=>PySem.call f vs):=by refine Att.attach_call hn hdf λw s₀ s₁ mg mb fa o pm cd doc a vs ns G Y ho hd Fo hmg hobj hints hlen hg=>?_;have KX:=PySem.W.km_in_of Y;obtain⟨fd,us,hu,hb,hF⟩:=F w mg fa _ KX G.T.g hmg;exact Zj2 KX G.T.g G.T.b G.T.builtins G.T.nolimit G.T.nodigits hg hobj hints (Ap hlen<|by decide) hlen hr (λt ht=>PySem.W.km_tabs_of Y t (hu t ht).1) (λt ht=>(hu t ht).2.1) (λt ht=>(hu t ht).2.2) ⟨G.T.bmain⟩ hF hb
section
variable{K:Dh}{mg:Dy}
def ZlG{st:E3}{ps:Dw}{h:EZ}{f c0 Pt:EV}{oc:ET}{od an cd:ER EV}{osl cs:Array (ER ET)}{kV doc pm ct:ET}{vs:Array ET}(X:K.In h)(G:h.Ns mainGlobals mg)
  (a:PySem.W.nsIn K mainGlobals x=some (some<|.ref f)) (l:K.lookup f=some ⟨oc,od,.func<|PySem.W.fnOf x x (fy st) (db st) (az st) .none kV doc pm an (.ref c0) ct,osl⟩)
  (c:PySem.W.codeIn K (.ref c0) x=true) (k:PySem.W.keepIn K (.ref f)=true)
  (hb:∀(kV doc pm:ET)(an:ER EV)(E7 ct:ET)(us:Dv),us.length=ps.length->bindArgs (PySem.W.fnOf x x (fy st) (db st) (az st) .none kV doc pm an E7 ct) ⟨us,[]⟩=pure (ps.zip us))
  (e:K.lookup c0=some ⟨.type "code",cd,.fields vs,cs⟩)
  (v:∃file tf flags tg inF text tt,vs[11]?=some (.ref Pt)/\vs.getD 18 .none=.str file tf/\vs.getD 7 .none=.int flags tg/\vs.getD 9 .none=.bool inF/\vs.getD 10 .none=.int text tt)
  (hP:K.lookup Pt=none):DefK K mg x st ps c0 Pt:=by
 have F:=ZdG (st:=st) l c k;obtain⟨file,tf,flags,tg,inF,text,tt,v1,v2,v3,v4,v5⟩:=v;have ne:c0≠Pt:=λz=>by subst z;rw[hP]at e;cases e
 exact⟨⟨f,oc,od,kV,doc,pm,an,ct,osl,Db X G a,l,k,F.binds hb⟩,c,⟨_,vs,file,tf,flags,tg,inF,text,tt,e,rfl,rfl,v1,v2,v3,v4,v5⟩,ne⟩
end
section
variable{K:Dh}{mg:Dy}
def Tb(K:Dh)(ts:EQ EV)(t:EV):Prop:=t∈ts/\K.lookup t=none/\∃c0,CodK K c0 t
def Zev{st:E3}{ps:Dw}{h:EZ}{ts:EQ EV}{f c0 Pt:EV}{oc:ET}{od an cd:ER EV}{osl cs:Array (ER ET)}{kV doc pm ct:ET}{vs:Array ET}(X:K.In h)(G:h.Ns mainGlobals mg)
  (a:PySem.W.nsIn K mainGlobals x=some (some<|.ref f)) (l:K.lookup f=some ⟨oc,od,.func<|PySem.W.fnOf x x (fy st) (db st) (az st) .none kV doc pm an (.ref c0) ct,osl⟩)
  (c:PySem.W.codeIn K (.ref c0) x=true) (k:PySem.W.keepIn K (.ref f)=true)
  (hb:∀(kV doc pm:ET)(an:ER EV)(E7 ct:ET)(us:Dv),us.length=ps.length->bindArgs (PySem.W.fnOf x x (fy st) (db st) (az st) .none kV doc pm an E7 ct) ⟨us,[]⟩=pure (ps.zip us))
  (e:K.lookup c0=some ⟨.type "code",cd,.fields vs,cs⟩)
  (v:∃file tf flags tg inF text tt,vs[11]?=some (.ref Pt)/\vs.getD 18 .none=.str file tf/\vs.getD 7 .none=.int flags tg/\vs.getD 9 .none=.bool inF/\vs.getD 10 .none=.int text tt)
  (m:(ts.contains Pt)=true) (hP:K.lookup Pt=none):∃c0 Pt,DefK K mg x st ps c0 Pt/\Tb K ts Pt:=by have D:=ZlG (st:=st) (ps:=ps) X G a l c k hb e v hP;exact⟨c0,Pt,D,by simpa using m,hP,c0,D.ck⟩
def Zgf{q:EW}{w:EX}{x1 x2:Str}{st1 st2:E3}{ps1 ps2:Dw}{ts:EQ EV}{fa:EV}{fd:FuncData}(h1:∃c0 Pt,DefK K mg x1 st1 ps1 c0 Pt/\Tb K ts Pt)(h2:∃c0 Pt,DefK K mg x2 st2 ps2 c0 Pt/\Tb K ts Pt)
  (hb:∀(s:EU)(u:ET),BindsTo s fd ⟨[u],[]⟩ [(x,u)])
  (U:∀(c1 P1 c2 P2:EV),DefK K mg x1 st1 ps1 c1 P1->DefK K mg x2 st2 ps2 c2 P2->∀base:EZ,BltK base mg->FnOk q w K mg base cO k fa fd [x] (qr [P1,P2] K)) :
  ∃(fd:FuncData)(us:EQ EV),(∀t∈us,t∈ts/\K.lookup t=none/\∃c0,CodK K c0 t)/\(∀(s:EU)(u:ET),BindsTo s fd ⟨[u],[]⟩ [(x,u)]) /\
   ∀base:EZ,K.In base->base.Ns mainGlobals mg->BltK base mg->FnOk q w K mg base cO k fa fd [x] (qr us K):=by
 obtain⟨c1,P1,D1,M1⟩:=h1;obtain⟨c2,P2,D2,M2⟩:=h2;refine⟨fd,[P1,P2],λt ht=>?_,hb,λbase _ _ BK=>U c1 P1 c2 P2 D1 D2 base BK⟩;simp only[Au,Bb,Ee]at ht;rcases ht with rfl|rfl
 ·exact M1
 ·exact M2
end
end L2
namespace My
open L2
noncomputable def top(i:Nat):E3:=PySem.Challenge.pw_twomarks_k49_whole_two_stores.main.body.getD i<|.Pass ⟨0,0,0,0⟩
abbrev Zbn:E3:=top 4
noncomputable abbrev Zon:Dw:=["one","other"]
def wq:FnScope Zon ["one","other"] (az Zbn):=by trivial
abbrev Zbh:E3:=top 5
abbrev Zoh:Dw:=["top","bottom","divisor"]
def wo:FnScope Zoh ["top","bottom"] (az Zbh):=by trivial
abbrev Zbg:E3:=top 16
abbrev Zog:Dw:=["shop"]
def Zhd:FnScope Zog ["shop"] (az Zbg):=by trivial
abbrev Zbj:E3:=top 17
noncomputable abbrev Zoj:Dw:=["shop","stock","level"]
def Zhg:FnScope Zoj ["shop","stock","level"] (az Zbj):=by trivial
abbrev Zbk:E3:=top 18
noncomputable abbrev Zok:Dw:=["shop","level","fall"]
def Zhh:FnScope Zok ["shop","level","fall"] (az Zbk):=by trivial
abbrev Zbm:E3:=top 19
noncomputable abbrev Zom:Dw:=["shop","level","fall","stock","sold_never","held"]
def sI:FnScope Zom ["shop","level","fall"] (az Zbm):=by trivial
abbrev Zbl:E3:=top 20
abbrev Zol:Dw:=["shop","stock"]
def Zhk:FnScope Zol ["shop","stock"] (az Zbl):=by trivial
abbrev wD:E3:=top 22
abbrev ZfD:Dw:=["day"]
def Zhl:FnScope ZfD ["day"] (az wD):=by trivial
abbrev wx:E3:=top 23
abbrev zL:Dw:=["shop"]
def Zhe:FnScope zL ["shop"] (az wx):=by trivial
abbrev wy:E3:=top 24
abbrev zM:Dw:=["shop","stand","one","other","top"]
def sF:FnScope zM ["shop","stand"] (az wy):=by trivial
abbrev Zbi:E3:=top 25
noncomputable abbrev Zoi:Dw:=["shop","stand","raised"]
def Zhf:FnScope Zoi ["shop","stand","raised"] (az Zbi):=by trivial
abbrev wB:E3:=top 26
abbrev zN:Dw:=["shop"]
def Zhi:FnScope zN ["shop"] (az wB):=by trivial
abbrev Zbe:E3:=top 27
noncomputable abbrev Zoe:Dw:=["shop","day","raised","ahead","scale","first","second","total","fall","line","other","weight","cost","following"]
def fJ:FnScope Zoe ["shop","day","raised","ahead","scale"] (az Zbe):=by trivial
abbrev wF:E3:=top 28
noncomputable abbrev zO:Dw:=["shop","day","ahead","scale"]
def Zho:FnScope zO ["shop","day","ahead","scale"] (az wF):=by trivial
abbrev wE:E3:=top 29
noncomputable abbrev ZfE:Dw:=["shop","stand","behind","scale"]
def Zhm:FnScope ZfE ["shop","stand","behind","scale"] (az wE):=by trivial
abbrev qx:E3:=top 30
noncomputable abbrev p9:Dw:=["shop","double","days","ahead","scale","day","behind","picks"]
def gF:FnScope p9 ["shop","double"] (az qx):=by trivial
abbrev wC:E3:=top 32
abbrev ZfC:Dw:=["shop"]
def Zhj:FnScope ZfC ["shop"] (az wC):=by trivial
abbrev Zbf:E3:=top 33
noncomputable abbrev Zof:Dw:=["shop","day","level","ahead","scale","total","fall","weight","following"]
def km:FnScope Zof ["shop","day","level","ahead","scale"] (az Zbf):=by trivial
abbrev wA:E3:=top 35
noncomputable abbrev ZfB:Dw:=["shop","day","ahead","scale","own_scale"]
def Zbc:FnScope ZfB ["shop","day","ahead","scale"] (az wA):=by trivial
abbrev Zbo:E3:=top 36
noncomputable abbrev Zoo:Dw:=["shop","low","by_level","scale","picks","best","stock","own","cost","level"]
def ib:FnScope Zoo ["shop","low","by_level","scale"] (az Zbo):=by trivial
abbrev Zbp:E3:=top 37
abbrev Zop:Dw:=["shop","by_level","scale"]
def Zhn:FnScope Zop ["shop","by_level","scale"] (az Zbp):=by trivial
abbrev sL:E3:=top 38
noncomputable abbrev vH:Dw:=["shop","falls","days","ahead","scale","day","by_level","picks"]
def gH:FnScope vH ["shop","falls"] (az sL):=by trivial
abbrev Zbs:E3:=top 40
noncomputable abbrev Zos:Dw:=["_law_script"]
def Zhs:FnScope Zos ["_law_script"] (az Zbs):=by trivial
abbrev Zbz:E3:=top 41
noncomputable abbrev Zoz:Dw:=["_law_pen_here","_law_many","_law_digit","_law_at","_law_cell","_law_mixed_here"]
def kr:FnScope Zoz ["_law_pen_here","_law_many"] (az Zbz):=by trivial
abbrev sM:E3:=top 42
noncomputable abbrev qa:Dw:=["_law_pen_here","_law_bound","_law_wide","_law_rows"]
def sK:FnScope qa ["_law_pen_here"] (az sM):=by trivial
abbrev wI:E3:=top 43
noncomputable abbrev zR:Dw:=["_law_pen_here","_law_bound","_law_top","_law_prices"]
def sJ:FnScope zR ["_law_pen_here"] (az wI):=by trivial
abbrev wJ:E3:=top 44
abbrev ZfG:Dw:=["_law_pen_here"]
def Zhv:FnScope ZfG ["_law_pen_here"] (az wJ):=by trivial
abbrev Zbu:E3:=top 45
noncomputable abbrev Zou:Dw:=["_law_shop_here","_law_level","_law_fall","_law_stock","_law_never"]
def wu:FnScope Zou ["_law_shop_here","_law_level","_law_fall"] (az Zbu):=by trivial
abbrev Zby:E3:=top 46
noncomputable abbrev Zoy:Dw:=["_law_shop_here","_law_stock"]
def Zhu:FnScope Zoy ["_law_shop_here","_law_stock"] (az Zby):=by trivial
abbrev Zbt:E3:=top 47
noncomputable abbrev Zot:Dw:=["_law_shop_here","_law_stand","_law_goal_here","_law_many"]
def Zbd:FnScope Zot ["_law_shop_here","_law_stand","_law_goal_here"] (az Zbt):=by trivial
abbrev Zbr:E3:=top 48
noncomputable abbrev Zor:Dw:=["_law_top","_law_bottom","_law_one","_law_other"]
def wt:FnScope Zor ["_law_top","_law_bottom"] (az Zbr):=by trivial
abbrev Zbq:E3:=top 49
abbrev Zoq:Dw:=["_law_one","_law_other"]
def Zhr:FnScope Zoq ["_law_one","_law_other"] (az Zbq):=by trivial
abbrev Zbv:E3:=top 50
abbrev Zov:Dw:=["_law_one","_law_other"]
def Zht:FnScope Zov ["_law_one","_law_other"] (az Zbv):=by trivial
abbrev wH:E3:=top 51
abbrev vI:Dw:=["_law_one"]
def Zhp:FnScope vI ["_law_one"] (az wH):=by trivial
abbrev wK:E3:=top 52
noncomputable abbrev vJ:Dw:=["_law_double_here"]
def Zhx:FnScope vJ ["_law_double_here"] (az wK):=by trivial
abbrev sN:E3:=top 53
noncomputable abbrev zS:Dw:=["_law_shop_here","_law_table","_law_stands","_law_one"]
def ww:FnScope zS ["_law_shop_here","_law_table"] (az sN):=by trivial
abbrev sO:E3:=top 54
noncomputable abbrev qb:Dw:=["_law_shop_here","_law_double_here","_law_costs","_law_turned_here","_law_free","_law_there","_law_singles","_law_one","_law_other","_law_at","_law_low","_law_high"]
def gh:FnScope qb ["_law_shop_here","_law_double_here","_law_costs"] (az sO):=by trivial
abbrev Zbx:E3:=top 55
noncomputable abbrev Zox:Dw:=["_law_shop_here","_law_table","_law_t","_law_stand","_law_low","_law_wide"]
def wv:FnScope Zox ["_law_shop_here","_law_table","_law_t","_law_stand"] (az Zbx):=by trivial
abbrev i7:E3:=top 56
abbrev ZfF:Dw:=["_law_shop_here","_law_table"]
def Zhq:FnScope ZfF ["_law_shop_here","_law_table"] (az i7):=by trivial
abbrev i8:E3:=top 57
abbrev ZfH:Dw:=["_law_shop_here","_law_key"]
def Zhw:FnScope ZfH ["_law_shop_here","_law_key"] (az i8):=by trivial
abbrev Zbw:E3:=top 58
noncomputable abbrev Zow:Dw:=["_law_shop_here","_law_number","_law_stand","_law_row","_law_i","_law_j","_law_first","_law_second"]
def i5:FnScope Zow ["_law_shop_here","_law_number","_law_stand","_law_row"] (az Zbw):=by trivial
abbrev ku:E3:=top 59
noncomputable abbrev zQ:Dw:=["_law_shop_here","_law_double_here","_law_t","_law_stand","_law_row","_law_way","_law_goal_here","_law_found","_law_bottom","_law_i","_law_line","_law_j","_law_weight","_law_first","_law_stock","_law_second","_law_other","_law_later"]
def cZ:FnScope zQ ["_law_shop_here","_law_double_here","_law_t","_law_stand","_law_row","_law_way"] (az ku):=by trivial
abbrev wG:E3:=top 60
noncomputable abbrev zP:Dw:=["_law_pen_here","_law_shop_here","_law_double_here","_law_table","_law_costs","_law_ways","_law_some","_law_turn","_law_stand","_law_k","_law_cost","_law_bottom"]
def ie:FnScope zP ["_law_pen_here","_law_shop_here","_law_double_here","_law_table","_law_costs"] (az wG):=by trivial
abbrev i6:E3:=top 61
noncomputable abbrev g9:Dw:=["_law_script","_law_pen_here","_law_many","_law_shop_here","_law_double_here","_law_table","_law_kept","_law_costs","_law_turned_here","_law_dear","_law_due"]
def fK:FnScope g9 ["_law_script"] (az i6):=by trivial
structure Txt(K:Dh)(mg:Dy):Prop where
 iu:mg "len"=none
 kN:mg "abs"=none
 kM:mg "max"=none
 xJ:mg "min"=none
 gm:mg "repr"=none
 Zjr:mg "int"=none
 Zjq:mg "list"=none
 c7:mg "tuple"=none
 dJ:mg "range"=none
 Zjp:mg "sorted"=none
 Zjo:mg "zip"=none
 gL:mg "sum"=none
 Zjs:mg "dict"=none
 qQ:mg "enumerate"=none
 ZoE:mg "ValueError"=none
 xI:mg "reversed"=none
 uG:∃t,mg "TOP"=some (.int 0 t)
 uH:∃t,mg "DEPTH"=some (.int 1 t)
 ZdF:∃t,mg "START"=some (.int 2 t)
 yq:∃t,mg "PIECE"=some (.int 3 t)
 ZkB:∃t,mg "KEEP"=some (.int 4 t)
 ZkA:∃t,mg "LACK"=some (.int 5 t)
 Zky:∃t,mg "LOST"=some (.int 6 t)
 ZkC:∃t,mg "BACK"=some (.int 7 t)
 Zkz:∃t,mg "LATE"=some (.int 8 t)
 Zl4:Def K mg "common_divisor" Zbn ["one","other"]
 ZlP:Def K mg "share" Zbh ["top","bottom"]
 ZlN:Def K mg "stocks" Zbg ["shop"]
 ZlS:Def K mg "order_cost" Zbj ["shop","stock","level"]
 ZlT:Def K mg "next_stock" Zbk ["shop","level","fall"]
 Zl3:Def K mg "day_cost" Zbm ["shop","level","fall"]
 Zl1:Def K mg "end_cost" Zbl ["shop","stock"]
 Zl2:Def K mg "day_scale" wD ["day"]
 ZlO:Def K mg "stands" wx ["shop"]
 ZlQ:Def K mg "raises_from" wy ["shop","stand"]
 ZlR:Def K mg "raise_cost" Zbi ["shop","stand","raised"]
 ZlZ:Def K mg "end_of_both" wB ["shop"]
 ZlL:Def K mg "weighed_both" Zbe ["shop","day","raised","ahead","scale"]
 Zl8:Def K mg "behind_raises" wF ["shop","day","ahead","scale"]
 Zl5:Def K mg "cheapest_raise" wE ["shop","stand","behind","scale"]
 ZlV:Def K mg "least_double" qx ["shop","double"]
 Zl0:Def K mg "end_costs" wC ["shop"]
 ZlM:Def K mg "weighed" Zbf ["shop","day","level","ahead","scale"]
 ZlU:Def K mg "level_sums" wA ["shop","day","ahead","scale"]
 Zl6:Def K mg "cheapest_from" Zbo ["shop","low","by_level","scale"]
 Zl7:Def K mg "cheapest" Zbp ["shop","by_level","scale"]
 ZlW:Def K mg "least" sL ["shop","falls"]
 Zme:Def K mg "_law_pen" Zbs ["_law_script"]
 Zml:Def K mg "_law_draw" Zbz ["_law_pen_here","_law_many"]
 Zmm:Def K mg "_law_double_day" sM ["_law_pen_here"]
 Zmc:Def K mg "_law_shop" wI ["_law_pen_here"]
 Zmn:Def K mg "_law_double" wJ ["_law_pen_here"]
 Zmg:Def K mg "_law_one_cost" Zbu ["_law_shop_here","_law_level","_law_fall"]
 Zmk:Def K mg "_law_end" Zby ["_law_shop_here","_law_stock"]
 Zmf:Def K mg "_law_order" Zbt ["_law_shop_here","_law_stand","_law_goal_here"]
 Zmd:Def K mg "_law_share" Zbr ["_law_top","_law_bottom"]
 Zmb:Def K mg "_law_sum" Zbq ["_law_one","_law_other"]
 Zmh:Def K mg "_law_no_more" Zbv ["_law_one","_law_other"]
 Zma:Def K mg "_law_turned" wH ["_law_one"]
 Zmq:Def K mg "_law_alone" wK ["_law_double_here"]
 Zmo:Def K mg "_law_by_stands" sN ["_law_shop_here","_law_table"]
 Zmp:Def K mg "_law_apart_right" sO ["_law_shop_here","_law_double_here","_law_costs"]
 Zmj:Def K mg "_law_goal" Zbx ["_law_shop_here","_law_table","_law_t","_law_stand"]
 ZoH:Def K mg "_law_told" i7 ["_law_shop_here","_law_table"]
 ZoI:Def K mg "_law_any" i8 ["_law_shop_here","_law_key"]
 Zmi:Def K mg "_law_mixed" Zbw ["_law_shop_here","_law_number","_law_stand","_law_row"]
 yJ:Def K mg "_law_walked" ku ["_law_shop_here","_law_double_here","_law_t","_law_stand","_law_row","_law_way"]
 Zl9:Def K mg "_law_walks_right" wG ["_law_pen_here","_law_shop_here","_law_double_here","_law_table","_law_costs"]
 ZlX:Def K mg "law" i6 ["_law_script"]
def ZmG(ns:Du)(a:Nat)(h:ns≠[]):∃z:Int,ba (ns.map V.int) ((a:Int)%((ns.map V.int).length:Nat))=some (.int z):=by
 have hl:0<ns.length:=CF.mpr h;have FE:(ns.map V.int).length=ns.length:=v9 ..;have e:(a:Int)%((ns.map V.int).length:Nat)=((a%ns.length:Nat):Int):=by rw[FE];omega
 have E6:a%ns.length<ns.length:=Nat.mod_lt _ hl;rw[e];exact⟨ns[a%ns.length],eV<|by rw[Ak,Ah E6];rfl⟩
section
variable{P:EW}{w:EX}{K:Dh}{mg:Dy}{base:EZ}
def Zi9(T:Txt K mg):Callee P w K mg base "_law_pen" 1 ["_law_script"] (Zg0 K):=by
 refine T.Zme.ok Zhs (λvs H Q E h=>?_)<|λf E7 A outer s H vs Q E hr h=>?_
 ·obtain⟨a,ns,rfl,_⟩:=h
  rfl
 ·obtain⟨a,ns,rfl,hS,hlen,k⟩:=h;have hu:=eQ hr;refine⟨_,(kC<|io<|xw<|ci (cD (ZmQ) rfl T.Zjq boot_list (ci (ZcB Za4 (pv 0) Zcw<|Zcv bW) cL))<|ci bW<|ci bW cL),?_⟩;refine⟨_,rfl,63,rfl,a,_,rfl,hS,λq hq=>⟨q,_,rfl,Or.inl<|SqL.of bv,λc hc=>⟨by show 3<=sizeLine;decide,λp hp=>?_⟩⟩⟩
  have hcut:fA (ns.map V.int) none (some 63)=ns.map V.int:=by
   unfold fA;have e:HT.aR (ns.map V.int).length (ns.map V.int).length (some 63)=(ns.map V.int).length:=by have q:=HT.ZhC (ns.map V.int).length (ns.map V.int).length 63;rw[v9]at q ⊢;exact q.trans<|Nat.min_eq_right hlen
   rw[e];show((ns.map V.int).drop 0).take ((ns.map V.int).length-0)=_;rw[Bp,Nat.sub_zero,Ct]
  have s1:Same H (upd H q<|.lst<|fA (ns.map V.int) none<|some 63):=(Same.refl _).new hq;have s2:=s1.new (o:=.lst<|fA (ns.map V.int) none<|some 63) hc;have s3:=s2.new (o:=.lst [.ref c,.int 0,.int 0]) hp;have npc:c≠p:=λz=>by rw[<- z,bv]at hp;cases hp
  refine k p c _ (s2.free hp) ⟨⟨0,0,bv,Ag _,AC _⟩,?_,hlen,npc⟩ s3;rw[aA npc,bv,hcut]
def Znr{z:Int}(h3:0<=a)(h4:a<=500000):(z%2147483629+42013*a+113).natAbs<2^64:=by
 have:=Cd z (by decide:(2147483629:Int)≠0)
 have:=B0 z (by decide:(0:Int)<2147483629)
 omega
def Zje(T:Txt K mg):Callee P w K mg base "_law_draw" 1 ["_law_pen_here","_law_many"] ZaX:=by
 refine T.Zml.ok kr (λvs H Q E h=>?_)<|λf E7 A outer s H vs Q E hr h=>?_
 ·obtain⟨p,c,ns,m,most,rfl,_⟩:=h
  rfl
 ·obtain⟨p,c,ns,m,most,rfl,hP,hm,h0,h1,k⟩:=h;have hu:=eQ hr;refine⟨_,(dI (tD (qG kJ (fj ft (pv 0) bW<|λ_ _=>rfl) bW<|nomark _) (dI (fM (i:=2) kr.nd<|cy ip (fj ft (pv 0) bW<|λ_ _=>rfl)<|pv 1)
 (dI (fg (cy xE (fj ft (pv 0) bW<|λ_ _=>rfl)<|pv 1)<|qK (pv 0) bW qv)
 (kC<|io<|pv 2))) tz)
 (dI (fM (i:=3) kr.nd<|fj ft (pv 0) bW<|λ_ _=>rfl)
 (dI (fg (cy jf (pv 3) bW)<|qK (pv 0) bW qv)
 (dI (fM (i:=4) kr.nd<|cy jf (cy xC bW<|pv 3) bW)
 (dI (PS.join<|tD (qG kJ (bu (iM) rfl T.iu EB (ci (fj ft (pv 0) bW<|λ_ _=>rfl) cL)) bW<|nomark _) (kC<|fM (i:=4) kr.nd<|fj ft (fj ft (pv 0) bW<|λ_ _=>rfl) (cy ip (pv 3)<|bu (iM) rfl T.iu EB (ci (fj ft (pv 0) bW<|λ_ _=>rfl) cL))<|λ_ _=>rfl) tz)
 (dI (tD (PT.join<|PW.pt<|Zcq (qG xD (pv 3) (bu (iM) rfl T.iu EB (ci (fj ft (pv 0) bW<|λ_ _=>rfl) cL))<|nomark _)<|Zcp<|qG Zi3 (bu (pM) rfl T.kN boot_abs (ci (pv 4) cL)) (cy qM bW bW)<|nomark _) (dI (fg (cy xE (bu (pM) rfl T.kN boot_abs (ci (pv 4) cL))<|pv 1)<|qK (pv 0) bW qv)
 (kC<|io<|cy ip (bu (pM) rfl T.kN boot_abs (ci (pv 4) cL))<|pv 1)) tz)
 (dI (fM (i:=5) kr.nd<|cy ip (cy qM (cy jf (cy jf (cy ip (pv 4) bW)<|cy xC bW<|pv 3) bW) bW) bW)
 (kC<|io<|cy ip (cy xE (cy ip (cy xC (pv 5)<|cy jf (cy jf (cy ip (pv 5) bW)<|pv 3) bW) bW) bW)<|pv 1)))))))),?_⟩
  obtain⟨⟨a,l,hd,ha,hl⟩,hc,hn,npc⟩:=hP;have Fa:H p=some (.lst [.ref c,.int a,.int l]):=hd;have x2:ba [V.ref c,.int (a:Int),.int l] 2=some (.int l):=iO;have x1:ba [V.ref c,.int (a:Int),.int l] 1=some (.int (a:Int)):=iP;refine⟨_,rfl,p,_,_,_,rfl,rfl,SqL.of Fa,x2,_,_,rfl,rfl,_,rfl,?_⟩;refine uz (λhz=>?_)<|λhz=>?_
  ·refine⟨_,rfl,p,_,_,_,rfl,rfl,SqL.of Fa,x2,_,rfl,_,_,rfl,rfl,h0,?_⟩;refine⟨_,rfl,p,_,_,_,rfl,rfl,SqL.of Fa,x2,_,rfl,_,_,rfl,rfl,⟨h0,h1⟩,_,rfl,p,_,2,2,rfl,rfl,Fa,rfl,?_⟩;refine⟨_,rfl,k _ _ (Cd _<|by omega) (B0 _ h0) ⟨⟨a,l / most,bv,by omega,Int.ediv_nonneg hl<|by omega⟩,by rw[aA npc];exact hc,hn,npc⟩ Kept.refl.pen⟩
  ·refine⟨_,rfl,p,_,_,_,rfl,rfl,SqL.of Fa,x1,?_⟩;refine⟨_,rfl,_,_,rfl,rfl,_,rfl,p,_,1,1,rfl,rfl,Fa,rfl,?_⟩;have hd1:(upd H p<|.lst<|[V.ref c,.int (a:Int),.int l].set 1<|.int<|(a:Int)+1) p=some (.lst [.ref c,.int<|(a:Int)+1,.int l]):=bv;have hc1:(upd H p<|.lst<|[V.ref c,.int (a:Int),.int l].set 1<|.int<|(a:Int)+1) c=some (.lst<|ns.map V.int):=by rw[aA npc];exact hc
   have k1:Kept p H (upd H p<|.lst<|[V.ref c,.int (a:Int),.int l].set 1<|.int<|(a:Int)+1):=Kept.refl.pen;generalize upd H p (.lst<|[V.ref c,.int (a:Int),.int l].set 1<|.int<|(a:Int)+1)=H1 at hd1 hc1 k1;have y0:ba [V.ref c,.int<|(a:Int)+1,.int l] 0=some (.ref c):=fU;refine⟨_,rfl,_,_,rfl,rfl,.inl ⟨by decide,by decide⟩,_,_,rfl,rfl,?_⟩
   refine⟨λσ' H'=>∃(z:Int),σ'=[some<|.ref p,some<|.int most,none,some<|.int a,some<|.int z,none]/\H' p=some (.lst [.ref c,.int<|(a:Int)+1,.int l])/\H' c=some (.lst<|ns.map V.int)/\Kept p H H',?_,?_⟩
   ·refine⟨_,rfl,p,_,_,_,rfl,rfl,SqL.of hd1,y0,c,_,rfl,.inl<|SqL.of hc1,_,_,rfl,rfl,_,rfl,?_⟩;refine uz (λE8=>?_) (λ_=>?_)
    ·have hpos:0<(((ns.map V.int).length:Nat):Int):=DC E8;have hne':ns≠[]:=by rintro rfl;cases hpos
     obtain⟨z,hz2⟩:=ZmG ns a hne';refine⟨_,rfl,p,_,_,_,rfl,rfl,SqL.of hd1,y0,_,rfl,_,rfl,p,_,_,_,rfl,rfl,SqL.of hd1,y0,c,_,rfl,.inl<|SqL.of hc1,_,_,rfl,rfl,hpos,c,_,_,_,rfl,rfl,SqL.of hc1,hz2,?_⟩;exact⟨z,rfl,hd1,hc1,k1⟩
    ·exact⟨_,rfl,hd1,hc1,k1⟩
   ·rintro σ2 H2 ⟨z,rfl,hd2,hc2,k2⟩;refine⟨λ_ H'=>H'=H2,?_,?_⟩
    ·refine⟨_,rfl,_,rfl,p,_,_,_,rfl,rfl,SqL.of hd2,y0,c,_,rfl,.inl<|SqL.of hc2,_,_,rfl,rfl,_,rfl,?_⟩;refine uz (λ_=>?_) (λ_=>rfl);exact⟨_,rfl,z,rfl,_,_,rfl,rfl,⟨by decide,by decide,by decide⟩,_,_,rfl,rfl,_,rfl,rfl⟩
    ·rintro b H3 rfl;have ab:0<=(if z<0 then -z else z):=by split <;> omega
     refine uz (λ_=>?_)<|λ_=>?_
     ·refine⟨_,rfl,z,rfl,_,rfl,_,_,rfl,rfl,⟨h0,h1⟩,_,rfl,p,_,2,2,rfl,rfl,hd2,rfl,?_⟩;refine⟨_,rfl,z,rfl,_,rfl,_,_,rfl,rfl,h0,?_⟩;refine k _ _ (Cd _<|by omega) (B0 _ h0) ⟨⟨a+1,_,bv,by omega,Int.ediv_nonneg ab<|by omega⟩,by rw[aA npc];exact hc2,hn,npc⟩ k2.pen
     ·refine⟨_,rfl,_,_,rfl,rfl,(by show(0:Int)<2147483629;decide),_,rfl,_,_,rfl,rfl,.inl ⟨by decide,by decide⟩,_,_,rfl,rfl,_,_,rfl,rfl,_,_,rfl,rfl,⟨by decide,by decide,Znr (by omega)<|by omega⟩,_,_,rfl,rfl,(by show(0:Int)<2147483647;decide),?_⟩
      have m0:0<=((z%2147483629+42013*(a:Int)+113)^(5:Int).toNat)%2147483647:=Cd _<|by decide
      have m1:((z%2147483629+42013*(a:Int)+113)^(5:Int).toNat)%2147483647<2147483647:=B0 _<|by decide
      refine⟨_,rfl,_,rfl,_,_,rfl,rfl,(by show(0:Int)<65419;decide),_,rfl,_,_,rfl,rfl,_,_,rfl,rfl,_,_,rfl,rfl,.inl ⟨Int.lt_of_lt_of_le (by decide) m0,Int.lt_trans m1<|by decide⟩,?_⟩
      refine⟨_,_,rfl,rfl,(by show(0:Int)<2147483587;decide),?_⟩
      refine⟨_,_,rfl,rfl,⟨by decide,by decide⟩,_,rfl,_,_,rfl,rfl,h0,?_⟩
      exact k _ _ (Cd _<|by omega) (B0 _ h0) ⟨⟨a+1,l,hd2,by omega,hl⟩,hc2,hn,npc⟩ k2
end
def notup{cn:EV×Du}:jR (dS cn):=λxs G m h=>by obtain⟨k,left,e,_⟩:=h;cases e
def xv{ts:EQ EV}{cn:EV×Du}:∀o G m,(PKs ts<|dS cn).is o G m->∃vs,o=HO.lst vs:=λo G m h=>by obtain⟨⟨k,left,e,_⟩,_⟩:=h;exact⟨_,e⟩
def notups{ts:EQ EV}{cn:EV×Du}:jR (PKs ts<|dS cn):=λxs G m h=>by obtain⟨⟨k,left,e,_⟩,_⟩:=h;cases e
section
variable{cn:EV×Du}{P:EW}{w:EX}{K:Dh}{mg:Dy}{base:EZ}
def vU:Dk :=
 (pU<|aa 1)
def x8:Dl :=
 (jN 0 1<|af (aa 1)<|af (ac eh (aa 0)<|aa 1) ao)
def uo:Dm:=bd 2 0
 (av (jN 0 1<|af (aZ pT<|af (aa 0) ao)<|af (aZ pT<|af (aa 1) ao) ao)
 (av (dU vU x8 100000)
 (gB 0)))
def Zne{PK:Pk}(low:PkLow PK)(T:Txt K mg):ACal PK P w K mg base "common_divisor" 1 ["one","other"] uo:=bA T.Zl4 wq rfl λ_ _ _ _ _ _ _ hr =>
 (ay (u6<|tB (i:=0) (j:=1) rfl wq.nd rfl rfl (by decide) rfl rfl (aw (bb (t:=aT) (bu pM rfl T.kN boot_abs (aN 0 aq)) vW)<|aw (bb (t:=aT) (bu pM rfl T.kN boot_abs (aN 1 aq)) vW) aq) rfl)
 (ay (Zff 100000 AY (uZ<|ae 1)
  (aS<|u6<|tB (i:=0) (j:=1) rfl wq.nd rfl rfl (by decide) rfl rfl (aN 1<|aw (cM kI jV (ae 0)<|ae 1) aq) rfl))
 (aS<|u5<|pv 0)))
def iB:Dm:=bd 1 0
 (bF<|zo<|af (fW<|ac ak (aa 0)<|aC<|.int 1)<|af (ac aW (ac ak (aa 0)<|aC<|.int 0)<|aC<|.int 1) ao)
def uS{PK:Pk}(low:PkLow PK)(T:Txt K mg):ACal PK P w K mg base "stocks" 1 ["shop"] iB:=bA T.ZlN Zhd rfl λ_ _ _ _ _ _ _ hr =>
 (aS<|bJ<|ZnX<|cD (ZmL hr.hd) rfl T.c7 DT (ci (cD ZeO rfl T.dJ boot_range (aw (iS<|au (ae 0)<|dg rfl T.uH)<|aw (be (au (ae 0)<|dg rfl T.uG) ai) aq)) cL))
def qS:Dm:=bd 3 0
 (av (eK (cN<|ac (fS λi j=>decide (i<=j)) (aa 2)<|aa 1)
  (bF<|aC<|.int 0)
  eJ)
 (bF<|ac aW (ac ak (aa 0)<|aC<|.int 2)<|ac bj (ac ak (aa 0)<|aC<|.int 3)<|ac ce (aa 2)<|aa 1))
def Zm1{PK:Pk}(low:PkLow PK)(T:Txt K mg):ACal PK P w K mg base "order_cost" 1 ["shop","stock","level"] qS:=bA T.ZlS Zhg rfl λ_ _ _ _ _ _ _ hr =>
 (ay (fE (dP ZcJ hY (ae 2) (ae 1)<|nomark _)
 (aS<|bJ ai)
 fB)
 (aS<|bJ<|be (au (ae 0)<|dg rfl T.ZdF)<|bw (au (ae 0)<|dg rfl T.yq)<|cx (ae 2)<|ae 1))
def ji:Dm:=bd 3 0
 (bF<|aZ gN<|af (ac ce (aa 1)<|aa 2)<|af (fW<|ac ak (aa 0)<|aC<|.int 1) ao)
def uU{PK:Pk}(low:PkLow PK)(T:Txt K mg):ACal PK P w K mg base "next_stock" 1 ["shop","level","fall"] ji:=bA T.ZlT Zhh rfl λ_ _ _ _ _ _ _ hr =>
 (aS<|bJ<|bb (t:=aT) (bu (pL rfl) rfl T.kM boot_max (aw (cx (ae 1)<|ae 2)<|aw (iS<|au (ae 0)<|dg rfl T.uH) aq)) jX)
def jn:Dm:=bd 2 0
 (av (eK (cN<|ac (fS λi j=>decide (i>j)) (aa 1)<|aC<|.int 0)
  (bF<|ac bj (fW<|ac ak (aa 0)<|aC<|.int 7)<|aa 1)
  eJ)
 (bF<|ac bj (ac ak (aa 0)<|aC<|.int 8)<|fW<|aa 1))
def yR{PK:Pk}(low:PkLow PK)(T:Txt K mg):ACal PK P w K mg base "end_cost" 1 ["shop","stock"] jn:=bA T.Zl1 Zhk rfl λ_ _ _ _ _ _ _ hr =>
 (ay (fE (dP kJ hY (ae 1) ai<|nomark _)
 (aS<|bJ<|bw (iS<|au (ae 0)<|dg rfl T.ZkC)<|ae 1)
 fB)
 (aS<|bJ<|bw (au (ae 0)<|dg rfl T.Zkz)<|iS<|ae 1))
def xn:Di :=
 (aZ cJ<|af (aa 0) ao)
def um:Dm:=bd 1 0
 (bF<|aZ cJ<|af (bY<|bV (bZ<|aa 0) 1 [] (aj 0) xn) ao)
def Znd{PK:Pk}(low:PkLow PK)(T:Txt K mg):ACal PK P w K mg base "day_scale" 1 ["day"] um:=bA T.Zl2 Zhl rfl λ_ _ _ _ _ _ _ hr =>
 (aS<|bJ<|bb (t:=aT) (bu (gT rfl) rfl T.gL EE (aw (cz<|dq ZfD wD ["line"] [] (cw<|ae 0) (λ_=>bG 0)<|λ_=>bb (t:=aT) (bu (gT rfl) rfl T.gL EE (aN 0 aq)) gD) aq)) gD)
def sR:Di :=
 (bL<|af (aa 0)<|af (aa 1) ao)
def uE:Dj :=
 (jM<|af (aa 2)<|af (ac aW (aa 3)<|aC<|.int 1) ao)
def tY:Dm:=bd 2 3
 (av (gY (bB<|aK (aj 2)<|aK (aj 3) bx)<|aa 1)
 (av (aU 4<|ac ak (aa 0)<|aC<|.int 0)
 (iV<|pY (jM<|af (aa 2)<|af (ac aW (aa 4)<|aC<|.int 1) ao) 2 [3,4] 0 uE 1 sR)))
def ZmZ{PK:Pk}(low:PkLow PK)(T:Txt K mg):ACal PK P w K mg base "raises_from" 1 ["shop","stand"] tY:=bA T.ZlQ sF rfl λ_ _ _ _ _ _ _ hr =>
 (ay (jL<|fg (ae 1)<|cU (bQ 2 sF)<|bQ 3 sF)
 (ay (aY 4 sF<|au (ae 0)<|dg rfl T.uG)
 (aS<|pP<|Zfk (ZcC zM ["first","second"] [3,4] rfl (vd<|tH rfl T.dJ (aN 2<|aw (be (ae 4) ai) aq)) (λ_=>bG 0) (λ_=>vd<|tH rfl T.dJ (aN 2<|aw (be (ae 3) ai) aq)) (λ_=>bG 1) (λ_=>bU<|aN 0<|aN 1 aq) rfl (show BlkOk zM (az wy) _ [3,4]from(dt<|by trivial))) (by decide) (by decide)<|by decide)))
def Zdj:Dl :=
 (av (aU 7<|bL<|af (ac ak (aa 2)<|ac ce (aa 6)<|aa 1)<|af (aa 6) ao)
 (av (gY (bB<|aK (aj 8)<|aK (aj 9) bx)<|aZ iw<|af (aa 7)<|af (bL<|af (ac aW (ac bj (aa 3)<|ac ak (aa 0)<|aC<|.int 2)<|ac ak (aa 5)<|aC<|.int 0)<|af (ac ak (aa 5)<|aC<|.int 1) ao) ao)
 (av (p6 4<|bL<|af (ac ce (aa 8)<|ac bj (ac bj (aa 3)<|ac ak (aa 0)<|aC<|.int 3)<|aa 6)<|af (aa 9) ao)
 (aU 5<|aZ iw<|af (aa 7)<|af (aa 5) ao))))
def ur:Dm:=bd 4 6
 (av (iU 4<|fX ao)
 (av (aU 5<|bL<|af (ac ak (aa 2)<|fW<|aC<|.int 1)<|af (ac ak (aa 0)<|aC<|.int 0) ao)
 (av (dQ (zr<|af (aa 1)<|af (ac aW (ac ak (aa 0)<|aC<|.int 0)<|aC<|.int 1) ao) (aj 6) Zdj)
 (av (pW 4)
 (gB 4)))))
def Zng{PK:Pk}(low:PkLow PK)(T:Txt K mg):ACal PK P w K mg base "cheapest_from" 1 ["shop","low","by_level","scale"] ur:=bA T.Zl6 ib rfl λ_ _ _ _ _ _ _ hr =>
 (ay (rH<|fM (i:=4) ib.nd<|gU aq)
 (ay (aY 5 ib<|bU<|aw (au (ae 2)<|iS ai)<|aw (au (ae 0)<|dg rfl T.uG) aq)
 (ay (eY AY rfl (ZnT<|xt rfl T.xI (cD ZeO rfl T.dJ boot_range (aN 1<|aw (be (au (ae 0)<|dg rfl T.uG) ai) aq))) (bQ 6 ib)
  (ay (aY 7 ib<|bU<|aw (au (ae 2)<|cx (ae 6)<|ae 1)<|aN 6 aq)
 (ay (jL<|fg (bb (t:=aT) (bu (ZeP hr rfl) rfl T.xJ boot_min (aN 7<|aw (bU<|aw (be (bw (ae 3)<|au (ae 0)<|dg rfl T.ZdF)<|au (ae 5) ai)<|aw (au (ae 5) ai) aq) aq)) Zas)<|cU (bQ 8 ib)<|bQ 9 ib)
 (ay (zc<|jd<|tK A8 Ck Cj xL (pv 4)<|ci (bU<|aw (cx (ae 8)<|bw (bw (ae 3)<|au (ae 0)<|dg rfl T.yq)<|ae 6)<|aN 9 aq) cL)
 (aS<|aY 5 ib<|bb (t:=aT) (bu (ZeP hr rfl) rfl T.xJ boot_min (aN 7<|aN 5 aq)) Zas)))))
 (ay (y9<|jd<|xx A8 Cg Cf xK<|pv 4)
 (aS<|u5<|pv 4)))))
abbrev c8:=uk
def dG(T:Txt K mg):ACal (dS cn) P w K mg base "_law_draw" 1 ["_law_pen_here","_law_many"] c8:=ZlC rfl (Zje T)
def qV:Dm:=bd 3 2
 (av (aU 3<|aZ gN<|af (ac ce (aa 1)<|aa 2)<|af (ac ce (aC<|.int 0)<|ac ak (aa 0)<|aC<|.int 1) ao)
 (av (aU 4<|ac aW (ac ce (aa 3)<|aa 1)<|aa 2)
 (bF<|bL<|af (ac aW (ac aW (ac bj (ac ak (aa 0)<|aC<|.int 4)<|aZ gN<|af (aa 3)<|af (aC<|.int 0) ao)<|ac bj (ac ak (aa 0)<|aC<|.int 5)<|aZ gN<|af (ac ce (aC<|.int 0)<|aa 3)<|af (aC<|.int 0) ao)<|ac bj (ac ak (aa 0)<|aC<|.int 6)<|aa 4)<|af (aa 3) ao)))
def ZeT{PK:Pk}(low:PkLow PK)(T:Txt K mg):ACal PK P w K mg base "_law_one_cost" 1 ["_law_shop_here","_law_level","_law_fall"] qV:=bA T.Zmg wu rfl λ_ _ _ _ _ _ _ hr =>
 (ay (aY 3 wu<|bb (t:=aT) (bu (pL rfl) rfl T.kM boot_max (aw (cx (ae 1)<|ae 2)<|aw (cx ai<|au (ae 0) ai) aq)) jX)
 (ay (aY 4 wu<|be (cx (ae 3)<|ae 1)<|ae 2)
 (aS<|bJ<|bU<|aw (be (be (bw (au (ae 0) ai)<|bb (t:=aT) (bu (pL rfl) rfl T.kM boot_max (aN 3<|aw ai aq)) jX)<|bw (au (ae 0) ai)<|bb (t:=aT) (bu (pL rfl) rfl T.kM boot_max (aw (cx ai<|ae 3)<|aw ai aq)) jX)<|bw (au (ae 0) ai)<|ae 4)<|aN 3 aq)))
def qW:Dm:=bd 2 0
 (bF<|ac ce (ac bj (ac ak (aa 0)<|aC<|.int 8)<|aZ gN<|af (ac ce (aC<|.int 0)<|aa 1)<|af (aC<|.int 0) ao)<|ac bj (ac ak (aa 0)<|aC<|.int 7)<|aZ gN<|af (aa 1)<|af (aC<|.int 0) ao)
def ZeV{PK:Pk}(low:PkLow PK)(T:Txt K mg):ACal PK P w K mg base "_law_end" 1 ["_law_shop_here","_law_stock"] qW:=bA T.Zmk Zhu rfl λ_ _ _ _ _ _ _ hr =>
 (aS<|bJ<|cx (bw (au (ae 0) ai)<|bb (t:=aT) (bu (pL rfl) rfl T.kM boot_max (aw (cx ai<|ae 1)<|aw ai aq)) jX)<|bw (au (ae 0) ai)<|bb (t:=aT) (bu (pL rfl) rfl T.kM boot_max (aN 1<|aw ai aq)) jX)
def qU:Dm:=bd 3 1
 (av (aU 3<|ac ce (ac aW (ac ce (ac ak (aa 2)<|aC<|.int 0)<|ac ak (aa 1)<|aC<|.int 0)<|ac ak (aa 2)<|aC<|.int 1)<|ac ak (aa 1)<|aC<|.int 1)
 (bF<|ac bj (ac aW (ac ak (aa 0)<|aC<|.int 2)<|ac bj (ac ak (aa 0)<|aC<|.int 3)<|aa 3)<|aZ ra<|af (ac (fS λi j=>decide (i>j)) (aa 3)<|aC<|.int 0) ao))
def Zm5{PK:Pk}(low:PkLow PK)(T:Txt K mg):ACal PK P w K mg base "_law_order" 1 ["_law_shop_here","_law_stand","_law_goal_here"] qU:=bA T.Zmf Zbd rfl λ_ _ _ _ _ _ _ hr =>
 (ay (aY 3 Zbd<|cx (be (cx (au (ae 2) ai)<|au (ae 1) ai)<|au (ae 2) ai)<|au (ae 1) ai)
 (aS<|bJ<|bw (be (au (ae 0) ai)<|bw (au (ae 0) ai)<|ae 3)<|bb (t:=aT) (cD ZmS rfl T.Zjr boot_int (aw (zj kJ hY (ae 3) ai<|nomark _) aq)) Zf7))
def vT:Dk :=
 (cN<|ac (fS λi j=>decide (i>j)) (aa 3)<|aC<|.int 0)
def xZ:Dl :=
 (jN 2 3<|af (aa 3)<|af (ac eh (aa 2)<|aa 3) ao)
def jl:Dm:=bd 2 2
 (av (jN 2 3<|af (aZ pT<|af (aa 0) ao)<|af (aa 1) ao)
 (av (dU vT xZ 100000)
 (bF<|bL<|af (ac fv (aa 0)<|aa 2)<|af (ac fv (aa 1)<|aa 2) ao)))
def yP{PK:Pk}(low:PkLow PK)(T:Txt K mg):ACal PK P w K mg base "_law_share" 1 ["_law_top","_law_bottom"] jl:=bA T.Zmd wt rfl λ_ _ _ _ _ _ _ hr =>
 (ay (u6<|tB (i:=2) (j:=3) rfl wt.nd rfl rfl (by decide) rfl rfl (aw (bb (t:=aT) (bu pM rfl T.kN boot_abs (aN 0 aq)) vW)<|aN 1 aq) rfl)
 (ay (Zff 100000 AY (dP kJ hY (ae 3) ai<|nomark _)
  (aS<|u6<|tB (i:=2) (j:=3) rfl wt.nd rfl rfl (by decide) rfl rfl (aN 3<|aw (cM kI jV (ae 2)<|ae 3) aq) rfl))
 (aS<|bJ<|bU<|aw (cM kK jW (ae 0)<|ae 2)<|aw (cM kK jW (ae 1)<|ae 2) aq)))
def jm:Dm:=bd 2 0
 (bF<|ac (fS λi j=>decide (i<=j)) (ac bj (ac ak (aa 0)<|aC<|.int 0)<|ac ak (aa 1)<|aC<|.int 1)<|ac bj (ac ak (aa 1)<|aC<|.int 0)<|ac ak (aa 0)<|aC<|.int 1)
def ZeU{PK:Pk}(low:PkLow PK)(T:Txt K mg):ACal PK P w K mg base "_law_no_more" 1 ["_law_one","_law_other"] jm:=bA T.Zmh Zht rfl λ_ _ _ _ _ _ _ hr =>
 (aS<|bJ<|zj ZcJ hY (bw (au (ae 0) ai)<|au (ae 1) ai) (bw (au (ae 1) ai)<|au (ae 0) ai)<|nomark _)
def xa:Di :=
 (ac ak (aa 0)<|aa 1)
def w8:Di :=
 (aZ cP<|af (bY<|bV (bZ<|aa 1) 1 [0] (aj 0) xa) ao)
def qT:Dm:=bd 1 0
 (bF<|aZ cP<|af (bY<|bV (fG<|af (aZ dL<|af (ac ak (aa 0)<|aC<|.int 0) ao) ao) 1 [0] (aj 0) w8) ao)
def ZeR{PK:Pk}(low:PkLow PK)(T:Txt K mg):ACal PK P w K mg base "_law_turned" 1 ["_law_one"] qT:=bA T.Zma Zhp rfl λ_ _ _ _ _ _ _ hr =>
 (aS<|bJ<|bb (t:=aT) (cD dr rfl T.c7 DT (aw (cz<|dq vI wH ["_law_j"] [0] (gW<|gI rfl T.dJ (aw (bb (t:=aT) (bu iM rfl T.iu EB (aw (au (ae 0) ai) aq)) qh) aq)) (λ_=>bG 0)<|λb=>(bb (t:=aT) (cD dr rfl T.c7 DT (aw (cz<|pQ (je (bN vI ["_law_j"] [0]) ["_law_line"] [0] rfl (cw<|ae 1) (λ_=>iR<|kF (i:=0)<|show((bN (bN vI ["_law_j"] [0]) ["_law_line"] [0])).Nodup by trivial) (λ_=>au (ae 0)<|ae 1) rfl (BlkOk.nest<|dt<|by trivial))<|cC<|by decide) aq)) dh)) aq)) dh)
def xi:Di :=
 (aZ cJ<|af (aa 0) ao)
def xh:Di :=
 (aZ cP<|af (bY<|bV (bZ<|aa 0) 1 [] (aj 0) xi) ao)
def qX:Dm:=bd 1 0
 (bF<|aZ cP<|af (bY<|bV (bZ<|aa 0) 1 [] (aj 0) xh) ao)
def ZeW{PK:Pk}(low:PkLow PK)(T:Txt K mg):ACal PK P w K mg base "_law_alone" 1 ["_law_double_here"] qX:=bA T.Zmq Zhx rfl λ_ _ _ _ _ _ _ hr =>
 (aS<|bJ<|bb (t:=aT) (cD dr rfl T.c7 DT (aw (cz<|dq vJ wK ["_law_one"] [] (cw<|ae 0) (λ_=>bG 0)<|λb=>(bb (t:=aT) (cD dr rfl T.c7 DT (aw (cz<|pQ (je (bN vJ ["_law_one"] []) ["_law_line"] [] rfl (cw<|ae 0) (λ_=>iR<|kF (i:=0)<|show((bN (bN vJ ["_law_one"] []) ["_law_line"] [])).Nodup by trivial) (λ_=>bb (t:=aT) (bu (gT rfl) rfl T.gL EE (aN 0 aq)) gD) rfl (BlkOk.leaf rfl (by trivial) (by trivial)))<|cC<|by decide) aq)) dh)) aq)) dh)
def xf:Di :=
 (bL<|af (aa 1)<|af (aa 0) ao)
def x5:Dl :=
 (rS 2<|bY<|bV (jM<|af (ac ce (aC<|.int 0)<|ac ak (aa 0)<|aC<|.int 1)<|af (ac aW (ac ak (aa 0)<|aC<|.int 0)<|aC<|.int 1) ao) 1 [3] (aj 0) xf)
def xc:Di :=
 (bL<|af (ac ak (aa 1)<|aa 0)<|af (ac ak (ac ak (ac ak (aa 2)<|aC<|.int 0)<|aa 0)<|aC<|.int 0) ao)
def iC:Dm:=bd 2 2
 (av (iU 2<|fX ao)
 (av (dQ (jM<|af (ac ce (aC<|.int 0)<|ac ak (aa 0)<|aC<|.int 1)<|af (ac aW (ac ak (aa 0)<|aC<|.int 0)<|aC<|.int 1) ao) (aj 3) x5)
 (pZ 2<|bF<|aZ rA<|af (bY<|bV (fG<|af (zw dL<|vg 2 aE) ao) 1 [2,1] (aj 0) xc) ao)))
def yQ{PK:Pk}(low:PkLow PK)(T:Txt K mg):ACal PK P w K mg base "_law_by_stands" 1 ["_law_shop_here","_law_table"] iC:=bA T.Zmo ww rfl λ_ _ _ _ _ _ _ hr =>
 (ay (rH<|fM (i:=2) ww.nd<|gU aq)
 (ay (eY AY rfl (vd<|tH rfl T.dJ (aw (cx ai<|au (ae 0) ai)<|aw (be (au (ae 0) ai) ai) aq)) (bQ 3 ww)
  (aS<|ZnJ<|jd<|tK A8 PySem.F.slot_list_extend PySem.F.type_list_extend Zju (pv 2)<|ci (cz<|dq zS sN ["_law_other"] [3] (vd<|tH rfl T.dJ (aw (cx ai<|au (ae 0) ai)<|aw (be (au (ae 0) ai) ai) aq)) (λ_=>bG 0)<|λ_=>bU<|aN 1<|aN 0 aq) cL))
 (aS<|u7 (k:=2)<|bJ<|bb (t:=aT) (cD (ZmV hr.units rfl) rfl T.Zjs boot_dict (aw (cz<|dq zS sN ["_law_k"] [2,1] (gW<|gI rfl T.dJ (aw (Zn0 low (bu iM rfl T.iu EB (Zn6 (pv 2) Zn5)) qh) aq)) (λ_=>bG 0)<|λ_=>bU<|aw (au (ae 1)<|ae 0)<|aw (au (au (au (ae 2) ai)<|ae 0) ai) aq) aq)) Zf8)))
def ud:Dm:=bd 4 2
 (av (aU 4<|ac ce (aC<|.int 0)<|ac ak (aa 0)<|aC<|.int 1)
 (av (aU 5<|ac aW (ac ce (ac ak (aa 0)<|aC<|.int 0)<|aa 4)<|aC<|.int 1)
 (bF<|ac ak (ac ak (ac ak (aa 1)<|aa 2)<|ac ce (ac aW (ac bj (ac ce (ac ak (aa 3)<|aC<|.int 0)<|aa 4)<|aa 5)<|ac ak (aa 3)<|aC<|.int 1)<|aa 4)<|aC<|.int 1)))
def Zm7{PK:Pk}(low:PkLow PK)(T:Txt K mg):ACal PK P w K mg base "_law_goal" 1 ["_law_shop_here","_law_table","_law_t","_law_stand"] ud:=bA T.Zmj wv rfl λ_ _ _ _ _ _ _ hr =>
 (ay (aY 4 wv<|cx ai<|au (ae 0) ai)
 (ay (aY 5 wv<|be (cx (au (ae 0) ai)<|ae 4) ai)
 (aS<|bJ<|au (au (au (ae 1)<|ae 2)<|cx (be (bw (cx (au (ae 3) ai)<|ae 4)<|ae 5)<|au (ae 3) ai)<|ae 4) ai)))
def x4:Dl :=
 (aU 1<|ac eh (ac aW (ac aW (ac aW (ac bj (aa 1)<|aC<|.int 31)<|ac bj (aC<|.int 4)<|aa 4)<|aa 5)<|aC<|.int 1)<|aC<|.int 2147483647)
def uc:Dm:=bd 4 4
 (av (dQ (bZ<|aa 3) (bB<|aK (aj 4)<|aK (aj 5) bx) x4)
 (av (aU 1<|ac fv (ac eh (ac gi (aa 1)<|aC<|.int 3)<|aC<|.int 2147483629)<|aC<|.int 7)
 (av (aU 6<|ac eh (aa 1)<|ac aW (ac ce (ac ak (aa 0)<|aC<|.int 0)<|ac ak (aa 2)<|aC<|.int 0)<|aC<|.int 1)
 (av (aU 7<|ac eh (ac fv (aa 1)<|aC<|.int 64)<|ac aW (ac ce (ac ak (aa 0)<|aC<|.int 0)<|ac ak (aa 2)<|aC<|.int 1)<|aC<|.int 1)
 (bF<|bL<|af (ac aW (ac ak (aa 2)<|aC<|.int 0)<|aa 6)<|af (ac aW (ac ak (aa 2)<|aC<|.int 1)<|aa 7) ao)))))
def Zm6{PK:Pk}(low:PkLow PK)(T:Txt K mg):ACal PK P w K mg base "_law_mixed" 1 ["_law_shop_here","_law_number","_law_stand","_law_row"] uc:=bA T.Zmi i5 rfl λ_ _ _ _ _ _ _ hr =>
 (ay (eY AY rfl (cw<|ae 3) (cU (bQ 4 i5)<|bQ 5 i5)
 (aS<|aY 1 i5<|cM kI jV (be (be (be (bw (ae 1) ai)<|bw ai<|ae 4)<|ae 5) ai) ai))
 (ay (aY 1 i5<|cM kK jW (cM kI jV (cM qM vV (ae 1) ai) ai) ai)
 (ay (aY 6 i5<|cM kI jV (ae 1)<|be (cx (au (ae 0) ai)<|au (ae 2) ai) ai)
 (ay (aY 7 i5<|cM kI jV (cM kK jW (ae 1) ai)<|be (cx (au (ae 0) ai)<|au (ae 2) ai) ai)
 (aS<|bJ<|bU<|aw (be (au (ae 2) ai)<|ae 6)<|aw (be (au (ae 2) ai)<|ae 7) aq)))))
def kU:Dm:=bd 2 1
 (av (eK (cN<|ac gw (aa 1)<|aC<|.int 0)
  vt
  eJ)
 (av (aU 2<|aG<|aD uo<|ah (aa 0)<|ah (aa 1) aE)
 (av (eK (cN<|ac (fS λi j=>decide (i<j)) (aa 1)<|aC<|.int 0)
  (aU 2<|fW<|aa 2)
  eJ)
 (bF<|bL<|af (ac fv (aa 0)<|aa 2)<|af (ac fv (aa 1)<|aa 2) ao))))
def ZeQ{PK:Pk}(low:PkLow PK)(T:Txt K mg):ACal PK P w K mg base "share" 2 ["top","bottom"] kU:=bA T.ZlP wo rfl λ_ _ _ _ _ _ _ hr =>
 (ay (fE (dP (qN hr) qg (ae 1) ai<|nomark _)
 (aS ZnH)
 fB)
 (ay (aY 2 wo<|aO (Zne low T) hr<|ap 0<|ap 1 aJ)
 (ay (fE (dP xD hY (ae 1) ai<|nomark _)
  (aS<|aY 2 wo<|iS<|ae 2)
  fB)
 (aS<|bJ<|bU<|aw (cM kK jW (ae 0)<|ae 2)<|aw (cM kK jW (ae 1)<|ae 2) aq))))
def jp:Dm:=bd 3 3
 (av (aU 3<|aG<|aD ji<|ah (aa 0)<|ah (aa 1)<|ah (aa 2) aE)
 (av (aU 4<|ac ce (aa 3)<|ac ce (aa 1)<|aa 2)
 (av (aU 5<|zt (cN<|ac (fS λi j=>decide (i>j)) (aa 3)<|aC<|.int 0) (ac bj (ac ak (aa 0)<|aC<|.int 4)<|aa 3)<|ac bj (ac ak (aa 0)<|aC<|.int 5)<|fW<|aa 3)
 (bF<|ac aW (aa 5)<|ac bj (ac ak (aa 0)<|aC<|.int 6)<|aa 4))))
def yS{PK:Pk}(low:PkLow PK)(T:Txt K mg):ACal PK P w K mg base "day_cost" 2 ["shop","level","fall"] jp:=bA T.Zl3 sI rfl λ_ _ _ _ _ _ _ hr =>
 (ay (aY 3 sI<|aO (uU low T) hr<|ap 0<|ap 1<|ap 2 aJ)
 (ay (aY 4 sI<|cx (ae 3)<|cx (ae 1)<|ae 2)
 (ay (aY 5 sI<|ZnZ (dP kJ hY (ae 3) ai<|nomark _) (bw (au (ae 0)<|dg rfl T.ZkB)<|ae 3)<|bw (au (ae 0)<|dg rfl T.ZkA)<|iS<|ae 3)
 (aS<|bJ<|be (ae 5)<|bw (au (ae 0)<|dg rfl T.Zky)<|ae 4))))
def sQ:Di :=
 (bL<|af (aa 0)<|af (aa 1) ao)
def uD:Dj :=
 (bZ<|aG<|aD iB<|ah (aa 2) aE)
def gq:Dm:=bd 1 0
 (iV<|pY (bZ<|aG<|aD iB<|ah (aa 0) aE) 2 [0] 0 uD 1 sQ)
def uT{PK:Pk}(low:PkLow PK)(T:Txt K mg):ACal PK P w K mg base "stands" 2 ["shop"] gq:=bA T.ZlO Zhe rfl λ_ _ _ _ _ _ _ hr =>
 (aS<|pP<|Zfk (ZcC zL ["one","other"] [0] rfl (cw<|aO (uS low T) hr<|ap 0 aJ) (λ_=>bG 0) (λ_=>cw<|aO (uS low T) hr<|ap 2 aJ) (λ_=>bG 1) (λ_=>bU<|aN 0<|aN 1 aq) rfl (show BlkOk zL (az wx) _ [0]from(dt<|by trivial))) (by decide) (by decide)<|by decide)
def tZ:Dm:=bd 3 0
 (rN<|aD qS<|ah (aa 0)<|ah (aZ cJ<|af (aa 1) ao)<|ah (aZ cJ<|af (aa 2) ao) aE)
def Zm0{PK:Pk}(low:PkLow PK)(T:Txt K mg):ACal PK P w K mg base "raise_cost" 2 ["shop","stand","raised"] tZ:=bA T.ZlR Zhf rfl λ_ _ _ _ _ _ _ hr =>
 (aS<|za<|zm (Zm1 low T) hr<|ap 0<|bC (bb (t:=aT) (bu (gT rfl) rfl T.gL EE (aN 1 aq)) gD)<|bC (bb (t:=aT) (bu (gT rfl) rfl T.gL EE (aN 2 aq)) gD) aJ)
def xm:Di :=
 (aG<|aD jn<|ah (aa 1)<|ah (aa 0) aE)
def uj:Dm:=bd 1 0
 (iV<|bV (bZ<|aG<|aD iB<|ah (aa 0) aE) 1 [0] (aj 0) xm)
def Znc{PK:Pk}(low:PkLow PK)(T:Txt K mg):ACal PK P w K mg base "end_costs" 2 ["shop"] uj:=bA T.Zl0 Zhj rfl λ_ _ _ _ _ _ _ hr =>
 (aS<|pP<|dq ZfC wC ["stock"] [0] (cw<|aO (uS low T) hr<|ap 0 aJ) (λ_=>bG 0)<|λ_=>aO (yR low T) hr<|ap 1<|ap 0 aJ)
def ut:Dm:=bd 3 0
 (rN<|aD ur<|ah (aa 0)<|ah (fW<|ac ak (aa 0)<|aC<|.int 1)<|ah (aa 1)<|ah (aa 2) aE)
def Znh{PK:Pk}(low:PkLow PK)(T:Txt K mg):ACal PK P w K mg base "cheapest" 2 ["shop","by_level","scale"] ut:=bA T.Zl7 Zhn rfl λ_ _ _ _ _ _ _ hr =>
 (aS<|za<|zm (Zng low T) hr<|ap 0<|bC (iS<|au (ae 0)<|dg rfl T.uH)<|ap 1<|ap 2 aJ)
def Zcm:Di :=
 (aG<|aD c8<|cA 1<|ah (aa 2) aE)
def Zcl:Dj :=
 (bV (fG<|af (aa 3) ao) 1 [1,2] (aj 0) Zcm)
def xb:Di :=
 (aZ cP<|af (aa 0) ao)
def ue:Dm:=bd 1 3
 (av (aU 1<|ac ak (bY<|fX<|af (aC<|.int 2)<|af (aC<|.int 4)<|af (aC<|.int 20)<|af (aC<|.int 334) ao)<|aG<|aD c8<|cA 0<|ah (aC<|.int 4) aE)
 (av (aU 2<|ac aW (aC<|.int 1)<|aG<|aD c8<|cA 0<|ah (aC<|.int 3) aE)
 (zq 3 (rR (fG<|af (ac aW (aC<|.int 1)<|aG<|aD c8<|cA 0<|ah (aC<|.int 3) aE) ao) 1 [0,1,2] (aj 0) Zcl) (ac aW (aC<|.int 1)<|aG<|aD c8<|cA 0<|ah (ac ce (aa 1)<|aC<|.int 1) aE) (aG<|aD c8<|cA 0<|ah (aZ dL<|af (aa 3) ao) aE) (aG<|aD c8<|cA 0<|ah (aa 2) aE)
 (bF<|aZ cP<|af (bY<|bV (bZ<|aa 3) 1 [] (aj 0) xb) ao))))
def Zm8(T:Txt K mg):ACal (dS cn) P w K mg base "_law_double_day" 2 ["_law_pen_here"] ue:=bA T.Zmm sK rfl λ_ _ _ _ _ _ _ hr =>
 (ay (aY 1 sK<|au (cz<|gU<|aw ai<|aw ai<|aw ai<|aw ai aq)<|aO (dG T) hr<|cR (pv 0)<|bC ai aJ)
 (ay (aY 2 sK<|be ai<|aO (dG T) hr<|cR (pv 0)<|bC ai aJ)
 (ZnC cK (ZnI (qH (i:=3) qa ["_law_i"] [0,1,2] rfl sK.nd rfl rfl (gW<|gI rfl T.dJ (aw (be ai<|aO (dG T) hr<|cR (pv 0)<|bC ai aJ) aq)) (λ_=>bG 0) (λb=>(pQ (je (bN qa ["_law_i"] [0,1,2]) ["_law_j"] [1,2] rfl (gW<|gI rfl T.dJ (aN 3 aq)) (λ_=>iR<|kF (i:=0)<|show((bN (bN qa ["_law_i"] [0,1,2]) ["_law_j"] [1,2])).Nodup by trivial) (λ_=>aO (dG T) hr<|cR (pv 1)<|ap 2 aJ) rfl (BlkOk.nest<|dt<|by trivial))<|cC<|by decide)) rfl (show BlkOk qa (az sM) _ [0,1,2]from(dt<|by trivial)) rfl)<|cC<|by decide) (fg (be ai<|aO (dG T) hr<|cR (pv 0)<|bC (cx (ae 1) ai) aJ)<|qK (fj ft (pv 3) (aO (dG T) hr<|cR (pv 0)<|bC (bb (t:=aT) (bu iM rfl T.iu EB (aN 3 aq)) qh) aJ)<|λ_ _=>rfl) (aO (dG T) hr<|cR (pv 0)<|ap 2 aJ) qv)
 (aS<|bJ<|bb (t:=aT) (cD dr rfl T.c7 DT (aw (cz<|dq qa sM ["_law_row"] [] (cw<|ae 3) (λ_=>bG 0)<|λ_=>bb (t:=aT) (cD dr rfl T.c7 DT (aN 0 aq)) dh) aq)) dh))))
def Zck:Di :=
 (aG<|aD c8<|cA 1<|ah (aa 2) aE)
def t9:Dm:=bd 1 3
 (av (aU 1<|ac ak (bY<|fX<|af (aC<|.int 3)<|af (aC<|.int 10)<|af (aC<|.int 60)<|af (ac gi (aC<|.int 10)<|aC<|.int 5) ao)<|aG<|aD c8<|cA 0<|ah (aC<|.int 4) aE)
 (av (aU 2<|aG<|aD c8<|cA 0<|ah (aC<|.int 4) aE)
 (av (iU 3<|bV (fG<|af (aC<|.int 7) ao) 1 [0,1] (aj 0) Zck)
 (av (eK (cN<|ac gw (aG<|aD c8<|cA 0<|ah (aC<|.int 4) aE)<|aC<|.int 0)
  (vo 3 (aC<|.int 0)<|aC<|.int 0)
  eJ)
 (pZ 3<|bF<|ac aW (bL<|af (aa 2)<|af (aG<|aD c8<|cA 0<|ah (ac ce (aC<|.int 4)<|aa 2) aE) ao)<|aZ cP<|af (aa 3) ao)))))
def Zm4(T:Txt K mg):ACal (dS cn) P w K mg base "_law_shop" 2 ["_law_pen_here"] t9:=bA T.Zmc sJ rfl λ_ _ _ _ _ _ _ hr =>
 (ay (aY 1 sJ<|au (cz<|gU<|aw ai<|aw ai<|aw ai<|aw (cM qM vV ai ai) aq)<|aO (dG T) hr<|cR (pv 0)<|bC ai aJ)
 (ay (aY 2 sJ<|aO (dG T) hr<|cR (pv 0)<|bC ai aJ)
 (ay (ZnE (qH (i:=3) zR ["_law_k"] [0,1] rfl sJ.nd rfl rfl (gW<|gI rfl T.dJ (aw ai aq)) (λ_=>bG 0) (λ_=>aO (dG T) hr<|cR (pv 1)<|ap 2 aJ) rfl (show BlkOk zR (az wI) _ [0,1]from(dt<|by trivial)) rfl)<|cC<|by decide)
 (ay (fE (dP (qN hr) qg (aO (dG T) hr<|cR (pv 0)<|bC ai aJ) ai<|nomark _)
  (aS<|ZnF<|fg ai<|qK (pv 3) ai qv)
  fB)
 (aS<|u7 (k:=3)<|bJ<|be (bU<|aN 2<|aw (aO (dG T) hr<|cR (pv 0)<|bC (cx ai<|ae 2) aJ) aq)<|bb (t:=aT) (cD dr rfl T.c7 DT (aN 3 aq)) dh)))))
def jk:Dm:=bd 2 0
 (rN<|aD jl<|ah (ac aW (ac bj (ac ak (aa 0)<|aC<|.int 0)<|ac ak (aa 1)<|aC<|.int 1)<|ac bj (ac ak (aa 1)<|aC<|.int 0)<|ac ak (aa 0)<|aC<|.int 1)<|ah (ac bj (ac ak (aa 0)<|aC<|.int 1)<|ac ak (aa 1)<|aC<|.int 1) aE)
def ZeS{PK:Pk}(low:PkLow PK)(T:Txt K mg):ACal PK P w K mg base "_law_sum" 2 ["_law_one","_law_other"] jk:=bA T.Zmb Zhr rfl λ_ _ _ _ _ _ _ hr =>
 (aS<|za<|zm (yP low T) hr<|bC (be (bw (au (ae 0) ai)<|au (ae 1) ai)<|bw (au (ae 1) ai)<|au (ae 0) ai)<|bC (bw (au (ae 0) ai)<|au (ae 1) ai) aJ)
def Zg3:Dl :=
 λρ=>.ret<|.next ρ
def iY:Di :=
 (aG<|aD ud<|ah (aa 3)<|ah (aa 4)<|ah (aa 0)<|ah (aa 1) aE)
abbrev x9:EQ Sl->ER WF:=tS 3 0 0 Zg3 [0,1] iY
def Znl{c0 Pt:EV}{ts:EQ EV}(T:Txt K mg)(D:DefK K mg "_law_told" i7 ["_law_shop_here","_law_table"] c0 Pt)(BK:BltK base mg)(hm:Pt∈ts):Callee P w K mg base "_law_told" 2 ["_law_shop_here","_law_table"] (qq P w K mg base 2 (PKs ts<|dS cn) 2 x9):=by
 refine' ZcS (kk:=1) (kb:=1) (pl:=["_law_t","_law_stand","_law_row"]) (NF:=["_law_shop_here","_law_table"]) D Zhq rfl (PKs.low cK) (λo G m h=>h.2 _ hm) xv ?d (λf A outer sh H E hr=>?b) (λo0 cl q f c A outer s H E hr=>?e)
 case b=>exact(Zcr<|ZcD D.ck BK rfl (by intro fd;cases fd;rintro rfl rfl rfl us hl;obtain⟨_,_,_,rfl⟩:=L2.uv hl;rfl) (show LamDP ZfF (az i7) _ ["_law_t","_law_stand","_law_row"] ["_law_shop_here","_law_table"] [0,1]from⟨rfl,rfl,rfl,by trivial,by trivial,by trivial,by trivial,by trivial,by trivial⟩).hfr)
 case e=>exact(aO (Zm7 Zcx T) hr<|ap 3<|ap 4<|ap 0<|ap 1 aJ)
 case d=>exact⟨rfl,rfl,rfl,by trivial,by trivial,by trivial,by trivial,by trivial,by trivial⟩
def Zg4:Dl :=
 λρ=>.ret<|.next ρ
def sv:Di :=
 (aG<|aD uc<|ah (aa 3)<|ah (ac aW (ac aW (ac aW (aa 4)<|ac bj (aC<|.int 7919)<|aa 0)<|ac bj (aC<|.int 613)<|ac aW (ac ak (aa 1)<|aC<|.int 0)<|aC<|.int 9)<|ac ak (aa 1)<|aC<|.int 1)<|ah (aa 1)<|ah (aa 2) aE)
abbrev Zdl:EQ Sl->ER WF:=tS 3 0 0 Zg4 [0,1] sv
def Znm{c0 Pt:EV}{ts:EQ EV}(T:Txt K mg)(D:DefK K mg "_law_any" i8 ["_law_shop_here","_law_key"] c0 Pt)(BK:BltK base mg)(hm:Pt∈ts):Callee P w K mg base "_law_any" 2 ["_law_shop_here","_law_key"] (qq P w K mg base 2 (PKs ts<|dS cn) 2 Zdl):=by
 refine' ZcS (kk:=1) (kb:=1) (pl:=["_law_t","_law_stand","_law_row"]) (NF:=["_law_shop_here","_law_key"]) D Zhw rfl (PKs.low cK) (λo G m h=>h.2 _ hm) xv ?d (λf A outer sh H E hr=>?b) (λo0 cl q f c A outer s H E hr=>?e)
 case b=>exact(Zcr<|ZcD D.ck BK rfl (by intro fd;cases fd;rintro rfl rfl rfl us hl;obtain⟨_,_,_,rfl⟩:=L2.uv hl;rfl) (show LamDP ZfH (az i8) _ ["_law_t","_law_stand","_law_row"] ["_law_shop_here","_law_key"] [0,1]from⟨rfl,rfl,rfl,by trivial,by trivial,by trivial,by trivial,by trivial,by trivial⟩).hfr)
 case e=>exact(aO (Zm6 Zcx T) hr<|ap 3<|bC (be (be (be (ae 4)<|bw ai<|ae 0)<|bw ai<|be (au (ae 1) ai) ai)<|au (ae 1) ai)<|ap 1<|ap 2 aJ)
 case d=>exact⟨rfl,rfl,rfl,by trivial,by trivial,by trivial,by trivial,by trivial,by trivial⟩
def xk:Di :=
 (bL<|af (aa 0)<|af (aa 1) ao)
def xj:Di :=
 (ac aW (aG<|aD jn<|ah (aa 2)<|ah (aa 0) aE)<|aG<|aD jn<|ah (aa 2)<|ah (aa 1) aE)
def ui:Dm:=bd 1 0
 (bF<|iW (bZ<|aG<|aD gq<|ah (aa 0) aE) 2 [0] (bB<|aK (aj 0)<|aK (aj 1) bx) xk xj)
def Znb{PK:Pk}(low:PkLow PK)(T:Txt K mg):ACal PK P w K mg base "end_of_both" 3 ["shop"] ui:=bA T.ZlZ Zhi rfl λ_ _ _ _ _ _ _ hr =>
 (aS<|bJ<|Zft (ZcE zN ["one","other"] [0] hr.units0 rfl (cw<|aO (uT low T) hr<|ap 0 aJ) (λ_=>cU (bG 0)<|bG 1) (λ_=>bU<|aN 0<|aN 1 aq) (λ_=>be (aO (yR low T) hr<|ap 2<|ap 0 aJ)<|aO (yR low T) hr<|ap 2<|ap 1 aJ) rfl (show BlkOk zN (az wB) _ [0]from(dt<|by trivial)))<|kD<|fi (cC<|by decide)<|fi (cC<|by decide) kE)
def xX:Dl :=
 (av (aU 12<|ac aW (aG<|aD jp<|ah (aa 0)<|ah (aa 5)<|ah (aa 8) aE)<|aG<|aD jp<|ah (aa 0)<|ah (aa 6)<|ah (aa 10) aE)
 (av (aU 13<|ac cT (aa 3)<|bL<|af (aG<|aD ji<|ah (aa 0)<|ah (aa 5)<|ah (aa 8) aE)<|af (aG<|aD ji<|ah (aa 0)<|ah (aa 6)<|ah (aa 10) aE) ao)
 (jQ rb 7<|ac bj (aa 11)<|ac aW (ac bj (aa 4)<|aa 12)<|aa 13)))
def Zdd:Dl :=
 (dQ (jP<|aa 9) (bB<|aK (aj 10)<|aK (aj 11) bx) xX)
def tW:Dm:=bd 5 9
 (av (gY (bB<|aK (aj 5)<|aK (aj 6) bx)<|aa 2)
 (av (aU 7<|aC<|.int 0)
 (av (dQ (jP<|aa 1) (bB<|aK (aj 8)<|aK (aj 9) bx) Zdd)
 (gB 7))))
def ZmX{PK:Pk}(low:PkLow PK)(T:Txt K mg):ACal PK P w K mg base "weighed_both" 3 ["shop","day","raised","ahead","scale"] tW:=bA T.ZlL fJ rfl λ_ _ _ _ _ _ _ hr =>
 (ay (jL<|fg (ae 2)<|cU (bQ 5 fJ)<|bQ 6 fJ)
 (ay (aY 7 fJ ai)
 (ay (eY AY rfl (rK<|qJ rfl rfl T.qQ (ae 1)) (cU (bQ 8 fJ)<|bQ 9 fJ)
  (aS (eY AY rfl (rK<|qJ rfl rfl T.qQ (ae 9)) (cU (bQ 10 fJ)<|bQ 11 fJ)
  (ay (aY 12 fJ<|be (aO (yS low T) hr<|ap 0<|ap 5<|ap 8 aJ)<|aO (yS low T) hr<|ap 0<|ap 6<|ap 10 aJ)
 (ay (aY 13 fJ<|gA<|gj (eQ hr) (ae 3) (bU<|aw (aO (uU low T) hr<|ap 0<|ap 5<|ap 8 aJ)<|aw (aO (uU low T) hr<|ap 0<|ap 6<|ap 10 aJ) aq)<|λ_ _=>rfl)
 (aS<|u8 Zaq<|tE (i:=7) fJ.nd rfl (.inl rfl) (bw (ae 11)<|be (bw (ae 4)<|ae 12)<|ae 13) (pip Zdu)))))))
 (aS<|u5<|pv 7))))
def xo:Di :=
 (bL<|af (ac aW (ac bj (aa 1)<|aG<|aD tZ<|ah (aa 3)<|ah (aa 4)<|ah (aa 0) aE)<|ac cT (aa 2)<|aa 0)<|af (aa 0) ao)
def uq:Dm:=bd 4 0
 (bF<|aZ tT<|af (bY<|bV (bZ<|aG<|aD tY<|ah (aa 0)<|ah (aa 1) aE) 1 [3,2,0,1] (aj 0) xo) ao)
def Znf{PK:Pk}(low:PkLow PK)(T:Txt K mg):ACal PK P w K mg base "cheapest_raise" 3 ["shop","stand","behind","scale"] uq:=bA T.Zl5 Zhm rfl λ_ _ _ _ _ _ _ hr =>
 (aS<|bJ<|bb (t:=aT) (bu (ZmP hr rfl) rfl T.xJ boot_min (aw (cz<|dq ZfE wE ["raised"] [3,2,0,1] (cw<|aO (ZmZ low T) hr<|ap 0<|ap 1 aJ) (λ_=>bG 0)<|λ_=>bU<|aw (be (bw (ae 1)<|aO (Zm0 low T) hr<|ap 3<|ap 4<|ap 0 aJ)<|gA<|gj (eQ hr) (ae 2) (ae 0)<|λ_ _=>rfl)<|aN 0 aq) aq)) Zf6)
def Zde:Dl :=
 (av (aU 8<|ac ak (aa 3)<|ac aW (aG<|aD ji<|ah (aa 0)<|ah (aa 2)<|ah (aa 6) aE)<|ac ak (aa 0)<|aC<|.int 1)
 (jQ rb 5<|ac bj (aa 7)<|ac aW (ac bj (aa 4)<|aG<|aD jp<|ah (aa 0)<|ah (aa 2)<|ah (aa 6) aE)<|aa 8))
def tX:Dm:=bd 5 4
 (av (aU 5<|aC<|.int 0)
 (av (dQ (jP<|aa 1) (bB<|aK (aj 6)<|aK (aj 7) bx) Zde)
 (gB 5)))
def ZmY{PK:Pk}(low:PkLow PK)(T:Txt K mg):ACal PK P w K mg base "weighed" 3 ["shop","day","level","ahead","scale"] tX:=bA T.ZlM km rfl λ_ _ _ _ _ _ _ hr =>
 (ay (aY 5 km ai)
 (ay (eY AY rfl (rK<|qJ rfl rfl T.qQ (ae 1)) (cU (bQ 6 km)<|bQ 7 km)
  (ay (aY 8 km<|au (ae 3)<|be (aO (uU low T) hr<|ap 0<|ap 2<|ap 6 aJ)<|au (ae 0)<|dg rfl T.uH)
 (aS<|u8 Zaq<|tE (i:=5) km.nd rfl (.inl rfl) (bw (ae 7)<|be (bw (ae 4)<|aO (yS low T) hr<|ap 0<|ap 2<|ap 6 aJ)<|ae 8) (pip Zdu))))
 (aS<|u5<|pv 5)))
def Zcn:Di :=
 (aG<|aD ue<|cA 1 aE)
def uf:Dm:=bd 1 0
 (bF<|aZ cP<|af (bY<|bV (fG<|af (ac aW (aC<|.int 1)<|aG<|aD c8<|cA 0<|ah (aC<|.int 3) aE) ao) 1 [0] (aj 0) Zcn) ao)
def Zm9(T:Txt K mg):ACal (dS cn) P w K mg base "_law_double" 3 ["_law_pen_here"] uf:=bA T.Zmn Zhv rfl λ_ _ _ _ _ _ _ hr =>
 (aS<|bJ<|bb (t:=aT) (cD dr rfl T.c7 DT (aw (cz<|dq ZfG wJ ["_law_k"] [0] (gW<|gI rfl T.dJ (aw (be ai<|aO (dG T) hr<|cR (pv 0)<|bC ai aJ) aq)) (λ_=>bG 0)<|λ_=>aO (Zm8 T) hr<|cR (pv 1) aJ) aq)) dh)
def xq:Di :=
 (aa 0)
def xp:Di :=
 (aG<|aD tW<|ah (aa 1)<|ah (aa 2)<|ah (aa 0)<|ah (aa 3)<|ah (aa 4) aE)
def uu:Dm:=bd 4 0
 (bF<|iW (bZ<|aG<|aD gq<|ah (aa 0) aE) 1 [0,1,2,3] (aj 0) xq xp)
def Zni{PK:Pk}(low:PkLow PK)(T:Txt K mg):ACal PK P w K mg base "behind_raises" 4 ["shop","day","ahead","scale"] uu:=bA T.Zl8 Zho rfl λ_ _ _ _ _ _ _ hr =>
 (aS<|bJ<|Zft (ZcE zO ["raised"] [0,1,2,3] hr.units0 rfl (cw<|aO (uT low T) hr<|ap 0 aJ) (λ_=>bG 0) (λ_=>ae 0) (λ_=>aO (ZmX low T) hr<|ap 1<|ap 2<|ap 0<|ap 3<|ap 4 aJ) rfl (show BlkOk zO (az wF) _ [0,1,2,3]from(dt<|by trivial)))<|cC<|by decide)
def wV:Di :=
 (ac aW (ac bj (ac bj (aa 5)<|ac ak (aa 1)<|aC<|.int 3)<|aa 0)<|aG<|aD tX<|ah (aa 1)<|ah (aa 2)<|ah (aa 0)<|ah (aa 3)<|ah (aa 4) aE)
def t5:Dm:=bd 4 1
 (av (aU 4<|ac bj (aa 3)<|aZ cJ<|af (aa 1) ao)
 (iV<|bV (bZ<|aG<|aD iB<|ah (aa 0) aE) 1 [0,1,2,3,4] (aj 0) wV))
def Zm2{PK:Pk}(low:PkLow PK)(T:Txt K mg):ACal PK P w K mg base "level_sums" 4 ["shop","day","ahead","scale"] t5:=bA T.ZlU Zbc rfl λ_ _ _ _ _ _ _ hr =>
 (ay (aY 4 Zbc<|bw (ae 3)<|bb (t:=aT) (bu (gT rfl) rfl T.gL EE (aN 1 aq)) gD)
 (aS<|pP<|dq ZfB wA ["level"] [0,1,2,3,4] (cw<|aO (uS low T) hr<|ap 0 aJ) (λ_=>bG 0)<|λ_=>be (bw (bw (ae 5)<|au (ae 1)<|dg rfl T.yq)<|ae 0)<|aO (ZmY low T) hr<|ap 1<|ap 2<|ap 0<|ap 3<|ap 4 aJ))
def wY:Di :=
 (aG<|aD uq<|ah (aa 1)<|ah (aa 0)<|ah (aa 2)<|ah (aa 3) aE)
def sT:Di :=
 (bL<|af (aG<|aD kU<|ah (aa 0)<|ah (aa 2) aE)<|af (aa 1) ao)
def wX:Di :=
 (aa 0)
def wW:Di :=
 (aa 1)
def Zdf:Dl :=
 (av (aU 6<|aG<|aD uu<|ah (aa 0)<|ah (aa 5)<|ah (aa 3)<|ah (aa 4) aE)
 (av (jQ la 4<|aG<|aD um<|ah (aa 5) aE)
 (av (aU 7<|bY<|bV (bZ<|aG<|aD gq<|ah (aa 0) aE) 1 [0,6,4] (aj 0) wY)
 (av (p6 2<|aZ cP<|af (bY<|bV (bZ<|aa 7) 2 [4] (bB<|aK (aj 0)<|aK (aj 1) bx) sT) ao)
 (aU 3<|iW (vm (aG<|aD gq<|ah (aa 0) aE)<|aa 7) 3 [] (bB<|aK (aj 0)<|aK (bB<|aK (aj 1)<|aK (aj 2) bx) bx) wX wW)))))
def jj:Dm:=bd 2 6
 (av (iU 2<|fX ao)
 (av (aU 3<|aG<|aD ui<|ah (aa 0) aE)
 (av (aU 4<|aC<|.int 1)
 (av (dQ (vp<|aa 1) (aj 5) Zdf)
 (av (pW 2)
 (pZ 2<|bF<|aZ cP<|af (aa 2) ao))))))
def uV{PK:Pk}(low:PkLow PK)(T:Txt K mg):ACal PK P w K mg base "least_double" 5 ["shop","double"] jj:=bA T.ZlV gF rfl λ_ _ _ _ _ _ _ hr =>
 (ay (rH<|fM (i:=2) gF.nd<|gU aq)
 (ay (aY 3 gF<|aO (Znb low T) hr<|ap 0 aJ)
 (ay (aY 4 gF ai)
 (ay (eY AY rfl (Zfp<|xt rfl T.xI (ae 1)) (bQ 5 gF)
  (ay (aY 6 gF<|aO (Zni low T) hr<|ap 0<|ap 5<|ap 3<|ap 4 aJ)
 (ay (u8 Zap<|tE (i:=4) gF.nd rfl (.inr rfl) (aO (Znd low T) hr<|ap 5 aJ) (pip Zdt))
 (ay (y6 (qH (i:=7) p9 ["stand"] [0,6,4] rfl gF.nd rfl rfl (cw<|aO (uT low T) hr<|ap 0 aJ) (λ_=>bG 0) (λ_=>aO (Znf low T) hr<|ap 1<|ap 0<|ap 2<|ap 3 aJ) rfl (show BlkOk p9 (az qx) _ [0,6,4]from(dt<|by trivial)) rfl)<|cC<|by decide)
 (ay (zc<|jd<|tK A8 Ck Cj xL (pv 2)<|ci (bb (t:=aT) (cD dr rfl T.c7 DT (aw (cz<|dq p9 qx ["cost","raised"] [4] (cw<|ae 7) (λ_=>cU (bG 0)<|bG 1)<|λ_=>bU<|aw (aO (ZeQ low T) hr<|ap 0<|ap 2 aJ)<|aN 1 aq) aq)) dh) cL)
 (aS<|ZnG (Zil (i:=3) p9 ["stand","cost","raised"] [] hr.units0 rfl gF.nd rfl rfl (ZnS<|Zix rfl rfl T.Zjo (aO (uT low T) hr<|ap 0 aJ) (ae 7)) (λ_=>cU (bG 0)<|cU (bG 1)<|bG 2) (λ_=>ae 0) (λ_=>ae 1) rfl (show BlkOk p9 (az qx) _ []from(dt<|by trivial)) rfl)<|kD<|fi (cC<|by decide)<|fi (kD<|fi (cC<|by decide)<|fi (cC<|by decide) kE) kE))))))
 (ay (y9<|jd<|xx A8 Cg Cf xK<|pv 2)
 (aS<|u7 (k:=2)<|bJ<|bb (t:=aT) (cD dr rfl T.c7 DT (aN 2 aq)) dh))))))
def sV:Di :=
 (bL<|af (aG<|aD kU<|ah (aa 0)<|ah (aa 2) aE)<|af (aa 1) ao)
def sU:Di :=
 (aa 0)
def Zdg:Dl :=
 (av (aU 6<|aG<|aD t5<|ah (aa 0)<|ah (aa 5)<|ah (aa 3)<|ah (aa 4) aE)
 (av (jQ la 4<|aZ cJ<|af (aa 5) ao)
 (av (aU 7<|aG<|aD ut<|ah (aa 0)<|ah (aa 6)<|ah (aa 4) aE)
 (av (p6 2<|aZ cP<|af (bY<|bV (bZ<|aa 7) 2 [4] (bB<|aK (aj 0)<|aK (aj 1) bx) sV) ao)
 (aU 3<|bY<|bV (bZ<|aa 7) 2 [] (bB<|aK (aj 0)<|aK (aj 1) bx) sU)))))
def t6:Dm:=bd 2 6
 (av (iU 2<|fX ao)
 (av (aU 3<|aG<|aD uj<|ah (aa 0) aE)
 (av (aU 4<|aC<|.int 1)
 (av (dQ (vp<|aa 1) (aj 5) Zdg)
 (av (pW 2)
 (pZ 2<|bF<|aZ cP<|af (aa 2) ao))))))
def Zm3{PK:Pk}(low:PkLow PK)(T:Txt K mg):ACal PK P w K mg base "least" 5 ["shop","falls"] t6:=bA T.ZlW gH rfl λ_ _ _ _ _ _ _ hr =>
 (ay (rH<|fM (i:=2) gH.nd<|gU aq)
 (ay (aY 3 gH<|aO (Znc low T) hr<|ap 0 aJ)
 (ay (aY 4 gH ai)
 (ay (eY AY rfl (Zfp<|xt rfl T.xI (ae 1)) (bQ 5 gH)
  (ay (aY 6 gH<|aO (Zm2 low T) hr<|ap 0<|ap 5<|ap 3<|ap 4 aJ)
 (ay (u8 Zap<|tE (i:=4) gH.nd rfl (.inr rfl) (bb (t:=aT) (bu (gT rfl) rfl T.gL EE (aN 5 aq)) gD) (pip Zdt))
 (ay (aY 7 gH<|aO (Znh low T) hr<|ap 0<|ap 6<|ap 4 aJ)
 (ay (zc<|jd<|tK A8 Ck Cj xL (pv 2)<|ci (bb (t:=aT) (cD dr rfl T.c7 DT (aw (cz<|dq vH sL ["cost","level"] [4] (cw<|ae 7) (λ_=>cU (bG 0)<|bG 1)<|λ_=>bU<|aw (aO (ZeQ low T) hr<|ap 0<|ap 2 aJ)<|aN 1 aq) aq)) dh) cL)
 (aS<|y6 (qH (i:=3) vH ["cost","level"] [] rfl gH.nd rfl rfl (cw<|ae 7) (λ_=>cU (bG 0)<|bG 1) (λ_=>ae 0) rfl (show BlkOk vH (az sL) _ []from(dt<|by trivial)) rfl)<|kD<|fi (cC<|by decide)<|fi (cC<|by decide) kE))))))
 (ay (y9<|jd<|xx A8 Cg Cf xK<|pv 2)
 (aS<|u7 (k:=2)<|bJ<|bb (t:=aT) (cD dr rfl T.c7 DT (aN 2 aq)) dh))))))
def sX:Di :=
 (aG<|aD qT<|ah (aa 0) aE)
def kA:Di :=
 (ac ak (aG<|aD t6<|ah (aa 1)<|ah (aa 0) aE)<|aC<|.int 0)
def xg:Di :=
 (bY<|bV (bZ<|bL<|af (aG<|aD qX<|ah (aa 1) aE)<|af (aG<|aD qX<|ah (aa 2) aE) ao) 1 [0] (aj 0) kA)
def x6:Dl :=
 (av (aU 9<|bL<|af (ac aW (aa 7)<|ac ak (aa 0)<|aC<|.int 1)<|af (ac aW (aa 8)<|ac ak (aa 0)<|aC<|.int 1) ao)
 (av (aU 10<|aG<|aD jk<|ah (ac ak (ac ak (ac ak (ac ak (aa 6)<|aC<|.int 0)<|aC<|.int 0)<|ac ak (aa 9)<|aC<|.int 0)<|aC<|.int 0)<|ah (ac ak (ac ak (ac ak (ac ak (aa 6)<|aC<|.int 0)<|aC<|.int 1)<|ac ak (aa 9)<|aC<|.int 1)<|aC<|.int 0) aE)
 (av (aU 11<|aG<|aD jk<|ah (ac ak (ac ak (ac ak (ac ak (aa 6)<|aC<|.int 1)<|aC<|.int 0)<|ac ak (aa 9)<|aC<|.int 0)<|aC<|.int 0)<|ah (ac ak (ac ak (ac ak (ac ak (aa 6)<|aC<|.int 1)<|aC<|.int 1)<|ac ak (aa 9)<|aC<|.int 1)<|aC<|.int 0) aE)
 (av (eK (cN<|ac ir (aZ di<|af (ac cT (aa 5)<|bL<|af (aa 7)<|af (aa 8) ao) ao)<|aZ di<|af (aa 10) ao)
  (bF<|aC<|.bool false)
  eJ)
 (eK (vq (rO<|pU<|aG<|aD jm<|ah (aa 10)<|ah (ac cT (aa 2)<|bL<|af (aa 7)<|af (aa 8) ao) aE)<|rO<|pU<|aG<|aD jm<|ah (ac cT (aa 2)<|bL<|af (aa 7)<|af (aa 8) ao)<|ah (aa 11) aE)
  (bF<|aC<|.bool false)
  eJ)))))
def ug:Dm:=bd 3 9
 (av (aU 3<|aZ cP<|af (bY<|bV (bZ<|aa 1) 1 [] (aj 0) sX) ao)
 (av (aU 4<|ac fF (ac fF (pV (aa 0) pX<|jO<|aC<|.int 2)<|bL<|af (aC<|.int 0) ao)<|pV (aa 0) (jO<|aC<|.int 3) pX)
 (av (aU 5<|aG<|aD iC<|ah (aa 4)<|ah (aG<|aD jj<|ah (aa 4)<|ah (aa 1) aE) aE)
 (av (aU 6<|bY<|bV (bZ<|bL<|af (aa 4)<|af (aa 0) ao) 1 [1,3] (aj 0) xg)
 (av (dQ (vA<|aa 2) (bB<|aK (aj 7)<|aK (aj 8) bx) x6)
 (bF<|aC<|.bool true))))))
def Zna(T:Txt K mg):ACal (dS cn) P w K mg base "_law_apart_right" 6 ["_law_shop_here","_law_double_here","_law_costs"] ug:=bA T.Zmp gh rfl λ_ _ _ _ _ _ _ hr =>
 (ay (aY 3 gh<|bb (t:=aT) (cD dr rfl T.c7 DT (aw (cz<|dq qb sO ["_law_one"] [] (cw<|ae 1) (λ_=>bG 0)<|λ_=>aO (ZeR cK T) hr<|ap 0 aJ) aq)) dh)
 (ay (aY 4 gh<|cM tN si (cM tN si (ve (ae 0) vc<|va ai)<|bU<|aw ai aq)<|ve (ae 0) (va ai) vc)
 (ay (aY 5 gh<|aO (yQ cK T) hr<|ap 4<|bC (aO (uV cK T) hr<|ap 4<|ap 1 aJ) aJ)
 (ay (y6 (qH (i:=6) qb ["_law_one"] [1,3] rfl gh.nd rfl rfl (cw<|bU<|aN 4<|aN 0 aq) (λ_=>bG 0) (λb=>(cz<|pQ (je (bN qb ["_law_one"] [1,3]) ["_law_falls"] [0] rfl (cw<|bU<|aw (aO (ZeW cK T) hr<|ap 1 aJ)<|aw (aO (ZeW cK T) hr<|ap 2 aJ) aq) (λ_=>iR<|kF (i:=0)<|show((bN (bN qb ["_law_one"] [1,3]) ["_law_falls"] [0])).Nodup by trivial) (λ_=>au (aO (Zm3 cK T) hr<|ap 1<|ap 0 aJ) ai) rfl (BlkOk.nest<|dt<|by trivial))<|cC<|by decide)) rfl (show BlkOk qb (az sO) _ [1,3]from(dt<|by trivial)) rfl)<|cC<|by decide)
 (ay (eY AY rfl (Zfq notup<|ae 2) (cU (bQ 7 gh)<|bQ 8 gh)
  (ay (aY 9 gh<|bU<|aw (be (ae 7)<|au (ae 0) ai)<|aw (be (ae 8)<|au (ae 0) ai) aq)
 (ay (aY 10 gh<|aO (ZeS cK T) hr<|bC (au (au (au (au (ae 6) ai) ai)<|au (ae 9) ai) ai)<|bC (au (au (au (au (ae 6) ai) ai)<|au (ae 9) ai) ai) aJ)
 (ay (aY 11 gh<|aO (ZeS cK T) hr<|bC (au (au (au (au (ae 6) ai) ai)<|au (ae 9) ai) ai)<|bC (au (au (au (au (ae 6) ai) ai)<|au (ae 9) ai) ai) aJ)
 (ay (fE (dP (tM hr) sa (bb (t:=aT) (bu (gx hr) rfl T.gm Ek (aw (gA<|gj (eQ hr) (ae 5) (bU<|aN 7<|aN 8 aq)<|λ_ _=>rfl) aq)) ga) (bb (t:=aT) (bu (gx hr) rfl T.gm Ek (aN 10 aq)) ga)<|nomark _)
  (aS<|bJ iT)
  fB)
 (aS (fE (yY<|Zfa (yZ<|uZ<|aO (ZeU cK T) hr<|ap 10<|bC (gA<|gj (eQ hr) (ae 2) (bU<|aN 7<|aN 8 aq)<|λ_ _=>rfl) aJ)<|Ze9<|yZ<|uZ<|aO (ZeU cK T) hr<|bC (gA<|gj (eQ hr) (ae 2) (bU<|aN 7<|aN 8 aq)<|λ_ _=>rfl)<|ap 11 aJ)
  (aS<|bJ iT)
  fB)))))))
 (aS<|bJ iT))))))
def xY(F:WF)(slf:Dm):Dl :=
 (av (gY (bB<|aK (aj 13)<|aK (aj 14) bx)<|aG<|aD qV<|ah (aa 0)<|ah (ac ak (aa 6)<|aC<|.int 0)<|ah (aa 9) aE)
 (av (gY (bB<|aK (aj 15)<|aK (aj 16) bx)<|aG<|aD qV<|ah (aa 0)<|ah (ac ak (aa 6)<|aC<|.int 1)<|ah (aa 11) aE)
 (av (gY (uI<|aK (aj 17)<|aK (aj 8) bx)<|aG<|aD slf<|ah (aa 0)<|ah (aa 1)<|ah (ac aW (aa 2)<|aC<|.int 1)<|ah (bL<|af (aa 14)<|af (aa 16) ao)<|ah (ac fF (aa 4)<|bL<|af (bL<|af (aa 9)<|af (aa 11) ao) ao)<|cA 5 aE)
 (aU 7<|ac aW (aa 7)<|ac bj (aa 12)<|ac aW (ac bj (ac aW (aa 13)<|aa 15)<|aa 8)<|aa 17))))
def Zdi(F:WF)(slf:Dm):Dl :=
 (dQ (jP<|aa 10) (bB<|aK (aj 11)<|aK (aj 12) bx)<|xY F slf)
def wZ(F:WF)(slf:Dm):Di :=
 (aZ cJ<|af (aa 0) ao)
def pO(F:WF)(slf:Dm):Dl :=
 (av (eK (cN<|ac gw (aa 2)<|aZ dL<|af (aa 1) ao)
  (iV<|fX<|af (ac aW (aG<|aD qW<|ah (aa 0)<|ah (ac ak (aa 3)<|aC<|.int 0) aE)<|aG<|aD qW<|ah (aa 0)<|ah (ac ak (aa 3)<|aC<|.int 1) aE)<|af (aC<|.int 1) ao)
  eJ)
 (av (aU 6<|vn F 5<|af (aa 2)<|af (aa 3)<|af (aa 4) ao)
 (av (aU 7<|aC<|.int 0)
 (av (aU 8<|aC<|.int 1)
 (av (dQ (jP<|ac ak (aa 1)<|aa 2) (bB<|aK (aj 9)<|aK (aj 10) bx)<|Zdi F slf)
 (av (aU 8<|ac bj (aa 8)<|aZ cJ<|af (bY<|bV (bZ<|ac ak (aa 1)<|aa 2) 1 [] (aj 0)<|wZ F slf) ao)
 (iV<|fX<|af (ac aW (aa 7)<|ac bj (aG<|aD qU<|ah (aa 0)<|ah (aa 3)<|ah (aa 6) aE)<|aa 8)<|af (aa 8) ao)))))))
def eu(F:WF):Nat->EQ Sl->Tr Re
 |0=>bd 6 12 vt
 |n+1=>bd 6 12<|pO F<|eu F n
def ZjK(F:WF)(as:Dz)(m:Nat)(Z:Nat->Re->Prop)(h:(eu F 4 as).ok m Z):as.length=6:=by unfold eu bd at h;exact DC (c6 h).1
def ZdD(T:Txt K mg){n:Nat}{o0:HO}(C:ACal (f8 P w K mg base 2 o0 F) P w K mg base "_law_walked" (3+n) ["_law_shop_here","_law_double_here","_law_t","_law_stand","_law_row","_law_way"] (eu F n)){f:EV}{E7:ET}{A:EY}{outer:EQ Env}{sh:EU}{E:XK}(hr:Room (3+n) (A.deeper<|envOfC "_law_walked" (az ku) sh.heap.objs.size f E7)):PSs (eI cO P w K mg base zQ "_law_walked" (az ku) f E7 A outer sh H E).nox (db ku) (bg (f8 P w K mg base 2 o0 F)<|pO F<|eu F n) :=
 (ay (fE (dP (qN hr) qg (ae 2) (bb (t:=aT) (bu iM rfl T.iu EB (aN 1 aq)) qh)<|nomark _)
 (aS<|pP<|gU<|aw (be (gX<|gz (ZeV qI T) (hr.mono<|by omega) rfl (ap 0<|bC (au (ae 3) ai) aJ))<|gX<|gz (ZeV qI T) (hr.mono<|by omega) rfl (ap 0<|bC (au (ae 3) ai) aJ))<|aw ai aq)
 fB)
 (ay (aY 6 cZ<|ZnV (j:=5) (hr.mono<|by omega) rfl (.inl rfl) (aN 2<|aN 3<|aN 4 aq))
 (ay (aY 7 cZ ai)
 (ay (aY 8 cZ ai)
 (ay (eY AY rfl (rK<|qJ rfl rfl T.qQ (au (ae 1)<|ae 2)) (cU (bQ 9 cZ)<|bQ 10 cZ)
  (aS (eY AY rfl (rK<|qJ rfl rfl T.qQ (ae 10)) (cU (bQ 11 cZ)<|bQ 12 cZ)
  (ay (jL<|fg (gX<|gz (ZeT qI T) (hr.mono<|by omega) rfl (ap 0<|bC (au (ae 6) ai)<|ap 9 aJ))<|cU (bQ 13 cZ)<|bQ 14 cZ)
 (ay (jL<|fg (gX<|gz (ZeT qI T) (hr.mono<|by omega) rfl (ap 0<|bC (au (ae 6) ai)<|ap 11 aJ))<|cU (bQ 15 cZ)<|bQ 16 cZ)
 (ay (jL<|fg (gX<|gz C (hr.mono<|Ag _) rfl (ap 0<|ap 1<|bC (be (ae 2) ai)<|bC (bU<|aN 14<|aN 16 aq)<|bC (cM tN si (ae 4)<|bU<|aw (bU<|aN 9<|aN 11 aq) aq)<|cR (pv 5) aJ))<|Zfr rfl (pS (bQ 17 cZ)<|pS (bQ 8 cZ) zh) (lb<|lb yn))
 (aS<|aY 7 cZ<|be (ae 7)<|bw (ae 12)<|be (bw (be (ae 13)<|ae 15)<|ae 8)<|ae 17)))))))
 (ay (aY 8 cZ<|bw (ae 8)<|bb (t:=aT) (bu (gT rfl) rfl T.gL EE (aw (cz<|dq zQ ku ["_law_line"] [] (cw<|au (ae 1)<|ae 2) (λ_=>bG 0)<|λ_=>bb (t:=aT) (bu (gT rfl) rfl T.gL EE (aN 0 aq)) gD) aq)) gD)
 (aS<|pP<|gU<|aw (be (ae 7)<|bw (gX<|gz (Zm5 qI T) (hr.mono<|by omega) rfl (ap 0<|ap 3<|ap 6 aJ))<|ae 8)<|aN 8 aq)))))))
theorem ZeX(T:Txt K mg){o0:HO}{F:WF}:∀n:Nat,ACal (f8 P w K mg base 2 o0 F) P w K mg base "_law_walked" (3+n) ["_law_shop_here","_law_double_here","_law_t","_law_stand","_law_row","_law_way"] (eu F n)
 |0=>bA T.yJ cZ rfl λf E7 A outer sh H E hr=>ZnD
 |n+1=>bA (kk:=3+n) T.yJ cZ rfl λf E7 A outer sh H E hr=>ZdD T (ZeX T n) hr
def Znj(T:Txt K mg):Callee P w K mg base "_law_walked" 7 ["_law_shop_here","_law_double_here","_law_t","_law_stand","_law_row","_law_way"] (sC P w K mg base 2 6 λF=>eu F 4):=Zn3 (kk:=6) (s:=λF=>pO F<|eu F 3) T.yJ cZ rfl λo0 F f E7 A outer sh H E hr=>ZdD T (ZeX T 3) hr
def sW:EQ Sl->Tr WF :=
 (rP 2 Zdl<|af (aa 1)<|af (aG<|aD c8<|cA 2<|ah (ac gi (aC<|.int 10)<|aC<|.int 9) aE) ao)
def qZ(W:EQ WF->Hp->V->Prop)(Fs:EQ WF):Dl :=
 (av (gY (uI<|aK (aj 10)<|aK (aj 11) bx)<|aG<|rT 5 W Fs (λF=>eu F 4) (af (aa 1)<|af (aa 2)<|af (aC<|.int 0)<|af (aa 8)<|af (bL ao) ao)<|aa 9)
 (av (eK (zy (cN<|ac gw (aa 9)<|aC<|.int 0)<|cN<|ac ir (aZ di<|af (ac cT (aa 4)<|aa 8) ao)<|aZ di<|af (aG<|aD jl<|ah (aa 10)<|ah (aa 11) aE) ao)
  (bF<|aC<|.bool false)
  eJ)
 (eK (cN<|ac (fS λi j=>decide (i<j)) (ac bj (aa 10)<|ac ak (ac cT (aa 4)<|aa 8)<|aC<|.int 1)<|ac bj (ac ak (ac cT (aa 4)<|aa 8)<|aC<|.int 0)<|aa 11)
  (bF<|aC<|.bool false)
  eJ)))
def Zdh(W:EQ WF->Hp->V->Prop)(Fs:EQ WF):Dl :=
 (av (aU 8<|ac ak (aa 6)<|aG<|aD c8<|cA 0<|ah (aZ dL<|af (aa 6) ao) aE)
 (dQ (fG<|af (aC<|.int 5) ao) (aj 9)<|qZ W Fs))
def t7(W:EQ WF->Hp->V->Prop):Dm:=bd 5 7
 (rM 5 W (zn<|rP 2 x9<|af (aa 1)<|af (aa 3) ao) (rQ (fG<|af (aC<|.int 4) ao) 1 [1,0] (aj 0) sW) (λFs =>
 (av (aU 6<|bY<|zu j4<|af (aa 4) ao)
 (av (dQ (fG<|af (aC<|.int 2) ao) (aj 7)<|Zdh W Fs)
 (bF<|aC<|.bool true)))))
def Znk(T:Txt K mg){c1 P1 c2 P2:EV}(D1:DefK K mg "_law_told" i7 ["_law_shop_here","_law_table"] c1 P1)(D2:DefK K mg "_law_any" i8 ["_law_shop_here","_law_key"] c2 P2)(BK:BltK base mg):ACal (PKs [P1,P2]<|dS cn) P w K mg base "_law_walks_right" 8 ["_law_pen_here","_law_shop_here","_law_double_here","_law_table","_law_costs"] (t7<|WaysP P w K mg base 2):=bA T.Zl9 ie rfl λ_ _ _ _ _ _ _ hr =>
 (ZnB (kb:=2) (PKs.low cK) (fM (i:=5) ie.nd<|cy ZcK (Znt<|Ze8 (Znl T D1 BK<|.head _) (hr.mono<|by decide) rfl (aN 1<|aN 3 aq))<|Znu (je zP ["_law_k"] [1,0] rfl (gW<|gI rfl T.dJ (aw ai aq)) (λ_=>bG 0) (λ_=>Ze8 (Znm T D2 BK<|.tail _<|.head _) (hr.mono<|by decide) rfl (aN 1<|aw (aO (ACal.cods<|dG T) hr<|cR (pv 2)<|bC (cM qM vV ai ai) aJ) aq)) rfl (show BlkOk zP (az wG) _ [1,0]from(dt<|by trivial)))<|cC<|by decide)
 (λFs=>(ay (aY 6 ie<|cz<|ZnN (t:=aT) (bu (ZmN rfl) rfl T.Zjp boot_sorted (aN 4 aq))<|Zf5 notups)
 (ay (eY AY rfl (gW<|gI rfl T.dJ (aw ai aq)) (bQ 7 ie)
  (ay (aY 8 ie<|au (ae 6)<|aO (ACal.cods<|dG T) hr<|cR (pv 0)<|bC (bb (t:=aT) (bu iM rfl T.iu EB (aN 6 aq)) qh) aJ)
 (aS (eY AY rfl (gW<|gI rfl T.dJ (aw ai aq)) (bQ 9 ie)
  (ay (jL<|fg (gX<|ZnL (Znj T) ZjK (hr.mono<|by decide) rfl xv (rG (ae 1)<|rG (ae 2)<|rG ai<|rG (ae 8)<|rG (bU aq)<|aw1<|fj ft (pv 5) (ae 9)<|λ_ _=>rfl))<|Zfr rfl (pS (bQ 10 ie)<|pS (bQ 11 ie) zh) (lb<|lb yn))
 (ay (fE (yY<|Znw (dP (qN hr) qg (ae 9) ai<|nomark _)<|Znv<|dP (tM hr) sa (bb (t:=aT) (bu (gx hr) rfl T.gm Ek (aw (gA<|gj (eQ hr) (ae 4) (ae 8)<|λ_ _=>rfl) aq)) ga) (bb (t:=aT) (bu (gx hr) rfl T.gm Ek (aw (aO (yP (PKs.low cK) T) hr<|ap 10<|ap 11 aJ) aq)) ga)<|nomark _)
  (aS<|bJ iT)
  fB)
 (aS (fE (dP xD hY (bw (ae 10)<|au (gA<|gj (eQ hr) (ae 4) (ae 8)<|λ_ _=>rfl) ai) (bw (au (gA<|gj (eQ hr) (ae 4) (ae 8)<|λ_ _=>rfl) ai)<|ae 11)<|nomark _)
  (aS<|bJ iT)
  fB))))))))
 (aS<|bJ iT)))))
def tq:Di :=
 (aG<|aD qT<|ah (aa 0) aE)
def tj:Di :=
 (aa 0)
def kH:Dk :=
 (cN<|ac ir (aZ di<|af (ac cT (aa 1)<|aa 0) ao)<|aZ di<|af (ac cT (aa 2)<|bL<|af (ac ak (aa 0)<|aC<|.int 1)<|af (ac ak (aa 0)<|aC<|.int 0) ao) ao)
def sZ:Di :=
 (ac bj (aa 0)<|aa 1)
def sY:Di :=
 (bL<|af (aG<|aD jl<|ah (ac bj (ac ak (aa 0)<|aC<|.int 0)<|aa 2)<|ah (ac ak (aa 0)<|aC<|.int 1) aE)<|af (aa 1) ao)
def qF:Di :=
 (aZ cP<|af (bY<|bV (bZ<|aa 0) 2 [1] (bB<|aK (aj 0)<|aK (aj 1) bx) sY) ao)
def uh(W:EQ WF->Hp->V->Prop):Dl :=
 (av (aU 2<|ac aW (aC<|.int 2)<|aG<|aD c8<|cA 1<|ah (aC<|.int 8) aE)
 (av (aU 3<|aG<|aD t9<|cA 1 aE)
 (av (aU 4<|aG<|aD uf<|cA 1 aE)
 (av (aU 5<|aG<|aD jj<|ah (aa 3)<|ah (aa 4) aE)
 (av (aU 6<|aZ di<|af (bL<|af (aa 3)<|af (aa 4)<|af (aa 5) ao) ao)
 (av (aU 7<|aG<|aD iC<|ah (aa 3)<|ah (aa 5) aE)
 (av (aU 8<|aG<|aD iC<|ah (aa 3)<|ah (aG<|aD jj<|ah (aa 3)<|ah (aZ cP<|af (bY<|bV (bZ<|aa 4) 1 [] (aj 0) tq) ao) aE) aE)
 (av (eK (cN<|ac tR (bY<|vz (vA<|aa 7) 1 [7,8] (aj 0) kH tj)<|bY<|fX ao)
  (bF<|aC<|.bool false)
  eJ)
 (av (aU 9<|aG<|aD jj<|ah (ac fF (pV (aa 3) pX<|jO<|aC<|.int 2)<|aZ cP<|af (bY<|bV (bZ<|pV (aa 3) (jO<|aC<|.int 2) pX) 1 [2] (aj 0) sZ) ao)<|ah (aa 4) aE)
 (av (aU 10<|aZ cP<|af (bY<|bV (bZ<|aa 5) 1 [2] (aj 0) qF) ao)
 (av (eK (vq (cN<|ac ir (aZ di<|af (aa 9) ao)<|aZ di<|af (aa 10) ao)<|rO<|pU<|aG<|aD ug<|ah (aa 3)<|ah (aa 4)<|ah (aa 7) aE)
  (bF<|aC<|.bool false)
  eJ)
 (bF<|zx (aG<|aD (t7 W)<|cA 1<|ah (aa 3)<|ah (aa 4)<|ah (aa 5)<|ah (aa 7) aE)<|ac gw (aZ di<|af (bL<|af (aa 3)<|af (aa 4)<|af (aa 5) ao) ao)<|aa 6))))))))))))
noncomputable abbrev xW:Dz:=.un::.pen::List.replicate 9 .un
def Zjb(T:Txt K mg){f:EV}{fd:FuncData}(Fl:Fun K "law" "law" i6 f fd){c1 P1 c2 P2:EV}(D1:DefK K mg "_law_told" i7 ["_law_shop_here","_law_table"] c1 P1)(D2:DefK K mg "_law_any" i8 ["_law_shop_here","_law_key"] c2 P2)(BK:BltK base mg)(hl:(uh (WaysP P w K mg base 2) xW).ok 0 λ_ o=>o=.ret (.d<|.bool true)):FnOk P w K mg base cO 9 f fd ["_law_script"] (qr [P1,P2] K):=by
 refine Fl.ok fK (λvs H Q E h=>?_)<|λE7 A outer s H vs Q E hr h=>?_
 ·obtain⟨a,ns,rfl,_⟩:=h
  rfl
 ·obtain⟨a,ns,rfl,hS,hlen,hT,k⟩:=h;have hu:=eQ hr;refine⟨_,(dI (fM (i:=1) fK.nd<|tJ (Zi9 T) (hr.mono<|by decide) rfl (ci (pv 0) cL))
 (Zii (t:=λcn=>bg (PKs [P1,P2]<|dS cn)<|uh<|WaysP P w K mg base 2) λcn=>(ay (aY 2 fK<|be ai<|aO (ACal.cods<|dG T) hr<|cR (pv 1)<|bC ai aJ)
 (ay (aY 3 fK<|aO (ACal.cods<|Zm4 T) hr<|cR (pv 1) aJ)
 (ay (aY 4 fK<|aO (ACal.cods<|Zm9 T) hr<|cR (pv 1) aJ)
 (ay (aY 5 fK<|aO (uV (PKs.low cK) T) hr<|ap 3<|ap 4 aJ)
 (ay (aY 6 fK<|bb (t:=aT) (bu (gx hr) rfl T.gm Ek (aw (bU<|aN 3<|aN 4<|aN 5 aq) aq)) ga)
 (ay (aY 7 fK<|aO (yQ (PKs.low cK) T) hr<|ap 3<|ap 5 aJ)
 (ay (aY 8 fK<|aO (yQ (PKs.low cK) T) hr<|ap 3<|bC (aO (uV (PKs.low cK) T) hr<|ap 3<|bC (bb (t:=aT) (cD dr rfl T.c7 DT (aw (cz<|dq g9 i6 ["_law_one"] [] (cw<|ae 4) (λ_=>bG 0)<|λ_=>aO (ZeR (PKs.low cK) T) hr<|ap 0 aJ) aq)) dh) aJ) aJ)
 (ay (fE (dP (ZiY hr) Zf2 (cz<|ZnM (ZiI g9 ["_law_stand"] [7,8] rfl (Zfq notups<|ae 7) (λ_=>bG 0) (λ_=>dP (tM hr) sa (bb (t:=aT) (bu (gx hr) rfl T.gm Ek (aw (gA<|gj (eQ hr) (ae 1) (ae 0)<|λ_ _=>rfl) aq)) ga) (bb (t:=aT) (bu (gx hr) rfl T.gm Ek (aw (gA<|gj (eQ hr) (ae 2) (bU<|aw (au (ae 0) ai)<|aw (au (ae 0) ai) aq)<|λ_ _=>rfl) aq)) ga)<|nomark _) (λ_=>ae 0) rfl (show BlkOk g9 (az i6) _ [7,8]from(dt<|by trivial)))<|cC<|by decide) (cz<|gU aq)<|nomark _)
  (aS<|bJ iT)
  fB)
 (ay (aY 9 fK<|aO (uV (PKs.low cK) T) hr<|bC (cM tN si (ve (ae 3) vc<|va ai)<|bb (t:=aT) (cD dr rfl T.c7 DT (aw (cz<|dq g9 i6 ["_law_price"] [2] (cw<|ve (ae 3) (va ai) vc) (λ_=>bG 0)<|λ_=>bw (ae 0)<|ae 1) aq)) dh)<|ap 4 aJ)
 (ay (aY 10 fK<|bb (t:=aT) (cD dr rfl T.c7 DT (aw (cz<|dq g9 i6 ["_law_row"] [2] (cw<|ae 5) (λ_=>bG 0)<|λb=>(bb (t:=aT) (cD dr rfl T.c7 DT (aw (cz<|pQ (je (bN g9 ["_law_row"] [2]) ["_law_cost","_law_goal_here"] [1] rfl (cw<|ae 0) (λ_=>cU (iR<|kF (i:=0)<|show((bN (bN g9 ["_law_row"] [2]) ["_law_cost","_law_goal_here"] [1])).Nodup by trivial)<|iR<|kF (i:=1)<|show((bN (bN g9 ["_law_row"] [2]) ["_law_cost","_law_goal_here"] [1])).Nodup by trivial) (λ_=>bU<|aw (aO (yP (PKs.low cK) T) hr<|bC (bw (au (ae 0) ai)<|ae 2)<|bC (au (ae 0) ai) aJ)<|aN 1 aq) rfl (BlkOk.nest<|dt<|by trivial))<|kD<|fi (cC<|by decide)<|fi (cC<|by decide) kE) aq)) dh)) aq)) dh)
 (ay (fE (yY<|Zfa (dP (tM hr) sa (bb (t:=aT) (bu (gx hr) rfl T.gm Ek (aN 9 aq)) ga) (bb (t:=aT) (bu (gx hr) rfl T.gm Ek (aN 10 aq)) ga)<|nomark _)<|Ze9<|yZ<|uZ<|aO (ACal.cods<|Zna T) hr<|ap 3<|ap 4<|ap 7 aJ)
  (aS<|bJ iT)
  fB)
 (aS<|bJ<|Zn1 (gX<|gz (Znk T D1 D2 BK) (hr.mono<|by decide) rfl (cR (pv 1)<|ap 3<|ap 4<|ap 5<|ap 7 aJ))<|ZnY<|zj (qN hr) qg (bb (t:=aT) (bu (gx hr) rfl T.gm Ek (aw (bU<|aN 3<|aN 4<|aN 5 aq) aq)) ga) (ae 6)<|nomark _)))))))))))))),?_⟩
  refine⟨_,rfl,a,ns,rfl,hS,hlen,λp c H' hp hP hs=>?_⟩;exact Zj1 (n:=9) hP (λt ht=>hs _ _<|hT t ht) rfl rfl (λH' q=>k H' q) hl
end
end My
local macro_rules | `(tactic| simp! [$ls,*] $[$loc]?) => do let b : Lean.TSyntaxArray ``Lean.Parser.Tactic.simpLemma ← (("L2.lF L2.lE L2.pI L2.oV L2.oU L2.pz L2.pj L2.pq L2.lU L2.oN L2.oD L2.np L2.oE L2.oC L2.nk L2.nT L2.dN L2.fU L2.iP L2.iO L2.jK L2.jJ L2.jI L2.jH L2.jG L2.jF L2.nj L2.ni L2.lT L2.lM L2.lS L2.lR L2.lQ L2.lP L2.lN L2.lO L2.ph L2.mY L2.ng L2.pf L2.pg L2.mW L2.mX L2.m8 L2.pe L2.pb L2.pc L2.oo L2.om L2.on L2.nh L2.oM L2.oK L2.oJ L2.lL L2.lK L2.ny L2.nv L2.nD L2.nz L2.bD L2.oS L2.oO L2.nH L2.iK L2.pA L2.nu L2.nX L2.nY L2.lJ L2.lG L2.iI L2.fw L2.lZ L2.lY L2.lX L2.lW L2.lV L2.mT L2.mS L2.mR L2.lH L2.jv L2.pE L2.pF L2.pH L2.pG L2.mO L2.mM L2.pC L2.pB L2.oT L2.mL L2.mK L2.oI L2.oz L2.oy L2.mj L2.mf L2.me L2.mi L2.mh L2.l4 L2.oa L2.n6 L2.n8 L2.mJ L2.mI L2.mH L2.mG L2.mF L2.mE L2.mD L2.mC L2.mB L2.md L2.ma L2.l9 L2.l8 L2.kX L2.kW L2.oY L2.oX L2.oW L2.oq L2.mV L2.mU L2.o9 L2.o7 L2.o6 L2.mz L2.my L2.ot L2.lq L2.lr L2.lp L2.lm L2.lu L2.o5 L2.oZ L2.mZ L2.lg L2.le L2.lh L2.lj L2.lf L2.mQ L2.mP L2.nW L2.nV L2.nU L2.mv L2.mr L2.lD L2.lC L2.lB L2.lA L2.lz L2.oF L2.oH L2.oG L2.ow L2.ou L2.lw L2.nR L2.nQ L2.nO L2.kO L2.kP L2.kR L2.kQ L2.nI L2.nJ L2.nF L2.nE L2.nL L2.nN L2.nM L2.og L2.oi L2.oj L2.oh L2.oR L2.oQ L2.ox L2.l7 L2.l6 L2.l5 L2.pw L2.gv L2.li L2.mx L2.mq L2.mo L2.mw L2.ml L2.oB L2.oA L2.iJ Tw.kl Tw.kj Tw.ki Tw.kh Tw.kg Tw.kc Tw.ka Tw.j9 Tw.j8 L2.jz L2.nq L2.nZ L2.kz L2.Tr.of_some L2.Tr.bind_assoc L2.Tr.draw_bind List.cons_append List.nil_append List.replicate_succ List.replicate_zero List.length_cons List.length_nil L2.Re.val_d L2.Re.val_own L2.blk L2.iN List.map_cons List.map_nil List.getElem?_cons_zero List.getElem?_cons_succ Option.getD_some Nat.reduceAdd Nat.reduceLeDiff List.isEmpty_cons".splitOn " ").toArray.map fun s => Lean.mkIdent s.toName).mapM fun i => `(Lean.Parser.Tactic.simpLemma| $i:ident); `(tactic| simp only [$b,*, $ls,*] $[$loc]?)
namespace My
open L2 Tw
def uN(h:s.Ok):iB [.d s.d]=.ret (.d<|.tuple<|bh (-s.depth)<|s.top+1):=by
 have:=h.t0;have:=h.d0;have:=h.td;have hr:qC (-s.depth) (s.top+1)=true:=by
  unfold qC;rw[eC (by omega)<|by omega,eC (by omega)<|by omega]
  simp;omega
 simp![iB,jv hr]
def uP(s:Shp)(y f:Int):ji [.d s.d,.d<|.int y,.d<|.int f]=.ret (.d<|.int<|s.nx y f):=by simp![ji,Shp.nx]
def yA(h:s.Ok){x:Int}(hx:nb 20 x):jn [.d s.d,.d<|.int x]=.ret (.d<|.int<|s.fin x):=by
 have f1:=aB (gK h.back)<|by decide
 have f2:=aB h.late<|by decide
 have f3:=aB hx<|by decide
 have f4:=aB (gK hx)<|by decide
 by_cases hp:x>0
 ·simp![jn,DE hp,f1,f3,Shp.fin,DD hp]
 ·simp![jn,DG hp,f2,f4,Shp.fin,DF hp]
def Zlh(h:s.Ok){x:Int}(hx:nb 20 x)(hy:nb 20 y):qS [.d s.d,.d<|.int x,.d<|.int y]=.ret (.d<|.int<|s.ord x y):=by
 have f1:=aB h.piece<|by decide
 have f2:=aB (gJ hy hx)<|by decide
 by_cases hp:y<=x
 ·simp![qS,DE hp,Shp.ord,DD hp]
 ·simp![qS,DG hp,f1,f2,Shp.ord,DF hp]
def yB(h:s.Ok){f:Int}(hy:nb 20 y)(hf:nb 40 f):jp [.d s.d,.d<|.int y,.d<|.int f]=.ret (.d<|.int<|s.day y f):=by
 have hd:nb 7 s.depth:=by have:=h.t0;have:=h.d0;have:=h.td;exact bc (by show -128<_;omega)<|by show _<128;omega
 have hn:nb 50 (s.nx y f):=by unfold Shp.nx dD;exact kL (aM (gK hd)<|by decide)<|aM (gJ hy hf)<|by decide
 have f1:=aB h.keep<|by decide
 have f2:=aB hn<|by decide
 have f3:=aB (gK hn)<|by decide
 have f4:=aB h.lack<|by decide
 have f5:=aB h.lost<|by decide
 have f6:=aB (gJ hn<|gJ hy hf)<|by decide
 have e:=uP s y f;by_cases hp:s.nx y f>0
 ·simp![jp,e,DE hp,f1,f2,f5,f6,Shp.day,DD hp]
 ·simp![jp,e,DG hp,f3,f4,f5,f6,Shp.day,DF hp]
def Zlq(h:s.Ok):uj [.d s.d]=.ret (.own<|(s.row s.fin).map PyData.int):=by
 have:=h.t0;have:=h.d0;have:=h.td;have hs:small (bh (-s.depth)<|s.top+1).length=true:=bD<|by rw[cB];omega
 have e:aX (bP (aj 0) xm<|blk 1 [0] [.d s.d]) (bh (-s.depth)<|s.top+1)=.ret ((s.row s.fin).map PyData.int):=by
  refine Eq.trans (ZcU (f:=λx=>.int<|s.fin x) λz h1 h2=>?_) ?_
  ·have e1:=yA h (x:=z) (bc (by show -1048576<_;omega)<|by show _<1048576;omega)
   simp![xm,e1]
  ·unfold Shp.row Shp.n;rw[Av]
   rfl
 simp![uj,uN h,hs]at e ⊢;simp![e]
def ZjR(l:Du):(l.map PyData.int).length=l.length:=v9 ..
def Zk9(h:s.Ok){day:Du}(hd:DayB day)(y1:-s.depth<=y)(y2:y<=s.top){b:Nat}(hA:Bd s b A){sc:Int}(hs:nb b sc)(hb:b<=5000) :
  tX [.d s.d,.d<|tI day,.d<|.int y,.d<|lI<|s.row A,.d<|.int sc]=.ret (.d<|.int<|s.wg day y A sc):=by
 have:=h.t0;have:=h.d0;have:=h.td;have hy:nb 20 y:=bc (by show -1048576<_;omega)<|by show _<1048576;omega
 apply pR;simp![tX,tI,lI];refine cY (n:=0) (n':=0) (P:=λo=>∃J1 J2 J3:Sl,o=.next [.d s.d,.d<|.tuple<|day.map PyData.int,.d<|.int y,.d<|.list<|(s.row A).map PyData.int,.d<|.int sc,.d<|.int<|s.wg day y A sc,J1,J2,J3]) ?_ (by decide) ?_
 ·refine iQ (n:=0) (λpre ρ=>∃J1 J2 J3:Sl,ρ=[.d s.d,.d<|.tuple<|day.map PyData.int,.d<|.int y,.d<|.list<|(s.row A).map PyData.int,.d<|.int sc,.d<|.int<|s.wg day y A sc-ws (λf=>sc*s.day y f+A (s.nx y f)) pre.length (day.drop pre.length),J1,J2,J3]) ⟨.un,.un,.un,?_⟩ (by simp) ?_ ?_
  ·have:s.wg day y A sc-ws (λf=>sc*s.day y f+A (s.nx y f)) 0 day=0:=by unfold Shp.wg;omega
   simp only[AK,Bp,this]
  ·rintro pre x post ρ e ⟨J1,J2,J3,rfl⟩;obtain⟨w,hw,rfl⟩:=rp e;rw[Ak]at hw;obtain⟨v,hv,rfl⟩:=AN.mp hw;refine⟨_,rfl,?_⟩;have hl:pre.length<day.length:=(Ad.mp hv).1;have hlen:=hd.len;have hf:nb 40 (pre.length:Int):=bc (by show -1099511627776<_;omega) (by show _<1099511627776;omega)
   have e1:=uP s y pre.length;have e2:=yB h hy hf;have n1:=cF s y pre.length;have n2:=cE h y2<|show(0:Int)<=pre.length by omega
   have e3:=ZhP (f:=A) n1 n2;have v1:nb 30 v:=hd.nb v<|AD hv;have b1:=bM hs<|fR h hy hf;have f1:=aB hs<|by omega
   have f2:=aB (fR h hy hf)<|by decide
   have f3:=aB v1<|by decide
   have f4:=aB (bX b1<|hA _ n1 n2)<|by omega
   simp![Zde,e1,e2,e3,f1,f2,f3,f4];have ed:day.drop pre.length=v::day.drop (pre.length+1):=by rw[Ax hl];congr 1;exact(Ad.mp hv).2
   have el:(pre++[PyData.tuple [PyData.int pre.length,PyData.int v]]).length=pre.length+1:=by simp
   have ee:s.wg day y A sc-ws (λf=>sc*s.day y f+A (s.nx y f)) pre.length (day.drop pre.length)+v*(sc*s.day y pre.length+A (s.nx y pre.length)) =
     s.wg day y A sc-ws (λf=>sc*s.day y f+A (s.nx y f)) (pre++[PyData.tuple [PyData.int pre.length,PyData.int v]]).length (day.drop (pre++[PyData.tuple [PyData.int pre.length,PyData.int v]]).length):=by rw[el,ed,ws];omega
   rw[ee];exact cp ⟨_,rfl,_,_,_,rfl⟩
  ·rintro ρ ⟨J1,J2,J3,rfl⟩;refine⟨J1,J2,J3,?_⟩;rw[jB,ZjR,AS,ws,B5]
 ·rintro _ ⟨J1,J2,J3,rfl⟩;simp![A5];exact cp rfl
def Zll(h:s.Ok){day:Du}(hd:DayB day){b:Nat}(hA:Bd s b A){sc:Int}(hs:nb b sc)(hb:b<=5000) :
  t5 [.d s.d,.d<|tI day,.d<|lI<|s.row A,.d<|.int sc]=.ret (.own<|(s.row<|s.sm day A sc).map PyData.int):=by
 have:=h.t0;have:=h.d0;have:=h.td;have f1:=aB hs<|by omega
 have f2:=aB (iZ hd)<|by decide
 have f3:=aB (bM hs<|iZ hd)<|by omega
 have f4:=aB h.piece<|by decide
 have f5:=aB (bM (bM hs<|iZ hd) h.piece)<|by omega
 have es:bz cJ [tI day]=.ret (.int day.sum):=fw day;have hsm:small (bh (-s.depth)<|s.top+1).length=true:=bD<|by rw[cB];omega
 have e:aX (bP (aj 0) wV<|blk 1 [0,1,2,3,4] [.d s.d,.d<|tI day,.d<|lI<|s.row A,.d<|.int sc,.d<|.int<|sc*day.sum]) (bh (-s.depth)<|s.top+1)=.ret ((s.row<|s.sm day A sc).map PyData.int):=by
  refine Eq.trans (ZcU (f:=λx=>.int<|s.sm day A sc x) λz h1 h2=>?_) ?_
  ·have e1:=Zk9 h hd (y:=z) (by omega) (by omega) hA hs hb
   have hz:nb 20 z:=bc (by show -1048576<_;omega)<|by show _<1048576;omega
   have f6:=aB hz<|by decide
   simp![wV,e1,f3,f4,f5,f6]
   rfl
  ·unfold Shp.row Shp.n;rw[Av]
   rfl
 simp![t5,uN h,hsm,es,f1,f2]at e ⊢;simp![e]
def Zny{xs:Dt}{v:ES}(h:xs[xs.length-1]?=some v):ba xs (-1)=some v:=by
 have hl:xs≠[]:=λe=>by subst e;cases h
 have hp:0<xs.length:=CF.mpr hl;obtain⟨k,hk⟩:=Nat.exists_eq_succ_of_ne_zero<|AZ hp;unfold ba b7;have e0:(-1:Int)+(xs.length:Int)=(k:Int):=by rw[hk];show(-1:Int)+((k:Int)+1)=k;rw[BV,Int.add_assoc];exact Int.add_zero _
 have e:((-1:Int)+(xs.length:Int)).toNat=xs.length-1:=by rw[e0,hk];exact AO k
 rw[DF<|by decide,DD<|by omega]
 show xs[((-1:Int)+(xs.length:Int)).toNat]?=some v;rw[e];exact h
def fk(g:Int->Int)(top K P x:Int):ES:=.tuple [.int<|cst g top K P x,.int<|lvl g top K x]
def ZhZ{F:Int->ES}:((List.range (hi-lo).toNat).map λ(i:Nat)=>F<|hi-1-i).reverse=(aF lo (hi-lo).toNat).map F:=by
 unfold aF;rw[Av];apply Co;intro i;by_cases hi':i<(hi-lo).toNat
 ·rw[Bw<|by simpa using hi',v9,Bq,Ak,Ak,A3<|by omega,A3 hi']
  show some (F<|hi-1-(((hi-lo).toNat-1-i:Nat):Int))=some (F<|lo+(i:Int));congr 2;omega
 ·rw[Bx<|by simpa using hi',Bx<|by simpa using hi']
def Zlv(h:s.Ok){low:Int}(hl:low<=s.top)(hl0:-1000<=low){g:Int->Int}{b:Nat}(hg:∀x,low<=x->x<=s.top->nb b (g x)){sc:Int}(hs:nb b sc)(hK:0<=sc*s.start)(hb:b<=3000) :
  ur [.d s.d,.d<|.int low,.d<|lI<|(aF low (s.top+1-low).toNat).map g,.d<|.int sc]=.ret (.own<|(aF low (s.top+1-low).toNat).map<|fk g s.top (sc*s.start)<|sc*s.piece):=by
 have:=h.t0;have:=h.d0;have:=h.td;have hn:0<(s.top+1-low).toNat:=by omega
 have hlen:(((aF low (s.top+1-low).toNat).map g).map PyData.int).length=(s.top+1-low).toNat:=by rw[v9,v9,c5]
 have hat:∀x,low<=x->x<=s.top->(((aF low (s.top+1-low).toNat).map g).map PyData.int)[(x-low).toNat]?=some (.int<|g x):=λx h1 h2=>by
  unfold aF;rw[Av,Av,Ak,A3<|by omega]
  show some (PyData.int<|g<|low+((x-low).toNat:Int))=_;congr 3;omega
 have hlast:ba (((aF low (s.top+1-low).toNat).map g).map PyData.int) (-1)=some (.int<|g s.top):=Zny (by
  rw[hlen];have:=hat s.top hl<|AC _;have e:(s.top-low).toNat=(s.top+1-low).toNat-1:=by
   obtain⟨k,hk⟩:=Bl<|Int.sub_nonneg_of_le hl;have hk2:s.top+1-low=((k+1:Nat):Int):=by omega
   rw[hk,hk2]
   rfl
  rw[e]at this;exact this)
 have r1:eD low=true:=eC (by omega)<|by omega
 have r2:eD (s.top+1)=true:=eC (by omega)<|by omega
 have f1:=aB hs<|by omega
 have f2:=aB h.start<|by decide
 have f3:=aB h.piece<|by decide
 have f4:=aB (bM hs h.piece)<|by omega
 apply pR;simp![ur,lI,hlast,uM r1 r2];refine cY (n:=0) (n':=0) (P:=λo=>∃J5 J6 J7 J8 J9:Sl,o=.next [.d s.d,.d<|.int low,.d<|.list<|((aF low (s.top+1-low).toNat).map g).map PyData.int,.d<|.int sc,.own<|(List.range (s.top+1-low).toNat).map λ(i:Nat)=>fk g s.top (sc*s.start) (sc*s.piece)<|s.top+1-1-i,J5,J6,J7,J8,J9]) ?_ (by decide) ?_
 ·refine iQ (n:=0) (λpre ρ=>∃J6 J7 J8 J9:Sl,ρ=[.d s.d,.d<|.int low,.d<|.list<|((aF low (s.top+1-low).toNat).map g).map PyData.int,.d<|.int sc,.own<|(List.range pre.length).map λ(i:Nat)=>fk g s.top (sc*s.start) (sc*s.piece)<|s.top+1-1-i,.d<|.tuple [.int (bst g s.top<|pre.length-1).1,.int (bst g s.top<|pre.length-1).2],J6,J7,J8,J9]) ⟨.un,.un,.un,.un,rfl⟩ (by simp) ?_ ?_
  ·rintro pre x post ρ e ⟨J6,J7,J8,J9,rfl⟩;obtain⟨rfl,hpre⟩:=ZhV e;refine⟨_,rfl,?_⟩;generalize hk:pre.length=k at hpre ⊢;have hx1:low<=s.top+1-1-(k:Int):=by omega
   have hx2:s.top+1-1-(k:Int)<=s.top:=by omega
   have ha:ba (((aF low (s.top+1-low).toNat).map g).map PyData.int) (s.top+1-1-(k:Int)-low)=some (.int<|g<|s.top+1-1-(k:Int)):=gy (by omega)<|hat _ hx1 hx2
   have hxn:nb 20 (s.top+1-1-(k:Int)):=bc (by show -1048576<_;omega)<|by show _<1048576;omega
   have f5:=aB hxn<|by decide
   have hsm:small (((List.range k).map λ(i:Nat)=>fk g s.top (sc*s.start) (sc*s.piece)<|s.top+1-1-i).length+1)=true:=bD<|by rw[v9,Bq];omega
   have el:(pre++[PyData.int<|s.top+1-1-(k:Int)]).length=k+1:=by rw[Aq,hk];rfl
   have m1:bz iw [.tuple [.int<|g<|s.top+1-1-(k:Int),.int<|s.top+1-1-(k:Int)],.tuple [.int<|sc*s.start+(bst g s.top<|k-1).1,.int (bst g s.top<|k-1).2]]=.ret (.tuple [.int (pck g s.top (sc*s.start)<|s.top+1-1-(k:Int)).1,.int (pck g s.top (sc*s.start)<|s.top+1-1-(k:Int)).2]):=by
    rw[iJ];cases k with
    | zero =>
     have ex:s.top+1-1-((0:Nat):Int)=s.top:=by simp
     rw[ex,xz,DF];show ¬ (sc*s.start+g s.top<g s.top\/sc*s.start+g s.top=g s.top/\s.top<s.top);omega
    | succ n =>
     have ex:s.top+1-1-((n+1:Nat):Int)=s.top-((n+1:Nat):Int):=by omega
     rw[ex,xA,Nat.add_sub_cancel];have hb:=(uW g s.top n).1;by_cases hc:sc*s.start+(bst g s.top n).1<g (s.top-((n+1:Nat):Int))
     ·rw[DD<|.inl hc,DD hc]
     ·rw[DF<|by omega,DF hc]
   have m2:bz iw [.tuple [.int<|g<|s.top+1-1-(k:Int),.int<|s.top+1-1-(k:Int)],.tuple [.int (bst g s.top<|k-1).1,.int (bst g s.top<|k-1).2]]=.ret (.tuple [.int (bst g s.top k).1,.int (bst g s.top k).2]):=by
    rw[iJ];cases k with
    | zero =>
     have ex:s.top+1-1-((0:Nat):Int)=s.top:=by simp
     rw[ex,DF]
     ·rfl
     ·show ¬ (g s.top<g s.top\/g s.top=g s.top/\s.top<s.top);omega
    | succ n =>
     have ex:s.top+1-1-((n+1:Nat):Int)=s.top-((n+1:Nat):Int):=by omega
     rw[ex,Nat.add_sub_cancel];have hb:=(uW g s.top n).1;rw[bst];by_cases hc:(bst g s.top n).1<g (s.top-((n+1:Nat):Int))
     ·rw[DD<|.inl hc,DD hc]
     ·rw[DF<|by omega,DF hc]
   simp![Zdj,ha,m1,m2,f1,f2,f3,f4,f5,hsm];rw[el,List.range_succ,BE];exact cp ⟨_,rfl,_,_,_,_,rfl⟩
  ·rintro ρ ⟨J6,J7,J8,J9,rfl⟩;rw[AQ,cB];exact⟨_,J6,J7,J8,J9,rfl⟩
 ·rintro _ ⟨J5,J6,J7,J8,J9,rfl⟩;simp![A5];rw[ZhZ];exact cp rfl
def Zlw(h:s.Ok){g:Int->Int}{b:Nat}(hg:Bd s b g){sc:Int}(hs:nb b sc)(h0:0<=sc)(hb:b<=3000) :
  ut [.d s.d,.d<|lI<|s.row g,.d<|.int sc]=.ret (.own<|(aF (-s.depth) s.n).map<|fk g s.top (sc*s.start)<|sc*s.piece):=by
 have:=h.t0;have:=h.d0;have:=h.td;have e:=Zlv h (low:=-s.depth) (by omega) (by omega) (λx h1 h2=>hg x h1 h2) hs (Ci h0 h.start0) hb
 simp![ut];unfold Shp.row Shp.n;rw[e];simp![A5]
def Zlo(hb:nb 8000 b):uo [.d<|.int a,.d<|.int b]=.ret (.d<|.int (Nat.gcd a.natAbs b.natAbs:Nat)):=by
 have key:=euclid (p:=vU) (s:=x8) (E:=λa b=>[.d<|.int a,.d<|.int b]) (λa b=>by
  simp![vU];by_cases h:b=0
  ·subst h;rfl
  ·rw[DE h];congr 1;simp[h]) (λa b h=>by
  have h':(b:Int)≠0:=by omega
  simp![x8,nr h',ZdO]) 8000 83999 a.natAbs b.natAbs hb
 have e:2*8000+1+83999=100000:=rfl;rw[e]at key;simp![uo,Zfu,key]
def Zd7{t:Int}(h0:b≠0)(hb:nb 7000 b):kU [.d<|.int t,.d<|.int b]=.ret (.d<|br t b):=by
 have e:=Zlo (a:=t) (b:=b)<|aM hb<|by decide
 have e0:(b==0)=false:=D4.mpr h0;have hd:=Gc.rz (t:=t) h0;have hf:=aB (Zeu (t:=t) hb h0)<|by decide
 unfold br Gc.bS Gc.bO;by_cases hn:b<0
 ·have ed:Gc.den t b=-((Nat.gcd t.natAbs b.natAbs:Nat):Int):=by unfold Gc.den Gc.iH;rw[DD hn]
  rw[ed]at hd hf ⊢;simp![kU,e0,e,DE hn,rn hd hf]
 ·have ed:Gc.den t b=((Nat.gcd t.natAbs b.natAbs:Nat):Int):=by unfold Gc.den Gc.iH;rw[DF hn]
  rw[ed]at hd hf ⊢;simp![kU,e0,e,DG hn,rn hd hf]
theorem ZeI{g:Int->Int}{top K P:Int}:∀l:Du,aX (bP (bB<|aK (aj 0)<|aK (aj 1) bx) sU [.un,.un]) (l.map<|fk g top K P)=.ret ((l.map<|cst g top K P).map PyData.int)
 | []=>rfl
 | x::l=>by
  have ih:=ZeI (g:=g) (top:=top) (K:=K) (P:=P) l;have e0:bP (bB<|aK (aj 0)<|aK (aj 1) bx) sU [.un,.un] (fk g top K P x)=.ret (.int<|cst g top K P x):=by simp![sU,fk]
  rw[Af,aX,e0,Tr.ret_bind,ih]
  rfl
theorem ZdY{g:Int->Int}{top K P B:Int}(hB:B≠0)(hn:nb 7000 B):∀l:Du,aX (bP (bB<|aK (aj 0)<|aK (aj 1) bx) sV [.un,.un,.d<|.int B]) (l.map<|fk g top K P)=.ret (l.map λx=>jC (cst g top K P x) B<|lvl g top K x)
 | []=>rfl
 | x::l=>by
  have ih:=ZdY (g:=g) (top:=top) (K:=K) (P:=P) hB hn l;have e0:bP (bB<|aK (aj 0)<|aK (aj 1) bx) sV [.un,.un,.d<|.int B] (fk g top K P x)=.ret (jC (cst g top K P x) B<|lvl g top K x):=by
   have e2:=Zd7 (t:=cst g top K P x) hB hn;simp![sV,fk,e2]
   rfl
  rw[Af,aX,e0,Tr.ret_bind,ih]
  rfl
def Zlm(h:s.Ok){fs:EQ Du}(hf:∀l∈fs,DayB l)(hl:fs.length<=6):t6 [.d s.d,.d<|fD fs]=.ret (.d<|.tuple<|s.tab fs):=by
 have Fm:∀k,∀l∈fs.drop k,DayB l:=λk l hl=>hf l<|B9 hl;have hR:∀k,Bd s 1900 (s.bk<|fs.drop k).1/\nb 1900 (s.bk<|fs.drop k).2:=λk=>by
  obtain⟨h1,h2⟩:=pN h<|Fm k;have:(fs.drop k).length<=6:=by rw[Bi];omega
  exact⟨λx a b=>aM (h1 x a b)<|by omega,aM h2<|by omega⟩
 have hsc:∀k,0<(s.bk<|fs.drop k).2:=λk=>Ze0<|Fm k;apply pR;simp![t6,Zlq h,iG];refine cY (n:=0) (n':=0) (P:=λo=>∃J3 J4 J5 J6 J7:Sl,o=.next [.d s.d,.d<|fD fs,.own (s.tab fs).reverse,J3,J4,J5,J6,J7]) ?_ (by decide) ?_
 ·refine iQ (n:=0) (λpre ρ=>∃J5 J6 J7:Sl,ρ=[.d s.d,.d<|fD fs,.own (s.tab<|fs.drop<|fs.length-pre.length).reverse,.d<|lI<|s.row (s.bk<|fs.drop<|fs.length-pre.length).1,.d<|.int (s.bk<|fs.drop<|fs.length-pre.length).2,J5,J6,J7]) ⟨.un,.un,.un,?_⟩ (by simp) ?_ ?_
  ·rw[AK,Nat.sub_zero,AS]
   rfl
  ·rintro pre x post ρ e ⟨J5,J6,J7,rfl⟩;obtain⟨d,rfl,Fc,hdr⟩:=Zh0 e;refine⟨_,rfl,?_⟩;have hdd:DayB d:=Fm (fs.length-(pre.length+1)) d (by rw[hdr];simp)
   obtain⟨k1,k2⟩:=hR<|fs.length-pre.length;have k3:=hsc<|fs.length-pre.length;have el:(pre++[tI d]).length=pre.length+1:=by simp
   rw[el,hdr];have htl:(s.tab<|fs.drop<|fs.length-pre.length).reverse.length<=6:=by rw[AQ,ZaJ,Bi];omega
   generalize hR':fs.drop (fs.length-pre.length)=R at *;have e1:=Zll h hdd k1 k2<|by decide
   have b1:=ZaY h hdd k1 k2;have b2:=bM k2<|iZ hdd;have f1:=aB k2<|by decide
   have f2:=aB (iZ hdd)<|by decide
   have hpos:=BR k3 hdd.pos;have e2:=Zlw h (b:=1900+151) b1 (aM b2<|by decide) (BU hpos)<|by decide
   have hsm:small ((aF (-s.depth) s.n).map<|fk (s.sm d (s.bk R).1 (s.bk R).2) s.top ((s.bk R).2*d.sum*s.start)<|(s.bk R).2*d.sum*s.piece).length=true:=bD (by rw[v9,c5];have:=h.n_eq;have:=h.td;omega)
   have hsm2:small ((s.tab R).reverse.length+1)=true:=bD<|by omega
   unfold lI at e1 e2;simp![Zdg,lI,e1,ZgP,f1,f2,e2,hsm,ZeI,ZdY (Int.ne_of_gt hpos)<|aM b2<|by decide,hsm2]
   rw[Shp.tab,BD];exact cp ⟨_,rfl,_,_,_,rfl⟩
  ·rintro ρ ⟨J5,J6,J7,rfl⟩;rw[AQ,v9,B3,Bp];exact Exists.intro _<|Exists.intro _ ⟨J5,J6,J7,rfl⟩
 ·rintro _ ⟨J3,J4,J5,J6,J7,rfl⟩;simp![List.reverse_reverse];exact cp rfl
def bn(ds:EQ (EQ Du)):ES:=.tuple<|ds.map fD
def sml{n:Nat}(h7:s.n<=7)(h:n<=s.n*s.n):n<=100:=by have:s.n*s.n<=7*7:=Bn h7 h7;omega
def Zle{day:EQ Du}(hd:DdB day):um [.d<|fD day]=.ret (.d<|.int<|aQ day):=by
 have hs:small (day.map tI).length=true:=bD (by rw[v9];have:=hd.len;omega)
 have e:aX (bP (aj 0) xn [.un]) (day.map tI)=.ret (day.map λl=>PyData.int l.sum):=dE λl _=>by have e1:bz cJ [tI l]=.ret (.int l.sum):=fw l;simp![xn,e1]
 have e2:bz cJ [.list<|day.map λl=>PyData.int l.sum]=.ret (.int<|aQ day):=by rw[ZdQ];exact iI _
 simp![um,iG,hs,e,e2]
def uO(h:s.Ok)(h7:s.n<=7):gq [.d s.d]=.ret (.own<|s.sts.map am):=by
 have e0:bh (-s.depth) (s.top+1)=(aF (-s.depth) s.n).map PyData.int:=rfl;have hit:bZ (aG<|aD iB<|ah (aa 0) aE) [.d s.d]=.ret ((aF (-s.depth) s.n).map PyData.int):=by simp![uN h,e0]
 have e:=Zda (n:=2) (ix:=[0]) (a:=0) (b:=1) (is1:=uD) (el:=sQ) (f:=PyData.int) (g:=λx=>(aF (-s.depth) s.n).map λy=>am (x,y)) hit (by rw[c5];omega) λx _=>by
  refine Zdb (f:=PyData.int) ?_ (by rw[c5];omega) λy _=>?_
  ·show uD [.d<|.int x,.un,.d s.d]=_;simp![uD,uN h,e0]
  ·show sQ [.d<|.int x,.d<|.int y,.d s.d]=_;simp![sQ]
   rfl
 rw[ZgU]at e;simp![gq,e]
def Zlg(h:s.Ok){q:Pt}(hp:nb 20 (p.1+p.2))(hq:nb 20 (q.1+q.2)):tZ [.d s.d,.d<|am p,.d<|am q]=.ret (.d<|.int<|s.ord (p.1+p.2)<|q.1+q.2):=by have e:=Zlh h hp hq;simp![tZ,ZgQ,e]
def Zlf(h:s.Ok)(h7:s.n<=7)(hp:p∈s.sts):tY [.d s.d,.d<|am p]=.ret (.own<|(s.rzs p).map am):=by
 have ht:=h.t0;have hd0:=h.d0;have htd:=h.td;have hn:=h.n_eq;obtain⟨⟨a1,a2⟩,b1,b2⟩:=(aV h).mp hp;have r1:eD p.1=true:=eC (by omega)<|by omega
 have r2:eD p.2=true:=eC (by omega)<|by omega
 have r3:eD (s.top+1)=true:=eC (by omega)<|by omega
 have e0:∀x:Int,bh x (s.top+1)=(aF x (s.top+1-x).toNat).map PyData.int:=λ_=>rfl;have hit:jM (af (aa 2)<|af (ac aW (aa 4)<|aC<|.int 1) ao) [.d s.d,.d<|am p,.d<|.int p.1,.d<|.int p.2,.d<|.int s.top]=.ret ((aF p.1 (s.top+1-p.1).toNat).map PyData.int):=by simp![uM r1 r3,e0]
 have e:=Zda (n:=2) (ix:=[3,4]) (a:=0) (b:=1) (is1:=uE) (el:=sR) (f:=PyData.int) (g:=λx=>(aF p.2 (s.top+1-p.2).toNat).map λy=>am (x,y)) hit (by rw[c5];omega) λx _=>by
  refine Zdb (f:=PyData.int) ?_ (by rw[c5];omega) λy _=>?_
  ·show uE [.d<|.int x,.un,.d<|.int p.2,.d<|.int s.top]=_;simp![uE,uM r2 r3,e0]
  ·show sR [.d<|.int x,.d<|.int y,.d<|.int p.2,.d<|.int s.top]=_;simp![sR]
   rfl
 rw[ZhE]at e;have eg:bB (aK (aj 2)<|aK (aj 3) bx) (am p) [.d s.d,.d<|am p,.un,.un,.un]=some [.d s.d,.d<|am p,.d<|.int p.1,.d<|.int p.2,.un]:=rfl;simp![tY,eg,e]
def Zlr(h:s.Ok)(h7:s.n<=7):ui [.d s.d]=.ret (.d<|pD<|s.tb λa b=>s.fin a+s.fin b):=by
 have hit:bZ (aG<|aD gq<|ah (aa 0) aE) [.d s.d]=.ret (s.sts.map am):=by simp![uO h h7]
 have e:=yI (n:=2) (ix:=[0]) (g:=bB<|aK (aj 0)<|aK (aj 1) bx) (kx:=xk) (i:=xj) (f:=am) (kv:=λp:Pt=>(kS p,PyData.int<|s.fin p.1+s.fin p.2)) hit (Ap (sml h7<|by rw[dX];exact Ag _)<|by decide) (we h) (qY<|jZ s) λp hp=>by
  obtain⟨⟨a1,a2⟩,b1,b2⟩:=(aV h).mp hp;show gS _ _ [.d<|.int p.1,.d<|.int p.2,.d s.d]=_;refine yD ?_ ?_
  ·simp![xk]
   rfl
  ·simp![xj,yA h<|dF h a1 a2,yA h<|dF h b1 b2]
 simp![ui,e]
 rfl
def Zk8(h:s.Ok){day:EQ Du}(hd:DdB day){F:Int->Int->Int}{b:Nat}(hF:jU s b F)(hc:nb b c)(hb:b<=3000){q:Pt}(hq:q∈s.sts) :
  tW [.d s.d,.d<|fD day,.d<|am q,.d<|pD<|s.tb F,.d<|.int c]=.ret (.d<|.int<|s.w2 day F c q.1 q.2):=by
 obtain⟨⟨a1,a2⟩,b1,b2⟩:=(aV h).mp hq;have hlen:=hd.len;have eg:bB (aK (aj 5)<|aK (aj 6) bx) (am q) [.d s.d,.d<|fD day,.d<|am q,.d<|pD<|s.tb F,.d<|.int c,.un,.un,.un,.un,.un,.un,.un,.un,.un]=some [.d s.d,.d<|fD day,.d<|am q,.d<|pD<|s.tb F,.d<|.int c,.d<|.int q.1,.d<|.int q.2,.un,.un,.un,.un,.un,.un,.un]:=rfl;have hq1:=dF h a1 a2;have hq2:=dF h b1 b2;have gbs:∀i j:Nat,i<=3->j<=3->nb (b+102) (s.c2 F c q.1 q.2 i j):=λi j hi hj=>ZeY h hF hc a1 a2 b1 b2 (by omega)<|by omega
 have inner:∀(i:Nat)(line:Du)(T:Int)(Fb E9 Fd Fe:Sl),i<=3->line.length<=3->(∀w∈line,0<=w/\w<=1000) ->
   Al (cI (bB<|aK (aj 10)<|aK (aj 11) bx) xX (eE<|line.map PyData.int) [.d s.d,.d<|fD day,.d<|am q,.d<|pD<|s.tb F,.d<|.int c,.d<|.int q.1,.d<|.int q.2,.d<|.int T,.d<|.int i,.d<|tI line,Fb,E9,Fd,Fe]) 0
    λo=>∃Fb E9 Fd Fe:Sl,o=.next [.d s.d,.d<|fD day,.d<|am q,.d<|pD<|s.tb F,.d<|.int c,.d<|.int q.1,.d<|.int q.2,.d<|.int<|T+ws (s.c2 F c q.1 q.2 i) 0 line,.d<|.int i,.d<|tI line,Fb,E9,Fd,Fe]:=by
  intro i line T Fb E9 Fd Fe hi hl hw;refine iQ (n:=0) (λpre ρ=>∃Fb E9 Fd Fe:Sl,ρ=[.d s.d,.d<|fD day,.d<|am q,.d<|pD<|s.tb F,.d<|.int c,.d<|.int q.1,.d<|.int q.2,.d<|.int<|T+ws (s.c2 F c q.1 q.2 i) 0 line-ws (s.c2 F c q.1 q.2 i) pre.length (line.drop pre.length),.d<|.int i,.d<|tI line,Fb,E9,Fd,Fe]) ⟨Fb,E9,Fd,Fe,?_⟩ (by simp) ?_ ?_
  ·have e:T+ws (s.c2 F c q.1 q.2 i) 0 line-ws (s.c2 F c q.1 q.2 i) 0 line=T:=by omega
   simp only[AK,Bp,e]
  ·rintro pre x post ρ e ⟨Fb,E9,Fd,Fe,rfl⟩;obtain⟨w,hw',rfl⟩:=rp e;rw[Ak]at hw';obtain⟨v,hv,rfl⟩:=AN.mp hw';refine⟨_,rfl,?_⟩;have Fc:pre.length<line.length:=(Ad.mp hv).1;have e1:=yB h hq1 (gr (k:=i)<|by omega)
   have e2:=yB h hq2<|gr (k:=pre.length)<|by omega
   have e3:=uP s q.1 i;have e4:=uP s q.2 pre.length;have e5:=ZaG h (F:=F) (cF s q.1 i) (cE h a2<|show(0:Int)<=i by omega) (cF s q.2 pre.length)<|cE h b2<|show(0:Int)<=pre.length by omega
   have f1:=aB hc<|by omega
   have f2:=aB (bX (fR h hq1<|gr (k:=i)<|by omega)<|fR h hq2<|gr (k:=pre.length)<|by omega)<|by decide
   have f3:=aB (r8<|hw v<|AD hv)<|by decide
   have f4:fit (c*(s.day q.1 i+s.day q.2 pre.length)+F (s.nx q.1 i) (s.nx q.2 pre.length))=true:=aB (gbs i pre.length (by omega)<|by omega)<|by omega
   simp![xX,e1,e2,e3,e4,e5,f1,f2,f3,f4];have ed:line.drop pre.length=v::line.drop (pre.length+1):=by rw[Ax Fc];congr 1;exact(Ad.mp hv).2
   have el:(pre++[PyData.tuple [PyData.int pre.length,PyData.int v]]).length=pre.length+1:=by simp
   have ee:T+ws (s.c2 F c q.1 q.2 i) 0 line-ws (s.c2 F c q.1 q.2 i) pre.length (line.drop pre.length)+v*(c*(s.day q.1 i+s.day q.2 pre.length)+F (s.nx q.1 i) (s.nx q.2 pre.length)) =
     T+ws (s.c2 F c q.1 q.2 i) 0 line-ws (s.c2 F c q.1 q.2 i) (pre++[PyData.tuple [PyData.int pre.length,PyData.int v]]).length (line.drop (pre++[PyData.tuple [PyData.int pre.length,PyData.int v]]).length):=by rw[el,ed,ws];show _=T+_-_;unfold Shp.c2;omega
   rw[ee];exact cp ⟨_,rfl,_,_,_,_,rfl⟩
  ·rintro ρ ⟨Fb,E9,Fd,Fe,rfl⟩;refine⟨Fb,E9,Fd,Fe,?_⟩;rw[jB,v9,AS,ws,B5]
 apply pR;simp![tW,eg,iG];refine cY (n:=0) (n':=0) (P:=λo=>∃J8 J9 Fb E9 Fd Fe:Sl,o=.next [.d s.d,.d<|fD day,.d<|am q,.d<|pD<|s.tb F,.d<|.int c,.d<|.int q.1,.d<|.int q.2,.d<|.int<|s.w2 day F c q.1 q.2,J8,J9,Fb,E9,Fd,Fe]) ?_ (by decide) ?_
 ·refine iQ (n:=0) (λpre ρ=>∃J8 J9 Fb E9 Fd Fe:Sl,ρ=[.d s.d,.d<|fD day,.d<|am q,.d<|pD<|s.tb F,.d<|.int c,.d<|.int q.1,.d<|.int q.2,.d<|.int<|s.w2 day F c q.1 q.2-wss (s.c2 F c q.1 q.2) pre.length (day.drop pre.length),J8,J9,Fb,E9,Fd,Fe]) ⟨.un,.un,.un,.un,.un,.un,?_⟩ (by simp) ?_ ?_
  ·have e:s.w2 day F c q.1 q.2-wss (s.c2 F c q.1 q.2) 0 day=0:=by unfold Shp.w2;omega
   simp only[AK,Bp,e]
  ·rintro pre x post ρ e ⟨J8,J9,Fb,E9,Fd,Fe,rfl⟩;obtain⟨w,hw',rfl⟩:=rp e;rw[Ak]at hw';obtain⟨line,hv,rfl⟩:=AN.mp hw';refine⟨_,rfl,?_⟩;have Fc:pre.length<day.length:=(Ad.mp hv).1;obtain⟨l1,l2⟩:=hd.row line<|AD hv;have ed:day.drop pre.length=line::day.drop (pre.length+1):=by rw[Ax Fc];congr 1;exact(Ad.mp hv).2
   have el:(pre++[PyData.tuple [PyData.int pre.length,tI line]]).length=pre.length+1:=by simp
   simp![Zdd,Zdr];refine rJ (inner pre.length line _ _ _ _ _ (by omega) l1 l2) (Ag _) ?_
   rintro _ ⟨Fb,E9,Fd,Fe,rfl⟩;have ee:s.w2 day F c q.1 q.2-wss (s.c2 F c q.1 q.2) pre.length (day.drop pre.length)+ws (s.c2 F c q.1 q.2 pre.length) 0 line=s.w2 day F c q.1 q.2-wss (s.c2 F c q.1 q.2) (pre++[PyData.tuple [PyData.int pre.length,tI line]]).length (day.drop (pre++[PyData.tuple [PyData.int pre.length,tI line]]).length):=by rw[el,ed,wss];omega
   rw[ee];exact⟨_,rfl,_,_,Fb,E9,Fd,Fe,rfl⟩
  ·rintro ρ ⟨J8,J9,Fb,E9,Fd,Fe,rfl⟩;refine⟨J8,J9,Fb,E9,Fd,Fe,?_⟩;rw[jB,v9,AS,wss,B5]
 ·rintro _ ⟨J8,J9,Fb,E9,Fd,Fe,rfl⟩;simp![A5];exact cp rfl
def Zlx(h:s.Ok)(h7:s.n<=7){day:EQ Du}(hd:DdB day){F:Int->Int->Int}{b:Nat}(hF:jU s b F)(hc:nb b c)(hb:b<=3000) :
  uu [.d s.d,.d<|fD day,.d<|pD<|s.tb F,.d<|.int c]=.ret (.d<|pD<|s.tb<|s.w2 day F c):=by
 have hit:bZ (aG<|aD gq<|ah (aa 0) aE) [.d s.d,.d<|fD day,.d<|pD<|s.tb F,.d<|.int c]=.ret (s.sts.map am):=by simp![uO h h7]
 have e:=yI (n:=1) (ix:=[0,1,2,3]) (g:=aj 0) (kx:=xq) (i:=xp) (f:=am) (kv:=λp:Pt=>(kS p,PyData.int<|s.w2 day F c p.1 p.2)) hit (Ap (sml h7<|by rw[dX];exact Ag _)<|by decide) (we h) (qY<|jZ s) λp hp=>by
  show gS _ _ [.d<|am p,.d s.d,.d<|fD day,.d<|pD<|s.tb F,.d<|.int c]=_;refine yD ?_ ?_
  ·simp![xq]
   rfl
  ·simp![xp,Zk8 h hd hF hc hb hp]
 simp![uu,e]
 rfl
def Zlu(h:s.Ok)(h7:s.n<=7){W:Int->Int->Int}{b:Nat}(hc:nb b c)(hb:b<=3000)(hp:p∈s.sts) :
  uq [.d s.d,.d<|am p,.d<|pD<|s.tb W,.d<|.int c]=.ret (.d<|dm<|s.bp W c p):=by
 obtain⟨⟨a1,a2⟩,b1,b2⟩:=(aV h).mp hp;have Fm:∀q∈s.rzs p,q∈s.sts/\nb 20 (p.1+p.2)/\nb 20 (q.1+q.2):=λq hq=>by have ht:=h.t0;have hd0:=h.d0;have htd:=h.td;obtain⟨⟨q1,q2⟩,q3,q4⟩:=(eM a2 b2).mp hq;exact⟨(aV h).mpr ⟨⟨by omega,q2⟩,by omega,q4⟩,bc (by show -1048576<_;omega)<|by show _<1048576;omega,bc (by show -1048576<_;omega)<|by show _<1048576;omega⟩
 have hsm:small ((s.rzs p).map am).length=true:=bD<|by rw[v9,<- ZgV h hp];exact Ap (List.length_filter_le _ _)<|Ap (sml h7<|by rw[dX];exact Ag _)<|by decide
 have e:aX (bP (aj 0) xo [.un,.d<|.int c,.d<|pD<|s.tb W,.d s.d,.d<|am p]) ((s.rzs p).map am)=.ret ((s.rzs p).map λq=>dm (c*s.ord (p.1+p.2) (q.1+q.2)+W q.1 q.2,kS q)):=dE λq hq=>by
  obtain⟨q0,q1,q2⟩:=Fm q hq;obtain⟨⟨c1,c2⟩,d1,d2⟩:=(aV h).mp q0;have e1:=Zlg h q1 q2;have e2:aL cT (pD<|s.tb W) (am q)=.ret (.int<|W q.1 q.2):=ZaG h c1 c2 d1 d2;have f1:=aB hc<|by omega
  have f2:=aB (tL h q1 q2)<|by decide
  simp![xo,e1,e2,f1,f2]
  rfl
 have e2:(s.rzs p).map (λq=>dm (c*s.ord (p.1+p.2) (q.1+q.2)+W q.1 q.2,kS q))=(s.cand W c p).map dm:=by unfold Shp.cand;rw[Av];rfl
 have hn:s.cand W c p≠[]:=λe=>wL h hp<|Cc.mp e;rw[e2]at e;simp![uq,Zlf h h7 hp,hsm,e,ZkZ hn]
 rfl
def uQ(h:s.Ok)(h7:s.n<=7){ds:EQ (EQ Du)}(hd:∀d∈ds,DdB d)(hl:ds.length<=3):jj [.d s.d,.d<|bn ds]=.ret (.d<|.tuple<|s.dtab ds):=by
 have Fm:∀k,∀d∈ds.drop k,DdB d:=λk d h=>hd d<|B9 h;have it_ddD:cH (bn ds)=.ret (ds.map fD):=rfl;have dlen:∀R:EQ (EQ Du),(s.dtab R).length=R.length:=λR=>by
  induction R with
  |nil=>rfl
  |cons d R ih=>rw[Shp.dtab,Ac,Ac,ih]
 have hsm:small (s.sts.map am).length=true:=bD<|by rw[v9];exact Ap (sml h7<|by rw[dX];exact Ag _)<|by decide
 have Ft:s.sts.length<=100:=sml h7<|by rw[dX];exact Ag _
 apply pR;simp![jj,Zlr h h7,it_ddD];refine cY (n:=0) (n':=0) (P:=λo=>∃J3 J4 J5 J6 J7:Sl,o=.next [.d s.d,.d<|bn ds,.own (s.dtab ds).reverse,J3,J4,J5,J6,J7]) ?_ (by decide) ?_
 ·refine iQ (n:=0) (λpre ρ=>∃J5 J6 J7:Sl,ρ=[.d s.d,.d<|bn ds,.own (s.dtab<|ds.drop<|ds.length-pre.length).reverse,.d<|pD<|s.tb (s.dk<|ds.drop<|ds.length-pre.length).1,.d<|.int (s.dk<|ds.drop<|ds.length-pre.length).2,J5,J6,J7]) ⟨.un,.un,.un,?_⟩ (by simp) ?_ ?_
  ·rw[AK,Nat.sub_zero,AS]
   rfl
  ·rintro pre x post ρ e ⟨J5,J6,J7,rfl⟩;obtain⟨d,rfl,Fc,hdr⟩:=ZhY e;refine⟨_,rfl,?_⟩;have hdd:DdB d:=Fm (ds.length-(pre.length+1)) d (by rw[hdr];simp)
   obtain⟨k1,k2,k3⟩:=eG h<|Fm<|ds.length-pre.length;have el:(pre++[fD d]).length=pre.length+1:=by simp
   rw[el,hdr];have hrl:(ds.drop<|ds.length-pre.length).length<=3:=by rw[Bi];omega
   generalize ds.drop (ds.length-pre.length)=R at *;have hpos:=BR k3 hdd.pos;have n2:nb 600 ((s.dk R).2*aQ d):=aM (bM k2<|j7 hdd)<|by omega
   have e1:=Zlx h h7 hdd k1 k2<|by omega
   have e2:=Zle hdd;have f1:=aB k2<|by omega
   have f2:=aB (j7 hdd)<|by decide
   have e3:aX (bP (aj 0) wY [.un,.d s.d,.d<|pD<|s.tb<|s.w2 d (s.dk R).1 (s.dk R).2,.d<|.int<|(s.dk R).2*aQ d]) (s.sts.map am)=.ret (s.sts.map λp=>dm<|s.pick d R p):=dE λp hp=>by
    have e:=Zlu h h7 (W:=s.w2 d (s.dk R).1 (s.dk R).2) n2 (by decide) hp
    simp![wY,e]
    rfl
   have hsm3:small (s.sts.map λp=>dm<|s.pick d R p).length=true:=bD<|by rw[v9];omega
   have e4:aX (bP (bB<|aK (aj 0)<|aK (aj 1) bx) sT [.un,.un,.d<|.int<|(s.dk R).2*aQ d]) (s.sts.map λp=>dm<|s.pick d R p)=.ret (s.ddayL d R):=dE λp _=>by
    have es:=Zd7 (t:=(s.pick d R p).1) (b:=(s.dk R).2*aQ d) (Int.ne_of_gt hpos)<|aM n2<|by decide
    show sT [.d<|.int (s.pick d R p).1,.d<|.tuple<|(s.pick d R p).2.map PyData.int,.d<|.int<|(s.dk R).2*aQ d]=_;simp![sT,es]
   have hsm4:small ((s.dtab R).reverse.length+1)=true:=bD<|by rw[AQ,dlen];omega
   have hit:∀τ:Dz,vm (aG<|aD gq<|ah (aa 0) aE) (aa 7) [.d s.d,.d<|bn ds,.own<|(s.dtab R).reverse++[.tuple<|s.ddayL d R],.d<|pD<|s.tb (s.dk R).1,.d<|.int<|(s.dk R).2*aQ d,.d<|fD d,.d<|pD<|s.tb<|s.w2 d (s.dk R).1 (s.dk R).2,.d<|.list<|s.sts.map λp=>dm<|s.pick d R p]=.ret (s.sts.map λp=>.tuple [am p,dm<|s.pick d R p]):=λ_=>by simp![uO h h7,Zab]
   have e5:=yI (n:=3) (ix:=[]) (g:=bB<|aK (aj 0)<|aK (bB<|aK (aj 1)<|aK (aj 2) bx) bx) (kx:=wX) (i:=wW) (kv:=λp:Pt=>(kS p,PyData.int (s.pick d R p).1)) (hit []) (Ap Ft<|by decide) (we h) (qY<|jZ s) λp hp=>by
    show gS _ _ [.d<|am p,.d<|.int (s.pick d R p).1,.d<|.tuple<|(s.pick d R p).2.map PyData.int]=_;refine yD ?_ ?_
    ·simp![wX]
     rfl
    ·simp![wW]
   simp![Zdf,e1,e2,f1,f2,uO h h7,hsm,e3,hsm3,e4,hsm4,e5];rw[Shp.dtab,BD];exact cp ⟨_,rfl,_,_,_,rfl⟩
  ·rintro ρ ⟨J5,J6,J7,rfl⟩;rw[AQ,v9,B3,Bp];exact Exists.intro _<|Exists.intro _ ⟨J5,J6,J7,rfl⟩
 ·rintro _ ⟨J3,J4,J5,J6,J7,rfl⟩;simp![List.reverse_reverse];exact cp rfl
def tU{z:Int}(h:nb k z):nb k (dD z 0):=by unfold dD;exact kL (show(0:Int).natAbs<2^k from Bh<|by simp) h
def ZlJ(s:Shp)(y f:Int):s.keep*dD (s.nx y f) 0+s.lack*dD (0-s.nx y f) 0+s.lost*(s.nx y f-y+f)=s.day y f:=by
 unfold Shp.day;have e:s.nx y f-y+f=s.nx y f-(y-f):=by omega
 rw[e];generalize s.nx y f=z;unfold dD;by_cases hz:z>0
 ·rw[DF<|by omega,DD<|by omega,DD hz,BN,Int.add_zero]
 ·rw[DF hz];by_cases h0:z=0
  ·subst h0;simp
  ·rw[DD<|by omega,DF<|by omega,BN,Int.zero_add]
   have e2:0-z=-z:=by omega
   rw[e2]
def ZkK(s:Shp)(x:Int):s.late*dD (0-x) 0-s.back*dD x 0=s.fin x:=by
 unfold Shp.fin dD;by_cases hx:x>0
 ·rw[DD<|by omega,DF<|by omega,DD hx,BN,Int.neg_mul]
  omega
 ·rw[DF hx];by_cases h0:x=0
  ·subst h0;simp
  ·rw[DF<|by omega,DD<|by omega,BN,B5]
   have e2:0-x=-x:=by omega
   rw[e2]
def Zji(s:Shp)(y f:Int):dD (y-f) (0-s.depth)=s.nx y f:=by
 unfold Shp.nx;have e:0-s.depth=-s.depth:=by omega
 rw[e]
def Zeb(h:s.Ok){x:Int}(x1:-s.depth<=x)(x2:x<=s.top):qW [.d s.d,.d<|.int x]=.ret (.d<|.int<|s.fin x):=by
 have:=h.t0;have:=h.d0;have:=h.td;have n1:nb 20 (0-x):=bc (by show -1048576<_;omega)<|by show _<1048576;omega
 have n2:nb 20 x:=bc (by show -1048576<_;omega)<|by show _<1048576;omega
 have g1:=aB h.late<|by decide
 have g2:=aB (tU n1)<|by decide
 have g3:=aB h.back<|by decide
 have g4:=aB (tU n2)<|by decide
 simp![qW,g1,g2,g3,g4,ZkK]
def yz{t:Int}(hb:0<b)(nB:nb 7000 b):jl [.d<|.int t,.d<|.int b]=.ret (.d<|br t b):=by
 obtain⟨z,rfl⟩:∃z:Nat,b=(z:Int):=⟨b.toNat,by omega⟩
 have key:=euclid (p:=vT) (s:=xZ) (E:=λa b'=>[.d<|.int t,.d<|.int z,.d<|.int a,.d<|.int b']) (λa b=>by
  simp![vT];by_cases h:b=0
  ·subst h;rfl
  ·rw[DE h];congr 1;simp;omega) (λa b h=>by
  have h':(b:Int)≠0:=by omega
  simp![xZ,nr h',ZdO]) 8000 83999 t.natAbs z<|Ao (show z<2^7000 from by unfold nb at nB;rwa [Int.natAbs_natCast]at nB)<|CD (by decide)<|by decide
 have e:2*8000+1+83999=100000:=rfl;rw[e]at key;have hd:=Gc.rz (t:=t) (b:=(z:Int))<|by omega
 have hf:=aB (Zeu (t:=t) nB<|by omega)<|by decide
 have ed:Gc.den t (z:Int)=((Nat.gcd t.natAbs z:Nat):Int):=by unfold Gc.den Gc.iH;rw[DF<|by omega,Int.natAbs_natCast]
 unfold br Gc.bS Gc.bO;rw[ed]at hd hf ⊢;simp![jl,Zfu,key,rn hd hf]
def im(p:Pt):aL ak (am p) (.int 0)=.ret (.int p.1):=rfl
def il(p:Pt):aL ak (am p) (.int 1)=.ret (.int p.2):=rfl
def Zea(h:s.Ok){f:Nat}(y1:-s.depth<=y)(y2:y<=s.top)(f1:f<=16):qV [.d s.d,.d<|.int y,.d<|.int f]=.ret (.d<|.tuple [.int<|s.day y f,.int<|s.nx y f]):=by
 have:=h.t0;have:=h.d0;have:=h.td;have n1:=cF s y f;have n2:=cE h y2<|show(0:Int)<=f by omega
 have hn:nb 20 (s.nx y f):=bc (by show -1048576<_;omega)<|by show _<1048576;omega
 have hn2:nb 20 (0-s.nx y f):=bc (by show -1048576<_;omega)<|by show _<1048576;omega
 have hn3:nb 20 (s.nx y f-y+f):=bc (by show -1048576<_;omega)<|by show _<1048576;omega
 have g1:=aB h.keep<|by decide
 have g2:=aB (tU hn)<|by decide
 have g3:=aB h.lack<|by decide
 have g4:=aB (tU hn2)<|by decide
 have g5:=aB h.lost<|by decide
 have g6:=aB hn3<|by decide
 simp![qV,Zji,g1,g2,g3,g4,g5,g6,ZlJ]
def Zlj(h:s.Ok){q:Pt}(hp:p∈s.sts)(hq:q∈s.rzs p):qU [.d s.d,.d<|am p,.d<|am q]=.ret (.d<|.int<|s.ord (p.1+p.2)<|q.1+q.2):=by
 have:=h.t0;have:=h.d0;have:=h.td;obtain⟨⟨a1,a2⟩,b1,b2⟩:=(aV h).mp hp;obtain⟨⟨q1,q2⟩,q3,q4⟩:=(eM a2 b2).mp hq;have em:q.1-p.1+q.2-p.2=q.1+q.2-(p.1+p.2):=by omega
 have n1:nb 20 (q.1+q.2-(p.1+p.2)):=bc (by show -1048576<_;omega)<|by show _<1048576;omega
 have g2:=aB (show nb 20 (1:Int)from bc (by decide)<|by decide)<|by decide
 have g3:=aB (show nb 20 (0:Int)from bc (by decide)<|by decide)<|by decide
 have g4:=aB h.piece<|by decide
 have g5:=aB n1<|by decide
 have g6:=aB (bX h.start<|bM h.piece n1)<|by decide
 unfold Shp.ord;by_cases hc:q.1+q.2-(p.1+p.2)>0
 ·rw[DF<|by omega]
  simp![qU,im,il,em,DE hc,D8,g2,g4,g5,g6,CZ]
 ·rw[DD<|by omega]
  simp![qU,im,il,em,DG hc,g3,g4,g5,g6,BN,Bz,D6]
structure Wide(wd:Nat)(day:List Du):Prop where
 r:zJ wd day
 w1:1<=wd
 w3:wd<=3
 l1:1<=day.length
 l3:day.length<=3
def Zd3{day:EQ Du}(hw:Wide wd day):qT [.d<|fD day]=.ret (.d<|fD<|tr wd day):=by
 have l1:=hw.l1;have hc:∃l r,day=l::r:=by
  cases day with
  |nil=>exact absurd l1 (by decide)
  |cons l r=>exact⟨l,r,rfl⟩
 obtain⟨l0,r0,e0⟩:=hc;have h0:l0.length=wd:=hw.r l0<|by rw[e0];exact Aj ..
 have i0:aL ak (fD day) (.int 0)=.ret (tI l0):=by
  rw[e0];show Tr.of (ba (tI l0::r0.map tI) 0)=_;rw[fU]
  rfl
 have ln:bz dL [tI l0]=.ret (.int wd):=by rw[ZjP,h0]
 have rr:fe [.int (wd:Int)]=.ret (bh 0 wd):=gR<|eC (by omega) (by have:=hw.w3;omega)
 have ei:bh 0 wd=(List.range wd).map λk:Nat=>PyData.int (k:Int):=by
  have e0:((wd:Int)-0).toNat=wd:=by omega
  unfold bh aF;rw[e0,Av];refine Be λk _=>?_;show PyData.int (0+(k:Int))=_;rw[Int.zero_add]
 have hs:small ((List.range wd).map λk:Nat=>PyData.int (k:Int)).length=true:=bD (by rw[v9,Bq];have:=hw.w3;omega)
 have FA:small (day.map tI).length=true:=bD (by rw[v9];have:=hw.l3;omega)
 have em:aX (bP (aj 0) w8 [.un,.d<|fD day]) ((List.range wd).map λk:Nat=>PyData.int (k:Int))=.ret ((List.range wd).map λj=>tI<|day.map λl=>l[j]?.getD 0):=dE λj hj=>by
  have hj:=BJ.mp hj;have e1:aX (bP (aj 0) xa [.un,.d<|.int j]) (day.map tI)=.ret (day.map λl=>PyData.int<|l[j]?.getD 0):=dE λl hl=>by
   have hjl:j<l.length:=by rw[hw.r l hl];exact hj
   have ix:aL ak (tI l) (.int j)=.ret (.int<|l[j]?.getD 0):=by
    show Tr.of (ba (l.map PyData.int) (j:Int))=_;rw[gy (by omega)<|by rw[AO,Ak,Ah hjl];rfl,Ah hjl]
    rfl
   simp![xa,ix]
  have e2:(day.map λl=>PyData.int<|l[j]?.getD 0)=(day.map λl=>l[j]?.getD 0).map PyData.int:=by rw[Av];rfl
  simp![w8,iG,FA,e1,e2]
  rfl
 have ed:PyData.tuple ((List.range wd).map λj=>tI<|day.map λl=>l[j]?.getD 0)=fD (tr wd day):=by
  unfold fD tr;rw[Av]
  rfl
 simp![qT,i0,ln,rr,ei,hs,em,ed]
def Zef{ds:EQ (EQ Du)}(hd:∀d∈ds,d.length<=3)(hl:ds.length<=3):qX [.d<|bn ds]=.ret (.d<|fD<|aln ds):=by
 have hs:small (ds.map fD).length=true:=bD<|by rw[v9];omega
 have em:aX (bP (aj 0) xh [.un]) (ds.map fD)=.ret (ds.map λd=>tI<|d.map List.sum):=dE λd hm=>by
  have FA:small (d.map tI).length=true:=bD (by rw[v9];have:=hd d hm;omega)
  have e1:aX (bP (aj 0) xi [.un]) (d.map tI)=.ret (d.map λl=>PyData.int l.sum):=dE λl _=>by have e1:bz cJ [tI l]=.ret (.int l.sum):=fw l;simp![xi,e1]
  have e2:(d.map λl=>PyData.int l.sum)=(d.map List.sum).map PyData.int:=by rw[Av];rfl
  simp![xh,iG,FA,e1,e2]
  rfl
 have id:cH (bn ds)=.ret (ds.map fD):=rfl;have ed:PyData.tuple (ds.map λd=>tI<|d.map List.sum)=fD (aln ds):=by
  unfold fD aln;rw[Av]
  rfl
 simp![qX,id,hs,em,ed]
def Zd8{d:Int}{l:Nat}(ha:nb k a)(hb:nb l b)(hc:nb k c)(hd:nb l d)(h:k+l<=8000):jm [.d<|.tuple [.int a,.int b],.d<|.tuple [.int c,.int d]]=.ret (.d<|.bool<|decide (a*d<=c*b)):=by
 have f1:=aB ha<|by omega
 have f2:=aB hb<|by omega
 have f3:=aB hc<|by omega
 have f4:=aB hd<|by omega
 simp![jm,f1,f2,f3,f4]
def ZhS(h:s.Ok):bh (-s.depth) (s.top+1)=(aF (-s.depth) s.n).map PyData.int:=by have e:(s.top+1 - -s.depth).toNat=s.n:=rfl;unfold bh;rw[e]
def dZ(s:Shp)(x:Int):EQ Pt:=(aF (-s.depth) s.n).map λy=>(x,y)
def ZgT(s:Shp):s.sts=(aF (-s.depth) s.n).flatMap (dZ s):=rfl
def bf(s:Shp)(es:EQ E2):EQ (Du×ES):=(s.sts.zip es).map λx=>(kS x.1,.tuple [.int x.2.t,.int x.2.b])
def pJ{es:EQ E2}(hl:es.length=s.sts.length):(bf s es).map (·.1)=s.sts.map kS:=by
 unfold bf;rw[Av];have q:(s.sts.zip es).map (λx=>kS x.1)=((s.sts.zip es).map Prod.fst).map kS:=by rw[Av];rfl
 show(s.sts.zip es).map (λx=>kS x.1)=_;rw[q,List.map_fst_zip<|by omega]
def ZeH{es:EQ E2}(hl:es.length=s.sts.length):((bf s es).map (·.1)).Nodup:=by rw[pJ hl];exact qY<|jZ s
def yL(h:s.Ok){es:EQ E2}(hl:es.length=s.sts.length):bf s es≠[]:=λe=>by
 have q:=DI List.length<|pJ hl;rw[e,v9 (as:=s.sts),dX]at q;have hn:=h.n_eq;have:=h.t0;have:=h.d0;have:=Bn (show 1<=s.n by omega)<|show 1<=s.n by omega
 have q:0=s.n*s.n:=q;omega
def ZeG(h:s.Ok){es:EQ E2}(hl:es.length=s.sts.length):yf (pD<|bf s es)=.ret (s.sts.map am):=by rw[Zk3<|yL h hl];have:=DI (List.map λk:Du=>PyData.tuple<|k.map PyData.int)<|pJ hl;rw[Av,Av]at this;exact DI Tr.ret this
def Zee(h:s.Ok)(h7:s.n<=7){es:EQ E2}{P:EQ (EQ E2)}(hl:es.length=s.sts.length):iC [.d s.d,.d<|.tuple (.tuple (es.map E2.d)::P.map λes=>.tuple<|es.map E2.d)]=.ret (.d<|pD<|bf s es):=by
 generalize hT:PyData.tuple (.tuple (es.map E2.d)::P.map λes=>.tuple<|es.map E2.d)=T;have ht:=h.t0;have hd0:=h.d0;have htd:=h.td;have hn:=h.n_eq;have Ft:s.sts.length<=100:=sml h7<|by rw[dX];exact Ag _
 have f1:fit s.top=true:=aB (dF h (by omega)<|AC _)<|by decide
 have f2:fit s.depth=true:=aB (bc (k:=20) (by show -1048576<_;omega)<|by show _<1048576;omega)<|by decide
 have rr:ky [.int<|0-s.depth,.int<|s.top+1]=.ret ((aF (-s.depth) s.n).map PyData.int):=by rw[uM (eC (by omega)<|by omega)<|eC (by omega)<|by omega,Int.zero_sub,ZhS h]
 have hs:small ((aF (-s.depth) s.n).map PyData.int).length=true:=bD<|by rw[v9,c5];omega
 have inner:∀x:Int,aX (bP (aj 0) xf [.un,.d<|.int x]) ((aF (-s.depth) s.n).map PyData.int)=.ret ((dZ s x).map am):=λx=>by
  have e:(dZ s x).map am=(aF (-s.depth) s.n).map λy=>am (x,y):=by unfold dZ;rw[Av];rfl
  rw[e];refine dE λy _=>?_;simp -implicitDefEqProofs only[xf,lF,lE,pI,oV,oU,pz,pj,pq,lU,oN,oD,np,oE,oC,nk,nT,dN,fU,iP,iO,jK,jJ,jI,jH,jG,jF,nj,ni,lT,lM,lS,lR,lQ,lP,lN,lO,ph,mY,ng,pf,pg,mW,mX,m8,pe,pb,pc,oo,om,on,nh,oM,oK,oJ,lL,lK,ny,nv,nD,nz,bD,oS,oO,nH,iK,pA,nu,nX,nY,lJ,lG,iI,fw,lZ,lY,lX,lW,lV,mT,mS,mR,lH,jv,pE,pF,pH,pG,mO,mM,pC,pB,oT,mL,mK,oI,oz,oy,mj,mf,me,mi,mh,l4,oa,n6,n8,mJ,mI,mH,mG,mF,mE,mD,mC,mB,md,ma,l9,l8,kX,kW,oY,oX,oW,oq,mV,mU,o9,o7,o6,mz,my,ot,lq,lr,lp,lm,lu,o5,oZ,mZ,lg,le,lh,lj,lf,mQ,mP,nW,nV,nU,mv,mr,lD,lC,lB,lA,lz,oF,oH,oG,ow,ou,lw,nR,nQ,nO,kO,kP,kR,kQ,nI,nJ,nF,nE,nL,nN,nM,og,oi,oj,oh,oR,oQ,ox,l7,l6,l5,pw,gv,li,mx,mq,mo,mw,ml,oB,oA,iJ,Tw.kl,Tw.kj,Tw.ki,Tw.kh,Tw.kg,Tw.kc,Tw.ka,Tw.j9,Tw.j8,jz,nq,nZ,kz,Tr.of_some,Tr.bind_assoc,Tr.draw_bind,Bc,Br,AB,BQ,Ac,AK,Re.val_d,Re.val_own,blk,iN,Af,Bo,BF,AH,B6,Nat.reduceAdd,Nat.reduceLeDiff,A5]
  rfl
 have key:=uK (g:=aj 3) (s:=x5) (r:=Re.d<|.bool false) (mk:=PyData.int) (full:=aF (-s.depth) s.n) (λ_=>true)
  (λpre ρ=>∃J3:Sl,ρ=[.d s.d,.d T,.own<|(pre.flatMap<|dZ s).map am,J3]) (λpre x post ρ e hI=>by
   obtain⟨J3,rfl⟩:=hI;refine⟨_,rfl,.inl ⟨rfl,?_⟩⟩;have hpre:pre.length<=s.n:=by have:=DI List.length e;rw[c5,Aq]at this;omega
   have hlen:((pre.flatMap<|dZ s).map am).length+((dZ s x).map am).length<=1000:=by
    have e1:(pre.flatMap<|dZ s).length=pre.length*s.n:=by
     rw[CG];have:(pre.map λx=>(dZ s x).length)=pre.map λ_=>s.n:=Be λx _=>by unfold dZ;rw[v9,c5]
     rw[this,CY,Cy]
    rw[v9,v9,e1];have e2:(dZ s x).length=s.n:=by unfold dZ;rw[v9,c5]
    rw[e2];have:pre.length*s.n<=7*7:=Bn (by omega) h7
    omega
   have hsm:small (((pre.flatMap<|dZ s).map am).length+((dZ s x).map am).length)=true:=bD (by omega)
   simp -implicitDefEqProofs only[x5,lF,lE,pI,oV,oU,pz,pj,pq,lU,oN,oD,np,oE,oC,nk,nT,dN,fU,iP,iO,jK,jJ,jI,jH,jG,jF,nj,ni,lT,lM,lS,lR,lQ,lP,lN,lO,ph,mY,ng,pf,pg,mW,mX,m8,pe,pb,pc,oo,om,on,nh,oM,oK,oJ,lL,lK,ny,nv,nD,nz,bD,oS,oO,nH,iK,pA,nu,nX,nY,lJ,lG,iI,fw,lZ,lY,lX,lW,lV,mT,mS,mR,lH,jv,pE,pF,pH,pG,mO,mM,pC,pB,oT,mL,mK,oI,oz,oy,mj,mf,me,mi,mh,l4,oa,n6,n8,mJ,mI,mH,mG,mF,mE,mD,mC,mB,md,ma,l9,l8,kX,kW,oY,oX,oW,oq,mV,mU,o9,o7,o6,mz,my,ot,lq,lr,lp,lm,lu,o5,oZ,mZ,lg,le,lh,lj,lf,mQ,mP,nW,nV,nU,mv,mr,lD,lC,lB,lA,lz,oF,oH,oG,ow,ou,lw,nR,nQ,nO,kO,kP,kR,kQ,nI,nJ,nF,nE,nL,nN,nM,og,oi,oj,oh,oR,oQ,ox,l7,l6,l5,pw,gv,li,mx,mq,mo,mw,ml,oB,oA,iJ,Tw.kl,Tw.kj,Tw.ki,Tw.kh,Tw.kg,Tw.kc,Tw.ka,Tw.j9,Tw.j8,jz,nq,nZ,kz,Tr.of_some,Tr.bind_assoc,Tr.draw_bind,Bc,Br,AB,BQ,Ac,AK,Re.val_d,Re.val_own,blk,iN,Af,Bo,BF,AH,B6,Nat.reduceAdd,Nat.reduceLeDiff,A5,f1,f2,rr,hs,inner];rw[jz hsm];refine⟨_,rfl,.d<|.int x,?_⟩;rw[CH,BE];simp only[CS,List.flatMap_nil,AI]
   rfl)
  (xs:=aF (-s.depth) s.n) (pre:=[]) (ρ:=[.d s.d,.d T,.own [],.un]) rfl ⟨_,rfl⟩
 rcases key with ⟨_,ρ2,k2,J3,rfl⟩|⟨k1,_⟩
 ·rw[<- ZgT]at k2;have ll:((s.sts.map am).length:Int)=(s.sts.length:Nat):=by rw[v9]
  have r1:fe [.int (s.sts.length:Int)]=.ret (bh 0 s.sts.length):=gR<|eC (by omega)<|by omega
  have ei:bh 0 s.sts.length=(List.range s.sts.length).map λk:Nat=>PyData.int (k:Int):=by
   have e0:((s.sts.length:Int)-0).toNat=s.sts.length:=by omega
   unfold bh aF;rw[e0,Av];refine Be λk _=>?_;show PyData.int (0+(k:Int))=_;rw[Int.zero_add]
  have FA:small ((List.range s.sts.length).map λk:Nat=>PyData.int (k:Int)).length=true:=bD<|by rw[v9,Bq];omega
  have em:aX (bP (aj 0) xc [.un,.d<|.list<|s.sts.map am,.d T]) ((List.range s.sts.length).map λk:Nat=>PyData.int (k:Int))=.ret ((bf s es).map eF):=by
   have q:(bf s es).map eF=(List.range s.sts.length).map λk:Nat=>match (s.sts.zip es)[k]? with|some x=>eF (kS x.1,.tuple [.int x.2.t,.int x.2.b])|none=>.none:=by
    unfold bf;rw[Av];apply Co;intro k;rw[Ak,Ak];by_cases hk:k<s.sts.length
    ·have ez:(s.sts.zip es)[k]?=some (s.sts[k],es[k]):=by rw[Ch];exact⟨Ah hk,Ah<|by omega⟩
     rw[A3 hk,ez];show _=some (match (s.sts.zip es)[k]? with|some x=>_|none=>_)
     rw[ez]
     rfl
    ·rw[Bx<|by rw[List.length_zip];omega,Bx<|by rw[Bq];omega]
     rfl
   rw[q];refine dE λk hk=>?_;have hk:=BJ.mp hk;have ez:(s.sts.zip es)[k]?=some (s.sts[k],es[k]):=by rw[Ch];exact⟨Ah hk,Ah<|by omega⟩
   have a1:ba (s.sts.map am) (k:Int)=some (am s.sts[k]):=gy (by omega)<|by rw[AO,Ak,Ah hk];rfl
   have a2:aL ak T (.int 0)=.ret (.tuple<|es.map E2.d):=by
    rw[<- hT];show Tr.of (ba (_::_) 0)=_;rw[fU]
    rfl
   have a3:ba (es.map E2.d) (k:Int)=some es[k].d:=gy (by omega)<|by rw[AO,Ak,Ah<|by omega];rfl
   have a4:aL ak es[k].d (.int 0)=.ret (.tuple [.int es[k].t,.int es[k].b]):=rfl;rw[ez];simp -implicitDefEqProofs only[xc,lF,lE,pI,oV,oU,pz,pj,pq,lU,oN,oD,np,oE,oC,nk,nT,dN,fU,iP,iO,jK,jJ,jI,jH,jG,jF,nj,ni,lT,lM,lS,lR,lQ,lP,lN,lO,ph,mY,ng,pf,pg,mW,mX,m8,pe,pb,pc,oo,om,on,nh,oM,oK,oJ,lL,lK,ny,nv,nD,nz,bD,oS,oO,nH,iK,pA,nu,nX,nY,lJ,lG,iI,fw,lZ,lY,lX,lW,lV,mT,mS,mR,lH,jv,pE,pF,pH,pG,mO,mM,pC,pB,oT,mL,mK,oI,oz,oy,mj,mf,me,mi,mh,l4,oa,n6,n8,mJ,mI,mH,mG,mF,mE,mD,mC,mB,md,ma,l9,l8,kX,kW,oY,oX,oW,oq,mV,mU,o9,o7,o6,mz,my,ot,lq,lr,lp,lm,lu,o5,oZ,mZ,lg,le,lh,lj,lf,mQ,mP,nW,nV,nU,mv,mr,lD,lC,lB,lA,lz,oF,oH,oG,ow,ou,lw,nR,nQ,nO,kO,kP,kR,kQ,nI,nJ,nF,nE,nL,nN,nM,og,oi,oj,oh,oR,oQ,ox,l7,l6,l5,pw,gv,li,mx,mq,mo,mw,ml,oB,oA,iJ,Tw.kl,Tw.kj,Tw.ki,Tw.kh,Tw.kg,Tw.kc,Tw.ka,Tw.j9,Tw.j8,jz,nq,nZ,kz,Tr.of_some,Tr.bind_assoc,Tr.draw_bind,Bc,Br,AB,BQ,Ac,AK,Re.val_d,Re.val_own,blk,iN,Af,Bo,BF,AH,B6,Nat.reduceAdd,Nat.reduceLeDiff,A5,a1,a2,a3,a4]
   rfl
  have ed:bz rA [.list<|(bf s es).map eF]=.ret (pD<|bf s es):=Zk4 (yL h hl)<|ZeH hl;simp -implicitDefEqProofs only[iC,lF,lE,pI,oV,oU,pz,pj,pq,lU,oN,oD,np,oE,oC,nk,nT,dN,fU,iP,iO,jK,jJ,jI,jH,jG,jF,nj,ni,lT,lM,lS,lR,lQ,lP,lN,lO,ph,mY,ng,pf,pg,mW,mX,m8,pe,pb,pc,oo,om,on,nh,oM,oK,oJ,lL,lK,ny,nv,nD,nz,bD,oS,oO,nH,iK,pA,nu,nX,nY,lJ,lG,iI,fw,lZ,lY,lX,lW,lV,mT,mS,mR,lH,jv,pE,pF,pH,pG,mO,mM,pC,pB,oT,mL,mK,oI,oz,oy,mj,mf,me,mi,mh,l4,oa,n6,n8,mJ,mI,mH,mG,mF,mE,mD,mC,mB,md,ma,l9,l8,kX,kW,oY,oX,oW,oq,mV,mU,o9,o7,o6,mz,my,ot,lq,lr,lp,lm,lu,o5,oZ,mZ,lg,le,lh,lj,lf,mQ,mP,nW,nV,nU,mv,mr,lD,lC,lB,lA,lz,oF,oH,oG,ow,ou,lw,nR,nQ,nO,kO,kP,kR,kQ,nI,nJ,nF,nE,nL,nN,nM,og,oi,oj,oh,oR,oQ,ox,l7,l6,l5,pw,gv,li,mx,mq,mo,mw,ml,oB,oA,iJ,Tw.kl,Tw.kj,Tw.ki,Tw.kh,Tw.kg,Tw.kc,Tw.ka,Tw.j9,Tw.j8,jz,nq,nZ,kz,Tr.of_some,Tr.bind_assoc,Tr.draw_bind,Bc,Br,AB,BQ,Ac,AK,Re.val_d,Re.val_own,blk,iN,Af,Bo,BF,AH,B6,Nat.reduceAdd,Nat.reduceLeDiff,A5,f1,f2,rr,k2,ll,r1,ei,FA,em,ed]
 ·rw[B7.mpr λ_ _=>rfl]at k1;cases k1
def ZkJ{f:Int->EQ α}{n:Nat}(hf:∀x,(f x).length=n)(lo:Int){i j:Nat}(hi:i<m)(hj:j<n):((aF lo m).flatMap f)[i*n+j]?=(f<|lo+i)[j]?:=by
 obtain⟨k,rfl⟩:∃k,m=i+(1+k):=⟨m-i-1,by omega⟩
 have e1:aF (lo+i) 1=[lo+i]:=by show [lo+(i:Int)+((0:Nat):Int)]=[lo+i];congr 1;omega
 have hl:((aF lo i).flatMap f).length=i*n:=by rw[CG];have:((aF lo i).map λx=>(f x).length)=(aF lo i).map λ_=>n:=Be λx _=>hf x;rw[this,CY,Cy,c5]
 rw[wR,CH,wR,e1,Az<|by omega,hl,show i*n+j-i*n=j by omega,CH]
 show(f (lo+i)++[]++_)[j]?=_;rw[AI,At<|by rw[hf];exact hj]
def ZgW(h:s.Ok)(hp:p∈s.sts):s.sts[(p.1+s.depth).toNat*s.n+(p.2+s.depth).toNat]?=some p:=by
 obtain⟨⟨a1,a2⟩,b1,b2⟩:=(aV h).mp hp;have hn:=h.n_eq;have e:s.sts=(aF (-s.depth) s.n).flatMap λx=>(aF (-s.depth) s.n).map λy=>(x,y):=rfl;rw[e,ZkJ (n:=s.n) (λx=>by rw[v9,c5]) (-s.depth) (by omega)<|by omega]
 unfold aF;rw[Ak,Ak,A3<|by omega]
 show some (-s.depth+((p.1+s.depth).toNat:Int),-s.depth+((p.2+s.depth).toNat:Int))=some p;congr 1;exact Prod.ext (show -s.depth+((p.1+s.depth).toNat:Int)=p.1 by omega)<|show -s.depth+((p.2+s.depth).toNat:Int)=p.2 by omega
def Zln(h:s.Ok)(h7:s.n<=7){P:EQ (EQ E2)}{t:Nat}{es:EQ E2}(ht:P[t]?=some es)(hp:p∈s.sts){e:E2}(he:∀k:Nat,s.sts[k]?=some p->es[k]?=some e) :
  ud [.d s.d,.d<|.tuple<|P.map λes=>.tuple<|es.map E2.d,.d<|.int t,.d<|am p]=.ret (.d<|am e.q):=by
 obtain⟨⟨a1,a2⟩,b1,b2⟩:=(aV h).mp hp;have hn:=h.n_eq;have ht0:=h.t0;have hd0:=h.d0;have htd:=h.td;have f1:fit s.top=true:=aB (dF h (by omega)<|AC _)<|by decide
 have f2:fit s.depth=true:=aB (bc (k:=20) (by show -1048576<_;omega)<|by show _<1048576;omega)<|by decide
 have i1:aL ak (.tuple<|P.map λes=>.tuple<|es.map E2.d) (.int t)=.ret (.tuple<|es.map E2.d):=by
  show Tr.of (ba (P.map λes=>PyData.tuple<|es.map E2.d) (t:Int))=_;rw[gy (by omega)<|by rw[AO,Ak,ht];rfl]
  rfl
 have hk:=he _<|ZgW h hp;have ek:(p.1-(0-s.depth))*(s.top-(0-s.depth)+1)+p.2-(0-s.depth)=(((p.1+s.depth).toNat*s.n+(p.2+s.depth).toNat:Nat):Int):=by
  have e1:((p.1+s.depth).toNat:Int)=p.1+s.depth:=by omega
  have e2:((p.2+s.depth).toNat:Int)=p.2+s.depth:=by omega
  rw[Int.natCast_add,Int.natCast_mul,e1,e2,hn];have e3:p.1-(0-s.depth)=p.1+s.depth:=by omega
  have e4:s.top-(0-s.depth)+1=s.top+s.depth+1:=by omega
  rw[e3,e4];omega
 have i2:ba (es.map E2.d) (((p.1+s.depth).toNat*s.n+(p.2+s.depth).toNat:Nat):Int)=some e.d:=gy (by omega)<|by rw[AO,Ak,hk];rfl
 have i3:aL ak e.d (.int 1)=.ret (am e.q):=rfl;have n1:nb 20 (p.1-(0-s.depth)):=bc (by show -1048576<_;omega)<|by show _<1048576;omega
 have n2:nb 20 (s.top-(0-s.depth)+1):=bc (by show -1048576<_;omega)<|by show _<1048576;omega
 have g1:=aB n1<|by decide
 have g2:=aB n2<|by decide
 simp![ud,im,il,f1,f2,i1,g1,g2,ek,i2,i3]
def Zd9{d:Int}(ha:nb 2000 a)(hb:nb 2000 b)(hc:nb 2000 c)(hd:nb 2000 d)(b0:0<b)(d0:0<d):jk [.d<|.tuple [.int a,.int b],.d<|.tuple [.int c,.int d]]=.ret (.d<|br (a*d+c*b)<|b*d):=by
 have f1:=aB ha<|by decide
 have f2:=aB hb<|by decide
 have f3:=aB hc<|by decide
 have f4:=aB hd<|by decide
 have e:=yz (t:=a*d+c*b) (b:=b*d) (BR b0 d0)<|aM (bM hb hd)<|by decide
 simp![jk,f1,f2,f3,f4,e]
def cj(row:EQ Pt)(n:Int):Int:=row.foldl (λn q=>(n*31+4*q.1+q.2+1).fmod 2147483647) n
noncomputable def fN(n:Int):Int:=((n*n*n).fmod 2147483629).fdiv 7
def xN(s:Shp)(n:Int)(p:Pt)(row:EQ Pt):Pt:=(p.1+(fN<|cj row n).fmod (s.top-p.1+1),p.2+((fN<|cj row n).fdiv 64).fmod (s.top-p.2+1))
def Zjv(h:s.Ok)(n:Int)(hp:p∈s.sts)(row:EQ Pt):xN s n p row∈s.rzs p:=by
 obtain⟨⟨a1,a2⟩,b1,b2⟩:=(aV h).mp hp;have k:∀(x m:Int),0<m->0<=x.fmod m/\x.fmod m<m:=λx m hm=>⟨Int.fmod_nonneg_of_pos _ hm,Int.fmod_lt_of_pos _ hm⟩;obtain⟨c1,c2⟩:=k (fN<|cj row n) (s.top-p.1+1)<|by omega
 obtain⟨d1,d2⟩:=k ((fN<|cj row n).fdiv 64) (s.top-p.2+1)<|by omega
 refine(eM a2 b2).mpr ⟨⟨?_,?_⟩,?_,?_⟩
 ·show p.1<=p.1+_;omega
 ·show p.1+_<=_;omega
 ·show p.2<=p.2+_;omega
 ·show p.2+_<=_;omega
theorem xO:∀(row:EQ Pt)(n:Int),nb 60 n->nb 60 (cj row n)
 | [],_,h=>h
 | q::r,n,_=>xO r _ (by
  have a:=Int.fmod_nonneg_of_pos (n*31+4*q.1+q.2+1) (show(0:Int)<2147483647 by decide)
  have b:=Int.fmod_lt_of_pos (n*31+4*q.1+q.2+1) (show(0:Int)<2147483647 by decide)
  show nb 60<|(n*31+4*q.1+q.2+1).fmod 2147483647;exact bc (by show -1152921504606846976<_;omega)<|by show _<1152921504606846976;omega)
def ZkY{m:Int}(h:nb 60 m):aL gi (.int m) (.int 3)=.ret (.int<|m*m*m):=by
 have h2:m.natAbs<2^64:=Nat.lt_trans h<|by decide
 have e:gi (.int m) (.int 3)=some (.int<|m^3):=by
  show(if (decide ((0:Int)<=3)&&decide ((3:Int)<=1000000)&&decide (m.natAbs<2^64))=true then some (PyData.int<|m^(3:Int).toNat)else none)=_
  rw[DE h2]
  rfl
 show Tr.of (gi (.int m)<|.int 3)=_;rw[e,show m^3=m*m*m from by rw[Int.pow_succ,Int.pow_succ,Int.pow_succ,Int.pow_zero,Int.one_mul]]
 rfl
def Zli(h:s.Ok){n:Int}(hn:nb 60 n)(hp:p∈s.sts){row:EQ Pt}(hl:row.length<=10)(hr:∀q∈row,nb 20 q.1/\nb 20 q.2) :
  uc [.d s.d,.d<|.int n,.d<|am p,.d<|.tuple<|row.map am]=.ret (.d<|am<|xN s n p row):=by
 obtain⟨⟨a1,a2⟩,b1,b2⟩:=(aV h).mp hp;have ht0:=h.t0;have hd0:=h.d0;have htd:=h.td;have key:=uK (g:=bB<|aK (aj 4)<|aK (aj 5) bx) (s:=x4) (r:=Re.d<|.bool false) (mk:=am) (full:=row) (λ_=>true)
  (λpre ρ=>∃J4 J5:Sl,ρ=[.d s.d,.d<|.int<|cj pre n,.d<|am p,.d<|.tuple<|row.map am,J4,J5,.un,.un]) (λpre q post ρ e hI=>by
   obtain⟨J4,J5,rfl⟩:=hI;obtain⟨q1,q2⟩:=hr q (by rw[e];simp)
   refine⟨_,rfl,.inl ⟨rfl,?_⟩⟩;have nm:=xO pre n hn;have f0:=aB nm (by decide)
   have f1:=aB q1 (by decide)
   have f31:fit (31:Int)=true:=rfl;have f4:fit (4:Int)=true:=rfl;have ex:cj (pre++[q]) n=(cj pre n*31+4*q.1+q.2+1).fmod 2147483647:=by unfold cj;rw[CQ];rfl
   have em:aL eh (.int<|cj pre n*31+4*q.1+q.2+1) (.int 2147483647)=.ret (.int<|(cj pre n*31+4*q.1+q.2+1).fmod 2147483647):=nr (by decide)
   simp![x4,f0,f1,f31,f4,em];rw[ex];exact⟨_,rfl,_,_,rfl⟩)
  (xs:=row) (pre:=[]) (ρ:=[.d s.d,.d<|.int n,.d<|am p,.d<|.tuple<|row.map am,.un,.un,.un,.un]) rfl ⟨_,_,rfl⟩
 rcases key with ⟨_,ρ2,k2,J4,J5,rfl⟩|⟨k1,_⟩
 ·have nm:=xO row n hn;have ep:=ZkY nm;have m1:aL eh (.int<|cj row n*cj row n*cj row n) (.int 2147483629)=.ret (.int<|(cj row n*cj row n*cj row n).fmod 2147483629):=nr (by decide)
  have d1:aL fv (.int<|(cj row n*cj row n*cj row n).fmod 2147483629) (.int 7)=.ret (.int<|fN<|cj row n):=rn (by decide) rfl
  have d2:aL fv (.int<|fN<|cj row n) (.int 64)=.ret (.int<|(fN<|cj row n).fdiv 64):=rn (by decide) rfl
  have m2:aL eh (.int<|fN<|cj row n) (.int<|s.top-p.1+1)=.ret (.int<|(fN<|cj row n).fmod<|s.top-p.1+1):=nr<|by omega
  have m3:aL eh (.int<|(fN<|cj row n).fdiv 64) (.int<|s.top-p.2+1)=.ret (.int<|((fN<|cj row n).fdiv 64).fmod<|s.top-p.2+1):=nr<|by omega
  simp![uc,k2,im,il,ep,m1,d1,d2,m2,m3]
  rfl
 ·rw[B7.mpr λ_ _=>rfl]at k1;cases k1
theorem ZaS:∀{l:Du},(∀w∈l,0<=w/\w<=1000)->0<=l.sum/\l.sum<=1000*l.length
 | [],_=>⟨AC _,AC _⟩
 |w::l,h=>by obtain⟨a,b⟩:=ZaS (l:=l) λv hv=>h v<|Ab _ hv;have:=h w<|Aj ..;rw[AU,Ac];omega
def ZlK{day:EQ Du}(hd:DdB day):DayB (day.map List.sum):=by
 have hr:∀n∈day.map List.sum,0<=n/\n<=3000:=λn hn=>by obtain⟨l,hl,rfl⟩:=AM.mp hn;obtain⟨l1,l2⟩:=hd.row l hl;obtain⟨a,b⟩:=ZaS l2;omega
 have hlen:=hd.len;refine⟨by rw[v9];omega,λw hw=>?_,λw hw=>(hr w hw).1,hd.pos⟩
 obtain⟨a,b⟩:=hr w hw;exact bc (by show -1073741824<_;omega)<|by show _<1073741824;omega
def ZlH{day:EQ Du}(hw:Wide wd day)(hd:DdB day):DdB (tr wd day):=by
 refine⟨?_,λl hl=>?_,by rw[j6 hw.r];exact hd.pos⟩
 ·unfold tr;rw[v9,Bq];exact hw.w3
 ·unfold tr at hl;obtain⟨j,hj,rfl⟩:=AM.mp hl;refine⟨by rw[v9];exact hd.len,λw hm=>?_⟩
  obtain⟨l,hl,rfl⟩:=AM.mp hm;have hj:=BJ.mp hj;have hjl:j<l.length:=by rw[hw.r l hl];exact hj
  rw[Ah hjl];exact(hd.row l hl).2 _ (BH hjl)
inductive Trw:List (List Du)->List (List Du)->Prop
 |nil:Trw [] []
 |cons {wd:Nat} {day:List Du} {r r':List (List Du)} (hw:Wide wd day) (ht:Trw r r'):Trw (day::r) (tr wd day::r')
theorem Trw.t:∀{ds ds':EQ (EQ Du)},Trw ds ds'->Trn ds ds'
 |_,_,.nil=>.nil
 |_,_,.cons hw ht=>.cons hw.r ht.t
theorem Trw.dd:∀{ds ds':EQ (EQ Du)},Trw ds ds'->(∀d∈ds,DdB d)->∀d∈ds',DdB d
 |_,_,.nil,_=>nofun
 | _,_,.cons hw ht,h=>λd hm=>by
  rcases Au.mp hm with rfl|hm
  ·exact ZlH hw<|h _<|Aj ..
  ·exact ht.dd (λd hd=>h d<|Ab _ hd) d hm
theorem Trw.len:∀{ds ds':EQ (EQ Du)},Trw ds ds'->ds'.length=ds.length
 |_,_,.nil=>rfl
 |_,_,.cons _ ht=>by rw[Ac,Ac,ht.len]
def rB{ds:EQ (EQ Du)}(h:∀d∈ds,DdB d):∀l∈aln ds,DayB l:=λl hl=>by obtain⟨d,hd,rfl⟩:=AM.mp hl;exact ZlK<|h d hd
def Zd6(h:s.Ok){day:EQ Du}{r:EQ (EQ Du)}(hd:∀d∈day::r,DdB d)(hl:(day::r).length<=3):kA [.d<|fD<|aln (day::r),.d s.d]=.ret (s.tday (day.map List.sum)<|aln r):=by
 have e:=Zlm h (rB hd)<|by unfold aln;rw[v9];omega
 have i0:aL ak (.tuple<|s.tab<|aln (day::r)) (.int 0)=.ret (s.tday (day.map List.sum)<|aln r):=by
  show Tr.of (ba (s.tday (day.map List.sum) (aln r)::s.tab (aln r)) 0)=_;rw[fU]
  rfl
 simp![kA,e,i0]
def Zd5(h:s.Ok){day day':EQ Du}{r r':EQ (EQ Du)}(ht:Trw (day::r) (day'::r'))(hd:∀d∈day::r,DdB d)(hl:(day::r).length<=3) :
  xg [.d s.d,.d<|bn (day::r),.d<|bn (day'::r')]=.ret (.list [s.tday (day.map List.sum)<|aln r,s.tday (day'.map List.sum)<|aln r']):=by
 have Fa:=ht.dd hd;have FE:(day'::r').length<=3:=by rw[ht.len];exact hl
 have a1:=Zef (λd hm=>(hd d hm).len) hl;have a2:=Zef (λd hm=>(Fa d hm).len) FE;have s1:=Zd6 h hd hl;have s2:=Zd6 h Fa FE;have h2:small ([fD<|aln (day::r),fD<|aln (day'::r')]:Dt).length=true:=rfl;have em:aX (bP (aj 0) kA [.un,.d s.d]) [fD<|aln (day::r),fD<|aln (day'::r')]=.ret [s.tday (day.map List.sum)<|aln r,s.tday (day'.map List.sum)<|aln r']:=by
  have q1:bP (aj 0) kA [.un,.d s.d] (fD<|aln (day::r))=.ret (s.tday (day.map List.sum)<|aln r):=by simp![s1]
  have q2:bP (aj 0) kA [.un,.d s.d] (fD<|aln (day'::r'))=.ret (s.tday (day'.map List.sum)<|aln r'):=by simp![s2]
  rw[aX,q1,Tr.ret_bind,aX,q2,Tr.ret_bind,aX]
  rfl
 simp![xg,a1,a2,h2,em]
def wQ(ha:nb 1900 a)(hb:nb 1900 b):Rp (.tuple [.int a,.int b]) 1 4000:=by
 refine dY (qz (l:=[a,b]) (m:=2) (λn hn=>?_)<|Ag _) (Ag _)<|by decide
 simp only[Au,Bb,Ee]at hn;rcases hn with rfl|rfl
 ·exact ha
 ·exact hb
def sw(h:s.Ok)(d:Du)(rest:EQ Du){x:Int}(x1:-s.depth<=x)(x2:x<=s.top):aL ak (s.tday d rest) (.int<|x+s.depth)=.ret (jC ((s.bk (d::rest)).1 x) (s.bk (d::rest)).2 (s.lv d rest x)):=by
 have hn:=h.n_eq;unfold Shp.tday;show Tr.of (ba _<|x+s.depth)=_;have hk:(x+s.depth).toNat<s.n:=by omega
 have ex:-s.depth+((x+s.depth).toNat:Int)=x:=by omega
 have key:ba ((aF (-s.depth) s.n).map λx=>jC ((s.bk (d::rest)).1 x) (s.bk (d::rest)).2 (s.lv d rest x)) (x+s.depth)=some (jC ((s.bk (d::rest)).1 (-s.depth+((x+s.depth).toNat:Int))) (s.bk (d::rest)).2 (s.lv d rest<|-s.depth+((x+s.depth).toNat:Int))):=gy (by omega)<|by rw[Ak];unfold aF;rw[Ak,A3 hk];rfl
 rw[key,ex]
 rfl
def rE(h:s.Ok){day:EQ Du}{r:EQ (EQ Du)}(hp:p∈s.sts):aL cT (pD<|bf s<|s.sts.map<|s.pkE day r) (.tuple [.int p.1,.int p.2])=.ret (br ((s.dk (day::r)).1 p.1 p.2) (s.dk (day::r)).2):=by
 have hz:(p,s.pkE day r p)∈s.sts.zip (s.sts.map<|s.pkE day r):=by
  have:∀l:EQ Pt,p∈l->(p,s.pkE day r p)∈l.zip (l.map<|s.pkE day r):=λl=>by
   induction l with
   |nil=>intro h;cases h
   | cons a l ih =>
    intro h;rw[Af,AV];rcases Au.mp h with rfl|h
    ·exact Aj ..
    ·exact Ab _<|ih h
  exact this _ hp
 exact ZdU (k:=[p.1,p.2]) (ZeH<|v9 ..)<|AM.mpr ⟨_,hz,rfl⟩
theorem Zd2:∀{ds ds':EQ (EQ Du)},Trw ds ds'->aX (bP (aj 0) sX [.un]) (ds.map fD)=.ret (ds'.map fD)
 |_,_,.nil=>rfl
 | _,_,.cons (wd:=wd) (day:=day) hw ht=>by
  have e:=Zd3 hw;have q:bP (aj 0) sX [.un] (fD day)=.ret (fD<|tr wd day):=by simp![sX,e]
  rw[Af,aX,q,Tr.ret_bind,Zd2 ht,Tr.ret_bind]
  rfl
def Zly(h:s.Ok)(h7:s.n<=7){day day':EQ Du}{r r':EQ (EQ Du)}(ht:Trw (day::r) (day'::r'))(hd:∀d∈day::r,DdB d)(hl:(day::r).length<=3) :
  ug [.d s.d,.d<|bn (day::r),.d<|pD<|bf s<|s.sts.map<|s.pkE day r]=.ret (.d<|.bool true):=by
 have hf:=yt h;have id:cH (bn (day::r))=.ret ((day::r).map fD):=rfl;have hs:small ((day::r).map fD).length=true:=bD<|by rw[v9];omega
 have et:=Zd2 ht;have edd:PyData.tuple ((day'::r').map fD)=bn (day'::r'):=rfl;have s1:ia s.d none (some 2)=.ret (.tuple [.int s.top,.int s.depth]):=by unfold Shp.d;rfl
 have s2:ia s.d (some 3) none=.ret (.tuple [.int s.piece,.int s.keep,.int s.lack,.int s.lost,.int s.back,.int s.late]):=by unfold Shp.d;rfl
 have a1:aL fF (.tuple [.int s.top,.int s.depth]) (.tuple [.int 0])=.ret (.tuple [.int s.top,.int s.depth,.int 0]):=gv rfl;have a2:aL fF (.tuple [.int s.top,.int s.depth,.int 0]) (.tuple [.int s.piece,.int s.keep,.int s.lack,.int s.lost,.int s.back,.int s.late])=.ret s.fre.d:=by
  rw[gv rfl];unfold Shp.d
  rfl
 have e1:=uQ hf (show s.fre.n<=7 from h7) hd hl
 rw[sx hf]at e1;have e2:=Zee hf (show s.fre.n<=7 from h7) (es:=s.fre.sts.map<|s.fre.pkE day r) (P:=s.fre.tbE r)<|v9 ..
 have g1:=Zd5 hf ht hd hl;have g2:=Zd5 h ht hd hl;have e2':iC [.d s.fre.d,.d<|.tuple<|(s.fre.tbE (day::r)).map λes=>.tuple<|es.map E2.d]=.ret (.d<|pD<|bf s.fre<|s.fre.sts.map<|s.fre.pkE day r):=by
  have q:List.map (λes:EQ E2=>PyData.tuple<|es.map E2.d) (s.fre.tbE (day::r))=PyData.tuple ((s.fre.sts.map<|s.fre.pkE day r).map E2.d)::(s.fre.tbE r).map λes=>PyData.tuple (es.map E2.d):=by rw[Shp.tbE,Af]
  rw[q,e2]
 have Ft:s.sts.length<=100:=sml h7<|by rw[dX];exact Ag _
 have hn:=h.n_eq;have ht0:=h.t0;have hd0:=h.d0;have htd:=h.td;have e3:=ZeG h (es:=s.sts.map<|s.pkE day r)<|v9 ..;have hS:=(eG h hd).2.2;have nS:nb 560 (s.dk (day::r)).2:=aM (eG h hd).2.1 (by omega)
 have Fa:=ht.dd hd;have FE:(day'::r').length<=3:=by rw[ht.len];exact hl
 have ha:(aln (day::r)).length<=3:=by unfold aln;rw[v9];exact hl
 have ha':(aln (day'::r')).length<=3:=by unfold aln;rw[v9];exact FE
 have ent0:∀c sc l:Int,aL ak (jC c sc l) (.int 0)=.ret (br c sc):=λ_ _ _=>rfl;have gcs:∀p∈s.sts,aL cT (pD<|bf s<|s.sts.map<|s.pkE day r) (.tuple [.int p.1,.int p.2])=.ret (br ((s.dk (day::r)).1 p.1 p.2) (s.dk (day::r)).2):=λp hp=>rE h hp;have gcf:∀p∈s.sts,aL cT (pD<|bf s.fre<|s.fre.sts.map<|s.fre.pkE day r) (.tuple [.int p.1,.int p.2])=.ret (br ((s.fre.dk (day::r)).1 p.1 p.2) (s.fre.dk (day::r)).2):=λp hp=>rE hf hp;obtain⟨b1,b2⟩:=rF (s:=s) ht.t;obtain⟨c1,c2⟩:=rF (s:=s.fre) ht.t;have fr:=λp (hp:p∈s.sts)=>Zep h ht.t hd p.1 p.2 ((aV h).mp hp).1.1 ((aV h).mp hp).1.2 ((aV h).mp hp).2.1 ((aV h).mp hp).2.2;have lo:=λp (hp:p∈s.sts)=>Zeo h hd p.1 p.2 ((aV h).mp hp).1.1 ((aV h).mp hp).1.2 ((aV h).mp hp).2.1 ((aV h).mp hp).2.2;have hi:=λp (hp:p∈s.sts)=>yF h ht.t hd p.1 p.2 ((aV h).mp hp).1.1 ((aV h).mp hp).1.2 ((aV h).mp hp).2.1 ((aV h).mp hp).2.2;have nbs:∀p∈s.sts,nb 1000 ((s.bk<|aln (day::r)).1 p.1)/\nb 1000 ((s.bk<|aln (day'::r')).1 p.2)/\nb 1000 ((s.fre.bk<|aln (day::r)).1 p.1)/\nb 1000 ((s.fre.bk<|aln (day'::r')).1 p.2)/\nb 1000 ((s.dk (day::r)).1 p.1 p.2):=λp hp=>by obtain⟨⟨x1,x2⟩,y1,y2⟩:=(aV h).mp hp;exact⟨aM ((pN h<|rB hd).1 _ x1 x2)<|by omega,aM ((pN h<|rB Fa).1 _ y1 y2)<|by omega,aM ((pN hf<|rB hd).1 _ x1 x2)<|by omega,aM ((pN hf<|rB Fa).1 _ y1 y2)<|by omega,aM ((eG h hd).1 _ _ x1 x2 y1 y2)<|by omega⟩
 have tds:=λp (hp:p∈s.sts)=>(⟨sw h (day.map List.sum) (aln r) ((aV h).mp hp).1.1 ((aV h).mp hp).1.2,sw h (day'.map List.sum) (aln r') ((aV h).mp hp).2.1 ((aV h).mp hp).2.2,sw hf (day.map List.sum) (aln r) ((aV h).mp hp).1.1 ((aV h).mp hp).1.2,sw hf (day'.map List.sum) (aln r') ((aV h).mp hp).2.1 ((aV h).mp hp).2.2⟩:_/\_/\_/\_);have f1:fit s.depth=true:=aB (bc (k:=20) (by show -1048576<_;omega)<|by show _<1048576;omega)<|by decide
 have key:=uK (g:=bB<|aK (aj 7)<|aK (aj 8) bx) (s:=x6) (r:=Re.d<|.bool false) (mk:=am) (full:=s.sts) (λ_=>true)
  (λ_ ρ=>∃J7 J8 J9 Fb E9:Sl,ρ=[.d s.d,.d<|bn (day::r),.d<|pD<|bf s<|s.sts.map<|s.pkE day r,.d<|bn (day'::r'),.d s.fre.d,.d<|pD<|bf s.fre<|s.fre.sts.map<|s.fre.pkE day r,.d<|.list [.list [s.fre.tday (day.map List.sum)<|aln r,s.fre.tday (day'.map List.sum)<|aln r'],.list [s.tday (day.map List.sum)<|aln r,s.tday (day'.map List.sum)<|aln r']],J7,J8,J9,Fb,E9]) (λpre p post ρ e hI=>by
   obtain⟨J7,J8,J9,Fb,E9,rfl⟩:=hI;have hp:p∈s.sts:=by rw[e];simp
   refine⟨_,rfl,.inl ⟨rfl,?_⟩⟩;obtain⟨t1,t2,t3,t4⟩:=tds p hp;obtain⟨n1,n2,n3,n4,n5⟩:=nbs p hp;have q1:=gcs p hp;have q2:=gcf p hp;have o1:=fr p hp;have o2:=(lo p hp).1;have o3:=hi p hp;have eS:=(lo p hp).2;have z1:(s.bk (day.map List.sum::aln r)).2=(s.dk (day::r)).2:=b1;have z2:(s.bk (day'.map List.sum::aln r')).2=(s.dk (day::r)).2:=b2;have z3:(s.fre.bk (day.map List.sum::aln r)).2=(s.dk (day::r)).2:=c1.trans eS;have z4:(s.fre.bk (day'.map List.sum::aln r')).2=(s.dk (day::r)).2:=c2.trans eS;rw[z1]at t1;rw[z2]at t2;rw[z3]at t3;rw[z4]at t4;rw[eS]at q2;have n1:nb 1000 ((s.bk (day.map List.sum::aln r)).1 p.1):=n1;have n2:nb 1000 ((s.bk (day'.map List.sum::aln r')).1 p.2):=n2;have n3:nb 1000 ((s.fre.bk (day.map List.sum::aln r)).1 p.1):=n3;have n4:nb 1000 ((s.fre.bk (day'.map List.sum::aln r')).1 p.2):=n4;have o1:(s.fre.dk (day::r)).1 p.1 p.2=(s.fre.bk (day.map List.sum::aln r)).1 p.1+(s.fre.bk (day'.map List.sum::aln r')).1 p.2:=o1;have o3:(s.dk (day::r)).1 p.1 p.2<=(s.bk (day.map List.sum::aln r)).1 p.1+(s.bk (day'.map List.sum::aln r')).1 p.2:=o3;have t3:aL ak (s.fre.tday (day.map List.sum)<|aln r) (.int<|p.1+s.depth)=_:=t3;have t4:aL ak (s.fre.tday (day'.map List.sum)<|aln r') (.int<|p.2+s.depth)=_:=t4;generalize (s.bk (day.map List.sum::aln r)).1 p.1=X2 at *;generalize (s.bk (day'.map List.sum::aln r')).1 p.2=Y2 at *;generalize (s.fre.bk (day.map List.sum::aln r)).1 p.1=X1 at *;generalize (s.fre.bk (day'.map List.sum::aln r')).1 p.2=Y1 at *;generalize (s.dk (day::r)).1 p.1 p.2=K at *;rw[o1]at q2 o2;generalize (s.dk (day::r)).2=S at *;have sS:S≠0:=by omega
   have m1:jk [.d<|br X1 S,.d<|br Y1 S]=.ret (.d<|br (X1+Y1) S):=by rw[<- Zba hS];exact Zd9 (aM (cm n3 nS sS).1 (by decide)) (aM (cm n3 nS sS).2 (by decide)) (aM (cm n4 nS sS).1 (by decide)) (aM (cm n4 nS sS).2 (by decide)) (Gc.eA sS).2.2.1 (Gc.eA sS).2.2.1
   have m2:jk [.d<|br X2 S,.d<|br Y2 S]=.ret (.d<|br (X2+Y2) S):=by rw[<- Zba hS];exact Zd9 (aM (cm n1 nS sS).1 (by decide)) (aM (cm n1 nS sS).2 (by decide)) (aM (cm n2 nS sS).1 (by decide)) (aM (cm n2 nS sS).2 (by decide)) (Gc.eA sS).2.2.1 (Gc.eA sS).2.2.1
   have nA:=bX n3 n4;have nB:=bX n1 n2;have u1:jm [.d<|br (X1+Y1) S,.d<|br K S]=.ret (.d<|.bool true):=by rw[<- DE ((Za9 hS).mpr o2)];exact Zd8 (k:=1100) (l:=560) (aM (cm nA nS sS).1 (by decide)) (cm nA nS sS).2 (aM (cm n5 nS sS).1 (by decide)) (cm n5 nS sS).2 (by decide)
   have u2:jm [.d<|br K S,.d<|br (X2+Y2) S]=.ret (.d<|.bool true):=by rw[<- DE ((Za9 hS).mpr o3)];exact Zd8 (k:=1100) (l:=560) (aM (cm n5 nS sS).1 (by decide)) (cm n5 nS sS).2 (aM (cm nB nS sS).1 (by decide)) (cm nB nS sS).2 (by decide)
   have rk:=rm (qA (wQ (aM (cm nA nS sS).1 (show 1000+1<=1900 by decide))<|aM (cm nA nS sS).2 (show 560<=1900 by decide)) (by decide)<|by decide)
   have rk:bz di [br (X1+Y1) S]=.ret (.str (br (X1+Y1) S).shown):=rk;simp![x6,f1,t1,t2,t3,t4,ent0,m1,m2,q1,q2,rk,qo,u1,u2,CK];exact⟨_,rfl,_,_,_,_,_,rfl⟩)
  (xs:=s.sts) (pre:=[]) (ρ:=[.d s.d,.d<|bn (day::r),.d<|pD<|bf s<|s.sts.map<|s.pkE day r,.d<|bn (day'::r'),.d s.fre.d,.d<|pD<|bf s.fre<|s.fre.sts.map<|s.fre.pkE day r,.d<|.list [.list [s.fre.tday (day.map List.sum)<|aln r,s.fre.tday (day'.map List.sum)<|aln r'],.list [s.tday (day.map List.sum)<|aln r,s.tday (day'.map List.sum)<|aln r']],.un,.un,.un,.un,.un]) rfl ⟨_,_,_,_,_,rfl⟩
 rcases key with ⟨_,ρ2,k2,J7,J8,J9,Fb,E9,rfl⟩|⟨k1,_⟩
 ·generalize day::r=ds at *;generalize day'::r'=ds' at *;simp![ug,id,hs,et,edd,s1,s2,a1,a2,e1,e2',g1,g2,ZdT,e3,k2]
 ·rw[B7.mpr λ_ _=>rfl]at k1;cases k1
structure WfOk(s:Shp)(n:Nat)(F:WF)(f:fY):Prop where
 run:∀(t:Nat)(p:Pt)(row:List Pt),t<n->p∈s.sts->row.length<=4->(∀q∈row,nb 20 q.1/\nb 20 q.2)->F [.int t,am p,.tuple<|row.map am]=some (am<|f t p row)
 mem:∀t p row,p∈s.sts->f t p row∈s.rzs p
theorem vS{s:Shp}(h:s.Ok){f:fY}(hf:∀t p row,p∈s.sts->f t p row∈s.rzs p):∀{ds:EQ (EQ Du)},(∀d∈ds,DdB d)->∀t p row,p∈s.sts->nb (102+150*ds.length) (s.wal f ds t p row)
 | [],_,_,p,_,hp=>by obtain⟨⟨a1,a2⟩,b1,b2⟩:=(aV h).mp hp;exact aM (bX (rj h p.1 a1 a2)<|rj h p.2 b1 b2) (by decide)
 | day::r,hd,t,p,row,hp=>by
  obtain⟨k1,k2,k3⟩:=eG h (ds:=r) λd Fa=>hd d<|Ab _ Fa;have ih:=vS h hf (ds:=r) λd Fa=>hd d<|Ab _ Fa;have hday:=hd day<|Aj ..;have c1:nb (102+150*r.length+20) ((s.dk r).2*aQ day):=bM k2<|j7 hday;have hq:=hf t p row hp;obtain⟨hqs,n1,n2⟩:=yO h k1 k2 hp hq;obtain⟨⟨q1,q2⟩,q3,q4⟩:=(aV h).mp hqs;unfold Shp.wal;generalize f t p row=q at *;have hl:=hday.len;have e1:nb (102+150*r.length+102+13+day.length) (wss (λi j=>(s.dk r).2*(s.day q.1 i+s.day q.2 j)+s.wal f r (t+1) (s.nx q.1 i,s.nx q.2 j) (row++[(i,j)])) 0 day):=by
   refine vP (λi j hi hj=>?_) hday.row;have m:=ih (t+1) (s.nx q.1 i,s.nx q.2 j) (row++[((i:Int),(j:Int))])<|(aV h).mpr ⟨⟨cF s q.1 i,cE h q2<|show(0:Int)<=i by omega⟩,cF s q.2 j,cE h q4<|show(0:Int)<=j by omega⟩
   have d1:=fR h (dF h q1 q2)<|gr (k:=i)<|by omega
   have d2:=fR h (dF h q3 q4)<|gr (k:=j)<|by omega
   exact aM (bX (bM k2<|bX d1 d2) m)<|by omega
  have e2:=bM (tL h n1 n2) c1;exact aM (bX e1 e2)<|by rw[Ac];omega
def ZkO{i:Dj}{a b c d e:Sl}{l:Dz}:vn F 5 i (a::b::c::d::e::.pen::l)=(i (a::b::c::d::e::.pen::l)).bind λxs=>Tr.of (F xs):=rfl
def ZkX{row:EQ Pt}{i j:Int}(h:row.length<=4):aL fF (.tuple<|row.map am) (.tuple [.tuple [.int i,.int j]])=.ret (.tuple<|(row++[(i,j)]).map am):=by
 cases row with
 |nil=>rfl
 | cons a l =>
  rw[Af,gv<|bD<|by rw[Ac,v9];show l.length+1+1<=10000;rw[Ac]at h;omega,Bc,Bc,Af,BE]
  rfl
def ZlI{ds0:EQ (EQ Du)}{t:Nat}{day:EQ Du}{r:EQ (EQ Du)}(e:ds0.drop t=day::r):aL ak (bn ds0) (.int t)=.ret (fD day):=by
 have h1:ds0[t]?=some day:=by have:=DI (λl=>l[0]?) e;simpa using this
 show Tr.of (ba (ds0.map fD) (t:Int))=_;rw[gy (by omega)<|by rw[AO,Ak,h1];rfl]
 rfl
def Zlc(h:s.Ok){ds0:EQ (EQ Du)}(n:Nat)(hp:p∈s.sts){row:EQ Pt}(hs:ds0.length<=3) :
  eu F (n+1) [.d s.d,.d<|bn ds0,.d<|.int ds0.length,.d<|am p,.d<|.tuple<|row.map am,.pen]=.ret (.own [.int<|s.fin p.1+s.fin p.2,.int 1]):=by
 obtain⟨⟨a1,a2⟩,b1,b2⟩:=(aV h).mp hp;have el:bz dL [bn ds0]=.ret (.int ds0.length):=by show bz dL [.tuple<|ds0.map fD]=_;rw[iK];rw[v9]
 have eb:((ds0.length:Int)==(ds0.length:Int))=true:=by simp
 simp![eu,pO,el,eb,im,il,Zeb h a1 a2,Zeb h b1 b2]
def ZfR{day:EQ Du}(hw:Wide wd day){l:Du}(hl:l∈day):l≠[]:=λe=>by have:=hw.r l hl;have:=hw.w1;subst e;simp at *;omega
def Zlb(h:s.Ok){ds0:EQ (EQ Du)}{slf:Dm}{t:Nat}{day:EQ Du}{r:EQ (EQ Du)}(e0:ds0.drop t=day::r)(hd:DdB day)(hdr:∀d∈r,DdB d)(hl:r.length<=3)(hw:Wide wd day)
  {p q:Pt} {row:EQ Pt} (hp:p∈s.sts) (hq:q∈s.rzs p) (hrow:row.length<=4) (ht:t<ds0.length) (hF:F [.int t,am p,.tuple<|row.map am]=some (am q)) {W:Int->Int->Int} (hW:∀i j:Nat,i<=3->j<=3->nb (102+150*r.length) (W i j))
  (hs:∀i j:Nat,i<3->j<3->slf [.d s.d,.d<|bn ds0,.d<|.int<|(t:Int)+1,.d<|am (s.nx q.1 i,s.nx q.2 j),.d<|.tuple<|(row++[((i:Int),(j:Int))]).map am,.pen]=.ret (.own [.int<|W i j,.int (s.dk r).2])) :
  bd 6 12 (pO F slf) [.d s.d,.d<|bn ds0,.d<|.int t,.d<|am p,.d<|.tuple<|row.map am,.pen] =
   .ret (.own [.int<|wss (λi j=>(s.dk r).2*(s.day q.1 i+s.day q.2 j)+W i j) 0 day+s.ord (p.1+p.2) (q.1+q.2)*((s.dk r).2*aQ day),.int<|(s.dk r).2*aQ day]):=by
 obtain⟨k1,k2,k3⟩:=eG h (ds:=r) hdr;obtain⟨hqs,n1,n2⟩:=yO h k1 k2 hp hq;obtain⟨⟨q1,q2⟩,q3,q4⟩:=(aV h).mp hqs;have hlen:=hd.len;have eg:(λi j=>(s.dk r).2*(s.day q.1 i+s.day q.2 j)+W i j)=(λi j=>(s.dk r).2*(s.day q.1 i+s.day q.2 j)+W i j):=rfl;generalize hG:(λ(i j:Int)=>(s.dk r).2*(s.day q.1 i+s.day q.2 j)+W i j)=G at *;have gG:∀i j:Int,G i j=(s.dk r).2*(s.day q.1 i+s.day q.2 j)+W i j:=λi j=>by rw[<- hG]
 have fc:=aB k2<|by omega
 have eday:=ZlI e0;have inner:∀(i:Nat)(line:Du)(T B:Int)(E9 Fd Fe Fw Fx Fy Fz:Sl),i<3->line.length<=3->(∀w∈line,0<=w/\w<=1000)->line≠[] ->
   Al (cI (bB<|aK (aj 11)<|aK (aj 12) bx) (xY F slf) (eE<|line.map PyData.int) [.d s.d,.d<|bn ds0,.d<|.int t,.d<|am p,.d<|.tuple<|row.map am,.pen,.d<|am q,.d<|.int T,.d<|.int B,.d<|.int i,.d<|tI line,E9,Fd,Fe,Fw,Fx,Fy,Fz]) 0
    λo=>∃E9 Fd Fe Fw Fx Fy Fz:Sl,o=.next [.d s.d,.d<|bn ds0,.d<|.int t,.d<|am p,.d<|.tuple<|row.map am,.pen,.d<|am q,.d<|.int<|T+ws (G i) 0 line,.d<|.int (s.dk r).2,.d<|.int i,.d<|tI line,E9,Fd,Fe,Fw,Fx,Fy,Fz]:=by
  intro i line T B E9 Fd Fe Fw Fx Fy Fz hi hl hw E8;refine iQ (n:=0) (λpre ρ=>∃(C:Int)(E9 Fd Fe Fw Fx Fy Fz:Sl),(pre=[]\/C=(s.dk r).2)/\ρ=[.d s.d,.d<|bn ds0,.d<|.int t,.d<|am p,.d<|.tuple<|row.map am,.pen,.d<|am q,.d<|.int<|T+ws (G i) 0 line-ws (G i) pre.length (line.drop pre.length),.d<|.int C,.d<|.int i,.d<|tI line,E9,Fd,Fe,Fw,Fx,Fy,Fz]) ⟨B,E9,Fd,Fe,Fw,Fx,Fy,Fz,.inl rfl,?_⟩ (by simp) ?_ ?_
  ·have e:T+ws (G i) 0 line-ws (G i) 0 line=T:=by omega
   simp only[AK,Bp,e]
  ·rintro pre x post ρ e ⟨C,E9,Fd,Fe,Fw,Fx,Fy,Fz,_,rfl⟩;obtain⟨w,hw',rfl⟩:=rp e;rw[Ak]at hw';obtain⟨v,hv,rfl⟩:=AN.mp hw';refine⟨_,rfl,?_⟩;have Fc:pre.length<line.length:=(Ad.mp hv).1;have e1:=Zea h (f:=i) q1 q2 (by omega)
   have e2:=Zea h (f:=pre.length) q3 q4<|by omega
   have e3:=hs i pre.length hi<|by omega
   have e4:=ZkX (row:=row) (i:=i) (j:=pre.length) hrow;have d1:=fR h (dF h q1 q2)<|gr (k:=i)<|by omega
   have d2:=fR h (dF h q3 q4)<|gr (k:=pre.length)<|by omega
   have f2:=aB (bX d1 d2)<|by decide
   have f3:=aB (r8<|hw v<|AD hv)<|by decide
   have f4:fit ((s.day q.1 i+s.day q.2 pre.length)*(s.dk r).2+W i pre.length)=true:=aB (bX (bM (bX d1 d2) k2)<|hW i pre.length (by omega)<|by omega)<|by omega
   simp![xY,im,il,e1,e2,e4,am]at e3 ⊢;simp![e3,fc,f2,f3,f4];have ed:line.drop pre.length=v::line.drop (pre.length+1):=by rw[Ax Fc];congr 1;exact(Ad.mp hv).2
   have el:(pre++[PyData.tuple [PyData.int pre.length,PyData.int v]]).length=pre.length+1:=by simp
   have ee:T+ws (G i) 0 line-ws (G i) pre.length (line.drop pre.length)+v*((s.day q.1 i+s.day q.2 pre.length)*(s.dk r).2+W i pre.length) =
     T+ws (G i) 0 line-ws (G i) (pre++[PyData.tuple [PyData.int pre.length,PyData.int v]]).length (line.drop (pre++[PyData.tuple [PyData.int pre.length,PyData.int v]]).length):=by rw[el,ed,ws,gG,A4 (s.dk r).2];omega
   rw[ee];exact cp ⟨_,rfl,_,_,_,_,_,_,_,_,.inr rfl,rfl⟩
  ·rintro ρ ⟨C,E9,Fd,Fe,Fw,Fx,Fy,Fz,hC,rfl⟩;have hC:C=(s.dk r).2:=by
    rcases hC with z|z
    ·refine absurd (DI List.length z) ?_;rw[jB,v9];exact λz=>E8<|De.mp z
    ·exact z
   refine⟨E9,Fd,Fe,Fw,Fx,Fy,Fz,?_⟩;rw[jB,v9,AS,ws,B5,hC]
 have el:bz dL [bn ds0]=.ret (.int ds0.length):=by show bz dL [.tuple<|ds0.map fD]=_;rw[iK,v9]
 have eb:((t:Int)==(ds0.length:Int))=false:=by
  have:(t:Int)≠(ds0.length:Int):=by omega
  simpa using this
 have ew:Tr.of (F [.int t,am p,.tuple<|row.map am])=.ret (am q):=by rw[hF];rfl
 apply pR;simp![pO,el,eb,ZkO,ew,eday,iG];refine cY (n:=0) (n':=0) (P:=λo=>∃J9 Fb E9 Fd Fe Fw Fx Fy Fz:Sl,o=.next [.d s.d,.d<|bn ds0,.d<|.int t,.d<|am p,.d<|.tuple<|row.map am,.pen,.d<|am q,.d<|.int<|wss G 0 day,.d<|.int (s.dk r).2,J9,Fb,E9,Fd,Fe,Fw,Fx,Fy,Fz]) ?_ (by decide) ?_
 ·refine iQ (n:=0) (λpre ρ=>∃(C:Int)(J9 Fb E9 Fd Fe Fw Fx Fy Fz:Sl),(pre=[]\/C=(s.dk r).2)/\ρ=[.d s.d,.d<|bn ds0,.d<|.int t,.d<|am p,.d<|.tuple<|row.map am,.pen,.d<|am q,.d<|.int<|wss G 0 day-wss G pre.length (day.drop pre.length),.d<|.int C,J9,Fb,E9,Fd,Fe,Fw,Fx,Fy,Fz]) ⟨1,.un,.un,.un,.un,.un,.un,.un,.un,.un,.inl rfl,?_⟩ (by simp) ?_ ?_
  ·have e:wss G 0 day-wss G 0 day=0:=by omega
   simp only[AK,Bp,e]
  ·rintro pre x post ρ e ⟨C,J9,Fb,E9,Fd,Fe,Fw,Fx,Fy,Fz,_,rfl⟩;obtain⟨w,hw',rfl⟩:=rp e;rw[Ak]at hw';obtain⟨line,hv,rfl⟩:=AN.mp hw';refine⟨_,rfl,?_⟩;have Fc:pre.length<day.length:=(Ad.mp hv).1;obtain⟨l1,l2⟩:=hd.row line<|AD hv;have ed:day.drop pre.length=line::day.drop (pre.length+1):=by rw[Ax Fc];congr 1;exact(Ad.mp hv).2
   have el:(pre++[PyData.tuple [PyData.int pre.length,tI line]]).length=pre.length+1:=by simp
   simp![Zdi,Zdr];refine rJ (inner pre.length line _ _ _ _ _ _ _ _ _ (by omega) l1 l2<|ZfR hw<|AD hv) (Ag _) ?_
   rintro _ ⟨E9,Fd,Fe,Fw,Fx,Fy,Fz,rfl⟩;have ee:wss G 0 day-wss G pre.length (day.drop pre.length)+ws (G pre.length) 0 line=wss G 0 day-wss G (pre++[PyData.tuple [PyData.int pre.length,tI line]]).length (day.drop (pre++[PyData.tuple [PyData.int pre.length,tI line]]).length):=by rw[el,ed,wss];omega
   rw[ee];exact⟨_,rfl,_,_,_,E9,Fd,Fe,Fw,Fx,Fy,Fz,.inr rfl,rfl⟩
  ·rintro ρ ⟨C,J9,Fb,E9,Fd,Fe,Fw,Fx,Fy,Fz,hC,rfl⟩;have hC:C=(s.dk r).2:=by
    rcases hC with z|z
    ·have z:=DI List.length z;rw[jB,v9]at z;have:=hw.l1;have z:day.length=0:=z;omega
    ·exact z
   refine⟨J9,Fb,E9,Fd,Fe,Fw,Fx,Fy,Fz,?_⟩;rw[jB,v9,AS,wss,B5,hC]
 ·rintro _ ⟨J9,Fb,E9,Fd,Fe,Fw,Fx,Fy,Fz,rfl⟩;have fs:=aB (j7 hd) (by decide)
  have fo:=aB (tL h n1 n2)<|by decide
  have fcs:=aB (bM k2<|j7 hd)<|by omega
  have eo:=Zlj h hp hq;have esum:bZ (ac ak (aa 1)<|aa 2) [.d s.d,.d<|bn ds0,.d<|.int t,.d<|am p,.d<|.tuple<|row.map am,.pen,.d<|am q,.d<|.int<|wss G 0 day,.d<|.int (s.dk r).2,J9,Fb,E9,Fd,Fe,Fw,Fx,Fy,Fz]=.ret (day.map tI):=by simp![eday,iG]
  have hsm:small (day.map tI).length=true:=bD<|by rw[v9];omega
  have e:aX (bP (aj 0) (wZ F slf) [.un]) (day.map tI)=.ret (day.map λl=>PyData.int l.sum):=dE λl _=>by have e1:bz cJ [tI l]=.ret (.int l.sum):=fw l;simp![wZ,e1]
  have e2:bz cJ [.list<|day.map λl=>PyData.int l.sum]=.ret (.int<|aQ day):=by rw[ZdQ];exact iI _
  simp![eday,iG,hsm,e,e2,eo,fc,fs,fo,fcs];exact cp rfl
def ZlA{ds0:EQ (EQ Du)}{t:Nat}{day:EQ Du}{r:EQ (EQ Du)}(e:ds0.drop t=day::r):ds0.drop (t+1)=r/\t<ds0.length/\day∈ds0:=by
 refine⟨by rw[<- List.tail_drop,e];rfl,?_,B9<|by rw[e];exact Aj ..⟩
 have:=DI List.length e;rw[Bi,Ac]at this;omega
theorem Zd1{s:Shp}(h:s.Ok){ds0:EQ (EQ Du)}(hd:∀d∈ds0,DdB d)(hw:∀d∈ds0,∃wd,Wide wd d)(hl:ds0.length<=3){F:WF}{f:fY}(hF:WfOk s ds0.length F f) :
  ∀{ds:EQ (EQ Du)}{t:Nat},ds0.drop t=ds->t<=ds0.length->∀{n:Nat},ds.length<n->∀{p:Pt},p∈s.sts->∀{row:EQ Pt},row.length=t->(∀q∈row,nb 20 q.1/\nb 20 q.2) ->
   eu F n [.d s.d,.d<|bn ds0,.d<|.int t,.d<|am p,.d<|.tuple<|row.map am,.pen]=.ret (.own [.int<|s.wal f ds t p row,.int (s.dk ds).2])
 |_,_,_,_,0,hn,_,_,_,_,_=>absurd hn (Nat.not_lt_zero _)
 | [],t,e,ht,n+1,hn,p,hp,row,hr,_=>by
  have:t=ds0.length:=by have:=DI List.length e;rw[Bi,AK]at this;omega
  subst this;exact Zlc h n hp hl
 | day::r,t,e,ht,n+1,hn,p,hp,row,hr,hrow=>by
  obtain⟨e',ht',hm⟩:=ZlA e;have Fm:∀d∈r,d∈ds0:=λd Fa=>B9<|by rw[e'];exact Fa
  have hrl:r.length<=3:=by have:=DI List.length e';rw[Bi]at this;omega
  have hrd:∀d∈r,DdB d:=λd Fa=>hd d<|Fm d Fa;obtain⟨wd,hwd⟩:=hw day hm;have hq:=hF.mem t p row hp;obtain⟨k1,k2,k3⟩:=eG h (ds:=r) hrd;obtain⟨hqs,_,_⟩:=yO h k1 k2 hp hq;obtain⟨⟨q1,q2⟩,q3,q4⟩:=(aV h).mp hqs;have Ft:∀i j:Nat,(s.nx (f t p row).1 i,s.nx (f t p row).2 j)∈s.sts:=λi j=>(aV h).mpr ⟨⟨cF s _ i,cE h q2<|show(0:Int)<=i by omega⟩,cF s _ j,cE h q4<|show(0:Int)<=j by omega⟩
  have st:=Zlb (slf:=eu F n) h e (hd day hm) hrd hrl hwd hp hq (by omega) ht' (hF.run t p row ht' hp (by omega) hrow) (W:=λi j=>s.wal f r (t+1) (s.nx (f t p row).1 i,s.nx (f t p row).2 j)<|row++[(i,j)])
   (λi j _ _=>vS h hF.mem hrd _ _ _<|Ft i j) (λi j hi hj=>by
    have ih:=Zd1 h hd hw hl hF (ds:=r) (t:=t+1) e' ht' (n:=n) (by rw[Ac]at hn;omega) (Ft i j) (row:=row++[((i:Int),(j:Int))]) (by rw[Aq,hr];rfl) (λq hq=>by
     rcases Bs.mp hq with z|z
     ·exact hrow q z
     ·rw[Bv]at z;subst z;exact⟨bc (by show -1048576<(i:Int);omega)<|by show(i:Int)<1048576;omega,bc (by show -1048576<(j:Int);omega)<|by show(j:Int)<1048576;omega⟩)
    exact ih)
  exact st
def ly(s:Shp)(ds0:EQ (EQ Du)):fY:=λt p _=>match ds0.drop t with
 |day::r=>tu (s.pick day r p).2
 | []=>p
def Zhc(h:s.Ok)(hp:p∈s.sts):p∈s.rzs p:=by obtain⟨⟨a1,a2⟩,b1,b2⟩:=(aV h).mp hp;exact(eM a2 b2).mpr ⟨⟨AC _,a2⟩,AC _,b2⟩
theorem ZaH{s:Shp}:∀{ds0:EQ (EQ Du)}{t:Nat}{day:EQ Du}{r:EQ (EQ Du)},ds0.drop t=day::r->(s.tbE ds0)[t]?=some (s.sts.map<|s.pkE day r)
 | [],t,_,_,e=>by simp at e
 | _::ds,0,_,_,e=>by
  rw[Bp]at e;cases e
  rfl
 |_::ds,t+1,_,_,e=>by rw[Shp.tbE,AH];exact ZaH (ds0:=ds) e
def ZdS{n:Nat}{t:Di}{caps xs:Dt}{d:ES}(h:xs.length=n)(e:t ((xs++caps).map Sl.d)=.ret d):f9 n t caps xs=some d:=by unfold f9;rw[DD h,e]
def ZfW(h:s.Ok)(h7:s.n<=7){ds0:EQ (EQ Du)}:WfOk s ds0.length (f9 3 iY [s.d,.tuple<|s.dtab ds0]) (ly s ds0):=by
 refine⟨λt p row ht hp _ _=>ZdS rfl ?_,λt p row hp=>?_⟩
 ·obtain⟨day,r,e⟩:∃day r,ds0.drop t=day::r:=by
   cases e:ds0.drop t with
   | nil =>
    have:=DI List.length e;rw[Bi,AK]at this;omega
   |cons day r=>exact⟨day,r,rfl⟩
  have eg:=Zln h h7 (ZaH e) hp (e:=s.pkE day r p)<|λk hk=>by rw[Ak,hk];rfl
  have ef:ly s ds0 t p row=(s.pkE day r p).q:=by unfold ly;rw[e];rfl
  show iY [.d<|.int t,.d<|am p,.d<|.tuple<|row.map am,.d s.d,.d<|.tuple<|s.dtab ds0]=_;rw[sx h,ef];simp![iY,eg]
 ·unfold ly
  split
  ·obtain⟨q,hq,e1,_⟩:=tG h (day:=_) (r:=_) hp;rw[e1];exact hq
  ·exact Zhc h hp
def ZkL(s:Shp)(key:Int):fY:=λt p row=>xN s (key+7919*t+613*(p.1+9)+p.2) p row
def ZfX(h:s.Ok){key:Int}(hk:nb 40 key){n:Nat}(hn:n<=3):WfOk s n (f9 3 sv [s.d,.int key]) (ZkL s key):=by
 refine⟨λt p row ht hp hl hr=>ZdS rfl ?_,λt p row hp=>Zjv h _ hp row⟩;obtain⟨⟨a1,a2⟩,b1,b2⟩:=(aV h).mp hp;have n1:nb 20 (t:Int):=bc (by show -1048576<(t:Int);omega)<|by show(t:Int)<1048576;omega
 have n2:=dF h a1 a2;have n3:=dF h b1 b2;have n4:nb 20 (7919:Int):=bc (by decide)<|by decide
 have n5:nb 20 (613:Int):=bc (by decide)<|by decide
 have n9:nb 20 (9:Int):=bc (by decide)<|by decide
 have nn:nb 60 (key+7919*t+613*(p.1+9)+p.2):=aM (bX (bX (bX hk<|bM n4 n1)<|bM n5<|bX n2 n9) n3)<|by decide
 have em:=Zli h nn hp (by omega) hr
 have f1:=aB n1<|by decide
 have f2:=aB (bX n2 n9)<|by decide
 have f4:=aB n4<|by decide
 have f5:=aB n5<|by decide
 show sv [.d<|.int t,.d<|am p,.d<|.tuple<|row.map am,.d s.d,.d<|.int key]=_;simp![sv,im,il,f1,f2,f4,f5,em]
 rfl
def bE(n:Int):c8 [.pen,.d<|.int n]=.draw n λr=>.ret (.d<|.int r):=rfl
noncomputable abbrev rl(rows:EQ Dt):Sl:=.d<|.list<|rows.map PyData.list
section
variable{A:EQ Sl->Tr (EQ Dt)}{v:Di}{t:Dl}{a b c d:Sl}{rows:EQ Dt}{x y z:ES}
def wM(t:Dl)(a b c:Sl)(rows:EQ Dt):Tr Ou:=t [a,b,c,rl rows]
def wN(t:Dl)(a b c:Sl)(rows:EQ Dt)(x y z:ES):Tr Ou:=(Tr.of<|jc rows y z x).bind<|wM t a b c
def wO(j:Di)(t:Dl)(a b c:Sl)(rows:EQ Dt)(x y:ES):Tr Ou:=(j [a,b,c,rl rows]).bind<|wN t a b c rows x y
def wP(i j:Di)(t:Dl)(a b c:Sl)(rows:EQ Dt)(x:ES):Tr Ou:=(i [a,b,c,rl rows]).bind<|wO j t a b c rows x
def rw1(v i j:Di)(t:Dl)(a b c:Sl)(rows:EQ Dt):Tr Ou:=(v [a,b,c,rl rows]).bind<|wP i j t a b c rows
def ZkW:zq 3 A v i j t [a,b,c,d]=(A [a,b,c,d]).bind (rw1 v i j t a b c):=rfl
def ZkV:rw1 v i j t a b c rows=(v [a,b,c,rl rows]).bind (wP i j t a b c rows):=rfl
def ZkU:wP i j t a b c rows x=(i [a,b,c,rl rows]).bind (wO j t a b c rows x):=rfl
def ZkT:wO j t a b c rows x y=(j [a,b,c,rl rows]).bind (wN t a b c rows x y):=rfl
def ZkS:wN t a b c rows x y z=(Tr.of<|jc rows y z x).bind (wM t a b c):=rfl
def ZkR:wM t a b c rows=t [a,b,c,rl rows]:=rfl
end
def xP(el:Dj)(ρ:Dz)(x:ES):Tr Dt:=el (.d x::ρ)
def lr0(el:Dj)(ρ:Dz)(xs:Dt):Tr (EQ Dt):=if small xs.length=true then iA (xP el ρ) xs else .fail
def Znn{x y:ES}{d:Sl}:blk 1 [0,1,2] [.pen,.d x,.d y,d]=[.un,.pen,.d x,.d y]:=rfl
def Zk2{el:Dj}{x y:ES}{d:Sl}:rR is 1 [0,1,2] (aj 0) el [.pen,.d x,.d y,d]=(is [.pen,.d x,.d y,d]).bind (lr0 el [.pen,.d x,.d y]):=by
 unfold rR;rw[Znn]
 rfl
def Zk1{el:Dj}{xs:Dt}(h:small xs.length=true):lr0 el ρ xs=iA (xP el ρ) xs:=DD h
def Zk0{el:Dj}{x:ES}:xP el ρ x=el (.d x::ρ):=rfl
theorem Zfn{h:ES->Tr Dt}{P:EQ ES->Prop}{n:Nat}:∀{xs:Dt},(∀x∈xs,Al (h x) n P)->Al (iA h xs) (xs.length*n) λys=>ys.length=xs.length/\∀y∈ys,P y
 | [],_=>cp ⟨rfl,λ_ h=>nomatch h⟩
 | x::xs,hx=>by
  unfold iA;refine cY (n:=n) (n':=xs.length*n) (hx x Aj) (by rw[Ac,BM];omega) λy hy=>?_
  refine cY (n:=xs.length*n) (n':=0) (Zfn λz hz=>hx z<|Ab _ hz) (by omega) λys hys=>?_
  refine cp ⟨by rw[Ac,Ac,hys.1],λz hz=>?_⟩
  rcases Au.mp hz with e|e
  ·subst e;exact hy
  ·exact hys.2 z e
structure Rowd(R:List Dt)(w:Nat):Prop where
 l1:1<=R.length
 l3:R.length<=3
 w1:1<=w
 w3:w<=3
 row:∀r∈R,r.length=w/\∀y∈r,fQ 0 1000 y
theorem Zdw:∀{r:Dt},(∀y∈r,fQ 0 1000 y)->∃l:Du,r=l.map PyData.int/\∀w∈l,0<=w/\w<=1000
 | [],_=>⟨[],rfl,nofun⟩
 | y::r,h=>by
  obtain⟨n,rfl,a,b⟩:=h y<|Aj ..;obtain⟨l,rfl,hl⟩:=Zdw (r:=r) λz hz=>h z<|Ab _ hz;refine⟨n::l,rfl,λw hw=>?_⟩;rcases Au.mp hw with rfl|hw
  ·exact⟨a,b⟩
  ·exact hl w hw
theorem ZbG:∀{R:EQ Dt},(∀r∈R,r.length<=3/\∀y∈r,fQ 0 1000 y)->∃day:EQ Du,R=day.map (List.map PyData.int)/\∀l∈day,l.length<=3/\∀w∈l,0<=w/\w<=1000
 | [],_=>⟨[],rfl,nofun⟩
 | r::R,h=>by
  obtain⟨h1,h2⟩:=h r<|Aj ..;obtain⟨l,rfl,hl⟩:=Zdw h2;obtain⟨day,rfl,hd⟩:=ZbG (R:=R) λz hz=>h z<|Ab _ hz;refine⟨l::day,rfl,λw hw=>?_⟩;rcases Au.mp hw with rfl|hw
  ·exact⟨by rw[v9]at h1;exact h1,hl⟩
  ·exact hd w hw
theorem ZaT:∀{l:Du},(∀w∈l,0<=w/\w<=1000)->∀n∈l,n<=l.sum
 | [],_,n,h=>by cases h
 | w::l,h,n,hn=>by
  have h1:=h w<|Aj ..;have h2:=sB (l:=l) λv hv=>h v<|Ab _ hv;rw[AU];rcases Au.mp hn with rfl|hn
  ·omega
  ·have:=ZaT (l:=l) (λv hv=>h v<|Ab _ hv) n hn;omega
theorem ZaZ:∀{L:EQ Du},(∀l∈L,l.length<=3/\∀w∈l,0<=w/\w<=1000)->∀l∈L,∀n∈l,n<=aQ L
 | [],_,l,h,_,_=>by cases h
 | a::L,h,l,hl,n,hn=>by
  obtain⟨l1,l2⟩:=h a<|Aj ..;have h1:=sB l2;have h2:=wj (L:=L) λv hv=>h v<|Ab _ hv;have e:aQ (a::L)=a.sum+aQ L:=by unfold aQ;rw[Af,AU]
  rw[e];rcases Au.mp hl with rfl|hl
  ·have:=ZaT l2 n hn;omega
  ·have:=ZaZ (L:=L) (λv hv=>h v<|Ab _ hv) l hl n hn;omega
def Rowd.dd{R:EQ Dt}{w:Nat}(h:Rowd R w){r:Dt}{n:Int}(hr:r∈R)(hn:.int n∈r)(h0:0<n):∃day,PyData.tuple (R.map PyData.tuple)=fD day/\DdB day/\Wide w day:=by
 obtain⟨day,rfl,hd⟩:=ZbG (R:=R) λr hr=>⟨by rw[(h.row r hr).1];exact h.w3,(h.row r hr).2⟩
 refine⟨day,?_,⟨?_,hd,?_⟩,⟨λl hl=>?_,h.w1,h.w3,?_,?_⟩⟩
 ·unfold fD;rw[Av]
  rfl
 ·have:=h.l3;rw[v9]at this;exact this
 ·obtain⟨l,hl,rfl⟩:=AM.mp hr;obtain⟨m,hm,e⟩:=AM.mp hn;have e:m=n:=by injection e
  have:=ZaZ hd l hl m hm;omega
 ·have:=(h.row _<|AM.mpr ⟨l,hl,rfl⟩).1;rw[v9]at this;exact this
 ·have:=h.l1;rw[v9]at this;exact this
 ·have:=h.l3;rw[v9]at this;exact this
def ZhB:Al (ue [.pen]) 15 λr=>∃day,r=.d (fD day)/\DdB day/\∃wd,Wide wd day:=by
 simp![ue,bE];refine dw (n:=14) (by decide) (by decide) (by decide) λq q0 q1=>?_
 obtain⟨b,hb,b0,b1⟩:=Zcz (xs:=[PyData.int 2,.int 4,.int 20,.int 334]) (lo:=2) (hi:=334) (by simp[fQ]) q0 q1
 simp![bE,hb];refine dw (n:=13) (by decide) (by decide) (by decide) λw w0 w1=>?_
 simp![bE,ZkW,Zk2];refine dw (n:=12) (by decide) (by decide) (by decide) λc c0 c1=>?_
 have rr:fe [.int<|1+c]=.ret (bh 0<|1+c):=gR<|eC (by omega)<|by omega
 have hs:small (bh 0<|1+c).length=true:=bD<|by rw[cB];omega
 have rw':fe [.int<|1+w]=.ret (bh 0<|1+w):=gR<|eC (by omega)<|by omega
 have hw:small (bh 0<|1+w).length=true:=bD<|by rw[cB];omega
 simp![bE,rr,Zk1 hs];refine cY (n:=9) (n':=3) (P:=λR=>Rowd R (1+w).toNat) (rJ (Zfn (n:=3) (P:=λr=>r.length=(1+w).toNat/\∀y∈r,fQ 0 1000 y) λx hx=>?_) (by rw[cB];omega) λR hR=>?_) (by decide) ?_
 ·rw[Zk0];simp![Zcl,bE,rw',hw];refine zg (n:=1) (P:=fQ 0 1000) (by rw[cB];omega) (λy hy=>?_) λys hl hys=>⟨by rw[hl,cB];omega,hys⟩
  simp![Zcm,bE];refine dw (n:=0) (by omega) (by omega) (by decide) λv v0 v1=>?_
  try simp![bE]
  exact cp ⟨v,rfl,v0,by omega⟩
 ·rw[cB]at hR;exact⟨by omega,by omega,by omega,by omega,hR.2⟩
 ·intro R hR;simp![bE,ZkV];refine dw (n:=2) (by omega) (by omega) (by decide) λv v0 v1=>?_
  simp![bE,ZkU,v9];have l1:=hR.l1;have l3:=hR.l3;refine dw (n:=1) (by omega) (by omega) (by decide) λi i0 i1=>?_
  simp![bE,ZkT];refine dw (n:=0) (by omega) (by omega) (by decide) λj j0 j1=>?_
  obtain⟨i,rfl⟩:=Bl i0;obtain⟨j,rfl⟩:=Bl j0;have hi:i<R.length:=by omega
  obtain⟨el,ei⟩:=hR.row R[i]<|BH hi;have hj:j<R[i].length:=by rw[el];omega
  have n1:L2.b7 R.length (i:Int)=some i:=by unfold L2.b7;rw[DD<|by omega,DD<|by omega,AO]
  have n2:L2.b7 R[i].length (j:Int)=some j:=by unfold L2.b7;rw[DD<|by omega,DD<|by omega,AO]
  have ep:jc R (.int (i:Int)) (.int (j:Int)) (.int<|1+v)=some (R.set i<|R[i].set j<|.int<|1+v):=by
   show((L2.b7 R.length (i:Int)).bind λn=>(R[n]?).bind λr=>(L2.b7 r.length (j:Int)).bind λl=>if eT (.int<|1+v)=true then some (R.set n<|r.set l<|.int<|1+v)else none)=_
   rw[n1];show((R[i]?).bind λr=>(L2.b7 r.length (j:Int)).bind λl=>if eT (.int<|1+v)=true then some (R.set i<|r.set l<|.int<|1+v)else none)=_
   rw[Ah hi];show((L2.b7 R[i].length (j:Int)).bind λl=>if eT (.int<|1+v)=true then some (R.set i<|R[i].set l<|.int<|1+v)else none)=_
   rw[n2]
   rfl
  have hR2:Rowd (R.set i<|R[i].set j<|.int<|1+v) (1+w).toNat:=by
   refine⟨by rw[AE];exact l1,by rw[AE];exact l3,hR.w1,hR.w3,λr hr=>?_⟩
   rcases C4 hr with q|q
   ·exact hR.row r q
   ·subst q;refine⟨by rw[AE];exact el,λy hy=>?_⟩
    rcases C4 hy with q|q
    ·exact ei y q
    ·subst q;exact⟨1+v,rfl,by omega,by omega⟩
  have hin:R[i].set j (.int<|1+v)∈R.set i (R[i].set j<|.int<|1+v):=List.mem_set hi _;have hin2:PyData.int (1+v)∈R[i].set j (.int<|1+v):=List.mem_set hj _;obtain⟨day,ed,hdd,hwd⟩:=hR2.dd hin hin2<|by omega
  have hlen:(R.set i<|R[i].set j<|.int<|1+v).length=R.length:=AE ..;generalize R.set i (R[i].set j<|.int<|1+v)=R' at ep hR2 ed hlen;have FA:small (R'.map PyData.list).length=true:=bD<|by rw[v9];omega
  have em:aX (bP (aj 0) xb [.un]) (R'.map PyData.list)=.ret (R'.map PyData.tuple):=dE λr _=>by simp![xb]
  simp![bE,ZkS,ep,ZkR,FA,em,ed];exact cp ⟨day,rfl,hdd,_,hwd⟩
theorem ZeC:∀{ys:Dt},(∀y∈ys,∃day,y=fD day/\DdB day/\∃wd,Wide wd day)->∃ds:EQ (EQ Du),ys=ds.map fD/\∀d∈ds,DdB d/\∃wd,Wide wd d
 | [],_=>⟨[],rfl,nofun⟩
 | y::ys,h=>by
  obtain⟨d,rfl,hd⟩:=h y<|Aj ..;obtain⟨ds,rfl,hds⟩:=ZeC (ys:=ys) λz hz=>h z<|Ab _ hz;refine⟨d::ds,rfl,λz hz=>?_⟩;rcases Au.mp hz with rfl|hz
  ·exact hd
  ·exact hds z hz
def ZhA:Al (uf [.pen]) 46 λr=>∃ds,r=.d (bn ds)/\1<=ds.length/\ds.length<=3/\∀d∈ds,DdB d/\∃wd,Wide wd d:=by
 simp![uf,bE];refine dw (n:=45) (by decide) (by decide) (by decide) λc c0 c1=>?_
 have rr:fe [.int<|1+c]=.ret (bh 0<|1+c):=gR<|eC (by omega)<|by omega
 have hs:small (bh 0<|1+c).length=true:=bD<|by rw[cB];omega
 simp![bE,rr,hs];refine cY (n:=45) (n':=0) (zg (n:=15) (P:=λy=>∃day,y=fD day/\DdB day/\∃wd,Wide wd day) (Q:=λys=>∃ds:EQ (EQ Du),ys=ds.map fD/\1<=ds.length/\ds.length<=3/\∀d∈ds,DdB d/\∃wd,Wide wd d) (by rw[cB];omega) (λx hx=>?_) λys hl hys=>?_) (by decide) ?_
 ·simp![Zcn,bE];refine cY (n:=15) (n':=0) ZhB (by decide) ?_
  rintro _ ⟨day,rfl,hy⟩;simp![bE];exact cp ⟨day,rfl,hy⟩
 ·obtain⟨ds,rfl,hd⟩:=ZeC hys;rw[v9,cB]at hl;exact⟨ds,rfl,by omega,by omega,hd⟩
 ·rintro _ ⟨ds,rfl,h1,h3,hd⟩
  try simp![bE]
  exact cp ⟨ds,rfl,h1,h3,hd⟩
def Zhz:Al (t9 [.pen]) 11 λr=>∃s:Shp,r=.d s.d/\s.Ok/\s.n<=4/\∀m:Int,0<m->m<=9->(s.tm m).Ok:=by
 have r7:fe [.int 7]=.ret (bh 0 7):=gR rfl;have h7:small (bh 0 7).length=true:=bD<|by rw[cB];decide
 have ep:aL gi (.int 10) (.int 5)=.ret (.int 100000):=rfl;simp![t9,bE,ep];refine dw (n:=10) (by decide) (by decide) (by decide) λq q0 q1=>?_
 obtain⟨b,hb,b0,b1⟩:=Zcz (xs:=[PyData.int 3,.int 10,.int 60,.int 100000]) (lo:=3) (hi:=100000) (by simp[fQ]) q0 q1
 simp![bE,hb];refine dw (n:=9) (by decide) (by decide) (by decide) λt t0 t1=>?_
 simp![bE,r7,h7];refine cY (n:=7) (n':=2) (zg (n:=1) (P:=fQ 0 100000) (Q:=λys=>ys.length=7/\∀y∈ys,fQ 0 100000 y) (by rw[cB];decide) (λx hx=>?_) λys hl hys=>⟨by rw[hl,cB];rfl,hys⟩) (by decide) ?_
 ·simp![Zck,bE];refine dw (n:=0) (by omega) (by omega) (by decide) λv v0 v1=>?_
  try simp![bE]
  exact cp ⟨v,rfl,v0,by omega⟩
 rintro ys ⟨hl,hys⟩;obtain⟨a,b',c,d,e,f,g,rfl⟩:=ZjL hl;have hm:∀y∈[a,b',c,d,e,f,g],fQ 0 100000 y:=hys;simp only[Au,Bb,Ee,forall_eq_or_imp,forall_eq]at hm;obtain⟨⟨a,rfl,a0,a1⟩,⟨b',rfl,b0',b1'⟩,⟨c,rfl,c0,c1⟩,⟨d,rfl,d0,d1⟩,⟨e,rfl,e0,e1⟩,⟨f,rfl,f0,f1⟩,⟨g,rfl,g0,g1⟩⟩:=hm
 try simp![bE]
 refine dw (n:=1) (by decide) (by decide) (by decide) λr r0 r1=>?_
 have fin:∀a:Int,0<=a->a<=100000->∀u:Int,0<=u->u<4-t->(Shp.mk t u a b' c d e f g).Ok/\(Shp.mk t u a b' c d e f g).n<=4/\∀m:Int,0<m->m<=9->((Shp.mk t u a b' c d e f g).tm m).Ok:=λa a0 a1 u u0 u1=>by
  have hd:(Shp.mk t u a b' c d e f g).Dr:=⟨t0,u0,by show t+u<=39;omega,λn hn=>by have hn:n∈[a,b',c,d,e,f,g]:=hn;simp only[Au,Bb,Ee]at hn;omega⟩
  refine⟨hd.ok,by show(t+1 - -u).toNat<=4;omega,λm m0 m9=>?_⟩
  have hm:∀x:Int,0<=x->x<=100000->0<=m*x/\m*x<=1000000:=λx x0 x1=>⟨Ci (by omega) x0,Int.le_trans (Int.mul_le_mul m9 x1 x0<|by omega)<|by decide⟩
  have hd2:((Shp.mk t u a b' c d e f g).tm m).Dr:=⟨t0,u0,by show t+u<=39;omega,λn hn=>by
   have hn:n∈[m*a,m*b',m*c,m*d,m*e,m*f,m*g]:=hn;simp only[Au,Bb,Ee]at hn;rcases hn with rfl|rfl|rfl|rfl|rfl|rfl|rfl
   ·exact hm _ a0 a1
   ·exact hm _ b0' b1'
   ·exact hm _ c0 c1
   ·exact hm _ d0 d1
   ·exact hm _ e0 e1
   ·exact hm _ f0 f1
   ·exact hm _ g0 g1⟩
  exact hd2.ok
 have hs:small ([PyData.int t,.int 0].length+[PyData.int a,.int b',.int c,.int d,.int e,.int f,.int g].length)=true:=bD<|by show 9<=10000;decide
 cases hb:(r==0)
 ·simp![bE,hb];refine dw (n:=0) (by omega) (by omega) (by decide) λu u0 u1=>?_
  try simp![bE]
  rw[Za6];exact cp ⟨_,rfl,fin a a0 a1 u u0 u1⟩
 ·simp![bE,hb,ZkQ (xs:=[PyData.int a,.int b',.int c,.int d,.int e,.int f,.int g]) (y:=0) (t:=0) rfl];refine dw (n:=0) (by omega) (by omega) (by decide) λu u0 u1=>?_
  try simp![bE]
  rw[Za6];exact cp ⟨_,rfl,fin 0 (by decide) (by decide) u u0 u1⟩
structure WsOk(s:Shp)(ds0:List (List Du))(Fs:List WF):Prop where
 len:Fs.length=5
 all:∀(k:Nat)(F:WF),Fs[k]?=some F->∃f:fY,WfOk s ds0.length F f/\(k=0->f=ly s ds0)
def Zk5{jw:Nat}{W:EQ WF->Hp->V->Prop}{Fs:EQ WF}{f:WF->EQ Sl->Tr Re}{js:Dj}{ik:Di}{xs:Dt}{n:Int}{r:Re}(h:ρ[jw]?=some (.pr<|W Fs))(hj:js ρ=.ret xs)(hi:ik ρ=.ret (.int n))(hF:ba Fs n=some F)(hf:f F (xs.map Sl.d++[.pen])=.ret r) :
  rT jw W Fs f js ik ρ=.ret r:=by unfold rT;rw[DD h,hj,Tr.ret_bind,hi,Tr.ret_bind];simp only[hF,hf]
def ZkN{j:Nat}{W:EQ WF->Hp->V->Prop}{i1 i2:EQ Sl->Tr (EQ WF)}{t:EQ WF->EQ Sl->Tr Ou}(h:(ρ.all tF&&decide (j<ρ.length))=true) :
  rM j W i1 i2 t ρ=(i1 ρ).bind λF1=>(i2 ρ).bind λF2=>if decide (F1.length+F2.length<=1000)=true then (t (F1++F2)<|ρ.set j<|.pr<|W<|F1++F2).bind qO else .fail:=by unfold rM;rw[DD h]
theorem Zfm{h:ES->Tr WF}{P:WF->Prop}{n:Nat}:∀{xs:Dt},(∀x∈xs,Al (h x) n P)->Al (kT h xs) (xs.length*n) λys=>ys.length=xs.length/\∀y∈ys,P y
 | [],_=>cp ⟨rfl,λ_ h=>nomatch h⟩
 | x::xs,hx=>by
  unfold kT;refine cY (n:=n) (n':=xs.length*n) (hx x Aj) (by rw[Ac,BM];omega) λy hy=>?_
  refine cY (n:=xs.length*n) (n':=0) (Zfm λz hz=>hx z<|Ab _ hz) (by omega) λys hys=>?_
  refine cp ⟨by rw[Ac,Ac,hys.1],λz hz=>?_⟩
  rcases Au.mp hz with e|e
  ·subst e;exact hy
  ·exact hys.2 z e
def Zhy(h:s.Ok){ds0:EQ (EQ Du)}(hl:ds0.length<=3){l:Dz} :
  Al (rQ (fG<|af (aC<|.int 4) ao) 1 [1,0] (aj 0) sW (.pen::.d s.d::l)) 4 λFs=>Fs.length=4/\∀F∈Fs,∃f:fY,WfOk s ds0.length F f:=by
 have rr:fe [.int 4]=.ret (bh 0 4):=gR rfl;have hs:small (bh 0 4).length=true:=bD<|by rw[cB];decide
 unfold rQ;simp![rr,hs];refine rJ (Zfm (n:=1) (P:=λF=>∃f:fY,WfOk s ds0.length F f) λx hx=>?_) (by rw[cB];decide) λFs hF=>⟨by rw[hF.1,cB];rfl,hF.2⟩
 show Al (sW [.d x,.d s.d,.pen]) 1 _;unfold sW rP;have ep:aL gi (.int 10) (.int 9)=.ret (.int 1000000000):=rfl;simp![bE,ep];refine dw (n:=0) (by decide) (by decide) (by decide) λr r0 r1=>?_
 try simp![bE]
 exact cp ⟨_,ZfX h (bc (by show -1099511627776<r;omega)<|by show r<1099511627776;omega) hl⟩
def Zld(h:s.Ok){day:EQ Du}{r:EQ (EQ Du)}(hd:∀d∈day::r,DdB d)(hw:∀d∈day::r,∃wd,Wide wd d)(hl:(day::r).length<=3){W:EQ WF->Hp->V->Prop}{Fs:EQ WF}(hF:WsOk s (day::r) Fs)(hp:p∈s.sts)(hk:k<5){a c e f J10' J11':Sl} :
  ∃Fb E9:Sl,qZ W Fs [a,.d s.d,.d<|bn (day::r),c,.d<|pD<|bf s<|s.sts.map<|s.pkE day r,.pr<|W Fs,e,f,.d<|am p,.d<|.int k,J10',J11']=.ret (.next [a,.d s.d,.d<|bn (day::r),c,.d<|pD<|bf s<|s.sts.map<|s.pkE day r,.pr<|W Fs,e,f,.d<|am p,.d<|.int k,Fb,E9]):=by
 obtain⟨⟨x1,x2⟩,y1,y2⟩:=(aV h).mp hp;have hkl:k<Fs.length:=by rw[hF.len];exact hk
 obtain⟨g,hg,h0⟩:=hF.all k Fs[k]<|by simp[hkl]
 have hat:ba Fs (k:Int)=some Fs[k]:=eV<|by simp[hkl]
 have ew:=Zd1 h hd hw hl hg (ds:=day::r) (t:=0) rfl (A0 _) (n:=4) (by omega) hp (row:=[]) rfl (λq hq=>by cases hq)
 have nw:=vS h hg.mem hd 0 p [] hp;have ge:=Zam h hg.mem hd 0 p [] hp;obtain⟨k1,k2,k3⟩:=eG h hd;have told:k=0->s.wal g (day::r) 0 p []=(s.dk (day::r)).1 p.1 p.2:=λz=>by rw[h0 z];exact Zal h (ds0:=day::r) (λt day' r' p row e hp=>by unfold ly;rw[e]) 0 rfl p [] hp
 have nK:=k1 _ _ x1 x2 y1 y2;have gc:=rE h (day:=day) (r:=r) hp;have gc:aL cT (pD<|bf s<|s.sts.map<|s.pkE day r) (am p)=.ret (br ((s.dk (day::r)).1 p.1 p.2) (s.dk (day::r)).2):=gc;have ec:=Zk5 (jw:=5) (W:=W) (Fs:=Fs) (f:=λF=>eu F 4) (js:=af (aa 1)<|af (aa 2)<|af (aC<|.int 0)<|af (aa 8)<|af (bL ao) ao) (ik:=aa 9) (ρ:=[a,.d s.d,.d<|bn (day::r),c,.d<|pD<|bf s<|s.sts.map<|s.pkE day r,.pr<|W Fs,e,f,.d<|am p,.d<|.int k,J10',J11'])
  (xs:=[s.d,bn (day::r),.int 0,am p,.tuple []]) (n:=k) (F:=Fs[k]) rfl (by simp![A5]) (by simp only[lF,lE,pI,oV,oU,pz,pj,pq,lU,oN,oD,np,oE,oC,nk,nT,dN,fU,iP,iO,jK,jJ,jI,jH,jG,jF,nj,ni,lT,lM,lS,lR,lQ,lP,lN,lO,ph,mY,ng,pf,pg,mW,mX,m8,pe,pb,pc,oo,om,on,nh,oM,oK,oJ,lL,lK,ny,nv,nD,nz,bD,oS,oO,nH,iK,pA,nu,nX,nY,lJ,lG,iI,fw,lZ,lY,lX,lW,lV,mT,mS,mR,lH,jv,pE,pF,pH,pG,mO,mM,pC,pB,oT,mL,mK,oI,oz,oy,mj,mf,me,mi,mh,l4,oa,n6,n8,mJ,mI,mH,mG,mF,mE,mD,mC,mB,md,ma,l9,l8,kX,kW,oY,oX,oW,oq,mV,mU,o9,o7,o6,mz,my,ot,lq,lr,lp,lm,lu,o5,oZ,mZ,lg,le,lh,lj,lf,mQ,mP,nW,nV,nU,mv,mr,lD,lC,lB,lA,lz,oF,oH,oG,ow,ou,lw,nR,nQ,nO,kO,kP,kR,kQ,nI,nJ,nF,nE,nL,nN,nM,og,oi,oj,oh,oR,oQ,ox,l7,l6,l5,pw,gv,li,mx,mq,mo,mw,ml,oB,oA,iJ,Tw.kl,Tw.kj,Tw.ki,Tw.kh,Tw.kg,Tw.kc,Tw.ka,Tw.j9,Tw.j8,jz,nq,nZ,kz,Tr.of_some,Tr.bind_assoc,Tr.draw_bind,Bc,Br,AB,BQ,Ac,AK,Re.val_d,Re.val_own,blk,iN,Af,Bo,BF,AH,B6,Nat.reduceAdd,Nat.reduceLeDiff,A5]) hat ew
 have ix0:aL ak (br ((s.dk (day::r)).1 p.1 p.2) (s.dk (day::r)).2) (.int 0)=.ret (.int<|Gc.bS ((s.dk (day::r)).1 p.1 p.2) (s.dk (day::r)).2):=rfl;have ix1:aL ak (br ((s.dk (day::r)).1 p.1 p.2) (s.dk (day::r)).2) (.int 1)=.ret (.int<|Gc.bO ((s.dk (day::r)).1 p.1 p.2) (s.dk (day::r)).2):=rfl;have nl:(day::r).length<=3:=hl;generalize (day::r).length=L at *;generalize s.wal g (day::r) 0 p []=X at *;generalize (s.dk (day::r)).1 p.1 p.2=A at *;generalize (s.dk (day::r)).2=B at *;have hB:B≠0:=by omega
 obtain⟨s1,s2,s3,_⟩:=Gc.eA (t:=A) hB;have f1:=aB nw<|by omega
 have f2:=aB (cm nK k2 hB).2 (by omega)
 have f3:=aB (cm nK k2 hB).1 (by omega)
 have f4:=aB k2<|by omega
 have E6:decide (X*Gc.bO A B<Gc.bS A B*B)=false:=by
  have e1:Gc.bS A B*B=A*Gc.bO A B:=by
   have q:Gc.bS A B*(Gc.den A B*Gc.bO A B)=Gc.den A B*Gc.bS A B*Gc.bO A B:=by rw[<- BZ,A4<|Gc.bS A B]
   rw[<- s1,<- s2]at q;exact q
  have e2:A*Gc.bO A B<=X*Gc.bO A B:=CU ge<|BU s3;rw[e1];exact DG<|by omega
 have rk:=rm<|qA (wQ (aM (cm nK k2 hB).1 (show 102+150*L<=1900 by omega))<|aM (cm nK k2 hB).2 (show 102+150*L<=1900 by omega)) (by decide)<|by decide
 have rk:bz di [br A B]=.ret (.str (br A B).shown):=rk;cases k with
 | zero =>
  have eX:=told rfl;subst eX;have es:=yz (t:=X) (by omega:0<B)<|aM k2<|by omega
  have eb:(((0:Nat):Int)==0)=true:=rfl;simp![qZ,ec,eb,gc,es,rk,qo,ix0,ix1,f1,f2,f3,f4,E6,CK];exact⟨_,_,rfl⟩
 | succ k =>
  have eb:(((k+1:Nat):Int)==0)=false:=by
   have:((k+1:Nat):Int)≠0:=by omega
   simpa using this
  simp![qZ,ec,eb,gc,ix0,ix1,f1,f2,f3,f4,E6];exact⟨_,_,rfl⟩
def Zms(h:s.Ok)(h7:s.n<=7){day:EQ Du}{r:EQ (EQ Du)}:yN j4 [pD<|bf s<|s.sts.map<|s.pkE day r]=.ret (s.sts.map am):=by
 have hl:(bf s<|s.sts.map<|s.pkE day r).length<64:=by have:=DI List.length<|pJ (s:=s) (es:=s.sts.map<|s.pkE day r)<|v9 ..;rw[v9,v9,dX]at this;have:s.n*s.n<=7*7:=Bn h7 h7;omega
 rw[ZkP (yL h<|v9 ..) hl<|by rw[pJ<|v9 ..];exact ZbJ<|jZ s]
 have:=DI (List.map λk:Du=>PyData.tuple<|k.map PyData.int)<|pJ (s:=s) (es:=s.sts.map<|s.pkE day r)<|v9 ..;rw[Av,Av]at this;exact DI Tr.ret this
def ZhT{n:Nat}{a:ES}(h:a∈bh 0 n):∃k:Nat,k<n/\a=.int k:=by
 obtain⟨x,hx,rfl⟩:=AM.mp h;have:=jb hx;have e:((n:Int)-0).toNat=n:=by omega
 rw[e]at this;exact⟨x.toNat,by omega,by congr 1;omega⟩
def Zlk(h:s.Ok){day:EQ Du}{r:EQ (EQ Du)}(hd:∀d∈day::r,DdB d)(hw:∀d∈day::r,∃wd,Wide wd d)(hl:(day::r).length<=3){W:EQ WF->Hp->V->Prop}{Fs:EQ WF}(hF:WsOk s (day::r) Fs)(hp:p∈s.sts){a c e f J9 Fb E9:Sl} :
  Al (cI (aj 9) (qZ W Fs) (bh 0 5) [a,.d s.d,.d<|bn (day::r),c,.d<|pD<|bf s<|s.sts.map<|s.pkE day r,.pr<|W Fs,e,f,.d<|am p,J9,Fb,E9]) 0 λo=>∃J9 Fb E9:Sl,o=.next [a,.d s.d,.d<|bn (day::r),c,.d<|pD<|bf s<|s.sts.map<|s.pkE day r,.pr<|W Fs,e,f,.d<|am p,J9,Fb,E9]:=by
 refine Zfo (n:=0) (λρ=>∃J9 Fb E9:Sl,ρ=[a,.d s.d,.d<|bn (day::r),c,.d<|pD<|bf s<|s.sts.map<|s.pkE day r,.pr<|W Fs,e,f,.d<|am p,J9,Fb,E9]) ⟨_,_,_,rfl⟩ (by rw[cB];decide) ?_<|λρ ⟨J9,Fb,E9,e⟩=>⟨J9,Fb,E9,by rw[e]⟩
 rintro x ρ hx ⟨J9,Fb,E9,rfl⟩;obtain⟨k,hk,rfl⟩:=ZhT (n:=5) hx;refine⟨_,rfl,?_⟩;obtain⟨J10',J11',e1⟩:=Zld h hd hw hl hF hp (k:=k) hk (a:=a) (c:=c) (e:=e) (f:=f) (J10':=Fb) (J11':=E9);exact ZnQ e1 ⟨_,rfl,_,_,_,rfl⟩
def Zla(h:s.Ok)(h7:s.n<=7){day:EQ Du}{r:EQ (EQ Du)}(hd:∀d∈day::r,DdB d)(hw:∀d∈day::r,∃wd,Wide wd d)(hl:(day::r).length<=3){W:EQ WF->Hp->V->Prop} :
  Al (t7 W [.pen,.d s.d,.d<|bn (day::r),.d<|.tuple<|s.dtab (day::r),.d<|pD<|bf s<|s.sts.map<|s.pkE day r]) 6 λo=>o=.d (.bool true):=by
 have hp:(([.pen,.d s.d,.d<|bn (day::r),.d<|.tuple<|s.dtab (day::r),.d<|pD<|bf s<|s.sts.map<|s.pkE day r,.un,.un,.un,.un,.un,.un,.un]:Dz).all tF&&decide (5<([.pen,.d s.d,.d<|bn (day::r),.d<|.tuple<|s.dtab (day::r),.d<|pD<|bf s<|s.sts.map<|s.pkE day r,.un,.un,.un,.un,.un,.un,.un]:Dz).length))=true:=rfl;have e1:zn (rP 2 x9<|af (aa 1)<|af (aa 3) ao) [.pen,.d s.d,.d<|bn (day::r),.d<|.tuple<|s.dtab (day::r),.d<|pD<|bf s<|s.sts.map<|s.pkE day r,.un,.un,.un,.un,.un,.un,.un]=.ret [f9 3 iY [s.d,.tuple<|s.dtab (day::r)]]:=rfl;have r5:fe [.int 5]=.ret (bh 0 5):=gR rfl;have r2:fe [.int 2]=.ret (bh 0 2):=gR rfl;have esrt:=Zms h h7 (day:=day) (r:=r);have hn:=h.n_eq;have ht0:=h.t0;have hd0:=h.d0;have hsn:1<=s.n*s.n:=Bn (show 1<=s.n by omega)<|show 1<=s.n by omega
 have hsn2:s.n*s.n<=7*7:=Bn h7 h7;simp![t7,bE,ZkN hp,e1];refine cY (n:=4) (n':=2) (Zhy h hl) (by decide) ?_
 rintro Fs ⟨hFl,hFa⟩;have hle:decide (1+Fs.length<=1000)=true:=by rw[hFl];rfl
 have hW:WsOk s (day::r) (f9 3 iY [s.d,.tuple<|s.dtab (day::r)]::Fs):=by
  refine⟨by rw[Ac,hFl],λk F hk=>?_⟩
  cases k with
  | zero =>
   cases hk;exact⟨_,ZfW h h7,λ_=>rfl⟩
  | succ k =>
   have hk:Fs[k]?=some F:=hk;obtain⟨f,hf⟩:=hFa F<|AD hk;exact⟨f,hf,λz=>absurd z<|Nat.succ_ne_zero _⟩
 rw[DD hle];generalize f9 3 iY [s.d,.tuple<|s.dtab (day::r)]::Fs=Gs at *;simp![bE,esrt,r2];refine cY (n:=2) (n':=0) (P:=λo=>∃J7 J8 J9 Fb E9:Sl,o=.next [.pen,.d s.d,.d<|bn (day::r),.d<|.tuple<|s.dtab (day::r),.d<|pD<|bf s<|s.sts.map<|s.pkE day r,.pr<|W Gs,.d<|.list<|s.sts.map am,J7,J8,J9,Fb,E9]) ?_ (by decide) ?_
 ·refine Zfo (n:=1) (λρ=>∃J7 J8 J9 Fb E9:Sl,ρ=[.pen,.d s.d,.d<|bn (day::r),.d<|.tuple<|s.dtab (day::r),.d<|pD<|bf s<|s.sts.map<|s.pkE day r,.pr<|W Gs,.d<|.list<|s.sts.map am,J7,J8,J9,Fb,E9]) ⟨_,_,_,_,_,rfl⟩ (by rw[cB];decide) ?_ (λρ ⟨J7,J8,J9,Fb,E9,e⟩=>⟨J7,J8,J9,Fb,E9,by rw[e]⟩)
  rintro x ρ hx ⟨J7,J8,J9,Fb,E9,rfl⟩;refine⟨_,rfl,?_⟩;simp![Zdh,bE,v9,dX];refine dw (n:=0) (by omega) (by omega) (by decide) λq q0 q1=>?_
  obtain⟨q,rfl⟩:=Bl q0;have hq:q<s.sts.length:=by rw[dX];omega
  have hp:s.sts[q]∈s.sts:=BH hq;have hat:ba (s.sts.map am) (q:Int)=some (am s.sts[q]):=eV<|by simp[hq]
  generalize s.sts[q]=p at *;simp![bE,hat,r5];refine rJ (Zlk h hd hw hl hW hp) (Ag _) ?_;rintro _ ⟨J9,Fb,E9,rfl⟩;exact⟨_,rfl,_,_,_,_,_,rfl⟩
 ·rintro _ ⟨J7,J8,J9,Fb,E9,rfl⟩;simp![bE,qO];exact cp rfl
def ZhJ{t:Int}(h0:b≠0)(ht:nb 1900 t)(hb:nb 1900 b):Rp (br t b) 1 4000:=by
 obtain⟨n1,n2⟩:=cm ht hb h0;refine dY (qz (l:=[Gc.bS t b,Gc.bO t b]) (m:=2) (λn hn=>?_)<|Ag _) (Ag _)<|by decide
 simp at hn;rcases hn with rfl|rfl
 ·exact n1
 ·exact n2
def ZhG{a b:ES}{n:Nat}(ha:Rp a k n)(hb:Rp b k n):Rp (.tuple [a,b]) (k+1) (2*n+20):=dY (i9 (k:=k) (n:=n) λx hx=>by
 simp at hx;rcases hx with rfl|rfl
 ·exact ha
 ·exact hb) (Ag _)<|by show 2*n+2*2+10<=_;omega
def su{a n:Nat}(h:a<=k):a*n+2*a+10<=k*n+2*k+10:=by have:=Nat.mul_le_mul_right n h;omega
def ZhN{day:EQ Du}(h:DdB day):Rp (fD day) 2 18000:=by
 refine dY (i9 (k:=1) (n:=5800) λy hy=>?_) (Ag _)<|Ap (su<|by rw[v9];exact h.len)<|by decide
 obtain⟨l,hl,rfl⟩:=AM.mp hy;obtain⟨l1,l2⟩:=h.row l hl;exact dY (qz (m:=3) (λn hn=>aM (r8<|l2 n hn)<|by decide) l1) (Ag _)<|by decide
def ZhO{ds:EQ (EQ Du)}(h:∀d∈ds,DdB d)(hl:ds.length<=3):Rp (bn ds) 3 60000:=by
 refine dY (i9 (k:=2) (n:=18000) λy hy=>?_) (Ag _)<|Ap (su<|by rw[v9];exact hl)<|by decide
 obtain⟨d,hd,rfl⟩:=AM.mp hy;exact ZhN<|h d hd
def Ziv(h:s.Ok){day:EQ Du}{r:EQ (EQ Du)}(hp:p∈s.sts):∃q∈s.sts,(s.pick day r p).2=kS q:=by
 obtain⟨⟨a1,a2⟩,b1,b2⟩:=(aV h).mp hp;obtain⟨q,hq,e⟩:=yU h (W:=s.w2 day (s.dk r).1 (s.dk r).2) (c:=(s.dk r).2*aQ day) hp;obtain⟨⟨q1,q2⟩,q3,q4⟩:=(eM a2 b2).mp hq;refine⟨q,(aV h).mpr ⟨⟨by omega,q2⟩,by omega,q4⟩,?_⟩
 unfold Shp.pick;rw[e]
def ZhM(h:s.Ok)(h7:s.n<=7){day:EQ Du}{r:EQ (EQ Du)}(hd:∀d∈day::r,DdB d)(hl:(day::r).length<=3):Rp (.tuple<|s.ddayL day r) 3 500000:=by
 rw[Ac]at hl;obtain⟨k1,k2,k3⟩:=eG h (ds:=day::r) hd;have hc:(s.dk (day::r)).2=(s.dk r).2*aQ day:=rfl;rw[hc]at k2 k3;refine dY (i9 (k:=2) (n:=8100) λy hy=>?_) (Ag _) ?_
 ·obtain⟨p,hp,rfl⟩:=AM.mp hy;obtain⟨⟨a1,a2⟩,b1,b2⟩:=(aV h).mp hp;obtain⟨q,hq,e⟩:=Ziv h (day:=day) (r:=r) hp;obtain⟨⟨c1,c2⟩,d1,d2⟩:=(aV h).mp hq;have n1:nb 1900 (s.pick day r p).1:=aM (k1 p.1 p.2 a1 a2 b1 b2) (by rw[Ac];omega)
  refine dY (ZhG (k:=1) (n:=4000) (ZhJ (by omega) n1<|aM k2<|by rw[Ac];omega) ?_) (Ag _)<|by decide
  rw[e];refine dY (qz (l:=kS q) (m:=2) (λn hn=>?_)<|Ag _) (Ag _)<|by decide
  have hn:n∈[q.1,q.2]:=hn;simp only[Au,Bb,Ee]at hn;rcases hn with rfl|rfl
  ·exact aM (dF h c1 c2)<|by decide
  ·exact aM (dF h d1 d2)<|by decide
 ·have hlen:(s.ddayL day r).length<=49:=by unfold Shp.ddayL;rw[v9,dX];exact Ap (Bn h7 h7) (by decide)
  exact Ap (su hlen)<|by decide
theorem ZbE{s:Shp}(h:s.Ok)(h7:s.n<=7):∀{ds:EQ (EQ Du)},(∀d∈ds,DdB d)->ds.length<=3->∀y∈s.dtab ds,Rp y 3 500000
 | [],_,_,y,hy=>by cases hy
 | day::r,hd,hl,y,hy=>by
  rw[Shp.dtab]at hy;rcases Au.mp hy with rfl|hy
  ·exact ZhM h h7 hd hl
  ·exact ZbE h h7 (λd Fa=>hd d<|Ab _ Fa) (by rw[Ac]at hl;omega) y hy
theorem yC(s:Shp):∀R:EQ (EQ Du),(s.dtab R).length=R.length
 | []=>rfl
 |d::R=>by rw[Shp.dtab,Ac,Ac,yC s R]
def ZbD(h:s.Ok)(h7:s.n<=7){ds:EQ (EQ Du)}(hd:∀d∈ds,DdB d)(hl:ds.length<=3):Rp (.tuple<|s.dtab ds) 4 2000000 :=
 dY (i9 (k:=3) (n:=500000)<|ZbE h h7 hd hl) (Ag _) (Ap (su<|by rw[yC];exact hl)<|show 3*500000+2*3+10<=2000000 by decide)
def ZhK(h:s.Ok)(h7:s.n<=7){ds:EQ (EQ Du)}(hd:∀d∈ds,DdB d)(hl:ds.length<=3):ja (.tuple [s.d,bn ds,.tuple<|s.dtab ds])=true:=by
 refine qA (i9 (k:=4) (n:=2000000) λz hz=>?_) (by decide)<|by show 3*2000000+2*3+10<=_;decide
 simp only[Au,Bb,Ee]at hz;rcases hz with rfl|rfl|rfl
 ·exact dY (ZhI h) (by decide)<|by decide
 ·exact dY (ZhO hd hl) (by decide)<|by decide
 ·exact ZbD h h7 hd hl
def ZhH(h:s.Ok)(h7:s.n<=7){ds:EQ (EQ Du)}(hd:∀d∈ds,DdB d)(hl:ds.length<=3):ja (.tuple<|s.dtab ds)=true:=qA (ZbD h h7 hd hl) (by decide)<|by decide
def Zed(h:s.Ok)(h7:s.n<=7){day:EQ Du}{r:EQ (EQ Du)}:iC [.d s.d,.d<|.tuple<|s.dtab (day::r)]=.ret (.d<|pD<|bf s<|s.sts.map<|s.pkE day r):=by rw[sx h];exact Zee h h7 (es:=s.sts.map<|s.pkE day r) (P:=s.tbE r)<|v9 ..
theorem Zd4:∀{ds ds':EQ (EQ Du)},Trw ds ds'->aX (bP (aj 0) tq [.un]) (ds.map fD)=.ret (ds'.map fD)
 |_,_,.nil=>rfl
 | _,_,.cons (wd:=wd) (day:=day) hw ht=>by
  have e:=Zd3 hw;have q:bP (aj 0) tq [.un] (fD day)=.ret (fD<|tr wd day):=by simp![tq,e]
  rw[Af,aX,q,Tr.ret_bind,Zd4 ht,Tr.ret_bind]
  rfl
theorem ZcX{h:ES->Tr (ER ES)}:∀{l:EQ Pt},(∀p∈l,h (am p)=.ret none)->eP h (l.map am)=.ret []
 | [],_=>rfl
 | p::l,e=>by
  rw[Af,eP,e p<|Aj ..,Tr.ret_bind,ZcX λq hq=>e q<|Ab _ hq,Tr.ret_bind]
  rfl
def Zlp(h:s.Ok){day day':EQ Du}{r r':EQ (EQ Du)}(ht:Trw (day::r) (day'::r'))(hd:∀d∈day::r,DdB d)(hl:(day::r).length<=3) :
  eP (λx=>(Tr.of<|aj 0 x [.un,.d<|pD<|bf s<|s.sts.map<|s.pkE day r,.d<|pD<|bf s<|s.sts.map<|s.pkE day' r']).bind<|gQ kH tj) (s.sts.map am)=.ret []:=by
 refine ZcX λp hp=>?_;obtain⟨⟨x1,x2⟩,y1,y2⟩:=(aV h).mp hp;obtain⟨k1,k2,k3⟩:=eG h hd;have nK:=k1 _ _ x1 x2 y1 y2;have hp':((p.2,p.1):Pt)∈s.sts:=(aV h).mpr ⟨⟨y1,y2⟩,x1,x2⟩;obtain⟨t1,t2⟩:=Zel h ht.t;have g1:=rE h (day:=day) (r:=r) hp;have g2:=rE h (day:=day') (r:=r') hp';have g1:aL cT (pD<|bf s<|s.sts.map<|s.pkE day r) (am p)=.ret (br ((s.dk (day::r)).1 p.1 p.2) (s.dk (day::r)).2):=g1;have g2:aL cT (pD<|bf s<|s.sts.map<|s.pkE day' r') (.tuple [.int p.2,.int p.1])=.ret (br ((s.dk (day'::r')).1 p.2 p.1) (s.dk (day'::r')).2):=g2;rw[t1,t2 p.2 p.1 y1 y2 x1 x2]at g2;generalize (day::r).length=L at *;generalize (s.dk (day::r)).1 p.1 p.2=A at *;generalize (s.dk (day::r)).2=B at *;have hB:B≠0:=by omega
 have rk:=rm<|qA (wQ (aM (cm nK k2 hB).1 (show 102+150*L<=1900 by omega))<|aM (cm nK k2 hB).2 (show 102+150*L<=1900 by omega)) (by decide)<|by decide
 have rk:bz di [br A B]=.ret (.str (br A B).shown):=rk;show gQ kH tj [.d<|am p,.d<|pD<|bf s<|s.sts.map<|s.pkE day r,.d<|pD<|bf s<|s.sts.map<|s.pkE day' r']=_;have ep:kH [.d<|am p,.d<|pD<|bf s<|s.sts.map<|s.pkE day r,.d<|pD<|bf s<|s.sts.map<|s.pkE day' r']=.ret false:=by simp![kH,g1,im,il,g2,rk,qo,CK]
 unfold gQ;rw[ep]
 rfl
def Zlt(h:s.Ok){m:Int}(hm:nb 10 m):aX (bP (aj 0) sZ [.un,.d<|.int m]) [.int s.start,.int s.piece,.int s.keep,.int s.lack,.int s.lost,.int s.back,.int s.late]=.ret [.int<|m*s.start,.int<|m*s.piece,.int<|m*s.keep,.int<|m*s.lack,.int<|m*s.lost,.int<|m*s.back,.int<|m*s.late]:=by
 have fm:=aB hm<|by decide
 have f1:=aB h.start<|by decide
 have f2:=aB h.piece<|by decide
 have f3:=aB h.keep<|by decide
 have f4:=aB h.lack<|by decide
 have f5:=aB h.lost<|by decide
 have f6:=aB h.back<|by decide
 have f7:=aB h.late<|by decide
 have q:∀x:Int,fit x=true->bP (aj 0) sZ [.un,.d<|.int m] (.int x)=.ret (.int<|m*x):=λx fx=>by rw[A4];simp![sZ,fx,fm]
 simp only[aX,q _ f1,q _ f2,q _ f3,q _ f4,q _ f5,q _ f6,q _ f7,Tr.ret_bind]
def Zlz{A B m:Int}(hB:0<B)(hm:nb 10 m)(m0:0<m)(nA:nb 1000 A)(nB:nb 1000 B):jl [.d<|.int<|Gc.bS A B*m,.d<|.int<|Gc.bO A B]=.ret (.d<|br (m*A) B):=by
 have hB0:B≠0:=by omega
 obtain⟨s1,s2,s3,_⟩:=Gc.eA (t:=A) hB0;have g0:=rq (t:=A) hB;rw[yz s3<|aM (cm nA nB hB0).2 (by decide)]
 have q:=wm (t:=m*Gc.bS A B) s3 g0;rw[<- s2]at q;rw[A4 _ m,<- q];have e:Gc.den A B*(m*Gc.bS A B)=m*A:=by rw[A7,<- s1]
 rw[e]
def Zls(h:s.Ok)(h7:s.n<=7){m:Int}(hm:nb 10 m)(m0:0<m){day:EQ Du}{r:EQ (EQ Du)}(hd:∀d∈day::r,DdB d)(hl:(day::r).length<=3):qF [.d<|.tuple<|s.ddayL day r,.d<|.int m]=.ret (.tuple<|(s.tm m).ddayL day r):=by
 obtain⟨k1,k2,k3⟩:=eG h hd;obtain⟨t1,t2⟩:=Zem h m0 r;have hs:small (s.ddayL day r).length=true:=bD<|by unfold Shp.ddayL;rw[v9,dX];exact Ap (Bn h7 h7)<|by decide
 have hc:(s.dk (day::r)).2=(s.dk r).2*aQ day:=rfl;rw[hc]at k2 k3;have key:aX (bP (bB<|aK (aj 0)<|aK (aj 1) bx) sY [.un,.un,.d<|.int m]) (s.ddayL day r)=.ret ((s.tm m).ddayL day r):=by
  refine dE λp hp=>?_;have hp:p∈s.sts:=hp;obtain⟨⟨x1,x2⟩,y1,y2⟩:=(aV h).mp hp;have nA:nb (102+150*(day::r).length) (s.pick day r p).1:=k1 p.1 p.2 x1 x2 y1 y2;rw[Zcy h m0 ⟨rfl,t1,t2⟩ day hp,t1];show bP _ sY _ (.tuple [br (s.pick day r p).1 ((s.dk r).2*aQ day),.tuple<|(s.pick day r p).2.map PyData.int])=.ret (.tuple [br (m*(s.pick day r p).1)<|(s.dk r).2*aQ day,.tuple<|(s.pick day r p).2.map PyData.int]);have nl:(day::r).length<=3:=hl;generalize (day::r).length=L at *;generalize (s.pick day r p).1=A at *;generalize (s.dk r).2*aQ day=B at *;have ix0:aL ak (br A B) (.int 0)=.ret (.int<|Gc.bS A B):=rfl;have ix1:aL ak (br A B) (.int 1)=.ret (.int<|Gc.bO A B):=rfl;have e:=Zlz k3 hm m0 (aM nA<|by omega)<|aM k2<|by omega
  have f1:=aB hm<|by decide
  have f2:=aB (cm nA k2 (by omega:B≠0)).1 (by omega)
  have eg:bB (aK (aj 0)<|aK (aj 1) bx) (.tuple [br A B,.tuple<|(s.pick day r p).2.map PyData.int]) [.un,.un,.d<|.int m]=some [.d<|br A B,.d<|.tuple<|(s.pick day r p).2.map PyData.int,.d<|.int m]:=rfl;simp![sY,eg,ix0,ix1,f1,f2,e]
 simp![qF,hs,key]
theorem Zec{s:Shp}(h:s.Ok)(h7:s.n<=7){m:Int}(hm:nb 10 m)(m0:0<m):∀{ds:EQ (EQ Du)},(∀d∈ds,DdB d)->ds.length<=3->aX (bP (aj 0) qF [.un,.d<|.int m]) (s.dtab ds)=.ret ((s.tm m).dtab ds)
 | [],_,_=>rfl
 | day::r,hd,hl=>by
  have e:=Zls h h7 hm m0 hd hl;have ih:=Zec h h7 hm m0 (ds:=r) (λd Fa=>hd d<|Ab _ Fa)<|by rw[Ac]at hl;omega
  have q:bP (aj 0) qF [.un,.d<|.int m] (.tuple<|s.ddayL day r)=.ret (.tuple<|(s.tm m).ddayL day r):=e;rw[Shp.dtab,aX,q,Tr.ret_bind,ih,Tr.ret_bind]
  rfl
theorem ZaB:∀{ds:EQ (EQ Du)},(∀d∈ds,∃wd,Wide wd d)->∃ds',Trw ds ds'
 | [],_=>⟨[],.nil⟩
 |d::ds,h=>by obtain⟨wd,hw⟩:=h d<|Aj ..;obtain⟨ds',ht⟩:=ZaB (ds:=ds) λx hx=>h x<|Ab _ hx;exact⟨_,.cons hw ht⟩
def Zj0(W:EQ WF->Hp->V->Prop):Al (uh W xW) 70 λo=>o=.ret (.d<|.bool true):=by
 simp![uh,xW,bE];refine dw (n:=69) (by decide) (by decide) (by decide) λm m0 m1=>?_
 try simp![bE]
 refine cY (n:=11) (n':=58) Zhz (by decide) ?_
 rintro _ ⟨s,rfl,h,h4,hT⟩;have h7:s.n<=7:=by omega
 simp![bE];refine cY (n:=46) (n':=12) ZhA (by decide) ?_
 rintro _ ⟨ds,rfl,l1,l3,hdw⟩;have hd:∀d∈ds,DdB d:=λd hd=>(hdw d hd).1;have hw:∀d∈ds,∃wd,Wide wd d:=λd hd=>(hdw d hd).2;obtain⟨ds',ht⟩:=ZaB hw;have Fa:=ht.dd hd;have l3':ds'.length<=3:=by rw[ht.len];exact l3
 cases ht with
 |nil=>simp at l1
 |@cons wd day r r' hwd ht0 =>
 have ht:Trw (day::r) (tr wd day::r'):=.cons hwd ht0;have hm:nb 10 (2+m):=bc (by show -1024<_;omega)<|by show _<1024;omega
 have hTm:=hT (2+m) (by omega)<|by omega
 have e1:=uQ h h7 hd l3;have e1':=uQ h h7 Fa l3';have e1t:=uQ hTm (show(s.tm<|2+m).n<=7 from h7) hd l3
 have r3:=rm<|ZhK h h7 hd l3;have c1:=Zed h h7 (day:=day) (r:=r);have c2:=Zed h h7 (day:=tr wd day) (r:=r');have id0:cH (bn (day::r))=.ret ((day::r).map fD):=rfl;have hs0:small ((day::r).map fD).length=true:=bD<|by rw[v9];omega
 have et:=Zd4 ht;have edd:PyData.tuple ((tr wd day::r').map fD)=bn (tr wd day::r'):=rfl;have ii:=ZeG h (es:=s.sts.map<|s.pkE day r)<|v9 ..;have ex:eP (ux (aj 0) kH tj [.un,.d<|pD<|bf s<|s.sts.map<|s.pkE day r,.d<|pD<|bf s<|s.sts.map<|s.pkE (tr wd day) r']) (s.sts.map am)=.ret []:=Zlp h ht hd l3;have en:aL tR (.list []) (.list [])=.ret (.bool false):=rfl;have hs1:small (s.sts.map am).length=true:=bD<|by rw[v9];exact Ap (sml h7<|by rw[dX];exact Ag _)<|by decide
 have s1:ia s.d none (some 2)=.ret (.tuple [.int s.top,.int s.depth]):=by unfold Shp.d;rfl
 have s2:ia s.d (some 2) none=.ret (.tuple [.int s.start,.int s.piece,.int s.keep,.int s.lack,.int s.lost,.int s.back,.int s.late]):=by unfold Shp.d;rfl
 have de:=Zlt h hm;have a1:aL fF (.tuple [.int s.top,.int s.depth]) (.tuple [.int<|(2+m)*s.start,.int<|(2+m)*s.piece,.int<|(2+m)*s.keep,.int<|(2+m)*s.lack,.int<|(2+m)*s.lost,.int<|(2+m)*s.back,.int<|(2+m)*s.late])=.ret (s.tm<|2+m).d:=by
  rw[gv rfl];unfold Shp.d
  rfl
 have du:=Zec h h7 hm (by omega) hd l3
 have it0:cH (.tuple<|s.dtab (day::r))=.ret (s.dtab (day::r)):=rfl;have FA:small (s.dtab (day::r)).length=true:=bD<|by rw[yC];omega
 have rt:=rm<|ZhH hTm (show(s.tm<|2+m).n<=7 from h7) hd l3
 have ea:=Zly h h7 ht hd l3;have hs7:small [PyData.int s.start,.int s.piece,.int s.keep,.int s.lack,.int s.lost,.int s.back,.int s.late].length=true:=rfl;have ew:=Zla h h7 hd hw l3 (W:=W);generalize bf s (s.sts.map<|s.pkE day r)=C at *;generalize bf s (s.sts.map<|s.pkE (tr wd day) r')=C' at *;generalize day::r=es at *;generalize tr wd day::r'=es' at *;simp![bE,e1,r3,c1,id0,hs0,et,edd,e1',c2,ZdT,ii,hs1,ex,en,s1,s2,hs7,de,a1,e1t,it0,FA,du,rt,qo,CK,ea];refine cY (n:=6) (n':=6) ew (by decide) ?_
 rintro _ rfl;simp![bE,r3,qo];exact cp rfl
end My
end
open PySem.W L2
def My.g_mk{K:Dh}{mg:Dy}{h:EZ}(X:K.In h)(G:h.Ns mainGlobals mg){n:Str}{v:Int}{t:Tok}(z:PySem.W.nsIn K mainGlobals n=some (some<|.int v t)):∃t,mg n=some (.int v t):=⟨_,Db X G z⟩
set_option maxRecDepth 100000 in
set_option maxHeartbeats 0 in
theorem PySem.Challenge.cw_twomarks_k49_whole_two_stores_holds : PySem.Challenge.rw_twomarks_k49_whole_two_stores.Holds := by
 refine My.hd ?_
 k_fill
 refine L2.ZfV (l:=PySem.Challenge.rw_twomarks_k49_whole_two_stores) (k:=9) (x:="_law_script") rfl rfl ⟨rfl,by decide,by decide,rfl⟩ ?F
 case F =>
  intro w mg fa h KX G hmg;have T:My.Txt (L2.KOf KX) mg:=by
   dsimp only [L2.KOf];constructor
   all_goals first
    |(refine PySem.W.mg_none_of KX G ?_; k_is)
    |(refine' My.g_mk KX G ?z; (case z=>k_is))
    |(refine' L2.ZlF KX G ?a ?l ?c ?k ?b; (case a=>k_is); (case l=>k_is); (case c=>k_is); (case k=>k_is); (case b=>intro _ _ _ _ _ _ us hl; first | (obtain ⟨_,rfl⟩:=L2.Zc8 hl; rfl) | (obtain ⟨_,_,rfl⟩:=L2.uw hl; rfl) | (obtain ⟨_,_,_,rfl⟩:=L2.uv hl; rfl) | (obtain ⟨_,_,_,_,rfl⟩:=L2.Zc7 hl; rfl) | (obtain ⟨_,_,_,_,_,rfl⟩:=L2.Zc6 hl; rfl) | (obtain ⟨_,_,_,_,_,_,rfl⟩:=L2.ZjS hl; rfl)))
  obtain ⟨f,fd,F,hm,_⟩:=T.ZlX.ex;have e0:=hmg.symm.trans hm;cases e0;have hb:∀ (s:Shared) (u:Value),BindsTo s fd ⟨[u],[]⟩ [("_law_script",u)]:=by
   obtain ⟨oc,od,kV,doc,pm,an,cdv,ct,osl,rfl,lk,hcd⟩:=F.ex;exact λs u=>.of_eq rfl
  refine L2.Zgf (x1:="_law_told") (x2:="_law_any") (st1:=My.i7) (st2:=My.i8) (ps1:=["_law_shop_here","_law_table"]) (ps2:=["_law_shop_here","_law_key"]) ?h1 ?h2 hb λc1 P1 c2 P2 D1 D2 base BK=>My.Zjb T F D1 D2 BK (L2.Tr.ok_mono (L2.Tr.all_ok (My.Zj0 _).out (by decide)) λ_ _ h=>h.2)
  case h1 =>
   refine' L2.Zev KX G ?a ?l ?c ?k ?b ?e ?v ?m ?p
   (case a=>k_is); (case l=>k_is); (case c=>k_is); (case k=>k_is); (case b=>intro _ _ _ _ _ _ us hl; obtain ⟨_,_,rfl⟩:=L2.uw hl; rfl); (case e=>k_is); (case v=>exact ⟨_,_,_,_,_,_,_,rfl,rfl,rfl,rfl,rfl⟩); (case m=>rfl); (case p=>kernel_rfl!)
  case h2 =>
   refine' L2.Zev KX G ?a ?l ?c ?k ?b ?e ?v ?m ?p
   (case a=>k_is); (case l=>k_is); (case c=>k_is); (case k=>k_is); (case b=>intro _ _ _ _ _ _ us hl; obtain ⟨_,_,rfl⟩:=L2.uw hl; rfl); (case e=>k_is); (case v=>exact ⟨_,_,_,_,_,_,_,rfl,rfl,rfl,rfl,rfl⟩); (case m=>rfl); (case p=>kernel_rfl!)
