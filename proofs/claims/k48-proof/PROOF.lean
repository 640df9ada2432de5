import PyProof.Rows.All
import Wide.All
import OpenK.AllK
import Wide.FinOn
import Lean
import PyProof.EqAt
import PyProof.EqKinds
import PyProof.TupleCall
import PySem.Challenge.RW_twomarks_k48_double_papers
set_option Elab.async false
set_option linter.all false
set_option maxRecDepth 100000
set_option maxHeartbeats 0
noncomputable abbrev My.vw : PySem.Program := PySem.W.view
 PySem.Challenge.rw_twomarks_k48_double_papers.row.prog [1,2,4,5,7,8,9,11,12,13,14,15,16,17,18,19,20,21,22,23,24,25,27,28,29,30,31,32,33,34,35,36,37,38,39,40,41,43,44,45,46,47,48,49,50,51,52,53,54,55,56,57,58,59,60,61,62,63,64,65]
open PySem PySem.W in
theorem My.hd_s {p:Program} {N:Nat} {α β:Type} {S:Shared->α×β} {G:α×β} (a:∀ w,(openEnds treeTable p w N).map (λs=>(S s).1)=some G.1) (b:∀ w,(openEnds treeTable p w N).map (λs=>(S s).2)=some G.2):∀ w,(openEnds treeTable p w N).map S=some G:=λw=>by
 have h:=a w
 have g:=b w
 cases e:openEnds treeTable p w N with
 | none=>rw [e] at h;exact nomatch h
 | some s=>rw [e,Option.map_some] at h g;rw [Option.map_some];exact congrArg some (Prod.ext (Option.some.inj h) (Option.some.inj g))
open PySem PySem.W in
theorem My.hd_l {p q:Program} {loose:List Str} {Xt:Shared->Bool} {α:Type} {Yf:Shared->α} {Ya:World->α} {N:Nat} (a:∀ w,(openEnds treeTable p w N).map (λs=>openSeen q loose (importedModules p.main.body) Xt true s)=some (openGood q loose)) (b:∀ w,(openEnds treeTable p w N).map Yf=some (Ya w)):LeftO p q loose Xt Yf Ya N:=λw=>by
 have h:=a w;have g:=b w;cases e:openEnds treeTable p w N with
 |none=>rw [e] at h;exact nomatch h
 |some s=>rw [e,Option.map_some] at h g;rw [Option.map_some,Option.some.inj h,Option.some.inj g]
theorem My.hd_b {A B C H:Prop} (f:A->B->C->H) (p:A∧B∧C):H:=f p.1 p.2.1 p.2.2
local macro_rules
 | `(tactic| o_head $H:term)=>`(tactic| (
  refine My.hd_b (λa b c=>PySem.W.holds_open (q:=My.vw) (loose:=[])
   (Xt:=λs=>PySem.W.xlAt My.vw [] s && PySem.W.recOk
    (PySem.W.RowW.records PySem.Challenge.rw_twomarks_k48_double_papers.row.toRowW) s)
   (XP:=PySem.W.XL My.vw []) (Yf:=($H).obs)
   (Ya:=($H).val) (YP:=($H).says) (N:=20000) (My.hd_l a b)
   ($H).of ($H).keeps (λs e=>PySem.W.xl_of s
    (Bool.and_eq_true_iff.mp e).1) PySem.W.XL.keeps
   (by rfl) (by rfl) (by rfl)
   (λs e=>PySem.W.recFacts_of
    (Bool.and_eq_true_iff.mp e).2)
   (by rfl) ?k1 (by decide +kernel)
   ⟨rfl,rfl,rfl,rfl,rfl,by decide +kernel⟩ ?hw c) ?hc
  (case k1=>assumption)))
open_top My.hd_0 for PySem.Challenge.rw_twomarks_k48_double_papers
noncomputable def My.hd_n:=λx0 x1 x2 x3 b c=>My.hd_0 ⟨(My.hd_s x0 (My.hd_s x1 (My.hd_s x2 x3))),b,c⟩
noncomputable def My.hd_n0:=λx1 x2 x3 b c=>My.hd_n (λw=>by kernel_rfl) x1 x2 x3 b c
noncomputable def My.hd_n1:=λx2 x3 b c=>My.hd_n0 (λw=>by kernel_rfl) x2 x3 b c
noncomputable def My.hd_n2:=λx3 b c=>My.hd_n1 (λw=>by kernel_rfl) x3 b c
noncomputable def My.hd_n3:=λb c=>My.hd_n2 (λw=>by kernel_rfl) b c
noncomputable def My.hd_1:=My.hd_n3
noncomputable def My.hd:=λc=>My.hd_1 (λw=>by kernel_rfl) c
set_option maxHeartbeats 4000000
open PySem PySem.Spec PyProof.Rows
def v9:=@PySem.Heap.get?_push_of_some
def Au:=@List.getElem?_eq_getElem
def Av:=@List.length_map
def Aw:=@Nat.le_refl
def Ax:=@List.map_cons
def Ay:=@List.getElem?_eq_some_iff
def Az:=@List.mem_cons_of_mem
def AA:=@List.mem_append_right
def AB:=@List.mem_cons_self
def AC:=@PySem.Heap.get?_push_size
def AD:=@Nat.lt_of_lt_of_le
def AE:=@List.length_cons
def AF:=@Bool.not_true
def AG:=@List.size_toArray
def AH:=@Bool.not_false
def AI:=@PySem.Heap.lt_size
def AJ:=@Nat.le_trans
def AK:=@List.getElem?_map
def AL:=@List.getElem?_set_ne
def AM:=@List.mem_cons
def AN:=@Bool.false_ne_true
def AO:=@Nat.ne_of_lt
def AQ:=@List.length_append
def AR:=@List.map_map
def AS:=@List.getElem?_set_self
def AT:=@Bool.and_eq_true
def AU:=@List.mem_map
def AV:=@List.getElem?_append_left
def AW:=@List.getElem_mem
def AX:=@Nat.lt_irrefl
def AY:=@List.drop_eq_getElem_cons
def AZ:=@Int.toNat_natCast
def A0:=@List.zip_cons_cons
def A1:=@List.length_set
def A2:=@Bool.and_eq_true_iff
def A3:=@List.append_nil
def A4:=@List.getElem?_append_right
def A5:=@Nat.ne_of_gt
def A6:=@List.getElem?_cons_succ
def A7:=@List.lookup_cons
def A8:=@Option.some.inj
def A9:=@PySem.PassesOwn.never
def Ba:=@List.getElem?_replicate
def Bb:=@Bool.false_and
def Bc:=@List.replicate_succ
def Be:=@List.mem_append_left
def Bf:=@Nat.zero_le
def Bg:=@List.append_assoc
def Bh:=@List.mem_append
def Bi:=@List.mem_of_getElem?
def Bj:=@PySem.Heap.size_push
def Bk:=@Bool.false_eq_true
def Bl:=@List.all_eq_true
def Bm:=@List.length_nil
def Bn:=@PySem.Heap.get?_update_other
def Bo:=@PySem.Around.under_plainId
def Bp:=@Nat.zero_add
def Bq:=@Bool.true_and
def Br:=@List.drop_length
def Bs:=@Option.map_eq_some_iff
def Bt:=@PySem.W.kia_one
def Bu:=@List.map_append
def Bv:=@List.length_reverse
def Bw:=@List.mem_range
def Bx:=@PyProof.Rows.callWith_type1
def By:=@Nat.lt_of_le_of_lt
def Bz:=@List.length_zip
def BA:=@List.find?_cons
def BB:=@List.mem_of_mem_drop
def BC:=@PySem.mem_of_lookup
def BD:=@List.map_congr_left
def BE:=@List.flatten_cons
def BF:=@Int.mul_left_comm
def BG:=@List.all_cons
def BH:=@Int.natAbs_mul
def BI:=@Int.mul_comm
def BJ:=@List.mem_iff_getElem
def BK:=@PySem.Heap.get?_update_self
def BL:=@Int.mul_assoc
def BM:=@Int.eq_ofNat_of_zero_le
def BN:=@PySem.Obj.data_mapFields
def BO:=@List.map_nil
def BP:=@List.drop_zero
def BQ:=@List.nodup_cons
def BR:=@List.foldl_cons
def BS:=@List.drop_eq_nil_of_le
def BU:=@List.not_mem_nil
def BV:=@Nat.succ.inj
def BW:=@List.sum_cons
def BX:=@PySem.Heap.SameBut.update
def BY:=@List.getElem?_zip_eq_some
def BZ:=@Int.le_refl
def B0:=@Int.eq_of_mul_eq_mul_left
def B1:=@PyProof.Rows.slot_tuple_getitem
def B2:=@Nat.lt_succ_of_lt
def B3:=@List.length_range
def B4:=@Bool.eq_iff_iff
def B5:=@Nat.le_of_lt
def B6:=@Int.mul_zero
def B7:=@List.map_eq_nil_iff
def B8:=@List.filterMap_cons
def B9:=@Array.length_toList
def Ca:=@Nat.le_of_not_lt
def Cb:=@Nat.mul_le_mul
def Cc:=@List.take_of_length_le
def Cd:=@Nat.pos_of_ne_zero
def Ce:=@List.mem_singleton
def Cf:=@List.nil_append
def Cg:=@PySem.F.plain_min_loop
def Ch:=@Nat.le_of_succ_le
def Ci:=@List.isEmpty_cons
def Cj:=@List.any_cons
def Ck:=@Bool.and_true
def Cm:=@Nat.min_eq_right
def Cn:=@List.length_drop
def Co:=@List.getElem_of_mem
def Cp:=@List.getElem?_range
def Cq:=@Nat.succ_mul
def Cr:=@Int.mul_fdiv_cancel_left
def Cs:=@PySem.F.slot_tuple_iterator_next
def Ct:=@PySem.F.plainAttrs_list
def Cu:=@Nat.min_eq_left
def Cv:=@List.of_mem_zip
def Cw:=@Int.emod_lt_of_pos
def Cy:=@PySem.PyData.hasDict_of_canLay
def Cz:=@Nat.lt_of_succ_lt_succ
def CA:=@Nat.Coprime.dvd_of_dvd_mul_left
def CB:=@List.reverse_cons
def CC:=@Int.mul_pos
def CD:=@Int.mul_add
def CF:=@Bool.and_false
def CG:=@List.length_replicate
def CH:=@List.length_filter_le
def CI:=@List.getElem?_reverse
def CJ:=@List.getElem?_eq_none
def CK:=@Option.bind_some
def CL:=@List.take_length
def CM:=@PySem.SeqAt.canLay_of_shaped
def CN:=@PySem.Obj.isFreed_of_fields
def CO:=@List.take_succ_cons
def CP:=@List.mem_filter
def CQ:=@Int.emod_nonneg
def CS:=@Int.fmod_eq_emod_of_nonneg
def CT:=@Nat.gcd_comm
def CU:=@Int.sub_zero
def CV:=@PySem.W.kitx_dict
def CW:=@PySem.F.type_list_append
def CY:=@PySem.F.slot_list_append
def CZ:=@PySem.F.args_tuple_add_2
def C0:=@Bool.not_eq_true'
def C1:=@PySem.F.entry_tuple_add
def C2:=@List.length_take
def C3:=@PySem.F.slot_tuple_add
def C4:=@List.forIn_cons
def C5:=@Int.zero_add
def C6:=@Int.natAbs_dvd_natAbs
def C7:=@PySem.F.plain_list_iadd
def C8:=@PySem.Paired.length
def C9:=@Nat.pow_le_pow_right
def Da:=@Nat.log2_lt
def Db:=@Nat.le_succ
def Dc:=@List.drop_succ_cons
def Dd:=@Int.mul_one
def De:=@Option.isSome_some
def Df:=@List.pairwise_cons
def Dg:=@List.mem_filterMap
def Dh:=@Int.lt_irrefl
def Di:=@Int.dvd_trans
def Dj:=@PySem.F.slot_zip_next
def Dk:=@Bool.or_false
def Dl:=@List.zip_nil_left
def Dm:=@List.take_add_one
def Do:=@List.pairwise_map
def Dp:=@List.nodup_append
def Dq:=@List.foldl_append
def Ds:=@List.flatMap_cons
def Dt:=@List.ext_getElem?
def Du:=@PySem.F.args_object_init_2
def Dv:=@Nat.sub_zero
def Dw:=@Nat.sub_self
def Dx:=@Nat.le_total
def Dy:=@Nat.min_le_right
def Dz:=@List.isEmpty_iff
def DA:=@List.filter_cons
def DB:=@List.cons_append
def DC:=@List.any_eq_true
def DD:=@Array.getElem?_eq_some_iff
def DE:=@PySem.Obj.cls_mapFields
def DF:=@List.nodup_nil
def DG:=@List.mem_or_eq_of_mem_set
def DH:=@List.getElem?_eq_none_iff
def DI:=@List.forIn_nil
def DJ:=@Int.mul_nonneg
def DK:=@Lean.Omega.Int.ofNat_min
def DL:=@PySem.F.args_tuple_lt_2
def DM:=@Option.bind_eq_some_iff
def DN:=@List.getElem?_cons_zero
def DO:=@List.drop_nil
def DP:=@PySem.F.entry_min_loop
abbrev DQ:=PySem.W.Frag
abbrev DY:=PyData->PyData->Option PyData
abbrev DZ:=Value->Shared->Prop
abbrev D1:=List PyData
abbrev D2:=List Int
abbrev D3:=List Value
abbrev D4:=List Str
abbrev D6:=Str->Option Value
local macro_rules | `(tactic| trivial) => `(tactic| first | decide +kernel | exact ⟨rfl,rfl,rfl,by decide +kernel,rfl,by decide +kernel,by decide +kernel⟩ | exact ⟨rfl,by decide +kernel,by decide +kernel,by decide +kernel,by decide +kernel⟩ | fail "x")
def wp:=@PySem.wpAny_bind
def D9:=@PySem.wpAny_pure
def Ea:=@decide_eq_true
def Eb:=@decide_eq_false
def Ec:=@of_decide_eq_true
def Ed:=@if_pos
def Ee:=@PySem.wpAny_newObj_type
def Ef:=@if_neg
def Eg:=@congrArg
def Eh:=@beq_eq_false_iff_ne
def Ei:=@PySem.wpAny_mono
def Ej:=@PySem.wpAny_holding
def Ek:=@PySem.wpAny_callSpecial?_slot
def El:=@PySem.wpAny_call_entry
def Em:=@PySem.wpAny_field
def En:=@PyProof.Rows.boot_isinstance
def Eo:=@PySem.wpAny_seqItems
def Ep:=@PySem.wpAny_standAt
def Er:=@PySem.wpAny_of_eq
def Es:=@PySem.wpAny_comprehension_free
def Et:=@PySem.boot_len
def Eu:=@PySem.codeAny_builtin
def Ev:=@PyProof.Rows.boot_tuple
def Ew:=@decide_eq_true_eq
def Ex:=@PySem.sizeLine_eq
def Ey:=@PySem.wpAny_truthy_bool
def Ez:=@PySem.pushCells_keeps
def EA:=@PySem.plainId_quiet
def EB:=@PySem.wpAny_loadPart'
def EC:=@PySem.wpAny_setField_rec
def ED:=@PySem.wpAny_passesOwn
def EE:=@PySem.builtinLookup_eq_fast
def EF:=@PySem.wpAny_setField
def EG:=@PySem.wpAny_specialOf
def EH:=@PySem.wpAny_rule
def EI:=@PySem.wpAny_pyIter_list
def EJ:=@if_false
def EK:=@PySem.isSubtype_type
def EL:=@PySem.wpAny_attempt
def EM:=@if_true
def EN:=@PySem.call_meets
def EO:=@PySem.wpAny_letGo
def EQ:=@PySem.wpAny_ite_split
def ER:=@PySem.typeLookup_type
def ES:=@PySem.wpAny_typeOf
def ET:=@PySem.wpAny_tryCatch
def EU:=@PySem.wpAny_assign_Name
def EV:=@or_false
def EW:=@beq_iff_eq
def EX:=@PySem.wpAny_list_append_plain
def EY:=@PySem.rangeSize_one
def EZ:=@PySem.wpAny_isInstance
def E1:=@PySem.wpAny_pyNext_list_item
def E3:=@PySem.wpAny_pyIter_rangeiter
def E4:=@PySem.codeAny_compStart_list
def E5:=@PySem.wpAny_pyNext_list_end
def E6:=@PySem.wpAny_execs_nil
def E7:=@PySem.exec_Assign_Name_used
def E8:=@PySem.codeAny_mono
def E9:=@PySem.codeAny_loop
def Fa:=@PySem.wpAny_updateSeq_pair
def Fb:=@PySem.wpAny_noted
def Fc:=@PySem.wpAny_onRaise
def Fd:=@PySem.wpAny_Call_Name_kw
def Fe:=@PySem.tupleKind_room_in1
def Ff:=@and_congr_right
def Fg:=@PySem.wpAny_pyIter_slot
def Fh:=@PySem.typeIs_int
def Fi:=@PyProof.Rows.boot_sum
def Fj:=@PySem.noFill_tuple_add
def Fk:=@forall_congr'
abbrev Fl:=@List
abbrev Fm:=@Option
abbrev Fn:=PySem.PyData
abbrev Fo:=PySem.Value
abbrev Fp:=PySem.Shared
abbrev Fq:=PySem.Addr
abbrev Fs:=PySem.Program
abbrev Ft:=PySem.World
abbrev Fu:=PySem.Around
abbrev Fv:=PySem.Heap
abbrev Fw:=PySem.Expr
abbrev Fx:=PySem.Stmt
noncomputable section
namespace L2
abbrev aL:=Sum Int Str
noncomputable def jV:aL->Fo->Bool
 |.inl k,v=>Value.isInt k v
 |.inr x,v=>Value.isStrOf x v
noncomputable def Zki(w:Ft):aL->Int
 |.inl k=>hashInt k
 |.inr x=>hashStr w x
def gS:∀{k:aL}{v:Fo},jV k v=true->(∃i t,k=Sum.inl i/\v=Value.int i t)\/(∃x t,k=Sum.inr x/\v=Value.str x t)
 |.inl i,v,h=>by obtain⟨t,e⟩:=Value.isInt_shape (k:=i) (v:=v) h;exact .inl ⟨i,t,rfl,e⟩
 |.inr x,v,h=>by obtain⟨t,e⟩:=Value.isStrOf_shape (x:=x) (v:=v) h;exact .inr ⟨x,t,rfl,e⟩
def Zkh(i:Int)(t:Tok):jV (.inl i) (.int i t)=true:=by simp[jV,Value.isInt]
def Zkg(x:Str)(t:Tok):jV (.inr x) (.str x t)=true:=by simp[jV,Value.isStrOf]
def Zkf(a b:Int):decide ((Sum.inl a:aL)=Sum.inl b)=(a==b):=by
 by_cases e:a=b
 ·subst e;simp
 ·have h:¬ (Sum.inl a:aL)=Sum.inl b:=λq=>e<|Sum.inl.inj q;rw[Eb h];exact(Eh.mpr e).symm
def Zkc(a b:Str):decide ((Sum.inr a:aL)=Sum.inr b)=decide (a=b):=by
 by_cases e:a=b
 ·subst e;simp
 ·have h:¬ (Sum.inr a:aL)=Sum.inr b:=λq=>e<|Sum.inr.inj q;rw[Eb h,Eb e]
def Zke(a:Int)(b:Str):decide ((Sum.inl a:aL)=Sum.inr b)=false:=Eb<|λq=>nomatch q
def Zkd(a:Str)(b:Int):decide ((Sum.inr a:aL)=Sum.inl b)=false:=Eb<|λq=>nomatch q
def bP(prog:Fs)(w:Ft):PySem.KeyKind prog w aL where
 is:=jV
 hash:=Zki w
 inj:=λv a b ha hb=>by
  rcases gS ha with ⟨i,t,rfl,rfl⟩|⟨x,t,rfl,rfl⟩
  ·rcases gS hb with ⟨j,u,rfl,e⟩|⟨y,u,rfl,e⟩
   ·injection e with e1 _;rw[e1]
   ·exact nomatch e
  ·rcases gS hb with ⟨j,u,rfl,e⟩|⟨y,u,rfl,e⟩
   ·exact nomatch e
   ·injection e with e1 _;rw[e1]
 byValue:=λk v h=>by rcases gS h with ⟨i,t,rfl,rfl⟩|⟨x,t,rfl,rfl⟩ <;> rfl
 pyHash:=λhv h=>by
  rcases gS hv with ⟨i,t,rfl,rfl⟩|⟨x,t,rfl,rfl⟩
  ·exact wpAny_pyHash_int h
  ·exact wpAny_pyHash_str h
 eqBool:=λhu hv h=>by
  rcases gS hu with ⟨i,t,rfl,rfl⟩|⟨x,t,rfl,rfl⟩
  ·rcases gS hv with ⟨j,u,rfl,rfl⟩|⟨y,u,rfl,rfl⟩
   ·rw[Zkf]at h;exact wpAny_eqBool_int h
   ·rw[Zke]at h;exact SeqAt.EqAt.int_str i t y u _ _ _ _ h
  ·rcases gS hv with ⟨j,u,rfl,rfl⟩|⟨y,u,rfl,rfl⟩
   ·rw[Zkd]at h;exact SeqAt.EqAt.str_int x t j u _ _ _ _ h
   ·rw[Zkc]at h;exact wpAny_eqBool_str h
 «strs»:=λk x t v h=>by
  rcases gS h with ⟨i,u,rfl,e⟩|⟨y,u,rfl,e⟩
  ·exact nomatch e
  ·injection e with e1 _;subst e1;cases v <;> rfl
def ZjC(prog:Fs)(w:Ft)(i:Int)(t:Tok):(bP prog w).is (.inl i) (.int i t)=true:=Zkh i t
def ZjB(prog:Fs)(w:Ft)(x:Str)(t:Tok):(bP prog w).is (.inr x) (.str x t)=true:=Zkg x t
inductive V where
 |non|bl (b:Bool)|int (i:Int)|str (x:Str)|byt (b:Array UInt8)|flt (b:UInt64)|ref (a:Fq)|ty (n:String)
 deriving DecidableEq
abbrev D5:=Fl V
def RelV:V->Fo->Prop
 |.non,u=>u=Value.none
 |.bl b,u=>u=Value.bool b
 |.int i,u=>∃t,u=Value.int i t
 |.str x,u=>∃t,u=Value.str x t
 |.byt b,u=>∃t,u=Value.bytes b t
 |.flt b,u=>∃t,u=Value.float b t
 |.ref a,u=>u=Value.ref a
 |.ty n,u=>u=Value.type n
abbrev Vals:Fl V->Fl Fo->Prop:=Paired RelV
theorem Vals.length{xs:D5}{us:D3}(r:Vals xs us):xs.length=us.length:=C8 r
def Vals.get{xs:D5}{us:D3}{i:Nat}{x:V}(h:Vals xs us)(e:xs[i]?=some x):∃u,us[i]?=some u/\RelV x u:=by
 induction h generalizing i with
 |nil=>cases e
 |cons r t ih=>cases i with|zero=>cases e;exact⟨_,rfl,r⟩|succ i=>exact ih (i:=i) e
theorem Vals.set{x:V}{u:Fo}(r:RelV x u){xs:D5}{us:D3}(i:Nat)(h:Vals xs us):Vals (xs.set i x) (us.set i u):=by
 induction h generalizing i with
 |nil=>exact .nil
 |cons q t ih=>cases i with|zero=>exact .cons r t|succ i=>exact .cons q<|ih i
def Vals.append{xs ys:D5}{us ws:D3}(h:Vals xs us)(s:Vals ys ws):Vals (xs++ys) (us++ws):=by
 induction h with
 |nil=>exact s
 |cons r t ih=>exact .cons r ih
theorem Vals.take{xs:D5}{us:D3}(n:Nat)(h:Vals xs us):Vals (xs.take n) (us.take n):=by
 induction h generalizing n with
 |nil=>rw[List.take_nil,List.take_nil];exact .nil
 |cons r t ih=>cases n with|zero=>exact .nil|succ n=>exact .cons r<|ih n
theorem Vals.drop{xs:D5}{us:D3}(n:Nat)(h:Vals xs us):Vals (xs.drop n) (us.drop n):=by
 induction h generalizing n with
 |nil=>rw[DO,DO];exact .nil
 |cons r t ih=>cases n with|zero=>exact .cons r t|succ n=>exact ih n
def Vals.none_of:∀{xs:D5}{us:D3}{i:Nat},Vals xs us->xs[i]?=none->us[i]?=none:=λ{xs us i} r e=>by have h1:=r.length;have h2:xs.length<=i:=DH.mp e;exact DH.mpr<|by omega
def RelO:Fm V->Fm Fo->Prop
 |some v,some u=>RelV v u
 |none,none=>True
 |_,_=>False
def KV{κ:Type}:Fl (κ×V)->Fl (κ×Fo)->Prop:=Paired λ(p:κ×V) (q:κ×Fo)=>p.1=q.1/\RelV p.2 q.2
noncomputable def kV:aL->V
 |.inl i=>.int i
 |.inr x=>.str x
inductive HO where
 /-- a list -/
 |lst (xs:D5)
 /-- a tuple (never changes) -/
 |tup (xs:D5)
 /-- a dict whose keys are ints and texts;one whose keys are tuples of ints and texts (the empty one is both) -/
 |dK (kvs:List (aL×V))|dT (kvs:List (List aL×V))
 /-- a set of ints: Fz members,Fz size -/
 |set (S:Int->Bool) (n:Nat)
 /-- an instance of the class at C,Fz dict at dx,Fz attributes -/
 |ins (C dx:Fq) (fs:List (Str×V))
 /-- the dict of the instance at x -/
 |own (x:Fq)
 /-- the dict of an exception -/
 |xd (fs:List (Str×V))
 /-- a bound method,f of x -/
 |met (f x:Fq)
 /-- a range object lo,lo+1,.. below hi -/
 |rng (lo hi:Int)
 /-- a thing that is known to the object (the script;a dict while a loop walks it): read,never written while it is so -/
 |frz (o:Obj) (u:HO)
 /-- a code object's table -/
 |tbl (ps:Array Fo)
 /-- any other thing,by what is true of Fz one object (a def of one's own: SetO a S n:=HO.ext λh=>..) -/
 |ext (φ:Fv->Prop)
 |cod (ps:Array Fo)
abbrev Hp:=Fq->Fm HO
noncomputable def upd(H:Hp)(a:Fq)(o:HO):Hp:=λb=>if b=a then some o else H b
def bY{H:Hp}{a:Fq}{o:HO}:upd H a o a=some o:=by unfold upd;rw[Ed rfl]
def aM{H:Hp}{a b:Fq}{o:HO}(h:b≠a):upd H a o b=H b:=by unfold upd;rw[Ef h]
def Zgo{H:Hp}{a:Fq}{o u:HO}:upd (upd H a o) a u=upd H a u:=by funext b;unfold upd;split <;> rfl
def Zjv{H:Hp}{a b:Fq}{o u:HO}(h:H a=some o)(h':H b=some u)(d:o≠u):a≠b:=by intro e;subst e;rw[h]at h';exact d<|A8 h'
def di{H:Hp}{a b:Fq}{o:HO}(h:H a=some o)(h':H b=none):a≠b:=by intro e;subst e;rw[h]at h';cases h'
section
variable(P:Fs)(w:Ft)
def ObjOk(H:Hp)(h:Fv)(a:Fq):HO->Prop
 |.lst xs=>xs.length<=sizeLine/\∃(Fz:D3)(n:Nat),Vals xs Fz/\h.get? a=some {cls:=.type "list",data:=.seq Fz.toArray n}
 |.tup xs=>xs.length<=sizeLine/\∃Fz:D3,Vals xs Fz/\IsTup h a Fz.toArray
 |.dK kvs=>kvs.length<=sizeLine/\(a==sysModules)=false/\∃vs,KV kvs vs/\h.DictOf (bP P w) a vs
 | .dT kvs=>kvs.length<=sizeLine/\(a==sysModules)=false/\∃xs:Fl (Fl aL×Fq×Fo),
   Paired (λ(p:Fl aL×V) (q:Fl aL×Fq×Fo)=>p.1=q.1/\H q.2.1=some (.tup<|p.1.map kV)/\RelV p.2 q.2.2) kvs xs /\
   ∃o es ep,h.get? a=some o/\o.ExactDict/\o.data=.dict es ep/\es.toList=xs.map (entryOfKey<|tupleKind<|bP P w)/\(xs.map (·.1)).Nodup
 |.set S n=>h.SetOf (intKind P w) a S n
 | .ins C dx fs=>H dx=some (.own a)/\fs.length<=1000/\dx≠a/\h.get? a=some (PySem.W.instObj C dx) /\
   ∃mA,h.Ns1 dx mA/\(∀f,RelO (fs.lookup f)<|mA f)/\PySem.Within mA (fs.map (·.1))
 |.own _=>∃o,h.get? a=some o
 |.xd fs=>∃mA,h.Ns1 a mA/\∀f,RelO (fs.lookup f) (mA f)
 |.rng lo hi=>∃t u v,h.get? a=some {cls:=.type "range",data:=.fields #[.int lo t,.int hi u,.int 1 v]}
 |.frz o u=>h.get? a=some o/\ObjOk H h a u
 |.tbl ps=>h.get? a=some {cls:=.none,data:=.fields ps}
 |.met f x=>h.get? a=some (PySem.W.methodObj (.ref f)<|.ref x)
 |.ext φ=>φ h/\(∃o,h.get? a=some o)/\∀h1 h2:Fv,φ h1->(∀o,h1.get? a=some o->h2.get? a=some o)->φ h2
 |.cod ps=>∃more:Array Fo,h.get? a=some {cls:=.none,data:=.fields (ps++more)}/\PySem.TriplesOk (ps++more).toList/\∀(po:Pos)(v:Fo),codeAmong po (ps++more).toList=some v->∃(c:Fq)(ob:Obj)(vs:Array Fo)(q:Str)(t:Tok),v=.ref c/\H c=some (.frz ob<|.own 0)/\ob.data=.fields vs/\vs[1]?=some (.str q t)
def HOk(H:Hp)(h:Fv):Prop:=∀a o,H a=some o->ObjOk P w H h a o
end
section
variable{P:Fs}{w:Ft}{H H':Hp}{h h':Fv}{a:Fq}{o:HO}
theorem ObjOk.lt(x:ObjOk P w H h a o):a<h.objs.size:=by
 cases o with
 |lst xs=>obtain⟨_,_,_,_,e⟩:=x;exact AI e
 |tup xs=>obtain⟨_,_,_,p⟩:=x;exact p.lt
 |dK kvs=>obtain⟨_,_,_,_,o,_,_,e,_⟩:=x;exact AI e
 |dT kvs=>obtain⟨_,_,_,_,o,_,_,e,_⟩:=x;exact AI e
 |set S n=>obtain⟨o,_,_,_,e,_⟩:=x;exact AI e
 |ins C dx fs=>obtain⟨_,_,_,e,_⟩:=x;exact AI e
 |own y=>obtain⟨_,e⟩:=x;exact AI e
 |xd fs=>obtain⟨_,⟨_,_,_,e,_⟩,_⟩:=x;exact AI e
 |rng lo hi=>obtain⟨_,_,_,e⟩:=x;exact AI e
 |frz ob u=>obtain⟨e,_⟩:=x;exact AI e
 |tbl ps=>exact AI (show h.get? a=some _ from x)
 |met f y=>exact AI (show h.get? a=some _ from x)
 |ext φ=>obtain⟨_,⟨_,e⟩,_⟩:=x;exact AI e
 |cod ps=>obtain⟨_,e,_⟩:=x;exact AI e
def Paired.mapP{α β:Type}{F G:α->β->Prop}{l₁:Fl α}{l₂:Fl β}(h:Paired F l₁ l₂)(f:∀a b,F a b->G a b):Paired G l₁ l₂:=by
 induction h with
 |nil=>exact .nil
 |cons r t ih=>exact .cons (f _ _ r) ih
def ObjOk.stay(x:ObjOk P w H h a o)(k:∀b u,(b=a\/H b=some (.own a))->h.get? b=some u->h'.get? b=some u)
  (ho:∀b,H b=some (.own a)->H' b=some (.own a)) (ht:∀b xs,H b=some (.tup xs)->H' b=some (.tup xs)) (hf:∀b ob u vs,H b=some (.frz ob u)->ob.data=.fields vs->H' b=some (.frz ob u)):ObjOk P w H' h' a o:=by
 induction o with
 |lst xs=>obtain⟨z,Fz,n,r,e⟩:=x;exact⟨z,Fz,n,r,k _ _ (.inl rfl) e⟩
 |tup xs=>obtain⟨z,Fz,r,ob,e,c⟩:=x;exact⟨z,Fz,r,ob,k _ _ (.inl rfl) e,c⟩
 |dK kvs=>obtain⟨z,y,vs,r,ob,es,ep,e,c⟩:=x;exact⟨z,y,vs,r,ob,es,ep,k _ _ (.inl rfl) e,c⟩
 | dT kvs =>
  obtain⟨z,y,xs,r,ob,es,ep,e,c⟩:=x;exact⟨z,y,xs,Paired.mapP r λp q z=>⟨z.1,ht _ _ z.2.1,z.2.2⟩,ob,es,ep,k _ _ (.inl rfl) e,c⟩
 |set S n=>obtain⟨ob,es,ep,t,e,c⟩:=x;exact⟨ob,es,ep,t,k _ _ (.inl rfl) e,c⟩
 | ins C dx fs =>
  obtain⟨d,z,ne,e,mA,⟨od,es,ep,e2,c⟩,r⟩:=x;exact⟨ho _ d,z,ne,k _ _ (.inl rfl) e,mA,⟨od,es,ep,k _ _ (.inr d) e2,c⟩,r⟩
 |own y=>obtain⟨ob,e⟩:=x;exact⟨ob,k _ _ (.inl rfl) e⟩
 |xd fs=>obtain⟨mA,⟨od,es,ep,e,c⟩,r⟩:=x;exact⟨mA,⟨od,es,ep,k _ _ (.inl rfl) e,c⟩,r⟩
 |rng lo hi=>obtain⟨t,u,v,e⟩:=x;exact⟨t,u,v,k _ _ (.inl rfl) e⟩
 |frz ob u ih=>obtain⟨e,q⟩:=x;exact⟨k _ _ (.inl rfl) e,ih q⟩
 | tbl ps =>
  have e:h.get? a=some {cls:=.none,data:=.fields ps}:=x;show h'.get? a=some {cls:=.none,data:=.fields ps};exact k a _ (.inl rfl) e
 | met f y =>
  have e:h.get? a=some (PySem.W.methodObj (.ref f)<|.ref y):=x;show h'.get? a=some (PySem.W.methodObj (.ref f)<|.ref y);exact k a _ (.inl rfl) e
 |ext φ=>obtain⟨p,⟨o,e⟩,st⟩:=x;exact⟨st _ _ p λo q=>k _ _ (.inl rfl) q,⟨o,k _ _ (.inl rfl) e⟩,st⟩
 | cod ps =>
  obtain⟨more,e,tr,al⟩:=x;refine⟨more,k _ _ (.inl rfl) e,tr,λpo v hv=>?_⟩;obtain⟨c,ob,vs,q,t,r1,r2,r3⟩:=al po v hv;exact⟨c,ob,vs,q,t,r1,hf _ _ _ _ r2 r3.1,r3⟩
theorem HOk.lt(x:HOk P w H h)(e:H a=some o):a<h.objs.size:=(x a o e).lt
def HOk.fresh(x:HOk P w H h)(e:h.objs.size<=a):H a=none:=by
 cases q:H a with
 |none=>rfl
 |some u=>exact absurd (AD (x.lt q) e)<|AX _
def HOk.kept(x:HOk P w H h)(k:∀b u,h.get? b=some u->h'.get? b=some u):HOk P w H h':=λa o e =>
 (x a o e).stay (λb u _ q=>k b u q) (λ_ q=>q) (λ_ _ q=>q) λ_ _ _ _ q _=>q
def HOk.laid(x:HOk P w H h)(k:∀b u,h.get? b=some u->h'.get? b=some u)(hp:h.objs.size<=a)(new:ObjOk P w (upd H a o) h' a o):HOk P w (upd H a o) h':=λb u e=>by
 have hn:=x.fresh hp;by_cases hb:b=a
 ·subst hb;rw[bY]at e;cases e;exact new
 ·rw[aM hb]at e;exact(x b u e).stay (λc v _ q=>k c v q) (λc q=>by rw[aM<|di q hn];exact q) (λc xs q=>by rw[aM<|di q hn];exact q) λc ob xs _ q _=>by rw[aM<|di q hn];exact q
end
def Rd(H:Hp)(a:Fq)(u:HO):Prop:=H a=some u\/∃o,H a=some (.frz o u)
def Rd.ok{P:Fs}{w:Ft}{H:Hp}{h:Fv}{a:Fq}{u:HO}(r:Rd H a u)(x:HOk P w H h):ObjOk P w H h a u:=by
 rcases r with r|⟨o,r⟩
 ·exact x a u r
 ·obtain⟨_,q⟩:=x a _ r;exact q
def n8:Fm HO->Prop
 |some (.lst _)=>True
 |some (.dK _)=>True
 |some (.dT _)=>True
 |some (.set _ _)=>True
 |some (.ins _ _ _)=>True
 |some (.ext _)=>True
 |_=>False
section
variable{P:Fs}{w:Ft}{H:Hp}{h h':Fv}{x e:Fq}{o':HO}
def HOk.write(ok:HOk P w H h)(mu:n8 (H x))(he:e=x\/H e=some (.own x))(k:∀b u,b≠e->h.get? b=some u->h'.get? b=some u)(heo:∃u,h'.get? e=some u)
  (new:ObjOk P w (upd H x o') h' x o'):HOk P w (upd H x o') h':=λb u q=>by
 have nown:∀c y,H c=some (.own y)->c≠x:=λc y r z=>by subst z;rw[r]at mu;exact mu
 have ntup:∀c xs,H c=some (.tup xs)->c≠x:=λc xs r z=>by subst z;rw[r]at mu;exact mu
 have nfrz:∀c ob u,H c=some (.frz ob u)->c≠x:=λc ob u r z=>by subst z;rw[r]at mu;exact mu
 by_cases hb:b=x
 ·subst hb;rw[bY]at q;cases q;exact new
 ·rw[aM hb]at q;by_cases hbe:b=e
  ·have q':H b=some (.own x):=by
    rcases he with z|z
    ·exact absurd (hbe.trans z) hb
    ·rw[hbe];exact z
   rw[q]at q';cases q';obtain⟨v,hv⟩:=heo;exact⟨v,by rw[hbe];exact hv⟩
  ·refine(ok b u q).stay (λc v hc r=>k c v ?_ r) (λc r=>by rw[aM<|nown c b r];exact r) (λc xs r=>by rw[aM<|ntup c xs r];exact r) λc ob xs _ r _=>by rw[aM<|nfrz c ob xs r];exact r
   rcases hc with rfl|hc
   ·exact hbe
   ·rintro rfl;rcases he with z|z
    ·exact nown c b hc z
    ·rw[hc]at z;cases z;exact hb rfl
end
structure Un(fs ex:List Fq)(H H':Hp)(h h':Fv):Prop where
 keep:∀b o,h.get? b=some o->H b=none->b∉fs->b∉ex->h'.get? b=some o
 slot:∀b o,h.get? b=some o->H b=none->b∈fs->b∉ex->∃sl,h'.get? b=some {o with slots:=sl}
 free:∀b o,h.get? b=some o->H b=none->b∉ex->H' b=none
 there:∀b o,h.get? b=some o->b∉ex->∃o',h'.get? b=some o'
 tups:∀b xs,H b=some (.tup xs)->H' b=some (.tup xs)
 frzs:∀b o u,H b=some (.frz o u)->H' b=some (.frz o u)
 tbls:∀b ps,H b=some (.tbl ps)->∃more,H' b=some (.tbl<|ps++more)
section
variable{fs fs' ex ex':Fl Fq}{H H1 H2:Hp}{h h1 h2 h':Fv}{a x e:Fq}{o:HO}
def Un.any(u:Un fs ex H H1 h h1){b:Fq}{ob:Obj}(q:h.get? b=some ob)(n:H b=none)(hx:b∉ex):∃sl,h1.get? b=some {ob with slots:=sl}:=by
 by_cases hb:b∈fs
 ·exact u.slot b ob q n hb hx
 ·exact⟨ob.slots,u.keep b ob q n hb hx⟩
def Un.kept(k:∀b u,h.get? b=some u->h'.get? b=some u):Un fs ex H H h h' :=
 ⟨λb ob q _ _ _=>k b ob q,λb ob q _ _ _=>⟨ob.slots,k b ob q⟩,λ_ _ _ n _=>n,λb ob q _=>⟨ob,k b ob q⟩,λ_ _ q=>q,λ_ _ _ q=>q,λ_ ps q=>⟨#[],by rw[q];simp⟩⟩
def Un.refl:Un fs ex H H h h:=Un.kept λ_ _ q=>q
def Un.laid(k:∀b u,h.get? b=some u->h'.get? b=some u)(hp:h.objs.size<=a)(hn:H a=none):Un fs ex H (upd H a o) h h' where
 keep:=λb u q _ _ _=>k b u q
 slot:=λb u q _ _ _=>⟨u.slots,k b u q⟩
 free:=λb u q n _=>by rw[aM<|AO<|AD (AI q) hp];exact n
 there:=λb u q _=>⟨u,k b u q⟩
 tups:=λb xs q=>by rw[aM<|di q hn];exact q
 frzs:=λb u xs q=>by rw[aM<|di q hn];exact q
 tbls:=λb ps q=>⟨#[],by rw[aM<|di q hn,q];simp⟩
def Un.write(mu:n8 (H x))(he:e=x\/H e=some (.own x))(k:∀b u,b≠e->h.get? b=some u->h'.get? b=some u)(heo:∃u,h'.get? e=some u):Un fs ex H (upd H x o) h h':=by
 have hx:∀b,H b=none->b≠x:=λb n z=>by subst z;rw[n]at mu;exact mu
 have hb:∀b,H b=none->b≠e:=λb n z=>by
  subst z;rcases he with r|r
  ·exact hx b n r
  ·rw[n]at r;cases r
 have hm:∀b u,H b=some u->¬ n8 (some u)->b≠x:=λb u q nm z=>by subst z;rw[q]at mu;exact nm mu
 refine⟨λb u q n _ _=>k b u (hb b n) q,λb u q n _ _=>⟨u.slots,k b u (hb b n) q⟩,λb u q n _=>by rw[aM<|hx b n];exact n,λb u q _=>?_,
  λb xs q=>by rw[aM<|hm b _ q λz=>z];exact q,λb u xs q=>by rw[aM<|hm b _ q λz=>z];exact q,λb ps q=>⟨#[],by rw[aM<|hm b _ q λz=>z,q];simp⟩⟩
 by_cases hbe:b=e
 ·subst hbe;exact heo
 ·exact⟨u,k b u hbe q⟩
end
noncomputable def trk(h:Fv)(H:Hp):Fl Fq:=(List.range h.objs.size).filter λa=>(H a).isSome
def iw(h:Fv)(H:Hp):Fv:=PySem.W.hideAll h<|trk h H
def ZkA(h:Fv)(H:Hp):(iw h H).objs.size=h.objs.size:=PySem.W.hideAll_size _ _
def ZkB{h:Fv}{H:Hp}{b:Fq}{o:Obj}(e:h.get? b=some o)(n:H b=none):(iw h H).get? b=some o :=
 PySem.W.hideAll_get _ e λhm=>by have q:(H b).isSome=true:=(CP.mp hm).2;rw[n]at q;simp at q
def Zjm{h:Fv}{H:Hp}{b:Fq}{o:Obj}(e:(iw h H).get? b=some o):h.get? b=some o/\H b=none:=by
 have e':h.get? b=some o:=PySem.W.of_hideAll (trk h H) e;refine⟨e',?_⟩;cases q:H b with
 |none=>rfl
 | some x =>
  have hm:b∈trk h H:=CP.mpr ⟨Bw.mpr<|AI e',by simp[q]⟩
  have z:(iw h H).get? b=none:=PySem.W.hideAll_none (trk h H) hm;rw[z]at e;cases e
noncomputable def ZnG(g h:Fv)(L:Fq):Fl (Fq×Obj):=(List.range h.objs.size).filterMap λa=>if a=L\/(g.get? a).isSome=true then none else (h.get? a).map λo=>(a,o)
def rest(g h:Fv)(L d:Fq):Fl (Fq×Obj):=(ZnG g h L).filter λp=>decide (p.1≠d)
structure Mod(K:DQ)(mg:D6)(base:Fv):Prop where
 kin:K.In base
 glob:base.Ns mainGlobals mg
 blt:∃mb,base.Ns builtinsNs mb/\∀x:Str,x≠"__name__"->mb x=bootBuiltins x
 nolimit:base.NoLimit
 nodig:base.NoDigits
structure Cx where
 prog:Fs
 w:Ft
 K:DQ
 mg:D6
 base:Fv
 A:Fu
 N:D4
 s₀:Fp
 H₀:Hp
 env:Env
 outer:List Env
 stack:List Env
 ex:List Fq
 fn:Str->Bool
 calm:Bool
 pn:List (Fq×Obj)
 xe:DZ
noncomputable def frs(l:Fl Env):Fl Fq:=l.filterMap (·.frame)
abbrev Cx.fs(X:Cx):Fl Fq:=frs X.outer
def v7(sc:Scope)(x:Str):Prop:=sc.names.lookup x=some .local\/sc.names.lookup x=some .cell\/sc.names.lookup x=some .free
def kg(sc:Scope)(x:Str):Prop:=sc.names.lookup x=some .local\/sc.names.lookup x=some .cell
def Zos(env:Env)(h:Fv)(m:D6)(x:Str)(u:Fo):Prop :=
 (env.kindOf x=some .local/\m x=some u)\/((env.kindOf x=some .cell\/env.kindOf x=some .free)/\∃c,env.cells.lookup x=some c/\h.IsCell c (some u))
structure Cx.Ok(X:Cx):Prop where
 mod:Mod X.K X.mg X.base
 kind:X.env.scope.kind=.function
 glob:X.env.globals=mainGlobals
 blt:X.env.builtins=builtinsNs
 above:X.s₀.heap.objs.size<=X.env.locals
 inj:∀x y c,X.env.cells.lookup x=some c->X.env.cells.lookup y=some c->x=y
 has:∀x,(X.env.kindOf x=some .cell\/X.env.kindOf x=some .free)->∃c,X.env.cells.lookup x=some c
 cab:∀x c,X.fn x=true->X.env.cells.lookup x=some c->X.s₀.heap.objs.size<=c
 hd:X.calm=true->X.A.handled=none
 frames:X.A.frames=some X.stack
 stk:X.stack=X.outer\/(X.stack=X.env::X.outer/\X.env.frame=some X.env.locals)
 exf:∀b∈X.ex,b≠X.env.locals/\∀x c,X.env.cells.lookup x=some c->c≠b
 bs:∀b o,X.base.get? b=some o->X.s₀.heap.get? b=some o/\X.H₀ b=none
 bsz:X.base.objs.size<=X.s₀.heap.objs.size
 noex:∀b o,X.base.get? b=some o->b∉X.ex
 exfs:∀b∈X.ex,b∉X.fs
 funs:X.s₀.heap.FunFrames X.base X.outer
 frf:∀b∈X.fs,X.H₀ b=none
structure Inv(X:Cx)(pins:List (Fq×Obj))(σ:List (Option V))(H:Hp)(s:Fp):Prop where
 ok:X.Ok
 os:s.os=X.s₀.os
 bare:AllBare s.gens
 base:Un X.fs X.ex X.H₀ H X.s₀.heap s.heap
 loc:∃m,s.heap.Ns X.env.locals m/\∀(i:Nat)(x:Str)(v:V),X.N[i]?=some x->σ[i]?=some (some v)->v7 X.env.scope x->∃u,RelV v u/\Zos X.env s.heap m x u
 cell:∀x c,X.env.cells.lookup x=some c->∃v,s.heap.IsCell c v
 free:H X.env.locals=none
 freeC:∀x c,X.env.cells.lookup x=some c->H c=none
 pin:∀p∈X.pn++pins,s.heap.get? p.1=some p.2/\H p.1=none/\p.1≠X.env.locals/\p.1∉X.fs/\∀v,p.2.data≠.cell v
 hok:HOk X.prog X.w H s.heap
 len:σ.length=X.N.length
section
variable{X:Cx}{pins:Fl (Fq×Obj)}{σ:Fl (Fm V)}{H H':Hp}{s:Fp}{h':Fv}
def Cx.Ok.nofr(ok:X.Ok){b:Fq}{o:Obj}(e:X.base.get? b=some o):b∉X.fs:=λhb=>by have:=(ok.funs.mem hb).1;rw[e]at this;cases this
theorem Inv.bs(I:Inv X pins σ H s):∀b o,X.base.get? b=some o->s.heap.get? b=some o/\H b=none:=λb o e =>
 ⟨I.base.keep b o (I.ok.bs b o e).1 (I.ok.bs b o e).2 (I.ok.nofr e) (I.ok.noex b o e),I.base.free b o (I.ok.bs b o e).1 (I.ok.bs b o e).2 (I.ok.noex b o e)⟩
def Inv.bk(I:Inv X pins σ H s):∀b o,X.base.get? b=some o->s.heap.get? b=some o:=λb o e=>(I.bs b o e).1
theorem Inv.mod(I:Inv X pins σ H s):Mod X.K X.mg X.base:=I.ok.mod
def Inv.kIn(I:Inv X pins σ H s):X.K.In s.heap:=I.ok.mod.kin.keeps I.bk
theorem Inv.lt(I:Inv X pins σ H s):X.env.locals<s.heap.objs.size:=let ⟨_,hn,_⟩:=I.loc;hn.lt
def Inv.sz(I:Inv X pins σ H s):X.s₀.heap.objs.size<=s.heap.objs.size:=AJ I.ok.above<|B5 I.lt
def Inv.nofs(I:Inv X pins σ H s){a:Fq}(h:s.heap.objs.size<=a):a∉X.fs:=λhb=>by obtain⟨_,o,ho,_⟩:=I.ok.funs.mem hb;exact absurd (AD (AI ho)<|AJ I.sz h)<|AX _
def Inv.cne(I:Inv X pins σ H s):∀x c,X.env.cells.lookup x=some c->c≠X.env.locals:=λx c e z=>by obtain⟨v,o,ho,hd⟩:=I.cell x c e;obtain⟨m,⟨o',es,ep,FT,FK,_⟩,_⟩:=I.loc;rw[z,FT]at ho;cases ho;rw[FK]at hd;cases hd
theorem Inv.funs(I:Inv X pins σ H s):s.heap.FunFrames X.base X.outer:=by
 have all:∀(l:Fl Env),(∀b∈frs l,b∈X.fs)->X.s₀.heap.FunFrames X.base l->s.heap.FunFrames X.base l:=by
  intro l
  induction l with
  |nil=>intro _ _;trivial
  | cons env r ih =>
   intro hs hl;obtain⟨hk,⟨L,o,hf,hn,ho,hd⟩,hr⟩:=hl;have hL:L∈X.fs:=hs L<|by unfold frs;rw[B8,hf];exact AB
   obtain⟨sl,e⟩:=I.base.slot L o ho (I.ok.frf L hL) hL λz=>I.ok.exfs L z hL;exact⟨hk,⟨L,_,hf,hn,e,hd⟩,ih (λb hb=>hs b<|by unfold frs;rw[B8,hf];exact Az _ hb) hr⟩
 exact all X.outer (λ_ hb=>hb) I.ok.funs
theorem Inv.stack(I:Inv X pins σ H s):s.heap.FunFrames X.base X.stack:=by
 rcases I.ok.stk with e|⟨e,hf⟩
 ·rw[e];exact I.funs
 ·rw[e];obtain⟨m,hn,_⟩:=I.loc;refine .cons (by rw[I.ok.kind];decide) hf hn ?_ I.funs
  exact Heap.get?_none_of_le<|AJ I.ok.bsz I.ok.above
def Inv.stkSub(I:Inv X pins σ H s):∀b∈frs X.stack,b∈X.env.locals::X.fs:=λb hb=>by
 rcases I.ok.stk with e|⟨e,hf⟩
 ·rw[e]at hb;exact Az _ hb
 ·rw[e]at hb;unfold frs at hb;rw[B8,hf]at hb;exact hb
def Inv.stkFree(I:Inv X pins σ H s):∀b∈frs X.stack,H b=none:=λb hb=>by
 rcases AM.mp (I.stkSub b hb)with e|hb
 ·rw[e];exact I.free
 ·obtain⟨_,o,ho,_⟩:=I.ok.funs.mem hb;exact I.base.free b o ho (I.ok.frf b hb) λz=>I.ok.exfs b z hb
def Inv.step{g':Array GenState}{t':Nat}{d':Drawn}{ch:Fl Fq}(I:Inv X pins σ H s)
  (hch:∀b∈ch,(b∈X.ex\/X.s₀.heap.objs.size<=b)/\b≠X.env.locals/\(∀x c,X.env.cells.lookup x=some c->c≠b)/\∀p∈X.pn++pins,p.1≠b)
  (keep:∀b o,b≠X.env.locals->b∉X.fs->b∉ch->s.heap.get? b=some o->H b=none->h'.get? b=some o)
  (slot:∀b o,b≠X.env.locals->b∈X.fs->b∉ch->s.heap.get? b=some o->H b=none->∃sl,h'.get? b=some {o with slots:=sl}) (free:∀b o,b∉ch->s.heap.get? b=some o->H b=none->H' b=none)
  (there:∀b o,b∉ch->s.heap.get? b=some o->∃o',h'.get? b=some o')
  (tups:∀b xs,H b=some (.tup xs)->H' b=some (.tup xs)) (frzs:∀b o u,H b=some (.frz o u)->H' b=some (.frz o u)) (tbls:∀b ps,H b=some (.tbl ps)->∃more,H' b=some (.tbl<|ps++more))
  (ns:∀m,s.heap.Ns X.env.locals m->h'.Ns X.env.locals m) (hok:HOk X.prog X.w H' h') (hg:AllBare g') :
  Inv X pins σ H' {s with heap:=h',gens:=g',drawn:=d',toks:=t'}:=by
 have neL:∀b o,X.s₀.heap.get? b=some o->b≠X.env.locals:=λb o e=>AO<|AD (AI e) I.ok.above;have neC:∀b o,X.s₀.heap.get? b=some o->b∉X.ex->b∉ch:=λb o e hx hb=>by
  rcases(hch b hb).1 with z|z
  ·exact hx z
  ·exact absurd (AD (AI e) z)<|AX _
 have cellK:∀x c,X.env.cells.lookup x=some c->∀v,s.heap.IsCell c v->h'.IsCell c v:=λx c e v Fy=>by
  obtain⟨o,ho,hd⟩:=Fy;have nch:c∉ch:=λz=>(hch c z).2.2.1 x c e rfl;by_cases hc:c∈X.fs
  ·obtain⟨sl,q⟩:=slot c o (I.cne x c e) hc nch ho<|I.freeC x c e;exact⟨_,q,hd⟩
  ·exact⟨o,keep c o (I.cne x c e) hc nch ho<|I.freeC x c e,hd⟩
 refine⟨I.ok,I.os,hg,⟨λb o e n hb hx=>?_,λb o e n hb hx=>?_,λb o e n hx=>?_,λb o e hx=>?_,λb xs e=>tups b xs<|I.base.tups b xs e,λb o xs e=>frzs b o xs<|I.base.frzs b o xs e,λb ps e=>?_⟩,?_,λx c e=>?_,?_,λx c e=>?_,λp hp=>?_,hok,I.len⟩
 ·exact keep b o (neL b o e) hb (neC b o e hx) (I.base.keep b o e n hb hx)<|I.base.free b o e n hx
 ·obtain⟨sl,e1⟩:=I.base.slot b o e n hb hx;obtain⟨sl',e2⟩:=slot b _ (neL b o e) hb (neC b o e hx) e1<|I.base.free b o e n hx;exact⟨sl',e2⟩
 ·obtain⟨o',e1⟩:=I.base.there b o e hx;exact free b o' (neC b o e hx) e1<|I.base.free b o e n hx
 ·obtain⟨o',e1⟩:=I.base.there b o e hx;exact there b o' (neC b o e hx) e1
 ·obtain⟨m1,e1⟩:=I.base.tbls b ps e;obtain⟨m2,e2⟩:=tbls b _ e1;exact⟨m1++m2,by rw[e2,Array.append_assoc]⟩
 ·obtain⟨m,hn,hl⟩:=I.loc;refine⟨m,ns m hn,λi x v e1 e2 e3=>?_⟩;obtain⟨u,r,l⟩:=hl i x v e1 e2 e3;refine⟨u,r,?_⟩;rcases l with l|⟨k,c,e,z⟩
  ·exact .inl l
  ·exact .inr ⟨k,c,e,cellK x c e _ z⟩
 ·obtain⟨v,z⟩:=I.cell x c e;exact⟨v,cellK x c e v z⟩
 ·obtain⟨m,⟨o,_,_,ho,_⟩,_⟩:=I.loc;exact free _ o (λz=>(hch _ z).2.1 rfl) ho I.free
 ·obtain⟨v,o,ho,hd⟩:=I.cell x c e;exact free c o (λz=>(hch c z).2.2.1 x c e rfl) ho<|I.freeC x c e
 ·obtain⟨e,n,ne,nf,d⟩:=I.pin p hp;have nch:p.1∉ch:=λz=>(hch p.1 z).2.2.2 p hp rfl;exact⟨keep p.1 p.2 ne nf nch e n,free p.1 p.2 nch e n,ne,nf,d⟩
def Inv.un{t':Nat}(I:Inv X pins σ H s)(u:Un X.fs [] H H' s.heap h')(hok:HOk X.prog X.w H' h'):Inv X pins σ H' {s with heap:=h',toks:=t'}:=by
 obtain⟨m,⟨o,es,ep,ho,r⟩,_⟩:=id I.loc;obtain⟨sl,hL⟩:=u.any ho I.free<|by simp
 exact I.step (g':=s.gens) (d':=s.drawn) (ch:=[]) (λ_ z=>nomatch z) (λb o _ hb _ e n=>u.keep b o e n hb<|by simp) (λb o _ hb _ e n=>u.slot b o e n hb<|by simp) (λb o _ e n=>u.free b o e n<|by simp) (λb o _ e=>u.there b o e<|by simp) u.tups u.frzs u.tbls (λm' hm=>by obtain⟨o',es',ep',FT,r'⟩:=hm;rw[ho]at FT;cases FT;exact⟨_,es',ep',hL,r'⟩) hok I.bare
def Inv.call{g':Array GenState}{t':Nat}{d':Drawn}{ch:Fl Fq}(I:Inv X pins σ H s)(u:Un (frs X.stack) ch H H' s.heap h')(hok:HOk X.prog X.w H' h')(hg:AllBare g')
  (hch:∀b∈ch,(b∈X.ex\/X.s₀.heap.objs.size<=b)/\b≠X.env.locals/\(∀x c,X.env.cells.lookup x=some c->c≠b)/\∀p∈X.pn++pins,p.1≠b) :
  Inv X pins σ H' {s with heap:=h',gens:=g',drawn:=d',toks:=t'}:=by
 obtain⟨m,⟨o,es,ep,ho,r⟩,_⟩:=id I.loc;obtain⟨sl,hL⟩:=u.any ho I.free λz=>(hch _ z).2.1 rfl;exact I.step (ch:=ch) hch (λb o hL hb hc e n=>u.keep b o e n (λz=>(AM.mp<|I.stkSub b z).elim hL hb) hc) (λb o _ _ hc e n=>u.any e n hc) (λb o hc e n=>u.free b o e n hc) (λb o hc e=>u.there b o e hc) u.tups u.frzs u.tbls (λm' hm=>by obtain⟨o',es',ep',FT,r'⟩:=hm;rw[ho]at FT;cases FT;exact⟨_,es',ep',hL,r'⟩) hok hg
def Inv.turned{t':Nat}{it:Fq}(I:Inv X pins σ H s)(k:∀b o,b≠it->s.heap.get? b=some o->h'.get? b=some o)(hn:H it=none)(hL:it≠X.env.locals)
  (h1:it∈X.ex\/X.s₀.heap.objs.size<=it) (h2:∀x c,X.env.cells.lookup x=some c->c≠it) (h3:∀p∈X.pn++pins,p.1≠it):Inv X pins σ H {s with heap:=h',toks:=t'}:=by
 have nit:∀b u,H b=some u->b≠it:=λb u e z=>by rw[z,hn]at e;cases e
 refine I.step (g':=s.gens) (d':=s.drawn) (ch:=[it]) (λb hb=>?_) (λb o _ _ hc e _=>k b o (λz=>hc<|by simp[z]) e) (λb o _ _ hc e _=>⟨o.slots,k b o (λz=>hc<|by simp[z]) e⟩) (λ_ _ _ _ n=>n)
  (λb o hc e=>⟨o,k b o (λz=>hc<|by simp[z]) e⟩) (λ_ _ e=>e) (λ_ _ _ e=>e) (λb ps e=>⟨#[],by rw[e];simp⟩) (λm hm=>?_) (λb u e=>?_) I.bare
 ·have e:b=it:=by simpa using hb
  subst e;exact⟨h1,hL,h2,h3⟩
 ·obtain⟨o,es,ep,ho,r⟩:=hm;exact⟨o,es,ep,k _ o (Ne.symm hL) ho,r⟩
 ·refine(I.hok b u e).stay (λc v hc q=>k c v ?_ q) (λ_ q=>q) (λ_ _ q=>q) λ_ _ _ _ q _=>q;rcases hc with z|z
  ·rw[z];exact nit b u e
  ·exact nit c _ z
def Inv.tok(I:Inv X pins σ H s)(t:Nat):Inv X pins σ H {s with toks:=t}:=I.un (h':=s.heap) (t':=t) Un.refl I.hok
theorem Inv.kept{t':Nat}(I:Inv X pins σ H s)(k:∀b u,s.heap.get? b=some u->h'.get? b=some u):Inv X pins σ H {s with heap:=h',toks:=t'}:=I.un (Un.kept k)<|I.hok.kept k
theorem Inv.laid{a:Fq}{o:HO}{t':Nat}(I:Inv X pins σ H s)(k:∀b u,s.heap.get? b=some u->h'.get? b=some u)(hp:s.heap.objs.size<=a)(new:ObjOk X.prog X.w (upd H a o) h' a o) :
  Inv X pins σ (upd H a o) {s with heap:=h',toks:=t'}:=I.un (Un.laid k hp<|I.hok.fresh hp)<|I.hok.laid k hp new
theorem Inv.write{x e:Fq}{o:HO}{t':Nat}(I:Inv X pins σ H s)(mu:n8 (H x))(he:e=x\/H e=some (.own x))(k:∀b u,b≠e->s.heap.get? b=some u->h'.get? b=some u)(heo:∃u,h'.get? e=some u)
  (new:ObjOk X.prog X.w (upd H x o) h' x o):Inv X pins σ (upd H x o) {s with heap:=h',toks:=t'}:=I.un (Un.write mu he k heo)<|I.hok.write mu he k heo new
def Inv.pins_of{pins':Fl (Fq×Obj)}(I:Inv X pins σ H s)(h:∀p∈pins',s.heap.get? p.1=some p.2/\H p.1=none/\p.1≠X.env.locals/\p.1∉X.fs/\∀v,p.2.data≠.cell v):Inv X pins' σ H s :=
 ⟨I.ok,I.os,I.bare,I.base,I.loc,I.cell,I.free,I.freeC,λp hp=>(Bh.mp hp).elim (λz=>I.pin p<|Be _ z)<|h p,I.hok,I.len⟩
def Zc0{N:D4}(hN:N.Nodup){i j:Nat}{x:Str}(a:N[i]?=some x)(b:N[j]?=some x):i=j:=by obtain⟨h1,e1⟩:=Ay.mp a;obtain⟨h2,e2⟩:=Ay.mp b;exact(List.getElem_inj hN).mp<|e1.trans e2.symm
noncomputable def oz{M:Model}{A:Fu}{E:DZ}{i:Nat}{x:Str}{v:V}{u:Fo}{Q:Unit->Fp->Prop}(I:Inv X pins σ H s)(hN:X.N.Nodup)(hi:X.N[i]?=some x)(hx:kg X.env.scope x)(r:RelV v u)
  (h:∀s',Inv X pins (σ.set i<|some v) H s'->(∃a,Heap.SameBut a s.heap s'.heap/\(a=X.env.locals\/X.env.cells.lookup x=some a))->Q () s') (hf:X.fn x=true\/X.env.scope.names.lookup x=some .local:=by first|exact .inl rfl|exact .inr rfl|assumption):wpAny M A (storeName X.env x u) Q E s:=by
 obtain⟨m,hn,hl⟩:=id I.loc;have hcls:(X.env.scope.kind == .class || (X.env.scope.kind == .module&&X.env.locals != X.env.globals))=false:=by rw[I.ok.kind];rfl
 have hiσ:i<σ.length:=by rw[I.len];exact(Ay.mp hi).1
 have cne:=I.cne;have tracked:∀{a:Fq}{h':Fv},(∃o,s.heap.get? a=some o/\H a=none)->Heap.SameBut a s.heap h'->HOk X.prog X.w H h':=λ{a h'} ha hs b ob e=>by
  obtain⟨_,_,FQ⟩:=ha;refine(I.hok b ob e).stay (λc w' hc q=>(hs.2 c ?_).trans q) (λ_ q=>q) (λ_ _ q=>q) λ_ _ _ _ q _=>q;rintro rfl;rcases hc with rfl|hc
  ·rw[FQ]at e;cases e
  ·rw[FQ]at hc;cases hc
 rcases hx with hk|hk
 ·refine wpAny_storeName_local hk hn (λh' hn' hs=>?_) hcls;obtain⟨oL,_,_,hoL,_⟩:=id hn;refine h _ ⟨I.ok,I.os,I.bare,⟨λb o e n hb hx=>?_,λb o e n hb hx=>?_,I.base.free,λb o e hx=>?_,I.base.tups,I.base.frzs,I.base.tbls⟩,⟨_,hn',λj y v' e1 e2 e3=>?_⟩,λy c e=>?_,I.free,I.freeC,λp hp=>?_,tracked ⟨oL,hoL,I.free⟩ hs,by simpa using I.len⟩ ⟨_,hs,.inl rfl⟩
  ·exact(hs.2 b<|AO<|AD (AI e) I.ok.above).trans<|I.base.keep b o e n hb hx
  ·obtain⟨sl,e1⟩:=I.base.slot b o e n hb hx;exact⟨sl,(hs.2 b<|AO<|AD (AI e) I.ok.above).trans e1⟩
  ·obtain⟨o',e1⟩:=I.base.there b o e hx;exact⟨o',(hs.2 b<|AO<|AD (AI e) I.ok.above).trans e1⟩
  ·by_cases hj:j=i
   ·subst hj;rw[hi]at e1;cases e1;rw[AS hiσ]at e2;cases e2;exact⟨u,r,.inl ⟨hk,by simp⟩⟩
   ·rw[AL<|Ne.symm hj]at e2;obtain⟨u',r',q⟩:=hl j y v' e1 e2 e3;refine⟨u',r',?_⟩;rcases q with ⟨k,e⟩|⟨k,c,e,z⟩
    ·refine .inl ⟨k,?_⟩;have:y≠x:=λe=>hj<|Zc0 hN e1<|e ▸ hi;simp[this,e]
    ·exact .inr ⟨k,c,e,z.sameBut hs<|cne y c e⟩
  ·obtain⟨w',z⟩:=I.cell y c e;exact⟨w',z.sameBut hs<|cne y c e⟩
  ·obtain⟨e,n,ne,nf,d⟩:=I.pin p hp;exact⟨(hs.2 p.1 ne).trans e,n,ne,nf,d⟩
 ·have hfn:X.fn x=true:=by
   rcases hf with z|z
   ·exact z
   ·rw[z]at hk;cases hk
  obtain⟨c,hc⟩:=I.ok.has x<|.inl hk;obtain⟨w',z⟩:=I.cell x c hc;refine wpAny_storeName_cell I.ok.kind hk hc z (λh' hc' hs=>?_);obtain⟨oc,hoc,hocd⟩:=id z;refine h {s with heap:=h'} ⟨I.ok,I.os,I.bare,⟨λb o e n hb hx=>?_,λb o e n hb hx=>?_,I.base.free,λb o e hx=>?_,I.base.tups,I.base.frzs,I.base.tbls⟩,⟨m,hn.sameBut hs<|Ne.symm<|cne x c hc,λj y v' e1 e2 e3=>?_⟩,λy c' e=>?_,I.free,I.freeC,λp hp=>?_,tracked ⟨oc,hoc,I.freeC x c hc⟩ hs,by simpa using I.len⟩ ⟨c,hs,.inr hc⟩
  ·exact(hs.2 b<|AO<|AD (AI e)<|I.ok.cab x c hfn hc).trans<|I.base.keep b o e n hb hx
  ·obtain⟨sl,e1⟩:=I.base.slot b o e n hb hx;exact⟨sl,(hs.2 b<|AO<|AD (AI e)<|I.ok.cab x c hfn hc).trans e1⟩
  ·obtain⟨o',e1⟩:=I.base.there b o e hx;exact⟨o',(hs.2 b<|AO<|AD (AI e)<|I.ok.cab x c hfn hc).trans e1⟩
  ·by_cases hj:j=i
   ·subst hj;rw[hi]at e1;cases e1;rw[AS hiσ]at e2;cases e2;exact⟨u,r,.inr ⟨.inl hk,c,hc,hc'⟩⟩
   ·rw[AL<|Ne.symm hj]at e2;obtain⟨u',r',q⟩:=hl j y v' e1 e2 e3;refine⟨u',r',?_⟩;rcases q with q|⟨k,c',e,z'⟩
    ·exact .inl q
    ·refine .inr ⟨k,c',e,z'.sameBut hs ?_⟩;rintro rfl;exact hj<|Zc0 hN e1<|I.ok.inj _ _ _ e hc ▸ hi
  ·by_cases hcc:c'=c
   ·subst hcc;exact⟨_,hc'⟩
   ·obtain⟨w2,z2⟩:=I.cell y c' e;exact⟨w2,z2.sameBut hs hcc⟩
  ·obtain⟨e,n,ne,nf,d⟩:=I.pin p hp;refine⟨(hs.2 p.1 ?_).trans e,n,ne,nf,d⟩;intro q;rw[q,hoc]at e;have q':oc=p.2:=A8 e;exact d w'<|by rw[<- q'];exact hocd
def ma{M:Model}{A:Fu}{E:DZ}{i:Nat}{x:Str}{v:V}{u:Fo}{Q:Unit->Fp->Prop}(I:Inv X pins σ H s)(hN:X.N.Nodup)(hi:X.N[i]?=some x)(hx:kg X.env.scope x)(r:RelV v u)
  (h:∀s',Inv X pins (σ.set i<|some v) H s'->Q () s') (hf:X.fn x=true\/X.env.scope.names.lookup x=some .local:=by first|exact .inl rfl|exact .inr rfl|assumption):wpAny M A (storeName X.env x u) Q E s :=
 oz I hN hi hx r (λs' I' _=>h s' I') hf
def Inv.call'{s':Fp}{ch:Fl Fq}(I:Inv X pins σ H s)(ho:s'.os=s.os)(u:Un (frs X.stack) ch H H' s.heap s'.heap)(hok:HOk X.prog X.w H' s'.heap)(hg:AllBare s'.gens)
  (hch:∀b∈ch,(b∈X.ex\/X.s₀.heap.objs.size<=b)/\b≠X.env.locals/\(∀x c,X.env.cells.lookup x=some c->c≠b)/\∀p∈X.pn++pins,p.1≠b):Inv X pins σ H' s':=by obtain⟨h',g',d',t',o'⟩:=s';have e:o'=s.os:=ho;subst e;exact I.call (g':=g') (t':=t') (d':=d') u hok hg hch
end
abbrev XK:=Fo->Fm Fq->Hp->Prop
abbrev St:=Fl<|Fm V
abbrev VK:=V->Hp->Prop
abbrev TE:=St->Hp->VK->Prop
abbrev TT:=St->Hp->(Bool->Hp->Prop)->Prop
abbrev TA:=St->Hp->(Fl V->Hp->Prop)->Prop
structure Ends where
 nx:St->Hp->Prop
 rt:VK
 bk:St->Hp->Prop:=λ_ _=>False
 ct:St->Hp->Prop:=λ_ _=>False
abbrev TS:=Ends->St->Hp->Prop
def EP(X:Cx)(pins:Fl (Fq×Obj))(σ:St)(Q:VK)(u:Fo)(s':Fp):Prop:=∃v H',Inv X pins σ H' s'/\RelV v u/\Q v H'
def TP(X:Cx)(pins:Fl (Fq×Obj))(σ:St)(Q:Bool->Hp->Prop)(b:Bool)(s':Fp):Prop:=∃H',Inv X pins σ H' s'/\Q b H'
def AP(X:Cx)(pins:Fl (Fq×Obj))(σ:St)(Q:Fl V->Hp->Prop)(us:D3)(s':Fp):Prop:=∃vs H',Inv X pins σ H' s'/\Vals vs us/\Q vs H'
def SP(X:Cx)(pins:Fl (Fq×Obj))(D:Ends)(f:Flow)(s':Fp):Prop :=
 match f with
 |.next=>∃σ' H',Inv X pins σ' H' s'/\D.nx σ' H'
 |.brk=>∃σ' H',Inv X pins σ' H' s'/\D.bk σ' H'
 |.cont=>∃σ' H',Inv X pins σ' H' s'/\D.ct σ' H'
 |.ret u=>∃v σ' H',Inv X pins σ' H' s'/\RelV v u/\D.rt v H'
def PE(X:Cx)(e:Fw)(t:TE):Prop :=
 ∀(pins:Fl (Fq×Obj))(s:Fp)(σ:St)(H:Hp)(Q:VK),Inv X pins σ H s->t σ H Q->wpAny (model X.prog X.w) X.A (eval e X.env) (EP X pins σ Q) X.xe s
def PT(X:Cx)(e:Fw)(t:TT):Prop :=
 ∀(pins:Fl (Fq×Obj))(s:Fp)(σ:St)(H:Hp)(Q:Bool->Hp->Prop),Inv X pins σ H s->t σ H Q->wpAny (model X.prog X.w) X.A (isTrue e X.env<|eval e X.env) (TP X pins σ Q) X.xe s
def PW(X:Cx)(e:Fw)(t:TT):Prop :=
 ∀(whole:Sem Fo)(pins:Fl (Fq×Obj))(s:Fp)(σ:St)(H:Hp)(Q:Bool->Hp->Prop),Inv X pins σ H s->t σ H Q->wpAny (model X.prog X.w) X.A (isTrue e X.env whole) (TP X pins σ Q) X.xe s
def PW.pt{X:Cx}{e:Fw}{t:TT}(h:PW X e t):PT X e t:=h _
def PA(X:Cx)(es:Fl Fw)(t:TA):Prop :=
 ∀(pos:Pos)(pins:Fl (Fq×Obj))(s:Fp)(σ:St)(H:Hp)(Q:Fl V->Hp->Prop),Inv X pins σ H s->t σ H Q->wpAny (model X.prog X.w) X.A (spliced<|backTo pos<|starEach es X.env) (AP X pins σ Q) X.xe s
def PS(X:Cx)(st:Fx)(t:TS):Prop :=
 ∀(pins:Fl (Fq×Obj))(s:Fp)(σ:St)(H:Hp)(D:Ends),Inv X pins σ H s->t D σ H->wpAny (model X.prog X.w) X.A (exec st X.env) (SP X pins D) X.xe s
def PSs(X:Cx)(st:Fl Fx)(t:TS):Prop :=
 ∀(pins:Fl (Fq×Obj))(s:Fp)(σ:St)(H:Hp)(D:Ends),Inv X pins σ H s->t D σ H->wpAny (model X.prog X.w) X.A (execs st X.env) (SP X pins D) X.xe s
def thn{α:Type}{t:Sem α}{Q Q':α->Fp->Prop}{M:Model}{A:Fu}{E:DZ}{s:Fp}(h:wpAny M A t Q E s)(hQ:∀a s,Q a s->Q' a s):wpAny M A t Q' E s:=Ei h hQ λ_ _ x=>x
section
variable{X:Cx}
def gI(i:Nat):TE:=λσ H Q=>∃v,σ[i]?=some (some v)/\Q v H
def tC(v:V):TE:=λ_ H Q=>Q v H
noncomputable def ZiL{i:Nat}{x:Str}{pos:Pos}(hN:X.N[i]?=some x)(hv:v7 X.env.scope x)(hd:(x==("__debug__":Str))=false:=by decide)(hcd:(x==("__classdict__":Str))=false:=by decide):PE X (.Name x pos) (gI i):=by
 intro pins s σ H Q I h;obtain⟨v,e,h⟩:=h;obtain⟨m,hn,hl⟩:=I.loc;obtain⟨u,r,l⟩:=hl i x v hN e hv;have fin:EP X pins σ Q u s:=⟨v,H,I,r,h⟩;rcases l with ⟨hk,hm⟩|⟨hk,c,hc,hcell⟩
 ·exact wpAny_Name (wpAny_loadName_local I.ok.kind hk hn hm fin) hd
 ·rcases hk with hk|hk
  ·exact wpAny_Name (wpAny_loadName_cell I.ok.kind hk hc hcell fin) hd
  ·exact wpAny_Name (wpAny_loadName_free I.ok.kind hk hc hcell fin hcd) hd
def cq{i j pos}:PE X (.Constant (.int i) j pos) (tC<|.int i):=λ_ _ _ H _ I h=>wpAny_Constant_int ⟨.int i,H,I.tok _,⟨_,rfl⟩,h⟩
def Zi0{b j pos}:PE X (.Constant (.bool b) j pos) (tC<|.bl b):=λ_ _ _ H _ I h=>Constant_bool ⟨.bl b,H,I,rfl,h⟩
def ZiR{j pos}:PE X (.Constant .none j pos) (tC .non):=λ_ _ _ H _ I h=>Constant_none ⟨.non,H,I,rfl,h⟩
def ZiO{x j pos}:PE X (.Constant (.str x) j pos) (tC<|.str x):=λ_ _ _ H _ I h=>Calls.Constant_str ⟨.str x,H,I.tok _,⟨_,rfl⟩,h⟩
def Gl(X:Cx)(x:Str):Prop:=X.env.kindOf x=some .globalImplicit
def Zdr{E:DZ}{pins:Fl (Fq×Obj)}{s:Fp}{σ:St}{H:Hp}{x:Str}{u:Fo}{pos:Pos}{Q:DZ}(I:Inv X pins σ H s)(hg:Gl X x)(hm:X.mg x=some u)(h:Q u s)
  (hd:(x==("__debug__":Str))=false:=by decide):wpAny (model X.prog X.w) X.A (eval (.Name x pos) X.env) Q E s :=
 Calls.Name_function_global I.ok.kind hg (Calls.loadGlobal_global (by rw[I.ok.glob];exact I.mod.glob.keeps I.bk) hm h) hd
noncomputable def je{E:DZ}{pins:Fl (Fq×Obj)}{s:Fp}{σ:St}{H:Hp}{x:Str}{u:Fo}{pos:Pos}{Q:DZ}(I:Inv X pins σ H s)(hg:Gl X x)(hm:X.mg x=none)(hv:bootBuiltins x=some u)(h:Q u s)
  (hn:x≠"__name__":=by decide) (hd:(x==("__debug__":Str))=false:=by decide):wpAny (model X.prog X.w) X.A (eval (.Name x pos) X.env) Q E s:=by obtain⟨mb,h1,h2⟩:=I.mod.blt;exact Calls.Name_function_global I.ok.kind hg (Calls.loadGlobal_builtin (by rw[I.ok.glob];exact I.mod.glob.keeps I.bk) hm (by rw[I.ok.blt];exact h1.keeps I.bk) ((h2 x hn).trans hv) h) hd
def ZiT{x:Str}{v:V}{u:Fo}{pos:Pos}(hg:Gl X x)(hm:X.mg x=some u)(r:RelV v u)(hd:(x==("__debug__":Str))=false:=by decide):PE X (.Name x pos) (tC v) :=
 λ_ _ _ H _ I h=>Zdr I hg hm ⟨v,H,I,r,h⟩ hd
def fv{x:Str}{v:V}{u:Fo}{pos:Pos}(hg:Gl X x)(hm:X.mg x=none)(hv:bootBuiltins x=some u)(r:RelV v u)(hn:x≠"__name__":=by decide)(hd:(x==("__debug__":Str))=false:=by decide):PE X (.Name x pos) (tC v) :=
 λ_ _ _ H _ I h=>je I hg hm hv ⟨v,H,I,r,h⟩ hn hd
variable{a b:Fw}{ta tb:TE}{pos:Pos}
variable{tA tB':TT}{rest:Fl Fw}
def Zg2(t u:TT):TT:=λσ H Q=>t σ H λc H1=>if c=true then u σ H1 Q else Q false H1
def tOr(t u:TT):TT:=λσ H Q=>t σ H λc H1=>if c=true then Q true H1 else u σ H1 Q
def ZgR(t:TT):TT:=λσ H Q=>t σ H λc H1=>Q (!c) H1
def Zcx(ha:PT X a tA):PW X (.BoolOp .And [a] pos) tA:=by
 intro wh pins s σ H Q I h;refine isTrue_and (thn (ha pins s σ H Q I h) λc s1 e=>?_);cases c with
 |true=>exact isTrue_and_nil e
 |false=>exact e
def Zim(ha:PT X a tA):PW X (.BoolOp .Or [a] pos) tA:=by
 intro wh pins s σ H Q I h;refine isTrue_or (thn (ha pins s σ H Q I h) λc s1 e=>?_);cases c with
 |false=>exact isTrue_or_nil e
 |true=>exact e
def Zcy(ha:PT X a tA)(hb:PW X (.BoolOp .And (b::rest) pos) tB'):PW X (.BoolOp .And (a::b::rest) pos) (Zg2 tA tB'):=by
 intro wh pins s σ H Q I h;refine isTrue_and (thn (ha pins s σ H _ I h) λc s1 Fy=>?_);obtain⟨H1,I1,q1⟩:=Fy;cases c with
 |true=>exact hb wh pins s1 σ H1 Q I1 q1
 |false=>exact⟨H1,I1,q1⟩
def Zin(ha:PT X a tA)(hb:PW X (.BoolOp .Or (b::rest) pos) tB'):PW X (.BoolOp .Or (a::b::rest) pos) (tOr tA tB'):=by
 intro wh pins s σ H Q I h;refine isTrue_or (thn (ha pins s σ H _ I h) λc s1 Fy=>?_);obtain⟨H1,I1,q1⟩:=Fy;cases c with
 |true=>exact⟨H1,I1,q1⟩
 |false=>exact hb wh pins s1 σ H1 Q I1 q1
def Ziq(ha:PT X a tA):PT X (.UnaryOp .Not a pos) (ZgR tA):=by intro pins s σ H Q I h;exact isTrue_not<|ha pins s σ H (λc H1=>Q (!c) H1) I h
def Zg1(ta tb:TE):TE:=λσ H Q=>ta σ H λx H1=>∃c,x=.bl c/\if c=true then tb σ H1 Q else Q (.bl false) H1
def ZgQ(ta:TE):TE:=λσ H Q=>ta σ H λx H1=>∃c,x=.bl c/\Q (.bl<|!c) H1
def ZiP{op}{t:TE}(h:PE X a t):PE X (.BoolOp op [a] pos) t:=λpins s σ H Q I hw=>BoolOp_one<|h pins s σ H Q I hw
def Zi1(ha:PE X a ta)(hb:PE X (.BoolOp .And (b::rest) pos) tb):PE X (.BoolOp .And (a::b::rest) pos) (Zg1 ta tb):=by
 intro pins s σ H Q I h;refine BoolOp_and (thn (ha pins s σ H _ I h) λv s1 Fy=>?_);obtain⟨x,H1,I1,r1,q1⟩:=Fy;obtain⟨c,rfl,q1⟩:=q1;cases r1;refine Ey ?_;cases c with
 |true=>exact hb pins s1 σ H1 Q I1 q1
 |false=>exact⟨.bl false,H1,I1,rfl,q1⟩
def ZiQ(ha:PE X a ta):PE X (.UnaryOp .Not a pos) (ZgQ ta):=by intro pins s σ H Q I h;refine UnaryOp_ (thn (ha pins s σ H _ I h) λv s1 Fy=>?_);obtain⟨x,H1,I1,r1,q1⟩:=Fy;obtain⟨c,rfl,q1⟩:=q1;cases r1;exact not_of<|Ey ⟨.bl<|!c,H1,I1,rfl,q1⟩
def tIf(t:TT)(ta tb:TE):TE:=λσ H Q=>t σ H λc H1=>if c=true then ta σ H1 Q else tb σ H1 Q
def ZiS{c:Fw}(hc:PT X c tA)(ha:PE X a ta)(hb:PE X b tb):PE X (.IfExp c a b pos) (tIf tA ta tb):=by
 intro pins s σ H Q I h;refine wpAny_IfExp (thn (hc pins s σ H _ I h) λd s1 Fy=>?_);obtain⟨H1,I1,q1⟩:=Fy;cases d with
 |true=>exact ha pins s1 σ H1 Q I1 q1
 |false=>exact hb pins s1 σ H1 Q I1 q1
end
def SqL(K:DQ)(H:Hp)(a:Fq)(xs:D5):Prop :=
 Rd H a (.lst xs) \/
  ∃(o:Obj)(Fz:Array Fo)(n:Nat),K.lookup a=some o/\o.cls=.type "list"/\o.dict=none/\o.data=.seq Fz n/\Fz.size<=sizeLine/\Vals xs Fz.toList
def SqT(K:DQ)(H:Hp)(a:Fq)(xs:D5):Prop :=
 Rd H a (.tup xs) \/
  ∃(o:Obj)(Fz:Array Fo)(n:Nat),K.lookup a=some o/\o.cls=.type "tuple"/\o.data=.seq Fz n/\Fz.size<=sizeLine/\Vals xs Fz.toList
noncomputable def ZnP:Fo->Fm V
 |.none=>some .non
 |.bool b=>some (.bl b)
 |.int i _=>some (.int i)
 |.str x _=>some (.str x)
 |.bytes b _=>some (.byt b)
 |.float b _=>some (.flt b)
 |.ref a=>some (.ref a)
 |.type n=>some (.ty n)
 |_=>none
def RelV.abs{x:V}{u:Fo}(r:RelV x u):ZnP u=some x:=by
 cases x with
 |non=>cases r;rfl
 |bl _=>cases r;rfl
 |int _=>obtain⟨t,rfl⟩:=r;rfl
 |str _=>obtain⟨t,rfl⟩:=r;rfl
 |byt _=>obtain⟨t,rfl⟩:=r;rfl
 |flt _=>obtain⟨t,rfl⟩:=r;rfl
 |ref _=>cases r;rfl
 |ty _=>cases r;rfl
def RelV.inj{x y:V}{u:Fo}(r:RelV x u)(q:RelV y u):x=y:=A8<|r.abs.symm.trans q.abs
theorem Vals.inj{xs ys:D5}{us:D3}(h:Vals xs us)(h':Vals ys us):xs=ys:=by
 induction h generalizing ys with
 |nil=>cases h';rfl
 |cons r t ih=>cases h' with|cons r' t'=>rw[r.inj r',ih t']
section
variable{X:Cx}{pins:Fl (Fq×Obj)}{σ:St}{H:Hp}{s:Fp}{a:Fq}{xs ys:D5}
def SqL.of{K:DQ}(h:H a=some (.lst xs)):SqL K H a xs:=.inl<|.inl h
def SqT.of{K:DQ}(h:H a=some (.tup xs)):SqT K H a xs:=.inl<|.inl h
def Inv.list(I:Inv X pins σ H s)(h:SqL X.K H a xs):∃Fz:D3,Vals xs Fz/\PlainL s.heap a Fz.toArray/\xs.length<=sizeLine:=by
 rcases h with h|⟨o,Fz,n,hk,hc,hd,hs,hz,r⟩
 ·obtain⟨z,Fz,n,r,e⟩:=h.ok I.hok;exact⟨Fz,r,⟨_,n,e,rfl,rfl,rfl⟩,z⟩
 ·refine⟨Fz.toList,r,⟨o,n,I.kIn a o hk,hc,hd,by simpa using hs⟩,?_⟩
  have e:=r.length;simp only[B9]at e;omega
def Inv.tuple(I:Inv X pins σ H s)(h:SqT X.K H a xs):∃Fz:D3,Vals xs Fz/\IsTup s.heap a Fz.toArray/\xs.length<=sizeLine:=by
 rcases h with h|⟨o,Fz,n,hk,hc,hs,hz,r⟩
 ·obtain⟨z,Fz,r,p⟩:=h.ok I.hok;exact⟨Fz,r,p,z⟩
 ·refine⟨Fz.toList,r,⟨o,I.kIn a o hk,hc,n,by simpa using hs⟩,?_⟩
  have e:=r.length;simp only[B9]at e;omega
def Inv.list_inj(I:Inv X pins σ H s)(h:SqL X.K H a xs)(h':SqL X.K H a ys):xs=ys:=by
 obtain⟨Fz,r,⟨o,n,e,_,_,d⟩,_⟩:=I.list h;obtain⟨its',r',⟨o',n',e',_,_,d'⟩,_⟩:=I.list h';rw[e]at e';cases e';rw[d]at d';injection d' with d1 _;have:Fz=its':=by simpa using Eg Array.toList d1
 subst this;exact r.inj r'
def Inv.tuple_inj(I:Inv X pins σ H s)(h:SqT X.K H a xs)(h':SqT X.K H a ys):xs=ys:=by
 obtain⟨Fz,r,⟨o,e,_,n,d⟩,_⟩:=I.tuple h;obtain⟨its',r',⟨o',e',_,n',d'⟩,_⟩:=I.tuple h';rw[e]at e';cases e';rw[d]at d';injection d' with d1 _;have:Fz=its':=by simpa using Eg Array.toList d1
 subst this;exact r.inj r'
end
noncomputable abbrev Cx.wish(X:Cx)(E:DZ):Cx:={X with xe:=E}
noncomputable abbrev Cx.nox(X:Cx):Cx:=X.wish λ_ _=>False
theorem Cx.Ok.wish{X:Cx}(ok:X.Ok)(E:DZ):(X.wish E).Ok :=
 ⟨ok.mod,ok.kind,ok.glob,ok.blt,ok.above,ok.inj,ok.has,ok.cab,ok.hd,ok.frames,ok.stk,ok.exf,ok.bs,ok.bsz,ok.noex,ok.exfs,ok.funs,ok.frf⟩
def Cx.Ok.unwish{X:Cx}{E:DZ}(ok:(X.wish E).Ok):X.Ok :=
 ⟨ok.mod,ok.kind,ok.glob,ok.blt,ok.above,ok.inj,ok.has,ok.cab,ok.hd,ok.frames,ok.stk,ok.exf,ok.bs,ok.bsz,ok.noex,ok.exfs,ok.funs,ok.frf⟩
section
variable{X:Cx}{pins:Fl (Fq×Obj)}{σ:St}{H:Hp}{s:Fp}{E:DZ}
theorem Inv.wish(I:Inv X pins σ H s)(E:DZ):Inv (X.wish E) pins σ H s:=⟨I.ok.wish E,I.os,I.bare,I.base,I.loc,I.cell,I.free,I.freeC,I.pin,I.hok,I.len⟩
theorem Inv.unwish(I:Inv (X.wish E) pins σ H s):Inv X pins σ H s:=⟨I.ok.unwish,I.os,I.bare,I.base,I.loc,I.cell,I.free,I.freeC,I.pin,I.hok,I.len⟩
theorem SP.unwish{D:Ends}{f:Flow}{s':Fp}(h:SP (X.wish E) pins D f s'):SP X pins D f s':=by
 cases f with
 |next=>obtain⟨σ',H',I,q⟩:=h;exact⟨σ',H',I.unwish,q⟩
 |brk=>obtain⟨σ',H',I,q⟩:=h;exact⟨σ',H',I.unwish,q⟩
 |cont=>obtain⟨σ',H',I,q⟩:=h;exact⟨σ',H',I.unwish,q⟩
 |ret u=>obtain⟨v,σ',H',I,r,q⟩:=h;exact⟨v,σ',H',I.unwish,r,q⟩
theorem PSs.nox{st:Fl Fx}{t:TS}(h:PSs X.nox st t):PSs X st t:=λpins s σ H D I hw =>
 Ei (h pins s σ H D (I.wish _) hw) (λ_ _ q=>q.unwish) λ_ _ z=>False.elim z
end
section
variable{X:Cx}{st:Fx}{rest:Fl Fx}{t u:TS}{e:Fw}{te:TE}{pos:Pos}
def ZgT:TS:=λD σ H=>D.nx σ H
def ZaA(t u:TS):TS:=λD σ H=>t {D with nx:=u D} σ H
def ph:PSs X [] ZgT:=λ_ _ σ H _ I h=>E6 ⟨σ,H,I,h⟩
def fr(h1:PS X st t)(h2:PSs X rest u):PSs X (st::rest) (ZaA t u):=by
 intro pins s σ H D I h;refine wpAny_execs_cons (thn (h1 pins s σ H {D with nx:=u D} I h) λf s1 q=>?_);cases f with
 | next =>
  obtain⟨σ',H',I',q⟩:=q;exact h2 pins s1 σ' H' D I' q
 |ret v=>exact q
 |brk=>exact q
 |cont=>exact q
def kE(h1:PS X st t):PSs X [st] t:=by
 intro pins s σ H D I h;refine wpAny_execs_cons (thn (h1 pins s σ H D I h) λf s1 q=>?_);cases f with
 |next=>exact E6 q
 |ret v=>exact q
 |brk=>exact q
 |cont=>exact q
def Inv.quiet{pins:Fl (Fq×Obj)}{σ:St}{H:Hp}{s:Fp}(I:Inv X pins σ H s):interactive X.env=false:=by simp[interactive,I.ok.kind]
def wR(te:TE):TS:=λD σ H=>te σ H λ_ H1=>D.nx σ H1
noncomputable def pw(he:PE X e te)(hs:swapsWith e none pos.line X.env=pure false:=by rfl):PS X (.Expr e pos) (wR te):=by intro pins s σ H D I h;exact wpAny_Expr_any (thn (he pins s σ H _ I h) λv s1 ⟨x,H1,I1,r1,q1⟩=>⟨σ,H1,I1,q1⟩) I.quiet hs
def ZgN(te:TE):TS:=λD σ H=>te σ H D.rt
def iW(he:PE X e te):PS X (.Return (some e) pos) (ZgN te):=by intro pins s σ H D I h;exact wpAny_Return_some<|thn (he pins s σ H _ I h) λv s1 ⟨x,H1,I1,r1,q1⟩=>⟨x,σ,H1,I1,r1,q1⟩
def ZgX(c:TT)(t u:TS):TS:=λD σ H=>c σ H λb H1=>if b=true then t D σ H1 else u D σ H1
def pq{c:Fw}{a b:Fl Fx}{tc:TT}(hc:PT X c tc)(ha:PSs X a t)(hb:PSs X b u):PS X (.If c a b pos) (ZgX tc t u):=by
 intro pins s σ H D I h;refine wpAny_If (thn (hc pins s σ H _ I h) λd s1 Fy=>?_);obtain⟨H1,I1,q1⟩:=Fy;cases d with
 |true=>exact ha pins s1 σ H1 D I1 q1
 |false=>exact hb pins s1 σ H1 D I1 q1
end
abbrev TG:=V->St->Hp->(St->Hp->Prop)->Prop
abbrev gG:=Fl V->St->Hp->(St->Hp->Prop)->Prop
def PG(X:Cx)(target:Fw)(t:TG):Prop :=
 ∀(pins:Fl (Fq×Obj))(s:Fp)(σ:St)(H:Hp)(v:V)(u:Fo)(Q:St->Hp->Prop),Inv X pins σ H s->RelV v u->t v σ H Q ->
  wpAny (model X.prog X.w) X.A (assign target X.env u) (λ_ s'=>∃σ' H',Inv X pins σ' H' s'/\Q σ' H') X.xe s
def PGs(X:Cx)(ts:Fl Fw)(t:gG):Prop :=
 ∀(pins:Fl (Fq×Obj))(s:Fp)(σ:St)(H:Hp)(vs:D5)(us:D3)(Q:St->Hp->Prop),Inv X pins σ H s->Vals vs us->t vs σ H Q ->
  wpAny (model X.prog X.w) X.A (assignInOrder ((assignEach ts X.env).map (·.2)) us) (λ_ s'=>∃σ' H',Inv X pins σ' H' s'/\Q σ' H') X.xe s
abbrev Ai:=V->V->V->Hp->(Hp->Prop)->Prop
def Zf3(X:Cx)(t:Ai):Prop :=
 ∀(pins:Fl (Fq×Obj))(s:Fp)(σ:St)(H:Hp)(o i v:V)(ov iv u:Fo)(Q:Hp->Prop),Inv X pins σ H s->RelV o ov->RelV i iv->RelV v u->t o i v H Q ->
  wpAny (model X.prog X.w) X.A (setItem ov iv u) (λ_ s'=>∃H',Inv X pins σ H' s'/\Q H') X.xe s
abbrev Aj:=V->V->Hp->VK->Prop
def PIp(X:Cx)(op:Operator)(t:Aj):Prop :=
 ∀(pins:Fl (Fq×Obj))(s:Fp)(σ:St)(H:Hp)(x y:V)(v u:Fo)(Q:VK),Inv X pins σ H s->RelV x v->RelV y u->t x y H Q ->
  wpAny (model X.prog X.w) X.A (inplaceOp op v u) (EP X pins σ Q) X.xe s
section
variable{X:Cx}{pos:Pos}
def dH(i:Nat):TG:=λv σ H Q=>Q (σ.set i<|some v) H
def ZiJ{i:Nat}{x:Str}(hN:X.N.Nodup)(hi:X.N[i]?=some x)(hx:kg X.env.scope x)(hf:X.fn x=true\/X.env.scope.names.lookup x=some .local:=by first|exact .inl rfl|exact .inr rfl|assumption):PG X (.Name x pos) (dH i):=by intro pins s σ H v u Q I r h;exact EU<|ma I hN hi hx r (λs' I'=>⟨_,H,I',h⟩) hf
noncomputable def aT{i:Nat}{x:Str}(hN:X.N.Nodup)(hi:X.N[i]?=some x:=by rfl)(hx:kg X.env.scope x:=by first|exact Or.inl rfl|exact Or.inr rfl)(hf:X.fn x=true\/X.env.scope.names.lookup x=some .local:=by first|exact .inl rfl|exact .inr rfl|assumption):PG X (.Name x pos) (dH i):=ZiJ hN hi hx hf
def ZkV:gG:=λvs σ H Q=>vs=[]/\Q σ H
def ZkX(t:TG)(u:gG):gG:=λvs σ H Q=>∃v r,vs=v::r/\t v σ H λσ' H'=>u r σ' H' Q
def ZiG:PGs X [] ZkV:=by intro pins s σ H vs us Q I r h;obtain⟨e,h⟩:=h;subst e;cases r;exact assignInOrder_nil ⟨σ,H,I,h⟩
def ZiH{e:Fw}{es:Fl Fw}{t:TG}{u:gG}(h1:PG X e t)(h2:PGs X es u)
  (hs:(assignEach (e::es) X.env).map (·.2)=assign e X.env::(assignEach es X.env).map (·.2):=by rfl):PGs X (e::es) (ZkX t u):=by
 intro pins s σ H vs us Q I r h;obtain⟨v,vr,e1,h⟩:=h;subst e1;cases r with
 | cons r rr =>
  rw[hs];refine assignInOrder_cons (thn (h1 pins s σ H _ _ _ I r h) λ_ s1 Fy=>?_);obtain⟨σ1,H1,I1,q1⟩:=Fy;exact h2 pins s1 σ1 H1 _ _ Q I1 rr q1
def ZkU(K:DQ)(n:Nat)(t:gG):TG:=λv σ H Q=>∃a xs,v=.ref a/\SqT K H a xs/\xs.length=n/\t xs σ H Q
def ZiI{es:Fl Fw}{k:Nat}{t:gG}{n:Nat}(hc:X.calm=true)(h:PGs X es t)
  (hn:(assignEach es X.env).length=n:=by rfl) (FR:(assignEach es X.env).findIdx? (·.1)=none:=by rfl):PG X (.Tuple es k pos) (ZkU X.K n t):=by
 intro pins s σ H v u Q I r hw;obtain⟨a,xs,e1,hq,hl,hw⟩:=hw;subst e1;cases r;obtain⟨Fz,rv,ht,hz⟩:=I.tuple hq;refine assign_Tuple_tuple (I.ok.hd hc) ht (by simp[hn,<- hl,rv.length]) FR λh' hx=>?_
 have I1:Inv X pins σ H {s with heap:=h'}:=I.kept (t':=s.toks) λb o e=>hx b o (AO<|AI e) e;exact h pins _ σ H xs _ Q I1 (by simpa using rv) hw
def yS(to ti:TE)(t:Ai):TG:=λv σ H Q=>to σ H λo H1=>ti σ H1 λi H2=>t o i v H2 λH3=>Q σ H3
noncomputable def mC{o i:Fw}{to ti:TE}{t:Ai}(ho:PE X o to)(hi:PE X i ti)(hs:Zf3 X t)
  (ha:∀v,assign (.Subscript o i pos) X.env v=(do
   let ov <- holding [v] (eval o X.env)
   let iv <- holding [v,ov] (eval i X.env)
   standAt pos
   holding [v,ov,iv] (setItem ov iv v)
   release [v,ov,iv] []):=by intro _;rfl):PG X (.Subscript o i pos) (yS to ti t):=by intro pins s σ H v u Q I r h;rw[ha];refine wp (Ej<|thn (ho pins s σ H _ I h) λov s1 Fy=>?_);obtain⟨x,H1,I1,r1,q1⟩:=Fy;refine wp (Ej<|thn (hi pins s1 σ H1 _ I1 q1) λiv s2 Fy=>?_);obtain⟨y,H2,I2,r2,q2⟩:=Fy;refine wp (Ep<|wp<|Ej<|thn (hs pins s2 σ H2 x y v ov iv u _ I2 r1 r2 r q2) λ_ s3 Fy=>?_);obtain⟨H3,I3,q3⟩:=Fy;exact wpAny_release ⟨σ,H3,I3,q3⟩
def dC(te:TE)(g:TG):TS:=λD σ H=>te σ H λx H1=>g x σ H1 D.nx
noncomputable def fu{tg e:Fw}{te:TE}{g:TG}(he:PE X e te)(hg:PG X tg g)(hs:swapsWithSole [tg] e pos.line X.env=pure false:=by rfl)(hw:swappedStores [tg] e X.env=pure none:=by rfl)
  (h1:(assignEach [tg] X.env).map (·.2)=[assign tg X.env]:=by rfl):PS X (.Assign [tg] e pos) (dC te g):=by intro pins s σ H D I h;refine wpAny_Assign_stores (thn (he pins s σ H _ I h) λv s1 Fy=>?_) hs hw;obtain⟨x,H1,I1,r1,q1⟩:=Fy;rw[h1];exact thn (hg pins s1 σ H1 x v _ I1 r1 q1) λ_ s2 q=>q
def Ziu{i:Nat}{x:Str}{e:Fw}{te:TE}{pos':Pos}(hN:X.N.Nodup)(hi:X.N[i]?=some x)(hx:kg X.env.scope x)(he:PE X e te)(hs:swapsWith e (some<|.Name x pos') pos.line X.env=pure false:=by rfl)(hf:X.fn x=true\/X.env.scope.names.lookup x=some .local:=by first|exact .inl rfl|exact .inr rfl|assumption) :
  PS X (.Assign [.Name x pos'] e pos) (dC te<|dH i):=by intro pins s σ H D I h;refine wpAny_Assign_Name (thn (he pins s σ H _ I h) λv s1 Fy=>?_) hs;obtain⟨y,H1,I1,r1,q1⟩:=Fy;exact ma I1 hN hi hx r1 (λs2 I2=>⟨_,H1,I2,q1⟩) hf
def ba{i:Nat}{x:Str}{e:Fw}{te:TE}{pos':Pos}(hN:X.N.Nodup)(he:PE X e te)(hi:X.N[i]?=some x:=by rfl)(hx:kg X.env.scope x:=by first|exact Or.inl rfl|exact Or.inr rfl)(hs:swapsWith e (some<|.Name x pos') pos.line X.env=pure false:=by rfl)(hf:X.fn x=true\/X.env.scope.names.lookup x=some .local:=by first|exact .inl rfl|exact .inr rfl|assumption):PS X (.Assign [.Name x pos'] e pos) (dC te<|dH i):=Ziu hN hi hx he hs hf
def ZaB(i j:Nat)(ta:TA):TS:=λD σ H=>ta σ H λvs H1=>∃v w,vs=[v,w]/\D.nx ((σ.set i<|some v).set j<|some w) H1
def pj{i j:Nat}{x y:Str}{a b:Fw}{ta:TA}{px py pt:Pos}{kt k2 pt2}(hc:X.calm=true)(hN:X.N.Nodup)(hi:X.N[i]?=some x)(hj:X.N[j]?=some y)(hij:i≠j)
  (hx:X.env.scope.names.lookup x=some .local) (hy:X.env.scope.names.lookup y=some .local) (ha:PA X [a,b] ta)
  (hw:swappedStores [.Tuple [.Name x px,.Name y py] kt pt] (.Tuple [a,b] k2 pt2) X.env=pure (some [x,y]))
  (hs:swapsWithSole [.Tuple [.Name x px,.Name y py] kt pt] (.Tuple [a,b] k2 pt2) pos.line X.env=pure false:=by rfl) :
  PS X (.Assign [.Tuple [.Name x px,.Name y py] kt pt] (.Tuple [a,b] k2 pt2) pos) (ZaB i j ta):=by
 intro pins s σ H D I h;rw[exec_Assign_arm];refine wp<|Ep ?_;rw[hs];refine wp<|D9 ?_;rw[Ef<|by decide]
 refine wp (Tuple_<|thn (ha _ pins s σ H _ I h) λus s1 Fy=>?_);obtain⟨vs,H1,I1,r1,q1⟩:=Fy;obtain⟨v,w,e1,q1⟩:=q1;subst e1;obtain⟨u1,u2,rfl,rv,rw'⟩:∃u1 u2,us=[u1,u2]/\RelV v u1/\RelV w u2:=by
  cases r1 with
  | cons p q =>
   cases q with
   | cons p' q' =>
    cases q';exact⟨_,_,rfl,p,p'⟩
 refine Ee ?_<|by show 2<=sizeLine;decide
 have I2:Inv X pins σ H1 {s1 with heap:=s1.heap.push {cls:=.type "tuple",data:=.seq [u1,u2].toArray} }:=I1.kept (t':=s1.toks) λb o e=>v9 _ e;rw[hw];refine wp<|D9 ?_;show wpAny (model X.prog X.w) X.A (do rule "assign.swapped-stores";let items <- unpackItems (.ref s1.heap.objs.size) 2 none;assignInOrder [λv=>bindName X.env y v,λv=>bindName X.env x v] items.reverse;pure Flow.next) _ _ _
 refine wp (EH<|wp<|unpackItems_tuple (items:=#[u1,u2]) (I.ok.hd hc) (IsTup.new s1.heap _) λh' hx'=>?_);have I3:=I2.kept (h':=h') (t':=s1.toks) λb o e=>hx' b o (AO<|AI e) e;show wpAny _ _ (assignInOrder [λv=>bindName X.env y v,λv=>bindName X.env x v] [u2,u1] >>= λ_=>pure Flow.next) _ _ _;refine wp (assignInOrder_cons<|wpAny_bindName<|ma I3 hN hj (.inl hy) rw' (λs2 I4=>?_)<|.inr hy);refine assignInOrder_cons (wpAny_bindName<|ma I4 hN hi (.inl hx) rv (λs3 I5=>assignInOrder_nil<|D9 ?_)<|.inr hx);rw[List.set_comm _ _<|Ne.symm hij]at I5;exact⟨_,H1,I5,q1⟩
def ZaI(i:Nat)(te:TE)(ti:Aj):TS:=λD σ H=>∃x,σ[i]?=some (some x)/\te σ H λy H1=>ti x y H1 λz H2=>D.nx (σ.set i<|some z) H2
def x3{i:Nat}{x:Str}{e:Fw}{te:TE}{op:Operator}{ti:Aj}{pos':Pos}(hN:X.N.Nodup)(hi:X.N[i]?=some x)(hx:kg X.env.scope x)(he:PE X e te)(ho:PIp X op ti)(hf:X.fn x=true\/X.env.scope.names.lookup x=some .local:=by first|exact .inl rfl|exact .inr rfl|assumption) :
  PS X (.AugAssign (.Name x pos') op e pos) (ZaI i te ti):=by
 intro pins s σ H D I h;obtain⟨v,e1,h⟩:=h;obtain⟨m,hn,hl⟩:=I.loc;have vis:v7 X.env.scope x:=by rcases hx with k|k;exact .inl k;exact .inr (.inl k)
 obtain⟨u,r,l⟩:=hl i x v hi e1 vis;refine wpAny_AugAssign_Name ?_;have go:wpAny (model X.prog X.w) X.A (eval e X.env) (λw s₂=>wpAny (model X.prog X.w) X.A (inplaceOp op u w) (λr s₃=>wpAny (model X.prog X.w) X.A (storeName X.env x r) (λ_=>SP X pins D .next) X.xe s₃) X.xe s₂) X.xe s:=by refine thn (he pins s σ H _ I h) λw s1 Fy=>?_;obtain⟨y,H1,I1,r1,q1⟩:=Fy;refine thn (ho pins s1 σ H1 v y u w _ I1 r r1 q1) λz s2 Fy=>?_;obtain⟨zv,H2,I2,r2,q2⟩:=Fy;exact ma I2 hN hi hx r2 (λs3 I3=>⟨_,H2,I3,q2⟩) hf
 rcases l with ⟨hk,hm⟩|⟨hk,c,hc,hcell⟩
 ·exact wpAny_loadName_local I.ok.kind hk hn hm go
 ·rcases hk with hk|hk
  ·exact wpAny_loadName_cell I.ok.kind hk hc hcell go
  ·rcases hx with k|k
   ·have:X.env.scope.names.lookup x=some .free:=hk;rw[k]at this;cases this
   ·have:X.env.scope.names.lookup x=some .free:=hk;rw[k]at this;cases this
end
section
variable{X:Cx}{pos:Pos}
def ZgF(c:TT)(tb:TS):TS:=λD σ H=>∃W:Nat->St->Hp->Prop,(∃m,W m σ H)/\∀m σ H,W m σ H ->
 c σ H λb H1=>if b=true then ∃N:St->Hp->Prop,(∀σ' H',N σ' H'->∃m',m'<m/\W m' σ' H')/\tb {D with nx:=N,ct:=N,bk:=D.nx} σ H1 else D.nx σ H1
def Zis{c:Fw}{body:Fl Fx}{tc:TT}{tb:TS}(hp:PassesOwn (model X.prog X.w) X.A X.env X.xe)(hc:PT X c tc)(hb:PSs X body tb):PS X (.While c body [] pos) (ZgF tc tb):=by
 intro pins s σ H D I h;obtain⟨W,⟨m0,w0⟩,turn⟩:=h;refine wpAny_While (codeAny_whileLoop (λn s'=>∃σ' H',Inv X pins σ' H' s'/\W n σ' H') ?_ m0 ⟨σ,H,I,w0⟩);rintro n s1 ⟨σ1,H1,I1,w1⟩;refine ED hp (thn (hc pins s1 σ1 H1 _ I1<|turn n σ1 H1 w1) λb s2 Fy=>?_);obtain⟨H2,I2,q2⟩:=Fy;cases b with
 | true =>
  obtain⟨N,hN,q2⟩:=q2;rw[Ed rfl];refine ED hp (thn (hb pins s2 σ1 H2 _ I2 q2) λf s3 q3=>?_);cases f with
  | next =>
   obtain⟨σ3,H3,I3,n3⟩:=q3;obtain⟨m',hm,w3⟩:=hN σ3 H3 n3;exact⟨m',hm,σ3,H3,I3,w3⟩
  | cont =>
   obtain⟨σ3,H3,I3,n3⟩:=q3;obtain⟨m',hm,w3⟩:=hN σ3 H3 n3;exact⟨m',hm,σ3,H3,I3,w3⟩
  |brk=>exact q3
  |ret v=>exact q3
 | false =>
  rw[Ef AN];exact E6 ⟨σ1,H2,I2,q2⟩
end
structure It where
 go:Nat->Hp->Prop
 yld:Nat->Hp->V->Hp->Prop
 stop:Nat->Hp->Prop
def fL(X:Cx)(pins:Fl (Fq×Obj))(H:Hp)(b:Fq):Prop :=
 H b=none/\b≠X.env.locals/\b∉X.fs/\(b∈X.ex\/X.s₀.heap.objs.size<=b)/\(∀x c,X.env.cells.lookup x=some c->c≠b)/\∀p∈X.pn++pins,p.1≠b
def Inv.fpOk{X:Cx}{pins:Fl (Fq×Obj)}{σ:St}{H H':Hp}{s:Fp}{b:Fq}(I:Inv X pins σ H s)(hb:s.heap.objs.size<=b)(hn:H' b=none):fL X pins H' b:=by
 refine⟨hn,A5<|AD I.lt hb,I.nofs hb,.inr<|AJ I.sz hb,λx c e z=>?_,λp hp z=>?_⟩
 ·obtain⟨v,q⟩:=I.cell x c e;exact absurd (AD q.lt<|by rw[z];exact hb)<|AX _
 ·exact absurd (AD (AI (I.pin p hp).1)<|by rw[z];exact hb)<|AX _
structure Turn(P:Fs)(w:Ft)(K:DQ)(tg:Fw)(J:It)(fp:List Fq)(it:Fq)(tn:Nat->Fv->Prop):Prop where
 mem:it∈fp
 obj:∀i h,tn i h->∀b∈fp,∃o,h.get? b=some o/\∀v,o.data≠.cell v
 keep:∀i h h',tn i h->(∀b∈fp,∀o,h.get? b=some o->h'.get? b=some o)->tn i h'
 item:∀(X:Cx),X.prog=P->X.w=w->X.K=K->X.calm=true->∀(i:Nat)(pins:List (Fq×Obj))(s:Fp)(σ:St)(H:Hp)(E:DZ),Inv X pins σ H s->(∀b∈fp,fL X pins H b)->tn i s.heap->J.go i H ->
  wpAny (model P w) X.A (pyNext<|.ref it) (λr s1=>∃u,r=some u /\
   wpAny (model P w) X.A (letOwnedTupleGo tg (.ref it) u) (λ_ s2=>∃x H',Inv X pins σ H' s2/\RelV x u/\J.yld i H x H'/\tn (i+1) s2.heap/\∀b∈fp,H' b=none) E s1) E s
 done:∀(X:Cx),X.prog=P->X.w=w->X.K=K->X.calm=true->∀(i:Nat)(pins:List (Fq×Obj))(s:Fp)(σ:St)(H:Hp)(E:DZ),Inv X pins σ H s->(∀b∈fp,fL X pins H b)->tn i s.heap->J.stop i H ->
  wpAny (model P w) X.A (pyNext<|.ref it) (λr s1=>r=none/\Inv X pins σ H s1) E s
 self:∀(A:Fu)(i:Nat)(s:Fp)(Q:DZ)(E:DZ),tn i s.heap->Q (.ref it) s->wpAny (model P w) A (pyIter<|.ref it) Q E s
abbrev TI:=St->Hp->(It->Hp->Prop)->Prop
def lW(X:Cx)(pins:Fl (Fq×Obj))(σ:St)(tg:Fw)(R:It->Hp->Prop)(itv:Fo)(s2:Fp):Prop :=
 ∃(it:Fq)(fp:Fl Fq)(tn:Nat->Fv->Prop)(J:It)(H':Hp),itv=.ref it/\Inv X pins σ H' s2/\Turn X.prog X.w X.K tg J fp it tn/\tn 0 s2.heap/\(∀b∈fp,fL X pins H' b)/\R J H'
def PI(X:Cx)(tg iter:Fw)(wi:TI):Prop :=
 ∀(pins:Fl (Fq×Obj))(s:Fp)(σ:St)(H:Hp)(R:It->Hp->Prop),Inv X pins σ H s->wi σ H R ->
  wpAny (model X.prog X.w) X.A (eval iter X.env) (λv s1=>wpAny (model X.prog X.w) X.A (pyIter v) (lW X pins σ tg R) X.xe s1) X.xe s
def nj{M:Model}{A:Fu}{E:DZ}{s:Fp}{tg:Fw}{it:Fq}{u:Fo}{o:Obj}{n:String}{vs:Array Fo}{Q:Unit->Fp->Prop}(ho:s.heap.get? it=some o)(hc:o.cls=.type n)(hd:o.data=.fields vs)
  (hn:["enumerate","zip","dict_itemiterator","dict_reverseitemiterator","odict_iterator","itertools.zip_longest","itertools.pairwise"].contains n=false) (hQ:Q () s):wpAny M A (letOwnedTupleGo tg (.ref it) u) Q E s:=by
 unfold letOwnedTupleGo;cases tg <;> first
  |exact D9 hQ
  | (cases u <;> first
    |exact D9 hQ
    | (refine wp (wpAny_load ho ?_)
       rw[hc,hd];show wpAny M A (if (["enumerate","zip","dict_itemiterator","dict_reverseitemiterator","odict_iterator","itertools.zip_longest","itertools.pairwise"].contains n&&vs[0]? == some (rawInt _))=true then _ else _) Q E s
       rw[Ef<|by intro h;rw[hn,Bb]at h;cases h]
       exact D9 hQ))
def Ar(K:DQ)(a:Fq):It :=
 ⟨λi H=>∃xs x,SqL K H a xs/\xs[i]?=some x,λi H x H'=>H'=H/\∀xs,SqL K H a xs->xs[i]?=some x,λi H=>∃xs,SqL K H a xs/\xs.length<=i⟩
noncomputable def Aq(K:DQ)(a:Fq):It :=
 ⟨λi H=>∃xs x,SqT K H a xs/\xs[i]?=some x,λi H x H'=>H'=H/\∀xs,SqT K H a xs->xs[i]?=some x,λi H=>∃xs,SqT K H a xs/\xs.length<=i⟩
noncomputable def kh(lo:Int)(n:Nat):It:=⟨λi _=>i<n,λi H x H'=>H'=H/\x=.int (lo+i),λi _=>n<=i⟩
def Zgx{P:Fs}{w:Ft}{K:DQ}{tg:Fw}(a it:Fq):Turn P w K tg (Ar K a) [it] it (λi h=>h.IsListIter it a i) where
 mem:=by simp
 obj:=λi h st b hb=>by
  have e:b=it:=by simpa using hb
  subst e;obtain⟨o,e,c,d⟩:=st;exact⟨o,e,λv z=>by rw[d]at z;cases z⟩
 keep:=λi h h' st k=>st.at λo e=>k it (by simp) o e
 item:=by
  intro X hP hw hK hc i pins s σ H E I hf st hg;subst hP hw hK;obtain⟨xs,x,hq,hx⟩:=hg;obtain⟨Fz,rv,p,hz⟩:=I.list hq;obtain⟨u,hu,ru⟩:=rv.get hx;obtain⟨f0,f1,f2,f3,f4,f5⟩:=hf it<|by simp
  refine E1 st p.isList (x:=u) (by simpa using hu) λh' st' sb=>?_
  have I1:Inv X pins σ H {s with heap:=h'}:=I.turned (t':=s.toks) (λb o hb e=>(sb.2 b hb).trans e) f0 f1 f3 f4 f5;obtain⟨o,e,c,d⟩:=id st';exact⟨u,rfl,nj (s:={s with heap:=h'}) e c d (by decide) ⟨x,H,I1,ru,⟨rfl,λys hy=>by rw[I.list_inj hy hq];exact hx⟩,st',λb hb=>(hf b hb).1⟩⟩
 done:=by
  intro X hP hw hK hc i pins s σ H E I hf st hg;subst hP hw hK;obtain⟨xs,hq,hx⟩:=hg;obtain⟨Fz,rv,p,hz⟩:=I.list hq;obtain⟨f0,f1,f2,f3,f4,f5⟩:=hf it<|by simp
  have hl:=rv.length;exact E5 (I.ok.hd hc) st p.isList (by simp;omega) λh' eb=>⟨rfl,I.turned (t':=s.toks) (λb o hb e=>eb b o hb e) f0 f1 f3 f4 f5⟩
 self:=λ_ _ _ _ _ st h=>wpAny_pyIter_listiter st h
def Zgu{P:Fs}{w:Ft}{K:DQ}{tg:Fw}(a it:Fq):Turn P w K tg (Aq K a) [it] it (λi h=>h.IsTupleIter it a i) where
 mem:=by simp
 obj:=λi h st b hb=>by
  have e:b=it:=by simpa using hb
  subst e;obtain⟨o,e,c,d⟩:=st;exact⟨o,e,λv z=>by rw[d]at z;cases z⟩
 keep:=λi h h' st k=>st.at λo e=>k it (by simp) o e
 item:=by
  intro X hP hw hK hc i pins s σ H E I hf st hg;subst hP hw hK;obtain⟨xs,x,hq,hx⟩:=hg;obtain⟨Fz,rv,p,hz⟩:=I.tuple hq;obtain⟨u,hu,ru⟩:=rv.get hx;obtain⟨f0,f1,f2,f3,f4,f5⟩:=hf it<|by simp
  refine wpAny_pyNext_tuple_item st (show s.heap.IsTuple a Fz.toArray from p) (x:=u) (by simpa using hu) λh' st' sb=>?_
  have I1:Inv X pins σ H {s with heap:=h'}:=I.turned (t':=s.toks) (λb o hb e=>(sb.2 b hb).trans e) f0 f1 f3 f4 f5;obtain⟨o,e,c,d⟩:=id st';exact⟨u,rfl,nj (s:={s with heap:=h'}) e c d (by decide) ⟨x,H,I1,ru,⟨rfl,λys hy=>by rw[I.tuple_inj hy hq];exact hx⟩,st',λb hb=>(hf b hb).1⟩⟩
 done:=by
  intro X hP hw hK hc i pins s σ H E I hf st hg;subst hP hw hK;obtain⟨xs,hq,hx⟩:=hg;obtain⟨Fz,rv,p,hz⟩:=I.tuple hq;obtain⟨f0,f1,f2,f3,f4,f5⟩:=hf it<|by simp
  have hl:=rv.length;exact wpAny_pyNext_tuple_end (I.ok.hd hc) st (show s.heap.IsTuple a Fz.toArray from p) (by simp;omega) λh' eb=>⟨rfl,I.turned (t':=s.toks) (λb o hb e=>eb b o hb e) f0 f1 f3 f4 f5⟩
 self:=λ_ _ _ _ _ st h=>wpAny_pyIter_tupleiter st h
def Zgw{P:Fs}{w:Ft}{K:DQ}{tg:Fw}(it:Fq)(lo:Int)(n:Nat):Turn P w K tg (kh lo n) [it] it (λi h=>IsRangeIter h it (lo+(i:Nat)*1) ((n:Int)-(i:Nat)) 1) where
 mem:=by simp
 obj:=λi h st b hb=>by
  have e:b=it:=by simpa using hb
  subst e;exact⟨_,st,λv z=>by have z':Data.fields _=Data.cell v:=z;cases z'⟩
 keep:=λi h h' st k=>k it (by simp) _ st
 item:=by
  intro X hP hw hK hc i pins s σ H E I hf st hg;subst hP hw hK;obtain⟨f0,f1,f2,f3,f4,f5⟩:=hf it<|by simp
  have W:=Walks.range (prog:=X.prog) (w:=X.w) (I.ok.hd hc) it lo 1 n;refine W.item i s _ _ hg st λv h' tk hv st' kk=>?_;obtain⟨t,rfl⟩:=hv;have I1:Inv X pins σ H {s with heap:=h',toks:=tk}:=I.turned (λb o hb e=>kk b o (by simpa using hb) e) f0 f1 f3 f4 f5
  refine⟨_,rfl,nj (s:={s with heap:=h',toks:=tk}) (n:="range_iterator") st' rfl rfl (by decide) ⟨.int<|lo+i,H,I1,⟨t,?_⟩,⟨rfl,rfl⟩,st',λb hb=>(hf b hb).1⟩⟩
  rw[Dd]
 done:=by
  intro X hP hw hK hc i pins s σ H E I hf st hg;subst hP hw hK;obtain⟨f0,f1,f2,f3,f4,f5⟩:=hf it<|by simp
  exact wpAny_pyNext_range_end (I.ok.hd hc) st (by have:n<=i:=hg;omega) λh' eb=>⟨rfl,I.turned (t':=s.toks) (λb o hb e=>eb b o hb e) f0 f1 f3 f4 f5⟩
 self:=λ_ _ _ _ _ st h=>E3 st h
section
variable{X:Cx}{tg:Fw}
def ZbZ{pins:Fl (Fq×Obj)}{σ:St}{H:Hp}{s:Fp}{R:It->Hp->Prop}{E:DZ}{lo hi:Int}{t u v:Tok}{tk:Nat}(I:Inv X pins σ H s)(h1:-(2^62)<=lo)(h2:lo<2^62)(h3:-(2^62)<=hi)(h4:hi<2^62)
  (q:R (kh lo (hi-lo).toNat) H):wpAny (model X.prog X.w) X.A (pyIter<|.ref s.heap.objs.size) (lW X pins σ tg R) E {s with heap:=s.heap.push {cls:=.type "range",data:=.fields #[.int lo t,.int hi u,.int 1 v]},toks:=tk}:=by
 refine wpAny_pyIter_range (IsRange.new ..) (small_one h1 h2 h3 h4) ?_;have I1:Inv X pins σ H {s with heap:=s.heap.push {cls:=.type "range",data:=.fields #[.int lo t,.int hi u,.int 1 v]},toks:=tk}:=I.kept λb o e=>v9 _ e;refine⟨(s.heap.push {cls:=.type "range",data:=.fields #[.int lo t,.int hi u,.int 1 v]}).objs.size,[(s.heap.push {cls:=.type "range",data:=.fields #[.int lo t,.int hi u,.int 1 v]}).objs.size],_,_,H,rfl,
  I1.kept (t':=tk) λb o e=>v9 _ e,Zgw _ lo (hi-lo).toNat,?_,λb hb=>?_,q⟩
 ·have e1:lo+((0:Nat):Int)*1=lo:=by simp
  have e2:(((hi-lo).toNat:Nat):Int)-((0:Nat):Int)=Builtin.Range.rangeSize lo hi 1:=by rw[EY];split <;> omega
  show IsRangeIter _ _ (lo+((0:Nat):Int)*1) ((((hi-lo).toNat:Nat):Int)-((0:Nat):Int)) 1;rw[e1,e2];exact AC _ rfl
 ·have e:b=(s.heap.push {cls:=.type "range",data:=.fields #[.int lo t,.int hi u,.int 1 v]}).objs.size:=by simpa using hb
  subst e;exact I1.fpOk (Aw _)<|I1.hok.fresh<|Aw _
def Zd1(ta:TA):TI:=λσ H R=>ta σ H λvs H1=>∃j:Int,vs=[.int j]/\-(2^62)<=j/\j<2^62/\R (kh 0 j.toNat) H1
def Zd0(ta:TA):TI:=λσ H R=>ta σ H λvs H1=>∃i j:Int,vs=[.int i,.int j]/\(-(2^62)<=i/\i<2^62/\-(2^62)<=j/\j<2^62)/\R (kh i (j-i).toNat) H1
def gO{a:Fw}{ta:TA}{p pos:Pos}(hg:Gl X "range")(hm:X.mg "range"=none)(ha:PA X [a] ta)(hs:starEach [a] X.env=[(false,eval a X.env)]:=by rfl):PI X tg (.Call (.Name "range" p) [a] [] pos) (Zd1 ta):=by
 intro pins s σ H R I h;refine Call_ (je I hg hm boot_range<|Bx (thn (ha pos pins s σ H _ I h) λus s1 Fy=>?_) hs rfl);obtain⟨vs,H1,I1,r1,q1⟩:=Fy;obtain⟨j,e,q1,q2,q⟩:=q1;subst e;cases r1 with
 | cons r rr =>
  cases rr;obtain⟨t,rfl⟩:=r;exact call_range_1<|ZbZ I1 (by omega) (by omega) q1 q2<|by simpa using q
def ZcI{a b:Fw}{ta:TA}{p pos:Pos}(hg:Gl X "range")(hm:X.mg "range"=none)(ha:PA X [a,b] ta)(hs:starEach [a,b] X.env=[(false,eval a X.env),(false,eval b X.env)]:=by rfl)(hs2:starEach [b] X.env=[(false,eval b X.env)]:=by rfl) :
  PI X tg (.Call (.Name "range" p) [a,b] [] pos) (Zd0 ta):=by
 intro pins s σ H R I h;refine Call_<|je I hg hm boot_range<|Bx (thn (ha pos pins s σ H _ I h) λus s1 Fy=>?_) (by rw[hs,hs2])<|by rw[hs2];rfl
 obtain⟨vs,H1,I1,r1,q1⟩:=Fy;obtain⟨i,j,e,⟨q1,q2,q3,q4⟩,q⟩:=q1;subst e;cases r1 with
 | cons r rr =>
  cases rr with
  | cons r' rr =>
   cases rr;obtain⟨t,rfl⟩:=r;obtain⟨t',rfl⟩:=r';exact call_range_2<|ZbZ I1 q1 q2 q3 q4 q
def ZgZ(wi:TI)(g:TG)(tb:TS):TS:=λD σ H=>wi σ H λJ H1=>∃W:Nat->Nat->St->Hp->Prop,(∃m,W 0 m σ H1)/\∀i m σ H,W i m σ H ->
 (J.stop i H/\D.nx σ H)\/(J.go i H/\∃N:St->Hp->Prop,(∀σ' H',N σ' H'->∃m',m'<m/\W (i+1) m' σ' H')/\∀x H',J.yld i H x H'->g x σ H' λσ2 H2=>tb {D with nx:=N,ct:=N,bk:=D.nx} σ2 H2)
noncomputable def fQ(fp:Fl Fq)(h:Fv):Fl (Fq×Obj):=fp.filterMap λb=>(h.get? b).map λo=>(b,o)
def fy{fp:Fl Fq}{h:Fv}{b:Fq}{o:Obj}(hb:b∈fp)(e:h.get? b=some o):(b,o)∈fQ fp h:=Dg.mpr ⟨b,hb,by rw[e];rfl⟩
def Zjl{fp:Fl Fq}{h:Fv}{p:Fq×Obj}(hp:p∈fQ fp h):p.1∈fp/\h.get? p.1=some p.2:=by
 obtain⟨b,hb,e⟩:=Dg.mp hp;cases q:h.get? b with
 |none=>rw[q]at e;cases e
 | some o =>
  rw[q]at e;have e':(b,o)=p:=A8 e;subst e';exact⟨hb,q⟩
def Inv.pinned{pins:Fl (Fq×Obj)}{σ:St}{H:Hp}{s:Fp}{fp:Fl Fq}(I:Inv X pins σ H s)(hf:∀b∈fp,fL X pins H b)(ho:∀b∈fp,∃o,s.heap.get? b=some o/\∀v,o.data≠.cell v):Inv X (pins++fQ fp s.heap) σ H s :=
 I.pins_of λp hp=>(Bh.mp hp).elim (λz=>I.pin p<|AA _ z) λz=>by obtain⟨hb,e⟩:=Zjl z;obtain⟨f0,f1,f2,_⟩:=hf p.1 hb;obtain⟨o,e',d⟩:=ho p.1 hb;rw[e]at e';cases e';exact⟨e,f0,f1,f2,d⟩
def Inv.unpinned{pins pl:Fl (Fq×Obj)}{σ:St}{H:Hp}{s:Fp}(I:Inv X (pins++pl) σ H s):Inv X pins σ H s:=I.pins_of λp hp=>I.pin p<|AA _<|Be _ hp
def Ziv{iter:Fw}{body:Fl Fx}{wi:TI}{g:TG}{tb:TS}{pos:Pos}(hp:PassesOwn (model X.prog X.w) X.A X.env X.xe)(hc:X.calm=true)(hi:PI X tg iter wi)(hg:PG X tg g)(hb:PSs X body tb)
  (hs:∀x,foldedSetIterable iter X.env x=pure x:=by intro _;rfl):PS X (.For tg iter body [] pos) (ZgZ wi g tb):=by
 intro pins s σ H D I h;refine wpAny_For (thn (hi pins s σ H _ I h) λv s1 h1=>thn h1 λitv s2 h2=>?_) hs;obtain⟨it,fp,tn,J,H2,e,I2,T,st2,f2,W,⟨m0,w0⟩,turn⟩:=h2;subst e
 -- what stays true of the iterator's objects through the loop
 have stat:∀{H':Hp},(∀b∈fp,H' b=none)->∀b∈fp,fL X pins H' b:=λhn b hb=>⟨hn b hb,(f2 b hb).2⟩;refine codeAny_forLoop_any (λn s'=>∃i σ' H',Inv X pins σ' H' s'/\tn i s'.heap/\(∀b∈fp,H' b=none)/\W i n σ' H') ?_ m0 ⟨0,σ,H2,I2,st2,λb hb=>(f2 b hb).1,w0⟩;rintro n s3 ⟨i,σ3,H3,I3,st3,fr3,w3⟩;rcases turn i n σ3 H3 w3 with ⟨stop,qn⟩|⟨go,N,hN,step⟩
 ·refine ED hp (thn (T.done X rfl rfl rfl hc i pins s3 σ3 H3 X.xe I3 (stat fr3) st3 stop) λr s4 Fy=>?_);obtain⟨hr,I4⟩:=Fy;subst hr;exact E6 ⟨σ3,H3,I4,qn⟩
 ·refine ED hp (thn (T.item X rfl rfl rfl hc i pins s3 σ3 H3 X.xe I3 (stat fr3) st3 go) λr s4 Fy=>?_);obtain⟨u,hr,h4⟩:=Fy;subst hr;refine ED hp (thn h4 λ_ s5 Fy=>?_);obtain⟨x,H5,I5,r5,y5,st5,fr5⟩:=Fy;have I5':=I5.pinned (stat fr5)<|T.obj _ _ st5;refine ED hp (thn (hg _ s5 σ3 H5 x u _ I5' r5<|step x H5 y5) λ_ s6 Fy=>?_);obtain⟨σ6,H6,I6,q6⟩:=Fy;refine ED hp (thn (hb _ s6 σ6 H6 _ I6 q6) λf s7 q7=>?_);have again:∀{σ7:St}{H7:Hp},Inv X (pins++fQ fp s5.heap) σ7 H7 s7->N σ7 H7->∃m,m<n/\∃i σ' H',Inv X pins σ' H' s7/\tn i s7.heap/\(∀b∈fp,H' b=none)/\W i m σ' H':=λ{σ7 H7} I7 n7=>by obtain⟨m',hm,w7⟩:=hN σ7 H7 n7;refine⟨m',hm,i+1,σ7,H7,I7.unpinned,T.keep _ _ _ st5 λb hb o e=>(I7.pin (b,o)<|AA _<|AA _<|fy hb e).1,λb hb=>?_,w7⟩;obtain⟨o,e,d⟩:=T.obj _ _ st5 b hb;exact(I7.pin (b,o)<|AA _<|AA _<|fy hb e).2.1
  cases f with
  |next=>obtain⟨σ7,H7,I7,n7⟩:=q7;exact again I7 n7
  |cont=>obtain⟨σ7,H7,I7,n7⟩:=q7;exact again I7 n7
  |brk=>obtain⟨σ7,H7,I7,q7⟩:=q7;exact⟨σ7,H7,I7.unpinned,q7⟩
  |ret v=>obtain⟨x7,σ7,H7,I7,r7,q7⟩:=q7;exact⟨x7,σ7,H7,I7.unpinned,r7,q7⟩
end
abbrev R2:=V->V->Hp->VK->Prop
def OpR(X:Cx)(f:Fo->Fo->Sem Fo)(r:R2):Prop :=
 ∀(pins:Fl (Fq×Obj))(s:Fp)(σ:St)(H:Hp)(x y:V)(v u:Fo)(Q:VK),Inv X pins σ H s->RelV x v->RelV y u->r x y H Q ->
  wpAny (model X.prog X.w) X.A (f v u) (EP X pins σ Q) X.xe s
def Ah(X:Cx)(f:Fo->Sem Fo)(r:V->Hp->VK->Prop):Prop :=
 ∀(pins:Fl (Fq×Obj))(s:Fp)(σ:St)(H:Hp)(x:V)(v:Fo)(Q:VK),Inv X pins σ H s->RelV x v->r x H Q ->
  wpAny (model X.prog X.w) X.A (f v) (EP X pins σ Q) X.xe s
def dN(X:Cx)(f:Fo)(r:Fl V->Hp->VK->Prop):Prop :=
 ∀(pins:Fl (Fq×Obj))(s:Fp)(σ:St)(H:Hp)(xs:D5)(us:D3)(Q:VK),Inv X pins σ H s->Vals xs us->r xs H Q ->
  wpAny (model X.prog X.w) X.A (call f us) (EP X pins σ Q) X.xe s
def ZnV(X:Cx)(r:V->Hp->(Bool->Hp->Prop)->Prop):Prop :=
 ∀(pins:Fl (Fq×Obj))(s:Fp)(σ:St)(H:Hp)(x:V)(v:Fo)(Q:Bool->Hp->Prop),Inv X pins σ H s->RelV x v->r x H Q ->
  wpAny (model X.prog X.w) X.A (truthy v) (TP X pins σ Q) X.xe s
def kr(r:R2)(ta tb:TE):TE:=λσ H Q=>ta σ H λx H1=>tb σ H1 λy H2=>r x y H2 Q
def tUn(r:V->Hp->VK->Prop)(ta:TE):TE:=λσ H Q=>ta σ H λx H1=>r x H1 Q
def rI(C:Int->Int->Prop)(g:Int->Int->V):R2:=λx y H Q=>∃i j,x=.int i/\y=.int j/\C i j/\Q (g i j) H
def fP(g:Int->Int->V):R2:=λx y H Q=>∃i j,x=.int i/\y=.int j/\Q (g i j) H
def rU(g:Int->V):V->Hp->VK->Prop:=λx H Q=>∃i,x=.int i/\Q (g i) H
section
variable{X:Cx}{a b c:Fw}{ta tb tc:TE}{pos:Pos}
def zN(ha:PE X a ta)(hb:PE X b tb){pins:Fl (Fq×Obj)}{s:Fp}{σ:St}{H:Hp}{R:V->V->Hp->Prop}(I:Inv X pins σ H s)
  (h:ta σ H λx H1=>tb σ H1 λy H2=>R x y H2) {Q:DZ} {f:Fo->Fo->Sem Fo}
  (hf:∀v u s2 x y H2,Inv X pins σ H2 s2->RelV x v->RelV y u->R x y H2->wpAny (model X.prog X.w) X.A (f v u) Q X.xe s2) :
  wpAny (model X.prog X.w) X.A (eval a X.env) (λv s₁=>wpAny (model X.prog X.w) X.A (eval b X.env) (λu s₂=>wpAny (model X.prog X.w) X.A (f v u) Q X.xe s₂) X.xe s₁) X.xe s:=by refine thn (ha pins s σ H _ I h) λv s1 Fy=>?_;obtain⟨x,H1,I1,r1,q1⟩:=Fy;refine thn (hb pins s1 σ H1 _ I1 q1) λu s2 Fy=>?_;obtain⟨y,H2,I2,r2,q2⟩:=Fy;exact hf v u s2 x y H2 I2 r1 r2 q2
def c8{op:Operator}{r:R2}(ho:OpR X (binaryOp op) r)(ha:PE X a ta)(hb:PE X b tb):PE X (.BinOp a op b pos) (kr r ta tb):=by intro pins s σ H Q I h;exact wpAny_BinOp<|zN ha hb I h λv u s2 x y H2 I2 rx ry q=>ho pins s2 σ H2 x y v u Q I2 rx ry q
def ZiM{op:UnaryOp}{r:V->Hp->VK->Prop}(ho:Ah X (unaryOp op) r)(ha:PE X a ta):PE X (.UnaryOp op a pos) (tUn r ta):=by intro pins s σ H Q I h;exact UnaryOp_<|thn (ha pins s σ H _ I h) λv s1 ⟨x,H1,I1,r1,q1⟩=>ho pins s1 σ H1 x v Q I1 r1 q1
def iZ{f:Fo->Fo->Sem Fo}{C:Int->Int->Prop}{g:Int->Int->Int}
  (rule:∀(i j:Int)(t u:Tok)(s:Fp)(Q:DZ)(E:DZ),C i j->Q (.int (g i j) s.toks) {s with toks:=s.toks+1}->wpAny (model X.prog X.w) X.A (f (.int i t)<|.int j u) Q E s) :
  OpR X f (rI C λi j=>.int<|g i j):=by intro pins s σ H x y v u Q I rx ry h;obtain⟨i,j,rfl,rfl,hc,q⟩:=h;obtain⟨t,rfl⟩:=rx;obtain⟨t',rfl⟩:=ry;exact rule i j t t' s _ _ hc ⟨.int<|g i j,H,I.tok _,⟨_,rfl⟩,q⟩
def yb{f:Fo->Fo->Sem Fo}{g:Int->Int->Int}
  (rule:∀(i j:Int)(t u:Tok)(s:Fp)(Q:DZ)(E:DZ),Q (.int (g i j) s.toks) {s with toks:=s.toks+1}->wpAny (model X.prog X.w) X.A (f (.int i t)<|.int j u) Q E s) :
  OpR X f (fP λi j=>.int<|g i j):=by intro pins s σ H x y v u Q I rx ry h;obtain⟨i,j,rfl,rfl,q⟩:=h;obtain⟨t,rfl⟩:=rx;obtain⟨t',rfl⟩:=ry;exact rule i j t t' s _ _ ⟨.int<|g i j,H,I.tok _,⟨_,rfl⟩,q⟩
def pI{f:Fo->Fo->Sem Fo}{g:Int->Int->Bool}
  (rule:∀(i j:Int)(t u:Tok)(s:Fp)(Q:DZ)(E:DZ),Q (.bool<|g i j) s->wpAny (model X.prog X.w) X.A (f (.int i t)<|.int j u) Q E s) :
  OpR X f (fP λi j=>.bl<|g i j):=by intro pins s σ H x y v u Q I rx ry h;obtain⟨i,j,rfl,rfl,q⟩:=h;obtain⟨t,rfl⟩:=rx;obtain⟨t',rfl⟩:=ry;exact rule i j t t' s _ _ ⟨.bl<|g i j,H,I,rfl,q⟩
def Zou(i j:Int):Prop:=0<j/\j<1073741824
def Zot(i j:Int):Prop:=0<=j/\j<=1000000/\i.natAbs<2^64
def CMul(i j:Int):Prop:=(-(2^64)<i/\i<2^64)\/(-(2^64)<j/\j<2^64)
def CMul.ok{i j:Int}(h:CMul i j):IntMulOk i j:=by
 rcases h with ⟨h1,h2⟩|⟨h1,h2⟩
 ·exact .of_left<|intBits_le_64 h1 h2
 ·exact .of_right<|intBits_le_64 h1 h2
def jN:OpR X (binaryOp .Add) (fP λi j=>.int<|i+j):=yb λ_ _ _ _ _ _ _ q=>add_int q
def dW:OpR X (binaryOp .Sub) (fP λi j=>.int<|i-j):=yb λ_ _ _ _ _ _ _ q=>sub_int q
def x8:OpR X (binaryOp .Mult) (rI CMul λi j=>.int<|i*j):=iZ λ_ _ _ _ _ _ _ hc q=>mul_int q hc.ok
def ya:OpR X (binaryOp .FloorDiv) (rI Zou λi j=>.int<|i / j):=iZ λi j _ _ _ _ _ hc q=>by have h1:(0:Int)<j:=hc.1;have h2:j<1073741824:=hc.2;exact floordiv_int (by omega) (by rw[Int.fdiv_eq_ediv_of_nonneg i<|by omega];exact q)<|.inl<|PyProof.noPylong_small<|by omega
def iY:OpR X (binaryOp .Mod) (rI (λ_ j=>0<j) λi j=>.int<|i%j):=iZ λi j _ _ _ _ _ hc q=>by have h1:(0:Int)<j:=hc;exact mod_int' (by omega)<|by rw[CS i<|by omega];exact q
def x9:OpR X (binaryOp .Mod) (rI (λ_ j=>j≠0) λi j=>.int<|i.fmod j):=iZ λ_ _ _ _ _ _ _ hc q=>mod_int' hc q
def ZcU:OpR X (binaryOp .Pow) (rI Zot λi j=>.int<|i^j.toNat):=iZ λ_ _ _ _ _ _ _ hc q=>pow_int_small hc.1 hc.2.1 hc.2.2 q
def Zkv:OpR X (inplaceOp .Add) (fP λi j=>.int<|i+j):=yb λ_ _ _ _ _ _ _ q=>iadd_int q
def unI{f:Fo->Sem Fo}{g:Int->Int}
  (rule:∀(i:Int)(t:Tok)(s:Fp)(Q:DZ)(E:DZ),Q (.int (g i) s.toks) {s with toks:=s.toks+1}->wpAny (model X.prog X.w) X.A (f<|.int i t) Q E s) :
  Ah X f (rU λi=>.int<|g i):=by intro pins s σ H x v Q I rx h;obtain⟨i,rfl,q⟩:=h;obtain⟨t,rfl⟩:=rx;exact rule i t s _ _ ⟨.int<|g i,H,I.tok _,⟨_,rfl⟩,q⟩
def Zgq:Ah X (unaryOp .USub) (rU λi=>.int<|-i):=unI λ_ _ _ _ _ q=>neg_int q
end
noncomputable def scal:V->V->Bool
 |.non,.non=>true|.non,.int _=>true|.int _,.non=>true|.non,.bl _=>true|.bl _,.non=>true|.non,.str _=>true|.str _,.non=>true
 |.int _,.int _=>true|.bl _,.bl _=>true|.str _,.str _=>true|.byt _,.byt _=>true
 |.int _,.str _=>true|.str _,.int _=>true|.bl _,.str _=>true|.str _,.bl _=>true
 |_,_=>false
def rEq:R2:=λx y H Q=>scal x y=true/\Q (.bl<|decide (x=y)) H
def rNe:R2:=λx y H Q=>scal x y=true/\Q (.bl<|!decide (x=y)) H
def ZeP{i j:Int}:decide (V.int i=V.int j)=(i==j):=by rw[B4];simp
def ZeR{i j:Bool}:decide (V.bl i=V.bl j)=(i==j):=by rw[B4];simp
def vD{i j:Str}:decide (V.str i=V.str j)=(i==j):=by rw[B4];simp
def ZeQ{i j:Array UInt8}:decide (V.byt i=V.byt j)=(i.toList==j.toList):=by rw[B4];cases i;cases j;simp
section
variable{X:Cx}{a b c:Fw}{ta tb tc:TE}{pos:Pos}
def cr{pins:Fl (Fq×Obj)}{σ:St}{H:Hp}{s:Fp}{Q:VK}{k k':Bool}(I:Inv X pins σ H s)(q:Q (.bl k) H)(e:k=k'):EP X pins σ Q (.bool k') s:=by subst e;exact⟨.bl k,H,I,rfl,q⟩
def Zje:OpR X (compareOp .Eq) rEq:=by
 intro pins s σ H x y v u Q I rx ry h;obtain⟨hs,q⟩:=h;cases x with
 | non =>
  cases rx;cases y with
  |non=>cases ry;exact PySem.EqNone.eq_none_none (cr I q<|by simp)
  |bl j=>cases ry;exact PySem.EqNone.eq_none_bool (cr I q<|by simp)
  |int j=>obtain⟨t',rfl⟩:=ry;exact PySem.EqNone.eq_none_int (cr I q<|by simp)
  |str j=>obtain⟨t',rfl⟩:=ry;exact PySem.EqNone.eq_none_str (cr I q<|by simp)
  |_=>exact absurd (show false=true from hs) AN
 | bl i =>
  cases rx;cases y with
  |non=>cases ry;exact PySem.EqNone.eq_bool_none (cr I q<|by simp)
  |bl j=>cases ry;exact eq_bool (cr I q ZeR)
  |str j=>obtain⟨t',rfl⟩:=ry;exact PySem.EqMixed.eq_bool_str (cr I q<|by simp)
  |_=>exact absurd (show false=true from hs) AN
 | int i =>
  obtain⟨t,rfl⟩:=rx;cases y with
  |non=>cases ry;exact PySem.EqNone.eq_int_none (cr I q<|by simp)
  |int j=>obtain⟨t',rfl⟩:=ry;exact eq_int (cr I q ZeP)
  |str j=>obtain⟨t',rfl⟩:=ry;exact PySem.EqMixed.eq_int_str (cr I q<|by simp)
  |_=>exact absurd (show false=true from hs) AN
 | str i =>
  obtain⟨t,rfl⟩:=rx;cases y with
  |non=>cases ry;exact PySem.EqNone.eq_str_none (cr I q<|by simp)
  |bl j=>cases ry;exact PySem.EqMixed.eq_str_bool (cr I q<|by simp)
  |int j=>obtain⟨t',rfl⟩:=ry;exact PySem.EqMixed.eq_str_int (cr I q<|by simp)
  |str j=>obtain⟨t',rfl⟩:=ry;exact eq_str (cr I q vD)
  |_=>exact absurd (show false=true from hs) AN
 | byt i =>
  obtain⟨t,rfl⟩:=rx;cases y with
  |byt j=>obtain⟨t',rfl⟩:=ry;exact PySem.W.eq_bytes (cr I q ZeQ)
  |_=>exact absurd (show false=true from hs) AN
 |_=>cases y <;> exact absurd (show false=true from hs) AN
def Zi9:OpR X (compareOp .NotEq) rNe:=by
 intro pins s σ H x y v u Q I rx ry h;obtain⟨hs,q⟩:=h;cases x with
 | non =>
  cases rx;cases y with
  |non=>cases ry;exact PySem.EqNone.ne_none_none (cr I q<|by simp)
  |bl j=>cases ry;exact PySem.EqNone.ne_none_bool (cr I q<|by simp)
  |int j=>obtain⟨t',rfl⟩:=ry;exact PySem.EqNone.ne_none_int (cr I q<|by simp)
  |str j=>obtain⟨t',rfl⟩:=ry;exact PySem.EqNone.ne_none_str (cr I q<|by simp)
  |_=>exact absurd (show false=true from hs) AN
 | bl i =>
  cases rx;cases y with
  |non=>cases ry;exact PySem.EqNone.ne_bool_none (cr I q<|by simp)
  |bl j=>cases ry;exact ne_bool (cr I q<|Eg not ZeR)
  |str j=>obtain⟨t',rfl⟩:=ry;exact PySem.EqMixed.ne_bool_str (cr I q<|by simp)
  |_=>exact absurd (show false=true from hs) AN
 | int i =>
  obtain⟨t,rfl⟩:=rx;cases y with
  |non=>cases ry;exact PySem.EqNone.ne_int_none (cr I q<|by simp)
  |int j=>obtain⟨t',rfl⟩:=ry;exact ne_int (cr I q<|Eg not ZeP)
  |str j=>obtain⟨t',rfl⟩:=ry;exact PySem.EqMixed.ne_int_str (cr I q<|by simp)
  |_=>exact absurd (show false=true from hs) AN
 | str i =>
  obtain⟨t,rfl⟩:=rx;cases y with
  |non=>cases ry;exact PySem.EqNone.ne_str_none (cr I q<|by simp)
  |bl j=>cases ry;exact PySem.EqMixed.ne_str_bool (cr I q<|by simp)
  |int j=>obtain⟨t',rfl⟩:=ry;exact PySem.EqMixed.ne_str_int (cr I q<|by simp)
  |str j=>obtain⟨t',rfl⟩:=ry;exact ne_str (cr I q<|Eg not vD)
  |_=>exact absurd (show false=true from hs) AN
 | byt i =>
  obtain⟨t,rfl⟩:=rx;cases y with
  |byt j=>obtain⟨t',rfl⟩:=ry;exact PySem.W.ne_bytes (cr I q<|Eg not ZeQ)
  |_=>exact absurd (show false=true from hs) AN
 |_=>cases y <;> exact absurd (show false=true from hs) AN
def gP:OpR X (compareOp .Lt) (fP λi j=>.bl<|decide (i<j)):=pI λ_ _ _ _ _ _ _ q=>lt_int q
def jM:OpR X (compareOp .LtE) (fP λi j=>.bl<|decide (i<=j)):=pI λ_ _ _ _ _ _ _ q=>le_int q
def kJ:OpR X (compareOp .Gt) (fP λi j=>.bl<|decide (j<i)):=pI λ_ _ _ _ _ _ _ q=>gt_int q
def mG:OpR X (compareOp .GtE) (fP λi j=>.bl<|decide (j<=i)):=pI λ_ _ _ _ _ _ _ q=>ge_int q
def Zjc:OpR X (compareOp .Is) (λx y H Q=>y=.non/\Q (.bl<|decide (x=.non)) H):=by
 intro pins s σ H x y v u Q I rx ry h;obtain⟨rfl,q⟩:=h;cases ry;refine is_none_gen<|cr I q ?_;cases x <;> first
  |(cases rx;rfl)
  |(obtain⟨t,rfl⟩:=rx;rfl)
def OpR.or{f:Fo->Fo->Sem Fo}{r r':R2}(h:OpR X f r)(h':OpR X f r'):OpR X f (λx y H Q=>r x y H Q\/r' x y H Q):=by
 intro pins s σ H x y v u Q I rx ry q;rcases q with q|q
 ·exact h pins s σ H x y v u Q I rx ry q
 ·exact h' pins s σ H x y v u Q I rx ry q
def nomark(b:Fw){op:CmpOp}(h:op≠.In:=by decide)(h2:op≠.NotIn:=by decide):behindInMarks op b=false:=by
 have e1:(op==CmpOp.In)=false:=by cases op <;> first|rfl|exact absurd rfl h
 have e2:(op==CmpOp.NotIn)=false:=by cases op <;> first|rfl|exact absurd rfl h2
 cases b <;> first|rfl|(show(_&&(op==CmpOp.In || op==CmpOp.NotIn)&&_)=false;rw[e1,e2,Dk,CF,Bb])
def ZiW{op:CmpOp}{r:R2}(ho:OpR X (compareOp op) r)(ha:PE X a ta)(hb:PE X b tb)(hm:behindInMarks op b=false):PE X (.Compare a [op] [b] pos) (kr r ta tb):=by intro pins s σ H Q I h;exact wpAny_Compare1 (zN ha hb I h λv u s2 x y H2 I2 rx ry q=>ho pins s2 σ H2 x y v u Q I2 rx ry q) hm
def ow(t:TE):TT:=λσ H Q=>t σ H λx H'=>∃k,x=.bl k/\Q k H'
def my{op:CmpOp}{r:R2}(ho:OpR X (compareOp op) r)(ha:PE X a ta)(hb:PE X b tb)(hm:behindInMarks op b=false):PT X (.Compare a [op] [b] pos) (ow<|kr r ta tb):=by
 intro pins s σ H Q I h;refine wpAny_isTrue_Compare1 (thn (ha pins s σ H _ I h) λv s1 ⟨x,H1,I1,r1,q1⟩=>thn (hb pins s1 σ H1 _ I1 q1) λu s2 ⟨y,H2,I2,r2,q2⟩ =>
  thn (ho pins s2 σ H2 x y v u _ I2 r1 r2 q2) λc s3 ⟨z,H3,I3,r3,k,e,q3⟩=>?_) hm
 subst e;cases r3;exact Ey ⟨H3,I3,q3⟩
def ZaE(r r':R2)(ta tb tc:TE):TE:=λσ H Q=>ta σ H λx H1=>tb σ H1 λy H2=>r x y H2 λz H3=>∃k,z=.bl k /\
 (if k=true then tc σ H3 λw' H4=>r' y w' H4 Q else Q (.bl false) H3)
noncomputable def ZiX{op op':CmpOp}{r r':R2}(ho:OpR X (compareOp op) r)(FT:OpR X (compareOp op') r')(ha:PE X a ta)(hb:PE X b tb)(hc:PE X c tc)
  (hm:lastMarks [op,op'] [b,c]=false:=by with_unfolding_all rfl):PE X (.Compare a [op,op'] [b,c] pos) (ZaE r r' ta tb tc):=by
 intro pins s σ H Q I h;refine Compare_chain (thn (ha pins s σ H _ I h) λv s1 ⟨x,H1,I1,r1,q1⟩=>chain_link (thn (hb pins s1 σ H1 _ I1 q1) λu s2 ⟨y,H2,I2,r2,q2⟩ =>
  thn (ho pins s2 σ H2 x y v u _ I2 r1 r2 q2) λd s3 ⟨z,H3,I3,r3,k,e,q3⟩=>?_)) hm
 subst e;cases r3;refine Ey ?_;cases k with
 |false=>exact ite_ff ⟨.bl false,H3,I3,rfl,q3⟩
 |true=>exact ite_tt<|chain_last<|thn (hc pins s3 σ H3 _ I3 q3) λw' s4 ⟨z',H4,I4,r4,q4⟩=>FT pins s4 σ H4 y z' u w' Q I4 r2 r4 q4
def Zf2(K:DQ)(x:V)(H:Hp)(k:Bool):Prop :=
 match x with
 |.non=>k=false
 |.bl b=>k=b
 |.int i=>k=(i != 0)
 |.str y=>y.length<=sizeLine/\k=((y.length:Int) != 0)
 |.byt y=>y.size<=sizeLine/\k=((y.size:Int) != 0)
 |.ref p=>(∃xs,SqL K H p xs/\k=!xs.isEmpty)\/(∃xs,SqT K H p xs/\k=!xs.isEmpty)\/∃kvs,H p=some (.dK kvs)/\k=!kvs.isEmpty
 |_=>False
def Zku{κ:Type}{kvs:Fl (κ×V)}{vs:Fl (κ×Fo)}(r:KV kvs vs):(!vs.isEmpty)=!kvs.isEmpty:=by cases r <;> rfl
def ZdU{xs:D5}{Fz:D3}(r:Vals xs Fz):(!Fz.toArray.isEmpty)=!xs.isEmpty:=by cases r <;> simp
def jU:(sizeLine:Nat)<2^63:=by rw[Ex];decide
def ZgC:ZnV X (λx H Q=>∃k,Zf2 X.K x H k/\Q k H):=by
 intro pins s σ H x v Q I rx h;obtain⟨k,e,q⟩:=h;have hl:=jU;have hs:sizeLine=16777216:=Ex;cases x with
 | non =>
  cases rx;have e':k=false:=e;subst e';exact truthy_none ⟨H,I,q⟩
 | bl b =>
  cases rx;have e':k=b:=e;subst e';exact Ey ⟨H,I,q⟩
 | int i =>
  obtain⟨t,rfl⟩:=rx;have e':k=(i != 0):=e;subst e';exact PySem.P.truthy_int ⟨H,I,q⟩
 | str y =>
  obtain⟨t,rfl⟩:=rx;obtain⟨hy,e'⟩:y.length<=sizeLine/\k=((y.length:Int) != 0):=e;subst e';exact PySem.P.truthy_str (by omega) ⟨H,I.tok _,q⟩
 | byt y =>
  obtain⟨t,rfl⟩:=rx;obtain⟨hy,e'⟩:y.size<=sizeLine/\k=((y.size:Int) != 0):=e;subst e';exact PySem.W.truthy_bytes (by omega) ⟨H,I.tok _,q⟩
 | ref p =>
  cases rx;have e':(∃xs,SqL X.K H p xs/\k=!xs.isEmpty)\/(∃xs,SqT X.K H p xs/\k=!xs.isEmpty)\/∃kvs,H p=some (.dK kvs)/\k=!kvs.isEmpty:=e;rcases e' with ⟨xs,hx,e'⟩|⟨xs,hx,e'⟩|⟨kvs,hx,e'⟩
  ·subst e';obtain⟨Fz,r,pl,hz⟩:=I.list hx;have hlen:=r.length;exact wpAny_truthy_list pl.isList (by simp only[AG];omega) ⟨H,I.tok _,by rw[ZdU r];exact q⟩
  ·subst e';obtain⟨Fz,r,pl,hz⟩:=I.tuple hx;have hlen:=r.length;exact truthy_tuple pl (by simp only[AG];omega) ⟨H,I.tok _,by rw[ZdU r];exact q⟩
  ·subst e';obtain⟨hz,hS,vs,r,m⟩:kvs.length<=sizeLine/\(p==sysModules)=false/\∃vs,KV kvs vs/\s.heap.DictOf (bP X.prog X.w) p vs:=I.hok p _ hx;have hlen:kvs.length=vs.length:=C8 r;exact wpAny_truthy_dict hS m (by omega) ⟨H,I.tok _,by rw[Zku r];exact q⟩
 |_=>exact(show False from e).elim
def Zip(ha:PE X a ta)(he:∀whole,isTrue a X.env whole=(do let v <- whole;standAt a.pos;holding [v] (truthy v))) :
  PT X a (λσ H Q=>ta σ H λx H'=>∃k,Zf2 X.K x H' k/\Q k H'):=by intro pins s σ H Q I h;exact isTrue_plain (thn (ha pins s σ H _ I h) λv s1 ⟨x,H1,I1,r1,q1⟩=>ZgC pins s1 σ H1 x v Q I1 r1 q1)<|he _
def eB{x:V}{us:D3}(r:Vals [x] us):∃u,us=[u]/\RelV x u:=by
 cases r with
 |cons r1 r2=>cases r2;exact⟨_,rfl,r1⟩
def wH{x y:V}{us:D3}(r:Vals [x,y] us):∃u w',us=[u,w']/\RelV x u/\RelV y w':=by
 cases r with
 | cons r1 r2 =>
  cases r2 with
  |cons r3 r4=>cases r4;exact⟨_,_,rfl,r1,r3⟩
def lF:dN X (.builtin "abs") (λxs H Q=>∃i,xs=[.int i]/\Q (.int<|if i<0 then -i else i) H):=by intro pins s σ H xs us Q I r h;obtain⟨i,rfl,q⟩:=h;obtain⟨u,rfl,t,rfl⟩:=eB r;exact call_abs_int λu tk=>⟨.int<|if i<0 then -i else i,H,I.tok _,⟨_,rfl⟩,q⟩
def lE(hc:X.calm=true):dN X (.builtin "max") (λxs H Q=>∃i j,xs=[.int i,.int j]/\Q (.int<|if j>i then j else i) H):=by
 intro pins s σ H xs us Q I r h;obtain⟨i,j,rfl,q⟩:=h;obtain⟨u,w',rfl,⟨t,rfl⟩,⟨t',rfl⟩⟩:=wH r;refine max_two_ints (I.ok.hd hc) λh' tk k=>⟨_,H,I.kept k,?_,q⟩;by_cases hj:j>i
 ·rw[Ed hj,Ed hj];exact⟨_,rfl⟩
 ·rw[Ef hj,Ef hj];exact⟨_,rfl⟩
def ZmX:dN X (.type "int") (λxs H Q=>(∃i,xs=[.int i]/\Q (.int i) H)\/∃k,xs=[.bl k]/\Q (.int<|if k then 1 else 0) H):=by
 intro pins s σ H xs us Q I r h;rcases h with ⟨i,rfl,q⟩|⟨k,rfl,q⟩
 ·obtain⟨u,rfl,t,rfl⟩:=eB r;exact call_int_int ⟨.int i,H,I,⟨_,rfl⟩,q⟩
 ·obtain⟨u,rfl,r1⟩:=eB r;cases r1;exact call_int_bool ⟨.int<|if k then 1 else 0,H,I.tok _,⟨_,rfl⟩,q⟩
def Ze6:dN X (.type "str") (λxs H Q=>∃i,xs=[.int i]/\i.natAbs.log2<1920/\Q (.str<|toString i) H):=by intro pins s σ H xs us Q I r h;obtain⟨i,rfl,hz,q⟩:=h;obtain⟨u,rfl,t,rfl⟩:=eB r;exact PySem.P.str_of_int hz ⟨.str _,H,I.tok _,⟨_,rfl⟩,q⟩
end
structure ObjM(h:Fv)(x dx C:Fq)(mA:D6):Prop where
 obj:h.get? x=some (PySem.W.instObj C dx)
 ns:h.Ns1 dx mA
 ne:dx≠x
def ZjR{h:Fv}{dx:Fq}{mA:D6}(n:h.Ns1 dx mA):∃od,h.get? dx=some od/\∀name,PySem.W.lookIn name od=some (mA name):=by
 obtain⟨o,es,ep,ho,hd,hk,_,hm⟩:=n;refine⟨o,ho,λname=>?_⟩;have e:=hm name;unfold nsFind findBy at e;rw[<- Array.find?_toList]at e;unfold PySem.W.lookIn;rw[hd];dsimp only
 split
 ·rename_i y q;rw[q]at e;exact Eg some e
 ·rename_i q;rw[q]at e;have a:es.toList.any (·.refKey)=false:=by rw[List.any_eq_false];intro y hy;obtain⟨z,t,hkey⟩:=hk y<|Array.mem_toList_iff.mp hy;simp[DictEntry.refKey,hkey]
  have a':¬ es.toList.any (·.refKey)=true:=by rw[a];exact AN
  rw[Ef a'];exact Eg some e
def ObjM.look{h:Fv}{x dx C:Fq}{mA:D6}(I:ObjM h x dx C mA):∃od,PySem.W.InstAt h x (PySem.W.instObj C dx) C (some od)/\∀name,PySem.W.lookIn name od=some (mA name) :=
 let ⟨od,ho,hl⟩:=ZjR I.ns
 ⟨od,⟨I.obj,rfl,rfl,ho⟩,hl⟩
section
variable{prog:Fs}{w:Ft}{A:Fu}{E:DZ}{s:Fp}{K:DQ}{x dx C f:Fq}{mA:D6}{name:Str}{v:Fo}
end
def RelO.some_of{v:V}{o:Fm Fo}(r:RelO (some v) o):∃u,o=some u/\RelV v u:=by
 cases o with
 |none=>exact(show False from r).elim
 |some u=>exact⟨u,rfl,r⟩
section
variable{P:Fs}{w:Ft}{H H':Hp}{h h':Fv}{a C dx:Fq}{fs fs':Fl (Str×V)}
def Zky(hok:HOk P w H h)(e:H a=some (.ins C dx fs)):∃mA,ObjM h a dx C mA/\(∀f,RelO (fs.lookup f)<|mA f)/\PySem.Within mA (fs.map (·.1))/\fs.length<=1000/\H dx=some (.own a):=by
 obtain⟨d,z,ne,ob,mA,n,r,q⟩:=(show ObjOk P w H h a (.ins C dx fs)from hok a _ e)
 exact⟨mA,⟨ob,n,ne⟩,r,q,z,d⟩
end
structure Cls(K:DQ)(C:Fq):Prop where
 pg:PySem.W.plainGet K C Str.empty=true
 hd:PySem.W.hasDictIn K C=true
 po:PySem.W.plainOver K C=true
 sa:PySem.W.findIn K (.ref C) "__setattr__"=some (some<|.builtin "object.__setattr__")
def Cls.get{K:DQ}{C:Fq}(c:Cls K C)(f:Str):PySem.W.plainGet K C f=true:=c.pg
section
variable{X:Cx}{pins:Fl (Fq×Obj)}{σ:St}{H:Hp}{s:Fp}{a C dx:Fq}{fs:Fl (Str×V)}{f:Str}{v:V}{A:Fu}{E:DZ}
end
section
variable{X:Cx}{o e value:Fw}{f:Str}{pos pos' tpos:Pos}{ta tv:TE}
end
section
variable{X:Cx}{pins:Fl (Fq×Obj)}{σ:St}{H:Hp}{s:Fp}{A:Fu}{E:DZ}{Q:DZ}{c:Fo}{b:Bool}
inductive TyOf(K:DQ)(H:Hp):V->Fo->Prop where
 |non:TyOf K H .non (.type "NoneType")
 |bl (x:Bool):TyOf K H (.bl x) (.type "bool")
 |int (i:Int):TyOf K H (.int i) (.type "int")
 |str (x:Str):TyOf K H (.str x) (.type "str")
 |flt (x:UInt64):TyOf K H (.flt x) (.type "float")
 |lst {a:Fq} {xs:D5} (e:H a=some (.lst xs)):TyOf K H (.ref a) (.type "list")
 |frz {a:Fq} {o:Obj} {xs:D5} (e:H a=some (.frz o<|.lst xs)):TyOf K H (.ref a) (.type "list")
 |tup {a:Fq} {xs:D5} (e:H a=some (.tup xs)):TyOf K H (.ref a) (.type "tuple")
 |dK {a:Fq} {kvs:List (aL×V)} (e:H a=some (.dK kvs)):TyOf K H (.ref a) (.type "dict")
 |dT {a:Fq} {kvs:List (List aL×V)} (e:H a=some (.dT kvs)):TyOf K H (.ref a) (.type "dict")
 |frzD {a:Fq} {o:Obj} {kvs:List (aL×V)} (e:H a=some (.frz o<|.dK kvs)):TyOf K H (.ref a) (.type "dict")
 |frzE {a:Fq} {o:Obj} {kvs:List (List aL×V)} (e:H a=some (.frz o<|.dT kvs)):TyOf K H (.ref a) (.type "dict")
 | ins {a C dx:Fq} {fs:List (Str×V)} (e:H a=some (.ins C dx fs)) (cl:Cls K C) (ha:PySem.W.findIn K (.ref C) "__class__"=some (some<|.builtin "object.__class__"))
   (hn:PySem.W.specialIn K (.builtin "object.__class__") "__get__"=some (some<|.builtin "getset_descriptor.__get__")) (htk:PySem.W.takesIn K (.builtin "object.__class__")=some true)
   (hm:PySem.W.mroIn K C (.type "object")=some true):TyOf K H (.ref a) (.ref C)
def Zkt{x:V}{u t:Fo}(I:Inv X pins σ H s)(rx:RelV x u)(ty:TyOf X.K H x t)(e:PySem.W.kitOne X.K t c=some b)(h:∀tk,Q (.bool b) {s with toks:=tk}) :
  wpAny (model X.prog X.w) A (call (.builtin "isinstance") [u,c]) Q E s:=by
 cases ty with
 |non=>cases (show u=Value.none from rx);exact Bt PySem.W.kitx_none I.kIn True.intro e (λz=>nomatch z) h
 |bl y=>cases (show u=Value.bool y from rx);exact Bt PySem.W.kitx_bool I.kIn True.intro e (λz=>nomatch z) h
 |int i=>obtain⟨t,q⟩:=(show ∃t,u=Value.int i t from rx);cases q;exact Bt PySem.W.kitx_int I.kIn True.intro e (λz=>nomatch z) h
 |str y=>obtain⟨t,q⟩:=(show ∃t,u=Value.str y t from rx);cases q;exact Bt PySem.W.kitx_str I.kIn True.intro e (λz=>nomatch z) h
 |flt y=>obtain⟨t,q⟩:=(show ∃t,u=Value.float y t from rx);cases q;exact Bt PySem.W.kitx_float I.kIn True.intro e (λz=>nomatch z) h
 | @lst a xs ea =>
  cases (show u=Value.ref a from rx)
  obtain⟨_,_,n,_,h1⟩:=(show ObjOk X.prog X.w H s.heap a (.lst xs)from I.hok a _ ea)
  exact Bt PySem.W.kitx_list I.kIn ⟨_,h1,rfl⟩ e (λz=>nomatch z) h
 | @frz a ob xs ea =>
  cases (show u=Value.ref a from rx)
  obtain⟨_,_,_,n,_,h1⟩:=(show ObjOk X.prog X.w H s.heap a (.frz ob<|.lst xs)from I.hok a _ ea)
  exact Bt PySem.W.kitx_list I.kIn ⟨_,h1,rfl⟩ e (λz=>nomatch z) h
 | @tup a xs ea =>
  cases (show u=Value.ref a from rx)
  obtain⟨_,_,_,p⟩:=(show ObjOk X.prog X.w H s.heap a (.tup xs)from I.hok a _ ea)
  obtain⟨o,h1,h2,_⟩:=p;exact Bt PySem.W.kitx_tuple I.kIn ⟨o,h1,h2⟩ e (λz=>nomatch z) h
 | @dK a kvs ea =>
  cases (show u=Value.ref a from rx)
  obtain⟨_,_,vs,_,p⟩:=(show ObjOk X.prog X.w H s.heap a (.dK kvs)from I.hok a _ ea)
  obtain⟨o,es,ep,h1,h2,_⟩:=p;exact Bt CV I.kIn ⟨o,h1,h2.1⟩ e (λz=>nomatch z) h
 | @frzD a ob kvs ea =>
  cases (show u=Value.ref a from rx)
  obtain⟨_,_,_,vs,_,p⟩:=(show ObjOk X.prog X.w H s.heap a (.frz ob<|.dK kvs)from I.hok a _ ea)
  obtain⟨o,es,ep,h1,h2,_⟩:=p;exact Bt CV I.kIn ⟨o,h1,h2.1⟩ e (λz=>nomatch z) h
 | @frzE a ob kvs ea =>
  cases (show u=Value.ref a from rx)
  obtain⟨_,_,_,xs,_,o,es,ep,h1,h2,_⟩:=(show ObjOk X.prog X.w H s.heap a (.frz ob<|.dT kvs)from I.hok a _ ea)
  exact Bt CV I.kIn ⟨o,h1,h2.1⟩ e (λz=>nomatch z) h
 | @dT a kvs ea =>
  cases (show u=Value.ref a from rx)
  obtain⟨_,_,xs,_,o,es,ep,h1,h2,_⟩:=(show ObjOk X.prog X.w H s.heap a (.dT kvs)from I.hok a _ ea)
  exact Bt CV I.kIn ⟨o,h1,h2.1⟩ e (λz=>nomatch z) h
 | @ins a C dx fs ea cl ha hn htk hm =>
  cases (show u=Value.ref a from rx)
  obtain⟨mA,O,_⟩:=Zky I.hok ea;obtain⟨od,J,_⟩:=O.look;exact Bt (PySem.W.kitx_own (cl.get _) cl.hd ha hn htk hm) I.kIn J e (λz=>nomatch z) h
end
structure Room(k:Nat)(A:Fu):Prop where
 hd:A.handled=none
 dp:A.depth+3*k+5<recursionLimit
 un:A.units+16*k+200<cLine
 gd:A.guards=some []
def Room.mono{j k:Nat}{A:Fu}(r:Room k A)(h:j<=k):Room j A:=⟨r.hd,by have:=r.dp;omega,by have:=r.un;omega,r.gd⟩
theorem Room.deeper{k:Nat}{A:Fu}(r:Room (k+1) A)(env:Env):Room k (A.deeper env) :=
 ⟨r.hd,by have:=r.dp;show A.depth+1+3*k+5<_;omega,by have:=r.un;show A.units+3+16*k+200<_;omega,r.gd⟩
theorem Room.depth{k:Nat}{A:Fu}(r:Room k A):A.depth<recursionLimit:=by have:=r.dp;omega
theorem Room.units{k:Nat}{A:Fu}(r:Room k A):A.units+64<cLine:=by have:=r.un;omega
def Room.units0{k:Nat}{A:Fu}(r:Room k A):A.units<cLine:=by have:=r.un;omega
def aS:TA:=λ_ H Q=>Q [] H
def fM(ta:TE)(tr:TA):TA:=λσ H Q=>ta σ H λx H1=>tr σ H1 λxs H2=>Q (x::xs) H2
section
variable{X:Cx}{e:Fw}{es:Fl Fw}{te:TE}{t:TA}{pos:Pos}
def cf:PA X [] aS:=λ_ _ _ _ H Q I h=>Calls.spliced_nil ⟨[],H,I,.nil,h⟩
def bx(ha:PE X e te)(hr:PA X es t)(hs:starEach (e::es) X.env=(false,eval e X.env)::starEach es X.env:=by rfl):PA X (e::es) (fM te t):=by
 intro pos pins s σ H Q I h;rw[hs];show wpAny _ _ (spliced ((false,eval e X.env)::backTo pos (starEach es X.env))) _ _ s;refine Calls.spliced_cons (thn (ha pins s σ H _ I h) λu s1 Fy=>?_);obtain⟨x,H1,I1,r1,q1⟩:=Fy;exact thn (hr pos pins s1 σ H1 _ I1 q1) λus s2 Fy=>by obtain⟨xs,H2,I2,r2,q2⟩:=Fy;exact⟨x::xs,H2,I2,.cons r1 r2,q2⟩
def ZgH(t:TA):TE:=λσ H Q=>t σ H λxs H1=>xs.length<=sizeLine/\∀p,H1 p=none->Q (.ref p) (upd H1 p<|.tup xs)
def ZgU(t:TA):TE:=λσ H Q=>t σ H λxs H1=>xs.length<=sizeLine/\∀p,H1 p=none->Q (.ref p) (upd H1 p<|.lst xs)
def ZiN{x1}(h:PA X es t):PE X (.Tuple es x1 pos) (ZgH t):=by
 intro pins s σ H Q I hq;refine wpAny_Tuple_spliced<|thn (h pos pins s σ H _ I hq) λus s1 ⟨xs,H1,I1,r,z,q⟩=>⟨by rw[<- r.length];exact z,?_⟩
 have hf:H1 s1.heap.objs.size=none:=I1.hok.fresh<|Aw _;refine⟨.ref s1.heap.objs.size,upd H1 s1.heap.objs.size<|.tup xs,I1.laid (t':=s1.toks) (λb u e=>v9 _ e) (Aw _) ?_,rfl,q _ hf⟩;exact⟨z,us,r,⟨_,AC _ rfl,rfl,_,rfl⟩⟩
def ZcL(h:PA X es t):PE X (.List es pos) (ZgU t):=by
 intro pins s σ H Q I hq;refine wpAny_List_spliced<|thn (h pos pins s σ H _ I hq) λus s1 ⟨xs,H1,I1,r,z,q⟩=>⟨by rw[<- r.length];exact z,?_⟩
 have hf:H1 s1.heap.objs.size=none:=I1.hok.fresh<|Aw _;refine⟨.ref s1.heap.objs.size,upd H1 s1.heap.objs.size<|.lst xs,I1.laid (t':=s1.toks) (λb u e=>v9 _ e) (Aw _) ?_,rfl,q _ hf⟩;exact⟨z,us,0,r,AC _ rfl⟩
end
abbrev Sp:=Fl V->Hp->VK->XK->Prop
abbrev f8:=Fl Env->Hp->Fp->XK->Fo->Fp->Prop
structure Env0(P:Fs)(w:Ft)(K:DQ)(mg:D6)(base:Fv)(A:Fu)(outer:List Env)(s:Fp)(H:Hp):Prop where
 frames:A.frames=some outer
 mod:Mod K mg base
 bs:∀b o,base.get? b=some o->s.heap.get? b=some o/\H b=none
 bsz:base.objs.size<=s.heap.objs.size
 funs:s.heap.FunFrames base outer
 frf:∀b∈frs outer,H b=none
 hok:HOk P w H s.heap
 bare:AllBare s.gens
def CE(outer:Fl Env)(P:Fs)(w:Ft)(H:Hp)(s:Fp)(Q:VK)(u:Fo)(s':Fp):Prop :=
 ∃v H',s'.os=s.os/\AllBare s'.gens/\Un (frs outer) [] H H' s.heap s'.heap/\HOk P w H' s'.heap/\RelV v u/\Q v H'
def CR(CX:f8)(outer:Fl Env)(P:Fs)(w:Ft)(H:Hp)(s:Fp)(Q:VK)(E:XK)(r:Result)(s':Fp):Prop :=
 match r with
 |.ok (.ret u)=>CE outer P w H s Q u s'
 |.ok _=>False
 |.error e=>CX outer H s E e s'
structure FnOk(P:Fs)(w:Ft)(K:DQ)(mg:D6)(base:Fv)(CX:f8)(k:Nat)(f:Fq)(fd:FuncData)(ps:D4)(sp:Sp):Prop where
 len:∀vs H Q E,sp vs H Q E->vs.length=ps.length
 run:∀(A:Fu)(outer:List Env)(s:Fp)(H:Hp)(args:Args)(us:D3)(vs:D5)(Q:VK)(E:XK),Room k A->Env0 P w K mg base A outer s H->BindsTo s fd args (ps.zip us)->Vals vs us->sp vs H Q E ->
  codeAny (model P w) A (.call (.ref f) args) (CR CX outer P w H s Q E) s
def FnOk.imp{P:Fs}{w:Ft}{K:DQ}{mg:D6}{base:Fv}{CX:f8}{k:Nat}{f:Fq}{fd:FuncData}{ps:D4}{sp sp':Sp}(F:FnOk P w K mg base CX k f fd ps sp)
  (h:∀vs H Q E,sp' vs H Q E->sp vs H Q E):FnOk P w K mg base CX k f fd ps sp' :=
 ⟨λvs H Q E q=>F.len vs H Q E<|h _ _ _ _ q,λA outer s H args us vs Q E hr he hb hv hs=>F.run A outer s H args us vs Q E hr he hb hv<|h _ _ _ _ hs⟩
section
variable{X:Cx}{pins:Fl (Fq×Obj)}{σ:St}{H:Hp}{s s':Fp}
def Inv.env0(I:Inv X pins σ H s):Env0 X.prog X.w X.K X.mg X.base X.A X.stack s H :=
 ⟨I.ok.frames,I.ok.mod,I.bs,AJ I.ok.bsz I.sz,I.stack,I.stkFree,I.hok,I.bare⟩
def Inv.after{Q:VK}{u:Fo}(I:Inv X pins σ H s)(h:CE X.stack X.prog X.w H s Q u s'):EP X pins σ Q u s':=by obtain⟨v,H',os,bare,un,hok,r,q⟩:=h;obtain⟨hh,g,d,t,os'⟩:=s';obtain rfl:os'=s.os:=os;exact⟨v,H',I.call (h':=hh) (g':=g) (d':=d) (t':=t) (ch:=[]) un hok bare<|λb z=>absurd z<|by simp,r,q⟩
end
def ZaF(sp:Sp)(dvs:D5)(E:XK)(t:TA):TE:=λσ H Q=>t σ H λvs H1=>sp (vs++dvs) H1 Q E
def Binds(K:DQ)(fd:FuncData)(ps:D4)(ds:D3):Prop :=
 ∀(s:Fp)(us:D3),K.In s.heap->(us++ds).length=ps.length->BindsTo s fd ⟨us,[]⟩ (ps.zip<|us++ds)
def Binds.all{K:DQ}{fd:FuncData}{ps:D4}(h:∀us:D3,us.length=ps.length->bindArgs fd ⟨us,[]⟩=pure (ps.zip us)):Binds K fd ps []:=λs us _ hl=>by rw[A3]at hl ⊢;exact .of_eq<|h us hl
def Ao(CX:f8)(X:Cx)(E:XK):Prop:=∀(pins:Fl (Fq×Obj))(σ:St)(H:Hp)(s:Fp)(e:Fo)(s':Fp),Inv X pins σ H s->CX X.stack H s E e s'->X.xe e s'
section
variable{X:Cx}{CX:f8}{k:Nat}{f C:Fq}{fd:FuncData}{ps:D4}{sp:Sp}{dvs:D5}{ds:D3}{E:XK}{x m:Str}{p pos apos:Pos}{e o:Fw}{es:Fl Fw}{ta:TE}{t:TA}
def ZhT{pins:Fl (Fq×Obj)}{σ:St}{H:Hp}{s:Fp}{Q:VK}{us:D3}{vs:D5}(F:FnOk X.prog X.w X.K X.mg X.base CX k f fd ps sp)(hr:Room k X.A)(hb:Binds X.K fd ps ds)(hd:Vals dvs ds)(hx:Ao CX X E)
  (I:Inv X pins σ H s) (r:Vals vs us) (h:sp (vs++dvs) H Q E):wpAny (model X.prog X.w) X.A (call (.ref f) us) (EP X pins σ Q) X.xe s:=by
 have r2:Vals (vs++dvs) (us++ds):=r.append hd;have hl:(us++ds).length=ps.length:=by rw[<- r2.length];exact F.len _ _ _ _ h
 refine wpAny_call (E8 (F.run X.A X.stack s H ⟨us,[]⟩ (us++ds) (vs++dvs) Q E hr I.env0 (hb s us I.kIn hl) r2 h) λr s' hq=>?_);cases r with
 |error e=>exact hx pins σ H s e s' I hq
 | ok fl =>
  cases fl with
  |ret u=>exact I.after hq
  |next=>exact False.elim hq
  |brk=>exact False.elim hq
  |cont=>exact False.elim hq
noncomputable def ZiY(F:FnOk X.prog X.w X.K X.mg X.base CX k f fd ps sp)(hr:Room k X.A)(hg:Gl X x)(hm:X.mg x=some (.ref f))(hk:PySem.W.keepIn X.K (.ref f)=true)(hb:Binds X.K fd ps ds)(hd:Vals dvs ds)(hx:Ao CX X E)
  (ha:PA X (e::es) t) (hdb:(x==("__debug__":Str))=false:=by decide) (he:starEach (e::es) X.env=(false,eval e X.env)::starEach es X.env:=by rfl) (FO:(backTo pos<|starEach es X.env).any (·.1)=false:=by rfl) :
  PE X (.Call (.Name x p) (e::es) [] pos) (ZaF sp dvs E t):=by intro pins s σ H Q I h;refine Fd<|Zdr I hg hm ?_ hdb;refine PySem.W.callWith_K (h₀:=X.base) I.ok.mod.kin hk (thn (ha pos pins s σ H _ I h) λus s1 ⟨vs,H1,I1,r,q⟩=>⟨I1.kIn,?_⟩) he FO;exact ZhT F hr hb hd hx I1 r q
end
def PK(X:Cx)(kws:Fl Keyword)(t:TA):Prop :=
 ∀(pos:Pos)(pins:Fl (Fq×Obj))(s:Fp)(σ:St)(H:Hp)(Q:Fl V->Hp->Prop),Inv X pins σ H s->t σ H Q->wpAny (model X.prog X.w) X.A (evalAll<|(backToKw pos<|keywordEach kws X.env).map (·.2)) (AP X pins σ Q) X.xe s
section
variable{X:Cx}{CX:f8}{k:Nat}{f C:Fq}{fd:FuncData}{ps ks:D4}{sp:Sp}{E:XK}{x m:Str}{p pos apos kpos:Pos}{e o:Fw}{es:Fl Fw}{kws:Fl Keyword}{te ta:TE}{t tk:TA}{nm:Fm Str}
variable{g:Fl Fo->Fl Fo->Fl Fo}{gV:Fl V->Fl V->Fl V}
end
structure FnScope(N P:D4)(sc:Scope):Prop where
 kind:sc.kind=.function
 co:sc.isCoroutine=false
 gen:sc.isGenerator=false
 nd:N.Nodup
 pre:N.take P.length=P
 par:∀x∈P,sc.names.lookup x=some .local\/sc.names.lookup x=some .cell
 nofree:∀y∈sc.names,y.2≠.free
theorem Zfr{kindOf:Str->Fm NameKind}{x:Str}:∀{binds:Fl (Str×Fo)}{m:D6},(∀v,(x,v)∉binds)->bindL kindOf binds m x=m x
 | [],_,_=>rfl
 | (n,v)::r,m,h=>by
  unfold bindL;rw[Zfr λw hw=>h w<|Az _ hw]
  split
  ·have:x≠n:=by rintro rfl;exact h v AB
   simp[this]
  ·rfl
theorem Zft{kindOf:Str->Fm NameKind}{x:Str}:∀{binds:Fl (Str×Fo)}{m:D6},(∀v,(x,v)∉binds)->bindC kindOf binds m x=m x
 | [],_,_=>rfl
 | (n,v)::r,m,h=>by
  unfold bindC;rw[Zft λw hw=>h w<|Az _ hw]
  split
  ·rfl
  ·have:x≠n:=by rintro rfl;exact h v AB
   simp[this]
theorem Zfs{kindOf:Str->Fm NameKind}{x:Str}{v:Fo}:∀{P:D4}{vs:D3}{i:Nat}{m:D6},P.Nodup->P[i]?=some x->vs[i]?=some v->kindOf x=some .local ->
  bindL kindOf (P.zip vs) m x=some v
 | [],_,_,_,_,h,_,_=>by simp at h
 |_::_,[],_,_,_,_,h,_=>by simp at h
 |p::P,w::vs,0,m,nd,h1,h2,hk=>by simp at h1 h2;subst h1;subst h2;show bindL kindOf ((p,w)::P.zip vs) m p=_;unfold bindL;rw[Zfr λv hv=>(BQ.mp nd).1 (Cv hv).1,Ed hk];simp
 |p::P,w::vs,i+1,m,nd,h1,h2,hk=>by show bindL kindOf ((p,w)::P.zip vs) m x=_;unfold bindL;exact Zfs (i:=i) (BQ.mp nd).2 (by simpa using h1) (by simpa using h2) hk
theorem Zfu{kindOf:Str->Fm NameKind}{x:Str}{v:Fo}:∀{P:D4}{vs:D3}{i:Nat}{m:D6},P.Nodup->P[i]?=some x->vs[i]?=some v->kindOf x≠some .local ->
  bindC kindOf (P.zip vs) m x=some v
 | [],_,_,_,_,h,_,_=>by simp at h
 |_::_,[],_,_,_,_,h,_=>by simp at h
 |p::P,w::vs,0,m,nd,h1,h2,hk=>by simp at h1 h2;subst h1;subst h2;show bindC kindOf ((p,w)::P.zip vs) m p=_;unfold bindC;rw[Zft λv hv=>(BQ.mp nd).1 (Cv hv).1,Ef hk];simp
 |p::P,w::vs,i+1,m,nd,h1,h2,hk=>by show bindC kindOf ((p,w)::P.zip vs) m x=_;unfold bindC;exact Zfu (i:=i) (BQ.mp nd).2 (by simpa using h1) (by simpa using h2) hk
noncomputable def start(N:D4)(vs:D5):St:=vs.map some++List.replicate (N.length-vs.length) none
noncomputable def jp(CX:f8)(P:Fs)(w:Ft)(K:DQ)(mg:D6)(base:Fv)(N:D4)(qual:Str)(scope:Scope)(f:Fq)(cd:Fo)(A:Fu)(outer:Fl Env)(s:Fp)(H:Hp)(E:XK):Cx where
 prog:=P
 w:=w
 K:=K
 mg:=mg
 base:=base
 A:=A.deeper<|envOfC qual scope s.heap.objs.size f cd
 N:=N
 s₀:=s
 H₀:=H
 env:=envOfC qual scope s.heap.objs.size f cd
 outer:=outer
 stack:=envOfC qual scope s.heap.objs.size f cd::outer
 ex:=[]
 calm:=true
 fn:=λ_=>true
 pn:=[]
 xe:=λe s'=>wpAny (model P w) (A.deeper<|envOfC qual scope s.heap.objs.size f cd) (leaving (envOfC qual scope s.heap.objs.size f cd) e) (λ_ s''=>CX outer H s E e s'') (λe' s''=>CX outer H s E e' s'') s'
def Ze5{sc:Scope}{n:Nat}{x:Str}(h:sc.names.lookup x=some .cell):∃c,(cellsFrom n sc.names []).lookup x=some c:=by have q:=PySem.W.cellsFrom_some sc.names n []<|.inl h;exact Option.isSome_iff_exists.mp q
def Zkw{CX:f8}{P:Fs}{w:Ft}{K:DQ}{mg:D6}{base:Fv}{N ps:D4}{qual:Str}{scope:Scope}{f:Fq}{cd:Fo}{A:Fu}{outer:Fl Env}{s s1:Fp}{H:Hp}{E:XK}{us:D3}{vs:D5}
  (S:FnScope N ps scope) (hd:A.handled=none) (e0:Env0 P w K mg base A outer s H) (hl:vs.length=ps.length) (r:Vals vs us)
  (x:InCallC s s.heap.objs.size (bindL (envOfC qual scope s.heap.objs.size f cd).kindOf (ps.zip us) λ_=>none) (cellsFrom (s.heap.objs.size+1) scope.names []) (bindC (envOfC qual scope s.heap.objs.size f cd).kindOf (ps.zip us) λ_=>none) s1) :
  Inv (jp CX P w K mg base N qual scope f cd A outer s H E) [] (start N vs) H s1:=by
 have FO:ps.length<=N.length:=by have:=Eg List.length S.pre;rw[C2]at this;omega
 obtain⟨h1,tk,rfl,hk⟩:=x.done;have noA:∀b:Fq,b∉(jp CX P w K mg base N qual scope f cd A outer s H E).ex:=λb z=>absurd (show b∈([]:Fl Fq)from z)<|by simp
 refine⟨⟨e0.mod,S.kind,rfl,rfl,Aw _,λy z c h1 h2=>?_,λy hy=>?_,λy c _ h=>?_,λ_=>hd,Around.frames_deeper e0.frames,.inr ⟨rfl,rfl⟩,λb z=>absurd z<|noA b,e0.bs,e0.bsz,λb _ _=>noA b,λb z=>absurd z<|noA b,e0.funs,e0.frf⟩,
  rfl,e0.bare,Un.kept hk,⟨_,x.toInCall.ns,λi y v h1 h2 h3=>?_⟩,λy c h=>⟨_,x.cell y c h⟩,e0.hok.fresh<|Aw _,λy c h=>?_,λp hp=>absurd (show p∈([]:Fl (Fq×Obj))from hp)<|by simp,e0.hok.kept hk,?_⟩
 ·exact name_of_addr x.apart (BC h1)<|BC h2
 ·have hy:scope.names.lookup y=some .cell\/scope.names.lookup y=some .free:=hy;rcases hy with hy|hy
  ·exact Ze5 hy
  ·exact absurd rfl (S.nofree _<|BC hy)
 ·exact B5<|x.above y c<|BC h
 ·have hi:i<vs.length:=by
   unfold start at h2;by_cases hi:i<vs.length
   ·exact hi
   ·rw[A4<|by simpa using hi]at h2
    rw[Ba]at h2
    split at h2 <;> cases h2
  have ha:vs[i]?=some v:=by
   unfold start at h2;rw[AV<|by simpa using hi,AK]at h2
   cases e:vs[i]? with
   |none=>rw[e]at h2;cases h2
   |some a=>rw[e]at h2;cases h2;rfl
  obtain⟨u,hu,rv⟩:=r.get ha;have hp:ps[i]?=some y:=by rw[<- S.pre,List.getElem?_take_of_lt<|by omega];exact h1
  have ndP:ps.Nodup:=by rw[<- S.pre];exact S.nd.sublist<|List.take_sublist _ _
  refine⟨u,rv,?_⟩;rcases S.par y (Bi hp)with k|k
  ·exact .inl ⟨k,Zfs ndP hp hu k⟩
  ·obtain⟨c,e⟩:=Ze5 (n:=s.heap.objs.size+1) k;refine .inr ⟨.inl k,c,e,?_⟩;have q:=x.cell y c e;rw[Zfu ndP hp hu<|by show scope.names.lookup y≠_;rw[k];decide]at q
   exact q
 ·exact e0.hok.fresh<|B5<|x.above y c<|BC h
 ·unfold start;show _=N.length;rw[AQ,Av,CG];omega
def Zk2{CX:f8}{P:Fs}{w:Ft}{K:DQ}{mg:D6}{base:Fv}{k:Nat}{f:Fq}{name qual:Str}{params:Arguments}{body:Fl Fx}{scope:Scope}{dV kV doc pm FA ct oc:Fo}{an od:Fm Fq}
  {osl:Array (Fm Fo)} {N ps:D4} {sp:Sp} (lk:K.lookup f=some ⟨oc,od,.func<|PySem.W.fnOf name qual params body scope dV kV doc pm an FA ct,osl⟩) (hcd:PySem.W.codeIn K FA qual=true) (S:FnScope N ps scope)
  (len:∀vs H Q E,sp vs H Q E->vs.length=ps.length)
  (FX:∀(A:Fu)(outer:Fl Env)(s:Fp)(H:Hp)(vs:D5)(Q:VK)(E:XK),Room k (A.deeper<|envOfC qual scope s.heap.objs.size f FA)->sp vs H Q E ->
   ∃t,PSs (jp CX P w K mg base N qual scope f FA A outer s H E) body t/\t {nx:=λ_ H'=>Q .non H',rt:=Q} (start N vs) H) :
  FnOk P w K mg base CX (k+1) f (PySem.W.fnOf name qual params body scope dV kV doc pm an FA ct) ps sp:=by
 refine⟨len,λA outer s H args us vs Q E hr e0 hb r hsp=>?_⟩;have hl:=len _ _ _ _ hsp;have KX:K.In s.heap:=e0.mod.kin.keeps λb o e=>(e0.bs b o e).1;have lim:s.heap.NoLimit:=e0.mod.nolimit.keeps λb o e=>(e0.bs b o e).1;have hkind:∀y∈ps.zip us,scope.names.lookup y.1=some .local\/(scope.names.lookup y.1=some .cell/\((cellsFrom (s.heap.objs.size+1) scope.names []).lookup y.1).isSome=true):=λ⟨n,v⟩ hy=>by
  rcases S.par n (Cv hy).1 with q|q
  ·exact .inl q
  ·exact .inr ⟨q,PySem.W.cellsFrom_some _ _ _<|.inl q⟩
 refine codeAny_call_function hr.depth (KX _ _ lk) rfl S.co S.gen rfl (PySem.W.codeRec_of KX hcd) (hb _ _ _ _ ?_);refine wpAny_newFunctionEnv_cells S.kind hkind λenv he s1 x=>?_;subst he;refine⟨lim.keeps x.toInCall.keep,codeAny_func ?_⟩;obtain⟨t,ht,hq⟩:=FX A outer s H vs Q E (hr.deeper _) hsp;have I:Inv (jp CX P w K mg base N qual scope f FA A outer s H E) [] (start N vs) H s1:=Zkw S hr.hd e0 hl r x;refine Ei (ht [] s1 (start N vs) H _ I hq) (λfl s' hs=>?_) λe s' hs=>hs;have fin:∀{σ':St}{H':Hp}{v:V}{u:Fo},Inv (jp CX P w K mg base N qual scope f FA A outer s H E) [] σ' H' s'->RelV v u->Q v H'->CE outer P w H s Q u s' :=
  λ{σ' H' v u} J rv q=>⟨v,H',J.os,J.bare,J.base,J.hok,rv,q⟩
 cases fl with
 | ret u =>
  obtain⟨v,σ',H',J,rv,q⟩:=hs;exact fin J rv q
 | next =>
  obtain⟨σ',H',J,q⟩:=hs;exact fin (v:=V.non) (u:=Value.none) J rfl q
 | brk =>
  obtain⟨_,_,_,q⟩:=hs;exact False.elim q
 | cont =>
  obtain⟨_,_,_,q⟩:=hs;exact False.elim q
section
variable{X:Cx}{x:Str}{p pos:Pos}{e:Fw}{es:Fl Fw}{t:TA}{id T:String}{r:Fl V->Hp->VK->Prop}
def fN(r:Fl V->Hp->VK->Prop)(t:TA):TE:=λσ H Q=>t σ H λvs H1=>r vs H1 Q
def aX(hc:dN X (.builtin id) r)(hg:Gl X x)(hm:X.mg x=none)(hv:bootBuiltins x=some (.builtin id))(ha:PA X (e::es) t)(hn:x≠"__name__":=by decide)(hdb:(x==("__debug__":Str))=false:=by decide)
  (he:starEach (e::es) X.env=(false,eval e X.env)::starEach es X.env:=by rfl) (FO:(backTo pos<|starEach es X.env).any (·.1)=false:=by rfl):PE X (.Call (.Name x p) (e::es) [] pos) (fN r t):=by intro pins s σ H Q I h;refine Fd<|je I hg hm hv ?_ hn hdb;exact PyProof.Rows.callWith_builtin1 (thn (ha pos pins s σ H _ I h) λus s1 ⟨vs,H1,I1,r1,q1⟩=>hc pins s1 σ H1 vs us Q I1 r1 q1) he FO
def da(hc:dN X (.type T) r)(hg:Gl X x)(hm:X.mg x=none)(hv:bootBuiltins x=some (.type T))(ha:PA X (e::es) t)(hn:x≠"__name__":=by decide)(hdb:(x==("__debug__":Str))=false:=by decide)
  (he:starEach (e::es) X.env=(false,eval e X.env)::starEach es X.env:=by rfl) (FO:(backTo pos<|starEach es X.env).any (·.1)=false:=by rfl):PE X (.Call (.Name x p) (e::es) [] pos) (fN r t):=by intro pins s σ H Q I h;refine Fd<|je I hg hm hv ?_ hn hdb;exact Bx (thn (ha pos pins s σ H _ I h) λus s1 ⟨vs,H1,I1,r1,q1⟩=>hc pins s1 σ H1 vs us Q I1 r1 q1) he FO
end
end L2
namespace HT
noncomputable def eN:Fl Int->Fl Int->Bool
 | [],[]=>false
 | [],_::_=>true
 |_::_,[]=>false
 |x::xs,y::ys=>if x=y then eN xs ys else decide (x<y)
def Zdm(x y:Int)(xs ys:D2):eN (x::xs) (y::ys)=if x=y then eN xs ys else decide (x<y):=rfl
def ZjT:eN [] []=false:=rfl
def ZjU(y:Int)(ys:D2):eN [] (y::ys)=true:=rfl
def ZjV(x:Int)(xs:D2):eN (x::xs) []=false:=rfl
def Zep(A:Fu)(s:Fp)(a:Int)(t:Tok)(c:Int)(u:Tok):∃e,SeqAt.EqAt A s (.int a t) (.int c u) e/\(e=true ↔ a=c) :=
 ⟨(a==c),SeqAt.EqAt.int_int a t c u,by simp⟩
def ZbY(A:Fu)(s:Fp)(a:Int)(t:Tok)(c:Int)(u:Tok)(prog:Fs)(w:Ft)(E:DZ)(Q:DZ)(h:Q (.bool<|decide (a<c)) s) :
  wpAny (model prog w) A (richCompare .Lt (.int a t)<|.int c u) Q E s :=
 (PyProof.Rows.lt_int h:wpAny (model prog w) A (compareOp .Lt (.int a t)<|.int c u) Q E s)
section
open PySem.SeqAt
open PySem.AutoSeq1 (wpAny_loadPart')
open PySem.MeetsSeq PySem.MeetsSeq2 PySem.MeetsSeq3
def ZgB(l b:Fq)(items items2:Array Fo)(n n2:Nat)(dd dd2:Fm Fq)(sl eJ:Array (Fm Fo))(ns ms:D2)(hi:IntsAre items.toList ns)(hj:IntsAre items2.toList ms) :
  Meets (Builtin.«tuple.__lt__» ⟨[.ref l,.ref b],[]⟩)
   (λ_ R s=>s.heap.get? l=some {cls:=.type "tuple",dict:=dd,data:=.seq items n,slots:=sl}/\s.heap.get? b=some {cls:=.type "tuple",dict:=dd2,data:=.seq items2 n2,slots:=eJ} /\
    R (.ok<|.ret<|.bool<|eN ns ms) s) :=
 .of_wp λprog w A R s h=>by
  obtain⟨hp,g,d,tk,os⟩:=s;obtain⟨hl,hb,h⟩:=h;have f2:=AutoSeq1.sub_tuple_tuple;have z1:items.size=ns.length:=by rw[<- hi.length];simp
  have z2:items2.size=ms.length:=by rw[<- hj.length];simp
  wp_walk using EB hl,EB hb,wpAny_forIn_list _ (λrest b s'=>b.1=none/\s'=⟨hp,g,d,tk,os⟩/\∃(vs ws:D3)(ns' ms':D2),rest=vs.zip ws /\
   IntsAre vs ns'/\IntsAre ws ms'/\ns'.length+items2.size=ms'.length+items.size/\R (.ok<|.ret<|.bool<|eN ns' ms') ⟨hp,g,d,tk,os⟩) _
  case turn =>
   rintro⟨y,x⟩ rest b s' ⟨FZ,rfl,vs,ws,ns',ms',hz,hvi,hwi,hlen,hR⟩;cases hvi with
   |nil=>rw[Dl]at hz;cases hz
   | cons a t hvi' =>
    cases hwi with
    |nil=>rw[List.zip_nil_right]at hz;cases hz
    | cons c u hwi' =>
     rw[A0]at hz;injection hz with hyx hrest;injection hyx with hy hx;subst hy hx;rw[Zdm]at hR;simp only[AE]at hlen;obtain⟨e,he,hiff⟩:=Zep A.in1 ⟨hp,g,d,tk,os⟩ a t c u;refine wp<|he prog w _ _ ?_;cases e with
     | true =>
      rw[Ed<|hiff.mp rfl]at hR
      wp_walk
      exact⟨rfl,rfl,_,_,_,_,hrest,hvi',hwi',by omega,hR⟩
     | false =>
      rw[Ef<|λq=>absurd (hiff.mpr q) AN]at hR;have hri:=ZbY A.in1 ⟨hp,g,d,tk,os⟩ a t c u prog w
      wp_walk using hri
      exact⟨_,rfl,by simpa using hR⟩
  case fin =>
   rintro⟨b1,b2⟩ s' ⟨FZ,rfl,vs,ws,ns',ms',hz,hvi,hwi,hlen,hR⟩;simp only at FZ;subst FZ;have hv:eN ns' ms'=decide (items.size<items2.size):=by
    cases hvi with
    | nil =>
     cases hwi with
     | nil =>
      simp only[Bm]at hlen;rw[ZjT];exact(Eb<|by omega).symm
     | cons c u hw =>
      simp only[Bm,AE]at hlen;rw[ZjU];exact(Ea<|by omega).symm
    | cons a t hv =>
     cases hwi with
     | nil =>
      simp only[Bm,AE]at hlen;rw[ZjV];exact(Eb<|by omega).symm
     | cons c u hw =>
      rw[A0]at hz;cases hz
   rw[hv]at hR
   wp_walk
   exact⟨_,rfl,by simpa [Builtin.Tuple.tupleCompareSizes]using hR⟩
  case h =>
   exact⟨rfl,rfl,items.toList,items2.toList,ns,ms,rfl,hi,hj,by omega,h⟩
end
section
variable{prog:Fs}{w:Ft}{A:Fu}{E:DZ}{s:Fp}
def ZjL{l b:Fq}{items items2:Array Fo}{ns ms:D2}{Q:DZ}(hl:IsTup s.heap l items)(hb:IsTup s.heap b items2)(hi:IntsAre items.toList ns)(hj:IntsAre items2.toList ms)
  (hu:A.units<cLine) (h:Q (.bool<|eN ns ms) s):wpAny (model prog w) A (compareOp .Lt (.ref l)<|.ref b) Q E s:=by
 obtain⟨⟨cls,dd,data,sl⟩,ho,hc,n,hd⟩:=id hl;obtain⟨⟨cls2,dd2,data2,eJ⟩,ho2,hc2,n2,hd2⟩:=id hb;simp only at hc hd hc2 hd2;subst hc hd hc2 hd2;exact richCompare_meets_room (op:=.Lt) ⟨_,ho,rfl⟩ ⟨_,ho2,rfl⟩ PySem.F.slot_tuple_lt PySem.F.entry_tuple_lt (DL _ _) (ZgB l b items items2 n n2 dd dd2 sl eJ ns ms hi hj)
  ⟨ho,ho2,show Value.bool (eN ns ms)≠Value.notImplemented/\Q (.bool<|eN ns ms) s from⟨(λx=>nomatch x),h⟩⟩ hu
def ZmN{t b:Fq}{vs ws:D3}{Q:DZ}(ht:IsTup s.heap t vs.toArray)(hb:IsTup s.heap b ws.toArray)(hv:vs≠[])
  (h1:ws=[]->Q (.ref t) s) (h2:ws≠[]->Q (.ref s.heap.objs.size) {s with heap:=s.heap.push {cls:=.type "tuple",data:=.seq (vs++ws).toArray} })
  (hsz:vs.length+ws.length<=sizeLine):wpAny (model prog w) A (binaryOp .Add (.ref t)<|.ref b) Q E s:=by
 obtain⟨⟨cls,dd,data,sl⟩,ho,hc,n,hd⟩:=id ht;obtain⟨⟨cls2,dd2,data2,eJ⟩,ho2,hc2,n2,hd2⟩:=id hb;simp only at hc hd hc2 hd2;subst hc hd hc2 hd2;have e:vs.toArray++ws.toArray=(vs++ws).toArray:=by simp
 by_cases hw:ws=[]
 ·exact concat_meets ⟨_,ho,rfl⟩ ⟨_,ho2,rfl⟩ Fj seq_tuple_add C3 C1 (CZ _ _)
   (tuple_addW1 t b vs.toArray ws.toArray n n2 dd dd2 sl eJ (by simpa using hv)<|by simp[hw]) ⟨ho,ho2,h1 hw⟩
 ·refine concat_meets ⟨_,ho,rfl⟩ ⟨_,ho2,rfl⟩ Fj seq_tuple_add C3 C1 (CZ _ _)
   (tuple_addW2 t b vs.toArray ws.toArray n n2 dd dd2 sl eJ (by simpa using hv) (by simpa using hw)<|by rw[AG,AG];exact hsz) ⟨ho,ho2,?_⟩
  rw[e];exact h2 hw
noncomputable def aR(n d:Nat):Fm Int->Nat
 |none=>d
 |some v=>if v<0 then (v+(n:Int)).toNat else min v.toNat n
def ZhQ(n d k:Nat):aR n d (some (k:Int))=min k n:=by
 show(if (k:Int)<0 then ((k:Int)+(n:Int)).toNat else min (k:Int).toNat n)=min k n
 rw[Ef<|by omega,AZ]
def ZhR(n d:Nat)(hd:d<=n)(o:Fm Int):aR n d o<=n:=by
 cases o with
 |none=>exact hd
 | some v =>
  show(if v<0 then (v+(n:Int)).toNat else min v.toNat n)<=n
  by_cases hv:v<0
  ·rw[Ed hv];omega
  ·rw[Ef hv];exact Dy _ _
def Ze1(v:Int)(n d:Nat):(if v<0 then max (v+(n:Int)) 0 else min v (n:Int))=((aR n d (some v):Nat):Int):=by
 show(if v<0 then max (v+(n:Int)) 0 else min v (n:Int))=(((if v<0 then (v+(n:Int)).toNat else min v.toNat n):Nat):Int)
 by_cases hv:v<0
 ·rw[Ed hv,Ed hv,Int.ofNat_toNat]
 ·rw[Ef hv,Ef hv];obtain⟨k,rfl⟩:=BM<|Int.not_lt.mp hv;rw[AZ,<- DK]
def ZnO(lo hi:Fm Int)(n:Nat):Builtin.Slice.sliceAdjust lo hi 1 (n:Int)=(((aR n 0 lo:Nat):Int),((aR n n hi:Nat):Int)):=by
 have h1:¬ ((1:Int)<0):=by omega
 unfold Builtin.Slice.sliceAdjust;simp only[h1,EJ];refine Prod.ext ?_ ?_
 ·cases lo with
  |none=>rfl
  |some v=>exact Ze1 v n 0
 ·cases hi with
  |none=>rfl
  |some v=>exact Ze1 v n n
def Ziz(i j:Nat):Builtin.Slice.slicePlaces (i:Int) (j:Int) 1=j-i:=by
 unfold Builtin.Slice.slicePlaces;have h1:(1:Int)>0:=by omega
 simp only[h1,EM,Int.ediv_one]
 split <;> omega
def ZaS{v:Fo}{o:Fm Int}{Q:Fm Int->Fp->Prop}(p:IsPart v o)(h:Q o s):wpAny (model prog w) A (Builtin.Slice.slicePartIndex v) Q E s:=by
 cases p with
 |none=>exact slicePart_none h
 |int i t=>exact slicePart_int h
def ZaU{sl:Fq}{vl vu:Fo}{lo hi:Fm Int}{n:Nat}{Q:Int×Int×Nat->Fp->Prop}(hs:s.heap.IsSliceOf sl vl vu .none)(pl:IsPart vl lo)(pu:IsPart vu hi)
  (h:Q (((aR n 0 lo:Nat):Int),1,aR n n hi-aR n 0 lo) s):wpAny (model prog w) A (Builtin.Slice.sliceApplied (.ref sl)<|pure (n:Int)) Q E s:=by
 obtain⟨os,hos,hcs,hds⟩:=id hs;unfold Builtin.Slice.sliceApplied Builtin.Slice.sliceFields;refine wp<|wp<|Em hos hds (x:=vl) rfl (wp<|Em hos hds (x:=vu) rfl (wp<|Em hos hds (x:=.none) rfl (D9 ?_)));refine wp<|slicePart_none ?_;show wpAny _ _ (if ((1:Int)==0)=true then _ else _) _ _ s
 rw[Ef<|by decide]
 refine wp<|ZaS pl<|wp<|ZaS pu<|wp<|D9 ?_;show wpAny _ _ (match Builtin.Slice.sliceAdjust lo hi 1 (n:Int) with|(lo,hi)=>pure (lo,(1:Int),Builtin.Slice.slicePlaces lo hi 1)) _ _ s
 rw[ZnO lo hi n];show wpAny _ _ (pure (((aR n 0 lo:Nat):Int),(1:Int),Builtin.Slice.slicePlaces ((aR n 0 lo:Nat):Int) ((aR n n hi:Nat):Int) 1)) _ _ s;rw[Ziz];exact D9 h
def ZiE(xs:Array Fo)(i k:Nat):((List.range k).filterMap λ(m:Nat)=>xs[((i:Int)+(m:Int)*1).toNat]?).toArray=((xs.toList.drop i).take k).toArray:=by
 have e:(λ(m:Nat)=>xs[((i:Int)+(m:Int)*1).toNat]?)=λm=>xs[i+m]?:=by
  funext m;have:((i:Int)+(m:Int)*1).toNat=i+m:=by omega
  rw[this]
 rw[e];have:=pick_run xs i k;rw[List.filterMap_map]at this;have e2:((λx=>xs[x]?) ∘ λx=>i+x)=λm=>xs[i+m]?:=rfl;rw[e2]at this;rw[this]
def ZkE{t sl:Fq}{items:Array Fo}{vl vu:Fo}{lo hi:Fm Int}{Q:DZ}(ht:IsTup s.heap t items)(hs:s.heap.IsSliceOf sl vl vu .none)(pl:IsPart vl lo)(pu:IsPart vu hi)
  (hw:¬ (aR items.size 0 lo=0/\aR items.size items.size hi=items.size))
  (h:Q (.ref s.heap.objs.size) {s with heap:=s.heap.push {cls:=.type "tuple",data:=.seq ((items.toList.drop<|aR items.size 0 lo).take<|aR items.size items.size hi-aR items.size 0 lo).toArray} })
  (hsz:items.size<=sizeLine):wpAny (model prog w) A (getItem (.ref t)<|.ref sl) Q E s:=by
 have htake:sizeOk (.seq ((items.toList.drop<|aR items.size 0 lo).take<|aR items.size items.size hi-aR items.size 0 lo).toArray):=by show((items.toList.drop<|aR items.size 0 lo).take<|aR items.size items.size hi-aR items.size 0 lo).toArray.size<=sizeLine;rw[AG,C2,Cn,B9];exact AJ (Dy _ _)<|AJ (Nat.sub_le _ _) hsz
 have hj:aR items.size items.size hi<=items.size:=ZhR _ _ (Aw _) hi;obtain⟨os,hos,hcs,hds⟩:=id hs;have hTs:s.TypeIs (.ref sl) "slice":=⟨os,hos,hcs⟩;unfold getItem
 try with_reducible refine Ej ?_
 first|refine wp (D9 ?_)|skip
 refine wp<|wpAny_sequenceKey ht.typeIs (by decide) ?_
 refine wp (Ek (name:=Str.ofString "__getitem__") ht.typeIs B1
  (El B1 ht.typeIs entry_tuple_getitem ?_<|args_tuple_getitem _ _))
 show wpAny _ _ (Builtin.Tuple.tupleItemsOf (.ref t) >>= _) _ _ s;refine wp<|tupleItemsOf_ ht ?_;refine wp<|ES hTs ?_;rw[Ed<|by decide]
 refine wp<|ZaU hs pl pu ?_;have hno:¬ ((((aR items.size 0 lo:Nat):Int)==0&&(1:Int)==1&&(aR items.size items.size hi-aR items.size 0 lo)==items.size)=true):=by intro q;rw[AT,AT]at q;have q1:((aR items.size 0 lo:Nat):Int)=0:=eq_of_beq q.1.1;have q2:aR items.size items.size hi-aR items.size 0 lo=items.size:=eq_of_beq q.2;exact hw ⟨by omega,by omega⟩
 show wpAny _ _ (if (((aR items.size 0 lo:Nat):Int)==0&&(1:Int)==1&&(aR items.size items.size hi-aR items.size 0 lo)==items.size)=true then _ else _) _ _ s
 rw[Ef hno,ZiE]
 first
  |exact wp (m:=Builtin.Tuple.tupleExact _) (Ee (D9 ⟨_,rfl,D9 h⟩) htake)
  |exact wp (m:=Builtin.Tuple.tupleExact _) (Ee (wp<|D9<|D9 ⟨_,rfl,D9 h⟩) htake)
  |exact wp (wp (m:=Builtin.Tuple.tupleExact _)<|Ee (D9<|D9 ⟨_,rfl,D9 h⟩) htake)
  |exact wp (wp (m:=Builtin.Tuple.tupleExact _)<|Ee (D9 ⟨_,rfl,D9 h⟩) htake)
end
end HT
namespace L2
abbrev TO:=St->Hp->(Fm Int->Hp->Prop)->Prop
def PO(X:Cx)(e:Fm Fw)(t:TO):Prop :=
 ∀(pins:Fl (Fq×Obj))(s:Fp)(σ:St)(H:Hp)(Q:Fm Int->Hp->Prop),Inv X pins σ H s->t σ H Q ->
  wpAny (model X.prog X.w) X.A (evalPart e X.env) (λu s'=>∃o H',Inv X pins σ H' s'/\IsPart u o/\Q o H') X.xe s
def ZgS:TO:=λ_ H Q=>Q none H
def ZgO(t:TE):TO:=λσ H Q=>t σ H λx H1=>∃i,x=.int i/\Q (some i) H1
def yH{ns:D2}:∀{us:D3},Vals (ns.map V.int) us->IntsAre us ns:=by
 induction ns with
 |nil=>intro us r;rw[BO]at r;cases r;exact .nil
 | cons n ns ih =>
  intro us r;rw[Ax]at r;cases r with
  | cons r1 r2 =>
   obtain⟨t,e⟩:=r1;subst e;exact .cons n t<|ih r2
section
variable{X:Cx}{e:Fw}{te:TE}{lo hi:Fm Fw}{tl th:TO}{pos p2:Pos}
def ZcF:PO X none ZgS:=by intro pins s σ H Q I h;rw[evalPart_none];exact D9 ⟨none,H,I,.none,h⟩
def ZcE(h:PE X e te):PO X (some e) (ZgO te):=by intro pins s σ H Q I hw;rw[evalPart_some];refine thn (h pins s σ H _ I hw) λu s1 Fy=>?_;obtain⟨x,H1,I1,r1,q1⟩:=Fy;obtain⟨i,rfl,q⟩:=q1;obtain⟨t,rfl⟩:=r1;exact⟨some i,H1,I1,.int i t,q⟩
def SlR(X:Cx)(r:V->Fm Int->Fm Int->Hp->VK->Prop):Prop :=
 ∀(pins:Fl (Fq×Obj))(s:Fp)(σ:St)(H:Hp)(x:V)(v vl vu:Fo)(lo hi:Fm Int)(sl:Fq)(Q:VK),Inv X pins σ H s->RelV x v->s.heap.IsSliceOf sl vl vu .none->IsPart vl lo->IsPart vu hi->r x lo hi H Q ->
  ∃T id,typeLookup (.type T) "__getitem__"=pure (some<|.builtin id)/\s.TypeIs v T/\wpAny (model X.prog X.w) X.A (getItem v<|.ref sl) (EP X pins σ Q) X.xe s
def SlR.or{r r':V->Fm Int->Fm Int->Hp->VK->Prop}(h:SlR X r)(h':SlR X r'):SlR X (λx lo hi H Q=>r x lo hi H Q\/r' x lo hi H Q):=by
 intro pins s σ H x v vl vu lo hi sl Q I rx hs pl pu q;rcases q with q|q
 ·exact h pins s σ H x v vl vu lo hi sl Q I rx hs pl pu q
 ·exact h' pins s σ H x v vl vu lo hi sl Q I rx hs pl pu q
def tSl(r:V->Fm Int->Fm Int->Hp->VK->Prop)(te:TE)(tl th:TO):TE:=λσ H Q=>te σ H λx H1=>tl σ H1 λl H2=>th σ H2 λu H3=>r x l u H3 Q
def ZcK{r:V->Fm Int->Fm Int->Hp->VK->Prop}(hr:SlR X r)(he:PE X e te)(hl:PO X lo tl)(hu:PO X hi th):PE X (.Subscript e (.Slice lo hi none p2) pos) (tSl r te tl th):=by intro pins s σ H Q I h;refine Subscript_ (thn (he pins s σ H _ I h) λv s1 Fy=>?_);obtain⟨x,H1,I1,r1,q1⟩:=Fy;refine wpAny_Slice (thn (hl pins s1 σ H1 _ I1 q1) λvl s2 ⟨l,H2,I2,pl,q2⟩=>thn (hu pins s2 σ H2 _ I2 q2) λvu s3 Fy=>?_);obtain⟨u,H3,I3,pu,q3⟩:=Fy;rw[evalPart_none];refine D9 ?_;have I4:Inv X pins σ H3 {s3 with heap:=s3.heap.push {cls:=.type "slice",data:=.fields #[vl,vu,.none]} }:=I3.kept (t':=s3.toks) λb ob q=>v9 _ q;obtain⟨T,id,hT,ht,hg⟩:=hr pins {s3 with heap:=s3.heap.push {cls:=.type "slice",data:=.fields #[vl,vu,.none]} } σ H3 x v vl vu l u s3.heap.objs.size Q I4 r1 (Heap.IsSliceOf.new ..) pl pu q3;show wpAny (model X.prog X.w) X.A (subscriptTail e (.Slice lo hi none p2) v<|.ref s3.heap.objs.size) (EP X pins σ Q) X.xe {s3 with heap:=s3.heap.push {cls:=.type "slice",data:=.fields #[vl,vu,.none]} };exact tail_any (ops:=[.ref s3.heap.objs.size,v]) ht hT hg<|by with_unfolding_all rfl
def gk(xs:D5)(lo hi:Fm Int):D5:=(xs.drop<|HT.aR xs.length 0 lo).take<|HT.aR xs.length xs.length hi-HT.aR xs.length 0 lo
def ZeZ(xs:D5)(lo hi:Fm Int):(gk xs lo hi).length<=xs.length:=by unfold gk;rw[C2,Cn];exact AJ (Dy _ _)<|Nat.sub_le _ _
def Zb6(K:DQ):V->Fm Int->Fm Int->Hp->VK->Prop:=λx lo hi H Q=>∃a xs,x=.ref a/\SqT K H a xs /\
 ¬ (HT.aR xs.length 0 lo=0/\HT.aR xs.length xs.length hi=xs.length)/\∀p,H p=none->Q (.ref p) (upd H p<|.tup<|gk xs lo hi)
def Zhj:SlR X (Zb6 X.K):=by
 intro pins s σ H x v vl vu lo hi sl Q I rx hs pl pu h;obtain⟨a,xs,rfl,hx,hw,q⟩:=h;cases rx;obtain⟨Fz,r,ht,hz⟩:=I.tuple hx;have hlen:Fz.toArray.size=xs.length:=by rw[AG];exact r.length.symm
 refine⟨"tuple",_,PyProof.Rows.slot_tuple_getitem.lookup,ht.typeIs,?_⟩;refine HT.ZkE ht hs pl pu (by rw[hlen];exact hw) ?_<|by rw[hlen];exact hz
 rw[hlen];refine⟨.ref s.heap.objs.size,_,I.laid (t':=s.toks) (o:=.tup<|gk xs lo hi) (λb ob q=>v9 _ q) (Aw _) ?_,rfl,q _<|I.hok.fresh<|Aw _⟩;exact⟨AJ (ZeZ xs lo hi) hz,_,(r.drop<|HT.aR xs.length 0 lo).take<|HT.aR xs.length xs.length hi-HT.aR xs.length 0 lo,IsTup.new _ _⟩
def Zcn(K:DQ):R2:=λx y H Q=>∃a b xs ys,x=.ref a/\y=.ref b/\SqT K H a xs/\SqT K H b ys/\xs≠[]/\xs.length+ys.length<=sizeLine /\
 (ys=[]->Q (.ref a) H)/\(ys≠[]->∀p,H p=none->Q (.ref p) (upd H p<|.tup<|xs++ys))
def Vals.nil_iff{xs:D5}{us:D3}(r:Vals xs us):us=[] ↔ xs=[]:=by
 cases r with
 |nil=>simp
 |cons _ _=>simp
def Zjf:OpR X (binaryOp .Add) (Zcn X.K):=by
 intro pins s σ H x y v u Q I rx ry h;obtain⟨a,b,xs,ys,rfl,rfl,ha,hb,hx,hz,q1,q2⟩:=h;cases rx;cases ry;obtain⟨Fz,r1,p1,_⟩:=I.tuple ha;obtain⟨its2,r2,p2,_⟩:=I.tuple hb;refine HT.ZmN p1 p2 (λz=>hx<|r1.nil_iff.mp z) (λz=>⟨.ref a,H,I,rfl,q1<|r2.nil_iff.mp z⟩) (λz=>?_)<|by rw[<- r1.length,<- r2.length];exact hz
 refine⟨.ref s.heap.objs.size,_,I.laid (t':=s.toks) (o:=.tup<|xs++ys) (λb ob q=>v9 _ q) (Aw _) ?_,rfl,q2 (λw=>z<|r2.nil_iff.mpr w) _<|I.hok.fresh<|Aw _⟩;exact⟨by rw[AQ];exact hz,_,r1.append r2,IsTup.new _ _⟩
end
noncomputable def cy(n:Nat)(i:Int):Fm Nat:=if 0<=i then (if i<n then some i.toNat else none)else if -(n:Int)<=i then some (i+n).toNat else none
def bG{α:Type}(xs:Fl α)(i:Int):Fm α:=(cy xs.length i).bind λj=>xs[j]?
def qt{n:Nat}{i:Int}{j:Nat}(h:cy n i=some j):seqIndex? i n=some j/\j<n/\-(n:Int)<=i/\i<n:=by
 unfold cy at h;by_cases h0:0<=i
 ·rw[Ed h0]at h;by_cases h1:i<n
  ·rw[Ed h1]at h;have e:i.toNat=j:=A8 h;exact⟨by rw[seqIndex_of h0 h1,e],by omega,by omega,h1⟩
  ·rw[Ef h1]at h;cases h
 ·rw[Ef h0]at h;by_cases h1:-(n:Int)<=i
  ·rw[Ed h1]at h;have e:(i+n).toNat=j:=A8 h;exact⟨by rw[seqIndex_neg (by omega) h1,e],by omega,h1,by omega⟩
  ·rw[Ef h1]at h;cases h
def zP{α:Type}{xs:Fl α}{i:Int}{v:α}(h:bG xs i=some v):∃j,seqIndex? i xs.length=some j/\xs[j]?=some v/\j<xs.length/\-(xs.length:Int)<=i/\i<xs.length:=by
 unfold bG at h;cases e:cy xs.length i with
 |none=>rw[e]at h;cases h
 | some j =>
  rw[e]at h;obtain⟨h1,h2,h3,h4⟩:=qt e;exact⟨j,h1,h,h2,h3,h4⟩
def gC{α:Type}{xs:Fl α}{j:Nat}{v:α}(h:xs[j]?=some v):bG xs (j:Int)=some v:=by
 have hj:j<xs.length:=(Ay.mp h).1;have e:cy xs.length (j:Int)=some j:=by unfold cy;rw[Ed<|by omega,Ed<|by omega];simp
 unfold bG;rw[e];exact h
def An(b:Fw):Prop:=∀o i,subscripted b false o i=operate [o,i] (getItem o i)
def IxR(X:Cx)(r:R2):Prop :=
 ∀(value slice:Fw)(pins:Fl (Fq×Obj))(s:Fp)(σ:St)(H:Hp)(x y:V)(v u:Fo)(Q:VK),Inv X pins σ H s->RelV x v->RelV y u->r x y H Q ->
  subscripted slice false v u=operate [v,u] (getItem v u)->wpAny (model X.prog X.w) X.A (subscriptTail value slice v u) (EP X pins σ Q) X.xe s
def MtR(X:Cx)(id:String)(r:V->Fl V->Hp->VK->Prop):Prop :=
 ∀(pins:Fl (Fq×Obj))(s:Fp)(σ:St)(H:Hp)(x:V)(xs:D5)(v:Fo)(us:D3)(Q:VK),Inv X pins σ H s->RelV x v->Vals xs us->r x xs H Q ->
  wpAny (model X.prog X.w) X.A (call (.builtin id) (v::us)) (EP X pins σ Q) X.xe s
section
variable{X:Cx}{a b:Fw}{ta tb:TE}{pos:Pos}
def IxR.or{r r':R2}(h:IxR X r)(h':IxR X r'):IxR X (λx y H Q=>r x y H Q\/r' x y H Q):=by
 intro value slice pins s σ H x y v u Q I rx ry q hs;rcases q with q|q
 ·exact h value slice pins s σ H x y v u Q I rx ry q hs
 ·exact h' value slice pins s σ H x y v u Q I rx ry q hs
def gv{r:R2}(hr:IxR X r)(ha:PE X a ta)(hb:PE X b tb)(hs:An b):PE X (.Subscript a b pos) (kr r ta tb):=by intro pins s σ H Q I h;exact Subscript_<|zN ha hb I h λv u s2 x y H2 I2 rx ry q=>hr a b pins s2 σ H2 x y v u Q I2 rx ry q<|hs _ _
def xI(K:DQ):R2:=λx y H Q=>∃p xs i v,x=.ref p/\y=.int i/\SqL K H p xs/\bG xs i=some v/\Q v H
def Zch(K:DQ):R2:=λx y H Q=>∃p xs i v,x=.ref p/\y=.int i/\SqT K H p xs/\bG xs i=some v/\Q v H
def Zci:R2:=λx y H Q=>∃z i c,x=.str z/\y=.int i/\z.length<=sizeLine/\bG z.cps.toList i=some c/\Q (.str ⟨#[c]⟩) H
def gy:IxR X (xI X.K):=by
 intro value slice pins s σ H x y v u Q I rx ry h hs;obtain⟨p,xs,i,z,rfl,rfl,hq,he,q⟩:=h;cases rx;obtain⟨t,rfl⟩:=ry;obtain⟨Fz,r,pl,hz⟩:=I.list hq;obtain⟨j,h1,h2,h3,h4,h5⟩:=zP he;obtain⟨w,ew,rw'⟩:=r.get h2;have hl:=r.length;have hn:=jU;have fin:EP X pins σ Q w s:=⟨z,H,I,rw',q⟩;by_cases h0:0<=i
 ·have hj:i.toNat=j:=by rw[seqIndex_of h0 h5]at h1;exact A8 h1
  exact item_listR pl.isList h0 (by omega) (by rw[hj];simpa using ew) fin hs
 ·have hj:(i+(Fz.toArray.size:Int)).toNat=j:=by
   rw[seqIndex_neg (by omega) h4]at h1
   rw[AG,<- hl];exact A8 h1
  exact subscriptTail_builtinR (x:=w) pl.isList.typeIs slot_list_getitem.lookup
   (wpAny_getItem_list_neg (Q:=λr s'=>r=w/\EP X pins σ Q r s') pl.isList (by omega) (by rw[AG] <;> omega) (by omega) (by rw[hj];simpa using ew) ⟨rfl,fin⟩) hs
def Zkp:IxR X (Zch X.K):=by
 intro value slice pins s σ H x y v u Q I rx ry h hs;obtain⟨p,xs,i,z,rfl,rfl,hq,he,q⟩:=h;cases rx;obtain⟨t,rfl⟩:=ry;obtain⟨Fz,r,pl,hz⟩:=I.tuple hq;obtain⟨j,h1,h2,h3,h4,h5⟩:=zP he;obtain⟨w,ew,rw'⟩:=r.get h2;have hl:=r.length;have hn:=jU;have fin:EP X pins σ Q w s:=⟨z,H,I,rw',q⟩;exact subscriptTail_builtinR (x:=w) pl.typeIs slot_tuple_getitem.lookup
  (getItem_tuple (j:=j) (Q:=λr s'=>r=w/\EP X pins σ Q r s') pl (by omega) (by omega) (by rw[AG,<- hl];exact h1) (by simpa using ew) ⟨rfl,fin⟩) hs
def Zkq:IxR X Zci:=by
 intro value slice pins s σ H x y v u Q I rx ry h hs;obtain⟨z,i,c,rfl,rfl,hz,he,q⟩:=h;obtain⟨t,rfl⟩:=rx;obtain⟨t',rfl⟩:=ry;obtain⟨j,h1,h2,h3,h4,h5⟩:=zP he;have hl:z.cps.toList.length=z.length:=by simp[Str.length]
 rw[hl]at h1 h4 h5;have hn:=jU;exact tail_any (typeIs_str s z t) slot_str_getitem.lookup (getItem_str (c:=c) (by
  have e1:decide (i < -(2^63:Int))=false:=Eb (by omega)
  have e2:decide (i≥2^63)=false:=Eb (by omega)
  rw[e1,e2,Dk]) (by rw[h1];simpa using h2) ⟨.str ⟨#[c]⟩,H,I.tok _,⟨_,rfl⟩,q⟩) hs
def rIx(K:DQ):R2:=λx y H Q=>xI K x y H Q\/Zch K x y H Q\/Zci x y H Q
def az:IxR X (rIx X.K):=gy.or<|Zkp.or Zkq
def ZjK(Fz:D3)(n j:Nat)(u:Fo):Obj.mapSeq (·.setIfInBounds j u) {cls:=.type "list",data:=.seq Fz.toArray n}={cls:=.type "list",data:=.seq (Fz.set j u).toArray n}:=by simp[Obj.mapSeq]
theorem Inv.lst{pins:Fl (Fq×Obj)}{σ:St}{H:Hp}{s:Fp}{p:Fq}{xs:D5}(I:Inv X pins σ H s)(h:H p=some (.lst xs)) :
  ∃(Fz:D3)(n:Nat),Vals xs Fz/\s.heap.get? p=some {cls:=.type "list",data:=.seq Fz.toArray n}/\xs.length<=sizeLine:=by obtain⟨z,Fz,n,r,e⟩:=I.hok p _ h;exact⟨Fz,n,r,e,z⟩
def Inv.lstUpd{pins:Fl (Fq×Obj)}{σ:St}{H:Hp}{s:Fp}{p:Fq}{xs ys:D5}{Fz its':D3}{n n':Nat}{f:Obj->Obj}(I:Inv X pins σ H s)(h:H p=some (.lst xs))
  (ho:s.heap.get? p=some {cls:=.type "list",data:=.seq Fz.toArray n}) (hf:f {cls:=.type "list",data:=.seq Fz.toArray n}={cls:=.type "list",data:=.seq its'.toArray n'}) (r:Vals ys its') (hz:ys.length<=sizeLine) (t:Nat) :
  Inv X pins σ (upd H p<|.lst ys) {s with heap:=s.heap.update p f,toks:=t}:=by
 have e:(s.heap.update p f).get? p=some {cls:=.type "list",data:=.seq its'.toArray n'}:=by rw[BK f ho<|by rw[hf] <;> rfl,hf]
 refine I.write (x:=p) (e:=p) (by rw[h];trivial) (.inl rfl) (λb u hb q=>(Bn _ _<|Ne.symm hb).trans q) ⟨_,e⟩ ?_
 exact⟨hz,its',n',r,e⟩
def xH:V->V->V->Hp->(Hp->Prop)->Prop:=λo i v H Q=>∃p xs k j,o=.ref p/\i=.int k/\H p=some (.lst xs)/\cy xs.length k=some j/\Q (upd H p<|.lst<|xs.set j v)
def mf:Zf3 X xH:=by
 intro pins s σ H o i v ov iv u Q I ro ri rv h;obtain⟨p,xs,k,j,rfl,rfl,hp,hj,q⟩:=h;cases ro;obtain⟨t,rfl⟩:=ri;obtain⟨Fz,n,r,ho,hz⟩:=I.lst hp;obtain⟨h1,h2,h3,h4⟩:=qt hj;have hl:=r.length;have hn:=jU;have I':Inv X pins σ (upd H p<|.lst<|xs.set j v) {s with heap:=s.heap.update p (Obj.mapSeq (·.setIfInBounds j u))} :=
  I.lstUpd hp ho (ZjK Fz n j u) (r.set rv j) (by rw[A1];exact hz) s.toks
 by_cases h0:0<=k
 ·have hk:k.toNat=j:=by rw[seqIndex_of h0 h4]at h1;exact A8 h1
  exact PySem.W.ki_setAt ho h0 (by omega) (by rw[AG,<- hl];exact h4)<|by rw[hk];exact⟨_,I',q⟩
 ·have hk:(k+(Fz.toArray.size:Int)).toNat=j:=by
   rw[seqIndex_neg (by omega) h3]at h1
   rw[AG,<- hl];exact A8 h1
  exact PySem.W.ki_setBack ho (by omega) (by rw[AG,<- hl];exact h3) (by omega)<|by rw[hk];exact⟨_,I',q⟩
def ZeX{n:Nat}{i:Int}(h:i<0):max 0 (min (i+(n:Int)) n)=(((i+n).toNat:Nat):Int):=by rw[Int.min_eq_left<|by omega,Int.ofNat_toNat,Int.max_comm]
def ZeY{n:Nat}{i:Int}(h:¬ i<0):max 0 (min i (n:Int))=((min i.toNat n:Nat):Int):=by obtain⟨k,rfl⟩:=BM<|Int.not_lt.mp h;rw[AZ,<- DK];exact Int.max_eq_right<|Int.natCast_nonneg _
def Zhg(lo hi:Fm Int)(n:Nat):(sliceBounds lo hi none n).1=((HT.aR n 0 lo:Nat):Int)/\(sliceBounds lo hi none n).2.1=((HT.aR n n hi:Nat):Int)/\(sliceBounds lo hi none n).2.2=1:=by
 refine⟨?_,?_,rfl⟩
 ·cases lo with
  |none=>simp[sliceBounds,HT.aR]
  | some i =>
   simp only[sliceBounds,HT.aR,Option.getD_none,show(1:Int)>0 by decide,EM]
   by_cases h:i<0
   ·simp only[h,EM];exact ZeX h
   ·simp only[h,EJ];exact ZeY h
 ·cases hi with
  |none=>simp[sliceBounds,HT.aR]
  | some i =>
   simp only[sliceBounds,HT.aR,Option.getD_none,show(1:Int)>0 by decide,EM]
   by_cases h:i<0
   ·simp only[h,EM];exact ZeX h
   ·simp only[h,EJ];exact ZeY h
def Zhh(Fz:D3)(lo hi:Fm Int):slicePick Fz.toArray lo hi none=((Fz.drop<|HT.aR Fz.length 0 lo).take<|HT.aR Fz.length Fz.length hi-HT.aR Fz.length 0 lo).toArray:=by obtain⟨h1,h2,h3⟩:=Zhg lo hi Fz.toArray.size;unfold slicePick;rw[h1,h2,h3];simp only[sliceRange_one,pick_run,AG] <;> rfl
def Zb7(K:DQ):V->Fm Int->Fm Int->Hp->VK->Prop:=λx lo hi H Q=>∃a xs,x=.ref a/\SqL K H a xs/\∀p,H p=none->Q (.ref p) (upd H p<|.lst<|gk xs lo hi)
def ZaV:SlR X (Zb7 X.K):=by
 intro pins s σ H x v vl vu lo hi sl Q I rx hs pl pu h;obtain⟨a,xs,rfl,hx,q⟩:=h;cases rx;obtain⟨Fz,r,ht,hz⟩:=I.list hx;have hlen:=r.length;refine⟨"list",_,slot_list_getitem.lookup,ht.isList.typeIs,?_⟩;refine wpAny_getItem_list_slice ht.isList hs pl pu .none (by simp) ?_<|by rw[AG] <;> omega
 rw[Zhh,<- hlen];refine⟨.ref s.heap.objs.size,_,I.laid (t':=s.toks) (o:=.lst<|gk xs lo hi) (λb ob q=>v9 _ q) (Aw _) ?_,rfl,q _<|I.hok.fresh<|Aw _⟩;exact⟨AJ (ZeZ xs lo hi) hz,_,0,(r.drop<|HT.aR xs.length 0 lo).take<|HT.aR xs.length xs.length hi-HT.aR xs.length 0 lo,AC _ rfl⟩
def cI:dN X (.builtin "len") (λxs H Q=>∃p ys,xs=[.ref p]/\(SqL X.K H p ys\/SqT X.K H p ys)/\Q (.int ys.length) H):=by
 intro pins s σ H xs us Q I r h;obtain⟨p,ys,rfl,hq,q⟩:=h;obtain⟨u,rfl,rx⟩:=eB r;cases rx;have hn:=jU;rcases hq with hq|hq
 ·obtain⟨Fz,r',pl,hz⟩:=I.list hq;have hlen:=r'.length;exact Calls.call_len_list pl.isList (by simp only[AG] <;> omega) ⟨.int ys.length,H,I.tok _,⟨s.toks+1,by rw[AG,hlen]⟩,q⟩
 ·obtain⟨Fz,r',pl,hz⟩:=I.tuple hq;have hlen:=r'.length;exact len_tuple pl (by simp only[AG] <;> omega) ⟨.int ys.length,H,I.tok _,⟨s.toks+1,by rw[AG,hlen]⟩,q⟩
def vK:dN X (.type "list") (λxs H Q=>∃p ys,xs=[.ref p]/\(SqL X.K H p ys\/SqT X.K H p ys)/\∀l,H l=none->Q (.ref l) (upd H l<|.lst ys)):=by
 intro pins s σ H xs us Q I r h;obtain⟨p,ys,rfl,hq,q⟩:=h;obtain⟨u,rfl,rx⟩:=eB r;cases rx;have fin:∀(Fz:D3),Vals ys Fz->ys.length<=sizeLine->∀(h':Fv)(c':Nat),(∀b o',s.heap.get? b=some o'->h'.get? b=some o') ->
   h'.get? s.heap.objs.size=some {cls:=.type "list",dict:=none,data:=.seq Fz.toArray c',slots:=#[]}->EP X pins σ Q (.ref s.heap.objs.size) {s with heap:=h'}:=λFz r' hz h' c' kp e =>
  ⟨.ref s.heap.objs.size,_,I.laid (t':=s.toks) kp (Aw _)<|show ObjOk X.prog X.w _ h' _ (.lst ys)from⟨hz,Fz,c',r',e⟩,rfl,q _<|I.hok.fresh<|Aw _⟩
 rcases hq with hq|hq
 ·obtain⟨Fz,r',pl,hz⟩:=I.list hq;have hlen:=r'.length;obtain⟨o,ho,hc,n,hd⟩:=pl.isList;exact call_list_seq p (.inl rfl) ho hc hd (λh' c' kp e=>fin Fz r' hz h' c' kp e)<|by simp only[AG] <;> omega
 ·obtain⟨Fz,r',pl,hz⟩:=I.tuple hq;have hlen:=r'.length;obtain⟨o,ho,hc,n,hd⟩:=pl;exact call_list_seq p (.inr rfl) ho hc hd (λh' c' kp e=>fin Fz r' hz h' c' kp e)<|by simp only[AG] <;> omega
def jq:dN X (.type "tuple") (λxs H Q=>∃p ys,xs=[.ref p]/\((SqL X.K H p ys/\∀l,H l=none->Q (.ref l) (upd H l<|.tup ys))\/(SqT X.K H p ys/\Q (.ref p) H))):=by
 intro pins s σ H xs us Q I r h;obtain⟨p,ys,rfl,h⟩:=h;obtain⟨u,rfl,rx⟩:=eB r;cases rx;rcases h with ⟨hq,q⟩|⟨hq,q⟩
 ·obtain⟨Fz,r',pl,hz⟩:=I.list hq;have hlen:=r'.length;refine call_tuple_list pl.isList (λh' kp=>?_) (by simp only[AG] <;> omega)
  have I1:Inv X pins σ H {s with heap:=h'}:=I.kept (t':=s.toks) kp;have I2:Inv X pins σ (upd H h'.objs.size<|.tup ys) {s with heap:=h'.push {cls:=.type "tuple",data:=.seq Fz.toArray} } :=
   I1.laid (t':=s.toks) (λb o e=>v9 _ e) (Aw _) (show ObjOk X.prog X.w _ _ _ (.tup ys)from⟨hz,Fz,r',IsTup.new _ _⟩)
  exact⟨.ref h'.objs.size,_,I2,rfl,q _<|I1.hok.fresh<|Aw _⟩
 ·obtain⟨Fz,r',pl,hz⟩:=I.tuple hq;exact call_tuple_same pl ⟨.ref p,H,I,rfl,q⟩
def wJ(K:DQ)(T:String)(x:V)(H:Hp):Prop:=match x with
 |.str _=>T="str"
 |.int _=>T="int"
 | .ref p=>(T="list"/\∃xs,SqL K H p xs)\/(T="tuple"/\∃o,K.lookup p=some o/\o.cls=.type "tuple"/\o.dict=none) \/
   (T="dict"/\((∃kvs,H p=some (.dK kvs))\/∃kvs,H p=some (.dT kvs)))\/(T="set"/\∃S n,H p=some (.set S n))
 |_=>False
def Zaq{pins:Fl (Fq×Obj)}{σ:St}{H:Hp}{s:Fp}{T:String}{x:V}{v:Fo}(I:Inv X pins σ H s)(r:RelV x v)(ty:wJ X.K T x H) :
  s.TypeIs v T/\∀a,v=.ref a->∃ob,s.heap.get? a=some ob/\ob.dict=none:=by
 cases x with
 | str z =>
  obtain⟨t,rfl⟩:=r;cases (show T="str" from ty)
  exact⟨typeIs_str s z t,λ_ e=>nomatch e⟩
 | int i =>
  obtain⟨t,rfl⟩:=r;cases (show T="int" from ty)
  exact⟨Fh s i t,λ_ e=>nomatch e⟩
 | ref p =>
  cases r;rcases ty with ⟨rfl,xs,hq⟩|⟨rfl,o,hk,hc,hd⟩|⟨rfl,hk⟩|⟨rfl,S,n,hk⟩
  ·obtain⟨Fz,_,pl,_⟩:=I.list hq;refine⟨pl.isList.typeIs,λa e=>?_⟩;cases e;obtain⟨o,n,e,c,hd,_⟩:=pl;exact⟨o,e,hd⟩
  ·refine⟨⟨o,I.kIn p o hk,hc⟩,λa e=>?_⟩;cases e;exact⟨o,I.kIn _ o hk,hd⟩
  ·have z:∃o,s.heap.get? p=some o/\o.ExactDict:=by
    rcases hk with ⟨kvs,hk⟩|⟨kvs,hk⟩
    ·obtain⟨_,_,_,_,o,_,_,e,ex,_⟩:=I.hok p _ hk;exact⟨o,e,ex⟩
    ·obtain⟨_,_,_,_,o,_,_,e,ex,_⟩:=I.hok p _ hk;exact⟨o,e,ex⟩
   obtain⟨o,e,ex⟩:=z;refine⟨⟨o,e,ex.1⟩,λa e2=>?_⟩;cases e2;exact⟨o,e,ex.2.1⟩
  ·obtain⟨o,_,_,_,e,ex,_⟩:=I.hok p _ hk;refine⟨⟨o,e,ex.1⟩,λa e2=>?_⟩;cases e2;exact⟨o,e,ex.2.1⟩
 |_=>exact False.elim ty
def ZaG(K:DQ)(T:String)(r:V->Fl V->Hp->VK->Prop)(to:TE):TE:=λσ H Q=>to σ H λx H1=>wJ K T x H1/\r x [] H1 Q
def tBM(K:DQ)(T:String)(r:V->Fl V->Hp->VK->Prop)(to:TE)(t:TA):TE:=λσ H Q=>to σ H λx H1=>wJ K T x H1/\t σ H1 λxs H2=>r x xs H2 Q
variable{o e:Fw}{es:Fl Fw}{to:TE}{t:TA}{name:Str}{apos cpos:Pos}{T id:String}{r:V->Fl V->Hp->VK->Prop}
def ZiZ(pa:PlainAttrs T)(slot:Slot T name id)(hty:typeOf (.builtin id)=pure (.type "method_descriptor"))(hm:MtR X id r)(ho:PE X o to)
  (hbase:attributeBase o name X.env (eval o X.env)=eval o X.env:=by rfl) (hline:(apos.endLine==cpos.line)=true:=by rfl):PE X (.Call (.Attribute o name apos) [] [] cpos) (ZaG X.K T r to):=by intro pins s σ H Q I h;refine wpAny_Call_method0_late hbase hline (thn (ho pins s σ H _ I h) λv s1 Fy=>?_);obtain⟨x,H1,I1,r1,ty,q1⟩:=Fy;obtain⟨h1,h2⟩:=Zaq I1 r1 ty;exact⟨T,id,pa,slot,hty,h1,h2,Calls.callWith_builtin rfl (PySem.evalArgs_none<|hm pins s1 σ H1 x [] v [] Q I1 r1 .nil q1)⟩
noncomputable def x5(pa:PlainAttrs T)(slot:Slot T name id)(hty:typeOf (.builtin id)=pure (.type "method_descriptor"))(hm:MtR X id r)(ho:PE X o to)(ha:PA X (e::es) t)
  (hbase:attributeBase o name X.env (eval o X.env)=eval o X.env:=by rfl)
  (hfew:((backTo cpos<|starEach (e::es) X.env).all (λx=>!x.1)&&(backToKw cpos<|keywordEach [] X.env).all (λx=>x.1.isSome)
   && decide ((e::es).length+([]:Fl Keyword).length+(if ([]:Fl Keyword).isEmpty then 0 else 1)<30))=true:=by rfl)
  (hline:(apos.endLine==cpos.line)=true:=by rfl) (hs:starEach (e::es) X.env=(false,eval e X.env)::starEach es X.env:=by rfl) (hplain:(backTo cpos<|starEach es X.env).any (·.1)=false:=by rfl) :
  PE X (.Call (.Attribute o name apos) (e::es) [] cpos) (tBM X.K T r to t):=by
 intro pins s σ H Q I h;refine wpAny_Call_method_late hbase hfew hline rfl (thn (ho pins s σ H _ I h) λv s1 Fy=>?_);obtain⟨x,H1,I1,r1,ty,q1⟩:=Fy;obtain⟨h1,h2⟩:=Zaq I1 r1 ty;refine⟨T,id,pa,slot,hty,h1,h2,?_⟩;have hA:=ha cpos pins s1 σ H1 _ I1 q1;rw[hs]at hA ⊢;refine Calls.callWith_builtin (by show(false || (backTo cpos<|starEach es X.env).any (·.1))=false;rw[hplain] <;> rfl)<|Calls.evalArgs_plain ?_
 exact thn hA λus s2 Fy=>by obtain⟨vs,H2,I2,r2,q2⟩:=Fy;exact hm pins s2 σ H2 x vs v us Q I2 r1 r2 q2
end
def MtM(X:Cx)(id:String)(r:V->Fl V->Hp->VK->Prop):Prop :=
 ∀(pins:Fl (Fq×Obj))(s:Fp)(σ:St)(H:Hp)(x:V)(xs:D5)(v:Fo)(us:D3)(Q:VK),Inv X pins σ H s->RelV x v->Vals xs us->r x xs H Q ->
  wpAny (model X.prog X.w) X.A (call (.builtin id) (v::us)) (EP X pins σ Q) X.xe s
def Vals.one{x:V}{us:D3}(h:Vals [x] us):∃u,us=[u]/\RelV x u:=by
 cases h with
 |cons r t=>cases t;exact⟨_,rfl,r⟩
def Vals.two:∀{x y:V}{us:D3},Vals [x,y] us->∃u v,us=[u,v]/\RelV x u/\RelV y v
 |_,_,_,.cons r (.cons q .nil)=>⟨_,_,rfl,r,q⟩
def Vals.zero:∀{us:D3},Vals [] us->us=[]
 |_,.nil=>rfl
theorem Vals.reverse{xs:D5}{us:D3}(h:Vals xs us):Vals xs.reverse us.reverse:=by
 induction h with
 |nil=>exact .nil
 |cons r t ih=>rw[CB,CB];exact Vals.append ih<|.cons r .nil
theorem Vals.rep{xs:D5}{us:D3}(h:Vals xs us):∀k:Nat,Vals (List.replicate k xs).flatten (List.replicate k us).flatten
 |0=>.nil
 |k+1=>by rw[Bc,Bc,BE,BE];exact Vals.append h<|Vals.rep h k
theorem Zef(Fz:D3):∀(k:Nat)(acc:D3),
  List.foldl (λx1 x2=>x1++x2) acc.toArray (List.replicate k Fz.toArray)=(acc++(List.replicate k Fz).flatten).toArray
 |0,acc=>by simp
 | k+1,acc=>by
  have e:acc.toArray++Fz.toArray=(acc++Fz).toArray:=by simp
  have e2:(acc++Fz)++(List.replicate k Fz).flatten=acc++(List.replicate (k+1) Fz).flatten:=by rw[Bc,BE,Bg]
  rw[<- e2,<- Zef Fz k (acc++Fz),<- e,Bc,BR]
section
variable{X:Cx}{pins:Fl (Fq×Obj)}{σ:St}{H:Hp}{s:Fp}{l b:Fq}{xs ys zs:D5}
def Inv.lset{Fz its':D3}{n:Nat}{f:Array Fo->Array Fo}{t':Nat}(I:Inv X pins σ H s)(hH:H l=some (.lst xs))
  (e:s.heap.get? l=some {cls:=.type "list",data:=.seq Fz.toArray n}) (hf:f Fz.toArray=its'.toArray) (hv:Vals ys its') (hz:ys.length<=sizeLine) :
  Inv X pins σ (upd H l<|.lst ys) {s with heap:=s.heap.update l<|Obj.mapSeq f,toks:=t'}:=by
 have q:=PySem.IsL.update e f;rw[hf]at q;refine I.write (x:=l) (e:=l) (by rw[hH];exact trivial) (.inl rfl) (λb' u hb hu=>(Bn s.heap (Obj.mapSeq f)<|Ne.symm hb).trans hu) ⟨_,q⟩ ?_
 exact⟨hz,its',_,hv,q⟩
def Inv.lnew{Fz:D3}{t':Nat}(I:Inv X pins σ H s)(hv:Vals ys Fz)(hz:ys.length<=sizeLine) :
  Inv X pins σ (upd H s.heap.objs.size<|.lst ys) {s with heap:=s.heap.push {cls:=.type "list",data:=.seq Fz.toArray},toks:=t'} :=
 I.laid (λ_ _ q=>v9 _ q) (Aw _) ⟨hz,Fz,0,hv,AC _ rfl⟩
theorem Inv.fresh(I:Inv X pins σ H s):H s.heap.objs.size=none:=I.hok.fresh<|Aw _
def Inv.lstM(I:Inv X pins σ H s)(hH:H l=some (.lst xs)):xs.length<=sizeLine/\∃(Fz:D3)(n:Nat),Vals xs Fz/\xs.length=Fz.length/\s.heap.get? l=some {cls:=.type "list",data:=.seq Fz.toArray n}:=by obtain⟨z,Fz,n,r,e⟩:=I.hok l _ hH;exact⟨z,Fz,n,r,r.length,e⟩
def Zjq{n:Nat}(h:n<=sizeLine):Builtin.List.listTooLong n=false:=by unfold Builtin.List.listTooLong;exact Eb<|by omega
end
section
variable{X:Cx}
def Zcq:V->Fl V->Hp->VK->Prop:=λx vs H Q=>∃l xs y,x=.ref l/\vs=[y]/\H l=some (.lst xs)/\xs.length<sizeLine/\Q .non (upd H l<|.lst<|xs++[y])
def yl:MtM X "list.append" Zcq:=by
 intro pins s σ H x vs v us Q I rx rv h;obtain⟨l,xs,y,rfl,rfl,hH,hz,q⟩:=h;cases rx;obtain⟨u,rfl,ru⟩:=rv.one;obtain⟨z,Fz,n,r,hl,e⟩:=I.lstM hH;refine EN F.slot_list_append ⟨_,e,rfl⟩ F.entry_list_append (F.args_list_append_2 _ _) (PySem.list_append l Fz.toArray n u<|by rw[AG];omega) ⟨e,?_⟩
 refine⟨.non,_,I.lset (its':=Fz++[u]) hH e (by simp) (r.append<|.cons ru .nil) ?_,rfl,q⟩
 rw[AQ,List.length_singleton];omega
def Zb8:V->Fl V->Hp->VK->Prop:=λx vs H Q=>∃l xs,x=.ref l/\vs=[]/\H l=some (.lst xs)/\Q .non (upd H l<|.lst xs.reverse)
def ZjA:MtM X "list.reverse" Zb8:=by
 intro pins s σ H x vs v us Q I rx rv h;obtain⟨l,xs,rfl,rfl,hH,q⟩:=h;cases rx;have hus:=rv.zero;subst hus;obtain⟨z,Fz,n,r,hl,e⟩:=I.lstM hH;refine EN F.slot_list_reverse ⟨_,e,rfl⟩ F.entry_list_reverse (F.args_list_reverse_1 _) (AutoSeq1.list_reverse_list_0 l Fz.toArray n<|by rw[AG];omega) ⟨e,?_⟩
 refine⟨.non,_,I.lset (its':=Fz.reverse) hH e (by simp) r.reverse ?_,rfl,q⟩
 rw[Bv];omega
def Zcp:R2:=λx y H Q=>∃l b xs zs,x=.ref l/\y=.ref b/\H l=some (.lst xs)/\H b=some (.lst zs)/\xs.length+zs.length<=sizeLine/\∀p,H p=none->Q (.ref p) (upd H p<|.lst<|xs++zs)
def Zjh:OpR X (binaryOp .Add) Zcp:=by
 intro pins s σ H x y v u Q I rx ry h;obtain⟨l,b,xs,zs,rfl,rfl,hH,hB,hz,q⟩:=h;cases rx;cases ry;obtain⟨z,Fz,n,r,hl,e⟩:=I.lstM hH;obtain⟨z2,its2,n2,r2,hl2,e2⟩:=I.lstM hB;refine PySem.P.add_list e e2 ?_<|by rw[AG,AG];omega
 have ea:Fz.toArray++its2.toArray=(Fz++its2).toArray:=by simp
 rw[ea];exact⟨.ref _,_,I.lnew (t':=s.toks) (r.append r2)<|by rw[AQ];omega,rfl,q _ I.fresh⟩
def Zcb:R2:=λx y H Q=>∃l k xs,x=.ref l/\y=.int k/\H l=some (.lst xs)/\-(2^63)<=k/\k<2^63/\xs.length*k.toNat<=sizeLine /\
 ∀p,H p=none->Q (.ref p) (upd H p<|.lst (List.replicate k.toNat xs).flatten)
def ZjX{α:Type}(xs:Fl α)(k:Nat):(List.replicate k xs).flatten.length=k*xs.length:=by
 induction k with
 |zero=>simp
 |succ k ih=>rw[Bc,BE,AQ,ih,Cq,Nat.add_comm]
def Zi7:OpR X (binaryOp .Mult) Zcb:=by
 intro pins s σ H x y v u Q I rx ry h;obtain⟨l,k,xs,rfl,rfl,hH,h1,h2,hz,q⟩:=h;cases rx;obtain⟨t,rfl⟩:=ry;obtain⟨z,Fz,n,r,hl,e⟩:=I.lstM hH;have hlen:Fz.toArray.size*k.toNat<=sizeLine:=by rw[AG,<- hl];exact hz
 have hcap:¬ Fz.toArray.size*k.toNat>(2^63-1) / 8:=by
  have:(sizeLine:Nat)<=(2^63-1) / 8:=by decide
  omega
 have hfit:¬ (!Builtin.List.listFitsIndex k)=true:=by rw[fitsIndex_both h1 h2];exact AN
 have hlong:¬ Builtin.List.listTooLong (Fz.toArray.size*k.toNat)=true:=by rw[Zjq hlen];exact AN
 have hnew:List.foldl (λx1 x2=>x1++x2) #[] (List.replicate (if Fz.toArray.isEmpty=true then 0 else k.toNat) Fz.toArray)=(List.replicate k.toNat Fz).flatten.toArray:=by
  have f0:∀m:Nat,List.foldl (λx1 x2=>x1++x2) #[] (List.replicate m Fz.toArray)=(List.replicate m Fz).flatten.toArray:=λm=>by have:=Zef Fz m [];rw[Cf]at this;exact this
  rw[f0];cases Fz with
  |nil=>simp
  |cons a r'=>rw[Ef<|by simp]
 refine wpAny_binaryOp_repeat_ref (T:="list") (U:="int") (by decide) ⟨_,e,rfl⟩ (λs'=>Fh s' k t) noFill_list_mul F.fills_int_mul F.slot_int_rmul repeat_list F.slot_int_index.lookup
  (EN F.slot_int_rmul (Fh s k t) F.entry_int_rmul (F.args_int_rmul_2 _ _) (int___rmul___int_list k t l Fz.toArray n)
   ⟨e,rfl,⟨_,e,rfl⟩,EN F.slot_list_mul ⟨_,e,rfl⟩ F.entry_list_mul (F.args_list_mul_2 _ _) (AutoListH.list___mul___list_int_3 l Fz.toArray n k t hfit hcap hlong) ⟨e,?_⟩⟩)
 rw[hnew];exact⟨.ref _,_,I.lnew (t':=s.toks) (r.rep k.toNat)<|by rw[ZjX,Nat.mul_comm];exact hz,rfl,q _ I.fresh⟩
end
section
variable{prog:Fs}{w:Ft}{A:Fu}{E:DZ}{s:Fp}
end
section
variable{X:Cx}
end
section
variable{κ:Type}[DecidableEq κ]
noncomputable def gr(kvs:Fl (κ×V))(k:κ):Fm V:=(kvs.find? λkv=>decide (kv.1=k)).map (·.2)
noncomputable def cZ(kvs:Fl (κ×V))(k:κ)(v:V):Fl (κ×V) :=
 if (kvs.any λkv=>decide (kv.1=k))=true then kvs.map (λkv=>if kv.1=k then (kv.1,v)else kv)else kvs++[(k,v)]
def om{p:κ×V}{r:Fl (κ×V)}{k:κ}(e:p.1=k):gr (p::r) k=some p.2:=by simp[gr,BA,e]
def on{p:κ×V}{r:Fl (κ×V)}{k:κ}(e:¬ p.1=k):gr (p::r) k=gr r k:=by simp[gr,BA,e]
theorem Zan(k:κ):∀kvs:Fl (κ×V),(kvs.any λkv=>decide (kv.1=k))=(gr kvs k).isSome
 | []=>rfl
 | p::r=>by
  rw[Cj];by_cases e:p.1=k
  ·simp only[om e,Ea e,Bool.true_or,De]
  ·rw[on e,Eb e,Bool.false_or];exact Zan k r
def qo(kvs:Fl (κ×V))(k:κ)(v:V):(cZ kvs k v).length<=kvs.length+1:=by
 unfold cZ
 split
 ·rw[Av];omega
 ·rw[AQ,AE,Bm];omega
def RelO.isSome_eq{o:Fm V}{u:Fm Fo}(r:RelO o u):o.isSome=u.isSome:=by
 cases o with
 | none=>cases u with
  |none=>rfl
  |some _=>exact(show False from r).elim
 | some _=>cases u with
  |none=>exact(show False from r).elim
  |some _=>rfl
def KV.val{kvs:Fl (κ×V)}{vs:Fl (κ×Fo)}(r:KV kvs vs)(k:κ):RelO (gr kvs k) (valueAt vs k):=by
 unfold KV at r
 induction r with
 |nil=>exact True.intro
 | @cons p q ps qs h t ih =>
  obtain⟨h1,h2⟩:=h;by_cases e:p.1=k
  ·have e':q.1=k:=h1.symm.trans e;have b:valueAt (q::qs) k=some q.2:=by simp[valueAt,BA,e']
   rw[om e,b];exact h2
  ·have e':¬ q.1=k:=λz=>e<|h1.trans z;have b:valueAt (q::qs) k=valueAt qs k:=by simp[valueAt,BA,e']
   rw[on e,b];exact ih
theorem KV.any{kvs:Fl (κ×V)}{vs:Fl (κ×Fo)}(r:KV kvs vs)(k:κ):(kvs.any λkv=>decide (kv.1=k))=vs.any λkv=>decide (kv.1=k):=by
 unfold KV at r
 induction r with
 |nil=>rfl
 |cons h t ih=>rw[Cj,Cj,ih,h.1]
def KV.repl{kvs:Fl (κ×V)}{vs:Fl (κ×Fo)}(r:KV kvs vs)(k:κ){y:V}{u:Fo}(ry:RelV y u) :
  KV (kvs.map λkv=>if kv.1=k then (kv.1,y)else kv) (vs.map λkv=>if kv.1=k then (kv.1,u)else kv):=by
 unfold KV at r ⊢
 induction r with
 |nil=>exact .nil
 | @cons p q ps qs h t ih =>
  rw[Ax,Ax];refine .cons ?_ ih;obtain⟨h1,h2⟩:=h;by_cases e:p.1=k
  ·rw[Ed e,Ed<|h1.symm.trans e];exact⟨h1,ry⟩
  ·rw[Ef e,Ef<|λz=>e<|h1.trans z];exact⟨h1,h2⟩
def KV.put{kvs:Fl (κ×V)}{vs:Fl (κ×Fo)}(r:KV kvs vs)(k:κ){y:V}{u:Fo}(ry:RelV y u):KV (cZ kvs k y) (stored vs k u):=by
 unfold cZ stored;rw[r.any k];by_cases e:(vs.any λkv=>decide (kv.1=k))=true
 ·rw[Ed e,Ed e];exact r.repl k ry
 ·rw[Ef e,Ef e];exact Paired.snoc r ⟨rfl,ry⟩
theorem KV.length{kvs:Fl (κ×V)}{vs:Fl (κ×Fo)}(r:KV kvs vs):kvs.length=vs.length:=C8 r
end
def yF{P:Fs}{w:Ft}{k:aL}{u:Fo}(r:RelV (kV k) u):(bP P w).is k u=true:=by
 cases k with
 |inl i=>obtain⟨t,e⟩:=(show ∃t,u=Value.int i t from r);subst e;exact ZjC P w i t
 |inr x=>obtain⟨t,e⟩:=(show ∃t,u=Value.str x t from r);subst e;exact ZjB P w x t
theorem ZdO{P:Fs}{w:Ft}:∀{ks:Fl aL}{us:D3},Vals (ks.map kV) us->ItemsAre (bP P w) ks us
 | [],_,r=>by rw[BO]at r;cases r;exact .nil
 | k::ks,_,r=>by
  rw[Ax]at r;cases r with
  |cons h t=>exact .cons (yF h)<|ZdO t
abbrev KT(H:Hp):Fl (Fl aL×V)->Fl (Fl aL×Fq×Fo)->Prop:=Paired λp q=>p.1=q.1/\H q.2.1=some (.tup<|p.1.map kV)/\RelV p.2 q.2.2
def KT.val{H:Hp}{kvs:Fl (Fl aL×V)}{xs:Fl (Fl aL×Fq×Fo)}(r:KT H kvs xs)(k:Fl aL):RelO (gr kvs k) ((atKey xs k).map (·.2)):=by
 induction r with
 |nil=>exact True.intro
 | @cons p q ps qs h t ih =>
  obtain⟨h1,_,h2⟩:=h;by_cases e:p.1=k
  ·have e':q.1=k:=h1.symm.trans e;have b:atKey (q::qs) k=some q.2:=by simp[atKey,BA,e']
   rw[om e,b];exact h2
  ·have e':¬ q.1=k:=λz=>e<|h1.trans z;have b:atKey (q::qs) k=atKey qs k:=by simp[atKey,BA,e']
   rw[on e,b];exact ih
def KT.repl{H:Hp}{kvs:Fl (Fl aL×V)}{xs:Fl (Fl aL×Fq×Fo)}(r:KT H kvs xs)(k:Fl aL){y:V}{u:Fo}(ry:RelV y u) :
  KT H (kvs.map λkv=>if kv.1=k then (kv.1,y)else kv) (xs.map<|putAt k u):=by
 induction r with
 |nil=>exact .nil
 | @cons p q ps qs h t ih =>
  rw[Ax,Ax];refine .cons ?_ ih;obtain⟨h1,h2,h3⟩:=h;unfold putAt;by_cases e:p.1=k
  ·rw[Ed e,Ed<|h1.symm.trans e];exact⟨h1,h2,ry⟩
  ·rw[Ef e,Ef<|λz=>e<|h1.trans z];exact⟨h1,h2,h3⟩
def KT.put{H:Hp}{kvs:Fl (Fl aL×V)}{xs:Fl (Fl aL×Fq×Fo)}(r:KT H kvs xs)(k:Fl aL){b:Fq}{y:V}{u:Fo}(hb:H b=some (.tup<|k.map kV))(ry:RelV y u) :
  KT H (cZ kvs k y) (storedH xs k b u):=by
 have e:(kvs.any λkv=>decide (kv.1=k))=(atKey xs k).isSome:=by rw[Zan,(r.val k).isSome_eq,Option.isSome_map]
 unfold cZ storedH;rw[e];by_cases q:(atKey xs k).isSome=true
 ·rw[Ed q,Ed q];exact r.repl k ry
 ·rw[Ef q,Ef q];exact Paired.snoc r ⟨rfl,hb,ry⟩
def KT.keeps{H H':Hp}{kvs:Fl (Fl aL×V)}{xs:Fl (Fl aL×Fq×Fo)}(r:KT H kvs xs)(ht:∀b ys,H b=some (.tup ys)->H' b=some (.tup ys)):KT H' kvs xs :=
 Paired.mapP r λ_ _ z=>⟨z.1,ht _ _ z.2.1,z.2.2⟩
section
variable{P:Fs}{w:Ft}{H:Hp}{h:Fv}{a:Fq}
def ZbX{u:HO}(ok:HOk P w H h)(e:Rd H a u):ObjOk P w H h a u:=e.ok ok
def zi{kvs:Fl (aL×V)}(ok:HOk P w H h)(e:Rd H a (.dK kvs)):kvs.length<=sizeLine/\(a==sysModules)=false/\∃vs,KV kvs vs/\h.DictOf (bP P w) a vs :=
 show ObjOk P w H h a (.dK kvs)from ZbX ok e
def ZlB{kvs:Fl (aL×V)}(ok:HOk P w H h)(e:H a=some (.dK kvs)):kvs.length<=sizeLine/\(a==sysModules)=false/\∃vs,KV kvs vs/\h.DictOf (bP P w) a vs:=zi ok<|.inl e
def lh{ks:Fl aL}(ok:HOk P w H h)(e:H a=some (.tup<|ks.map kV)):(tupleKind<|bP P w).is h ks a:=by
 obtain⟨_,Fz,r,o,h1,h2,n,h3⟩:=(show ObjOk P w H h a (.tup<|ks.map kV)from ok a _ e)
 exact⟨o,Fz.toArray,n,h1,h2,h3,by simpa using ZdO r⟩
def zf{kvs:Fl (Fl aL×V)}(ok:HOk P w H h)(e:Rd H a (.dT kvs)):kvs.length<=sizeLine/\(a==sysModules)=false /\
  ∃xs,KT H kvs xs/\h.DictOfH (tupleKind<|bP P w) a xs:=by
 obtain⟨z,y,xs,r,o,es,ep,h1,h2,h3,h4,h5⟩:=(show ObjOk P w H h a (.dT kvs)from ZbX ok e)
 refine⟨z,y,xs,r,o,es,ep,h1,h2,h3,h4,λx hx=>?_,h5⟩;have all:∀{l:Fl (Fl aL×V)}{m:Fl (Fl aL×Fq×Fo)},KT H l m->∀x∈m,(tupleKind<|bP P w).is h x.1 x.2.1:=by
  intro l m q
  induction q with
  |nil=>intro x hx;exact nomatch hx
  | @cons p q ps qs hq t ih =>
   intro x hx;rcases AM.mp hx with e|hx
   ·subst e;exact lh ok<|by rw[<- hq.1];exact hq.2.1
   ·exact ih x hx
 exact all r x hx
def Zlx{kvs:Fl (Fl aL×V)}(ok:HOk P w H h)(e:H a=some (.dT kvs)):kvs.length<=sizeLine/\(a==sysModules)=false /\
  ∃xs,KT H kvs xs/\h.DictOfH (tupleKind<|bP P w) a xs:=zf ok<|.inl e
end
def As(H:Hp)(a:Fq)(y:V)(r:Fm V):Prop :=
 (∃kvs k,Rd H a (.dK kvs)/\y=kV k/\r=gr kvs k)\/∃kvs k b,Rd H a (.dT kvs)/\y=.ref b/\H b=some (.tup<|k.map kV)/\r=gr kvs k
def DPut(H:Hp)(a:Fq)(y v:V)(H':Hp):Prop :=
 (∃kvs k,H a=some (.dK kvs)/\y=kV k/\kvs.length<sizeLine/\H'=upd H a (.dK<|cZ kvs k v)) \/
 ∃kvs k b,H a=some (.dT kvs)/\y=.ref b/\H b=some (.tup<|k.map kV)/\kvs.length<sizeLine/\H'=upd H a (.dT<|cZ kvs k v)
def DPut.t{H:Hp}{a b:Fq}{kvs:Fl (Fl aL×V)}{k:Fl aL}{v:V}(e:H a=some (.dT kvs))(eb:H b=some (.tup<|k.map kV))(hl:kvs.length<sizeLine) :
  DPut H a (.ref b) v (upd H a<|.dT<|cZ kvs k v):=.inr ⟨kvs,k,b,e,rfl,eb,hl,rfl⟩
section
variable{X:Cx}{pins:Fl (Fq×Obj)}{σ:St}{H:Hp}{s:Fp}{a:Fq}{y v:V}{u r:Fo}{o:Fm V}{A:Fu}{E:DZ}
def Inv.big(I:Inv X pins σ H s):sysModules<s.heap.objs.size:=by have h:mainGlobals<s.heap.objs.size:=(I.mod.glob.keeps I.bk).lt;exact Nat.lt_trans (by decide) h
def Zl3{Q:DZ}(hu:A.units+1<cLine)(I:Inv X pins σ H s)(g:As H a y (some v))(ry:RelV y u)(h:∀w' s',Inv X pins σ H s'->RelV v w'->Q w' s') :
  wpAny (model X.prog X.w) A (getItem (.ref a) u) Q E s:=by
 rcases g with ⟨kvs,k,e,ey,l⟩|⟨kvs,k,b,e,ey,eb,l⟩
 ·subst ey;obtain⟨z,hd,vs,rel,dd⟩:=zi I.hok e;obtain⟨w',hw,rw'⟩:=RelO.some_of (v:=v) (o:=valueAt vs k) (by rw[l];exact rel.val k)
  exact wpAny_getItem_of (yF ry) dd.mapOf hw<|h w' _ (I.tok _) rw'
 ·subst ey;cases (show u=Value.ref b from ry)
  obtain⟨z,hd,xs,rel,dd⟩:=zf I.hok e;obtain⟨w',hw,rw'⟩:=RelO.some_of (v:=v) (o:=(atKey xs k).map (·.2))<|by rw[l];exact rel.val k
  obtain⟨p,hp,hp2⟩:=Bs.mp hw;refine wpAny_getItem_heap (Fe hu) (lh I.hok eb) dd hp ?_;rw[hp2];exact h w' _ (I.tok _) rw'
def ZeW{h':Fv}{t':Nat}{ob:HO}(I:Inv X pins σ H s)(mu:n8 (H a))(hs:Heap.SameBut a s.heap h')(he:∃q,h'.get? a=some q)(new:ObjOk X.prog X.w (upd H a ob) h' a ob) :
  Inv X pins σ (upd H a ob) {s with heap:=h',toks:=t'} :=
 I.write (x:=a) (e:=a) mu (.inl rfl) (λb q hb z=>(hs.2 b hb).trans z) he new
def ZlC{P:Fs}{w:Ft}{H':Hp}{h':Fv}{kvs:Fl (aL×V)}{vs:Fl (aL×Fo)}(z:kvs.length<=sizeLine)(hd:(a==sysModules)=false)(rel:KV kvs vs)(dd:h'.DictOf (bP P w) a vs) :
  ObjOk P w H' h' a (.dK kvs):=⟨z,hd,vs,rel,dd⟩
def ZlN{H':Hp}{Q:Unit->Fp->Prop}(hu:A.units+1<cLine)(I:Inv X pins σ H s)(g:DPut H a y v H')(ry:RelV y u)(rv:RelV v r)(h:∀s',Inv X pins σ H' s'->Q () s') :
  wpAny (model X.prog X.w) A (setItem (.ref a) u r) Q E s:=by
 rcases g with ⟨kvs,k,e,ey,l,eH⟩|⟨kvs,k,b,e,ey,eb,l,eH⟩
 ·subst ey eH;obtain⟨z,hd,vs,rel,dd⟩:=ZlB I.hok e;have hz:vs.length<=sizeLine:=by rw[<- rel.length];exact z
  have hl:(cZ kvs k v).length<=sizeLine:=by have:=qo kvs k v;omega
  refine wpAny_setItem_pairs (hsz:=hz) (yF ry) dd λh' dd' hs=>h _ ?_;have he:∃q,h'.get? a=some q:=let ⟨q,_,_,hq,_⟩:=dd';⟨q,hq⟩
  exact ZeW I (by rw[e];exact True.intro) hs he<|ZlC hl hd (rel.put k rv) dd'
 ·subst ey eH;cases (show u=Value.ref b from ry)
  obtain⟨z,hd,xs,rel,dd⟩:=Zlx I.hok e;have hz:xs.length<=sizeLine:=by rw[<- C8 rel];exact z
  have hl:(cZ kvs k v).length<=sizeLine:=by have:=qo kvs k v;omega
  refine wpAny_setItem_heap (hsz:=hz) (Fe hu) (lh I.hok eb) dd λh' dd' hs=>h _ ?_;obtain⟨q,es,ep,hq,h2,h3,h4,_,h5⟩:=dd';refine ZeW I (by rw[e];exact True.intro) hs ⟨q,hq⟩ ⟨hl,hd,_,(rel.put k eb rv).keeps λc ys ec=>?_,q,es,ep,hq,h2,h3,h4,h5⟩
  rw[aM<|Zjv ec e<|λz=>nomatch z]
  exact ec
end
section
variable{X:Cx}{pins:Fl (Fq×Obj)}{σ:St}{H:Hp}{s:Fp}{a:Fq}{kvs:Fl (aL×V)}{k:aL}{u:Fo}{A:Fu}{E:DZ}
end
def Zf5(i:Fw):Prop:=∀ov iv,subscripted i false ov iv=operate [ov,iv] (getItem ov iv)
def Zg5{prog:Fs}{w:Ft}{A:Fu}{E:DZ}{s:Fp}{env:Env}{value slice:Fw}{pos:Pos}{T id:String}{Q:DZ}
  (hl:typeLookup (.type T) "__getitem__"=pure (some<|.builtin id)) (hs:Zf5 slice)
  (h:wpAny (model prog w) A (eval value env) (λo s₁=>wpAny (model prog w) A (eval slice env) (λi s₂=>s₂.TypeIs o T/\wpAny (model prog w) A (getItem o i) Q E s₂) E s₁) E s) :
  wpAny (model prog w) A (eval (.Subscript value slice pos) env) Q E s:=by
 refine Subscript_ (Ei h (λo s₁ h₁=>Ei h₁ (λi s₂ h₂=>?_) λ_ _ x=>x) λ_ _ x=>x);obtain⟨hT,h₂⟩:=h₂;unfold subscriptTail;refine wp ?_;rw[getitemInPython_of_ne hT.not_modules];refine wp<|EG hT hl ?_;have fin:wpAny (model prog w) A (subscripted slice false o i) (λr s₃=>wpAny (model prog w) A (letTemporaryGo value o r >>= λ_=>pure r) Q E s₃) E s₂:=by rw[hs o i];exact wpAny_operating<|Ei h₂ (λr s₃ h₃=>wp<|wpAny_letTemporaryGo<|D9 h₃) λ_ _ x=>x
 first
  |exact D9 (wp fin)
  |exact wp (D9<|wp fin)
  |exact wp fin
def ZlE{X:Cx}{pins:Fl (Fq×Obj)}{σ:St}{H:Hp}{s:Fp}{a:Fq}{y:V}{o:Fm V}(I:Inv X pins σ H s)(g:As H a y o):s.TypeIs (.ref a) "dict":=by
 rcases g with ⟨kvs,k,e,_,_⟩|⟨kvs,k,b,e,_,_,_⟩
 ·obtain⟨_,_,vs,_,dd⟩:=zi I.hok e;exact dd.typeIs
 ·obtain⟨_,_,xs,_,dd⟩:=zf I.hok e;exact dd.typeIs
def ZaD(td ty:TE):TE:=λσ H Q=>td σ H λx H1=>ty σ H1 λy H2=>∃a v,x=.ref a/\As H2 a y (some v)/\Q v H2
def Zbz(td ty tv:TE):TS:=λD σ H=>tv σ H λv H1=>td σ H1 λx H2=>ty σ H2 λy H3=>∃a H4,x=.ref a/\DPut H3 a y v H4/\D.nx σ H4
section
variable{X:Cx}{o i e value:Fw}{pos pos' tpos:Pos}{td ty tv:TE}
def iX(hu:X.A.units+1<cLine)(ho:PE X o td)(hi:PE X i ty)(hs:Zf5 i):PE X (.Subscript o i pos) (ZaD td ty):=by intro pins s σ H Q I h;refine Zg5 PySem.F.slot_dict_getitem.lookup hs (thn (ho pins s σ H _ I h) λu s1 ⟨x,H1,I1,rx,q1⟩=>thn (hi pins s1 σ H1 _ I1 q1) λiv s2 Fy=>?_);obtain⟨y,H2,I2,ry,a,v,ex,g,q2⟩:=Fy;subst ex;obtain rfl:u=Value.ref a:=rx;exact⟨ZlE I2 g,Zl3 hu I2 g ry λw' s3 I3 rw'=>⟨v,H2,I3,rw',q2⟩⟩
def ZcB(hu:X.A.units+1<cLine)(ho:PE X o td)(hi:PE X i ty)(hv:PE X value tv)(hs:swapsWith value (some<|.Subscript o i pos') pos.line X.env=pure false) :
  PS X (.Assign [.Subscript o i pos'] value pos) (Zbz td ty tv):=by intro pins s σ H D I h;refine wpAny_Assign_Subscript (thn (hv pins s σ H _ I h) λr s1 ⟨v,H1,I1,rv,q1⟩=>thn (ho pins s1 σ H1 _ I1 q1) λu s2 ⟨x,H2,I2,rx,q2⟩=>thn (hi pins s2 σ H2 _ I2 q2) λiv s3 Fy=>?_) hs;obtain⟨y,H3,I3,ry,a,H4,ex,g,q3⟩:=Fy;subst ex;obtain rfl:u=Value.ref a:=rx;exact ZlN hu I3 g ry rv λs4 I4=>⟨σ,H4,I4,q3⟩
end
def ZlD{P:Fs}{w:Ft}{H:Hp}(h:Fv)(hb:sysModules<h.objs.size):ObjOk P w H (h.push {cls:=.type "dict",data:=.dict #[]}) h.objs.size (.dK []) :=
 ⟨Bf _,Eh.mpr<|Ne.symm<|AO hb,[],.nil,Heap.DictOf.new h⟩
def Zly{P:Fs}{w:Ft}{H:Hp}(h:Fv)(hb:sysModules<h.objs.size):ObjOk P w H (h.push {cls:=.type "dict",data:=.dict #[]}) h.objs.size (.dT []) :=
 ⟨Bf _,Eh.mpr<|Ne.symm<|AO hb,[],.nil,_,#[],0,AC _ rfl,⟨rfl,rfl,rfl⟩,rfl,rfl,DF⟩
def Zg0:TE:=λ_ H Q=>∀p,H p=none->Q (.ref p) (upd H p<|.dK [])
def ZaC:TE:=λ_ H Q=>∀p,H p=none->Q (.ref p) (upd H p<|.dT [])
section
variable{X:Cx}{pos:Pos}
def ZiV:PE X (.Dict [] [] pos) Zg0:=λpins s σ H Q I h =>
 wpAny_Dict_empty ⟨.ref s.heap.objs.size,_,I.laid (a:=s.heap.objs.size) (o:=.dK []) (t':=s.toks) (λ_ _ q=>v9 _ q) (Aw _)<|ZlD s.heap I.big,rfl,h _<|I.hok.fresh<|Aw _⟩
def ZcO:PE X (.Dict [] [] pos) ZaC:=λpins s σ H Q I h =>
 wpAny_Dict_empty ⟨.ref s.heap.objs.size,_,I.laid (a:=s.heap.objs.size) (o:=.dT []) (t':=s.toks) (λ_ _ q=>v9 _ q) (Aw _)<|Zly s.heap I.big,rfl,h _<|I.hok.fresh<|Aw _⟩
end
section
variable{X:Cx}{pins:Fl (Fq×Obj)}{σ:St}{H:Hp}{s:Fp}{a:Fq}{y d:V}{u r:Fo}{o:Fm V}{A:Fu}{E:DZ}
end
section
variable{X:Cx}{o e f:Fw}{apos cpos:Pos}{td ty tx:TE}
end
section
variable{X:Cx}{pins:Fl (Fq×Obj)}{σ:St}{H:Hp}{s:Fp}{a:Fq}{kvs:Fl (aL×V)}{A:Fu}{E:DZ}
end
section
variable{X:Cx}{pins:Fl (Fq×Obj)}{σ:St}{H:Hp}{s:Fp}{a:Fq}{y:V}{u:Fo}{A:Fu}{E:DZ}
end
end L2
namespace Att
open PySem.W PySem.Calls
def ints_of_wellAll{P:Params}{h:Fv}:∀(ns:D2)(vs:D3),WellAll P h vs (ns.map WData.int)->IntsAre vs ns:=by
 intro ns
 induction ns with
 | nil =>
  intro vs w;rw[BO]at w;cases w;exact .nil
 | cons n ns ih =>
  intro vs w;rw[Ax]at w;cases w with
  | cons a b =>
   cases a;exact .cons _ _<|ih _ b
def script_of{l:OpenLaw}{n:Nat}(hn:l.most=some n){P:Params}{h:Fv}{args:Fl WData}{vals:D3}
  (hpre:l.row.toRowW.claim.pre args=true) (hwl:WellAll P h vals args) :
  ∃a vs ns,vals=[Value.ref a]/\args=[WData.list<|ns.map WData.int]/\h.get? a=some {cls:=.type "list",data:=.seq vs.toArray}/\IntsAre vs ns/\ns.length<=n:=by
 have hsh:WShape.hasAll [] args [.list .int]=true:=(pre_splitW hpre).1;have hc:l.pre.holds [] {args:=args}=true:=(pre_splitW hpre).2;obtain⟨d,r,rfl,h1,h2⟩:=hasAllW_cons hsh;obtain rfl:=hasAllW_nil h2;obtain⟨xs,rfl,h3⟩:=hasW_list h1;obtain⟨ns,rfl⟩:=items_int h3;have hlen:ns.length<=n:=by
  unfold OpenLaw.pre at hc;have h4:(WTm.not<|.lt (.lit<|.int (n:Int))<|.len<|.arg 0).holds [] {args:=[.list<|ns.map .int]}=true:=by have h4:=(holds_andW hc).1;rw[hn]at h4;exact h4
  have h5:=condW_of h4<|w_not<|w_lt w_lit<|w_len_list<|w_arg rfl;rw[Av]at h5;refine Ca λq=>?_;have q':(n:Int)<((ns.length:Nat):Int):=by omega
  first
   |(rw[Ea q']at h5;exact absurd h5<|by decide)
   |(simp at h5;omega)
 cases hwl with
 | cons w1 w2 =>
  cases w2;cases w1 with
  |list ho hall=>exact⟨_,_,ns,rfl,rfl,ho,ints_of_wellAll ns _ hall,hlen⟩
def post_true(l:OpenLaw)(args:Fl WData):l.row.toRowW.claim.post args (.bool true) args=true :=
 postW_of (r:=l.row.toRowW) (X:=(true==true))
  (show WShape.has [] (.bool true) .bool=true by first|rfl|decide|simp[WShape.has,WShape.arms,WShape.armsAll])
  (show(WTm.eq .res<|.lit<|.bool true).value [] {args:=args,res:=some<|.bool true,after:=args}=some (.bool<|true==true)from w_eq_bool (w_res rfl) w_lit) rfl
def attach_call{l:OpenLaw}{n:Nat}{q:Fs}{loose:D4}{XP:D6->Fv->Prop}{YP:Ft->Fv->Prop}{d:DefRec}
  (hn:l.most=some n) (hdf:d.params.defaults=[])
  (call:∀(w:Ft)(s₀ s₁:Fp)(mg mb:D6)(fa:Fq)(o:Obj)(pm cd doc:Fo)(a:Fq)(vs:D3)(ns:D2),
   Ground q loose [] XP w s₀ mg mb s₁.heap->YP w s₁.heap ->
   s₁.heap.get? fa=some o->o.data=.func (docDef d.name d.params d.body d.scope pm cd doc)->s₁.heap.CodeRec cd d.name->mg d.name=some (.ref fa) ->
   s₁.heap.get? a=some {cls:=.type "list",data:=.seq vs.toArray}->IntsAre vs ns->ns.length<=n->s₁.gens=#[] ->
   codeAny (model l.prog w) callerA (.call (.ref fa) ⟨[.ref a],[]⟩) (λr s'=>r=.ok (.ret<|.bool true)/\OldK s₁.heap s'.heap/\s'.os=s₁.os/\AllBare s'.gens) s₁) :
  WalkO q loose XP YP l.row.toRowW d [] (λf vs=>PySem.call f vs):=by intro w s₀ s₁ mg mb G Y fa o pm cd doc dV kV ho hd hcd hD hmg hg args vals as hpre hlay hrd hwl hlo;obtain rfl:dV=.none:=Dflts.none hD hdf;obtain rfl:kV=.none:=Dflts.noKw hD;obtain⟨a,vs,ns,rfl,rfl,hobj,hints,hlen⟩:=script_of hn hpre hwl;refine enter_call (E8 (call w s₀ s₁ mg mb fa o pm cd doc a vs ns G Y ho (fd_plain hd) hcd hmg hobj hints hlen hg) λr s' hq=>?_);obtain⟨rfl,h2,h3,h4⟩:=hq;exact⟨.inl ⟨.bool true,.bool true,[],rfl,λ_=>rfl,.bool true,post_true l _,λ_=>⟨List.Pairwise.nil,λ_ hm=>(nomatch hm)⟩⟩,h2,h3,h4⟩
section
variable{prog:Fs}{w:Ft}{A:Fu}{E:DZ}{s:Fp}{K:Frag}
end
end Att
namespace L2
def Zgn{vs:D3}{ns:D2}(h:IntsAre vs ns):Vals (ns.map V.int) vs:=by
 induction h with
 |nil=>exact .nil
 |cons n t h ih=>exact .cons ⟨t,rfl⟩ ih
def wb(H:Hp):Prop:=∀b,H b=none\/∃o xs,H b=some (.frz o<|.lst xs)
def Zj6{P:Fs}{w:Ft}{K:DQ}{mg mb:D6}{CX:f8}{k:Nat}{fa a:Fq}{fd:FuncData}{x:Str}{sp:Sp}{s₁:Fp}{vs:D3}{ns:D2}
  (KX:K.In s₁.heap) (hns:s₁.heap.Ns mainGlobals mg) (hb:s₁.heap.Ns builtinsNs mb) (hbb:∀x:Str,x≠"__name__"->mb x=bootBuiltins x) (hlim:s₁.heap.NoLimit) (hdig:s₁.heap.NoDigits) (hg:s₁.gens=#[])
  (ha:s₁.heap.get? a=some {cls:=.type "list",data:=.seq vs.toArray}) (hi:IntsAre vs ns) (hl:ns.length<=sizeLine) (hr:Room k callerA)
  (F:∀base:Fv,K.In base->base.Ns mainGlobals mg->FnOk P w K mg base CX k fa fd [x] sp) (hbind:∀(s:Fp)(u:Fo),BindsTo s fd ⟨[u],[]⟩ [(x,u)])
  (hsp:∀H:Hp,wb H->SqL K H a (ns.map V.int)->sp [.ref a] H (λv _=>v=.bl true) λ_ _ _=>False)
  (hCX:∀H e s',CX [] H s₁ (λ_ _ _=>False) e s'->False) :
  codeAny (model P w) callerA (.call (.ref fa) ⟨[.ref a],[]⟩) (λr s'=>r=.ok (.ret<|.bool true)/\OldK s₁.heap s'.heap/\s'.os=s₁.os/\AllBare s'.gens) s₁:=by
 have rv:=Zgn hi;have lenV:=hi.length
 -- from an abstract heap in which nothing but the script may be tracked
 have core:∀H:Hp,wb H->SqL K H a (ns.map V.int)->HOk P w H s₁.heap->(∀b,H b≠none->b=a)->(H a≠none->K.lookup a=none) ->
   codeAny (model P w) callerA (.call (.ref fa) ⟨[.ref a],[]⟩) (λr s'=>r=.ok (.ret<|.bool true)/\OldK s₁.heap s'.heap/\s'.os=s₁.os/\AllBare s'.gens) s₁:=by
  intro H hO hS hok hA hK;have base_of:∀{b:Fq}{o:Obj},s₁.heap.get? b=some o->H b=none->(iw s₁.heap H).get? b=some o:=λe n=>ZkB e n;have noA:∀{b:Fq}{o:Obj}{es:Array DictEntry}{ep:Nat},s₁.heap.get? b=some o->o.data=.dict es ep->H b=none:=λ{b o es ep} e d=>by
   cases q:H b with
   |none=>rfl
   | some u =>
    have e':b=a:=hA b<|by rw[q];simp
    subst e';rw[ha]at e;cases e;have d':Data.seq vs.toArray _=Data.dict es ep:=d;cases d'
  have nsK:∀{b:Fq}{m:D6},s₁.heap.Ns b m->(iw s₁.heap H).Ns b m:=λ{b m} Fy=>by obtain⟨o,es,ep,e,d,r⟩:=Fy;exact⟨o,es,ep,base_of e<|noA e d,d,r⟩
  have hKb:K.In (iw s₁.heap H):=λb o e=>base_of (KX b o e) (by
   cases q:H b with
   |none=>rfl
   | some u =>
    have e':b=a:=hA b (by rw[q];simp)
    subst e';rw[hK<|by rw[q];simp]at e;cases e)
  have hM:Mod K mg (iw s₁.heap H):=⟨hKb,nsK hns,⟨mb,nsK hb,hbb⟩,let ⟨mc,h1,h2⟩:=hlim;⟨mc,nsK h1,h2⟩,let ⟨mc,h1,h2⟩:=hdig;⟨mc,nsK h1,h2⟩⟩
  have e0:Env0 P w K mg (iw s₁.heap H) callerA [] s₁ H:=⟨rfl,hM,λb o e=>Zjm e,Nat.le_of_eq<|ZkA _ _,trivial,λb hb=>absurd (show b∈([]:Fl Fq)from hb)<|by simp,hok,.of_eq hg⟩
  refine E8 ((F _ hKb<|nsK hns).run callerA [] s₁ H ⟨[.ref a],[]⟩ [.ref a] [.ref a] _ _ hr e0 (hbind s₁<|.ref a) (.cons rfl .nil)<|hsp H hO hS) λr s' h=>?_;cases r with
  |error e=>exact(hCX H e s' h).elim
  | ok fl =>
   cases fl with
   |next=>exact False.elim h
   |brk=>exact False.elim h
   |cont=>exact False.elim h
   | ret u =>
    obtain⟨v,H',os,bare,un,hok',r',q⟩:=h;have q':v=.bl true:=q;subst q';obtain rfl:u=Value.bool true:=r';refine⟨rfl,OldK.of_keep λb o e=>?_,os,bare⟩;cases q:H b with
    |none=>exact un.keep b o e q (by intro z;exact absurd (show b∈([]:Fl Fq)from z)<|by simp) (by simp)
    | some u =>
     rcases hO b with z|⟨ob,xs,z⟩
     ·rw[q]at z;cases z
     ·have z2:=un.frzs b ob _ z;obtain⟨e1,_⟩:=hok b _ z;obtain⟨e2,_⟩:=hok' b _ z2;rw[e]at e1;cases e1;exact e2
 cases hk:K.lookup a with
 | some o =>
  -- the script is one of the module's own objects
  have e:=KX a o hk;rw[ha]at e;cases e;refine core (λ_=>none) (λ_=>.inl rfl) (.inr ⟨_,vs.toArray,_,hk,rfl,rfl,rfl,by rw[AG,lenV];exact hl,by simpa using rv⟩) (λb u z=>by have z':(none:Fm HO)=some u:=z;cases z') (λb z=>absurd rfl z) λz=>absurd rfl z
 | none =>
  refine core (λb=>if b=a then some (.frz {cls:=.type "list",data:=.seq vs.toArray}<|.lst<|ns.map V.int)else none) (λb=>?_) (.inl<|.inr ⟨{cls:=.type "list",data:=.seq vs.toArray},Ed rfl⟩) (λb u z=>?_) (λb z=>?_) λ_=>hk
  ·by_cases hb:b=a
   ·exact .inr ⟨_,_,Ed hb⟩
   ·exact .inl<|Ef hb
  ·by_cases hb:b=a
   ·have z':=(Ed hb).symm.trans z;cases z';subst hb;exact⟨ha,by rw[Av];exact hl,vs,_,rv,ha⟩
   ·have z':=(Ef hb).symm.trans z;cases z'
  ·by_cases hb:b=a
   ·exact hb
   ·exact absurd (Ef hb) z
noncomputable abbrev KOf{K:DQ}{h:Fv}(_:K.In h):DQ:=K
def Zgg{l:PySem.W.OpenLaw}{n k:Nat}{q:Fs}{loose:D4}{XP:D6->Fv->Prop}{YP:Ft->Fv->Prop}{d:DefRec}{K:Params->DQ}{CX:Ft->f8}{sp:Ft->Sp}{x:Str}
  (hn:l.most=some n) (hn2:n<=sizeLine) (hdf:d.params.defaults=[]) (hr:Room k callerA)
  (hY:∀(w:Ft)(h:Fv),YP w h->(K w.params).In h)
  (F:∀(w:Ft)(mg:D6)(fa:Fq)(h:Fv),(K w.params).In h->h.Ns mainGlobals mg->mg d.name=some (.ref fa) ->
   ∃fd:FuncData,(∀(s:Fp)(u:Fo),BindsTo s fd ⟨[u],[]⟩ [(x,u)]) /\
    ∀base:Fv,(K w.params).In base->base.Ns mainGlobals mg->FnOk l.prog w (K w.params) mg base (CX w) k fa fd [x] (sp w))
  (hsp:∀(w:Ft)(H:Hp)(a:Fq)(ns:D2),ns.length<=n->wb H->SqL (K w.params) H a (ns.map V.int)->sp w [.ref a] H (λv _=>v=.bl true) λ_ _ _=>False)
  (hCX:∀(w:Ft)(H:Hp)(s:Fp)(e:Fo)(s':Fp),CX w [] H s (λ_ _ _=>False) e s'->False) :
  PySem.W.WalkO q loose XP YP l.row.toRowW d [] (λf vs=>PySem.call f vs):=by refine Att.attach_call hn hdf λw s₀ s₁ mg mb fa o pm cd doc a vs ns G Y ho hd hcd hmg hobj hints hlen hg=>?_;have KX:=hY w _ Y;obtain⟨fd,hb,hF⟩:=F w mg fa _ KX G.T.g hmg;exact Zj6 KX G.T.g G.T.b G.T.builtins G.T.nolimit G.T.nodigits hg hobj hints (AJ hlen hn2) hr hF hb (λH hO hS=>hsp w H a ns hlen hO hS) λH e s'=>hCX w H s₁ e s'
def Zgf{l:PySem.W.OpenLaw}{n k:Nat}{q:Fs}{loose:D4}{XP:D6->Fv->Prop}{YP:Ft->Fv->Prop}{d:DefRec}{K:Params->DQ}{CX:f8}{sp:DQ->Sp}{x:Str}
  (hn:l.most=some n) (hn2:n<=sizeLine) (hdf:d.params.defaults=[]) (hr:Room k callerA)
  (hY:∀(w:Ft)(h:Fv),YP w h->(K w.params).In h)
  (F:∀(w:Ft)(mg:D6)(fa:Fq)(h:Fv),(K w.params).In h->h.Ns mainGlobals mg->mg d.name=some (.ref fa) ->
   ∃fd:FuncData,(∀(s:Fp)(u:Fo),BindsTo s fd ⟨[u],[]⟩ [(x,u)]) /\
    ∀base:Fv,(K w.params).In base->base.Ns mainGlobals mg->FnOk l.prog w (K w.params) mg base CX k fa fd [x] (sp<|K w.params))
  (hsp:∀(K:DQ)(H:Hp)(a:Fq)(ns:D2),ns.length<=n->wb H->SqL K H a (ns.map V.int)->sp K [.ref a] H (λv _=>v=.bl true) λ_ _ _=>False)
  (hCX:∀(H:Hp)(s:Fp)(e:Fo)(s':Fp),CX [] H s (λ_ _ _=>False) e s'->False) :
  PySem.W.WalkO q loose XP YP l.row.toRowW d [] (λf vs=>PySem.call f vs) :=
 Zgg (K:=K) (CX:=λ_=>CX) (sp:=λw=>sp<|K w.params) hn hn2 hdf hr hY F (λw H a ns h1 h2 h3=>hsp (K w.params) H a ns h1 h2 h3) λ_ H s e s'=>hCX H s e s'
noncomputable def lC(s:Fx):Arguments:=match s with
 |.FunctionDef _ a _ _ _ _ _ _ _ _=>a
 |_=>{posonlyargs:=[],args:=[],vararg:=none,kwonlyargs:=[],kw_defaults:=[],kwarg:=none,defaults:=[]}
noncomputable def iE(s:Fx):Fl Fx:=match s with
 |.FunctionDef _ _ b _ _ _ _ _ _ _=>b
 |_=>[]
noncomputable def aP(s:Fx):Scope:=match s with
 |.FunctionDef _ _ _ _ _ _ sc _ _ _=>sc
 |_=>{kind:=.function,names:=[],isGenerator:=false,isCoroutine:=false}
abbrev jA:f8:=λ_ _ _ _ _ _=>False
abbrev E0:XK:=λ_ _ _=>False
def Zi2{X:Cx}:Ao jA X E0:=λ_ _ _ _ _ _ _ h=>h.elim
structure Fun(K:DQ)(x qual:Str)(st:Fx)(f:Fq)(fd:FuncData):Prop where
 ex:∃(oc:Fo)(od:Option Fq)(kV doc pm:Fo)(an:Option Fq)(FA ct:Fo)(osl:Array (Option Fo)),
  fd=PySem.W.fnOf x qual (lC st) (iE st) (aP st) .none kV doc pm an FA ct/\K.lookup f=some ⟨oc,od,.func fd,osl⟩/\PySem.W.codeIn K FA qual=true
 kp:PySem.W.keepIn K (.ref f)=true
section
variable{P:Fs}{w:Ft}{K:DQ}{mg:D6}{base:Fv}
def Fun.ok{x qual:Str}{st:Fx}{f:Fq}{fd:FuncData}{N ps:D4}{k:Nat}{sp:Sp}(F:Fun K x qual st f fd)(S:FnScope N ps (aP st))(len:∀vs H Q E,sp vs H Q E->vs.length=ps.length)
  (FX:∀(FA:Fo)(A:Fu)(outer:Fl Env)(s:Fp)(H:Hp)(vs:D5)(Q:VK)(E:XK),Room k (A.deeper<|envOfC qual (aP st) s.heap.objs.size f FA)->sp vs H Q E ->
   ∃t,PSs (jp jA P w K mg base N qual (aP st) f FA A outer s H E).nox (iE st) t/\t {nx:=λ_ H'=>Q .non H',rt:=Q} (start N vs) H):FnOk P w K mg base jA (k+1) f fd ps sp:=by obtain⟨oc,od,kV,doc,pm,an,FA,ct,osl,rfl,lk,hcd⟩:=F.ex;refine Zk2 lk hcd S len λA outer s H vs Q E hr hsp=>?_;obtain⟨t,h,q⟩:=FX FA A outer s H vs Q E hr hsp;exact⟨t,h.nox,q⟩
def Fun.binds{x qual:Str}{st:Fx}{f:Fq}{fd:FuncData}{ps:D4}(F:Fun K x qual st f fd)
  (h:∀(kV doc pm:Fo)(an:Fm Fq)(FA ct:Fo)(us:D3),us.length=ps.length->bindArgs (PySem.W.fnOf x qual (lC st) (iE st) (aP st) .none kV doc pm an FA ct) ⟨us,[]⟩=pure (ps.zip us)):Binds K fd ps []:=by obtain⟨oc,od,kV,doc,pm,an,FA,ct,osl,rfl,lk,hcd⟩:=F.ex;exact .all<|h kV doc pm an FA ct
def ZkY{x qual:Str}{st:Fx}{f:Fq}{oc:Fo}{od an:Fm Fq}{osl:Array (Fm Fo)}{kV doc pm FA ct:Fo}(l:K.lookup f=some ⟨oc,od,.func<|PySem.W.fnOf x qual (lC st) (iE st) (aP st) .none kV doc pm an FA ct,osl⟩)
  (c:PySem.W.codeIn K FA qual=true) (k:PySem.W.keepIn K (.ref f)=true):Fun K x qual st f (PySem.W.fnOf x qual (lC st) (iE st) (aP st) .none kV doc pm an FA ct):=⟨⟨oc,od,kV,doc,pm,an,FA,ct,osl,rfl,l,c⟩,k⟩
end
def fR{A:Fu}{k:Nat}(hr:Room k A):A.units+1<cLine:=By (Nat.add_le_add_left (by decide:1<=64) _) hr.units
section
variable{X:Cx}
def pv(i:Nat){x:Str}{pos:Pos}(hN:X.N[i]?=some x:=by rfl)(hv:v7 X.env.scope x:=by first|exact Or.inl rfl|exact Or.inr (.inl rfl)|exact Or.inr (.inr rfl))(hd:(x==("__debug__":Str))=false:=by decide)
  (hcd:(x==("__classdict__":Str))=false:=by decide):PE X (.Name x pos) (gI i):=ZiL hN hv hd hcd
end
def qu{c A B:Prop}[Decidable c](h1:c->A)(h2:¬ c->B):if c then A else B:=by
 by_cases h:c
 ·rw[Ed h];exact h1 h
 ·rw[Ef h];exact h2 h
def Same(H H':Hp):Prop:=∀b o,H b=some o->H' b=some o
def Same.refl(H:Hp):Same H H:=λ_ _ h=>h
def Same.free{H H':Hp}(e:Same H H'){l:Fq}(h:H' l=Option.none):H l=Option.none:=by
 cases q:H l with
 |none=>rfl
 | some o =>
  rw[e l o q]at h;cases h
structure Blk where
 cl:List (Str×Fq)
 C:Fq
 s:Fp
 H:Hp
 fp:List Fq
 pn:List (Fq×Obj)
noncomputable def aW(X:Cx)(N:D4)(scope:Scope)(b:Blk):Cx where
 prog:=X.prog
 w:=X.w
 K:=X.K
 mg:=X.mg
 base:=X.base
 A:=X.A
 N:=N
 s₀:=b.s
 H₀:=b.H
 env:=compEnvC scope b.cl b.C X.env
 outer:=X.stack
 stack:=X.stack
 ex:=b.fp
 fn:=λx=>scope.names.lookup x==some .cell
 calm:=X.calm
 pn:=b.pn
 xe:=λ_ _=>False
noncomputable def bN(Nx ts:D4)(ix:Fl Nat):D4:=ts++ix.map λj=>(Nx[j]?).getD Str.empty
noncomputable def db(n:Nat)(ix:Fl Nat)(σ:St):St:=List.replicate n none++ix.map λj=>(σ[j]?).getD none
structure BlkOk(Nx:D4)(sc scope:Scope)(ix:List Nat):Prop where
 kind:scope.kind=.function
 cells:∀y∈scope.names,y.2=.cell->scope.names.lookup y.1=some .cell
 locs:∀y∈scope.names,y.2=.local->scope.names.lookup y.1=some .local
 frees:∀y∈scope.names,y.2=.free->sc.names.lookup y.1=some .cell\/sc.names.lookup y.1=some .free
 caps:∀j∈ix,j<Nx.length/\scope.names.lookup ((Nx[j]?).getD Str.empty)=some .free
theorem yU{env:Env}{f:Str×NameKind->Fl (Str×Fq)->Sem (ForInStep<|Fl<|Str×Fq)}
  (h1:∀n k r,k≠NameKind.free->f (n,k) r=pure (.yield r)) (h2:∀n r c,env.cells.lookup n=some c->f (n,NameKind.free) r=pure (.yield ((n,c)::r))) :
  ∀(names:Fl (Str×NameKind))(acc:Fl (Str×Fq)),(∀y∈names,y.2=.free->∃c,env.cells.lookup y.1=some c)->(∀x c,acc.lookup x=some c->env.cells.lookup x=some c) ->
   ∃cl,forIn names acc f=pure cl/\(∀x c,cl.lookup x=some c->env.cells.lookup x=some c)/\(∀y∈names,y.2=.free->∃c,cl.lookup y.1=some c)/\∀x c,acc.lookup x=some c->∃c',cl.lookup x=some c'
 | [],acc,_,ha=>⟨acc,rfl,ha,(λ_ h=>nomatch h),λx c h=>⟨c,h⟩⟩
 | (n,k)::names,acc,hn,ha=>by
  have hn':∀y∈names,y.2=.free->∃c,env.cells.lookup y.1=some c:=λy hy=>hn y<|Az _ hy;by_cases hk:k=.free
  ·subst hk;obtain⟨c,hc⟩:=hn (n,.free) AB rfl;have ha':∀x d,((n,c)::acc).lookup x=some d->env.cells.lookup x=some d:=λx d e=>by
    rw[A7]at e;cases hx:x==n with
    | true =>
     rw[hx]at e;have hxn:x=n:=by simpa using hx
     subst hxn;cases e;exact hc
    | false =>
     rw[hx]at e;exact ha x d e
   obtain⟨cl,e,p1,p2,p3⟩:=yU h1 h2 names ((n,c)::acc) hn' ha';refine⟨cl,?_,p1,λy hy hf=>?_,λx d hx=>?_⟩
   ·rw[C4,h2 n acc c hc,pure_bind];exact e
   ·rcases AM.mp hy with rfl|hy
    ·exact p3 n c<|by simp
    ·exact p2 y hy hf
   ·by_cases e1:x=n
    ·subst e1;exact p3 x c<|by simp
    ·exact p3 x d<|by rw[A7,beq_false_of_ne e1];exact hx
  ·obtain⟨cl,e,p1,p2,p3⟩:=yU h1 h2 names acc hn' ha;refine⟨cl,?_,p1,λy hy hf=>?_,p3⟩
   ·rw[C4,h1 n k acc hk,pure_bind];exact e
   ·rcases AM.mp hy with rfl|hy
    ·exact absurd hf hk
    ·exact p2 y hy hf
def jZ{scope:Scope}{env:Env}(hn:∀y∈scope.names,y.2=.free->∃c,env.cells.lookup y.1=some c) :
  ∃cl,closureFor scope env=pure cl/\(∀x c,cl.lookup x=some c->env.cells.lookup x=some c)/\∀y∈scope.names,y.2=.free->∃c,cl.lookup y.1=some c:=by
 unfold closureFor;have key:=yU (env:=env) (f:=λ(x:Str×NameKind) (r:Fl (Str×Fq))=>match x with
  |(name,kind)=>if (kind==NameKind.free)=true then (do let a <- cellOf env name;pure (ForInStep.yield ((name,a)::r)))else pure<|ForInStep.yield r)
  (λn k r hk=>by
   have hb:(k==NameKind.free)=false:=by simpa using hk
   show(if (k==NameKind.free)=true then _ else _)=_
   rw[hb]
   rfl)
  (λn r c hc=>by
   show(do let a <- cellOf env n;pure (ForInStep.yield ((n,a)::r)))=_
   unfold cellOf;rw[hc]
   rfl) scope.names [] hn (λx c h=>by simp at h)
 obtain⟨cl,e,p1,p2,_⟩:=key;refine⟨cl,?_,p1,p2⟩;show(forIn scope.names [] _ >>= λr=>pure r)=pure cl;exact(Eg (λt=>t >>= λr=>pure r) e).trans<|pure_bind _ _
section
variable{X:Cx}{pins:Fl (Fq×Obj)}{σ:St}{H:Hp}{s:Fp}
def ZbU{scope:Scope}{env:Env}{x:Str}(h:scope.names.lookup x=some .free):(relabel scope env).names.lookup x=some .cell\/(relabel scope env).names.lookup x=some .free:=by
 unfold relabel;show List.lookup x (scope.names.map _)=_\/List.lookup x (scope.names.map _)=_;generalize scope.names=l at h
 induction l with
 |nil=>simp at h
 | cons p r ih =>
  obtain⟨n,k⟩:=p;rw[Ax];cases hx:x==n with
  | true =>
   rw[A7,hx]at h;have hk:k=.free:=by simpa using h
   subst hk;by_cases hc:(NameKind.free==NameKind.free&&env.scope.kind == .function&&env.kindOf n==some .cell)=true
   ·refine .inl ?_;show List.lookup x ((if (NameKind.free==NameKind.free&&env.scope.kind == .function&&env.kindOf n==some .cell)=true then (n,NameKind.cell)else (n,NameKind.free))::_)=_
    rw[Ed hc,A7,hx]
   ·refine .inr ?_;show List.lookup x ((if (NameKind.free==NameKind.free&&env.scope.kind == .function&&env.kindOf n==some .cell)=true then (n,NameKind.cell)else (n,NameKind.free))::_)=_
    rw[Ef hc,A7,hx]
  | false =>
   rw[A7,hx]at h;have key:∀q:Str×NameKind,(q=(n,NameKind.cell)\/q=(n,k))->∀l',List.lookup x (q::l')=List.lookup x l':=λq hq l'=>by rcases hq with rfl|rfl <;> rw[A7,hx]
   have hq:(if (k==NameKind.free&&env.scope.kind == .function&&env.kindOf n==some .cell)=true then (n,NameKind.cell)else (n,k))=(n,NameKind.cell)\/(if (k==NameKind.free&&env.scope.kind == .function&&env.kindOf n==some .cell)=true then (n,NameKind.cell)else (n,k))=(n,k):=by
    split
    ·exact .inl rfl
    ·exact .inr rfl
   rcases ih h with z|z
   ·exact .inl<|(key _ hq _).trans z
   ·exact .inr<|(key _ hq _).trans z
def Zia{scope:Scope}{env:Env}{x:Str}(h:(relabel scope env).names.lookup x=some .cell\/(relabel scope env).names.lookup x=some .free):∃y∈scope.names,y.1=x/\(y.2=.free\/y.2=.cell):=by
 unfold relabel at h;have h':List.lookup x (scope.names.map λ(n,k)=>if (k == .free&&env.scope.kind == .function&&env.kindOf n==some .cell)then (n,NameKind.cell)else (n,k))=some .cell\/List.lookup x (scope.names.map λ(n,k)=>if (k == .free&&env.scope.kind == .function&&env.kindOf n==some .cell)then (n,NameKind.cell)else (n,k))=some .free:=h
 clear h;generalize scope.names=l at h'
 induction l with
 |nil=>simp at h'
 | cons p r ih =>
  obtain⟨n,k⟩:=p;rw[Ax]at h';cases hx:x==n with
  | true =>
   have hxn:x=n:=by simpa using hx
   by_cases hk:k=.free
   ·exact⟨(n,k),AB,hxn.symm,.inl hk⟩
   ·
    have hb:(k==NameKind.free)=false:=by simpa using hk
    have e:(if (k==NameKind.free&&env.scope.kind == .function&&env.kindOf n==some .cell)=true then (n,NameKind.cell)else (n,k))=(n,k):=by
     rw[hb]
     rfl
    have h2:List.lookup x ((n,k)::r.map λ(n,k)=>if (k == .free&&env.scope.kind == .function&&env.kindOf n==some .cell)then (n,NameKind.cell)else (n,k))=some .cell\/List.lookup x ((n,k)::r.map λ(n,k)=>if (k == .free&&env.scope.kind == .function&&env.kindOf n==some .cell)then (n,NameKind.cell)else (n,k))=some .free:=by rw[<- e];exact h'
    rw[A7,hx]at h2;rcases h2 with z|z
    ·exact⟨(n,k),AB,hxn.symm,.inr<|A8 z⟩
    ·exact absurd (A8 z) hk
  | false =>
   have hq:∀q:Str×NameKind,(q=(n,NameKind.cell)\/q=(n,k))->∀l',List.lookup x (q::l')=List.lookup x l':=λq hq l'=>by rcases hq with rfl|rfl <;> rw[A7,hx]
   have hqq:(if (k==NameKind.free&&env.scope.kind == .function&&env.kindOf n==some .cell)=true then (n,NameKind.cell)else (n,k))=(n,NameKind.cell)\/(if (k==NameKind.free&&env.scope.kind == .function&&env.kindOf n==some .cell)=true then (n,NameKind.cell)else (n,k))=(n,k):=by
    split
    ·exact .inl rfl
    ·exact .inr rfl
   obtain⟨y,hy,e⟩:=ih (by
    rcases h' with z|z
    ·exact .inl ((hq _ hqq _).symm.trans z)
    ·exact .inr ((hq _ hqq _).symm.trans z))
   exact⟨y,Az _ hy,e⟩
def vG:∀(names:Fl (Str×NameKind))(h:Fv)(acc:Fl (Str×Fq)),
  (∀x c,(cellsFrom h.objs.size names acc).lookup x=some c->acc.lookup x=some c\/(h.objs.size<=c/\(pushCells h names).IsCell c none/\(x,NameKind.cell)∈names)) /\
  (∀x,((x,NameKind.cell)∈names\/∃c,acc.lookup x=some c)->∃c,(cellsFrom h.objs.size names acc).lookup x=some c) /\
  (∀x c,(x,NameKind.cell)∈names->(cellsFrom h.objs.size names acc).lookup x=some c->h.objs.size<=c) /\
  ((∀x c,acc.lookup x=some c->c<h.objs.size)->(∀x y c,acc.lookup x=some c->acc.lookup y=some c->x=y)->∀x y c,(cellsFrom h.objs.size names acc).lookup x=some c->(cellsFrom h.objs.size names acc).lookup y=some c->x=y):=by
 intro names
 induction names with
 |nil=>intro h acc;exact⟨λx c e=>.inl e,λx e=>by rcases e with e|e;cases e;exact e,λx c e=>(by cases e),λ_ i=>i⟩
 | cons p r ih =>
  obtain⟨name,kind⟩:=p;intro h acc;unfold cellsFrom pushCells;by_cases hk:kind=.cell
  ·subst hk;have F0:((NameKind.cell==NameKind.cell)=true):=rfl;rw[Ed F0,Ed F0];have ih':=ih (h.push {cls:=.type "cell",data:=.cell none}) ((name,h.objs.size)::acc);rw[Bj]at ih';obtain⟨i1,i2,i4,i3⟩:=ih';refine⟨λx c e=>?_,λx e=>?_,λx c e1 e2=>?_,λhb hi=>i3 (λx c e=>?_) λx y c e1 e2=>?_⟩
   ·rcases i1 x c e with z|⟨z1,z2,z3⟩
    ·rw[A7]at z;cases hx:x==name with
     | true =>
      rw[hx]at z;have hxn:x=name:=by simpa using hx
      cases z;exact .inr ⟨Aw _,⟨_,Ez _ _ _ _<|AC _ rfl,rfl⟩,by rw[hxn];exact AB⟩
     |false=>rw[hx]at z;exact .inl z
    ·exact .inr ⟨by omega,z2,Az _ z3⟩
   ·refine i2 x ?_;by_cases hx:x=name
    ·exact .inr ⟨h.objs.size,by rw[A7,hx];simp⟩
    ·rcases e with e|⟨c,e⟩
     ·rcases AM.mp e with q|q
      ·exact absurd (Eg Prod.fst q) hx
      ·exact .inl q
     ·exact .inr ⟨c,by rw[A7,beq_false_of_ne hx];exact e⟩
   ·rcases i1 x c e2 with z|⟨z,_,_⟩
    ·rw[A7]at z;cases hx:x==name with
     |true=>rw[hx]at z;cases z;exact Aw _
     | false =>
      have hxn:x≠name:=by simpa using hx
      rcases AM.mp e1 with q|q
      ·exact absurd (Eg Prod.fst q) hxn
      ·exact Ch<|i4 x c q e2
    ·exact Ch z
   ·rw[A7]at e;cases hx:x==name with
    |true=>rw[hx]at e;cases e;exact Nat.lt_succ_self _
    |false=>rw[hx]at e;exact B2<|hb x c e
   ·rw[A7]at e1 e2;cases hx:x==name with
    | true =>
     have hxn:x=name:=by simpa using hx
     rw[hx]at e1;cases e1;cases hy:y==name with
     | true =>
      have hyn:y=name:=by simpa using hy
      rw[hxn,hyn]
     |false=>rw[hy]at e2;exact absurd (hb y _ e2) (AX _)
    | false =>
     rw[hx]at e1;cases hy:y==name with
     |true=>rw[hy]at e2;cases e2;exact absurd (hb x _ e1) (AX _)
     |false=>rw[hy]at e2;exact hi x y c e1 e2
  ·have F0:¬ ((kind==NameKind.cell)=true):=by simpa using hk
   rw[Ef F0,Ef F0];obtain⟨i1,i2,i4,i3⟩:=ih h acc;refine⟨λx c e=>?_,λx e=>i2 x ?_,λx c e1 e2=>?_,i3⟩
   ·rcases i1 x c e with z|⟨z1,z2,z3⟩
    ·exact .inl z
    ·exact .inr ⟨z1,z2,Az _ z3⟩
   ·rcases e with e|e
    ·rcases AM.mp e with q|q
     ·exact absurd (Eg Prod.snd q).symm hk
     ·exact .inl q
    ·exact .inr e
   ·rcases AM.mp e1 with q|q
    ·exact absurd (Eg Prod.snd q).symm hk
    ·exact i4 x c q e2
def oa{M:Model}{A:Fu}{E:DZ}{s:Fp}{scope:Scope}{globals:Fq}{cl:Fl (Str×Fq)}{qual:Str}{outer:Env}{Q:Env->Fp->Prop}
  (h:Q {scope:=scope,locals:=s.heap.objs.size,globals:=globals,cells:=cellsFrom (s.heap.objs.size+1) scope.names cl,qual:=qual,func:=none,code:=outer.code,frame:=outer.frame,builtins:=outer.builtins} {s with heap:=pushCells (s.heap.push {cls:=.type "dict",data:=.dict #[]}) scope.names}) :
  wpAny M A (newFunctionEnv scope globals cl [] qual none .none<|some outer) Q E s:=by
 simp only[newFunctionEnv,De,EM];refine wp<|wpAny_alloc ?_;refine wp<|wpAny_layCells _ (λname kind cells=>by cases hkc:kind==NameKind.cell <;> simp[hkc]) _ _ _ _ ?_
 rw[show({s with heap:=s.heap.push {cls:=.type "dict",data:=.dict #[]} }:Fp).heap.objs.size=s.heap.objs.size+1 from Bj ..]
 rw[DI];exact wp<|D9<|D9 h
def Zns{Nx ts:D4}{ix:Fl Nat}{i:Nat}{x:Str}(h:(bN Nx ts ix)[i]?=some x)(hi:ts.length<=i):∃j,ix[i-ts.length]?=some j/\x=(Nx[j]?).getD Str.empty:=by
 unfold bN at h;rw[A4 hi,AK]at h;cases e:ix[i-ts.length]? with
 |none=>rw[e]at h;cases h
 |some j=>rw[e]at h;exact⟨j,rfl,(A8 h).symm⟩
def qx{scope:Scope}{cl:Fl (Str×Fq)}{fp:Fl Fq}{C:Fq}{h3:Fv}{tk:Nat}{m:D6}{Nx ts:D4}{ix:Fl Nat}
  (I:Inv X pins σ H s) (FY:X.N=Nx) (ok:BlkOk Nx X.env.scope scope ix) (cs1:∀x c,cl.lookup x=some c->X.env.cells.lookup x=some c\/(C<c/\h3.IsCell c none/\(x,NameKind.cell)∈scope.names)) (csI:∀x y c,cl.lookup x=some c->cl.lookup y=some c->x=y) (cl2:∀y∈scope.names,(y.2=.free\/y.2=.cell)->∃c,cl.lookup y.1=some c) (csA:∀x c,(x,NameKind.cell)∈scope.names->cl.lookup x=some c->C<=c)
  (hf:∀b∈fp,fL X pins H b) (FS:∀b∈fp,b<s.heap.objs.size) (hC:s.heap.objs.size<=C) (kp:∀b o,s.heap.get? b=some o->h3.get? b=some o) (hns:h3.Ns C m) :
  Inv (aW X (bN Nx ts ix) scope ⟨cl,C,s,H,fp,X.pn++pins⟩) [] (db ts.length ix σ) H {s with heap:=h3,toks:=tk}:=by
 have below:∀{b:Fq},b<s.heap.objs.size->b≠C:=λhb=>AO<|AD hb hC;have nstk:∀b,b≠X.env.locals->b∉X.fs->b∉frs X.stack:=λb h1 h2 hb=>by
  rcases AM.mp (I.stkSub b hb)with z|z
  ·exact h1 z
  ·exact h2 z
 refine⟨⟨I.ok.mod,?_,I.ok.glob,I.ok.blt,hC,csI,λx hx=>?_,λx c hfn e=>AJ hC<|csA x c (BC<|eq_of_beq hfn) e,I.ok.hd,I.ok.frames,.inl rfl,λb hb=>⟨below<|FS b hb,λx c e=>by
  rcases cs1 x c e with z|⟨z,_,_⟩
  ·exact(hf b hb).2.2.2.2.1 x c z
  ·exact A5 (AD (FS b hb)<|AJ hC<|B5 z)⟩,I.bs,AJ I.ok.bsz I.sz,λb o e hb=>?_,λb hb=>nstk b (hf b hb).2.1 (hf b hb).2.2.1,I.stack,I.stkFree⟩,
  rfl,I.bare,Un.kept kp,⟨m,hns,λi x v h1 h2 h3'=>?_⟩,λx c e=>?_,I.hok.fresh hC,λx c e=>by
  rcases cs1 x c e with z|⟨z,_,_⟩
  ·exact I.freeC x c z
  ·exact I.hok.fresh (AJ hC<|B5 z),λp hp=>?_,I.hok.kept kp,?_⟩
 ·exact ok.kind
 ·have hx':(relabel scope X.env).names.lookup x=some .cell\/(relabel scope X.env).names.lookup x=some .free:=hx;obtain⟨y,hy,e1,e2⟩:=Zia hx';obtain⟨c,hc⟩:=cl2 y hy e2;exact⟨c,by rw[<- e1];exact hc⟩
 ·rcases(hf b hb).2.2.2.1 with z|z
  ·exact I.ok.noex b o e z
  ·exact absurd (AD (AI e)<|AJ I.ok.bsz z)<|AX _
 ·have hi:ts.length<=i:=by
   rcases Nat.lt_or_ge i ts.length with z|z
   ·exfalso;have h2':(db ts.length ix σ)[i]?=some (some v):=h2;unfold db at h2';rw[AV<|by simpa using z,Ba]at h2'
    split at h2' <;> cases h2'
   ·exact z
  obtain⟨j,hj,ex⟩:=Zns h1 hi;have h2':(db ts.length ix σ)[i]?=some (some v):=h2;unfold db at h2';rw[A4<|by simpa using hi,AK,CG,hj]at h2'
  have hσ:σ[j]?=some (some v):=by
   have q:(σ[j]?).getD none=some v:=A8 h2';cases e:σ[j]? with
   |none=>rw[e]at q;cases q
   |some w=>rw[e]at q;exact Eg some q
  obtain⟨hjl,FQ⟩:=ok.caps j<|Bi hj;have hNj:X.N[j]?=some x:=by
   rw[FY,ex,Au hjl]
   rfl
  rw[<- ex]at FQ;obtain⟨c,hc⟩:=cl2 (x,.free) (BC FQ)<|.inl rfl;have cl1:X.env.cells.lookup x=some c:=by
   rcases cs1 x c hc with z|⟨_,_,z⟩
   ·exact z
   ·have:=ok.cells _ z rfl;rw[FQ]at this;cases this
  have kx:=ok.frees (x,.free) (BC FQ) rfl;obtain⟨m0,hn0,hl0⟩:=I.loc;obtain⟨u,ru,look⟩:=hl0 j x v hNj hσ<|by rcases kx with z|z;exact .inr (.inl z);exact .inr (.inr z)
  refine⟨u,ru,.inr ⟨ZbU FQ,c,hc,?_⟩⟩;rcases look with ⟨k1,_⟩|⟨_,c',hc',z⟩
  ·have k1':X.env.scope.names.lookup x=some .local:=k1;rcases kx with z|z
   ·rw[k1']at z;cases z
   ·rw[k1']at z;cases z
  ·have e:=cl1;rw[hc']at e;cases e;obtain⟨o,ho,hd⟩:=z;exact⟨o,kp _ _ ho,hd⟩
 ·rcases cs1 x c e with z|⟨_,z,_⟩
  ·obtain⟨v,o,ho,hd⟩:=I.cell x c z;exact⟨v,o,kp _ _ ho,hd⟩
  ·exact⟨_,z⟩
 ·have hp':p∈X.pn++pins:=by simpa [aW]using hp
  obtain⟨e,n,ne,nf,d⟩:=I.pin p hp';exact⟨kp _ _ e,n,below<|AI e,nstk _ ne nf,d⟩
 ·show(db ts.length ix σ).length=(bN Nx ts ix).length;unfold db bN;simp
def Inv.track{D:Fq}{ys:D5}{Fz:D3}{n:Nat}(I:Inv X pins σ H s)(hD:H D=none)(ho:s.heap.get? D=some {cls:=.type "list",data:=.seq Fz.toArray n})(r:Vals ys Fz)(hz:ys.length<=sizeLine)
  (hL:D≠X.env.locals) (hs0:X.s₀.heap.objs.size<=D) (hc:∀x c,X.env.cells.lookup x=some c->c≠D) (hp:∀p∈X.pn++pins,p.1≠D):Inv X pins σ (upd H D<|.lst ys) s:=by
 have ne:∀{b:Fq}{o:HO},H b=some o->b≠D:=λe=>di e hD;refine I.step (g':=s.gens) (d':=s.drawn) (t':=s.toks) (h':=s.heap) (ch:=[D]) (λb hb=>?_) (λb o _ _ _ e _=>e) (λb o _ _ _ e _=>⟨o.slots,e⟩) (λb o hb e n=>?_) (λb o _ e=>⟨o,e⟩)
  (λb xs e=>by rw[aM<|ne e];exact e) (λb o u e=>by rw[aM<|ne e];exact e) (λb ps e=>⟨#[],by rw[aM<|ne e,e];simp⟩) (λm hm=>hm) (λb u e=>?_) I.bare
 ·have e:b=D:=by simpa using hb
  subst e;exact⟨.inr hs0,hL,hc,hp⟩
 ·have FZ:b≠D:=by simpa using hb
  rw[aM FZ];exact n
 ·by_cases hb:b=D
  ·subst hb;rw[bY]at e;cases e;exact⟨hz,Fz,n,r,ho⟩
  ·rw[aM hb]at e;exact(I.hok b u e).stay (λc v _ q=>q) (λc q=>by rw[aM<|ne q];exact q) (λc xs q=>by rw[aM<|ne q];exact q) λc ob xs _ q _=>by rw[aM<|ne q];exact q
end
def ZmI{prog:Fs}{w:Ft}{A:Fu}{R:Result->Fp->Prop}{s:Fp}{elt target iter:Fw}{scope:Scope}{pos:Pos}{it acc:Fo}{env:Env}(J:Nat->Fp->Prop)
  (step:∀k s0,J k s0->wpAny (model prog w) A (pyNext it) (λgot s1=>match got with
   |none=>R (.ok .next) s1
   | some v=>wpAny (model prog w) A (letOwnedTupleGo target it v) (λ_ s2=>wpAny (model prog w) A (assign target env v) (λ_ s3=>wpAny (model prog w) A (eval elt env) (λy s4 =>
     wpAny (model prog w) A (call (.builtin "list.append") [acc,y]) (λ_ s5=>∃j,j<k/\J j s5) (λ_ _=>False) s4) (λ_ _=>False) s3) (λ_ _=>False) s2) (λ_ _=>False) s1) (λ_ _=>False) s0)
  (k:Nat) (h:J k s):codeAny (model prog w) A (.compLoop (.ListComp elt [⟨target,iter,[],0⟩] scope pos) 0 it acc env) R s:=by
 refine E9 rfl J (λk0 s0 hJ=>?_) k h;show wpAny _ _ ((compTurn (.ListComp elt [⟨target,iter,[],0⟩] scope pos) 0 it acc env).onRaise<|λx=>do noteFrame x env;theTreesLotGoes x) _ _ s0
 apply Fb;rw[compTurn_list1];refine wp (Ep<|wp<|Ei (step k0 s0 hJ) (λgot s1 h1=>?_) λ_ _ z=>z.elim);cases got with
 |none=>exact D9 h1
 | some v =>
  refine wp (Ei h1 (λ_ s2 h2=>?_) λ_ _ z=>z.elim);refine wp (Ei h2 (λ_ s3 h3=>?_) λ_ _ z=>z.elim);refine wp (wp<|Ei h3 (λy s4 h4=>?_) λ_ _ z=>z.elim);exact wp<|Ei h4 (λ_ s5 h5=>D9<|D9 ⟨rfl,h5⟩) λ_ _ z=>z.elim
def iO(wi:TI)(n:Nat)(ix:Fl Nat)(g:Blk->TG)(te:Blk->TE):TE:=λσ H Q=>wi σ H λJ H1=>∀b:Blk,∃W:Nat->Nat->St->Fl V->Hp->Prop,(∃m,W 0 m (db n ix σ) [] H1)/\∀i m τ ys H2,W i m τ ys H2 ->
 (J.stop i H2/\∀p v H',H2 p=none->v=V.ref p->H'=upd H2 p (.lst ys)->Q v H') \/
 (J.go i H2/\ys.length<sizeLine/\∀x H3,J.yld i H2 x H3->g b x τ H3 λτ2 H4=>te b τ2 H4 λy H5=>∃m',m'<m/\W (i+1) m' τ2 (ys++[y]) H5)
section
variable{X:Cx}{pins:Fl (Fq×Obj)}{σ:St}{H:Hp}{s:Fp}
def Zdx{elt target iter:Fw}{scope:Scope}{pos:Pos}{Nx ts:D4}{ix:Fl Nat}{g:Blk->TG}{te:Blk->TE}{cl:Fl (Str×Fq)}{s2:Fp}{itv:Fo}{R:Fo->Fq->Result->Fp->Prop}
  {E:DZ} {Q:VK}
  (hc:X.calm=true) (hg:∀b,PG (aW X (bN Nx ts ix) scope b) target<|g b) (he:∀b,PE (aW X (bN Nx ts ix) scope b) elt<|te b)
  (FY:X.N=Nx) (ok:BlkOk Nx X.env.scope scope ix) (cl1:∀x c,cl.lookup x=some c->X.env.cells.lookup x=some c) (cl2:∀y∈scope.names,y.2=.free->∃c,cl.lookup y.1=some c)
  (h2:lW X pins σ target (λJ H1=>∀b:Blk,∃W:Nat->Nat->St->Fl V->Hp->Prop,(∃m,W 0 m (db ts.length ix σ) [] H1)/\∀i m τ ys H2,W i m τ ys H2 ->
   (J.stop i H2/\∀p v H',H2 p=none->v=V.ref p->H'=upd H2 p (.lst ys)->Q v H') \/
   (J.go i H2/\ys.length<sizeLine/\∀x H3,J.yld i H2 x H3->g b x τ H3 λτ2 H4=>te b τ2 H4 λy H5=>∃m',m'<m/\W (i+1) m' τ2 (ys++[y]) H5)) itv s2)
  (hR:∀(D C:Fq)(H':Hp)(s':Fp)(v:V),Inv X pins σ H' s'->v=.ref D->Q v H'->(∃m,s'.heap.Ns C m)->H' C=none->C≠X.env.locals->X.s₀.heap.objs.size<=C->(∀x c,X.env.cells.lookup x=some c->c≠C)->(∀p∈X.pn++pins,p.1≠C) ->
   R (.ref D) C (.ok .next) s') :
  wpAny (model X.prog X.w) X.A (newList []) (λacc s₃=>wpAny (model X.prog X.w) X.A (newFunctionEnv scope X.env.globals cl [] X.env.qual none .none<|some X.env) (λcenv s₄ =>
   codeAny (model X.prog X.w) X.A (.compStart (.ListComp elt [⟨target,iter,[],0⟩] scope pos) 0 itv acc {cenv with scope:=relabel scope X.env}) (R acc cenv.locals) s₄) E s₃) E s2:=by
 obtain⟨it,fp,tn,J,H1,e,I2,T,st2,f2,q2⟩:=h2;subst e;refine Ee<|oa ?_;dsimp only;generalize hG:s2.heap.push {cls:=.type "list",dict:=none,data:=.seq ([]:D3).toArray}=G;have hGs:G.objs.size=s2.heap.objs.size+1:=by rw[<- hG,Bj]
 have FS:∀b∈fp,b<s2.heap.objs.size:=λb hb=>let ⟨o,e,_⟩:=T.obj _ _ st2 b hb;AI e
 have kpG:∀b o,G.get? b=some o->(pushCells (G.push {cls:=.type "dict",data:=.dict #[]}) scope.names).get? b=some o:=λb o e=>Ez _ _ _ _<|v9 _ e;have FN:(pushCells (G.push {cls:=.type "dict",data:=.dict #[]}) scope.names).Ns G.objs.size (λ_=>none):=(Heap.Ns.new G<|.type "dict").keeps<|Ez _ _;obtain⟨sp1,sp2,sp4,sp3⟩:=vG scope.names (G.push {cls:=.type "dict",data:=.dict #[]}) cl;rw[Bj]at sp1 sp2 sp3 sp4;generalize hh3:pushCells (G.push {cls:=.type "dict",data:=.dict #[]}) scope.names=h3 at kpG FN sp1 ⊢;have kp:∀b o,s2.heap.get? b=some o->h3.get? b=some o:=λb o e=>kpG b o<|by rw[<- hG];exact v9 _ e
 have hD3:h3.get? s2.heap.objs.size=some {cls:=.type "list",data:=.seq ([]:D3).toArray}:=kpG _ _<|by rw[<- hG];exact AC _ rfl
 have clB:∀x c,cl.lookup x=some c->c<G.objs.size+1:=λx c e=>by obtain⟨v,q⟩:=I2.cell x c<|cl1 x c e;exact B2<|AD q.lt<|by rw[hGs];exact Db _
 have csI:=sp3 clB λx y c e1 e2=>I2.ok.inj x y c (cl1 x c e1)<|cl1 y c e2;have cs1:∀x c,(cellsFrom (G.objs.size+1) scope.names cl).lookup x=some c->X.env.cells.lookup x=some c\/(G.objs.size<c/\h3.IsCell c none/\(x,NameKind.cell)∈scope.names):=λx c e=>by
  rcases sp1 x c e with z|⟨z1,z2,z3⟩
  ·exact .inl<|cl1 x c z
  ·exact .inr ⟨by omega,z2,z3⟩
 have cs2:∀y∈scope.names,(y.2=.free\/y.2=.cell)->∃c,(cellsFrom (G.objs.size+1) scope.names cl).lookup y.1=some c:=λy hy hk=>by
  refine sp2 y.1 ?_;rcases hk with z|z
  ·exact .inr<|cl2 y hy z
  ·exact .inl<|by rw[<- z];exact hy
 have csA:∀x c,(x,NameKind.cell)∈scope.names->(cellsFrom (G.objs.size+1) scope.names cl).lookup x=some c->G.objs.size<=c:=λx c e1 e2=>Ch<|sp4 x c e1 e2;generalize hcs:cellsFrom (G.objs.size+1) scope.names cl=cs at csI cs1 cs2 csA ⊢;generalize hCe:G.objs.size=C at FN cs1 csA ⊢;have hC:s2.heap.objs.size<=C:=by omega
 have hDC:s2.heap.objs.size≠C:=by omega
 let B:Blk:=⟨cs,C,s2,H1,fp,X.pn++pins⟩
 have I3:Inv (aW X (bN Nx ts ix) scope B) [] (db ts.length ix σ) H1 {s2 with heap:=h3}:=qx I2 FY ok cs1 csI cs2 csA f2 FS hC kp FN;have fC:H1 s2.heap.objs.size=none:=I2.hok.fresh<|Aw _;have cellIn:∀x c,cs.lookup x=some c->c≠s2.heap.objs.size:=λx c e=>by
  rcases cs1 x c e with z|⟨z,_,_⟩
  ·obtain⟨v,q⟩:=I2.cell x c z;exact AO q.lt
  ·exact A5<|By hC z
 have pinIn:∀p∈X.pn++pins,p.1<s2.heap.objs.size:=λp hp=>AI (I2.pin p hp).1;have nofrs:s2.heap.objs.size∉frs X.stack:=λhb=>by
  rcases AM.mp (I2.stkSub _ hb)with z|z
  ·exact absurd I2.lt<|by rw[<- z];exact AX _
  ·exact I2.nofs (Aw _) z
 -- a state with the list at Fz place,pinned
 have pinD:∀{τ:St}{H':Hp}{s':Fp}{ob:Obj},Inv (aW X (bN Nx ts ix) scope B) [] τ H' s'->s'.heap.get? s2.heap.objs.size=some ob->H' s2.heap.objs.size=none->(∀v,ob.data≠.cell v)->Inv (aW X (bN Nx ts ix) scope B) [(s2.heap.objs.size,ob)] τ H' s' :=
  λ{τ H' s' ob} I' ho hn hd=>I'.pins_of λp hp=>by
   have e:p=(s2.heap.objs.size,ob):=by simpa using hp
   subst e;exact⟨ho,hn,hDC,nofrs,hd⟩
 obtain⟨W,⟨m0,w0⟩,turn⟩:=q2 B;have stat:∀{H':Hp}{ob:Obj},(∀b∈fp,H' b=none)->∀b∈fp,fL (aW X (bN Nx ts ix) scope B) [(s2.heap.objs.size,ob)] H' b:=λ{H' ob} hn b hb=>by
  refine⟨hn b hb,AO<|AD (FS b hb) hC,λz=>?_,.inl hb,λx c e=>by
   rcases cs1 x c e with z|⟨z,_,_⟩
   ·exact(f2 b hb).2.2.2.2.1 x c z
   ·exact A5 (AD (FS b hb)<|AJ hC<|B5 z),λp hp=>?_⟩
  ·rcases AM.mp (I2.stkSub _ z)with q|q
   ·exact(f2 b hb).2.1 q
   ·exact(f2 b hb).2.2.1 q
  ·rcases Bh.mp hp with z|z
   ·exact(f2 b hb).2.2.2.2.2 p z
   ·have e:p=(s2.heap.objs.size,ob):=by simpa using z
    subst e;exact A5<|FS b hb
 have loop:∀s4:Fp,s4={s2 with heap:=h3} ->
   codeAny (model X.prog X.w) X.A (.compLoop (.ListComp elt [⟨target,iter,[],0⟩] scope pos) 0 (.ref it) (.ref s2.heap.objs.size)<|compEnvC scope cs C X.env) (R (.ref s2.heap.objs.size) C) s4:=by
  rintro s4 rfl;refine ZmI (λk s'=>∃i τ ys Fz n H',Inv (aW X (bN Nx ts ix) scope B) [(s2.heap.objs.size,({cls:=.type "list",data:=.seq (List.toArray Fz) n}:Obj))] τ H' s'/\tn i s'.heap/\(∀b∈fp,H' b=none)/\Vals ys Fz/\ys.length<=sizeLine/\W i k τ ys H') ?_ m0
   ⟨0,_,[],[],_,H1,pinD I3 hD3 fC (λv z=>by cases z),T.keep _ _ _ st2 λb hb o e=>kp b o e,λb hb=>(f2 b hb).1,.nil,Bf _,w0⟩
  rintro k s5 ⟨i,τ,ys,Fz,n,H5,I5,st5,fr5,rv,hz,w5⟩;rcases turn i k τ ys H5 w5 with ⟨stop,qn⟩|⟨go,FC,step⟩
  ·refine thn (T.done (aW X (bN Nx ts ix) scope B) rfl rfl rfl hc i _ s5 τ H5 _ I5 (stat fr5) st5 stop) λgot s6 Fy=>?_;obtain⟨hr,I6⟩:=Fy;subst hr;obtain⟨ho,hn,_,_,_⟩:=I6.pin (s2.heap.objs.size,({cls:=.type "list",data:=.seq (List.toArray Fz) n}:Obj)) (AA _<|by simp)
   have I7:Inv X pins σ H5 s6:=I2.call' (ch:=fp) (H':=H5) (by exact I6.os) I6.base I6.hok I6.bare λb hb=>⟨(f2 b hb).2.2.2.1,(f2 b hb).2.1,(f2 b hb).2.2.2.2.1,(f2 b hb).2.2.2.2.2⟩
   have hs0:X.s₀.heap.objs.size<=s2.heap.objs.size:=I2.sz;have I8:=I7.track hn ho rv hz (A5 I2.lt) hs0 (λx c e z=>by obtain⟨v,q⟩:=I2.cell x c e;exact absurd q.lt<|by rw[z];exact AX _)<|λp hp=>AO<|pinIn p hp
   obtain⟨m6,hm6,_⟩:=I6.loc;refine hR _ C _ s6 _ I8 rfl (qn _ _ _ hn rfl rfl) ⟨m6,hm6⟩ ?_ (λz=>?_) (AJ hs0 hC) (λx c e z=>?_) λp hp=>AO<|AD (pinIn p hp) hC
   ·rw[aM<|Ne.symm hDC];exact I6.free
   ·exact absurd (AD I2.lt hC)<|by rw[z];exact AX _
   ·obtain⟨v,q⟩:=I2.cell x c e;exact absurd (AD q.lt hC)<|by rw[z];exact AX _
  ·refine thn (T.item (aW X (bN Nx ts ix) scope B) rfl rfl rfl hc i _ s5 τ H5 _ I5 (stat fr5) st5 go) λgot s6 Fy=>?_;obtain⟨u,hr,h6⟩:=Fy;subst hr;refine thn h6 λ_ s7 Fy=>?_;obtain⟨x,H7,I7,r7,y7,st7,fr7⟩:=Fy;have I7':=I7.pinned (stat fr7)<|T.obj _ _ st7;refine thn (hg B _ s7 τ H7 x u _ I7' r7<|step x H7 y7) λ_ s8 Fy=>?_;obtain⟨τ8,H8,I8,q8⟩:=Fy;refine thn (he B _ s8 τ8 H8 _ I8 q8) λy s9 Fy=>?_;obtain⟨vy,H9,I9,r9,m',hm',w9⟩:=Fy;obtain⟨ho,hn,_,_,_⟩:=I9.pin (s2.heap.objs.size,({cls:=.type "list",data:=.seq (List.toArray Fz) n}:Obj)) (AA _<|Be _<|by simp)
   have lenv:=rv.length;refine EX (l:=s2.heap.objs.size) ⟨n,ho⟩ (λh' FO FU=>?_)<|by rw[AG];omega
   obtain⟨n',FT⟩:=FO;have eobj:(Fz.toArray.push y)=List.toArray (Fz++[y]):=by simp
   rw[eobj]at FT;have I9':Inv (aW X (bN Nx ts ix) scope B) [] τ8 H9 s9:=I9.pins_of λp hp=>absurd hp<|by simp
   have I10:Inv (aW X (bN Nx ts ix) scope B) [] τ8 H9 {s9 with heap:=h'}:=I9'.turned (it:=s2.heap.objs.size) (t':=s9.toks) (λb o hb e=>(FU.2 b hb).trans e) hn hDC (.inr<|Aw _) cellIn (λp hp=>by have hp':p∈(X.pn++pins)++[]:=hp;rw[A3]at hp';exact AO<|pinIn p hp')
   refine⟨m',hm',i+1,τ8,ys++[vy],Fz++[y],n',H9,pinD I10 FT hn (λv z=>by cases z),?_,λb hb=>?_,rv.append<|.cons r9 .nil,by rw[AQ];show ys.length+1<=_;omega,w9⟩
   ·refine T.keep _ _ _ st7 λb hb o e=>?_;have q:=(I9.pin (b,o)<|AA _<|AA _<|fy hb e).1;exact(FU.2 b<|AO<|FS b hb).trans q
   ·obtain⟨o,e,d⟩:=T.obj _ _ st7 b hb;exact(I9.pin (b,o)<|AA _<|AA _<|fy hb e).2.1
 exact E4 (loop _ rfl)<|T.self X.A 0 _ _ _ (T.keep _ _ _ st2 λb hb o e=>kp b o e)<|loop _ rfl
def eW{elt target iter:Fw}{scope:Scope}{pos:Pos}{wi:TI}{g:Blk->TG}{te:Blk->TE}(Nx:D4)(ts:D4)(ix:Fl Nat)
  (hc:X.calm=true) (hi:PI X target iter wi) (hg:∀b,PG (aW X (bN Nx ts ix) scope b) target<|g b) (he:∀b,PE (aW X (bN Nx ts ix) scope b) elt<|te b)
  (FY:X.N=Nx) (ok:BlkOk Nx X.env.scope scope ix) (hs:∀x,foldedSetIterable iter X.env x=pure x:=by intro _;rfl) :
  PE X (.ListComp elt [⟨target,iter,[],0⟩] scope pos) (iO wi ts.length ix g te):=by intro pins s σ H Q I h;obtain⟨cl,hcl,cl1,cl2⟩:=jZ (scope:=scope) (env:=X.env) λy hy hf=>I.ok.has y.1<|ok.frees y hy hf;rw[eval_ListComp];refine Es (use:=none) rfl hs hcl ok.kind ok.locs (thn (hi pins s σ H _ I h) λv s1 h1=>thn h1 λitv s2 h2=>?_);refine Zdx (R:=λacc C=>compPost (model X.prog X.w) X.A X.xe none (EP X pins σ Q) acc C) hc hg he FY ok cl1 cl2 h2 ?_;rintro D C H' s' v I' rfl q ⟨m,hm⟩ hn hL h0 FM hp;exact⟨m,hm,λh' FU=>⟨.ref D,H',I'.turned (it:=C) (t':=s'.toks) (λb o hb e=>(FU.2 b hb).trans e) hn hL (.inr h0) FM hp,rfl,q⟩⟩
def x0{elt target iter:Fw}{scope:Scope}{pos pos' spos:Pos}{wi:TI}{g:Blk->TG}{te:Blk->TE}{i:Nat}{x:Str}(Nx:D4)(ts:D4)(ix:Fl Nat)
  (hc:X.calm=true) (hN:X.N.Nodup) (hix:X.N[i]?=some x) (hx:X.env.scope.names.lookup x=some .local) (hi:PI X target iter wi) (hg:∀b,PG (aW X (bN Nx ts ix) scope b) target<|g b) (he:∀b,PE (aW X (bN Nx ts ix) scope b) elt<|te b)
  (FY:X.N=Nx) (ok:BlkOk Nx X.env.scope scope ix) (hsw:swapsWith (.ListComp elt [⟨target,iter,[],0⟩] scope pos) (some<|.Name x pos') spos.line X.env=pure true) (hs:∀x,foldedSetIterable iter X.env x=pure x:=by intro _;rfl) :
  PS X (.Assign [.Name x pos'] (.ListComp elt [⟨target,iter,[],0⟩] scope pos) spos) (dC (iO wi ts.length ix g te)<|dH i):=by
 intro pins s σ H D0 I h;obtain⟨cl,hcl,cl1,cl2⟩:=jZ (scope:=scope) (env:=X.env) λy hy hf=>I.ok.has y.1<|ok.frees y hy hf;rw[E7 _ _ _ _ hsw];refine wp<|Ep<|wp ?_;show wpAny _ X.A (do let _ <- comprehension (.ListComp elt [⟨target,iter,[],0⟩] scope pos) scope X.env _ (newList []) false (eval iter X.env) (some<|assign (.Name x pos') X.env)) _ _ s
 refine wp (thn (Es (use:=some<|assign (.Name x pos') X.env) (Q:=λ_ s'=>SP X pins D0 .next s') rfl hs hcl ok.kind ok.locs (thn (hi pins s σ H _ I h) λv s1 h1=>thn h1 λitv s2 h2=>?_)) λ_ s' hq=>D9<|D9 hq);refine Zdx (R:=λacc C=>compPost (model X.prog X.w) X.A X.xe (some<|assign (.Name x pos') X.env) (λ_ s'=>SP X pins D0 .next s') acc C) (Q:=λx H1=>dH i x σ H1 D0.nx) hc hg he FY ok cl1 cl2 h2 ?_;rintro D C H' s' v I' rfl q ⟨m,hm⟩ hn hL h0 FM hp;show wpAny _ X.A (assign (.Name x pos') X.env<|.ref D) _ _ _;refine EU<|oz I' hN hix (.inl hx) (show RelV (.ref D) (.ref D)from rfl) (λs'' I'' hch=>?_)<|.inr hx
 obtain⟨a,FU,ha⟩:=hch;have haC:C≠a:=by
  rcases ha with z|z
  ·rw[z];exact hL
  ·exact λe=>FM _ _ z e.symm
 exact⟨m,hm.sameBut FU haC,λh'' hs''=>⟨_,H',I''.turned (it:=C) (t':=s''.toks) (λb o hb e=>(hs''.2 b hb).trans e) hn hL (.inr h0) FM hp,q⟩⟩
end
def Zh9{scope:Scope}{env:Env}{x:Str}(h:scope.names.lookup x=some .cell\/scope.names.lookup x=some .free):(relabel scope env).names.lookup x=some .cell\/(relabel scope env).names.lookup x=some .free:=by
 rcases h with h|h
 ·refine .inl ?_;unfold relabel;show List.lookup x (scope.names.map _)=_;generalize scope.names=l at h
  induction l with
  |nil=>simp at h
  | cons p r ih =>
   obtain⟨n,k⟩:=p;rw[Ax];show List.lookup x ((if (k==NameKind.free&&env.scope.kind == .function&&env.kindOf n==some .cell)=true then (n,NameKind.cell)else (n,k))::_)=_
   cases hx:x==n with
   | true =>
    rw[A7,hx]at h;have hk:k=.cell:=by simpa using h
    subst hk;rw[Ef<|by rw[show(NameKind.cell==NameKind.free)=false from rfl];simp,A7,hx]
   | false =>
    rw[A7,hx]at h
    split <;> rw[A7,hx] <;> exact ih h
 ·exact ZbU h
def BlkOk.nest{Nx:D4}{sc scope:Scope}{env:Env}{ix:Fl Nat}(h:BlkOk Nx sc scope ix):BlkOk Nx (relabel sc env) scope ix :=
 ⟨h.kind,h.cells,h.locs,λy hy z=>Zh9<|h.frees y hy z,h.caps⟩
mutual
/-- the value bears the datum -/
inductive Dn(H:Hp):V->Fn->Prop
 |non:Dn H .non .none
 |bl (b:Bool):Dn H (.bl b) (.bool b)
 |int (i:Int):Dn H (.int i) (.int i)
 |str (x:Str):Dn H (.str x) (.str x)
 |tup {a:Fq} {xs:D5} {ds:D1}:H a=some (.tup xs)->DnAll H xs ds->Dn H (.ref a) (.tuple ds)
 |lst {a:Fq} {xs:D5} {ds:D1}:H a=some (.lst xs)->DnAll H xs ds->Dn H (.ref a) (.list ds)
 |dct {a:Fq} {ks:List (aL×V)} {ds:D1}:Rd H a (.dK ks)->DnAll H (ks.map (·.2)) ds->Dn H (.ref a) (.dict<|(ks.map λk=>match k.1 with|.inl i=>PyData.int i|.inr x=>PyData.str x).zip ds)
 |dcp {a:Fq} {o:Obj} {ks:List (D2×V)} {ds:D1}:ks≠[]->H a=some (.frz o<|.dT<|ks.map λk=>(k.1.map Sum.inl,k.2))->DnAll H (ks.map (·.2)) ds->Dn H (.ref a) (.dict<|(ks.map λk=>PyData.tuple<|k.1.map PyData.int).zip ds)
inductive DnAll(H:Hp):List V->List Fn->Prop
 |nil:DnAll H [] []
 |cons {v:V} {vs:D5} {d:Fn} {ds:D1}:Dn H v d->DnAll H vs ds->DnAll H (v::vs) (d::ds)
end
mutual
theorem Dn.mono{H H':Hp}(e:∀b o,H b=some o->H' b=some o):∀{v:V}{d:Fn},Dn H v d->Dn H' v d
 |_,_,.non=>.non
 |_,_,.bl b=>.bl b
 |_,_,.int i=>.int i
 |_,_,.str x=>.str x
 |_,_,.tup h r=>.tup (e _ _ h) (DnAll.mono e r)
 |_,_,.lst h r=>.lst (e _ _ h) (DnAll.mono e r)
 |_,_,.dct h r=>.dct (h.imp (e _ _) λ⟨o,h⟩=>⟨o,e _ _ h⟩) (DnAll.mono e r)
 |_,_,.dcp n h r=>.dcp n (e _ _ h)<|DnAll.mono e r
theorem DnAll.mono{H H':Hp}(e:∀b o,H b=some o->H' b=some o):∀{vs:D5}{ds:D1},DnAll H vs ds->DnAll H' vs ds
 |_,_,.nil=>.nil
 |_,_,.cons r t=>.cons (Dn.mono e r)<|DnAll.mono e t
end
theorem DnAll.ints{H:Hp}:∀ns:D2,DnAll H (ns.map V.int) (ns.map PyData.int)
 | []=>.nil
 |n::ns=>.cons (.int n)<|DnAll.ints ns
theorem DnAll.length{H:Hp}{vs:D5}{ds:D1}(h:DnAll H vs ds):vs.length=ds.length:=by
 induction vs generalizing ds with
 |nil=>cases h;rfl
 |cons v vs ih=>cases h with|cons r t=>exact Eg (·+1)<|ih t
def DnAll.append{H:Hp}{vs ws:D5}{ds es:D1}(h:DnAll H vs ds)(s:DnAll H ws es):DnAll H (vs++ws) (ds++es):=by
 induction vs generalizing ds with
 |nil=>cases h;exact s
 |cons v vs ih=>cases h with|cons r t=>exact .cons r<|ih t
mutual
/-- data without dicts -/
theorem Dn.reads{P:Fs}{w:Ft}{H:Hp}{h:Fv}(ok:HOk P w H h):∀{v:V}{d:Fn}{u:Fo},Dn H v d->d.hasDict=false->RelV v u->∃as,Reads h u d as
 |_,_,_,.non,_,r=>by cases r;exact⟨_,.none⟩
 |_,_,_,.bl b,_,r=>by cases r;exact⟨_,.bool b⟩
 |_,_,_,.int i,_,r=>by obtain⟨t,rfl⟩:=r;exact⟨_,.int i t⟩
 |_,_,_,.str x,_,r=>by obtain⟨t,rfl⟩:=r;exact⟨_,.str x t⟩
 | _,_,_,.tup e rs,hd,r=>by
  cases r;obtain⟨z,Fz,rv,o,h1,h2,n,h3⟩:=ok _ _ e;obtain⟨as,q⟩:=DnAll.reads ok rs (by simpa [PyData.hasDict]using hd) rv
  exact⟨_,.tuple h1 h2 h3<|by simpa using q⟩
 | _,_,_,.lst e rs,hd,r=>by
  cases r;obtain⟨z,Fz,n,rv,h1⟩:=ok _ _ e;obtain⟨as,q⟩:=DnAll.reads ok rs (by simpa [PyData.hasDict]using hd) rv
  exact⟨_,.list h1 rfl rfl (by simpa using q)⟩
 |_,_,_,.dct e rs,hd,r=>by simp[PyData.hasDict]at hd
 |_,_,_,.dcp n e rs,hd,r=>by simp[PyData.hasDict]at hd
theorem DnAll.reads{P:Fs}{w:Ft}{H:Hp}{h:Fv}(ok:HOk P w H h):∀{vs:D5}{ds:D1}{us:D3},DnAll H vs ds->PyData.hasDictAll ds=false->Vals vs us->∃as,ReadsAll h us ds as
 |_,_,_,.nil,_,r=>by cases r;exact⟨_,.nil⟩
 | _,_,_,.cons p t,hd,r=>by
  cases r with
  | cons r1 r2 =>
   simp only[PyData.hasDictAll,Bool.or_eq_false_iff]at hd;obtain⟨as,q⟩:=Dn.reads ok p hd.1 r1;obtain⟨bs,q2⟩:=DnAll.reads ok t hd.2 r2;exact⟨_,.cons q q2⟩
end
section
variable{X:Cx}
def Zjd{k:Nat}(hr:Room k X.A):OpR X (compareOp .Eq) (λx y H Q=>∃d e,Dn H x d/\Dn H y e/\SeqAt.shaped d=true/\SeqAt.shaped e=true/\Q (.bl<|PyData.eqv d e) H):=by intro pins s σ H x y v u Q I rx ry h;obtain⟨d,e,hd,he,sd,se,q⟩:=h;obtain⟨as,r1⟩:=Dn.reads I.hok hd (Cy _<|CM sd) rx;obtain⟨bs,r2⟩:=Dn.reads I.hok he (Cy _<|CM se) ry;exact SeqAt.compareEq_shaped r1 r2 sd se hr.units ⟨.bl _,H,I,rfl,q⟩
def Zi8{k:Nat}(hr:Room k X.A):OpR X (compareOp .NotEq) (λx y H Q=>∃d e,Dn H x d/\Dn H y e/\SeqAt.shaped d=true/\SeqAt.shaped e=true/\Q (.bl<|!PyData.eqv d e) H):=by intro pins s σ H x y v u Q I rx ry h;obtain⟨d,e,hd,he,sd,se,q⟩:=h;obtain⟨as,r1⟩:=Dn.reads I.hok hd (Cy _<|CM sd) rx;obtain⟨bs,r2⟩:=Dn.reads I.hok he (Cy _<|CM se) ry;exact SeqAt.compareNe_shaped r1 r2 sd se hr.units ⟨.bl _,H,I,rfl,q⟩
def Ze7:dN X (.type "range") (λxs H Q=>∃i j:Int,xs=[.int i,.int j]/\∀p,H p=none->Q (.ref p) (upd H p<|.rng i j)):=by
 intro pins s σ H xs us Q I r h;obtain⟨i,j,rfl,q⟩:=h;cases r with
 | cons r1 rr =>
  cases rr with
  | cons r2 rr =>
   cases rr;obtain⟨t,rfl⟩:=r1;obtain⟨u,rfl⟩:=r2;refine call_range_2 ?_;exact⟨.ref s.heap.objs.size,_,I.laid (t':=s.toks+1) (λb o e=>v9 _ e) (Aw _)<|show ObjOk X.prog X.w _ _ _ (.rng i j)from⟨t,u,s.toks,AC _ rfl⟩,rfl,q _<|I.hok.fresh<|Aw _⟩
noncomputable def fk(lo:Int)(n:Nat):D5:=(List.range n).map λ(k:Nat)=>V.int<|lo+(k:Int)
def Zam(lo:Int):∀(n:Nat)(l:D3),l.length=n->(∀(j:Nat)(v:Fo),l[j]?=some v->∃t,v=Value.int (lo+(j:Int)) t)->Vals (fk lo n) l:=by
 intro n;unfold fk
 induction n with
 | zero =>
  intro l hl _;have e:l=[]:=List.length_eq_zero_iff.mp hl;subst e;exact .nil
 | succ n ih =>
  intro l hl hl2;obtain⟨l',x,rfl⟩:∃l' x,l=l'++[x]:=⟨l.dropLast,l.getLast (by intro e;rw[e]at hl;cases hl),(List.dropLast_concat_getLast _).symm⟩
  have hl':l'.length=n:=by rw[AQ]at hl;simpa using hl
  rw[List.range_succ,Bu];refine Vals.append (ih l' hl' λj v hv=>hl2 j v<|by rw[AV (Ay.mp hv).1];exact hv)<|.cons ?_ .nil
  obtain⟨t,e⟩:=hl2 n x<|by rw[A4<|by omega,hl',Dw];rfl
  exact⟨t,e⟩
def ZmW(hh:X.A.handled=none):dN X (.type "list") (λxs H Q=>∃a lo hi,xs=[.ref a]/\H a=some (.rng lo hi)/\-(2^62)<=lo/\lo<2^62/\-(2^62)<=hi/\hi<2^62/\(hi-lo).toNat<=1000/\∀p,H p=none->Q (.ref p) (upd H p<|.lst<|fk lo (hi-lo).toNat)):=by
 intro pins s σ H xs us Q I r h;obtain⟨a,lo,hi,rfl,ha,b1,b2,b3,b4,hn,q⟩:=h;obtain⟨u,rfl,ru⟩:=eB r;cases ru;obtain⟨t,u,v,e⟩:=I.hok a _ ha;have hsz:Builtin.Range.rangeSize lo hi 1=(((hi-lo).toNat:Nat):Int):=by rw[EY];split <;> omega
 refine call_list_range hh (r:=a) (t:=t) (u:=u) (v:=v) e (small_one b1 b2 b3 b4) hsz (by omega) λh' tk acc c' hk ho FP=>?_
 refine⟨.ref s.heap.objs.size,_,I.laid hk (Aw _) ?_,rfl,q _<|I.hok.fresh<|Aw _⟩;refine⟨by unfold fk;rw[Av,B3];exact AJ hn<|by decide,acc.toList,c',?_,by simpa using ho⟩
 obtain⟨hl,hit⟩:=FP;exact Zam lo _ _ (by simpa using hl) λj v hv=>by
  obtain⟨t,e⟩:=hit j v<|by simpa using hv
  exact⟨t,by rw[e,Dd]⟩
end
structure Def(K:DQ)(mg:D6)(x:Str)(st:Fx)(ps:D4):Prop where
 ex:∃f fd,Fun K x x st f fd/\mg x=some (.ref f)/\Binds K fd ps []
structure Callee(P:Fs)(w:Ft)(K:DQ)(mg:D6)(base:Fv)(x:Str)(k:Nat)(ps:D4)(sp:Sp):Prop where
 ex:∃f fd,FnOk P w K mg base jA k f fd ps sp/\mg x=some (.ref f)/\PySem.W.keepIn K (.ref f)=true/\Binds K fd ps []
section
variable{P:Fs}{w:Ft}{K:DQ}{mg:D6}{base:Fv}
theorem Def.ok{x:Str}{st:Fx}{N ps:D4}{k:Nat}{sp:Sp}(D:Def K mg x st ps)(S:FnScope N ps (aP st))(len:∀vs H Q E,sp vs H Q E->vs.length=ps.length)
  (FX:∀(f:Fq)(FA:Fo)(A:Fu)(outer:Fl Env)(s:Fp)(H:Hp)(vs:D5)(Q:VK)(E:XK),Room k (A.deeper<|envOfC x (aP st) s.heap.objs.size f FA)->sp vs H Q E ->
   ∃t,PSs (jp jA P w K mg base N x (aP st) f FA A outer s H E).nox (iE st) t/\t {nx:=λ_ H'=>Q .non H',rt:=Q} (start N vs) H):Callee P w K mg base x (k+1) ps sp:=by obtain⟨f,fd,F,hm,hb⟩:=D.ex;exact⟨f,fd,F.ok S len λFA A outer s H vs Q E hr h=>FX f FA A outer s H vs Q E hr h,hm,F.kp,hb⟩
def ZlG{x:Str}{st:Fx}{ps:D4}{h:Fv}{f:Fq}{oc:Fo}{od an:Fm Fq}{osl:Array (Fm Fo)}{kV doc pm FA ct:Fo}(X:K.In h)(G:h.Ns mainGlobals mg)
  (a:PySem.W.nsIn K mainGlobals x=some (some<|.ref f)) (l:K.lookup f=some ⟨oc,od,.func<|PySem.W.fnOf x x (lC st) (iE st) (aP st) .none kV doc pm an FA ct,osl⟩)
  (c:PySem.W.codeIn K FA x=true) (k:PySem.W.keepIn K (.ref f)=true)
  (hb:∀(kV doc pm:Fo)(an:Fm Fq)(FA ct:Fo)(us:D3),us.length=ps.length->bindArgs (PySem.W.fnOf x x (lC st) (iE st) (aP st) .none kV doc pm an FA ct) ⟨us,[]⟩=pure (ps.zip us)):Def K mg x st ps:=by have F:=ZkY (st:=st) l c k;exact⟨f,_,F,PySem.W.mg_of X G a,F.binds hb⟩
end
section
variable{X:Cx}{x:Str}{k:Nat}{ps:D4}{sp:Sp}{e:Fw}{es:Fl Fw}{t:TA}{p pos:Pos}
def ZcQ(C:Callee X.prog X.w X.K X.mg X.base x k ps sp)(hr:Room k X.A)(hg:Gl X x)(ha:PA X (e::es) t)(hdb:(x==("__debug__":Str))=false:=by decide)
  (he:starEach (e::es) X.env=(false,eval e X.env)::starEach es X.env:=by rfl) (FO:(backTo pos<|starEach es X.env).any (·.1)=false:=by rfl):PE X (.Call (.Name x p) (e::es) [] pos) (ZaF sp [] E0 t):=by obtain⟨f,fd,F,hm,hk,hb⟩:=C.ex;exact ZiY F hr hg hm hk hb .nil Zi2 ha hdb he FO
def ZiU{i:Int}(hg:Gl X x)(h:∃t,X.mg x=some (.int i t))(hd:(x==("__debug__":Str))=false:=by decide):PE X (.Name x pos) (tC<|.int i):=by obtain⟨t,e⟩:=h;exact ZiT hg e ⟨t,rfl⟩ hd
end
def ZgW(t:TS):TS:=λD σ H=>∃J:St->Hp->Prop,t {D with nx:=J} σ H/\∀σ' H',J σ' H'->D.nx σ' H'
def ZgV(t:TT):TT:=λσ H Q=>∃J:Bool->Hp->Prop,t σ H J/\∀b H',J b H'->Q b H'
section
variable{X:Cx}{st:Fx}{e:Fw}
def PS.join{t:TS}(h:PS X st t):PS X st (ZgW t):=by
 rintro pins s σ H D I ⟨J,q,hJ⟩;refine thn (h pins s σ H _ I q) λf s' z=>?_;cases f with
 |next=>obtain⟨σ',H',I',q'⟩:=z;exact⟨σ',H',I',hJ _ _ q'⟩
 |brk=>exact z
 |cont=>exact z
 |ret u=>exact z
def PT.join{t:TT}(h:PT X e t):PT X e (ZgV t):=by rintro pins s σ H Q I ⟨J,q,hJ⟩;refine thn (h pins s σ H _ I q) λb s' ⟨H',I',q'⟩=>⟨H',I',hJ _ _ q'⟩
end
section
variable{H:Hp}{p c:Fq}{a l b:Int}
end
def Kept(p:Fq)(H H':Hp):Prop:=∀b o,H b=some o->b≠p->H' b=some o
def Kept.refl{p:Fq}{H:Hp}:Kept p H H:=λ_ _ h _=>h
def Kept.pen{p:Fq}{H H':Hp}{o:HO}(a:Kept p H H'):Kept p H (upd H' p o):=λc u h n=>by rw[aM n];exact a c u h n
def Same.new{q:Fq}{H H':Hp}{o:HO}(a:Same H H')(hq:H' q=none):Same H (upd H' q o):=λc u h=>by have e:=a c u h;rw[aM<|di e hq];exact e
section
variable{prog:Fs}{w:Ft}{A:Fu}{E:DZ}{s:Fp}{r:Fq}{a b c:Int}{t u v:Tok}{n:Nat}
def ZmJ{Q:Fl Fo->Fp->Prop}(hh:A.handled=none)(hr:IsRange s.heap r a b c t u v)(hs:Builtin.Range.small a b c=true)(hn:Builtin.Range.rangeSize a b c=n)(hl:n<=2^24)
  (hQ:∀(h':Fv)(tk:Nat)(acc:Array Fo),(∀b o,s.heap.get? b=some o->h'.get? b=some o)->ItemsOf (λi v=>∃t,v=.int (a+i*c) t) acc n->Q acc.toList {s with heap:=h',toks:=tk}):wpAny (model prog w) A (collect<|.ref r) Q E s:=by
 unfold collect;apply wp;apply wpAny_runValue;refine Eu F.entry_proto_collect ?_;rw[Bo F.plain_proto_collect _];show wpAny _ A.in1 (newList [] >>= λz=>again<|.builtin "list.__iadd__" ⟨[z,.ref r],[]⟩) _ _ s;refine wp<|Ee<|D9 ⟨EA C7 _,Eu F.entry_list_iadd ?_⟩;rw[Bo C7 _];show wpAny _ A.in1 (Builtin.List.listExtendWith (.ref s.heap.objs.size) (.ref r)<|.ref s.heap.objs.size) _ _ {s with heap:=s.heap.push {cls:=.type "list",data:=.seq ([]:D3).toArray} }
 let R:Result->Fp->Prop:=λz s'=>match z with
  | .ok (.ret v)=>wpAny (model prog w) A (match v with
   | .ref q=>(do match (<- load q).data with
    |.seq xs _=>pure xs.toList
    |_=>unsupported "internal:collect")
   |_=>unsupported "internal:collect") Q E s'
  |.ok _=>False
  |.error e=>E e s'
 refine wpAny_extend_range (R:=R) (s:={s with heap:=s.heap.push {cls:=.type "list",data:=.seq ([]:D3).toArray} }) hh (v9 _ hr) hs hn hl _ _ _ (show(s.heap.push {cls:=.type "list",data:=.seq ([]:D3).toArray}).get? s.heap.objs.size=some {cls:=.type "list",data:=.seq #[]}from AC _ rfl) λh' tk acc c' hk hS FP=>?_
 show wpAny _ A (load s.heap.objs.size >>= _) _ _ {s with heap:=h',toks:=tk};exact wp<|wpAny_load hS<|D9<|hQ h' tk acc (λb o e=>hk b o (AO<|AI e)<|v9 _ e) FP
def Zgz{Q:DZ}(hh:A.handled=none)(hr:IsRange s.heap r a b c t u v)(hs:Builtin.Range.small a b c=true)(hn:Builtin.Range.rangeSize a b c=n)(hl:n<=2^24)
  (hQ:∀(h':Fv)(tk:Nat)(acc:Array Fo),(∀b o,s.heap.get? b=some o->h'.get? b=some o)->ItemsOf (λi v=>∃t,v=.int (a+i*c) t) acc n->Q (.ref h'.objs.size) {s with heap:=h'.push {cls:=.type "tuple",data:=.seq acc},toks:=tk}) :
  wpAny (model prog w) A (call (.type "tuple") [.ref r]) Q E s:=by
 refine callType_codes (Q₁:=λz s1=>s1.TypeIs z "tuple"/\Q z s1) F.called_tuple (F.typeCall_tuple_1 _) F.entry_object_init ?_ λz s1 h1=>?_
 ·apply codeAny_of_tree;show wpAny _ A.in1.in1 (do checkBuiltinCall "tuple.__new__" ⟨[.type "tuple",.ref r],[]⟩;again (.builtin "tuple.__new__" ⟨[.type "tuple",.ref r],[]⟩)) _ _ s
  refine wp<|Er (F.newCall_tuple_1 _)<|D9 ⟨EA F.plain_tuple_new _,Eu F.entry_tuple_new ?_⟩;rw[Bo F.plain_tuple_new _];have f1:=sub_tuple_self;have f2:=init_tuple_lookup;have f3:=madeHere_tuple;have fT:s.TypeIs (.ref r) "range":=⟨_,hr,rfl⟩
  wp_walk using ES fT,ZmJ (A:=A.in1.in1) hh hr hs hn hl
  intro h' tk acc hk FP;show wpAny _ _ (Builtin.Tuple.tupleExact acc.toList.toArray >>= λz=>ret z) _ _ _;unfold Builtin.Tuple.tupleExact;have e:acc.toList.toArray=acc:=by simp
  rw[e];refine wp<|Ee (D9 ⟨⟨_,AC _ rfl,rfl⟩,hQ h' tk acc hk FP⟩) ?_;show acc.size<=sizeLine;rw[FP.1,Ex];exact hl
 ·exact⟨h1.1,Du z _,object_init_meets F.called_tuple.init.lookup F.called_tuple.made (by decide) prog w A.in1 _ s1 ⟨h1.1,rfl,h1.2⟩⟩
end
section
variable{X:Cx}
def ZmR(hh:X.A.handled=none):dN X (.type "tuple") (λxs H Q=>∃a lo hi,xs=[.ref a]/\H a=some (.rng lo hi)/\-(2^62)<=lo/\lo<2^62/\-(2^62)<=hi/\hi<2^62/\(hi-lo).toNat<=1000/\∀p,H p=none->Q (.ref p) (upd H p<|.tup<|fk lo (hi-lo).toNat)):=by
 intro pins s σ H xs us Q I r h;obtain⟨a,lo,hi,rfl,ha,b1,b2,b3,b4,hn,q⟩:=h;obtain⟨u,rfl,ru⟩:=eB r;cases ru;obtain⟨t,u,v,e⟩:=I.hok a _ ha;have hsz:Builtin.Range.rangeSize lo hi 1=(((hi-lo).toNat:Nat):Int):=by rw[EY];split <;> omega
 refine Zgz hh (r:=a) (t:=t) (u:=u) (v:=v) e (small_one b1 b2 b3 b4) hsz (by omega) λh' tk acc hk FP=>?_
 have I1:Inv X pins σ H {s with heap:=h',toks:=tk}:=I.kept hk;have hv:Vals (fk lo (hi-lo).toNat) acc.toList:=Zam lo _ _ (by simpa using FP.1) λj v hv=>by
  obtain⟨t,e⟩:=FP.2 j v<|by simpa using hv
  exact⟨t,by rw[e,Dd]⟩
 have hz:(fk lo (hi-lo).toNat).length<=sizeLine:=by unfold fk;rw[Av,B3];exact AJ hn<|by decide
 refine⟨.ref h'.objs.size,_,I1.laid (h':=h'.push {cls:=.type "tuple",data:=.seq acc}) (t':=tk) (λb o e=>v9 _ e) (Aw _)<|show ObjOk X.prog X.w _ _ _ (.tup<|fk lo (hi-lo).toNat)from⟨hz,acc.toList,hv,⟨_,AC _ rfl,rfl,0,by simp⟩⟩,rfl,q _<|I1.hok.fresh<|Aw _⟩
def Zjr:fillsNumberSlot (.type "tuple") "mul"=pure false :=
 PySem.fillsNumberSlot_seq (id:="tuple.__mul__") (r:=some<|.builtin "tuple.__rmul__") PySem.F.slot_tuple_mul.lookup (by trivial) PySem.F.slot_tuple_rmul.lookup (by trivial)
def Zh8:seqRepeat? (.type "tuple")=pure (some<|.builtin "tuple.__mul__"):=by unfold seqRepeat?;rw[PySem.seqSlot_of (T:="tuple") (name:="__mul__") (id:="tuple.__mul__") PySem.F.slot_tuple_mul.lookup<|by trivial,PySem.seqSlot_of (T:="tuple") (name:="__rmul__") (id:="tuple.__rmul__") PySem.F.slot_tuple_rmul.lookup<|by trivial];rfl
def Zh6(x:Int)(t:Tok)(l:Fq)(items:Array Fo)(n:Nat)(dd:Fm Fq)(sl:Array (Fm Fo)) :
  Meets (Builtin.«int.__rmul__» ⟨[.int x t,.ref l],[]⟩) (λ_ R s=>s.heap.get? l=some {cls:=.type "tuple",dict:=dd,data:=.seq items n,slots:=sl}/\R (.ok<|.ret Value.notImplemented) s):=by
 refine .of_wp λprog w A R s h=>?_;obtain⟨hp,g,d,tk,os⟩:=s;obtain⟨hl,h⟩:=h
 wp_walk
 exact⟨_,rfl,h⟩
def Zjz(x:Int)(t:Tok)(l:Fq)(items:Array Fo)(n:Nat)(dd:Fm Fq)(sl:Array (Fm Fo))(h1:1<x)(h2:x<=1000)(h3:items.isEmpty=false)(h4:items.size<=1000) :
  Meets (Builtin.«tuple.__mul__» ⟨[.ref l,.int x t],[]⟩) (λ_ R s=>s.heap.get? l=some {cls:=.type "tuple",dict:=dd,data:=.seq items n,slots:=sl} /\
   R (.ok<|.ret<|.ref s.heap.objs.size) {s with heap:=s.heap.push {cls:=.type "tuple",data:=.seq ((List.replicate x.toNat items).foldl (·++·) #[])} }):=by
 refine .of_wp λprog w A R s h=>?_;obtain⟨hp,g,d,tk,os⟩:=s;obtain⟨hl,h⟩:=h;have hp0:0<=(items.size:Int)*x:=DJ (by omega)<|by omega
 have hp1:(items.size:Int)*x<=1000*1000:=Int.mul_le_mul (by omega) h2 (by omega)<|by omega
 have FD:items.size≠0:=λe=>by simp[Array.isEmpty,e]at h3
 wp_walk
 refine EQ (λz=>absurd z<|by simp;omega)<|λ_=>?_
 refine wp ?_;unfold Builtin.Tuple.tupleItemsOf;refine wp<|Eo hl rfl (D9 ?_);refine EQ (λz=>absurd z<|by rw[h3];simp;omega)<|λ_=>?_
 refine EQ (λz=>absurd z<|by rw[h3];simp;omega)<|λ_=>?_
 refine EQ (λz=>absurd z<|by omega)<|λ_=>?_
 refine EQ (λz=>absurd z<|by unfold Builtin.Tuple.tupleTooMany;rw[Ex];simp;omega)<|λ_=>?_
 unfold Builtin.Tuple.tupleExact;have hlen:∀k:Nat,((List.replicate k items).foldl (·++·) #[]).size=k*items.size:=λk=>by
  have key:∀(k:Nat)(acc:Array Fo),((List.replicate k items).foldl (·++·) acc).size=acc.size+k*items.size:=by
   intro k
   induction k with
   |zero=>intro acc;simp
   | succ k ih =>
    intro acc;rw[Bc,BR,ih,Array.size_append,Cq];omega
  simpa using key k #[]
 refine wp<|Ee (D9 ⟨_,rfl,h⟩) ?_;show((List.replicate x.toNat items).foldl (·++·) #[]).size<=sizeLine;rw[hlen,Ex];have hx:x.toNat<=1000:=by omega
 exact AJ (Cb hx h4)<|by decide
def Zca(K:DQ):R2:=λx y H Q=>∃a k xs,x=.ref a/\y=.int k/\SqT K H a xs/\1<k/\k<=1000/\xs≠[]/\xs.length<=1000/\∀p,H p=none->Q (.ref p) (upd H p<|.tup (List.replicate k.toNat xs).flatten)
theorem Zak{xs:D5}{us:D3}(r:Vals xs us):∀k:Nat,Vals (List.replicate k xs).flatten (List.replicate k us).flatten
 |0=>.nil
 |k+1=>by rw[Bc,Bc,BE,BE];exact r.append<|Zak r k
def Zi6:OpR X (binaryOp .Mult) (Zca X.K):=by
 intro pins s σ H x y v u Q I rx ry h;obtain⟨a,k,xs,rfl,rfl,hq,h1,h2,FD,hl,q⟩:=h;cases rx;obtain⟨t,rfl⟩:=ry;obtain⟨Fz,rv,p,hz⟩:=I.tuple hq;obtain⟨o,ho,hc,n,hd⟩:=p;obtain⟨oc,od,odd,osl⟩:=o;have hc':oc=.type "tuple":=hc;have FK:odd=.seq Fz.toArray n:=hd;subst hc' FK;have hlen:=rv.length;have hemp:Fz.toArray.isEmpty=false:=by
  cases Fz with
  |nil=>cases rv;exact absurd rfl FD
  |cons i r=>rfl
 have efl:(List.replicate k.toNat Fz.toArray).foldl (·++·) #[]=(List.replicate k.toNat Fz).flatten.toArray:=by
  have key:∀(k:Nat)(acc:Array Fo),(List.replicate k Fz.toArray).foldl (·++·) acc=acc++(List.replicate k Fz).flatten.toArray:=by
   intro k
   induction k with
   |zero=>intro acc;simp
   | succ k ih =>
    intro acc;rw[Bc,BR,ih,Bc,BE];simp
  simpa using key k.toNat #[]
 refine wpAny_binaryOp_repeat_ref (T:="tuple") (U:="int") (by decide) ⟨_,ho,rfl⟩ (λs'=>Fh s' k t) Zjr PySem.F.fills_int_mul PySem.F.slot_int_rmul Zh8 PySem.F.slot_int_index.lookup ?_
 refine EN PySem.F.slot_int_rmul (Fh s k t) PySem.F.entry_int_rmul (PySem.F.args_int_rmul_2 _ _) (Zh6 k t a Fz.toArray n od osl) ⟨ho,rfl,⟨_,ho,rfl⟩,?_⟩;refine EN PySem.F.slot_tuple_mul ⟨_,ho,rfl⟩ PySem.F.entry_tuple_mul (PySem.F.args_tuple_mul_2 _ _) (Zjz k t a Fz.toArray n od osl h1 h2 hemp<|by rw[AG];omega) ⟨ho,?_⟩
 rw[efl];have hzz:(List.replicate k.toNat xs).flatten.length<=sizeLine:=by
  have hx:k.toNat<=1000:=by omega
  have e:(List.replicate k.toNat xs).flatten.length=k.toNat*xs.length:=by simp
  rw[e,Ex];exact AJ (Cb hx hl)<|by decide
 exact⟨.ref s.heap.objs.size,_,I.laid (t':=s.toks) (λb o e=>v9 _ e) (Aw _)<|show ObjOk X.prog X.w _ _ _ (.tup (List.replicate k.toNat xs).flatten)from⟨hzz,_,Zak rv k.toNat,IsTup.new _ _⟩,rfl,q _<|I.hok.fresh<|Aw _⟩
end
def Zdi{n:Nat}(h:n<2^1900):n.log2<1900:=by
 by_cases h0:n=0
 ·rw[h0];decide
 ·exact(Da h0).mpr h
def Zhm{i:Int}(h:i.natAbs<2^1900):(PyData.int i).shown.length<=1901:=by
 have e:=int_text_length_le (k:=1900) (by decide)<|Zdi h
 have q:(Str.ofString<|toString i).length<=1901:=by rw[PySem.ofString_length];exact e
 simpa [PyData.shown]using q
theorem ZaY:∀(ns:D2),(∀n∈ns,n.natAbs<2^1900)->((PyData.shownAll<|ns.map PyData.int).map (·.length)).sum<=ns.length*1901/\(PyData.shownAll<|ns.map PyData.int).length=ns.length
 | [],_=>⟨by simp[PyData.shownAll],rfl⟩
 |n::r,h=>by obtain⟨h1,h2⟩:=ZaY r λx hx=>h x<|Az _ hx;have h3:=Zhm<|h n AB;rw[Ax,PyData.shownAll,Ax,BW,AE,AE,h2,Cq];exact⟨by omega,rfl⟩
theorem ZaZ:∀(ns:D2),(∀n∈ns,n.natAbs<2^1900)->PyData.showableAll (ns.map PyData.int)=true
 | [],_=>rfl
 |n::r,h=>by rw[Ax,PyData.showableAll,ZaZ r λx hx=>h x<|Az _ hx,Ck];have q:=Zdi<|h n AB;simp only[PyData.showable,Ew];omega
noncomputable def aQ(lo:Int)(n:Nat):D2:=(List.range n).map λ(k:Nat)=>lo+(k:Int)
def Zif(lo:Int)(n:Nat):fk lo n=(aQ lo n).map V.int:=by
 unfold fk aQ;rw[AR]
 rfl
def fO(lo:Int)(n:Nat):(aQ lo n).length=n:=by unfold aQ;rw[Av,B3]
def gN{lo x:Int}{n:Nat}(h:x∈aQ lo n):lo<=x/\x<lo+n:=by unfold aQ at h;obtain⟨k,hk,rfl⟩:=AU.mp h;have:=Bw.mp hk;omega
def CMulG(i j:Int):Prop:=i.natAbs<2^8000/\j.natAbs<2^8000
def Zga(i j:Int):Prop:=j≠0/\j.natAbs<2^8000
def Zfq{x:Int}(h:x.natAbs<2^8000):Builtin.Int.intBits x<=8000:=by
 unfold Builtin.Int.intBits
 split
 ·exact Bf _
 ·rename_i hx;have h0:x.natAbs≠0:=by intro z;have e:x=0:=Int.natAbs_eq_zero.mp z;rw[e]at hx;exact hx rfl
  exact(Da h0).mpr h
def CMulG.ok{i j:Int}(h:CMulG i j):IntMulOk i j:=by
 have h1:=Zfq h.1;have h2:=Zfq h.2;unfold IntMulOk;have e:Builtin.Int.intTooBig ((Builtin.Int.intBits i+Builtin.Int.intBits j:Nat):Int)=false:=by
  unfold Builtin.Int.intTooBig;refine Eb ?_;have hb:((16000:Nat):Int)<=(bitsLine:Int):=by decide
  omega
 intro z;rw[AT]at z;have z2:Builtin.Int.intTooBig ((Builtin.Int.intBits i+Builtin.Int.intBits j:Nat):Int)=true:=z.2;rw[e]at z2;cases z2
section
variable{X:Cx}
def Zja:OpR X (binaryOp .Mult) (rI CMulG λi j=>.int<|i*j):=iZ λ_ _ _ _ _ _ _ hc q=>mul_int q hc.ok
def mH:OpR X (binaryOp .FloorDiv) (rI Zga λi j=>.int<|i.fdiv j):=iZ λi j _ _ _ _ _ hc q=>by
 refine floordiv_int hc.1 q<|.inl<|PyProof.noPylong_of_log2 ?_;by_cases h0:j.natAbs=0
 ·exact absurd (Int.natAbs_eq_zero.mp h0) hc.1
 ·exact Nat.lt_trans ((Da h0).mpr hc.2)<|by decide
def Zjb:OpR X (compareOp .IsNot) (λx y H Q=>∃a b,x=.bl a/\y=.bl b/\Q (.bl<|!(a==b)) H):=by intro pins s σ H x y v u Q I rx ry h;obtain⟨a,b,rfl,rfl,q⟩:=h;cases rx;cases ry;refine wpAny_isNot_plain rfl ⟨.bl<|!(a==b),H,I,?_,q⟩;cases a <;> cases b <;> rfl
def fG:dN X (.builtin "isinstance") (λxs H Q=>∃x T t b,xs=[x,.ty T]/\TyOf X.K H x t/\PySem.W.kitOne X.K t (.type T)=some b/\Q (.bl b) H):=by intro pins s σ H xs us Q I r h;obtain⟨x,T,t,b,rfl,ty,e,q⟩:=h;obtain⟨u,c,rfl,ru,rc⟩:=wH r;cases rc;exact Zkt I ru ty e λtk=>⟨.bl b,H,I.tok tk,rfl,q⟩
end
end L2
namespace Gc
noncomputable def iz(a b:Int):Int:=((Nat.gcd a.natAbs b.natAbs:Nat):Int)
def den(t b:Int):Int:=if b<0 then -iz t b else iz t b
def cB(t b:Int):Int:=t.fdiv<|den t b
def bQ(t b:Int):Int:=b.fdiv<|den t b
def yP{t b:Int}(h:b≠0):0<Nat.gcd t.natAbs b.natAbs:=Nat.gcd_pos_of_pos_right _<|by omega
def nA{t b:Int}(h:b≠0):den t b≠0:=by
 have:=yP (t:=t) h;unfold den iz
 split <;> omega
def zn(t b:Int):(den t b).natAbs=Nat.gcd t.natAbs b.natAbs:=by
 unfold den iz
 split <;> omega
def jc{t b:Int}(h:b≠0):t=den t b*cB t b/\b=den t b*bQ t b/\0<bQ t b/\Nat.gcd (cB t b).natAbs (bQ t b).natAbs=1:=by
 have hd:=nA (t:=t) h;have ha:=zn t b;have hg:=yP (t:=t) h;have d1:den t b∣t:=C6.mp<|by rw[ha];exact Nat.gcd_dvd_left _ _
 have d2:den t b∣b:=C6.mp<|by rw[ha];exact Nat.gcd_dvd_right _ _
 obtain⟨x,hx⟩:=d1;obtain⟨y,hy⟩:=d2;have e1:cB t b=x:=by show t.fdiv (den t b)=x;generalize den t b=d at hd hx;rw[hx];exact Cr _ hd
 have e2:bQ t b=y:=by show b.fdiv (den t b)=y;generalize den t b=d at hd hy;rw[hy];exact Cr _ hd
 rw[e1,e2];refine⟨hx,hy,?_,?_⟩
 ·have hb:(0<b/\0<den t b)\/(b<0/\den t b<0):=by
   unfold den iz
   split <;> omega
  rcases hb with ⟨p,q⟩|⟨p,q⟩
  ·rcases(show 0<y\/y<=0 by omega)with z|z
   ·exact z
   ·exfalso;have:=DJ (Int.le_of_lt q) (show 0<=-y by omega)
    rw[Int.mul_neg,<- hy]at this;omega
  ·rcases(show 0<y\/y<=0 by omega)with z|z
   ·exact z
   ·exfalso;have:=DJ (show 0<=-den t b by omega) (show 0<=-y by omega)
    rw[Int.neg_mul_neg,<- hy]at this;omega
 ·have h1:t.natAbs=Nat.gcd t.natAbs b.natAbs*x.natAbs:=by have:=Eg Int.natAbs hx;rw[BH,ha]at this;exact this
  have h2:b.natAbs=Nat.gcd t.natAbs b.natAbs*y.natAbs:=by have:=Eg Int.natAbs hy;rw[BH,ha]at this;exact this
  have h3:Nat.gcd t.natAbs b.natAbs=Nat.gcd t.natAbs b.natAbs*Nat.gcd x.natAbs y.natAbs:=by rw[<- Nat.gcd_mul_left,<- h1,<- h2]
  have h4:Nat.gcd t.natAbs b.natAbs*1=Nat.gcd t.natAbs b.natAbs*Nat.gcd x.natAbs y.natAbs:=by rw[Nat.mul_one];exact h3
  exact(Nat.eq_of_mul_eq_mul_left hg h4).symm
def ZjQ{t b:Int}(h:b≠0):(cB t b).natAbs<=t.natAbs/\(bQ t b).natAbs<=b.natAbs:=by
 obtain⟨h1,h2,_,_⟩:=jc (t:=t) h;have hg:=yP (t:=t) h;have ha:=zn t b;constructor
 ·have e:=Eg Int.natAbs h1;rw[BH,ha]at e;rw[e];exact Nat.le_mul_of_pos_left _ hg
 ·have e:=Eg Int.natAbs h2;rw[BH,ha]at e;rw[e];exact Nat.le_mul_of_pos_left _ hg
def ZjO{t b u c:Int}(hb:0<b)(hc:0<c)(g1:Nat.gcd t.natAbs b.natAbs=1)(g2:Nat.gcd u.natAbs c.natAbs=1)(h:t*c=u*b):t=u/\b=c:=by
 have k1:b.natAbs∣c.natAbs:=by
  have d:b.natAbs∣t.natAbs*c.natAbs:=⟨u.natAbs,by rw[<- BH,h,BH,Nat.mul_comm]⟩
  exact CA (show Nat.Coprime b.natAbs t.natAbs by unfold Nat.Coprime;rw[CT];exact g1) d
 have k2:c.natAbs∣b.natAbs:=by
  have d:c.natAbs∣u.natAbs*b.natAbs:=⟨t.natAbs,by rw[<- BH,<- h,BH,Nat.mul_comm]⟩
  exact CA (show Nat.Coprime c.natAbs u.natAbs by unfold Nat.Coprime;rw[CT];exact g2) d
 have e:b=c:=by have:=Nat.dvd_antisymm k1 k2;omega
 subst e;exact⟨Int.eq_of_mul_eq_mul_right (by omega) h,rfl⟩
def ZjP{t b:Int}(hb:0<b)(g:Nat.gcd t.natAbs b.natAbs=1):cB t b=t/\bQ t b=b:=by
 have e:den t b=1:=by
  unfold den iz;rw[Ef<|by omega,g]
  rfl
 unfold cB bQ;rw[e];exact⟨Int.fdiv_one _,Int.fdiv_one _⟩
end Gc
namespace L2
def Codes(x:Str):Prop:=∀c∈x.cps.toList,c<16^8
def Codes.of(s:String):Codes (Str.ofString s):=by intro c hc;rw[Str.ofString_eq_toList]at hc;simp only[AU,List.toList_toArray]at hc;obtain⟨ch,_,rfl⟩:=hc;exact AD ch.val.toNat_lt<|by decide
inductive Tr(α:Type) where
 |ret (a:α)
 |draw (n:Int) (k:Int->Tr α)
 |fail
namespace Tr
variable{α β γ:Type}
noncomputable def bind:Tr α->(α->Tr β)->Tr β
 |.ret a,f=>f a
 |.draw n k,f=>.draw n λr=>(k r).bind f
 |.fail,_=>.fail
@[simp] theorem ret_bind(a:α)(f:α->Tr β):(Tr.ret a).bind f=f a:=rfl
@[simp] theorem draw_bind(n:Int)(k:Int->Tr α)(f:α->Tr β):(Tr.draw n k).bind f=.draw n λr=>(k r).bind f:=rfl
@[simp] theorem fail_bind(f:α->Tr β):(Tr.fail:Tr α).bind f=.fail:=rfl
@[simp] theorem bind_assoc:∀(t:Tr α)(f:α->Tr β)(g:β->Tr γ),(t.bind f).bind g=t.bind λa=>(f a).bind g
 |.ret a,f,g=>rfl
 |.draw n k,f,g=>by simp only[draw_bind];congr 1;funext r;exact bind_assoc (k r) f g
 |.fail,f,g=>rfl
noncomputable def of:Fm α->Tr α
 |some a=>.ret a
 |none=>.fail
@[simp] theorem of_some(a:α):Tr.of (some a)=.ret a:=rfl
@[simp] theorem of_none:Tr.of (none:Fm α)=.fail:=rfl
def ok:Tr α->Nat->(Nat->α->Prop)->Prop
 |.ret a,m,Q=>Q m a
 |.draw n k,m,Q=>m<400000/\0<n/\n<1073741824/\∀r,0<=r->r<n->(k r).ok (m+1) Q
 |.fail,_,_=>False
theorem ok_mono:∀{t:Tr α}{m:Nat}{Q Q':Nat->α->Prop},t.ok m Q->(∀m a,Q m a->Q' m a)->t.ok m Q'
 |.ret a,m,_,_,h,hq=>hq m a h
 |.draw n k,m,_,_,⟨h1,h2,h3,h⟩,hq=>⟨h1,h2,h3,λr h0 h1=>ok_mono (h r h0 h1) hq⟩
theorem ok_bind:∀{t:Tr α}{f:α->Tr β}{m:Nat}{Q:Nat->β->Prop},(t.bind f).ok m Q ↔ t.ok m λm' a=>(f a).ok m' Q
 |.ret a,f,m,Q=>Iff.rfl
 |.draw n k,f,m,Q=>by show(_/\_/\_/\∀r,_) ↔ (_/\_/\_/\∀r,_);refine Ff λ_=>Ff λ_=>Ff λ_=>Fk λr=>Fk λ_=>Fk λ_=>ok_bind
 |.fail,f,m,Q=>Iff.rfl
def ok_of{o:Fm α}{m:Nat}{Q:Nat->α->Prop}(h:(Tr.of o).ok m Q):∃a,o=some a/\Q m a:=by
 cases o with
 |none=>exact h.elim
 |some a=>exact⟨a,rfl,h⟩
def all:Tr α->Nat->(α->Prop)->Prop
 |.ret a,_,P=>P a
 |.draw w k,n+1,P=>0<w/\w<1073741824/\∀r,0<=r->r<w->(k r).all n P
 |.draw _ _,0,_=>False
 |.fail,_,_=>False
theorem all_ok:∀{t:Tr α}{n m:Nat}{P:α->Prop},t.all n P->m+n<=400000->t.ok m λm' a=>m'<=m+n/\P a
 |.ret a,n,m,P,h,hm=>⟨by omega,h⟩
 |.draw w k,n+1,m,P,⟨h1,h2,h⟩,hm=>⟨by omega,h1,h2,λr a b=>ok_mono (all_ok (h r a b)<|by omega) λm' x Fy=>by obtain⟨p,q⟩:=Fy;exact⟨by omega,q⟩⟩
theorem all_mono:∀{t:Tr α}{n n':Nat}{P P':α->Prop},t.all n P->n<=n'->(∀a,P a->P' a)->t.all n' P'
 |.ret a,n,n',P,P',h,hn,hp=>hp a h
 |.draw w k,n+1,n'+1,P,P',⟨h1,h2,h⟩,hn,hp=>⟨h1,h2,λr a b=>all_mono (h r a b) (by omega) hp⟩
 |.draw w k,n+1,0,P,P',h,hn,hp=>by omega
theorem all_bind:∀{t:Tr α}{f:α->Tr β}{n n':Nat}{P:α->Prop}{P':β->Prop},t.all n P->(∀a,P a->(f a).all n' P')->(t.bind f).all (n+n') P'
 |.ret a,f,n,n',P,P',h,hf=>all_mono (hf a h) (by omega) λ_ x=>x
 | .draw w k,f,n+1,n',P,P',⟨h1,h2,h⟩,hf=>by
  have e:n+1+n'=(n+n')+1:=by omega
  rw[e];exact⟨h1,h2,λr a b=>all_bind (h r a b) hf⟩
end Tr
abbrev Sub(G H:Hp):Prop:=∀b o,G b=some o->H b=some o
structure Pk where
 is:HO->Hp->Nat->Prop
 mono:∀{o:HO}{G G':Hp}{m:Nat},Sub G G'->is o G m->is o G' m
structure Wd(PK:Pk)(pa:Fq)(m:Nat)(G H:Hp):Prop where
 sub:Sub G H
 gpa:G pa=none
 pen:∃o,H pa=some o/\PK.is o G m
structure Stp(pa:Fq)(G H G' H':Hp):Prop where
 gs:Sub G G'
 gn:∀b o,G' b=some o->G b=some o\/H b=none\/(b≠pa/\∃xs,H b=some (.tup xs))
 hk:∀b o,H b=some o->b≠pa->H' b=some o
def Stp.refl{pa:Fq}{G H:Hp}:Stp pa G H G H:=⟨λ_ _ h=>h,λ_ _ h=>.inl h,λ_ _ h _=>h⟩
def Stp.trans{pa:Fq}{G H G1 H1 G2 H2:Hp}(a:Stp pa G H G1 H1)(b:Stp pa G1 H1 G2 H2)(hp:∃o,H1 pa=some o):Stp pa G H G2 H2:=by
 refine⟨λc o h=>b.gs c o<|a.gs c o h,λc o h=>?_,λc o h n=>b.hk c o (a.hk c o h n) n⟩;rcases b.gn c o h with z|z|⟨hc,xs,z⟩
 ·exact a.gn c o z
 ·refine .inr<|.inl ?_;cases e:H c with
  |none=>rfl
  | some u =>
   by_cases hc:c=pa
   ·subst hc;obtain⟨o',z'⟩:=hp;rw[z']at z;cases z
   ·rw[a.hk c u e hc]at z;cases z
 ·cases e:H c with
  |none=>exact .inr (.inl rfl)
  | some u =>
   rw[a.hk c u e hc]at z;cases z;exact .inr<|.inr ⟨hc,xs,rfl⟩
section
variable{PK:Pk}{pa:Fq}{m:Nat}{G H:Hp}
theorem Wd.some(w:Wd PK pa m G H):∃o,H pa=some o:=let ⟨o,h,_⟩:=w.pen;⟨o,h⟩
def Wd.ne(w:Wd PK pa m G H){p:Fq}(hp:H p=none):pa≠p:=λe=>by obtain⟨o,h⟩:=w.some;rw[e,hp]at h;cases h
def Sub.new{p:Fq}{o:HO}(hp:G p=none):Sub G (upd G p o):=λb u h=>by rw[aM<|di h hp];exact h
def Wd.gnone(w:Wd PK pa m G H){p:Fq}(hp:H p=none):G p=none:=by
 cases e:G p with
 |none=>rfl
 |some o=>rw[w.sub p o e]at hp;cases hp
def Sub.upd2{p:Fq}{o:HO}(s:Sub G H):Sub (upd G p o) (upd H p o):=λb u h=>by
 by_cases e:b=p
 ·subst e;rw[bY]at h ⊢;exact h
 ·rw[aM e]at h ⊢;exact s b u h
theorem Wd.new(w:Wd PK pa m G H){p:Fq}{o:HO}(hp:H p=none):Wd PK pa m (upd G p o) (upd H p o)/\Stp pa G H (upd G p o) (upd H p o):=by
 have hg:=w.gnone hp;have FD:=w.ne hp;refine⟨⟨w.sub.upd2,by rw[aM FD];exact w.gpa,?_⟩,⟨Sub.new hg,λb u h=>?_,λb u h _=>by rw[aM<|di h hp];exact h⟩⟩
 ·obtain⟨u,h,q⟩:=w.pen;exact⟨u,by rw[aM FD];exact h,PK.mono (Sub.new hg) q⟩
 ·by_cases e:b=p
  ·subst e;exact .inr<|.inl hp
  ·rw[aM e]at h;exact .inl h
def Wd.own(w:Wd PK pa m G H){p:Fq}{o:HO}(hp:H p=none):Wd PK pa m G (upd H p o)/\Stp pa G H G (upd H p o):=by
 have FD:=w.ne hp;refine⟨⟨λb u h=>by rw[aM<|di (w.sub b u h) hp];exact w.sub b u h,w.gpa,?_⟩,⟨λ_ _ h=>h,λ_ _ h=>.inl h,λb u h _=>by rw[aM<|di h hp];exact h⟩⟩
 obtain⟨u,h,q⟩:=w.pen;exact⟨u,by rw[aM FD];exact h,q⟩
def Wd.freeze(w:Wd PK pa m G H){p:Fq}{o:HO}(hp:H p=Option.some o)(hg:G p=none)(FD:pa≠p):Wd PK pa m (upd G p o) H:=by
 refine⟨λb u h=>?_,by rw[aM FD];exact w.gpa,?_⟩
 ·by_cases e:b=p
  ·subst e;rw[bY]at h;rw[hp];exact h
  ·rw[aM e]at h;exact w.sub b u h
 ·obtain⟨u,h,q⟩:=w.pen;exact⟨u,h,PK.mono (Sub.new hg) q⟩
def Kn(PK:Pk)(pa:Fq)(m:Nat)(G H:Hp)(x:Fn)(Q:VK):Prop:=∀v G' H',Stp pa G H G' H'->Wd PK pa m G' H'->Dn G' v x->Q v H'
variable{x:Fn}{Q:VK}{v:V}{vs:D5}{ds:D1}{p:Fq}
def Kn.here(k:Kn PK pa m G H x Q)(w:Wd PK pa m G H)(d:Dn G v x):Q v H:=k v G H .refl w d
theorem Kn.tup(k:Kn PK pa m G H (.tuple ds) Q)(w:Wd PK pa m G H)(d:DnAll G vs ds)(hp:H p=none):Q (.ref p) (upd H p<|.tup vs):=by obtain⟨w1,s1⟩:=w.new (o:=.tup vs) hp;exact k _ _ _ s1 w1<|.tup bY<|DnAll.mono s1.gs d
theorem Kn.lst(k:Kn PK pa m G H (.list ds) Q)(w:Wd PK pa m G H)(d:DnAll G vs ds)(hp:H p=none):Q (.ref p) (upd H p<|.lst vs):=by obtain⟨w1,s1⟩:=w.new (o:=.lst vs) hp;exact k _ _ _ s1 w1<|.lst bY<|DnAll.mono s1.gs d
def Kn.later{G1 H1:Hp}(k:Kn PK pa m G H x Q)(s:Stp pa G H G1 H1)(hp:∃o,H1 pa=Option.some o):Kn PK pa m G1 H1 x Q:=λv G' H' s' w d=>k v G' H' (s.trans s' hp) w d
end
inductive Sl where
 |un|d (x:Fn)|own (xs:D1)|pen|dic (kvs:List (Int×Fn))|fn (a:Fq)|dip (kvs:List (D2×Fn))
inductive KD(G:Hp):List (aL×V)->List (Int×Fn)->Prop
 |nil:KD G [] []
 |cons {i:Int} {v:V} {d:Fn} {ks:List (aL×V)} {kvs:List (Int×Fn)}:Dn G v d->KD G ks kvs->KD G ((.inl i,v)::ks) ((i,d)::kvs)
theorem KD.mono{G G':Hp}(s:Sub G G'){ks:Fl (aL×V)}{kvs:Fl (Int×Fn)}(h:KD G ks kvs):KD G' ks kvs:=by
 induction h with
 |nil=>exact .nil
 |cons h _ ih=>exact .cons (h.mono s) ih
noncomputable abbrev ci(k:D2×V):Fl aL×V:=(k.1.map Sum.inl,k.2)
inductive KP(G:Hp):List (D2×V)->List (D2×Fn)->Prop
 |nil:KP G [] []
 |cons {i:D2} {v:V} {d:Fn} {ks:List (D2×V)} {kvs:List (D2×Fn)}:Dn G v d->KP G ks kvs->KP G ((i,v)::ks) ((i,d)::kvs)
theorem KP.mono{G G':Hp}(s:Sub G G'){ks:Fl (D2×V)}{kvs:Fl (D2×Fn)}(h:KP G ks kvs):KP G' ks kvs:=by
 induction h with
 |nil=>exact .nil
 |cons h _ ih=>exact .cons (h.mono s) ih
inductive SlOk(pa:Fq)(H₀ G H:Hp):Option V->Sl->Prop
 |un {o:Option V}:SlOk pa H₀ G H o .un
 |d {v:V} {x:Fn}:Dn G v x->SlOk pa H₀ G H (some v) (.d x)
 |own {p:Fq} {vs:D5} {xs:D1}:H p=some (.lst vs)->G p=none->H₀ p=none->DnAll G vs xs->SlOk pa H₀ G H (some<|.ref p) (.own xs)
 |pen:SlOk pa H₀ G H (some<|.ref pa) .pen
 |fn {a:Fq}:SlOk pa H₀ G H (some<|.ref a) (.fn a)
 |dic {p:Fq} {ks:List (aL×V)} {kvs:List (Int×Fn)}:H p=some (.dK ks)->G p=none->H₀ p=none->KD G ks kvs->SlOk pa H₀ G H (some<|.ref p) (.dic kvs)
 |dip {p:Fq} {ks:List (D2×V)} {kvs:List (D2×Fn)}:H p=some (.dT<|ks.map ci)->G p=none->H₀ p=none->KP G ks kvs->SlOk pa H₀ G H (some<|.ref p) (.dip kvs)
structure Rl(PK:Pk)(pa:Fq)(D8 H₀:Hp)(m:Nat)(σ:St)(ρ:List Sl)(G H:Hp):Prop where
 wd:Wd PK pa m G H
 st:Stp pa D8 H₀ G H
 p0:∃o,H₀ pa=some o
 sl:∀(i:Nat)(s:Sl),ρ[i]?=some s->∃o,σ[i]?=some o/\SlOk pa H₀ G H o s
 len:ρ.length=σ.length
 dj:∀(i j:Nat)(xs ys:D1),i≠j->ρ[i]?=some (.own xs)->ρ[j]?=some (.own ys)->σ[i]?≠σ[j]?
 dj2:∀(i j:Nat)(xs ys:List (Int×Fn)),i≠j->ρ[i]?=some (.dic xs)->ρ[j]?=some (.dic ys)->σ[i]?≠σ[j]?
section
variable{PK:Pk}{pa:Fq}{D8 H₀ G H:Hp}{m:Nat}{σ:St}{ρ:Fl Sl}
def oN{α:Type}{l:Fl α}{k i:Nat}{x y:α}(h:(l.set k x)[i]?=some y)(hn:x≠y):k≠i/\l[i]?=some y:=by
 have hi:k≠i:=λe=>by
  subst e;have hl:k<l.length:=by
   have:=(Ay.mp h).1
   rwa [A1]at this
  rw[AS hl]at h;exact hn<|A8 h
 rw[AL hi]at h;exact⟨hi,h⟩
def vC{α:Type}{T:α->Sl}{k:Nat}{x:Sl}{v:Fm V}(dj:∀(i j:Nat)(a b:α),i≠j->ρ[i]?=some (T a)->ρ[j]?=some (T b)->σ[i]?≠σ[j]?)(hn:∀a,x≠T a) :
  ∀(i j:Nat)(a b:α),i≠j->(ρ.set k x)[i]?=some (T a)->(ρ.set k x)[j]?=some (T b)->(σ.set k v)[i]?≠(σ.set k v)[j]?:=λi j a b hij h1 h2=>by obtain⟨hi,h1⟩:=oN h1<|hn a;obtain⟨hj,h2⟩:=oN h2<|hn b;rw[AL hi,AL hj];exact dj i j a b hij h1 h2
def lB{α:Type}{T:α->Sl}{k:Nat}{x:Sl}(dj:∀(i j:Nat)(a b:α),i≠j->ρ[i]?=some (T a)->ρ[j]?=some (T b)->σ[i]?≠σ[j]?)(hn:∀a,x≠T a) :
  ∀(i j:Nat)(a b:α),i≠j->(ρ.set k x)[i]?=some (T a)->(ρ.set k x)[j]?=some (T b)->σ[i]?≠σ[j]?:=λi j a b hij h1 h2 =>
 dj i j a b hij (oN h1<|hn a).2 (oN h2<|hn b).2
def SlOk.step{G' H':Hp}{o:Fm V}{s:Sl}(k:SlOk pa H₀ G H o s)(hp0:∃o,H₀ pa=some o)(st:Stp pa G H G' H'):SlOk pa H₀ G' H' o s:=by
 cases k with
 |un=>exact .un
 |d h=>exact .d (h.mono st.gs)
 |pen=>exact .pen
 |fn=>exact .fn
 | @own p vs xs h1 h2 h3 h4 =>
  have FD:p≠pa:=λe=>by obtain⟨u,hu⟩:=hp0;rw[<- e,h3]at hu;cases hu
  refine .own (st.hk _ _ h1 FD) ?_ h3<|DnAll.mono st.gs h4;cases e:G' p with
  |none=>rfl
  | some u =>
   rcases st.gn p u e with z|z|⟨_,_,z⟩
   ·rw[h2]at z;cases z
   ·rw[h1]at z;cases z
   ·rw[h1]at z;cases z
 | @dic p ks kvs h1 h2 h3 h4 =>
  have FD:p≠pa:=λe=>by obtain⟨u,hu⟩:=hp0;rw[<- e,h3]at hu;cases hu
  refine .dic (st.hk _ _ h1 FD) ?_ h3<|h4.mono st.gs;cases e:G' p with
  |none=>rfl
  | some u =>
   rcases st.gn p u e with z|z|⟨_,_,z⟩
   ·rw[h2]at z;cases z
   ·rw[h1]at z;cases z
   ·rw[h1]at z;cases z
 | @dip p ks kvs h1 h2 h3 h4 =>
  have FD:p≠pa:=λe=>by obtain⟨u,hu⟩:=hp0;rw[<- e,h3]at hu;cases hu
  refine .dip (st.hk _ _ h1 FD) ?_ h3<|h4.mono st.gs;cases e:G' p with
  |none=>rfl
  | some u =>
   rcases st.gn p u e with z|z|⟨_,_,z⟩
   ·rw[h2]at z;cases z
   ·rw[h1]at z;cases z
   ·rw[h1]at z;cases z
theorem Rl.step{G' H':Hp}{m':Nat}(r:Rl PK pa D8 H₀ m σ ρ G H)(s:Stp pa G H G' H')(w:Wd PK pa m' G' H'):Rl PK pa D8 H₀ m' σ ρ G' H' :=
 ⟨w,r.st.trans s r.wd.some,r.p0,λi sl h=>let ⟨o,h1,h2⟩:=r.sl i sl h;⟨o,h1,h2.step r.p0 s⟩,r.len,r.dj,r.dj2⟩
theorem Rl.set(r:Rl PK pa D8 H₀ m σ ρ G H){v:V}{x:Fn}(d:Dn G v x)(k:Nat):Rl PK pa D8 H₀ m (σ.set k<|some v) (ρ.set k<|.d x) G H:=by
 refine⟨r.wd,r.st,r.p0,λi s h=>?_,by rw[A1,A1];exact r.len,λi j xs ys hij h1 h2=>?_,vC r.dj2 λa h=>by cases h⟩
 ·by_cases e:k=i
  ·subst e;have hl:k<ρ.length:=by
    have:=(Ay.mp h).1
    rwa [A1]at this
   rw[AS hl]at h;cases h;exact⟨_,AS<|by rw[<- r.len];exact hl,.d d⟩
  ·rw[AL e]at h ⊢;exact r.sl i s h
 ·have hi:k≠i:=λe=>by
   subst e;have hl:k<ρ.length:=by
    have:=(Ay.mp h1).1
    rwa [A1]at this
   rw[AS hl]at h1;cases h1
  have hj:k≠j:=λe=>by
   subst e;have hl:k<ρ.length:=by
    have:=(Ay.mp h2).1
    rwa [A1]at this
   rw[AS hl]at h2;cases h2
  rw[AL hi]at h1 ⊢;rw[AL hj]at h2 ⊢;exact r.dj i j xs ys hij h1 h2
def Rl.setO(r:Rl PK pa D8 H₀ m σ ρ G H){p:Fq}{vs:D5}{xs:D1}(h1:H p=some (.lst vs))(h2:G p=none)(h3:H₀ p=none)(h4:DnAll G vs xs)
  (hd:∀(i:Nat)(ys:D1),ρ[i]?=some (.own ys)->σ[i]?≠some (some<|.ref p)) (k:Nat):Rl PK pa D8 H₀ m (σ.set k<|some<|.ref p) (ρ.set k<|.own xs) G H:=by
 have up:∀{i:Nat}{s:Sl},(ρ.set k<|.own xs)[i]?=some s->i=k->s=.own xs/\(σ.set k<|some<|V.ref p)[i]?=some (some<|.ref p):=λ{i s} h e=>by
  subst e;have hl:i<ρ.length:=by
   have:=(Ay.mp h).1
   rwa [A1]at this
  rw[AS hl]at h;cases h;exact⟨rfl,AS<|by rw[<- r.len];exact hl⟩
 refine⟨r.wd,r.st,r.p0,λi s h=>?_,by rw[A1,A1];exact r.len,λi j ys zs hij e1 e2=>?_,vC r.dj2 λa h=>by cases h⟩
 ·by_cases e:i=k
  ·obtain⟨e1,e2⟩:=up h e;subst e1;exact⟨_,e2,.own h1 h2 h3 h4⟩
  ·rw[AL<|Ne.symm e]at h ⊢;exact r.sl i s h
 ·by_cases ei:i=k
  ·have q:=(up e1 ei).2;have hj:k≠j:=λe=>hij<|ei.trans e;rw[q];rw[AL hj]at e2 ⊢;exact λz=>hd j zs e2 z.symm
  ·rw[AL<|Ne.symm ei]at e1 ⊢;by_cases ej:j=k
   ·rw[(up e2 ej).2];exact hd i ys e1
   ·rw[AL<|Ne.symm ej]at e2 ⊢;exact r.dj i j ys zs hij e1 e2
def Rl.h0(r:Rl PK pa D8 H₀ m σ ρ G H){p:Fq}(hp:H p=none):H₀ p=none:=by
 cases e:H₀ p with
 |none=>rfl
 | some u =>
  by_cases hc:p=pa
  ·subst hc;obtain⟨o,h⟩:=r.wd.some;rw[hp]at h;cases h
  ·rw[r.st.hk p u e hc]at hp;cases hp
def Rl.apart(r:Rl PK pa D8 H₀ m σ ρ G H){p:Fq}(hp:H p=none)(i:Nat)(ys:D1)(h:ρ[i]?=some (.own ys)):σ[i]?≠some (some<|.ref p):=λe=>by
 obtain⟨o,h1,h2⟩:=r.sl i _ h;rw[e]at h1;cases h1;cases h2 with
 |own a _ _ _=>rw[hp]at a;cases a
def Rl.change(r:Rl PK pa D8 H₀ m σ ρ G H){k:Nat}{xs ys:D1}{p:Fq}{ws:D5}(hk:ρ[k]?=some (.own xs))(hσ:σ[k]?=some (some<|.ref p))(d:DnAll G ws ys) :
  Rl PK pa D8 H₀ m σ (ρ.set k<|.own ys) G (upd H p<|.lst ws):=by
 obtain⟨o,h1,h2⟩:=r.sl k _ hk;rw[hσ]at h1;cases h1;cases h2 with
 | @own _ vs _ a1 a2 a3 a4 =>
  have FD:pa≠p:=λe=>by obtain⟨u,hu⟩:=r.p0;rw[e,a3]at hu;cases hu
  have hl:k<ρ.length:=(Ay.mp hk).1;refine⟨⟨λb o h=>?_,r.wd.gpa,?_⟩,⟨r.st.gs,r.st.gn,λb o h hb=>?_⟩,r.p0,λi s h=>?_,by rw[A1];exact r.len,λi j us ws hij e1 e2=>?_,lB r.dj2 λa h=>by cases h⟩
  ·rw[aM<|λe=>by subst e;rw[a2]at h;cases h]
   exact r.wd.sub b o h
  ·obtain⟨u,h,q⟩:=r.wd.pen;exact⟨u,by rw[aM FD];exact h,q⟩
  ·rw[aM<|λe=>by subst e;rw[a3]at h;cases h]
   exact r.st.hk b o h hb
  ·by_cases e:k=i
   ·subst e;rw[AS hl]at h;cases h;exact⟨_,hσ,.own bY a2 a3 d⟩
   ·rw[AL e]at h;obtain⟨o,q1,q2⟩:=r.sl i s h;refine⟨o,q1,?_⟩;cases q2 with
    |un=>exact .un
    |d z=>exact .d z
    |pen=>exact .pen
    |fn=>exact .fn
    |dic b1 b2 b3 b4=>exact .dic (by rw[aM<|λe2=>by subst e2;rw[a1]at b1;cases b1];exact b1) b2 b3 b4
    |dip b1 b2 b3 b4=>exact .dip (by rw[aM<|λe2=>by subst e2;rw[a1]at b1;cases b1];exact b1) b2 b3 b4
    | own b1 b2 b3 b4 =>
     refine .own ?_ b2 b3 b4;rw[aM]
     ·exact b1
     ·intro e2;subst e2;exact r.dj k i _ _ e hk h<|by rw[hσ,q1]
  ·by_cases ei:k=i
   ·subst ei;rw[AL hij]at e2;exact r.dj k j _ _ hij hk e2
   ·rw[AL ei]at e1;by_cases ej:k=j
    ·subst ej;exact r.dj i k _ _ hij e1 hk
    ·rw[AL ej]at e2;exact r.dj i j _ _ hij e1 e2
noncomputable def fz(k:Nat)(ρ:Fl Sl):Fl Sl:=match ρ[k]? with
 |some (.own xs)=>ρ.set k (.d<|.list xs)
 |_=>ρ
theorem Rl.freeze(r:Rl PK pa D8 H₀ m σ ρ G H)(k:Nat):∃G',Sub G G'/\Rl PK pa D8 H₀ m σ (fz k ρ) G' H:=by
 unfold fz
 split
 ·rename_i xs hk;obtain⟨o,h1,h2⟩:=r.sl k _ hk;cases h2 with
  | @own p vs _ a1 a2 a3 a4 =>
   have FD:pa≠p:=λe=>by obtain⟨u,hu⟩:=r.p0;rw[e,a3]at hu;cases hu
   have hl:k<ρ.length:=(Ay.mp hk).1;have sb:Sub G (upd G p<|.lst vs):=Sub.new a2;refine⟨upd G p<|.lst vs,sb,r.wd.freeze a1 a2 FD,⟨λb o h=>sb b o<|r.st.gs b o h,λb o h=>?_,r.st.hk⟩,r.p0,λi s h=>?_,by rw[A1];exact r.len,λi j us ws hij e1 e2=>?_,lB r.dj2 λa h=>by cases h⟩
   ·by_cases e:b=p
    ·subst e;exact .inr<|.inl a3
    ·rw[aM e]at h;exact r.st.gn b o h
   ·by_cases e:k=i
    ·subst e;rw[AS hl]at h;cases h;exact⟨_,h1,.d<|.lst bY<|DnAll.mono sb a4⟩
    ·rw[AL e]at h;obtain⟨o,q1,q2⟩:=r.sl i s h;refine⟨o,q1,?_⟩;cases q2 with
     |un=>exact .un
     |d z=>exact .d (z.mono sb)
     |pen=>exact .pen
     |fn=>exact .fn
     |dic b1 b2 b3 b4=>exact .dic b1 (by rw[aM<|λe2=>by subst e2;rw[a1]at b1;cases b1];exact b2) b3 (b4.mono sb)
     |dip b1 b2 b3 b4=>exact .dip b1 (by rw[aM<|λe2=>by subst e2;rw[a1]at b1;cases b1];exact b2) b3 (b4.mono sb)
     | own b1 b2 b3 b4 =>
      refine .own b1 ?_ b3<|DnAll.mono sb b4;rw[aM]
      ·exact b2
      ·intro e2;subst e2;exact r.dj k i _ _ e hk h<|by rw[h1,q1]
   ·have hi:k≠i:=λe=>by subst e;rw[AS hl]at e1;cases e1
    have hj:k≠j:=λe=>by subst e;rw[AS hl]at e2;cases e2
    rw[AL hi]at e1;rw[AL hj]at e2;exact r.dj i j _ _ hij e1 e2
 ·exact⟨G,λ_ _ h=>h,r⟩
end
def TAe(PK:Pk)(i:Fl Sl->Tr Fn):TE:=λσ H Q=>∃pa D8 H₀ m ρ G,Rl PK pa D8 H₀ m σ ρ G H/\(i ρ).ok m λm' x=>Kn PK pa m' G H x Q
def TAt(PK:Pk)(i:Fl Sl->Tr Bool):TT:=λσ H Q=>∃pa D8 H₀ m ρ G,Rl PK pa D8 H₀ m σ ρ G H/\(i ρ).ok m λm' b=>∀G' H',Stp pa G H G' H'->Wd PK pa m' G' H'->Q b H'
def TAd(PK:Pk)(i:Fl Sl->Tr D1):TA:=λσ H Q=>∃pa D8 H₀ m ρ G,Rl PK pa D8 H₀ m σ ρ G H/\(i ρ).ok m λm' xs=>∀vs G' H',Stp pa G H G' H'->Wd PK pa m' G' H'->DnAll G' vs xs->Q vs H'
def Ko1(PK:Pk)(pa:Fq)(m:Nat)(G H:Hp)(xs:D1)(Q:VK):Prop:=∀p vs G' H',Stp pa G H G' H'->Wd PK pa m G' H'->H p=none->G' p=none->H' p=some (.lst vs)->DnAll G' vs xs->Q (.ref p) H'
def eG(PK:Pk)(i:Fl Sl->Tr D1):TE:=λσ H Q=>∃pa D8 H₀ m ρ G,Rl PK pa D8 H₀ m σ ρ G H/\(i ρ).ok m λm' xs=>Ko1 PK pa m' G H xs Q
inductive ArOk(pa:Fq)(G:Hp):V->Sl->Prop
 |d {v:V} {x:Fn}:Dn G v x->ArOk pa G v (.d x)
 |pen:ArOk pa G (.ref pa) .pen
 |fn {a:Fq}:ArOk pa G (.ref a) (.fn a)
inductive ArsOk(pa:Fq)(G:Hp):List V->List Sl->Prop
 |nil:ArsOk pa G [] []
 |cons {v:V} {vs:D5} {s:Sl} {ss:List Sl}:ArOk pa G v s->ArsOk pa G vs ss->ArsOk pa G (v::vs) (s::ss)
theorem ArsOk.length{pa:Fq}{G:Hp}{vs:D5}{ss:Fl Sl}(h:ArsOk pa G vs ss):vs.length=ss.length:=by
 induction h with
 |nil=>rfl
 |cons h t ih=>exact Eg (·+1) ih
def TAa(PK:Pk)(i:Fl Sl->Tr (Fl Sl)):TA:=λσ H Q=>∃pa D8 H₀ m ρ G,Rl PK pa D8 H₀ m σ ρ G H/\(i ρ).ok m λm' as=>∀vs G' H',Stp pa G H G' H'->Wd PK pa m' G' H'->ArsOk pa G' vs as->Q vs H'
inductive Re where
 |d (x:Fn)|own (xs:D1)
noncomputable def Re.val:Re->Fn
 |.d x=>x
 |.own xs=>.list xs
@[simp] theorem Re.val_d(x:Fn):(Re.d x).val=x:=rfl
@[simp] theorem Re.val_own(xs:D1):(Re.own xs).val=.list xs:=rfl
inductive Ou where
 |next (ρ:List Sl)|ret (r:Re)|brk (ρ:List Sl)|cont (ρ:List Sl)
abbrev DR:=Fl Sl->Tr Fn
abbrev DS:=Fl Sl->Tr (Fl Fn)
abbrev DT:=Fl Sl->Tr Bool
abbrev DU:=Fl Sl->Tr Ou
abbrev DV:=Fl Sl->Tr Re
abbrev DW:=Fl Fn->Fl Sl->Fm (Fl Sl)
abbrev DX:=Fn->Fl Sl->Fm (Fl Sl)
abbrev D7:=Fl Sl
def ZnX(H₀ G H:Hp)(v:V):Re->Prop
 |.d x=>Dn G v x
 |.own xs=>∃p vs,v=.ref p/\H p=some (.lst vs)/\G p=none/\H₀ p=none/\DnAll G vs xs
def Kr(PK:Pk)(pa:Fq)(m:Nat)(D8 H₀:Hp)(r:Re)(Q:VK):Prop:=∀v G H,Stp pa D8 H₀ G H->Wd PK pa m G H->ZnX H₀ G H v r->Q v H
def Ko(PK:Pk)(pa:Fq)(D8 H₀ Gs:Hp)(D:Ends)(m:Nat):Ou->Prop
 |.next ρ=>∀σ G H,Sub Gs G->Rl PK pa D8 H₀ m σ ρ G H->D.nx σ H
 |.ret r=>Kr PK pa m D8 H₀ r D.rt
 |.brk ρ=>∀σ G H,Sub Gs G->Rl PK pa D8 H₀ m σ ρ G H->D.bk σ H
 |.cont ρ=>∀σ G H,Sub Gs G->Rl PK pa D8 H₀ m σ ρ G H->D.ct σ H
def bH(PK:Pk)(i:DU):TS:=λD σ H=>∃pa D8 H₀ m ρ G,Rl PK pa D8 H₀ m σ ρ G H/\(i ρ).ok m (Ko PK pa D8 H₀ G D)
def PE.imp{X:Cx}{e:Fw}{t t':TE}(h:PE X e t)(q:∀σ H Q,t' σ H Q->t σ H Q):PE X e t':=λpins s σ H Q I z=>h pins s σ H Q I<|q σ H Q z
def PT.imp{X:Cx}{e:Fw}{t t':TT}(h:PT X e t)(q:∀σ H Q,t' σ H Q->t σ H Q):PT X e t':=λpins s σ H Q I z=>h pins s σ H Q I<|q σ H Q z
def PW.imp{X:Cx}{e:Fw}{t t':TT}(h:PW X e t)(q:∀σ H Q,t' σ H Q->t σ H Q):PW X e t':=λwh pins s σ H Q I z=>h wh pins s σ H Q I<|q σ H Q z
def PA.imp{X:Cx}{e:Fl Fw}{t t':TA}(h:PA X e t)(q:∀σ H Q,t' σ H Q->t σ H Q):PA X e t':=λpos pins s σ H Q I z=>h pos pins s σ H Q I<|q σ H Q z
def PS.imp{X:Cx}{e:Fx}{t t':TS}(h:PS X e t)(q:∀D σ H,t' D σ H->t D σ H):PS X e t':=λpins s σ H D I z=>h pins s σ H D I<|q D σ H z
def PSs.imp{X:Cx}{e:Fl Fx}{t t':TS}(h:PSs X e t)(q:∀D σ H,t' D σ H->t D σ H):PSs X e t':=λpins s σ H D I z=>h pins s σ H D I<|q D σ H z
variable{PK:Pk}{X:Cx}{a b c e:Fw}{es:Fl Fw}{pos:Pos}{i j l:DR}
def TAe.then{σ:St}{H:Hp}{β:Type}{k:Fn->Tr β}{Z:Nat->β->Prop}{Q:VK}{pa:Fq}{D8 H₀ G:Hp}{m:Nat}{ρ:D7}(R:Rl PK pa D8 H₀ m σ ρ G H)(h:((i ρ).bind k).ok m Z)
  (hq:∀m1 x v G1 H1,Stp pa G H G1 H1->Wd PK pa m1 G1 H1->Rl PK pa D8 H₀ m1 σ ρ G1 H1->Dn G1 v x->(k x).ok m1 Z->Q v H1):TAe PK i σ H Q:=by refine⟨pa,D8,H₀,m,ρ,G,R,Tr.ok_mono (Tr.ok_bind.mp h) λm1 x hx v G1 H1 s1 w1 d1=>?_⟩;exact hq m1 x v G1 H1 s1 w1 (R.step s1 w1) d1 hx
noncomputable def aa(k:Nat):DR:=λρ=>match ρ[k]? with
 |some (.d x)=>.ret x
 |_=>.fail
noncomputable def aC(d:Fn):DR:=λ_=>.ret d
def ac{k:Nat}(h:PE X e (gI k)):PE X e (TAe PK<|aa k):=h.imp λσ H Q Fy=>by
 obtain⟨pa,D8,H₀,m,ρ,G,R,q⟩:=Fy;unfold aa at q
 split at q
 ·rename_i x hx;obtain⟨o,h1,h2⟩:=R.sl k _ hx;cases h2 with
  |d z=>exact⟨_,h1,Kn.here q R.wd z⟩
 ·exact q.elim
def nP{v:V}{d:Fn}(h:PE X e (tC v))(hd:∀G,Dn G v d):PE X e (TAe PK<|aC d):=h.imp λσ H Q Fy=>by obtain⟨pa,D8,H₀,m,ρ,G,R,q⟩:=Fy;exact Kn.here q R.wd<|hd G
def aj{n:Int}{k pos}:PE X (.Constant (.int n) k pos) (TAe PK<|aC<|.int n):=nP cq λ_=>.int n
def ce{n:Bool}{k pos}:PE X (.Constant (.bool n) k pos) (TAe PK<|aC<|.bool n):=nP Zi0 λ_=>.bl n
def iH{k pos}:PE X (.Constant .none k pos) (TAe PK<|aC .none):=nP ZiR λ_=>.non
def zX{x:Str}{k pos}:PE X (.Constant (.str x) k pos) (TAe PK<|aC<|.str x):=nP ZiO λ_=>.str x
def gl{x:Str}{n:Int}(hg:Gl X x)(h:∃t,X.mg x=some (.int n t))(hd:(x==("__debug__":Str))=false:=by decide):PE X (.Name x pos) (TAe PK<|aC<|.int n):=nP (ZiU hg h hd) λ_=>.int n
def cL(r:R2)(f:DY):Prop:=∀(PK:Pk)(pa:Fq)(m:Nat)(G H:Hp)(x y:V)(dx dy dz:Fn)(Q:VK),Wd PK pa m G H->Dn G x dx->Dn G y dy->f dx dy=some dz->Kn PK pa m G H dz Q->r x y H Q
def ae(f:DY)(i j:DR):DR:=λρ=>(i ρ).bind λx=>(j ρ).bind λy=>Tr.of<|f x y
def vY{r:R2}{f:DY}(hv:cL r f):∀σ H Q,TAe PK (ae f i j) σ H Q->kr r (TAe PK i) (TAe PK j) σ H Q:=by rintro σ H Q ⟨pa,D8,H₀,m,ρ,G,R,q⟩;refine TAe.then R q λm1 x v G1 H1 s1 w1 R1 d1 q1=>?_;refine TAe.then R1 q1 λm2 y u G2 H2 s2 w2 R2 d2 q2=>?_;obtain⟨z,hz,k⟩:=Tr.ok_of q2;exact hv PK pa m2 G2 H2 v u x y z Q w2 (d1.mono s2.gs) d2 hz<|Kn.later k (s1.trans s2 w1.some) w2.some
def aw{op:Operator}{r:R2}{f:DY}(ho:OpR X (binaryOp op) r)(hv:cL r f)(ha:PE X a (TAe PK i))(hb:PE X b (TAe PK j)):PE X (.BinOp a op b pos) (TAe PK<|ae f i j) :=
 (c8 ho ha hb).imp (vY hv)
def zZ{op:CmpOp}{r:R2}{f:DY}(ho:OpR X (compareOp op) r)(hv:cL r f)(ha:PE X a (TAe PK i))(hb:PE X b (TAe PK j))(hm:behindInMarks op b=false):PE X (.Compare a [op] [b] pos) (TAe PK<|ae f i j) :=
 (ZiW ho ha hb hm).imp (vY hv)
def ZnL{r:R2}{f:DY}(hr:IxR X r)(hv:cL r f)(ha:PE X a (TAe PK i))(hb:PE X b (TAe PK j))(hs:An b):PE X (.Subscript a b pos) (TAe PK<|ae f i j) :=
 (gv hr ha hb hs).imp (vY hv)
def aA{r:R2}{f:DY}(hr:IxR X r)(hv:cL r f)(ha:PE X a (TAe PK i))(hb:PE X b (TAe PK j))(hs:An b:=by intro _ _;rfl):PE X (.Subscript a b pos) (TAe PK<|ae f i j):=ZnL hr hv ha hb hs
noncomputable def jC:Fn->Fm Bool
 |.bool b=>some b
 |_=>none
@[simp] theorem Zov(b:Bool):jC (.bool b)=some b:=rfl
def bu(i:DR):DT:=λρ=>(i ρ).bind λx=>Tr.of<|jC x
def ZnQ:∀σ H Q,TAt PK (bu i) σ H Q->ow (TAe PK i) σ H Q:=by rintro σ H Q ⟨pa,D8,H₀,m,ρ,G,R,q⟩;refine TAe.then R q λm1 x v G1 H1 s1 w1 R1 d1 q1=>?_;obtain⟨b,hb,k⟩:=Tr.ok_of q1;cases d1 <;> simp only[jC]at hb <;> cases hb;exact⟨_,rfl,k G1 H1 s1 w1⟩
def ZgI{t t':TE}(h:∀σ H Q,t' σ H Q->t σ H Q):∀σ H Q,ow t' σ H Q->ow t σ H Q:=λσ H Q z=>h σ H _ z
def bL{op:CmpOp}{r:R2}{f:DY}(ho:OpR X (compareOp op) r)(hv:cL r f)(ha:PE X a (TAe PK i))(hb:PE X b (TAe PK j))(hm:behindInMarks op b=false):PT X (.Compare a [op] [b] pos) (TAt PK<|bu<|ae f i j) :=
 (my ho ha hb hm).imp λσ H Q z=>ZgI (vY hv) σ H Q<|ZnQ σ H Q z
noncomputable def Zas:Fn->Fm Bool
 |.bool b=>some b
 |.int n=>some (n != 0)
 |.none=>some false
 |.list xs=>some (!xs.isEmpty)
 |.tuple xs=>some (!xs.isEmpty)
 |_=>none
def cU(i:DR):DT:=λρ=>(i ρ).bind λx=>Tr.of<|Zas x
theorem DnAll.isEmpty{H:Hp}{vs:D5}{ds:D1}(h:DnAll H vs ds):vs.isEmpty=ds.isEmpty:=by cases h <;> rfl
def dq(h:PE X e (TAe PK i))(he:∀whole,isTrue e X.env whole=(do let v <- whole;standAt e.pos;holding [v] (truthy v)):=by intro _;rfl):PT X e (TAt PK<|cU i):=(Zip h he).imp λσ H Q Fy=>by
 obtain⟨pa,D8,H₀,m,ρ,G,R,q⟩:=Fy;refine TAe.then R q λm1 x v G1 H1 s1 w1 R1 d1 q1=>?_;obtain⟨b,hb,k⟩:=Tr.ok_of q1;have fin:=k G1 H1 s1 w1;cases d1 with
 |non=>cases hb;exact⟨_,rfl,fin⟩
 |bl b=>cases hb;exact⟨_,rfl,fin⟩
 |int n=>cases hb;exact⟨_,rfl,fin⟩
 |str _=>cases hb
 |tup h1 h2=>cases hb;exact⟨_,.inr<|.inl ⟨_,SqT.of<|w1.sub _ _ h1,rfl⟩,by rw[h2.isEmpty];exact fin⟩
 |lst h1 h2=>cases hb;exact⟨_,.inl ⟨_,SqL.of<|w1.sub _ _ h1,rfl⟩,by rw[h2.isEmpty];exact fin⟩
 |dct _ _=>cases hb
 |dcp _ _ _=>cases hb
noncomputable def vZ(i j:DT):DT:=λρ=>(i ρ).bind λx=>if x=true then j ρ else .ret false
noncomputable def eE(i j:DT):DT:=λρ=>(i ρ).bind λx=>if x=true then .ret true else j ρ
noncomputable def dw(i:DT):DT:=λρ=>(i ρ).bind λx=>.ret<|!x
variable{p q:DT}{rest:Fl Fw}
def TAt.then{σ:St}{H:Hp}{β:Type}{k:Bool->Tr β}{Z:Nat->β->Prop}{Q:Bool->Hp->Prop}{pa:Fq}{D8 H₀ G:Hp}{m:Nat}{ρ:D7}(R:Rl PK pa D8 H₀ m σ ρ G H)(h:((p ρ).bind k).ok m Z)
  (hq:∀m1 x G1 H1,Stp pa G H G1 H1->Wd PK pa m1 G1 H1->Rl PK pa D8 H₀ m1 σ ρ G1 H1->(k x).ok m1 Z->Q x H1):TAt PK p σ H Q:=by refine⟨pa,D8,H₀,m,ρ,G,R,Tr.ok_mono (Tr.ok_bind.mp h) λm1 x hx G1 H1 s1 w1=>?_⟩;exact hq m1 x G1 H1 s1 w1 (R.step s1 w1) hx
def ZfA{D8 H₀ G H G1 H1:Hp}{m:Nat}{σ:St}{ρ:D7}{pa:Fq}{Q:Bool->Hp->Prop}(R1:Rl PK pa D8 H₀ m σ ρ G1 H1)(s1:Stp pa G H G1 H1)(h:(q ρ).ok m λm' b=>∀G' H',Stp pa G H G' H'->Wd PK pa m' G' H'->Q b H'):TAt PK q σ H1 Q :=
 ⟨pa,D8,H₀,m,ρ,G1,R1,Tr.ok_mono h λm2 b k G2 H2 s2 w2=>k G2 H2 (s1.trans s2 R1.wd.some) w2⟩
def zY{D8 H₀ G H G1 H1:Hp}{m:Nat}{σ:St}{ρ:D7}{pa:Fq}{Q:VK}(R1:Rl PK pa D8 H₀ m σ ρ G1 H1)(s1:Stp pa G H G1 H1)(h:(i ρ).ok m λm' x=>Kn PK pa m' G H x Q):TAe PK i σ H1 Q :=
 ⟨pa,D8,H₀,m,ρ,G1,R1,Tr.ok_mono h λm2 b k=>Kn.later k s1 R1.wd.some⟩
def Zfx(ha:PT X a (TAt PK p)):PW X (.BoolOp .And [a] pos) (TAt PK p):=Zcx ha
def fH(ha:PT X a (TAt PK p)):PW X (.BoolOp .Or [a] pos) (TAt PK p):=Zim ha
def Zfy(ha:PT X a (TAt PK p))(hb:PW X (.BoolOp .And (b::rest) pos) (TAt PK q)):PW X (.BoolOp .And (a::b::rest) pos) (TAt PK<|vZ p q):=(Zcy ha hb).imp λσ H Q Fy=>by
 obtain⟨pa,D8,H₀,m,ρ,G,R,z⟩:=Fy;refine TAt.then R z λm1 x G1 H1 s1 w1 R1 q1=>?_;cases x with
 |true=>rw[Ed rfl]at q1 ⊢;exact ZfA R1 s1 q1
 |false=>rw[Ef AN]at q1 ⊢;exact q1 G1 H1 s1 w1
def eP(ha:PT X a (TAt PK p))(hb:PW X (.BoolOp .Or (b::rest) pos) (TAt PK q)):PW X (.BoolOp .Or (a::b::rest) pos) (TAt PK<|eE p q):=(Zin ha hb).imp λσ H Q Fy=>by
 obtain⟨pa,D8,H₀,m,ρ,G,R,z⟩:=Fy;refine TAt.then R z λm1 x G1 H1 s1 w1 R1 q1=>?_;cases x with
 |true=>rw[Ed rfl]at q1 ⊢;exact q1 G1 H1 s1 w1
 |false=>rw[Ef AN]at q1 ⊢;exact ZfA R1 s1 q1
def eQ(h:PW X e (TAt PK p)):PT X e (TAt PK p):=h.pt
def dQ(ha:PT X a (TAt PK p)):PT X (.UnaryOp .Not a pos) (TAt PK<|dw p):=(Ziq ha).imp λσ H Q Fy=>by obtain⟨pa,D8,H₀,m,ρ,G,R,z⟩:=Fy;refine TAt.then R z λm1 x G1 H1 s1 w1 R1 q1=>?_;exact q1 G1 H1 s1 w1
def kc(i j:DR):DR:=λρ=>(bu i ρ).bind λx=>if x=true then j ρ else .ret<|.bool false
def vX(i:DR):DR:=λρ=>(bu i ρ).bind λx=>.ret<|.bool<|!x
def TAe.thenB{σ:St}{H:Hp}{β:Type}{k:Bool->Tr β}{Z:Nat->β->Prop}{Q:VK}{pa:Fq}{D8 H₀ G:Hp}{m:Nat}{ρ:D7}(R:Rl PK pa D8 H₀ m σ ρ G H)(h:((bu i ρ).bind k).ok m Z)
  (hq:∀m1 c G1 H1,Stp pa G H G1 H1->Wd PK pa m1 G1 H1->Rl PK pa D8 H₀ m1 σ ρ G1 H1->(k c).ok m1 Z->Q (.bl c) H1):TAe PK i σ H Q:=by unfold bu at h;rw[Tr.bind_assoc]at h;refine TAe.then R h λm1 x v G1 H1 s1 w1 R1 d1 q1=>?_;rw[Tr.ok_bind]at q1;obtain⟨c,hb,q1⟩:=Tr.ok_of q1;cases d1 <;> simp only[jC]at hb <;> cases hb;exact hq m1 _ G1 H1 s1 w1 R1 q1
def nO{op}(h:PE X a (TAe PK i)):PE X (.BoolOp op [a] pos) (TAe PK i):=ZiP h
def nQ(ha:PE X a (TAe PK i))(hb:PE X (.BoolOp .And (b::rest) pos) (TAe PK j)):PE X (.BoolOp .And (a::b::rest) pos) (TAe PK<|kc i j):=(Zi1 ha hb).imp λσ H Q Fy=>by
 obtain⟨pa,D8,H₀,m,ρ,G,R,z⟩:=Fy;refine TAe.thenB R z λm1 x G1 H1 s1 w1 R1 q1=>⟨x,rfl,?_⟩;cases x with
 |true=>rw[Ed rfl]at q1 ⊢;exact zY R1 s1 q1
 |false=>rw[Ef AN]at q1 ⊢;exact(Kn.later q1 s1 w1.some).here w1<|.bl false
def ZfV(ha:PE X a (TAe PK i)):PE X (.UnaryOp .Not a pos) (TAe PK<|vX i):=(ZiQ ha).imp λσ H Q Fy=>by obtain⟨pa,D8,H₀,m,ρ,G,R,z⟩:=Fy;refine TAe.thenB R z λm1 x G1 H1 s1 w1 R1 q1=>⟨x,rfl,?_⟩;exact(Kn.later q1 s1 w1.some).here w1<|.bl _
noncomputable def Af(p:DT)(i j:DR):DR:=λρ=>(p ρ).bind λx=>if x=true then i ρ else j ρ
def ZnM(hc:PT X c (TAt PK p))(ha:PE X a (TAe PK i))(hb:PE X b (TAe PK j)):PE X (.IfExp c a b pos) (TAe PK<|Af p i j):=(ZiS hc ha hb).imp λσ H Q Fy=>by
 obtain⟨pa,D8,H₀,m,ρ,G,R,z⟩:=Fy;refine TAt.then R z λm1 x G1 H1 s1 w1 R1 q1=>?_;cases x with
 |true=>rw[Ed rfl]at q1 ⊢;exact zY R1 s1 q1
 |false=>rw[Ef AN]at q1 ⊢;exact zY R1 s1 q1
variable{is:DS}
noncomputable def ak:DS:=λ_=>.ret []
noncomputable def af(i:DR)(is:DS):DS:=λρ=>(i ρ).bind λx=>(is ρ).bind λxs=>.ret (x::xs)
def am:PA X [] (TAd PK ak):=cf.imp λσ H Q Fy=>by obtain⟨pa,D8,H₀,m,ρ,G,R,z⟩:=Fy;exact z [] G H .refl R.wd .nil
def TAd.then{σ:St}{H:Hp}{β:Type}{k:Fl Fn->Tr β}{Z:Nat->β->Prop}{Q:Fl V->Hp->Prop}{pa:Fq}{D8 H₀ G:Hp}{m:Nat}{ρ:D7}(R:Rl PK pa D8 H₀ m σ ρ G H)(h:((is ρ).bind k).ok m Z)
  (hq:∀m1 xs vs G1 H1,Stp pa G H G1 H1->Wd PK pa m1 G1 H1->Rl PK pa D8 H₀ m1 σ ρ G1 H1->DnAll G1 vs xs->(k xs).ok m1 Z->Q vs H1):TAd PK is σ H Q:=by refine⟨pa,D8,H₀,m,ρ,G,R,Tr.ok_mono (Tr.ok_bind.mp h) λm1 x hx v G1 H1 s1 w1 d1=>?_⟩;exact hq m1 x v G1 H1 s1 w1 (R.step s1 w1) d1 hx
def ag(ha:PE X e (TAe PK i))(hr:PA X es (TAd PK is))(hs:starEach (e::es) X.env=(false,eval e X.env)::starEach es X.env:=by rfl):PA X (e::es) (TAd PK<|af i is):=(bx ha hr hs).imp λσ H Q Fy=>by obtain⟨pa,D8,H₀,m,ρ,G,R,z⟩:=Fy;refine TAe.then R z λm1 x v G1 H1 s1 w1 R1 d1 q1=>?_;refine TAd.then R1 q1 λm2 xs vs G2 H2 s2 w2 R2 d2 q2=>?_;exact q2 _ _ _ (s1.trans s2 w1.some) w2<|.cons (d1.mono s2.gs) d2
noncomputable def small(n:Nat):Bool:=decide (n<=sizeLine)
def bj(is:DS):DR:=λρ=>(is ρ).bind λxs=>if small xs.length=true then .ret (.tuple xs)else .fail
noncomputable def bE(is:DS):DR:=λρ=>(is ρ).bind λxs=>.ret<|.list xs
def cW(is:DS):DS:=λρ=>(is ρ).bind λxs=>if small xs.length=true then .ret xs else .fail
def gf{α:Type}{c:Bool}{t:Tr α}{m:Nat}{Q:Nat->α->Prop}(h:(if c=true then t else .fail).ok m Q):c=true/\t.ok m Q:=by
 cases c with
 |true=>exact⟨rfl,h⟩
 |false=>exact h.elim
def bm{x1}(h:PA X es (TAd PK is)):PE X (.Tuple es x1 pos) (TAe PK<|bj is):=(ZiN h).imp λσ H Q Fy=>by obtain⟨pa,D8,H₀,m,ρ,G,R,z⟩:=Fy;refine TAd.then R z λm1 xs vs G1 H1 s1 w1 R1 d1 q1=>?_;obtain⟨hs,k⟩:=gf q1;exact⟨by rw[d1.length];exact Ec hs,λp hp=>(Kn.later k s1 w1.some).tup w1 d1 hp⟩
def Ko1.new{pa:Fq}{m:Nat}{G H:Hp}{xs:D1}{vs:D5}{Q:VK}{p:Fq}(k:Ko1 PK pa m G H xs Q)(w:Wd PK pa m G H)(d:DnAll G vs xs)(hp:H p=none):Q (.ref p) (upd H p<|.lst vs):=by obtain⟨w1,s1⟩:=w.own (o:=.lst vs) hp;exact k p vs G _ s1 w1 hp (w.gnone hp) bY d
def Ko1.later{pa:Fq}{m:Nat}{G H G1 H1:Hp}{xs:D1}{Q:VK}(k:Ko1 PK pa m G H xs Q)(s:Stp pa G H G1 H1)(hp:∃o,H1 pa=some o):Ko1 PK pa m G1 H1 xs Q:=λp vs G' H' s' w' h1 h2 h3 h4=>by
 refine k p vs G' H' (s.trans s' hp) w' ?_ h2 h3 h4;cases e:H p with
 |none=>rfl
 | some u =>
  by_cases hc:p=pa
  ·subst hc;obtain⟨o,z⟩:=hp;rw[h1]at z;cases z
  ·rw[s.hk p u e hc]at h1;cases h1
def dr(h:PA X es (TAd PK is)):PE X (.List es pos) (eG PK<|cW is):=(ZcL h).imp λσ H Q Fy=>by obtain⟨pa,D8,H₀,m,ρ,G,R,z⟩:=Fy;refine TAd.then R z λm1 xs vs G1 H1 s1 w1 R1 d1 q1=>?_;obtain⟨hs,k⟩:=gf q1;exact⟨by rw[d1.length];exact Ec hs,λp hp=>(Ko1.later k s1 w1.some).new w1 d1 hp⟩
def Ko1.of{pa:Fq}{m:Nat}{G H:Hp}{xs:D1}{Q:VK}(k:Kn PK pa m G H (.list xs) Q)(hp:∃o,H pa=some o):Ko1 PK pa m G H xs Q:=λp vs G' H' s w h1 h2 h3 h4=>by
 have FD:pa≠p:=λe=>by obtain⟨o,z⟩:=hp;rw[e,h1]at z;cases z
 have sb:Sub G' (upd G' p<|.lst vs):=Sub.new h2;refine k _ (upd G' p<|.lst vs) H' ⟨λb o h=>sb b o<|s.gs b o h,λb o h=>?_,s.hk⟩ (w.freeze h3 h2 FD)<|.lst bY<|DnAll.mono sb h4;by_cases e:b=p
 ·subst e;exact .inr<|.inl h1
 ·rw[aM e]at h;exact s.gn b o h
def bV(h:PE X e (eG PK is)):PE X e (TAe PK<|bE is):=h.imp λσ H Q Fy=>by obtain⟨pa,D8,H₀,m,ρ,G,R,z⟩:=Fy;refine⟨pa,D8,H₀,m,ρ,G,R,Tr.ok_mono (Tr.ok_bind.mp z) λm1 xs k=>Ko1.of k R.wd.some⟩
def fJ(r:Fl V->Hp->VK->Prop)(f:Fl Fn->Fm Fn):Prop:=∀(PK:Pk)(pa:Fq)(m:Nat)(G H:Hp)(vs:D5)(ds:D1)(d:Fn)(Q:VK),Wd PK pa m G H->DnAll G vs ds->f ds=some d->Kn PK pa m G H d Q->r vs H Q
def Ag(r:Fl V->Hp->VK->Prop)(f:Fl Fn->Fm D1):Prop:=∀(PK:Pk)(pa:Fq)(m:Nat)(G H:Hp)(vs:D5)(ds:D1)(d:D1)(Q:VK),Wd PK pa m G H->DnAll G vs ds->f ds=some d->Ko1 PK pa m G H d Q->r vs H Q
def bc(f:Fl Fn->Fm Fn)(is:DS):DR:=λρ=>(is ρ).bind λxs=>Tr.of<|f xs
def gE(f:Fl Fn->Fm D1)(is:DS):DS:=λρ=>(is ρ).bind λxs=>Tr.of<|f xs
def ZnT{r:Fl V->Hp->VK->Prop}{f:Fl Fn->Fm Fn}(hv:fJ r f):∀σ H Q,TAe PK (bc f is) σ H Q->fN r (TAd PK is) σ H Q:=by rintro σ H Q ⟨pa,D8,H₀,m,ρ,G,R,z⟩;refine TAd.then R z λm1 xs vs G1 H1 s1 w1 R1 d1 q1=>?_;obtain⟨d,hd,k⟩:=Tr.ok_of q1;exact hv PK pa m1 G1 H1 vs xs d Q w1 d1 hd<|Kn.later k s1 w1.some
def ZnS{r:Fl V->Hp->VK->Prop}{f:Fl Fn->Fm D1}(hv:Ag r f):∀σ H Q,eG PK (gE f is) σ H Q->fN r (TAd PK is) σ H Q:=by rintro σ H Q ⟨pa,D8,H₀,m,ρ,G,R,z⟩;refine TAd.then R z λm1 xs vs G1 H1 s1 w1 R1 d1 q1=>?_;obtain⟨d,hd,k⟩:=Tr.ok_of q1;exact hv PK pa m1 G1 H1 vs xs d Q w1 d1 hd<|Ko1.later k s1 w1.some
def bd{t:TA}{r:Fl V->Hp->VK->Prop}{f:Fl Fn->Fm Fn}(h:PE X e (fN r<|TAd PK is))(hv:fJ r f):PE X e (TAe PK<|bc f is):=h.imp<|ZnT hv
def zS{t:TA}{r:Fl V->Hp->VK->Prop}{f:Fl Fn->Fm D1}(h:PE X e (fN r<|TAd PK is))(hv:Ag r f):PE X e (eG PK<|gE f is):=h.imp<|ZnS hv
variable{as:Fl Sl->Tr D7}
noncomputable def aD:Fl Sl->Tr D7:=λ_=>.ret []
noncomputable def ah(i:DR)(as:Fl Sl->Tr D7):Fl Sl->Tr D7:=λρ=>(i ρ).bind λx=>(as ρ).bind λxs=>.ret (.d x::xs)
noncomputable def cg(k:Nat)(as:Fl Sl->Tr D7):Fl Sl->Tr D7:=λρ=>match ρ[k]? with
 |some .pen=>(as ρ).bind λxs=>.ret (.pen::xs)
 |_=>.fail
def aH:PA X [] (TAa PK aD):=cf.imp λσ H Q Fy=>by obtain⟨pa,D8,H₀,m,ρ,G,R,z⟩:=Fy;exact z [] G H .refl R.wd .nil
def TAa.then{σ:St}{H:Hp}{β:Type}{k:Fl Sl->Tr β}{Z:Nat->β->Prop}{Q:Fl V->Hp->Prop}{pa:Fq}{D8 H₀ G:Hp}{m:Nat}{ρ:D7}(R:Rl PK pa D8 H₀ m σ ρ G H)(h:((as ρ).bind k).ok m Z)
  (hq:∀m1 xs vs G1 H1,Stp pa G H G1 H1->Wd PK pa m1 G1 H1->Rl PK pa D8 H₀ m1 σ ρ G1 H1->ArsOk pa G1 vs xs->(k xs).ok m1 Z->Q vs H1):TAa PK as σ H Q:=by refine⟨pa,D8,H₀,m,ρ,G,R,Tr.ok_mono (Tr.ok_bind.mp h) λm1 x hx v G1 H1 s1 w1 d1=>?_⟩;exact hq m1 x v G1 H1 s1 w1 (R.step s1 w1) d1 hx
def ai(ha:PE X e (TAe PK i))(hr:PA X es (TAa PK as))(hs:starEach (e::es) X.env=(false,eval e X.env)::starEach es X.env:=by rfl):PA X (e::es) (TAa PK<|ah i as):=(bx ha hr hs).imp λσ H Q Fy=>by obtain⟨pa,D8,H₀,m,ρ,G,R,z⟩:=Fy;refine TAe.then R z λm1 x v G1 H1 s1 w1 R1 d1 q1=>?_;refine TAa.then R1 q1 λm2 xs vs G2 H2 s2 w2 R2 d2 q2=>?_;exact q2 _ _ _ (s1.trans s2 w1.some) w2<|.cons (.d<|d1.mono s2.gs) d2
def cv{k:Nat}(ha:PE X e (gI k))(hr:PA X es (TAa PK as))(hs:starEach (e::es) X.env=(false,eval e X.env)::starEach es X.env:=by rfl):PA X (e::es) (TAa PK<|cg k as):=(bx ha hr hs).imp λσ H Q Fy=>by
 obtain⟨pa,D8,H₀,m,ρ,G,R,z⟩:=Fy;unfold cg at z
 split at z
 ·rename_i hk;obtain⟨o,h1,h2⟩:=R.sl k _ hk;cases h2;refine⟨_,h1,?_⟩;refine TAa.then R z λm2 xs vs G2 H2 s2 w2 R2 d2 q2=>?_;exact q2 _ _ _ s2 w2<|.cons .pen d2
 ·exact z.elim
def aSp(PK:Pk)(n:Nat)(f:DV):Sp:=λvs H Q _=>vs.length=n/\∃pa m G as,Wd PK pa m G H/\ArsOk pa G vs as/\(f as).ok m λm' r=>Kr PK pa m' G H r Q
noncomputable def aB(f:DV)(as:Fl Sl->Tr D7):DV:=λρ=>(as ρ).bind f
noncomputable def aE(f:DV):DR:=λρ=>(f ρ).bind λr=>.ret r.val
def v8(PK:Pk)(i:DV):TE:=λσ H Q=>∃pa D8 H₀ m ρ G,Rl PK pa D8 H₀ m σ ρ G H/\(i ρ).ok m λm' r=>Kr PK pa m' G H r Q
def Kr.later{pa:Fq}{m:Nat}{G H G1 H1:Hp}{r:Re}{Q:VK}(k:Kr PK pa m G H r Q)(s:Stp pa G H G1 H1)(hp:∃o,H1 pa=some o):Kr PK pa m G1 H1 r Q:=λv G' H' s' w' d=>by
 refine k v G' H' (s.trans s' hp) w' ?_;cases r with
 |d x=>exact d
 | own xs =>
  obtain⟨p,vs,e,h1,h2,h3,h4⟩:=d;refine⟨p,vs,e,h1,h2,?_,h4⟩;cases e:H p with
  |none=>rfl
  | some u =>
   by_cases hc:p=pa
   ·subst hc;obtain⟨o,z⟩:=hp;rw[h3]at z;cases z
   ·rw[s.hk p u e hc]at h3;cases h3
theorem Kr.of{pa:Fq}{m:Nat}{G H:Hp}{r:Re}{Q:VK}(k:Kn PK pa m G H r.val Q)(hp:∃o,H pa=some o):Kr PK pa m G H r Q:=λv G' H' s w d=>by
 cases r with
 |d x=>exact k v G' H' s w d
 | own xs =>
  obtain⟨p,vs,rfl,h1,h2,h3,h4⟩:=d;exact Ko1.of k hp p vs G' H' s w h3 h2 h1 h4
def aK{f:DV}(h:PE X e (v8 PK f)):PE X e (TAe PK<|aE f):=h.imp (by intro σ H Q z;obtain⟨pa,D8,H₀,m,ρ,G,R,z⟩:=z;exact⟨pa,D8,H₀,m,ρ,G,R,Tr.ok_mono (Tr.ok_bind.mp z) λm1 r k=>Kr.of k R.wd.some⟩)
structure ACal(PK:Pk)(P:Fs)(w:Ft)(K:DQ)(mg:D6)(base:Fv)(x:Str)(k:Nat)(ps:D4)(f:DV):Prop where
 cal:Callee P w K mg base x k ps (aSp PK ps.length f)
 len:∀as m Z,(f as).ok m Z->as.length=ps.length
def ZnD{x:Str}{k:Nat}{ps:D4}{f:DV}{pp:Pos}(C:ACal PK X.prog X.w X.K X.mg X.base x k ps f)(hr:Room k X.A)(hg:Gl X x)(ha:PA X (e::es) (TAa PK as))
  (hdb:(x==("__debug__":Str))=false:=by decide)
  (he:starEach (e::es) X.env=(false,eval e X.env)::starEach es X.env:=by rfl) (FO:(backTo pos<|starEach es X.env).any (·.1)=false:=by rfl):PE X (.Call (.Name x pp) (e::es) [] pos) (v8 PK<|aB f as) :=
 (ZcQ C.cal hr hg ha hdb he FO).imp λσ H Q Fy=>by obtain⟨pa,D8,H₀,m,ρ,G,R,z⟩:=Fy;refine TAa.then R z λm1 xs vs G1 H1 s1 w1 R1 d1 q1=>?_;show aSp PK ps.length f (vs++[]) H1 Q E0;rw[A3];exact⟨by rw[d1.length];exact C.len _ _ _ q1,pa,m1,G1,xs,w1,d1,Tr.ok_mono q1 λm2 r k=>Kr.later k s1 w1.some⟩
def aG{x:Str}{k n:Nat}{ps:D4}{f:DV}{pp:Pos}(C:ACal PK X.prog X.w X.K X.mg X.base x k ps f)(hr:Room n X.A)(ha:PA X (e::es) (TAa PK as))(hk:k<=n:=by decide)(hg:Gl X x:=by rfl)(hdb:(x==("__debug__":Str))=false:=by decide)(he:starEach (e::es) X.env=(false,eval e X.env)::starEach es X.env:=by rfl)(FO:(backTo pos<|starEach es X.env).any (·.1)=false:=by rfl):PE X (.Call (.Name x pp) (e::es) [] pos) (v8 PK<|aB f as):=ZnD C (hr.mono hk) hg ha hdb he FO
variable{PK:Pk}{X:Cx}{a b c e:Fw}{es:Fl Fw}{pos:Pos}{i j l:DR}{is:DS}{as:Fl Sl->Tr D7}{f:DV}{p q:DT}{st:Fx}{sts:Fl Fx}{s t u:DU}
noncomputable def au(s t:DU):DU:=λρ=>(s ρ).bind λo=>match o with
 |.next ρ'=>t ρ'
 |o=>.ret o
noncomputable def bM:DU:=λρ=>.ret<|.next ρ
def Ko.later{pa:Fq}{D8 H₀ Gs G:Hp}{D:Ends}{m:Nat}{o:Ou}(k:Ko PK pa D8 H₀ Gs D m o)(sb:Sub Gs G):Ko PK pa D8 H₀ G D m o:=by
 cases o with
 |next ρ=>exact λσ G' H s R=>k σ G' H (λb o h=>s b o<|sb b o h) R
 |ret r=>exact k
 |brk ρ=>exact λσ G' H s R=>k σ G' H (λb o h=>s b o<|sb b o h) R
 |cont ρ=>exact λσ G' H s R=>k σ G' H (λb o h=>s b o<|sb b o h) R
def Sub.refl{G:Hp}:Sub G G:=λ_ _ h=>h
def Sub.trans{G G1 G2:Hp}(a:Sub G G1)(b:Sub G1 G2):Sub G G2:=λc o h=>b c o<|a c o h
def bT:PSs X [] (bH PK bM):=ph.imp λD σ H Fy=>by obtain⟨pa,D8,H₀,m,ρ,G,R,z⟩:=Fy;exact z σ G H .refl R
def ZnR:∀D σ H,bH PK (au s t) D σ H->ZaA (bH PK s) (bH PK t) D σ H:=by
 rintro D σ H ⟨pa,D8,H₀,m,ρ,G,R,z⟩;refine⟨pa,D8,H₀,m,ρ,G,R,Tr.ok_mono (Tr.ok_bind.mp z) λm1 o k=>?_⟩;cases o with
 |next ρ'=>exact λσ' G' H' sb R'=>⟨pa,D8,H₀,m1,ρ',G',R',Tr.ok_mono k λ_ _ k'=>Ko.later k' sb⟩
 |ret r=>exact k
 |brk ρ'=>exact k
 |cont ρ'=>exact k
def av(h1:PS X st (bH PK s))(h2:PSs X sts (bH PK t)):PSs X (st::sts) (bH PK<|au s t):=(fr h1 h2).imp ZnR
def aF(h1:PS X st (bH PK s)):PSs X [st] (bH PK s):=kE h1
noncomputable def Zf0:DU:=λ_=>.fail
def ZnA:PS X st (bH PK Zf0):=λ_ _ _ _ _ _ h=>by obtain⟨pa,D8,H₀,m,ρ,G,R,z⟩:=h;exact z.elim
noncomputable def aZ(i:DR):DU:=λρ=>(i ρ).bind λx=>.ret<|.ret<|.d x
def a9(he:PE X e (TAe PK i)):PS X (.Return (some e) pos) (bH PK<|aZ i):=(iW he).imp λD σ H Fy=>by obtain⟨pa,D8,H₀,m,ρ,G,R,z⟩:=Fy;refine TAe.then R z λm1 x v G1 H1 s1 w1 R1 d1 q1=>?_;exact q1 v G1 H1 R1.st w1 d1
noncomputable def j9(is:DS):DU:=λρ=>(is ρ).bind λx=>.ret<|.ret<|.own x
def nL(he:PE X e (eG PK is)):PS X (.Return (some e) pos) (bH PK<|j9 is):=(iW he).imp λD σ H Fy=>by obtain⟨pa,D8,H₀,m,ρ,G,R,z⟩:=Fy;refine⟨pa,D8,H₀,m,ρ,G,R,Tr.ok_mono (Tr.ok_bind.mp z) λm1 xs k p vs G1 H1 s1 w1 h1 h2 h3 h4=>?_⟩;exact k (.ref p) G1 H1 (R.st.trans s1 R.wd.some) w1 ⟨p,vs,rfl,h3,h2,R.h0 h1,h4⟩
noncomputable def vW(f:DV):DU:=λρ=>(f ρ).bind λr=>.ret<|.ret r
def ZfG(he:PE X e (v8 PK f)):PS X (.Return (some e) pos) (bH PK<|vW f):=(iW he).imp (by intro D σ H z;obtain⟨pa,D8,H₀,m,ρ,G,R,z⟩:=z;exact⟨pa,D8,H₀,m,ρ,G,R,Tr.ok_mono (Tr.ok_bind.mp z) λm1 r k=>Kr.later k R.st R.wd.some⟩)
noncomputable def fX(k:Nat):DU:=λρ=>match ρ[k]? with
 |some (.d x)=>.ret (.ret<|.d x)
 |some (.own xs)=>.ret (.ret<|.own xs)
 |_=>.fail
def nK{k:Nat}(he:PE X e (gI k)):PS X (.Return (some e) pos) (bH PK<|fX k):=(iW he).imp λD σ H Fy=>by
 obtain⟨pa,D8,H₀,m,ρ,G,R,z⟩:=Fy;unfold fX at z
 split at z
 ·rename_i x hx;obtain⟨o,h1,h2⟩:=R.sl k _ hx;cases h2 with
  |d d1=>exact⟨_,h1,z _ G H R.st R.wd d1⟩
 ·rename_i xs hx;obtain⟨o,h1,h2⟩:=R.sl k _ hx;cases h2 with
  |own a1 a2 a3 a4=>exact⟨_,h1,z _ G H R.st R.wd ⟨_,_,rfl,a1,a2,a3,a4⟩⟩
 ·exact z.elim
noncomputable def bO(p:DT)(s t:DU):DU:=λρ=>(p ρ).bind λx=>if x=true then s ρ else t ρ
def bU{xs ys:Fl Fx}(hc:PT X c (TAt PK p))(ha:PSs X xs (bH PK s))(hb:PSs X ys (bH PK t)):PS X (.If c xs ys pos) (bH PK<|bO p s t):=(pq hc ha hb).imp λD σ H Fy=>by
 obtain⟨pa,D8,H₀,m,ρ,G,R,z⟩:=Fy;refine TAt.then R z λm1 x G1 H1 s1 w1 R1 q1=>?_;cases x with
 |true=>rw[Ed rfl]at q1 ⊢;exact⟨pa,D8,H₀,m1,ρ,G1,R1,Tr.ok_mono q1 λ_ _ k'=>Ko.later k' s1.gs⟩
 |false=>rw[Ef AN]at q1 ⊢;exact⟨pa,D8,H₀,m1,ρ,G1,R1,Tr.ok_mono q1 λ_ _ k'=>Ko.later k' s1.gs⟩
noncomputable def bb(k:Nat)(i:DR):DU:=λρ=>(i ρ).bind λx=>.ret<|.next<|ρ.set k<|.d x
def bf{k:Nat}(h:PS X st (dC (TAe PK i)<|dH k)):PS X st (bH PK<|bb k i):=h.imp λD σ H Fy=>by obtain⟨pa,D8,H₀,m,ρ,G,R,z⟩:=Fy;refine TAe.then R z λm1 x v G1 H1 s1 w1 R1 d1 q1=>?_;exact q1 _ G1 H1 s1.gs<|R1.set d1 k
noncomputable def j8(k:Nat)(is:DS):DU:=λρ=>(is ρ).bind λx=>.ret<|.next<|ρ.set k<|.own x
def vM{k:Nat}(h:PS X st (dC (eG PK is)<|dH k)):PS X st (bH PK<|j8 k is):=h.imp λD σ H Fy=>by obtain⟨pa,D8,H₀,m,ρ,G,R,z⟩:=Fy;refine⟨pa,D8,H₀,m,ρ,G,R,Tr.ok_mono (Tr.ok_bind.mp z) λm1 xs k' p vs G1 H1 s1 w1 h1 h2 h3 h4=>?_⟩;exact k' _ G1 H1 s1.gs<|(R.step s1 w1).setO h3 h2 (R.h0 h1) h4 (λn ys e=>R.apart h1 n ys e) k
def lU(f:DY)(k:Nat)(i:DR):DU:=λρ=>(aa k ρ).bind λx=>(i ρ).bind λy=>(Tr.of<|f x y).bind λz=>.ret<|.next<|ρ.set k<|.d z
def zQ{k:Nat}{r:R2}{g:DY}(hv:cL r g)(h:PS X st (ZaI k (TAe PK i) r)):PS X st (bH PK<|lU g k i):=h.imp λD σ H Fy=>by
 obtain⟨pa,D8,H₀,m,ρ,G,R,z⟩:=Fy;unfold lU aa at z
 split at z
 ·rename_i x hx;obtain⟨o,h1,h2⟩:=R.sl k _ hx;cases h2 with
  | d d0 =>
   refine⟨_,h1,?_⟩;refine TAe.then R z λm1 y v G1 H1 s1 w1 R1 d1 q1=>?_;rw[Tr.ok_bind]at q1;obtain⟨w,hw,q1⟩:=Tr.ok_of q1;refine hv PK pa m1 G1 H1 _ v x y w _ w1 (d0.mono s1.gs) d1 hw λu G2 H2 s2 w2 d2=>?_;exact q1 _ G2 H2 (s1.gs.trans s2.gs)<|(R1.step s2 w2).set d2 k
 ·exact z.elim
def lV(k:Nat)(i:DR):DU:=λρ=>match ρ[k]? with
 |some (.own xs)=>(i ρ).bind λx=>if small (xs.length+1)=true then .ret (.next<|ρ.set k<|.own<|xs++[x])else .fail
 |_=>.fail
def DnAll.snoc{H:Hp}{vs:D5}{ds:D1}{v:V}{d:Fn}(h:DnAll H vs ds)(h1:Dn H v d):DnAll H (vs++[v]) (ds++[d]):=h.append<|.cons h1 .nil
def zR{k:Nat}{K:DQ}{st:Fx}(h:PS X st (wR<|tBM K "list" Zcq (gI k)<|fM (TAe PK i) aS)):PS X st (bH PK<|lV k i):=h.imp λD σ H Fy=>by
 obtain⟨pa,D8,H₀,m,ρ,G,R,z⟩:=Fy;unfold lV at z
 split at z
 ·rename_i xs hx;obtain⟨o,h1,h2⟩:=R.sl k _ hx;cases h2 with
  | @own p vs _ a1 a2 a3 a4 =>
   refine⟨_,h1,.inl ⟨rfl,_,SqL.of a1⟩,?_⟩;refine TAe.then R z λm1 x v G1 H1 s1 w1 R1 d1 q1=>?_;obtain⟨hs,q1⟩:=gf q1;obtain⟨o,h1',h2⟩:=R1.sl k _ hx;rw[h1]at h1';cases h1';cases h2 with
   | @own _ vs1 _ b1 b2 b3 b4 =>
    have hs':xs.length+1<=sizeLine:=Ec hs;refine⟨p,vs1,v,rfl,rfl,b1,by rw[b4.length];omega,?_⟩
    exact q1 σ G1 _ s1.gs<|R1.change hx h1<|b4.snoc d1
 ·exact z.elim
theorem DnAll.set{H:Hp}:∀{vs:D5}{ds:D1}{v:V}{d:Fn}(n:Nat),DnAll H vs ds->Dn H v d->DnAll H (vs.set n v) (ds.set n d)
 |_,_,_,_,_,.nil,_=>.nil
 |_,_,_,_,0,.cons _ t,h=>.cons h t
 |_,_,_,_,n+1,.cons g t,h=>.cons g<|DnAll.set n t h
def vU(k:Nat)(n i:DR):DU:=λρ=>(i ρ).bind λx=>match ρ[k]? with
 | some (.own xs)=>(n ρ).bind λy=>match y with
  |.int y=>(Tr.of<|cy xs.length y).bind λt=>.ret (.next<|ρ.set k<|.own<|xs.set t x)
  |_=>.fail
 |_=>.fail
def Znx{k:Nat}{n:DR}(h:PS X st (dC (TAe PK i)<|yS (gI k) (TAe PK n) xH)):PS X st (bH PK<|vU k n i):=h.imp λD σ H Fy=>by
 obtain⟨pa,D8,H₀,m,ρ,G,R,z⟩:=Fy;refine TAe.then R z λm1 x v G1 H1 s1 w1 R1 d1 q1=>?_
 split at q1
 ·rename_i xs hx;obtain⟨o,h1,h2⟩:=R1.sl k _ hx;cases h2 with
  | @own p vs _ a1 a2 a3 a4 =>
   refine⟨_,h1,?_⟩;refine TAe.then R1 q1 λm2 y u G2 H2 s2 w2 R2 d2 q2=>?_;obtain⟨o,h1',h2⟩:=R2.sl k _ hx;rw[h1]at h1';cases h1';cases h2 with
   | @own _ vs2 _ b1 b2 b3 b4 =>
    cases d2 with
    | int y =>
     rw[Tr.ok_bind]at q2;obtain⟨n',hn,q2⟩:=Tr.ok_of q2;refine⟨p,vs2,y,n',rfl,rfl,b1,by rw[b4.length];exact hn,?_⟩
     exact q2 σ G2 _ (s1.gs.trans s2.gs) (R2.change hx h1<|b4.set n'<|d1.mono s2.gs)
    |_=>exact q2.elim
 ·exact q1.elim
theorem DnAll.reverse{H:Hp}{vs:D5}{ds:D1}(h:DnAll H vs ds):DnAll H vs.reverse ds.reverse:=by
 induction vs generalizing ds with
 |nil=>cases h;exact .nil
 |cons v vs ih=>cases h with|cons r t=>rw[CB,CB];exact DnAll.append (ih t)<|.cons r .nil
noncomputable def vV(k:Nat):DU:=λρ=>match ρ[k]? with
 |some (.own xs)=>.ret (.next<|ρ.set k<|.own xs.reverse)
 |_=>.fail
def Znz{k:Nat}{K:DQ}(h:PS X st (wR<|ZaG K "list" Zb8<|gI k)):PS X st (bH PK<|vV k):=h.imp λD σ H Fy=>by
 obtain⟨pa,D8,H₀,m,ρ,G,R,z⟩:=Fy;unfold vV at z
 split at z
 ·rename_i xs hx;obtain⟨o,h1,h2⟩:=R.sl k _ hx;cases h2 with
  | @own p vs _ a1 a2 a3 a4 =>
   refine⟨_,h1,.inl ⟨rfl,_,SqL.of a1⟩,p,vs,rfl,rfl,a1,?_⟩;exact z σ G _ .refl<|R.change hx h1 a4.reverse
 ·exact z.elim
def lR(k:Nat)(s:DU):DU:=λρ=>s<|fz k ρ
def vO{k:Nat}(h:PS X st (bH PK s)):PS X st (bH PK<|lR k s):=h.imp λD σ H Fy=>by obtain⟨pa,D8,H₀,m,ρ,G,R,z⟩:=Fy;obtain⟨G',sb,R'⟩:=R.freeze k;exact⟨pa,D8,H₀,m,_,G',R',Tr.ok_mono z λ_ _ k'=>Ko.later k' sb⟩
def dB(PK:Pk)(g:DX):TG:=λv σ H Q=>∃pa D8 H₀ m ρ G x ρ',Rl PK pa D8 H₀ m σ ρ G H/\Dn G v x/\g x ρ=some ρ'/\∀σ',Rl PK pa D8 H₀ m σ' ρ' G H->Q σ' H
def nU(PK:Pk)(g:DW):gG:=λvs σ H Q=>∃pa D8 H₀ m ρ G xs ρ',Rl PK pa D8 H₀ m σ ρ G H/\DnAll G vs xs/\g xs ρ=some ρ'/\∀σ',Rl PK pa D8 H₀ m σ' ρ' G H->Q σ' H
def PG.imp{tg:Fw}{t t':TG}(h:PG X tg t)(q:∀v σ H Q,t' v σ H Q->t v σ H Q):PG X tg t':=λpins s σ H v u Q I r z=>h pins s σ H v u Q I r<|q v σ H Q z
def PGs.imp{tg:Fl Fw}{t t':gG}(h:PGs X tg t)(q:∀v σ H Q,t' v σ H Q->t v σ H Q):PGs X tg t':=λpins s σ H v u Q I r z=>h pins s σ H v u Q I r<|q v σ H Q z
noncomputable def ao(k:Nat):DX:=λx ρ=>some<|ρ.set k<|.d x
def aV{k:Nat}(h:PG X e (dH k)):PG X e (dB PK<|ao k):=h.imp λv σ H Q Fy=>by obtain⟨pa,D8,H₀,m,ρ,G,x,ρ',R,d,e,q⟩:=Fy;cases e;exact q _<|R.set d k
noncomputable def bo:DW:=λxs ρ=>match xs with
 | []=>some ρ
 |_=>none
noncomputable def aJ(g:DX)(gs:DW):DW:=λxs ρ=>match xs with
 |x::xs=>(g x ρ).bind λρ'=>gs xs ρ'
 | []=>none
def cJ:PGs X [] (nU PK bo):=ZiG.imp λvs σ H Q Fy=>by
 obtain⟨pa,D8,H₀,m,ρ,G,xs,ρ',R,d,e,q⟩:=Fy;cases d with
 |nil=>cases e;exact⟨rfl,q _ R⟩
 |cons _ _=>cases e
def br{g:DX}{gs:DW}(h1:PG X e (dB PK g))(h2:PGs X es (nU PK gs))
  (hs:(assignEach (e::es) X.env).map (·.2)=assign e X.env::(assignEach es X.env).map (·.2):=by rfl):PGs X (e::es) (nU PK<|aJ g gs):=(ZiH h1 h2 hs).imp λvs σ H Q Fy=>by
 obtain⟨pa,D8,H₀,m,ρ,G,xs,ρ',R,d,e,q⟩:=Fy;cases d with
 |nil=>cases e
 | cons d1 d2 =>
  have e':(g _ ρ).bind (λρ'=>gs _ ρ')=some ρ':=e;cases h:g _ ρ with
  |none=>rw[h]at e';cases e'
  | some ρ1 =>
   rw[h]at e';exact⟨_,_,rfl,pa,D8,H₀,m,ρ,G,_,ρ1,R,d1,h,λσ1 R1=>⟨pa,D8,H₀,m,ρ1,G,_,ρ',R1,d2,e',q⟩⟩
noncomputable def bD(gs:DW):DX:=λx ρ=>match x with
 |.tuple xs=>gs xs ρ
 |_=>none
def ni(n:Nat)(gs:DW):Prop:=∀xs ρ ρ',gs xs ρ=some ρ'->xs.length=n
def cH:ni 0 bo:=λxs ρ ρ' h=>by cases xs with|nil=>rfl|cons _ _=>cases h
def bq{n:Nat}{g:DX}{gs:DW}(h:ni n gs):ni (n+1) (aJ g gs):=λxs ρ ρ' e=>by
 cases xs with
 |nil=>cases e
 | cons x xs =>
  have e':(g x ρ).bind (λρ'=>gs xs ρ')=some ρ':=e;cases h1:g x ρ with
  |none=>rw[h1]at e';cases e'
  | some ρ1 =>
   rw[h1]at e';exact Eg (·+1)<|h xs ρ1 ρ' e'
def cS{k:Nat}{gs:DW}{n:Nat}(hc:X.calm=true)(h:PGs X es (nU PK gs))(hl:ni n gs)
  (hn:(assignEach es X.env).length=n:=by rfl) (FR:(assignEach es X.env).findIdx? (·.1)=none:=by rfl):PG X (.Tuple es k pos) (dB PK<|bD gs):=(ZiI hc h hn FR).imp λv σ H Q Fy=>by
 obtain⟨pa,D8,H₀,m,ρ,G,x,ρ',R,d,e,q⟩:=Fy;cases d with
 |tup h1 h2=>exact⟨_,_,rfl,SqT.of<|R.wd.sub _ _ h1,by rw[h2.length];exact hl _ _ _ e,pa,D8,H₀,m,ρ,G,_,ρ',R,h2,e,q⟩
 |_=>cases e
def gF(g:DX)(i:DR):DU:=λρ=>(i ρ).bind λx=>(Tr.of<|g x ρ).bind λρ'=>.ret<|.next ρ'
def iG{g:DX}(h:PS X st (dC (TAe PK i)<|dB PK g)):PS X st (bH PK<|gF g i):=h.imp λD σ H Fy=>by obtain⟨pa,D8,H₀,m,ρ,G,R,z⟩:=Fy;refine TAe.then R z λm1 x v G1 H1 s1 w1 R1 d1 q1=>?_;rw[Tr.ok_bind]at q1;obtain⟨ρ',hg,q1⟩:=Tr.ok_of q1;exact⟨pa,D8,H₀,m1,ρ,G1,x,ρ',R1,d1,hg,λσ' R'=>q1 σ' G1 H1 s1.gs R'⟩
noncomputable def ka(k n:Nat)(is:DS):DU:=λρ=>(is ρ).bind λxs=>match xs with
 | [x,y]=>.ret (.next<|(ρ.set k<|.d x).set n<|.d y)
 |_=>.fail
def vN{k n:Nat}(h:PS X st (ZaB k n<|TAd PK is)):PS X st (bH PK<|ka k n is):=h.imp λD σ H Fy=>by
 obtain⟨pa,D8,H₀,m,ρ,G,R,z⟩:=Fy;refine TAd.then R z λm1 xs vs G1 H1 s1 w1 R1 d1 q1=>?_
 split at q1
 ·cases d1 with
  | cons e1 d1 =>
   cases d1 with
   | cons e2 d1 =>
    cases d1;exact⟨_,_,rfl,q1 _ G1 H1 s1.gs<|(R1.set e1 k).set e2 n⟩
 ·exact q1.elim
def jx(PK:Pk)(pa:Fq)(J:It)(G:Hp)(xs:D1):Prop:=∀m G2 H2,Sub G G2->Wd PK pa m G2 H2 ->
 (∀(n:Nat)(d:Fn),xs[n]?=some d->J.go n H2/\∀x H3,J.yld n H2 x H3->∃G3,Stp pa G2 H2 G3 H3/\Wd PK pa m G3 H3/\Dn G3 x d)/\J.stop xs.length H2
def cX(PK:Pk)(is:DS):TI:=λσ H R=>∃pa D8 H₀ m ρ G,Rl PK pa D8 H₀ m σ ρ G H/\(is ρ).ok m λm' xs=>∀J G' H',Stp pa G H G' H'->Wd PK pa m' G' H'->jx PK pa J G' xs->R J H'
def PI.imp{tg iter:Fw}{t t':TI}(h:PI X tg iter t)(q:∀σ H R,t' σ H R->t σ H R):PI X tg iter t':=λpins s σ H R I z=>h pins s σ H R I<|q σ H R z
def ck(g:DX)(s:DU):Fl Fn->Fl Sl->Tr Ou
 | [],ρ=>.ret (.next ρ)
 | x::xs,ρ=>(Tr.of<|g x ρ).bind λρ1=>(s ρ1).bind λo=>match o with
  |.next ρ2=>ck g s xs ρ2
  |.cont ρ2=>ck g s xs ρ2
  |.brk ρ2=>.ret (.next ρ2)
  |.ret r=>.ret<|.ret r
def dR(is:DS)(g:DX)(s:DU):DU:=λρ=>(is ρ).bind λxs=>ck g s xs ρ
def eD{tg iter:Fw}{body:Fl Fx}{g:DX}(hp:PassesOwn (model X.prog X.w) X.A X.env X.xe)(hc:X.calm=true)(hi:PI X tg iter (cX PK is))(hg:PG X tg (dB PK g))(hb:PSs X body (bH PK s))
  (hs:∀x,foldedSetIterable iter X.env x=pure x:=by intro _;rfl):PS X (.For tg iter body [] pos) (bH PK<|dR is g s):=(Ziv hp hc hi hg hb hs).imp λD σ H Fy=>by
 obtain⟨pa,D8,H₀,m,ρ,G,R,z⟩:=Fy;refine⟨pa,D8,H₀,m,ρ,G,R,Tr.ok_mono (Tr.ok_bind.mp z) λm1 xs k J G1 H1 s1 w1 jo=>?_⟩
 let W:Nat->Nat->St->Hp->Prop:=λn mm σ H=>mm=xs.length-n/\n<=xs.length/\∃m ρ G,Sub G1 G/\Rl PK pa D8 H₀ m σ ρ G H/\(ck g s (xs.drop n) ρ).ok m (Ko PK pa D8 H₀ G1 D)
 refine⟨W,⟨xs.length,rfl,Bf _,m1,ρ,G1,λ_ _ h=>h,R.step s1 w1,Tr.ok_mono k λ_ _ k'=>Ko.later k' s1.gs⟩,?_⟩;rintro n mm σ2 H2 ⟨rfl,hn,m2,ρ2,G2,sb,R2,k2⟩;obtain⟨j1,j2⟩:=jo m2 G2 H2 sb R2.wd;by_cases FC:n<xs.length
 ·have hx:xs[n]?=some xs[n]:=by simp[FC]
  obtain⟨jg,jy⟩:=j1 n _ hx;refine .inr ⟨jg,W (n+1)<|xs.length-(n+1),λσ' H' h'=>⟨_,by omega,h'⟩,λx H3 y=>?_⟩
  obtain⟨G3,s3,w3,d3⟩:=jy x H3 y;rw[AY FC]at k2;unfold ck at k2;rw[Tr.ok_bind]at k2;obtain⟨ρ3,hg3,k3⟩:=Tr.ok_of k2;refine⟨pa,D8,H₀,m2,ρ2,G3,_,ρ3,R2.step s3 w3,d3,hg3,λσ4 R4=>?_⟩;refine⟨pa,D8,H₀,m2,ρ3,G3,R4,Tr.ok_mono (Tr.ok_bind.mp k3) λm5 o ko=>?_⟩;have again:∀ρ5,(ck g s (xs.drop<|n+1) ρ5).ok m5 (Ko PK pa D8 H₀ G1 D)->∀σ5 G5 H5,Sub G3 G5->Rl PK pa D8 H₀ m5 σ5 ρ5 G5 H5->W (n+1) (xs.length-(n+1)) σ5 H5:=λρ5 k5 σ5 G5 H5 sb5 R5 =>
   ⟨rfl,FC,m5,ρ5,G5,(sb.trans s3.gs).trans sb5,R5,k5⟩
  cases o with
  |next ρ5=>exact again ρ5 ko
  |cont ρ5=>exact again ρ5 ko
  |brk ρ5=>exact λσ5 G5 H5 sb5 R5=>ko σ5 G5 H5 ((sb.trans s3.gs).trans sb5) R5
  |ret r=>exact ko
 ·have e:n=xs.length:=by omega
  subst e;refine .inl ⟨j2,?_⟩;rw[Br]at k2;exact k2 σ2 G2 H2 sb R2
variable{PK:Pk}{X:Cx}{a b c e:Fw}{es:Fl Fw}{pos:Pos}{i j l:DR}{is:DS}{as:Fl Sl->Tr D7}{f:DV}{p q:DT}{st:Fx}{sts:Fl Fx}{s t u:DU}
noncomputable def fh(p:DT)(s:DU):Nat->Fl Sl->Tr Ou
 |0,_=>.fail
 | n+1,ρ=>(p ρ).bind λb=>if b=true then (s ρ).bind λo=>match o with
   |.next ρ2=>fh p s n ρ2
   |.cont ρ2=>fh p s n ρ2
   |.brk ρ2=>.ret (.next ρ2)
   |.ret r=>.ret<|.ret r
  else .ret<|.next ρ
def ZfD{body:Fl Fx}(n:Nat)(hp:PassesOwn (model X.prog X.w) X.A X.env X.xe)(hc:PT X c (TAt PK p))(hb:PSs X body (bH PK s)):PS X (.While c body [] pos) (bH PK<|fh p s n):=(Zis hp hc hb).imp λD σ H Fy=>by
 obtain⟨pa,D8,H₀,m,ρ,G,R,z⟩:=Fy
 let W:Nat->St->Hp->Prop:=λn σ H=>∃m ρ G1,Sub G G1/\Rl PK pa D8 H₀ m σ ρ G1 H/\(fh p s n ρ).ok m (Ko PK pa D8 H₀ G D)
 refine⟨W,⟨n,m,ρ,G,.refl,R,z⟩,?_⟩;rintro n σ2 H2 ⟨m2,ρ2,G2,sb,R2,k2⟩;cases n with
 |zero=>exact k2.elim
 | succ n =>
  unfold fh at k2;refine TAt.then R2 k2 λm3 x G3 H3 s3 w3 R3 k3=>?_;cases x with
  | false =>
   rw[Ef AN]at k3 ⊢;exact k3 σ2 G3 H3 (sb.trans s3.gs) R3
  | true =>
   rw[Ed rfl]at k3 ⊢;refine⟨W n,λσ' H' h=>⟨n,by omega,h⟩,pa,D8,H₀,m3,ρ2,G3,R3,Tr.ok_mono (Tr.ok_bind.mp k3) λm4 o ko=>?_⟩
   have again:∀ρ5,(fh p s n ρ5).ok m4 (Ko PK pa D8 H₀ G D)->∀σ5 G5 H5,Sub G3 G5->Rl PK pa D8 H₀ m4 σ5 ρ5 G5 H5->W n σ5 H5:=λρ5 k5 σ5 G5 H5 sb5 R5 =>
    ⟨m4,ρ5,G5,(sb.trans s3.gs).trans sb5,R5,k5⟩
   cases o with
   |next ρ5=>exact again ρ5 ko
   |cont ρ5=>exact again ρ5 ko
   |brk ρ5=>exact λσ5 G5 H5 sb5 R5=>ko σ5 G5 H5 ((sb.trans s3.gs).trans sb5) R5
   |ret r=>exact ko
noncomputable def lH:Sl->Sl
 |.own _=>.un
 |.dic _=>.un
 |.dip _=>.un
 |s=>s
def blk(n:Nat)(ix:Fl Nat)(ρ:D7):D7:=List.replicate n .un++ix.map λj=>lH<|(ρ[j]?).getD .un
theorem Rl.blk{pa:Fq}{D8 H₀ G H:Hp}{m:Nat}{σ:St}{ρ:D7}(R:Rl PK pa D8 H₀ m σ ρ G H)(n:Nat)(ix:Fl Nat):Rl PK pa D8 H₀ m (db n ix σ) (blk n ix ρ) G H:=by
 have key:∀(k:Nat)(s:Sl),(L2.blk n ix ρ)[k]?=some s->(∃o,(db n ix σ)[k]?=some o/\SlOk pa H₀ G H o s)/\(∀xs,s≠.own xs)/\∀xs,s≠.dic xs:=λk s h=>by
  unfold L2.blk at h;unfold db;by_cases hk:k<n
  ·rw[AV<|by simpa using hk,Ba,Ed hk]at h
   rw[AV<|by simpa using hk,Ba,Ed hk]
   cases h;exact⟨⟨_,rfl,.un⟩,(λxs h=>by cases h),λxs h=>by cases h⟩
  ·rw[A4<|by simpa using Ca hk,CG,AK]at h
   rw[A4<|by simpa using Ca hk,CG,AK]
   cases hj:ix[k-n]? with
   |none=>rw[hj]at h;cases h
   | some j =>
    rw[hj]at h;have h':lH ((ρ[j]?).getD .un)=s:=A8 h;subst h';show(∃o,some ((σ[j]?).getD none)=some o/\_)/\_;cases hr:ρ[j]? with
    |none=>exact⟨⟨_,rfl,.un⟩,(λxs h=>by cases h),λxs h=>by cases h⟩
    | some s' =>
     obtain⟨o,h1,h2⟩:=R.sl j s' hr;rw[h1];cases h2 with
     |un=>exact⟨⟨_,rfl,.un⟩,(λxs h=>by cases h),λxs h=>by cases h⟩
     |d z=>exact⟨⟨_,rfl,.d z⟩,(λxs h=>by cases h),λxs h=>by cases h⟩
     |own _ _ _ _=>exact⟨⟨_,rfl,.un⟩,(λxs h=>by cases h),λxs h=>by cases h⟩
     |dic _ _ _ _=>exact⟨⟨_,rfl,.un⟩,(λxs h=>by cases h),λxs h=>by cases h⟩
     |dip _ _ _ _=>exact⟨⟨_,rfl,.un⟩,(λxs h=>by cases h),λxs h=>by cases h⟩
     |pen=>exact⟨⟨_,rfl,.pen⟩,(λxs h=>by cases h),λxs h=>by cases h⟩
     |fn=>exact⟨⟨_,rfl,.fn⟩,(λxs h=>by cases h),λxs h=>by cases h⟩
 refine⟨R.wd,R.st,R.p0,λk s h=>(key k s h).1,?_,λk n' xs ys _ h1 _=>absurd rfl ((key k _ h1).2.1 xs),λk n' xs ys _ h1 _=>absurd rfl ((key k _ h1).2.2 xs)⟩;unfold L2.blk db;simp
def fg(n:Nat)(g:DX):Prop:=∀x ρ ρ',g x ρ=some ρ'->ρ'.length=ρ.length/\∀k,n<=k->ρ'[k]?=ρ[k]?
def wa(n:Nat)(g:DW):Prop:=∀x ρ ρ',g x ρ=some ρ'->ρ'.length=ρ.length/\∀k,n<=k->ρ'[k]?=ρ[k]?
def cp{n k:Nat}(h:k<n):fg n (ao k):=λx ρ ρ' e=>by cases e;exact⟨A1,λj hj=>AL<|by omega⟩
def kG{n:Nat}:wa n bo:=λx ρ ρ' e=>by
 cases x with
 |nil=>cases e;exact⟨rfl,λ_ _=>rfl⟩
 |cons _ _=>cases e
def ge{n:Nat}{g:DX}{gs:DW}(h1:fg n g)(h2:wa n gs):wa n (aJ g gs):=λx ρ ρ' e=>by
 cases x with
 |nil=>cases e
 | cons x xs =>
  have e':(g x ρ).bind (λρ'=>gs xs ρ')=some ρ':=e;cases h:g x ρ with
  |none=>rw[h]at e';cases e'
  | some ρ1 =>
   rw[h]at e';obtain⟨a1,a2⟩:=h1 x ρ ρ1 h;obtain⟨b1,b2⟩:=h2 xs ρ1 ρ' e';exact⟨b1.trans a1,λk hk=>(b2 k hk).trans<|a2 k hk⟩
def kF{n:Nat}{gs:DW}(h2:wa n gs):fg n (bD gs):=λx ρ ρ' e=>by
 cases x with
 |tuple xs=>exact h2 xs ρ ρ' e
 |_=>cases e
noncomputable def bJ(h:Fn->Tr Fn):Fl Fn->Tr D1
 | []=>.ret []
 |x::xs=>(h x).bind λy=>(bJ h xs).bind λys=>.ret (y::ys)
def dA(is:DS)(n:Nat)(ix:Fl Nat)(g:DX)(el:DR):DS:=λρ =>
 (is ρ).bind λxs=>if small xs.length=true then bJ (λx=>(Tr.of<|g x<|blk n ix ρ).bind el) xs else .fail
def Rl.weak{pa:Fq}{D8 H₀ G H:Hp}{m:Nat}{σ:St}{ρ ρ':D7}(R:Rl PK pa D8 H₀ m σ ρ' G H)(hl:ρ'.length=ρ.length)(h:∀(k:Nat)(s:Sl),ρ[k]?=some s->s=.un\/ρ'[k]?=some s):Rl PK pa D8 H₀ m σ ρ G H:=by
 refine⟨R.wd,R.st,R.p0,λk s hk=>?_,hl.symm.trans R.len,λk n xs ys hkn h1 h2=>?_,λk n xs ys hkn h1 h2=>?_⟩
 ·rcases h k s hk with e|e
  ·subst e;have FC:k<σ.length:=by rw[<- R.len,hl];exact(Ay.mp hk).1
   exact⟨σ[k],by simp[FC],.un⟩
  ·exact R.sl k s e
 ·rcases h k _ h1 with e|e
  ·cases e
  ·rcases h n _ h2 with e'|e'
   ·cases e'
   ·exact R.dj k n xs ys hkn e e'
 ·rcases h k _ h1 with e|e
  ·cases e
  ·rcases h n _ h2 with e'|e'
   ·cases e'
   ·exact R.dj2 k n xs ys hkn e e'
def yt{n:Nat}{ix:Fl Nat}{g:DX}(hn:fg n g):∀σ H Q,eG PK (dA is n ix g i) σ H Q->iO (cX PK is) n ix (λ_=>dB PK g) (λ_=>TAe PK i) σ H Q:=by
 rintro σ H Q ⟨pa,D8,H₀,m,ρ,G,R,z⟩;refine⟨pa,D8,H₀,m,ρ,G,R,Tr.ok_mono (Tr.ok_bind.mp z) λm1 xs k J G1 H1 s1 w1 jo=>λB=>?_⟩;obtain⟨hs,k⟩:=gf k;have hs:xs.length<=sizeLine:=Ec hs
 let el:Fn->Tr Fn:=λx=>(Tr.of<|g x<|blk n ix ρ).bind i
 let W:Nat->Nat->St->Fl V->Hp->Prop:=λk mm τ ys H2=>mm=xs.length-k/\k<=xs.length/\ys.length=k/\∃m G2 ds,Sub G1 G2/\Stp pa G H G2 H2/\Rl PK pa D8 H₀ m τ (blk n ix ρ) G2 H2 /\
  DnAll G2 ys ds/\(bJ el<|xs.drop k).ok m λm' zs=>Ko1 PK pa m' G H (ds++zs) Q
 refine⟨W,⟨xs.length,rfl,Bf _,rfl,m1,G1,[],.refl,s1,(R.step s1 w1).blk n ix,.nil,k⟩,?_⟩;rintro k mm τ ys H2 ⟨rfl,hk,hy,m2,G2,ds,sb,st2,R2,dn,k2⟩;obtain⟨j1,j2⟩:=jo m2 G2 H2 sb R2.wd;by_cases FC:k<xs.length
 ·have hx:xs[k]?=some xs[k]:=by simp[FC]
  obtain⟨jg,jy⟩:=j1 k _ hx;refine .inr ⟨jg,by omega,λx H3 y=>?_⟩
  obtain⟨G3,s3,w3,d3⟩:=jy x H3 y;rw[AY FC]at k2;unfold bJ at k2;rw[Tr.ok_bind,Tr.ok_bind]at k2;obtain⟨ρ3,hg3,k3⟩:=Tr.ok_of k2;refine⟨pa,D8,H₀,m2,_,G3,_,ρ3,R2.step s3 w3,d3,hg3,λτ4 R4=>?_⟩;refine⟨pa,D8,H₀,m2,ρ3,G3,R4,Tr.ok_mono k3 λm5 yd k5=>?_⟩;intro v G5 H5 s5 w5 d5;have s35:=s3.trans s5 w3.some;obtain⟨pl,pk⟩:=hn _ _ _ hg3;refine⟨xs.length-(k+1),by omega,rfl,FC,by rw[AQ,hy];rfl,m5,G5,ds++[yd],sb.trans s35.gs,st2.trans s35 R2.wd.some,?_,(DnAll.mono s35.gs dn).snoc d5,?_⟩
  ·refine(R4.step s5 w5).weak pl λq sl hq=>?_;by_cases hqn:q<n
   ·left
    unfold blk at hq;rw[AV<|by simpa using hqn,Ba,Ed hqn]at hq
    cases hq
    rfl
   ·right
    rw[pk q<|Ca hqn];exact hq
  ·refine Tr.ok_mono (Tr.ok_bind.mp k5) λm6 zs k6=>?_;rw[Bg];exact k6
 ·have e:k=xs.length:=by omega
  subst e;refine .inl ⟨j2,λp v H' hp ev eH=>?_⟩;subst ev eH;rw[Br]at k2;have k2':Ko1 PK pa m2 G H (ds++[]) Q:=k2;rw[A3]at k2';exact(Ko1.later k2' st2 R2.wd.some).new R2.wd dn hp
def fe{n:Nat}{ix:Fl Nat}{g:DX}(h:PE X e (iO (cX PK is) n ix (λ_=>dB PK g)<|λ_=>TAe PK i))(hn:fg n g):PE X e (eG PK<|dA is n ix g i):=h.imp<|yt hn
def ox{te te':TE}{g:TG}(h:∀σ H Q,te' σ H Q->te σ H Q):∀D σ H,dC te' g D σ H->dC te g D σ H:=λD σ H z=>h σ H _ z
def Znw{n k:Nat}{ix:Fl Nat}{g:DX}(h:PS X st (dC (iO (cX PK is) n ix (λ_=>dB PK g)<|λ_=>TAe PK i)<|dH k))(hn:fg n g):PS X st (bH PK<|j8 k<|dA is n ix g i) :=
 vM (h.imp<|ox<|yt hn)
noncomputable def qP:Ou->Tr Re
 |.next _=>.ret (.d .none)
 |.ret r=>.ret r
 |_=>.fail
def bv(n k:Nat)(s:DU):DV:=λas=>if decide (as.length=n)=true then (s<|as++List.replicate k .un).bind qP else .fail
theorem Rl.start{pa:Fq}{G H:Hp}{m:Nat}{N:D4}{vs:D5}{as:D7}{k:Nat}(w:Wd PK pa m G H)(ar:ArsOk pa G vs as)(hk:N.length-vs.length=k):Rl PK pa G H m (L2.start N vs) (as++List.replicate k .un) G H:=by
 have key:∀{vs:D5}{as:D7},ArsOk pa G vs as->∀(q:Nat)(s:Sl),as[q]?=some s->(∃o,(vs.map some)[q]?=some o/\SlOk pa H G H o s)/\(∀xs,s≠.own xs)/\∀xs,s≠.dic xs:=by
  intro vs as h
  induction h with
  |nil=>intro q s h;simp at h
  | cons h1 h2 ih =>
   intro q s h;cases q with
   | zero =>
    simp at h;subst h;cases h1 with
    |d z=>exact⟨⟨_,rfl,.d z⟩,(λxs h=>by cases h),λxs h=>by cases h⟩
    |pen=>exact⟨⟨_,rfl,.pen⟩,(λxs h=>by cases h),λxs h=>by cases h⟩
    |fn=>exact⟨⟨_,rfl,.fn⟩,(λxs h=>by cases h),λxs h=>by cases h⟩
   | succ q =>
    obtain⟨⟨o,p1,p2⟩,p3⟩:=ih q s<|by simpa using h
    exact⟨⟨o,by simpa using p1,p2⟩,p3⟩
 have hl:=ar.length;have key2:∀(q:Nat)(s:Sl),(as++List.replicate k .un)[q]?=some s->(∃o,(L2.start N vs)[q]?=some o/\SlOk pa H G H o s)/\(∀xs,s≠.own xs)/\∀xs,s≠.dic xs:=λq s h=>by
  unfold L2.start;by_cases hq:q<as.length
  ·rw[AV hq]at h;rw[AV<|by rw[Av,hl];exact hq]
   exact key ar q s h
  ·rw[A4<|by omega,Ba]at h
   rw[A4<|by rw[Av];omega,Ba,Av,hl]
   split at h
   ·rename_i hq2;cases h;rw[Ed<|by omega]
    exact⟨⟨_,rfl,.un⟩,(λxs h=>by cases h),λxs h=>by cases h⟩
   ·cases h
 refine⟨w,.refl,w.some,λq s h=>(key2 q s h).1,?_,λq n xs ys _ h1 _=>absurd rfl ((key2 q _ h1).2.1 xs),λq n xs ys _ h1 _=>absurd rfl ((key2 q _ h1).2.2 xs)⟩;unfold L2.start;simp[hl,hk];omega
def bF{P:Fs}{w:Ft}{K:DQ}{mg:D6}{base:Fv}{x:Str}{N ps:D4}{kk k:Nat}(D:Def K mg x st ps)(S:FnScope N ps (aP st))(hk:N.length-ps.length=k)
  (FX:∀(f:Fq)(FA:Fo)(A:Fu)(outer:Fl Env)(sh:Fp)(H:Hp)(E:XK),Room kk (A.deeper<|envOfC x (aP st) sh.heap.objs.size f FA) ->
   PSs (jp jA P w K mg base N x (aP st) f FA A outer sh H E).nox (iE st) (bH PK s)):ACal PK P w K mg base x (kk+1) ps (bv ps.length k s):=by
 have len:∀as m Z,(bv ps.length k s as).ok m Z->as.length=ps.length:=λas m Z h=>by unfold bv at h;exact Ec (gf h).1
 refine⟨D.ok S (λvs H Q E h=>h.1) λf FA A outer sh H vs Q E hr hsp=>?_,len⟩;obtain⟨hv,pa,m,G,as,wd,ar,z⟩:=hsp;refine⟨_,FX f FA A outer sh H E hr,?_⟩;unfold bv at z;obtain⟨_,z⟩:=gf z;refine⟨pa,G,H,m,_,G,Rl.start wd ar<|by rw[hv];exact hk,Tr.ok_mono (Tr.ok_bind.mp z) λm1 o ko=>?_⟩
 cases o with
 |next ρ=>exact λσ G1 H1 sb R1=>ko .non G1 H1 R1.st R1.wd .non
 |ret r=>exact ko
 |brk ρ=>exact ko.elim
 |cont ρ=>exact ko.elim
def ZiF{tg l:Fw}{tl:TE}(hl:PE X l tl):PI X tg l (λσ H R=>tl σ H λx H1=>∃a,x=.ref a/\((∃xs,SqL X.K H1 a xs/\R (Ar X.K a) H1)\/(∃xs,SqT X.K H1 a xs/\R (Aq X.K a) H1))):=by
 intro pins s σ H R I h;refine thn (hl pins s σ H _ I h) λv s1 Fy=>?_;obtain⟨x,H1,I1,r1,q1⟩:=Fy;obtain⟨a,e,q⟩:=q1;subst e;cases r1;rcases q with ⟨xs,hq,q⟩|⟨xs,hq,q⟩
 ·obtain⟨Fz,rv,p,hz⟩:=I1.list hq;refine EI p.isList ?_;refine⟨s1.heap.objs.size,[s1.heap.objs.size],_,_,H1,rfl,I1.kept (t':=s1.toks) λb o e=>v9 _ e,Zgx a _,⟨_,AC _ rfl,rfl,rfl⟩,λb hb=>?_,q⟩;have e:b=s1.heap.objs.size:=by simpa using hb
  subst e;exact I1.fpOk (Aw _)<|I1.hok.fresh<|Aw _
 ·obtain⟨Fz,rv,p,hz⟩:=I1.tuple hq;refine wpAny_pyIter_tuple (show s1.heap.IsTuple a Fz.toArray from p) ?_
  refine⟨s1.heap.objs.size,[s1.heap.objs.size],_,_,H1,rfl,I1.kept (t':=s1.toks) λb o e=>v9 _ e,Zgu a _,⟨_,AC _ rfl,rfl,rfl⟩,λb hb=>?_,q⟩;have e:b=s1.heap.objs.size:=by simpa using hb
  subst e;exact I1.fpOk (Aw _)<|I1.hok.fresh<|Aw _
theorem DnAll.get{H:Hp}:∀{vs:D5}{ds:D1}(n:Nat){d:Fn},DnAll H vs ds->ds[n]?=some d->∃v,vs[n]?=some v/\Dn H v d
 |_,_,_,_,.nil,e=>by simp at e
 |_,_,0,_,.cons g t,e=>by simp at e;subst e;exact⟨_,rfl,g⟩
 | _,_,n+1,_,.cons g t,e=>by
  obtain⟨v,h1,h2⟩:=DnAll.get n t<|by simpa using e
  exact⟨v,by simpa using h1,h2⟩
def Zkn{K:DQ}{pa a:Fq}{G:Hp}{vs:D5}{xs:D1}(h:G a=some (.lst vs))(d:DnAll G vs xs):jx PK pa (Ar K a) G xs:=λm G2 H2 sb w=>by
 have hq:SqL K H2 a vs:=SqL.of<|w.sub _ _<|sb _ _ h;refine⟨λn x hx=>?_,vs,hq,by rw[d.length];exact Aw _⟩
 obtain⟨v,hv,dv⟩:=d.get n hx;refine⟨⟨vs,v,hq,hv⟩,λy H3 Fy=>?_⟩;obtain⟨e,hy⟩:=Fy;subst e;have:=hy vs hq;rw[hv]at this;cases this;exact⟨G2,.refl,w,dv.mono sb⟩
def Zkk{K:DQ}{pa a:Fq}{G:Hp}{vs:D5}{xs:D1}(h:G a=some (.tup vs))(d:DnAll G vs xs):jx PK pa (Aq K a) G xs:=λm G2 H2 sb w=>by
 have hq:SqT K H2 a vs:=SqT.of<|w.sub _ _<|sb _ _ h;refine⟨λn x hx=>?_,vs,hq,by rw[d.length];exact Aw _⟩
 obtain⟨v,hv,dv⟩:=d.get n hx;refine⟨⟨vs,v,hq,hv⟩,λy H3 Fy=>?_⟩;obtain⟨e,hy⟩:=Fy;subst e;have:=hy vs hq;rw[hv]at this;cases this;exact⟨G2,.refl,w,dv.mono sb⟩
noncomputable def gz:Fn->Fm D1
 |.list xs=>some xs
 |.tuple xs=>some xs
 |_=>none
@[simp] theorem Zoy(xs:D1):gz (.list xs)=some xs:=rfl
@[simp] theorem Zox(xs:D1):gz (.tuple xs)=some xs:=rfl
def cz(i:DR):DS:=λρ=>(i ρ).bind λx=>Tr.of<|gz x
def de{tg l:Fw}(hl:PE X l (TAe PK i)):PI X tg l (cX PK<|cz i):=(ZiF hl).imp λσ H R0 Fy=>by
 obtain⟨pa,D8,H₀,m,ρ,G,R,z⟩:=Fy;refine TAe.then R z λm1 x v G1 H1 s1 w1 R1 d1 q1=>?_;obtain⟨xs,hx,q1⟩:=Tr.ok_of q1;cases d1 with
 |lst h1 h2=>cases hx;exact⟨_,rfl,.inl ⟨_,SqL.of<|w1.sub _ _ h1,q1 _ G1 H1 s1 w1<|Zkn h1 h2⟩⟩
 |tup h1 h2=>cases hx;exact⟨_,rfl,.inr ⟨_,SqT.of<|w1.sub _ _ h1,q1 _ G1 H1 s1 w1<|Zkk h1 h2⟩⟩
 |_=>cases hx
def bi(lo hi:Int):D1:=(aQ lo (hi-lo).toNat).map PyData.int
def ZdN{pa:Fq}{G:Hp}{lo:Int}{n:Nat}:jx PK pa (kh lo n) G ((aQ lo n).map PyData.int):=λm G2 H2 sb w=>by
 refine⟨λk x hx=>?_,by show n<=_;rw[Av,fO];exact Aw _⟩
 have hk:k<n:=by
  have:=(Ay.mp hx).1
  rwa [Av,fO]at this
 refine⟨hk,λy H3 Fy=>?_⟩;obtain⟨e1,e2⟩:=Fy;subst e1 e2;have:x=.int (lo+k):=by unfold aQ at hx;simp[hk]at hx;exact hx.symm
 subst this;exact⟨G2,.refl,w,.int _⟩
noncomputable def gi(n:Int):Bool:=decide (-(2^62)<=n/\n<2^62)
def kD:Fl Fn->Fm D1
 | [.int n]=>if gi n=true then some (bi 0 n)else none
 |_=>none
def mo:Fl Fn->Fm D1
 | [.int k,.int n]=>if (gi k&&gi n)=true then some (bi k n)else none
 |_=>none
def gm(is:DS):DS:=λρ=>(is ρ).bind λxs=>Tr.of<|kD xs
def nS(is:DS):DS:=λρ=>(is ρ).bind λxs=>Tr.of<|mo xs
def ZbM{G:Hp}{vs:D5}{xs ys:D1}(d:DnAll G vs xs)(h:kD xs=some ys):∃n:Int,vs=[.int n]/\-(2^62)<=n/\n<2^62/\ys=bi 0 n:=by
 unfold kD at h
 split at h
 ·rename_i n
  split at h
  ·rename_i hn;cases h;cases d with
   | cons d1 d2 =>
    cases d2;cases d1;have:=Ec hn;exact⟨n,rfl,this.1,this.2,rfl⟩
  ·cases h
 ·cases h
def Zh5{G:Hp}{vs:D5}{xs ys:D1}(d:DnAll G vs xs)(h:mo xs=some ys):∃k n:Int,vs=[.int k,.int n]/\(-(2^62)<=k/\k<2^62/\-(2^62)<=n/\n<2^62)/\ys=bi k n:=by
 unfold mo at h
 split at h
 ·rename_i k n
  split at h
  ·rename_i hn;cases h;cases d with
   | cons d1 d2 =>
    cases d2 with
    | cons d2 d3 =>
     cases d3;cases d1;cases d2;rw[AT]at hn;have h1:=Ec hn.1;have h2:=Ec hn.2;exact⟨k,n,rfl,⟨h1.1,h1.2,h2.1,h2.2⟩,rfl⟩
  ·cases h
 ·cases h
def gX{tg e:Fw}(h:PI X tg e (Zd1<|TAd PK is)):PI X tg e (cX PK<|gm is):=h.imp λσ H R0 Fy=>by obtain⟨pa,D8,H₀,m,ρ,G,R,z⟩:=Fy;refine TAd.then R z λm1 xs vs G1 H1 s1 w1 R1 d1 q1=>?_;obtain⟨ys,hy,q1⟩:=Tr.ok_of q1;obtain⟨n,e,h1,h2,rfl⟩:=ZbM d1 hy;refine⟨n,e,h1,h2,?_⟩;have q:=q1 (kh 0 n.toNat) G1 H1 s1 w1;unfold bi at q;rw[CU]at q;exact q ZdN
def ZfT{tg e:Fw}(h:PI X tg e (Zd0<|TAd PK is)):PI X tg e (cX PK<|nS is):=h.imp λσ H R0 Fy=>by obtain⟨pa,D8,H₀,m,ρ,G,R,z⟩:=Fy;refine TAd.then R z λm1 xs vs G1 H1 s1 w1 R1 d1 q1=>?_;obtain⟨ys,hy,q1⟩:=Tr.ok_of q1;obtain⟨k,n,e,h1,rfl⟩:=Zh5 d1 hy;exact⟨k,n,e,h1,q1 (kh k (n-k).toNat) G1 H1 s1 w1 ZdN⟩
variable{PK:Pk}{X:Cx}{a b c e:Fw}{es:Fl Fw}{pos:Pos}{i j l:DR}{is:DS}
noncomputable def fit(n:Int):Bool:=decide (n.natAbs<2^8000)
def bg:DY
 |.int m,.int n=>some (.int<|m+n)
 |.tuple xs,.tuple ys=>if (!xs.isEmpty&&small (xs.length+ys.length))=true then some (.tuple<|xs++ys)else none
 |.list xs,.list ys=>if small (xs.length+ys.length)=true then some (.list<|xs++ys)else none
 |_,_=>none
def xJ(K:DQ):R2:=λx y H Q=>fP (λi j=>.int<|i+j) x y H Q\/Zcn K x y H Q\/Zcp x y H Q
def bC:OpR X (binaryOp .Add) (xJ X.K):=jN.or<|Zjf.or Zjh
def bB{K:DQ}:cL (xJ K) bg:=λPK pa m G H x y dx dy dz Q w hx hy hz k=>by
 unfold bg at hz
 split at hz
 ·cases hz;cases hx;cases hy;exact .inl ⟨_,_,rfl,rfl,k.here w<|.int _⟩
 ·rename_i xs ys
  split at hz
  ·rename_i hc;rw[AT]at hc;have h1:xs.isEmpty=false:=by simpa using hc.1
   have h2:xs.length+ys.length<=sizeLine:=Ec hc.2;cases hz;cases hx with
   | tup a1 a2 =>
    cases hy with
    | tup b1 b2 =>
     refine .inr<|.inl ⟨_,_,_,_,rfl,rfl,SqT.of<|w.sub _ _ a1,SqT.of<|w.sub _ _ b1,?_,by rw[a2.length,b2.length];exact h2,λe=>?_,λe p hp=>k.tup w (a2.append b2) hp⟩
     ·intro e;rw[<- a2.isEmpty,e]at h1;cases h1
     ·subst e;cases b2;refine k.here w ?_;rw[A3];exact .tup a1 a2
  ·cases hz
 ·rename_i xs ys
  split at hz
  ·rename_i hc;have h2:xs.length+ys.length<=sizeLine:=Ec hc;cases hz;cases hx with
   | lst a1 a2 =>
    cases hy with
    |lst b1 b2=>exact .inr<|.inr ⟨_,_,_,_,rfl,rfl,w.sub _ _ a1,w.sub _ _ b1,by rw[a2.length,b2.length];exact h2,λp hp=>k.lst w (a2.append b2) hp⟩
  ·cases hz
 ·cases hz
noncomputable def dg:DY
 |.int m,.int n=>some (.int<|m-n)
 |_,_=>none
def dS:cL (fP λi j=>.int<|i-j) dg:=λPK pa m G H x y dx dy dz Q w hx hy hz k=>by
 unfold dg at hz
 split at hz
 ·cases hz;cases hx;cases hy;exact⟨_,_,rfl,rfl,k.here w<|.int _⟩
 ·cases hz
theorem DnAll.rep{H:Hp}{vs:D5}{ds:D1}(h:DnAll H vs ds):∀k:Nat,DnAll H (List.replicate k vs).flatten (List.replicate k ds).flatten
 |0=>.nil
 |k+1=>by rw[Bc,Bc,BE,BE];exact h.append<|h.rep k
def Zcf(K:DQ):R2:=λx y H Q=>rI CMulG (λi j=>.int<|i*j) x y H Q\/Zca K x y H Q\/Zcb x y H Q
def b7:OpR X (binaryOp .Mult) (Zcf X.K):=Zja.or<|Zi6.or Zi7
def bX:DY
 |.int m,.int n=>if (fit m&&fit n)=true then some (.int<|m*n)else none
 |.tuple xs,.int n=>if (decide (1<n)&&decide (n<=1000) && !xs.isEmpty&&decide (xs.length<=1000))=true then some (.tuple (List.replicate n.toNat xs).flatten)else none
 |.list xs,.int n=>if (decide (-(2^63)<=n)&&decide (n<2^63)&&small (xs.length*n.toNat))=true then some (.list (List.replicate n.toNat xs).flatten)else none
 |_,_=>none
def b6{K:DQ}:cL (Zcf K) bX:=λPK pa m G H x y dx dy dz Q w hx hy hz k=>by
 unfold bX at hz
 split at hz
 ·split at hz
  ·rename_i hc;rw[AT]at hc;cases hz;cases hx;cases hy;exact .inl ⟨_,_,rfl,rfl,⟨Ec hc.1,Ec hc.2⟩,k.here w<|.int _⟩
  ·cases hz
 ·split at hz
  ·rename_i hc;simp only[AT,Ew,C0]at hc;cases hz;cases hy;cases hx with
   | tup a1 a2 =>
    refine .inr<|.inl ⟨_,_,_,rfl,rfl,SqT.of<|w.sub _ _ a1,hc.1.1.1,hc.1.1.2,?_,by rw[a2.length];exact hc.2,λp hp=>k.tup w (a2.rep _) hp⟩
    intro e;have:=hc.1.2;rw[<- a2.isEmpty,e]at this;cases this
  ·cases hz
 ·split at hz
  ·rename_i hc;simp only[AT,Ew]at hc;cases hz;cases hy;cases hx with
   |lst a1 a2=>exact .inr<|.inr ⟨_,_,_,rfl,rfl,w.sub _ _ a1,hc.1.1,hc.1.2,by rw[a2.length];exact Ec hc.2,λp hp=>k.lst w (a2.rep _) hp⟩
  ·cases hz
 ·cases hz
def iB:DY
 |.int m,.int n=>if (decide (n≠0)&&fit n)=true then some (.int<|m.fdiv n)else none
 |_,_=>none
def l5:cL (rI Zga λi j=>.int<|i.fdiv j) iB:=λPK pa m G H x y dx dy dz Q w hx hy hz k=>by
 unfold iB at hz
 split at hz
 ·split at hz
  ·rename_i hc;rw[AT]at hc;cases hz;cases hx;cases hy;exact⟨_,_,rfl,rfl,⟨Ec hc.1,Ec hc.2⟩,k.here w<|.int _⟩
  ·cases hz
 ·cases hz
noncomputable def i7:DY
 |.int m,.int n=>if decide (n≠0)=true then some (.int<|m.fmod n)else none
 |_,_=>none
def wC:cL (rI (λ_ j=>j≠0) λi j=>.int<|i.fmod j) i7:=λPK pa m G H x y dx dy dz Q w hx hy hz k=>by
 unfold i7 at hz
 split at hz
 ·split at hz
  ·rename_i hc;cases hz;cases hx;cases hy;exact⟨_,_,rfl,rfl,Ec hc,k.here w<|.int _⟩
  ·cases hz
 ·cases hz
noncomputable def gY(i:DR):DR:=λρ=>(i ρ).bind λx=>match x with
 |.int n=>.ret (.int<|-n)
 |_=>.fail
def j7(ha:PE X a (TAe PK i)):PE X (.UnaryOp .USub a pos) (TAe PK<|gY i):=(ZiM Zgq ha).imp λσ H Q Fy=>by
 obtain⟨pa,D8,H₀,m,ρ,G,R,z⟩:=Fy;refine TAe.then R z λm1 x v G1 H1 s1 w1 R1 d1 q1=>?_;cases d1 with
 |int n=>exact⟨n,rfl,(Kn.later q1 s1 w1.some).here w1<|.int _⟩
 |_=>exact q1.elim
noncomputable def cD(f:Int->Int->Bool):DY
 |.int m,.int n=>some (.bool<|f m n)
 |_,_=>none
def cO{f:Int->Int->Bool}:cL (fP λi j=>.bl<|f i j) (cD f):=λPK pa m G H x y dx dy dz Q w hx hy hz k=>by
 unfold cD at hz
 split at hz
 ·cases hz;cases hx;cases hy;exact⟨_,_,rfl,rfl,k.here w<|.bl _⟩
 ·cases hz
noncomputable def dP:DY
 |.str m,.str n=>some (.bool<|m==n)
 |x,y=>if (SeqAt.shaped x&&SeqAt.shaped y)=true then some (.bool<|PyData.eqv x y)else none
noncomputable def cQ:DY
 |.str m,.str n=>some (.bool<|!(m==n))
 |x,y=>if (SeqAt.shaped x&&SeqAt.shaped y)=true then some (.bool<|!PyData.eqv x y)else none
def Zck:R2:=λx y H Q=>rEq x y H Q\/∃d e,Dn H x d/\Dn H y e/\SeqAt.shaped d=true/\SeqAt.shaped e=true/\Q (.bl<|PyData.eqv d e) H
def Zcd:R2:=λx y H Q=>rNe x y H Q\/∃d e,Dn H x d/\Dn H y e/\SeqAt.shaped d=true/\SeqAt.shaped e=true/\Q (.bl<|!PyData.eqv d e) H
def ii{k:Nat}(hr:Room k X.A):OpR X (compareOp .Eq) Zck:=Zje.or<|Zjd hr
def eX{k:Nat}(hr:Room k X.A):OpR X (compareOp .NotEq) Zcd:=Zi9.or<|Zi8 hr
def gZ:cL Zck dP:=λPK pa m G H x y dx dy dz Q w hx hy hz k=>by
 unfold dP at hz
 split at hz
 ·cases hz;cases hx;cases hy;exact .inl ⟨rfl,by rw[vD];exact k.here w<|.bl _⟩
 ·split at hz
  ·rename_i hc;rw[AT]at hc;cases hz;exact .inr ⟨_,_,hx.mono w.sub,hy.mono w.sub,hc.1,hc.2,k.here w<|.bl _⟩
  ·cases hz
def eT:cL Zcd cQ:=λPK pa m G H x y dx dy dz Q w hx hy hz k=>by
 unfold cQ at hz
 split at hz
 ·cases hz;cases hx;cases hy;exact .inl ⟨rfl,by rw[vD];exact k.here w<|.bl _⟩
 ·split at hz
  ·rename_i hc;rw[AT]at hc;cases hz;exact .inr ⟨_,_,hx.mono w.sub,hy.mono w.sub,hc.1,hc.2,k.here w<|.bl _⟩
  ·cases hz
noncomputable def Zoz:DY
 |.bool m,.bool n=>some (.bool<|m==n)
 |_,_=>none
noncomputable def qv:DY
 |.bool m,.bool n=>some (.bool<|!(m==n))
 |_,_=>none
def Zgh:cL (λx y H Q=>∃a b,x=.bl a/\y=.bl b/\Q (.bl<|!(a==b)) H) qv:=λPK pa m G H x y dx dy dz Q w hx hy hz k=>by
 unfold qv at hz
 split at hz
 ·cases hz;cases hx;cases hy;exact⟨_,_,rfl,rfl,k.here w<|.bl _⟩
 ·cases hz
noncomputable def jW:Fn->Bool
 |.none=>true
 |_=>false
def qw:DY:=λx y=>if jW y=true then some (.bool<|jW x)else none
def Dn.no{G:Hp}{v:V}{x:Fn}(h:Dn G v x):decide (v=.non)=jW x:=by cases h <;> simp[jW]
def Zgi:cL (λx y H Q=>y=.non/\Q (.bl<|decide (x=.non)) H) qw:=λPK pa m G H x y dx dy dz Q w hx hy hz k=>by
 unfold qw at hz
 split at hz
 ·rename_i hc;cases hz;refine⟨?_,by rw[hx.no];exact k.here w<|.bl _⟩
  rw[<- hy.no]at hc;exact Ec hc
 ·cases hz
def ap:DY
 |.list xs,.int n=>bG xs n
 |.tuple xs,.int n=>bG xs n
 |_,_=>none
theorem DnAll.at{H:Hp}{vs:D5}{ds:D1}{n:Int}{d:Fn}(h:DnAll H vs ds)(e:bG ds n=some d):∃v,bG vs n=some v/\Dn H v d:=by
 unfold bG at e ⊢;rw[<- h.length]at e;cases hn:cy vs.length n with
 |none=>rw[hn]at e;cases e
 | some j =>
  rw[hn]at e;exact h.get j e
def ay{K:DQ}:cL (rIx K) ap:=λPK pa m G H x y dx dy dz Q w hx hy hz k=>by
 unfold ap at hz
 split at hz
 ·cases hy;cases hx with
  | lst a1 a2 =>
   obtain⟨v,h1,h2⟩:=a2.at hz;exact .inl ⟨_,_,_,v,rfl,rfl,SqL.of<|w.sub _ _ a1,h1,k.here w h2⟩
 ·cases hy;cases hx with
  | tup a1 a2 =>
   obtain⟨v,h1,h2⟩:=a2.at hz;exact .inr<|.inl ⟨_,_,_,v,rfl,rfl,SqT.of<|w.sub _ _ a1,h1,k.here w h2⟩
 ·cases hz
noncomputable def cj:Fl Fn->Fm Fn
 | [.list xs]=>some (.int xs.length)
 | [.tuple xs]=>some (.int xs.length)
 |_=>none
def cY{K:DQ}:fJ (λxs H Q=>∃p ys,xs=[.ref p]/\(SqL K H p ys\/SqT K H p ys)/\Q (.int ys.length) H) cj:=λPK pa m G H vs ds d Q w hv hd k=>by
 unfold cj at hd
 split at hd
 ·cases hd;cases hv with
  | cons h1 h2 =>
   cases h2;cases h1 with
   |lst a1 a2=>exact⟨_,_,rfl,.inl<|SqL.of<|w.sub _ _ a1,by rw[a2.length];exact k.here w<|.int _⟩
 ·cases hd;cases hv with
  | cons h1 h2 =>
   cases h2;cases h1 with
   |tup a1 a2=>exact⟨_,_,rfl,.inr<|SqT.of<|w.sub _ _ a1,by rw[a2.length];exact k.here w<|.int _⟩
 ·cases hd
noncomputable def vS(n:Int):Int:=if n<0 then -n else n
def lN:Fl Fn->Fm Fn
 | [.int n]=>some (.int<|vS n)
 |_=>none
def wG:fJ (λxs H Q=>∃i,xs=[.int i]/\Q (.int<|if i<0 then -i else i) H) lN:=λPK pa m G H vs ds d Q w hv hd k=>by
 unfold lN at hd
 split at hd
 ·cases hd;cases hv with
  |cons h1 h2=>cases h2;cases h1;exact⟨_,rfl,k.here w<|.int _⟩
 ·cases hd
noncomputable def eL(m n:Int):Int:=if n>m then n else m
def ir:Fl Fn->Fm Fn
 | [.int m,.int n]=>some (.int<|eL m n)
 |_=>none
def kj:fJ (λxs H Q=>∃i j,xs=[.int i,.int j]/\Q (.int<|if j>i then j else i) H) ir:=λPK pa m G H vs ds d Q w hv hd k=>by
 unfold ir at hd
 split at hd
 ·cases hd;cases hv with
  |cons h1 h2=>cases h2 with|cons h2 h3=>cases h3;cases h1;cases h2;exact⟨_,_,rfl,k.here w<|.int _⟩
 ·cases hd
noncomputable def ng:Fl Fn->Fm Fn
 | [.int n]=>some (.int n)
 | [.bool n]=>some (.int<|if n then 1 else 0)
 |_=>none
def Zgl:fJ (λxs H Q=>(∃i,xs=[.int i]/\Q (.int i) H)\/∃k,xs=[.bl k]/\Q (.int<|if k then 1 else 0) H) ng:=λPK pa m G H vs ds d Q w hv hd k=>by
 unfold ng at hd
 split at hd
 ·cases hd;cases hv with
  |cons h1 h2=>cases h2;cases h1;exact .inl ⟨_,rfl,k.here w<|.int _⟩
 ·cases hd;cases hv with
  |cons h1 h2=>cases h2;cases h1;exact .inr ⟨_,rfl,k.here w<|.int _⟩
 ·cases hd
noncomputable def ga:Fl Fn->Fm Fn
 | [.list xs]=>some (.tuple xs)
 | [.tuple xs]=>some (.tuple xs)
 |_=>none
def iL{K:DQ}:fJ (λxs H Q=>∃p ys,xs=[.ref p]/\((SqL K H p ys/\∀l,H l=none->Q (.ref l) (upd H l<|.tup ys))\/(SqT K H p ys/\Q (.ref p) H))) ga:=λPK pa m G H vs ds d Q w hv hd k=>by
 unfold ga at hd
 split at hd
 ·cases hd;cases hv with
  | cons h1 h2 =>
   cases h2;cases h1 with
   |lst a1 a2=>exact⟨_,_,rfl,.inl ⟨SqL.of<|w.sub _ _ a1,λp hp=>k.tup w a2 hp⟩⟩
 ·cases hd;cases hv with
  | cons h1 h2 =>
   cases h2;cases h1 with
   |tup a1 a2=>exact⟨_,_,rfl,.inr ⟨SqT.of<|w.sub _ _ a1,k.here w<|.tup a1 a2⟩⟩
 ·cases hd
noncomputable def jT:Fl Fn->Fm D1
 | [.list xs]=>some xs
 | [.tuple xs]=>some xs
 |_=>none
def wD{K:DQ}:Ag (λxs H Q=>∃p ys,xs=[.ref p]/\(SqL K H p ys\/SqT K H p ys)/\∀l,H l=none->Q (.ref l) (upd H l<|.lst ys)) jT:=λPK pa m G H vs ds d Q w hv hd k=>by
 unfold jT at hd
 split at hd
 ·cases hd;cases hv with
  | cons h1 h2 =>
   cases h2;cases h1 with
   |lst a1 a2=>exact⟨_,_,rfl,.inl<|SqL.of<|w.sub _ _ a1,λp hp=>k.new w a2 hp⟩
 ·cases hd;cases hv with
  | cons h1 h2 =>
   cases h2;cases h1 with
   |tup a1 a2=>exact⟨_,_,rfl,.inr<|SqT.of<|w.sub _ _ a1,λp hp=>k.new w a2 hp⟩
 ·cases hd
noncomputable def oZ(d:Fn):Bool:=!d.hasDict&&d.showable&&decide (d.depth<=32)&&decide (d.shown.length<=sizeLine)
noncomputable def iN:Fn->String
 |.none=>"NoneType"
 |.bool _=>"bool"
 |.int _=>"int"
 |.str _=>"str"
 |.list _=>"list"
 |.tuple _=>"tuple"
 |.dict _=>"dict"
def Dn.ty{K:DQ}{G H:Hp}(sb:Sub G H){v:V}{d:Fn}(h:Dn G v d):TyOf K H v (.type<|iN d):=by
 cases h with
 |non=>exact .non
 |bl b=>exact .bl b
 |int i=>exact .int i
 |str x=>exact .str x
 |tup h _=>exact .tup (sb _ _ h)
 |lst h _=>exact .lst (sb _ _ h)
 |dct h _=>exact h.elim (λh=>.dK<|sb _ _ h) λ⟨o,h⟩=>.frzD (sb _ _ h)
 |dcp _ h _=>exact .frzE<|sb _ _ h
noncomputable def lm(T:String)(t:String):Bool:=decide (t=T) || (decide (T="int")&&decide (t="bool"))
def eS(T:String)(i:DR):DR:=λρ=>(i ρ).bind λx=>.ret<|.bool<|lm T<|iN x
def ZdR(T:String):Prop:=T="int"\/T="bool"\/T="str"\/T="list"\/T="tuple"\/T="dict"
def Zka{K:DQ}{T:String}(h:ZdR T)(d:Fn):PySem.W.kitOne K (.type<|iN d) (.type T)=some (lm T<|iN d):=by rcases h with rfl|rfl|rfl|rfl|rfl|rfl <;> cases d <;> rfl
def fI{T:String}{tc:TE}(hT:ZdR T)(htc:tc=tC (.ty T))(h:PE X e (fN (λxs H Q=>∃x T t b,xs=[x,.ty T]/\TyOf X.K H x t/\PySem.W.kitOne X.K t (.type T)=some b/\Q (.bl b) H)<|fM (TAe PK i)<|fM tc aS)):PE X e (TAe PK<|eS T i):=h.imp λσ H Q Fy=>by obtain⟨pa,D8,H₀,m,ρ,G,R,z⟩:=Fy;subst htc;refine TAe.then R z λm1 x v G1 H1 s1 w1 R1 d1 q1=>?_;exact⟨v,T,_,_,rfl,d1.ty w1.sub,Zka hT x,(Kn.later q1 s1 w1.some).here w1<|.bl _⟩
def dJ(xs:D1)(lo hi:Fm Int):D1:=(xs.drop<|HT.aR xs.length 0 lo).take<|HT.aR xs.length xs.length hi-HT.aR xs.length 0 lo
theorem DnAll.take{H:Hp}:∀{vs:D5}{ds:D1}(n:Nat),DnAll H vs ds->DnAll H (vs.take n) (ds.take n)
 |_,_,0,_=>.nil
 |_,_,_+1,.nil=>.nil
 |_,_,n+1,.cons r t=>.cons r<|DnAll.take n t
theorem DnAll.drop{H:Hp}:∀{vs:D5}{ds:D1}(n:Nat),DnAll H vs ds->DnAll H (vs.drop n) (ds.drop n)
 |_,_,0,r=>r
 |_,_,_+1,.nil=>.nil
 |_,_,n+1,.cons r t=>DnAll.drop n t
def DnAll.cut{H:Hp}{vs:D5}{ds:D1}(h:DnAll H vs ds)(lo hi:Fm Int):DnAll H (gk vs lo hi) (dJ ds lo hi):=by unfold gk dJ;rw[h.length];exact(h.drop _).take _
abbrev gD:=Fl Sl->Tr (Fm Int)
noncomputable def df:gD:=λ_=>.ret none
noncomputable def cK(i:DR):gD:=λρ=>(i ρ).bind λx=>match x with
 |.int n=>.ret (some n)
 |_=>.fail
def TAp(PK:Pk)(i:gD):TO:=λσ H Q=>∃pa D8 H₀ m ρ G,Rl PK pa D8 H₀ m σ ρ G H/\(i ρ).ok m λm' x=>∀G' H',Stp pa G H G' H'->Wd PK pa m' G' H'->Q x H'
def PO.imp{e:Fm Fw}{t t':TO}(h:PO X e t)(q:∀σ H Q,t' σ H Q->t σ H Q):PO X e t':=λpins s σ H Q I z=>h pins s σ H Q I<|q σ H Q z
def dL:PO X none (TAp PK df):=ZcF.imp λσ H Q Fy=>by obtain⟨pa,D8,H₀,m,ρ,G,R,z⟩:=Fy;exact z G H .refl R.wd
def dc(h:PE X e (TAe PK i)):PO X (some e) (TAp PK<|cK i):=(ZcE h).imp λσ H Q Fy=>by
 obtain⟨pa,D8,H₀,m,ρ,G,R,z⟩:=Fy;refine TAe.then R z λm1 x v G1 H1 s1 w1 R1 d1 q1=>?_;cases d1 with
 |int n=>exact⟨n,rfl,q1 G1 H1 s1 w1⟩
 |_=>exact q1.elim
def ZkD{prog:Fs}{w:Ft}{A:Fu}{E:DZ}{s:Fp}{t sl:Fq}{items:Array Fo}{vl vu:Fo}{lo hi:Fm Int}{Q:DZ}(ht:IsTup s.heap t items)(hs:s.heap.IsSliceOf sl vl vu .none)(pl:IsPart vl lo)(pu:IsPart vu hi)
  (hw:HT.aR items.size 0 lo=0/\HT.aR items.size items.size hi=items.size) (h:Q (.ref t) s):wpAny (model prog w) A (getItem (.ref t)<|.ref sl) Q E s:=by
 obtain⟨os,hos,hcs,hds⟩:=id hs;have hTs:s.TypeIs (.ref sl) "slice":=⟨os,hos,hcs⟩;unfold getItem
 try with_reducible refine Ej ?_
 first|refine wp (D9 ?_)|skip
 refine wp<|wpAny_sequenceKey ht.typeIs (by decide) ?_
 refine wp (Ek (name:=Str.ofString "__getitem__") ht.typeIs B1
  (El B1 ht.typeIs entry_tuple_getitem ?_<|args_tuple_getitem _ _))
 show wpAny _ _ (Builtin.Tuple.tupleItemsOf (.ref t) >>= _) _ _ s;refine wp<|tupleItemsOf_ ht ?_;refine wp<|ES hTs ?_;rw[Ed<|by decide]
 refine wp<|HT.ZaU hs pl pu ?_;have hyes:(((HT.aR items.size 0 lo:Nat):Int)==0&&(1:Int)==1&&(HT.aR items.size items.size hi-HT.aR items.size 0 lo)==items.size)=true:=by rw[hw.1,hw.2];simp
 show wpAny _ _ (if (((HT.aR items.size 0 lo:Nat):Int)==0&&(1:Int)==1&&(HT.aR items.size items.size hi-HT.aR items.size 0 lo)==items.size)=true then _ else _) _ _ s
 rw[Ed hyes];refine wp (m:=Builtin.Tuple.tupleIsExact<|.ref t) ?_;unfold Builtin.Tuple.tupleIsExact;refine wp<|ES ht.typeIs ?_;refine D9 ?_;rw[Ed<|by decide]
 refine wp<|EH ?_;exact D9 ⟨_,rfl,D9 h⟩
def Zb5(K:DQ):V->Fm Int->Fm Int->Hp->VK->Prop:=λx lo hi H Q=>∃a xs,x=.ref a/\SqT K H a xs/\(HT.aR xs.length 0 lo=0/\HT.aR xs.length xs.length hi=xs.length)/\Q (.ref a) H
def Zhi:SlR X (Zb5 X.K):=by
 intro pins s σ H x v vl vu lo hi sl Q I rx hs pl pu h;obtain⟨a,xs,rfl,hx,hw,q⟩:=h;cases rx;obtain⟨Fz,r,ht,hz⟩:=I.tuple hx;have hlen:Fz.toArray.size=xs.length:=by rw[AG];exact r.length.symm
 refine⟨"tuple",_,PyProof.Rows.slot_tuple_getitem.lookup,ht.typeIs,?_⟩;exact ZkD ht hs pl pu (by rw[hlen];exact hw) ⟨.ref a,H,I,rfl,q⟩
def Zih(K:DQ):V->Fm Int->Fm Int->Hp->VK->Prop:=λx lo hi H Q=>Zb7 K x lo hi H Q\/Zb6 K x lo hi H Q\/Zb5 K x lo hi H Q
def Zhk:SlR X (Zih X.K):=ZaV.or<|Zhj.or Zhi
def ZaT(x:Fn)(lo hi:Fm Int):Fm Fn:=match x with
 |.list xs=>some (.list<|dJ xs lo hi)
 |.tuple xs=>some (.tuple<|dJ xs lo hi)
 |_=>none
def cV(i:DR)(p q:gD):DR:=λρ=>(i ρ).bind λx=>(p ρ).bind λlo=>(q ρ).bind λhi=>Tr.of<|ZaT x lo hi
def TAp.then{p:gD}{σ:St}{H:Hp}{β:Type}{k:Fm Int->Tr β}{Z:Nat->β->Prop}{Q:Fm Int->Hp->Prop}{pa:Fq}{D8 H₀ G:Hp}{m:Nat}{ρ:D7}(R:Rl PK pa D8 H₀ m σ ρ G H)(h:((p ρ).bind k).ok m Z)
  (hq:∀m1 x G1 H1,Stp pa G H G1 H1->Wd PK pa m1 G1 H1->Rl PK pa D8 H₀ m1 σ ρ G1 H1->(k x).ok m1 Z->Q x H1):TAp PK p σ H Q:=by refine⟨pa,D8,H₀,m,ρ,G,R,Tr.ok_mono (Tr.ok_bind.mp h) λm1 x hx G1 H1 s1 w1=>?_⟩;exact hq m1 x G1 H1 s1 w1 (R.step s1 w1) hx
def dt{p q:gD}{lo hi:Fm Fw}{p2:Pos}(he:PE X e (TAe PK i))(hl:PO X lo (TAp PK p))(hu:PO X hi (TAp PK q)):PE X (.Subscript e (.Slice lo hi none p2) pos) (TAe PK<|cV i p q):=(ZcK Zhk he hl hu).imp λσ H Q Fy=>by
 obtain⟨pa,D8,H₀,m,ρ,G,R,z⟩:=Fy;refine TAe.then R z λm1 x v G1 H1 s1 w1 R1 d1 q1=>?_;refine TAp.then R1 q1 λm2 lo G2 H2 s2 w2 R2 q2=>?_;refine TAp.then R2 q2 λm3 hi G3 H3 s3 w3 R3 q3=>?_;obtain⟨d,hd,k⟩:=Tr.ok_of q3;have s13:=(s1.trans s2 w1.some).trans s3 w2.some;have k':=Kn.later k s13 w3.some;have d3:=d1.mono<|s2.gs.trans s3.gs;cases d3 with
 |lst a1 a2=>cases hd;exact .inl ⟨_,_,rfl,SqL.of<|w3.sub _ _ a1,λp hp=>k'.lst w3 (a2.cut lo hi) hp⟩
 | @tup a xs ds a1 a2 =>
  cases hd;by_cases hw:HT.aR xs.length 0 lo=0/\HT.aR xs.length xs.length hi=xs.length
  ·refine .inr<|.inr ⟨_,_,rfl,SqT.of<|w3.sub _ _ a1,hw,k'.here w3 ?_⟩;have e:dJ ds lo hi=ds:=by unfold dJ;rw[<- a2.length,hw.1,hw.2];simp;rw[a2.length];exact CL
   rw[e];exact .tup a1 a2
  ·exact .inr (.inl ⟨_,_,rfl,SqT.of<|w3.sub _ _ a1,hw,λp hp=>k'.tup w3 (a2.cut lo hi) hp⟩)
 |_=>cases hd
def DnAll.range{H:Hp}(lo:Int)(n:Nat):DnAll H (fk lo n) ((aQ lo n).map PyData.int):=by rw[Zif];exact DnAll.ints _
def iT(lo hi:Int):Bool:=gi lo&&gi hi&&decide ((hi-lo).toNat<=1000)
def iS:Fl Fn->Fm D1
 | [.int lo,.int hi]=>if iT lo hi=true then some (bi lo hi)else none
 |_=>none
def ZbK{G:Hp}{vs:D5}{xs ys:D1}(d:DnAll G vs xs)(h:iS xs=some ys):∃k n:Int,vs=[.int k,.int n]/\(-(2^62)<=k/\k<2^62/\-(2^62)<=n/\n<2^62/\(n-k).toNat<=1000)/\ys=bi k n:=by
 unfold iS at h
 split at h
 ·split at h
  ·rename_i hn;cases h;cases d with
   | cons d1 d2 =>
    cases d2 with
    | cons d2 d3 =>
     cases d3;cases d1;cases d2;unfold iT at hn;rw[AT,AT]at hn;have h1:=Ec hn.1.1;have h2:=Ec hn.1.2;exact⟨_,_,rfl,⟨h1.1,h1.2,h2.1,h2.2,Ec hn.2⟩,rfl⟩
  ·cases h
 ·cases h
def ZgK(t:TA):TE:=fN (λxs H Q=>∃a lo hi,xs=[.ref a]/\H a=some (.rng lo hi)/\-(2^62)<=lo/\lo<2^62/\-(2^62)<=hi/\hi<2^62/\(hi-lo).toNat<=1000/\∀p,H p=none->Q (.ref p) (upd H p<|.tup<|fk lo (hi-lo).toNat))
 (fM (fN (λxs H Q=>∃i j:Int,xs=[.int i,.int j]/\∀p,H p=none->Q (.ref p) (upd H p<|.rng i j)) t) aS)
def ZgL(t:TA):TE:=fN (λxs H Q=>∃a lo hi,xs=[.ref a]/\H a=some (.rng lo hi)/\-(2^62)<=lo/\lo<2^62/\-(2^62)<=hi/\hi<2^62/\(hi-lo).toNat<=1000/\∀p,H p=none->Q (.ref p) (upd H p<|.lst<|fk lo (hi-lo).toNat))
 (fM (fN (λxs H Q=>∃i j:Int,xs=[.int i,.int j]/\∀p,H p=none->Q (.ref p) (upd H p<|.rng i j)) t) aS)
def Aa(is:DS):DR:=λρ=>(is ρ).bind λxs=>(Tr.of<|iS xs).bind λys=>.ret<|.tuple ys
def Ae(is:DS):DS:=λρ=>(is ρ).bind λxs=>Tr.of<|iS xs
def ZnK(h:PE X e (ZgK<|TAd PK is)):PE X e (TAe PK<|Aa is):=h.imp λσ H Q Fy=>by obtain⟨pa,D8,H₀,m,ρ,G,R,z⟩:=Fy;refine TAd.then R z λm1 xs vs G1 H1 s1 w1 R1 d1 q1=>?_;rw[Tr.ok_bind]at q1;obtain⟨ys,hy,k⟩:=Tr.ok_of q1;obtain⟨lo,hi,rfl,⟨b1,b2,b3,b4,b5⟩,rfl⟩:=ZbK d1 hy;refine⟨lo,hi,rfl,λp hp=>?_⟩;obtain⟨w2,s2⟩:=w1.own (o:=.rng lo hi) hp;refine⟨p,lo,hi,rfl,bY,b1,b2,b3,b4,b5,λq hq=>?_⟩;exact(Kn.later k (s1.trans s2 w1.some) w2.some).tup w2 (DnAll.range _ _) hq
def ZnE(h:PE X e (ZgL<|TAd PK is)):PE X e (eG PK<|Ae is):=h.imp λσ H Q Fy=>by obtain⟨pa,D8,H₀,m,ρ,G,R,z⟩:=Fy;refine TAd.then R z λm1 xs vs G1 H1 s1 w1 R1 d1 q1=>?_;obtain⟨ys,hy,k⟩:=Tr.ok_of q1;obtain⟨lo,hi,rfl,⟨b1,b2,b3,b4,b5⟩,rfl⟩:=ZbK d1 hy;refine⟨lo,hi,rfl,λp hp=>?_⟩;obtain⟨w2,s2⟩:=w1.own (o:=.rng lo hi) hp;refine⟨p,lo,hi,rfl,bY,b1,b2,b3,b4,b5,λq hq=>?_⟩;exact(Ko1.later k (s1.trans s2 w1.some) w2.some).new w2 (DnAll.range _ _) hq
noncomputable def ints?:Fl Fn->Fm D2
 | []=>some []
 |.int n::xs=>(ints? xs).bind λns=>some (n::ns)
 |_=>none
@[simp] theorem ints?_map:∀ns:D2,ints? (ns.map PyData.int)=some ns
 | []=>rfl
 |n::ns=>by rw[Ax,ints?,ints?_map ns];rfl
def DnAll.ints_inv{H:Hp}{vs:D5}{ds:D1}{ns:D2}(a:DnAll H vs ds)(h:ints? ds=some ns):vs=ns.map V.int/\ds=ns.map PyData.int:=by
 induction vs generalizing ds ns with
 |nil=>cases a;cases h;exact⟨rfl,rfl⟩
 | cons v vs ih =>
  cases a with
  | cons g t =>
   cases g with
   | int n =>
    unfold ints? at h;rename_i ds;cases e:ints? ds with
    |none=>rw[e]at h;cases h
    | some ms =>
     rw[e]at h;cases h;obtain⟨h1,h2⟩:=ih t e;exact⟨by rw[h1];rfl,by rw[h2];rfl⟩
   |_=>unfold ints? at h;cases h
section
variable{prog:Fs}{w:Ft}{A:Fu}{E:DZ}{s:Fp}
def ItAt(b:Bool)(h:Fv)(it a:Fq)(k:Nat):Prop:=match b with
 |true=>h.IsListIter it a k
 |false=>h.IsTupleIter it a k
def SqAt(b:Bool)(h:Fv)(a:Fq)(items:Array Fo):Prop:=match b with
 |true=>h.IsList a items
 |false=>h.IsTuple a items
theorem ItAt.at{b:Bool}{h h':Fv}{it a:Fq}{k:Nat}(x:ItAt b h it a k)(e:∀o,h.get? it=some o->h'.get? it=some o):ItAt b h' it a k:=by
 cases b with
 |true=>exact Heap.IsListIter.at x e
 |false=>obtain⟨o,ho,r⟩:=(show h.IsTupleIter it a k from x);exact⟨o,e o ho,r⟩
theorem SqAt.at{b:Bool}{h h':Fv}{a:Fq}{items:Array Fo}(x:SqAt b h a items)(e:∀o,h.get? a=some o->h'.get? a=some o):SqAt b h' a items:=by
 cases b with
 |true=>exact Heap.IsList.at x e
 |false=>exact Heap.IsTuple.at x e
def ItAt.there{b:Bool}{h:Fv}{it a:Fq}{k:Nat}(x:ItAt b h it a k):∃o,h.get? it=some o/\∀v,o.data≠.cell v:=by
 cases b with
 |true=>obtain⟨o,ho,_,hd⟩:=(show h.IsListIter it a k from x);exact⟨o,ho,λv z=>by rw[hd]at z;cases z⟩
 |false=>obtain⟨o,ho,_,hd⟩:=(show h.IsTupleIter it a k from x);exact⟨o,ho,λv z=>by rw[hd]at z;cases z⟩
def Zjs{it l:Fq}{i:Nat}{items:Array Fo}{x:Fo}{Q:DZ}(hit:s.heap.IsTupleIter it l i)(hl:s.heap.IsTuple l items)(hx:items[i]?=some x)
  (hQ:∀h',h'.IsTupleIter it l (i+1)->Heap.SameBut it s.heap h'->Q x {s with heap:=h'}):wpAny (model prog w) A (Builtin.SmallTypes.nextOf<|.ref it) Q E s:=by
 obtain⟨o,ho,hc,hd⟩:=id hit;obtain⟨ol,hol,_,nl,hdl⟩:=hl;unfold Builtin.SmallTypes.nextOf;refine wp<|Ek (name:=Str.ofString "__next__") hit.typeIs Cs<|El Cs hit.typeIs F.entry_tuple_iterator_next ?_<|F.args_tuple_iterator_next_1 _;show wpAny _ _ (field (.ref it) 0 >>= _) _ _ s;refine wp<|Em ho hd (x:=.ref l) rfl ?_;show wpAny _ _ (if (Value.ref l==Value.none)=true then _ else _) _ _ s;rw[Ef<|show ¬ ((Value.ref l==Value.none)=true)from AN]
 show wpAny _ _ (field (.ref it) 1 >>= _) _ _ s;refine wp<|Em ho hd (x:=.int i 0) rfl ?_;show wpAny _ _ (seqItems? (.ref l) >>= _) _ _ s;refine wp<|Eo hol hdl ?_;simp only[AZ,hx];refine wp<|EF ho hd (by simp)<|D9 ⟨x,rfl,D9<|hQ _ ⟨_,BK _ ho<|CN<|BN hd _,(DE ..).trans hc,?_⟩<|BX ..⟩
 rw[BN hd];simp[rawInt]
def Zjt{it l:Fq}{i:Nat}{items:Array Fo}{Q:DZ}(hh:A.handled=none)(hit:s.heap.IsTupleIter it l i)(hl:s.heap.IsTuple l items)(hx:items[i]?=none)
  (hE:∀h' e,Heap.ExtBut it s.heap h'->(∃o,h'.get? e=some o/\o.cls=.type "StopIteration")->E (.ref e) {s with heap:=h'}):wpAny (model prog w) A (Builtin.SmallTypes.nextOf<|.ref it) Q E s:=by
 obtain⟨o,ho,hc,hd⟩:=id hit;obtain⟨ol,hol,_,nl,hdl⟩:=hl;unfold Builtin.SmallTypes.nextOf;refine wp<|Ek (name:=Str.ofString "__next__") hit.typeIs Cs<|El Cs hit.typeIs F.entry_tuple_iterator_next ?_<|F.args_tuple_iterator_next_1 _;show wpAny _ _ (field (.ref it) 0 >>= _) _ _ s;refine wp<|Em ho hd (x:=.ref l) rfl ?_;show wpAny _ _ (if (Value.ref l==Value.none)=true then _ else _) _ _ s;rw[Ef<|show ¬ ((Value.ref l==Value.none)=true)from AN]
 show wpAny _ _ (field (.ref it) 1 >>= _) _ _ s;refine wp<|Em ho hd (x:=.int i 0) rfl ?_;show wpAny _ _ (seqItems? (.ref l) >>= _) _ _ s;refine wp<|Eo hol hdl ?_;simp only[AZ,hx];refine wp (EH<|wp<|EF ho hd (by simp) ?_);show wpAny _ _ (newExc (.type "StopIteration") [] >>= _) _ _ _
 refine wp ?_;simp only[newExc,newTuple];refine wp<|Ee ?_<|by size_fits
 refine wp (m:=firstArgMember _ _) (Er (a:=Value.none) (by first|rfl|(simp only[firstArgMember];rfl)) ?_);refine Ee ?_ (by size_fits);simp only[raiseNew]
 refine wp<|wpAny_handled ?_;first|rw[show A.in1.handled=none from hh]|rw[hh]
 refine wp<|D9<|wpAny_throw<|hE _ _ (((BX ..).extBut.push _).push _) ⟨_,AC _ rfl,rfl⟩
def pM{b:Bool}{it l:Fq}{i:Nat}{items:Array Fo}{x:Fo}{Q:DZ}(hit:ItAt b s.heap it l i)(hl:SqAt b s.heap l items)(hx:items[i]?=some x)
  (hQ:∀h',ItAt b h' it l (i+1)->Heap.SameBut it s.heap h'->Q x {s with heap:=h'}):wpAny (model prog w) A (Builtin.SmallTypes.nextOf<|.ref it) Q E s:=by
 cases b with
 |true=>exact wpAny_nextOf_list_item hit hl hx hQ
 |false=>exact Zjs hit hl hx hQ
def yg{b:Bool}{it l:Fq}{i:Nat}{items:Array Fo}{Q:DZ}(hh:A.handled=none)(hit:ItAt b s.heap it l i)(hl:SqAt b s.heap l items)(hx:items[i]?=none)
  (hE:∀h' e,Heap.ExtBut it s.heap h'->(∃o,h'.get? e=some o/\o.cls=.type "StopIteration")->E (.ref e) {s with heap:=h'}):wpAny (model prog w) A (Builtin.SmallTypes.nextOf<|.ref it) Q E s:=by
 cases b with
 |true=>exact wpAny_nextOf_list_end hh hit hl hx hE
 |false=>exact Zjt hh hit hl hx hE
def ItAt.bt{b:Bool}{h h':Fv}{it a c:Fq}{k:Nat}(x:ItAt b h it a k)(e:Heap.ExtBut c h h')(n:it≠c):ItAt b h' it a k:=x.at λo q=>e it o n q
def SqAt.bt{b:Bool}{h h':Fv}{a c:Fq}{items:Array Fo}(x:SqAt b h a items)(e:Heap.ExtBut c h h')(n:a≠c):SqAt b h' a items:=x.at λo q=>e a o n q
def Zgb{b1 b2:Bool}{z TI TO i1 i2 l1 l2:Fq}{k1 k2:Nat}{xs ys:Array Fo}{x y a b:Fo}{Q:DZ}(D:ZipApart z TI TO i1 i2 l1 l2)
  (hz:IsZip s.heap z TI TO .none) (hTI:IsPair s.heap TI (.ref i1) (.ref i2)) (hTO:IsPair s.heap TO a b) (h1:ItAt b1 s.heap i1 l1 k1) (h2:ItAt b2 s.heap i2 l2 k2) (hl1:SqAt b1 s.heap l1 xs) (hl2:SqAt b2 s.heap l2 ys) (hx:xs[k1]?=some x) (hy:ys[k2]?=some y)
  (hQ:∀h',IsZip h' z TI TO (rawInt s.heap.objs.size)->IsPair h' TO x y->ItAt b1 h' i1 l1 (k1+1)->ItAt b2 h' i2 l2 (k2+1)->IsPair h' s.heap.objs.size x y ->
   (∀c o,c≠z->c≠TO->c≠i1->c≠i2->s.heap.get? c=some o->h'.get? c=some o)->Q (.ref s.heap.objs.size) {s with heap:=h'}) :
  wpAny (model prog w) A (Builtin.«zip.__next__» ⟨[.ref z],[]⟩) (λfin s'=>∃v,fin=.done (.ret v)/\Q v s') E s:=by
 show wpAny _ _ (field (.ref z) 2 >>= _) _ _ _;refine wp<|Em hz rfl (x:=.bool false) rfl ?_;show wpAny _ _ (field (.ref z) 3 >>= _) _ _ _;refine wp<|Em hz rfl (x:=.ref TI) rfl ?_;refine wp<|Eo hTI rfl ?_;show wpAny _ _ (Builtin.SmallTypes.ownedTupleIsFree (.ref z) >>= _) _ _ _;refine wp ?_;unfold Builtin.SmallTypes.ownedTupleIsFree;refine wp<|Em hz rfl (x:=.none) rfl (D9 ?_);simp only[EM];refine wp<|EH ?_;refine wp<|Em hz rfl (x:=.ref TO) rfl ?_;refine wp (EC hz (by simp) λg1 hz1 e1=>?_);replace hz1:IsZip g1 z TI TO .ellipsis:=hz1
 refine wp ?_;simp only[List.zipIdx_cons,List.zipIdx_nil,C4,DI];refine wp<|wp<|Fc ?_;show wpAny _ _ (Builtin.SmallTypes.nextOf (.ref i1) >>= _) _ _ _;refine wp (pM (h1.bt e1.extBut D.i1z) (hl1.bt e1.extBut D.l1z) hx λg2 t1 e2=>D9 ?_);have p2:IsPair g2 TO a b:=e2.extBut _ _ D.TOi1<|e1.extBut _ _ D.TOz hTO;refine wp<|Eo p2 rfl ?_;refine wp (Fa p2 λg3 p3 e3=>?_);replace p3:IsPair g3 TO x b:=p3;refine wp<|EO<|D9 ?_;refine wp<|wp<|Fc ?_;show wpAny _ _ (Builtin.SmallTypes.nextOf (.ref i2) >>= _) _ _ _;refine wp (pM (((h2.bt e1.extBut D.i2z).bt e2.extBut D.i12.symm).bt e3.extBut D.TOi2.symm) (((hl2.bt e1.extBut D.l2z).bt e2.extBut D.l2i1).bt e3.extBut D.l2TO) hy λg4 t2 e4=>D9 ?_);have p4:IsPair g4 TO x b:=e4.extBut _ _ D.TOi2 p3;refine wp<|Eo p4 rfl ?_;refine wp (Fa p4 λg5 p5 e5=>?_);replace p5:IsPair g5 TO x y:=p5;refine wp<|EO<|D9<|D9 ?_;refine wp<|Eo p5 rfl ?_;refine wp<|wpAny_newTuple ?_;have hsz:g5.objs.size=s.heap.objs.size:=by rw[e5.1,e4.1,e3.1,e2.1,e1.1]
 have z5:IsZip g5 z TI TO .ellipsis:=e5.extBut _ _ D.TOz.symm<|e4.extBut _ _ D.i2z.symm<|e3.extBut _ _ D.TOz.symm<|e2.extBut _ _ D.i1z.symm hz1;have k5:∀c o,c≠z->c≠TO->c≠i1->c≠i2->s.heap.get? c=some o->g5.get? c=some o:=λc o c1 c2 c3 c4 q=>e5.extBut _ _ c2<|e4.extBut _ _ c4<|e3.extBut _ _ c2<|e2.extBut _ _ c3<|e1.extBut _ _ c1 q;have u1:ItAt b1 g5 i1 l1 (k1+1):=((t1.bt e3.extBut D.TOi1.symm).bt e4.extBut D.i12).bt e5.extBut D.TOi1.symm;have u2:ItAt b2 g5 i2 l2 (k2+1):=t2.bt e5.extBut D.TOi2.symm;have zlt:z<g5.objs.size:=AI z5;show wpAny _ _ (Builtin.SmallTypes.ownedTupleHandOut (.ref z) (.ref g5.objs.size) >>= _) _ _ _;refine wp ?_;unfold Builtin.SmallTypes.ownedTupleHandOut;have z6:IsZip (g5.push {cls:=.type "tuple",data:=.seq #[x,y]}) z TI TO .ellipsis:=v9 _ z5;refine wp (EC z6 (by simp) λg7 z7 e7=>?_);replace z7:IsZip g7 z TI TO (rawInt g5.objs.size):=z7
 refine EC z7 (by simp) λg8 z8 e8=>?_;replace z8:IsZip g8 z TI TO (rawInt g5.objs.size):=z8
 have up:∀c o,c≠z->g5.get? c=some o->g8.get? c=some o:=λc o c1 q=>e8.extBut _ _ c1<|e7.extBut _ _ c1<|v9 _ q;have t8:IsPair g8 g5.objs.size x y:=e8.extBut _ _ (A5 zlt)<|e7.extBut _ _ (A5 zlt)<|AC _ rfl;rw[hsz]at z8 t8;refine D9 ⟨_,rfl,?_⟩;show Q (.ref g5.objs.size) _;rw[hsz];exact hQ g8 z8 (up _ _ D.TOz p5) (u1.at λo q=>up _ o D.i1z q) (u2.at λo q=>up _ o D.i2z q) t8 λc o c1 c2 c3 c4 q=>up c o c1<|k5 c o c1 c2 c3 c4 q
def Zgc{b1 b2:Bool}{z TI TO i1 i2 l1 l2:Fq}{k1 k2:Nat}{xs ys:Array Fo}{a b:Fo}{Q:Fin->Fp->Prop}(hh:A.handled=none)(D:ZipApart z TI TO i1 i2 l1 l2)
  (hz:IsZip s.heap z TI TO .none) (hTI:IsPair s.heap TI (.ref i1) (.ref i2)) (hTO:IsPair s.heap TO a b) (h1:ItAt b1 s.heap i1 l1 k1) (h2:ItAt b2 s.heap i2 l2 k2) (hl1:SqAt b1 s.heap l1 xs) (hl2:SqAt b2 s.heap l2 ys) (hend:xs[k1]?=none\/ys[k2]?=none)
  (hE:∀h' e,(∀c o,c≠z->c≠TO->c≠i1->c≠i2->s.heap.get? c=some o->h'.get? c=some o)->(∃o,h'.get? e=some o/\o.cls=.type "StopIteration")->E (.ref e) {s with heap:=h'}) :
  wpAny (model prog w) A (Builtin.«zip.__next__» ⟨[.ref z],[]⟩) Q E s:=by
 show wpAny _ _ (field (.ref z) 2 >>= _) _ _ _;refine wp<|Em hz rfl (x:=.bool false) rfl ?_;show wpAny _ _ (field (.ref z) 3 >>= _) _ _ _;refine wp<|Em hz rfl (x:=.ref TI) rfl ?_;refine wp<|Eo hTI rfl ?_;show wpAny _ _ (Builtin.SmallTypes.ownedTupleIsFree (.ref z) >>= _) _ _ _;refine wp ?_;unfold Builtin.SmallTypes.ownedTupleIsFree;refine wp<|Em hz rfl (x:=.none) rfl (D9 ?_);simp only[EM];refine wp<|EH ?_;refine wp<|Em hz rfl (x:=.ref TO) rfl ?_;refine wp (EC hz (by simp) λg1 hz1 e1=>?_);replace hz1:IsZip g1 z TI TO .ellipsis:=hz1
 refine wp ?_;simp only[List.zipIdx_cons,List.zipIdx_nil,C4,DI];refine wp<|wp<|Fc ?_;show wpAny _ _ (Builtin.SmallTypes.nextOf (.ref i1) >>= _) _ _ _;cases hx:xs[k1]? with
 | none =>
  refine wp (yg hh (h1.bt e1.extBut D.i1z) (hl1.bt e1.extBut D.l1z) hx λg2 e e2 he=>?_);obtain⟨oe,hoe,hce⟩:=he;have z2:IsZip g2 z TI TO .ellipsis:=e2 _ _ D.i1z.symm hz1;have ne:e≠z:=λq=>by subst q;rw[z2]at hoe;cases hoe;simp at hce
  exact EC z2 (by simp) λg3 _ e3=>hE g3 e (λc o c1 _ c3 _ q=>e3.extBut _ _ c1<|e2 _ _ c3<|e1.extBut _ _ c1 q) ⟨oe,e3.extBut _ _ ne hoe,hce⟩
 | some x =>
  have hy:ys[k2]?=none:=by rcases hend with h|h;rw[hx]at h;cases h;exact h
  refine wp (pM (h1.bt e1.extBut D.i1z) (hl1.bt e1.extBut D.l1z) hx λg2 t1 e2=>D9 ?_);have p2:IsPair g2 TO a b:=e2.extBut _ _ D.TOi1<|e1.extBut _ _ D.TOz hTO;refine wp<|Eo p2 rfl ?_;refine wp (Fa p2 λg3 p3 e3=>?_);refine wp<|EO<|D9 ?_;refine wp<|wp<|Fc ?_;show wpAny _ _ (Builtin.SmallTypes.nextOf (.ref i2) >>= _) _ _ _;refine wp (yg hh (((h2.bt e1.extBut D.i2z).bt e2.extBut D.i12.symm).bt e3.extBut D.TOi2.symm) (((hl2.bt e1.extBut D.l2z).bt e2.extBut D.l2i1).bt e3.extBut D.l2TO) hy λg4 e e4 he=>?_);obtain⟨oe,hoe,hce⟩:=he;have z4:IsZip g4 z TI TO .ellipsis:=e4 _ _ D.i2z.symm<|e3.extBut _ _ D.TOz.symm<|e2.extBut _ _ D.i1z.symm hz1;have ne:e≠z:=λq=>by subst q;rw[z4]at hoe;cases hoe;simp at hce
  exact EC z4 (by simp) λg5 _ e5=>hE g5 e (λc o c1 c2 c3 c4 q=>e5.extBut _ _ c1<|e4 _ _ c4<|e3.extBut _ _ c2<|e2.extBut _ _ c3<|e1.extBut _ _ c1 q) ⟨oe,e5.extBut _ _ ne hoe,hce⟩
noncomputable def fA(b:Bool)(l:Fq):Obj:=match b with
 |true=>{cls:=.type "list_iterator",data:=.fields #[.ref l,.int 0 0]}
 |false=>{cls:=.type "tuple_iterator",data:=.fields #[.ref l,.int 0 0]}
def iV{b:Bool}{l:Fq}{items:Array Fo}{Q:DZ}(hl:SqAt b s.heap l items)(hQ:Q (.ref s.heap.objs.size) {s with heap:=s.heap.push (fA b l)}):wpAny (model prog w) A (pyIter<|.ref l) Q E s:=by
 cases b with
 |true=>exact EI hl hQ
 |false=>exact wpAny_pyIter_tuple hl hQ
theorem SqAt.push{b:Bool}{h:Fv}{l:Fq}{items:Array Fo}(x:SqAt b h l items)(o:Obj):SqAt b (h.push o) l items:=x.at λ_ q=>v9 _ q
def ll{b:Bool}{h:Fv}{it l:Fq}(e:h.get? it=some (fA b l)):ItAt b h it l 0:=by
 cases b with
 |true=>exact⟨_,e,rfl,rfl⟩
 |false=>exact⟨_,e,rfl,rfl⟩
abbrev zA(b1:Bool)(h:Fv)(l1:Fq):Fv:=h.push<|fA b1 l1
abbrev zB(b1 b2:Bool)(h:Fv)(l1 l2:Fq):Fv:=(zA b1 h l1).push<|fA b2 l2
abbrev zC(b1 b2:Bool)(h:Fv)(l1 l2:Fq):Fv:=(zB b1 b2 h l1 l2).push {cls:=.type "tuple",data:=.seq #[.ref h.objs.size,.ref (zA b1 h l1).objs.size]}
abbrev zD(b1 b2:Bool)(h:Fv)(l1 l2:Fq):Fv:=(zC b1 b2 h l1 l2).push {cls:=.type "tuple",data:=.seq #[.none,.none]}
abbrev zH(b1 b2:Bool)(h:Fv)(l1 l2:Fq):Fv:=(zD b1 b2 h l1 l2).push {cls:=.type "zip",data:=.fields #[.none,.bool false,.bool false,.ref (zB b1 b2 h l1 l2).objs.size,.ref (zC b1 b2 h l1 l2).objs.size]}
def ZjG(b1 b2:Bool)(l1 l2:Fq)(xs ys:Array Fo) :
  Meets (Builtin.«zip.__new__» ⟨[.type "zip",.ref l1,.ref l2],[]⟩) (λ_ R s=>SqAt b1 s.heap l1 xs/\SqAt b2 s.heap l2 ys/\R (.ok<|.ret<|.ref (zD b1 b2 s.heap l1 l2).objs.size) {s with heap:=zH b1 b2 s.heap l1 l2}) :=
 .of_wp λprog w A R s h=>by
  obtain⟨hp,g,d,tk,os⟩:=s;obtain⟨hl1,hl2,h⟩:=h;have FJ:=sub_zip;have q1:SqAt b1 (Shared.heap ⟨hp,g,d,tk,os⟩) l1 xs:=hl1;have q2:SqAt b2 (Shared.heap ⟨hp.push<|fA b1 l1,g,d,tk,os⟩) l2 ys:=hl2.push _
  wp_walk using iV q1,iV q2
  exact⟨_,rfl,h⟩
def ZmQ{b1 b2:Bool}{l1 l2:Fq}{xs ys:Array Fo}{Q:DZ}(hl1:SqAt b1 s.heap l1 xs)(hl2:SqAt b2 s.heap l2 ys)
  (h:∀h',IsZip h' (s.heap.objs.size+4) (s.heap.objs.size+2) (s.heap.objs.size+3) .none->IsPair h' (s.heap.objs.size+2) (.ref s.heap.objs.size) (.ref<|s.heap.objs.size+1)->IsPair h' (s.heap.objs.size+3) .none .none ->
   ItAt b1 h' s.heap.objs.size l1 0->ItAt b2 h' (s.heap.objs.size+1) l2 0->(∀c o,s.heap.get? c=some o->h'.get? c=some o)->Q (.ref<|s.heap.objs.size+4) {s with heap:=h'}) :
  wpAny (model prog w) A (call (.type "zip") [.ref l1,.ref l2]) Q E s:=by
 refine callType_new F.called_zip (by decide) (F.typeCall_zip_2 _ _) (F.newCall_zip_2 _ _) (λobj=>F.args_object_init_3 obj _ _) F.entry_zip_new (ZjG b1 b2 l1 l2 xs ys) ⟨hl1,hl2,?_⟩
 have n1:(zA b1 s.heap l1).objs.size=s.heap.objs.size+1:=Bj ..;have n2:(zB b1 b2 s.heap l1 l2).objs.size=s.heap.objs.size+2:=(Bj ..).trans<|by rw[n1]
 have n3:(zC b1 b2 s.heap l1 l2).objs.size=s.heap.objs.size+3:=(Bj ..).trans<|by rw[n2]
 have n4:(zD b1 b2 s.heap l1 l2).objs.size=s.heap.objs.size+4:=(Bj ..).trans<|by rw[n3]
 have a5:IsZip (zH b1 b2 s.heap l1 l2) (zD b1 b2 s.heap l1 l2).objs.size (zB b1 b2 s.heap l1 l2).objs.size (zC b1 b2 s.heap l1 l2).objs.size .none:=AC _ rfl;have a4:IsPair (zH b1 b2 s.heap l1 l2) (zC b1 b2 s.heap l1 l2).objs.size .none .none:=v9 _<|AC _ rfl;have a3:IsPair (zH b1 b2 s.heap l1 l2) (zB b1 b2 s.heap l1 l2).objs.size (.ref s.heap.objs.size) (.ref (zA b1 s.heap l1).objs.size):=v9 _<|v9 _<|AC _ rfl;have a2:(zH b1 b2 s.heap l1 l2).get? (zA b1 s.heap l1).objs.size=some (fA b2 l2):=v9 _<|v9 _<|v9 _<|AC _<|by cases b2 <;> rfl
 have a1:(zH b1 b2 s.heap l1 l2).get? s.heap.objs.size=some (fA b1 l1):=v9 _<|v9 _<|v9 _<|v9 _<|AC _<|by cases b1 <;> rfl
 rw[n2,n3,n4]at a5;rw[n3]at a4;rw[n1,n2]at a3;rw[n1]at a2;show _/\_;rw[n4];exact⟨⟨_,a5,rfl⟩,h _ a5 a3 a4 (ll a1) (ll a2) λc o x=>v9 _<|v9 _<|v9 _<|v9 _<|v9 _ x⟩
def Zii{b1 b2:Bool}{z TI TO i1 i2 l1 l2:Fq}{k1 k2:Nat}{xs ys:Array Fo}{x y a b:Fo}{Q:Fm Fo->Fp->Prop}(D:ZipApart z TI TO i1 i2 l1 l2)
  (hz:IsZip s.heap z TI TO .none) (hTI:IsPair s.heap TI (.ref i1) (.ref i2)) (hTO:IsPair s.heap TO a b) (h1:ItAt b1 s.heap i1 l1 k1) (h2:ItAt b2 s.heap i2 l2 k2) (hl1:SqAt b1 s.heap l1 xs) (hl2:SqAt b2 s.heap l2 ys) (hx:xs[k1]?=some x) (hy:ys[k2]?=some y)
  (hQ:∀h',IsZip h' z TI TO (rawInt s.heap.objs.size)->IsPair h' TO x y->ItAt b1 h' i1 l1 (k1+1)->ItAt b2 h' i2 l2 (k2+1)->IsPair h' s.heap.objs.size x y ->
   (∀c o,c≠z->c≠TO->c≠i1->c≠i2->s.heap.get? c=some o->h'.get? c=some o)->Q (some<|.ref s.heap.objs.size) {s with heap:=h'}):wpAny (model prog w) A (pyNext<|.ref z) Q E s:=by have hT:s.TypeIs (.ref z) "zip":=⟨_,hz,rfl⟩;unfold pyNext;exact wp<|EL<|Ek (name:=Str.ofString "__next__") hT Dj<|El Dj hT F.entry_zip_next (Zgb D hz hTI hTO h1 h2 hl1 hl2 hx hy λh' a1 a2 a3 a4 a5 a6=>D9<|hQ h' a1 a2 a3 a4 a5 a6)<|F.args_zip_next_1 _
def Zij{b1 b2:Bool}{z TI TO i1 i2 l1 l2:Fq}{k1 k2:Nat}{xs ys:Array Fo}{a b:Fo}{Q:Fm Fo->Fp->Prop}(hh:A.handled=none)(D:ZipApart z TI TO i1 i2 l1 l2)
  (hz:IsZip s.heap z TI TO .none) (hTI:IsPair s.heap TI (.ref i1) (.ref i2)) (hTO:IsPair s.heap TO a b) (h1:ItAt b1 s.heap i1 l1 k1) (h2:ItAt b2 s.heap i2 l2 k2) (hl1:SqAt b1 s.heap l1 xs) (hl2:SqAt b2 s.heap l2 ys) (hend:xs[k1]?=none\/ys[k2]?=none)
  (hQ:∀h',(∀c o,c≠z->c≠TO->c≠i1->c≠i2->s.heap.get? c=some o->h'.get? c=some o)->Q none {s with heap:=h'}):wpAny (model prog w) A (pyNext<|.ref z) Q E s:=by have hT:s.TypeIs (.ref z) "zip":=⟨_,hz,rfl⟩;unfold pyNext;refine wp (EL<|Ek (name:=Str.ofString "__next__") hT Dj<|El Dj hT F.entry_zip_next (Zgc hh D hz hTI hTO h1 h2 hl1 hl2 hend λh' e hk he=>?_)<|F.args_zip_next_1 _);obtain⟨o,ho,hc⟩:=he;exact wp<|EZ (T:="StopIteration") (b:=true) ⟨o,ho,hc⟩ isSubtype_stop<|D9<|hQ _ hk
end
section
variable{X:Cx}{pins:Fl (Fq×Obj)}{σ:St}{H:Hp}{s:Fp}{h':Fv}
def Inv.turns{t':Nat}{ch:Fl Fq}(I:Inv X pins σ H s)(k:∀b o,b∉ch->s.heap.get? b=some o->h'.get? b=some o)(hf:∀b∈ch,fL X pins H b):Inv X pins σ H {s with heap:=h',toks:=t'}:=by
 have nit:∀b u,H b=some u->b∉ch:=λb u e z=>by rw[(hf b z).1]at e;cases e
 refine I.step (g':=s.gens) (d':=s.drawn) (ch:=ch) (λb hb=>?_) (λb o _ _ hc e _=>k b o hc e) (λb o _ _ hc e _=>⟨o.slots,k b o hc e⟩) (λ_ _ _ _ n=>n)
  (λb o hc e=>⟨o,k b o hc e⟩) (λ_ _ e=>e) (λ_ _ _ e=>e) (λb ps e=>⟨#[],by rw[e];simp⟩) (λm hm=>?_) (λb u e=>?_) I.bare
 ·obtain⟨_,f1,_,f3,f4,f5⟩:=hf b hb;exact⟨f3,f1,f4,f5⟩
 ·obtain⟨o,es,ep,ho,r⟩:=hm;exact⟨o,es,ep,k _ o (λz=>(hf _ z).2.1 rfl) ho,r⟩
 ·refine(I.hok b u e).stay (λc v hc q=>k c v ?_ q) (λ_ q=>q) (λ_ _ q=>q) λ_ _ _ _ q _=>q;rcases hc with z|z
  ·rw[z];exact nit b u e
  ·exact nit c _ z
def Inv.pair{T:Fq}{x y:V}{u v:Fo}(I:Inv X pins σ H s)(hT:H T=none)(ho:IsPair s.heap T u v)(r1:RelV x u)(r2:RelV y v)
  (hL:T≠X.env.locals) (hs0:X.s₀.heap.objs.size<=T) (hc:∀x c,X.env.cells.lookup x=some c->c≠T) (hp:∀p∈X.pn++pins,p.1≠T):Inv X pins σ (upd H T<|.tup [x,y]) s:=by
 have ne:∀{b:Fq}{o:HO},H b=some o->b≠T:=λe=>di e hT;refine I.step (g':=s.gens) (d':=s.drawn) (t':=s.toks) (h':=s.heap) (ch:=[T]) (λb hb=>?_) (λb o _ _ _ e _=>e) (λb o _ _ _ e _=>⟨o.slots,e⟩) (λb o hb e n=>?_) (λb o _ e=>⟨o,e⟩)
  (λb xs e=>by rw[aM<|ne e];exact e) (λb o u e=>by rw[aM<|ne e];exact e) (λb ps e=>⟨#[],by rw[aM<|ne e,e];simp⟩) (λm hm=>hm) (λb u e=>?_) I.bare
 ·have e:b=T:=by simpa using hb
  subst e;exact⟨.inr hs0,hL,hc,hp⟩
 ·have FZ:b≠T:=by simpa using hb
  rw[aM FZ];exact n
 ·by_cases hb:b=T
  ·subst hb;rw[bY]at e;cases e;exact⟨by show 2<=sizeLine;decide,[_,_],.cons r1<|.cons r2 .nil,⟨_,ho,rfl,_,rfl⟩⟩
  ·rw[aM hb]at e;exact(I.hok b u e).stay (λc v _ q=>q) (λc q=>by rw[aM<|ne q];exact q) (λc xs q=>by rw[aM<|ne q];exact q) λc ob xs _ q _=>by rw[aM<|ne q];exact q
end
noncomputable def bA(b:Bool)(xs:D5):HO:=match b with
 |true=>.lst xs
 |false=>.tup xs
def dU{P:Fs}{w:Ft}{H:Hp}{h:Fv}(ok:HOk P w H h){b:Bool}{a:Fq}{xs:D5}(e:H a=some (bA b xs)):∃Fz:D3,Vals xs Fz/\SqAt b h a Fz.toArray:=by
 cases b with
 |true=>obtain⟨_,Fz,n,r,q⟩:=ok a _ e;exact⟨Fz,r,⟨_,q,rfl,n,rfl⟩⟩
 |false=>obtain⟨_,Fz,r,q⟩:=ok a _ e;exact⟨Fz,r,q⟩
def jz(b1 b2:Bool)(l1 l2:Fq):It :=
 ⟨λi H=>∃xs ys x y,H l1=some (bA b1 xs)/\H l2=some (bA b2 ys)/\xs[i]?=some x/\ys[i]?=some y,
  λi H v H'=>∃xs ys x y p,H l1=some (bA b1 xs)/\H l2=some (bA b2 ys)/\xs[i]?=some x/\ys[i]?=some y/\H p=none/\v=.ref p/\H'=upd H p (.tup [x,y]),
  λi H=>∃xs ys,H l1=some (bA b1 xs)/\H l2=some (bA b2 ys)/\(xs[i]?=none\/ys[i]?=none)⟩
def ZSt(b1 b2:Bool)(z TI TO i1 i2 l1 l2:Fq)(i:Nat)(h:Fv):Prop :=
 IsZip h z TI TO .none/\IsPair h TI (.ref i1) (.ref i2)/\(∃a b,IsPair h TO a b)/\ItAt b1 h i1 l1 i/\ItAt b2 h i2 l2 i
def Zgt{P:Fs}{w:Ft}{K:DQ}{elts:Fl Fw}{x1:Nat}{pos:Pos}{b1 b2:Bool}{l1 l2:Fq}(z TI TO i1 i2:Fq)
  (d:TI≠z/\TO≠z/\i1≠z/\i2≠z/\TI≠TO/\TI≠i1/\TI≠i2/\TO≠i1/\TO≠i2/\i1≠i2) :
  Turn P w K (.Tuple elts x1 pos) (jz b1 b2 l1 l2) [z,TI,TO,i1,i2] z (ZSt b1 b2 z TI TO i1 i2 l1 l2) where
 mem:=by simp
 obj:=λi h st b hb=>by
  obtain⟨hz,hTI,⟨a,c,hTO⟩,h1,h2⟩:=st;simp at hb;rcases hb with rfl|rfl|rfl|rfl|rfl
  ·exact⟨_,hz,λv q=>by cases q⟩
  ·exact⟨_,hTI,λv q=>by cases q⟩
  ·exact⟨_,hTO,λv q=>by cases q⟩
  ·exact h1.there
  ·exact h2.there
 keep:=λi h h' st k=>by obtain⟨hz,hTI,⟨a,c,hTO⟩,h1,h2⟩:=st;exact⟨k _ (by simp) _ hz,k _ (by simp) _ hTI,⟨a,c,k _ (by simp) _ hTO⟩,h1.at λo e=>k _ (by simp) o e,h2.at λo e=>k _ (by simp) o e⟩
 item:=by
  intro X hP hw hK hc i pins s σ H E I hf st hg;subst hP hw hK;obtain⟨xs,ys,x,y,e1,e2,hx,hy⟩:=hg;obtain⟨hz,hTI,⟨a,c,hTO⟩,h1,h2⟩:=st;obtain⟨us,r1,q1⟩:=dU I.hok e1;obtain⟨vs,r2,q2⟩:=dU I.hok e2;obtain⟨u,hu,ru⟩:=r1.get hx;obtain⟨v,hv,rv⟩:=r2.get hy;have n1:∀b∈[z,TI,TO,i1,i2],l1≠b/\l2≠b:=λb hb=>⟨di e1 (hf b hb).1,di e2 (hf b hb).1⟩;obtain⟨d1,d2,d3,d4,d5,d6,d7,d8,d9,d10⟩:=d;have D:ZipApart z TI TO i1 i2 l1 l2:=⟨d1,d2,d3,d4,d5,d6,d7,d8,d9,d10,(n1 z<|by simp).1,(n1 TO<|by simp).1,(n1 i1<|by simp).1,(n1 i2<|by simp).1,(n1 z<|by simp).2,(n1 TO<|by simp).2,(n1 i1<|by simp).2,(n1 i2<|by simp).2⟩
  refine Zii D hz hTI hTO h1 h2 q1 q2 (by simpa using hu) (by simpa using hv) λh' z' p' t1 t2 pr kk=>?_
  refine⟨_,rfl,wpAny_letOwnedTupleGo_zip z' λh2' z2 sb=>?_⟩;have lt:∀{b:Fq}{o:Obj},s.heap.get? b=some o->s.heap.objs.size≠b:=λq=>A5<|AI q;have zlt:=lt hz;have I1:Inv X pins σ H {s with heap:=h2'}:=I.turns (ch:=[z,TI,TO,i1,i2]) (t':=s.toks) (λb o hb e=>by simp at hb;exact sb.extBut _ _ hb.1<|kk b o hb.1 hb.2.2.1 hb.2.2.2.1 hb.2.2.2.2 e) hf
  have hTn:H s.heap.objs.size=none:=I.hok.fresh<|Aw _;have I2:=I1.pair (T:=s.heap.objs.size) (x:=x) (y:=y) hTn (sb.extBut _ _ zlt pr) ru rv (A5 I.lt) I.sz
   (λq cc e hq=>by obtain⟨vv,zz⟩:=I.cell q cc e;exact absurd zz.lt<|by rw[hq];exact AX _) (λp hp hq=>absurd (AI (I.pin p hp).1)<|by rw[hq];exact AX _)
  refine⟨.ref s.heap.objs.size,_,I2,rfl,⟨xs,ys,x,y,_,e1,e2,hx,hy,hTn,rfl,rfl⟩,⟨z2,sb.extBut _ _ d1<|kk _ _ d1 d5 d6 d7 hTI,⟨u,v,sb.extBut _ _ d2 p'⟩,t1.at λo e=>sb.extBut _ _ d3 e,t2.at λo e=>sb.extBut _ _ d4 e⟩,λb hb=>?_⟩;have hbn:b≠s.heap.objs.size:=by
   simp at hb;obtain⟨o1,g1,_⟩:=h1.there;obtain⟨o2,g2,_⟩:=h2.there;rcases hb with rfl|rfl|rfl|rfl|rfl
   ·exact(lt hz).symm
   ·exact(lt hTI).symm
   ·exact(lt hTO).symm
   ·exact(lt g1).symm
   ·exact(lt g2).symm
  rw[aM hbn];exact(hf b hb).1
 done:=by
  intro X hP hw hK hc i pins s σ H E I hf st hg;subst hP hw hK;obtain⟨xs,ys,e1,e2,hend⟩:=hg;obtain⟨hz,hTI,⟨a,c,hTO⟩,h1,h2⟩:=st;obtain⟨us,r1,q1⟩:=dU I.hok e1;obtain⟨vs,r2,q2⟩:=dU I.hok e2;have n1:∀b∈[z,TI,TO,i1,i2],l1≠b/\l2≠b:=λb hb=>⟨di e1 (hf b hb).1,di e2 (hf b hb).1⟩;obtain⟨d1,d2,d3,d4,d5,d6,d7,d8,d9,d10⟩:=d;have D:ZipApart z TI TO i1 i2 l1 l2:=⟨d1,d2,d3,d4,d5,d6,d7,d8,d9,d10,(n1 z<|by simp).1,(n1 TO<|by simp).1,(n1 i1<|by simp).1,(n1 i2<|by simp).1,(n1 z<|by simp).2,(n1 TO<|by simp).2,(n1 i1<|by simp).2,(n1 i2<|by simp).2⟩
  refine Zij (I.ok.hd hc) D hz hTI hTO h1 h2 q1 q2 (hend.imp (λq=>by simpa using r1.none_of q)<|λq=>by simpa using r2.none_of q) λh' kk=>⟨rfl,?_⟩
  exact I.turns (ch:=[z,TI,TO,i1,i2]) (t':=s.toks) (λb o hb e=>by simp at hb;exact kk b o hb.1 hb.2.2.1 hb.2.2.2.1 hb.2.2.2.2 e) hf
 self:=λ_ _ _ _ _ st h=>wpAny_pyIter_zip st.1 h
end L2
namespace L2
open AutoSeq1 (wpAny_loadPart')
section
variable{X:Cx}{tg:Fw}{PK:Pk}{a b:Fw}{i j:DR}{p pos:Pos}
def ZdZ(ta tb:TE):TI:=λσ H R=>ta σ H λx H1=>tb σ H1 λy H2=>∃b1 b2 l1 l2 xs ys,x=.ref l1/\y=.ref l2/\H2 l1=some (bA b1 xs)/\H2 l2=some (bA b2 ys)/\R (jz b1 b2 l1 l2) H2
def kH{elts:Fl Fw}{x1:Nat}{tpos:Pos}{ta tb:TE}(hc:X.calm=true)(hg:Gl X "zip")(hm:X.mg "zip"=none)(ha:PE X a ta)(hb:PE X b tb)
  (hs:starEach [a,b] X.env=[(false,eval a X.env),(false,eval b X.env)]:=by rfl) (hs2:starEach [b] X.env=[(false,eval b X.env)]:=by rfl):PI X (.Tuple elts x1 tpos) (.Call (.Name "zip" p) [a,b] [] pos) (ZdZ ta tb):=by
 intro pins s σ H R I h;have hab:PA X [a,b] (fM ta<|fM tb aS):=bx ha (bx hb cf<|by rw[hs2];rfl)<|by rw[hs,hs2]
 refine Call_<|je I hg hm boot_zip<|Bx (thn (hab pos pins s σ H (λvs H2=>∃b1 b2 l1 l2 xs ys,vs=[.ref l1,.ref l2]/\H2 l1=some (bA b1 xs)/\H2 l2=some (bA b2 ys)/\R (jz b1 b2 l1 l2) H2) I ?_) λus s1 ⟨vs,H1,I1,r1,q1⟩=>?_) (by rw[hs,hs2])<|by rw[hs2];rfl
 ·refine(show ta σ H _ from ?_)
  have h':ta σ H λx H1=>tb σ H1 λy H2=>∃b1 b2 l1 l2 xs ys,x=.ref l1/\y=.ref l2/\H2 l1=some (bA b1 xs)/\H2 l2=some (bA b2 ys)/\R (jz b1 b2 l1 l2) H2:=h;have e:(λ(x:V) (H1:Hp)=>tb σ H1 λy H2=>∃b1 b2 l1 l2 xs ys,x=.ref l1/\y=.ref l2/\H2 l1=some (bA b1 xs)/\H2 l2=some (bA b2 ys)/\R (jz b1 b2 l1 l2) H2) =
    λx H1=>fM tb aS σ H1 λxs H2=>∃b1 b2 l1 l2 us ys,x::xs=[.ref l1,.ref l2]/\H2 l1=some (bA b1 us)/\H2 l2=some (bA b2 ys)/\R (jz b1 b2 l1 l2) H2:=by
   funext x H1;show _=tb σ H1 _;congr 1;funext y H2;show _=(∃b1 b2 l1 l2 us ys,[x,y]=[.ref l1,.ref l2]/\H2 l1=some (bA b1 us)/\H2 l2=some (bA b2 ys)/\R (jz b1 b2 l1 l2) H2);apply propext;constructor
   ·rintro⟨b1,b2,l1,l2,xs,ys,rfl,rfl,q⟩;exact⟨b1,b2,l1,l2,xs,ys,rfl,q⟩
   ·rintro⟨b1,b2,l1,l2,xs,ys,e,q⟩;have e1:x=V.ref l1/\y=V.ref l2:=by simpa using e
    exact⟨b1,b2,l1,l2,xs,ys,e1.1,e1.2,q⟩
  rw[e]at h';exact h'
 ·obtain⟨b1,b2,l1,l2,xs,ys,rfl,e1,e2,q⟩:=q1;obtain⟨u1,u2,rfl,r1,r2⟩:=wH r1;cases r1;cases r2;obtain⟨us,ru,q1⟩:=dU I1.hok e1;obtain⟨vs,rv,q2⟩:=dU I1.hok e2;refine ZmQ q1 q2 λh' z pTI pTO t1 t2 kk=>?_;have I2:Inv X pins σ H1 {s1 with heap:=h'}:=I1.kept (t':=s1.toks) kk;have na:∀n k:Nat,n≠k->(s1.heap.objs.size+n:Nat)≠s1.heap.objs.size+k:=λn k h e=>h (by omega)
  refine wpAny_pyIter_zip z ⟨s1.heap.objs.size+4,[s1.heap.objs.size+4,s1.heap.objs.size+2,s1.heap.objs.size+3,s1.heap.objs.size,s1.heap.objs.size+1],_,_,H1,rfl,I2,Zgt _ _ _ _ _ ⟨na 2 4<|by decide,na 3 4<|by decide,na 0 4<|by decide,na 1 4<|by decide,na 2 3<|by decide,na 2 0<|by decide,na 2 1<|by decide,na 3 0<|by decide,na 3 1<|by decide,na 0 1<|by decide⟩,⟨z,pTI,⟨_,_,pTO⟩,t1,t2⟩,λb hb=>?_,q⟩
  have hle:s1.heap.objs.size<=b:=by simp at hb;rcases hb with rfl|rfl|rfl|rfl|rfl <;> first|exact Nat.le_add_right _ _|exact Aw _
  exact I1.fpOk hle<|I1.hok.fresh hle
noncomputable def f9(xs ys:D1):D1:=(xs.zip ys).map λ(x,y)=>.tuple [x,y]
def nh{G:Hp}{v:V}{x:Fn}{xs:D1}(d:Dn G v x)(h:gz x=some xs):∃b a vs,v=.ref a/\G a=some (bA b vs)/\DnAll G vs xs:=by
 cases d with
 |lst h1 h2=>cases h;exact⟨true,_,_,rfl,h1,h2⟩
 |tup h1 h2=>cases h;exact⟨false,_,_,rfl,h1,h2⟩
 |_=>cases h
def qC{b:Bool}{xs ys:D5}(h:some (bA b xs)=some (bA b ys)):xs=ys:=by cases b <;> (cases h;rfl)
def Zkj{pa:Fq}{G:Hp}{b1 b2:Bool}{l1 l2:Fq}{us vs:D5}{xs ys:D1}(h1:G l1=some (bA b1 us))(h2:G l2=some (bA b2 vs))(d1:DnAll G us xs)(d2:DnAll G vs ys):jx PK pa (jz b1 b2 l1 l2) G (f9 xs ys):=λm G2 H2 sb w=>by
 have e1:H2 l1=some (bA b1 us):=w.sub _ _<|sb _ _ h1;have e2:H2 l2=some (bA b2 vs):=w.sub _ _<|sb _ _ h2;refine⟨λn d hd=>?_,us,vs,e1,e2,?_⟩
 ·unfold f9 at hd;rw[AK]at hd;cases hz:(xs.zip ys)[n]? with
  |none=>rw[hz]at hd;cases hd
  | some xy =>
   rw[hz]at hd;cases hd;have hxy:=BY.mp hz;obtain⟨u,hu,du⟩:=d1.get n hxy.1;obtain⟨v,hv,dv⟩:=d2.get n hxy.2;refine⟨⟨us,vs,u,v,e1,e2,hu,hv⟩,λx H3 Fy=>?_⟩;obtain⟨us',vs',u',v',p,f1,f2,hu',hv',hp,ex,eH⟩:=Fy;rw[e1]at f1;rw[e2]at f2;have:=qC f1;have:=qC f2;subst us' vs';rw[hu]at hu';rw[hv]at hv';cases hu';cases hv';subst ex eH;obtain⟨w3,s3⟩:=w.new (o:=.tup [u,v]) hp;exact⟨_,s3,w3,.tup bY<|.cons ((du.mono sb).mono s3.gs)<|.cons ((dv.mono sb).mono s3.gs) .nil⟩
 ·unfold f9;rw[Av,Bz,d1.length.symm,d2.length.symm];rcases Dx us.length vs.length with hle|hle
  ·left
   rw[Cu hle];simp
  ·right
   rw[Cm hle];simp
def iI(i j:DR):DS:=λρ=>(i ρ).bind λx=>(j ρ).bind λy=>(Tr.of<|gz x).bind λxs=>(Tr.of<|gz y).bind λys=>.ret<|f9 xs ys
def lM{iter:Fw}(h:PI X tg iter (ZdZ (TAe PK i)<|TAe PK j)):PI X tg iter (cX PK<|iI i j):=h.imp λσ H R0 Fy=>by obtain⟨pa,D8,H₀,m,ρ,G,R,z⟩:=Fy;refine TAe.then R z λm1 x v G1 H1 s1 w1 R1 d1 q1=>?_;refine TAe.then R1 q1 λm2 y u G2 H2 s2 w2 R2 d2 q2=>?_;rw[Tr.ok_bind]at q2;obtain⟨xs,hx,q2⟩:=Tr.ok_of q2;rw[Tr.ok_bind]at q2;obtain⟨ys,hy,q2⟩:=Tr.ok_of q2;obtain⟨b1,l1,us,rfl,e1,f1⟩:=nh (d1.mono s2.gs) hx;obtain⟨b2,l2,vs,rfl,e2,f2⟩:=nh d2 hy;exact⟨b1,b2,l1,l2,us,vs,rfl,rfl,w2.sub _ _ e1,w2.sub _ _ e2,q2 _ G2 H2 (s1.trans s2 w1.some) w2<|Zkj e1 e2 f1 f2⟩
end
def ZeI{prog:Fs}{w:Ft}{A:Fu}(hh:A.handled=none)(b:Bool)(it l:Fq)(FD:l≠it)(items:Array Fo):Draws prog w A it [it,l] items.size (λi v=>items[i]?=some v) (λi h=>ItAt b h it l i/\SqAt b h l items) where
 live:=λ_ _ st=>let ⟨o,ho,_⟩:=st.1.there;⟨o,ho⟩
 frame:=λ_ _ _ st hk=>⟨st.1.at λo e=>hk it (by simp) o e,st.2.at λo e=>hk l (by simp) o e⟩
 item:=λi s Q E hi st hQ=>pM st.1 st.2 (x:=items[i]) (by simp[hi]) λh' hit' hs'=>hQ _ h' s.toks (by simp[hi]) ⟨hit',st.2.bt hs'.extBut FD⟩ hs'
 done:=λs Q E st hE=>yg hh st.1 st.2 (by simp) hE
def ZjJ(b:Bool)(l:Fq)(items:Array Fo) :
  Meets (Builtin.«enumerate.__new__» ⟨[.type "enumerate",.ref l],[]⟩) (λ_ R s=>SqAt b s.heap l items /\
   R (.ok<|.ret<|.ref (s.heap.push<|fA b l).objs.size) {s with heap:=(s.heap.push<|fA b l).push {cls:=.type "enumerate",data:=.fields #[.none,.bool false,.ref s.heap.objs.size,rawInt 0,.none,.none]} }) :=
 .of_wp λprog w A R s h=>by
  obtain⟨hp,g,d,tk,os⟩:=s;obtain⟨hl,h⟩:=h;have FJ:=sub_enumerate;have q:SqAt b (Shared.heap ⟨hp,g,d,tk,os⟩) l items:=hl;have ho:∃ob,hp.get? l=some ob:=by
   cases b with
   |true=>obtain⟨ob,e,_⟩:=hl;exact⟨ob,e⟩
   |false=>obtain⟨ob,e,_⟩:=hl;exact⟨ob,e⟩
  obtain⟨ob,ho⟩:=ho
  wp_walk using EB ho
  refine wpAny_stack_any λst=>D9 ?_
  split
  ·rename_i c _ _ _ _ _;cases (c==Value.type "enumerate")
   ·wp_walk using EB ho,iV q
    exact⟨_,rfl,h⟩
   ·wp_walk using EB ho,iV q
    exact⟨_,rfl,h⟩
  ·wp_walk using EB ho,iV q
   exact⟨_,rfl,h⟩
section
variable{prog:Fs}{w:Ft}{A:Fu}{E:DZ}{s:Fp}
def ZmY{b:Bool}{l:Fq}{items:Array Fo}{Q:DZ}(hl:SqAt b s.heap l items)
  (h:∀h',IsEnum h' (s.heap.objs.size+1) s.heap.objs.size 0 .none->ItAt b h' s.heap.objs.size l 0->(∀c o,s.heap.get? c=some o->h'.get? c=some o)->Q (.ref<|s.heap.objs.size+1) {s with heap:=h'}) :
  wpAny (model prog w) A (call (.type "enumerate") [.ref l]) Q E s:=by
 refine callType_new F.called_enumerate (by decide) (F.typeCall_enumerate_1 _) (F.newCall_enumerate_1 _) (λobj=>Du obj _) F.entry_enumerate_new (ZjJ b l items) ⟨hl,?_⟩
 have n1:(s.heap.push<|fA b l).objs.size=s.heap.objs.size+1:=Bj ..;have a2:IsEnum ((s.heap.push<|fA b l).push {cls:=.type "enumerate",data:=.fields #[.none,.bool false,.ref s.heap.objs.size,rawInt 0,.none,.none]}) (s.heap.push<|fA b l).objs.size s.heap.objs.size 0 .none:=AC _ rfl;have a1:((s.heap.push<|fA b l).push {cls:=.type "enumerate",data:=.fields #[.none,.bool false,.ref s.heap.objs.size,rawInt 0,.none,.none]}).get? s.heap.objs.size=some (fA b l):=v9 _<|AC _<|by cases b <;> rfl
 rw[n1]at a2;show _/\_;rw[n1];exact⟨⟨_,a2,rfl⟩,h _ a2 (ll a1) λc o x=>v9 _<|v9 _ x⟩
end
def ki(b:Bool)(l:Fq):It :=
 ⟨λi H=>∃xs x,H l=some (bA b xs)/\xs[i]?=some x,
  λi H v H'=>∃xs x p,H l=some (bA b xs)/\xs[i]?=some x/\H p=none/\v=.ref p/\H'=upd H p (.tup [.int i,x]),
  λi H=>∃xs,H l=some (bA b xs)/\xs.length=i⟩
def Zgy{P:Fs}{w:Ft}{K:DQ}{elts:Fl Fw}{x1:Nat}{pos:Pos}{b:Bool}{l:Fq}(e it:Fq)(FD:e≠it) :
  Turn P w K (.Tuple elts x1 pos) (ki b l) [e,it] e (λi h=>(∃old,IsEnum h e it i old)/\ItAt b h it l i) where
 mem:=by simp
 obj:=λi h st c hb=>by
  obtain⟨⟨old,he⟩,h1⟩:=st;simp at hb;rcases hb with rfl|rfl
  ·exact⟨_,he,λv q=>by cases q⟩
  ·exact h1.there
 keep:=λi h h' st k=>by obtain⟨⟨old,he⟩,h1⟩:=st;exact⟨⟨old,k _ (by simp) _ he⟩,h1.at λo q=>k _ (by simp) o q⟩
 item:=by
  intro X hP hw hK hc i pins s σ H E I hf st hg;subst hP hw hK;obtain⟨xs,x,e1,hx⟩:=hg;obtain⟨⟨old,he⟩,h1⟩:=st;obtain⟨us,r1,q1⟩:=dU I.hok e1;obtain⟨u,hu,ru⟩:=r1.get hx;have nl:∀c∈[e,it],l≠c:=λc hc=>di e1 (hf c hc).1;have FC:i<us.toArray.size:=by have:=(Ay.mp hu).1;simpa using this
  refine wpAny_pyNext_enum_itemD (ZeI (A:=X.A.in1) (show X.A.in1.handled=none from I.ok.hd hc) b it l (nl it<|by simp) us.toArray) he ⟨h1,q1⟩ FC FD (by simp only[AM,BU,EV,not_or];exact⟨FD,(nl e<|by simp).symm⟩) λx' h' tk hP' ho st' hT hsz kk=>?_
  have hxu:x'=u:=by
   have q:us[i]?=some x':=by simpa using hP'
   rw[hu]at q;cases q
   rfl
  subst hxu;refine⟨_,rfl,wpAny_letOwnedTupleGo_enum ho λh2' z2 sb=>?_⟩;have lt:∀{c:Fq}{o:Obj},s.heap.get? c=some o->s.heap.objs.size≠c:=λq=>A5<|AI q;have I1:Inv X pins σ H {s with heap:=h2',toks:=tk+1}:=I.turns (ch:=[e,it]) (λc o hb q=>by simp at hb;exact sb.extBut _ _ hb.1<|kk c o hb.1 hb.2 q) hf
  have hTn:H s.heap.objs.size=none:=I.hok.fresh<|Aw _;have I2:=I1.pair (T:=s.heap.objs.size) (x:=.int i) (y:=x) hTn (sb.extBut _ _ (lt he) hT) ⟨tk,rfl⟩ ru (A5 I.lt) I.sz
   (λq cc ee hq=>by obtain⟨vv,zz⟩:=I.cell q cc ee;exact absurd zz.lt<|by rw[hq];exact AX _) (λp hp hq=>absurd (AI (I.pin p hp).1)<|by rw[hq];exact AX _)
  refine⟨.ref s.heap.objs.size,_,I2,rfl,⟨xs,x,_,e1,hx,hTn,rfl,rfl⟩,⟨⟨_,z2⟩,st'.1.at λo q=>sb.extBut _ _ (Ne.symm FD) q⟩,λc hb=>?_⟩;have hbn:c≠s.heap.objs.size:=by
   simp at hb;obtain⟨o1,g1,_⟩:=h1.there;rcases hb with rfl|rfl
   ·exact(lt he).symm
   ·exact(lt g1).symm
  rw[aM hbn];exact(hf c hb).1
 done:=by
  intro X hP hw hK hc i pins s σ H E I hf st hg;subst hP hw hK;obtain⟨xs,e1,hend⟩:=hg;obtain⟨⟨old,he⟩,h1⟩:=st;obtain⟨us,r1,q1⟩:=dU I.hok e1;have nl:∀c∈[e,it],l≠c:=λc hc=>di e1 (hf c hc).1;have hsz:us.toArray.size=i:=by rw[AG,<- r1.length];exact hend
  subst hsz;refine wpAny_pyNext_enum_endD (ZeI (A:=X.A.in1) (show X.A.in1.handled=none from I.ok.hd hc) b it l (nl it<|by simp) us.toArray) he ⟨h1,q1⟩ λh' eb=>⟨rfl,?_⟩
  exact I.turns (ch:=[e,it]) (t':=s.toks) (λc o hb q=>by simp at hb;exact eb c o hb.2 q) hf
 self:=λ_ _ _ _ _ st h=>by obtain⟨⟨old,he⟩,_⟩:=st;exact wpAny_pyIter_enum he h
section
variable{X:Cx}{tg:Fw}{PK:Pk}{a b:Fw}{i j:DR}{p pos:Pos}
def Zd2(ta:TE):TI:=λσ H R=>ta σ H λx H1=>∃b l xs,x=.ref l/\H1 l=some (bA b xs)/\R (ki b l) H1
def pC{elts:Fl Fw}{x1:Nat}{tpos:Pos}{ta:TE}(hc:X.calm=true)(hg:Gl X "enumerate")(hm:X.mg "enumerate"=none)(ha:PE X a ta)
  (hs:starEach [a] X.env=[(false,eval a X.env)]:=by rfl):PI X (.Tuple elts x1 tpos) (.Call (.Name "enumerate" p) [a] [] pos) (Zd2 ta):=by
 intro pins s σ H R I h;have hab:PA X [a] (fM ta aS):=bx ha cf<|by rw[hs];rfl
 have h':fM ta aS σ H λvs H1=>∃x,vs=[x]/\∃b l xs,x=.ref l/\H1 l=some (bA b xs)/\R (ki b l) H1:=by
  have e:(λ(x:V) (H1:Hp)=>∃b l xs,x=.ref l/\H1 l=some (bA b xs)/\R (ki b l) H1)=λx H1=>aS σ H1 λxs H2=>∃y,x::xs=[y]/\∃b l xs,y=.ref l/\H2 l=some (bA b xs)/\R (ki b l) H2:=by
   funext x H1;apply propext;constructor
   ·exact λq=>⟨x,rfl,q⟩
   ·rintro⟨y,e,q⟩;have e':x=y:=by simpa using e
    subst e';exact q
  have h0:ta σ H λx H1=>∃b l xs,x=.ref l/\H1 l=some (bA b xs)/\R (ki b l) H1:=h;rw[e]at h0;exact h0
 refine Call_<|je I hg hm boot_enumerate<|Bx (thn (hab pos pins s σ H _ I h') λus s1 Fy=>?_) (by rw[hs];rfl) rfl
 obtain⟨vs,H1,I1,r1,q1⟩:=Fy;obtain⟨x,rfl,b,l,xs,rfl,e1,q⟩:=q1;obtain⟨u,rfl,ru⟩:=eB r1;cases ru;obtain⟨us,ru,q1⟩:=dU I1.hok e1;refine ZmY q1 λh' z t1 kk=>?_;have I2:Inv X pins σ H1 {s1 with heap:=h'}:=I1.kept (t':=s1.toks) kk;refine wpAny_pyIter_enum z ⟨s1.heap.objs.size+1,[s1.heap.objs.size+1,s1.heap.objs.size],_,_,H1,rfl,I2,Zgy _ _<|λq=>absurd (show(s1.heap.objs.size+1:Nat)=s1.heap.objs.size from q)<|by omega,⟨⟨_,z⟩,t1⟩,λc hb=>?_,q⟩
 have hle:s1.heap.objs.size<=c:=by simp at hb;rcases hb with rfl|rfl <;> first|exact Nat.le_add_right _ _|exact Aw _
 exact I1.fpOk hle<|I1.hok.fresh hle
noncomputable def fF(xs:D1):D1:=(List.range xs.length).zipWith (λ(n:Nat) x=>.tuple [.int n,x]) xs
def Zko{pa:Fq}{G:Hp}{b:Bool}{l:Fq}{us:D5}{xs:D1}(h1:G l=some (bA b us))(d1:DnAll G us xs):jx PK pa (ki b l) G (fF xs):=λm G2 H2 sb w=>by
 have e1:H2 l=some (bA b us):=w.sub _ _<|sb _ _ h1;have hlen:(fF xs).length=xs.length:=by unfold fF;simp
 refine⟨λn d hd=>?_,us,e1,by rw[hlen,d1.length]⟩
 have hn:n<xs.length:=by rw[<- hlen];exact(Ay.mp hd).1
 have FK:d=.tuple [.int n,xs[n]]:=by unfold fF at hd;rw[List.getElem?_zipWith]at hd;simp[hn]at hd;exact hd.symm
 subst FK;obtain⟨u,hu,du⟩:=d1.get n<|show xs[n]?=some xs[n]by simp[hn]
 refine⟨⟨us,u,e1,hu⟩,λx H3 Fy=>?_⟩;obtain⟨us',u',p,f1,hu',hp,ex,eH⟩:=Fy;rw[e1]at f1;have:=qC f1;subst us';rw[hu]at hu';cases hu';subst ex eH;obtain⟨w3,s3⟩:=w.new (o:=.tup [.int n,u]) hp;exact⟨_,s3,w3,.tup bY<|.cons (.int n)<|.cons ((du.mono sb).mono s3.gs) .nil⟩
def lS(i:DR):DS:=λρ=>(i ρ).bind λx=>(Tr.of<|gz x).bind λxs=>.ret<|fF xs
def vR{iter:Fw}(h:PI X tg iter (Zd2<|TAe PK i)):PI X tg iter (cX PK<|lS i):=h.imp λσ H R0 Fy=>by obtain⟨pa,D8,H₀,m,ρ,G,R,z⟩:=Fy;refine TAe.then R z λm1 x v G1 H1 s1 w1 R1 d1 q1=>?_;rw[Tr.ok_bind]at q1;obtain⟨xs,hx,q1⟩:=Tr.ok_of q1;obtain⟨b1,l1,us,rfl,e1,f1⟩:=nh d1 hx;exact⟨b1,l1,us,rfl,w1.sub _ _ e1,q1 _ G1 H1 s1 w1<|Zko e1 f1⟩
end
end L2
namespace L2
section
variable{prog:Fs}{w:Ft}{A:Fu}
def wy(hh:A.handled=none)(b:Bool)(I ax:Fq)(FD:ax≠I)(items:Array Fo):Walks prog w A I [I,ax] [I] items.size (λi v=>items[i]?=some v) (λi h=>ItAt b h I ax i/\SqAt b h ax items):=by
 cases b with
 |true=>exact Walks.list hh I ax FD items
 |false=>exact Walks.tuple hh I ax FD items
end
def Zkx{ns:D2}{us:D3}(r:Vals (ns.map V.int) us){i:Nat}{v:Fo}(h:us[i]?=some v):∃t,v=.int ((ns[i]?).getD 0) t:=by
 have hi:i<us.length:=(Ay.mp h).1;have hl:us.length=ns.length:=by rw[<- r.length,Av]
 obtain⟨u,e1,e2⟩:=r.get (i:=i) (x:=V.int ns[i])<|by simp[show i<ns.length by omega]
 rw[h]at e1;cases e1;obtain⟨t,e2⟩:=e2;exact⟨t,by simp[show i<ns.length by omega,e2]⟩
def Ziy(ns:D2):preSum (λi=>(ns[i]?).getD 0) ns.length=ns.sum:=by
 have key:∀k,k<=ns.length->preSum (λi=>(ns[i]?).getD 0) k=(ns.take k).sum:=by
  intro k
  induction k with
  |zero=>intro _;simp[preSum]
  | succ k ih =>
   intro hk;rw[preSum,ih<|by omega,Dm,List.sum_append]
   simp[show k<ns.length by omega]
 rw[key _<|Aw _,CL]
section
variable{X:Cx}{PK:Pk}
def jr(hc:X.calm=true):dN X (.builtin "sum") (λxs H Q=>∃(b:Bool)(l:Fq)(ns:D2),xs=[.ref l]/\H l=some (bA b<|ns.map V.int)/\Q (.int ns.sum) H):=by
 intro pins s σ H xs us Q I r h;obtain⟨b,l,ns,rfl,e1,q⟩:=h;obtain⟨u,rfl,ru⟩:=eB r;cases ru;obtain⟨vs,rv,sq⟩:=dU I.hok e1;have FC:l<s.heap.objs.size:=I.hok.lt e1;refine call_sum_walkG<|iV sq ?_;refine⟨s.heap.objs.size,[s.heap.objs.size,l],[s.heap.objs.size],vs.toArray.size,_,_,λi=>(ns[i]?).getD 0,rfl,wy (A:=X.A.in1) (I.ok.hd hc) b _ l (AO FC) vs.toArray,
  ⟨ll (AC _<|by cases b <;> rfl),sq.push _⟩,λc hc=>?_,λi v hv=>Zkx rv<|by simpa using hv,λh' tk t' hk=>?_⟩
 ·rw[Bj];simp at hc;rcases hc with rfl|rfl
  ·exact Nat.lt_succ_self _
  ·exact B2 FC
 ·refine⟨.int ns.sum,H,I.kept (t':=tk) λc o e=>hk c o (λz=>?_)<|v9 _ e,⟨t',?_⟩,q⟩
  ·have:c=s.heap.objs.size:=by simpa using z
   subst this;exact AX _<|AI e
  ·have e:vs.toArray.size=ns.length:=by rw[AG,<- rv.length,Av]
   rw[e,Ziy]
def Zie(bs:Fl Bool):((List.range bs.length).all λi=>(bs[i]?).getD true)=bs.all id:=by
 rw[B4,Bl,Bl];constructor
 ·intro h x hx;obtain⟨i,hi,rfl⟩:=Co hx;have:=h i<|Bw.mpr hi;simpa [hi]using this
 ·intro h i hi;have hi':=Bw.mp hi;simpa [hi']using h _ (AW hi')
def Zid(bs:Fl Bool):((List.range bs.length).any λi=>(bs[i]?).getD true)=bs.any id:=by
 rw[B4,DC,DC];constructor
 ·rintro⟨i,hi,h⟩;have hi':=Bw.mp hi;exact⟨_,AW hi',by simpa [hi']using h⟩
 ·rintro⟨x,hx,h⟩;obtain⟨i,hi,rfl⟩:=Co hx;exact⟨i,Bw.mpr hi,by simpa [hi]using h⟩
def Zfo{bs:Fl Bool}{us:D3}(r:Vals (bs.map V.bl) us){i:Nat}{v:Fo}(h:us[i]?=some v):v=.bool ((bs[i]?).getD true):=by
 have hi:i<us.length:=(Ay.mp h).1;have hl:us.length=bs.length:=by rw[<- r.length,Av]
 obtain⟨u,e1,e2⟩:=r.get (i:=i) (x:=V.bl bs[i])<|by simp[show i<bs.length by omega]
 rw[h]at e1;cases e1;cases e2;simp[show i<bs.length by omega]
def zy(hc:X.calm=true):dN X (.builtin "all") (λxs H Q=>∃(b:Bool)(l:Fq)(bs:Fl Bool),xs=[.ref l]/\H l=some (bA b<|bs.map V.bl)/\Q (.bl<|bs.all id) H):=by
 intro pins s σ H xs us Q I r h;obtain⟨b,l,bs,rfl,e1,q⟩:=h;obtain⟨u,rfl,ru⟩:=eB r;cases ru;obtain⟨vs,rv,sq⟩:=dU I.hok e1;have FC:l<s.heap.objs.size:=I.hok.lt e1;refine call_all_walk<|iV sq ?_;refine⟨s.heap.objs.size,[s.heap.objs.size,l],[s.heap.objs.size],vs.toArray.size,_,_,λi=>(bs[i]?).getD true,rfl,wy (A:=X.A.in1) (I.ok.hd hc) b _ l (AO FC) vs.toArray,
  ⟨ll (AC _<|by cases b <;> rfl),sq.push _⟩,λi v s' Q' E' hP hQ=>?_,λh' tk hk=>?_⟩
 ·have e:=Zfo rv (i:=i) (v:=v) (by simpa using hP)
  subst e;exact Ey hQ
 ·have e:vs.toArray.size=bs.length:=by rw[AG,<- rv.length,Av]
  rw[e,Zie];refine⟨.bl _,H,I.kept (t':=tk) λc o e=>hk c o (λz=>?_)<|v9 _ e,rfl,q⟩;have:c=s.heap.objs.size:=by simpa using z
  subst this;exact AX _<|AI e
def Zm0(hc:X.calm=true):dN X (.builtin "any") (λxs H Q=>∃(b:Bool)(l:Fq)(bs:Fl Bool),xs=[.ref l]/\H l=some (bA b<|bs.map V.bl)/\Q (.bl<|bs.any id) H):=by
 intro pins s σ H xs us Q I r h;obtain⟨b,l,bs,rfl,e1,q⟩:=h;obtain⟨u,rfl,ru⟩:=eB r;cases ru;obtain⟨vs,rv,sq⟩:=dU I.hok e1;have FC:l<s.heap.objs.size:=I.hok.lt e1;refine call_any_walk<|iV sq ?_;refine⟨s.heap.objs.size,[s.heap.objs.size,l],[s.heap.objs.size],vs.toArray.size,_,_,λi=>(bs[i]?).getD true,rfl,wy (A:=X.A.in1) (I.ok.hd hc) b _ l (AO FC) vs.toArray,
  ⟨ll (AC _<|by cases b <;> rfl),sq.push _⟩,λi v s' Q' E' hP hQ=>?_,λh' tk hk=>?_⟩
 ·have e:=Zfo rv (i:=i) (v:=v) (by simpa using hP)
  subst e;exact Ey hQ
 ·have e:vs.toArray.size=bs.length:=by rw[AG,<- rv.length,Av]
  rw[e,Zid];refine⟨.bl _,H,I.kept (t':=tk) λc o e=>hk c o (λz=>?_)<|v9 _ e,rfl,q⟩;have:c=s.heap.objs.size:=by simpa using z
  subst this;exact AX _<|AI e
noncomputable def bools?:Fl Fn->Fm (Fl Bool)
 | []=>some []
 |.bool n::xs=>(bools? xs).bind λns=>some (n::ns)
 |_=>none
@[simp] theorem bools?_map:∀ns:Fl Bool,bools? (ns.map PyData.bool)=some ns
 | []=>rfl
 |n::ns=>by rw[Ax,bools?,bools?_map ns];rfl
def DnAll.bools_inv{H:Hp}{vs:D5}{ds:D1}{ns:Fl Bool}(a:DnAll H vs ds)(h:bools? ds=some ns):vs=ns.map V.bl/\ds=ns.map PyData.bool:=by
 induction vs generalizing ds ns with
 |nil=>cases a;cases h;exact⟨rfl,rfl⟩
 | cons v vs ih =>
  cases a with
  | cons g t =>
   cases g with
   | bl n =>
    unfold bools? at h;rename_i ds;cases e:bools? ds with
    |none=>rw[e]at h;cases h
    | some ms =>
     rw[e]at h;cases h;obtain⟨h1,h2⟩:=ih t e;exact⟨by rw[h1];rfl,by rw[h2];rfl⟩
   |_=>unfold bools? at h;cases h
def ij{α:Type}(p:Fl Fn->Fm α)(f:α->Fm Fn):Fl Fn->Fm Fn
 | [x]=>(gz x).bind λxs=>(p xs).bind f
 |_=>none
def dO:Fl Fn->Fm Fn:=ij ints? λns=>some<|.int ns.sum
def js:Fl Fn->Fm Fn:=ij bools? λns=>some<|.bool<|ns.all id
def nM:Fl Fn->Fm Fn:=ij bools? λns=>some<|.bool<|ns.any id
def yc{α:Type}{p:Fl Fn->Fm α}{f:α->Fm Fn}{G:Hp}{vs:D5}{ds:D1}{d:Fn}(hv:DnAll G vs ds)(h:ij p f ds=some d):∃b l us xs y,vs=[.ref l]/\G l=some (bA b us)/\DnAll G us xs/\p xs=some y/\f y=some d:=by
 unfold ij at h
 split at h
 ·rename_i x;cases hx:gz x with
  |none=>rw[hx]at h;cases h
  | some xs =>
   rw[hx]at h;have h':(p xs).bind f=some d:=h;cases hp:p xs with
   |none=>rw[hp]at h';cases h'
   | some y =>
    rw[hp]at h';cases hv with
    | cons h1 h2 =>
     cases h2;obtain⟨b,l,us,rfl,e1,e2⟩:=nh h1 hx;exact⟨b,l,us,xs,y,rfl,e1,e2,hp,h'⟩
 ·cases h
def iM:fJ (λxs H Q=>∃(b:Bool)(l:Fq)(ns:D2),xs=[.ref l]/\H l=some (bA b<|ns.map V.int)/\Q (.int ns.sum) H) dO:=λPK pa m G H vs ds d Q w hv hd k=>by obtain⟨b,l,us,xs,ns,rfl,e1,e2,hp,hf⟩:=yc hv hd;obtain⟨rfl,rfl⟩:=e2.ints_inv hp;cases hf;exact⟨b,l,ns,rfl,w.sub _ _ e1,k.here w<|.int _⟩
def wF:fJ (λxs H Q=>∃(b:Bool)(l:Fq)(bs:Fl Bool),xs=[.ref l]/\H l=some (bA b<|bs.map V.bl)/\Q (.bl<|bs.all id) H) js:=λPK pa m G H vs ds d Q w hv hd k=>by obtain⟨b,l,us,xs,ns,rfl,e1,e2,hp,hf⟩:=yc hv hd;obtain⟨rfl,rfl⟩:=e2.bools_inv hp;cases hf;exact⟨b,l,ns,rfl,w.sub _ _ e1,k.here w<|.bl _⟩
def Zgm:fJ (λxs H Q=>∃(b:Bool)(l:Fq)(bs:Fl Bool),xs=[.ref l]/\H l=some (bA b<|bs.map V.bl)/\Q (.bl<|bs.any id) H) nM:=λPK pa m G H vs ds d Q w hv hd k=>by obtain⟨b,l,us,xs,ns,rfl,e1,e2,hp,hf⟩:=yc hv hd;obtain⟨rfl,rfl⟩:=e2.bools_inv hp;cases hf;exact⟨b,l,ns,rfl,w.sub _ _ e1,k.here w<|.bl _⟩
variable{a b c e:Fw}{pos:Pos}{i j l:DR}
def lT(f g:DY)(i j l:DR):DR:=λρ=>(i ρ).bind λx=>(j ρ).bind λy=>(Tr.of<|f x y).bind λz=>(Tr.of<|jC z).bind λk =>
 if k=true then (l ρ).bind λu=>Tr.of (g y u)else .ret<|.bool false
def ZmL{r r':R2}{f g:DY}(hv:cL r f)(hv':cL r' g):∀σ H Q,TAe PK (lT f g i j l) σ H Q->ZaE r r' (TAe PK i) (TAe PK j) (TAe PK l) σ H Q:=by
 rintro σ H Q ⟨pa,D8,H₀,m,ρ,G,R,q⟩;refine TAe.then R q λm1 x v G1 H1 s1 w1 R1 d1 q1=>?_;refine TAe.then R1 q1 λm2 y u G2 H2 s2 w2 R2 d2 q2=>?_;rw[Tr.ok_bind]at q2;obtain⟨z,hz,q3⟩:=Tr.ok_of q2;rw[Tr.ok_bind]at q3;obtain⟨k,hk,q5⟩:=Tr.ok_of q3;have s12:=s1.trans s2 w1.some;refine hv PK pa m2 G2 H2 v u x y z _ w2 (d1.mono s2.gs) d2 hz λzz G3 H3 s3 w3 d3=>?_;cases d3 <;> simp only[jC]at hk <;> cases hk;refine⟨_,rfl,?_⟩;have s13:=s12.trans s3 w2.some;cases k with
 | true =>
  rw[Ed rfl]at q5 ⊢;refine TAe.then (R2.step s3 w3) q5 λm4 t vt G4 H4 s4 w4 R4 d4 q4=>?_;obtain⟨zz,hzz,q4⟩:=Tr.ok_of q4;exact hv' PK pa m4 G4 H4 u vt y t zz Q w4 (d2.mono<|s3.gs.trans s4.gs) d4 hzz (Kn.later q4 (s13.trans s4 w3.some) w4.some)
 | false =>
  rw[Ef AN]at q5 ⊢;exact(Kn.later q5 s13 w3.some).here w3<|.bl false
def z9{op op':CmpOp}{r r':R2}{f g:DY}(ho:OpR X (compareOp op) r)(hv:cL r f)(FT:OpR X (compareOp op') r')(hv':cL r' g)(ha:PE X a (TAe PK i))(hb:PE X b (TAe PK j))(hc:PE X c (TAe PK l))
  (hm:lastMarks [op,op'] [b,c]=false:=by with_unfolding_all rfl):PE X (.Compare a [op,op'] [b,c] pos) (TAe PK<|lT f g i j l):=(ZiX ho FT ha hb hc hm).imp<|ZmL hv hv'
def ZdV:OpR X (inplaceOp .Mult) (rI CMulG λi j=>.int<|i*j):=iZ λ_ _ _ _ _ _ _ hc q=>imul_int q hc.ok
def pip{op:Operator}{r:R2}(h:OpR X (inplaceOp op) r):PIp X op r:=h
noncomputable def qz:DY
 |.int m,.int n=>some (.int<|m+n)
 |_,_=>none
def Zgj:cL (fP λi j=>.int<|i+j) qz:=λPK pa m G H x y dx dy dz Q w hx hy hz k=>by
 unfold qz at hz
 split at hz
 ·cases hz;cases hx;cases hy;exact⟨_,_,rfl,rfl,k.here w<|.int _⟩
 ·cases hz
def lq:DY
 |.int m,.int n=>if (fit m&&fit n)=true then some (.int<|m*n)else none
 |_,_=>none
def Zai:cL (rI CMulG λi j=>.int<|i*j) lq:=λPK pa m G H x y dx dy dz Q w hx hy hz k=>by
 unfold lq at hz
 split at hz
 ·split at hz
  ·rename_i hc;rw[AT]at hc;cases hz;cases hx;cases hy;exact⟨_,_,rfl,rfl,⟨Ec hc.1,Ec hc.2⟩,k.here w<|.int _⟩
  ·cases hz
 ·cases hz
end
def ZcX{PK:Pk}{is:DS}:∀σ H Q,TAe PK (bE is) σ H Q->eG PK is σ H Q:=by intro σ H Q z;obtain⟨pa,D8,H₀,m,ρ,G,R,z⟩:=z;exact⟨pa,D8,H₀,m,ρ,G,R,Tr.ok_mono (Tr.ok_bind.mp z) λm1 xs k=>Ko1.of k R.wd.some⟩
def Znv{PK:Pk}{X:Cx}{st:Fx}{is:DS}{i:DR}{n k:Nat}{ix:Fl Nat}{g:DX}(h:PS X st (dC (iO (cX PK is) n ix (λ_=>dB PK g)<|λ_=>TAe PK i)<|dH k))(hn:fg n g):PS X st (bH PK<|bb k<|bE<|dA is n ix g i) :=
 bf (h.imp<|ox λσ H Q z=>yt hn σ H Q<|ZcX σ H Q z)
variable{ρ:D7}{s t:DU}{i j l:DR}{is:DS}{as:Fl Sl->Tr D7}{f:DV}{p q:DT}{k n:Nat}{x y d:Fn}{xs ys:D1}{sl:Sl}
def qW:aa 0 (.d x::ρ)=.ret x:=rfl
def qV:aa (k+1) (sl::ρ)=aa k ρ:=rfl
def vq:aC d ρ=.ret d:=rfl
def aU(g:DY)(x y:Fn):Tr Fn:=Tr.of<|g x y
def Zfv(g:DY)(j:DR)(ρ:D7)(x:Fn):Tr Fn:=(j ρ).bind<|aU g x
def uR{g:DY}:ae g i j ρ=(i ρ).bind (Zfv g j ρ):=rfl
def uQ{g:DY}:Zfv g j ρ x=(j ρ).bind (aU g x):=rfl
def ve(m n:Int):aU bg (.int m) (.int n)=.ret (.int<|m+n):=rfl
def nv(h1:xs.isEmpty=false)(h2:small (xs.length+ys.length)=true):aU bg (.tuple xs) (.tuple ys)=.ret (.tuple<|xs++ys):=by simp[aU,bg,h1,h2]
def vd(h2:small (xs.length+ys.length)=true):aU bg (.list xs) (.list ys)=.ret (.list<|xs++ys):=by simp[aU,bg,h2]
def rA(m n:Int):aU dg (.int m) (.int n)=.ret (.int<|m-n):=rfl
def tj{m n:Int}(h1:fit m=true)(h2:fit n=true):aU bX (.int m) (.int n)=.ret (.int<|m*n):=by simp[aU,bX,h1,h2]
def uv{m n:Int}(h1:n≠0)(h2:fit n=true):aU iB (.int m) (.int n)=.ret (.int<|m.fdiv n):=by simp[aU,iB,h1,h2]
def yY{m n:Int}(h1:n≠0):aU i7 (.int m) (.int n)=.ret (.int<|m.fmod n):=by simp[aU,i7,h1]
def uG{g:Int->Int->Bool}(m n:Int):aU (cD g) (.int m) (.int n)=.ret (.bool<|g m n):=rfl
def ux(m n:Int):aU dP (.int m) (.int n)=.ret (.bool<|m==n):=rfl
def tf(m n:Int):aU cQ (.int m) (.int n)=.ret (.bool<|!(m==n)):=rfl
def uy(m n:Bool):aU dP (.bool m) (.bool n)=.ret (.bool<|m==n):=rfl
def uw(m n:Str):aU dP (.str m) (.str n)=.ret (.bool<|m==n):=rfl
def sZ(m n:Str):aU cQ (.str m) (.str n)=.ret (.bool<|!(m==n)):=rfl
def Zlk(h1:SeqAt.shaped x=true)(h2:SeqAt.shaped y=true)(h3:∀a b,¬ (x=.str a/\y=.str b)):aU dP x y=.ret (.bool<|PyData.eqv x y):=by
 unfold aU dP
 split
 ·exact absurd ⟨rfl,rfl⟩<|h3 _ _
 ·rw[h1,h2];rfl
def Zjw(h1:SeqAt.shaped x=true)(h2:SeqAt.shaped y=true)(h3:∀a b,¬ (x=.str a/\y=.str b)):aU cQ x y=.ret (.bool<|!PyData.eqv x y):=by
 unfold aU cQ
 split
 ·exact absurd ⟨rfl,rfl⟩<|h3 _ _
 ·rw[h1,h2];rfl
def tS(m n:Bool):aU qv (.bool m) (.bool n)=.ret (.bool<|!(m==n)):=rfl
def tV:aU qw x .none=.ret (.bool<|jW x):=rfl
def tO(n:Int):aU ap (.list xs) (.int n)=Tr.of (bG xs n):=rfl
def fU(n:Int):aU ap (.tuple xs) (.int n)=Tr.of (bG xs n):=rfl
def fW{α:Type}{xs:Fl α}{n:Int}{v:α}(h0:0<=n)(h:xs[n.toNat]?=some v):bG xs n=some v:=by have e:(n.toNat:Int)=n:=Int.toNat_of_nonneg h0;rw[<- e];exact gC h
section
variable{α:Type}{a0 a1 a2 a3 a4 a5 a6 a7 a8:α}{r:Fl α}
def j6:bG (a0::r) 0=some a0:=gC (j:=0) rfl
def lK:bG (a0::a1::r) 1=some a1:=gC (j:=1) rfl
def lJ:bG (a0::a1::a2::r) 2=some a2:=gC (j:=2) rfl
def nJ:bG (a0::a1::a2::a3::r) 3=some a3:=gC (j:=3) rfl
def nI:bG (a0::a1::a2::a3::a4::r) 4=some a4:=gC (j:=4) rfl
def nH:bG (a0::a1::a2::a3::a4::a5::r) 5=some a5:=gC (j:=5) rfl
def nG:bG (a0::a1::a2::a3::a4::a5::a6::r) 6=some a6:=gC (j:=6) rfl
def nF:bG (a0::a1::a2::a3::a4::a5::a6::a7::r) 7=some a7:=gC (j:=7) rfl
def nE:bG (a0::a1::a2::a3::a4::a5::a6::a7::a8::r) 8=some a8:=gC (j:=8) rfl
end
noncomputable def Zc6:Fn->Tr Fn
 |.int n=>.ret (.int<|-n)
 |_=>.fail
def sY:gY i ρ=(i ρ).bind Zc6:=by unfold gY;refine Eg (Tr.bind<|i ρ) (funext λx=>?_);cases x <;> rfl
def sX(n:Int):Zc6 (.int n)=.ret (.int<|-n):=rfl
def wM(x:Fn):Tr Bool:=Tr.of<|jC x
def rz:bu i ρ=(i ρ).bind wM:=rfl
def re(b:Bool):wM (.bool b)=.ret b:=rfl
def kl(x:Fn):Tr Bool:=Tr.of<|Zas x
def rq:cU i ρ=(i ρ).bind kl:=rfl
def rn(b:Bool):kl (.bool b)=.ret b:=rfl
def rm(n:Int):kl (.int n)=.ret (n != 0):=rfl
def rj:kl (.list xs)=.ret (!xs.isEmpty):=rfl
def rf:kl (.tuple xs)=.ret (!xs.isEmpty):=rfl
def rh:kl .none=.ret false:=rfl
noncomputable def zU(q:DT)(ρ:D7)(b:Bool):Tr Bool:=if b=true then q ρ else .ret false
noncomputable def x6(q:DT)(ρ:D7)(b:Bool):Tr Bool:=if b=true then .ret true else q ρ
noncomputable def ZcZ(b:Bool):Tr Bool:=.ret<|!b
def vc:vZ p q ρ=(p ρ).bind (zU q ρ):=rfl
def sQ:eE p q ρ=(p ρ).bind (x6 q ρ):=rfl
def sV:dw p ρ=(p ρ).bind ZcZ:=rfl
def u9:zU q ρ true=q ρ:=rfl
def va:zU q ρ false=.ret false:=rfl
def sO:x6 q ρ true=.ret true:=rfl
def sP:x6 q ρ false=q ρ:=rfl
def sU(b:Bool):ZcZ b=.ret (!b):=rfl
noncomputable def zT(j:DR)(ρ:D7)(b:Bool):Tr Fn:=if b=true then j ρ else .ret<|.bool false
noncomputable def ZcY(b:Bool):Tr Fn:=.ret<|.bool<|!b
def u8:kc i j ρ=(bu i ρ).bind (zT j ρ):=rfl
def sT:vX i ρ=(bu i ρ).bind ZcY:=rfl
def uZ:zT j ρ true=j ρ:=rfl
def u7:zT j ρ false=.ret (.bool false):=rfl
def sS(b:Bool):ZcY b=.ret (.bool<|!b):=rfl
noncomputable def yL(i j:DR)(ρ:D7)(b:Bool):Tr Fn:=if b=true then i ρ else j ρ
def ug:Af p i j ρ=(p ρ).bind (yL i j ρ):=rfl
def ue:yL i j ρ true=i ρ:=rfl
def uf:yL i j ρ false=j ρ:=rfl
def vF(g:DY)(l:DR)(ρ:D7)(y:Fn)(k:Bool):Tr Fn:=if k=true then (l ρ).bind (aU g y)else .ret<|.bool false
def zu(g:DY)(l:DR)(ρ:D7)(y z:Fn):Tr Fn:=(wM z).bind<|vF g l ρ y
def zw(f g:DY)(l:DR)(ρ:D7)(x y:Fn):Tr Fn:=(aU f x y).bind<|zu g l ρ y
def ch1(f g:DY)(j l:DR)(ρ:D7)(x:Fn):Tr Fn:=(j ρ).bind<|zw f g l ρ x
def uH{f g:DY}:lT f g i j l ρ=(i ρ).bind (ch1 f g j l ρ):=rfl
def uM{f g:DY}:ch1 f g j l ρ x=(j ρ).bind (zw f g l ρ x):=rfl
def uL{f g:DY}:zw f g l ρ x y=(aU f x y).bind (zu g l ρ y):=rfl
def uK{g:DY}(b:Bool):zu g l ρ y (.bool b)=vF g l ρ y b:=rfl
def uI{g:DY}:vF g l ρ y true=(l ρ).bind (aU g y):=rfl
def uJ{g:DY}:vF g l ρ y false=.ret (.bool false):=rfl
noncomputable def zr(x:Fn)(xs:D1):Tr D1:=.ret (x::xs)
def Ze0(is:DS)(ρ:D7)(x:Fn):Tr D1:=(is ρ).bind<|zr x
def sW:ak ρ=.ret []:=rfl
def uF:af i is ρ=(i ρ).bind (Ze0 is ρ):=rfl
def uE:Ze0 is ρ x=(is ρ).bind (zr x):=rfl
def uD:zr x xs=.ret (x::xs):=rfl
def wL(xs:D1):Tr Fn:=if small xs.length=true then .ret (.tuple xs)else .fail
def ra:bj is ρ=(is ρ).bind wL:=rfl
def q9(h:small xs.length=true):wL xs=.ret (.tuple xs):=by unfold wL;rw[Ed h]
def Zdf(xs:D1):Tr Fn:=.ret<|.list xs
def tB:bE is ρ=(is ρ).bind Zdf:=rfl
def tz:Zdf xs=.ret (.list xs):=rfl
def yq(xs:D1):Tr D1:=if small xs.length=true then .ret xs else .fail
def tE:cW is ρ=(is ρ).bind yq:=rfl
def tD(h:small xs.length=true):yq xs=.ret xs:=by unfold yq;rw[Ed h]
def bW{n:Nat}(h:n<=10000):small n=true:=Ea<|AJ h<|by decide
def bR(g:Fl Fn->Fm Fn)(xs:D1):Tr Fn:=Tr.of<|g xs
def nC(g:Fl Fn->Fm D1)(xs:D1):Tr D1:=Tr.of<|g xs
def uO{g:Fl Fn->Fm Fn}:bc g is ρ=(is ρ).bind (bR g):=rfl
def uN{g:Fl Fn->Fm D1}:gE g is ρ=(is ρ).bind (nC g):=rfl
def tG:bR cj [.list xs]=.ret (.int xs.length):=rfl
def tF:bR cj [.tuple xs]=.ret (.int xs.length):=rfl
def vf(n:Int):bR lN [.int n]=.ret (.int<|vS n):=rfl
def tm(m n:Int):bR ir [.int m,.int n]=.ret (.int<|eL m n):=rfl
def tW(n:Int):bR ng [.int n]=.ret (.int n):=rfl
def tX(b:Bool):bR ng [.bool b]=.ret (.int<|if b then 1 else 0):=rfl
def qZ:bR ga [.list xs]=.ret (.tuple xs):=rfl
def qX:bR ga [.tuple xs]=.ret (.tuple xs):=rfl
def tw:nC jT [.list xs]=.ret xs:=rfl
def tq:nC jT [.tuple xs]=.ret xs:=rfl
def jX(ns:D2):bR dO [.list<|ns.map .int]=.ret (.int ns.sum):=by unfold bR dO ij;simp
def jl(ns:D2):bR dO [.tuple<|ns.map .int]=.ret (.int ns.sum):=by unfold bR dO ij;simp
def lA(ns:Fl Bool):bR js [.list<|ns.map .bool]=.ret (.bool<|ns.all id):=by unfold bR js ij;simp
def nu(ns:Fl Bool):bR nM [.list<|ns.map .bool]=.ret (.bool<|ns.any id):=by unfold bR nM ij;simp
def ZdS(T:String)(x:Fn):Tr Fn:=.ret<|.bool<|lm T<|iN x
def tU{T:String}:eS T i ρ=(i ρ).bind (ZdS T):=rfl
def tT{T:String}:ZdS T x=.ret (.bool<|lm T<|iN x):=rfl
def ky(x:Fn)(lo:Fm Int)(hi:Fm Int):Tr Fn:=Tr.of<|ZaT x lo hi
def eJ(q:gD)(ρ:D7)(x:Fn)(lo:Fm Int):Tr Fn:=(q ρ).bind<|ky x lo
def sl1(p q:gD)(ρ:D7)(x:Fn):Tr Fn:=(p ρ).bind<|eJ q ρ x
def rF{p q:gD}:cV i p q ρ=(i ρ).bind (sl1 p q ρ):=rfl
def rE{p q:gD}:sl1 p q ρ x=(p ρ).bind (eJ q ρ x):=rfl
def rD{q:gD}{lo:Fm Int}:eJ q ρ x lo=(q ρ).bind (ky x lo):=rfl
def rC{lo hi:Fm Int}:ky (.list xs) lo hi=.ret (.list<|dJ xs lo hi):=rfl
def rB{lo hi:Fm Int}:ky (.tuple xs) lo hi=.ret (.tuple<|dJ xs lo hi):=rfl
def sL:df ρ=.ret none:=rfl
noncomputable def pa1:Fn->Tr (Fm Int)
 |.int n=>.ret (some n)
 |_=>.fail
def sK:cK i ρ=(i ρ).bind pa1:=by unfold cK;refine Eg (Tr.bind<|i ρ) (funext λx=>?_);cases x <;> rfl
def sJ(n:Int):pa1 (.int n)=.ret (some n):=rfl
def wK(xs:D1):Tr Fn:=(Tr.of<|iS xs).bind λys=>.ret<|.tuple ys
def qY:Aa is ρ=(is ρ).bind wK:=rfl
def nq{lo hi:Int}(h:iT lo hi=true):wK [.int lo,.int hi]=.ret (.tuple<|bi lo hi):=by simp[wK,iS,h]
def yn(xs:D1):Tr D1:=Tr.of<|iS xs
def tu:Ae is ρ=(is ρ).bind yn:=rfl
def nr{lo hi:Int}(h:iT lo hi=true):yn [.int lo,.int hi]=.ret (bi lo hi):=by simp[yn,iS,h]
def vm:aD ρ=.ret []:=rfl
noncomputable def nR(x:Sl)(xs:D7):Tr D7:=.ret (x::xs)
def aa1(as:Fl Sl->Tr D7)(ρ:D7)(x:Fn):Tr D7:=(as ρ).bind<|nR<|.d x
def vn:ah i as ρ=(i ρ).bind (aa1 as ρ):=rfl
def vp:aa1 as ρ x=(as ρ).bind (nR<|.d x):=rfl
def vo{xs:D7}:nR sl xs=.ret (sl::xs):=rfl
noncomputable def kI:Nat->Fl Sl->Tr Unit
 |0,.pen::_=>.ret ()
 |k+1,_::ρ=>kI k ρ
 |_,_=>.fail
def sG:kI 0 (.pen::ρ)=.ret ():=rfl
def sF:kI (k+1) (sl::ρ)=kI k ρ:=rfl
def aap(as:Fl Sl->Tr D7)(ρ:D7)(_:Unit):Tr D7:=(as ρ).bind<|nR .pen
def vh:cg k as ρ=(kI k ρ).bind (aap as ρ):=by
 have key:∀(k:Nat)(σ:D7)(as:Fl Sl->Tr D7)(ρ:D7),(match σ[k]? with|some Sl.pen=>(as ρ).bind λxs=>Tr.ret (Sl.pen::xs)|_=>Tr.fail)=(kI k σ).bind (aap as ρ):=by
  intro k
  induction k with
  | zero =>
   intro σ as ρ;cases σ with
   |nil=>rfl
   |cons s r=>cases s <;> rfl
  | succ k ih =>
   intro σ as ρ;cases σ with
   |nil=>rfl
   |cons s r=>exact ih r as ρ
 exact key k ρ as ρ
def vg(u:Unit):aap as ρ u=(as ρ).bind (nR .pen):=rfl
def uP:aB f as ρ=(as ρ).bind f:=rfl
noncomputable def re1(r:Re):Tr Fn:=.ret r.val
def sE:aE f ρ=(f ρ).bind re1:=rfl
def sD(r:Re):re1 r=.ret r.val:=rfl
def uC{as:D7}(h:as.length=n):bv n k s as=(s<|as++List.replicate k .un).bind qP:=by unfold bv;rw[Ed<|Ea h]
def uu:qP (.next ρ)=.ret (.d .none):=rfl
def ut(r:Re):qP (.ret r)=.ret r:=rfl
noncomputable def mh(t:DU):Ou->Tr Ou
 |.next ρ=>t ρ
 |o=>.ret o
def rT:au s t ρ=(s ρ).bind (mh t):=by unfold au;refine Eg (Tr.bind<|s ρ) (funext λo=>?_);cases o <;> rfl
def rQ:mh t (.next ρ)=t ρ:=rfl
def rP(r:Re):mh t (.ret r)=.ret (.ret r):=rfl
def rS:mh t (.brk ρ)=.ret (.brk ρ):=rfl
def rR:mh t (.cont ρ)=.ret (.cont ρ):=rfl
def rG:bM ρ=.ret (.next ρ):=rfl
noncomputable def yI(s t:DU)(ρ:D7)(b:Bool):Tr Ou:=if b=true then s ρ else t ρ
def t6:bO p s t ρ=(p ρ).bind (yI s t ρ):=rfl
def tZ:yI s t ρ true=s ρ:=rfl
def t5:yI s t ρ false=t ρ:=rfl
noncomputable def ZbT(x:Fn):Tr Ou:=.ret<|.ret<|.d x
def sC:aZ i ρ=(i ρ).bind ZbT:=rfl
def sB:ZbT x=.ret (.ret<|.d x):=rfl
noncomputable def ZbS(xs:D1):Tr Ou:=.ret<|.ret<|.own xs
def sA:j9 is ρ=(is ρ).bind ZbS:=rfl
def sy:ZbS xs=.ret (.ret<|.own xs):=rfl
noncomputable def ZbR(r:Re):Tr Ou:=.ret<|.ret r
def sx:vW f ρ=(f ρ).bind ZbR:=rfl
def sw(r:Re):ZbR r=.ret (.ret r):=rfl
def sv:fX 0 (.d x::ρ)=.ret (.ret<|.d x):=rfl
def su:fX 0 (.own xs::ρ)=.ret (.ret<|.own xs):=rfl
def sn:fX (k+1) (sl::ρ)=fX k ρ:=rfl
noncomputable def oO(k:Nat)(ρ:D7)(x:Fn):Tr Ou:=.ret<|.next<|ρ.set k<|.d x
def rO:bb k i ρ=(i ρ).bind (oO k ρ):=rfl
def rN:oO k ρ x=.ret (.next<|ρ.set k<|.d x):=rfl
noncomputable def Za2(k:Nat)(ρ:D7)(x:D1):Tr Ou:=.ret<|.next<|ρ.set k<|.own x
def rM:j8 k is ρ=(is ρ).bind (Za2 k ρ):=rfl
def rL:Za2 k ρ xs=.ret (.next<|ρ.set k<|.own xs):=rfl
def qm{α:Type}{a b:α}{r:Fl α}:(a::r).set 0 b=b::r:=rfl
def ql{α:Type}{a b:α}{r:Fl α}:(a::r).set (k+1) b=a::r.set k b:=rfl
def zO(g:DY)(k:Nat)(ρ:D7)(x y:Fn):Tr Ou:=(aU g x y).bind<|oO k ρ
def Zfz(g:DY)(k:Nat)(i:DR)(ρ:D7)(x:Fn):Tr Ou:=(i ρ).bind<|zO g k ρ x
def uU{g:DY}:lU g k i ρ=(aa k ρ).bind (Zfz g k i ρ):=rfl
def uT{g:DY}:Zfz g k i ρ x=(i ρ).bind (zO g k ρ x):=rfl
def uS{g:DY}:zO g k ρ x y=(aU g x y).bind (oO k ρ):=rfl
def uh(m n:Int):aU qz (.int m) (.int n)=.ret (.int<|m+n):=rfl
def tY{m n:Int}(h1:fit m=true)(h2:fit n=true):aU lq (.int m) (.int n)=.ret (.int<|m*n):=by simp[aU,lq,h1,h2]
noncomputable def ic:Nat->Fl Sl->Tr D1
 |0,.own xs::_=>.ret xs
 |k+1,_::ρ=>ic k ρ
 |_,_=>.fail
def sN:ic 0 (.own xs::ρ)=.ret xs:=rfl
def sM:ic (k+1) (sl::ρ)=ic k ρ:=rfl
theorem pH{β:Type}{g:Fl Fn->Tr β}:∀(k:Nat)(σ:D7),(match σ[k]? with|some (Sl.own xs)=>g xs|_=>Tr.fail)=(ic k σ).bind g
 |0,[]=>rfl
 |0,s::r=>by cases s <;> rfl
 |k+1,[]=>rfl
 |k+1,s::r=>pH k r
def vP(k:Nat)(ρ:D7)(xs:D1)(x:Fn):Tr Ou:=if small (xs.length+1)=true then .ret (.next<|ρ.set k<|.own<|xs++[x])else .fail
def ZfL(k:Nat)(i:DR)(ρ:D7)(xs:D1):Tr Ou:=(i ρ).bind<|vP k ρ xs
def uY:lV k i ρ=(ic k ρ).bind (ZfL k i ρ):=pH k ρ
def uX:ZfL k i ρ xs=(i ρ).bind (vP k ρ xs):=rfl
def lz(h:small (xs.length+1)=true):vP k ρ xs x=.ret (.next<|ρ.set k<|.own<|xs++[x]):=by unfold vP;rw[Ed h]
noncomputable def ZbQ(k:Nat)(ρ:D7)(xs:D1):Tr Ou:=.ret<|.next<|ρ.set k<|.own xs.reverse
def sj:vV k ρ=(ic k ρ).bind (ZbQ k ρ):=pH k ρ
def si:ZbQ k ρ xs=.ret (.next<|ρ.set k<|.own xs.reverse):=rfl
def ui:lR k s ρ=s (fz k ρ):=rfl
def qL:fz 0 (.own xs::ρ)=.d (.list xs)::ρ:=rfl
def qM:fz 0 (.d x::ρ)=.d x::ρ:=rfl
def qK:fz 0 (.pen::ρ)=.pen::ρ:=rfl
def qJ:fz 0 (.un::ρ)=.un::ρ:=rfl
def qN:fz (k+1) (sl::ρ)=sl::fz k ρ:=by
 unfold fz;rw[A6];cases h:ρ[k]? with
 |none=>rfl
 |some s=>cases s <;> rfl
def yf(ρ:D7):Tr Ou:=.ret<|.next ρ
def ZfB(g:DX)(ρ:D7)(x:Fn):Tr Ou:=(Tr.of<|g x ρ).bind yf
def uW{g:DX}:gF g i ρ=(i ρ).bind (ZfB g ρ):=rfl
def uV{g:DX}:ZfB g ρ x=(Tr.of<|g x ρ).bind yf:=rfl
def sR:yf ρ=.ret (.next ρ):=rfl
def qF:ao k x ρ=some (ρ.set k<|.d x):=rfl
def qD{gs:DW}:bD gs (.tuple xs) ρ=gs xs ρ:=rfl
def qG:bo [] ρ=some ρ:=rfl
def qI{g:DX}{gs:DW}:aJ g gs (x::xs) ρ=(g x ρ).bind (gs xs):=rfl
def qE{α β:Type}{a:α}{g:α->Fm β}:(some a).bind g=g a:=rfl
noncomputable def ZcR(k n:Nat)(ρ:D7):Fl Fn->Tr Ou
 | [x,y]=>.ret (.next<|(ρ.set k<|.d x).set n<|.d y)
 |_=>.fail
def sI:ka k n is ρ=(is ρ).bind (ZcR k n ρ):=by
 unfold ka;refine Eg (Tr.bind<|is ρ)<|funext λxs=>?_
 match xs with
 | []=>rfl
 | [_]=>rfl
 | [_,_]=>rfl
 |_::_::_::_=>rfl
def sH:ZcR k n ρ [x,y]=.ret (.next<|(ρ.set k<|.d x).set n<|.d y):=rfl
def dG(x:Fn):Tr D1:=Tr.of<|gz x
def tR:cz i ρ=(i ρ).bind dG:=rfl
def tQ:dG (.list xs)=.ret xs:=rfl
def tP:dG (.tuple xs)=.ret xs:=rfl
def eK(xs:D1):Tr D1:=Tr.of<|kD xs
def xE(xs:D1):Tr D1:=Tr.of<|mo xs
def rZ:gm is ρ=(is ρ).bind eK:=rfl
def rY:nS is ρ=(is ρ).bind xE:=rfl
def fc{n:Int}(h1:-1000000000000<=n)(h2:n<=1000000000000):gi n=true:=Ea<|by omega
def gB{n:Int}(h:gi n=true):eK [.int n]=.ret (bi 0 n):=by simp[eK,kD,h]
def Zel{m n:Int}(h1:gi m=true)(h2:gi n=true):xE [.int m,.int n]=.ret (bi m n):=by simp[xE,mo,h1,h2]
def wv(xs:D1)(ys:D1):Tr D1:=.ret<|f9 xs ys
def ww(y:Fn)(xs:D1):Tr D1:=(dG y).bind<|wv xs
def wx(x y:Fn):Tr D1:=(dG x).bind<|ww y
def Zac(j:DR)(ρ:D7)(x:Fn):Tr D1:=(j ρ).bind<|wx x
def qU:iI i j ρ=(i ρ).bind (Zac j ρ):=rfl
def qT:Zac j ρ x=(j ρ).bind (wx x):=rfl
def qS:wx x y=(dG x).bind (ww y):=rfl
def qR:ww y xs=(dG y).bind (wv xs):=rfl
def qQ:wv xs ys=.ret (f9 xs ys):=rfl
def y6(xs:D1):Tr D1:=.ret<|fF xs
def Zeq(x:Fn):Tr D1:=(dG x).bind y6
def uz:lS i ρ=(i ρ).bind Zeq:=rfl
def uB:Zeq x=(dG x).bind y6:=rfl
def uA:y6 xs=.ret (fF xs):=rfl
def Zee(g:DX)(s:DU)(ρ:D7)(xs:D1):Tr Ou:=ck g s xs ρ
def ur{g:DX}:dR is g s ρ=(is ρ).bind (Zee g s ρ):=rfl
def uq{g:DX}:Zee g s ρ xs=ck g s xs ρ:=rfl
def lw(g:DX)(s:DU)(xs:D1):Ou->Tr Ou
 |.next ρ=>ck g s xs ρ
 |.cont ρ=>ck g s xs ρ
 |.brk ρ=>.ret (.next ρ)
 |.ret r=>.ret<|.ret r
def iA(g:DX)(s:DU)(xs:D1)(ρ:D7):Tr Ou:=(s ρ).bind<|lw g s xs
def qO{g:DX}:ck g s [] ρ=.ret (.next ρ):=rfl
def lv{g:DX}:ck g s (x::xs) ρ=(Tr.of<|g x ρ).bind (iA g s xs):=by rw[ck];refine Eg (Tr.bind<|Tr.of<|g x ρ) (funext λρ1=>?_);unfold iA;refine Eg (Tr.bind<|s ρ1) (funext λo=>?_);cases o <;> rfl
def uo{g:DX}:iA g s xs ρ=(s ρ).bind (lw g s xs):=rfl
def gW{g:DX}:lw g s xs (.next ρ)=ck g s xs ρ:=rfl
def uk{g:DX}:lw g s xs (.cont ρ)=ck g s xs ρ:=rfl
def um{g:DX}:lw g s xs (.brk ρ)=.ret (.next ρ):=rfl
def uj{g:DX}(r:Re):lw g s xs (.ret r)=.ret (.ret r):=rfl
def dF(g:DX)(el:DR)(τ:D7)(x:Fn):Tr Fn:=(Tr.of<|g x τ).bind el
def yu(n:Nat)(ix:Fl Nat)(g:DX)(el:DR)(ρ:D7)(xs:D1):Tr D1:=if small xs.length=true then bJ (dF g el<|blk n ix ρ) xs else .fail
def tN{ix:Fl Nat}{g:DX}:dA is n ix g i ρ=(is ρ).bind (yu n ix g i ρ):=rfl
def tM{ix:Fl Nat}{g:DX}(h:small xs.length=true):yu n ix g i ρ xs=bJ (dF g i<|blk n ix ρ) xs:=by unfold yu;rw[Ed h]
def tL{τ:D7}{g:DX}:dF g i τ x=(Tr.of<|g x τ).bind i:=rfl
theorem Zdd{h:Fn->Tr Fn}{n:Nat}{P:Fn->Prop}:∀{xs:D1},(∀x∈xs,(h x).all n P)->(bJ h xs).all (xs.length*n) λys=>ys.length=xs.length/\∀y∈ys,P y
 | [],_=>⟨rfl,λy hy=>by cases hy⟩
 | x::xs,hx=>by
  have e:(x::xs).length*n=n+(xs.length*n+0):=by rw[AE,Cq];omega
  rw[e,bJ];refine Tr.all_bind (hx x<|by simp) λy hy=>Tr.all_bind (Zdd λz hz=>hx z<|Az _ hz) λys hys=>?_
  exact⟨by simp[hys.1],λz hz=>by
   rcases AM.mp hz with rfl|hz
   ·exact hy
   ·exact hys.2 z hz⟩
theorem Zed{g:DX}{n:Nat}(I:Fl Fn->Fl Sl->Prop){Q:Ou->Prop} :
  ∀{xs pre:D1}{ρ:D7},I pre ρ->(∀pre x post ρ,pre++x::post=pre++x::post->I pre ρ->x∈xs->∃ρ1,g x ρ=some ρ1/\(s ρ1).all n λo=>∃ρ2,o=.next ρ2/\I (pre++[x]) ρ2)->(∀ρ,I (pre++xs) ρ->Q (.next ρ))->(ck g s xs ρ).all (xs.length*n) Q
 | [],pre,ρ,h0,_,hq=>hq ρ (by rw[A3];exact h0)
 | x::xs,pre,ρ,h0,ht,hq=>by
  obtain⟨ρ1,e,ha⟩:=ht pre x xs ρ rfl h0 (by simp)
  have en:(x::xs).length*n=n+xs.length*n:=by rw[AE,Cq];omega
  rw[en,lv,e,Tr.of_some,Tr.ret_bind];unfold iA;refine Tr.all_bind ha λo ⟨ρ2,eo,h2⟩=>?_;subst eo;rw[gW];exact Zed I h2 (λpre y post ρ e h hy=>ht pre y post ρ e h<|Az _ hy)<|λρ h=>hq ρ<|by rw[Bg]at h;exact h
def Zlz{α:Type}{w:Int}{k:Int->Tr α}{n:Nat}{P:α->Prop}(h1:0<w)(h2:w<1073741824)(h:∀r,0<=r->r<w->(k r).all n P):(Tr.draw w k).all (n+1) P:=⟨h1,h2,h⟩
noncomputable def ym(y:Fn)(ys:D1):Tr D1:=.ret (y::ys)
def mt1(h:Fn->Tr Fn)(xs:D1)(y:Fn):Tr D1:=(bJ h xs).bind<|ym y
def pR{h:Fn->Tr Fn}:bJ h []=.ret []:=rfl
def pU{h:Fn->Tr Fn}{x:Fn}{xs:D1}:bJ h (x::xs)=(h x).bind (mt1 h xs):=rfl
def pW{h:Fn->Tr Fn}{y:Fn}{xs:D1}:mt1 h xs y=(bJ h xs).bind (ym y):=rfl
def pV{y:Fn}{ys:D1}:ym y ys=.ret (y::ys):=rfl
def pick{α:Type}{xs:Fl α}{r:Int}(h0:0<=r)(h1:r<xs.length):∃v,bG xs r=some v/\v∈xs:=by
 have h:r.toNat<xs.length:=by omega
 exact⟨xs[r.toNat],fW h0<|by simp[h],AW h⟩
def ZjS{α:Type}{xs:Fl α}(h:xs.length=7):∃a b c d e f g,xs=[a,b,c,d,e,f,g]:=by
 rcases xs with _|⟨a,_|⟨b,_|⟨c,_|⟨d,_|⟨e,_|⟨f,_|⟨g,_|⟨k,xs⟩⟩⟩⟩⟩⟩⟩⟩
 ·cases h
 ·cases h
 ·cases h
 ·cases h
 ·cases h
 ·cases h
 ·cases h
 ·exact⟨a,b,c,d,e,f,g,rfl⟩
 ·exact absurd h<|by simp
end L2
namespace L2
@[irreducible] def Al{α:Type}(t:Tr α)(n:Nat)(P:α->Prop):Prop:=t.all n P
section
variable{α β:Type}{t:Tr α}{n n' N:Nat}{P:α->Prop}{P':β->Prop}
def Al.of(h:t.all n P):Al t n P:=by unfold Al;exact h
def Al.out(h:Al t n P):t.all n P:=by unfold Al at h;exact h
def b9{a:α}(h:P a):Al (.ret a) n P:=.of h
def cN{w:Int}{k:Int->Tr α}(h1:0<w)(h2:w<1073741824)(hN:n+1<=N)(h:∀r,0<=r->r<w->Al (k r) n P):Al (.draw w k) N P:=.of<|Tr.all_mono (Zlz h1 h2 λr a b=>(h r a b).out) hN λ_ h=>h
def eA{f:α->Tr β}(h:Al t n P)(hN:n+n'<=N)(hf:∀a,P a->Al (f a) n' P'):Al (t.bind f) N P':=.of<|Tr.all_mono (Tr.all_bind h.out λa ha=>(hf a ha).out) hN λ_ h=>h
def lL{Q:α->Prop}(h:Al t n P)(hN:n<=N)(hq:∀a,P a->Q a):Al t N Q:=.of<|Tr.all_mono h.out hN hq
def ZfS{g:DX}{s:DU}{xs:D1}{ρ:D7}{Q:Ou->Prop}(I:Fl Sl->Prop)(h0:I ρ)(hN:xs.length*n<=N)(ht:∀x ρ,x∈xs->I ρ->∃ρ1,g x ρ=some ρ1/\Al (s ρ1) n λo=>∃ρ2,o=.next ρ2/\I ρ2)(hq:∀ρ,I ρ->Q (.next ρ)):Al (ck g s xs ρ) N Q :=
 .of (Tr.all_mono (Zed (λ_ ρ=>I ρ) (pre:=[]) h0 (λpre x post ρ _ h hx=>let ⟨ρ1,e,a⟩:=ht x ρ hx h;⟨ρ1,e,a.out⟩) λρ h=>hq ρ h) hN λ_ h=>h)
def zW{h:Fn->Tr Fn}{P:Fn->Prop}{xs:D1}{Q:Fl Fn->Prop}(hN:xs.length*n<=N)(hx:∀x∈xs,Al (h x) n P)(hq:∀ys,ys.length=xs.length->(∀y∈ys,P y)->Q ys):Al (bJ h xs) N Q :=
 .of (Tr.all_mono (Zdd λx m=>(hx x m).out) hN λys ⟨a,b⟩=>hq ys a b)
end
def gh(lo hi:Int)(x:Fn):Prop:=∃z:Int,x=.int z/\lo<=z/\z<=hi
def dh{lo hi:Int}:(bi lo hi).length=(hi-lo).toNat:=by unfold bi;rw[Av,fO]
def x4{xs:D1}{lo hi r:Int}(h:∀x∈xs,gh lo hi x)(h0:0<=r)(h1:r<xs.length):∃z:Int,bG xs r=some (.int z)/\lo<=z/\z<=hi:=by obtain⟨v,e,m⟩:=pick h0 h1;obtain⟨z,rfl,a,b⟩:=h v m;exact⟨z,e,a,b⟩
end L2
namespace L2
variable{PK:Pk}{X:Cx}{a b c e:Fw}{es:Fl Fw}{pos:Pos}{i j l:DR}{is:DS}{p q:DT}{st:Fx}
noncomputable def gA:Fn->Bool
 |.none=>true
 |.bool _=>true
 |.int _=>true
 |.str _=>true
 |_=>false
variable{PK:Pk}{X:Cx}{a b c e:Fw}{es:Fl Fw}{pos:Pos}{i j l:DR}{as:Fl Sl->Tr D7}
structure PkLow(PK:Pk):Prop where
 low:∀{o o':HO}{G G':Hp}{m m':Nat},PK.is o G m->Sub G G'->PK.is o' G' m'->PK.is o' G m'
def Dn.flat_any{G G':Hp}{v:V}{x:Fn}(h:Dn G v x)(f:gA x=true):Dn G' v x:=by
 cases h with
 |non=>exact .non
 |bl b=>exact .bl b
 |int i=>exact .int i
 |str s=>exact .str s
 |_=>cases f
variable{ρ:D7}{k:Nat}{xs:D1}{x:Fn}{sl:Sl}{f:DV}
def ZmG{prog:Fs}{w:Ft}{A:Fu}{R:Result->Fp->Prop}{s:Fp}{elt target iter cnd:Fw}{scope:Scope}{pos:Pos}{it acc:Fo}{env:Env}(J:Nat->Fp->Prop)
  (step:∀k s0,J k s0->wpAny (model prog w) A (pyNext it) (λgot s1=>match got with
   |none=>R (.ok .next) s1
   | some v=>wpAny (model prog w) A (letOwnedTupleGo target it v) (λ_ s2=>wpAny (model prog w) A (assign target env v) (λ_ s3=>wpAny (model prog w) A (isTrue cnd env<|eval cnd env) (λok s3'=>if ok=true then wpAny (model prog w) A (eval elt env) (λy s4 =>
     wpAny (model prog w) A (call (.builtin "list.append") [acc,y]) (λ_ s5=>∃j,j<k/\J j s5) (λ_ _=>False) s4) (λ_ _=>False) s3' else ∃j,j<k/\J j s3') (λ_ _=>False) s3) (λ_ _=>False) s2) (λ_ _=>False) s1) (λ_ _=>False) s0)
  (k:Nat) (h:J k s):codeAny (model prog w) A (.compLoop (.ListComp elt [⟨target,iter,[cnd],0⟩] scope pos) 0 it acc env) R s:=by
 refine E9 rfl J (λk0 s0 hJ=>?_) k h;show wpAny _ _ ((compTurn (.ListComp elt [⟨target,iter,[cnd],0⟩] scope pos) 0 it acc env).onRaise<|λx=>do noteFrame x env;theTreesLotGoes x) _ _ s0
 apply Fb;rw[compTurn_list];refine wp (Ep<|wp<|Ei (step k0 s0 hJ) (λgot s1 h1=>?_) λ_ _ z=>z.elim);cases got with
 |none=>exact D9 h1
 | some v =>
  refine wp (Ei h1 (λ_ s2 h2=>?_) λ_ _ z=>z.elim);refine wp (Ei h2 (λ_ s3 h3=>?_) λ_ _ z=>z.elim);refine wp (Ei (wpAny_tests_one h3) (λok s3' h3'=>?_) λ_ _ z=>z.elim);cases ok with
  |false=>exact D9 ⟨rfl,h3'⟩
  | true =>
   refine wp (wp<|Ei h3' (λy s4 h4=>?_) λ_ _ z=>z.elim);exact wp<|Ei h4 (λ_ s5 h5=>D9<|D9 ⟨rfl,h5⟩) λ_ _ z=>z.elim
def l7(wi:TI)(n:Nat)(ix:Fl Nat)(g:Blk->TG)(tc:Blk->TT)(te:Blk->TE):TE:=λσ H Q=>wi σ H λJ H1=>∀b:Blk,∃W:Nat->Nat->St->Fl V->Hp->Prop,(∃m,W 0 m (db n ix σ) [] H1)/\∀i m τ ys H2,W i m τ ys H2 ->
 (J.stop i H2/\∀p v H',H2 p=none->v=V.ref p->H'=upd H2 p (.lst ys)->Q v H') \/
 (J.go i H2/\ys.length<sizeLine/\∀x H3,J.yld i H2 x H3->g b x τ H3 λτ2 H4=>tc b τ2 H4 λok H4'=>if ok=true then te b τ2 H4' λy H5=>∃m',m'<m/\W (i+1) m' τ2 (ys++[y]) H5 else ∃m',m'<m/\W (i+1) m' τ2 ys H4')
section
variable{X:Cx}{pins:Fl (Fq×Obj)}{σ:St}{H:Hp}{s:Fp}
def Zdu{elt target iter cnd:Fw}{scope:Scope}{pos:Pos}{Nx ts:D4}{ix:Fl Nat}{g:Blk->TG}{tc:Blk->TT}{te:Blk->TE}{cl:Fl (Str×Fq)}{s2:Fp}{itv:Fo}{R:Fo->Fq->Result->Fp->Prop}
  {E:DZ} {Q:VK}
  (hc:X.calm=true) (hg:∀b,PG (aW X (bN Nx ts ix) scope b) target<|g b) (hcn:∀b,PT (aW X (bN Nx ts ix) scope b) cnd<|tc b) (he:∀b,PE (aW X (bN Nx ts ix) scope b) elt<|te b)
  (FY:X.N=Nx) (ok:BlkOk Nx X.env.scope scope ix) (cl1:∀x c,cl.lookup x=some c->X.env.cells.lookup x=some c) (cl2:∀y∈scope.names,y.2=.free->∃c,cl.lookup y.1=some c)
  (h2:lW X pins σ target (λJ H1=>∀b:Blk,∃W:Nat->Nat->St->Fl V->Hp->Prop,(∃m,W 0 m (db ts.length ix σ) [] H1)/\∀i m τ ys H2,W i m τ ys H2 ->
   (J.stop i H2/\∀p v H',H2 p=none->v=V.ref p->H'=upd H2 p (.lst ys)->Q v H') \/
   (J.go i H2/\ys.length<sizeLine/\∀x H3,J.yld i H2 x H3->g b x τ H3 λτ2 H4=>tc b τ2 H4 λok H4'=>if ok=true then te b τ2 H4' λy H5=>∃m',m'<m/\W (i+1) m' τ2 (ys++[y]) H5 else ∃m',m'<m/\W (i+1) m' τ2 ys H4')) itv s2)
  (hR:∀(D C:Fq)(H':Hp)(s':Fp)(v:V),Inv X pins σ H' s'->v=.ref D->Q v H'->(∃m,s'.heap.Ns C m)->H' C=none->C≠X.env.locals->X.s₀.heap.objs.size<=C->(∀x c,X.env.cells.lookup x=some c->c≠C)->(∀p∈X.pn++pins,p.1≠C) ->
   R (.ref D) C (.ok .next) s') :
  wpAny (model X.prog X.w) X.A (newList []) (λacc s₃=>wpAny (model X.prog X.w) X.A (newFunctionEnv scope X.env.globals cl [] X.env.qual none .none<|some X.env) (λcenv s₄ =>
   codeAny (model X.prog X.w) X.A (.compStart (.ListComp elt [⟨target,iter,[cnd],0⟩] scope pos) 0 itv acc {cenv with scope:=relabel scope X.env}) (R acc cenv.locals) s₄) E s₃) E s2:=by
 obtain⟨it,fp,tn,J,H1,e,I2,T,st2,f2,q2⟩:=h2;subst e;refine Ee<|oa ?_;dsimp only;generalize hG:s2.heap.push {cls:=.type "list",dict:=none,data:=.seq ([]:D3).toArray}=G;have hGs:G.objs.size=s2.heap.objs.size+1:=by rw[<- hG,Bj]
 have FS:∀b∈fp,b<s2.heap.objs.size:=λb hb=>let ⟨o,e,_⟩:=T.obj _ _ st2 b hb;AI e
 have kpG:∀b o,G.get? b=some o->(pushCells (G.push {cls:=.type "dict",data:=.dict #[]}) scope.names).get? b=some o:=λb o e=>Ez _ _ _ _<|v9 _ e;have FN:(pushCells (G.push {cls:=.type "dict",data:=.dict #[]}) scope.names).Ns G.objs.size (λ_=>none):=(Heap.Ns.new G<|.type "dict").keeps<|Ez _ _;obtain⟨sp1,sp2,sp4,sp3⟩:=vG scope.names (G.push {cls:=.type "dict",data:=.dict #[]}) cl;rw[Bj]at sp1 sp2 sp3 sp4;generalize hh3:pushCells (G.push {cls:=.type "dict",data:=.dict #[]}) scope.names=h3 at kpG FN sp1 ⊢;have kp:∀b o,s2.heap.get? b=some o->h3.get? b=some o:=λb o e=>kpG b o<|by rw[<- hG];exact v9 _ e
 have hD3:h3.get? s2.heap.objs.size=some {cls:=.type "list",data:=.seq ([]:D3).toArray}:=kpG _ _<|by rw[<- hG];exact AC _ rfl
 have clB:∀x c,cl.lookup x=some c->c<G.objs.size+1:=λx c e=>by obtain⟨v,q⟩:=I2.cell x c<|cl1 x c e;exact B2<|AD q.lt<|by rw[hGs];exact Db _
 have csI:=sp3 clB λx y c e1 e2=>I2.ok.inj x y c (cl1 x c e1)<|cl1 y c e2;have cs1:∀x c,(cellsFrom (G.objs.size+1) scope.names cl).lookup x=some c->X.env.cells.lookup x=some c\/(G.objs.size<c/\h3.IsCell c none/\(x,NameKind.cell)∈scope.names):=λx c e=>by
  rcases sp1 x c e with z|⟨z1,z2,z3⟩
  ·exact .inl<|cl1 x c z
  ·exact .inr ⟨by omega,z2,z3⟩
 have cs2:∀y∈scope.names,(y.2=.free\/y.2=.cell)->∃c,(cellsFrom (G.objs.size+1) scope.names cl).lookup y.1=some c:=λy hy hk=>by
  refine sp2 y.1 ?_;rcases hk with z|z
  ·exact .inr<|cl2 y hy z
  ·exact .inl<|by rw[<- z];exact hy
 have csA:∀x c,(x,NameKind.cell)∈scope.names->(cellsFrom (G.objs.size+1) scope.names cl).lookup x=some c->G.objs.size<=c:=λx c e1 e2=>Ch<|sp4 x c e1 e2;generalize hcs:cellsFrom (G.objs.size+1) scope.names cl=cs at csI cs1 cs2 csA ⊢;generalize hCe:G.objs.size=C at FN cs1 csA ⊢;have hC:s2.heap.objs.size<=C:=by omega
 have hDC:s2.heap.objs.size≠C:=by omega
 let B:Blk:=⟨cs,C,s2,H1,fp,X.pn++pins⟩
 have I3:Inv (aW X (bN Nx ts ix) scope B) [] (db ts.length ix σ) H1 {s2 with heap:=h3}:=qx I2 FY ok cs1 csI cs2 csA f2 FS hC kp FN;have fC:H1 s2.heap.objs.size=none:=I2.hok.fresh<|Aw _;have cellIn:∀x c,cs.lookup x=some c->c≠s2.heap.objs.size:=λx c e=>by
  rcases cs1 x c e with z|⟨z,_,_⟩
  ·obtain⟨v,q⟩:=I2.cell x c z;exact AO q.lt
  ·exact A5<|By hC z
 have pinIn:∀p∈X.pn++pins,p.1<s2.heap.objs.size:=λp hp=>AI (I2.pin p hp).1;have nofrs:s2.heap.objs.size∉frs X.stack:=λhb=>by
  rcases AM.mp (I2.stkSub _ hb)with z|z
  ·exact absurd I2.lt<|by rw[<- z];exact AX _
  ·exact I2.nofs (Aw _) z
 -- a state with the list at Fz place,pinned
 have pinD:∀{τ:St}{H':Hp}{s':Fp}{ob:Obj},Inv (aW X (bN Nx ts ix) scope B) [] τ H' s'->s'.heap.get? s2.heap.objs.size=some ob->H' s2.heap.objs.size=none->(∀v,ob.data≠.cell v)->Inv (aW X (bN Nx ts ix) scope B) [(s2.heap.objs.size,ob)] τ H' s' :=
  λ{τ H' s' ob} I' ho hn hd=>I'.pins_of λp hp=>by
   have e:p=(s2.heap.objs.size,ob):=by simpa using hp
   subst e;exact⟨ho,hn,hDC,nofrs,hd⟩
 obtain⟨W,⟨m0,w0⟩,turn⟩:=q2 B;have stat:∀{H':Hp}{ob:Obj},(∀b∈fp,H' b=none)->∀b∈fp,fL (aW X (bN Nx ts ix) scope B) [(s2.heap.objs.size,ob)] H' b:=λ{H' ob} hn b hb=>by
  refine⟨hn b hb,AO<|AD (FS b hb) hC,λz=>?_,.inl hb,λx c e=>by
   rcases cs1 x c e with z|⟨z,_,_⟩
   ·exact(f2 b hb).2.2.2.2.1 x c z
   ·exact A5 (AD (FS b hb)<|AJ hC<|B5 z),λp hp=>?_⟩
  ·rcases AM.mp (I2.stkSub _ z)with q|q
   ·exact(f2 b hb).2.1 q
   ·exact(f2 b hb).2.2.1 q
  ·rcases Bh.mp hp with z|z
   ·exact(f2 b hb).2.2.2.2.2 p z
   ·have e:p=(s2.heap.objs.size,ob):=by simpa using z
    subst e;exact A5<|FS b hb
 have loop:∀s4:Fp,s4={s2 with heap:=h3} ->
   codeAny (model X.prog X.w) X.A (.compLoop (.ListComp elt [⟨target,iter,[cnd],0⟩] scope pos) 0 (.ref it) (.ref s2.heap.objs.size)<|compEnvC scope cs C X.env) (R (.ref s2.heap.objs.size) C) s4:=by
  rintro s4 rfl;refine ZmG (λk s'=>∃i τ ys Fz n H',Inv (aW X (bN Nx ts ix) scope B) [(s2.heap.objs.size,({cls:=.type "list",data:=.seq (List.toArray Fz) n}:Obj))] τ H' s'/\tn i s'.heap/\(∀b∈fp,H' b=none)/\Vals ys Fz/\ys.length<=sizeLine/\W i k τ ys H') ?_ m0
   ⟨0,_,[],[],_,H1,pinD I3 hD3 fC (λv z=>by cases z),T.keep _ _ _ st2 λb hb o e=>kp b o e,λb hb=>(f2 b hb).1,.nil,Bf _,w0⟩
  rintro k s5 ⟨i,τ,ys,Fz,n,H5,I5,st5,fr5,rv,hz,w5⟩;rcases turn i k τ ys H5 w5 with ⟨stop,qn⟩|⟨go,FC,step⟩
  ·refine thn (T.done (aW X (bN Nx ts ix) scope B) rfl rfl rfl hc i _ s5 τ H5 _ I5 (stat fr5) st5 stop) λgot s6 Fy=>?_;obtain⟨hr,I6⟩:=Fy;subst hr;obtain⟨ho,hn,_,_,_⟩:=I6.pin (s2.heap.objs.size,({cls:=.type "list",data:=.seq (List.toArray Fz) n}:Obj)) (AA _<|by simp)
   have I7:Inv X pins σ H5 s6:=I2.call' (ch:=fp) (H':=H5) (by exact I6.os) I6.base I6.hok I6.bare λb hb=>⟨(f2 b hb).2.2.2.1,(f2 b hb).2.1,(f2 b hb).2.2.2.2.1,(f2 b hb).2.2.2.2.2⟩
   have hs0:X.s₀.heap.objs.size<=s2.heap.objs.size:=I2.sz;have I8:=I7.track hn ho rv hz (A5 I2.lt) hs0 (λx c e z=>by obtain⟨v,q⟩:=I2.cell x c e;exact absurd q.lt<|by rw[z];exact AX _)<|λp hp=>AO<|pinIn p hp
   obtain⟨m6,hm6,_⟩:=I6.loc;refine hR _ C _ s6 _ I8 rfl (qn _ _ _ hn rfl rfl) ⟨m6,hm6⟩ ?_ (λz=>?_) (AJ hs0 hC) (λx c e z=>?_) λp hp=>AO<|AD (pinIn p hp) hC
   ·rw[aM<|Ne.symm hDC];exact I6.free
   ·exact absurd (AD I2.lt hC)<|by rw[z];exact AX _
   ·obtain⟨v,q⟩:=I2.cell x c e;exact absurd (AD q.lt hC)<|by rw[z];exact AX _
  ·refine thn (T.item (aW X (bN Nx ts ix) scope B) rfl rfl rfl hc i _ s5 τ H5 _ I5 (stat fr5) st5 go) λgot s6 Fy=>?_;obtain⟨u,hr,h6⟩:=Fy;subst hr;refine thn h6 λ_ s7 Fy=>?_;obtain⟨x,H7,I7,r7,y7,st7,fr7⟩:=Fy;have I7':=I7.pinned (stat fr7)<|T.obj _ _ st7;refine thn (hg B _ s7 τ H7 x u _ I7' r7<|step x H7 y7) λ_ s8 Fy=>?_;obtain⟨τ8,H8,I8,q8⟩:=Fy;refine thn (hcn B _ s8 τ8 H8 _ I8 q8) λokk s8' Fy=>?_;obtain⟨H8',I8',q8'⟩:=Fy;cases okk with
   | false =>
    obtain⟨m',hm',w9⟩:=q8';obtain⟨ho,hn,_,_,_⟩:=I8'.pin (s2.heap.objs.size,({cls:=.type "list",data:=.seq (List.toArray Fz) n}:Obj))<|AA _<|Be _<|by simp
    have I9':Inv (aW X (bN Nx ts ix) scope B) [] τ8 H8' s8':=I8'.pins_of λp hp=>absurd hp<|by simp
    refine⟨m',hm',i+1,τ8,ys,Fz,n,H8',pinD I9' ho hn (λv z=>by cases z),?_,λb hb=>?_,rv,hz,w9⟩
    ·refine T.keep _ _ _ st7 λb hb o e=>?_;exact(I8'.pin (b,o)<|AA _<|AA _<|fy hb e).1
    ·obtain⟨o,e,d⟩:=T.obj _ _ st7 b hb;exact(I8'.pin (b,o)<|AA _<|AA _<|fy hb e).2.1
   |true =>
   refine thn (he B _ s8' τ8 H8' _ I8' q8') λy s9 Fy=>?_;obtain⟨vy,H9,I9,r9,m',hm',w9⟩:=Fy;obtain⟨ho,hn,_,_,_⟩:=I9.pin (s2.heap.objs.size,({cls:=.type "list",data:=.seq (List.toArray Fz) n}:Obj))<|AA _<|Be _<|by simp
   have lenv:=rv.length;refine EX (l:=s2.heap.objs.size) ⟨n,ho⟩ (λh' FO FU=>?_)<|by rw[AG];omega
   obtain⟨n',FT⟩:=FO;have eobj:(Fz.toArray.push y)=List.toArray (Fz++[y]):=by simp
   rw[eobj]at FT;have I9':Inv (aW X (bN Nx ts ix) scope B) [] τ8 H9 s9:=I9.pins_of λp hp=>absurd hp<|by simp
   have I10:Inv (aW X (bN Nx ts ix) scope B) [] τ8 H9 {s9 with heap:=h'}:=I9'.turned (it:=s2.heap.objs.size) (t':=s9.toks) (λb o hb e=>(FU.2 b hb).trans e) hn hDC (.inr<|Aw _) cellIn (λp hp=>by have hp':p∈(X.pn++pins)++[]:=hp;rw[A3]at hp';exact AO<|pinIn p hp')
   refine⟨m',hm',i+1,τ8,ys++[vy],Fz++[y],n',H9,pinD I10 FT hn (λv z=>by cases z),?_,λb hb=>?_,rv.append<|.cons r9 .nil,by rw[AQ];show ys.length+1<=_;omega,w9⟩
   ·refine T.keep _ _ _ st7 λb hb o e=>?_;have q:=(I9.pin (b,o)<|AA _<|AA _<|fy hb e).1;exact(FU.2 b<|AO<|FS b hb).trans q
   ·obtain⟨o,e,d⟩:=T.obj _ _ st7 b hb;exact(I9.pin (b,o)<|AA _<|AA _<|fy hb e).2.1
 exact E4 (loop _ rfl)<|T.self X.A 0 _ _ _ (T.keep _ _ _ st2 λb hb o e=>kp b o e)<|loop _ rfl
def ZcM{elt target iter cnd:Fw}{scope:Scope}{pos:Pos}{wi:TI}{g:Blk->TG}{tc:Blk->TT}{te:Blk->TE}(Nx:D4)(ts:D4)(ix:Fl Nat)
  (hc:X.calm=true) (hi:PI X target iter wi) (hg:∀b,PG (aW X (bN Nx ts ix) scope b) target<|g b) (hcn:∀b,PT (aW X (bN Nx ts ix) scope b) cnd<|tc b) (he:∀b,PE (aW X (bN Nx ts ix) scope b) elt<|te b)
  (FY:X.N=Nx) (ok:BlkOk Nx X.env.scope scope ix) (hs:∀x,foldedSetIterable iter X.env x=pure x:=by intro _;rfl) :
  PE X (.ListComp elt [⟨target,iter,[cnd],0⟩] scope pos) (l7 wi ts.length ix g tc te):=by intro pins s σ H Q I h;obtain⟨cl,hcl,cl1,cl2⟩:=jZ (scope:=scope) (env:=X.env) λy hy hf=>I.ok.has y.1<|ok.frees y hy hf;rw[eval_ListComp];refine Es (use:=none) rfl hs hcl ok.kind ok.locs (thn (hi pins s σ H _ I h) λv s1 h1=>thn h1 λitv s2 h2=>?_);refine Zdu (R:=λacc C=>compPost (model X.prog X.w) X.A X.xe none (EP X pins σ Q) acc C) hc hg hcn he FY ok cl1 cl2 h2 ?_;rintro D C H' s' v I' rfl q ⟨m,hm⟩ hn hL h0 FM hp;exact⟨m,hm,λh' FU=>⟨.ref D,H',I'.turned (it:=C) (t':=s'.toks) (λb o hb e=>(FU.2 b hb).trans e) hn hL (.inr h0) FM hp,rfl,q⟩⟩
def ZcA{elt target iter cnd:Fw}{scope:Scope}{pos pos' spos:Pos}{wi:TI}{g:Blk->TG}{tc:Blk->TT}{te:Blk->TE}{i:Nat}{x:Str}(Nx:D4)(ts:D4)(ix:Fl Nat)
  (hc:X.calm=true) (hN:X.N.Nodup) (hix:X.N[i]?=some x) (hx:X.env.scope.names.lookup x=some .local) (hi:PI X target iter wi) (hg:∀b,PG (aW X (bN Nx ts ix) scope b) target<|g b) (hcn:∀b,PT (aW X (bN Nx ts ix) scope b) cnd<|tc b) (he:∀b,PE (aW X (bN Nx ts ix) scope b) elt<|te b)
  (FY:X.N=Nx) (ok:BlkOk Nx X.env.scope scope ix) (hsw:swapsWith (.ListComp elt [⟨target,iter,[cnd],0⟩] scope pos) (some<|.Name x pos') spos.line X.env=pure true) (hs:∀x,foldedSetIterable iter X.env x=pure x:=by intro _;rfl) :
  PS X (.Assign [.Name x pos'] (.ListComp elt [⟨target,iter,[cnd],0⟩] scope pos) spos) (dC (l7 wi ts.length ix g tc te)<|dH i):=by
 intro pins s σ H D0 I h;obtain⟨cl,hcl,cl1,cl2⟩:=jZ (scope:=scope) (env:=X.env) λy hy hf=>I.ok.has y.1<|ok.frees y hy hf;rw[E7 _ _ _ _ hsw];refine wp<|Ep<|wp ?_;show wpAny _ X.A (do let _ <- comprehension (.ListComp elt [⟨target,iter,[cnd],0⟩] scope pos) scope X.env _ (newList []) false (eval iter X.env) (some<|assign (.Name x pos') X.env)) _ _ s
 refine wp (thn (Es (use:=some<|assign (.Name x pos') X.env) (Q:=λ_ s'=>SP X pins D0 .next s') rfl hs hcl ok.kind ok.locs (thn (hi pins s σ H _ I h) λv s1 h1=>thn h1 λitv s2 h2=>?_)) λ_ s' hq=>D9<|D9 hq);refine Zdu (R:=λacc C=>compPost (model X.prog X.w) X.A X.xe (some<|assign (.Name x pos') X.env) (λ_ s'=>SP X pins D0 .next s') acc C) (Q:=λx H1=>dH i x σ H1 D0.nx) hc hg hcn he FY ok cl1 cl2 h2 ?_;rintro D C H' s' v I' rfl q ⟨m,hm⟩ hn hL h0 FM hp;show wpAny _ X.A (assign (.Name x pos') X.env<|.ref D) _ _ _;refine EU<|oz I' hN hix (.inl hx) (show RelV (.ref D) (.ref D)from rfl) (λs'' I'' hch=>?_)<|.inr hx
 obtain⟨a,FU,ha⟩:=hch;have haC:C≠a:=by
  rcases ha with z|z
  ·rw[z];exact hL
  ·exact λe=>FM _ _ z e.symm
 exact⟨m,hm.sameBut FU haC,λh'' hs''=>⟨_,H',I''.turned (it:=C) (t':=s''.toks) (λb o hb e=>(hs''.2 b hb).trans e) hn hL (.inr h0) FM hp,q⟩⟩
end
section
variable{PK:Pk}{X:Cx}{e:Fw}{st:Fx}{i:DR}{is:DS}{p:DT}
noncomputable def mL(y:Fm Fn)(ys:D1):Tr D1:=.ret (match y with
 |some y=>y::ys
 |none=>ys)
def eM(h:Fn->Tr (Fm Fn)):Fl Fn->Tr D1
 | []=>.ret []
 |x::xs=>(h x).bind λy=>(eM h xs).bind<|mL y
noncomputable def lr(p:DT)(i:DR)(τ:D7):Tr (Fm Fn):=(p τ).bind λok=>if ok=true then (i τ).bind λy=>.ret (some y)else .ret none
def jv(is:DS)(n:Nat)(ix:Fl Nat)(g:DX)(p:DT)(el:DR):DS:=λρ =>
 (is ρ).bind λxs=>if small xs.length=true then eM (λx=>(Tr.of<|g x<|blk n ix ρ).bind<|lr p el) xs else .fail
def Zdt{n:Nat}{ix:Fl Nat}{g:DX}(hn:fg n g):∀σ H Q,eG PK (jv is n ix g p i) σ H Q->l7 (cX PK is) n ix (λ_=>dB PK g) (λ_=>TAt PK p) (λ_=>TAe PK i) σ H Q:=by
 rintro σ H Q ⟨pa,D8,H₀,m,ρ,G,R,z⟩;refine⟨pa,D8,H₀,m,ρ,G,R,Tr.ok_mono (Tr.ok_bind.mp z) λm1 xs k J G1 H1 s1 w1 jo=>λB=>?_⟩;obtain⟨hs,k⟩:=gf k;have hs:xs.length<=sizeLine:=Ec hs
 let el:Fn->Tr (Fm Fn):=λx=>(Tr.of<|g x<|blk n ix ρ).bind<|lr p i
 let W:Nat->Nat->St->Fl V->Hp->Prop:=λk mm τ ys H2=>mm=xs.length-k/\k<=xs.length/\ys.length<=k/\∃m G2 ds,Sub G1 G2/\Stp pa G H G2 H2/\Rl PK pa D8 H₀ m τ (blk n ix ρ) G2 H2 /\
  DnAll G2 ys ds/\(eM el<|xs.drop k).ok m λm' zs=>Ko1 PK pa m' G H (ds++zs) Q
 refine⟨W,⟨xs.length,rfl,Bf _,Aw _,m1,G1,[],.refl,s1,(R.step s1 w1).blk n ix,.nil,k⟩,?_⟩;rintro k mm τ ys H2 ⟨rfl,hk,hy,m2,G2,ds,sb,st2,R2,dn,k2⟩;obtain⟨j1,j2⟩:=jo m2 G2 H2 sb R2.wd;by_cases FC:k<xs.length
 ·have hx:xs[k]?=some xs[k]:=by simp[FC]
  obtain⟨jg,jy⟩:=j1 k _ hx;refine .inr ⟨jg,by omega,λx H3 y=>?_⟩
  obtain⟨G3,s3,w3,d3⟩:=jy x H3 y;rw[AY FC]at k2;unfold eM at k2;rw[Tr.ok_bind,Tr.ok_bind]at k2;obtain⟨ρ3,hg3,k3⟩:=Tr.ok_of k2;refine⟨pa,D8,H₀,m2,_,G3,_,ρ3,R2.step s3 w3,d3,hg3,λτ4 R4=>?_⟩;obtain⟨pl,pk⟩:=hn _ _ _ hg3;have hback:∀(q:Nat)(sl:Sl),(blk n ix ρ)[q]?=some sl->sl=.un\/ρ3[q]?=some sl:=λq sl hq=>by
   by_cases hqn:q<n
   ·left
    unfold blk at hq;rw[AV<|by simpa using hqn,Ba,Ed hqn]at hq
    cases hq
    rfl
   ·right
    rw[pk q<|Ca hqn];exact hq
  unfold lr at k3;rw[Tr.ok_bind]at k3;refine⟨pa,D8,H₀,m2,ρ3,G3,R4,Tr.ok_mono k3 λm4 ok k4 G4 H4 s4 w4=>?_⟩;have R4':=R4.step s4 w4;have s34:=s3.trans s4 w3.some;cases ok with
  | false =>
   have k4':((eM el<|xs.drop<|k+1).bind<|mL none).ok m4 λm' zs=>Ko1 PK pa m' G H (ds++zs) Q:=k4;refine⟨xs.length-(k+1),by omega,rfl,FC,by omega,m4,G4,ds,sb.trans s34.gs,st2.trans s34 R2.wd.some,R4'.weak pl hback,DnAll.mono s34.gs dn,?_⟩
   exact Tr.ok_mono (Tr.ok_bind.mp k4') λm6 zs k6=>k6
  | true =>
   have k4':((i ρ3).bind λy=>.ret<|some y).ok m4 λm' y=>((eM el<|xs.drop<|k+1).bind<|mL y).ok m' λm' zs=>Ko1 PK pa m' G H (ds++zs) Q:=k4;rw[Tr.ok_bind]at k4';refine⟨pa,D8,H₀,m4,ρ3,G4,R4',Tr.ok_mono k4' λm5 yd k5=>?_⟩;intro v G5 H5 s5 w5 d5;have s35:=s34.trans s5 w4.some;refine⟨xs.length-(k+1),by omega,rfl,FC,by rw[AQ];show ys.length+1<=_;omega,m5,G5,ds++[yd],sb.trans s35.gs,st2.trans s35 R2.wd.some,(R4'.step s5 w5).weak pl hback,(DnAll.mono s35.gs dn).snoc d5,?_⟩
   have k5':((eM el<|xs.drop<|k+1).bind<|mL<|some yd).ok m5 λm' zs=>Ko1 PK pa m' G H (ds++zs) Q:=k5;refine Tr.ok_mono (Tr.ok_bind.mp k5') λm6 zs k6=>?_;rw[Bg];exact k6
 ·have e:k=xs.length:=by omega
  subst e;refine .inl ⟨j2,λp v H' hp ev eH=>?_⟩;subst ev eH;rw[Br]at k2;have k2':Ko1 PK pa m2 G H (ds++[]) Q:=k2;rw[A3]at k2';exact(Ko1.later k2' st2 R2.wd.some).new R2.wd dn hp
def ZfM{n:Nat}{ix:Fl Nat}{g:DX}(h:PE X e (l7 (cX PK is) n ix (λ_=>dB PK g) (λ_=>TAt PK p)<|λ_=>TAe PK i))(hn:fg n g):PE X e (eG PK<|jv is n ix g p i):=h.imp<|Zdt hn
end
section
variable{X:Cx}
theorem ZeJ{prog:Fs}{w:Ft}{A:Fu}{E:DZ}{it t:Fq}{items:Array Fo}(FD:t≠it):∀(n i:Nat)(s:Fp)(Q:Fl Fo->Fp->Prop),s.heap.IsListIter it t i->s.heap.IsList t items->i+n<=items.size ->
  (∀h',h'.IsListIter it t (i+n)->Heap.SameBut it s.heap h'->Q ((items.toList.drop i).take n) {s with heap:=h'})->wpAny (model prog w) A (draw (.ref it) n) Q E s
 |0,i,s,Q,hit,_,_,hQ=>by show wpAny _ _ (pure []) Q E s;exact D9 (by simpa using hQ s.heap hit (Heap.SameBut.refl ..))
 | n+1,i,s,Q,hit,ht,hle,hQ=>by
  have FC:i<items.size:=by omega
  show wpAny _ _ (pyNext (.ref it) >>= _) Q E s;refine wp<|E1 hit ht (x:=items[i]) (by simp[FC]) λh₁ hit₁ hs₁=>?_
  refine wp<|Ej<|ZeJ FD n (i+1) _ _ hit₁ (ht.extBut hs₁.extBut FD) (by omega) λh₂ hit₂ hs₂=>D9 ?_
  have hd:items.toList.drop i=items[i]::items.toList.drop (i+1):=by simp[AY,FC]
  have:=hQ h₂ (by rw[show i+(n+1)=i+1+n by omega];exact hit₂)<|hs₁.trans hs₂
  rw[hd,CO]at this;exact this
def Zgp{prog:Fs}{w:Ft}{A:Fu}{E:DZ}{s:Fp}{t:Fq}{items:Array Fo}{Q:Fl Fo->Fp->Prop}(hh:A.handled=none)(ht:s.heap.IsList t items)
  (hQ:∀h',Heap.ExtBut s.heap.objs.size s.heap h'->Q items.toList {s with heap:=h'}):wpAny (model prog w) A (unpackItems (.ref t) items.size none) Q E s:=by
 have FC:t≠s.heap.objs.size:=by obtain⟨o,ho,_⟩:=ht;exact AO<|AI ho
 have push:∀ob,(s.heap.push ob).IsList t items:=λob=>ht.at λo e=>v9 _ e;unfold unpackItems;refine wp ?_
 ·unfold notIterableAtAll;refine wp<|EG ht.typeIs PySem.F.slot_list_iter.lookup ?_;refine D9 ?_;simp only[Bk,EJ];refine wp<|Ej<|EI ht ?_;refine wp (Ej<|ZeJ FC items.size 0 _ _ ⟨_,AC _ rfl,rfl,rfl⟩ (push _) (by omega) λh₁ hit₁ hs₁=>?_)
  have hall:List.take items.size (List.drop 0 items.toList)=items.toList:=by rw[BP];exact Cc<|by simp
  rw[hall];rw[Ef<|by simp]
  have ht₁:h₁.IsList t items:=(push _).extBut hs₁.extBut FC;refine wp<|Ej<|E5 hh hit₁ ht₁ (by simp) λh₂ he₂=>?_
  simp only[Option.isSome_none,Bk,EJ];refine D9<|hQ h₂ λb o hb e=>he₂ b o hb<|hs₁.extBut b o hb<|v9 _ e
def Znt{prog:Fs}{w:Ft}{A:Fu}{E:DZ}{s:Fp}{env:Env}{elts:Fl Fw}{x1}{pos:Pos}{t:Fq}{items:Array Fo}{Q:Unit->Fp->Prop}(hh:A.handled=none)(ht:s.heap.IsList t items)
  (hn:(assignEach elts env).length=items.size) (hstar:(assignEach elts env).findIdx? (·.1)=none)
  (h:∀h',Heap.ExtBut s.heap.objs.size s.heap h'->wpAny (model prog w) A (assignInOrder ((assignEach elts env).map (·.2)) items.toList) Q E {s with heap:=h'}) :
  wpAny (model prog w) A (assign (.Tuple elts x1 pos) env<|.ref t) Q E s:=by rw[arm_assign_Tuple];refine wp<|Ep ?_;unfold unpack;rw[hn,hstar];exact wp<|Ej<|Zgp hh ht h
def ZkW(n:Nat)(t:gG):TG:=λv σ H Q=>∃a xs,v=.ref a/\H a=some (.lst xs)/\xs.length=n/\t xs σ H Q
def ZiK{es:Fl Fw}{k:Nat}{t:gG}{n:Nat}{pos:Pos}(hc:X.calm=true)(h:PGs X es t)
  (hn:(assignEach es X.env).length=n:=by rfl) (FR:(assignEach es X.env).findIdx? (·.1)=none:=by rfl):PG X (.Tuple es k pos) (ZkW n t):=by
 intro pins s σ H v u Q I r hw;obtain⟨a,xs,e1,hq,hl,hw⟩:=hw;subst e1;cases r;obtain⟨Fz,rv,ht⟩:=dU I.hok (b:=true) hq;have ht':s.heap.IsList a Fz.toArray:=ht;refine Znt (I.ok.hd hc) ht' (by simp[hn,<- hl,rv.length]) FR λh' hx=>?_
 have I1:Inv X pins σ H {s with heap:=h'}:=I.kept (t':=s.toks) λb o e=>hx b o (AO<|AI e) e;exact h pins _ σ H xs _ Q I1 (by simpa using rv) hw
noncomputable def lu(gs:DW)(x:Fn)(ρ:D7):Fm D7:=match x with
 |.list xs=>gs xs ρ
 |_=>none
def ZfU{PK:Pk}{es:Fl Fw}{pos:Pos}{k:Nat}{gs:DW}{n:Nat}(hc:X.calm=true)(h:PGs X es (nU PK gs))(hl:ni n gs)
  (hn:(assignEach es X.env).length=n:=by rfl) (FR:(assignEach es X.env).findIdx? (·.1)=none:=by rfl):PG X (.Tuple es k pos) (dB PK<|lu gs):=(ZiK hc h hn FR).imp λv σ H Q Fy=>by
 obtain⟨pa,D8,H₀,m,ρ,G,x,ρ',R,d,e,q⟩:=Fy;cases d with
 |lst h1 h2=>exact⟨_,_,rfl,R.wd.sub _ _ h1,by rw[h2.length];exact hl _ _ _ e,pa,D8,H₀,m,ρ,G,_,ρ',R,h2,e,q⟩
 |_=>cases e
def ZfF{PK:Pk}{st:Fx}{is:DS}{p:DT}{i:DR}{n k:Nat}{ix:Fl Nat}{g:DX}(h:PS X st (dC (l7 (cX PK is) n ix (λ_=>dB PK g) (λ_=>TAt PK p)<|λ_=>TAe PK i)<|dH k))(hn:fg n g):PS X st (bH PK<|bb k<|bE<|jv is n ix g p i) :=
 bf (h.imp<|ox λσ H Q z=>Zdt hn σ H Q<|ZcX σ H Q z)
section
variable{ρ:D7}{is:DS}{n:Nat}{i:DR}{p:DT}{xs:D1}{x:Fn}
def jf(g:DX)(p:DT)(el:DR)(τ:D7)(x:Fn):Tr (Fm Fn):=(Tr.of<|g x τ).bind<|lr p el
def yr(n:Nat)(ix:Fl Nat)(g:DX)(p:DT)(el:DR)(ρ:D7)(xs:D1):Tr D1:=if small xs.length=true then eM (jf g p el<|blk n ix ρ) xs else .fail
def tH{ix:Fl Nat}{g:DX}:jv is n ix g p i ρ=(is ρ).bind (yr n ix g p i ρ):=rfl
def tK{ix:Fl Nat}{g:DX}(h:small xs.length=true):yr n ix g p i ρ xs=eM (jf g p i<|blk n ix ρ) xs:=by unfold yr;rw[Ed h]
def tJ{τ:D7}{g:DX}:jf g p i τ x=(Tr.of<|g x τ).bind (lr p i):=rfl
noncomputable def yJ(y:Fn):Tr (Fm Fn):=.ret<|some y
def yK(i:DR)(τ:D7)(b:Bool):Tr (Fm Fn):=if b=true then (i τ).bind yJ else .ret none
def t7{τ:D7}:lr p i τ=(p τ).bind (yK i τ):=rfl
def uc{τ:D7}:yK i τ true=(i τ).bind yJ:=rfl
def ud{τ:D7}:yK i τ false=.ret none:=rfl
def t9:yJ x=.ret (some x):=rfl
theorem mK{h:Fn->Tr (Fm Fn)}{f:Fn->Fm Fn}:∀{xs:D1},(∀x∈xs,h x=.ret (f x))->eM h xs=.ret (xs.filterMap f)
 | [],_=>rfl
 | x::xs,hx=>by
  rw[eM,hx x<|by simp,Tr.ret_bind,mK λy hy=>hx y<|Az _ hy,Tr.ret_bind,B8]
  unfold mL;cases f x <;> rfl
end
end
section
variable{PK:Pk}{X:Cx}{e:Fw}{as:Fl Sl->Tr D7}
end
section
variable{ρ:D7}{as:Fl Sl->Tr D7}{f:Fl Fn->Fm Fn}{x:Fn}{xs:D1}{i j:DR}{k:Nat}{p:DT}{s:DU}
def me(k:Nat)(ρ:D7)(x:Fn)(xs:D1):Fn->Tr Ou
 |.int y=>(Tr.of<|cy xs.length y).bind λt=>.ret (.next<|ρ.set k<|.own<|xs.set t x)
 |_=>.fail
def wU(k:Nat)(n:DR)(ρ:D7)(x:Fn)(xs:D1):Tr Ou:=(n ρ).bind<|me k ρ x xs
def wV(k:Nat)(n:DR)(ρ:D7)(x:Fn):Tr Ou:=(ic k ρ).bind<|wU k n ρ x
def rK:vU k j i ρ=(i ρ).bind (wV k j ρ):=by
 unfold vU;refine Eg (Tr.bind<|i ρ) (funext λx=>?_);rw[wV,<- pH k ρ];cases ρ[k]? with
 |none=>rfl
 | some sl =>
  cases sl with
  | own xs =>
   show((j ρ).bind _:Tr Ou)=(j ρ).bind (me k ρ x xs);refine Eg (Tr.bind<|j ρ) (funext λy=>?_);cases y <;> rfl
  |_=>rfl
def rJ{n:DR}:wV k n ρ x=(ic k ρ).bind (wU k n ρ x):=rfl
def rH{n:DR}:wU k n ρ x xs=(n ρ).bind (me k ρ x xs):=rfl
def Zk7{y:Int}{t:Nat}(h:cy xs.length y=some t):me k ρ x xs (.int y)=.ret (.next<|ρ.set k<|.own<|xs.set t x):=by
 simp only[me,h]
 rfl
end
end L2
namespace L2
open AutoSeq1 (wpAny_loadPart')
noncomputable def lZ(hi:Int)(n:Nat):It:=⟨λi _=>i<n,λi H x H'=>H'=H/\x=.int (hi-i),λi _=>n<=i⟩
def Zgv{P:Fs}{w:Ft}{K:DQ}{tg:Fw}(it:Fq)(hi:Int)(n:Nat):Turn P w K tg (lZ hi n) [it] it (λi h=>IsRangeIter h it (hi+(i:Nat)*(-1)) ((n:Int)-(i:Nat))<|-1) where
 mem:=by simp
 obj:=λi h st b hb=>by
  have e:b=it:=by simpa using hb
  subst e;exact⟨_,st,λv z=>by have z':Data.fields _=Data.cell v:=z;cases z'⟩
 keep:=λi h h' st k=>k it (by simp) _ st
 item:=by
  intro X hP hw hK hc i pins s σ H E I hf st hg;subst hP hw hK;obtain⟨f0,f1,f2,f3,f4,f5⟩:=hf it<|by simp
  have W:=Walks.range (prog:=X.prog) (w:=X.w) (I.ok.hd hc) it hi (-1) n;refine W.item i s _ _ hg st λv h' tk hv st' kk=>?_;obtain⟨t,rfl⟩:=hv;have I1:Inv X pins σ H {s with heap:=h',toks:=tk}:=I.turned (λb o hb e=>kk b o (by simpa using hb) e) f0 f1 f3 f4 f5
  refine⟨_,rfl,nj (s:={s with heap:=h',toks:=tk}) (n:="range_iterator") st' rfl rfl (by decide) ⟨.int<|hi-i,H,I1,⟨t,?_⟩,⟨rfl,rfl⟩,st',λb hb=>(hf b hb).1⟩⟩
  have e:hi+(i:Int) * -1=hi-i:=by omega
  rw[e]
 done:=by
  intro X hP hw hK hc i pins s σ H E I hf st hg;subst hP hw hK;obtain⟨f0,f1,f2,f3,f4,f5⟩:=hf it<|by simp
  exact wpAny_pyNext_range_end (I.ok.hd hc) st (by have:n<=i:=hg;omega) λh' eb=>⟨rfl,I.turned (t':=s.toks) (λb o hb e=>eb b o hb e) f0 f1 f3 f4 f5⟩
 self:=λ_ _ _ _ _ st h=>E3 st h
def ZjI(r:Fq)(a b c:Int)(t u v:Tok)(hs:¬ (!(Builtin.Range.rangeFitsLong a&&Builtin.Range.rangeFitsLong b&&Builtin.Range.rangeFitsLong c&&Builtin.Range.rangeFitsLong (-c)&&Builtin.Range.rangeFitsLong (a-c)&&Builtin.Range.rangeFitsLong (Builtin.Range.rangeSize a b c)))=true) :
  Meets (Builtin.«range.__reversed__» ⟨[.ref r],[]⟩) (λ_ R s=>s.heap.get? r=some {cls:=.type "range",dict:=none,data:=.fields #[.int a t,.int b u,.int c v],slots:=#[]} /\
   R (.ok<|.ret<|.ref s.heap.objs.size) {s with heap:=s.heap.push {cls:=.type "range_iterator",data:=.fields #[rawInt<|a+(Builtin.Range.rangeSize a b c-1)*c,rawInt<|Builtin.Range.rangeSize a b c,rawInt<|-c]},toks:=s.toks}) :=
 .of_wp λprog w A R s h=>by
  obtain⟨hp,g,d,tk,os⟩:=s;obtain⟨hl,h⟩:=h;have hs':=hs;rw[C0,Bool.not_eq_false]at hs'
  wp_walk
  rw[Ed hs'];exact⟨_,rfl,h⟩
def lx{n:Int}(h1:-(2^63)<=n)(h2:n<2^63):Builtin.Range.rangeFitsLong n=true:=by unfold Builtin.Range.rangeFitsLong;simp;omega
section
variable{prog:Fs}{w:Ft}{A:Fu}{E:DZ}{s:Fp}
def ZmK{r:Fq}{a b:Int}{t u v:Tok}{Q₁:DZ}(hr:IsRange s.heap r a b 1 t u v)(ha:-(2^62)<=a)(ha':a<2^62)(hb:-(2^62)<=b)(FZ:b<2^62)
  (h:Q₁ (.ref s.heap.objs.size) {s with heap:=s.heap.push {cls:=.type "range_iterator",data:=.fields #[rawInt<|a+(Builtin.Range.rangeSize a b 1-1)*1,rawInt<|Builtin.Range.rangeSize a b 1,rawInt<|-1]} }) :
  codeAny (model prog w) A (.call (.builtin "reversed.__new__") ⟨[.type "reversed",.ref r],[]⟩) (wants Q₁ E) s:=by
 have hT:s.TypeIs (.ref r) "range":=⟨_,hr,rfl⟩;refine codeAny_of_tree ?_;show wpAny _ A.in1 (do checkBuiltinCall "reversed.__new__" ⟨[.type "reversed",.ref r],[]⟩;again (.builtin "reversed.__new__" ⟨[.type "reversed",.ref r],[]⟩)) _ _ s
 refine wp<|Er (F.newCall_reversed_1 _)<|D9 ⟨EA F.plain_reversed_new _,Eu F.entry_reversed_new ?_⟩;rw[Bo F.plain_reversed_new _];unfold Builtin.«reversed.__new__»;refine wp<|Er (newClass_reversed _) ?_
 try dsimp only
 refine wp<|Er (a:=()) (by first|rfl|kernel_rfl) ?_
 refine wp<|Er (a:=()) (by first|rfl|kernel_rfl) ?_
 try dsimp only
 refine wp<|EG hT F.slot_range_reversed.lookup ?_
 try dsimp only
 refine wp<|Er (F.slot_range_reversed.bind _) ?_
 try dsimp only
 first
 |rw[Ef<|show ¬ ((Value.builtin "range.__reversed__" == Value.none)=true)from AN]
 |(show wpAny _ _ (if (Value.builtin "range.__reversed__" == Value.none)=true then _ else _) _ _ _;rw[Ef<|show ¬ ((Value.builtin "range.__reversed__" == Value.none)=true)from AN])
 refine wp<|EH ?_;have hsz:Builtin.Range.rangeSize a b 1=if a<b then b-a else 0:=EY a b
 refine wp (m:=runValue<|.call (.builtin "range.__reversed__") ⟨[.ref r],[]⟩) (show wpAny _ _ (call (.builtin "range.__reversed__") [.ref r]) _ _ _ from
  EN F.slot_range_reversed hT F.entry_range_reversed (F.args_range_reversed_1 _) (ZjI r a b 1 t u v ?_) ⟨hr,?_⟩)
 ·rw[C0,Bool.not_eq_false,lx (by omega)<|by omega,lx (by omega)<|by omega,lx (by decide)<|by decide,lx (by decide)<|by decide,lx (n:=a-1) (by omega)<|by omega,lx (n:=Builtin.Range.rangeSize a b 1) (by rw[hsz];split <;> omega)<|by rw[hsz];split <;> omega]
  rfl
 ·first
  |exact D9 h
  |exact wp (D9<|D9 h)
def Zg4:isSubtype (.type "range_iterator") (.type "reversed")=pure false:=by rw[EK];kernel_rfl
def ZmT{r:Fq}{a b:Int}{t u v:Tok}{Q:DZ}(hr:IsRange s.heap r a b 1 t u v)(ha:-(2^62)<=a)(ha':a<2^62)(hb:-(2^62)<=b)(FZ:b<2^62)
  (h:Q (.ref s.heap.objs.size) {s with heap:=s.heap.push {cls:=.type "range_iterator",data:=.fields #[rawInt<|a+(Builtin.Range.rangeSize a b 1-1)*1,rawInt<|Builtin.Range.rangeSize a b 1,rawInt<|-1]} }):wpAny (model prog w) A (call (.type "reversed") [.ref r]) Q E s:=by
 refine callType_other (U:="range_iterator") (Q₁:=λobj s₁=>obj=.ref s.heap.objs.size/\s₁={s with heap:=s.heap.push {cls:=.type "range_iterator",data:=.fields #[rawInt<|a+(Builtin.Range.rangeSize a b 1-1)*1,rawInt<|Builtin.Range.rangeSize a b 1,rawInt<|-1]} }) (by trivial) F.create_reversed ⟨_,_,F.mro_reversed⟩ F.made_reversed Zg4 (F.typeCall_reversed_1 _) (ZmK hr ha ha' hb FZ ⟨rfl,rfl⟩) ?_
 rintro obj s₁ ⟨rfl,rfl⟩;exact⟨⟨_,AC _ rfl,rfl⟩,h⟩
end
def ZcT:Manifest.owners.lookup (String.ofList ['d','e','s','r','e','v','e','r'].reverse)=some Manifest.sig_reversed:=by kernel_rfl
def Zhf:Slot "reversed" "__init__" "object.__init__" :=
 .of (owner:="object") (n:="__init__") (by rw[ER,EE];kernel_rfl) (by trivial) (by trivial) (by trivial)
  (by first|exact .inl (by trivial)|exact .inr (by trivial)) (by rw[EK];kernel_rfl)
def md:Slot "reversed" "__next__" "reversed.__next__" :=
 .of (owner:="reversed") (n:="__next__") (by rw[ER,EE];kernel_rfl) (by trivial) (by trivial) (by trivial)
  (by first|exact .inl (by trivial)|exact .inr (by trivial)) (by rw[EK];kernel_rfl)
def Zer:entryFor table "reversed.__next__"=some Builtin.«reversed.__next__»:=entryFor_of_tree<|by kernel_rfl
def ZfJ(a:Fo):argsOk "reversed.__next__" ⟨[a],[]⟩:=by unfold argsOk;rw[signature?_of (id:="reversed.__next__") (n:=['_','_','t','x','e','n','_','_']) (o:=['d','e','s','r','e','v','e','r']) (by kernel_rfl) ZcT];kernel_rfl
def ZaR:Slot "reversed" "__iter__" "reversed.__iter__" :=
 .of (owner:="reversed") (n:="__iter__") (by rw[ER,EE];kernel_rfl) (by trivial) (by trivial) (by trivial)
  (by first|exact .inl (by trivial)|exact .inr (by trivial)) (by rw[EK];kernel_rfl)
def ZnC(a:Fo):argsOk "reversed.__iter__" ⟨[a],[]⟩:=by unfold argsOk;rw[signature?_of (id:="reversed.__iter__") (n:=['_','_','r','e','t','i','_','_']) (o:=['d','e','s','r','e','v','e','r']) (by kernel_rfl) ZcT];kernel_rfl
def Zlo:entryFor table "reversed.__iter__"=some Builtin.«dict_keyiterator.__iter__» :=
 entryFor_alias (id':="dict_keyiterator.__iter__") (by kernel_rfl) (by first|rfl|decide +kernel|(unfold String.splitOn;simp +decide [String.splitOnAux])) (by trivial) (by kernel_rfl)
def ZmP:TypeCalled "reversed" "reversed.__new__" "object.__init__" :=
 ⟨by trivial,by trivial,⟨_,_,F.mro_reversed⟩,F.made_reversed,by trivial,by rw[EK];kernel_rfl,Zhf⟩
def Zjp:typeLookup (.type "tuple") "__reversed__"=pure none:=by rw[ER,EE];kernel_rfl
def ZjH(l:Fq)(items:Array Fo)(hfit:(items.size:Int)<2^63) :
  Meets (Builtin.«reversed.__new__» ⟨[.type "reversed",.ref l],[]⟩) (λ_ R s=>IsTup s.heap l items /\
   R (.ok<|.ret<|.ref s.heap.objs.size) {s with heap:=s.heap.push {cls:=.type "reversed",data:=.fields #[.ref l,rawInt<|(items.size:Int)-1]},toks:=s.toks+1+1}) :=
 .of_wp λprog w A R s h=>by
  obtain⟨hp,g,d,tk,os⟩:=s;obtain⟨hl,h⟩:=h;have hl':(Shared.mk hp g d tk os).heap.IsTuple l items:=hl;unfold Builtin.«reversed.__new__»;refine wp<|Er (newClass_reversed _) ?_
  try dsimp only
  refine wp<|Er (a:=()) (by first|rfl|kernel_rfl) ?_
  refine wp<|Er (a:=()) (by first|rfl|kernel_rfl) ?_
  try dsimp only
  refine wp<|EG hl'.typeIs Zjp ?_
  try dsimp only
  refine wp ?_;show wpAny _ _ (isInstance (Value.ref l) (.type "dict") >>= _) _ _ _;refine wp<|EZ (T:="tuple") (b:=false) hl'.typeIs (by rw[EK];kernel_rfl) ?_
  show wpAny _ _ (specialOf (Value.ref l) "__getitem__" >>= _) _ _ _;refine wp<|EG hl'.typeIs F.slot_tuple_getitem.lookup ?_;refine D9 ?_;show wpAny _ _ (call (Value.builtin "len") [Value.ref l] >>= _) _ _ _;refine wp<|len_tuple hl hfit ?_;refine wp<|Er (a:=some (items.size:Int)) rfl ?_;show wpAny _ _ (newObj (.type "reversed") (.fields #[.ref l,rawInt<|(items.size:Int)-1]) >>= _) _ _ _;refine wp<|Ee ?_;exact D9 ⟨_,rfl,h⟩
def IsTRev(h:Fv)(a l:Fq)(i:Int):Prop:=∃o,h.get? a=some o/\o.cls=.type "reversed"/\o.data=.fields #[.ref l,rawInt i]
def IsTRev.at{h h':Fv}{a l:Fq}{i:Int}(x:IsTRev h a l i)(e:∀o,h.get? a=some o->h'.get? a=some o):IsTRev h' a l i:=let ⟨o,ho,r⟩:=x;⟨o,e _ ho,r⟩
section
variable{prog:Fs}{w:Ft}{A:Fu}{E:DZ}{s:Fp}
def ZmS{l:Fq}{items:Array Fo}{Q:DZ}(hl:IsTup s.heap l items)(hfit:(items.size:Int)<2^63)
  (h:Q (.ref s.heap.objs.size) {s with heap:=s.heap.push {cls:=.type "reversed",data:=.fields #[.ref l,rawInt<|(items.size:Int)-1]},toks:=s.toks+1+1}) :
  wpAny (model prog w) A (call (.type "reversed") [.ref l]) Q E s :=
 callType_new ZmP (by decide) (F.typeCall_reversed_1 _) (F.newCall_reversed_1 _) (λobj=>Du obj _) F.entry_reversed_new (ZjH l items hfit) ⟨hl,⟨_,AC _ rfl,rfl⟩,h⟩
def Zik{it l:Fq}{i:Nat}{items:Array Fo}{x:Fo}{Q:Fm Fo->Fp->Prop}(hit:IsTRev s.heap it l (i:Int))(hl:IsTup s.heap l items)(FD:l≠it)(hx:items[i]?=some x)(hfit:(items.size:Int)<2^63)
  (hQ:∀h',IsTRev h' it l ((i:Int)-1)->Heap.SameBut it s.heap h'->Q (some x) {s with heap:=h',toks:=s.toks+1}):wpAny (model prog w) A (pyNext<|.ref it) Q E s:=by
 obtain⟨o,ho,hc,hd⟩:=id hit;have hT:s.TypeIs (.ref it) "reversed":=⟨o,ho,hc⟩;have hl':s.heap.IsTuple l items:=hl;have FC:i<items.size:=(DD.mp hx).1;unfold pyNext;refine wp (EL (Ek (name:=Str.ofString "__next__") hT md
  (El md hT Zer ?_<|ZfJ _)))
 unfold Builtin.«reversed.__next__»;refine wp<|Er (a:=(Value.ref it,[])) rfl ?_
 try dsimp only
 refine wp<|Em ho hd (x:=.ref l) rfl ?_;refine wp<|Em ho hd (x:=rawInt (i:Int)) rfl ?_;show wpAny _ _ (if (i:Int)<0 then _ else _) _ _ s
 rw[Ef<|by omega]
 refine wp<|EG hl'.typeIs F.slot_tuple_getitem.lookup ?_;show wpAny _ _ (mkInt (i:Int) >>= _) _ _ s;refine wp<|wpAny_mkInt ?_;refine wp<|EL<|getItem_tuple (j:=i) (x:=x) hl (by omega) (by omega) ?_ hx ?_
 ·unfold seqIndex?;simp;omega
 ·dsimp only;refine wp<|Em ho hd (x:=rawInt (i:Int)) rfl ?_;show wpAny _ _ (setField (.ref it) 1 (rawInt<|(i:Int)-1) >>= _) _ _ _;refine wp (EF ho hd (by simp) ?_)
  refine D9 ⟨x,rfl,D9<|hQ _ ?_<|BX ..⟩;exact⟨_,BK _ ho<|CN<|BN hd _,(DE ..).trans hc,by rw[BN hd];simp⟩
def Zil{it l:Fq}{Q:Fm Fo->Fp->Prop}(hh:A.handled=none)(hit:IsTRev s.heap it l (-1))
  (hQ:∀h',Heap.ExtBut it s.heap h'->Q none {s with heap:=h'}):wpAny (model prog w) A (pyNext<|.ref it) Q E s:=by
 obtain⟨o,ho,hc,hd⟩:=id hit;have hT:s.TypeIs (.ref it) "reversed":=⟨o,ho,hc⟩;unfold pyNext;refine wp (EL (Ek (name:=Str.ofString "__next__") hT md
  (El md hT Zer ?_<|ZfJ _)))
 unfold Builtin.«reversed.__next__»;refine wp<|Er (a:=(Value.ref it,[])) rfl ?_
 try dsimp only
 refine wp<|Em ho hd (x:=.ref l) rfl ?_;refine wp<|Em ho hd (x:=rawInt<|-1) rfl ?_;show wpAny _ _ (if (-1:Int)<0 then _ else _) _ _ s
 rw[Ed<|by decide]
 refine wp<|EH ?_;refine wp ?_;show wpAny _ _ (setField (.ref it) 1 (rawInt<|-1) >>= _) _ _ _;refine wp<|EF ho hd (by simp) ?_
 have ho2:=BK (Obj.mapFields λx_1=>x_1.setIfInBounds 1<|rawInt<|-1) ho<|CN<|BN hd _;refine EF ho2 (BN hd _) (by simp) ?_
 have eb:Heap.ExtBut it s.heap ((s.heap.update it<|Obj.mapFields λx_1=>x_1.setIfInBounds 1<|rawInt<|-1).update it<|Obj.mapFields λx_1=>x_1.setIfInBounds 0 Value.none):=λb o' hb e=>(BX _ _ _).extBut b o' hb<|(BX _ _ _).extBut b o' hb e;show wpAny _ _ (newExc (.type "StopIteration") [] >>= _ >>= _) _ _ _;refine wp ?_;refine wp ?_;simp only[newExc,newTuple];refine wp<|Ee ?_<|by size_fits
 refine wp (m:=firstArgMember _ _)<|Er (a:=Value.none) (by first|rfl|(simp only[firstArgMember];rfl)) ?_
 refine Ee ?_<|by size_fits
 simp only[raiseNew];refine wp<|wpAny_handled ?_
 first|rw[show A.in1.handled=none from hh]|rw[hh]
 refine wp<|D9<|wpAny_throw ?_;refine wp<|EZ (T:="StopIteration") (b:=true) ⟨_,AC _ rfl,rfl⟩ isSubtype_stop ?_;exact D9<|hQ _<|(eb.push _).push _
def Zcw{it l:Fq}{i:Int}{Q:DZ}(hit:IsTRev s.heap it l i)(h:Q (.ref it) s):wpAny (model prog w) A (pyIter<|.ref it) Q E s:=by obtain⟨o,ho,hc,hd⟩:=id hit;have hT:s.TypeIs (.ref it) "reversed":=⟨o,ho,hc⟩;refine Fg hT ZaR<|El ZaR hT Zlo ?_<|ZnC _;show wpAny _ _ (ret<|.ref it) _ _ s;exact D9 ⟨_,rfl,"reversed",_,hT,md.lookup,h⟩
end
def lY(b:Bool)(l:Fq)(n:Nat):It :=
 ⟨λi H=>i<n/\∃xs,H l=some (bA b xs)/\xs.length=n,λi H x H'=>H'=H/\∃xs,H l=some (bA b xs)/\xs[n-1-i]?=some x,λi _=>i=n⟩
def RvAt(b:Bool)(h:Fv)(it l:Fq)(i:Int):Prop:=match b with
 |true=>h.IsRevIter it l i
 |false=>IsTRev h it l i
def RvAt.there{b:Bool}{h:Fv}{it l:Fq}{i:Int}(x:RvAt b h it l i):∃o n vs,h.get? it=some o/\o.cls=.type n/\o.data=.fields vs/\["enumerate","zip","dict_itemiterator","dict_reverseitemiterator","odict_iterator","itertools.zip_longest","itertools.pairwise"].contains n=false:=by
 cases b with
 |true=>obtain⟨o,h1,h2,h3⟩:=x;exact⟨o,_,_,h1,h2,h3,by decide⟩
 |false=>obtain⟨o,h1,h2,h3⟩:=x;exact⟨o,_,_,h1,h2,h3,by decide⟩
theorem RvAt.at{b:Bool}{h h':Fv}{it l:Fq}{i:Int}(x:RvAt b h it l i)(e:∀o,h.get? it=some o->h'.get? it=some o):RvAt b h' it l i:=by
 cases b with
 |true=>exact Heap.IsRevIter.at x e
 |false=>exact IsTRev.at x e
def Zar{P:Fs}{w:Ft}{K:DQ}{tg:Fw}{b:Bool}{l:Fq}{n:Nat}(it:Fq)(hn:(n:Int)<2^63):Turn P w K tg (lY b l n) [it] it (λi h=>RvAt b h it l<|(n:Int)-1-(i:Nat)) where
 mem:=by simp
 obj:=λi h st c hb=>by
  have e:c=it:=by simpa using hb
  subst e;obtain⟨o,_,_,h1,_,h3,_⟩:=st.there;exact⟨o,h1,λv z=>by rw[h3]at z;cases z⟩
 keep:=λi h h' st k=>st.at λo e=>k it (by simp) o e
 item:=by
  intro X hP hw hK hc i pins s σ H E I hf st hg;subst hP hw hK;obtain⟨hi,xs,e1,hlen⟩:=hg;obtain⟨us,r1,q1⟩:=dU I.hok e1;obtain⟨f0,f1,f2,f3,f4,f5⟩:=hf it<|by simp
  have hxl:n-1-i<xs.length:=by omega
  have hx:xs[n-1-i]?=some xs[n-1-i]:=Au hxl;obtain⟨u,hu,ru⟩:=r1.get hx;have ne:l≠it:=di e1 f0;have ei:(n:Int)-1-(i:Nat)=((n-1-i:Nat):Int):=by omega
  have ei2:((n-1-i:Nat):Int)-1=(n:Int)-1-((i+1:Nat):Int):=by omega
  rw[ei]at st;have usz:us.toArray.size=n:=by rw[AG,<- r1.length];exact hlen
  have fin:∀(h':Fv)(tk:Nat),RvAt b h' it l ((n:Int)-1-((i+1:Nat):Int))->Heap.SameBut it s.heap h'->∃u',some u=some u'/\wpAny (model X.prog X.w) X.A (letOwnedTupleGo tg (.ref it) u') (λ_ s2=>∃x H',Inv X pins σ H' s2/\RelV x u'/\(lY b l n).yld i H x H'/\RvAt b s2.heap it l ((n:Int)-1-((i+1:Nat):Int))/\∀b∈[it],H' b=none) E {s with heap:=h',toks:=tk}:=λh' tk st' sb=>by have I1:Inv X pins σ H {s with heap:=h',toks:=tk}:=I.turned (λb o hb e=>(sb.2 b hb).trans e) f0 f1 f3 f4 f5;obtain⟨o,nm,vs,g1,g2,g3,g4⟩:=st'.there;exact⟨u,rfl,nj (s:={s with heap:=h',toks:=tk}) g1 g2 g3 g4 ⟨_,H,I1,ru,⟨rfl,xs,e1,hx⟩,st',λb hb=>(hf b hb).1⟩⟩
  cases b with
  | true =>
   refine wpAny_pyNext_rev_item (i:=n-1-i) st q1 (x:=u) (by simpa using hu) λh' st' sb=>?_
   rw[ei2]at st';exact fin h' s.toks st' sb
  | false =>
   refine Zik (i:=n-1-i) st q1 ne (x:=u) (by simpa using hu) (by rw[usz];exact hn) λh' st' sb=>?_
   rw[ei2]at st';exact fin h' (s.toks+1) st' sb
 done:=by
  intro X hP hw hK hc i pins s σ H E I hf st hg;subst hP hw hK;obtain⟨f0,f1,f2,f3,f4,f5⟩:=hf it<|by simp
  have hi:i=n:=hg;subst hi;have e:(i:Int)-1-(i:Nat)=-1:=by omega
  rw[e]at st;cases b with
  |true=>exact wpAny_pyNext_rev_end (I.ok.hd hc) st λh' eb=>⟨rfl,I.turned (t':=s.toks) (λb o hb e=>eb b o hb e) f0 f1 f3 f4 f5⟩
  |false=>exact Zil (I.ok.hd hc) st λh' eb=>⟨rfl,I.turned (t':=s.toks) (λb o hb e=>eb b o hb e) f0 f1 f3 f4 f5⟩
 self:=λ_ _ _ _ _ st h=>by
  cases b with
  |true=>exact wpAny_pyIter_revIter st h
  |false=>exact Zcw st h
section
variable{X:Cx}{tg:Fw}{PK:Pk}{a b:Fw}{i j:DR}{p pos:Pos}
def yM(ta:TE):TI:=λσ H R=>ta σ H λx H1=>(∃b l xs,x=.ref l/\H1 l=some (bA b xs)/\R (lY b l xs.length) H1) \/
 (∃l lo hi,x=.ref l/\H1 l=some (.rng lo hi)/\-(2^62)<=lo/\lo<2^62/\-(2^62)<=hi/\hi<2^62/\R (lZ (lo+(hi-lo).toNat-1) (hi-lo).toNat) H1)
def ZcH{ta:TE}(hg:Gl X "reversed")(hm:X.mg "reversed"=none)(ha:PE X a ta)
  (hs:starEach [a] X.env=[(false,eval a X.env)]:=by rfl):PI X tg (.Call (.Name "reversed" p) [a] [] pos) (yM ta):=by
 intro pins s σ H R I h;have hab:PA X [a] (fM ta aS):=bx ha cf<|by rw[hs];rfl
 have h':fM ta aS σ H λvs H1=>∃x,vs=[x]/\((∃b l xs,x=.ref l/\H1 l=some (bA b xs)/\R (lY b l xs.length) H1) \/
   (∃l lo hi,x=.ref l/\H1 l=some (.rng lo hi)/\-(2^62)<=lo/\lo<2^62/\-(2^62)<=hi/\hi<2^62/\R (lZ (lo+(hi-lo).toNat-1) (hi-lo).toNat) H1)):=by
  have h0:ta σ H λx H1=>(∃b l xs,x=.ref l/\H1 l=some (bA b xs)/\R (lY b l xs.length) H1) \/
   (∃l lo hi,x=.ref l/\H1 l=some (.rng lo hi)/\-(2^62)<=lo/\lo<2^62/\-(2^62)<=hi/\hi<2^62/\R (lZ (lo+(hi-lo).toNat-1) (hi-lo).toNat) H1):=h
  refine cast (Eg (ta σ H) ?_) h0;funext x H1;apply propext;constructor
  ·exact λq=>⟨x,rfl,q⟩
  ·rintro⟨y,e,q⟩;have e':x=y:=by simpa using e
   subst e';exact q
 refine Call_<|je I hg hm boot_reversed<|Bx (thn (hab pos pins s σ H _ I h') λus s1 Fy=>?_) (by rw[hs];rfl) rfl
 obtain⟨vs,H1,I1,r1,q1⟩:=Fy;obtain⟨x,rfl,q1⟩:=q1;obtain⟨u,rfl,ru⟩:=eB r1;have fp:∀c∈[s1.heap.objs.size],fL X pins H1 c:=λc hb=>by
  have e:c=s1.heap.objs.size:=by simpa using hb
  subst e;exact I1.fpOk (Aw _)<|I1.hok.fresh<|Aw _
 have hn:=jU;rcases q1 with ⟨b,l,xs,rfl,e1,q⟩|⟨l,lo,hi,rfl,e1,b1,b2,b3,b4,q⟩
 ·cases ru;obtain⟨us,r2,q2⟩:=dU I1.hok e1;have usz:us.toArray.size=xs.length:=by rw[AG,<- r2.length]
  have hz:xs.length<=sizeLine:=by
   cases b with
   |true=>exact(I1.hok _ _ e1).1
   |false=>exact(I1.hok _ _ e1).1
  cases b with
  | true =>
   refine call_reversed_list q2<|wpAny_pyIter_revIter ⟨_,AC _ rfl,rfl,rfl⟩ ?_;refine⟨_,_,_,_,H1,rfl,I1.kept (t':=s1.toks) λb o e=>v9 _ e,Zar (b:=true) (l:=l) (n:=xs.length) s1.heap.objs.size<|by omega,?_,fp,q⟩
   refine⟨_,AC _ rfl,rfl,?_⟩;rw[usz];show Data.fields #[_,rawInt<|(xs.length:Int)-1]=Data.fields #[_,rawInt<|(xs.length:Int)-1-((0:Nat):Int)];simp
  | false =>
   refine ZmS q2 (by rw[usz];omega)<|Zcw ⟨_,AC _ rfl,rfl,rfl⟩ ?_
   refine⟨_,_,_,_,H1,rfl,I1.kept (t':=s1.toks+1+1) λb o e=>v9 _ e,Zar (b:=false) (l:=l) (n:=xs.length) s1.heap.objs.size<|by omega,?_,fp,q⟩
   refine⟨_,AC _ rfl,rfl,?_⟩;rw[usz];show Data.fields #[_,rawInt<|(xs.length:Int)-1]=Data.fields #[_,rawInt<|(xs.length:Int)-1-((0:Nat):Int)];simp
 ·cases ru;obtain⟨t,u,v,e⟩:=I1.hok _ _ e1;have hsz:Builtin.Range.rangeSize lo hi 1=((hi-lo).toNat:Int):=by rw[EY];split <;> omega
  refine ZmT e b1 b2 b3 b4<|E3 (AC _ rfl) ?_;refine⟨_,_,_,_,H1,rfl,I1.kept (t':=s1.toks) λb o e=>v9 _ e,Zgv s1.heap.objs.size (lo+(hi-lo).toNat-1) (hi-lo).toNat,?_,fp,q⟩;rw[hsz];have e1:lo+(((hi-lo).toNat:Int)-1)*1=lo+(hi-lo).toNat-1+((0:Nat):Int)*(-1):=by simp;omega
  have e2:((hi-lo).toNat:Int)=((hi-lo).toNat:Int)-((0:Nat):Int):=by simp
  rw[e1];show IsRangeIter _ _ _ (((hi-lo).toNat:Int)-((0:Nat):Int))<|-1;rw[<- e2];exact AC _ rfl
end
end L2
namespace L2
section
variable{X:Cx}{tg:Fw}{PK:Pk}{e:Fw}{i j:DR}{is:DS}{p pos:Pos}
def Zkm{pa:Fq}{G:Hp}{b:Bool}{l:Fq}{us:D5}{xs:D1}(h1:G l=some (bA b us))(d1:DnAll G us xs):jx PK pa (lY b l us.length) G xs.reverse:=λm G2 H2 sb w=>by
 have e1:H2 l=some (bA b us):=w.sub _ _<|sb _ _ h1;have hlen:us.length=xs.length:=d1.length;refine⟨λn d hd=>?_,by show xs.reverse.length=us.length;rw[Bv,hlen]⟩
 have hn:n<xs.length:=by
  have:=(Ay.mp hd).1
  rwa [Bv]at this
 have FK:xs[xs.length-1-n]?=some d:=by rw[CI hn]at hd;exact hd
 refine⟨⟨by omega,us,e1,rfl⟩,λy H3 Fy=>?_⟩
 obtain⟨eH,vs,f1,hy⟩:=Fy;subst eH;rw[e1]at f1;have:=qC f1;subst this;rw[hlen]at hy;obtain⟨v,hv,dv⟩:=d1.get _ FK;rw[hv]at hy;cases hy;exact⟨G2,.refl,w,dv.mono sb⟩
def Ad(i:DR):DS:=λρ=>(i ρ).bind λx=>(Tr.of<|gz x).bind λxs=>.ret xs.reverse
def ZnJ{iter:Fw}(h:PI X tg iter (yM<|TAe PK i)):PI X tg iter (cX PK<|Ad i):=h.imp λσ H R0 Fy=>by obtain⟨pa,D8,H₀,m,ρ,G,R,z⟩:=Fy;refine TAe.then R z λm1 x v G1 H1 s1 w1 R1 d1 q1=>?_;rw[Tr.ok_bind]at q1;obtain⟨xs,hx,q1⟩:=Tr.ok_of q1;obtain⟨b1,l1,us,rfl,e1,f1⟩:=nh d1 hx;exact .inl ⟨b1,l1,us,rfl,w1.sub _ _ e1,q1 _ G1 H1 s1 w1<|Zkm e1 f1⟩
def ZmU:dN X (.type "range") (λxs H Q=>∃j:Int,xs=[.int j]/\∀p,H p=none->Q (.ref p) (upd H p<|.rng 0 j)):=by
 intro pins s σ H xs us Q I r h;obtain⟨j,rfl,q⟩:=h;cases r with
 | cons r1 rr =>
  cases rr;obtain⟨t,rfl⟩:=r1;refine call_range_1 ?_;exact⟨.ref s.heap.objs.size,_,I.laid (t':=s.toks+1+1) (λb o e=>v9 _ e) (Aw _)<|show ObjOk X.prog X.w _ _ _ (.rng 0 j)from⟨s.toks,t,s.toks+1,AC _ rfl⟩,rfl,q _<|I.hok.fresh<|Aw _⟩
def Zkl{pa:Fq}{G:Hp}{lo:Int}{n:Nat}:jx PK pa (lZ (lo+n-1) n) G ((aQ lo n).map PyData.int).reverse:=λm G2 H2 sb w=>by
 have hl:((aQ lo n).map PyData.int).length=n:=by rw[Av,fO]
 refine⟨λk x hx=>?_,by show n<=_;rw[Bv,hl];exact Aw _⟩
 have hk:k<n:=by
  have:=(Ay.mp hx).1
  rwa [Bv,hl]at this
 refine⟨hk,λy H3 Fy=>?_⟩;obtain⟨e1,e2⟩:=Fy;subst e1 e2;have:x=.int (lo+n-1-k):=by
  rw[CI<|by rw[hl];exact hk,hl]at hx
  unfold aQ at hx;rw[AR,AK,Cp<|by omega]at hx
  cases hx;show PyData.int (lo+((n-1-k:Nat):Int))=_;congr 1;omega
 subst this;exact⟨G2,.refl,w,.int _⟩
def Ac(is:DS):DS:=λρ=>(is ρ).bind λxs=>(Tr.of<|kD xs).bind λys=>.ret ys.reverse
def ZgM(t:TA):TE:=fN (λxs H Q=>∃j:Int,xs=[.int j]/\∀p,H p=none->Q (.ref p) (upd H p<|.rng 0 j)) t
def ZnI{iter:Fw}(h:PI X tg iter (yM<|ZgM<|TAd PK is)):PI X tg iter (cX PK<|Ac is):=h.imp λσ H R0 Fy=>by
 obtain⟨pa,D8,H₀,m,ρ,G,R,z⟩:=Fy;refine TAd.then R z λm1 xs vs G1 H1 s1 w1 R1 d1 q1=>?_;rw[Tr.ok_bind]at q1;obtain⟨ys,hy,q1⟩:=Tr.ok_of q1;obtain⟨n,e,h1,h2,rfl⟩:=ZbM d1 hy;refine⟨n,e,λp hp=>?_⟩;obtain⟨w2,s2⟩:=w1.own (o:=.rng 0 n) hp;refine .inr ⟨p,0,n,rfl,bY,by decide,by decide,h1,h2,?_⟩
 have q:=q1 (lZ (0+(n-0).toNat-1) (n-0).toNat) G1 _ (s1.trans s2 w1.some) w2;unfold bi at q;exact q Zkl
end
section
variable{X:Cx}{PK:Pk}{i n:DR}
end
section
variable{prog:Fs}{w:Ft}{A:Fu}{E:DZ}{s:Fp}
end
section
variable{X:Cx}{PK:Pk}{e st:Fw}{te ts:TE}{i j:DR}{p2 pos:Pos}
end
abbrev lX(h0 h:Fv):Prop:=∀c o,h0.get? c=some o->h.get? c=some o
def At(prog:Fs)(w:Ft)(A:Fu)(h0:Fv)(P:Nat->Fo->Prop)(bt:Nat->Nat->Bool):Prop :=
 ∀i j vi vj (s:Fp) (Q:DZ) (E:DZ),j<i->lX h0 s.heap->P i vi->P j vj->Q (.bool<|bt i j) s->wpAny (model prog w) A (richCompare .Lt vi vj) Q E s
theorem ZfK(bt:Nat->Nat->Bool):∀j,argBest bt j<=j
 |0=>Aw _
 | j+1=>by
  have:=ZfK bt j;unfold argBest
  split <;> omega
section
variable{prog:Fs}{w:Ft}{A:Fu}{R:Result->Fp->Prop}{I S:Fq}{fp wr:Fl Fq}{n:Nat}{P:Nat->Fo->Prop}{St:Nat->Fv->Prop}{h0:Fv}
def pX:(toString "min"++toString ".loop":String)="min.loop":=by decide
def ZjE(W:Walks prog w A.in1 I fp wr n P St)(bt:Nat->Nat->Bool)(hcmp:At prog w A.in1 h0 P bt)(hSf:S∉fp)(h0w:∀c o,h0.get? c=some o->c∉wr/\c≠S) :
  ∀(k j:Nat)(s:Fp)(vb:Fo)(c:Nat),n-(j+1)=k->j+1<=n->lX h0 s.heap->St (j+1) s.heap->P (argBest bt j) vb ->
  s.heap.get? S=some {cls:=.type "list",data:=.seq #[vb,vb] c} ->
  (∀v h' tk,P (argBest bt<|n-1) v->(∀b o,b∉wr->b≠S->s.heap.get? b=some o->h'.get? b=some o)->R (.ok<|.ret v) {s with heap:=h',toks:=tk}) ->
  codeAny (model prog w) A (.builtin "min.loop" ⟨[.ref I,.none,.ref S],[]⟩) R s:=by
 have hSw:S∉wr:=λh=>hSf<|W.sub _ h;intro k
 induction k with
 | zero =>
  intro j s vb c hk hj kp FR hPb hS hR;have hin:j+1=n:=by omega
  refine Eu DP (by rw[Bo Cg _];show wpAny _ A.in1 (seqItems? (.ref S) >>= _) _ _ s;refine wp<|Eo hS rfl ?_;show wpAny _ A.in1 (tryCatch (pyNext<|.ref I) _ >>= _) _ _ s;refine wp (ET<|W.done s _ _ (hin ▸ FR) λh' tk F0=>?_);have hS':=F0 S _ hSw hS;show wpAny _ A.in1 (updateSeq S (λ_=>#[]) >>= _) _ _ _;refine wp<|wpAny_updateSeq hS' rfl (wp<|EO<|D9 ?_);exact hR vb _ tk (by rw[<- hin];exact hPb) λb o hbw hbS e=>(Bn _ _<|Ne.symm hbS).trans<|F0 b o hbw e)
 | succ k ih =>
  intro j s vb c hk hj kp FR hPb hS hR;have FC:j+1<n:=by omega
  refine Eu DP (by
   rw[Bo Cg _];show wpAny _ A.in1 (seqItems? (.ref S) >>= _) _ _ s;refine wp<|Eo hS rfl ?_;show wpAny _ A.in1 (tryCatch (pyNext<|.ref I) _ >>= _) _ _ s;refine wp (ET<|W.item (j+1) s _ _ FC FR λv h' tk hP hst' F0=>?_);have hS':=F0 S _ hSw hS;have kp':lX h0 h':=λc o e=>F0 c o (h0w c o e).1 (kp c o e);show wpAny _ A.in1 (tryCatch (holding [v,v]<|richCompare .Lt v vb >>= _) _ >>= _) _ _ _;refine wp<|ET<|Ej<|wp<|hcmp (j+1) (argBest bt j) v vb _ _ _ (Nat.lt_succ_of_le<|ZfK bt j) kp' hP hPb<|wp<|Ej<|Ey<|wp<|EO<|D9 ?_;cases hb:bt (j+1) (argBest bt j)with
   | true =>
    simp only[EM];refine wp<|wpAny_updateSeq hS' rfl (wp<|EO ?_);rw[pX];refine D9 ⟨EA Cg _,ih (j+1) _ v _ (by omega) FC (λc o e=>(Bn _ _<|Ne.symm (h0w c o e).2).trans<|kp' c o e) (W.frame _ _ _ hst' λb hbf o e=>?_) (by simp only[argBest,hb,EM];exact hP) (BK _ hS' rfl)
     λv' h'' tk'' hP' hk''=>hR v' h'' tk'' hP' λb o hbw hbS e=>hk'' b o hbw hbS<|(Bn _ _<|Ne.symm hbS).trans<|F0 b o hbw e⟩
    exact(Bn _ _<|λh:S=b=>hSf<|by rw[h];exact hbf).trans e
   | false =>
    simp only[Bk,EJ];refine wp<|EO ?_;rw[pX];exact D9 ⟨EA Cg _,ih (j+1) _ vb c (by omega) FC kp' hst' (by simp only[argBest,hb,Bk,EJ];exact hPb) hS' λv' h'' tk'' hP' hk'' =>
     hR v' h'' tk'' hP' λb o hbw hbS e=>hk'' b o hbw hbS<|F0 b o hbw e⟩)
def ZjF(W:Walks prog w A.in1 I fp wr n P St)(bt:Nat->Nat->Bool)(hcmp:At prog w A.in1 h0 P bt)(hSf:S∉fp)(h0w:∀c o,h0.get? c=some o->c∉wr/\c≠S)(hn:0<n){s:Fp}{c:Nat}(kp:lX h0 s.heap)(FR:St 0 s.heap)
  (hS:s.heap.get? S=some {cls:=.type "list",data:=.seq #[] c})
  (hR:∀v h' tk,P (argBest bt<|n-1) v->(∀b o,b∉wr->b≠S->s.heap.get? b=some o->h'.get? b=some o)->R (.ok<|.ret v) {s with heap:=h',toks:=tk}) :
  codeAny (model prog w) A (.builtin "min.loop" ⟨[.ref I,.none,.ref S],[]⟩) R s:=by
 have hSw:S∉wr:=λh=>hSf<|W.sub _ h;refine Eu DP (by
  rw[Bo Cg _];show wpAny _ A.in1 (seqItems? (.ref S) >>= _) _ _ s;refine wp<|Eo hS rfl ?_;show wpAny _ A.in1 (tryCatch (pyNext<|.ref I) _ >>= _) _ _ s;refine wp (ET<|W.item 0 s _ _ hn FR λv h' tk hP hst' F0=>?_);have hS':=F0 S _ hSw hS;have kp':lX h0 h':=λc o e=>F0 c o (h0w c o e).1 (kp c o e);show wpAny _ A.in1 (updateSeq S (λ_=>#[v,v]) >>= _) _ _ _;refine wp<|wpAny_updateSeq hS' rfl ?_;rw[pX];refine D9 ⟨EA Cg _,ZjE W bt hcmp hSf h0w _ 0 _ v _ rfl hn (λc o e=>(Bn _ _<|Ne.symm (h0w c o e).2).trans<|kp' c o e) (W.frame _ _ _ hst' λb hbf o e=>?_) hP (BK _ hS' rfl)
   λv' h'' tk'' hP' hk''=>hR v' h'' tk'' hP' λb o hbw hbS e=>hk'' b o hbw hbS<|(Bn _ _<|Ne.symm hbS).trans<|F0 b o hbw e⟩
  exact(Bn _ _<|λh:S=b=>hSf<|by rw[h];exact hbf).trans e)
end
section
variable{prog:Fs}{w:Ft}{A:Fu}{E:DZ}{s:Fp}
end
section
variable{X:Cx}
end
section
variable{X:Cx}{PK:Pk}{e:Fw}{is:DS}
end
section
variable{prog:Fs}{w:Ft}{A:Fu}{E:DZ}{s:Fp}
def ZjD{l:Fq}{items:Array Fo}{Q:DZ}{bt:Nat->Nat->Bool}(hh:A.handled=none)(hl:s.heap.IsList l items)(hn:0<items.size)
  (hcmp:At prog w A.in1 s.heap (λi v=>items[i]?=some v) bt)
  (h:∀h' tk v,lX s.heap h'->items[argBest bt<|items.size-1]?=some v->Q v {s with heap:=h',toks:=tk}):wpAny (model prog w) A (call (.builtin "min") [.ref l]) Q E s:=by
 refine call_function_tree F.kind_min F.plain_min F.entry_min (F.args_min1 _) (by
  show wpAny _ A.in1 (Builtin.Builtins.bindParams "min" ["key","default"] 0 ⟨[],[]⟩ >>= _) _ _ s;refine wp<|Er (a:=[none,none]) rfl ?_;refine wp<|D9 ?_;refine wp<|EI hl<|wp<|Ee ?_;rw[pX];have FC:∀{c:Nat}{o:Obj},s.heap.get? c=some o->c<s.heap.objs.size:=λe=>AI e;obtain⟨ol,hol,_⟩:=id hl;have hll:(l:Nat)<s.heap.objs.size:=AI hol;have hsz:∀ob:Obj,(s.heap.push ob).objs.size=s.heap.objs.size+1:=λob=>Bj ..;have W:=Walks.list (prog:=prog) (w:=w) (A:=A.in1) hh s.heap.objs.size l (show(l:Nat)≠s.heap.objs.size from AO hll) items
  refine D9 ⟨EA Cg _,ZjF (A:=A) (h0:=s.heap) W bt hcmp ?_ ?_ hn ?_ ⟨?_,?_⟩ (AC _ rfl) ?_⟩
  ·intro hm;have hm':((s.heap.push {cls:=.type "list_iterator",data:=.fields #[.ref l,.int 0 0]}).objs.size:Nat)∈([s.heap.objs.size,l]:Fl Nat):=hm;rw[hsz]at hm';rcases AM.mp hm' with z|z
   ·exact absurd z (Nat.succ_ne_self _)
   ·rcases AM.mp z with z|z
    ·have hll':=hll;rw[<- z]at hll';exact absurd hll' (Nat.not_lt.mpr<|Db _)
    ·cases z
  ·intro (c:Nat) o e;have hc:=FC e;refine⟨λhm=>?_,?_⟩
   ·have hm':c=s.heap.objs.size:=by simpa using hm
    omega
   ·show c≠(s.heap.push {cls:=.type "list_iterator",data:=.fields #[.ref l,.int 0 0]}).objs.size;rw[hsz];omega
  ·exact λc o e=>v9 _ (v9 _ e)
  ·exact⟨_,v9 _<|AC _ rfl,rfl,rfl⟩
  ·exact hl.at λo e=>v9 _ (v9 _ e)
  ·intro v h' tk hP hk;refine h h' tk v (λ(c:Nat) o e=>hk c o (λhm=>?_) ?_<|v9 _<|v9 _ e) hP
   ·have hc:=FC e;have hm':c=s.heap.objs.size:=by simpa using hm
    omega
   ·have hc:=FC e;show c≠(s.heap.push {cls:=.type "list_iterator",data:=.fields #[.ref l,.int 0 0]}).objs.size;rw[hsz];omega)
end
section
variable{X:Cx}
end
section
variable{X:Cx}{PK:Pk}{a b:Fw}{pos:Pos}{j:DR}
end
section
variable{prog:Fs}{w:Ft}{A:Fu}{E:DZ}{s:Fp}
def ZmO{t b:Fq}{ws:D3}{Q:DZ}(ht:IsTup s.heap t ([]:D3).toArray)(hb:IsTup s.heap b ws.toArray)(h1:Q (.ref b) s):wpAny (model prog w) A (binaryOp .Add (.ref t)<|.ref b) Q E s:=by obtain⟨⟨cls,dd,data,sl⟩,ho,hc,n,hd⟩:=id ht;obtain⟨⟨cls2,dd2,data2,eJ⟩,ho2,hc2,n2,hd2⟩:=id hb;simp only at hc hd hc2 hd2;subst hc hd hc2 hd2;exact concat_meets ⟨_,ho,rfl⟩ ⟨_,ho2,rfl⟩ Fj seq_tuple_add C3 C1 (CZ _ _) (tuple_addW0 t b _ ws.toArray n n2 dd dd2 sl eJ rfl) ⟨ho,ho2,h1⟩
end
section
variable{X:Cx}
def Zco(K:DQ):R2:=λx y H Q=>∃a b ys,x=.ref a/\y=.ref b/\SqT K H a []/\SqT K H b ys/\Q (.ref b) H
def Zjg:OpR X (binaryOp .Add) (Zco X.K):=by intro pins s σ H x y v u Q I rx ry h;obtain⟨a,b,ys,rfl,rfl,ha,hb,q⟩:=h;cases rx;cases ry;obtain⟨Fz,r1,p1,_⟩:=I.tuple ha;obtain⟨its2,r2,p2,_⟩:=I.tuple hb;cases r1;exact ZmO p1 p2 ⟨.ref b,H,I,rfl,q⟩
def dM:DY
 |.tuple [],.tuple ys=>some (.tuple ys)
 |x,y=>bg x y
def Zcr(K:DQ):R2:=λx y H Q=>xJ K x y H Q\/Zco K x y H Q
def eY:OpR X (binaryOp .Add) (Zcr X.K):=bC.or Zjg
def eU{K:DQ}:cL (Zcr K) dM:=λPK pa m G H x y dx dy dz Q w hx hy hz k=>by
 unfold dM at hz
 split at hz
 ·cases hz;cases hx with
  | tup a1 a2 =>
   cases a2;cases hy with
   |tup b1 b2=>exact .inr ⟨_,_,_,rfl,rfl,SqT.of<|w.sub _ _ a1,SqT.of<|w.sub _ _ b1,k.here w<|.tup b1 b2⟩
 ·exact .inl<|bB PK pa m G H x y _ _ dz Q w hx hy hz k
def nz{ys:D1}:aU dM (.tuple []) (.tuple ys)=.ret (.tuple ys):=rfl
def ny{x:Fn}{xs ys:D1}(h:small ((x::xs).length+ys.length)=true):aU dM (.tuple (x::xs)) (.tuple ys)=.ret (.tuple (x::xs++ys)):=by
 show Tr.of (bg (.tuple (x::xs))<|.tuple ys)=_;unfold bg;simp only[Ci,AH,Bq,h,EM]
 rfl
end
section
variable{PK:Pk}{X:Cx}{a b:Fw}{pos:Pos}{i j:DR}
end
def mZ{α:Type}{n:Nat}:∀{us:Fl α},us.length=n+1->∃(a:α)(t:Fl α),us=a::t/\t.length=n
 |a::t,h=>⟨a,t,rfl,BV h⟩
def ZjW{α:Type}{us:Fl α}(h:us.length=0):us=[]:=List.eq_nil_of_length_eq_zero h
def Zdq{α:Type}{us:Fl α}(h:us.length=1):∃a,us=[a]:=by obtain⟨a,t,rfl,h2⟩:=mZ h;exact⟨a,by rw[ZjW h2]⟩
def Zdp{α:Type}{us:Fl α}(h:us.length=2):∃a0 a1,us=[a0,a1]:=by obtain⟨a0,t,rfl,h2⟩:=mZ h;obtain⟨a1,rfl⟩:=Zdq h2;exact⟨a0,a1,rfl⟩
def Zdo{α:Type}{us:Fl α}(h:us.length=3):∃a0 a1 a2,us=[a0,a1,a2]:=by obtain⟨a0,t,rfl,h2⟩:=mZ h;obtain⟨a1,a2,rfl⟩:=Zdp h2;exact⟨a0,a1,a2,rfl⟩
def Zdn{α:Type}{us:Fl α}(h:us.length=4):∃a0 a1 a2 a3,us=[a0,a1,a2,a3]:=by obtain⟨a0,t,rfl,h2⟩:=mZ h;obtain⟨a1,a2,a3,rfl⟩:=Zdo h2;exact⟨a0,a1,a2,a3,rfl⟩
def ZjY{α:Type}{us:Fl α}(h:us.length=5):∃a0 a1 a2 a3 a4,us=[a0,a1,a2,a3,a4]:=by obtain⟨a0,t,rfl,h2⟩:=mZ h;obtain⟨a1,a2,a3,a4,rfl⟩:=Zdn h2;exact⟨a0,a1,a2,a3,a4,rfl⟩
section
variable{PK:Pk}{X:Cx}{pos:Pos}{n:Nat}{is:DS}{s t:DU}
end
section
variable{PK:Pk}{X:Cx}{a b c d e:Fw}{pos:Pos}{i j l n:DR}
end
end L2
set_option exponentiation.threshold 9000
namespace Tw
open L2
def nb(k:Nat)(n:Int):Prop:=n.natAbs<2^k
def aY{k:Nat}{n:Int}(h:nb k n)(hk:k<=8000):fit n=true:=Ea<|AD h<|C9 (by decide) hk
def aO{k l:Nat}{n:Int}(h:nb k n)(hk:k<=l):nb l n:=AD h<|C9 (by decide) hk
def dm{k l:Nat}{m n:Int}(h:nb k m)(h':nb l n):nb (k+l) (m*n):=by unfold nb at *;rw[BH,Nat.pow_add];exact Nat.mul_lt_mul'' h h'
def dX{k l:Nat}{m n:Int}(h:nb k m)(h':nb l n):nb (max k l+1) (m+n):=by have h1:=aO h<|Nat.le_max_left k l;have h2:=aO h'<|Nat.le_max_right k l;unfold nb at *;rw[Nat.pow_succ,Nat.mul_two];exact By (Int.natAbs_add_le m n)<|Nat.add_lt_add h1 h2
def ip{k:Nat}{n:Int}(h:nb k n):nb k (-n):=by unfold nb at *;omega
def i5{k l:Nat}{m n:Int}(h:nb k m)(h':nb l n):nb (max k l+1) (m-n):=by rw[Int.sub_eq_add_neg];exact dX h<|ip h'
def bS{k:Nat}{n:Int}(h1:-(2^k:Nat)<n)(h2:n<(2^k:Nat)):nb k n:=by unfold nb;omega
def kM{k:Nat}{c:Prop}[Decidable c]{m n:Int}(h:nb k m)(h':nb k n):nb k (if c then m else n):=by split <;> assumption
noncomputable def ws(f:Int->Int):Nat->Fl Int->Int
 |_,[]=>0
 |k,w::l=>w*f k+ws f (k+1) l
structure Shp where
 top:Int
 depth:Int
 start:Int
 piece:Int
 keep:Int
 lack:Int
 lost:Int
 back:Int
 late:Int
noncomputable def Shp.l(s:Shp):D2:=[s.top,s.depth,s.start,s.piece,s.keep,s.lack,s.lost,s.back,s.late]
@[irreducible] noncomputable def Shp.d(s:Shp):Fn:=.tuple<|s.l.map PyData.int
structure Shp.Ok(s:Shp):Prop where
 t0:0<=s.top
 d0:0<=s.depth
 td:s.top+s.depth<=100
 start0:0<=s.start
 start:nb 45 s.start
 piece:nb 45 s.piece
 keep:nb 45 s.keep
 lack:nb 45 s.lack
 lost:nb 45 s.lost
 back:nb 45 s.back
 late:nb 45 s.late
def oM(s:Shp):aU ap s.d (.int 0)=.ret (.int s.top):=by unfold Shp.d;rw[fU];exact Eg Tr.of j6
def oK(s:Shp):aU ap s.d (.int 1)=.ret (.int s.depth):=by unfold Shp.d;rw[fU];exact Eg Tr.of lK
def oJ(s:Shp):aU ap s.d (.int 2)=.ret (.int s.start):=by unfold Shp.d;rw[fU];exact Eg Tr.of lJ
def oI(s:Shp):aU ap s.d (.int 3)=.ret (.int s.piece):=by unfold Shp.d;rw[fU];exact Eg Tr.of nJ
def oH(s:Shp):aU ap s.d (.int 4)=.ret (.int s.keep):=by unfold Shp.d;rw[fU];exact Eg Tr.of nI
def oG(s:Shp):aU ap s.d (.int 5)=.ret (.int s.lack):=by unfold Shp.d;rw[fU];exact Eg Tr.of nH
def oF(s:Shp):aU ap s.d (.int 6)=.ret (.int s.lost):=by unfold Shp.d;rw[fU];exact Eg Tr.of nG
def oD(s:Shp):aU ap s.d (.int 7)=.ret (.int s.back):=by unfold Shp.d;rw[fU];exact Eg Tr.of nF
def oC(s:Shp):aU ap s.d (.int 8)=.ret (.int s.late):=by unfold Shp.d;rw[fU];exact Eg Tr.of nE
section
variable(s:Shp)
def Shp.nx(y f:Int):Int:=eL (y-f)<|-s.depth
noncomputable def Shp.day(y f:Int):Int:=(if s.nx y f>0 then s.keep*s.nx y f else s.lack * -s.nx y f)+s.lost*(s.nx y f-(y-f))
noncomputable def Shp.ord(x y:Int):Int:=if y<=x then 0 else s.start+s.piece*(y-x)
noncomputable def Shp.fin(x:Int):Int:=if x>0 then -s.back*x else s.late * -x
end
noncomputable def Shp.n(s:Shp):Nat:=(s.top+1 - -s.depth).toNat
noncomputable def tI(l:D2):Fn:=.tuple<|l.map PyData.int
def fD(fs:Fl D2):Fn:=.tuple<|fs.map tI
def Shp.Ok.n_eq{s:Shp}(h:s.Ok):(s.n:Int)=s.top+s.depth+1:=by have:=h.t0;have:=h.d0;unfold Shp.n;omega
def im(s:Shp)(y f:Int):-s.depth<=s.nx y f:=by unfold Shp.nx eL;split <;> omega
def il{s:Shp}(h:s.Ok){y f:Int}(hy:y<=s.top)(hf:0<=f):s.nx y f<=s.top:=by have:=h.t0;have:=h.d0;unfold Shp.nx eL;split <;> omega
end Tw
namespace L2
variable{ρ:D7}{s t:DU}{i j l:DR}{is:DS}{k n:Nat}{x y d:Fn}{xs ys:D1}{sl:Sl}
def o0{α β:Type}{a:α}{f:α->Tr β}:(Tr.ret a).bind f=f a:=Eq.trans (Tr.ret_bind a f)<|Eq.refl _
def qH{gs:DW}:lu gs (.list xs) ρ=gs xs ρ:=by cases h:gs xs ρ <;> exact h
noncomputable def mj(xs:D1):Tr D1:=.ret xs.reverse
def ZbF(x:Fn):Tr D1:=(dG x).bind mj
def r8:Ad i ρ=(i ρ).bind ZbF:=rfl
def rX:ZbF x=(dG x).bind mj:=rfl
def rW:mj xs=.ret xs.reverse:=rfl
def ZbE(xs:D1):Tr D1:=(eK xs).bind mj
def r6:Ac is ρ=(is ρ).bind ZbE:=rfl
def rV:ZbE xs=(eK xs).bind mj:=rfl
def ZnH{α:Type}{t:Tr α}{P:α->Prop}(h:Al t 0 P):∃a,t=.ret a/\P a:=by
 have h':=h.out;cases t with
 |ret a=>exact⟨a,rfl,h'⟩
 |draw w k=>exact h'.elim
 |fail=>exact h'.elim
def nN{α:Type}{t:Tr α}{a:α}(h:Al t 0 λb=>b=a):t=.ret a:=by obtain⟨b,e,rfl⟩:=ZnH h;exact e
theorem Zec{s:DU}{g:DX}{n:Nat}{full:D1}(I:Fl Fn->Fl Sl->Prop){Q:Ou->Prop}(ht:∀pre x post ρ,full=pre++x::post->I pre ρ->∃ρ1,g x ρ=some ρ1/\(s ρ1).all n λo=>∃ρ2,o=.next ρ2/\I (pre++[x]) ρ2)(hq:∀ρ,I full ρ->Q (.next ρ)) :
  ∀{xs pre:D1}{ρ:D7},full=pre++xs->I pre ρ->(ck g s xs ρ).all (xs.length*n) Q
 | [],pre,ρ,e,h0=>hq ρ (by rw[e,A3];exact h0)
 | x::xs,pre,ρ,e0,h0=>by
  obtain⟨ρ1,e,ha⟩:=ht pre x xs ρ e0 h0;have en:(x::xs).length*n=n+xs.length*n:=by rw[AE,Cq];omega
  rw[en,lv,e,Tr.of_some,Tr.ret_bind];unfold iA;refine Tr.all_bind ha λo ⟨ρ2,eo,h2⟩=>?_;subst eo;rw[gW];exact Zec I ht hq (by rw[e0,Bg];rfl) h2
def jt{n N:Nat}{g:DX}{s:DU}{xs:D1}{ρ:D7}{Q:Ou->Prop}(I:Fl Fn->Fl Sl->Prop)(h0:I [] ρ)(hN:xs.length*n<=N)(ht:∀pre x post ρ,xs=pre++x::post->I pre ρ->∃ρ1,g x ρ=some ρ1/\Al (s ρ1) n λo=>∃ρ2,o=.next ρ2/\I (pre++[x]) ρ2)(hq:∀ρ,I xs ρ->Q (.next ρ)):Al (ck g s xs ρ) N Q :=
 .of (Tr.all_mono (Zec (full:=xs) I (λpre x post ρ e h=>let ⟨ρ1,e,a⟩:=ht pre x post ρ e h;⟨ρ1,e,a.out⟩) hq (pre:=[]) rfl h0) hN λ_ h=>h)
theorem Zea{g:DX}{s:DU}{f:Fn->Fm Re}(I:Fl Sl->Prop) :
  ∀{xs:D1}{ρ:D7},(∀x∈xs,∀ρ,I ρ->∃ρ1,g x ρ=some ρ1/\((∃r,f x=some r/\s ρ1=.ret (.ret r))\/(f x=none/\∃ρ2,s ρ1=.ret (.next ρ2)/\I ρ2)))->I ρ ->
   (∃r,xs.findSome? f=some r/\ck g s xs ρ=.ret (.ret r))\/(xs.findSome? f=none/\∃ρ2,ck g s xs ρ=.ret (.next ρ2)/\I ρ2)
 | [],ρ,_,h0=>.inr ⟨rfl,ρ,rfl,h0⟩
 | x::xs,ρ,h,h0=>by
  obtain⟨ρ1,e,hx⟩:=h x (by simp) ρ h0
  rw[lv,e,Tr.of_some,Tr.ret_bind];unfold iA;rcases hx with ⟨r,e1,e2⟩|⟨e1,ρ2,e2,h2⟩
  ·exact .inl ⟨r,by simp[e1],by rw[e2,Tr.ret_bind];rfl⟩
  ·rw[e2,Tr.ret_bind,gW];rcases Zea I (λy hy=>h y<|Az _ hy) h2 with ⟨r,q1,q2⟩|⟨q1,ρ3,q2,q3⟩
   ·exact .inl ⟨r,by simp[e1,q1],q2⟩
   ·exact .inr ⟨by simp[e1,q1],ρ3,q2,q3⟩
def ZbL{lo hi:Int}{pre post:D1}{x:Fn}(h:bi lo hi=pre++x::post):x=.int (lo+pre.length)/\(pre.length:Int)<hi-lo:=by
 have h1:(bi lo hi)[pre.length]?=some x:=by rw[h];simp
 have hl:pre.length<(bi lo hi).length:=(Ay.mp h1).1;rw[dh]at hl;unfold bi aQ at h1;rw[AR,AK,Cp<|by omega]at h1
 refine⟨?_,by omega⟩
 cases h1
 rfl
def vz{xs:D1}{pre post:D1}{x:Fn}(h:fF xs=pre++x::post):∃y,xs[pre.length]?=some y/\x=.tuple [.int pre.length,y]:=by
 have h1:(fF xs)[pre.length]?=some x:=by rw[h];simp
 unfold fF at h1;rw[List.getElem?_zipWith]at h1;cases hx:xs[pre.length]? with
 |none=>rw[hx]at h1;simp at h1
 | some y =>
  have hl:pre.length<xs.length:=(Ay.mp hx).1;rw[hx,Cp hl]at h1;simp at h1;exact⟨y,rfl,h1.symm⟩
def vA(xs:D1):(fF xs).length=xs.length:=by unfold fF;simp
end L2
namespace Tw
open L2
def lD{s:Shp}(h:s.Ok){y f:Int}(hy:nb 20 y)(hf:nb 40 f):nb 100 (s.day y f):=by
 have hd:nb 7 s.depth:=by have:=h.t0;have:=h.d0;have:=h.td;exact bS (by show -128<_;omega)<|by show _<128;omega
 have hn:nb 50 (s.nx y f):=by unfold Shp.nx eL;exact kM (aO (ip hd)<|by decide)<|aO (i5 hy hf)<|by decide
 unfold Shp.day;refine aO (dX (kM (k:=95) (dm h.keep hn)<|dm h.lack<|ip hn)<|dm h.lost<|i5 hn<|i5 hy hf)<|by decide
def Bd(s:Shp)(b:Nat)(f:Int->Int):Prop:=∀x,-s.depth<=x->x<=s.top->nb b (f x)
def ly{s:Shp}(h:s.Ok):Bd s 100 s.fin:=λx h1 h2=>by
 have:=h.t0;have:=h.d0;have:=h.td;have hx:nb 20 x:=bS (by show -1048576<_;omega)<|by show _<1048576;omega
 unfold Shp.fin;exact aO (kM (k:=65) (dm (ip h.back) hx)<|dm h.late<|ip hx)<|by decide
abbrev rng(lo hi:Int):D2:=aQ lo (hi-lo).toNat
variable{α:Type}
def Zig(lo:Int)(a b:Nat):aQ lo (a+b)=aQ lo a++aQ (lo+a) b:=by unfold aQ;rw[List.range_add,Bu,AR];congr 1;apply BD;intro k _;show lo+((a+k:Nat):Int)=lo+(a:Int)+(k:Int);omega
def f3(lo a b c:Int)(t:Int->Int->Int->Fm α):Fm α:=(rng lo a).findSome? λu=>(rng (u+1) b).findSome? λv=>(rng (v+1) c).findSome? λw=>t u v w
structure Shp.Dr(s:Shp):Prop where
 t0:0<=s.top
 d0:0<=s.depth
 td:s.top+s.depth<=39
 p:∀n∈[s.start,s.piece,s.keep,s.lack,s.lost,s.back,s.late],0<=n/\n<=1000000
def Shp.Dr.ok{s:Shp}(h:s.Dr):s.Ok:=by
 have hp:=h.p;simp only[AM,BU,EV,forall_eq_or_imp,forall_eq]at hp;obtain⟨h1,h2,h3,h4,h5,h6,h7⟩:=hp;have k:∀n:Int,0<=n/\n<=1000000->nb 45 n:=λn hn=>bS (by show -35184372088832<_;omega)<|by show _<35184372088832;omega
 exact⟨h.t0,h.d0,by have:=h.td;omega,h1.1,k _ h1,k _ h2,k _ h3,k _ h4,k _ h5,k _ h6,k _ h7⟩
def ZaX{a b c d e f g h i:Int}:PyData.tuple [.int a,.int b,.int c,.int d,.int e,.int f,.int g,.int h,.int i]=(Shp.mk a b c d e f g h i).d:=by
 unfold Shp.d
 rfl
def ZdP(l:D2):dG (tI l)=.ret (l.map PyData.int):=rfl
def li(l:Fl D2):dG (fD l)=.ret (l.map tI):=rfl
structure Rp(d:Fn)(k n:Nat):Prop where
 hd:d.hasDict=false
 sh:d.showable=true
 dp:d.depth<=k
 ln:d.shown.length<=n
def ZbG{d:Fn}{k n:Nat}(h:Rp d k n)(hk:k<=32)(hn:n<=10000000):oZ d=true:=by
 unfold oZ;rw[h.hd,h.sh,Ea<|AJ h.dp hk,Ea<|AJ h.ln<|AJ hn<|by rw[Ex];decide]
 rfl
def cm{d:Fn}{k n k' n':Nat}(h:Rp d k n)(hk:k<=k')(hn:n<=n'):Rp d k' n':=⟨h.hd,h.sh,AJ h.dp hk,AJ h.ln hn⟩
def ZhV:Rp .none 0 10:=⟨rfl,rfl,Bf _,by trivial⟩
def ZbI(b:Bool):Rp (.bool b) 0 10:=by cases b <;> exact⟨rfl,rfl,Bf _,by trivial⟩
def oY{i:Int}(h:nb 1900 i):Rp (.int i) 0 1901:=by
 have h1:=ZaZ [i] λn hn=>by simp at hn;subst hn;exact h
 have h2:=(ZaY [i] λn hn=>by simp at hn;subst hn;exact h).1
 refine⟨rfl,?_,Bf _,?_⟩
 ·simp only[Ax,BO,PyData.showableAll,Ck]at h1;exact h1
 ·simp only[Ax,BO,PyData.shownAll,BW,List.sum_nil,AE,Bm]at h2;omega
theorem xC{k n:Nat}:∀{xs:D1},(∀x∈xs,Rp x k n)->PyData.hasDictAll xs=false/\PyData.showableAll xs=true/\PyData.depthAll xs<=k/\((PyData.shownAll xs).map (·.length)).sum<=xs.length*n/\(PyData.shownAll xs).length=xs.length
 | [],_=>⟨rfl,rfl,Bf _,by simp[PyData.shownAll],rfl⟩
 | x::xs,h=>by
  obtain⟨h1,h2,h3,h4,h5⟩:=xC (xs:=xs) λy hy=>h y<|Az _ hy;have hx:=h x<|by simp
  refine⟨?_,?_,?_,?_,?_⟩
  ·rw[PyData.hasDictAll,hx.hd,h1];rfl
  ·rw[PyData.showableAll,hx.sh,h2];rfl
  ·rw[PyData.depthAll];have:=hx.dp;omega
  ·rw[PyData.shownAll,Ax,BW,AE,Cq];have:=hx.ln;omega
  ·rw[PyData.shownAll,AE,AE,h5]
def iR{xs:D1}{k n:Nat}(h:∀x∈xs,Rp x k n):Rp (.tuple xs) (k+1) (xs.length*n+2*xs.length+10):=by
 obtain⟨h1,h2,h3,h4,h5⟩:=xC h;have c3:=tupleText_len_le<|PyData.shownAll xs;refine⟨?_,?_,?_,?_⟩
 ·rw[PyData.hasDict,h1]
 ·rw[PyData.showable,h2]
 ·rw[PyData.depth];omega
 ·rw[PyData.shown];omega
def ZbH{xs:D1}{k n:Nat}(h:∀x∈xs,Rp x k n):Rp (.list xs) (k+1) (xs.length*n+2*xs.length+10):=by
 obtain⟨h1,h2,h3,h4,h5⟩:=xC h;have c3:=listText_len_le<|PyData.shownAll xs;refine⟨?_,?_,?_,?_⟩
 ·rw[PyData.hasDict,h1]
 ·rw[PyData.showable,h2]
 ·rw[PyData.depth];omega
 ·rw[PyData.shown];omega
def xB{l:D2}{m:Nat}(h:∀n∈l,nb 1900 n)(hl:l.length<=m):Rp (tI l) 1 (m*1903+10):=by
 refine cm (iR (k:=0) (n:=1901) λx hx=>?_) (Aw _) ?_
 ·obtain⟨i,hi,rfl⟩:=AU.mp hx;exact oY<|h i hi
 ·rw[Av];have:l.length*1903<=m*1903:=Nat.mul_le_mul_right _ hl;omega
def ZhU{s:Shp}(h:s.Ok):Rp s.d 1 20000:=by
 have e:s.d=tI s.l:=by unfold Shp.d;rfl
 rw[e];refine cm (xB (m:=9) (λn hn=>?_)<|Aw _) (Aw _)<|by decide
 have:=h.t0;have:=h.d0;have:=h.td;unfold Shp.l at hn;simp only[AM,BU,EV]at hn;have k:∀n:Int,nb 45 n->nb 1900 n:=λn hn=>aO hn<|by decide
 have k1:nb 1900 s.top:=k _<|bS (by show -35184372088832<_;omega)<|by show _<35184372088832;omega
 have k2:nb 1900 s.depth:=k _<|bS (by show -35184372088832<_;omega)<|by show _<35184372088832;omega
 rcases hn with rfl|rfl|rfl|rfl|rfl|rfl|rfl|rfl|rfl
 ·exact k1
 ·exact k2
 ·exact k _ h.start
 ·exact k _ h.piece
 ·exact k _ h.keep
 ·exact k _ h.lack
 ·exact k _ h.lost
 ·exact k _ h.back
 ·exact k _ h.late
def Zg7(x:Str):(x==x)=true:=by simp
def euclid{p:DT}{s:DU}{E:Nat->Nat->Fl Sl}(hp:∀a b:Nat,p (E a b)=.ret (decide (b≠0)))(hs:∀a b:Nat,b≠0->s (E a b)=.ret (.next<|E b<|a%b)) :
  ∀n k a b:Nat,b<2^n->fh p s (2*n+1+k) (E a b)=.ret (.next<|E (Nat.gcd a b) 0):=by
 have stop:∀k a:Nat,fh p s (k+1) (E a 0)=.ret (.next<|E a 0):=λk a=>by
  rw[fh,hp,Tr.ret_bind]
  rfl
 have go:∀k a b:Nat,b≠0->fh p s (k+1) (E a b)=fh p s k (E b<|a%b):=λk a b hb=>by rw[fh,hp,Tr.ret_bind,Ea hb,Ed rfl,hs a b hb,Tr.ret_bind]
 intro n
 induction n with
 | zero =>
  intro k a b hb;have e:b=0:=by simp at hb;exact hb
  subst e;rw[Nat.gcd_zero_right,Nat.add_comm (2*0+1) k];exact stop k a
 | succ n ih =>
  intro k a b hb;by_cases h0:b=0
  ·subst h0;have e:2*(n+1)+1+k=(2*(n+1)+k)+1:=by omega
   rw[Nat.gcd_zero_right,e];exact stop _ a
  ·have e:2*(n+1)+1+k=(2*n+2+k)+1:=by omega
   rw[e,go _ a b h0];have hr:a%b<b:=Nat.mod_lt _<|Cd h0;by_cases h1:a%b=0
   ·rw[h1];have e2:2*n+2+k=(2*n+1+k)+1:=by omega
    have eg:Nat.gcd a b=b:=by rw[CT,Nat.gcd_rec,h1,Nat.gcd_zero_left]
    rw[e2,eg];exact stop _ b
   ·have e2:2*n+2+k=(2*n+1+k)+1:=by omega
    rw[e2,go _ b (a%b) h1];have FC:b%(a%b)<2^n:=by
     have h2:b%(a%b)<a%b:=Nat.mod_lt _<|Cd h1;have h3:b%(a%b)+a%b<=b:=by
      have h4:=Nat.div_add_mod b<|a%b;have h5:1<=b / (a%b):=(Nat.le_div_iff_mul_le<|Cd h1).mpr<|by omega
      have h6:a%b<=(a%b)*(b / (a%b)):=Nat.le_mul_of_pos_right _ h5;omega
     rw[Nat.pow_succ]at hb;omega
    rw[ih k (a%b) (b%(a%b)) FC];have eg:Nat.gcd a b=Nat.gcd (a%b) (b%(a%b)):=by rw[CT a b,Nat.gcd_rec b a,Nat.gcd_rec (a%b) b,CT]
    rw[eg]
def Zei(a b:Nat):(a:Int).fmod (b:Int)=((a%b:Nat):Int):=by
 rw[CS _<|Int.natCast_nonneg b]
 rfl
def ZfX(n:Int):vS n=(n.natAbs:Int):=by
 unfold vS
 split <;> omega
def gK(t b:Int):Fn:=.tuple [.int<|Gc.cB t b,.int<|Gc.bQ t b]
def yp{t b:Int}{k l:Nat}(ht:nb k t)(hb:nb l b)(h0:b≠0):nb k (Gc.cB t b)/\nb l (Gc.bQ t b):=by obtain⟨h1,h2⟩:=Gc.ZjQ (t:=t) h0;exact⟨By h1 ht,By h2 hb⟩
def ZeO{t b:Int}{l:Nat}(hb:nb l b)(h0:b≠0):nb l (Gc.den t b):=by unfold nb;rw[Gc.zn];exact By (Nat.gcd_le_right _<|by omega) hb
def pr(p:Int×Int):D2:=[p.1,p.2]
end Tw
namespace HT
section
open PySem.SeqAt
open PySem.AutoSeq1 (wpAny_loadPart')
open PySem.MeetsSeq PySem.MeetsSeq2 PySem.MeetsSeq3
def ZgA(l b:Fq)(a c:Int)(t u:Tok)(y x:Fo)(n n2:Nat)(dd dd2:Fm Fq)(sl eJ:Array (Fm Fo))(e q:Bool) :
  Meets (Builtin.«tuple.__lt__» ⟨[.ref l,.ref b],[]⟩)
   (λA R s=>s.heap.get? l=some {cls:=.type "tuple",dict:=dd,data:=.seq #[.int a t,y] n,slots:=sl}/\s.heap.get? b=some {cls:=.type "tuple",dict:=dd2,data:=.seq #[.int c u,x] n2,slots:=eJ} /\
    EqAt A.in1 s y x e/\(∀(prog:Fs)(w:Ft)(E:DZ)(Q:DZ),Q (.bool q) s->wpAny (model prog w) A.in1 (richCompare .Lt y x) Q E s) /\
    R (.ok<|.ret<|.bool<|if a=c then (if e=true then false else q)else decide (a<c)) s) :=
 .of_wp λprog w A R s h=>by
  obtain⟨hp,g,d,tk,os⟩:=s;obtain⟨hl,hb,hE,hq,h⟩:=h;have f2:=AutoSeq1.sub_tuple_tuple
  wp_walk using EB hl,EB hb,wpAny_forIn_list _ (λrest b s'=>b.1=none/\s'=⟨hp,g,d,tk,os⟩/\((rest=[(.int a t,.int c u),(y,x)])\/(rest=[(y,x)]/\a=c)\/(rest=[]/\a=c/\e=true))) _
  case turn =>
   rintro⟨y',x'⟩ rest b s' ⟨FZ,rfl,hz⟩;rcases hz with hz|⟨hz,hac⟩|⟨hz,_⟩
   ·injection hz with hyx hrest;injection hyx with hy hx;subst hy hx;obtain⟨e1,he1,hiff⟩:=Zep A.in1 ⟨hp,g,d,tk,os⟩ a t c u;refine wp<|he1 prog w _ _ ?_;cases e1 with
    | true =>
     wp_walk
     exact⟨rfl,rfl,.inr<|.inl ⟨hrest,hiff.mp rfl⟩⟩
    | false =>
     rw[Ef<|λq=>absurd (hiff.mpr q) AN]at h;have hri:=ZbY A.in1 ⟨hp,g,d,tk,os⟩ a t c u prog w
     wp_walk using hri
     exact⟨_,rfl,by simpa using h⟩
   ·injection hz with hyx hrest;injection hyx with hy hx;subst hy hx;rw[Ed hac]at h;refine wp<|hE prog w _ _ ?_;cases e with
    | true =>
     wp_walk
     exact⟨rfl,rfl,.inr<|.inr ⟨hrest,hac,rfl⟩⟩
    | false =>
     have hri:=hq prog w
     wp_walk using hri
     exact⟨_,rfl,by simpa using h⟩
   ·cases hz
  case fin =>
   rintro⟨b1,b2⟩ s' ⟨FZ,rfl,hz⟩;simp only at FZ;subst FZ;rcases hz with hz|⟨hz,_⟩|⟨_,hac,he⟩
   ·cases hz
   ·cases hz
   ·rw[Ed hac,Ed he]at h
    wp_walk
    exact⟨_,rfl,by simpa [Builtin.Tuple.tupleCompareSizes]using h⟩
  case h =>
   exact⟨rfl,rfl,.inl rfl⟩
end
end HT
namespace HT
theorem Zdl:∀ns:D2,eN ns ns=false
 | []=>rfl
 |n::ns=>by rw[Zdm,Ed rfl];exact Zdl ns
theorem yG:∀{vs:D3}{ns:D2},IntsAre vs ns->vs.length=ns.length/\∀j (h:j<vs.length),∃t,vs[j]=.int (ns[j]?.getD 0) t
 |_,_,.nil=>⟨rfl,λj h=>by cases h⟩
 | _,_,.cons n t r=>by
  obtain⟨h1,h2⟩:=yG r;refine⟨by rw[AE,AE,h1],λj h=>?_⟩
  cases j with
  |zero=>exact⟨t,rfl⟩
  | succ j =>
   obtain⟨t',e⟩:=h2 j<|by simpa using h
   exact⟨t',by simpa using e⟩
theorem ZdX:∀{vs:D3}{ns ms:D2},IntsAre vs ns->IntsAre vs ms->ns=ms
 |_,_,_,.nil,h=>by cases h;rfl
 | _,_,_,.cons n t r,h=>by
  cases h with
  |cons _ _ r'=>rw[ZdX r r']
def ZnF{ns ms:D2}:((List.range<|min ns.length ms.length).all (λj=>decide (ns[j]?.getD 0=ms[j]?.getD 0))&&ns.length==ms.length)=decide (ns=ms):=by
 rw[B4,AT,Bl,Ew,EW];constructor
 ·rintro⟨h1,h2⟩;refine List.ext_getElem h2 λj a b=>?_;have:=Ec (h1 j<|Bw.mpr<|by omega)
  simpa [Au a,Au b]using this
 ·rintro rfl;exact⟨λj _=>Ea rfl,rfl⟩
section
variable{prog:Fs}{w:Ft}{A:Fu}{E:DZ}{s:Fp}
def Zll{l b:Fq}{items items2:Array Fo}{ns ms:D2}(hl:IsTup s.heap l items)(hb:IsTup s.heap b items2)(hi:IntsAre items.toList ns)(hj:IntsAre items2.toList ms)(hu:A.units<cLine) :
  SeqAt.EqAt A s (.ref l) (.ref b) (decide (ns=ms)):=by
 by_cases hlb:l=b
 ·subst hlb;have e:items=items2:=by
   obtain⟨o,h1,h2,n,h3⟩:=id hl;obtain⟨o',h1',h2',n',h3'⟩:=id hb;rw[h1]at h1';cases h1';rw[h3]at h3';cases h3'
   rfl
  subst e;rw[Ea<|ZdX hi hj];exact SeqAt.EqAt.same _
 ·obtain⟨z1,g1⟩:=yG hi;obtain⟨z2,g2⟩:=yG hj;have r:=SeqAt.RcAt.tuples (e:=λj=>decide (ns[j]?.getD 0=ms[j]?.getD 0)) hl hb hu λj h1 h2=>by
   obtain⟨t1,e1⟩:=g1 j<|by simpa using h1
   obtain⟨t2,e2⟩:=g2 j<|by simpa using h2
   have e1':items[j]=.int (ns[j]?.getD 0) t1:=by simpa using e1
   have e2':items2[j]=.int (ms[j]?.getD 0) t2:=by simpa using e2
   rw[e1',e2'];exact SeqAt.EqAt.int_int (ns[j]?.getD 0) t1 (ms[j]?.getD 0) t2
  have s1:items.size=ns.length:=by rw[<- z1];simp
  have s2:items2.size=ms.length:=by rw[<- z2];simp
  rw[s1,s2,ZnF]at r;exact SeqAt.EqAt.of_refs hlb r
def cx(p q:Int×D2):Bool:=if p.1=q.1 then eN p.2 q.2 else decide (p.1<q.1)
def ZjM{l b r1 r2:Fq}{a c:Int}{t u:Tok}{dG it2:Array Fo}{ns ms:D2}{Q:DZ}(hl:IsTup s.heap l #[.int a t,.ref r1])(hb:IsTup s.heap b #[.int c u,.ref r2])
  (h1:IsTup s.heap r1 dG) (h2:IsTup s.heap r2 it2) (hi:IntsAre dG.toList ns) (hj:IntsAre it2.toList ms)
  (hu:A.units+1<cLine) (h:Q (.bool<|cx (a,ns) (c,ms)) s):wpAny (model prog w) A (compareOp .Lt (.ref l)<|.ref b) Q E s:=by
 obtain⟨⟨cls,dd,data,sl⟩,ho,hc,n,hd⟩:=id hl;obtain⟨⟨cls2,dd2,data2,eJ⟩,ho2,hc2,n2,hd2⟩:=id hb;simp only at hc hd hc2 hd2;subst hc hd hc2 hd2;have ev:(if a=c then (if decide (ns=ms)=true then false else eN ns ms)else decide (a<c))=cx (a,ns) (c,ms):=by
  unfold cx;dsimp only;by_cases e:ns=ms
  ·rw[Ea e,Ed rfl,e,Zdl]
  ·rw[Eb e,Ef AN]
 refine richCompare_meets_room (op:=.Lt) ⟨_,ho,rfl⟩ ⟨_,ho2,rfl⟩ PySem.F.slot_tuple_lt PySem.F.entry_tuple_lt (DL _ _) (ZgA l b a c t u (.ref r1) (.ref r2) n n2 dd dd2 sl eJ (decide (ns=ms))<|eN ns ms)
  ⟨ho,ho2,Zll h1 h2 hi hj ?_,λprog w E Q hq=>?_,?_⟩ (by omega)
 ·exact hu
 ·exact(ZjL h1 h2 hi hj hu hq:wpAny (model prog w) A.in1 (compareOp .Lt (.ref r1)<|.ref r2) Q E s)
 ·rw[ev];exact⟨(λx=>nomatch x),h⟩
end
end HT
namespace L2
noncomputable def ZdT:Fn->Bool
 |.tuple _=>true
 |_=>false
mutual
def dZ:Fn->Bool
 |.none=>false
 |.bool _=>false
 |.int _=>false
 |.str _=>false
 |.list _=>true
 |.tuple xs=>fE xs
 |.dict kvs=>jk kvs
def fE:List Fn->Bool
 | []=>false
 |x::xs=>dZ x || fE xs
def jk:List (Fn×Fn)->Bool
 | []=>false
 |(k,v)::r=>ZdT k || dZ v || jk r
end
noncomputable def gT:aL->Fn
 |.inl i=>.int i
 |.inr x=>.str x
theorem Zd4:∀{ks:Fl (aL×V)}{ds:D1},(ks.map λk=>gT k.1).length=ds.length->jk ((ks.map λk=>gT k.1).zip ds)=fE ds
 | [],[],_=>by simp only[BO,Dl,jk,fE]
 | k::ks,d::ds,h=>by
  have hk:ZdT (gT k.1)=false:=by obtain⟨k,v⟩:=k;cases k <;> rfl
  rw[Ax,A0,jk,fE,hk,Bool.false_or,Zd4<|BV h]
 | [],_::_,h=>by cases h
 |_::_,[],h=>by cases h
def Zkb{P:Fs}{w:Ft}{h:Fv}:∀{es:Fl DictEntry}{vs:Fl (aL×Fo)},Pairs (bP P w) es vs->ReadsAll h (es.map (·.key)) (vs.map λq=>gT q.1) []:=by
 intro es vs hp
 induction hp with
 |nil=>exact .nil
 | @cons e kv es kvs h1 h2 _ ih =>
  have h1':jV kv.1 e.key=true:=h1;rcases gS h1' with ⟨i,t,e1,e2⟩|⟨x,t,e1,e2⟩
  ·rw[Ax,Ax,e1,e2];exact ReadsAll.cons (as:=[]) (bs:=[]) (.int i t) ih
  ·rw[Ax,Ax,e1,e2];exact ReadsAll.cons (as:=[]) (bs:=[]) (.str x t) ih
def Zi4{P:Fs}{w:Ft}{es:Fl DictEntry}{vs:Fl (aL×Fo)}(hp:Pairs (bP P w) es vs):es.map (·.val)=vs.map (·.2):=by
 induction hp with
 |nil=>rfl
 |@cons e kv es kvs h1 h2 _ ih=>rw[Ax,Ax,h2,ih]
def Zj7:∀{ks:Fl (aL×V)}{vs:Fl (aL×Fo)},KV ks vs->Vals (ks.map (·.2)) (vs.map (·.2))/\(ks.map (·.1))=vs.map (·.1):=by
 intro ks vs kv;unfold KV at kv
 induction kv with
 |nil=>exact⟨.nil,rfl⟩
 |cons h _ ih=>exact⟨.cons h.2 ih.1,by rw[Ax,Ax,h.1,ih.2]⟩
theorem Zaa:∀{ks ds:D1},ks.length=ds.length->(ks.zip ds).map (·.1)=ks/\(ks.zip ds).map (·.2)=ds
 | [],[],_=>⟨rfl,rfl⟩
 |k::ks,d::ds,h=>by obtain⟨h1,h2⟩:=Zaa<|BV h;rw[A0,Ax,Ax,h1,h2];exact⟨rfl,rfl⟩
 | [],_::_,h=>by cases h
 |_::_,[],h=>by cases h
def ZkC:∀{ks:Fl (D2×V)}{ds:D1},ks≠[]->ks.length=ds.length->dZ (.dict<|(ks.map λk=>PyData.tuple<|k.1.map PyData.int).zip ds)=true
 | [],_,h,_=>absurd rfl h
 |_::_,[],_,h=>by cases h
 | k::ks,d::ds,_,_=>by
  rw[Ax,A0,dZ,jk]
  rfl
mutual
/-- data without lists -/
theorem Dn.readsD{P:Fs}{w:Ft}{H:Hp}{h:Fv}(ok:HOk P w H h):∀{v:V}{d:Fn}{u:Fo},Dn H v d->dZ d=false->RelV v u->∃as,Reads h u d as/\∀b∈as,b≠sysModules
 |_,_,_,.non,_,r=>by cases r;exact⟨_,.none,λb hb=>nomatch hb⟩
 |_,_,_,.bl b,_,r=>by cases r;exact⟨_,.bool b,λb hb=>nomatch hb⟩
 |_,_,_,.int i,_,r=>by obtain⟨t,rfl⟩:=r;exact⟨_,.int i t,λb hb=>nomatch hb⟩
 |_,_,_,.str x,_,r=>by obtain⟨t,rfl⟩:=r;exact⟨_,.str x t,λb hb=>nomatch hb⟩
 | _,_,_,.tup e rs,hd,r=>by
  cases r;obtain⟨z,Fz,rv,o,h1,h2,n,h3⟩:=ok _ _ e;obtain⟨as,q,hq⟩:=DnAll.readsD ok rs (by rw[dZ]at hd;exact hd) rv
  exact⟨_,.tuple h1 h2 h3<|by simpa using q,hq⟩
 |_,_,_,.lst e rs,hd,r=>by rw[dZ]at hd;cases hd
 | _,_,_,.dct (ks:=ks) (ds:=ds) e rs,hd,r=>by
  cases r;obtain⟨z,hsys,vs,kv,o,es,ep,h1,⟨h2,_⟩,h3,_,hp,_⟩:=e.ok ok;obtain⟨k1,k2⟩:=Zj7 kv;have hl:(ks.map λk=>gT k.1).length=ds.length:=by have:=rs.length;rw[Av]at this ⊢;exact this
  have hd2:jk ((ks.map λk=>gT k.1).zip ds)=false:=by rw[dZ]at hd;exact hd
  rw[Zd4 (ks:=ks) hl]at hd2;obtain⟨as,q,hq⟩:=DnAll.readsD ok rs hd2 k1;obtain⟨z1,z2⟩:=Zaa hl;have k3:(ks.map λk=>gT k.1)=vs.map λq=>gT q.1:=by have:=Eg (List.map gT) k2;rw[AR,AR]at this;exact this
  show ∃as,Reads h _ (.dict<|(ks.map λk=>gT k.1).zip ds) as/\_;refine⟨_,.dict (as:=[]) (bs:=as) h1 h2 h3 ?_ ?_,λb hb=>?_⟩
  ·rw[z1,k3];exact Zkb hp
  ·rw[z2,Zi4 hp];exact q
  ·rcases Bh.mp hb with hb|hb
   ·rw[Ce]at hb;rw[hb];exact Eh.mp hsys
   ·exact hq b hb
 | _,_,_,.dcp (ks:=ks) (ds:=ds) hn e rs,hd,r=>by
  rw[ZkC hn (by have:=rs.length;rw[Av]at this;exact this)]at hd
  cases hd
theorem DnAll.readsD{P:Fs}{w:Ft}{H:Hp}{h:Fv}(ok:HOk P w H h):∀{vs:D5}{ds:D1}{us:D3},DnAll H vs ds->fE ds=false->Vals vs us->∃as,ReadsAll h us ds as/\∀b∈as,b≠sysModules
 |_,_,_,.nil,_,r=>by cases r;exact⟨_,.nil,λb hb=>nomatch hb⟩
 | _,_,_,.cons p t,hd,r=>by
  cases r with
  | cons r1 r2 =>
   rw[fE,Bool.or_eq_false_iff]at hd;obtain⟨as,q,hq⟩:=Dn.readsD ok p hd.1 r1;obtain⟨bs,q2,hq2⟩:=DnAll.readsD ok t hd.2 r2;refine⟨_,.cons q q2,λb hb=>?_⟩;rcases Bh.mp hb with hb|hb
   ·exact hq b hb
   ·exact hq2 b hb
end
def Zb9(xs:D5)(H:Hp)(Q:VK):Prop:=∃v d,xs=[v]/\Dn H v d/\(d.hasDict=false\/dZ d=false)/\d.showable=true/\d.depth<=32/\d.shown.length<=sizeLine/\Q (.str d.shown) H
def vJ{X:Cx}{k:Nat}(hr:Room k X.A):dN X (.builtin "repr") Zb9:=by
 intro pins s σ H xs us Q I r h;obtain⟨v,d,rfl,hd,hor,hs,hdp,hz,q⟩:=h;obtain⟨u,rfl,ru⟩:=eB r;have hun:=hr.units;have key:∀(as:Fl Fq),Reads s.heap u d as->(d.hasDict=true->sysModules∉as)->wpAny (model X.prog X.w) X.A (call (.builtin "repr") [u]) (EP X pins σ Q) X.xe s:=by
  intro as rd hsm;have viaRef:∀{a:Fq},u=.ref a->wpAny (model X.prog X.w) X.A (call (.builtin "repr") [u]) (EP X pins σ Q) X.xe s:=λ{a} e=>by subst e;exact repr_of_reads' rd hs hsm hr.gd (by omega) (λ_ _ e=>e) (λh' u' tk hk=>⟨.str d.shown,H,I.kept hk,⟨_,rfl⟩,q⟩) hz
  cases rd with
  |none=>exact PySem.P.repr_of_none ⟨.str "None",H,I.tok _,⟨_,rfl⟩,q⟩
  |bool b=>exact PySem.P.repr_of_bool ⟨.str<|if b then "True" else "False",H,I.tok _,⟨_,rfl⟩,q⟩
  |int i t=>exact PySem.P.repr_of_int (by simpa [PyData.showable]using hs) ⟨.str<|toString i,H,I.tok _,⟨_,rfl⟩,q⟩
  |str x t=>exact PySem.P.repr_of_str ⟨.str<|reprText x,H,I.tok _,⟨_,rfl⟩,q⟩ hz
  |list h1 h2 h3 h4=>exact viaRef rfl
  |tuple h1 h2 h3 h4=>exact viaRef rfl
  |dict h1 h2 h3 h4 h5=>exact viaRef rfl
 rcases hor with hn|hn
 ·obtain⟨as,rd⟩:=Dn.reads I.hok hd hn ru;exact key as rd<|PyData.noDict_hsm hn
 ·obtain⟨as,rd,hsys⟩:=Dn.readsD I.hok hd hn ru;exact key as rd λ_ hm=>hsys _ hm rfl
def iU(d:Fn):Bool:=(!d.hasDict || !dZ d)&&d.showable&&decide (d.depth<=32)&&decide (d.shown.length<=sizeLine)
def jJ:Fl Fn->Fm Fn
 | [d]=>if iU d=true then some (.str d.shown)else none
 |_=>none
def oj:fJ Zb9 jJ:=λPK pa m G H vs ds d Q w hv hd k=>by
 unfold jJ at hd
 split at hd
 ·split at hd
  ·rename_i hc;unfold iU at hc;simp only[AT,Bool.or_eq_true,Ew,C0]at hc;cases hd;cases hv with
   |cons h1 h2=>cases h2;exact⟨_,_,rfl,h1.mono w.sub,hc.1.1.1,hc.1.1.2,hc.1.2,hc.2,k.here w<|.str _⟩
  ·cases hd
 ·cases hd
section
variable{PK:Pk}{X:Cx}{pos:Pos}{i j:DR}
theorem Kn.dct{pa:Fq}{m:Nat}{G H:Hp}{ks:Fl (aL×V)}{ds:D1}{Q:VK}{p:Fq}(k:Kn PK pa m G H (.dict<|(ks.map λk=>match k.1 with|.inl i=>PyData.int i|.inr x=>PyData.str x).zip ds) Q)(w:Wd PK pa m G H)(d:DnAll G (ks.map (·.2)) ds)(hp:H p=none):Q (.ref p) (upd H p<|.dK ks):=by obtain⟨w1,s1⟩:=w.new (o:=.dK ks) hp;exact k _ _ _ s1 w1<|.dct (.inl bY)<|DnAll.mono s1.gs d
def ZnN:PE X (.Dict [] [] pos) (TAe PK<|aC<|.dict []):=ZiV.imp λσ H Q Fy=>by obtain⟨pa,D8,H₀,m,ρ,G,R,q⟩:=Fy;exact λp hp=>Kn.dct (ks:=[]) (ds:=[]) q R.wd .nil hp
noncomputable def ZoA:DY
 |.int k,v=>some (.dict [(.int k,v)])
 |_,_=>none
end
noncomputable def jF:Fl Fn->Fm Fn
 | [.int i]=>if i.natAbs.log2<1920 then some (.str<|toString i)else none
 |_=>none
def Zaj:fJ (λxs H Q=>∃i,xs=[.int i]/\i.natAbs.log2<1920/\Q (.str<|toString i) H) jF:=λPK pa m G H vs ds d Q w hv hd k=>by
 unfold jF at hd
 split at hd
 ·split at hd
  ·rename_i hc;cases hd;cases hv with
   |cons h1 h2=>cases h2;cases h1;exact⟨_,rfl,hc,k.here w<|.str _⟩
  ·cases hd
 ·cases hd
def Zem{d:Fn}(h:iU d=true):bR jJ [d]=.ret (.str d.shown):=by
 show Tr.of (if iU d=true then some (PyData.str d.shown)else none)=_
 rw[Ed h]
 rfl
def Zek{i:Int}(h:i.natAbs.log2<1920):bR jF [.int i]=.ret (.str<|toString i):=by
 show Tr.of (if i.natAbs.log2<1920 then some (PyData.str<|toString i)else none)=_
 rw[Ed h]
 rfl
end L2
namespace PySem
def dk_list_keys:typeLookup (.type "list") "keys"=pure none:=by rw[ER,EE];kernel_rfl
section
variable{prog:Fs}{w:Ft}{A:Fu}{E:DZ}{s:Fp}{a:Fq}{o:Obj}{xs:Array Fo}{k:Nat}
def dk_list_miss{Q:Fm Fo->Fp->Prop}(hx:s.heap.get? a=some o)(hc:o.cls=.type "list")(hdat:o.data=.seq xs k)(hd:o.dict=none)(hA:A.handled=none)
  (h:∀h' tk,(∀b ob,s.heap.get? b=some ob->h'.get? b=some ob)->Q none {s with heap:=h',toks:=tk}) :
  wpAny (model prog w) A (getAttr? (.ref a) "keys") Q E s:=by
 obtain⟨c,dct,dat,sl⟩:=o;simp only at hc hdat hd;subst hc hdat hd;obtain⟨hp,g,d,tk,os⟩:=s;have hT:∀tk',(⟨hp,g,d,tk',os⟩:Fp).TypeIs (.ref a) "list":=λ_=>⟨_,hx,rfl⟩;have f1:=sub_AttributeError;have f3:=F.slot_list_getattribute.lookup;have f4:=F.slot_list_getattribute.bind<|.ref a;have f5:=am_list_getattr_none;unfold getAttr? getAttrBy? getAttrBy
 repeat (any_goals (first|assumption|exact hT _|((with_reducible show wpAny _ _ (call (Value.builtin "list.__getattribute__") _ _) _ _ _);refine EN F.slot_list_getattribute (hT _) am_entry_list_getattribute (F.args_list_getattribute_2 _ _) (meets_getattribute_miss_list a xs k sl "keys" _ dk_list_keys (by decide)<|by size_fits) ⟨hx,hA,λh' tk' e hx'=>?_⟩)|wp_step))
 obtain⟨t',u',he⟩:=hx'.there;show wpAny _ _ (getattributeRaised _ _ _ _ _ _ _) _ _ _;unfold getattributeRaised
 repeat (any_goals (first|assumption|exact h _ _ hx'.keeps|wp_step))
end
section
variable{prog:Fs}{w:Ft}{A:Fu}{E:DZ}{s:Fp}
end
section
variable{prog:Fs}{w:Ft}{A:Fu}{E:DZ}{s:Fp}
end
def F.dk_entry_loop:entryFor table "dict.update.loop"=some Builtin.«dict.update.loop»:=entryFor_of_tree<|by kernel_rfl
def F.dk_plain_loop:plainId "dict.update.loop"=true:=by trivial
section
variable{K:Type}[DecidableEq K]
end
end PySem
namespace L2
section
variable{prog:Fs}{w:Ft}{A:Fu}{R:Result->Fp->Prop}{K:Type}[DecidableEq K]{knd:KeyKind prog w K}{kf:Nat->K}
end
section
variable{prog:Fs}{w:Ft}{A:Fu}{E:DZ}{s:Fp}{K:Type}[DecidableEq K]{knd:KeyKind prog w K}{kf:Nat->K}
end
section
variable{PK:Pk}{X:Cx}{a:Fw}{p p2 pos pos2:Pos}{i:DR}
end
section
variable{X:Cx}{PK:Pk}{e:Fw}{es:Fl Fw}{i:DR}{is:DS}
end
section
variable{prog:Fs}{w:Ft}{A:Fu}{R:Result->Fp->Prop}{K:Type}[DecidableEq K]{knd:KeyKind prog w K}{kf:Nat->K}{lo:Int}
end
section
variable{prog:Fs}{w:Ft}{A:Fu}{E:DZ}{s:Fp}{K:Type}[DecidableEq K]{knd:KeyKind prog w K}{kf:Nat->K}{lo:Int}
end
section
variable{X:Cx}{tg:Fw}
end
variable{PK:Pk}{X:Cx}{is:DS}{ρ:D7}
section
variable{G:Hp}{ks:Fl (aL×V)}{kvs:Fl (Int×Fn)}
end
section
variable{PK:Pk}{pa:Fq}{D8 H₀ G H:Hp}{m:Nat}{σ:St}{ρ:D7}
end
variable{PK:Pk}{X:Cx}{a b c e:Fw}{es:Fl Fw}{pos:Pos}{i j l:DR}{is:DS}{st:Fx}{s:DU}
section
variable{X:Cx}{pins:Fl (Fq×Obj)}{σ:St}{H:Hp}{s:Fp}
end
def ZmC(kx vx target iter:Fw)(scope:Scope)(pos:Pos)(it:Fo)(D:Fq)(env:Env) :
  compTurn (.DictComp kx vx [⟨target,iter,[],0⟩] scope pos) 0 it (.ref D) env=(standAt iter.pos >>= λ_=>pyNext it >>= λr=>match r with
   |none=>pure (.done .next)
   | some v=>letOwnedTupleGo target it v >>= λ_=>assign target env v >>= λ_ =>
    (eval kx env >>= λkv=>holding [kv] (eval vx env) >>= λvv=>standAt {kx.pos with endLine:=vx.pos.endLine,endCol:=vx.pos.endCol} >>= λ_=>holding [kv,vv]<|dictSet D kv vv) >>= λ_ =>
     again (.compLoop (.DictComp kx vx [⟨target,iter,[],0⟩] scope pos) 0 it (.ref D) env)):=by rfl
def ZmH{prog:Fs}{w:Ft}{A:Fu}{R:Result->Fp->Prop}{s:Fp}{kx vx target iter:Fw}{scope:Scope}{pos:Pos}{it:Fo}{D:Fq}{env:Env}(J:Nat->Fp->Prop)
  (step:∀k s0,J k s0->wpAny (model prog w) A (pyNext it) (λgot s1=>match got with
   |none=>R (.ok .next) s1
   | some v=>wpAny (model prog w) A (letOwnedTupleGo target it v) (λ_ s2=>wpAny (model prog w) A (assign target env v) (λ_ s3=>wpAny (model prog w) A (eval kx env) (λkv s4 =>
     wpAny (model prog w) A (eval vx env) (λy s5=>wpAny (model prog w) A (dictSet D kv y) (λ_ s6=>∃j,j<k/\J j s6) (λ_ _=>False) s5) (λ_ _=>False) s4) (λ_ _=>False) s3) (λ_ _=>False) s2) (λ_ _=>False) s1) (λ_ _=>False) s0)
  (k:Nat) (h:J k s):codeAny (model prog w) A (.compLoop (.DictComp kx vx [⟨target,iter,[],0⟩] scope pos) 0 it (.ref D) env) R s:=by
 refine E9 rfl J (λk0 s0 hJ=>?_) k h;show wpAny _ _ ((compTurn (.DictComp kx vx [⟨target,iter,[],0⟩] scope pos) 0 it (.ref D) env).onRaise<|λx=>do noteFrame x env;theTreesLotGoes x) _ _ s0
 apply Fb;rw[ZmC];refine wp (Ep<|wp<|Ei (step k0 s0 hJ) (λgot s1 h1=>?_) λ_ _ z=>z.elim);cases got with
 |none=>exact D9 h1
 | some v =>
  refine wp (Ei h1 (λ_ s2 h2=>?_) λ_ _ z=>z.elim);refine wp (Ei h2 (λ_ s3 h3=>?_) λ_ _ z=>z.elim);refine wp (wp<|Ei h3 (λkv s4 h4=>?_) λ_ _ z=>z.elim);refine wp (Ej<|Ei h4 (λy s5 h5=>?_) λ_ _ z=>z.elim);refine wp (Ep<|Ej<|Ei h5 (λ_ s6 h6=>?_) λ_ _ z=>z.elim);exact D9 ⟨rfl,h6⟩
section
variable{X:Cx}{pins:Fl (Fq×Obj)}{σ:St}{H:Hp}{s:Fp}
def Zk5(kx vx gens scope pos)(env:Env):eval (.DictComp kx vx gens scope pos) env=comprehension (.DictComp kx vx gens scope pos) scope env (firstIterPos gens pos) newDict (firstAsync gens) (firstIter gens env):=by rw[eval]
end
section
variable{X:Cx}{pins:Fl (Fq×Obj)}{σ:St}{H:Hp}{s:Fp}
def Inv.trackT{D:Fq}{ys:Fl (Fl aL×V)}{xs:Fl (Fl aL×Fq×Fo)}(I:Inv X pins σ H s)(hD:H D=none)(ho:s.heap.DictOfH (tupleKind<|bP X.prog X.w) D xs)(r:KT H ys xs)(hz:ys.length<=sizeLine)(hsys:(D==sysModules)=false)
  (hL:D≠X.env.locals) (hs0:X.s₀.heap.objs.size<=D) (hc:∀x c,X.env.cells.lookup x=some c->c≠D) (hp:∀p∈X.pn++pins,p.1≠D):∃o,Inv X pins σ (upd H D<|.frz o<|.dT ys) s:=by
 have ne:∀{b:Fq}{o:HO},H b=some o->b≠D:=λe=>di e hD;obtain⟨o,es,ep,h1,h2,h3,h4,_,h5⟩:=ho;refine⟨o,?_⟩;refine I.step (g':=s.gens) (d':=s.drawn) (t':=s.toks) (h':=s.heap) (ch:=[D]) (λb hb=>?_) (λb o _ _ _ e _=>e) (λb o _ _ _ e _=>⟨o.slots,e⟩) (λb o hb e n=>?_) (λb o _ e=>⟨o,e⟩)
  (λb xs e=>by rw[aM<|ne e];exact e) (λb o u e=>by rw[aM<|ne e];exact e) (λb ps e=>⟨#[],by rw[aM<|ne e,e];simp⟩) (λm hm=>hm) (λb u e=>?_) I.bare
 ·have e:b=D:=by simpa using hb
  subst e;exact⟨.inr hs0,hL,hc,hp⟩
 ·have FZ:b≠D:=by simpa using hb
  rw[aM FZ];exact n
 ·by_cases hb:b=D
  ·subst hb;rw[bY]at e;cases e;exact⟨h1,hz,hsys,xs,r.keeps λc zs q=>by rw[aM<|ne q];exact q,o,es,ep,h1,h2,h3,h4,h5⟩
  ·rw[aM hb]at e;exact(I.hok b u e).stay (λc v _ q=>q) (λc q=>by rw[aM<|ne q];exact q) (λc xs q=>by rw[aM<|ne q];exact q) λc ob xs _ q _=>by rw[aM<|ne q];exact q
end
def Zh2{A:Fu}{P:Fs}{w:Ft}(hu:A.units<cLine):(tupleKind<|bP P w).room A:=hu
def Zj8{H H':Hp}{KA:Fq->Prop}{kvs:Fl (Fl aL×V)}{xs:Fl (Fl aL×Fq×Fo)}(r:KT H kvs xs)(hk:∀x∈xs,KA x.2.1)(st:∀b zs,KA b->H b=some (.tup zs)->H' b=some (.tup zs)):KT H' kvs xs:=by
 induction r with
 |nil=>exact .nil
 |@cons p q ps qs h t ih=>exact .cons ⟨h.1,st _ _ (hk q<|by simp) h.2.1,h.2.2⟩<|ih λx hx=>hk x<|Az _ hx
def Zj9{P:Fs}{w:Ft}{H:Hp}{h:Fv}(ok:HOk P w H h){l:Fl (Fl aL×V)}{m:Fl (Fl aL×Fq×Fo)}(r:KT H l m):∀x∈m,(tupleKind<|bP P w).is h x.1 x.2.1:=by
 induction r with
 |nil=>intro x hx;exact nomatch hx
 | @cons p q ps qs hq t ih =>
  intro x hx;rcases AM.mp hx with e|hx
  ·subst e;exact lh ok<|by rw[<- hq.1];exact hq.2.1
  ·exact ih x hx
def ZeM{P:Fs}{w:Ft}{H:Hp}{h h':Fv}{D:Fq}{l:Fl (Fl aL×V)}{m:Fl (Fl aL×Fq×Fo)}(ok:HOk P w H h')(r:KT H l m)(d:h.DictOfH (tupleKind<|bP P w) D m)(e:∀o,h.get? D=some o->h'.get? D=some o):h'.DictOfH (tupleKind<|bP P w) D m:=by obtain⟨o,es,ep,h1,h2,h3,h4,_,h5⟩:=d;exact⟨o,es,ep,e o h1,h2,h3,h4,Zj9 ok r,h5⟩
def ZaK{KA:Fq->Prop}{xs:Fl (Fl aL×Fq×Fo)}{k:Fl aL}{c:Fq}{u:Fo}(h:∀x∈xs,KA x.2.1):∀x∈storedH xs k c u,KA x.2.1\/x.2.1=c:=by
 intro x hx;unfold storedH at hx
 split at hx
 ·obtain⟨y,hy,rfl⟩:=AU.mp hx;refine .inl ?_;unfold putAt
  split <;> exact h y hy
 ·rcases Bh.mp hx with z|z
  ·exact .inl<|h x z
  ·rw[Ce.mp z];exact .inr rfl
def l8(wi:TI)(n:Nat)(ix:Fl Nat)(g:Blk->TG)(tk te:Blk->TE):TE:=λσ H Q=>wi σ H λJ H1=>∀b:Blk,∃W:Nat->Nat->St->Fl (Fl aL×V)->(Fq->Prop)->Hp->Prop,(∃m,W 0 m (db n ix σ) [] (λ_=>False) H1)/\∀i m τ ys KA H2,W i m τ ys KA H2 ->
 (J.stop i H2/\∀p v o H',H2 p=none->v=V.ref p->H'=upd H2 p (.frz o<|.dT ys)->Q v H') \/
 (J.go i H2/\ys.length<sizeLine/\∀x H3,J.yld i H2 x H3->g b x τ H3 λτ2 H4=>tk b τ2 H4 λkv H5=>te b τ2 H5 λy H6=>∃(z:Fl aL)(c:Fq)(m':Nat),kv=.ref c/\H6 c=some (.tup<|z.map kV)/\(∀b xs,KA b->H2 b=some (.tup xs)->H6 b=some (.tup xs))/\m'<m/\W (i+1) m' τ2 (cZ ys z y) (λb=>KA b\/b=c) H6)
section
variable{X:Cx}{pins:Fl (Fq×Obj)}{σ:St}{H:Hp}{s:Fp}
def ZeU{kx vx target iter:Fw}{scope:Scope}{pos:Pos}{Nx ts:D4}{ix:Fl Nat}{g:Blk->TG}{tk te:Blk->TE}{cl:Fl (Str×Fq)}{s2:Fp}{itv:Fo}{R:Fo->Fq->Result->Fp->Prop}
  {E:DZ} {Q:VK}
  (hu:X.A.units<cLine) (hc:X.calm=true) (hg:∀b,PG (aW X (bN Nx ts ix) scope b) target<|g b) (hk:∀b,PE (aW X (bN Nx ts ix) scope b) kx<|tk b) (he:∀b,PE (aW X (bN Nx ts ix) scope b) vx<|te b)
  (FY:X.N=Nx) (ok:BlkOk Nx X.env.scope scope ix) (cl1:∀x c,cl.lookup x=some c->X.env.cells.lookup x=some c) (cl2:∀y∈scope.names,y.2=.free->∃c,cl.lookup y.1=some c)
  (h2:lW X pins σ target (λJ H1=>∀b:Blk,∃W:Nat->Nat->St->Fl (Fl aL×V)->(Fq->Prop)->Hp->Prop,(∃m,W 0 m (db ts.length ix σ) [] (λ_=>False) H1)/\∀i m τ ys KA H2,W i m τ ys KA H2 ->
   (J.stop i H2/\∀p v o H',H2 p=none->v=V.ref p->H'=upd H2 p (.frz o<|.dT ys)->Q v H') \/
   (J.go i H2/\ys.length<sizeLine/\∀x H3,J.yld i H2 x H3->g b x τ H3 λτ2 H4=>tk b τ2 H4 λkv H5=>te b τ2 H5 λy H6=>∃(z:Fl aL)(c:Fq)(m':Nat),kv=.ref c/\H6 c=some (.tup<|z.map kV)/\(∀b xs,KA b->H2 b=some (.tup xs)->H6 b=some (.tup xs))/\m'<m/\W (i+1) m' τ2 (cZ ys z y) (λb=>KA b\/b=c) H6)) itv s2)
  (hR:∀(D C:Fq)(H':Hp)(s':Fp)(v:V),Inv X pins σ H' s'->v=.ref D->Q v H'->(∃m,s'.heap.Ns C m)->H' C=none->C≠X.env.locals->X.s₀.heap.objs.size<=C->(∀x c,X.env.cells.lookup x=some c->c≠C)->(∀p∈X.pn++pins,p.1≠C) ->
   R (.ref D) C (.ok .next) s') :
  wpAny (model X.prog X.w) X.A newDict (λacc s₃=>wpAny (model X.prog X.w) X.A (newFunctionEnv scope X.env.globals cl [] X.env.qual none .none<|some X.env) (λcenv s₄ =>
   codeAny (model X.prog X.w) X.A (.compStart (.DictComp kx vx [⟨target,iter,[],0⟩] scope pos) 0 itv acc {cenv with scope:=relabel scope X.env}) (R acc cenv.locals) s₄) E s₃) E s2:=by
 obtain⟨it,fp,tn,J,H1,e,I2,T,st2,f2,q2⟩:=h2;subst e;refine Ee<|oa ?_;dsimp only;generalize hG:s2.heap.push {cls:=.type "dict",dict:=none,data:=.dict #[]}=G;have hGs:G.objs.size=s2.heap.objs.size+1:=by rw[<- hG,Bj]
 have FS:∀b∈fp,b<s2.heap.objs.size:=λb hb=>let ⟨o,e,_⟩:=T.obj _ _ st2 b hb;AI e
 have kpG:∀b o,G.get? b=some o->(pushCells (G.push {cls:=.type "dict",data:=.dict #[]}) scope.names).get? b=some o:=λb o e=>Ez _ _ _ _<|v9 _ e;have FN:(pushCells (G.push {cls:=.type "dict",data:=.dict #[]}) scope.names).Ns G.objs.size (λ_=>none):=(Heap.Ns.new G<|.type "dict").keeps<|Ez _ _;obtain⟨sp1,sp2,sp4,sp3⟩:=vG scope.names (G.push {cls:=.type "dict",data:=.dict #[]}) cl;rw[Bj]at sp1 sp2 sp3 sp4;generalize hh3:pushCells (G.push {cls:=.type "dict",data:=.dict #[]}) scope.names=h3 at kpG FN sp1 ⊢;have kp:∀b o,s2.heap.get? b=some o->h3.get? b=some o:=λb o e=>kpG b o<|by rw[<- hG];exact v9 _ e
 have hD3:h3.get? s2.heap.objs.size=some {cls:=.type "dict",data:=.dict #[]}:=kpG _ _<|by rw[<- hG];exact AC _ rfl
 have hDo:h3.DictOfH (tupleKind<|bP X.prog X.w) s2.heap.objs.size []:=⟨_,#[],_,hD3,⟨rfl,rfl,by first|rfl|decide|trivial⟩,rfl,rfl,(λx hx=>nomatch (show x∈([]:Fl (Fl aL×Fq×Fo))from hx)),DF⟩
 have clB:∀x c,cl.lookup x=some c->c<G.objs.size+1:=λx c e=>by obtain⟨v,q⟩:=I2.cell x c<|cl1 x c e;exact B2<|AD q.lt<|by rw[hGs];exact Db _
 have csI:=sp3 clB λx y c e1 e2=>I2.ok.inj x y c (cl1 x c e1)<|cl1 y c e2;have cs1:∀x c,(cellsFrom (G.objs.size+1) scope.names cl).lookup x=some c->X.env.cells.lookup x=some c\/(G.objs.size<c/\h3.IsCell c none/\(x,NameKind.cell)∈scope.names):=λx c e=>by
  rcases sp1 x c e with z|⟨z1,z2,z3⟩
  ·exact .inl<|cl1 x c z
  ·exact .inr ⟨by omega,z2,z3⟩
 have cs2:∀y∈scope.names,(y.2=.free\/y.2=.cell)->∃c,(cellsFrom (G.objs.size+1) scope.names cl).lookup y.1=some c:=λy hy hk=>by
  refine sp2 y.1 ?_;rcases hk with z|z
  ·exact .inr<|cl2 y hy z
  ·exact .inl<|by rw[<- z];exact hy
 have csA:∀x c,(x,NameKind.cell)∈scope.names->(cellsFrom (G.objs.size+1) scope.names cl).lookup x=some c->G.objs.size<=c:=λx c e1 e2=>Ch<|sp4 x c e1 e2;generalize hcs:cellsFrom (G.objs.size+1) scope.names cl=cs at csI cs1 cs2 csA ⊢;generalize hCe:G.objs.size=C at FN cs1 csA ⊢;have hC:s2.heap.objs.size<=C:=by omega
 have hDC:s2.heap.objs.size≠C:=by omega
 let B:Blk:=⟨cs,C,s2,H1,fp,X.pn++pins⟩
 have I3:Inv (aW X (bN Nx ts ix) scope B) [] (db ts.length ix σ) H1 {s2 with heap:=h3}:=qx I2 FY ok cs1 csI cs2 csA f2 FS hC kp FN;have fC:H1 s2.heap.objs.size=none:=I2.hok.fresh<|Aw _;have cellIn:∀x c,cs.lookup x=some c->c≠s2.heap.objs.size:=λx c e=>by
  rcases cs1 x c e with z|⟨z,_,_⟩
  ·obtain⟨v,q⟩:=I2.cell x c z;exact AO q.lt
  ·exact A5<|By hC z
 have pinIn:∀p∈X.pn++pins,p.1<s2.heap.objs.size:=λp hp=>AI (I2.pin p hp).1;have nofrs:s2.heap.objs.size∉frs X.stack:=λhb=>by
  rcases AM.mp (I2.stkSub _ hb)with z|z
  ·exact absurd I2.lt<|by rw[<- z];exact AX _
  ·exact I2.nofs (Aw _) z
 -- a state with the list at Fz place,pinned
 have pinD:∀{τ:St}{H':Hp}{s':Fp}{ob:Obj},Inv (aW X (bN Nx ts ix) scope B) [] τ H' s'->s'.heap.get? s2.heap.objs.size=some ob->H' s2.heap.objs.size=none->(∀v,ob.data≠.cell v)->Inv (aW X (bN Nx ts ix) scope B) [(s2.heap.objs.size,ob)] τ H' s' :=
  λ{τ H' s' ob} I' ho hn hd=>I'.pins_of λp hp=>by
   have e:p=(s2.heap.objs.size,ob):=by simpa using hp
   subst e;exact⟨ho,hn,hDC,nofrs,hd⟩
 obtain⟨W,⟨m0,w0⟩,turn⟩:=q2 B;have stat:∀{H':Hp}{ob:Obj},(∀b∈fp,H' b=none)->∀b∈fp,fL (aW X (bN Nx ts ix) scope B) [(s2.heap.objs.size,ob)] H' b:=λ{H' ob} hn b hb=>by
  refine⟨hn b hb,AO<|AD (FS b hb) hC,λz=>?_,.inl hb,λx c e=>by
   rcases cs1 x c e with z|⟨z,_,_⟩
   ·exact(f2 b hb).2.2.2.2.1 x c z
   ·exact A5 (AD (FS b hb)<|AJ hC<|B5 z),λp hp=>?_⟩
  ·rcases AM.mp (I2.stkSub _ z)with q|q
   ·exact(f2 b hb).2.1 q
   ·exact(f2 b hb).2.2.1 q
  ·rcases Bh.mp hp with z|z
   ·exact(f2 b hb).2.2.2.2.2 p z
   ·have e:p=(s2.heap.objs.size,ob):=by simpa using z
    subst e;exact A5<|FS b hb
 have loop:∀s4:Fp,s4={s2 with heap:=h3} ->
   codeAny (model X.prog X.w) X.A (.compLoop (.DictComp kx vx [⟨target,iter,[],0⟩] scope pos) 0 (.ref it) (.ref s2.heap.objs.size)<|compEnvC scope cs C X.env) (R (.ref s2.heap.objs.size) C) s4:=by
  rintro s4 rfl;refine ZmH (λk s'=>∃i τ ys us ob KA H',Inv (aW X (bN Nx ts ix) scope B) [(s2.heap.objs.size,(ob:Obj))] τ H' s'/\tn i s'.heap/\(∀b∈fp,H' b=none)/\KT H' ys us/\(∀x∈us,KA x.2.1)/\s'.heap.DictOfH (tupleKind<|bP X.prog X.w) s2.heap.objs.size us/\ys.length<=sizeLine/\W i k τ ys KA H') ?_ m0
   ⟨0,_,[],[],_,_,H1,pinD I3 hD3 fC (λv z=>by cases z),T.keep _ _ _ st2 λb hb o e=>kp b o e,λb hb=>(f2 b hb).1,.nil,(λx hx=>nomatch hx),hDo,Bf _,w0⟩
  rintro k s5 ⟨i,τ,ys,us,ob,KA,H5,I5,st5,fr5,rv,hKA,hDO,hz,w5⟩;rcases turn i k τ ys KA H5 w5 with ⟨stop,qn⟩|⟨go,FC,step⟩
  ·have p5:=I5.pin (s2.heap.objs.size,ob) (AA _<|by simp)
   refine thn (T.done (aW X (bN Nx ts ix) scope B) rfl rfl rfl hc i _ s5 τ H5 _ I5 (stat fr5) st5 stop) λgot s6 Fy=>?_;obtain⟨hr,I6⟩:=Fy;subst hr;obtain⟨ho,hn,_,_,_⟩:=I6.pin (s2.heap.objs.size,ob)<|AA _<|by simp
   have hDO6:s6.heap.DictOfH (tupleKind<|bP X.prog X.w) s2.heap.objs.size us:=ZeM I6.hok rv hDO λo e=>by rw[p5.1]at e;cases e;exact ho
   have I7:Inv X pins σ H5 s6:=I2.call' (ch:=fp) (H':=H5) (by exact I6.os) I6.base I6.hok I6.bare λb hb=>⟨(f2 b hb).2.2.2.1,(f2 b hb).2.1,(f2 b hb).2.2.2.2.1,(f2 b hb).2.2.2.2.2⟩
   have hs0:X.s₀.heap.objs.size<=s2.heap.objs.size:=I2.sz;obtain⟨o8,I8⟩:=I7.trackT hn hDO6 rv hz (Eh.mpr<|A5 I2.big) (A5 I2.lt) hs0 (λx c e z=>by obtain⟨v,q⟩:=I2.cell x c e;exact absurd q.lt<|by rw[z];exact AX _)<|λp hp=>AO<|pinIn p hp
   obtain⟨m6,hm6,_⟩:=I6.loc;refine hR _ C _ s6 _ I8 rfl (qn _ _ o8 _ hn rfl rfl) ⟨m6,hm6⟩ ?_ (λz=>?_) (AJ hs0 hC) (λx c e z=>?_) λp hp=>AO<|AD (pinIn p hp) hC
   ·rw[aM<|Ne.symm hDC];exact I6.free
   ·exact absurd (AD I2.lt hC)<|by rw[z];exact AX _
   ·obtain⟨v,q⟩:=I2.cell x c e;exact absurd (AD q.lt hC)<|by rw[z];exact AX _
  ·have p5:=I5.pin (s2.heap.objs.size,ob) (AA _<|by simp)
   refine thn (T.item (aW X (bN Nx ts ix) scope B) rfl rfl rfl hc i _ s5 τ H5 _ I5 (stat fr5) st5 go) λgot s6 Fy=>?_;obtain⟨u,hr,h6⟩:=Fy;subst hr;refine thn h6 λ_ s7 Fy=>?_;obtain⟨x,H7,I7,r7,y7,st7,fr7⟩:=Fy;have I7':=I7.pinned (stat fr7)<|T.obj _ _ st7;refine thn (hg B _ s7 τ H7 x u _ I7' r7<|step x H7 y7) λ_ s8 Fy=>?_;obtain⟨τ8,H8,I8,q8⟩:=Fy;refine thn (hk B _ s8 τ8 H8 _ I8 q8) λkv sk Fy=>?_;obtain⟨vk,Hk,Ik,rk,qk⟩:=Fy;refine thn (he B _ sk τ8 Hk _ Ik qk) λy s9 Fy=>?_;obtain⟨vy,H9,I9,r9,zk,c9,m',ek,ec,stay,hm',w9⟩:=Fy;subst ek;cases (show kv=Value.ref c9 from rk)
   have rv9:KT H9 ys us:=Zj8 rv hKA stay;obtain⟨ho,hn,_,_,_⟩:=I9.pin (s2.heap.objs.size,ob)<|AA _<|Be _<|by simp
   have hDO9:s9.heap.DictOfH (tupleKind<|bP X.prog X.w) s2.heap.objs.size us:=ZeM I9.hok rv9 hDO λo e=>by rw[p5.1]at e;cases e;exact ho
   have lenv:ys.length=us.length:=C8 rv;refine wpAny_dictSet_heap (knd:=tupleKind<|bP X.prog X.w) (k:=zk) (Zh2 hu) (lh I9.hok ec) hDO9 (λh' hpl0 FU=>?_)<|by omega
   have FO:=hpl0;obtain⟨ob',es',ep',FT,hc',FK,_⟩:=hpl0;have I9':Inv (aW X (bN Nx ts ix) scope B) [] τ8 H9 s9:=I9.pins_of λp hp=>absurd hp<|by simp
   have I10:Inv (aW X (bN Nx ts ix) scope B) [] τ8 H9 {s9 with heap:=h',toks:=s9.toks+(tupleKind<|bP X.prog X.w).draws zk}:=I9'.turned (it:=s2.heap.objs.size) (t':=s9.toks+(tupleKind<|bP X.prog X.w).draws zk) (λb o hb e=>(FU.2 b hb).trans e) hn hDC (.inr<|Aw _) cellIn (λp hp=>by have hp':p∈(X.pn++pins)++[]:=hp;rw[A3]at hp';exact AO<|pinIn p hp')
   refine⟨m',hm',i+1,τ8,cZ ys zk vy,storedH us zk c9 y,ob',_,H9,pinD I10 FT hn (λv z=>by rw[FK]at z;cases z),?_,λb hb=>?_,rv9.put zk ec r9,ZaK hKA,FO,by have:=qo ys zk vy;omega,w9⟩
   ·refine T.keep _ _ _ st7 λb hb o e=>?_;have q:=(I9.pin (b,o)<|AA _<|AA _<|fy hb e).1;exact(FU.2 b<|AO<|FS b hb).trans q
   ·obtain⟨o,e,d⟩:=T.obj _ _ st7 b hb;exact(I9.pin (b,o)<|AA _<|AA _<|fy hb e).2.1
 exact codeAny_compStart_dict (loop _ rfl)<|T.self X.A 0 _ _ _ (T.keep _ _ _ st2 λb hb o e=>kp b o e)<|loop _ rfl
def ZcP{kx vx target iter:Fw}{scope:Scope}{pos:Pos}{wi:TI}{g:Blk->TG}{tk te:Blk->TE}(Nx:D4)(ts:D4)(ix:Fl Nat)
  (hu:X.A.units<cLine) (hc:X.calm=true) (hi:PI X target iter wi) (hg:∀b,PG (aW X (bN Nx ts ix) scope b) target<|g b) (hk:∀b,PE (aW X (bN Nx ts ix) scope b) kx<|tk b) (he:∀b,PE (aW X (bN Nx ts ix) scope b) vx<|te b)
  (FY:X.N=Nx) (ok:BlkOk Nx X.env.scope scope ix) (hs:∀x,foldedSetIterable iter X.env x=pure x:=by intro _;rfl) :
  PE X (.DictComp kx vx [⟨target,iter,[],0⟩] scope pos) (l8 wi ts.length ix g tk te):=by intro pins s σ H Q I h;obtain⟨cl,hcl,cl1,cl2⟩:=jZ (scope:=scope) (env:=X.env) λy hy hf=>I.ok.has y.1<|ok.frees y hy hf;rw[Zk5];refine Es (use:=none) rfl hs hcl ok.kind ok.locs (thn (hi pins s σ H _ I h) λv s1 h1=>thn h1 λitv s2 h2=>?_);refine ZeU (R:=λacc C=>compPost (model X.prog X.w) X.A X.xe none (EP X pins σ Q) acc C) hu hc hg hk he FY ok cl1 cl2 h2 ?_;rintro D C H' s' v I' rfl q ⟨m,hm⟩ hn hL h0 FM hp;exact⟨m,hm,λh' FU=>⟨.ref D,H',I'.turned (it:=C) (t':=s'.toks) (λb o hb e=>(FU.2 b hb).trans e) hn hL (.inr h0) FM hp,rfl,q⟩⟩
def Zit{kx vx target iter:Fw}{scope:Scope}{pos pos' spos:Pos}{wi:TI}{g:Blk->TG}{tk te:Blk->TE}{i:Nat}{x:Str}(Nx:D4)(ts:D4)(ix:Fl Nat)
  (hu:X.A.units<cLine) (hc:X.calm=true) (hN:X.N.Nodup) (hix:X.N[i]?=some x) (hx:X.env.scope.names.lookup x=some .local) (hi:PI X target iter wi) (hg:∀b,PG (aW X (bN Nx ts ix) scope b) target<|g b) (hk:∀b,PE (aW X (bN Nx ts ix) scope b) kx<|tk b) (he:∀b,PE (aW X (bN Nx ts ix) scope b) vx<|te b)
  (FY:X.N=Nx) (ok:BlkOk Nx X.env.scope scope ix) (hsw:swapsWith (.DictComp kx vx [⟨target,iter,[],0⟩] scope pos) (some<|.Name x pos') spos.line X.env=pure true) (hs:∀x,foldedSetIterable iter X.env x=pure x:=by intro _;rfl) :
  PS X (.Assign [.Name x pos'] (.DictComp kx vx [⟨target,iter,[],0⟩] scope pos) spos) (dC (l8 wi ts.length ix g tk te)<|dH i):=by
 intro pins s σ H D0 I h;obtain⟨cl,hcl,cl1,cl2⟩:=jZ (scope:=scope) (env:=X.env) λy hy hf=>I.ok.has y.1<|ok.frees y hy hf;rw[E7 _ _ _ _ hsw];refine wp<|Ep<|wp ?_;show wpAny _ X.A (do let _ <- comprehension (.DictComp kx vx [⟨target,iter,[],0⟩] scope pos) scope X.env _ newDict false (eval iter X.env) (some<|assign (.Name x pos') X.env)) _ _ s
 refine wp (thn (Es (use:=some<|assign (.Name x pos') X.env) (Q:=λ_ s'=>SP X pins D0 .next s') rfl hs hcl ok.kind ok.locs (thn (hi pins s σ H _ I h) λv s1 h1=>thn h1 λitv s2 h2=>?_)) λ_ s' hq=>D9<|D9 hq);refine ZeU (R:=λacc C=>compPost (model X.prog X.w) X.A X.xe (some<|assign (.Name x pos') X.env) (λ_ s'=>SP X pins D0 .next s') acc C) (Q:=λx H1=>dH i x σ H1 D0.nx) hu hc hg hk he FY ok cl1 cl2 h2 ?_;rintro D C H' s' v I' rfl q ⟨m,hm⟩ hn hL h0 FM hp;show wpAny _ X.A (assign (.Name x pos') X.env<|.ref D) _ _ _;refine EU<|oz I' hN hix (.inl hx) (show RelV (.ref D) (.ref D)from rfl) (λs'' I'' hch=>?_)<|.inr hx
 obtain⟨a,FU,ha⟩:=hch;have haC:C≠a:=by
  rcases ha with z|z
  ·rw[z];exact hL
  ·exact λe=>FM _ _ z e.symm
 exact⟨m,hm.sameBut FU haC,λh'' hs''=>⟨_,H',I''.turned (it:=C) (t':=s''.toks) (λb o hb e=>(hs''.2 b hb).trans e) hn hL (.inr h0) FM hp,q⟩⟩
end
section
variable{PK:Pk}{X:Cx}{e:Fw}{is:DS}{kx i:DR}
end
noncomputable def pD(kvs:Fl (D2×Fn)):Fn:=.dict<|kvs.map λkv=>(.tuple<|kv.1.map PyData.int,kv.2)
noncomputable def hZ(kvs:Fl (D2×Fn))(k:D2)(v:Fn):Fl (D2×Fn) :=
 if (kvs.any λkv=>decide (kv.1=k))=true then kvs.map (λkv=>if kv.1=k then (kv.1,v)else kv)else kvs++[(k,v)]
theorem qy:∀{a b:D2},a.map (Sum.inl:Int->aL)=b.map Sum.inl->a=b
 | [],[],_=>rfl
 | [],_::_,e=>by cases e
 |_::_,[],e=>by cases e
 |x::xs,y::ys,e=>by rw[Ax,Ax]at e;injection e with e1 e2;rw[Sum.inl.inj e1,qy e2]
def Zkz(a b:D2):decide (a.map (Sum.inl:Int->aL)=b.map Sum.inl)=decide (a=b):=by
 by_cases h:a=b
 ·rw[Ea h,Ea<|by rw[h]]
 ·rw[Eb h,Eb λe=>h<|qy e]
def pf(ks:Fl (D2×V))(k:D2)(v:V):cZ (ks.map ci) (k.map Sum.inl) v=(cZ ks k v).map ci:=by
 have ha:((ks.map ci).any λkv=>decide (kv.1=k.map Sum.inl))=ks.any λkv=>decide (kv.1=k):=by
  induction ks with
  |nil=>rfl
  |cons p ks ih=>rw[Ax,Cj,Cj,ih];show(decide (p.1.map Sum.inl=k.map Sum.inl) || _)=_;rw[Zkz]
 have hm:(ks.map ci).map (λkv=>if kv.1=k.map Sum.inl then (kv.1,v)else kv)=(ks.map λkv=>if kv.1=k then (kv.1,v)else kv).map ci:=by
  clear ha
  induction ks with
  |nil=>rfl
  | cons p ks ih =>
   rw[Ax,Ax,Ax,Ax,ih];by_cases h:p.1=k
   ·rw[Ed h,Ed<|show p.1.map Sum.inl=k.map Sum.inl by rw[h]]
   ·rw[Ef h,Ef λe=>h<|qy e]
 unfold cZ;rw[ha,hm]
 split
 ·rfl
 ·rw[Bu]
  rfl
section
variable{G G':Hp}{ks:Fl (D2×V)}{kvs:Fl (D2×Fn)}
theorem KP.any(h:KP G ks kvs)(k:D2):(ks.any λkv=>decide (kv.1=k))=kvs.any λkv=>decide (kv.1=k):=by
 induction h with
 |nil=>rfl
 |cons _ _ ih=>rw[Cj,Cj,ih]
def KP.snoc(h:KP G ks kvs){k:D2}{v:V}{d:Fn}(hd:Dn G v d):KP G (ks++[(k,v)]) (kvs++[(k,d)]):=by
 induction h with
 |nil=>exact .cons hd .nil
 |cons h1 _ ih=>exact .cons h1 ih
theorem KP.map(h:KP G ks kvs){k:D2}{v:V}{d:Fn}(hd:Dn G v d):KP G (ks.map λkv=>if kv.1=k then (kv.1,v)else kv) (kvs.map λkv=>if kv.1=k then (kv.1,d)else kv):=by
 induction h with
 |nil=>exact .nil
 | @cons i u x ks kvs h1 _ ih =>
  rw[Ax,Ax];by_cases hk:i=k
  ·rw[Ed hk,Ed hk];exact .cons hd ih
  ·rw[Ef hk,Ef hk];exact .cons h1 ih
def KP.put(h:KP G ks kvs)(k:D2){v:V}{d:Fn}(hd:Dn G v d):KP G (cZ ks k v) (hZ kvs k d):=by
 unfold cZ hZ;rw[h.any]
 split
 ·exact h.map hd
 ·exact h.snoc hd
def KP.vals(h:KP G ks kvs):DnAll G (ks.map (·.2)) (kvs.map (·.2)):=by
 induction h with
 |nil=>exact .nil
 |cons h1 _ ih=>exact .cons h1 ih
theorem KP.zip(h:KP G ks kvs):((ks.map λk=>PyData.tuple<|k.1.map PyData.int).zip<|kvs.map (·.2))=kvs.map λkv=>(.tuple<|kv.1.map PyData.int,kv.2):=by
 induction h with
 |nil=>rfl
 |cons h1 _ ih=>rw[Ax,Ax,A0,ih,Ax]
def KP.ne(h:KP G ks kvs)(hn:kvs≠[]):ks≠[]:=by
 cases h with
 |nil=>exact absurd rfl hn
 |cons _ _=>exact List.cons_ne_nil _ _
def KP.dn(h:KP G ks kvs)(hn:kvs≠[]){a:Fq}{o:Obj}(r:G a=some (.frz o<|.dT<|ks.map ci)):Dn G (.ref a) (pD kvs) :=
 Eq.mp (Eg (λz=>Dn G (V.ref a)<|PyData.dict z) h.zip) (Dn.dcp (h.ne hn) r h.vals)
end
def Kn.pd{PK:Pk}{pa:Fq}{m:Nat}{G H:Hp}{ks:Fl (D2×V)}{kvs:Fl (D2×Fn)}{Q:VK}{p:Fq}(k:Kn PK pa m G H (pD kvs) Q)(hn:kvs≠[])(w:Wd PK pa m G H)(d:KP G ks kvs)(hp:H p=none)(o:Obj):Q (.ref p) (upd H p<|.frz o<|.dT<|ks.map ci):=by obtain⟨w1,s1⟩:=w.new (o:=.frz o<|.dT<|ks.map ci) hp;exact k _ _ _ s1 w1<|(d.mono s1.gs).dn hn bY
section
variable{PK:Pk}{X:Cx}{e:Fw}{is:DS}{kx i j:DR}
def eu:Fl (D2×Fn)->Fl Fn->Fm Fn
 |kvs,[]=>if kvs.isEmpty=true then none else some (pD kvs)
 |kvs,.tuple [.tuple ks,v]::ps=>(ints? ks).bind λns=>eu (hZ kvs ns v) ps
 |_,_=>none
def zh(i:DR)(τ:D7):Fn->Tr Fn
 | .tuple ks=>match ints? ks with
  |some ns=>(i τ).bind λv=>.ret (.tuple [.tuple<|ns.map PyData.int,v])
  |none=>.fail
 |_=>.fail
def iD(kx i:DR)(τ:D7):Tr Fn:=(kx τ).bind<|zh i τ
def jw(is:DS)(n:Nat)(ix:Fl Nat)(g:DX)(kx i:DR):DR:=λρ =>
 (is ρ).bind λxs=>if small xs.length=true then (bJ (λx=>(Tr.of<|g x<|blk n ix ρ).bind<|iD kx i) xs).bind λps=>Tr.of (eu [] ps)else .fail
def ZeL{n:Nat}{ix:Fl Nat}{g:DX}(hn:fg n g):∀σ H Q,TAe PK (jw is n ix g kx i) σ H Q->l8 (cX PK is) n ix (λ_=>dB PK g) (λ_=>TAe PK kx) (λ_=>TAe PK i) σ H Q:=by
 rintro σ H Q ⟨pa,D8,H₀,m,ρ,G,R,z⟩;refine⟨pa,D8,H₀,m,ρ,G,R,Tr.ok_mono (Tr.ok_bind.mp z) λm1 xs k J G1 H1 s1 w1 jo=>λB=>?_⟩;obtain⟨hs,k⟩:=gf k;have hs:xs.length<=sizeLine:=Ec hs
 let el:Fn->Tr Fn:=λx=>(Tr.of<|g x<|blk n ix ρ).bind<|iD kx i
 let W:Nat->Nat->St->Fl (Fl aL×V)->(Fq->Prop)->Hp->Prop:=λk mm τ ys KA H2=>mm=xs.length-k/\k<=xs.length/\ys.length<=k/\∃m G2 ks kvs,ys=ks.map ci/\Sub G1 G2/\Stp pa G H G2 H2/\Rl PK pa D8 H₀ m τ (blk n ix ρ) G2 H2 /\
  KP G2 ks kvs/\(∀c,KA c->∃o,G2 c=some o)/\((bJ el<|xs.drop k).bind λzs=>Tr.of<|eu kvs zs).ok m λm' d=>Kn PK pa m' G H d Q
 refine⟨W,⟨xs.length,rfl,Bf _,Aw _,m1,G1,[],[],rfl,.refl,s1,(R.step s1 w1).blk n ix,.nil,(λ_ h=>h.elim),k⟩,?_⟩;rintro k mm τ ys KA H2 ⟨rfl,hk,hy,m2,G2,ks,kvs,rfl,sb,st2,R2,dn,hKA,k2⟩;obtain⟨j1,j2⟩:=jo m2 G2 H2 sb R2.wd;by_cases FC:k<xs.length
 ·have hx:xs[k]?=some xs[k]:=by simp[FC]
  obtain⟨jg,jy⟩:=j1 k _ hx;refine .inr ⟨jg,by omega,λx H3 y=>?_⟩
  obtain⟨G3,s3,w3,d3⟩:=jy x H3 y;rw[AY FC]at k2;unfold bJ at k2;rw[Tr.ok_bind,Tr.ok_bind,Tr.ok_bind]at k2;obtain⟨ρ3,hg3,k3⟩:=Tr.ok_of k2;refine⟨pa,D8,H₀,m2,_,G3,_,ρ3,R2.step s3 w3,d3,hg3,λτ4 R4=>?_⟩;unfold iD at k3;refine⟨pa,D8,H₀,m2,ρ3,G3,R4,Tr.ok_mono (Tr.ok_bind.mp k3) λm5 kd k5=>?_⟩;intro v G5 H5 s5 w5 d5;have s35:=s3.trans s5 w3.some;obtain⟨pl,pk⟩:=hn _ _ _ hg3;obtain⟨ns,rfl,k7⟩:∃ns:D2,kd=.tuple (ns.map PyData.int)/\((i ρ3).bind λv=>Tr.ret<|PyData.tuple [.tuple<|ns.map PyData.int,v]).ok m5 λm' y=>((bJ el<|xs.drop<|k+1).bind λzs=>Tr.ret (y::zs)).ok m' λm' zs=>(Tr.of<|eu kvs zs).ok m' λm'' d=>Kn PK pa m'' G H d Q:=by
   cases kd with
   | tuple kk =>
    unfold zh at k5;dsimp only at k5;cases hi:ints? kk with
    |none=>rw[hi]at k5;exact k5.elim
    | some ns =>
     rw[hi]at k5;have hkk:kk=ns.map PyData.int:=by
      cases d5 with
      |tup h1 h2=>exact(h2.ints_inv hi).2
     subst hkk;exact⟨ns,rfl,k5⟩
   |_=>exact k5.elim
  obtain⟨c,rfl,hc⟩:∃c,v=.ref c/\G5 c=some (.tup<|ns.map V.int):=by
   cases d5 with
   | tup h1 h2 =>
    obtain⟨e1,_⟩:=h2.ints_inv<|ints?_map ns;exact⟨_,rfl,by rw[<- e1];exact h1⟩
  refine⟨pa,D8,H₀,m5,ρ3,G5,R4.step s5 w5,Tr.ok_mono (Tr.ok_bind.mp k7) λm6 yd k6=>?_⟩;intro u G6 H6 s6 w6 d6;have s56:=s35.trans s6 w5.some;have k8:((bJ el<|xs.drop<|k+1).bind λzs=>Tr.of<|eu (hZ kvs ns yd) zs).ok m6 λm' d=>Kn PK pa m' G H d Q:=by have k6':((bJ el<|xs.drop<|k+1).bind λzs=>Tr.ret (PyData.tuple [.tuple<|ns.map PyData.int,yd]::zs)).ok m6 λm' zs=>(Tr.of<|eu kvs zs).ok m' λm'' d=>Kn PK pa m'' G H d Q:=k6;rw[Tr.ok_bind]at k6' ⊢;refine Tr.ok_mono k6' λm' zs q=>?_;have q':(Tr.of<|eu kvs (PyData.tuple [.tuple<|ns.map PyData.int,yd]::zs)).ok m' λm'' d=>Kn PK pa m'' G H d Q:=q;unfold eu at q';rw[ints?_map]at q';exact q'
  have hmap:(ns.map (Sum.inl:Int->aL)).map kV=ns.map V.int:=by rw[AR];rfl
  refine⟨ns.map Sum.inl,c,xs.length-(k+1),rfl,?_,λb zs hb hz=>?_,by omega,rfl,FC,?_,m6,G6,cZ ks ns u,hZ kvs ns yd,pf _ _ _,sb.trans s56.gs,st2.trans s56 R2.wd.some,?_,(KP.mono s56.gs dn).put ns d6,λb hb=>?_,k8⟩
  ·rw[hmap];exact w6.sub _ _<|s6.gs _ _ hc
  ·obtain⟨o,ho⟩:=hKA b hb;refine s56.hk b _ hz λz=>?_;rw[z,R2.wd.gpa]at ho;cases ho
  ·rw[pf,Av];rw[Av]at hy;have:=qo ks ns u;omega
  ·refine((R4.step s5 w5).step s6 w6).weak pl λq sl hq=>?_;by_cases hqn:q<n
   ·left
    unfold blk at hq;rw[AV<|by simpa using hqn,Ba,Ed hqn]at hq
    cases hq
    rfl
   ·right
    rw[pk q<|Ca hqn];exact hq
  ·rcases hb with hb|rfl
   ·obtain⟨o,ho⟩:=hKA b hb;exact⟨o,s56.gs _ _ ho⟩
   ·exact⟨_,s6.gs _ _ hc⟩
 ·have e:k=xs.length:=by omega
  subst e;refine .inl ⟨j2,λp v o H' hp ev eH=>?_⟩;subst ev eH;rw[Br]at k2;have k2':(Tr.of<|eu kvs []).ok m2 λm' d=>Kn PK pa m' G H d Q:=k2;unfold eu at k2';have FD:kvs≠[]:=by intro e;rw[e]at k2';exact k2'.elim
  have hne':kvs.isEmpty=false:=by cases kvs with|nil=>exact absurd rfl FD|cons _ _=>rfl
  rw[hne']at k2';have k3:Kn PK pa m2 G H (pD kvs) Q:=k2';exact(Kn.later k3 st2 R2.wd.some).pd FD R2.wd dn hp o
def ZfW{n:Nat}{ix:Fl Nat}{g:DX}(h:PE X e (l8 (cX PK is) n ix (λ_=>dB PK g) (λ_=>TAe PK kx)<|λ_=>TAe PK i))(hn:fg n g):PE X e (TAe PK<|jw is n ix g kx i):=h.imp<|ZeL hn
def Zny{st:Fx}{n k:Nat}{ix:Fl Nat}{g:DX}(h:PS X st (dC (l8 (cX PK is) n ix (λ_=>dB PK g) (λ_=>TAe PK kx)<|λ_=>TAe PK i)<|dH k))(hn:fg n g):PS X st (bH PK<|bb k<|jw is n ix g kx i) :=
 bf (h.imp<|ox<|ZeL hn)
def fS(kvs:Fl (Fn×Fn))(ns:D2):Fm Fn:=(kvs.find? λkv=>match kv.1 with|.tuple xs=>decide (ints? xs=some ns)|_=>false).map (·.2)
def eO:DY
 |.dict kvs,.tuple ks=>(ints? ks).bind (fS kvs)
 |_,_=>none
theorem ZeT{G:Hp}{ns:D2}{d:Fn}:∀{ks:Fl (D2×V)}{ds:D1},DnAll G (ks.map (·.2)) ds->fS ((ks.map λk=>PyData.tuple<|k.1.map PyData.int).zip ds) ns=some d->∃v,gr (ks.map ci) (ns.map Sum.inl)=some v/\Dn G v d
 | [],_,h,e=>by cases h;cases e
 | kv::ks,_,h,e=>by
  rw[Ax]at h;cases h with
  | @cons _ _ x ds h1 h2 =>
   rw[Ax,A0]at e;unfold fS at e;rw[BA]at e;dsimp only at e;rw[ints?_map]at e;by_cases hk:kv.1=ns
   ·rw[Ea<|by rw[hk]]at e
    have e':some x=some d:=e;cases e';exact⟨kv.2,om<|by show kv.1.map Sum.inl=_;rw[hk],h1⟩
   ·rw[Eb λz=>hk<|A8 z]at e;obtain⟨v,hv,dn⟩:=ZeT h2 (show fS _ ns=some d from e)
    exact⟨v,by rw[Ax,on λz=>hk<|qy z];exact hv,dn⟩
theorem ZeS{ns:D2}:∀{ks:Fl (aL×V)}{ds:D1},fS ((ks.map λk=>match k.1 with|.inl i=>PyData.int i|.inr x=>PyData.str x).zip ds) ns=none
 | [],_=>rfl
 |_::_,[]=>rfl
 |k::ks,d::ds=>by rw[Ax,A0];unfold fS;rw[BA];obtain⟨k,v⟩:=k;cases k <;> exact ZeS
def ju(h:PE X e (ZaD (TAe PK i)<|TAe PK j)):PE X e (TAe PK<|ae eO i j):=h.imp λσ H Q Fy=>by
 obtain⟨pa,D8,H₀,m,ρ,G,R,q⟩:=Fy;refine TAe.then R q λm1 x v G1 H1 s1 w1 R1 d1 q1=>?_;refine TAe.then R1 q1 λm2 y u G2 H2 s2 w2 R2 d2 q2=>?_;obtain⟨z,hz,k⟩:=Tr.ok_of q2;cases d2 with
 | @tup b vs es h1 h2 =>
  cases d1 with
  | @dcp a o ks ds r0 r1 r2 =>
   have hz':((ints? es).bind<|fS _)=some z:=hz;cases hi:ints? es with
   |none=>rw[hi]at hz';cases hz'
   | some ns =>
    rw[hi]at hz';obtain⟨v',hv,dn⟩:=ZeT r2 hz';obtain⟨e1,_⟩:=h2.ints_inv hi;refine⟨_,v',rfl,.inr ⟨_,ns.map Sum.inl,b,(Or.inr ⟨o,w2.sub _ _<|s2.gs _ _ r1⟩),rfl,?_,hv.symm⟩,(Kn.later k (s1.trans s2 w1.some) w2.some).here w2<|dn.mono s2.gs⟩;rw[AR];have:=w2.sub _ _ h1;rw[e1]at this;exact this
  | @dct _ ks ds r1 r2 =>
   have hz':((ints? es).bind<|fS _)=some z:=hz;cases hi:ints? es with
   |none=>rw[hi]at hz';cases hz'
   | some ns =>
    rw[hi]at hz';have hz'':fS _ ns=some z:=hz';exact nomatch (Eq.trans (Eq.symm<|ZeS (ks:=ks) (ds:=ds) (ns:=ns)) hz'')
  |_=>cases hz
 |_=>cases d1 <;> cases hz
end
abbrev Pr:=Int×D2
def fV:Fl Pr->Pr
 | []=>(0,[])
 |x::r=>r.foldl (λb y=>if HT.cx y b=true then y else b) x
theorem Zfw:∀(nss:Fl Pr)(k:Nat),k<nss.length->nss[argBest (λi j=>HT.cx (nss[i]?.getD (0,[]))<|nss[j]?.getD (0,[])) k]?=some (fV<|nss.take<|k+1)
 | [],k,h=>by cases h
 |x::r,0,h=>by simp[argBest,fV]
 | x::r,k+1,h=>by
  have ih:=Zfw (x::r) k<|by omega
  have hk:k<r.length:=by simpa using h
  have et:(x::r).take (k+1+1)=(x::r).take (k+1)++[r[k]]:=by
   rw[CO,CO,Dm,Au hk]
   rfl
  have eb:fV ((x::r).take<|k+1+1)=if HT.cx r[k] (fV<|(x::r).take<|k+1)=true then r[k]else fV ((x::r).take<|k+1):=by
   rw[et,CO];show(r.take k++[r[k]]).foldl (λb y=>if HT.cx y b=true then y else b) x=_
   rw[Dq]
   rfl
  have ex:(x::r)[k+1]?=some r[k]:=by rw[A6,Au hk]
  rw[eb];unfold argBest;have e1:((x::r)[k+1]?).getD (0,[])=r[k]:=by rw[ex];rfl
  have e2:((x::r)[argBest (λi j=>HT.cx ((x::r)[i]?.getD (0,[]))<|(x::r)[j]?.getD (0,[])) k]?).getD (0,[])=fV ((x::r).take<|k+1):=by rw[ih];rfl
  rw[e1,e2]
  split
  ·exact ex
  ·exact ih
section
variable{X:Cx}
def Zcg:Fl V->Hp->VK->Prop:=λxs H Q=>∃(l:Fq)(vs:D5)(nss:Fl Pr),xs=[.ref l]/\H l=some (.lst vs)/\nss≠[]/\vs.length=nss.length /\
 (∀i:Nat,∀p:Pr,nss[i]?=some p->∃a c:Fq,vs[i]?=some (.ref a)/\H a=some (.tup [.int p.1,.ref c])/\H c=some (.tup<|p.2.map V.int)) /\
 ∀(i:Nat)(a:Fq),vs[i]?=some (.ref a)->nss[i]?=some (fV nss)->Q (.ref a) H
def ZmV{k:Nat}(hr:Room k X.A)(hc:X.calm=true):dN X (.builtin "min") Zcg:=by
 intro pins s σ H xs us Q I r h;obtain⟨l,vs,nss,rfl,hl,FD,hlen,hat,q⟩:=h;obtain⟨u,rfl,ru⟩:=eB r;cases ru;obtain⟨us,r1,p1⟩:=dU (b:=true) I.hok hl;have hul:=r1.length;have p1':s.heap.IsList l us.toArray:=p1;have FV:0<nss.length:=List.length_pos_iff.mpr FD;have look:∀(i:Nat)(v:Fo),us.toArray[i]?=some v->∃(a c:Fq)(p:Pr),v=.ref a/\nss[i]?=some p/\vs[i]?=some (.ref a)/\H a=some (.tup [.int p.1,.ref c])/\H c=some (.tup<|p.2.map V.int):=λi v hv=>by
  have hv':us[i]?=some v:=by simpa using hv
  have hi:i<us.length:=(Ay.mp hv').1;have hi2:i<nss.length:=by omega
  obtain⟨a,c,ha,hH,hC⟩:=hat i nss[i]<|Au hi2;obtain⟨u',hu',ru'⟩:=r1.get ha;rw[hv']at hu';cases hu';cases ru';exact⟨a,c,nss[i],rfl,Au hi2,ha,hH,hC⟩
 have pair:∀{a c:Fq}{p:Pr},H a=some (.tup [.int p.1,.ref c])->∃t,IsTup s.heap a #[.int p.1 t,.ref c]:=λ{a c p} h=>by
  obtain⟨u1,w1,t1⟩:=dU (b:=false) I.hok h;cases w1 with
  | cons r1 w1 =>
   cases w1 with
   | cons r2 w1 =>
    cases w1;obtain⟨t,rfl⟩:=r1;cases r2;exact⟨t,t1⟩
 refine ZjD (bt:=λi j=>HT.cx (nss[i]?.getD (0,[]))<|nss[j]?.getD (0,[])) (I.ok.hd hc) p1' (by rw[AG];omega) (λi j vi vj s' Q' E' _ kp hi hj hq=>?_) λh' tk v kp hv=>?_
 ·obtain⟨a,ca,p,rfl,e1,_,hHa,hCa⟩:=look i vi hi;obtain⟨b,cb,p',rfl,e2,_,hHb,hCb⟩:=look j vj hj;obtain⟨ta,t1⟩:=pair hHa;obtain⟨tb,t2⟩:=pair hHb;obtain⟨u3,w3,t3⟩:=dU (b:=false) I.hok hCa;obtain⟨u4,w4,t4⟩:=dU (b:=false) I.hok hCb;have i1:IntsAre u3.toArray.toList p.2:=yH w3;have i2:IntsAre u4.toArray.toList p'.2:=yH w4;have q1:IsTup s'.heap a #[.int p.1 ta,.ref ca]:=SqAt.at (b:=false) t1 λo e=>kp a o e;have q2:IsTup s'.heap b #[.int p'.1 tb,.ref cb]:=SqAt.at (b:=false) t2 λo e=>kp b o e;have q3:IsTup s'.heap ca u3.toArray:=SqAt.at (b:=false) t3 λo e=>kp ca o e;have q4:IsTup s'.heap cb u4.toArray:=SqAt.at (b:=false) t4 λo e=>kp cb o e;have hq':Q' (.bool<|HT.cx (p.1,p.2) (p'.1,p'.2)) s':=by
   have:HT.cx (nss[i]?.getD (0,[])) (nss[j]?.getD (0,[]))=HT.cx p p':=by rw[e1,e2];rfl
   have hq2:Q' (.bool<|HT.cx (nss[i]?.getD (0,[]))<|nss[j]?.getD (0,[])) s':=hq;rw[this]at hq2;exact hq2
  exact HT.ZjM q1 q2 q3 q4 i1 i2 (show X.A.units+1+1<cLine from by have:=hr.units;omega) hq'
 ·obtain⟨a,ca,p,rfl,e1,e2,hHa,hCa⟩:=look _ v hv;have hsz:us.toArray.size-1=nss.length-1:=by rw[AG];omega
  rw[hsz]at e1 e2;have hb:=Zfw nss (nss.length-1)<|by omega
  have et:nss.take (nss.length-1+1)=nss:=Cc<|by omega
  rw[et]at hb;exact⟨.ref a,H,I.kept kp,rfl,q _ a e2 hb⟩
noncomputable def eF(p:Pr):Fn:=.tuple [.int p.1,.tuple<|p.2.map PyData.int]
def prs?:Fl Fn->Fm (Fl Pr)
 | []=>some []
 |.tuple [.int a,.tuple ks]::xs=>(ints? ks).bind λns=>(prs? xs).bind λr=>some ((a,ns)::r)
 |_=>none
theorem prs?_map:∀ps:Fl Pr,prs? (ps.map eF)=some ps
 | []=>rfl
 | p::r=>by
  rw[Ax];show(ints?<|p.2.map PyData.int).bind _=_;rw[ints?_map];show(prs?<|r.map eF).bind _=_;rw[prs?_map r]
  rfl
theorem ZcC{H:Hp}:∀{vs:D5}{ds:D1}{ps:Fl Pr},DnAll H vs ds->prs? ds=some ps->vs.length=ps.length/\ds=ps.map eF/\∀i:Nat,∀p:Pr,ps[i]?=some p->∃a c:Fq,vs[i]?=some (.ref a)/\H a=some (.tup [.int p.1,.ref c])/\H c=some (.tup<|p.2.map V.int)
 | [],_,ps,.nil,h=>by cases h;exact⟨rfl,rfl,λi p h=>by cases h⟩
 | v::vs,_,ps,.cons (d:=d) (ds:=ds) hd ht,h=>by
  unfold prs? at h
  split at h
  ·rename_i e;cases e
  ·rename_i a ks xs e;injection e with e1 e2;subst e1 e2;cases hi:ints? ks with
   |none=>rw[hi]at h;cases h
   | some ns =>
    cases e2:prs? ds with
    |none=>rw[hi,e2]at h;cases h
    | some r =>
     rw[hi,e2]at h;have h':(a,ns)::r=ps:=A8 h;subst h';obtain⟨k1,k2,k3⟩:=ZcC ht e2;cases hd with
     | @tup b us _ a1 a2 =>
      cases a2 with
      | cons b1 b2 =>
       cases b2 with
       | cons b2 b3 =>
        cases b3;cases b1;cases b2 with
        | @tup c ws _ c1 c2 =>
         obtain⟨rfl,rfl⟩:=c2.ints_inv hi;refine⟨by simp[k1],by rw[Ax,<- k2];rfl,λi p hp=>?_⟩
         cases i with
         |zero=>cases hp;exact⟨b,c,rfl,a1,c1⟩
         |succ i=>exact k3 i p hp
  ·cases h
def pY:Fl Fn->Fm Fn
 | [.list xs]=>(prs? xs).bind λps=>if ps.isEmpty=true then none else some (eF<|fV ps)
 |_=>none
def Zgk:fJ Zcg pY:=λPK pa m G H vs ds d Q w hv hd k=>by
 unfold pY at hd
 split at hd
 ·rename_i xs;cases e1:prs? xs with
  |none=>rw[e1]at hd;cases hd
  | some ps =>
   rw[e1]at hd;have FK:(if ps.isEmpty=true then none else some<|eF<|fV ps)=some d:=hd
   cases hv with
   | cons h1 h2 =>
    cases h2;cases h1 with
    | @lst l us _ a1 a2 =>
     obtain⟨k1,k2,k3⟩:=ZcC a2 e1
     split at FK
     ·cases FK
     ·rename_i FD;cases FK;refine⟨l,us,ps,rfl,w.sub _ _ a1,λz=>FD<|by rw[z];rfl,k1,λi p hi=>?_,λi a ham hHa=>?_⟩
      ·obtain⟨a,c,e1,e2,e3⟩:=k3 i p hi;exact⟨a,c,e1,w.sub _ _ e2,w.sub _ _ e3⟩
      ·obtain⟨a',c,e1,e2,e3⟩:=k3 i _ hHa;rw[ham]at e1;cases e1;exact k.here w<|.tup e2<|.cons (.int _)<|.cons (.tup e3<|DnAll.ints _) .nil
 ·cases hd
end
def ZmB(elt t0 i0 t1 i1:Fw)(scope:Scope)(pos:Pos)(it acc:Fo)(env:Env) :
  compTurn (.ListComp elt [⟨t0,i0,[],0⟩,⟨t1,i1,[],0⟩] scope pos) 0 it acc env=(standAt i0.pos >>= λ_=>pyNext it >>= λr=>match r with
   |none=>pure (.done .next)
   | some v=>letOwnedTupleGo t0 it v >>= λ_=>assign t0 env v >>= λ_ =>
    (eval i1 env >>= λx=>standAt i1.pos >>= λ_=>foldedSetIterable i1 env x >>= λx=>holding [x] (pyIter x) >>= λj =>
     runOwn (.compStart (.ListComp elt [⟨t0,i0,[],0⟩,⟨t1,i1,[],0⟩] scope pos) 1 j acc env) env >>= λ_ =>
     again (.compLoop (.ListComp elt [⟨t0,i0,[],0⟩,⟨t1,i1,[],0⟩] scope pos) 0 it acc env))):=by rfl
def ZmA(elt t0 i0 t1 i1:Fw)(scope:Scope)(pos:Pos)(it acc:Fo)(env:Env) :
  compTurn (.ListComp elt [⟨t0,i0,[],0⟩,⟨t1,i1,[],0⟩] scope pos) 1 it acc env=(standAt i1.pos >>= λ_=>pyNext it >>= λr=>match r with
   |none=>pure (.done .next)
   | some v=>letOwnedTupleGo t1 it v >>= λ_=>assign t1 env v >>= λ_ =>
    (eval elt env >>= λx=>call (.builtin "list.append") [acc,x] >>= λ_=>pure ()) >>= λ_ =>
     again (.compLoop (.ListComp elt [⟨t0,i0,[],0⟩,⟨t1,i1,[],0⟩] scope pos) 1 it acc env)):=by rfl
section
variable{prog:Fs}{w:Ft}{A:Fu}{R:Result->Fp->Prop}{s:Fp}{elt t0 i0 t1 i1:Fw}{scope:Scope}{pos:Pos}{it acc:Fo}{env:Env}
noncomputable def ZaL(elt t0 i0 t1 i1:Fw)(scope:Scope)(pos:Pos)(it acc:Fo)(env:Env)(plain:Bool):Sem Fin :=
 let loop:Fo->Sem Fin:=λj=>again<|.compLoop (.ListComp elt [⟨t0,i0,[],0⟩,⟨t1,i1,[],0⟩] scope pos) 1 j acc env
 if plain=true then loop it >>= λf=>pure f
 else rule "comprehension.iter-twice" >>= λ_=>standAt i1.pos >>= λ_=>pyIter it >>= loop
def Zg8(elt t0 i0 t1 i1:Fw)(scope:Scope)(pos:Pos)(it acc:Fo)(env:Env) :
  compStart (.ListComp elt [⟨t0,i0,[],0⟩,⟨t1,i1,[],0⟩] scope pos) 1 it acc env=ask >>= λz=>ZaL elt t0 i0 t1 i1 scope pos it acc env (z.params.followText "comprehension-iter-twice"):=by rfl
def ZmD(h0:codeAny (model prog w) A (.compLoop (.ListComp elt [⟨t0,i0,[],0⟩,⟨t1,i1,[],0⟩] scope pos) 1 it acc env) R s)
  (h:wpAny (model prog w) A (pyIter it) (λj s1=>codeAny (model prog w) A (.compLoop (.ListComp elt [⟨t0,i0,[],0⟩,⟨t1,i1,[],0⟩] scope pos) 1 j acc env) R s1)
   (notedBy (model prog w) A env λx s1=>R (.error x) s1) s) :
  codeAny (model prog w) A (.compStart (.ListComp elt [⟨t0,i0,[],0⟩,⟨t1,i1,[],0⟩] scope pos) 1 it acc env) R s:=by
 have tree:∀E,(∀x s1,notedBy (model prog w) A env (λx s1=>R (.error x) s1) x s1->E x s1)->wpAny (model prog w) A (compStart (.ListComp elt [⟨t0,i0,[],0⟩,⟨t1,i1,[],0⟩] scope pos) 1 it acc env)
   (λfin s1=>match fin with|.done f=>R (.ok f) s1|.again c=>c.quiet=true/\codeAny (model prog w) A c R s1) E s:=λE hE=>by
  rw[Zg8];apply wp;apply wpAny_askSetting;unfold ZaL;cases Params.followText _ _ with
  |true=>exact wp (D9<|D9 ⟨rfl,h0⟩)
  | false =>
   apply wp;apply EH;apply wp;apply Ep;apply wp;exact Ei h (λj s1 hj=>D9 ⟨rfl,hj⟩) hE
 exact codeAny_of_tree<|wpAny_notedAt<|tree _ λ_ _ z=>z
def ZmE(J:Nat->Fp->Prop)
  (step:∀k s0,J k s0->wpAny (model prog w) A (pyNext it) (λgot s1=>match got with
   |none=>R (.ok .next) s1
   | some v=>wpAny (model prog w) A (letOwnedTupleGo t1 it v) (λ_ s2=>wpAny (model prog w) A (assign t1 env v) (λ_ s3=>wpAny (model prog w) A (eval elt env) (λy s4 =>
     wpAny (model prog w) A (call (.builtin "list.append") [acc,y]) (λ_ s5=>∃j,j<k/\J j s5) (λ_ _=>False) s4) (λ_ _=>False) s3) (λ_ _=>False) s2) (λ_ _=>False) s1) (λ_ _=>False) s0)
  (k:Nat) (h:J k s):codeAny (model prog w) A (.compLoop (.ListComp elt [⟨t0,i0,[],0⟩,⟨t1,i1,[],0⟩] scope pos) 1 it acc env) R s:=by
 refine E9 rfl J (λk0 s0 hJ=>?_) k h;show wpAny _ _ ((compTurn (.ListComp elt [⟨t0,i0,[],0⟩,⟨t1,i1,[],0⟩] scope pos) 1 it acc env).onRaise<|λx=>do noteFrame x env;theTreesLotGoes x) _ _ s0
 apply Fb;rw[ZmA];refine wp (Ep<|wp<|Ei (step k0 s0 hJ) (λgot s1 h1=>?_) λ_ _ z=>z.elim);cases got with
 |none=>exact D9 h1
 | some v =>
  refine wp (Ei h1 (λ_ s2 h2=>?_) λ_ _ z=>z.elim);refine wp (Ei h2 (λ_ s3 h3=>?_) λ_ _ z=>z.elim);refine wp (wp<|Ei h3 (λy s4 h4=>?_) λ_ _ z=>z.elim);exact wp<|Ei h4 (λ_ s5 h5=>D9<|D9 ⟨rfl,h5⟩) λ_ _ z=>z.elim
def ZmF(J:Nat->Fp->Prop)(hs:∀x,foldedSetIterable i1 env x=pure x)
  (step:∀k s0,J k s0->wpAny (model prog w) A (pyNext it) (λgot s1=>match got with
   |none=>R (.ok .next) s1
   | some v=>wpAny (model prog w) A (letOwnedTupleGo t0 it v) (λ_ s2=>wpAny (model prog w) A (assign t0 env v) (λ_ s3=>wpAny (model prog w) A (eval i1 env) (λx s4 =>
     wpAny (model prog w) A (pyIter x) (λj s5=>codeAny (model prog w) A (.compStart (.ListComp elt [⟨t0,i0,[],0⟩,⟨t1,i1,[],0⟩] scope pos) 1 j acc env) (λr s6=>(∃f,r=.ok f)/\∃j,j<k/\J j s6) s5)
      (λ_ _=>False) s4) (λ_ _=>False) s3) (λ_ _=>False) s2) (λ_ _=>False) s1) (λ_ _=>False) s0)
  (k:Nat) (h:J k s):codeAny (model prog w) A (.compLoop (.ListComp elt [⟨t0,i0,[],0⟩,⟨t1,i1,[],0⟩] scope pos) 0 it acc env) R s:=by
 refine E9 rfl J (λk0 s0 hJ=>?_) k h;show wpAny _ _ ((compTurn (.ListComp elt [⟨t0,i0,[],0⟩,⟨t1,i1,[],0⟩] scope pos) 0 it acc env).onRaise<|λx=>do noteFrame x env;theTreesLotGoes x) _ _ s0
 apply Fb;rw[ZmB];refine wp (Ep<|wp<|Ei (step k0 s0 hJ) (λgot s1 h1=>?_) λ_ _ z=>z.elim);cases got with
 |none=>exact D9 h1
 | some v =>
  refine wp (Ei h1 (λ_ s2 h2=>?_) λ_ _ z=>z.elim);refine wp (Ei h2 (λ_ s3 h3=>?_) λ_ _ z=>z.elim);refine wp (Ei h3 (λx s4 h4=>?_) λ_ _ z=>z.elim);refine wp<|Ep<|wp<|Er (hs x) ?_;refine wp (Ej<|Ei h4 (λj s5 h5=>?_) λ_ _ z=>z.elim);refine wp<|wpAny_runOwn ?_;refine E8 h5 λr s6 h6=>?_;obtain⟨⟨f,rfl⟩,h6⟩:=h6;exact D9 ⟨rfl,h6⟩
end
def ZiD{fp:Fl Fq}{h:Fv}{p:Fq×Obj}(hp:p∈fQ fp h):p.1∈fp:=by
 obtain⟨b,hb,e⟩:=Dg.mp hp;cases z:h.get? b with
 |none=>rw[z]at e;cases e
 |some o=>rw[z]at e;cases e;exact hb
def wQ(wi:TI)(n:Nat)(ix:Fl Nat)(g:Blk->TG)(wi1:Blk->TI)(g1:Blk->TG)(te:Blk->TE):TE:=λσ H Q=>wi σ H λJ H1=>∀b:Blk,∃W:Nat->Nat->St->Fl V->Hp->Prop,(∃m,W 0 m (db n ix σ) [] H1)/\∀i m τ ys H2,W i m τ ys H2 ->
   (J.stop i H2/\∀p v H',H2 p=none->v=V.ref p->H'=upd H2 p (.lst ys)->Q v H') \/
   (J.go i H2/\∀x H3,J.yld i H2 x H3->g b x τ H3 λτ2 H4=>wi1 b τ2 H4 λJ1 H5=>∃W1:Nat->Nat->St->Fl V->Hp->Prop,(∃m1,W1 0 m1 τ2 ys H5)/\∀k1 m1 τ3 zs H6,W1 k1 m1 τ3 zs H6 ->
    (J1.stop k1 H6/\∃m',m'<m/\W (i+1) m' τ3 zs H6) \/
    (J1.go k1 H6/\zs.length<sizeLine/\∀x1 H7,J1.yld k1 H6 x1 H7->g1 b x1 τ3 H7 λτ4 H8=>te b τ4 H8 λy H9=>∃m1',m1'<m1/\W1 (k1+1) m1' τ4 (zs++[y]) H9))
section
variable{X:Cx}{pins:Fl (Fq×Obj)}{σ:St}{H:Hp}{s:Fp}
def Zj1{elt target iter t1 i1:Fw}{scope:Scope}{pos:Pos}{Nx ts:D4}{ix:Fl Nat}{g g1:Blk->TG}{wi1:Blk->TI}{te:Blk->TE}{cl:Fl (Str×Fq)}{s2:Fp}{itv:Fo}{R:Fo->Fq->Result->Fp->Prop}
  {E:DZ} {Q:VK}
  (hc:X.calm=true) (hg:∀b,PG (aW X (bN Nx ts ix) scope b) target<|g b) (hi1:∀b,PI (aW X (bN Nx ts ix) scope b) t1 i1<|wi1 b) (hg1:∀b,PG (aW X (bN Nx ts ix) scope b) t1<|g1 b) (he:∀b,PE (aW X (bN Nx ts ix) scope b) elt<|te b) (hs1:∀b x,foldedSetIterable i1 (aW X (bN Nx ts ix) scope b).env x=pure x)
  (FY:X.N=Nx) (ok:BlkOk Nx X.env.scope scope ix) (cl1:∀x c,cl.lookup x=some c->X.env.cells.lookup x=some c) (cl2:∀y∈scope.names,y.2=.free->∃c,cl.lookup y.1=some c)
  (h2:lW X pins σ target (λJ H1=>∀b:Blk,∃W:Nat->Nat->St->Fl V->Hp->Prop,(∃m,W 0 m (db ts.length ix σ) [] H1)/\∀i m τ ys H2,W i m τ ys H2 ->
   (J.stop i H2/\∀p v H',H2 p=none->v=V.ref p->H'=upd H2 p (.lst ys)->Q v H') \/
   (J.go i H2/\∀x H3,J.yld i H2 x H3->g b x τ H3 λτ2 H4=>wi1 b τ2 H4 λJ1 H5=>∃W1:Nat->Nat->St->Fl V->Hp->Prop,(∃m1,W1 0 m1 τ2 ys H5)/\∀k1 m1 τ3 zs H6,W1 k1 m1 τ3 zs H6 ->
    (J1.stop k1 H6/\∃m',m'<m/\W (i+1) m' τ3 zs H6) \/
    (J1.go k1 H6/\zs.length<sizeLine/\∀x1 H7,J1.yld k1 H6 x1 H7->g1 b x1 τ3 H7 λτ4 H8=>te b τ4 H8 λy H9=>∃m1',m1'<m1/\W1 (k1+1) m1' τ4 (zs++[y]) H9))) itv s2)
  (hR:∀(D C:Fq)(H':Hp)(s':Fp)(v:V),Inv X pins σ H' s'->v=.ref D->Q v H'->(∃m,s'.heap.Ns C m)->H' C=none->C≠X.env.locals->X.s₀.heap.objs.size<=C->(∀x c,X.env.cells.lookup x=some c->c≠C)->(∀p∈X.pn++pins,p.1≠C) ->
   R (.ref D) C (.ok .next) s') :
  wpAny (model X.prog X.w) X.A (newList []) (λacc s₃=>wpAny (model X.prog X.w) X.A (newFunctionEnv scope X.env.globals cl [] X.env.qual none .none<|some X.env) (λcenv s₄ =>
   codeAny (model X.prog X.w) X.A (.compStart (.ListComp elt [⟨target,iter,[],0⟩,⟨t1,i1,[],0⟩] scope pos) 0 itv acc {cenv with scope:=relabel scope X.env}) (R acc cenv.locals) s₄) E s₃) E s2:=by
 obtain⟨it,fp,tn,J,H1,e,I2,T,st2,f2,q2⟩:=h2;subst e;refine Ee<|oa ?_;dsimp only;generalize hG:s2.heap.push {cls:=.type "list",dict:=none,data:=.seq ([]:D3).toArray}=G;have hGs:G.objs.size=s2.heap.objs.size+1:=by rw[<- hG,Bj]
 have FS:∀b∈fp,b<s2.heap.objs.size:=λb hb=>let ⟨o,e,_⟩:=T.obj _ _ st2 b hb;AI e
 have kpG:∀b o,G.get? b=some o->(pushCells (G.push {cls:=.type "dict",data:=.dict #[]}) scope.names).get? b=some o:=λb o e=>Ez _ _ _ _<|v9 _ e;have FN:(pushCells (G.push {cls:=.type "dict",data:=.dict #[]}) scope.names).Ns G.objs.size (λ_=>none):=(Heap.Ns.new G<|.type "dict").keeps<|Ez _ _;obtain⟨sp1,sp2,sp4,sp3⟩:=vG scope.names (G.push {cls:=.type "dict",data:=.dict #[]}) cl;rw[Bj]at sp1 sp2 sp3 sp4;generalize hh3:pushCells (G.push {cls:=.type "dict",data:=.dict #[]}) scope.names=h3 at kpG FN sp1 ⊢;have kp:∀b o,s2.heap.get? b=some o->h3.get? b=some o:=λb o e=>kpG b o<|by rw[<- hG];exact v9 _ e
 have hD3:h3.get? s2.heap.objs.size=some {cls:=.type "list",data:=.seq ([]:D3).toArray}:=kpG _ _<|by rw[<- hG];exact AC _ rfl
 have clB:∀x c,cl.lookup x=some c->c<G.objs.size+1:=λx c e=>by obtain⟨v,q⟩:=I2.cell x c<|cl1 x c e;exact B2<|AD q.lt<|by rw[hGs];exact Db _
 have csI:=sp3 clB λx y c e1 e2=>I2.ok.inj x y c (cl1 x c e1)<|cl1 y c e2;have cs1:∀x c,(cellsFrom (G.objs.size+1) scope.names cl).lookup x=some c->X.env.cells.lookup x=some c\/(G.objs.size<c/\h3.IsCell c none/\(x,NameKind.cell)∈scope.names):=λx c e=>by
  rcases sp1 x c e with z|⟨z1,z2,z3⟩
  ·exact .inl<|cl1 x c z
  ·exact .inr ⟨by omega,z2,z3⟩
 have cs2:∀y∈scope.names,(y.2=.free\/y.2=.cell)->∃c,(cellsFrom (G.objs.size+1) scope.names cl).lookup y.1=some c:=λy hy hk=>by
  refine sp2 y.1 ?_;rcases hk with z|z
  ·exact .inr<|cl2 y hy z
  ·exact .inl<|by rw[<- z];exact hy
 have csA:∀x c,(x,NameKind.cell)∈scope.names->(cellsFrom (G.objs.size+1) scope.names cl).lookup x=some c->G.objs.size<=c:=λx c e1 e2=>Ch<|sp4 x c e1 e2;generalize hcs:cellsFrom (G.objs.size+1) scope.names cl=cs at csI cs1 cs2 csA ⊢;generalize hCe:G.objs.size=C at FN cs1 csA ⊢;have hC:s2.heap.objs.size<=C:=by omega
 have hDC:s2.heap.objs.size≠C:=by omega
 let B:Blk:=⟨cs,C,s2,H1,fp,X.pn++pins⟩
 have I3:Inv (aW X (bN Nx ts ix) scope B) [] (db ts.length ix σ) H1 {s2 with heap:=h3}:=qx I2 FY ok cs1 csI cs2 csA f2 FS hC kp FN;have fC:H1 s2.heap.objs.size=none:=I2.hok.fresh<|Aw _;have cellIn:∀x c,cs.lookup x=some c->c≠s2.heap.objs.size:=λx c e=>by
  rcases cs1 x c e with z|⟨z,_,_⟩
  ·obtain⟨v,q⟩:=I2.cell x c z;exact AO q.lt
  ·exact A5<|By hC z
 have pinIn:∀p∈X.pn++pins,p.1<s2.heap.objs.size:=λp hp=>AI (I2.pin p hp).1;have nofrs:s2.heap.objs.size∉frs X.stack:=λhb=>by
  rcases AM.mp (I2.stkSub _ hb)with z|z
  ·exact absurd I2.lt<|by rw[<- z];exact AX _
  ·exact I2.nofs (Aw _) z
 -- a state with the list at Fz place,pinned
 have pinD:∀{τ:St}{H':Hp}{s':Fp}{ob:Obj},Inv (aW X (bN Nx ts ix) scope B) [] τ H' s'->s'.heap.get? s2.heap.objs.size=some ob->H' s2.heap.objs.size=none->(∀v,ob.data≠.cell v)->Inv (aW X (bN Nx ts ix) scope B) [(s2.heap.objs.size,ob)] τ H' s' :=
  λ{τ H' s' ob} I' ho hn hd=>I'.pins_of λp hp=>by
   have e:p=(s2.heap.objs.size,ob):=by simpa using hp
   subst e;exact⟨ho,hn,hDC,nofrs,hd⟩
 obtain⟨W,⟨m0,w0⟩,turn⟩:=q2 B;have stat:∀{H':Hp}{ob:Obj},(∀b∈fp,H' b=none)->∀b∈fp,fL (aW X (bN Nx ts ix) scope B) [(s2.heap.objs.size,ob)] H' b:=λ{H' ob} hn b hb=>by
  refine⟨hn b hb,AO<|AD (FS b hb) hC,λz=>?_,.inl hb,λx c e=>by
   rcases cs1 x c e with z|⟨z,_,_⟩
   ·exact(f2 b hb).2.2.2.2.1 x c z
   ·exact A5 (AD (FS b hb)<|AJ hC<|B5 z),λp hp=>?_⟩
  ·rcases AM.mp (I2.stkSub _ z)with q|q
   ·exact(f2 b hb).2.1 q
   ·exact(f2 b hb).2.2.1 q
  ·rcases Bh.mp hp with z|z
   ·exact(f2 b hb).2.2.2.2.2 p z
   ·have e:p=(s2.heap.objs.size,ob):=by simpa using z
    subst e;exact A5<|FS b hb
 have loop:∀s4:Fp,s4={s2 with heap:=h3} ->
   codeAny (model X.prog X.w) X.A (.compLoop (.ListComp elt [⟨target,iter,[],0⟩,⟨t1,i1,[],0⟩] scope pos) 0 (.ref it) (.ref s2.heap.objs.size)<|compEnvC scope cs C X.env) (R (.ref s2.heap.objs.size) C) s4:=by
  rintro s4 rfl;refine ZmF (λk s'=>∃i τ ys Fz n H',Inv (aW X (bN Nx ts ix) scope B) [(s2.heap.objs.size,({cls:=.type "list",data:=.seq (List.toArray Fz) n}:Obj))] τ H' s'/\tn i s'.heap/\(∀b∈fp,H' b=none)/\Vals ys Fz/\ys.length<=sizeLine/\W i k τ ys H') (hs1 B) ?_ m0
   ⟨0,_,[],[],_,H1,pinD I3 hD3 fC (λv z=>by cases z),T.keep _ _ _ st2 λb hb o e=>kp b o e,λb hb=>(f2 b hb).1,.nil,Bf _,w0⟩
  rintro k s5 ⟨i,τ,ys,Fz,n,H5,I5,st5,fr5,rv,hz,w5⟩;rcases turn i k τ ys H5 w5 with ⟨stop,qn⟩|⟨go,step⟩
  ·refine thn (T.done (aW X (bN Nx ts ix) scope B) rfl rfl rfl hc i _ s5 τ H5 _ I5 (stat fr5) st5 stop) λgot s6 Fy=>?_;obtain⟨hr,I6⟩:=Fy;subst hr;obtain⟨ho,hn,_,_,_⟩:=I6.pin (s2.heap.objs.size,({cls:=.type "list",data:=.seq (List.toArray Fz) n}:Obj)) (AA _<|by simp)
   have I7:Inv X pins σ H5 s6:=I2.call' (ch:=fp) (H':=H5) (by exact I6.os) I6.base I6.hok I6.bare λb hb=>⟨(f2 b hb).2.2.2.1,(f2 b hb).2.1,(f2 b hb).2.2.2.2.1,(f2 b hb).2.2.2.2.2⟩
   have hs0:X.s₀.heap.objs.size<=s2.heap.objs.size:=I2.sz;have I8:=I7.track hn ho rv hz (A5 I2.lt) hs0 (λx c e z=>by obtain⟨v,q⟩:=I2.cell x c e;exact absurd q.lt<|by rw[z];exact AX _)<|λp hp=>AO<|pinIn p hp
   obtain⟨m6,hm6,_⟩:=I6.loc;refine hR _ C _ s6 _ I8 rfl (qn _ _ _ hn rfl rfl) ⟨m6,hm6⟩ ?_ (λz=>?_) (AJ hs0 hC) (λx c e z=>?_) λp hp=>AO<|AD (pinIn p hp) hC
   ·rw[aM<|Ne.symm hDC];exact I6.free
   ·exact absurd (AD I2.lt hC)<|by rw[z];exact AX _
   ·obtain⟨v,q⟩:=I2.cell x c e;exact absurd (AD q.lt hC)<|by rw[z];exact AX _
  ·refine thn (T.item (aW X (bN Nx ts ix) scope B) rfl rfl rfl hc i _ s5 τ H5 _ I5 (stat fr5) st5 go) λgot s6 Fy=>?_;obtain⟨u,hr,h6⟩:=Fy;subst hr;refine thn h6 λ_ s7 Fy=>?_;obtain⟨x,H7,I7,r7,y7,st7,fr7⟩:=Fy;have I7':=I7.pinned (stat fr7)<|T.obj _ _ st7;refine thn (hg B _ s7 τ H7 x u _ I7' r7<|step x H7 y7) λ_ s8 Fy=>?_;obtain⟨τ8,H8,I8,q8⟩:=Fy;refine thn (hi1 B _ s8 τ8 H8 _ I8 q8) λv9 s9 h9=>thn h9 λitv1 s10 h10=>?_;obtain⟨dG,fp1,tn1,J1,H10,e1,I10,T1,st10,f10,W1,⟨m1,w10⟩,turn1⟩:=h10;subst e1;have hP0:∀p∈fQ fp s7.heap,p.1∈fp:=λp hp=>ZiD hp;have notD:∀p∈fQ fp s7.heap,p.1≠s2.heap.objs.size:=λp hp=>AO<|FS _<|hP0 p hp;have stat1:∀{H':Hp}{its':D3}{n':Nat},(∀b∈fp1,H' b=none)->∀b∈fp1,fL (aW X (bN Nx ts ix) scope B) ([(s2.heap.objs.size,({cls:=.type "list",data:=.seq (List.toArray its') n'}:Obj))]++fQ fp s7.heap) H' b:=λ{H' its' n'} hn b hb=>by
    refine⟨hn b hb,(f10 b hb).2.1,(f10 b hb).2.2.1,(f10 b hb).2.2.2.1,(f10 b hb).2.2.2.2.1,λp hp=>?_⟩;rcases Bh.mp hp with z|z
    ·exact(f10 b hb).2.2.2.2.2 p (Be _ z)
    ·rcases Bh.mp z with z|z
     ·have e:p=(s2.heap.objs.size,({cls:=.type "list",data:=.seq (List.toArray its') n'}:Obj)):=by simpa using z
      subst e;exact(f10 b hb).2.2.2.2.2 (s2.heap.objs.size,({cls:=.type "list",data:=.seq (List.toArray Fz) n}:Obj)) (AA _<|Be _<|by simp)
     ·exact(f10 b hb).2.2.2.2.2 p (AA _<|AA _ z)
   have loop1:codeAny (model X.prog X.w) X.A (.compLoop (.ListComp elt [⟨target,iter,[],0⟩,⟨t1,i1,[],0⟩] scope pos) 1 (.ref dG) (.ref s2.heap.objs.size)<|compEnvC scope cs C X.env) (λr s6=>(∃f,r=.ok f)/\∃j,j<k/\∃i τ ys Fz n H',Inv (aW X (bN Nx ts ix) scope B) [(s2.heap.objs.size,({cls:=.type "list",data:=.seq (List.toArray Fz) n}:Obj))] τ H' s6/\tn i s6.heap/\(∀b∈fp,H' b=none)/\Vals ys Fz/\ys.length<=sizeLine/\W i j τ ys H') s10:=by
    refine ZmE (λk1 s'=>∃i1 τ ys Fz n H',Inv (aW X (bN Nx ts ix) scope B) ([(s2.heap.objs.size,({cls:=.type "list",data:=.seq (List.toArray Fz) n}:Obj))]++fQ fp s7.heap) τ H' s'/\tn1 i1 s'.heap/\(∀b∈fp1,H' b=none)/\Vals ys Fz/\ys.length<=sizeLine/\W1 i1 k1 τ ys H') ?_ m1
     ⟨0,_,ys,Fz,n,H10,I10,st10,λb hb=>(f10 b hb).1,rv,hz,w10⟩
    rintro k1 s11 ⟨j1,τ11,zs,jts,n11,H11,I11,st11,fr11,rv11,hz11,w11⟩;rcases turn1 j1 k1 τ11 zs H11 w11 with ⟨stop1,m',hm',wn⟩|⟨go1,hlt1,step1⟩
    ·refine thn (T1.done (aW X (bN Nx ts ix) scope B) rfl rfl rfl hc j1 _ s11 τ11 H11 _ I11 (stat1 fr11) st11 stop1) λgot s12 Fy=>?_;obtain⟨hr,I12⟩:=Fy;subst hr;refine⟨⟨_,rfl⟩,m',hm',i+1,τ11,zs,jts,n11,H11,I12.unpinned,?_,λb hb=>?_,rv11,hz11,wn⟩
     ·exact T.keep _ _ _ st7 λb hb o e=>(I12.pin (b,o)<|AA _<|AA _<|fy hb e).1
     ·obtain⟨o,e,d⟩:=T.obj _ _ st7 b hb;exact(I12.pin (b,o)<|AA _<|AA _<|fy hb e).2.1
    ·refine thn (T1.item (aW X (bN Nx ts ix) scope B) rfl rfl rfl hc j1 _ s11 τ11 H11 _ I11 (stat1 fr11) st11 go1) λgot s12 Fy=>?_;obtain⟨u1,hr,h12⟩:=Fy;subst hr;refine thn h12 λ_ s13 Fy=>?_;obtain⟨x13,H13,I13,r13,y13,st13,fr13⟩:=Fy;have I13':=I13.pinned (stat1 fr13)<|T1.obj _ _ st13;refine thn (hg1 B _ s13 τ11 H13 x13 u1 _ I13' r13<|step1 x13 H13 y13) λ_ s14 Fy=>?_;obtain⟨τ14,H14,I14,q14⟩:=Fy;refine thn (he B _ s14 τ14 H14 _ I14 q14) λy s15 Fy=>?_;obtain⟨vy,H15,I15,r15,m15,hm15,w15⟩:=Fy;have pD:(s2.heap.objs.size,({cls:=.type "list",data:=.seq (List.toArray jts) n11}:Obj))∈[(s2.heap.objs.size,({cls:=.type "list",data:=.seq (List.toArray jts) n11}:Obj))]++fQ fp s7.heap:=Be _ (by simp)
     obtain⟨ho,hn,_,_,_⟩:=I15.pin _<|AA _<|Be _ pD;have lenv:=rv11.length;refine EX (l:=s2.heap.objs.size) ⟨n11,ho⟩ (λh' FO FU=>?_)<|by rw[AG];omega
     obtain⟨n',FT⟩:=FO;have eobj:(jts.toArray.push y)=List.toArray (jts++[y]):=by simp
     rw[eobj]at FT;have I15':Inv (aW X (bN Nx ts ix) scope B) (fQ fp s7.heap) τ14 H15 s15:=I15.pins_of λp hp=>I15.pin p<|AA _<|Be _<|AA _ hp;have I16:Inv (aW X (bN Nx ts ix) scope B) (fQ fp s7.heap) τ14 H15 {s15 with heap:=h'}:=I15'.turned (it:=s2.heap.objs.size) (t':=s15.toks) (λb o hb e=>(FU.2 b hb).trans e) hn hDC (.inr<|Aw _) cellIn (λp hp=>by
      rcases Bh.mp hp with z|z
      ·exact AO (pinIn p z)
      ·exact notD p z)
     have I17:Inv (aW X (bN Nx ts ix) scope B) ([(s2.heap.objs.size,({cls:=.type "list",data:=.seq (List.toArray<|jts++[y]) n'}:Obj))]++fQ fp s7.heap) τ14 H15 {s15 with heap:=h'}:=I16.pins_of λp hp=>by
      rcases Bh.mp hp with z|z
      ·have e:p=(s2.heap.objs.size,({cls:=.type "list",data:=.seq (List.toArray<|jts++[y]) n'}:Obj)):=by simpa using z
       subst e;exact⟨FT,hn,hDC,nofrs,λv z=>by cases z⟩
      ·exact I16.pin p<|AA _ z
     refine⟨m15,hm15,j1+1,τ14,zs++[vy],jts++[y],n',H15,I17,?_,λb hb=>?_,rv11.append<|.cons r15 .nil,by rw[AQ];show zs.length+1<=_;omega,w15⟩
     ·refine T1.keep _ _ _ st13 λb hb o e=>?_;have q:=(I15.pin (b,o)<|AA _<|AA _<|fy hb e).1;refine(FU.2 b ?_).trans q;exact λz=>(f10 b hb).2.2.2.2.2 (s2.heap.objs.size,({cls:=.type "list",data:=.seq (List.toArray Fz) n}:Obj)) (AA _<|Be _<|by simp) z.symm
     ·obtain⟨o,e,d⟩:=T1.obj _ _ st13 b hb;exact(I15.pin (b,o)<|AA _<|AA _<|fy hb e).2.1
   exact ZmD loop1<|T1.self X.A 0 _ _ _ st10 loop1
 exact E4 (loop _ rfl)<|T.self X.A 0 _ _ _ (T.keep _ _ _ st2 λb hb o e=>kp b o e)<|loop _ rfl
def ZcN{elt target iter t1 i1:Fw}{scope:Scope}{pos:Pos}{wi:TI}{g g1:Blk->TG}{wi1:Blk->TI}{te:Blk->TE}(Nx:D4)(ts:D4)(ix:Fl Nat)
  (hc:X.calm=true) (hi:PI X target iter wi) (hg:∀b,PG (aW X (bN Nx ts ix) scope b) target<|g b) (hi1:∀b,PI (aW X (bN Nx ts ix) scope b) t1 i1<|wi1 b) (hg1:∀b,PG (aW X (bN Nx ts ix) scope b) t1<|g1 b) (he:∀b,PE (aW X (bN Nx ts ix) scope b) elt<|te b)
  (FY:X.N=Nx) (ok:BlkOk Nx X.env.scope scope ix) (hs1:∀b x,foldedSetIterable i1 (aW X (bN Nx ts ix) scope b).env x=pure x:=by intro _ _;rfl) (hs:∀x,foldedSetIterable iter X.env x=pure x:=by intro _;rfl) :
  PE X (.ListComp elt [⟨target,iter,[],0⟩,⟨t1,i1,[],0⟩] scope pos) (wQ wi ts.length ix g wi1 g1 te):=by intro pins s σ H Q I h;obtain⟨cl,hcl,cl1,cl2⟩:=jZ (scope:=scope) (env:=X.env) λy hy hf=>I.ok.has y.1<|ok.frees y hy hf;rw[eval_ListComp];refine Es (use:=none) rfl hs hcl ok.kind ok.locs (thn (hi pins s σ H _ I h) λv s1 h1=>thn h1 λitv s2 h2=>?_);refine Zj1 (R:=λacc C=>compPost (model X.prog X.w) X.A X.xe none (EP X pins σ Q) acc C) hc hg hi1 hg1 he hs1 FY ok cl1 cl2 h2 ?_;rintro D C H' s' v I' rfl q ⟨m,hm⟩ hn hL h0 FM hp;exact⟨m,hm,λh' FU=>⟨.ref D,H',I'.turned (it:=C) (t':=s'.toks) (λb o hb e=>(FU.2 b hb).trans e) hn hL (.inr h0) FM hp,rfl,q⟩⟩
end
noncomputable def i8(h:Fn->Tr D1):Fl Fn->Tr D1
 | []=>.ret []
 |x::xs=>(h x).bind λys=>(i8 h xs).bind λzs=>.ret<|ys++zs
def jh(a:Nat)(is1:DS)(b:Nat)(el:DR)(ρ:D7)(x:Fn):Tr D1 :=
 (is1<|ρ.set a<|.d x).bind λys=>if decide (ys.length<=100)=true then bJ (λy=>el<|(ρ.set a<|.d x).set b<|.d y) ys else .fail
def lP(is:DS)(n:Nat)(ix:Fl Nat)(a:Nat)(is1:DS)(b:Nat)(el:DR):DS:=λρ =>
 (is ρ).bind λxs=>if decide (xs.length<=100)=true then i8 (jh a is1 b el<|blk n ix ρ) xs else .fail
section
variable{PK:Pk}{X:Cx}{e:Fw}{is is1:DS}{i:DR}
def Zfp{n:Nat}{ix:Fl Nat}{ρ:D7}{k:Nat}(h:k<n){s:Sl}(e:(blk n ix ρ)[k]?=some s):s=.un:=by
 unfold blk at e;rw[AV<|by simpa using h,Ba,Ed h]at e
 cases e
 rfl
def Zj0{n a b:Nat}{ix:Fl Nat}(ha:a<n)(hb:b<n)(hab:a≠b):∀σ H Q,eG PK (lP is n ix a is1 b i) σ H Q->wQ (cX PK is) n ix (λ_=>dB PK<|ao a) (λ_=>cX PK is1) (λ_=>dB PK<|ao b) (λ_=>TAe PK i) σ H Q:=by
 rintro σ H Q ⟨pa,D8,H₀,m,ρ,G,R,z⟩;refine⟨pa,D8,H₀,m,ρ,G,R,Tr.ok_mono (Tr.ok_bind.mp z) λm1 xs k J G1 H1 s1 w1 jo=>λB=>?_⟩;obtain⟨hs,k⟩:=gf k;have hs:xs.length<=100:=Ec hs
 let W:Nat->Nat->St->Fl V->Hp->Prop:=λk mm τ ys H2=>mm=xs.length-k/\k<=xs.length/\ys.length<=100*k/\∃m G2 ds,Sub G1 G2/\Stp pa G H G2 H2/\Rl PK pa D8 H₀ m τ (blk n ix ρ) G2 H2 /\
  DnAll G2 ys ds/\(i8 (jh a is1 b i<|blk n ix ρ)<|xs.drop k).ok m λm' zs=>Ko1 PK pa m' G H (ds++zs) Q
 refine⟨W,⟨xs.length,rfl,Bf _,Bf _,m1,G1,[],.refl,s1,(R.step s1 w1).blk n ix,.nil,k⟩,?_⟩;rintro k mm τ ys H2 ⟨rfl,hk,hy,m2,G2,ds,sb,st2,R2,dn,k2⟩;obtain⟨j1,j2⟩:=jo m2 G2 H2 sb R2.wd;by_cases FC:k<xs.length
 ·have hx:xs[k]?=some xs[k]:=by simp[FC]
  obtain⟨jg,jy⟩:=j1 k _ hx;refine .inr ⟨jg,λx H3 y=>?_⟩;obtain⟨G3,s3,w3,d3⟩:=jy x H3 y;rw[AY FC]at k2;unfold i8 at k2;rw[Tr.ok_bind]at k2;unfold jh at k2;rw[Tr.ok_bind]at k2;refine⟨pa,D8,H₀,m2,_,G3,_,_,R2.step s3 w3,d3,rfl,λτ4 R4=>?_⟩;refine⟨pa,D8,H₀,m2,_,G3,R4,Tr.ok_mono k2 λm5 ys5 k5 J1 G5 H5 s5 w5 jo1=>?_⟩;obtain⟨hs5,k5⟩:=gf k5;have hs5:ys5.length<=100:=Ec hs5;have s35:=s3.trans s5 w3.some;generalize hρ:(blk n ix ρ).set a (.d xs[k])=ρ1 at *;have hbl:∀s,ρ1[b]?=some s->s=.un:=λs hq=>by rw[<- hρ,AL hab]at hq;exact Zfp hb hq
  let W1:Nat->Nat->St->Fl V->Hp->Prop:=λk1 mm τ zs H6=>mm=ys5.length-k1/\k1<=ys5.length/\zs.length=ys.length+k1/\∃m G6 es,Sub G5 G6/\Stp pa G H G6 H6/\Rl PK pa D8 H₀ m τ ρ1 G6 H6 /\
   DnAll G6 zs (ds++es)/\(bJ (λy=>i<|ρ1.set b<|.d y)<|ys5.drop k1).ok m λm' us=>((i8 (jh a is1 b i<|blk n ix ρ)<|xs.drop<|k+1).bind λzs=>.ret<|(es++us)++zs).ok m' λm'' ws=>Ko1 PK pa m'' G H (ds++ws) Q
  refine⟨W1,⟨ys5.length,rfl,Bf _,rfl,m5,G5,[],.refl,st2.trans s35 R2.wd.some,R4.step s5 w5,by rw[A3];exact DnAll.mono s35.gs dn,k5⟩,?_⟩
  rintro k1 mm1 τ6 zs H6 ⟨rfl,hk1,hz,m6,G6,es,sb6,st6,R6,dn6,k6⟩;obtain⟨i1,i2⟩:=jo1 m6 G6 H6 sb6 R6.wd;by_cases hlt1:k1<ys5.length
  ·have hx1:ys5[k1]?=some ys5[k1]:=by simp[hlt1]
   obtain⟨ig,iy⟩:=i1 k1 _ hx1;refine .inr ⟨ig,?_,λx1 H7 y1=>?_⟩
   ·rw[hz];have h1:ys.length<=10000:=AJ hy<|Nat.mul_le_mul_left 100<|AJ hk hs;have h2:20000<sizeLine:=by decide
    omega
   obtain⟨G7,s7,w7,d7⟩:=iy x1 H7 y1;rw[AY hlt1]at k6;unfold bJ at k6;rw[Tr.ok_bind]at k6;refine⟨pa,D8,H₀,m6,_,G7,_,_,R6.step s7 w7,d7,rfl,λτ8 R8=>?_⟩;refine⟨pa,D8,H₀,m6,_,G7,R8,Tr.ok_mono k6 λm9 yd k9=>?_⟩;intro v G9 H9 s9 w9 d9;have s79:=s7.trans s9 w7.some;refine⟨ys5.length-(k1+1),by omega,rfl,hlt1,by rw[AQ,hz];rfl,m9,G9,es++[yd],sb6.trans s79.gs,st6.trans s79 R6.wd.some,?_,?_,?_⟩
   ·refine(R8.step s9 w9).weak A1 λq sl hq=>?_;by_cases hqb:q=b
    ·subst hqb;exact .inl<|hbl sl hq
    ·right
     rw[AL<|Ne.symm hqb];exact hq
   ·rw[<- Bg];exact(DnAll.mono s79.gs dn6).snoc d9
   ·refine Tr.ok_mono (Tr.ok_bind.mp k9) λm10 us k10=>?_;rw[Bg];exact k10
  ·have e1:k1=ys5.length:=by omega
   subst e1;refine .inl ⟨i2,xs.length-(k+1),by omega,rfl,FC,by rw[hz,Nat.mul_succ];omega,m6,G6,ds++es,(sb.trans s35.gs).trans sb6,st6,?_,dn6,?_⟩
   ·refine R6.weak (by rw[<- hρ];exact A1) λq sl hq=>?_
    by_cases hqa:q=a
    ·subst hqa;exact .inl<|Zfp ha hq
    ·right
     rw[<- hρ,AL<|Ne.symm hqa];exact hq
   ·rw[Br]at k6;have k6':((i8 (jh a is1 b i<|blk n ix ρ)<|xs.drop<|k+1).bind λzs=>Tr.ret<|(es++[])++zs).ok m6 λm'' ws=>Ko1 PK pa m'' G H (ds++ws) Q:=k6;refine Tr.ok_mono (Tr.ok_bind.mp k6') λm7 ws k7=>?_;have k7':Ko1 PK pa m7 G H (ds++((es++[])++ws)) Q:=k7;rw[A3,<- Bg]at k7';exact k7'
 ·have e:k=xs.length:=by omega
  subst e;refine .inl ⟨j2,λp v H' hp ev eH=>?_⟩;subst ev eH;rw[Br]at k2;have k2':Ko1 PK pa m2 G H (ds++[]) Q:=k2;rw[A3]at k2';exact(Ko1.later k2' st2 R2.wd.some).new R2.wd dn hp
def ZfN{n a b:Nat}{ix:Fl Nat}(h:PE X e (wQ (cX PK is) n ix (λ_=>dB PK<|ao a) (λ_=>cX PK is1) (λ_=>dB PK<|ao b)<|λ_=>TAe PK i))(ha:a<n)(hb:b<n)(hab:a≠b):PE X e (eG PK<|lP is n ix a is1 b i):=h.imp<|Zj0 ha hb hab
end
def RawD(h:Fv)(d:Fq)(es:Array DictEntry)(ep:Nat):Prop:=∃o,h.get? d=some o/\o.ExactDict/\o.data=.dict es ep
def RawD.mono{h h':Fv}{d:Fq}{es:Array DictEntry}{ep:Nat}(r:RawD h d es ep)(k:∀o,h.get? d=some o->h'.get? d=some o):RawD h' d es ep :=
 let ⟨o,a,b⟩:=r;⟨o,k o a,b⟩
def RawD.ty{s:Fp}{d:Fq}{es:Array DictEntry}{ep:Nat}(r:RawD s.heap d es ep):s.TypeIs (.ref d) "dict":=let ⟨o,a,b,_⟩:=r;⟨o,a,b.1⟩
noncomputable abbrev yD(d:Fq)(i n ep:Nat):Array Fo:=#[.ref d,.int i 0,.int n 0,.int ep 0]
def KiAt(h:Fv)(it d:Fq)(i n ep:Nat):Prop:=∃o,h.get? it=some o/\o.cls=.type "dict_keyiterator"/\o.data=.fields (yD d i n ep)
section
variable{prog:Fs}{w:Ft}{A:Fu}{E:DZ}{s:Fp}{d it:Fq}{es:Array DictEntry}{ep i:Nat}
def KiAt.ty{n:Nat}(k:KiAt s.heap it d i n ep):s.TypeIs (.ref it) "dict_keyiterator":=let ⟨o,a,b,_⟩:=k;⟨o,a,b⟩
def Zkr{Q:DZ}(lo:(d==sysModules)=false)(r:RawD s.heap d es ep)
  (q:Q (.ref s.heap.objs.size) {s with heap:=s.heap.push {cls:=.type "dict_keyiterator",data:=.fields (yD d 0 es.size ep)} }):wpAny (model prog w) A (pyIter<|.ref d) Q E s:=by
 have ht:=r.ty;obtain⟨o,h1,h2,h3⟩:=r;have nl:¬ (d==sysModules)=true:=by rw[lo];decide
 apply Fg ht F.slot_dict_iter;refine El F.slot_dict_iter ht F.entry_dict_iter (b:=Builtin.«dict.__iter__») ?_<|F.args_dict_iter_1 _;unfold Builtin.«dict.__iter__»;apply wp;unfold Builtin.Dict.dictSlotNone;apply wp;apply wpAny_notOrdered_dict ht;apply D9 (a:=Value.ref d);show wpAny _ _ (Builtin.Dict.showsAll d >>= _) _ _ s;apply wp;unfold Builtin.Dict.showsAll;rw[Ef nl];apply D9;apply wp;apply wpAny_dictEntries h1 h3;apply wp;apply wpAny_dictEpoch h1 h3;apply wp;refine Ee ?_<|by size_fits
 exact D9 ⟨_,rfl,_,_,⟨_,AC _ rfl,rfl⟩,F.slot_dict_keyiterator_next.lookup,q⟩
def Zc5{Q:Fm Fo->Fp->Prop}(hh:A.handled=none)(k:KiAt s.heap it d i es.size ep)(r:RawD s.heap d es ep)
  (qi:∀e h',es[i]?=some e->KiAt h' it d (i+1) es.size ep->Heap.SameBut it s.heap h'->Q (some e.key) {s with heap:=h'})
  (qe:es[i]?=none->∀h',Heap.ExtBut it s.heap h'->Q none {s with heap:=h'}):wpAny (model prog w) A (pyNext<|.ref it) Q E s:=by
 have ht:=k.ty;obtain⟨o,h1,h2,h3⟩:=k;obtain⟨od,d1,d2,d3⟩:=r;have own:Builtin.Dict_items.ownsTuple "dict_keyiterator"=false:=by decide
 have named:∀{A:Fu}{E:DZ}{P:String->Fp->Prop},P "dict_keyiterator" s->wpAny (model prog w) A (typeNameOfWhole<|.ref it) P E s:=λq=>wpAny_typeNameOfWhole_keyiter ht q;unfold pyNext;apply wp;apply EL;apply Ek (name:=Str.ofString "__next__") ht F.slot_dict_keyiterator_next;refine El F.slot_dict_keyiterator_next ht F.entry_dict_keyiterator_next ?_<|F.args_dict_keyiterator_next_1 _;apply wp;apply D9;apply wp;apply wp;apply wp;apply named;apply D9;apply wp;apply wpAny_fieldsOf h1 h3;simp only[own,Bk,EJ];show wpAny _ _ (if (Value.ref d==Value.none)=true then _ else _) _ _ s
 rw[Ef<|show ¬ (Value.ref d==Value.none)=true from nofun]
 apply wp;apply D9;apply wp;apply wpAny_dictEntries d1 d3;rw[Ef<|by simp]
 apply wp;apply D9;apply wp;apply wpAny_dictEpoch d1 d3;rw[Ef<|by simp]
 apply D9;have nn:¬ (i:Int)<0:=by omega
 simp only[nn,EJ,AZ];cases hx:es[i]? with
 | some e =>
  dsimp only;apply wp;apply wp;apply named;apply D9;apply wp;apply wpAny_isOneOf_keyiter ht;show wpAny _ _ (setField (.ref it) 1 (rawInt<|(i:Int)+1) >>= _) _ _ s;apply wp;apply EF h1 h3<|by simp
  have k':KiAt (s.heap.update it<|Obj.mapFields (·.setIfInBounds 1 (rawInt<|(i:Int)+1))) it d (i+1) es.size ep :=
   ⟨_,BK _ h1<|CN<|BN h3 _,(DE ..).trans h2,by rw[BN h3];simp[rawInt]⟩
  apply wp;apply Ej;apply wp;apply wpAny_isOneOf_keyiter (s:={s with heap:=s.heap.update it (Obj.mapFields (·.setIfInBounds 1 (rawInt<|(i:Int)+1)))}) k'.ty;show wpAny _ _ (pure e.key) _ _ _;exact D9 (D9 ⟨_,rfl,D9<|qi e _ hx k'<|BX ..⟩)
 | none =>
  dsimp only;apply wp;apply wp;apply named;apply D9;show wpAny _ _ (setField (.ref it) 0 .none >>= _) _ _ s;apply wp;apply EF h1 h3<|by simp
  show wpAny _ _ (newExc (.type "StopIteration") [] >>= _) _ _ _;apply wp;simp only[newExc,newTuple];apply wp;refine Ee ?_<|by size_fits
  apply wp (m:=firstArgMember _ _);refine Er (a:=Value.none) (by first|rfl|(simp only[firstArgMember];rfl)) ?_
  refine Ee ?_<|by size_fits
  simp only[raiseNew];apply wp;apply wpAny_handled;rw[show A.in1.handled=none from hh]
  first
   |(apply wp;apply D9;apply wpAny_throw)
   |apply wpAny_throw
  apply wp;refine EZ (b:=true) (T:="StopIteration") ⟨_,AC _ rfl,rfl⟩ isSubtype_stop ?_;exact D9<|qe hx _<|((BX ..).extBut.push _).push _
end
noncomputable def bZ:Sl->Bool
 |.dip _=>true
 |_=>false
def io(k:Nat)(ρ:D7):Bool:=(ρ.set k .un).all λs=>!bZ s
def Zc2{k:Nat}{ρ:D7}(h:io k ρ=true){i:Nat}(hi:k≠i){xs:Fl (D2×Fn)}:ρ[i]?≠some (.dip xs):=λe=>by
 have e':(ρ.set k .un)[i]?=some (.dip xs):=by rw[AL hi];exact e
 have:=Bl.mp h _<|Bi e';cases this
section
variable{PK:Pk}{pa:Fq}{D8 H₀ G H:Hp}{m:Nat}{σ:St}{ρ:D7}
def KP.len{ks:Fl (D2×V)}{kvs:Fl (D2×Fn)}(h:KP G ks kvs):ks.length=kvs.length:=by
 induction h with
 |nil=>rfl
 |cons _ _ ih=>rw[AE,AE,ih]
def Rl.setP(r:Rl PK pa D8 H₀ m σ ρ G H){p:Fq}{ks:Fl (D2×V)}{kvs:Fl (D2×Fn)}(h1:H p=some (.dT<|ks.map ci))(h2:G p=none)(h3:H₀ p=none)(h4:KP G ks kvs)(k:Nat):Rl PK pa D8 H₀ m (σ.set k<|some<|.ref p) (ρ.set k<|.dip kvs) G H:=by
 refine⟨r.wd,r.st,r.p0,λi s h=>?_,by rw[A1,A1];exact r.len,vC r.dj λa h=>(by cases h),vC r.dj2 λa h=>(by cases h)⟩
 by_cases e:i=k
 ·subst e;have hl:i<ρ.length:=by
   have:=(Ay.mp h).1
   rwa [A1]at this
  rw[AS hl]at h;cases h;exact⟨_,AS<|by rw[<- r.len];exact hl,.dip h1 h2 h3 h4⟩
 ·rw[AL<|Ne.symm e]at h ⊢;exact r.sl i s h
def Rl.newP(r:Rl PK pa D8 H₀ m σ ρ G H){p:Fq}{ks:Fl (D2×V)}{kvs:Fl (D2×Fn)}(hp:H p=none)(h4:KP G ks kvs)(k:Nat):Rl PK pa D8 H₀ m (σ.set k<|some<|.ref p) (ρ.set k<|.dip kvs) G (upd H p<|.dT<|ks.map ci):=by obtain⟨w1,s1⟩:=r.wd.own (o:=.dT<|ks.map ci) hp;exact(r.step s1 w1).setP bY (r.wd.gnone hp) (r.h0 hp) h4 k
def Rl.changeP(r:Rl PK pa D8 H₀ m σ ρ G H){k:Nat}{xs ys:Fl (D2×Fn)}{p:Fq}{ws:Fl (D2×V)}(hk:ρ[k]?=some (.dip xs))(hσ:σ[k]?=some (some<|.ref p))(hno:io k ρ=true)(d:KP G ws ys) :
  Rl PK pa D8 H₀ m σ (ρ.set k<|.dip ys) G (upd H p<|.dT<|ws.map ci):=by
 obtain⟨o,h1,h2⟩:=r.sl k _ hk;rw[hσ]at h1;cases h1;cases h2 with
 | @dip _ vs _ a1 a2 a3 a4 =>
  have FD:pa≠p:=λe=>by obtain⟨u,hu⟩:=r.p0;rw[e,a3]at hu;cases hu
  have hl:k<ρ.length:=(Ay.mp hk).1;refine⟨⟨λb o h=>?_,r.wd.gpa,?_⟩,⟨r.st.gs,r.st.gn,λb o h hb=>?_⟩,r.p0,λi s h=>?_,by rw[A1];exact r.len,lB r.dj λa h=>(by cases h),lB r.dj2 λa h=>(by cases h)⟩
  ·rw[aM<|λe=>by subst e;rw[a2]at h;cases h]
   exact r.wd.sub b o h
  ·obtain⟨u,h,q⟩:=r.wd.pen;exact⟨u,by rw[aM FD];exact h,q⟩
  ·rw[aM<|λe=>by subst e;rw[a3]at h;cases h]
   exact r.st.hk b o h hb
  ·by_cases e:k=i
   ·subst e;rw[AS hl]at h;cases h;exact⟨_,hσ,.dip bY a2 a3 d⟩
   ·rw[AL e]at h;obtain⟨o,q1,q2⟩:=r.sl i s h;refine⟨o,q1,?_⟩;cases q2 with
    |un=>exact .un
    |d z=>exact .d z
    |pen=>exact .pen
    |fn=>exact .fn
    |own b1 b2 b3 b4=>exact .own (by rw[aM<|λe2=>by subst e2;rw[a1]at b1;cases b1];exact b1) b2 b3 b4
    |dic b1 b2 b3 b4=>exact .dic (by rw[aM<|λe2=>by subst e2;rw[a1]at b1;cases b1];exact b1) b2 b3 b4
    |dip b1 b2 b3 b4=>exact absurd h<|Zc2 hno e
def Rl.keepP(r:Rl PK pa D8 H₀ m σ ρ G H){k:Nat}{xs:Fl (D2×Fn)}{p:Fq}{ks:Fl (D2×V)}(hk:ρ[k]?=some (.dip xs))(hσ:σ[k]?=some (some<|.ref p))(hp:H p=some (.dT<|ks.map ci))(h4:KP G ks xs)(hno:io k ρ=true)(hx:xs≠[])(o:Obj) :
  Sub G (upd G p<|.frz o<|.dT<|ks.map ci)/\Rl PK pa D8 H₀ m σ (ρ.set k<|.d<|pD xs) (upd G p<|.frz o<|.dT<|ks.map ci) (upd H p<|.frz o<|.dT<|ks.map ci):=by
 obtain⟨o',h1,h2⟩:=r.sl k _ hk;rw[hσ]at h1;cases h1;cases h2 with
 | @dip _ vs _ a1 a2 a3 a4 =>
  have FD:pa≠p:=λe=>by obtain⟨u,hu⟩:=r.p0;rw[e,a3]at hu;cases hu
  have hl:k<ρ.length:=(Ay.mp hk).1;have sb:Sub G (upd G p<|.frz o<|.dT<|ks.map ci):=Sub.new a2;refine⟨sb,⟨λb o h=>?_,by rw[aM FD];exact r.wd.gpa,?_⟩,⟨λb o h=>sb b o<|r.st.gs b o h,λb o h=>?_,λb o h hb=>?_⟩,r.p0,λi s h=>?_,by rw[A1];exact r.len,lB r.dj λa h=>(by cases h),lB r.dj2 λa h=>(by cases h)⟩
  ·by_cases e:b=p
   ·subst e;rw[bY]at h ⊢;exact h
   ·rw[aM e]at h ⊢;exact r.wd.sub b o h
  ·obtain⟨u',h,q⟩:=r.wd.pen;exact⟨u',by rw[aM FD];exact h,PK.mono sb q⟩
  ·by_cases e:b=p
   ·subst e;exact .inr<|.inl a3
   ·rw[aM e]at h;exact r.st.gn b o h
  ·rw[aM<|λe=>by subst e;rw[a3]at h;cases h]
   exact r.st.hk b o h hb
  ·by_cases e:k=i
   ·subst e;rw[AS hl]at h;cases h;exact⟨_,hσ,.d<|(h4.mono sb).dn hx bY⟩
   ·rw[AL e]at h;obtain⟨o,q1,q2⟩:=r.sl i s h;refine⟨o,q1,?_⟩;cases q2 with
    |un=>exact .un
    |d z=>exact .d (z.mono sb)
    |pen=>exact .pen
    |fn=>exact .fn
    | @own q vs ys b1 b2 b3 b4 =>
     have hn:q≠p:=λe2=>by subst e2;rw[hp]at b1;cases b1
     exact .own (by rw[aM hn];exact b1) (by rw[aM hn];exact b2) b3 (DnAll.mono sb b4)
    | @dic q ks' kvs' b1 b2 b3 b4 =>
     have hn:q≠p:=λe2=>by subst e2;rw[hp]at b1;cases b1
     exact .dic (by rw[aM hn];exact b1) (by rw[aM hn];exact b2) b3 (b4.mono sb)
    |dip b1 b2 b3 b4=>exact absurd h<|Zc2 hno e
def Inv.knownT{X:Cx}{pins:Fl (Fq×Obj)}{σ:St}{H:Hp}{s:Fp}{a:Fq}{ks:Fl (Fl aL×V)}(I:Inv X pins σ H s)(h:H a=some (.dT ks)):∃o,Inv X pins σ (upd H a<|.frz o<|.dT ks) s:=by
 obtain⟨hz,hS,xs,r,o,es,ep,ho,h1,h2,h3,h4⟩:=(show ObjOk X.prog X.w H s.heap a (.dT ks)from I.hok a _ h)
 refine⟨o,?_⟩;have r':KT (upd H a<|.frz o<|.dT ks) ks xs:=KT.keeps r λc ys ec=>by
  rw[aM λe=>by subst e;rw[h]at ec;cases ec]
  exact ec
 exact I.write (t':=s.toks) (h':=s.heap) (e:=a) (by rw[h];trivial) (.inl rfl) (λb u _ q=>q) ⟨o,ho⟩ ⟨ho,hz,hS,xs,r',o,es,ep,ho,h1,h2,h3,h4⟩
end
section
variable{PK:Pk}{X:Cx}{e:Fw}{i:DR}{st:Fx}{s:DU}
noncomputable def vT(k:Nat):DU:=λρ=>.ret<|.next<|ρ.set k<|.dip []
def ZfE{k:Nat}(h:PS X st (dC ZaC<|dH k)):PS X st (bH PK<|vT k):=h.imp λD σ H Fy=>by obtain⟨pa,D8,H₀,m,ρ,G,R,z⟩:=Fy;intro p hp;exact z _ G _ .refl<|R.newP (ks:=[]) hp .nil k
def lO(k:Nat)(n i:DR):DU:=λρ=>(i ρ).bind λx=>match ρ[k]? with
 | some (.dip xs)=>(n ρ).bind λy=>match y with
  | .tuple ks=>match ints? ks with
   |some ns=>if (small (xs.length+1)&&io k ρ)=true then .ret (.next<|ρ.set k<|.dip<|hZ xs ns x)else .fail
   |none=>.fail
  |_=>.fail
 |_=>.fail
def ZfH{k:Nat}{n:DR}(h:PS X st (Zbz (gI k) (TAe PK n)<|TAe PK i)):PS X st (bH PK<|lO k n i):=h.imp λD σ H Fy=>by
 obtain⟨pa,D8,H₀,m,ρ,G,R,z⟩:=Fy;refine TAe.then R z λm1 x v G1 H1 s1 w1 R1 d1 q1=>?_
 split at q1
 ·rename_i xs hx;obtain⟨o,h1,h2⟩:=R1.sl k _ hx;cases h2 with
  | @dip p ks _ a1 a2 a3 a4 =>
   refine⟨_,h1,?_⟩;refine TAe.then R1 q1 λm2 y u G2 H2 s2 w2 R2 d2 q2=>?_;obtain⟨o,h1',h2⟩:=R2.sl k _ hx;rw[h1]at h1';cases h1';cases h2 with
   | @dip _ ks2 _ b1 b2 b3 b4 =>
    cases d2 with
    | @tup c vs es c1 c2 =>
     cases hi:ints? es with
     |none=>dsimp only at q2;rw[hi]at q2;exact q2.elim
     | some ns =>
      dsimp only at q2;rw[hi]at q2;obtain⟨hs,q2⟩:=gf q2;obtain⟨hs1,hs2⟩:=A2.mp hs;have hs':xs.length+1<=sizeLine:=Ec hs1;obtain⟨e1,_⟩:=c2.ints_inv hi;have hc:H2 c=some (.tup<|(ns.map (Sum.inl:Int->aL)).map kV):=by rw[AR];have:=w2.sub _ _ c1;rw[e1]at this;exact this
      refine⟨p,_,rfl,DPut.t (k:=ns.map Sum.inl) b1 hc<|by rw[Av,b4.len];omega,?_⟩
      rw[pf];exact q2 σ G2 _ (s1.gs.trans s2.gs) (R2.changeP hx h1 hs2<|b4.put ns<|d1.mono s2.gs)
    |_=>exact q2.elim
 ·exact q1.elim
def yT(k:Nat)(ρ:D7):D7:=match ρ[k]? with
 |some (.dip xs)=>if (io k ρ && !xs.isEmpty)=true then ρ.set k (.d<|pD xs)else ρ
 |_=>ρ
def lQ(k:Nat)(s:DU):DU:=λρ=>s<|yT k ρ
def ZfI{k:Nat}(h:PS X st (bH PK s)):PS X st (bH PK<|lQ k s):=by
 intro pins sh σ H D I Fy;obtain⟨pa,D8,H₀,m,ρ,G,R,z⟩:=Fy;unfold lQ yT at z
 split at z
 ·rename_i xs hk
  split at z
  ·rename_i hh;obtain⟨h1,h2⟩:=A2.mp hh;obtain⟨o,q1,q2⟩:=R.sl k _ hk;cases q2 with
   | @dip p ks _ a1 a2 a3 a4 =>
    obtain⟨ob,I'⟩:=I.knownT a1;obtain⟨sb,R'⟩:=R.keepP hk q1 a1 a4 h1 (λz=>by rw[z]at h2;cases h2) ob
    exact h pins sh σ _ D I' ⟨pa,D8,H₀,m,_,_,R',Tr.ok_mono z λ_ _ k'=>Ko.later k' sb⟩
  ·exact h pins sh σ H D I ⟨pa,D8,H₀,m,ρ,G,R,z⟩
 ·exact h pins sh σ H D I ⟨pa,D8,H₀,m,ρ,G,R,z⟩
end
def ZkZ{X:Cx}{pins:Fl (Fq×Obj)}{σ:St}{H:Hp}{s:Fp}{a:Fq}{o:Obj}{ks:Fl (Fl aL×V)}(I:Inv X pins σ H s)(h:H a=some (.frz o<|.dT ks)) :
  ∃xs es ep,KT H ks xs/\s.heap.get? a=some o/\o.data=.dict es ep/\RawD s.heap a es ep/\(a==sysModules)=false/\es.toList=xs.map (entryOfKey<|tupleKind<|bP X.prog X.w)/\ks.length<=sizeLine:=by
 obtain⟨ho,hz,hS,xs,r,o',es,ep,FT,h1,h2,h3,_⟩:=(show ObjOk X.prog X.w H s.heap a (.frz o<|.dT ks)from I.hok a _ h)
 rw[ho]at FT;cases FT;exact⟨xs,es,ep,r,ho,h2,⟨o,ho,h1,h2⟩,hS,h3,hz⟩
theorem KT.at{H:Hp}{ks:Fl (Fl aL×V)}{xs:Fl (Fl aL×Fq×Fo)}(r:KT H ks xs):∀(i:Nat)(k:Fl aL×V),ks[i]?=some k->∃x,xs[i]?=some x/\H x.2.1=some (.tup<|k.1.map kV):=by
 induction r with
 |nil=>intro i k h;cases h
 | @cons a b l m h _ ih =>
  intro i k e;cases i with
  | zero =>
   cases e;exact⟨b,rfl,h.2.1⟩
  | succ i =>
   rw[A6]at e ⊢;exact ih i k e
def Zlm{X:Cx}{H:Hp}{ks:Fl (Fl aL×V)}{xs:Fl (Fl aL×Fq×Fo)}{es:Array DictEntry}(r:KT H ks xs)(e:es.toList=xs.map (entryOfKey<|tupleKind<|bP X.prog X.w)):es.size=ks.length:=by have:=Eg List.length e;rw[B9,Av]at this;exact this.trans r.length.symm
def Zln{X:Cx}{xs:Fl (Fl aL×Fq×Fo)}{es:Array DictEntry}(e:es.toList=xs.map (entryOfKey<|tupleKind<|bP X.prog X.w)){i:Nat}{x:Fl aL×Fq×Fo}(h:xs[i]?=some x){y:DictEntry}(hy:es[i]?=some y):y.key=.ref x.2.1:=by
 have q:=entry_at e i;rw[hy,h]at q;cases q
 rfl
section
variable{PK:Pk}{X:Cx}{i:DR}
def wc(PK:Pk):Prop:=∀xs G m,¬ PK.is (.tup xs) G m
def Wd.take{pa:Fq}{m:Nat}{G H:Hp}(nt:wc PK)(w:Wd PK pa m G H){b:Fq}{ns:D2}(h:H b=Option.some (.tup<|ns.map V.int)):∃G',Stp pa G H G' H/\Wd PK pa m G' H/\Dn G' (.ref b) (.tuple<|ns.map PyData.int):=by
 have FD:pa≠b:=λe=>by obtain⟨o,h1,h2⟩:=w.pen;rw[e,h]at h1;cases h1;exact nt _ _ _ h2
 cases e:G b with
 | some o =>
  have:=w.sub b o e;rw[h]at this;cases this;exact⟨G,.refl,w,.tup e<|DnAll.ints ns⟩
 | none =>
  have sb:Sub G (upd G b<|.tup<|ns.map V.int):=Sub.new e;refine⟨upd G b<|.tup<|ns.map V.int,⟨sb,λc o hc=>?_,λ_ _ q _=>q⟩,w.freeze h e FD,.tup bY<|DnAll.ints ns⟩;by_cases ec:c=b
  ·subst ec;exact .inr<|.inr ⟨Ne.symm FD,_,h⟩
  ·rw[aM ec]at hc;exact .inl hc
def gx:Fl (Fn×Fn)->Fm (Fl D2)
 | []=>some []
 |(.tuple ks,_)::r=>(ints? ks).bind λns=>(gx r).map (ns::·)
 |_::_=>none
def itP:Fn->Fm D1
 |.dict []=>none
 |.dict kvs=>(gx kvs).map λks=>ks.map λk=>PyData.tuple (k.map PyData.int)
 |_=>none
theorem ZdK:∀{l:Fl (D2×V)}{ds:D1},ds.length=l.length->gx ((l.map λk=>PyData.tuple<|k.1.map PyData.int).zip ds)=some (l.map (·.1))
 | [],ds,h=>by
  cases ds with
  |nil=>rfl
  |cons _ _=>cases h
 |k::l,[],h=>by cases h
 | k::l,d::ds,h=>by
  rw[Ax,A0,Ax];unfold gx;rw[ints?_map,ZdK<|BV h]
  rfl
def Dn.keys{G:Hp}{v:V}{x:Fn}{xs:D1}(d:Dn G v x)(h:itP x=some xs) :
  ∃a o l,v=.ref a/\G a=some (.frz o<|.dT<|List.map ci l)/\xs=l.map λk=>PyData.tuple (k.1.map PyData.int):=by
 cases d with
 | @dct a ks ds h1 h2 =>
  have hl:=h2.length;rw[Av]at hl;cases ks with
  |nil=>rw[BO,Dl]at h;cases h
  | cons k ks =>
   cases ds with
   |nil=>cases hl
   | cons y ds =>
    rw[Ax,A0]at h;obtain⟨c,_⟩:=k;cases c <;> cases h
 | @dcp a o ks ds h0 h1 h2 =>
  have hl:=h2.length;rw[Av]at hl;refine⟨a,o,ks,rfl,h1,?_⟩;have e:=ZdK (l:=ks) (ds:=ds) hl.symm;cases ks with
  |nil=>exact absurd rfl h0
  | cons k ks =>
   cases ds with
   |nil=>cases hl
   | cons y ds =>
    rw[Ax,A0]at h e;have h:(gx ((PyData.tuple<|k.1.map PyData.int,y)::(ks.map λk=>PyData.tuple<|k.1.map PyData.int).zip ds)).map (λks=>ks.map λk=>PyData.tuple<|k.map PyData.int)=some xs:=h;rw[e]at h;cases h;exact AR
 |_=>cases h
def ZdL(ns:D2):(ns.map (Sum.inl:Int->aL)).map kV=ns.map V.int:=by rw[AR];rfl
end
section
variable{prog:Fs}{w:Ft}{A:Fu}{E:DZ}{s:Fp}
end
section
variable{prog:Fs}{w:Ft}{A:Fu}{R:Result->Fp->Prop}{I:Fq}{fp wr:Fl Fq}{G:Array GenState->Array GenState->Prop}{n:Nat}{P:Nat->Fo->Prop}{St:Nat->Fp->Prop}
end
section
variable{prog:Fs}{w:Ft}{A:Fu}{E:DZ}{s:Fp}
end
section
variable{prog:Fs}{w:Ft}{A:Fu}{E:DZ}{s:Fp}
end
end L2
namespace PySem.F
end PySem.F
namespace L2
section
variable{prog:Fs}{w:Ft}{A:Fu}{E:DZ}{s:Fp}{I p:Fq}{first:Fo}{i n ep ep':Nat}{o:Obj}{es:Array (Int×Fo)}{t:SetTable}
end
section
variable{prog:Fs}{w:Ft}{A:Fu}{E:DZ}{s:Fp}{I p:Fq}{i n ep:Nat}{o:Obj}{es:Array (Int×Fo)}{t:SetTable}
end
end L2
namespace PySem.F
end PySem.F
namespace L2
section
variable{prog:Fs}{w:Ft}{A:Fu}{E:DZ}{s:Fp}{I p tp:Fq}{n ep:Nat}{o:Obj}{es:Array (Int×Fo)}{t:SetTable}
end
section
variable{prog:Fs}{w:Ft}{A:Fu}{E:DZ}{s:Fp}{p:Fq}
end
section
variable{prog:Fs}{w:Ft}{A:Fu}{E:DZ}{s:Fp}{p:Fq}
end
section
variable{prog:Fs}{w:Ft}{A:Fu}{E:DZ}{s:Fp}{p:Fq}
end
section
variable{X:Cx}
end
variable{PK:Pk}{X:Cx}{is:DS}{e:Fw}
section
variable{prog:Fs}{w:Ft}{A:Fu}{E:DZ}{s:Fp}{p:Fq}
end
section
variable{X:Cx}
end
variable{PK:Pk}{X:Cx}{is:DS}{e:Fw}
section
variable{prog:Fs}{w:Ft}{A:Fu}{E:DZ}{s:Fp}{d:Fq}{es:Array DictEntry}{ep:Nat}
abbrev Zf9(es:Array DictEntry):Nat->Fo->Prop:=λi v=>∃e,es[i]?=some e/\v=e.key
def Zge(hh:A.handled=none)(it:Fq)(FD:d≠it):Walks prog w A it [it,d] [it] es.size (Zf9 es) (λi h=>KiAt h it d i es.size ep/\RawD h d es ep) where
 sub:=λb hb=>by cases hb with|head=>exact AB ..|tail _ h=>cases h
 frame:=λi h h' st k=>by obtain⟨⟨o,a,b⟩,r⟩:=st;exact⟨⟨o,k it (AB ..) o a,b⟩,r.mono λo q=>k d (Az _<|AB ..) o q⟩
 item:=λi s Q E hi st q=>by
  refine Zc5 hh st.1 st.2 (λy h' hy st' sb=>?_) λhn=>?_
  ·exact q y.key h' s.toks ⟨y,hy,rfl⟩ ⟨st',st.2.mono λo z=>sb.extBut d o FD z⟩ λb o hb z=>sb.extBut b o (λe=>hb<|by rw[e];exact AB ..) z
  ·rw[Array.getElem?_eq_none_iff]at hn;omega
 done:=λs Q E st q=>by
  refine Zc5 hh st.1 st.2 (λy h' hy=>?_) λ_ h' eb=>q h' s.toks λb o hb z=>eb b o (λe=>hb<|by rw[e];exact AB ..) z
  have:=(DD.mp hy).1;omega
 self:=λi s Q E st q=>by obtain⟨st,_⟩:=st;apply Fg st.ty F.slot_dict_keyiterator_iter;refine El F.slot_dict_keyiterator_iter st.ty F.entry_dict_keyiterator_iter ?_<|F.args_dict_keyiterator_iter_1 _;show wpAny _ _ (ret<|.ref it) _ _ s;exact D9 ⟨_,rfl,_,_,st.ty,F.slot_dict_keyiterator_next.lookup,q⟩
def Zha(lo:(d==sysModules)=false):PySem.W.KdlSrc prog w "dict" d d es.size (Zf9 es) (λh=>RawD h d es ep) where
 type:=λs r=>r.ty
 there:=λh r=>let ⟨o,a,_⟩:=r;⟨AI a,AI a⟩
 keep:=λh h' r k=>r.mono λo q=>k d (.inl rfl) o q
 notList:=by decide
 notTuple:=by decide
 hint:=λA E s Q r q=>PySem.W.kdl_hint_dict r.ty q
 iter:=λA s hh r=>by refine⟨{cls:=.type "dict_keyiterator",data:=.fields (yD d 0 es.size ep)},λi h=>KiAt h s.heap.objs.size d i es.size ep/\RawD h d es ep,λE Q q=>Zkr lo r q,?_,⟨_,AC _ rfl,rfl,rfl⟩,r.mono λo q=>v9 _ q⟩;obtain⟨o,a,_⟩:=r;exact Zge hh _<|AO<|AI a
def gather{T:String}{r:Fq}{n:Nat}{P:Nat->Fo->Prop}{OK:Fv->Prop}{R:Fl Fo->Fp->Prop}(src:PySem.W.KdlSrc prog w T r d n P OK)(hh:A.handled=none)(ok:OK s.heap)(hk:n<=sizeLine)
  (h:∀h' tk acc,(∀b o,s.heap.get? b=some o->h'.get? b=some o)->s.heap.objs.size<=h'.objs.size->ItemsOf P acc n->R acc.toList {s with heap:=h',toks:=tk}):wpAny (model prog w) A (collect<|.ref r) R E s:=by
 obtain⟨hr,hd⟩:=src.there _ ok;have g0:(s.heap.push {cls:=.type "list",data:=.seq ([]:D3).toArray}).get? s.heap.objs.size=some {cls:=.type "list",data:=.seq #[]}:=AC _ rfl;have walk:=PySem.W.kdl_extend (A:=A) (s:={s with heap:=s.heap.push {cls:=.type "list",data:=.seq ([]:D3).toArray} })
  (R:=λ(q:Result) (s':Fp)=>∃h' tk acc c,q=.ok (.ret<|.ref s.heap.objs.size)/\s'={s with heap:=h',toks:=tk}/\(∀b o,s.heap.get? b=some o->h'.get? b=some o)/\h'.get? s.heap.objs.size=some {cls:=.type "list",dict:=none,data:=.seq acc c,slots:=#[]}/\ItemsOf P acc n)
  src hh (src.keep _ _ ok λb _ o q=>v9 _ q) s.heap.objs.size (A5 hr) (A5 hd) (.ref s.heap.objs.size) 0 g0
  (λh' tk acc c k1 k2 k3=>⟨h',tk,acc,c,rfl,rfl,λb o q=>k1 b o (AO<|AI q)<|v9 _ q,k2,k3⟩) hk
 unfold collect;refine wp<|wpAny_runValue<|Eu F.entry_proto_collect ?_;rw[Bo F.plain_proto_collect _];show wpAny _ A.in1 (newList [] >>= λl=>again<|.builtin "list.__iadd__" ⟨[l,.ref r],[]⟩) _ _ s;refine wp<|Ee<|D9 ⟨EA C7 _,Eu F.entry_list_iadd ?_⟩;rw[Bo C7 _];refine Ei walk (λfl s' z=>?_) λe s' z=>?_
 ·have fin:∀{q:Result}{s':Fp},(∃h' tk acc c,q=.ok (.ret<|.ref s.heap.objs.size)/\s'={s with heap:=h',toks:=tk}/\(∀b o,s.heap.get? b=some o->h'.get? b=some o)/\h'.get? s.heap.objs.size=some {cls:=.type "list",dict:=none,data:=.seq acc c,slots:=#[]}/\ItemsOf P acc n) ->
    q=.ok (.ret<|.ref s.heap.objs.size)/\wpAny (model prog w) A (load s.heap.objs.size >>= λo=>match o.data with|.seq xs _=>pure xs.toList|_=>unsupported "internal:collect") R E s':=λz=>by obtain⟨h',tk,acc,c,e,rfl,k1,k2,k3⟩:=z;exact⟨e,wp<|wpAny_load k2<|D9<|h h' tk acc k1 (B5<|AI k2) k3⟩
  cases fl with
  | done f =>
   obtain⟨e,q⟩:=fin z;cases e;exact q
  | again c1 =>
   refine⟨z.1,E8 z.2 λq s2 y=>?_⟩;obtain⟨e,q'⟩:=fin y;subst e;exact q'
 ·obtain⟨_,_,_,_,e',_⟩:=z;cases e'
end
noncomputable def jd:Fl Int->Fl Int->Bool
 |x::xs,y::ys=>if x=y then jd xs ys else decide (x<y)
 |_,_=>false
def NumT(h:Fv)(v:Fo)(ns:D2):Prop:=∃a o us n,v=.ref a/\h.get? a=some o/\o.cls=.type "tuple"/\o.data=.seq us n/\IntsAre us.toList ns
def NumT.keeps{h h':Fv}{v:Fo}{ns:D2}(t:NumT h v ns)(k:∀b o,h.get? b=some o->h'.get? b=some o):NumT h' v ns :=
 let ⟨a,o,us,n,e,h1,r⟩:=t;⟨a,o,us,n,e,k a o h1,r⟩
section
variable{prog:Fs}{w:Ft}{A:Fu}{E:DZ}{s:Fp}{Q:Bool->Fp->Prop}{b:Bool}
theorem Zdk:∀{xs ys:D2}{us vs:D3}{i:Nat},IntsAre us xs->IntsAre vs ys->xs.length=ys.length->Q (jd xs ys) s->PySem.W.KatLex prog w A b false Q (us.zip vs) i s
 | [],[],_,_,i,hu,hv,_,q=>by cases hu;exact PySem.W.kat_nil q
 | x::xs,y::ys,_,_,i,hu,hv,hl,q=>by
  cases hu with
  | cons _ t hu =>
   cases hv with
   | cons _ t' hv =>
    rename_i us vs;rw[A0];refine PySem.W.kat_cons<|wpAny_eqBool_int ?_;unfold jd at q;by_cases e:x=y
    ·rw[Ed e]at q;rw[show(x==y)=true from EW.mpr e]
     exact PySem.W.kat_yes<|Zdk hu hv (BV hl) q
    ·rw[Ef e]at q;rw[show(x==y)=false from Eh.mpr e]
     refine PySem.W.kat_no ?_;cases (b&&i==0)with
     |true=>exact oneLt_int q
     | false =>
      refine PySem.W.kat_one _ _<|lt_int ?_;exact q
 | [],_::_,_,_,_,_,_,h,_=>by cases h
 |_::_,[],_,_,_,_,_,h,_=>by cases h
def ZdY{us:D3}{ns:D2}(h:IntsAre us ns):us.length=ns.length:=by
 induction h with
 |nil=>rfl
 |cons _ _ _ ih=>rw[AE,AE,ih]
def ZjN{u v:Fo}{xs ys:D2}(hu:NumT s.heap u xs)(hv:NumT s.heap v ys)(hl:xs.length=ys.length)(q:Q (jd xs ys) s):wpAny (model prog w) A (keyLt' (tuples' b) u v) Q E s:=by
 obtain⟨a,o,us,n,rfl,h1,h2,h3,h4⟩:=hu;obtain⟨a',o',us',n',rfl,k1,k2,k3,k4⟩:=hv;refine PySem.W.kat_lt h1 h3 k1 k3 ?_;have e:decide (us.size<us'.size)=false:=by rw[<- B9,<- B9,ZdY h4,ZdY k4,hl];exact Eb<|AX _
 rw[e];exact Zdk h4 k4 hl q
end
section
variable{prog:Fs}{w:Ft}{A:Fu}{E:DZ}{s:Fp}
theorem Zej{h:Fv}:∀{vs:D3},(∀v∈vs,∃n ns,NumT h v (n::ns))->∃fs,PySem.W.KatTups h vs fs/\fs.length=vs.length/\∀f∈fs,∃n t,f=Value.int n t
 | [],_=>⟨[],PySem.W.KatTups.nil,rfl,nofun⟩
 | v::vs,hv=>by
  obtain⟨fs,h1,h2,h3⟩:=Zej (vs:=vs) λu hu=>hv u<|Az _ hu;obtain⟨n,ns,a,o,us,k,rfl,a1,a2,a3,a4⟩:=hv v<|AB ..;cases hus:us.toList with
  |nil=>rw[hus]at a4;cases a4
  | cons u ul =>
   rw[hus]at a4;cases a4 with
   | cons _ t hr =>
    refine⟨.int n t::fs,PySem.W.KatTups.cons a1 a2 a3 ?_ h1,by rw[AE,AE,h2],λf hf=>?_⟩
    ·rw[<- Array.getElem?_toList,hus]
     rfl
    ·rcases AM.mp hf with rfl|hf
     ·exact⟨n,t,rfl⟩
     ·exact h3 f hf
open PySem.W in
theorem ZfC{cmp:Nat->Nat->(Bool->Fp->Prop)->Fp->Prop}{N:Nat}{p:Array Nat}(hc:∀n C,1<=n->n<N->C false s->cmp (p.getD n 0) (p.getD (n-1) 0) C s) :
  ∀(f n:Nat){Q:Nat->Fp->Prop},1<=n->n+f<=N->Q (n+f) s->(kas_asc p f n).kasWp cmp Q s
 |0,n,Q,_,_,q=>q
 | f+1,n,Q,h1,h2,q=>by
  refine hc n _ h1 (by omega) ?_
  have e:n+(f+1)=n+1+f:=by omega
  rw[e]at q h2;exact ZfC hc f (n+1) (by omega) h2 q
open PySem.W in
def Zhd{cmp:Nat->Nat->(Bool->Fp->Prop)->Fp->Prop}{N:Nat}(h2:2<=N)(hc:∀n C,n+1<N->C false s->cmp (n+1) n C s){G:Array Nat->Fp->Prop}(g:G (List.toArray<|List.range N) s):(kas_sort N).kasWp cmp G s:=by
 have at':∀i,i<N->(List.toArray<|List.range N).getD i 0=i:=λi hi=>by simp[Array.getD,hi]
 unfold kas_sort kas_count;rw[KasT.kasWp_bind,KasT.kasWp_bind];refine ZfC (N:=N) (λn C h1 h3 q=>?_) (N-1) 1 (Aw _) (by omega) ?_
 ·rw[at' n h3,at' (n-1)<|by omega]
  obtain⟨m,rfl⟩:∃m,n=m+1:=⟨n-1,by omega⟩
  exact hc m C h3 q
 ·have e:1+(N-1)=N:=by omega
  rw[e];show KasT.kasWp cmp (if (N==N)=true then _ else _) _ s
  rw[Ed<|beq_self_eq_true N];show KasT.kasWp cmp (if N<N then _ else _) G s
  rw[Ef<|AX N];exact g
def yO{vs:D3}{i:Nat}{v:Fo}(h:vs[i]?=some v):vs.getD i Value.none=v:=by rw[List.getD_eq_getElem?_getD,h];rfl
def Zic(vs:D3):(List.toArray<|List.range vs.length).toList.map (λi=>vs.getD i Value.none)=vs:=by
 apply Dt;intro i;rw[AK];by_cases hi:i<vs.length
 ·have e:(List.toArray<|List.range vs.length).toList[i]?=some i:=by simp[hi]
  rw[e,Au hi];show some (vs.getD i Value.none)=_;rw[yO<|Au hi]
 ·have e:(List.toArray<|List.range vs.length).toList[i]?=none:=by simp;omega
  rw[e,CJ<|by omega]
  rfl
structure Rising(h:Fv)(vs:D3)(kss:List D2):Prop where
 len:vs.length=kss.length
 num:∀(i:Nat)(v:Fo)(ns:D2),vs[i]?=some v->kss[i]?=some ns->NumT h v ns
 ne:∀ns∈kss,ns≠[]
 up:∀(i:Nat)(x y:D2),kss[i]?=some x->kss[i+1]?=some y->y.length=x.length/\jd y x=false
def Rising.keeps{h h':Fv}{vs:D3}{kss:Fl D2}(r:Rising h vs kss)(k:∀v∈vs,∀ns,NumT h v ns->NumT h' v ns):Rising h' vs kss :=
 ⟨r.len,λi v ns a b=>k v (Bi a) ns<|r.num i v ns a b,r.ne,r.up⟩
def Rising.head{h:Fv}{vs:D3}{kss:Fl D2}(r:Rising h vs kss):∀v∈vs,∃n ns,NumT h v (n::ns):=λv hv=>by
 obtain⟨i,hi,e⟩:=BJ.mp hv;have hk:i<kss.length:=by rw[<- r.len];exact hi
 have q:=r.num i v kss[i] (by rw[Au hi,e])<|Au hk
 have n0:=r.ne kss[i]<|AW hk;cases e2:kss[i]with
 |nil=>exact absurd e2 n0
 |cons n ns=>exact⟨n,ns,e2 ▸ q⟩
def Zhc{a:Fq}{vs:D3}{n:Nat}{P:PySem.Fin->Fp->Prop}(ho:s.heap.get? a=some (seqObj "list" vs.toArray n)){kss:Fl D2}(hr:Rising s.heap vs kss)(h64:vs.length<64)
  (h:P (.done<|.ret .none) {s with heap:=sortedHeap s.heap a vs vs.toArray}):wpAny (model prog w) A (Builtin.«list.sort» ⟨[.ref a],[]⟩) P E s:=by
 have ha:a<s.heap.objs.size:=AI ho;have hsz:vs.toArray.size=vs.length:=AG ..;obtain⟨e1,ho1⟩:∃e1,(s.heap.update a<|Obj.mapSeq λ_=>#[]).get? a=some (seqObj "list" #[] e1):=⟨_,get?_update_seq ho λ_=>#[]⟩
 let h3:Fv:=((s.heap.update a<|Obj.mapSeq λ_=>#[]).push<|seqObj "tuple" vs.toArray 0).push<|seqObj "list" #[] 0
 have kp:∀b o,(s.heap.update a<|Obj.mapSeq λ_=>#[]).get? b=some o->h3.get? b=some o:=λb o q=>v9 _<|v9 _ q;have ho3:h3.get? a=some (seqObj "list" #[] e1):=kp _ _ ho1;have hr3:Rising h3 vs kss:=hr.keeps λv hv ns t=>by
  obtain⟨b,o,us,k,e,t1,t2,t3,t4⟩:=t;have hb:b≠a:=λe=>by rw[e,ho]at t1;cases t1;have t2:Value.type "list"=Value.type "tuple":=t2;exact absurd t2<|by decide
  exact⟨b,o,us,k,e,kp _ _<|(Bn _ _<|Ne.symm hb).trans t1,t2,t3,t4⟩
 rw[list_sort_plain];apply wp;apply listItems_at ho rfl;apply wp;refine listUpdate_at ho rfl ?_ (by rw[hsz,Ex];omega) (Bf _)
 apply wp;apply seqEpoch_at ho1 rfl;apply wp;refine wpAny_newTuple ?_<|by show vs.length<=_;rw[Ex];omega
 apply wp;refine wpAny_newList ?_<|Bf _;apply Ej;show wpAny (model prog w) A _ P E {s with heap:=h3};dsimp only;have tail:∀st:SortSt,(arrOf st).map (·.2)=vs.toArray->failedOf st=none->wpAny (model prog w) A (do
   let touched:=(<- seqEpoch a) != e1
   Builtin.List.listUpdate (.ref a) λ_=>(arrOf st).map (·.2)
   if let some e:=failedOf st then rule "list.sort.comparison-raised";throw e
   if touched then rule "list.sort.modified";raiseError "ValueError" "list modified during sort"
   ret .none) P E {s with heap:=h3}:=λst q1 q2=>by
  apply wp;apply seqEpoch_at ho3 rfl;rw[q1];apply wp;refine listUpdate_at ho3 rfl ?_ (Bf _) (by rw[hsz,Ex];omega)
  rw[q2];simp only[bne_self_eq_false,Bk,EJ];exact D9 h
 by_cases h2:vs.toArray.size<2
 ·rw[Ed h2,Ed h2];apply wp;apply D9;rw[StateT.run_pure];apply wp;apply D9;refine tail (SortSt.mk' general' (vs.toArray.zip vs.toArray) #[] 7 none) ?_ rfl;show(vs.toArray.zip vs.toArray).map (·.2)=_;rw[Array.map_snd_zip<|Aw _]
 ·rw[Ef h2,Ef h2];have h2':2<=vs.length:=by omega
  obtain⟨fs,f1,f2,f3⟩:=Zej hr3.head;apply wp;refine PySem.W.kat_kind (s:={s with heap:=h3}) (T:=.type "int") f1 (by omega) (λv hv=>?_) (by decide) ?_
  ·obtain⟨k,t,rfl⟩:=f3 v hv;exact PySem.W.Looks.of_pure rfl
  apply wp;refine Ei (PySem.W.kat_run (s:={s with heap:=h3}) (Q:=λst s'=>s'={s with heap:=h3}/\(arrOf st).map (·.2)=vs.toArray/\failedOf st=none) (G:=λp s'=>p=List.toArray (List.range vs.length)/\s'={s with heap:=h3}) rfl h2' h64
   (λp st s' a1 a2 a3 a4=>?_) ?_) ?_ λ_ _ e=>e
  ·obtain⟨rfl,rfl⟩:=a4;exact⟨rfl,(PySem.W.kat_snds rfl a2).trans<|Eg List.toArray<|Zic vs,a3⟩
  ·refine Zhd h2' (λi C hi q=>?_) ⟨rfl,rfl⟩;have b1:i<kss.length:=by rw[<- hr.len];omega
   have b2:i+1<kss.length:=by rw[<- hr.len];omega
   have c1:vs[i]?=some vs[i]:=Au<|by omega
   have c2:vs[i+1]?=some vs[i+1]:=Au<|by omega
   obtain⟨u1,u2⟩:=hr3.up i _ _ (Au b1)<|Au b2;show wpAny _ _ (keyLt' _ (vs.getD (i+1) Value.none)<|vs.getD i Value.none) C _ _;rw[yO c1,yO c2];exact ZjN (hr3.num _ _ _ c2<|Au b2) (hr3.num _ _ _ c1<|Au b1) u1<|by rw[u2];exact q
  ·rintro⟨⟨⟩,st⟩ s' ⟨rfl,q1,q2⟩;exact tail st q1 q2
end
def gc:Fl D2->Bool
 |x::y::r=>!x.isEmpty&&(y.length==x.length) && !jd y x&&gc (y::r)
 | [x]=>!x.isEmpty
 | []=>true
theorem ZbP:∀{l:Fl D2},gc l=true->∀x∈l,x≠[]
 | [],_,x,hx=>by cases hx
 | [a],h,x,hx=>by rw[Ce.mp hx];intro e;rw[e]at h;cases h
 | a::b::r,h,x,hx=>by
  unfold gc at h;obtain⟨h1,h2⟩:=A2.mp h;rcases AM.mp hx with rfl|hx
  ·intro e;rw[e]at h1;cases h1
  ·exact ZbP h2 x hx
theorem ZbN:∀{l:Fl D2},gc l=true->∀(i:Nat)(x y:D2),l[i]?=some x->l[i+1]?=some y->y.length=x.length/\jd y x=false
 | [],_,i,x,y,h,_=>by cases h
 | [a],_,i,x,y,_,h=>by rw[A6]at h;cases h
 | a::b::r,h,i,x,y,h1,h2=>by
  unfold gc at h;obtain⟨h3,h4⟩:=A2.mp h;cases i with
  | zero =>
   cases h1;cases h2;obtain⟨h5,h6⟩:=A2.mp h3;obtain⟨_,h7⟩:=A2.mp h5;exact⟨EW.mp h7,by simpa using h6⟩
  | succ i =>
   rw[A6]at h1 h2;exact ZbN h4 i x y h1 h2
def Zjo{P:Fs}{w:Ft}{H:Hp}{h:Fv}(ok:HOk P w H h){b:Fq}{ns:D2}(e:H b=some (.tup<|ns.map V.int)):NumT h (.ref b) ns:=by obtain⟨_,Fz,r,o,h1,h2,n,h3⟩:=ok b _ e;exact⟨b,o,Fz.toArray,n,rfl,h1,h2,h3,by simpa using yH r⟩
section
variable{X:Cx}
def Zb4:Fl V->Hp->VK->Prop:=λxs H Q=>∃p o l,xs=[.ref p]/\H p=some (.frz o<|.dT<|List.map ci l)/\gc (l.map (·.1))=true/\l.length<64 /\
  ∀(q:Fq)(bs:Fl Fq),H q=none->bs.length=l.length->(∀(i:Nat)(b:Fq)(k:D2×V),bs[i]?=some b->l[i]?=some k->H b=some (.tup<|k.1.map V.int))->Q (.ref q) (upd H q<|.lst<|bs.map V.ref)
theorem Zal:∀bs:Fl Fq,Vals (bs.map V.ref) (bs.map Value.ref)
 | []=>.nil
 |_::bs=>.cons rfl (Zal bs)
def vI(hc:X.calm=true):dN X (.builtin "sorted") Zb4:=by
 intro pins s σ H xs us Q I r h;obtain⟨p,o,l,rfl,hp,hk,h64,q⟩:=h;obtain⟨u,rfl,ru⟩:=eB r;cases ru;obtain⟨xs,es,ep,rk,ho,hd,rw',lo,he,_⟩:=ZkZ I hp;have hs:es.size=l.length:=(Zlm rk he).trans<|Av ..;have xl:xs.length=l.length:=rk.length.symm.trans<|Av ..;have hh:=I.ok.hd hc;refine Calls.call_function_entry kind_sorted plain_sorted entry_sorted (args_sorted1 _) ?_;unfold Builtin.«sorted»;refine wp (m:=checkCount "sorted" 1 1 _)<|D9<|wp<|gather (A:=X.A.in1) (Zha lo) (by simp[hh]) rw' (by rw[hs,Ex];omega) λh1 tk acc kp hsz it=>?_
 let bs:Fl Fq:=xs.map (·.2.1)
 have bl:bs.length=l.length:=by rw[Av];exact xl
 have FP:acc.toList=bs.map Value.ref:=by
  apply Dt;intro i;rw[AK,AK,Array.getElem?_toList];by_cases hi:i<es.size
  ·have hb:i<acc.size:=by rw[it.1];exact hi
   have h1:acc[i]?=some acc[i]:=Array.getElem?_eq_getElem hb;obtain⟨y,y1,y2⟩:=it.2 i _ h1;have hbx:i<xs.length:=by rw[xl,<- hs];exact hi
   have hx:xs[i]?=some xs[i]:=Au hbx;rw[h1,hx,y2,Zln he hx y1]
   rfl
  ·have h1:acc[i]?=none:=Array.getElem?_eq_none (by rw[it.1];omega)
   have hx:xs[i]?=none:=CJ<|by rw[xl,<- hs];omega
   rw[h1,hx]
   rfl
 have hH:∀(i:Nat)(b:Fq)(k:D2×V),bs[i]?=some b->l[i]?=some k->H b=some (.tup<|k.1.map V.int):=λi b k h1 h2=>by
  rw[AK]at h1;obtain⟨x,hx,rfl⟩:=Bs.mp h1;obtain⟨x',hx',e⟩:=rk.at i (ci k)<|by rw[AK,h2];rfl
  rw[hx]at hx';cases hx';have e:H x.2.1=some (.tup<|(k.1.map (Sum.inl:Int->aL)).map kV):=e;rw[ZdL]at e;exact e
 have hr:Rising (h1.push<|seqObj "list" acc.toList.toArray 0) acc.toList (l.map (·.1)):=by
  refine⟨by rw[FP,Av,bl,Av],λi v ns a b=>?_,ZbP hk,ZbN hk⟩
  rw[FP,AK]at a;obtain⟨c,hc',rfl⟩:=Bs.mp a;rw[AK]at b;obtain⟨k,F0,rfl⟩:=Bs.mp b;exact(Zjo I.hok<|hH i c k hc' F0).keeps λb o z=>v9 _<|kp b o z
 have al:acc.toList.length=l.length:=by rw[FP,Av,bl]
 refine wp<|wpAny_newList ?_<|by rw[al,Ex];omega
 have g1:(h1.push<|seqObj "list" acc.toList.toArray 0).get? h1.objs.size=some (seqObj "list" acc.toList.toArray 0):=AC _ rfl;refine wp<|Ej<|El slot_list_sort ⟨_,g1,rfl⟩ entry_list_sort (Zhc (s:={s with heap:=h1.push<|seqObj "list" acc.toList.toArray 0,toks:=tk}) g1 hr (by rw[al];exact h64) ⟨_,rfl,?_⟩)<|args_list_sort _
 obtain⟨e,he'⟩:=sortedHeap_at (out:=acc.toList.toArray) g1;refine D9 ⟨_,rfl,.ref h1.objs.size,_,I.laid (a:=h1.objs.size) (o:=.lst<|bs.map V.ref) (t':=tk) (λb o z=>?_) hsz ⟨by rw[Av,bl,Ex];omega,bs.map Value.ref,e,Zal bs,by rw[<- FP];exact he'⟩,rfl,q _ bs (I.hok.fresh hsz) bl hH⟩
 have hb:=AI<|kp b o z;rw[sortedHeap_old (AO hb)<|by rw[Bj];exact B2 hb]
 exact v9 _<|kp b o z
end
section
variable{PK:Pk}{X:Cx}{is:DS}{e:Fw}
def Zf1(PK:Pk)(r:Fl V->Hp->VK->Prop)(f:Fl Fn->Fm D1):Prop:=∀(pa:Fq)(m:Nat)(G H:Hp)(vs:D5)(ds:D1)(d:D1)(Q:VK),Wd PK pa m G H->DnAll G vs ds->f ds=some d->Ko1 PK pa m G H d Q->r vs H Q
def vQ{t:TA}{r:Fl V->Hp->VK->Prop}{f:Fl Fn->Fm D1}(h:PE X e (fN r<|TAd PK is))(hv:Zf1 PK r f):PE X e (eG PK<|gE f is):=h.imp λσ H Q Fy=>by obtain⟨pa,D8,H₀,m,ρ,G,R,z⟩:=Fy;refine TAd.then R z λm1 xs vs G1 H1 s1 w1 R1 d1 q1=>?_;obtain⟨d,hd,k⟩:=Tr.ok_of q1;exact hv _ _ _ _ _ _ _ _ w1 d1 hd<|Ko1.later k s1 w1.some
def hU:Fl Fn->Fm D1
 | [.dict (p::kvs)]=>(gx (p::kvs)).bind λks=>if (decide (ks.length<64)&&gc ks)=true then some (ks.map λk=>PyData.tuple<|k.map PyData.int)else none
 |_=>none
def Zg9{x:Fn}{d:D1}(h:hU [x]=some d):itP x=some d/\∀l:Fl (D2×V),d=(l.map λk=>PyData.tuple<|k.1.map PyData.int)->l.length<64/\gc (l.map (·.1))=true:=by
 have inj:∀{a b:Fl D2},(a.map λk=>PyData.tuple<|k.map PyData.int)=(b.map λk=>PyData.tuple<|k.map PyData.int)->a=b:=by
  intro a
  induction a with
  | nil=>intro b e;cases b with
   |nil=>rfl
   |cons _ _=>cases e
  | cons x a ih=>intro b e;cases b with
   |nil=>cases e
   | cons y b =>
    rw[Ax,Ax]at e;injection e with e1 e2;injection e1 with e1;rw[ih e2];have:ints? (x.map PyData.int)=ints? (y.map PyData.int):=by rw[e1]
    rw[ints?_map,ints?_map]at this;rw[A8 this]
 cases x with
 | dict kvs =>
  cases kvs with
  |nil=>cases h
  | cons p kvs =>
   have h:((gx (p::kvs)).bind λks=>if (decide (ks.length<64)&&gc ks)=true then some (ks.map λk=>PyData.tuple<|k.map PyData.int)else none)=some d:=h
   obtain⟨ks,hk,h2⟩:=DM.mp h
   split at h2
   ·rename_i hc;cases h2;obtain⟨c1,c2⟩:=A2.mp hc;refine⟨show(gx (p::kvs)).map _=_ by rw[hk];rfl,λl e=>?_⟩
    have e':ks=l.map (·.1):=inj (e.trans (AR (f:=λk:D2×V=>k.1) (g:=λk:D2=>PyData.tuple<|k.map PyData.int) (l:=l)).symm);have hl:ks.length=l.length:=by rw[e',Av]
    exact⟨by rw[<- hl];exact Ec c1,by rw[<- e'];exact c2⟩
   ·cases h2
 |_=>cases h
theorem Wd.takes{pa:Fq}{m:Nat}(nt:wc PK){H:Hp}:∀{bs:Fl Fq}{l:Fl (D2×V)}{G:Hp},Wd PK pa m G H->bs.length=l.length->(∀(i:Nat)(b:Fq)(k:D2×V),bs[i]?=Option.some b->l[i]?=Option.some k->H b=Option.some (.tup<|k.1.map V.int)) ->
  ∃G',Stp pa G H G' H/\Wd PK pa m G' H/\DnAll G' (bs.map V.ref) (l.map λk=>PyData.tuple<|k.1.map PyData.int)
 | [],[],G,w,_,_=>⟨G,.refl,w,.nil⟩
 | [],_::_,_,_,h,_=>by cases h
 |_::_,[],_,_,h,_=>by cases h
 |b::bs,k::l,G,w,h,hb=>by obtain⟨G1,s1,w1,d1⟩:=w.take nt<|hb 0 b k rfl rfl;obtain⟨G2,s2,w2,d2⟩:=Wd.takes nt (bs:=bs) (l:=l) w1 (BV h) λi b k e1 e2=>hb (i+1) b k e1 e2;exact⟨G2,s1.trans s2 w1.some,w2,.cons (d1.mono s2.gs) d2⟩
def oi(nt:wc PK):Zf1 PK Zb4 hU:=λpa m G H vs ds d Q w hv hd k=>by
 cases hv with
 |nil=>cases hd
 | cons h1 h2 =>
  cases h2 with
  | cons _ _ =>
   unfold hU at hd
   split at hd
   ·rename_i e;cases e
   ·cases hd
  | nil =>
   obtain⟨h3,h4⟩:=Zg9 hd;obtain⟨a,o,l,rfl,hG,rfl⟩:=h1.keys h3;obtain⟨c1,c2⟩:=h4 l rfl;refine⟨a,o,l,rfl,w.sub _ _ hG,c2,c1,λq bs hq hl hb=>?_⟩;obtain⟨G1,s1,w1,d1⟩:=Wd.takes nt w hl hb;obtain⟨w2,s2⟩:=w1.own (o:=.lst<|bs.map V.ref) hq;exact k q _ _ _ (s1.trans s2 w1.some) w2 hq (w1.gnone hq) bY d1
end
section
variable{prog:Fs}{w:Ft}{A:Fu}{R:Result->Fp->Prop}{K:Type}[DecidableEq K]{knd:KeyKind prog w K}{kf:Nat->K}
end
section
variable{prog:Fs}{w:Ft}{A:Fu}{E:DZ}{s:Fp}{K:Type}[DecidableEq K]{knd:KeyKind prog w K}{kf:Nat->K}
end
def wI:Nat->Fl Fn->Fm D1
 |_,[]=>some []
 |k,.tuple [.int i,x]::r=>if i=(k:Int)then (wI (k+1) r).map (x::·)else none
 |_,_::_=>none
section
variable{prog:Fs}{w:Ft}{A:Fu}{R:Result->Fp->Prop}
abbrev TK:=Fl aL×Fq×Fo
def PrT(P:Fs)(w:Ft)(h:Fv)(d it:Fq)(items:Array Fo)(xs:Fl TK):Prop :=
 items.size=xs.length/\∀(i:Nat)(x:TK),xs[i]?=some x->(∃(p:Fq)(o:Obj)(n:Nat),items[i]?=some (.ref p)/\p≠d/\p≠it/\h.get? p=some o/\o.cls=.type "tuple"/\o.data=.seq #[.ref x.2.1,x.2.2] n) /\
  x.2.1≠d/\x.2.1≠it/\(tupleKind<|bP P w).is h x.1 x.2.1
def yE{P:Fs}{w:Ft}{h h':Fv}{k:Fl aL}{a:Fq}(t:(tupleKind<|bP P w).is h k a)(e:∀o,h.get? a=some o->h'.get? a=some o):(tupleKind<|bP P w).is h' k a :=
 let ⟨o,us,n,h1,r⟩:=t;⟨o,us,n,e o h1,r⟩
def PrT.keeps{h h':Fv}{d it:Fq}{items:Array Fo}{xs:Fl TK}(x:PrT prog w h d it items xs)(k:∀b o,b≠d->b≠it->h.get? b=some o->h'.get? b=some o):PrT prog w h' d it items xs :=
 ⟨x.1,λi v hv=>let ⟨⟨p,o,n,a1,a2,a3,a4,a5⟩,b1,b2,b3⟩:=x.2 i v hv;⟨⟨p,o,n,a1,a2,a3,k _ _ a2 a3 a4,a5⟩,b1,b2,yE b3 λo q=>k _ _ b1 b2 q⟩⟩
noncomputable def gj(xs:Fl TK):Fl TK:=xs.foldl (λys x=>storedH ys x.1 x.2.1 x.2.2) []
def Zeg(xs:Fl TK)(x:TK):gj (xs++[x])=storedH (gj xs) x.1 x.2.1 x.2.2:=by
 unfold gj;rw[Dq]
 rfl
def Zeh:∀xs:Fl TK,(gj xs).length<=xs.length:=by
 have g:∀(xs ys:Fl TK),(xs.foldl (λys x=>storedH ys x.1 x.2.1 x.2.2) ys).length<=ys.length+xs.length:=by
  intro xs
  induction xs with
  |nil=>intro ys;exact Aw _
  | cons x xs ih =>
   intro ys;refine AJ (ih<|storedH ys x.1 x.2.1 x.2.2) ?_;have:(storedH ys x.1 x.2.1 x.2.2).length<=ys.length+1:=by
    unfold storedH
    split
    ·rw[Av];omega
    ·rw[AQ];exact Aw _
   rw[AE];omega
 intro xs;have:=g xs [];rw[Bm,Bp]at this;exact this
def DhAt(P:Fs)(w:Ft)(h:Fv)(d it:Fq)(ys:Fl TK):Prop:=h.DictOfH (tupleKind<|bP P w) d ys/\∀y∈ys,y.2.1≠d/\y.2.1≠it
def DhAt.keeps{h h':Fv}{d it:Fq}{ys:Fl TK}(x:DhAt prog w h d it ys)(k:∀b o,b≠it->h.get? b=some o->h'.get? b=some o)(hd:d≠it):DhAt prog w h' d it ys:=by obtain⟨⟨o,es,ep,h1,h2,h3,h4,h5,h6⟩,q⟩:=x;exact⟨⟨o,es,ep,k _ _ hd h1,h2,h3,h4,λy hy=>yE (h5 y hy) λo z=>k _ _ (q y hy).2 z,h6⟩,q⟩
def ZlF(hu:A.units+1<cLine)(hh:A.handled=none){it l d:Fq}(items:Array Fo)(xs:Fl TK)(hli:l≠it)(hdi:d≠it)(hdl:d≠l)(hsz:items.size<=sizeLine) :
  ∀(k i:Nat)(s:Fp),items.size-i=k->i<=items.size->s.heap.IsListIter it l i->s.heap.IsList l items->PrT prog w s.heap d it items xs->DhAt prog w s.heap d it (gj<|xs.take i) ->
   (∀h' tk,DhAt prog w h' d it (gj xs)->(∀b o,b≠d->b≠it->s.heap.get? b=some o->h'.get? b=some o)->R (.ok<|.ret .none) {s with heap:=h',toks:=tk}) ->
   codeAny (model prog w) A (.builtin "dict.update.loop" ⟨[.ref d,.ref it,rawInt i,.none],[]⟩) R s:=by
 intro k
 induction k with
 | zero =>
  intro i s hk hi h1 h2 hP hD hR;have hin:i=items.size:=by omega
  subst hin;refine Eu F.dk_entry_loop ?_;rw[Bo F.dk_plain_loop _];show wpAny _ A.in1 (pyNext (.ref it) >>= _) _ _ s;refine wp<|E5 (A:=A.in1) hh h1 h2 (by simp) λh' eb=>?_
  show wpAny _ A.in1 (Builtin.Dict.addKeywords d [] >>= _) _ _ _;refine wp<|D9 ?_;refine D9 (hR h' s.toks ?_ λb o _ hb q=>eb b o hb q);rw[hP.1,CL]at hD;exact hD.keeps (λb o hb q=>eb b o hb q) hdi
 | succ k ih =>
  intro i s hk hi h1 h2 hP hD hR;have FC:i<items.size:=by omega
  have hlv:i<xs.length:=by rw[<- hP.1];exact FC
  obtain⟨⟨p,o,n,a1,a2,a3,a4,a5,a6⟩,b1,b2,b3⟩:=hP.2 i xs[i]<|Au hlv;refine Eu F.dk_entry_loop ?_;rw[Bo F.dk_plain_loop _];show wpAny _ A.in1 (pyNext (.ref it) >>= _) _ _ s;refine wp (E1 h1 h2 a1 λh' hit' sb=>?_);have hx':xs.take (i+1)=xs.take i++[xs[i]]:=by rw[Dm,Au hlv];rfl
  have hD':DhAt prog w h' d it (gj<|xs.take i):=hD.keeps (λb o hb q=>sb.extBut b o hb q) hdi;have hT:h'.get? p=some o:=sb.extBut _ _ a3 a4;have hlen:(gj<|xs.take i).length<=i:=AJ (Zeh _)<|by rw[C2];omega
  show wpAny _ A.in1 (holding [Value.ref p] _ >>= _) _ _ _;refine wp<|Ej<|wp ?_;refine ET ?_;unfold Builtin.Dict.pairItems;refine wp<|ES (T:="tuple") ⟨_,hT,a5⟩ ?_;show wpAny _ _ (seqItems? (.ref p) >>= _) _ _ _;refine wp<|Eo hT a6<|D9 ?_;show wpAny _ _ (holding [.ref xs[i].2.1,xs[i].2.2]<|dictSet d (.ref xs[i].2.1) xs[i].2.2) _ _ _;refine Ej<|wpAny_dictSet_heap (knd:=tupleKind<|bP prog w) (k:=xs[i].1) (Fe hu) (yE b3 λo q=>sb.extBut _ _ b2 q) hD'.1 (λh2' hD2 hs2=>?_)<|by omega
  have ei:rawInt ((i:Int)+1)=rawInt ((i+1:Nat):Int):=rfl;refine D9 ⟨EA F.dk_plain_loop _,?_⟩;have kp:∀b o,b≠d->h'.get? b=some o->h2'.get? b=some o:=λb o hb q=>hs2.extBut b o hb q;have kq:∀b o,b≠d->b≠it->s.heap.get? b=some o->h2'.get? b=some o:=λb o b1 b2 q=>kp b o b1<|sb.extBut _ _ b2 q;rw[ei];refine ih (i+1) _ (by omega) FC ?_ ?_ (hP.keeps kq) ⟨by rw[hx',Zeg];exact hD2,λy hy=>?_⟩ λh3 tk3 hD3 k3=>?_
  ·obtain⟨o',g1,g2⟩:=hit';exact⟨o',kp _ _ (Ne.symm hdi) g1,g2⟩
  ·obtain⟨o',g1,g2⟩:=h2;exact⟨o',kq _ _ (Ne.symm hdl) hli g1,g2⟩
  ·rw[hx',Zeg]at hy;rcases ZaK (KA:=λc=>c≠d/\c≠it) hD'.2 y hy with z|z
   ·exact z
   ·rw[z];exact⟨b1,b2⟩
  ·exact hR h3 tk3 hD3 λb o b1 b2 q=>k3 b o b1 b2<|kq b o b1 b2 q
end
section
variable{prog:Fs}{w:Ft}{A:Fu}{E:DZ}{s:Fp}
def ZmZ(hu:A.units+4<cLine)(hh:A.handled=none){l:Fq}{items:Array Fo}{xs:Fl TK}{o:Obj}{n:Nat}{Q:DZ}(hsz:items.size<=sizeLine)
  (hl:s.heap.get? l=some o) (hc:o.cls=.type "list") (hd:o.data=.seq items n) (hn:o.dict=none) (hv:items.size=xs.length)
  (hP:∀(i:Nat)(x:TK),xs[i]?=some x->(∃(p:Fq)(o:Obj)(n:Nat),items[i]?=some (.ref p)/\s.heap.get? p=some o/\o.cls=.type "tuple"/\o.data=.seq #[.ref x.2.1,x.2.2] n)/\(tupleKind<|bP prog w).is s.heap x.1 x.2.1)
  (h:∀h' tk,h'.DictOfH (tupleKind<|bP prog w) s.heap.objs.size (gj xs)->(∀b o,s.heap.get? b=some o->h'.get? b=some o)->Q (.ref s.heap.objs.size) {s with heap:=h',toks:=tk}) :
  wpAny (model prog w) A (call (.type "dict") [.ref l]) Q E s:=by
 refine callType_codes (Q₁:=λobj s₁=>obj=.ref s.heap.objs.size/\s₁={s with heap:=s.heap.push {cls:=.type "dict",data:=.dict #[]} }) F.kt_called_dict (F.kt_typeCall_dict_1 _) F.entry_dict_init (kt_code_dict_new _ ⟨rfl,rfl⟩) ?_;rintro obj s₁ ⟨rfl,rfl⟩;have hnew:(s.heap.push {cls:=.type "dict",data:=.dict #[]}).DictOfH (tupleKind<|bP prog w) s.heap.objs.size []:=Heap.DictOfH.new s.heap;have kp:∀b o,s.heap.get? b=some o->(s.heap.push {cls:=.type "dict",data:=.dict #[]}).get? b=some o:=λb o q=>v9 _ q;have hl':(s.heap.push {cls:=.type "dict",data:=.dict #[]}).get? l=some o:=kp _ _ hl;have lt:∀{c:Fq}{o:Obj},s.heap.get? c=some o->s.heap.objs.size≠c:=λq=>A5<|AI q;have hdl:=lt hl;generalize hG:s.heap.push {cls:=.type "dict",data:=.dict #[]}=G at *;refine⟨hnew.typeIs,F.args_dict_init_2 _ _,?_⟩;unfold Builtin.«dict.__init__»;refine wp ?_;unfold Builtin.Dict.selfAndRest;refine wp<|wpAny_notOrdered_dict hnew.typeIs ?_;show wpAny _ _ (pure (s.heap.objs.size,[Value.ref l])) _ _ _;refine D9 ?_;show wpAny _ _ (Builtin.Dict.updateFrom "dict.__init__" s.heap.objs.size (.ref l) [] .none) _ _ _;unfold Builtin.Dict.updateFrom;refine wp<|ES (T:="list") ⟨_,hl',hc⟩ ?_;rw[Ed<|by decide]
 refine wp ?_;refine dk_list_miss hl' hc hd hn (by exact hh) λh3 tk3 k3=>?_
 rw[Ed<|by rfl]
 refine wp<|EH ?_;have hl3:h3.get? l=some o:=k3 _ _ hl';refine wp<|EI (s:={s with heap:=h3,toks:=tk3}) (items:=items) ⟨o,hl3,hc,n,hd⟩ ?_;refine D9 ⟨EA F.dk_plain_loop _,?_⟩;have l3:∀{c:Fq}{o:Obj},h3.get? c=some o->c≠h3.objs.size:=λq=>AO<|AI q;have hnew3:h3.DictOfH (tupleKind<|bP prog w) s.heap.objs.size []:=by obtain⟨o',es,ep,g1,g2,g3,g4,_,g6⟩:=hnew;exact⟨o',es,ep,k3 _ _ g1,g2,g3,g4,nofun,g6⟩
 have hd3:s.heap.objs.size≠h3.objs.size:=by obtain⟨o',_,_,g1,_⟩:=hnew3;exact l3 g1
 have kn:∀b o,h3.get? b=some o->(h3.push {cls:=.type "list_iterator",data:=.fields #[.ref l,.int 0 0]}).get? b=some o:=λb o q=>v9 _ q;have hD0:DhAt prog w (h3.push {cls:=.type "list_iterator",data:=.fields #[.ref l,.int 0 0]}) s.heap.objs.size h3.objs.size []:=by obtain⟨o',es,ep,g1,g2,g3,g4,_,g6⟩:=hnew3;exact⟨⟨o',es,ep,kn _ _ g1,g2,g3,g4,nofun,g6⟩,nofun⟩
 refine ZlF (A:=A.in1) (by show A.units+1+1<cLine;omega) hh (it:=h3.objs.size) (l:=l) items xs (l3 hl3) hd3 hdl hsz items.size 0 _ (by omega) (Bf _) ⟨_,AC _ rfl,rfl,rfl⟩ ⟨o,kn _ _ hl3,hc,n,hd⟩ ⟨hv,λi x q=>?_⟩ hD0 λh4 tk4 hD4 k4=>?_
 ·obtain⟨⟨p,o',n',b1,b2,b3,b4⟩,b5⟩:=hP i x q;obtain⟨o2,us,n2,c1,c2⟩:=b5;exact⟨⟨p,o',n',b1,(lt b2).symm,l3<|k3 _ _<|kp _ _ b2,kn _ _<|k3 _ _<|kp _ _ b2,b3,b4⟩,(lt c1).symm,l3<|k3 _ _<|kp _ _ c1,⟨o2,us,n2,kn _ _<|k3 _ _<|kp _ _ c1,c2⟩⟩
 ·exact⟨rfl,h h4 tk4 hD4.1 λb o q=>k4 b o (lt q).symm (l3<|k3 _ _<|kp _ _ q)<|kn _ _<|k3 _ _<|kp _ _ q⟩
end
inductive PtV(H:Hp):List V->List (D2×V)->Prop
 |nil:PtV H [] []
 |cons {p b:Fq} {k:D2} {v:V} {ps:D5} {kvs:List (D2×V)}:H p=some (.tup [.ref b,v])->H b=some (.tup<|k.map V.int)->PtV H ps kvs->PtV H (.ref p::ps) ((k,v)::kvs)
def PtV.sub{G H:Hp}(s:Sub G H){ps:D5}{kvs:Fl (D2×V)}(h:PtV G ps kvs):PtV H ps kvs:=by
 induction h with
 |nil=>exact .nil
 |cons h1 h2 _ ih=>exact .cons (s _ _ h1) (s _ _ h2) ih
def Zio{P:Fs}{w:Ft}{H:Hp}{h:Fv}(ok:HOk P w H h){ps:D5}{kvs:Fl (D2×V)}(hp:PtV H ps kvs):∀{Fz:D3},Vals ps Fz->∃xs:Fl TK,KT H (kvs.map ci) xs/\Fz.length=xs.length /\
  ∀(i:Nat)(x:TK),xs[i]?=some x->(∃(p:Fq)(o:Obj)(n:Nat),Fz[i]?=some (.ref p)/\h.get? p=some o/\o.cls=.type "tuple"/\o.data=.seq #[.ref x.2.1,x.2.2] n)/\(tupleKind<|bP P w).is h x.1 x.2.1:=by
 induction hp with
 |nil=>intro Fz r;cases r;exact⟨[],.nil,rfl,λi x q=>by cases q⟩
 | @cons p b k v ps kvs hp hb h2 ih =>
  intro Fz r;cases r with
  | cons r1 r2 =>
   cases r1;obtain⟨xs,g1,g2,g3⟩:=ih r2;obtain⟨_,its2,q1,o,q2,q3,n,q4⟩:=ok p _ hp;obtain⟨u1,u2,rfl,x1,x2⟩:=Vals.two q1;cases x1;have FZ:H b=some (.tup<|(k.map (Sum.inl:Int->aL)).map kV):=by rw[ZdL];exact hb
   refine⟨(k.map Sum.inl,b,u2)::xs,.cons ⟨rfl,FZ,x2⟩ g1,by rw[AE,AE,g2],λi x q=>?_⟩
   cases i with
   | zero =>
    cases q;exact⟨⟨p,o,n,rfl,q2,q3,by rw[q4]⟩,lh ok FZ⟩
   | succ i =>
    rw[A6]at q;obtain⟨⟨p',o',n',a1,a2,a3,a4⟩,a5⟩:=g3 i x q;exact⟨⟨p',o',n',by rw[A6];exact a1,a2,a3,a4⟩,a5⟩
def np(kvs:Fl (D2×V)):Fl (D2×V):=kvs.foldl (λys x=>cZ ys x.1 x.2) []
theorem ZdI{H:Hp}:∀{kvs:Fl (D2×V)}{xs:Fl TK}{ys:Fl (D2×V)}{zs:Fl TK},KT H (kvs.map ci) xs->KT H (ys.map ci) zs ->
  KT H ((kvs.foldl (λys x=>cZ ys x.1 x.2) ys).map ci) (xs.foldl (λys x=>storedH ys x.1 x.2.1 x.2.2) zs)
 | [],xs,ys,zs,h,r=>by cases h;exact r
 | k::kvs,xs,ys,zs,h,r=>by
  rw[Ax]at h;cases h with
  | @cons _ x _ xs h1 h2 =>
   obtain⟨h3,h4,h5⟩:=h1;rw[BR,BR];refine ZdI h2 ?_;rw[<- pf];have e:x.1=k.1.map Sum.inl:=h3.symm;rw[e];exact r.put (k.1.map Sum.inl) h4 h5
def rDT:Fl V->Hp->VK->Prop:=λxs H Q=>∃l ps kvs,xs=[.ref l]/\H l=some (.lst ps)/\PtV H ps kvs/\∀(q:Fq)(o:Obj),H q=none->Q (.ref q) (upd H q<|.frz o<|.dT<|(np kvs).map ci)
def zx{X:Cx}(hu:X.A.units+64<cLine)(hc:X.calm=true):dN X (.type "dict") rDT:=by
 intro pins s σ H xs us Q I r h;obtain⟨l,ps,kvs,rfl,hl,hp,q⟩:=h;obtain⟨u,rfl,ru⟩:=eB r;cases ru;obtain⟨z,Fz,n,rv,h1⟩:=I.hok _ _ hl;obtain⟨xs,g1,g2,g3⟩:=Zio I.hok hp rv;have hbig:=I.big;have hle:Fz.length<=sizeLine:=by rw[<- rv.length];exact z
 refine ZmZ (xs:=xs) (by omega) (I.ok.hd hc) (l:=l) (items:=Fz.toArray) (by rw[AG];exact hle) h1 rfl rfl rfl (by rw[AG];exact g2) (λi x hv=>?_) λh3 tk3 hD k3=>?_
 ·obtain⟨⟨p,o,n',a1,a2,a3,a4⟩,a5⟩:=g3 i x hv;exact⟨⟨p,o,n',by rw[List.getElem?_toArray];exact a1,a2,a3,a4⟩,a5⟩
 ·have kt:KT H ((np kvs).map ci) (gj xs):=ZdI g1 (ys:=[]) (zs:=[]) .nil;have hfr:H s.heap.objs.size=none:=I.hok.fresh<|Aw _;have kt':KT (upd H s.heap.objs.size<|.dT<|(np kvs).map ci) ((np kvs).map ci) (gj xs):=kt.keeps λb ys e=>by rw[aM<|di e hfr];exact e
  have I1:Inv X pins σ (upd H s.heap.objs.size<|.dT<|(np kvs).map ci) {s with heap:=h3,toks:=tk3}:=by
   refine I.laid (a:=s.heap.objs.size) (t':=tk3) (λc o q=>k3 c o q) (Aw _) ?_;refine⟨?_,Eh.mpr<|A5 hbig,gj xs,kt',?_⟩
   ·rw[kt.length];exact AJ (Zeh xs)<|by rw[<- g2];exact hle
   ·obtain⟨o,es,ep,e1,e2,e3,e4,_,e6⟩:=hD;exact⟨o,es,ep,e1,e2,e3,e4,e6⟩
  obtain⟨o,I2⟩:=I1.knownT bY;rw[Zgo]at I2;exact⟨.ref s.heap.objs.size,_,I2,rfl,q _ o hfr⟩
def iF:Fl Fn->Fm Fn
 | [.list ds]=>eu [] ds
 |_=>none
theorem ZeN{G:Hp}:∀{ds:D1}{ps:D5}{ys:Fl (D2×V)}{kvs:Fl (D2×Fn)}{d:Fn},DnAll G ps ds->KP G ys kvs->eu kvs ds=some d ->
  ∃xs zs,PtV G ps xs/\KP G (xs.foldl (λys x=>cZ ys x.1 x.2) ys) zs/\zs≠[]/\d=pD zs
 | [],_,ys,kvs,d,h,r,e=>by
  cases h;unfold eu at e
  split at e
  ·cases e
  ·rename_i hn;cases e;exact⟨[],kvs,.nil,r,λz=>hn<|by rw[z];rfl,rfl⟩
 | x::ds,_,ys,kvs,d,h,r,e=>by
  cases h with
  | cons h1 h2 =>
   unfold eu at e
   split at e
   ·rename_i e0;cases e0
   ·rename_i ks v ps e0;cases e0;obtain⟨ns,hi,e⟩:=DM.mp e;cases h1 with
    | tup a1 a2 =>
     cases a2 with
     | cons b1 b2 =>
      cases b2 with
      | cons b3 b4 =>
       cases b4;cases b1 with
       | tup c1 c2 =>
        obtain⟨e1,_⟩:=c2.ints_inv hi;rw[e1]at c1;obtain⟨xs,zs,g1,g2,g3,g4⟩:=ZeN h2 (r.put ns b3) e;exact⟨(ns,_)::xs,zs,.cons a1 c1 g1,g2,g3,g4⟩
   ·cases e
def wE:fJ rDT iF:=λPK pa m G H vs ds d Q w hv hd k=>by
 unfold iF at hd
 split at hd
 ·cases hv with
  | cons d1 d2 =>
   cases d2;cases d1 with
   | lst a1 a2 =>
    obtain⟨xs,zs,g1,g2,g3,rfl⟩:=ZeN a2 .nil hd;exact⟨_,_,xs,rfl,w.sub _ _ a1,g1.sub w.sub,λq o hq=>k.pd g3 w g2 hq o⟩
 ·cases hd
variable{PK:Pk}{X:Cx}{e:Fw}
structure Rws(H G H':Hp)(ps:List Fq)(rows:List D1):Prop where
 len:ps.length=rows.length
 row:∀(i:Nat)(q:Fq)(r:D1),ps[i]?=some q->rows[i]?=some r->H q=none/\G q=none/\∃vs,H' q=some (.lst vs)/\DnAll G vs r
def Rws.mem{H G H':Hp}{ps:Fl Fq}{rows:Fl D1}(h:Rws H G H' ps rows){q:Fq}(hq:q∈ps):H q=none/\G q=none/\∃vs,H' q=some (.lst vs):=by
 obtain⟨i,hi,e⟩:=BJ.mp hq;have h2:i<rows.length:=by rw[<- h.len];exact hi
 obtain⟨a,b,vs,c,_⟩:=h.row i q rows[i] (by rw[Au hi,e])<|Au h2
 exact⟨a,b,vs,c⟩
def Rws.step{pa:Fq}{H G H1 G2 H2:Hp}{ps:Fl Fq}{rows:Fl D1}(h:Rws H G H1 ps rows)(st:Stp pa G H1 G2 H2)(hp:∃o,H pa=some o):Rws H G2 H2 ps rows:=by
 refine⟨h.len,λi q r h1 h2=>?_⟩;obtain⟨a,b,vs,c,d⟩:=h.row i q r h1 h2;have FD:q≠pa:=λe=>by obtain⟨o,z⟩:=hp;rw[<- e,a]at z;cases z
 refine⟨a,?_,vs,st.hk _ _ c FD,DnAll.mono st.gs d⟩;cases e:G2 q with
 |none=>rfl
 | some u =>
  rcases st.gn q u e with z|z|⟨_,_,z⟩
  ·rw[b]at z;cases z
  ·rw[c]at z;cases z
  ·rw[c]at z;cases z
def Stp.old{pa:Fq}{G H G' H':Hp}(st:Stp pa G H G' H')(hp:∃o,H' pa=some o){p:Fq}(h:H' p=none):H p=none:=by
 cases e:H p with
 |none=>rfl
 | some u =>
  by_cases hc:p=pa
  ·subst hc;obtain⟨o,z⟩:=hp;rw[h]at z;cases z
  ·rw[st.hk p u e hc]at h;cases h
def Ap(PK:Pk)(pa:Fq)(m:Nat)(G H:Hp)(rows:Fl D1)(Q:VK):Prop:=∀p ps G' H',Stp pa G H G' H'->Wd PK pa m G' H'->H p=none->G' p=none->H' p=some (.lst<|ps.map V.ref)->ps.Nodup->p∉ps->Rws H G' H' ps rows->Q (.ref p) H'
def Ak(PK:Pk)(i:Fl Sl->Tr (Fl D1)):TE:=λσ H Q=>∃pa D8 H₀ m ρ G,Rl PK pa D8 H₀ m σ ρ G H/\(i ρ).ok m λm' xs=>Ap PK pa m' G H xs Q
noncomputable def i9(h:Fn->Tr D1):Fl Fn->Tr (Fl D1)
 | []=>.ret []
 |x::xs=>(h x).bind λy=>(i9 h xs).bind λys=>.ret (y::ys)
def nT(is:DS)(n:Nat)(ix:Fl Nat)(g:DX)(el:DS):Fl Sl->Tr (Fl D1):=λρ =>
 (is ρ).bind λxs=>if small xs.length=true then i9 (λx=>(Tr.of<|g x<|blk n ix ρ).bind el) xs else .fail
variable{is:DS}{i:DS}
def Zj2{n:Nat}{ix:Fl Nat}{g:DX}(hn:fg n g):∀σ H Q,Ak PK (nT is n ix g i) σ H Q->iO (cX PK is) n ix (λ_=>dB PK g) (λ_=>eG PK i) σ H Q:=by
 rintro σ H Q ⟨pa,D8,H₀,m,ρ,G,R,z⟩;refine⟨pa,D8,H₀,m,ρ,G,R,Tr.ok_mono (Tr.ok_bind.mp z) λm1 xs k J G1 H1 s1 w1 jo=>λB=>?_⟩;obtain⟨hs,k⟩:=gf k;have hs:xs.length<=sizeLine:=Ec hs
 let el:Fn->Tr D1:=λx=>(Tr.of<|g x<|blk n ix ρ).bind i
 let W:Nat->Nat->St->Fl V->Hp->Prop:=λk mm τ ys H2=>mm=xs.length-k/\k<=xs.length/\ys.length=k/\∃m G2 ps rows,Sub G1 G2/\Stp pa G H G2 H2/\Rl PK pa D8 H₀ m τ (blk n ix ρ) G2 H2 /\
  ys=ps.map V.ref/\ps.Nodup/\Rws H G2 H2 ps rows/\(i9 el<|xs.drop k).ok m λm' zs=>Ap PK pa m' G H (rows++zs) Q
 refine⟨W,⟨xs.length,rfl,Bf _,rfl,m1,G1,[],[],.refl,s1,(R.step s1 w1).blk n ix,rfl,DF,⟨rfl,λi q r h=>by cases h⟩,k⟩,?_⟩
 rintro k mm τ ys H2 ⟨rfl,hk,hy,m2,G2,ps,rows,sb,st2,R2,rfl,nd,rw0,k2⟩;obtain⟨j1,j2⟩:=jo m2 G2 H2 sb R2.wd;by_cases FC:k<xs.length
 ·have hx:xs[k]?=some xs[k]:=by simp[FC]
  obtain⟨jg,jy⟩:=j1 k _ hx;refine .inr ⟨jg,by omega,λx H3 y=>?_⟩
  obtain⟨G3,s3,w3,d3⟩:=jy x H3 y;rw[AY FC]at k2;unfold i9 at k2;rw[Tr.ok_bind,Tr.ok_bind]at k2;obtain⟨ρ3,hg3,k3⟩:=Tr.ok_of k2;refine⟨pa,D8,H₀,m2,_,G3,_,ρ3,R2.step s3 w3,d3,hg3,λτ4 R4=>?_⟩;refine⟨pa,D8,H₀,m2,ρ3,G3,R4,Tr.ok_mono k3 λm5 yd k5=>?_⟩;intro p vs G5 H5 s5 w5 hp gp hv d5;have s35:=s3.trans s5 w3.some;have r3:=rw0.step s3 R.wd.some;have hH:H p=none:=(st2.trans s3 R2.wd.some).old w3.some hp;have hnp:p∉ps:=λhq=>by obtain⟨_,_,us,c⟩:=r3.mem hq;rw[hp]at c;cases c
  obtain⟨pl,pk⟩:=hn _ _ _ hg3;have r5:=r3.step s5 R.wd.some;refine⟨xs.length-(k+1),by omega,rfl,FC,by rw[AQ,hy];rfl,m5,G5,ps++[p],rows++[yd],sb.trans s35.gs,st2.trans s35 R2.wd.some,?_,by rw[Bu];rfl,?_,⟨by rw[AQ,AQ,r5.len];rfl,λi q r h1 h2=>?_⟩,?_⟩
  ·refine(R4.step s5 w5).weak pl λq sl hq=>?_;by_cases hqn:q<n
   ·left
    unfold blk at hq;rw[AV<|by simpa using hqn,Ba,Ed hqn]at hq
    cases hq
    rfl
   ·right
    rw[pk q<|Ca hqn];exact hq
  ·rw[Dp];exact⟨nd,by simp,λa ha b hb e=>by rw[Ce]at hb;subst hb;subst e;exact hnp ha⟩
  ·by_cases hi:i<ps.length
   ·rw[AV hi]at h1;rw[AV<|by rw[<- r5.len];exact hi]at h2
    exact r5.row i q r h1 h2
   ·have hi':i=ps.length:=by have:=(Ay.mp h1).1;rw[AQ]at this;have:i<ps.length+1:=this;omega
    subst hi';rw[A4<|Aw _,Dw]at h1;rw[r5.len,A4<|Aw _,Dw]at h2;cases h1;cases h2;exact⟨hH,gp,vs,hv,d5⟩
  ·refine Tr.ok_mono (Tr.ok_bind.mp k5) λm6 zs k6=>?_;rw[Bg];exact k6
 ·have e:k=xs.length:=by omega
  subst e;refine .inl ⟨j2,λp v H' hp ev eH=>?_⟩;subst ev eH;rw[Br]at k2;have k2':Ap PK pa m2 G H (rows++[]) Q:=k2;rw[A3]at k2';obtain⟨w3,s3⟩:=R2.wd.own (o:=.lst<|ps.map V.ref) hp;refine k2' p ps G2 _ (st2.trans s3 R2.wd.some) w3 (st2.old R2.wd.some hp) (R2.wd.gnone hp) bY nd (λhq=>?_)<|rw0.step s3 R.wd.some;obtain⟨_,_,us,c⟩:=rw0.mem hq;rw[hp]at c;cases c
variable{PK:Pk}{X:Cx}{e:Fw}
theorem Zc1{α:Type}:∀{l:Fl α}{i j:Nat},l.Nodup->(hi:i<l.length)->(hj:j<l.length)->l[i]=l[j]->i=j
 |_::_,0,0,_,_,_,_=>rfl
 |x::l,0,j+1,h,_,hj,e=>by have e:x=l[j]'(Cz hj):=e;exact absurd (by rw[e];exact AW _) (BQ.mp h).1
 |x::l,i+1,0,h,hi,_,e=>by have e:l[i]'(Cz hi)=x:=e;exact absurd (by rw[<- e];exact AW _) (BQ.mp h).1
 |x::l,i+1,j+1,h,hi,hj,e=>Eg (·+1)<|Zc1 (BQ.mp h).2 (Cz hi) (Cz hj) e
theorem Rl.rows{pa:Fq}{D8 H₀ G H G' H' H4:Hp}{m m1 m4:Nat}{σ:St}{ρ:D7}{p:Fq}{ps:Fl Fq}{rows0 rows:Fl D1}(R:Rl PK pa D8 H₀ m σ ρ G H)(s1:Stp pa G H G' H')(w1:Wd PK pa m1 G' H')
  (hp:H p=none) (gp:G' p=none) (r0:Rws H G' H' ps rows0)
  (hk:∀b o,H' b=some o->b≠pa->b∉ps->H4 b=some o) (h4:H4 p=some (.lst<|ps.map V.ref))
  (pen:∃o,H4 pa=some o/\PK.is o G' m4) (len:ps.length=rows.length)
  (row:∀(i:Nat)(q:Fq)(r:D1),ps[i]?=some q->rows[i]?=some r->∃vs,H4 q=some (.lst vs)/\DnAll G' vs r) (k:Nat) :
  ∃Gz,Sub G' Gz/\Rl PK pa D8 H₀ m4 (σ.set k<|some<|.ref p) (ρ.set k<|.d<|.list<|rows.map PyData.list) Gz H4:=by
 classical
 let Gz:Hp:=λb=>if b=p\/b∈ps then H4 b else G' b
 have yes:∀{b},(b=p\/b∈ps)->Gz b=H4 b:=λh=>Ed h;have no:∀{b},¬ (b=p\/b∈ps)->Gz b=G' b:=λh=>Ef h;have fresh:∀{b},(b=p\/b∈ps)->H b=none/\G' b=none:=λ{b} h=>by
  rcases h with rfl|h
  ·exact⟨hp,gp⟩
  ·exact⟨(r0.mem h).1,(r0.mem h).2.1⟩
 have hpa:¬ (pa=p\/pa∈ps):=λh=>by obtain⟨o,z⟩:=R.wd.some;rw[(fresh h).1]at z;cases z
 have sb:Sub G' Gz:=λb o h=>by
  rw[no λz=>by rw[(fresh z).2]at h;cases h]
  exact h
 have keep:∀b o,H' b=some o->b≠pa->¬ (b=p\/b∈ps)->H4 b=some o:=λb o h1 h2 h3=>hk b o h1 h2 λz=>h3<|.inr z;have wz:Wd PK pa m4 Gz H4:=by
  refine⟨λb o h=>?_,by rw[no hpa];exact w1.gpa,?_⟩
  ·by_cases hb:b=p\/b∈ps
   ·rw[yes hb]at h;exact h
   ·rw[no hb]at h;exact keep b o (w1.sub b o h) (λz=>by subst z;rw[w1.gpa]at h;cases h) hb
  ·obtain⟨o,h1,h2⟩:=pen;exact⟨o,h1,PK.mono sb h2⟩
 have st:=R.st.trans s1 R.wd.some;have stz:Stp pa D8 H₀ Gz H4:=by
  refine⟨λb o h=>sb b o<|st.gs b o h,λb o h=>?_,λb o h hb=>?_⟩
  ·by_cases hq:b=p\/b∈ps
   ·exact .inr<|.inl<|R.h0 (fresh hq).1
   ·rw[no hq]at h;exact st.gn b o h
  ·refine keep b o (st.hk b o h hb) hb λz=>?_;rw[R.h0 (fresh z).1]at h;cases h
 have Rz:Rl PK pa D8 H₀ m4 σ ρ Gz H4:=by
  refine⟨wz,stz,R.p0,λi s h=>?_,R.len,R.dj,R.dj2⟩;obtain⟨o,h1,h2⟩:=R.sl i s h;refine⟨o,h1,?_⟩;cases h2 with
  |un=>exact .un
  |d z=>exact .d (z.mono λb o h=>sb b o<|s1.gs b o h)
  |pen=>exact .pen
  |fn=>exact .fn
  | @dic q ks kvs a1 a2 a3 a4 =>
   have hq:¬ (q=p\/q∈ps):=λz=>by rw[(fresh z).1]at a1;cases a1
   have FD:q≠pa:=λe=>by obtain⟨u,hu⟩:=R.p0;rw[<- e,a3]at hu;cases hu
   refine .dic (keep q _ (s1.hk q _ a1 FD) FD hq) ?_ a3 (a4.mono λb o h=>sb b o<|s1.gs b o h);rw[no hq];cases e:G' q with
   |none=>rfl
   | some u =>
    rcases s1.gn q u e with z|z|⟨_,_,z⟩
    ·rw[a2]at z;cases z
    ·rw[a1]at z;cases z
    ·rw[a1]at z;cases z
  | @dip q ks kvs a1 a2 a3 a4 =>
   have hq:¬ (q=p\/q∈ps):=λz=>by rw[(fresh z).1]at a1;cases a1
   have FD:q≠pa:=λe=>by obtain⟨u,hu⟩:=R.p0;rw[<- e,a3]at hu;cases hu
   refine .dip (keep q _ (s1.hk q _ a1 FD) FD hq) ?_ a3 (a4.mono λb o h=>sb b o<|s1.gs b o h);rw[no hq];cases e:G' q with
   |none=>rfl
   | some u =>
    rcases s1.gn q u e with z|z|⟨_,_,z⟩
    ·rw[a2]at z;cases z
    ·rw[a1]at z;cases z
    ·rw[a1]at z;cases z
  | @own q vs xs a1 a2 a3 a4 =>
   have hq:¬ (q=p\/q∈ps):=λz=>by rw[(fresh z).1]at a1;cases a1
   have FD:q≠pa:=λe=>by obtain⟨u,hu⟩:=R.p0;rw[<- e,a3]at hu;cases hu
   refine .own (keep q _ (s1.hk q _ a1 FD) FD hq) ?_ a3 (DnAll.mono (λb o h=>sb b o<|s1.gs b o h) a4);rw[no hq];cases e:G' q with
   |none=>rfl
   | some u =>
    rcases s1.gn q u e with z|z|⟨_,_,z⟩
    ·rw[a2]at z;cases z
    ·rw[a1]at z;cases z
    ·rw[a1]at z;cases z
 refine⟨Gz,sb,Rz.set (.lst (by rw[yes<|.inl rfl];exact h4) ?_) k⟩
 clear Rz stz st wz;have yes':∀{b},b∈ps->Gz b=H4 b:=λh=>yes<|.inr h
 clear_value Gz
 clear hk h4 no fresh keep r0
 induction ps generalizing rows with
 | nil =>
  cases rows with
  |nil=>exact .nil
  |cons _ _=>cases len
 | cons q qs ih =>
  cases rows with
  |nil=>cases len
  | cons r rs =>
   obtain⟨vs,e1,e2⟩:=row 0 q r rfl rfl;refine .cons (.lst (by rw[yes'<|AB ..];exact e1)<|DnAll.mono sb e2) ?_
   exact ih (BV len) (λi q r h1 h2=>row (i+1) q r h1 h2) (λh=>yes<|h.imp id<|Az _) (λh=>hpa<|h.imp id<|Az _)<|λh=>yes'<|Az _ h
def jL(rows:Fl D1)(a b x:Fn):Fm (Fl D1):=match a,b with
 |.int a,.int b=>(cy rows.length a).bind λn=>(rows[n]?).bind λr=>(cy r.length b).bind λl=>if gA x=true then some (rows.set n<|r.set l x)else none
 |_,_=>none
noncomputable def mq(rows:Fl D1):Sl:=.d<|.list<|rows.map PyData.list
def Ab(k:Nat)(A:Fl Sl->Tr (Fl D1))(v i j:DR)(t:DU):DU:=λρ=>(A ρ).bind λrows =>
 if k<ρ.length then (v<|ρ.set k<|mq rows).bind λx=>(i<|ρ.set k<|mq rows).bind λa=>(j<|ρ.set k<|mq rows).bind λb=>(Tr.of<|jL rows a b x).bind λrows'=>t (ρ.set k<|mq rows')else .fail
variable{A:Fl Sl->Tr (Fl D1)}{v i j:DR}{t:DU}{st3 st4:Fx}{rest:Fl Fx}
def Znu{k:Nat}(L:PkLow PK)(h3:PS X st3 (dC (Ak PK A)<|dH k))(h4:PS X st4 (dC (TAe PK v)<|yS (kr (xI X.K) (gI k)<|TAe PK i) (TAe PK j) xH))
  (hr:PSs X rest (bH PK t)):PSs X (st3::st4::rest) (bH PK<|Ab k A v i j t):=(fr h3<|fr h4 hr).imp λD σ H Fy=>by
 obtain⟨pa,D8,H₀,m,ρ,G,R,z⟩:=Fy;refine⟨pa,D8,H₀,m,ρ,G,R,Tr.ok_mono (Tr.ok_bind.mp z) λm1 rows z1=>?_⟩;intro p ps G1 H1 s1 w1 hp gp h1 nd npp r1;have hl:k<ρ.length:=by
  by_cases hl:k<ρ.length
  ·exact hl
  ·rw[Ef hl]at z1;exact z1.elim
 rw[Ed hl]at z1;have rowsH:∀(i:Nat)(q:Fq)(r:D1),ps[i]?=some q->rows[i]?=some r->∃vs,H1 q=some (.lst vs)/\DnAll G1 vs r:=λi q r e1 e2=>(r1.row i q r e1 e2).2.2;obtain⟨Gf,sf,Rf⟩:=R.rows s1 w1 hp gp r1 (λb o h _ _=>h) h1 w1.pen r1.len rowsH k;have hnpa:p≠pa:=λz=>by obtain⟨o,y⟩:=R.wd.some;rw[<- z,hp]at y;cases y
 show TAe PK v (σ.set k<|some<|.ref p) H1 _;have hσ:(σ.set k<|some<|V.ref p)[k]?=some (some<|.ref p):=AS<|by rw[<- R.len];exact hl
 refine TAe.then Rf z1 λm2 x u G2 H2 s2 w2 R2 d2 z2=>?_;refine⟨.ref p,hσ,?_⟩;refine TAe.then R2 z2 λm3 a ua G3 H3 s3 w3 R3 d3 z3=>?_;have s13:=s2.trans s3 w2.some;have k3:∀b o,H1 b=some o->b≠pa->H3 b=some o:=s13.hk
 -- what is put
 have z3':=Tr.ok_bind.mp z3;have hmid:∃aI n q,a=.int aI/\cy rows.length aI=some n/\ps[n]?=some q:=by
  have:∃(m':Nat)(b:Fn)(rows':_),jL rows a b x=some rows':=by
   clear z z1 z2 z3;generalize hT:j (ρ.set k<|mq rows)=T at z3';clear hT;have key:∀(T:Tr Fn)(mm:Nat)(Q:Nat->Fn->Prop),T.ok mm Q->∃m' b,Q m' b:=by
    intro T
    induction T with
    |ret b=>intro mm Q h;exact⟨_,_,h⟩
    |draw n kk ih=>intro mm Q h;exact ih 0 _ _ (h.2.2.2 0 (BZ _) h.2.1)
    |fail=>intro mm Q h;exact h.elim
   obtain⟨m',b,hb⟩:=key T _ _ z3';rw[Tr.ok_bind]at hb;obtain⟨rows',hr,_⟩:=Tr.ok_of hb;exact⟨m',b,rows',hr⟩
  obtain⟨_,b,rows',hr⟩:=this;unfold jL at hr
  split at hr
  ·rename_i aI bI;cases hn:cy rows.length aI with
   |none=>rw[hn]at hr;cases hr
   | some n =>
    rw[hn]at hr;have FC:=(qt hn).2.1;exact⟨aI,n,ps[n]'(by rw[r1.len];exact FC),rfl,hn,Au _⟩
  ·cases hr
 obtain⟨aI,n,q,rfl,hn,hq⟩:=hmid;have hqm:q∈ps:=Bi hq;have hqpa:q≠pa:=λz=>by obtain⟨o,y⟩:=R.wd.some;rw[<- z,(r1.mem hqm).1]at y;cases y
 cases d3;refine⟨p,ps.map V.ref,aI,.ref q,rfl,rfl,SqL.of<|k3 _ _ h1 hnpa,?_,?_⟩
 ·unfold bG;rw[Av,r1.len,hn];show(ps.map V.ref)[n]?=_;rw[AK,hq];rfl
 refine TAe.then R3 z3 λm4 b ub G4 H4 s4 w4 R4 d4 z4=>?_;have s14:=s13.trans s4 w3.some;rw[Tr.ok_bind]at z4;obtain⟨rows',hput,z4⟩:=Tr.ok_of z4;have FC:=(qt hn).2.1;obtain⟨_,_,vs,hvs,dvs⟩:=r1.row n q rows[n] hq<|Au FC;unfold jL at hput;cases d4 with
 | int bI =>
  have e0:((cy rows.length aI).bind λn=>(rows[n]?).bind λr=>(cy r.length bI).bind λl=>if gA x=true then some (rows.set n<|r.set l x)else none)=some rows':=hput
  rw[hn]at e0;have e1:((rows[n]?).bind λr=>(cy r.length bI).bind λl=>if gA x=true then some (rows.set n<|r.set l x)else none)=some rows':=e0
  rw[Au FC]at e1;have e2:((cy rows[n].length bI).bind λl=>if gA x=true then some (rows.set n<|rows[n].set l x)else none)=some rows':=e1
  cases hb:cy rows[n].length bI with
  |none=>rw[hb]at e2;cases e2
  | some l =>
   rw[hb]at e2;have e3:(if gA x=true then some (rows.set n<|rows[n].set l x)else none)=some rows':=e2
   have hf:gA x=true:=by
    by_cases hf:gA x=true
    ·exact hf
    ·rw[Ef hf]at e3;cases e3
   rw[Ed hf]at e3;cases e3;have hv4:H4 q=some (.lst vs):=s14.hk q _ hvs hqpa;refine⟨q,vs,bI,l,rfl,rfl,hv4,by rw[dvs.length];exact hb,?_⟩
   obtain⟨o1,e1',p1⟩:=w1.pen;obtain⟨o4,e4',p4⟩:=w4.pen;obtain⟨Gz,sz,Rz⟩:=R.rows (H4:=upd H4 q<|.lst<|vs.set l u) (m4:=m4) (rows:=rows.set n<|rows[n].set l x) s1 w1 hp gp r1
    (λb o h hb hbp=>by rw[aM<|λz=>hbp<|by rw[z];exact hqm];exact s14.hk b o h hb)
    (by rw[aM<|λz=>npp<|by rw[z];exact hqm];exact s14.hk _ _ h1 hnpa)
    ⟨o4,by rw[aM<|Ne.symm hqpa];exact e4',L.low p1 (sf.trans s14.gs) p4⟩
    (by rw[A1];exact r1.len)
    (λi q' r h1 h2=>by
     by_cases hi:i=n
     ·subst hi;rw[hq]at h1;cases h1;rw[AS FC]at h2;cases h2;exact⟨_,bY,dvs.set l<|Dn.flat_any d2 hf⟩
     ·rw[AL<|Ne.symm hi]at h2;have FD:q'≠q:=λz=>by subst z;obtain⟨b1,b2⟩:=Ay.mp h1;obtain⟨c1,c2⟩:=Ay.mp hq;exact hi (Zc1 nd b1 c1<|b2.trans c2.symm)
      obtain⟨us,y1,y2⟩:=rowsH i q' r h1 h2;refine⟨us,?_,y2⟩;rw[aM FD];exact s14.hk q' _ y1 λz=>by obtain⟨o,y⟩:=R.wd.some;rw[<- z,(r1.mem<|Bi h1).1]at y;cases y) k
   exact⟨pa,D8,H₀,m4,_,Gz,Rz,Tr.ok_mono z4 λ_ _ k'=>Ko.later k'<|s1.gs.trans sz⟩
 |_=>cases hput
def ZnB{st:Fx}{is el:DS}{n k:Nat}{ix:Fl Nat}{g:DX}(h:PS X st (dC (iO (cX PK is) n ix (λ_=>dB PK g)<|λ_=>eG PK el)<|dH k))(hn:fg n g):PS X st (dC (Ak PK<|nT is n ix g el)<|dH k) :=
 h.imp λD σ H z=>Zj2 hn σ H _ z
variable{X:Cx}{i j:DR}{ρ:D7}
variable{X:Cx}{i j:DR}{ρ:D7}
def Zcc:R2:=λx y H Q=>∃p q xs,x=.ref p/\y=.ref q/\H p=some (.lst xs)/\H q=some (.lst [])/\Q (.bl<|!xs.isEmpty) H
def ZcV{k:Nat}(hr:Room k X.A):OpR X (compareOp .NotEq) Zcc:=by
 intro pins s σ H x y v u Q I rx ry h;obtain⟨p,q,xs,rfl,rfl,h1,h2,z⟩:=h;cases rx;cases ry;obtain⟨Fz,r,pl,hz⟩:=I.list<|SqL.of h1;obtain⟨its2,r2,pl2,hz2⟩:=I.list<|SqL.of h2;have hu:X.A.units<cLine:=by have:=hr.un;omega
 cases r2;cases r with
 | nil =>
  exact SeqAt.RcNeAt.lists (e:=λ_=>true) pl.isList pl2.isList rfl hu (λj h1=>absurd h1<|by simp) X.prog X.w X.xe _ ⟨.bl _,H,I,rfl,z⟩
 | cons a b =>
  exact SeqAt.RcNeAt.lists_lengths pl.isList pl2.isList (by simp) hu X.prog X.w X.xe _ ⟨.bl _,H,I,rfl,z⟩
noncomputable def kL:DY
 |.list xs,.list []=>some (.bool<|!xs.isEmpty)
 |_,_=>none
def Zah:cL Zcc kL:=λPK pa m G H x y dx dy dz Q w hx hy hz k=>by
 unfold kL at hz
 split at hz
 ·cases hz;cases hx with
  | lst a1 a2 =>
   cases hy with
   | lst b1 b2 =>
    cases b2;exact⟨_,_,_,rfl,rfl,w.sub _ _ a1,w.sub _ _ b1,by rw[a2.isEmpty];exact k.here w<|.bl _⟩
 ·cases hz
def Zen(xs:D1):aU kL (.list xs) (.list [])=.ret (.bool<|!xs.isEmpty):=rfl
variable{ρ:D7}{s:DU}{i j kx:DR}{is is1:DS}{k n a b:Nat}{ix:Fl Nat}{xs ys:D1}
theorem e9{α:Type}{h:Fn->Tr Fn}{f g:α->Fn}:∀{l:Fl α},(∀x∈l,h (f x)=.ret (g x))->bJ h (l.map f)=.ret (l.map g)
 | [],_=>rfl
 | x::l,e=>by
  rw[Ax,bJ,e x<|AB ..,Tr.ret_bind,e9 λy hy=>e y<|Az _ hy]
  rfl
def Zdw{α:Type}{el:DR}{x:Fn}{f g:α->Fn}{l:Fl α}(h1:is1 (ρ.set a<|.d x)=.ret (l.map f))(h2:l.length<=100)(h3:∀y∈l,el ((ρ.set a<|.d x).set b<|.d<|f y)=.ret (g y)):jh a is1 b el ρ x=.ret (l.map g):=by
 unfold jh;rw[h1,Tr.ret_bind,Ed<|Ea<|by rw[Av];exact h2]
 exact e9 h3
theorem Zde{α:Type}{h:Fn->Tr D1}{f:α->Fn}{g:α->Fl Fn}:∀{l:Fl α},(∀x∈l,h (f x)=.ret (g x))->i8 h (l.map f)=.ret (l.flatMap g)
 | [],_=>rfl
 | x::l,e=>by
  rw[Ax,i8,e x<|AB ..,Tr.ret_bind,Zde λy hy=>e y<|Az _ hy]
  rfl
def Zdv{α:Type}{el:DR}{f:α->Fn}{g:α->Fl Fn}{l:Fl α}(h1:is ρ=.ret (l.map f))(h2:l.length<=100)(h3:∀x∈l,jh a is1 b el (blk n ix ρ) (f x)=.ret (g x)):lP is n ix a is1 b el ρ=.ret (l.flatMap g):=by
 unfold lP;rw[h1,Tr.ret_bind,Ed<|Ea<|by rw[Av];exact h2]
 exact Zde h3
noncomputable def dI(p:D2×Fn):Fn:=.tuple [.tuple<|p.1.map PyData.int,p.2]
def Zcz{kvs:Fl (D2×Fn)}{k:D2}{v:Fn}(h:k∉kvs.map (·.1)):hZ kvs k v=kvs++[(k,v)]:=by unfold hZ;rw[Ef];intro e;obtain⟨p,hp,e⟩:=DC.mp e;exact h<|by rw[<- Ec e];exact List.mem_map_of_mem hp
theorem zj:∀{l kvs:Fl (D2×Fn)},kvs++l≠[]->((kvs++l).map (·.1)).Nodup->eu kvs (l.map dI)=some (pD<|kvs++l)
 | [],kvs,h,_=>by rw[A3]at h ⊢;unfold eu;rw[BO];dsimp only;rw[Ef];intro e;exact h (Dz.mp e)
 | p::l,kvs,h,nd=>by
  rw[Ax];unfold dI eu;rw[ints?_map];show eu (hZ kvs p.1 p.2) (l.map dI)=_;have hn:p.1∉kvs.map (·.1):=λz=>by rw[Bu,Dp]at nd;exact nd.2.2 _ z _ (by rw[Ax];exact AB ..) rfl
  rw[Zcz hn];have e:kvs++[(p.1,p.2)]++l=kvs++p::l:=by rw[Bg];rfl
  rw[zj (l:=l) (kvs:=kvs++[(p.1,p.2)]) (by rw[e];exact h)<|by rw[e];exact nd,e]
def zo{α:Type}{g:DX}{f:α->Fn}{kv:α->Fl Int×Fn}{l:Fl α}(h1:is ρ=.ret (l.map f))(h2:l.length<=10000)(h0:l≠[])(nd:(l.map λx=>(kv x).1).Nodup)
  (h3:∀x∈l,(Tr.of<|g (f x)<|blk n ix ρ).bind (iD kx i)=.ret (dI<|kv x)):jw is n ix g kx i ρ=.ret (pD<|l.map kv):=by
 unfold jw;rw[h1,Tr.ret_bind,Ed<|bW<|by rw[Av];exact h2,e9 (g:=λx=>dI<|kv x) h3,Tr.ret_bind]
 have e:l.map (λx=>dI<|kv x)=(l.map kv).map dI:=by rw[AR];rfl
 rw[e,zj (kvs:=[])]
 ·rfl
 ·intro z;exact h0<|B7.mp z
 ·rw[Cf,AR];exact nd
def zg{τ:D7}{ns:D2}{v:Fn}(h1:kx τ=.ret (.tuple<|ns.map PyData.int))(h2:i τ=.ret v):iD kx i τ=.ret (dI (ns,v)):=by
 unfold iD;rw[h1,Tr.ret_bind];unfold zh;dsimp only;rw[ints?_map];dsimp only;rw[h2]
 rfl
def yZ{l:Fl (D2×Fn)}(h0:l≠[])(nd:(l.map (·.1)).Nodup):bR iF [.list<|l.map dI]=.ret (pD l):=by
 show Tr.of (eu []<|l.map dI)=_;rw[zj (kvs:=[]) h0 nd]
 rfl
theorem Zd5:∀{l:Fl (D2×Fn)}{k:D2}{v:Fn},(l.map (·.1)).Nodup->(k,v)∈l->fS (l.map λkv=>(PyData.tuple<|kv.1.map PyData.int,kv.2)) k=some v
 | [],_,_,_,h=>by cases h
 | p::l,k,v,nd,h=>by
  rw[Ax]at nd ⊢;unfold fS;rw[BA];dsimp only;rw[ints?_map];rcases AM.mp h with e|h
  ·subst e;rw[Ea rfl]
   rfl
  ·have hn:p.1≠k:=λe=>by rw[<- e]at h;exact(BQ.mp nd).1 (AU.mpr ⟨_,h,rfl⟩)
   rw[Eb λz=>hn<|A8 z];exact Zd5 (BQ.mp nd).2 h
def Zli{l:Fl (D2×Fn)}{k:D2}{v:Fn}(nd:(l.map (·.1)).Nodup)(h:(k,v)∈l):aU eO (pD l) (.tuple<|k.map PyData.int)=.ret v:=by
 show Tr.of ((ints?<|k.map PyData.int).bind<|fS _)=_;rw[ints?_map];show Tr.of (fS _ k)=_;rw[Zd5 nd h]
 rfl
def yX:vT k ρ=.ret (.next<|ρ.set k<|.dip []):=rfl
def ZcD{nn:DR}{l:Fl (D2×Fn)}{x:Fn}{ns:D2}(h1:i ρ=.ret x)(h2:ρ[k]?=some (.dip l))(h3:nn ρ=.ret (.tuple<|ns.map PyData.int))(h4:l.length<=5000)(h5:io k ρ=true)(h6:ns∉l.map (·.1)) :
  lO k nn i ρ=.ret (.next<|ρ.set k<|.dip<|l++[(ns,x)]):=by unfold lO;rw[h1,Tr.ret_bind,h2];dsimp only;rw[h3,Tr.ret_bind];dsimp only;rw[ints?_map];dsimp only;rw[Ed<|by rw[bW<|by omega,h5];rfl,Zcz h6]
def Zeo{l:Fl (D2×Fn)}(h1:ρ[k]?=some (.dip l))(h2:io k ρ=true)(h3:l≠[]):lQ k s ρ=s (ρ.set k<|.d<|pD l):=by
 unfold lQ yT;rw[h1];dsimp only;rw[Ed];rw[h2];cases l with
 |nil=>exact absurd rfl h3
 |cons _ _=>rfl
theorem ZdJ:∀l:Fl (D2×Fn),gx (l.map λkv=>(PyData.tuple<|kv.1.map PyData.int,kv.2))=some (l.map (·.1))
 | []=>rfl
 | p::l=>by
  rw[Ax];unfold gx;rw[ints?_map,ZdJ l]
  rfl
def Zk6{l:Fl (D2×Fn)}(h:l≠[])(h1:l.length<64)(h2:gc (l.map (·.1))=true):nC hU [pD l]=.ret (l.map λkv=>PyData.tuple<|kv.1.map PyData.int):=by
 cases l with
 |nil=>exact absurd rfl h
 | cons p l =>
  show Tr.of ((gx<|(p::l).map λkv=>(PyData.tuple<|kv.1.map PyData.int,kv.2)).bind _)=_;rw[ZdJ];rw[CK];rw[Ed<|by rw[h2,Ea<|by rw[Av];exact h1];rfl,Tr.of_some,AR]
  rfl
def Zle{ps:Fl Pr}(h:ps≠[]):bR pY [.list<|ps.map eF]=.ret (eF<|fV ps):=by
 show Tr.of ((prs?<|ps.map eF).bind _)=_;rw[prs?_map];rw[CK];rw[Ef λe=>h<|Dz.mp e]
 rfl
def Znp:∀{ps:Fl Pr},ps≠[]->fV ps∈ps
 | [],h=>absurd rfl h
 | x::r,_=>by
  have key:∀(r:Fl Pr)(b:Pr),r.foldl (λb y=>if HT.cx y b=true then y else b) b=b\/r.foldl (λb y=>if HT.cx y b=true then y else b) b∈r:=by
   intro r
   induction r with
   |nil=>intro b;exact .inl rfl
   | cons y r ih =>
    intro b;rw[BR];rcases ih (if HT.cx y b=true then y else b)with e|e
    ·rw[e]
     split
     ·exact .inr<|AB ..
     ·exact .inl rfl
    ·exact .inr<|Az _ e
  show r.foldl (λb y=>if HT.cx y b=true then y else b) x∈x::r
  rcases key r x with e|e
  ·rw[e];exact AB ..
  ·exact Az _ e
end L2
namespace Tw
open L2
abbrev Pt:=Int×Int
noncomputable def kS(p:Pt):D2:=[p.1,p.2]
noncomputable def aq(p:Pt):Fn:=.tuple [.int p.1,.int p.2]
def mB(p q:Pt):Prop:=p.1<q.1\/p.1=q.1/\p.2<q.2
noncomputable def cP(a b:D2):Fl Pt:=a.flatMap λx=>b.map λy=>(x,y)
def pz{a b:D2}{p:Pt}:p∈cP a b ↔ p.1∈a/\p.2∈b:=by
 unfold cP;rw[List.mem_flatMap];constructor
 ·rintro⟨x,hx,h⟩;obtain⟨y,hy,rfl⟩:=AU.mp h;exact⟨hx,hy⟩
 ·rintro⟨h1,h2⟩;exact⟨p.1,h1,AU.mpr ⟨p.2,h2,rfl⟩⟩
def Ziw{a b:D2}(ha:a.Pairwise (· < ·))(hb:b.Pairwise (· < ·)):(cP a b).Pairwise mB:=by
 unfold cP;rw[List.pairwise_flatMap];refine⟨λx _=>?_,ha.imp λ{x y} hxy p hp q hq=>?_⟩
 ·rw[Do];exact hb.imp λh=>.inr ⟨rfl,h⟩
 ·obtain⟨u,_,rfl⟩:=AU.mp hp;obtain⟨v,_,rfl⟩:=AU.mp hq;exact .inl hxy
def Zb2(lo:Int)(n:Nat):(aQ lo n).Pairwise (· < ·):=by unfold aQ;rw[Do];exact List.pairwise_lt_range.imp λh=>by omega
def Zix(a b:D2)(u v:Int->Bool):(cP a b).filter (λq=>u q.1&&v q.2)=cP (a.filter u) (b.filter v):=by
 have row:∀(x:Int),(b.map λy=>(x,y)).filter (λq:Pt=>u q.1&&v q.2)=if u x=true then (b.filter v).map λy=>(x,y)else []:=λx=>by
  rw[List.filter_map];cases hu:u x with
  | true =>
   rw[Ed rfl];congr 2;funext y;show(u x&&v y)=v y;rw[hu];rfl
  | false =>
   rw[Ef<|by decide]
   have:∀l:D2,l.filter ((λq:Pt=>u q.1&&v q.2) ∘ λy=>(x,y))=[]:=λl=>by
    induction l with
    |nil=>rfl
    | cons y l ih =>
     rw[DA,Ef]
     ·exact ih
     ·show ¬ (u x&&v y)=true;rw[hu,Bb];decide
   rw[this]
   rfl
 unfold cP
 induction a with
 |nil=>rfl
 | cons x a ih =>
  rw[Ds,List.filter_append,ih,row,DA]
  split
  ·rw[Ds]
  ·rw[Cf]
def Zb1(lo:Int)(n:Nat):aQ lo (n+1)=aQ lo n++[lo+n]:=by unfold aQ;rw[List.range_succ,Bu];rfl
def Zb0(c:Int):∀(n:Nat)(lo:Int),lo<=c->(aQ lo n).filter (λx=>decide (c<=x))=aQ c (lo+n-c).toNat:=by
 intro n lo h;by_cases hc:c<=lo+n
 ·have e:n=(c-lo).toNat+(lo+n-c).toNat:=by omega
  have e2:lo+((c-lo).toNat:Int)=c:=by omega
  have split:aQ lo n=aQ lo (c-lo).toNat++aQ c (lo+n-c).toNat:=by have:=Zig lo (c-lo).toNat (lo+n-c).toNat;rw[<- e,e2]at this;exact this
  rw[split,List.filter_append];have f1:(aQ lo (c-lo).toNat).filter (λx=>decide (c<=x))=[]:=List.filter_eq_nil_iff.mpr λx hx=>by have:=gN hx;rw[Ew];omega
  have f2:(aQ c (lo+n-c).toNat).filter (λx=>decide (c<=x))=aQ c (lo+n-c).toNat:=List.filter_eq_self.mpr λx hx=>by have:=gN hx;rw[Ew];omega
  rw[f1,f2]
  rfl
 ·have e:(lo+n-c).toNat=0:=by omega
  rw[e];exact List.filter_eq_nil_iff.mpr λx hx=>by have:=gN hx;rw[Ew];omega
theorem ZbO:∀{l:Fl Pt},l.Pairwise mB->gc (l.map kS)=true
 | [],_=>rfl
 | [a],_=>rfl
 | a::b::r,h=>by
  have hab:=(Df.mp h).1 b (AB ..);have ih:=ZbO (Df.mp h).2;rw[Ax,Ax];rw[Ax]at ih;unfold gc;rw[ih];have:jd (kS b) (kS a)=false:=by
   show(if b.1=a.1 then (if b.2=a.2 then false else decide (b.2<a.2))else decide (b.1<a.1))=false
   rcases hab with h|⟨h1,h2⟩
   ·rw[Ef<|by omega,Eb<|by omega]
   ·rw[Ed h1.symm,Ef<|by omega,Eb<|by omega]
  rw[this]
  rfl
def ZdM{p q:Pt}(h:kS p=kS q):p=q:=by unfold kS at h;injection h with h1 h2;injection h2 with h2 _;exact Prod.ext h1 h2
def mY{l:Fl Pt}(h:l.Pairwise mB):(l.map kS).Nodup:=by
 unfold List.Nodup;rw[Do];refine h.imp λ{p q} hpq e=>?_;have e:=ZdM e;subst e;rcases hpq with h|⟨_,h⟩
 ·exact absurd h<|Dh _
 ·exact absurd h<|Dh _
section
variable(s:Shp)
def Shp.sts:Fl Pt:=cP (aQ (-s.depth) s.n)<|aQ (-s.depth) s.n
def Shp.rzs(p:Pt):Fl Pt:=cP (aQ p.1 (s.top+1-p.1).toNat)<|aQ p.2 (s.top+1-p.2).toNat
def Shp.tb(F:Int->Int->Int):Fl (D2×Fn):=s.sts.map λp=>(kS p,.int<|F p.1 p.2)
def wss(g:Int->Int->Int):Nat->Fl D2->Int
 |_,[]=>0
 |i,l::ls=>ws (g i) 0 l+wss g (i+1) ls
noncomputable def aN(day:Fl D2):Int:=(day.map List.sum).sum
noncomputable def Shp.c2(F:Int->Int->Int)(c y1 y2 i j:Int):Int:=c*(s.day y1 i+s.day y2 j)+F (s.nx y1 i) (s.nx y2 j)
def Shp.w2(day:Fl D2)(F:Int->Int->Int)(c y1 y2:Int):Int:=wss (s.c2 F c y1 y2) 0 day
def Shp.cand(W:Int->Int->Int)(c:Int)(p:Pt):Fl Pr:=(s.rzs p).map λq=>(c*s.ord (p.1+p.2) (q.1+q.2)+W q.1 q.2,kS q)
def Shp.bp(W:Int->Int->Int)(c:Int)(p:Pt):Pr:=fV<|s.cand W c p
def Shp.dk:Fl (Fl D2)->(Int->Int->Int)×Int
 | []=>(λa b=>s.fin a+s.fin b,1)
 |day::r=>(λa b=>(s.bp (s.w2 day (Shp.dk r).1 (Shp.dk r).2) ((Shp.dk r).2*aN day) (a,b)).1,(Shp.dk r).2*aN day)
def Shp.pick(day:Fl D2)(r:Fl (Fl D2))(p:Pt):Pr:=s.bp (s.w2 day (s.dk r).1 (s.dk r).2) ((s.dk r).2*aN day) p
def Shp.ddayL(day:Fl D2)(r:Fl (Fl D2)):D1:=s.sts.map λp=>.tuple [gK (s.pick day r p).1 ((s.dk r).2*aN day),.tuple<|(s.pick day r p).2.map PyData.int]
noncomputable def Shp.dtab:Fl (Fl D2)->Fl Fn
 | []=>[]
 |day::r=>.tuple (s.ddayL day r)::Shp.dtab r
end
section
variable{s:Shp}
def b8(h:s.Ok){p:Pt}:p∈s.sts ↔ (-s.depth<=p.1/\p.1<=s.top)/\(-s.depth<=p.2/\p.2<=s.top):=by
 have:=h.n_eq;have key:∀x:Int,x∈aQ (-s.depth) s.n ↔ -s.depth<=x/\x<=s.top:=λx=>by
  constructor
  ·intro hx;have:=gN hx;omega
  ·intro hx;unfold aQ;exact AU.mpr ⟨(x+s.depth).toNat,Bw.mpr<|by omega,by omega⟩
 unfold Shp.sts;rw[pz,key,key]
def gM{p q:Pt}(h1:p.1<=s.top)(h2:p.2<=s.top):q∈s.rzs p ↔ (p.1<=q.1/\q.1<=s.top)/\(p.2<=q.2/\q.2<=s.top):=by
 have key:∀(a x:Int),a<=s.top->(x∈aQ a (s.top+1-a).toNat ↔ a<=x/\x<=s.top):=λa x ha=>by
  constructor
  ·intro hx;have:=gN hx;omega
  ·intro hx;unfold aQ;exact AU.mpr ⟨(x-a).toNat,Bw.mpr<|by omega,by omega⟩
 unfold Shp.rzs;rw[pz,key _ _ h1,key _ _ h2]
def jE(s:Shp):s.sts.Pairwise mB:=Ziw (Zb2 _ _)<|Zb2 _ _
def l9(h:s.Ok):s.sts≠[]:=by have:=h.t0;have:=h.d0;exact List.ne_nil_of_mem<|(b8 h (p:=(0,0))).mpr ⟨⟨by show -s.depth<=(0:Int);omega,by show(0:Int)<=s.top;omega⟩,⟨by show -s.depth<=(0:Int);omega,by show(0:Int)<=s.top;omega⟩⟩
def fi(s:Shp):s.sts.length=s.n*s.n:=by
 unfold Shp.sts cP;rw[List.length_flatMap];have:((aQ (-s.depth) s.n).map λx=>((aQ (-s.depth) s.n).map λy=>(x,y)).length)=(aQ (-s.depth) s.n).map λ_=>s.n:=BD λx _=>by rw[Av,fO]
 rw[this,List.map_const',List.sum_replicate_nat,fO]
def ku(h:s.Ok){p:Pt}(hp:p∈s.sts):s.sts.filter (λq=>decide (p.1<=q.1)&&decide (p.2<=q.2))=s.rzs p:=by
 have hn:=h.n_eq;obtain⟨⟨a1,a2⟩,b1,b2⟩:=(b8 h).mp hp;unfold Shp.sts Shp.rzs;rw[Zix _ _ (λx=>decide (p.1<=x))<|λx=>decide (p.2<=x),Zb0 _ _ _ a1,Zb0 _ _ _ b1];have e1:-s.depth+(s.n:Int)-p.1=s.top+1-p.1:=by omega
 have e2:-s.depth+(s.n:Int)-p.2=s.top+1-p.2:=by omega
 rw[e1,e2]
def l6(h:s.Ok)(F:Int->Int->Int):s.tb F≠[]:=λe=>l9 h<|B7.mp e
def Zav(s:Shp)(F:Int->Int->Int):(s.tb F).map (·.1)=s.sts.map kS:=by unfold Shp.tb;rw[AR];rfl
def ou(s:Shp)(F:Int->Int->Int):((s.tb F).map (·.1)).Nodup:=by rw[Zav];exact mY<|jE s
def jD(h:s.Ok){F:Int->Int->Int}{a b:Int}(h1:-s.depth<=a)(h2:a<=s.top)(h3:-s.depth<=b)(h4:b<=s.top):aU eO (pD<|s.tb F) (.tuple [.int a,.int b])=.ret (.int<|F a b) :=
 Zli (k:=[a,b]) (ou s F) (AU.mpr ⟨(a,b),(b8 h).mpr ⟨⟨h1,h2⟩,h3,h4⟩,rfl⟩)
def ot(h:s.Ok)(h7:s.n<=7)(F:Int->Int->Int):nC hU [pD<|s.tb F]=.ret (s.sts.map aq):=by
 have hl:(s.tb F).length<64:=by unfold Shp.tb;rw[Av,fi];have:s.n*s.n<=7*7:=Cb h7 h7;omega
 rw[Zk6 (l6 h F) hl<|by rw[Zav];exact ZbO<|jE s]
 unfold Shp.tb;rw[AR]
 rfl
def ZbA(h:s.Ok){p:Pt}(hp:p∈s.sts):s.rzs p≠[]:=by obtain⟨⟨a1,a2⟩,b1,b2⟩:=(b8 h).mp hp;exact List.ne_nil_of_mem<|(gM a2 b2 (q:=p)).mpr ⟨⟨BZ _,a2⟩,BZ _,b2⟩
def Zfn(h:s.Ok){W:Int->Int->Int}{c:Int}{p:Pt}(hp:p∈s.sts):∃q∈s.rzs p,s.bp W c p=(c*s.ord (p.1+p.2) (q.1+q.2)+W q.1 q.2,kS q):=by have hn:s.cand W c p≠[]:=λe=>ZbA h hp<|B7.mp e;obtain⟨q,hq,e⟩:=AU.mp<|Znp hn;exact⟨q,hq,e.symm⟩
def Zh7{α:Type}{g:α->Fn}{fs:Fl α}{pre post:D1}{x:Fn}(h:(fs.map g).reverse=pre++x::post):∃d:α,x=g d/\pre.length<fs.length/\fs.drop (fs.length-(pre.length+1))=d::fs.drop (fs.length-pre.length):=by
 have h1:((fs.map g).reverse)[pre.length]?=some x:=by rw[h];simp
 have hl:pre.length<((fs.map g).reverse).length:=(Ay.mp h1).1;rw[Bv,Av]at hl;rw[CI<|by rw[Av];exact hl,Av,AK]at h1
 obtain⟨d,hd,rfl⟩:=Bs.mp h1;refine⟨d,rfl,hl,?_⟩;have e:fs.length-(pre.length+1)=fs.length-1-pre.length:=by omega
 have e2:fs.length-pre.length=fs.length-1-pre.length+1:=by omega
 rw[e,e2,AY<|by omega]
 congr 1;exact(Ay.mp hd).2
theorem Zab{α:Type}{f g:α->Fn}:∀l:Fl α,f9 (l.map f) (l.map g)=l.map λx=>.tuple [f x,g x]
 | []=>rfl
 |x::l=>by have ih:=Zab (f:=f) (g:=g) l;unfold f9 at ih ⊢;rw[Ax,Ax,A0,Ax,ih,Ax]
def Zg6(s:Shp):((aQ (-s.depth) s.n).flatMap λx=>(aQ (-s.depth) s.n).map λy=>aq (x,y))=s.sts.map aq:=by
 unfold Shp.sts cP;rw[List.map_flatMap];simp only[AR]
 rfl
def ZhS(s:Shp)(p:Pt):((aQ p.1 (s.top+1-p.1).toNat).flatMap λx=>(aQ p.2 (s.top+1-p.2).toNat).map λy=>aq (x,y))=(s.rzs p).map aq:=by
 unfold Shp.rzs cP;rw[List.map_flatMap];simp only[AR]
 rfl
def Zg3(p:Pt):bR dO [aq p]=.ret (.int<|p.1+p.2):=by
 have e:=jl [p.1,p.2];have e2:[p.1,p.2].sum=p.1+p.2:=by rw[BW,BW,List.sum_nil,Int.add_zero]
 rw[e2]at e;exact e
def yW(day:Fl D2):(day.map λl=>PyData.int l.sum)=(day.map List.sum).map PyData.int:=by rw[AR];rfl
structure DdB(day:List D2):Prop where
 len:day.length<=3
 row:∀l∈day,l.length<=3/\∀w∈l,0<=w/\w<=1000
 pos:0<aN day
def oh{w:Int}(h:0<=w/\w<=1000):nb 10 w:=bS (by show -1024<_;omega)<|by show _<1024;omega
def eI(s:Shp)(b:Nat)(F:Int->Int->Int):Prop:=∀x y,-s.depth<=x->x<=s.top->-s.depth<=y->y<=s.top->nb b (F x y)
def gw{s:Shp}(h:s.Ok){y:Int}(y1:-s.depth<=y)(y2:y<=s.top):nb 20 y:=by have:=h.t0;have:=h.d0;have:=h.td;exact bS (by show -1048576<_;omega)<|by show _<1048576;omega
def jj{k:Nat}(h:k<=1000):nb 40 (k:Int):=bS (by show -1099511627776<_;omega)<|by show _<1099511627776;omega
def zM(h:s.Ok){F:Int->Int->Int}{b:Nat}(hF:eI s b F){c:Int}(hc:nb b c){y1 y2:Int}(a1:-s.depth<=y1)(a2:y1<=s.top)(b1:-s.depth<=y2)(b2:y2<=s.top){i j:Nat}(hi:i<=1000)(hj:j<=1000):nb (b+102) (s.c2 F c y1 y2 i j):=by
 have n1:=lD h (gw h a1 a2)<|jj hi;have n2:=lD h (gw h b1 b2)<|jj hj;have n3:=hF _ _ (im s y1 i) (il h a2<|show(0:Int)<=i by omega) (im s y2 j)<|il h b2<|show(0:Int)<=j by omega
 unfold Shp.c2;exact aO (dX (dm hc<|dX n1 n2) n3)<|by omega
theorem Zaf{f:Int->Int}{b:Nat}:∀{l:D2}{k:Nat},(∀i:Nat,i<k+l.length->nb b (f i))->(∀w∈l,0<=w/\w<=1000)->nb (b+10+l.length) (ws f k l)
 | [],k,_,_=>by unfold ws nb;exact Cd (by simp)
 | w::l,k,hf,h=>by
  unfold ws;have h1:=dm (oh<|h w<|AB ..)<|hf k<|by rw[AE];omega
  have h2:=Zaf (f:=f) (b:=b) (l:=l) (k:=k+1) (λi hi=>hf i<|by rw[AE];omega) λv hv=>h v<|Az _ hv
  exact aO (dX h1 h2)<|by rw[AE];omega
theorem Zad{g:Int->Int->Int}{b:Nat}:∀{L:Fl D2}{k:Nat},(∀i j:Nat,i<k+L.length->j<=3->nb b (g i j))->(∀l∈L,l.length<=3/\∀w∈l,0<=w/\w<=1000)->nb (b+13+L.length) (wss g k L)
 | [],k,_,_=>by unfold wss nb;exact Cd (by simp)
 | l::L,k,hg,h=>by
  unfold wss;obtain⟨l1,l2⟩:=h l<|AB ..;have h1:=Zaf (f:=g k) (b:=b) (l:=l) (k:=0) (λj hj=>hg k j (by rw[AE];omega)<|by omega) l2
  have h2:=Zad (g:=g) (b:=b) (L:=L) (k:=k+1) (λi j hi hj=>hg i j (by rw[AE];omega) hj) λv hv=>h v<|Az _ hv
  exact aO (dX h1 h2)<|by rw[AE];omega
def l4(h:s.Ok){day:Fl D2}(hd:DdB day){F:Int->Int->Int}{b:Nat}(hF:eI s b F){c:Int}(hc:nb b c):eI s (b+120) (s.w2 day F c):=λy1 y2 a1 a2 b1 b2=>by have hl:=hd.len;unfold Shp.w2;exact aO (Zad (b:=b+102) (λi j hi hj=>zM h hF hc a1 a2 b1 b2 (by omega)<|by omega) hd.row)<|by omega
theorem oy:∀{l:D2},(∀w∈l,0<=w/\w<=1000)->0<=l.sum/\l.sum<=1000*l.length
 | [],_=>⟨BZ _,BZ _⟩
 |w::l,h=>by have h1:=h w<|AB ..;have h2:=oy (l:=l) λv hv=>h v<|Az _ hv;rw[BW,AE];omega
theorem wT:∀{L:Fl D2},(∀l∈L,l.length<=3/\∀w∈l,0<=w/\w<=1000)->0<=aN L/\aN L<=3000*L.length
 | [],_=>⟨BZ _,BZ _⟩
 | l::L,h=>by
  obtain⟨l1,l2⟩:=h l<|AB ..;have h1:=oy l2;have h2:=wT (L:=L) λv hv=>h v<|Az _ hv;have e:aN (l::L)=l.sum+aN L:=by unfold aN;rw[Ax,BW]
  rw[e,AE];omega
def gJ{day:Fl D2}(hd:DdB day):nb 20 (aN day):=by have:=wT hd.row;have:=hd.len;exact bS (by show -1048576<_;omega)<|by show _<1048576;omega
def ie(h:s.Ok){x y:Int}(hx:nb 20 x)(hy:nb 20 y):nb 100 (s.ord x y):=by unfold Shp.ord;refine kM (bS (by decide)<|by decide)<|aO (dX h.start<|dm h.piece<|i5 hy hx)<|by decide
theorem jY(h:s.Ok):∀{ds:Fl (Fl D2)},(∀d∈ds,DdB d)->eI s (102+150*ds.length) (s.dk ds).1/\nb (102+150*ds.length) (s.dk ds).2/\0<(s.dk ds).2
 | [],_=>⟨λx y a1 a2 b1 b2=>aO (dX (ly h x a1 a2)<|ly h y b1 b2)<|by decide,aO (show nb 102 (1:Int)from bS (by decide)<|by decide)<|by decide,show(0:Int)<1 from by decide⟩
 | day::r,hd=>by
  obtain⟨k1,k2,k3⟩:=jY h (ds:=r) λd FK=>hd d<|Az _ FK;have FG:=hd day<|AB ..;have c1:nb (102+150*r.length+20) ((s.dk r).2*aN day):=dm k2<|gJ FG;refine⟨λx y a1 a2 b1 b2=>?_,aO c1<|by rw[AE];omega,CC k3 FG.pos⟩
  have hp:((x,y):Pt)∈s.sts:=(b8 h).mpr ⟨⟨a1,a2⟩,b1,b2⟩;obtain⟨q,hq,e⟩:=Zfn h (W:=s.w2 day (s.dk r).1 (s.dk r).2) (c:=(s.dk r).2*aN day) hp;obtain⟨⟨q1,q2⟩,q3,q4⟩:=(gM a2 b2).mp hq;have ht:=h.t0;have hd0:=h.d0;have htd:=h.td;have q1:x<=q.1:=q1;have q3:y<=q.2:=q3;show nb _ (s.bp (s.w2 day (s.dk r).1 (s.dk r).2) ((s.dk r).2*aN day) (x,y)).1;rw[e];have n1:=ie h (x:=x+y) (y:=q.1+q.2) (bS (by show -1048576<_;omega)<|by show _<1048576;omega)<|bS (by show -1048576<_;omega)<|by show _<1048576;omega
  have n2:=l4 h FG k1 k2 q.1 q.2 (by omega) q2 (by omega) q4
  exact aO (dX (dm c1 n1) n2)<|by rw[AE];omega
def vH(h:s.Ok){W:Int->Int->Int}{b:Nat}(hW:eI s b W){c:Int}(hc:nb b c){p q:Pt}(hp:p∈s.sts)(hq:q∈s.rzs p):q∈s.sts/\nb 20 (p.1+p.2)/\nb 20 (q.1+q.2):=by have ht:=h.t0;have hd0:=h.d0;have htd:=h.td;obtain⟨⟨a1,a2⟩,b1,b2⟩:=(b8 h).mp hp;obtain⟨⟨q1,q2⟩,q3,q4⟩:=(gM a2 b2).mp hq;exact⟨(b8 h).mpr ⟨⟨by omega,q2⟩,by omega,q4⟩,bS (by show -1048576<_;omega)<|by show _<1048576;omega,bS (by show -1048576<_;omega)<|by show _<1048576;omega⟩
end
end Tw
namespace Tw
open L2
end Tw
namespace L2
theorem Zeb{g:DX}{s:DU}{r:Re}{full:D1}(B:Fl Fn->Fn->Prop)(I:Fl Fn->Fl Sl->Prop)
  (ht:∀pre x post ρ,full=pre++x::post->I pre ρ->∃ρ1,g x ρ=some ρ1/\((B pre x/\s ρ1=.ret (.ret r))\/(¬ B pre x/\∃ρ2,s ρ1=.ret (.next ρ2)/\I (pre++[x]) ρ2))) :
  ∀{xs pre:D1}{ρ:D7},full=pre++xs->I pre ρ->(∀p x q,pre=p++x::q->¬ B p x) ->
   ((∃p x q,full=p++x::q/\B p x)/\ck g s xs ρ=.ret (.ret r))\/((∀p x q,full=p++x::q->¬ B p x)/\∃ρ2,ck g s xs ρ=.ret (.next ρ2)/\I full ρ2)
 | [],pre,ρ,e,h0,hn=>by rw[A3]at e;subst e;exact .inr ⟨hn,ρ,rfl,h0⟩
 | x::xs,pre,ρ,e,h0,hn=>by
  obtain⟨ρ1,e1,hx⟩:=ht pre x xs ρ e h0;rw[lv,e1,Tr.of_some,Tr.ret_bind];unfold iA;rcases hx with ⟨hb,e2⟩|⟨hb,ρ2,e2,h2⟩
  ·exact .inl ⟨⟨pre,x,xs,e,hb⟩,by rw[e2,Tr.ret_bind];rfl⟩
  ·rw[e2,Tr.ret_bind,gW];refine Zeb B I ht (xs:=xs) (pre:=pre++[x]) (by rw[e,Bg];rfl) h2 λp y q hp=>?_
   rcases List.append_eq_append_iff.mp hp with ⟨a,h1,h2'⟩|⟨a,h1,h2'⟩
   ·cases a with
    | nil =>
     rw[Cf]at h2';rw[A3]at h1;cases h2';subst h1;exact hb
    | cons z a =>
     simp at h2'
   ·cases a with
    | nil =>
     rw[Cf]at h2';rw[A3]at h1;cases h2';subst h1;exact hb
    | cons z a =>
     rw[DB]at h2';cases h2';exact hn p y a h1
def Zk1{g:DX}{s:DU}{r:Re}{xs:D1}{ρ:D7}(B:Fl Fn->Fn->Prop)(I:Fl Fn->Fl Sl->Prop)(h0:I [] ρ)
  (ht:∀pre x post ρ,xs=pre++x::post->I pre ρ->∃ρ1,g x ρ=some ρ1/\((B pre x/\s ρ1=.ret (.ret r))\/(¬ B pre x/\∃ρ2,s ρ1=.ret (.next ρ2)/\I (pre++[x]) ρ2))) :
   ((∃p x q,xs=p++x::q/\B p x)/\ck g s xs ρ=.ret (.ret r))\/((∀p x q,xs=p++x::q->¬ B p x)/\∃ρ2,ck g s xs ρ=.ret (.next ρ2)/\I xs ρ2) :=
 Zeb B I ht (xs:=xs) (pre:=[]) rfl h0 λp x q hp=>by have:=Eg List.length hp;simp at this
end L2
namespace Tw
open L2
structure E2 where
 t:Int
 b:Int
 q:Pt
def E2.d(e:E2):Fn:=.tuple [.tuple [.int e.t,.int e.b],aq e.q]
structure E2.Sh(e:E2):Prop where
 pos:1<=e.b
 one:Nat.gcd e.t.natAbs e.b.natAbs=1
noncomputable def look{α:Type}(l:Fl (Pt×α))(p:Pt):Fm α:=(l.find? λx=>decide (x.1=p)).map (·.2)
theorem Zdh{α:Type}:∀{l:Fl Pt}{es:Fl α}{k:Nat}{p:Pt}{e:α},l.Pairwise mB->l[k]?=some p->es[k]?=some e->look (l.zip es) p=some e
 | [],_,k,p,e,_,h,_=>by cases h
 |x::l,[],k,p,e,_,_,h=>by cases h
 | x::l,y::es,0,p,e,_,h1,h2=>by
  cases h1;cases h2;unfold look;rw[A0,BA,Ea<|show(x,y).1=x from rfl]
  rfl
 | x::l,y::es,k+1,p,e,hp,h1,h2=>by
  rw[A6]at h1 h2;obtain⟨a,b⟩:=Df.mp hp;have hn:x≠p:=λz=>by
   have:=a p<|Bi h1;subst z;rcases this with h|⟨_,h⟩
   ·exact absurd h<|Dh _
   ·exact absurd h<|Dh _
  unfold look;rw[A0,BA,Eb<|show ¬ (x,y).1=p from hn]
  exact Zdh b h1 h2
section
variable(s:Shp)
def cE(es:Fl E2):Prop:=es.length=s.sts.length/\∀(k:Nat)(p:Pt)(e:E2),s.sts[k]?=some p->es[k]?=some e->e.Sh/\e.q∈s.rzs p
noncomputable def Shp.own2(W:Int->Int->Int)(c:Int)(p q:Pt):Int:=c*s.ord (p.1+p.2) (q.1+q.2)+W q.1 q.2
def Shp.ownF(W:Int->Int->Int)(c:Int)(es:Fl E2)(x y:Int):Int:=match look (s.sts.zip es) (x,y)with
 |some e=>s.own2 W c (x,y) e.q
 |none=>0
def Shp.okB(W:Int->Int->Int)(c:Int)(p:Pt)(e:E2):Bool:=decide (Gc.cB (s.own2 W c p e.q) c=e.t/\Gc.bQ (s.own2 W c p e.q) c=e.b)&&(s.rzs p).all λo=>!decide (s.own2 W c p o<s.own2 W c p e.q)
noncomputable def Shp.dayB(W:Int->Int->Int)(c:Int)(es:Fl E2):Bool:=(s.sts.zip es).all λx=>s.okB W c x.1 x.2
def Shp.chk:Fl (Fl D2)->Fl (Fl E2)->Fm ((Int->Int->Int)×Int)
 | [],_=>some (λa b=>s.fin a+s.fin b,1)
 |_::_,[]=>none
 |day::r,es::P=>(Shp.chk r P).bind λx=>if s.dayB (s.w2 day x.1 x.2) (x.2*aN day) es=true then some (s.ownF (s.w2 day x.1 x.2) (x.2*aN day) es,x.2*aN day)else none
def bot(es:Fl E2):Int:=es.foldl (λB e=>B*Gc.bQ B e.b) 1
def Shp.stF(es:Fl E2)(x y:Int):Int:=match look (s.sts.zip es) (x,y)with
 |some e=>e.t*(bot es).fdiv e.b
 |none=>0
def Shp.later:Fl (Fl E2)->(Int->Int->Int)×Int
 | []=>(λa b=>s.fin a+s.fin b,1)
 |es::_=>(s.stF es,bot es)
noncomputable def Shp.xF(M:Int->Int->Int)(w:Int)(p q:Pt):Int:=M q.1 q.2+s.ord (p.1+p.2) (q.1+q.2)*w
noncomputable def Shp.rowE(M:Int->Int->Int)(w:Int)(p:Pt)(e:E2):Bool:=decide (s.xF M w p e.q*e.b=e.t*w)&&(s.rzs p).all λo=>!decide (s.xF M w p o*e.b<e.t*w)
def Shp.rowB(day:Fl D2)(L:(Int->Int->Int)×Int)(es:Fl E2):Bool:=(s.sts.zip es).all λx=>s.rowE (s.w2 day L.1 L.2) (L.2*aN day) x.1 x.2
noncomputable def Shp.lawB:Fl (Fl D2)->Fl (Fl E2)->Bool
 |day::r,es::P=>s.rowB day (s.later P) es&&Shp.lawB r P
 |_,_=>true
end
section
variable{s:Shp}
def Zds{B b:Int}(hB:0<B)(hb:0<b):0<B*Gc.bQ B b/\b∣B*Gc.bQ B b/\B∣B*Gc.bQ B b:=by
 obtain⟨h1,h2,h3,_⟩:=Gc.jc (t:=B) (b:=b)<|by omega
 refine⟨CC hB h3,⟨Gc.cB B b,?_⟩,⟨Gc.bQ B b,rfl⟩⟩;generalize Gc.den B b=g at *;generalize Gc.cB B b=x at *;generalize Gc.bQ B b=y at *;rw[h1,h2];simp only[BL,BI,BF]
theorem nD:∀(es:Fl E2)(B:Int),0<B->(∀e∈es,1<=e.b)->0<es.foldl (λB e=>B*Gc.bQ B e.b) B/\B∣es.foldl (λB e=>B*Gc.bQ B e.b) B/\∀e∈es,e.b∣es.foldl (λB e=>B*Gc.bQ B e.b) B
 | [],B,hB,_=>⟨hB,⟨1,by rw[Dd];rfl⟩,nofun⟩
 | e::es,B,hB,h=>by
  have he:=h e<|AB ..;obtain⟨a1,a2,a3⟩:=Zds hB<|show 0<e.b by omega
  obtain⟨b1,b2,b3⟩:=nD es _ a1 λx hx=>h x<|Az _ hx;rw[BR];refine⟨b1,Di a3 b2,λx hx=>?_⟩;rcases AM.mp hx with rfl|hx
  ·exact Di a2 b2
  ·exact b3 x hx
def ZjZ{B b S:Int}(hB:0<B)(hb:0<b)(h1:B∣S)(h2:b∣S):B*Gc.bQ B b∣S:=by
 obtain⟨e1,e2,e3,e4⟩:=Gc.jc (t:=B) (b:=b)<|by omega
 obtain⟨u,hu⟩:=h1;obtain⟨v,hv⟩:=h2;have hg:Gc.den B b≠0:=Gc.nA<|by omega
 have e:Gc.cB B b*u=Gc.bQ B b*v:=by
  have q:Gc.den B b*(Gc.cB B b*u)=Gc.den B b*(Gc.bQ B b*v):=by rw[<- BL,<- BL,<- e1,<- e2,<- hu,<- hv]
  exact B0 hg q
 have d:(Gc.bQ B b).natAbs∣(Gc.cB B b).natAbs*u.natAbs:=⟨v.natAbs,by rw[<- BH,e,BH]⟩
 have d2:(Gc.bQ B b).natAbs∣u.natAbs:=CA (show Nat.Coprime (Gc.bQ B b).natAbs (Gc.cB B b).natAbs by unfold Nat.Coprime;rw[CT];exact e4) d
 obtain⟨w,hw⟩:=C6.mp d2;exact⟨w,by rw[hu,hw,BL]⟩
theorem vL{S:Int}:∀(es:Fl E2)(B:Int),0<B->(∀e∈es,1<=e.b/\e.b∣S)->B∣S->es.foldl (λB e=>B*Gc.bQ B e.b) B∣S
 | [],B,_,_,h=>h
 |e::es,B,hB,h,hS=>by obtain⟨h1,h2⟩:=h e<|AB ..;rw[BR];exact vL es _ (Zds hB<|by omega).1 (λx hx=>h x<|Az _ hx) (ZjZ hB (by omega) hS h2)
theorem Zag{c B:Int}{f f':Int->Int}:∀{l:D2}{k:Nat},(∀i:Nat,c*f i=B*f' i)->c*ws f k l=B*ws f' k l
 | [],k,h=>by unfold ws;rw[B6,B6]
 |w::l,k,h=>by unfold ws;rw[CD,CD,Zag h,BF,h k,BF]
theorem Zae{c B:Int}{f f':Int->Int->Int}:∀{l:Fl D2}{k:Nat},(∀i j:Nat,c*f i j=B*f' i j)->c*wss f k l=B*wss f' k l
 | [],k,h=>by unfold wss;rw[B6,B6]
 |w::l,k,h=>by unfold wss;rw[CD,CD,Zae h,Zag λj=>h k j]
def nW(s:Shp)(L F:(Int->Int->Int)×Int):Prop:=0<L.2/\0<F.2/\∀x y,-s.depth<=x->x<=s.top->-s.depth<=y->y<=s.top->L.1 x y*F.2=F.1 x y*L.2
def ZbV(h:s.Ok){L F:(Int->Int->Int)×Int}(r:nW s L F)(day:Fl D2){y1 y2:Int}(a1:-s.depth<=y1)(a2:y1<=s.top)(b1:-s.depth<=y2)(b2:y2<=s.top):F.2*s.w2 day L.1 L.2 y1 y2=L.2*s.w2 day F.1 F.2 y1 y2:=by
 obtain⟨_,_,r3⟩:=r;unfold Shp.w2;refine Zae λi j=>?_;have q:=r3 _ _ (im s y1 i) (il h a2<|show(0:Int)<=i by omega) (im s y2 j)<|il h b2<|show(0:Int)<=j by omega
 unfold Shp.c2;generalize s.day y1 i+s.day y2 j=D;rw[CD F.2,CD L.2,BI F.2<|L.1 _ _,q,BI (F.1 _ _) L.2,BF]
def Zib(h:s.Ok){L F:(Int->Int->Int)×Int}(r:nW s L F)(day:Fl D2){p q:Pt}(hq:q∈s.sts):F.2*s.xF (s.w2 day L.1 L.2) (L.2*aN day) p q=L.2*s.own2 (s.w2 day F.1 F.2) (F.2*aN day) p q:=by obtain⟨⟨a1,a2⟩,b1,b2⟩:=(b8 h).mp hq;unfold Shp.xF Shp.own2;rw[CD,CD,ZbV h r day a1 a2 b1 b2,Int.add_comm];congr 1;simp only[BL,BI,BF]
def yk{a x y:Int}(ha:0<a):a*x<a*y ↔ x<y:=⟨λh=>Int.lt_of_mul_lt_mul_left h<|Int.le_of_lt ha,λh=>Int.mul_lt_mul_of_pos_left h ha⟩
def Zh0(h:s.Ok){L F:(Int->Int->Int)×Int}(r:nW s L F){day:Fl D2}(hd:0<aN day){p:Pt}{e:E2}(hp:p∈s.sts)(he:e.Sh)(hq:e.q∈s.rzs p) :
  s.rowE (s.w2 day L.1 L.2) (L.2*aN day) p e=s.okB (s.w2 day F.1 F.2) (F.2*aN day) p e:=by
 obtain⟨⟨a1,a2⟩,b1,b2⟩:=(b8 h).mp hp;have sub:∀q∈s.rzs p,q∈s.sts:=λq hq=>by obtain⟨⟨q1,q2⟩,q3,q4⟩:=(gM a2 b2).mp hq;exact(b8 h).mpr ⟨⟨by omega,q2⟩,by omega,q4⟩
 have key:=λq hq=>Zib h r day (p:=p)<|sub q hq;obtain⟨r1,r2,_⟩:=r;have hb:0<e.b:=by have:=he.pos;omega
 unfold Shp.rowE Shp.okB;have kq:=key e.q hq;generalize hx:s.xF (s.w2 day L.1 L.2) (L.2*aN day) p=X at *;generalize ho:s.own2 (s.w2 day F.1 F.2) (F.2*aN day) p=O at *;generalize L.2=B at *;generalize F.2=c at *;generalize hS:aN day=S at *;have hcS:0<c*S:=CC r2 hd;have eqv:X e.q*e.b=e.t*(B*S) ↔ O e.q*e.b=e.t*(c*S):=by
  have q:c*(X e.q*e.b)=B*(O e.q*e.b):=by rw[<- BL,kq,BL]
  have q2:c*(e.t*(B*S))=B*(e.t*(c*S)):=by simp only[BL,BI,BF]
  constructor
  ·intro z;rw[z,q2]at q;exact(B0 (by omega) q).symm
  ·intro z;rw[z,<- q2]at q;exact B0 (by omega) q
 have low:O e.q*e.b=e.t*(c*S) ↔ Gc.cB (O e.q) (c*S)=e.t/\Gc.bQ (O e.q) (c*S)=e.b:=by
  obtain⟨s1,s2,s3,s4⟩:=Gc.jc (t:=O e.q) (b:=c*S)<|by omega
  have hg:Gc.den (O e.q) (c*S)≠0:=Gc.nA<|by omega
  constructor
  ·intro z;refine Gc.ZjO s3 hb s4 he.one ?_;refine B0 hg ?_;have z2:e.t*(c*S)=e.t*(Gc.den (O e.q) (c*S)*Gc.bQ (O e.q) (c*S)):=Eg (e.t * ·) s2;rw[<- BL,<- s1,z,z2,BF]
  ·rintro⟨z1,z2⟩;rw[z1]at s1;rw[z2]at s2;generalize Gc.den (O e.q) (c*S)=g at s1 s2;rw[s1,s2];simp only[BL,BI,BF]
 have d1:decide (X e.q*e.b=e.t*(B*S))=decide (Gc.cB (O e.q) (c*S)=e.t/\Gc.bQ (O e.q) (c*S)=e.b):=decide_eq_decide.mpr<|eqv.trans low;rw[d1];by_cases hz:Gc.cB (O e.q) (c*S)=e.t/\Gc.bQ (O e.q) (c*S)=e.b
 ·rw[Ea hz,Bq,Bq];have ex:=eqv.mpr<|low.mpr hz;have all:∀l:Fl Pt,(∀q∈l,q∈s.rzs p)->(l.all λo=>!decide (X o*e.b<e.t*(B*S)))=l.all λo=>!decide (O o<O e.q):=λl hl=>by
   induction l with
   |nil=>rfl
   | cons o l ih =>
    rw[BG,BG,ih λq hq=>hl q<|Az _ hq];congr 2;refine decide_eq_decide.mpr ?_;have ko:=key o<|hl o<|AB ..;rw[<- ex,BI<|X o,BI<|X e.q,yk hb,<- yk r2,ko,kq,yk r1]
  exact all _ λ_ h=>h
 ·rw[Eb hz,Bb,Bb]
theorem ZfP{u v:Pt×E2->Bool}:∀{l:Fl (Pt×E2)},(∀x∈l,u x=v x)->l.all u=l.all v
 | [],_=>rfl
 |x::l,h=>by rw[BG,BG,h x<|AB ..,ZfP λy hy=>h y<|Az _ hy]
def gH{es:Fl E2}(hd:cE s es){x:Pt×E2}(hx:x∈s.sts.zip es):x.1∈s.sts/\x.2.Sh/\x.2.q∈s.rzs x.1/\look (s.sts.zip es) x.1=some x.2:=by
 obtain⟨k,hk,rfl⟩:=BJ.mp hx;have h1:k<s.sts.length:=by rw[Bz]at hk;omega
 have h2:k<es.length:=by rw[Bz]at hk;omega
 rw[List.getElem_zip];have a:=Au h1;have b:=Au h2;obtain⟨c1,c2⟩:=hd.2 k _ _ a b;exact⟨AW h1,c1,c2,Zdh (jE s) a b⟩
def oA(h:s.Ok){es:Fl E2}(hd:cE s es){p:Pt}(hp:p∈s.sts):∃e∈es,(p,e)∈s.sts.zip es:=by
 obtain⟨k,hk,rfl⟩:=BJ.mp hp;have h2:k<es.length:=by rw[hd.1];exact hk
 refine⟨es[k],AW h2,BJ.mpr ⟨k,by rw[Bz];omega,?_⟩⟩
 rw[List.getElem_zip]
theorem yv(h:s.Ok):∀{ds:Fl (Fl D2)}{P:Fl (Fl E2)},(∀d∈ds,0<aN d)->(∀es∈P,cE s es)->P.length=ds.length ->
  s.lawB ds P=(s.chk ds P).isSome/\∀F,s.chk ds P=some F->nW s (s.later P) F
 | [],[],_,_,_=>⟨rfl,λF e=>by cases e;exact⟨show(0:Int)<1 by decide,show(0:Int)<1 by decide,λx y _ _ _ _=>rfl⟩⟩
 | [],_::_,_,_,e=>by cases e
 |_::_,[],_,_,e=>by cases e
 | day::r,es::P,hd,hP,hl=>by
  obtain⟨i1,i2⟩:=yv h (ds:=r) (P:=P) (λd FK=>hd d<|Az _ FK) (λe he=>hP e<|Az _ he)<|BV hl;have FG:=hd day<|AB ..;have FB:=hP es<|AB ..;have e1:s.lawB (day::r) (es::P)=(s.rowB day (s.later P) es&&s.lawB r P):=rfl;have e2:s.chk (day::r) (es::P)=(s.chk r P).bind λx=>if s.dayB (s.w2 day x.1 x.2) (x.2*aN day) es=true then some (s.ownF (s.w2 day x.1 x.2) (x.2*aN day) es,x.2*aN day)else none:=rfl
  rw[e1,e2,i1];cases hc:s.chk r P with
  | none =>
   refine⟨?_,λF e=>by cases e⟩
   show(_&&false)=false;rw[CF]
  | some G =>
   have rel:=i2 G hc;have er:s.rowB day (s.later P) es=s.dayB (s.w2 day G.1 G.2) (G.2*aN day) es:=ZfP λx hx=>by obtain⟨z1,z2,z3,_⟩:=gH FB hx;exact Zh0 h rel FG z1 z2 z3
   rw[er];rw[CK,De,Ck];cases hb:s.dayB (s.w2 day G.1 G.2) (G.2*aN day) es
   ·exact⟨rfl,λF e=>by cases e⟩
   ·refine⟨rfl,λF e=>?_⟩;have e:some (s.ownF (s.w2 day G.1 G.2) (G.2*aN day) es,G.2*aN day)=some F:=e;cases e;have hc0:0<G.2*aN day:=CC rel.2.1 FG;have FV:∀e∈es,1<=e.b:=λe he=>by
     obtain⟨k,hk,rfl⟩:=BJ.mp he;have h1:k<s.sts.length:=by rw[<- FB.1];exact hk
     exact(FB.2 k _ _ (Au h1)<|Au hk).1.pos
    obtain⟨k1,_,k3⟩:=nD es 1 (by decide) FV
    refine⟨k1,hc0,λx y a1 a2 b1 b2=>?_⟩;obtain⟨e,he,hz⟩:=oA h FB (p:=(x,y))<|(b8 h).mpr ⟨⟨a1,a2⟩,b1,b2⟩;obtain⟨_,_,_,lk⟩:=gH FB hz;have hok:=Bl.mp hb _ hz;obtain⟨o1,_⟩:=A2.mp hok;obtain⟨o1,o2⟩:=Ec o1;have lk:look (s.sts.zip es) (x,y)=some e:=lk;show s.stF es x y*(G.2*aN day)=s.ownF _ _ es x y*bot es;unfold Shp.stF Shp.ownF;rw[lk];show e.t*(bot es).fdiv e.b*(G.2*aN day)=s.own2 (s.w2 day G.1 G.2) (G.2*aN day) (x,y) e.q*bot es;obtain⟨s1,s2,_,_⟩:=Gc.jc (t:=s.own2 (s.w2 day G.1 G.2) (G.2*aN day) (x,y) e.q) (b:=G.2*aN day)<|by omega
    obtain⟨w,hw⟩:=k3 e he;have hw:bot es=e.b*w:=hw;have hb0:=FV e he;rw[hw,Cr _<|by omega]
    have o1:Gc.cB (s.own2 (s.w2 day G.1 G.2) (G.2*aN day) (x,y) e.q) (G.2*aN day)=e.t:=o1;have o2:Gc.bQ (s.own2 (s.w2 day G.1 G.2) (G.2*aN day) (x,y) e.q) (G.2*aN day)=e.b:=o2;rw[o1]at s1;rw[o2]at s2;generalize Gc.den (s.own2 (s.w2 day G.1 G.2) (G.2*aN day) (x,y) e.q) (G.2*aN day)=g at s1 s2;rw[s1];generalize G.2*aN day=C at *;rw[s2];simp only[BL,BI,BF]
end
end Tw
namespace L2
theorem nk{α:Type}{g:DX}{s:DU}{r:Re}{mk:α->Fn}{full:Fl α}(ok:α->Bool)(I:Fl α->Fl Sl->Prop)
  (ht:∀pre x post ρ,full=pre++x::post->I pre ρ->∃ρ1,g (mk x) ρ=some ρ1/\((ok x=true/\∃ρ2,s ρ1=.ret (.next ρ2)/\I (pre++[x]) ρ2)\/(ok x=false/\s ρ1=.ret (.ret r)))) :
  ∀{xs pre:Fl α}{ρ:D7},full=pre++xs->I pre ρ->(xs.all ok=true/\∃ρ2,ck g s (xs.map mk) ρ=.ret (.next ρ2)/\I full ρ2)\/(xs.all ok=false/\ck g s (xs.map mk) ρ=.ret (.ret r))
 | [],pre,ρ,e,h0=>by rw[A3]at e;subst e;exact .inl ⟨rfl,ρ,rfl,h0⟩
 | x::xs,pre,ρ,e,h0=>by
  obtain⟨ρ1,e1,hx⟩:=ht pre x xs ρ e h0;rw[Ax,lv,e1,Tr.of_some,Tr.ret_bind,BG];unfold iA;rcases hx with ⟨o,ρ2,e2,h2⟩|⟨o,e2⟩
  ·rw[e2,Tr.ret_bind,gW,o,Bq];exact nk ok I ht (by rw[e,Bg];rfl) h2
  ·rw[e2,Tr.ret_bind,o];exact .inr ⟨rfl,rfl⟩
end L2
namespace Tw
open L2
section
variable{s:Shp}
def Zat{es:Fl E2}{G:Int->Int->Int}{g:Pt->E2->Int}(hd:cE s es)(hg:∀p e,look (s.sts.zip es) p=some e->G p.1 p.2=g p e):s.tb G=(s.sts.zip es).map λx=>(kS x.1,.int<|g x.1 x.2):=by
 have e:s.sts=(s.sts.zip es).map (·.1):=(List.map_fst_zip<|by rw[hd.1];exact Aw _).symm
 unfold Shp.tb;have e2:s.sts.map (λp=>(kS p,PyData.int<|G p.1 p.2))=((s.sts.zip es).map (·.1)).map λp=>(kS p,PyData.int<|G p.1 p.2):=by rw[<- e]
 rw[e2,AR];refine BD λx hx=>?_;obtain⟨_,_,_,lk⟩:=gH hd hx;show(kS x.1,PyData.int<|G x.1.1 x.1.2)=_;rw[hg x.1 x.2 lk]
def Zau{es:Fl E2}(hd:cE s es)(W:Int->Int->Int)(c:Int):s.tb (s.ownF W c es)=(s.sts.zip es).map λx=>(kS x.1,.int<|s.own2 W c x.1 x.2.q) :=
 Zat (G:=s.ownF W c es) (g:=λp e=>s.own2 W c p e.q) hd λp e lk=>by unfold Shp.ownF;rw[lk]
def ZgD{es:Fl E2}(hd:cE s es):s.tb (s.stF es)=(s.sts.zip es).map λx=>(kS x.1,.int<|x.2.t*(bot es).fdiv x.2.b) :=
 Zat (G:=s.stF es) (g:=λp e=>e.t*(bot es).fdiv e.b) hd λp e lk=>by unfold Shp.stF;rw[lk]
theorem Ze2:∀(k:Nat){ds:Fl (Fl D2)}{P:Fl (Fl E2)},P.length=ds.length->s.chk (ds.drop k) (P.drop k)=none->s.chk ds P=none
 |0,_,_,_,h=>h
 |k+1,[],P,hl,h=>by rw[DO]at h;cases h
 |k+1,d::ds,[],hl,h=>by cases hl
 | k+1,d::ds,es::P,hl,h=>by
  rw[Dc,Dc]at h;have:=Ze2 k (BV hl) h;unfold Shp.chk;rw[this]
  rfl
def Zi5(h:s.Ok){W:Int->Int->Int}{b:Nat}(hW:eI s b W){c:Int}(hc:nb b c){p q:Pt}(hp:p∈s.sts)(hq:q∈s.rzs p):nb (b+101) (s.own2 W c p q):=by obtain⟨z1,z2,z3⟩:=vH h hW hc hp hq;obtain⟨⟨q1,q2⟩,q3,q4⟩:=(b8 h).mp z1;unfold Shp.own2;exact aO (dX (dm hc<|ie h z2 z3)<|hW _ _ q1 q2 q3 q4)<|by omega
theorem Ze3(h:s.Ok):∀{ds:Fl (Fl D2)}{P:Fl (Fl E2)}{F:Int->Int->Int}{c:Int},(∀d∈ds,DdB d)->(∀es∈P,cE s es)->s.chk ds P=some (F,c)->eI s (102+250*ds.length) F/\nb (102+250*ds.length) c/\0<c
 | [],P,F,c,_,_,e=>by unfold Shp.chk at e;cases e;exact⟨λx y a1 a2 b1 b2=>aO (dX (ly h x a1 a2)<|ly h y b1 b2)<|by decide,aO (show nb 102 (1:Int)from bS (by decide)<|by decide)<|by decide,by decide⟩
 |day::r,[],F,c,_,_,e=>by cases e
 | day::r,es::P,F,c,hd,hP,e=>by
  unfold Shp.chk at e;cases hc:s.chk r P with
  |none=>rw[hc]at e;cases e
  | some G =>
   rw[hc,CK]at e;obtain⟨k1,k2,k3⟩:=Ze3 h (F:=G.1) (c:=G.2) (λd FK=>hd d<|Az _ FK) (λe he=>hP e<|Az _ he) hc;have FG:=hd day<|AB ..;have FB:=hP es<|AB ..
   split at e
   ·cases e;have c1:nb (102+250*r.length+20) (G.2*aN day):=dm k2<|gJ FG;have hW:eI s (102+250*r.length+120) (s.w2 day G.1 G.2):=l4 h FG k1 k2;refine⟨λx y a1 a2 b1 b2=>?_,aO c1<|by rw[AE];omega,CC k3 FG.pos⟩
    obtain⟨e,he,hz⟩:=oA h FB (p:=(x,y))<|(b8 h).mpr ⟨⟨a1,a2⟩,b1,b2⟩;obtain⟨z1,_,z3,lk⟩:=gH FB hz;have lk:look (s.sts.zip es) (x,y)=some e:=lk;unfold Shp.ownF;rw[lk];exact aO (Zi5 h hW (aO c1<|by omega) z1 z3)<|by rw[AE];omega
   ·cases e
end
end Tw
namespace L2
def ZiA{y b:Pr}(h:HT.cx y b=true):y.1<=b.1:=by
 unfold HT.cx at h
 split at h
 ·omega
 ·have:=Ec h;omega
def ZiB{y b:Pr}(h:¬ HT.cx y b=true):b.1<=y.1:=by
 unfold HT.cx at h
 split at h
 ·omega
 ·have:¬ y.1<b.1:=λz=>h<|Ea z;omega
def Znq:∀{ps:Fl Pr}{x:Pr},x∈ps->(fV ps).1<=x.1
 | [],x,h=>by cases h
 | y::r,x,h=>by
  have key:∀(r:Fl Pr)(b:Pr),(r.foldl (λb y=>if HT.cx y b=true then y else b) b).1<=b.1/\∀x∈r,(r.foldl (λb y=>if HT.cx y b=true then y else b) b).1<=x.1:=by
   intro r
   induction r with
   |nil=>intro b;exact⟨BZ _,nofun⟩
   | cons y r ih =>
    intro b;rw[BR];obtain⟨i1,i2⟩:=ih<|if HT.cx y b=true then y else b
    have hb:(if HT.cx y b=true then y else b).1<=b.1/\(if HT.cx y b=true then y else b).1<=y.1:=by
     by_cases z:HT.cx y b=true
     ·rw[Ed z];exact⟨ZiA z,BZ _⟩
     ·rw[Ef z];exact⟨BZ _,ZiB z⟩
    refine⟨Int.le_trans i1 hb.1,λx hx=>?_⟩;rcases AM.mp hx with rfl|hx
    ·exact Int.le_trans i1 hb.2
    ·exact i2 x hx
  obtain⟨k1,k2⟩:=key r y;show(r.foldl (λb y=>if HT.cx y b=true then y else b) y).1<=x.1
  rcases AM.mp h with rfl|h
  ·exact k1
  ·exact k2 x h
end L2
namespace Tw
open L2
noncomputable def mz:Fl Int->Pt
 | [a,b]=>(a,b)
 |_=>(0,0)
def Shp.pkE(s:Shp)(day:Fl D2)(r:Fl (Fl D2))(p:Pt):E2:=⟨Gc.cB (s.pick day r p).1 ((s.dk r).2*aN day),Gc.bQ (s.pick day r p).1 ((s.dk r).2*aN day),mz (s.pick day r p).2⟩
noncomputable def Shp.tbE(s:Shp):Fl (Fl D2)->Fl (Fl E2)
 | []=>[]
 |day::r=>(s.sts.map<|s.pkE day r)::Shp.tbE s r
section
variable{s:Shp}
def pB(h:s.Ok){day:Fl D2}{r:Fl (Fl D2)}{p:Pt}(hp:p∈s.sts):∃q∈s.rzs p,s.pick day r p=(s.own2 (s.w2 day (s.dk r).1 (s.dk r).2) ((s.dk r).2*aN day) p q,kS q)/\∀o∈s.rzs p,(s.pick day r p).1<=s.own2 (s.w2 day (s.dk r).1 (s.dk r).2) ((s.dk r).2*aN day) p o:=by obtain⟨q,hq,e⟩:=Zfn h (W:=s.w2 day (s.dk r).1 (s.dk r).2) (c:=(s.dk r).2*aN day) hp;exact⟨q,hq,e,λo ho=>Znq<|AU.mpr ⟨o,ho,rfl⟩⟩
theorem Zax(h:s.Ok):∀ds:Fl (Fl D2),s.dtab ds=(s.tbE ds).map λes=>.tuple (es.map E2.d)
 | []=>rfl
 | day::r=>by
  rw[Shp.dtab,Shp.tbE,Ax,Zax h r];congr 2;unfold Shp.ddayL;rw[AR];refine BD λp hp=>?_;obtain⟨q,hq,e,_⟩:=pB h (day:=day) (r:=r) hp;show _=PyData.tuple [.tuple [.int<|Gc.cB (s.pick day r p).1 ((s.dk r).2*aN day),.int<|Gc.bQ (s.pick day r p).1 ((s.dk r).2*aN day)],aq<|mz (s.pick day r p).2];rw[e]
  rfl
theorem Zaw:∀ds:Fl (Fl D2),(s.tbE ds).length=ds.length
 | []=>rfl
 |day::r=>by rw[Shp.tbE,AE,AE,Zaw r]
def ZcG(h:s.Ok){day:Fl D2}{r:Fl (Fl D2)}(hd:∀d∈day::r,DdB d):cE s (s.sts.map<|s.pkE day r):=by
 have hc:0<(s.dk r).2*aN day:=(jY h hd).2.2;refine⟨Av ..,λk p e h1 h2=>?_⟩;rw[AK,h1]at h2;cases h2;obtain⟨q,hq,e,_⟩:=pB h (day:=day) (r:=r)<|Bi h1;obtain⟨_,_,g1,g2⟩:=Gc.jc (t:=(s.pick day r p).1) (b:=(s.dk r).2*aN day)<|by omega
 refine⟨⟨g1,g2⟩,?_⟩;show mz (s.pick day r p).2∈_;rw[e];exact hq
theorem Zaz(h:s.Ok):∀{ds:Fl (Fl D2)},(∀d∈ds,DdB d)->∀es∈s.tbE ds,cE s es
 | [],_,es,hm=>by cases hm
 | day::r,hd,es,hm=>by
  rw[Shp.tbE]at hm;rcases AM.mp hm with rfl|hm
  ·exact ZcG h hd
  ·exact Zaz h (λd FK=>hd d<|Az _ FK) es hm
structure GdB(s:Shp)(S:Int)(n:Nat)(P:List (List E2)):Prop where
 pos:0<S
 nb:Tw.nb 560 S
 len:P.length=n
 day:∀es∈P,cE s es
 ent:∀es∈P,∀e∈es,Tw.nb 560 e.t/\1<=e.b/\Tw.nb 560 e.b/\e.b∣S
theorem Zay(h:s.Ok):∀{ds:Fl (Fl D2)},(∀d∈ds,DdB d)->ds.length<=3->∀es∈s.tbE ds,∀e∈es,nb 560 e.t/\1<=e.b/\nb 560 e.b/\e.b∣(s.dk ds).2
 | [],_,_,es,hm,_,_=>by cases hm
 | day::r,hd,hl,es,hm,e,he=>by
  rw[AE]at hl;obtain⟨k1,k2,k3⟩:=jY h (ds:=day::r) hd;rw[AE]at k1 k2;have hc:(s.dk (day::r)).2=(s.dk r).2*aN day:=rfl;rw[hc]at k2 k3 ⊢;rw[Shp.tbE]at hm;rcases AM.mp hm with rfl|hm
  ·obtain⟨p,hp,rfl⟩:=AU.mp he;obtain⟨⟨a1,a2⟩,b1,b2⟩:=(b8 h).mp hp;have n1:nb 560 (s.pick day r p).1:=aO (k1 p.1 p.2 a1 a2 b1 b2) (by omega)
   obtain⟨g0,g00,g1,g2⟩:=Gc.jc (t:=(s.pick day r p).1) (b:=(s.dk r).2*aN day)<|by omega
   obtain⟨m1,m2⟩:=yp n1 (aO k2<|show 102+150*(r.length+1)<=560 by omega)<|show(s.dk r).2*aN day≠0 by omega
   exact⟨m1,g1,m2,⟨_,g00.trans<|BI _ _⟩⟩
  ·obtain⟨w1,w2,w3,w4⟩:=Zay h (λd FK=>hd d<|Az _ FK) (by omega) es hm e he
   exact⟨w1,w2,w3,Di w4 ⟨_,rfl⟩⟩
def wO(h:s.Ok){ds:Fl (Fl D2)}(hd:∀d∈ds,DdB d)(hl:ds.length<=3):GdB s (s.dk ds).2 ds.length (s.tbE ds):=by obtain⟨k1,k2,k3⟩:=jY h hd;exact⟨k3,aO k2<|by omega,Zaw ds,Zaz h hd,Zay h hd hl⟩
theorem wP(h:s.Ok):∀{ds:Fl (Fl D2)},(∀d∈ds,DdB d)->∃F,s.chk ds (s.tbE ds)=some (F,(s.dk ds).2)/\∀x y,-s.depth<=x->x<=s.top->-s.depth<=y->y<=s.top->F x y=(s.dk ds).1 x y
 | [],_=>⟨_,rfl,λ_ _ _ _ _ _=>rfl⟩
 | day::r,hd=>by
  have hr:∀d∈r,DdB d:=λd FK=>hd d<|Az _ FK;obtain⟨F,e,hF⟩:=wP h hr;have k3:=(jY h hr).2.2;have FG:=hd day<|AB ..;have hc:0<(s.dk r).2*aN day:=(jY h hd).2.2;have rl:nW s (F,(s.dk r).2) ((s.dk r).1,(s.dk r).2):=⟨k3,k3,λx y a1 a2 b1 b2=>by show F x y*_=(s.dk r).1 x y*_;rw[hF x y a1 a2 b1 b2]⟩
  have hw:∀y1 y2,-s.depth<=y1->y1<=s.top->-s.depth<=y2->y2<=s.top->s.w2 day F (s.dk r).2 y1 y2=s.w2 day (s.dk r).1 (s.dk r).2 y1 y2:=λy1 y2 a1 a2 b1 b2=>by have q:=ZbV h rl day a1 a2 b1 b2;exact B0 (by show(s.dk r).2≠0;omega) q
  have FB:=ZcG h hd;have ho:∀p∈s.sts,∀q∈s.rzs p,s.own2 (s.w2 day F (s.dk r).2) ((s.dk r).2*aN day) p q=s.own2 (s.w2 day (s.dk r).1 (s.dk r).2) ((s.dk r).2*aN day) p q:=λp hp q hq=>by obtain⟨⟨a1,a2⟩,b1,b2⟩:=(b8 h).mp hp;obtain⟨⟨q1,q2⟩,q3,q4⟩:=(gM a2 b2).mp hq;unfold Shp.own2;rw[hw q.1 q.2 (by omega) q2 (by omega) q4]
  have hz:∀x∈s.sts.zip (s.sts.map<|s.pkE day r),x.1∈s.sts/\x.2=s.pkE day r x.1:=λx hx=>by
   have e1:s.sts.zip (s.sts.map<|s.pkE day r)=s.sts.map λp=>(p,s.pkE day r p):=by
    have:∀l:Fl Pt,l.zip (l.map<|s.pkE day r)=l.map λp=>(p,s.pkE day r p):=λl=>by
     induction l with
     |nil=>rfl
     |cons a l ih=>rw[Ax,A0,ih];rfl
    exact this _
   rw[e1]at hx;obtain⟨p,hp,rfl⟩:=AU.mp hx;exact⟨hp,rfl⟩
  have hb:s.dayB (s.w2 day F (s.dk r).2) ((s.dk r).2*aN day) (s.sts.map<|s.pkE day r)=true:=by
   unfold Shp.dayB;rw[Bl];intro x hx;obtain⟨hp,ex⟩:=hz x hx;obtain⟨q,hq,e1,e2⟩:=pB h (day:=day) (r:=r) hp;have eq:x.2.q=q:=by rw[ex];show mz (s.pick day r x.1).2=q;rw[e1];rfl
   have ev:s.own2 (s.w2 day F (s.dk r).2) ((s.dk r).2*aN day) x.1 q=(s.pick day r x.1).1:=by rw[ho x.1 hp q hq,e1]
   unfold Shp.okB;rw[eq,ev,AT];refine⟨Ea ⟨by rw[ex];rfl,by rw[ex];rfl⟩,?_⟩
   rw[Bl];intro o hoo;have:=e2 o hoo;rw[ho x.1 hp o hoo,Eb<|by omega]
   rfl
  refine⟨s.ownF (s.w2 day F (s.dk r).2) ((s.dk r).2*aN day)<|s.sts.map<|s.pkE day r,?_,λx y a1 a2 b1 b2=>?_⟩
  ·rw[Shp.tbE];unfold Shp.chk;rw[e,CK];show(if s.dayB (s.w2 day F (s.dk r).2) ((s.dk r).2*aN day) (s.sts.map<|s.pkE day r)=true then _ else _)=_
   rw[Ed hb]
   rfl
  ·have hp:(x,y)∈s.sts:=(b8 h).mpr ⟨⟨a1,a2⟩,b1,b2⟩;obtain⟨e0,he,hzz⟩:=oA h FB hp;obtain⟨_,ex⟩:=hz _ hzz;obtain⟨_,_,_,lk⟩:=gH FB hzz;have lk:look (s.sts.zip<|s.sts.map<|s.pkE day r) (x,y)=some e0:=lk;have ex:e0=s.pkE day r (x,y):=ex;obtain⟨q,hq,e1,e2⟩:=pB h (day:=day) (r:=r) hp;unfold Shp.ownF;rw[lk];show s.own2 _ _ (x,y) e0.q=_;have eq:e0.q=q:=by rw[ex];show mz (s.pick day r (x,y)).2=q;rw[e1];rfl
   rw[eq,ho (x,y) hp q hq];show _=(s.pick day r (x,y)).1;rw[e1]
end
end Tw
namespace L2
noncomputable def ZcJ(c:Fq)(at' left:Int):HO:=.lst [.ref c,.int at',.int left]
structure Pen2(H:Hp)(p c:Fq)(ns:D2)(m:Nat):Prop where
 ex:∃(k:Nat)(left:Int),H p=some (ZcJ c k left)/\k<=m/\0<=left
 cells:H c=some (.lst<|ns.map V.int)
 len:ns.length<=63
 ne:c≠p
def ZaN:Sp:=λvs H Q _=>∃(p c:Fq)(ns:D2)(m:Nat)(most:Int),vs=[.ref p,.int most]/\Pen2 H p c ns m/\m<=500000/\0<most/\most<1073741824 /\
 ∀(r:Int)(H':Hp),0<=r->r<most->Pen2 H' p c ns (m+1)->Kept p H H'->Q (.int r) H'
def Zhb(K:DQ):Sp:=λvs H Q _=>∃(a:Fq)(ns:D2),vs=[.ref a]/\SqL K H a (ns.map V.int)/\ns.length<=63 /\
 ∀(p c:Fq)(H':Hp),H p=none->Pen2 H' p c ns 0->Same H H'->Q (.ref p) H'
def bw(cn:Fq×D2):Pk where
 is:=λo G m=>∃(k:Nat)(left:Int),o=ZcJ cn.1 k left/\k<=m/\0<=left/\G cn.1=some (.lst<|cn.2.map V.int)/\cn.2.length<=63
 mono:=λs ⟨k,left,e,h1,h2,h3,h4⟩=>⟨k,left,e,h1,h2,s _ _ h3,h4⟩
def ZiC{cn:Fq×D2}:PkLow (bw cn):=⟨λ⟨_,_,_,_,_,h3,_⟩ _ ⟨k,left,e,h1,h2,_,h4⟩=>⟨k,left,e,h1,h2,h3,h4⟩⟩
def Zir{ι:Type}{X:Cx}{e:Fl Fx}{t:ι->TS}(h:∀i,PSs X e<|t i):PSs X e (λD σ H=>∃i,t i D σ H):=λpins s σ H D I z=>by obtain⟨i,z⟩:=z;exact h i pins s σ H D I z
noncomputable def qh:DV:=λas=>match as with
 | [.pen,.d<|.int most]=>.draw most λr=>.ret (.d<|.int r)
 |_=>.fail
def ZeK{as:D7}{m:Nat}{Z:Nat->Re->Prop}(h:(qh as).ok m Z):∃most,as=[.pen,.d<|.int most]:=by
 unfold qh at h
 split at h
 ·exact⟨_,rfl⟩
 ·exact h.elim
def ZlA{cn:Fq×D2}{P:Fs}{w:Ft}{K:DQ}{mg:D6}{base:Fv}{x:Str}{k:Nat}{ps:D4}(hp:ps.length=2)(C:Callee P w K mg base x k ps ZaN):ACal (bw cn) P w K mg base x k ps qh:=by
 refine⟨?_,λas m Z h=>by obtain⟨most,rfl⟩:=ZeK h;exact hp.symm⟩
 obtain⟨f,fd,F,hm,hk,hb⟩:=C.ex;refine⟨f,fd,F.imp λvs H Q E h=>?_,hm,hk,hb⟩;obtain⟨hv,pa,m,G,as,wd,ar,z⟩:=h;obtain⟨most,rfl⟩:=ZeK z;obtain⟨h1,h2,h3,h4⟩:=z;cases ar with
 | cons a1 ar =>
  cases ar with
  | cons a2 ar =>
   cases ar;cases a1;cases a2 with
   | d d2 =>
    cases d2;obtain⟨c,ns⟩:=cn;obtain⟨o,ho,kk,left,rfl,q1,q2,q3,q4⟩:=wd.pen
    replace q3:G c=some (.lst<|ns.map V.int):=q3
    have ncp:c≠pa:=λz=>by rw[z,wd.gpa]at q3;cases q3
    refine⟨pa,c,ns,m,most,rfl,⟨⟨kk,left,ho,q1,q2⟩,wd.sub _ _ q3,q4,ncp⟩,by omega,h2,h3,λr H' r0 r1 P' K'=>?_⟩
    refine h4 r r0 r1 (.int r) G H' ⟨λ_ _ q=>q,λ_ _ q=>.inl q,λb o e n=>K' b o e n⟩ ⟨λb o e=>K' b o (wd.sub b o e) (λz=>by subst z;rw[wd.gpa]at e;cases e),wd.gpa,?_⟩<|.int r
    obtain⟨⟨k2,l2,e2,g1,g2⟩,_,_,_⟩:=P';exact⟨_,e2,k2,l2,rfl,g1,g2,q3,q4⟩
def ZaM:DQ->Sp:=λK vs H Q _=>∃(a:Fq)(ns:D2),vs=[.ref a]/\SqL K H a (ns.map V.int)/\ns.length<=63/\∀H',Q (.bl true) H'
def Zj5{D:Ends}{p c:Fq}{ns:D2}{H:Hp}{σ:St}{s:DU}{n:Nat}(P:Pen2 H p c ns 0)(hσ:σ.length=n+2)(h1:σ[1]?=some (some<|.ref p))(hrt:∀H',D.rt (.bl true) H')
  (h:(s (.un::.pen::List.replicate n .un)).ok 0 λ_ o=>o=.ret (.d<|.bool true)):∃cn,bH (bw cn) s D σ H:=by
 obtain⟨⟨k,l,e,hk,hl⟩,hc,hn,ncp⟩:=P;have npc:p≠c:=Ne.symm ncp;have key:∀(i:Nat)(sl:Sl),(Sl.un::.pen::List.replicate n .un)[i]?=some sl->sl=.un\/(i=1/\sl=.pen):=λi sl hi=>by
  match i with
  |0=>simp at hi;exact .inl hi.symm
  |1=>simp at hi;exact .inr ⟨rfl,hi.symm⟩
  | i+2 =>
   simp[Ba]at hi;exact .inl hi.2.symm
 refine⟨(c,ns),p,λb=>if b=c then H c else none,H,0,_,λb=>if b=c then H c else none,⟨⟨λb o hb=>?_,Ef npc,?_⟩,.refl,⟨_,e⟩,λi sl hi=>?_,by simp[hσ],λi j xs ys _ hi _=>?_,λi j xs ys _ hi _=>by rcases key i _ hi with z|⟨_,z⟩ <;> cases z⟩,Tr.ok_mono h λm o ho=>?_⟩
 ·by_cases hbc:b=c
  ·subst hbc;simpa using hb
  ·simp[hbc]at hb
 ·exact⟨_,e,k,l,rfl,hk,hl,by simp[hc],hn⟩
 ·have FC:i<σ.length:=by have:=(Ay.mp hi).1;simp at this;omega
  rcases key i sl hi with rfl|⟨rfl,rfl⟩
  ·exact⟨σ[i],by simp[FC],.un⟩
  ·exact⟨_,h1,.pen⟩
 ·rcases key i _ hi with z|⟨_,z⟩ <;> cases z
 ·subst ho;intro v G H' s' w' d;cases (show Dn G v (.bool true)from d)
  exact hrt H'
end L2
namespace My
open L2
noncomputable def top(i:Nat):Fx:=PySem.Challenge.pw_twomarks_k48_double_papers.main.body.getD i<|.Pass ⟨0,0,0,0⟩
abbrev Zbe:Fx:=top 4
noncomputable abbrev Zn7:D4:=["thing"]
def Zhv:FnScope Zn7 ["thing"] (aP Zbe):=by trivial
abbrev Zbd:Fx:=top 5
noncomputable abbrev Zn6:D4:=["thing","lowest","highest"]
def Zhu:FnScope Zn6 ["thing","lowest","highest"] (aP Zbd):=by trivial
abbrev Zbk:Fx:=top 7
noncomputable abbrev Zod:D4:=["one","other"]
def wZ:FnScope Zod ["one","other"] (aP Zbk):=by trivial
abbrev Zbf:Fx:=top 8
abbrev Zn8:D4:=["thing","top","bottom"]
def wX:FnScope Zn8 ["thing"] (aP Zbf):=by trivial
abbrev Za8:Fx:=top 9
abbrev Zn0:D4:=["top","bottom","divisor"]
def wW:FnScope Zn0 ["top","bottom"] (aP Za8):=by trivial
abbrev Za7:Fx:=top 20
abbrev ZnZ:D4:=["shop"]
def Zhp:FnScope ZnZ ["shop"] (aP Za7):=by trivial
abbrev Zbg:Fx:=top 21
noncomputable abbrev Zn9:D4:=["shop","stock","thing"]
def Zhx:FnScope Zn9 ["shop","stock","thing"] (aP Zbg):=by trivial
abbrev Zba:Fx:=top 22
noncomputable abbrev Zn2:D4:=["shop","stock","level"]
def Zhs:FnScope Zn2 ["shop","stock","level"] (aP Zba):=by trivial
abbrev Zbb:Fx:=top 23
noncomputable abbrev Zn3:D4:=["shop","level","fall"]
def Zht:FnScope Zn3 ["shop","level","fall"] (aP Zbb):=by trivial
abbrev Zbj:Fx:=top 24
noncomputable abbrev Zoc:D4:=["shop","level","fall","stock","sold_never","held"]
def oQ:FnScope Zoc ["shop","level","fall"] (aP Zbj):=by trivial
abbrev Zbi:Fx:=top 25
noncomputable abbrev Zob:D4:=["shop","stock"]
def ZhA:FnScope Zob ["shop","stock"] (aP Zbi):=by trivial
abbrev xm:Fx:=top 27
noncomputable abbrev wf:D4:=["day"]
def ZhB:FnScope wf ["day"] (aP xm):=by trivial
abbrev xc:Fx:=top 28
abbrev nX:D4:=["shop"]
def Zhq:FnScope nX ["shop"] (aP xc):=by trivial
abbrev xf:Fx:=top 29
abbrev nY:D4:=["shop","stand","one","other","top"]
def oP:FnScope nY ["shop","stand"] (aP xf):=by trivial
abbrev Za9:Fx:=top 30
noncomputable abbrev Zn1:D4:=["shop","stand","raised"]
def Zhr:FnScope Zn1 ["shop","stand","raised"] (aP Za9):=by trivial
abbrev xk:Fx:=top 31
abbrev n6:D4:=["shop"]
def Zhz:FnScope n6 ["shop"] (aP xk):=by trivial
abbrev Za6:Fx:=top 32
abbrev ZnY:D4:=["shop","day","raised","ahead","scale","first","second","total","fall","line","other","weight","cost","following"]
def gt:FnScope ZnY ["shop","day","raised","ahead","scale"] (aP Za6):=by trivial
abbrev xp:Fx:=top 33
noncomputable abbrev wk:D4:=["shop","day","ahead","scale"]
def ZhD:FnScope wk ["shop","day","ahead","scale"] (aP xp):=by trivial
abbrev xo:Fx:=top 34
noncomputable abbrev wj:D4:=["shop","stand","behind","scale"]
def ZhC:FnScope wj ["shop","stand","behind","scale"] (aP xo):=by trivial
abbrev mi:Fx:=top 35
noncomputable abbrev fY:D4:=["shop","double","days","ahead","scale","day","behind","picks"]
def hX:FnScope fY ["shop","double"] (aP mi):=by trivial
abbrev xh:Fx:=top 36
noncomputable abbrev nZ:D4:=["shop","stand","thing"]
def Zhw:FnScope nZ ["shop","stand","thing"] (aP xh):=by trivial
abbrev Zbh:Fx:=top 37
noncomputable abbrev Zoa:D4:=["shop","stand","thing","cost","raised"]
def wY:FnScope Zoa ["shop","stand","thing"] (aP Zbh):=by trivial
abbrev xi:Fx:=top 38
noncomputable abbrev n5:D4:=["shop","thing","own"]
def Za3:FnScope n5 ["shop","thing"] (aP xi):=by trivial
abbrev xj:Fx:=top 39
noncomputable abbrev we:D4:=["shop","double","thing"]
def Zhy:FnScope we ["shop","double","thing"] (aP xj):=by trivial
abbrev xn:Fx:=top 40
noncomputable abbrev wg:D4:=["shop","entries","behind","scale","costs","stand","cost","raised","own"]
def kz:FnScope wg ["shop","entries","behind","scale"] (aP xn):=by trivial
abbrev Zbc:Fx:=top 41
noncomputable abbrev Zn4:D4:=["shop","double","thing","ahead","scale","t","behind"]
def jG:FnScope Zn4 ["shop","double","thing"] (aP Zbc):=by trivial
abbrev Zbo:Fx:=top 43
noncomputable abbrev Zoh:D4:=["_law_script"]
def ZhF:FnScope Zoh ["_law_script"] (aP Zbo):=by trivial
abbrev Zbw:Fx:=top 44
noncomputable abbrev Zop:D4:=["_law_pen_here","_law_many","_law_digit","_law_at","_law_cell","_law_mixed"]
def kB:FnScope Zop ["_law_pen_here","_law_many"] (aP Zbw):=by trivial
abbrev oX:Fx:=top 45
noncomputable abbrev iJ:D4:=["_law_pen_here","_law_bound","_law_wide","_law_rows"]
def oV:FnScope iJ ["_law_pen_here"] (aP oX):=by trivial
abbrev xq:Fx:=top 46
noncomputable abbrev wl:D4:=["_law_pen_here","_law_bound","_law_top","_law_prices"]
def oR:FnScope wl ["_law_pen_here"] (aP xq):=by trivial
abbrev xv:Fx:=top 47
noncomputable abbrev wt:D4:=["_law_pen_here"]
def ZhI:FnScope wt ["_law_pen_here"] (aP xv):=by trivial
abbrev Zbl:Fx:=top 48
noncomputable abbrev Zoe:D4:=["_law_shop_here"]
def ZhE:FnScope Zoe ["_law_shop_here"] (aP Zbl):=by trivial
abbrev Zbq:Fx:=top 49
noncomputable abbrev Zoj:D4:=["_law_shop_here","_law_level","_law_fall","_law_stock","_law_never"]
def xa:FnScope Zoj ["_law_shop_here","_law_level","_law_fall"] (aP Zbq):=by trivial
abbrev Zbv:Fx:=top 50
abbrev Zoo:D4:=["_law_shop_here","_law_stock"]
def ZhH:FnScope Zoo ["_law_shop_here","_law_stock"] (aP Zbv):=by trivial
abbrev Zbp:Fx:=top 51
noncomputable abbrev Zoi:D4:=["_law_shop_here","_law_stand","_law_goal","_law_many"]
def Za4:FnScope Zoi ["_law_shop_here","_law_stand","_law_goal"] (aP Zbp):=by trivial
abbrev Zbr:Fx:=top 52
noncomputable abbrev Zok:D4:=["_law_shop_here","_law_one","_law_later_here","_law_bottom","_law_goal","_law_found","_law_i","_law_line","_law_first","_law_stock","_law_j","_law_weight","_law_second","_law_other","_law_here"]
def gb:FnScope Zok ["_law_shop_here","_law_one","_law_later_here","_law_bottom","_law_goal"] (aP Zbr):=by trivial
abbrev Zbu:Fx:=top 53
noncomputable abbrev Zon:D4:=["_law_shop_here","_law_found","_law_one","_law_other"]
def oU:FnScope Zon ["_law_shop_here"] (aP Zbu):=by trivial
abbrev Zbm:Fx:=top 54
noncomputable abbrev Zof:D4:=["_law_top","_law_bottom","_law_one","_law_other"]
def w8:FnScope Zof ["_law_top","_law_bottom"] (aP Zbm):=by trivial
abbrev Zbt:Fx:=top 55
noncomputable abbrev Zom:D4:=["_law_thing"]
def ZhG:FnScope Zom ["_law_thing"] (aP Zbt):=by trivial
abbrev xt:Fx:=top 56
noncomputable abbrev wo:D4:=["_law_shop_here","_law_stand","_law_thing","_law_numbers"]
def Za5:FnScope wo ["_law_shop_here","_law_stand","_law_thing"] (aP xt):=by trivial
abbrev xu:Fx:=top 57
noncomputable abbrev wq:D4:=["_law_shop_here","_law_double_here","_law_thing","_law_stands","_law_row"]
def xb:FnScope wq ["_law_shop_here","_law_double_here","_law_thing"] (aP xu):=by trivial
abbrev xr:Fx:=top 58
noncomputable abbrev wm:D4:=["_law_shop_here","_law_rows","_law_bottom","_law_cost","_law_goal","_law_stands"]
def kA:FnScope wm ["_law_shop_here","_law_rows"] (aP xr):=by trivial
abbrev oW:Fx := top 59
noncomputable abbrev ke:D4 := ["_law_shop_here", "_law_one", "_law_row", "_law_later_here", "_law_bottom", "_law_whole", "_law_stands", "_law_means", "_law_stand", "_law_cost", "_law_goal", "_law_other"]
def iQ:FnScope ke ["_law_shop_here", "_law_one", "_law_row", "_law_later_here", "_law_bottom"] (aP oW) := ⟨rfl, rfl, rfl, by trivial, rfl, by trivial, by trivial⟩
abbrev Zbs:Fx:=top 60
noncomputable abbrev Zol:D4:=["_law_shop_here","_law_double_here","_law_thing","_law_t","_law_later_here","_law_bottom"]
def oT:FnScope Zol ["_law_shop_here","_law_double_here","_law_thing"] (aP Zbs):=by trivial
abbrev kC:Fx:=top 61
noncomputable abbrev fZ:D4:=["_law_pen_here","_law_shop_here","_law_double_here","_law_paper","_law_found","_law_t","_law_later_here","_law_bottom","_law_whole","_law_stands","_law_means","_law_row","_law_stand","_law_cost","_law_goal","_law_some","_law_here"]
def eV:FnScope fZ ["_law_pen_here","_law_shop_here","_law_double_here","_law_paper"] (aP kC):=by trivial
abbrev Zbx:Fx:=top 62
noncomputable abbrev Zoq:D4:=["_law_pen_here","_law_shop_here","_law_entry","_law_way","_law_by","_law_cost","_law_goal","_law_other","_law_odd","_law_some"]
def gL:FnScope Zoq ["_law_pen_here","_law_shop_here","_law_entry"] (aP Zbx):=by trivial
abbrev Zby:Fx:=top 63
noncomputable abbrev Zor:D4:=["_law_pen_here","_law_shop_here","_law_paper","_law_way","_law_t","_law_row","_law_at","_law_entry","_law_some"]
def jI:FnScope Zor ["_law_pen_here","_law_shop_here","_law_paper"] (aP Zby):=by trivial
abbrev Zbn:Fx:=top 64
noncomputable abbrev Zog:D4:=["_law_shop_here","_law_double_here","_law_thing","_law_kept","_law_due","_law_again"]
def oS:FnScope Zog ["_law_shop_here","_law_double_here","_law_thing"] (aP Zbn):=by trivial
abbrev xg:Fx:=top 65
abbrev Zn5:D4:=["_law_script","_law_pen_here","_law_shop_here","_law_double_here","_law_table","_law_papers","_law_k"]
def jH:FnScope Zn5 ["_law_script"] (aP xg):=by trivial
structure Txt(K:DQ)(mg:D6):Prop where
 cF:mg "len"=none
 kP:mg "abs"=none
 kO:mg "max"=none
 Zjx:mg "min"=none
 pP:mg "repr"=none
 yh:mg "int"=none
 mJ:mg "list"=none
 dY:mg "tuple"=none
 Zc9:mg "str"=none
 Zdb:mg "bool"=none
 eZ:mg "range"=none
 fx:mg "isinstance"=none
 pO:mg "sorted"=none
 kN:mg "zip"=none
 i6:mg "sum"=none
 yj:mg "all"=none
 Zjy:mg "any"=none
 yi:mg "dict"=none
 pQ:mg "enumerate"=none
 Zow:mg "ValueError"=none
 Zda:mg "reversed"=none
 yR:∃t,mg "TOP"=some (.int 0 t)
 Zd8:∃t,mg "DEPTH"=some (.int 1 t)
 ZkN:∃t,mg "START"=some (.int 2 t)
 ZkO:∃t,mg "PIECE"=some (.int 3 t)
 ZkS:∃t,mg "KEEP"=some (.int 4 t)
 ZkR:∃t,mg "LACK"=some (.int 5 t)
 ZkP:∃t,mg "LOST"=some (.int 6 t)
 ZkT:∃t,mg "BACK"=some (.int 7 t)
 ZkQ:∃t,mg "LATE"=some (.int 8 t)
 ZlW:Def K mg "is_whole" Zbe ["thing"]
 ZlV:Def K mg "is_whole_within" Zbd ["thing","lowest","highest"]
 Zl9:Def K mg "common_divisor" Zbk ["one","other"]
 ZlX:Def K mg "is_share" Zbf ["thing"]
 ZlM:Def K mg "share" Za8 ["top","bottom"]
 ZlK:Def K mg "stocks" Za7 ["shop"]
 ZlZ:Def K mg "is_level" Zbg ["shop","stock","thing"]
 ZlQ:Def K mg "order_cost" Zba ["shop","stock","level"]
 ZlR:Def K mg "next_stock" Zbb ["shop","level","fall"]
 Zl7:Def K mg "day_cost" Zbj ["shop","level","fall"]
 Zl5:Def K mg "end_cost" Zbi ["shop","stock"]
 Zl6:Def K mg "day_scale" xm ["day"]
 ZlL:Def K mg "stands" xc ["shop"]
 ZlO:Def K mg "raises_from" xf ["shop","stand"]
 ZlP:Def K mg "raise_cost" Za9 ["shop","stand","raised"]
 Zl4:Def K mg "end_of_both" xk ["shop"]
 ZlJ:Def K mg "weighed_both" Za6 ["shop","day","raised","ahead","scale"]
 Zmb:Def K mg "behind_raises" xp ["shop","day","ahead","scale"]
 Zma:Def K mg "cheapest_raise" xo ["shop","stand","behind","scale"]
 ZlT:Def K mg "least_double" mi ["shop","double"]
 ZlY:Def K mg "is_raise" xh ["shop","stand","thing"]
 Zl2:Def K mg "is_double_entry" Zbh ["shop","stand","thing"]
 Zl0:Def K mg "is_double_paper_day" xi ["shop","thing"]
 Zl1:Def K mg "is_double_paper" xj ["shop","double","thing"]
 Zl8:Def K mg "costs_looked_at" xn ["shop","entries","behind","scale"]
 ZlS:Def K mg "lets_double" Zbc ["shop","double","thing"]
 Zmh:Def K mg "_law_pen" Zbo ["_law_script"]
 Zmt:Def K mg "_law_draw" Zbw ["_law_pen_here","_law_many"]
 Zmu:Def K mg "_law_double_day" oX ["_law_pen_here"]
 Zmd:Def K mg "_law_shop" xq ["_law_pen_here"]
 Zmv:Def K mg "_law_double" xv ["_law_pen_here"]
 Zmc:Def K mg "_law_stocks" Zbl ["_law_shop_here"]
 Zmk:Def K mg "_law_one_cost" Zbq ["_law_shop_here","_law_level","_law_fall"]
 Zms:Def K mg "_law_end" Zbv ["_law_shop_here","_law_stock"]
 Zmj:Def K mg "_law_order" Zbp ["_law_shop_here","_law_stand","_law_goal"]
 Zml:Def K mg "_law_mean" Zbr ["_law_shop_here","_law_one","_law_later_here","_law_bottom","_law_goal"]
 Zmr:Def K mg "_law_ends" Zbu ["_law_shop_here"]
 Zme:Def K mg "_law_share" Zbm ["_law_top","_law_bottom"]
 Zmo:Def K mg "_law_is_whole" Zbt ["_law_thing"]
 Zmp:Def K mg "_law_is_entry" xt ["_law_shop_here","_law_stand","_law_thing"]
 Zmq:Def K mg "_law_has_form" xu ["_law_shop_here","_law_double_here","_law_thing"]
 Zmn:Def K mg "_law_later" xr ["_law_shop_here","_law_rows"]
 Zmf:Def K mg "_law_row_holds" oW ["_law_shop_here", "_law_one", "_law_row", "_law_later_here", "_law_bottom"]
 Zmm:Def K mg "_law_lets" Zbs ["_law_shop_here","_law_double_here","_law_thing"]
 Zmi:Def K mg "_law_other_raises" kC ["_law_pen_here","_law_shop_here","_law_double_here","_law_paper"]
 Zmw:Def K mg "_law_bent_entry" Zbx ["_law_pen_here","_law_shop_here","_law_entry"]
 Zmx:Def K mg "_law_bent" Zby ["_law_pen_here","_law_shop_here","_law_paper"]
 Zmg:Def K mg "_law_right" Zbn ["_law_shop_here","_law_double_here","_law_thing"]
 ZlU:Def K mg "law" xg ["_law_script"]
def ZmM(ns:D2)(a:Nat)(h:ns≠[]):∃z:Int,bG (ns.map V.int) ((a:Int)%((ns.map V.int).length:Nat))=some (.int z):=by
 have hl:0<ns.length:=List.length_pos_iff.mpr h;have hl':(ns.map V.int).length=ns.length:=Av ..;have e:(a:Int)%((ns.map V.int).length:Nat)=((a%ns.length:Nat):Int):=by rw[hl'];omega
 have FC:a%ns.length<ns.length:=Nat.mod_lt _ hl;rw[e];exact⟨ns[a%ns.length],gC<|by rw[AK,Au FC];rfl⟩
section
variable{P:Fs}{w:Ft}{K:DQ}{mg:D6}{base:Fv}
def Zji(T:Txt K mg):Callee P w K mg base "_law_pen" 1 ["_law_script"] (Zhb K):=by
 refine T.Zmh.ok ZhF (λvs H Q E h=>?_)<|λf FA A outer s H vs Q E hr h=>?_
 ·obtain⟨a,ns,rfl,_⟩:=h
  rfl
 ·obtain⟨a,ns,rfl,hS,hlen,k⟩:=h;have hu:=fR hr;refine⟨_,(kE<|iW<|ZcL<|bx (da (vK) rfl T.mJ boot_list (bx (ZcK ZaV (pv 0) ZcF<|ZcE cq) cf))<|bx cq<|bx cq cf),?_⟩;refine⟨_,rfl,63,rfl,a,_,rfl,hS,λq hq=>⟨q,_,rfl,Or.inl<|SqL.of bY,λc hc=>⟨by show 3<=sizeLine;decide,λp hp=>?_⟩⟩⟩
  have hcut:gk (ns.map V.int) none (some 63)=ns.map V.int:=by
   unfold gk;have e:HT.aR (ns.map V.int).length (ns.map V.int).length (some 63)=(ns.map V.int).length:=by have q:=HT.ZhQ (ns.map V.int).length (ns.map V.int).length 63;rw[Av]at q ⊢;exact q.trans<|Cm hlen
   rw[e];show((ns.map V.int).drop 0).take ((ns.map V.int).length-0)=_;rw[BP,Dv,CL]
  have s1:Same H (upd H q<|.lst<|gk (ns.map V.int) none<|some 63):=(Same.refl _).new hq;have s2:=s1.new (o:=.lst<|gk (ns.map V.int) none<|some 63) hc;have s3:=s2.new (o:=.lst [.ref c,.int 0,.int 0]) hp;have npc:c≠p:=λz=>by rw[<- z,bY]at hp;cases hp
  refine k p c _ (s2.free hp) ⟨⟨0,0,bY,Aw _,BZ _⟩,?_,hlen,npc⟩ s3;rw[aM npc,bY,hcut]
def Znr{z a:Int}(h3:0<=a)(h4:a<=500000):(z%2147483629+44021*a+97).natAbs<2^64:=by
 have:=CQ z (by decide:(2147483629:Int)≠0)
 have:=Cw z (by decide:(0:Int)<2147483629)
 omega
def Zjk(T:Txt K mg):Callee P w K mg base "_law_draw" 1 ["_law_pen_here","_law_many"] ZaN:=by
 refine T.Zmt.ok kB (λvs H Q E h=>?_)<|λf FA A outer s H vs Q E hr h=>?_
 ·obtain⟨p,c,ns,m,most,rfl,_⟩:=h
  rfl
 ·obtain⟨p,c,ns,m,most,rfl,hP,hm,h0,h1,k⟩:=h;have hu:=fR hr;refine⟨_,(fr (pq (my kJ (gv gy (pv 0) cq<|λ_ _=>rfl) cq<|nomark _) (fr (ba (i:=2) kB.nd<|c8 iY (gv gy (pv 0) cq<|λ_ _=>rfl)<|pv 1)
 (fr (fu (c8 ya (gv gy (pv 0) cq<|λ_ _=>rfl)<|pv 1)<|mC (pv 0) cq mf)
 (kE<|iW<|pv 2))) ph)
 (fr (ba (i:=3) kB.nd<|gv gy (pv 0) cq<|λ_ _=>rfl)
 (fr (fu (c8 jN (pv 3) cq)<|mC (pv 0) cq mf)
 (fr (ba (i:=4) kB.nd<|c8 jN (c8 x8 cq<|pv 3) cq)
 (fr (PS.join<|pq (my kJ (aX (cI) rfl T.cF Et (bx (gv gy (pv 0) cq<|λ_ _=>rfl) cf)) cq<|nomark _) (kE<|ba (i:=4) kB.nd<|gv gy (gv gy (pv 0) cq<|λ_ _=>rfl) (c8 iY (pv 3)<|aX (cI) rfl T.cF Et (bx (gv gy (pv 0) cq<|λ_ _=>rfl) cf))<|λ_ _=>rfl) ph)
 (fr (pq (PT.join<|PW.pt<|Zcy (my gP (pv 3) (aX (cI) rfl T.cF Et (bx (gv gy (pv 0) cq<|λ_ _=>rfl) cf))<|nomark _)<|Zcx<|my mG (aX (lF) rfl T.kP boot_abs (bx (pv 4) cf)) (c8 ZcU cq cq)<|nomark _) (fr (fu (c8 ya (aX (lF) rfl T.kP boot_abs (bx (pv 4) cf))<|pv 1)<|mC (pv 0) cq mf)
 (kE<|iW<|c8 iY (aX (lF) rfl T.kP boot_abs (bx (pv 4) cf))<|pv 1)) ph)
 (fr (ba (i:=5) kB.nd<|c8 iY (c8 ZcU (c8 jN (c8 jN (c8 iY (pv 4) cq)<|c8 x8 cq<|pv 3) cq) cq) cq)
 (kE<|iW<|c8 iY (c8 ya (c8 iY (c8 x8 (pv 5)<|c8 jN (c8 jN (c8 iY (pv 5) cq)<|pv 3) cq) cq) cq)<|pv 1)))))))),?_⟩
  obtain⟨⟨a,l,hd,ha,hl⟩,hc,hn,npc⟩:=hP;have FK:H p=some (.lst [.ref c,.int a,.int l]):=hd;have x2:bG [V.ref c,.int (a:Int),.int l] 2=some (.int l):=lJ;have x1:bG [V.ref c,.int (a:Int),.int l] 1=some (.int (a:Int)):=lK;refine⟨_,rfl,p,_,_,_,rfl,rfl,SqL.of FK,x2,_,_,rfl,rfl,_,rfl,?_⟩;refine qu (λhz=>?_)<|λhz=>?_
  ·refine⟨_,rfl,p,_,_,_,rfl,rfl,SqL.of FK,x2,_,rfl,_,_,rfl,rfl,h0,?_⟩;refine⟨_,rfl,p,_,_,_,rfl,rfl,SqL.of FK,x2,_,rfl,_,_,rfl,rfl,⟨h0,h1⟩,_,rfl,p,_,2,2,rfl,rfl,FK,rfl,?_⟩;refine⟨_,rfl,k _ _ (CQ _<|by omega) (Cw _ h0) ⟨⟨a,l / most,bY,by omega,Int.ediv_nonneg hl<|by omega⟩,by rw[aM npc];exact hc,hn,npc⟩ Kept.refl.pen⟩
  ·refine⟨_,rfl,p,_,_,_,rfl,rfl,SqL.of FK,x1,?_⟩;refine⟨_,rfl,_,_,rfl,rfl,_,rfl,p,_,1,1,rfl,rfl,FK,rfl,?_⟩;have hd1:(upd H p<|.lst<|[V.ref c,.int (a:Int),.int l].set 1<|.int<|(a:Int)+1) p=some (.lst [.ref c,.int<|(a:Int)+1,.int l]):=bY;have hc1:(upd H p<|.lst<|[V.ref c,.int (a:Int),.int l].set 1<|.int<|(a:Int)+1) c=some (.lst<|ns.map V.int):=by rw[aM npc];exact hc
   have k1:Kept p H (upd H p<|.lst<|[V.ref c,.int (a:Int),.int l].set 1<|.int<|(a:Int)+1):=Kept.refl.pen;generalize upd H p (.lst<|[V.ref c,.int (a:Int),.int l].set 1<|.int<|(a:Int)+1)=H1 at hd1 hc1 k1;have y0:bG [V.ref c,.int<|(a:Int)+1,.int l] 0=some (.ref c):=j6;refine⟨_,rfl,_,_,rfl,rfl,.inl ⟨by decide,by decide⟩,_,_,rfl,rfl,?_⟩
   refine⟨λσ' H'=>∃(z:Int),σ'=[some<|.ref p,some<|.int most,none,some<|.int a,some<|.int z,none]/\H' p=some (.lst [.ref c,.int<|(a:Int)+1,.int l])/\H' c=some (.lst<|ns.map V.int)/\Kept p H H',?_,?_⟩
   ·refine⟨_,rfl,p,_,_,_,rfl,rfl,SqL.of hd1,y0,c,_,rfl,.inl<|SqL.of hc1,_,_,rfl,rfl,_,rfl,?_⟩;refine qu (λFD=>?_) (λ_=>?_)
    ·have FV:0<(((ns.map V.int).length:Nat):Int):=Ec FD;have hne':ns≠[]:=by rintro rfl;cases FV
     obtain⟨z,hz2⟩:=ZmM ns a hne';refine⟨_,rfl,p,_,_,_,rfl,rfl,SqL.of hd1,y0,_,rfl,_,rfl,p,_,_,_,rfl,rfl,SqL.of hd1,y0,c,_,rfl,.inl<|SqL.of hc1,_,_,rfl,rfl,FV,c,_,_,_,rfl,rfl,SqL.of hc1,hz2,?_⟩;exact⟨z,rfl,hd1,hc1,k1⟩
    ·exact⟨_,rfl,hd1,hc1,k1⟩
   ·rintro σ2 H2 ⟨z,rfl,hd2,hc2,k2⟩;refine⟨λ_ H'=>H'=H2,?_,?_⟩
    ·refine⟨_,rfl,_,rfl,p,_,_,_,rfl,rfl,SqL.of hd2,y0,c,_,rfl,.inl<|SqL.of hc2,_,_,rfl,rfl,_,rfl,?_⟩;refine qu (λ_=>?_) (λ_=>rfl);exact⟨_,rfl,z,rfl,_,_,rfl,rfl,⟨by decide,by decide,by decide⟩,_,_,rfl,rfl,_,rfl,rfl⟩
    ·rintro b H3 rfl;have ab:0<=(if z<0 then -z else z):=by split <;> omega
     refine qu (λ_=>?_)<|λ_=>?_
     ·refine⟨_,rfl,z,rfl,_,rfl,_,_,rfl,rfl,⟨h0,h1⟩,_,rfl,p,_,2,2,rfl,rfl,hd2,rfl,?_⟩;refine⟨_,rfl,z,rfl,_,rfl,_,_,rfl,rfl,h0,?_⟩;refine k _ _ (CQ _<|by omega) (Cw _ h0) ⟨⟨a+1,_,bY,by omega,Int.ediv_nonneg ab<|by omega⟩,by rw[aM npc];exact hc2,hn,npc⟩ k2.pen
     ·refine⟨_,rfl,_,_,rfl,rfl,(by show(0:Int)<2147483629;decide),_,rfl,_,_,rfl,rfl,.inl ⟨by decide,by decide⟩,_,_,rfl,rfl,_,_,rfl,rfl,_,_,rfl,rfl,⟨by decide,by decide,Znr (by omega)<|by omega⟩,_,_,rfl,rfl,(by show(0:Int)<2147483647;decide),?_⟩
      have m0:0<=((z%2147483629+44021*(a:Int)+97)^(3:Int).toNat)%2147483647:=CQ _<|by decide
      have m1:((z%2147483629+44021*(a:Int)+97)^(3:Int).toNat)%2147483647<2147483647:=Cw _<|by decide
      refine⟨_,rfl,_,rfl,_,_,rfl,rfl,(by show(0:Int)<65421;decide),_,rfl,_,_,rfl,rfl,_,_,rfl,rfl,_,_,rfl,rfl,.inl ⟨Int.lt_of_lt_of_le (by decide) m0,Int.lt_trans m1<|by decide⟩,?_⟩
      refine⟨_,_,rfl,rfl,(by show(0:Int)<2147483587;decide),?_⟩
      refine⟨_,_,rfl,rfl,⟨by decide,by decide⟩,_,rfl,_,_,rfl,rfl,h0,?_⟩
      exact k _ _ (CQ _<|by omega) (Cw _ h0) ⟨⟨a+1,l,hd2,by omega,hl⟩,hc2,hn,npc⟩ k2
end
def notup{cn:Fq×D2}:wc (bw cn):=λxs G m h=>by obtain⟨k,left,e,_⟩:=h;cases e
section
variable{cn:Fq×D2}{P:Fs}{w:Ft}{K:DQ}{mg:D6}{base:Fv}
def kZ:DV:=bv 1 0
 (aZ<|kc (eS "int"<|aa 0)<|vX<|eS "bool"<|aa 0)
def zL(T:Txt K mg):ACal (bw cn) P w K mg base "is_whole" 1 ["thing"] kZ:=bF T.ZlW Zhv rfl λf FA A outer sh H E hr=>by exact(aF<|a9<|nQ (fI (T:="int") (.inl rfl) rfl (aX fG rfl T.fx En (bx (ac<|pv 0)<|bx (fv (v:=.ty "int") rfl T.yh boot_int rfl) cf)))<|nO<|ZfV<|fI (T:="bool") (Or.inr<|.inl rfl) rfl (aX fG rfl T.fx En (bx (ac<|pv 0)<|bx (fv (v:=.ty "bool") rfl T.Zdb boot_bool rfl) cf)))
def wB:DT :=
 (cU<|aa 1)
def yC:DU :=
 (ka 0 1<|af (aa 1)<|af (ae i7 (aa 0)<|aa 1) ak)
def mW:DV:=bv 2 0
 (au (ka 0 1<|af (bc lN<|af (aa 0) ak)<|af (bc lN<|af (aa 1) ak) ak)
 (au (fh wB yC 100000)
 (fX 0)))
def Zfl(T:Txt K mg):ACal (bw cn) P w K mg base "common_divisor" 1 ["one","other"] mW:=bF T.Zl9 wZ rfl λf FA A outer sh H E hr=>by
 exact(av (vN<|pj (i:=0) (j:=1) rfl wZ.nd rfl rfl (by decide) rfl rfl (ag (bd (t:=aS) (aX lF rfl T.kP boot_abs (ag (ac<|pv 0) am)) wG)<|ag (bd (t:=aS) (aX lF rfl T.kP boot_abs (ag (ac<|pv 1) am)) wG) am) rfl)
 (av (ZfD 100000 A9 (dq<|ac<|pv 1)
  (aF<|vN<|pj (i:=0) (j:=1) rfl wZ.nd rfl rfl (by decide) rfl rfl (ag (ac<|pv 1)<|ag (aw x9 wC (ac<|pv 0)<|ac<|pv 1) am) rfl))
 (aF<|nK<|pv 0)))
def kQ:DV:=bv 1 0
 (aZ<|Aa<|af (gY<|ae ap (aa 0)<|aC<|.int 1)<|af (ae bg (ae ap (aa 0)<|aC<|.int 0)<|aC<|.int 1) ak)
def Ze8(T:Txt K mg):ACal (bw cn) P w K mg base "stocks" 1 ["shop"] kQ:=bF T.ZlK Zhp rfl λf FA A outer sh H E hr=>by exact(aF<|a9<|ZnK<|da (ZmR hr.hd) rfl T.dY Ev (bx (da Ze7 rfl T.eZ boot_range (ag (j7<|aA az ay (ac<|pv 0)<|gl rfl T.Zd8)<|ag (aw bC bB (aA az ay (ac<|pv 0)<|gl rfl T.yR) aj) am)) cf))
def mN:DV:=bv 3 0
 (au (bO (bu<|ae (cD λi j=>decide (i<=j)) (aa 2)<|aa 1)
  (aZ<|aC<|.int 0)
  bM)
 (aZ<|ae bg (ae ap (aa 0)<|aC<|.int 2)<|ae bX (ae ap (aa 0)<|aC<|.int 3)<|ae dg (aa 2)<|aa 1))
def Zm2(T:Txt K mg):ACal (bw cn) P w K mg base "order_cost" 1 ["shop","stock","level"] mN:=bF T.ZlQ Zhs rfl λf FA A outer sh H E hr=>by
 exact(av (bU (bL jM cO (ac<|pv 2) (ac<|pv 1)<|nomark _)
 (aF<|a9 aj)
 bT)
 (aF<|a9<|aw bC bB (aA az ay (ac<|pv 0)<|gl rfl T.ZkN)<|aw b7 b6 (aA az ay (ac<|pv 0)<|gl rfl T.ZkO)<|aw dW dS (ac<|pv 2)<|ac<|pv 1))
def kU:DV:=bv 3 0
 (aZ<|bc ir<|af (ae dg (aa 1)<|aa 2)<|af (gY<|ae ap (aa 0)<|aC<|.int 1) ak)
def zF(T:Txt K mg):ACal (bw cn) P w K mg base "next_stock" 1 ["shop","level","fall"] kU:=bF T.ZlR Zht rfl λf FA A outer sh H E hr=>by exact(aF<|a9<|bd (t:=aS) (aX (lE rfl) rfl T.kO boot_max (ag (aw dW dS (ac<|pv 1)<|ac<|pv 2)<|ag (j7<|aA az ay (ac<|pv 0)<|gl rfl T.Zd8) am)) kj)
def lc:DV:=bv 2 0
 (au (bO (bu<|ae (cD λi j=>decide (i>j)) (aa 1)<|aC<|.int 0)
  (aZ<|ae bX (gY<|ae ap (aa 0)<|aC<|.int 7)<|aa 1)
  bM)
 (aZ<|ae bX (ae ap (aa 0)<|aC<|.int 8)<|gY<|aa 1))
def Zfi(T:Txt K mg):ACal (bw cn) P w K mg base "end_cost" 1 ["shop","stock"] lc:=bF T.Zl5 ZhA rfl λf FA A outer sh H E hr=>by
 exact(av (bU (bL kJ cO (ac<|pv 1) aj<|nomark _)
 (aF<|a9<|aw b7 b6 (j7<|aA az ay (ac<|pv 0)<|gl rfl T.ZkT)<|ac<|pv 1)
 bT)
 (aF<|a9<|aw b7 b6 (aA az ay (ac<|pv 0)<|gl rfl T.ZkQ)<|j7<|ac<|pv 1))
def xV:DR :=
 (bc dO<|af (aa 0) ak)
def mU:DV:=bv 1 0
 (aZ<|bc dO<|af (bE<|dA (cz<|aa 0) 1 [] (ao 0) xV) ak)
def Zfj(T:Txt K mg):ACal (bw cn) P w K mg base "day_scale" 1 ["day"] mU:=bF T.Zl6 ZhB rfl λf FA A outer sh H E hr=>by exact(aF<|a9<|bd (t:=aS) (aX (jr rfl) rfl T.i6 Fi (ag (bV<|fe (eW wf ["line"] [] rfl (de<|ac<|pv 0) (λb=>(aV<|aT (i:=0)<|show((bN wf ["line"] [])).Nodup by trivial)) (λb=>(bd (t:=aS) (aX (jr rfl) rfl T.i6 Fi (ag (ac<|pv 0) am)) iM)) rfl (show BlkOk wf (aP xm) _ []by trivial))<|cp<|by decide) am)) iM)
def o7:DR :=
 (bj<|af (aa 0)<|af (aa 1) ak)
def qB:DS :=
 (nS<|af (aa 2)<|af (ae bg (aa 3)<|aC<|.int 1) ak)
def mM:DV:=bv 2 3
 (au (gF (bD<|aJ (ao 2)<|aJ (ao 3) bo)<|aa 1)
 (au (bb 4<|ae ap (aa 0)<|aC<|.int 0)
 (j9<|lP (nS<|af (aa 2)<|af (ae bg (aa 4)<|aC<|.int 1) ak) 2 [3,4] 0 qB 1 o7)))
def Zfa(T:Txt K mg):ACal (bw cn) P w K mg base "raises_from" 1 ["shop","stand"] mM:=bF T.ZlO oP rfl λf FA A outer sh H E hr=>by
 exact(av (iG<|fu (ac<|pv 1)<|cS rfl (br (aV<|aT (i:=2) oP.nd)<|br (aV<|aT (i:=3) oP.nd) cJ) (bq<|bq cH))
 (av (bf<|ba (i:=4) oP.nd<|aA az ay (ac<|pv 0)<|gl rfl T.yR)
 (aF<|nL<|ZfN (ZcN nY ["first","second"] [3,4] rfl (ZfT<|ZcI rfl T.eZ (ag (ac<|pv 2)<|ag (aw bC bB (ac<|pv 4) aj) am)) (λb=>(aV<|aT (i:=0)<|show((bN nY ["first","second"] [3,4])).Nodup by trivial)) (λb=>(ZfT<|ZcI rfl T.eZ (ag (ac<|pv 2)<|ag (aw bC bB (ac<|pv 3) aj) am))) (λb=>(aV<|aT (i:=1)<|show((bN nY ["first","second"] [3,4])).Nodup by trivial)) (λb=>(bm<|ag (ac<|pv 0)<|ag (ac<|pv 1) am)) rfl (show BlkOk nY (aP xf) _ [3,4]by trivial)) (by decide) (by decide)<|by decide)))
abbrev cG:=qh
def cR(T:Txt K mg):ACal (bw cn) P w K mg base "_law_draw" 1 ["_law_pen_here","_law_many"] cG:=ZlA rfl (Zjk T)
def mP:DV:=bv 1 0
 (j9<|Ae<|af (ae dg (aC<|.int 0)<|ae ap (aa 0)<|aC<|.int 1)<|af (ae bg (ae ap (aa 0)<|aC<|.int 0)<|aC<|.int 1) ak)
def Zfc(T:Txt K mg):ACal (bw cn) P w K mg base "_law_stocks" 1 ["_law_shop_here"] mP:=bF T.Zmc ZhE rfl λf FA A outer sh H E hr=>by exact(aF<|nL<|ZnE<|da (ZmW hr.hd) rfl T.mJ boot_list (bx (da Ze7 rfl T.eZ boot_range (ag (aw dW dS aj<|aA az ay (ac<|pv 0) aj)<|ag (aw bC bB (aA az ay (ac<|pv 0) aj) aj) am)) cf))
def mR:DV:=bv 3 2
 (au (bb 3<|bc ir<|af (ae dg (aa 1)<|aa 2)<|af (ae dg (aC<|.int 0)<|ae ap (aa 0)<|aC<|.int 1) ak)
 (au (bb 4<|ae bg (ae dg (aa 3)<|aa 1)<|aa 2)
 (aZ<|bj<|af (ae bg (ae bg (ae bX (ae ap (aa 0)<|aC<|.int 4)<|bc ir<|af (aa 3)<|af (aC<|.int 0) ak)<|ae bX (ae ap (aa 0)<|aC<|.int 5)<|bc ir<|af (ae dg (aC<|.int 0)<|aa 3)<|af (aC<|.int 0) ak)<|ae bX (ae ap (aa 0)<|aC<|.int 6)<|aa 4)<|af (aa 3) ak)))
def Zfd(T:Txt K mg):ACal (bw cn) P w K mg base "_law_one_cost" 1 ["_law_shop_here","_law_level","_law_fall"] mR:=bF T.Zmk xa rfl λf FA A outer sh H E hr=>by
 exact(av (bf<|ba (i:=3) xa.nd<|bd (t:=aS) (aX (lE rfl) rfl T.kO boot_max (ag (aw dW dS (ac<|pv 1)<|ac<|pv 2)<|ag (aw dW dS aj<|aA az ay (ac<|pv 0) aj) am)) kj)
 (av (bf<|ba (i:=4) xa.nd<|aw bC bB (aw dW dS (ac<|pv 3)<|ac<|pv 1)<|ac<|pv 2)
 (aF<|a9<|bm<|ag (aw bC bB (aw bC bB (aw b7 b6 (aA az ay (ac<|pv 0) aj)<|bd (t:=aS) (aX (lE rfl) rfl T.kO boot_max (ag (ac<|pv 3)<|ag aj am)) kj)<|aw b7 b6 (aA az ay (ac<|pv 0) aj)<|bd (t:=aS) (aX (lE rfl) rfl T.kO boot_max (ag (aw dW dS aj<|ac<|pv 3)<|ag aj am)) kj)<|aw b7 b6 (aA az ay (ac<|pv 0) aj)<|ac<|pv 4)<|ag (ac<|pv 3) am)))
def jS:DV:=bv 2 0
 (aZ<|ae dg (ae bX (ae ap (aa 0)<|aC<|.int 8)<|bc ir<|af (ae dg (aC<|.int 0)<|aa 1)<|af (aC<|.int 0) ak)<|ae bX (ae ap (aa 0)<|aC<|.int 7)<|bc ir<|af (aa 1)<|af (aC<|.int 0) ak)
def Zfg(T:Txt K mg):ACal (bw cn) P w K mg base "_law_end" 1 ["_law_shop_here","_law_stock"] jS:=bF T.Zms ZhH rfl λf FA A outer sh H E hr=>by exact(aF<|a9<|aw dW dS (aw b7 b6 (aA az ay (ac<|pv 0) aj)<|bd (t:=aS) (aX (lE rfl) rfl T.kO boot_max (ag (aw dW dS aj<|ac<|pv 1)<|ag aj am)) kj)<|aw b7 b6 (aA az ay (ac<|pv 0) aj)<|bd (t:=aS) (aX (lE rfl) rfl T.kO boot_max (ag (ac<|pv 1)<|ag aj am)) kj)
def ja:DV:=bv 3 1
 (au (bb 3<|ae dg (ae bg (ae dg (ae ap (aa 2)<|aC<|.int 0)<|ae ap (aa 1)<|aC<|.int 0)<|ae ap (aa 2)<|aC<|.int 1)<|ae ap (aa 1)<|aC<|.int 1)
 (aZ<|ae bX (ae bg (ae ap (aa 0)<|aC<|.int 2)<|ae bX (ae ap (aa 0)<|aC<|.int 3)<|aa 3)<|bc ng<|af (ae (cD λi j=>decide (i>j)) (aa 3)<|aC<|.int 0) ak))
def zJ(T:Txt K mg):ACal (bw cn) P w K mg base "_law_order" 1 ["_law_shop_here","_law_stand","_law_goal"] ja:=bF T.Zmj Za4 rfl λf FA A outer sh H E hr=>by
 exact(av (bf<|ba (i:=3) Za4.nd<|aw dW dS (aw bC bB (aw dW dS (aA az ay (ac<|pv 2) aj)<|aA az ay (ac<|pv 1) aj)<|aA az ay (ac<|pv 2) aj)<|aA az ay (ac<|pv 1) aj)
 (aF<|a9<|aw b7 b6 (aw bC bB (aA az ay (ac<|pv 0) aj)<|aw b7 b6 (aA az ay (ac<|pv 0) aj)<|ac<|pv 3)<|bd (t:=aS) (da ZmX rfl T.yh boot_int (ag (zZ kJ cO (ac<|pv 3) aj<|nomark _) am)) Zgl))
def wA:DT :=
 (bu<|ae (cD λi j=>decide (i>j)) (aa 3)<|aC<|.int 0)
def yy:DU :=
 (ka 2 3<|af (aa 3)<|af (ae i7 (aa 2)<|aa 3) ak)
def jP:DV:=bv 2 2
 (au (ka 2 3<|af (bc lN<|af (aa 0) ak)<|af (aa 1) ak)
 (au (fh wA yy 100000)
 (aZ<|bj<|af (ae iB (aa 0)<|aa 2)<|af (ae iB (aa 1)<|aa 2) ak)))
def zG(T:Txt K mg):ACal (bw cn) P w K mg base "_law_share" 1 ["_law_top","_law_bottom"] jP:=bF T.Zme w8 rfl λf FA A outer sh H E hr=>by
 exact(av (vN<|pj (i:=2) (j:=3) rfl w8.nd rfl rfl (by decide) rfl rfl (ag (bd (t:=aS) (aX lF rfl T.kP boot_abs (ag (ac<|pv 0) am)) wG)<|ag (ac<|pv 1) am) rfl)
 (av (ZfD 100000 A9 (bL kJ cO (ac<|pv 3) aj<|nomark _)
  (aF<|vN<|pj (i:=2) (j:=3) rfl w8.nd rfl rfl (by decide) rfl rfl (ag (ac<|pv 3)<|ag (aw x9 wC (ac<|pv 2)<|ac<|pv 3) am) rfl))
 (aF<|a9<|bm<|ag (aw mH l5 (ac<|pv 0)<|ac<|pv 2)<|ag (aw mH l5 (ac<|pv 1)<|ac<|pv 2) am)))
def p9:DV:=bv 1 0
 (aZ<|kc (eS "int"<|aa 0)<|vX<|eS "bool"<|aa 0)
def Zm8(T:Txt K mg):ACal (bw cn) P w K mg base "_law_is_whole" 1 ["_law_thing"] p9:=bF T.Zmo ZhG rfl λf FA A outer sh H E hr=>by exact(aF<|a9<|nQ (fI (T:="int") (.inl rfl) rfl (aX fG rfl T.fx En (bx (ac<|pv 0)<|bx (fv (v:=.ty "int") rfl T.yh boot_int rfl) cf)))<|nO<|ZfV<|fI (T:="bool") (Or.inr<|.inl rfl) rfl (aX fG rfl T.fx En (bx (ac<|pv 0)<|bx (fv (v:=.ty "bool") rfl T.Zdb boot_bool rfl) cf)))
def gR:DV:=bv 3 0
 (aZ<|kc (aE<|aB kZ<|ah (aa 0) aD)<|lT (cD λi j=>decide (i<=j)) (cD λi j=>decide (i<=j)) (aa 1) (aa 0)<|aa 2)
def Znf(T:Txt K mg):ACal (bw cn) P w K mg base "is_whole_within" 2 ["thing","lowest","highest"] gR:=bF T.ZlV Zhu rfl λf FA A outer sh H E hr=>by exact(aF<|a9<|nQ (aK<|aG (zL T) hr<|ai (ac<|pv 0) aH)<|nO<|z9 jM cO jM cO (ac<|pv 1) (ac<|pv 0)<|ac<|pv 2)
def dD:DV:=bv 1 2
 (au (bO (eE (dw<|cU<|eS "tuple"<|aa 0)<|bu<|ae cQ (bc cj<|af (aa 0) ak)<|aC<|.int 2)
  (aZ<|aC<|.bool false)
  bM)
 (au (gF (bD<|aJ (ao 1)<|aJ (ao 2) bo)<|aa 0)
 (au (bO (eE (dw<|cU<|aE<|aB kZ<|ah (aa 1) aD)<|eE (dw<|cU<|aE<|aB kZ<|ah (aa 2) aD)<|bu<|ae (cD λi j=>decide (i<j)) (aa 2)<|aC<|.int 1)
  (aZ<|aC<|.bool false)
  bM)
 (aZ<|ae dP (aE<|aB mW<|ah (aa 1)<|ah (aa 2) aD)<|aC<|.int 1))))
def Zng(T:Txt K mg):ACal (bw cn) P w K mg base "is_share" 2 ["thing"] dD:=bF T.ZlX wX rfl λf FA A outer sh H E hr=>by
 exact(av (bU (eQ<|eP (dQ<|dq<|fI (T:="tuple") (Or.inr<|Or.inr<|Or.inr<|Or.inr<|.inl rfl) rfl (aX fG rfl T.fx En (bx (ac<|pv 0)<|bx (fv (v:=.ty "tuple") rfl T.dY Ev rfl) cf)))<|fH<|bL (eX hr) eT (bd (t:=aS) (aX cI rfl T.cF Et (ag (ac<|pv 0) am)) cY) aj<|nomark _)
 (aF<|a9 ce)
 bT)
 (av (iG<|fu (ac<|pv 0)<|cS rfl (br (aV<|aT (i:=1) wX.nd)<|br (aV<|aT (i:=2) wX.nd) cJ) (bq<|bq cH))
 (av (bU (eQ<|eP (dQ<|dq<|aK<|aG (zL T) hr<|ai (ac<|pv 1) aH)<|eP (dQ<|dq<|aK<|aG (zL T) hr<|ai (ac<|pv 2) aH)<|fH<|bL gP cO (ac<|pv 2) aj<|nomark _)
  (aF<|a9 ce)
  bT)
 (aF<|a9<|zZ (ii hr) gZ (aK<|aG (Zfl T) hr<|ai (ac<|pv 1)<|ai (ac<|pv 2) aH) aj<|nomark _))))
def kR:DV:=bv 2 1
 (au (bO (bu<|ae dP (aa 1)<|aC<|.int 0)
  Zf0
  bM)
 (au (bb 2<|aE<|aB mW<|ah (aa 0)<|ah (aa 1) aD)
 (au (bO (bu<|ae (cD λi j=>decide (i<j)) (aa 1)<|aC<|.int 0)
  (bb 2<|gY<|aa 2)
  bM)
 (aZ<|bj<|af (ae iB (aa 0)<|aa 2)<|af (ae iB (aa 1)<|aa 2) ak))))
def Ze9(T:Txt K mg):ACal (bw cn) P w K mg base "share" 2 ["top","bottom"] kR:=bF T.ZlM wW rfl λf FA A outer sh H E hr=>by
 exact(av (bU (bL (ii hr) gZ (ac<|pv 1) aj<|nomark _)
 (aF ZnA)
 bT)
 (av (bf<|ba (i:=2) wW.nd<|aK<|aG (Zfl T) hr<|ai (ac<|pv 0)<|ai (ac<|pv 1) aH)
 (av (bU (bL gP cO (ac<|pv 1) aj<|nomark _)
  (aF<|bf<|ba (i:=2) wW.nd<|j7<|ac<|pv 2)
  bT)
 (aF<|a9<|bm<|ag (aw mH l5 (ac<|pv 0)<|ac<|pv 2)<|ag (aw mH l5 (ac<|pv 1)<|ac<|pv 2) am))))
def le:DV:=bv 3 3
 (au (bb 3<|aE<|aB kU<|ah (aa 0)<|ah (aa 1)<|ah (aa 2) aD)
 (au (bb 4<|ae dg (aa 3)<|ae dg (aa 1)<|aa 2)
 (au (bb 5<|Af (bu<|ae (cD λi j=>decide (i>j)) (aa 3)<|aC<|.int 0) (ae bX (ae ap (aa 0)<|aC<|.int 4)<|aa 3)<|ae bX (ae ap (aa 0)<|aC<|.int 5)<|gY<|aa 3)
 (aZ<|ae bg (aa 5)<|ae bX (ae ap (aa 0)<|aC<|.int 6)<|aa 4))))
def Zfk(T:Txt K mg):ACal (bw cn) P w K mg base "day_cost" 2 ["shop","level","fall"] le:=bF T.Zl7 oQ rfl λf FA A outer sh H E hr=>by
 exact(av (bf<|ba (i:=3) oQ.nd<|aK<|aG (zF T) hr<|ai (ac<|pv 0)<|ai (ac<|pv 1)<|ai (ac<|pv 2) aH)
 (av (bf<|ba (i:=4) oQ.nd<|aw dW dS (ac<|pv 3)<|aw dW dS (ac<|pv 1)<|ac<|pv 2)
 (av (bf<|ba (i:=5) oQ.nd<|ZnM (bL kJ cO (ac<|pv 3) aj<|nomark _) (aw b7 b6 (aA az ay (ac<|pv 0)<|gl rfl T.ZkS)<|ac<|pv 3)<|aw b7 b6 (aA az ay (ac<|pv 0)<|gl rfl T.ZkR)<|j7<|ac<|pv 3)
 (aF<|a9<|aw bC bB (ac<|pv 5)<|aw b7 b6 (aA az ay (ac<|pv 0)<|gl rfl T.ZkP)<|ac<|pv 4))))
def o6:DR :=
 (bj<|af (aa 0)<|af (aa 1) ak)
def qA:DS :=
 (cz<|aE<|aB kQ<|ah (aa 2) aD)
def gg:DV:=bv 1 0
 (j9<|lP (cz<|aE<|aB kQ<|ah (aa 0) aD) 2 [0] 0 qA 1 o6)
def lG(T:Txt K mg):ACal (bw cn) P w K mg base "stands" 2 ["shop"] gg:=bF T.ZlL Zhq rfl λf FA A outer sh H E hr=>by exact(aF<|nL<|ZfN (ZcN nX ["one","other"] [0] rfl (de<|aK<|aG (Ze8 T) hr<|ai (ac<|pv 0) aH) (λb=>(aV<|aT (i:=0)<|show((bN nX ["one","other"] [0])).Nodup by trivial)) (λb=>(de<|aK<|aG (Ze8 T) hr<|ai (ac<|pv 2) aH)) (λb=>(aV<|aT (i:=1)<|show((bN nX ["one","other"] [0])).Nodup by trivial)) (λb=>(bm<|ag (ac<|pv 0)<|ag (ac<|pv 1) am)) rfl (show BlkOk nX (aP xc) _ [0]by trivial)) (by decide) (by decide)<|by decide)
def kT:DV:=bv 3 0
 (vW<|aB mN<|ah (aa 0)<|ah (bc dO<|af (aa 1) ak)<|ah (bc dO<|af (aa 2) ak) aD)
def zE(T:Txt K mg):ACal (bw cn) P w K mg base "raise_cost" 2 ["shop","stand","raised"] kT:=bF T.ZlP Zhr rfl λf FA A outer sh H E hr=>by exact(aF<|ZfG<|aG (Zm2 T) hr<|ai (ac<|pv 0)<|ai (bd (t:=aS) (aX (jr rfl) rfl T.i6 Fi (ag (ac<|pv 1) am)) iM)<|ai (bd (t:=aS) (aX (jr rfl) rfl T.i6 Fi (ag (ac<|pv 2) am)) iM) aH)
def Zcu:DR :=
 (aE<|aB cG<|cg 1<|ah (aa 2) aD)
def Zct:DS :=
 (dA (gm<|af (aa 3) ak) 1 [1,2] (ao 0) Zcu)
def xR:DR :=
 (bc ga<|af (aa 0) ak)
def qa:DV:=bv 1 3
 (au (bb 1<|ae ap (bE<|cW<|af (aC<|.int 2)<|af (aC<|.int 4)<|af (aC<|.int 20)<|af (aC<|.int 1001) ak)<|aE<|aB cG<|cg 0<|ah (aC<|.int 4) aD)
 (au (bb 2<|ae bg (aC<|.int 1)<|aE<|aB cG<|cg 0<|ah (aC<|.int 3) aD)
 (Ab 3 (nT (gm<|af (ae bg (aC<|.int 1)<|aE<|aB cG<|cg 0<|ah (aC<|.int 3) aD) ak) 1 [0,1,2] (ao 0) Zct) (ae bg (aC<|.int 1)<|aE<|aB cG<|cg 0<|ah (ae dg (aa 1)<|aC<|.int 1) aD) (aE<|aB cG<|cg 0<|ah (bc cj<|af (aa 3) ak) aD) (aE<|aB cG<|cg 0<|ah (aa 2) aD)
 (aZ<|bc ga<|af (bE<|dA (cz<|aa 3) 1 [] (ao 0) xR) ak))))
def Znb(T:Txt K mg):ACal (bw cn) P w K mg base "_law_double_day" 2 ["_law_pen_here"] qa:=bF T.Zmu oV rfl λf FA A outer sh H E hr=>by
 exact(av (bf<|ba (i:=1) oV.nd<|aA az ay (bV<|dr<|ag aj<|ag aj<|ag aj<|ag aj am)<|aK<|aG (cR T) hr<|cv (pv 0)<|ai aj aH)
 (av (bf<|ba (i:=2) oV.nd<|aw bC bB aj<|aK<|aG (cR T) hr<|cv (pv 0)<|ai aj aH)
 (Znu ZiC (ZnB (x0 (i:=3) iJ ["_law_i"] [0,1,2] rfl oV.nd rfl rfl (gX<|gO rfl T.eZ (ag (aw bC bB aj<|aK<|aG (cR T) hr<|cv (pv 0)<|ai aj aH) am)) (λb=>(aV<|aT (i:=0)<|show((bN iJ ["_law_i"] [0,1,2])).Nodup by trivial)) (λb=>(fe (eW (bN iJ ["_law_i"] [0,1,2]) ["_law_j"] [1,2] rfl (gX<|gO rfl T.eZ (ag (ac<|pv 3) am)) (λb=>(aV<|aT (i:=0)<|show((bN (bN iJ ["_law_i"] [0,1,2]) ["_law_j"] [1,2])).Nodup by trivial)) (λb=>(aK<|aG (cR T) hr<|cv (pv 1)<|ai (ac<|pv 2) aH)) rfl (BlkOk.nest ⟨rfl,by trivial,by trivial,by trivial,by trivial⟩))<|cp<|by decide)) rfl (show BlkOk iJ (aP oX) _ [0,1,2]by trivial) rfl)<|cp<|by decide) (fu (aw bC bB aj<|aK<|aG (cR T) hr<|cv (pv 0)<|ai (aw dW dS (ac<|pv 1) aj) aH)<|mC (gv gy (pv 3) (aK<|aG (cR T) hr<|cv (pv 0)<|ai (bd (t:=aS) (aX cI rfl T.cF Et (ag (ac<|pv 3) am)) cY) aH)<|λ_ _=>rfl) (aK<|aG (cR T) hr<|cv (pv 0)<|ai (ac<|pv 2) aH) mf)
 (aF<|a9<|bd (t:=aS) (da jq rfl T.dY Ev (ag (bV<|fe (eW iJ ["_law_row"] [] rfl (de<|ac<|pv 3) (λb=>(aV<|aT (i:=0)<|show((bN iJ ["_law_row"] [])).Nodup by trivial)) (λb=>(bd (t:=aS) (da jq rfl T.dY Ev (ag (ac<|pv 0) am)) iL)) rfl (show BlkOk iJ (aP oX) _ []by trivial))<|cp<|by decide) am)) iL))))
def Zcs:DR :=
 (aE<|aB cG<|cg 1<|ah (aa 2) aD)
def p7:DV:=bv 1 3
 (au (bb 1<|ae ap (bE<|cW<|af (aC<|.int 2)<|af (aC<|.int 3)<|af (aC<|.int 10)<|af (aC<|.int 60) ak)<|aE<|aB cG<|cg 0<|ah (aC<|.int 4) aD)
 (au (bb 2<|aE<|aB cG<|cg 0<|ah (aC<|.int 5) aD)
 (au (j8 3<|dA (gm<|af (aC<|.int 7) ak) 1 [0,1] (ao 0) Zcs)
 (au (bO (bu<|ae dP (aE<|aB cG<|cg 0<|ah (aC<|.int 4) aD)<|aC<|.int 0)
  (vU 3 (aC<|.int 0)<|aC<|.int 0)
  bM)
 (lR 3<|aZ<|ae bg (bj<|af (aa 2)<|af (aE<|aB cG<|cg 0<|ah (ae dg (aC<|.int 5)<|aa 2) aD) ak)<|bc ga<|af (aa 3) ak)))))
def Zm4(T:Txt K mg):ACal (bw cn) P w K mg base "_law_shop" 2 ["_law_pen_here"] p7:=bF T.Zmd oR rfl λf FA A outer sh H E hr=>by
 exact(av (bf<|ba (i:=1) oR.nd<|aA az ay (bV<|dr<|ag aj<|ag aj<|ag aj<|ag aj am)<|aK<|aG (cR T) hr<|cv (pv 0)<|ai aj aH)
 (av (bf<|ba (i:=2) oR.nd<|aK<|aG (cR T) hr<|cv (pv 0)<|ai aj aH)
 (av (Znw (x0 (i:=3) wl ["_law_k"] [0,1] rfl oR.nd rfl rfl (gX<|gO rfl T.eZ (ag aj am)) (λb=>(aV<|aT (i:=0)<|show((bN wl ["_law_k"] [0,1])).Nodup by trivial)) (λb=>(aK<|aG (cR T) hr<|cv (pv 1)<|ai (ac<|pv 2) aH)) rfl (show BlkOk wl (aP xq) _ [0,1]by trivial) rfl)<|cp<|by decide)
 (av (bU (bL (ii hr) gZ (aK<|aG (cR T) hr<|cv (pv 0)<|ai aj aH) aj<|nomark _)
  (aF<|Znx<|fu aj<|mC (pv 3) aj mf)
  bT)
 (aF<|vO (k:=3)<|a9<|aw bC bB (bm<|ag (ac<|pv 2)<|ag (aK<|aG (cR T) hr<|cv (pv 0)<|ai (aw dW dS aj<|ac<|pv 2) aH) am)<|bd (t:=aS) (da jq rfl T.dY Ev (ag (ac<|pv 3) am)) iL)))))
def yA:DU :=
 (au (gF (bD<|aJ (ao 12)<|aJ (ao 13) bo)<|aE<|aB mR<|ah (aa 0)<|ah (ae ap (aa 4)<|aC<|.int 1)<|ah (aa 10) aD)
 (au (bb 14<|ae bg (ae bX (ae bg (aa 8)<|aa 12)<|aa 3)<|ae eO (aa 2)<|bj<|af (aa 9)<|af (aa 13) ak)
 (bb 5<|ae bg (aa 5)<|ae bX (aa 11)<|aa 14)))
def ZdF:DU :=
 (au (gF (bD<|aJ (ao 8)<|aJ (ao 9) bo)<|aE<|aB mR<|ah (aa 0)<|ah (ae ap (aa 4)<|aC<|.int 0)<|ah (aa 6) aD)
 (dR (lS<|aa 7) (bD<|aJ (ao 10)<|aJ (ao 11) bo) yA))
def mS:DV:=bv 5 10
 (au (bb 5<|aC<|.int 0)
 (au (dR (lS<|aa 1) (bD<|aJ (ao 6)<|aJ (ao 7) bo) ZdF)
 (fX 5)))
def Zfe(T:Txt K mg):ACal (bw cn) P w K mg base "_law_mean" 2 ["_law_shop_here","_law_one","_law_later_here","_law_bottom","_law_goal"] mS:=bF T.Zml gb rfl λf FA A outer sh H E hr=>by
 exact(av (bf<|ba (i:=5) gb.nd aj)
 (av (eD A9 rfl (vR<|pC rfl rfl T.pQ (ac<|pv 1)) (cS rfl (br (aV<|aT (i:=6) gb.nd)<|br (aV<|aT (i:=7) gb.nd) cJ) (bq<|bq cH))
  (av (iG<|fu (aK<|aG (Zfd T) hr<|ai (ac<|pv 0)<|ai (aA az ay (ac<|pv 4) aj)<|ai (ac<|pv 6) aH)<|cS rfl (br (aV<|aT (i:=8) gb.nd)<|br (aV<|aT (i:=9) gb.nd) cJ) (bq<|bq cH))
 (aF (eD A9 rfl (vR<|pC rfl rfl T.pQ (ac<|pv 7)) (cS rfl (br (aV<|aT (i:=10) gb.nd)<|br (aV<|aT (i:=11) gb.nd) cJ) (bq<|bq cH))
  (av (iG<|fu (aK<|aG (Zfd T) hr<|ai (ac<|pv 0)<|ai (aA az ay (ac<|pv 4) aj)<|ai (ac<|pv 10) aH)<|cS rfl (br (aV<|aT (i:=12) gb.nd)<|br (aV<|aT (i:=13) gb.nd) cJ) (bq<|bq cH))
 (av (bf<|ba (i:=14) gb.nd<|aw bC bB (aw b7 b6 (aw bC bB (ac<|pv 8)<|ac<|pv 12)<|ac<|pv 3)<|ju<|iX (fR hr) (ac<|pv 2) (bm<|ag (ac<|pv 9)<|ag (ac<|pv 13) am)<|λ_ _=>rfl)
 (aF<|bf<|ba (i:=5) gb.nd<|aw bC bB (ac<|pv 5)<|aw b7 b6 (ac<|pv 11)<|ac<|pv 14)))))))
 (aF<|nK<|pv 5)))
def yB:DU :=
 (lO 1 (bj<|af (aa 2)<|af (aa 3) ak)<|ae bg (aE<|aB jS<|ah (aa 0)<|ah (aa 2) aD)<|aE<|aB jS<|ah (aa 0)<|ah (aa 3) aD)
def ZdG:DU :=
 (dR (cz<|aE<|aB mP<|ah (aa 0) aD) (ao 3) yB)
def kY:DV:=bv 1 3
 (au (vT 1)
 (au (dR (cz<|aE<|aB mP<|ah (aa 0) aD) (ao 2) ZdG)
 (lQ 1<|fX 1)))
def zK(T:Txt K mg):ACal (bw cn) P w K mg base "_law_ends" 2 ["_law_shop_here"] kY:=bF T.Zmr oU rfl λf FA A outer sh H E hr=>by
 exact(av (ZfE<|ba (i:=1) oU.nd ZcO)
 (av (eD A9 rfl (de<|aK<|aG (Zfc T) hr<|ai (ac<|pv 0) aH) (aV<|aT (i:=2) oU.nd)
  (aF (eD A9 rfl (de<|aK<|aG (Zfc T) hr<|ai (ac<|pv 0) aH) (aV<|aT (i:=3) oU.nd)
  (aF<|ZfH<|ZcB (fR hr) (pv 1) (bm<|ag (ac<|pv 2)<|ag (ac<|pv 3) am) (aw bC bB (aK<|aG (Zfg T) hr<|ai (ac<|pv 0)<|ai (ac<|pv 2) aH)<|aK<|aG (Zfg T) hr<|ai (ac<|pv 0)<|ai (ac<|pv 3) aH) rfl))))
 (aF<|ZfI (k:=1)<|nK<|pv 1)))
def mv:DR :=
 (aa 0)
def mE:DT :=
 (dw<|cU<|aE<|aB p9<|ah (aa 0) aD)
def eC:DV:=bv 3 1
 (au (bO (eE (dw<|cU<|eS "tuple"<|aa 2)<|bu<|ae cQ (bc cj<|af (aa 2) ak)<|aC<|.int 2)
  (aZ<|aC<|.bool false)
  bM)
 (au (bO (eE (dw<|cU<|eS "tuple"<|ae ap (aa 2)<|aC<|.int 0)<|dw<|cU<|eS "tuple"<|ae ap (aa 2)<|aC<|.int 1)
  (aZ<|aC<|.bool false)
  bM)
 (au (bb 3<|ae dM (ae ap (aa 2)<|aC<|.int 0)<|ae ap (aa 2)<|aC<|.int 1)
 (au (bO (eE (bu<|ae cQ (bc cj<|af (ae ap (aa 2)<|aC<|.int 0) ak)<|aC<|.int 2)<|eE (bu<|ae cQ (bc cj<|af (ae ap (aa 2)<|aC<|.int 1) ak)<|aC<|.int 2)<|bu<|ae kL (bE<|jv (cz<|aa 3) 1 [] (ao 0) mE mv)<|bE<|cW ak)
  (aZ<|aC<|.bool false)
  bM)
 (au (bO (eE (bu<|ae (cD λi j=>decide (i<j)) (ae ap (ae ap (aa 2)<|aC<|.int 0)<|aC<|.int 1)<|aC<|.int 1)<|bu<|ae cQ (aE<|aB jP<|ah (ae ap (ae ap (aa 2)<|aC<|.int 0)<|aC<|.int 0)<|ah (ae ap (ae ap (aa 2)<|aC<|.int 0)<|aC<|.int 1) aD)<|ae ap (aa 2)<|aC<|.int 0)
  (aZ<|aC<|.bool false)
  bM)
 (aZ<|kc (lT (cD λi j=>decide (i<=j)) (cD λi j=>decide (i<=j)) (ae ap (aa 1)<|aC<|.int 0) (ae ap (ae ap (aa 2)<|aC<|.int 1)<|aC<|.int 0)<|ae ap (aa 0)<|aC<|.int 0)<|lT (cD λi j=>decide (i<=j)) (cD λi j=>decide (i<=j)) (ae ap (aa 1)<|aC<|.int 1) (ae ap (ae ap (aa 2)<|aC<|.int 1)<|aC<|.int 1)<|ae ap (aa 0)<|aC<|.int 0))))))
def Zm9(T:Txt K mg):ACal (bw cn) P w K mg base "_law_is_entry" 2 ["_law_shop_here","_law_stand","_law_thing"] eC:=bF T.Zmp Za5 rfl λf FA A outer sh H E hr=>by
 exact(av (bU (eQ<|eP (dQ<|dq<|fI (T:="tuple") (Or.inr<|Or.inr<|Or.inr<|Or.inr<|.inl rfl) rfl (aX fG rfl T.fx En (bx (ac<|pv 2)<|bx (fv (v:=.ty "tuple") rfl T.dY Ev rfl) cf)))<|fH<|bL (eX hr) eT (bd (t:=aS) (aX cI rfl T.cF Et (ag (ac<|pv 2) am)) cY) aj<|nomark _)
 (aF<|a9 ce)
 bT)
 (av (bU (eQ<|eP (dQ<|dq<|fI (T:="tuple") (Or.inr<|Or.inr<|Or.inr<|Or.inr<|.inl rfl) rfl (aX fG rfl T.fx En (bx (aA az ay (ac<|pv 2) aj)<|bx (fv (v:=.ty "tuple") rfl T.dY Ev rfl) cf)))<|fH<|dQ<|dq<|fI (T:="tuple") (Or.inr<|Or.inr<|Or.inr<|Or.inr<|.inl rfl) rfl (aX fG rfl T.fx En (bx (aA az ay (ac<|pv 2) aj)<|bx (fv (v:=.ty "tuple") rfl T.dY Ev rfl) cf)))
  (aF<|a9 ce)
  bT)
 (av (bf<|ba (i:=3) Za5.nd<|aw eY eU (aA az ay (ac<|pv 2) aj)<|aA az ay (ac<|pv 2) aj)
 (av (bU (eQ<|eP (bL (eX hr) eT (bd (t:=aS) (aX cI rfl T.cF Et (ag (aA az ay (ac<|pv 2) aj) am)) cY) aj<|nomark _)<|eP (bL (eX hr) eT (bd (t:=aS) (aX cI rfl T.cF Et (ag (aA az ay (ac<|pv 2) aj) am)) cY) aj<|nomark _)<|fH<|bL (ZcV hr) Zah (bV<|ZfM (ZcM wo ["_law_one"] [] rfl (de<|ac<|pv 3) (λb=>(aV<|aT (i:=0)<|show((bN wo ["_law_one"] [])).Nodup by trivial)) (λb=>(dQ<|dq<|aK<|aG (Zm8 T) hr<|ai (ac<|pv 0) aH)) (λb=>(ac<|pv 0)) rfl (show BlkOk wo (aP xt) _ []by trivial))<|cp<|by decide) (bV<|dr am)<|nomark _)
  (aF<|a9 ce)
  bT)
 (av (bU (eQ<|eP (bL gP cO (aA az ay (aA az ay (ac<|pv 2) aj) aj) aj<|nomark _)<|fH<|bL (eX hr) eT (aK<|aG (zG T) hr<|ai (aA az ay (aA az ay (ac<|pv 2) aj) aj)<|ai (aA az ay (aA az ay (ac<|pv 2) aj) aj) aH) (aA az ay (ac<|pv 2) aj)<|nomark _)
  (aF<|a9 ce)
  bT)
 (aF<|a9<|nQ (z9 jM cO jM cO (aA az ay (ac<|pv 1) aj) (aA az ay (aA az ay (ac<|pv 2) aj) aj)<|aA az ay (ac<|pv 0) aj)<|nO<|z9 jM cO jM cO (aA az ay (ac<|pv 1) aj) (aA az ay (aA az ay (ac<|pv 2) aj) aj)<|aA az ay (ac<|pv 0) aj))))))
def qc:DV:=bv 3 7
 (au (bb 3<|aE<|aB cG<|cg 0<|ah (aC<|.int 12) aD)
 (au (bb 4<|ae ap (bE<|cW<|af (aC<|.int 1)<|af (gY<|aC<|.int 1) ak)<|aE<|aB cG<|cg 0<|ah (aC<|.int 2) aD)
 (au (gF (bD<|aJ (ao 5)<|aJ (ao 6) bo)<|aa 2)
 (au (bb 7<|bj<|af (ae dg (aE<|aB cG<|cg 0<|ah (ae bg (ae bg (ae ap (aa 1)<|aC<|.int 0)<|ae ap (aa 1)<|aC<|.int 1)<|aC<|.int 2) aD)<|ae ap (aa 1)<|aC<|.int 1)<|af (ae dg (aE<|aB cG<|cg 0<|ah (ae bg (ae bg (ae ap (aa 1)<|aC<|.int 0)<|ae ap (aa 1)<|aC<|.int 1)<|aC<|.int 2) aD)<|ae ap (aa 1)<|aC<|.int 1) ak)
 (au (bb 8<|bE<|cW<|af (aC .none)<|af (aC<|.bool true)<|af (bE<|cW<|af (ae ap (aa 5)<|aC<|.int 0)<|af (ae ap (aa 5)<|aC<|.int 1) ak)<|af (ae ap (aa 5)<|aC<|.int 0)<|af (bj<|af (ae ap (aa 5)<|aC<|.int 0) ak)<|af (bj<|af (bc jF<|af (ae ap (aa 5)<|aC<|.int 0) ak)<|af (ae ap (aa 5)<|aC<|.int 1) ak)<|af (bj<|af (ae ap (aa 5)<|aC<|.int 0)<|af (aC<|.int 0) ak) ak)
 (au (bb 8<|ae bg (aa 8)<|bE<|cW<|af (bj<|af (ae ap (aa 5)<|aC<|.int 0)<|af (aC<|.bool true) ak)<|af (bj<|af (ae dg (aC<|.int 0)<|ae ap (aa 5)<|aC<|.int 0)<|af (ae dg (aC<|.int 0)<|ae ap (aa 5)<|aC<|.int 1) ak)<|af (bj ak)<|af (bj<|af (ae ap (aa 5)<|aC<|.int 0)<|af (aC .none) ak)<|af (bj<|af (ae ap (aa 5)<|aC<|.int 0)<|af (aC<|.str "1") ak)<|af (bj<|af (bE<|cW<|af (aC<|.int 1) ak)<|af (ae ap (aa 5)<|aC<|.int 1) ak) ak)
 (au (bO (bu<|ae (cD λi j=>decide (i<j)) (aa 3)<|aC<|.int 3)
  (aZ<|bj<|af (aE<|aB jP<|ah (ae bg (ae ap (aa 5)<|aC<|.int 0)<|aa 4)<|ah (ae ap (aa 5)<|aC<|.int 1) aD)<|af (aa 6) ak)
  bM)
 (au (bO (bu<|ae (cD λi j=>decide (i<j)) (aa 3)<|aC<|.int 6)
  (aZ<|bj<|af (aa 5)<|af (aa 7) ak)
  bM)
 (au (bO (bu<|ae dP (aa 3)<|aC<|.int 6)
  (aZ<|bj<|af (bj<|af (ae bX (aC<|.int 2)<|ae ap (aa 5)<|aC<|.int 0)<|af (ae bX (aC<|.int 2)<|ae ap (aa 5)<|aC<|.int 1) ak)<|af (aa 6) ak)
  bM)
 (au (bO (bu<|ae (cD λi j=>decide (i<j)) (aa 3)<|aC<|.int 9)
  (aZ<|bj<|af (ae ap (aa 8)<|aE<|aB cG<|cg 0<|ah (aC<|.int 13) aD)<|af (aa 6) ak)
  bM)
 (au (bb 9<|bE<|cW<|af (bj<|af (aa 5)<|af (bE<|gE jT<|af (aa 6) ak) ak)<|af (bj<|af (aa 5)<|af (cV (aa 6) df<|cK<|aC<|.int 1) ak)<|af (bj<|af (aa 5)<|af (aC .none) ak)<|af (bj<|af (aa 5)<|af (bj<|af (ae ap (aa 6)<|aC<|.int 0)<|af (aC<|.bool true) ak) ak)<|af (bj<|af (aa 5) ak)<|af (bE<|cW<|af (aa 5)<|af (aa 6) ak) ak)
 (au (bb 9<|ae bg (aa 9)<|bE<|cW<|af (bj<|af (aa 5)<|af (bj<|af (ae ap (aa 6)<|aC<|.int 0)<|af (aC .none) ak) ak)<|af (bj<|af (aa 5)<|af (bj<|af (bc jF<|af (ae ap (aa 6)<|aC<|.int 0) ak)<|af (ae ap (aa 6)<|aC<|.int 1) ak) ak)<|af (bj<|af (aa 5)<|af (bj<|af (bE<|cW<|af (aC<|.int 1) ak)<|af (ae ap (aa 6)<|aC<|.int 1) ak) ak)<|af (bj<|af (aa 5)<|af (aC<|.str "01") ak) ak)
 (aZ<|ae ap (ae bg (aa 9)<|bE<|cW<|af (bj<|af (aa 6)<|af (aa 5) ak)<|af (bj<|af (aa 5)<|af (aa 6)<|af (aC<|.int 0) ak)<|af (aC .none)<|af (aa 5) ak)<|aE<|aB cG<|cg 0<|ah (aC<|.int 14) aD)))))))))))))
def Znd(T:Txt K mg):ACal (bw cn) P w K mg base "_law_bent_entry" 2 ["_law_pen_here","_law_shop_here","_law_entry"] qc:=bF T.Zmw gL rfl λf FA A outer sh H E hr=>by
 exact(av (bf<|ba (i:=3) gL.nd<|aK<|aG (cR T) hr<|cv (pv 0)<|ai aj aH)
 (av (bf<|ba (i:=4) gL.nd<|aA az ay (bV<|dr<|ag aj<|ag (j7 aj) am)<|aK<|aG (cR T) hr<|cv (pv 0)<|ai aj aH)
 (av (iG<|fu (ac<|pv 2)<|cS rfl (br (aV<|aT (i:=5) gL.nd)<|br (aV<|aT (i:=6) gL.nd) cJ) (bq<|bq cH))
 (av (bf<|ba (i:=7) gL.nd<|bm<|ag (aw dW dS (aK<|aG (cR T) hr<|cv (pv 0)<|ai (aw bC bB (aw bC bB (aA az ay (ac<|pv 1) aj)<|aA az ay (ac<|pv 1) aj) aj) aH)<|aA az ay (ac<|pv 1) aj)<|ag (aw dW dS (aK<|aG (cR T) hr<|cv (pv 0)<|ai (aw bC bB (aw bC bB (aA az ay (ac<|pv 1) aj)<|aA az ay (ac<|pv 1) aj) aj) aH)<|aA az ay (ac<|pv 1) aj) am)
 (av (bf<|ba (i:=8) gL.nd<|bV<|dr<|ag iH<|ag ce<|ag (bV<|dr<|ag (aA az ay (ac<|pv 5) aj)<|ag (aA az ay (ac<|pv 5) aj) am)<|ag (aA az ay (ac<|pv 5) aj)<|ag (bm<|ag (aA az ay (ac<|pv 5) aj) am)<|ag (bm<|ag (bd (t:=aS) (da Ze6 rfl T.Zc9 boot_str (ag (aA az ay (ac<|pv 5) aj) am)) Zaj)<|ag (aA az ay (ac<|pv 5) aj) am)<|ag (bm<|ag (aA az ay (ac<|pv 5) aj)<|ag aj am) am)
 (av (bf<|ba (i:=8) gL.nd<|aw bC bB (ac<|pv 8)<|bV<|dr<|ag (bm<|ag (aA az ay (ac<|pv 5) aj)<|ag ce am)<|ag (bm<|ag (aw dW dS aj<|aA az ay (ac<|pv 5) aj)<|ag (aw dW dS aj<|aA az ay (ac<|pv 5) aj) am)<|ag (bm am)<|ag (bm<|ag (aA az ay (ac<|pv 5) aj)<|ag iH am)<|ag (bm<|ag (aA az ay (ac<|pv 5) aj)<|ag zX am)<|ag (bm<|ag (bV<|dr<|ag aj am)<|ag (aA az ay (ac<|pv 5) aj) am) am)
 (av (bU (bL gP cO (ac<|pv 3) aj<|nomark _)
  (aF<|a9<|bm<|ag (aK<|aG (zG T) hr<|ai (aw bC bB (aA az ay (ac<|pv 5) aj)<|ac<|pv 4)<|ai (aA az ay (ac<|pv 5) aj) aH)<|ag (ac<|pv 6) am)
  bT)
 (av (bU (bL gP cO (ac<|pv 3) aj<|nomark _)
  (aF<|a9<|bm<|ag (ac<|pv 5)<|ag (ac<|pv 7) am)
  bT)
 (av (bU (bL (ii hr) gZ (ac<|pv 3) aj<|nomark _)
  (aF<|a9<|bm<|ag (bm<|ag (aw b7 b6 aj<|aA az ay (ac<|pv 5) aj)<|ag (aw b7 b6 aj<|aA az ay (ac<|pv 5) aj) am)<|ag (ac<|pv 6) am)
  bT)
 (av (bU (bL gP cO (ac<|pv 3) aj<|nomark _)
  (aF<|a9<|bm<|ag (aA az ay (ac<|pv 8)<|aK<|aG (cR T) hr<|cv (pv 0)<|ai aj aH)<|ag (ac<|pv 6) am)
  bT)
 (av (bf<|ba (i:=9) gL.nd<|bV<|dr<|ag (bm<|ag (ac<|pv 5)<|ag (bV<|zS (t:=aS) (da vK rfl T.mJ boot_list (ag (ac<|pv 6) am)) wD) am)<|ag (bm<|ag (ac<|pv 5)<|ag (dt (ac<|pv 6) dL<|dc aj) am)<|ag (bm<|ag (ac<|pv 5)<|ag iH am)<|ag (bm<|ag (ac<|pv 5)<|ag (bm<|ag (aA az ay (ac<|pv 6) aj)<|ag ce am) am)<|ag (bm<|ag (ac<|pv 5) am)<|ag (bV<|dr<|ag (ac<|pv 5)<|ag (ac<|pv 6) am) am)
 (av (bf<|ba (i:=9) gL.nd<|aw bC bB (ac<|pv 9)<|bV<|dr<|ag (bm<|ag (ac<|pv 5)<|ag (bm<|ag (aA az ay (ac<|pv 6) aj)<|ag iH am) am)<|ag (bm<|ag (ac<|pv 5)<|ag (bm<|ag (bd (t:=aS) (da Ze6 rfl T.Zc9 boot_str (ag (aA az ay (ac<|pv 6) aj) am)) Zaj)<|ag (aA az ay (ac<|pv 6) aj) am) am)<|ag (bm<|ag (ac<|pv 5)<|ag (bm<|ag (bV<|dr<|ag aj am)<|ag (aA az ay (ac<|pv 6) aj) am) am)<|ag (bm<|ag (ac<|pv 5)<|ag zX am) am)
 (aF<|a9<|aA az ay (aw bC bB (ac<|pv 9)<|bV<|dr<|ag (bm<|ag (ac<|pv 6)<|ag (ac<|pv 5) am)<|ag (bm<|ag (ac<|pv 5)<|ag (ac<|pv 6)<|ag aj am)<|ag iH<|ag (ac<|pv 5) am)<|aK<|aG (cR T) hr<|cv (pv 0)<|ai aj aH)))))))))))))
def qg:DV:=bv 3 0
 (vW<|aB gR<|ah (aa 2)<|ah (aa 1)<|ah (ae ap (aa 0)<|aC<|.int 0) aD)
def Zni(T:Txt K mg):ACal (bw cn) P w K mg base "is_level" 3 ["shop","stock","thing"] qg:=bF T.ZlZ Zhx rfl λf FA A outer sh H E hr=>by exact(aF<|ZfG<|aG (Znf T) hr<|ai (ac<|pv 2)<|ai (ac<|pv 1)<|ai (aA az ay (ac<|pv 0)<|gl rfl T.yR) aH)
def xU:DR :=
 (bj<|af (aa 0)<|af (aa 1) ak)
def xT:DR :=
 (ae bg (aE<|aB lc<|ah (aa 2)<|ah (aa 0) aD)<|aE<|aB lc<|ah (aa 2)<|ah (aa 1) aD)
def mT:DV:=bv 1 0
 (aZ<|jw (cz<|aE<|aB gg<|ah (aa 0) aD) 2 [0] (bD<|aJ (ao 0)<|aJ (ao 1) bo) xU xT)
def Zfh(T:Txt K mg):ACal (bw cn) P w K mg base "end_of_both" 3 ["shop"] mT:=bF T.Zl4 Zhz rfl λf FA A outer sh H E hr=>by exact(aF<|a9<|ZfW (ZcP n6 ["one","other"] [0] hr.units0 rfl (de<|aK<|aG (lG T) hr<|ai (ac<|pv 0) aH) (λb=>(cS rfl (br (aV<|aT (i:=0)<|show((bN n6 ["one","other"] [0])).Nodup by trivial)<|br (aV<|aT (i:=1)<|show((bN n6 ["one","other"] [0])).Nodup by trivial) cJ) (bq<|bq cH))) (λb=>(bm<|ag (ac<|pv 0)<|ag (ac<|pv 1) am)) (λb=>(aw bC bB (aK<|aG (Zfi T) hr<|ai (ac<|pv 2)<|ai (ac<|pv 0) aH)<|aK<|aG (Zfi T) hr<|ai (ac<|pv 2)<|ai (ac<|pv 1) aH)) rfl (show BlkOk n6 (aP xk) _ [0]by trivial))<|kF<|ge (cp<|by decide)<|ge (cp<|by decide) kG)
def yx:DU :=
 (au (bb 12<|ae bg (aE<|aB le<|ah (aa 0)<|ah (aa 5)<|ah (aa 8) aD)<|aE<|aB le<|ah (aa 0)<|ah (aa 6)<|ah (aa 10) aD)
 (au (bb 13<|ae eO (aa 3)<|bj<|af (aE<|aB kU<|ah (aa 0)<|ah (aa 5)<|ah (aa 8) aD)<|af (aE<|aB kU<|ah (aa 0)<|ah (aa 6)<|ah (aa 10) aD) ak)
 (lU qz 7<|ae bX (aa 11)<|ae bg (ae bX (aa 4)<|aa 12)<|aa 13)))
def ZdB:DU :=
 (dR (lS<|aa 9) (bD<|aJ (ao 10)<|aJ (ao 11) bo) yx)
def p6:DV:=bv 5 9
 (au (gF (bD<|aJ (ao 5)<|aJ (ao 6) bo)<|aa 2)
 (au (bb 7<|aC<|.int 0)
 (au (dR (lS<|aa 1) (bD<|aJ (ao 8)<|aJ (ao 9) bo) ZdB)
 (fX 7))))
def Zm1(T:Txt K mg):ACal (bw cn) P w K mg base "weighed_both" 3 ["shop","day","raised","ahead","scale"] p6:=bF T.ZlJ gt rfl λf FA A outer sh H E hr=>by
 exact(av (iG<|fu (ac<|pv 2)<|cS rfl (br (aV<|aT (i:=5) gt.nd)<|br (aV<|aT (i:=6) gt.nd) cJ) (bq<|bq cH))
 (av (bf<|ba (i:=7) gt.nd aj)
 (av (eD A9 rfl (vR<|pC rfl rfl T.pQ (ac<|pv 1)) (cS rfl (br (aV<|aT (i:=8) gt.nd)<|br (aV<|aT (i:=9) gt.nd) cJ) (bq<|bq cH))
  (aF (eD A9 rfl (vR<|pC rfl rfl T.pQ (ac<|pv 9)) (cS rfl (br (aV<|aT (i:=10) gt.nd)<|br (aV<|aT (i:=11) gt.nd) cJ) (bq<|bq cH))
  (av (bf<|ba (i:=12) gt.nd<|aw bC bB (aK<|aG (Zfk T) hr<|ai (ac<|pv 0)<|ai (ac<|pv 5)<|ai (ac<|pv 8) aH)<|aK<|aG (Zfk T) hr<|ai (ac<|pv 0)<|ai (ac<|pv 6)<|ai (ac<|pv 10) aH)
 (av (bf<|ba (i:=13) gt.nd<|ju<|iX (fR hr) (ac<|pv 3) (bm<|ag (aK<|aG (zF T) hr<|ai (ac<|pv 0)<|ai (ac<|pv 5)<|ai (ac<|pv 8) aH)<|ag (aK<|aG (zF T) hr<|ai (ac<|pv 0)<|ai (ac<|pv 6)<|ai (ac<|pv 10) aH) am)<|λ_ _=>rfl)
 (aF<|zQ Zgj<|x3 (i:=7) gt.nd rfl (.inl rfl) (aw b7 b6 (ac<|pv 11)<|aw bC bB (aw b7 b6 (ac<|pv 4)<|ac<|pv 12)<|ac<|pv 13) (pip Zkv)))))))
 (aF<|nK<|pv 7))))
def xX:DR :=
 (bj<|af (ae bg (ae bX (aa 1)<|aE<|aB kT<|ah (aa 3)<|ah (aa 4)<|ah (aa 0) aD)<|ae eO (aa 2)<|aa 0)<|af (aa 0) ak)
def qj:DV:=bv 4 0
 (aZ<|bc pY<|af (bE<|dA (cz<|aE<|aB mM<|ah (aa 0)<|ah (aa 1) aD) 1 [3,2,0,1] (ao 0) xX) ak)
def Znn(T:Txt K mg):ACal (bw cn) P w K mg base "cheapest_raise" 3 ["shop","stand","behind","scale"] qj:=bF T.Zma ZhC rfl λf FA A outer sh H E hr=>by exact(aF<|a9<|bd (t:=aS) (aX (ZmV hr rfl) rfl T.Zjx boot_min (ag (bV<|fe (eW wj ["raised"] [3,2,0,1] rfl (de<|aK<|aG (Zfa T) hr<|ai (ac<|pv 0)<|ai (ac<|pv 1) aH) (λb=>(aV<|aT (i:=0)<|show((bN wj ["raised"] [3,2,0,1])).Nodup by trivial)) (λb=>(bm<|ag (aw bC bB (aw b7 b6 (ac<|pv 1)<|aK<|aG (zE T) hr<|ai (ac<|pv 3)<|ai (ac<|pv 4)<|ai (ac<|pv 0) aH)<|ju<|iX (fR hr) (ac<|pv 2) (ac<|pv 0)<|λ_ _=>rfl)<|ag (ac<|pv 0) am)) rfl (show BlkOk wj (aP xo) _ [3,2,0,1]by trivial))<|cp<|by decide) am)) Zgk)
def xW:DR :=
 (ae (cD λi j=>decide (i<j)) (ae bg (ae bX (aa 2)<|aE<|aB kT<|ah (aa 4)<|ah (aa 5)<|ah (aa 0) aD)<|ae eO (aa 3)<|aa 0)<|aa 1)
def nc:DU :=
 (au (bb 8<|ae bg (ae bX (aa 3)<|aE<|aB kT<|ah (aa 0)<|ah (aa 5)<|ah (aa 7) aD)<|ae eO (aa 2)<|aa 7)
 (au (bO (bu<|ae cQ (aE<|aB kR<|ah (aa 8)<|ah (aa 3) aD)<|aa 6)
  (aZ<|aC .none)
  bM)
 (au (bO (cU<|bc nM<|af (bE<|dA (cz<|aE<|aB mM<|ah (aa 0)<|ah (aa 5) aD) 1 [8,3,2,0,5] (ao 0) xW) ak)
  (aZ<|aC .none)
  bM)
 (lO 4 (aa 5)<|aa 8))))
def mV:DV:=bv 4 5
 (au (vT 4)
 (au (dR (iI (aE<|aB gg<|ah (aa 0) aD)<|aa 1) (bD<|aJ (ao 5)<|aJ (bD<|aJ (ao 6)<|aJ (ao 7) bo) bo) nc)
 (lQ 4<|fX 4)))
def Znm(T:Txt K mg):ACal (bw cn) P w K mg base "costs_looked_at" 3 ["shop","entries","behind","scale"] mV:=bF T.Zl8 kz rfl λf FA A outer sh H E hr=>by
 exact(av (ZfE<|ba (i:=4) kz.nd ZcO)
 (av (eD A9 rfl (lM<|kH rfl rfl T.kN (aK<|aG (lG T) hr<|ai (ac<|pv 0) aH) (ac<|pv 1)) (cS rfl (br (aV<|aT (i:=5) kz.nd)<|br (cS rfl (br (aV<|aT (i:=6) kz.nd)<|br (aV<|aT (i:=7) kz.nd) cJ) (bq<|bq cH)) cJ) (bq<|bq cH))
  (av (bf<|ba (i:=8) kz.nd<|aw bC bB (aw b7 b6 (ac<|pv 3)<|aK<|aG (zE T) hr<|ai (ac<|pv 0)<|ai (ac<|pv 5)<|ai (ac<|pv 7) aH)<|ju<|iX (fR hr) (ac<|pv 2) (ac<|pv 7)<|λ_ _=>rfl)
 (av (bU (bL (eX hr) eT (aK<|aG (Ze9 T) hr<|ai (ac<|pv 8)<|ai (ac<|pv 3) aH) (ac<|pv 6)<|nomark _)
  (aF<|a9 iH)
  bT)
 (av (bU (dq<|bd (t:=aS) (aX (Zm0 rfl) rfl T.Zjy boot_any (ag (bV<|fe (eW wg ["other"] [8,3,2,0,5] rfl (de<|aK<|aG (Zfa T) hr<|ai (ac<|pv 0)<|ai (ac<|pv 5) aH) (λb=>(aV<|aT (i:=0)<|show((bN wg ["other"] [8,3,2,0,5])).Nodup by trivial)) (λb=>(zZ gP cO (aw bC bB (aw b7 b6 (ac<|pv 2)<|aK<|aG (zE T) hr<|ai (ac<|pv 4)<|ai (ac<|pv 5)<|ai (ac<|pv 0) aH)<|ju<|iX (fR hr) (ac<|pv 3) (ac<|pv 0)<|λ_ _=>rfl) (ac<|pv 1)<|nomark _)) rfl (show BlkOk wg (aP xn) _ [8,3,2,0,5]by trivial))<|cp<|by decide) am)) Zgm)
  (aF<|a9 iH)
  bT)
 (aF<|ZfH<|ZcB (fR hr) (pv 4) (ac<|pv 5) (ac<|pv 8) rfl)))))
 (aF<|ZfI (k:=4)<|nK<|pv 4)))
def Zcv:DR :=
 (aE<|aB qa<|cg 1 aD)
def qb:DV:=bv 1 0
 (aZ<|bc ga<|af (bE<|dA (gm<|af (ae bg (aC<|.int 1)<|aE<|aB cG<|cg 0<|ah (aC<|.int 3) aD) ak) 1 [0] (ao 0) Zcv) ak)
def Znc(T:Txt K mg):ACal (bw cn) P w K mg base "_law_double" 3 ["_law_pen_here"] qb:=bF T.Zmv ZhI rfl λf FA A outer sh H E hr=>by exact(aF<|a9<|bd (t:=aS) (da jq rfl T.dY Ev (ag (bV<|fe (eW wt ["_law_k"] [0] rfl (gX<|gO rfl T.eZ (ag (aw bC bB aj<|aK<|aG (cR T) hr<|cv (pv 0)<|ai aj aH) am)) (λb=>(aV<|aT (i:=0)<|show((bN wt ["_law_k"] [0])).Nodup by trivial)) (λb=>(aK<|aG (Znb T) hr<|cv (pv 1) aH)) rfl (show BlkOk wt (aP xv) _ [0]by trivial))<|cp<|by decide) am)) iL)
def pe:DR :=
 (aa 0)
def pG:DT :=
 (dw<|cU<|aE<|aB eC<|ah (aa 1)<|ah (ae ap (aa 2)<|aa 0)<|ah (ae ap (aa 3)<|aa 0) aD)
def ji:DU :=
 (au (bO (eE (dw<|cU<|eS "tuple"<|aa 4)<|bu<|ae cQ (bc cj<|af (aa 4) ak)<|bc cj<|af (aa 3) ak)
  (aZ<|aC<|.bool false)
  bM)
 (bO (bu<|ae kL (bE<|jv (gm<|af (bc cj<|af (aa 4) ak) ak) 1 [0,3,4] (ao 0) pG pe)<|bE<|cW ak)
  (aZ<|aC<|.bool false)
  bM))
def jR:DV:=bv 3 2
 (au (bO (eE (dw<|cU<|eS "tuple"<|aa 2)<|bu<|ae cQ (bc cj<|af (aa 2) ak)<|bc cj<|af (aa 1) ak)
  (aZ<|aC<|.bool false)
  bM)
 (au (bb 3<|bE<|gE hU<|af (aE<|aB kY<|ah (aa 0) aD) ak)
 (au (dR (cz<|aa 2) (ao 4) ji)
 (aZ<|aC<|.bool true))))
def Zna(T:Txt K mg):ACal (bw cn) P w K mg base "_law_has_form" 3 ["_law_shop_here","_law_double_here","_law_thing"] jR:=bF T.Zmq xb rfl λf FA A outer sh H E hr=>by
 exact(av (bU (eQ<|eP (dQ<|dq<|fI (T:="tuple") (Or.inr<|Or.inr<|Or.inr<|Or.inr<|.inl rfl) rfl (aX fG rfl T.fx En (bx (ac<|pv 2)<|bx (fv (v:=.ty "tuple") rfl T.dY Ev rfl) cf)))<|fH<|bL (eX hr) eT (bd (t:=aS) (aX cI rfl T.cF Et (ag (ac<|pv 2) am)) cY) (bd (t:=aS) (aX cI rfl T.cF Et (ag (ac<|pv 1) am)) cY)<|nomark _)
 (aF<|a9 ce)
 bT)
 (av (bf<|ba (i:=3) xb.nd<|bV<|vQ (t:=aS) (aX (vI rfl) rfl T.pO boot_sorted (ag (aK<|aG (zK T) hr<|ai (ac<|pv 0) aH) am))<|oi notup)
 (av (eD A9 rfl (de<|ac<|pv 2) (aV<|aT (i:=4) xb.nd)
  (av (bU (eQ<|eP (dQ<|dq<|fI (T:="tuple") (Or.inr<|Or.inr<|Or.inr<|Or.inr<|.inl rfl) rfl (aX fG rfl T.fx En (bx (ac<|pv 4)<|bx (fv (v:=.ty "tuple") rfl T.dY Ev rfl) cf)))<|fH<|bL (eX hr) eT (bd (t:=aS) (aX cI rfl T.cF Et (ag (ac<|pv 4) am)) cY) (bd (t:=aS) (aX cI rfl T.cF Et (ag (ac<|pv 3) am)) cY)<|nomark _)
  (aF<|a9 ce)
  bT)
 (aF (bU (bL (ZcV hr) Zah (bV<|ZfM (ZcM wq ["_law_k"] [0,3,4] rfl (gX<|gO rfl T.eZ (ag (bd (t:=aS) (aX cI rfl T.cF Et (ag (ac<|pv 4) am)) cY) am)) (λb=>(aV<|aT (i:=0)<|show((bN wq ["_law_k"] [0,3,4])).Nodup by trivial)) (λb=>(dQ<|dq<|aK<|aG (Zm9 T) hr<|ai (ac<|pv 1)<|ai (aA az ay (ac<|pv 2)<|ac<|pv 0)<|ai (aA az ay (ac<|pv 3)<|ac<|pv 0) aH)) (λb=>(ac<|pv 0)) rfl (show BlkOk wq (aP xu) _ [0,3,4]by trivial))<|cp<|by decide) (bV<|dr am)<|nomark _)
  (aF<|a9 ce)
  bT))))
 (aF<|a9 ce))))
def qr:DU :=
 (bb 2<|ae bX (aa 2)<|ae ap (aE<|aB jP<|ah (aa 2)<|ah (ae ap (aa 3)<|aC<|.int 1) aD)<|aC<|.int 1)
def pc:DR :=
 (bj<|af (ae ap (aa 1)<|aa 0)<|af (ae bX (ae ap (ae ap (ae ap (ae ap (aa 3)<|aC<|.int 0)<|aa 0)<|aC<|.int 0)<|aC<|.int 0)<|ae iB (aa 2)<|ae ap (ae ap (ae ap (ae ap (aa 3)<|aC<|.int 0)<|aa 0)<|aC<|.int 0)<|aC<|.int 1) ak)
def kX:DV:=bv 2 4
 (au (bO (bu<|ae dP (aa 1)<|bj ak)
  (j9<|cW<|af (aE<|aB kY<|ah (aa 0) aD)<|af (aC<|.int 1) ak)
  bM)
 (au (bb 2<|aC<|.int 1)
 (au (dR (cz<|ae ap (aa 1)<|aC<|.int 0) (bD<|aJ (ao 3)<|aJ (ao 4) bo) qr)
 (au (bb 5<|bE<|gE hU<|af (aE<|aB kY<|ah (aa 0) aD) ak)
 (j9<|cW<|af (bc iF<|af (bE<|dA (gm<|af (bc cj<|af (aa 5) ak) ak) 1 [5,2,1] (ao 0) pc) ak)<|af (aa 2) ak)))))
def Zff(T:Txt K mg):ACal (bw cn) P w K mg base "_law_later" 3 ["_law_shop_here","_law_rows"] kX:=bF T.Zmn kA rfl λf FA A outer sh H E hr=>by
 exact(av (bU (bL (ii hr) gZ (ac<|pv 1) (bm am)<|nomark _)
 (aF<|nL<|dr<|ag (aK<|aG (zK T) hr<|ai (ac<|pv 0) aH)<|ag aj am)
 bT)
 (av (bf<|ba (i:=2) kA.nd aj)
 (av (eD A9 rfl (de<|aA az ay (ac<|pv 1) aj) (cS rfl (br (aV<|aT (i:=3) kA.nd)<|br (aV<|aT (i:=4) kA.nd) cJ) (bq<|bq cH))
  (aF<|bf<|ba (i:=2) kA.nd<|aw b7 b6 (ac<|pv 2)<|aA az ay (aK<|aG (zG T) hr<|ai (ac<|pv 2)<|ai (aA az ay (ac<|pv 3) aj) aH) aj))
 (av (bf<|ba (i:=5) kA.nd<|bV<|vQ (t:=aS) (aX (vI rfl) rfl T.pO boot_sorted (ag (aK<|aG (zK T) hr<|ai (ac<|pv 0) aH) am))<|oi notup)
 (aF<|nL<|dr<|ag (bd (t:=aS) (da (zx hr.units rfl) rfl T.yi boot_dict (ag (bV<|fe (eW wm ["_law_k"] [5,2,1] rfl (gX<|gO rfl T.eZ (ag (bd (t:=aS) (aX cI rfl T.cF Et (ag (ac<|pv 5) am)) cY) am)) (λb=>(aV<|aT (i:=0)<|show((bN wm ["_law_k"] [5,2,1])).Nodup by trivial)) (λb=>(bm<|ag (aA az ay (ac<|pv 1)<|ac<|pv 0)<|ag (aw b7 b6 (aA az ay (aA az ay (aA az ay (aA az ay (ac<|pv 3) aj)<|ac<|pv 0) aj) aj)<|aw mH l5 (ac<|pv 2)<|aA az ay (aA az ay (aA az ay (aA az ay (ac<|pv 3) aj)<|ac<|pv 0) aj) aj) am)) rfl (show BlkOk wm (aP xr) _ [5,2,1]by trivial))<|cp<|by decide) am)) wE)<|ag (ac<|pv 2) am)))))
def xO:Fl Sl -> Tr Fn :=
 (bc dO<|af (aa 0) ak)
def xN:Fl Sl -> Tr Fn :=
 (bj<|af (aa 0)<|af (aE<|aB mS<|ah (aa 1)<|ah (aa 2)<|ah (aa 3)<|ah (aa 4)<|ah (aa 0) aD) ak)
def lg:Fl Sl -> Tr Ou :=
 (bO (vZ (bu<|ae (cD λi j=>decide (i≥j)) (ae ap (aa 11)<|aC<|.int 0)<|ae ap (aa 8)<|aC<|.int 0)<|bu<|ae (cD λi j=>decide (i≥j)) (ae ap (aa 11)<|aC<|.int 1)<|ae ap (aa 8)<|aC<|.int 1)
  (bO (bu<|ae (cD λi j=>decide (i<j)) (ae bX (ae bg (ae eO (aa 7)<|aa 11)<|ae bX (aE<|aB ja<|ah (aa 0)<|ah (aa 8)<|ah (aa 11) aD)<|aa 5)<|ae ap (aa 9)<|aC<|.int 1)<|ae bX (ae ap (aa 9)<|aC<|.int 0)<|aa 5)
  (aZ<|aC<|.bool false)
  bM)
  bM)
def m8:Fl Sl -> Tr Ou :=
 (au (bO (bu<|ae cQ (ae bX (ae bg (ae eO (aa 7)<|aa 10)<|ae bX (aE<|aB ja<|ah (aa 0)<|ah (aa 8)<|ah (aa 10) aD)<|aa 5)<|ae ap (aa 9)<|aC<|.int 1)<|ae bX (ae ap (aa 9)<|aC<|.int 0)<|aa 5)
  (aZ<|aC<|.bool false)
  bM)
 (dR (cz<|aa 6) (ao 11) lg))
def mQ:Fl Sl -> Tr Re := bv 5 7
 (au (bb 5<|ae bX (aa 4)<|bc dO<|af (bE<|dA (cz<|aa 1) 1 [] (ao 0) xO) ak)
 (au (bb 6<|bE<|gE hU<|af (aa 3) ak)
 (au (bb 7<|bc iF<|af (bE<|dA (cz<|aa 6) 1 [0, 1, 3, 4] (ao 0) xN) ak)
 (au (dR (iI (aa 6)<|aa 2) (bD<|aJ (ao 8)<|aJ (bD<|aJ (ao 9)<|aJ (ao 10) bo) bo) m8)
 (aZ<|aC<|.bool true)))))
def Zm5(T:Txt K mg):ACal (bw cn) P w K mg base "_law_row_holds" 3 ["_law_shop_here", "_law_one", "_law_row", "_law_later_here", "_law_bottom"] mQ := bF T.Zmf iQ rfl fun f FA A outer sh H E hr => by
 exact(av (bf<|ba (i := 5) iQ.nd<|aw b7 b6 (ac<|pv 4)<|bd (t := aS) (aX (jr rfl) rfl T.i6 Fi (ag (bV<|fe (eW ke ["_law_line"] [] rfl (de<|ac<|pv 1) (λb => (aV<|aT (i := 0)<|show((bN ke ["_law_line"] [])).Nodup by trivial)) (λb => (bd (t := aS) (aX (jr rfl) rfl T.i6 Fi (ag (ac<|pv 0) am)) iM)) rfl (show BlkOk ke (aP oW) _ []from⟨rfl, by trivial, by trivial, by trivial, by trivial⟩))<|cp<|by decide) am)) iM)
 (av (bf<|ba (i := 6) iQ.nd<|bV<|vQ (t := aS) (aX (vI rfl) rfl T.pO boot_sorted (ag (ac<|pv 3) am))<|oi notup)
 (av (bf<|ba (i := 7) iQ.nd<|bd (t := aS) (da (zx hr.units rfl) rfl T.yi boot_dict (ag (bV<|fe (eW ke ["_law_goal"] [0, 1, 3, 4] rfl (de<|ac<|pv 6) (λb => (aV<|aT (i := 0)<|show((bN ke ["_law_goal"] [0, 1, 3, 4])).Nodup by trivial)) (λb => (bm<|ag (ac<|pv 0)<|ag (aK<|aG (Zfe T) hr<|ai (ac<|pv 1)<|ai (ac<|pv 2)<|ai (ac<|pv 3)<|ai (ac<|pv 4)<|ai (ac<|pv 0) aH) am)) rfl (show BlkOk ke (aP oW) _ [0, 1, 3, 4]from⟨rfl, by trivial, by trivial, by trivial, by trivial⟩))<|cp<|by decide) am)) wE)
 (av (eD A9 rfl (lM<|kH rfl rfl T.kN (ac<|pv 6) (ac<|pv 2)) (cS rfl (br (aV<|aT (i := 8) iQ.nd)<|br (cS rfl (br (aV<|aT (i := 9) iQ.nd)<|br (aV<|aT (i := 10) iQ.nd) cJ) (bq<|bq cH)) cJ) (bq<|bq cH))
  (av (bU (bL (eX hr) eT (aw b7 b6 (aw bC bB (ju<|iX (fR hr) (ac<|pv 7) (ac<|pv 10)<|λ_ _=>rfl)<|aw b7 b6 (aK<|aG (zJ T) hr<|ai (ac<|pv 0)<|ai (ac<|pv 8)<|ai (ac<|pv 10) aH)<|ac<|pv 5)<|aA az ay (ac<|pv 9) aj) (aw b7 b6 (aA az ay (ac<|pv 9) aj)<|ac<|pv 5)<|nomark _)
  (aF<|a9 ce)
  bT)
 (aF (eD A9 rfl (de<|ac<|pv 6) (aV<|aT (i := 11) iQ.nd)
  (aF (bU (eQ<|Zfy (bL mG cO (aA az ay (ac<|pv 11) aj) (aA az ay (ac<|pv 8) aj)<|nomark _)<|Zfx<|bL mG cO (aA az ay (ac<|pv 11) aj) (aA az ay (ac<|pv 8) aj)<|nomark _)
  (aF (bU (bL gP cO (aw b7 b6 (aw bC bB (ju<|iX (fR hr) (ac<|pv 7) (ac<|pv 11)<|λ_ _=>rfl)<|aw b7 b6 (aK<|aG (zJ T) hr<|ai (ac<|pv 0)<|ai (ac<|pv 8)<|ai (ac<|pv 11) aH)<|ac<|pv 5)<|aA az ay (ac<|pv 9) aj) (aw b7 b6 (aA az ay (ac<|pv 9) aj)<|ac<|pv 5)<|nomark _)
  (aF<|a9 ce)
  bT))
  bT))))))
 (aF<|a9 ce)))))
def qd:DV:=bv 3 6
 (au (bb 3<|aE<|aB cG<|cg 0<|ah (aC<|.int 10) aD)
 (au (bb 4<|aE<|aB cG<|cg 0<|ah (bc cj<|af (aa 2) ak) aD)
 (au (bb 5<|ae ap (aa 2)<|aa 4)
 (au (bb 6<|aE<|aB cG<|cg 0<|ah (bc cj<|af (aa 5) ak) aD)
 (au (bb 7<|aE<|aB qc<|cg 0<|ah (aa 1)<|ah (ae ap (aa 5)<|aa 6) aD)
 (au (bO (bu<|ae (cD λi j=>decide (i<j)) (aa 3)<|aC<|.int 6)
  (aZ<|ae dM (ae dM (cV (aa 2) df<|cK<|aa 4)<|bj<|af (ae dM (ae dM (cV (aa 5) df<|cK<|aa 6)<|bj<|af (aa 7) ak)<|cV (aa 5) (cK<|ae bg (aa 6)<|aC<|.int 1) df) ak)<|cV (aa 2) (cK<|ae bg (aa 4)<|aC<|.int 1) df)
  bM)
 (au (bO (bu<|ae dP (aa 3)<|aC<|.int 6)
  (aZ<|ae dM (cV (aa 2) (cK<|aa 4) df)<|cV (aa 2) df<|cK<|aa 4)
  bM)
 (au (bO (bu<|ae dP (aa 3)<|aC<|.int 7)
  (aZ<|ae dM (ae dM (cV (aa 2) df<|cK<|aa 4)<|bj<|af (ae dM (cV (aa 5) df<|cK<|aa 6)<|cV (aa 5) (cK<|ae bg (aa 6)<|aC<|.int 1) df) ak)<|cV (aa 2) (cK<|ae bg (aa 4)<|aC<|.int 1) df)
  bM)
 (au (bO (bu<|ae dP (aa 3)<|aC<|.int 8)
  (aZ<|ae dM (ae dM (cV (aa 2) df<|cK<|aa 4)<|bj<|af (ae dM (ae dM (cV (aa 5) df<|cK<|aa 6)<|cV (aa 5) (cK<|aa 6)<|cK<|ae bg (aa 6)<|aC<|.int 1)<|cV (aa 5) (cK<|aa 6) df) ak)<|cV (aa 2) (cK<|ae bg (aa 4)<|aC<|.int 1) df)
  bM)
 (au (bb 8<|bE<|cW<|af (bE<|gE jT<|af (aa 2) ak)<|af (aC .none)<|af (aC<|.bool true)<|af (aC<|.int 0)<|af (aC<|.str "")<|af (bj ak)<|af (ae bg (aa 2)<|cV (aa 2) df<|cK<|aC<|.int 1)<|af (cV (aa 2) (cK<|aC<|.int 1) df)<|af (ae dM (ae dM (cV (aa 2) df<|cK<|aa 4)<|bj<|af (bE<|gE jT<|af (aa 5) ak) ak)<|cV (aa 2) (cK<|ae bg (aa 4)<|aC<|.int 1) df) ak)
 (aZ<|ae ap (ae bg (aa 8)<|bE<|cW<|af (aC<|.dict []) ak)<|aE<|aB cG<|cg 0<|ah (aC<|.int 10) aD)))))))))))
def Zne(T:Txt K mg):ACal (bw cn) P w K mg base "_law_bent" 3 ["_law_pen_here","_law_shop_here","_law_paper"] qd:=bF T.Zmx jI rfl λf FA A outer sh H E hr=>by
 exact(av (bf<|ba (i:=3) jI.nd<|aK<|aG (cR T) hr<|cv (pv 0)<|ai aj aH)
 (av (bf<|ba (i:=4) jI.nd<|aK<|aG (cR T) hr<|cv (pv 0)<|ai (bd (t:=aS) (aX cI rfl T.cF Et (ag (ac<|pv 2) am)) cY) aH)
 (av (bf<|ba (i:=5) jI.nd<|aA az ay (ac<|pv 2)<|ac<|pv 4)
 (av (bf<|ba (i:=6) jI.nd<|aK<|aG (cR T) hr<|cv (pv 0)<|ai (bd (t:=aS) (aX cI rfl T.cF Et (ag (ac<|pv 5) am)) cY) aH)
 (av (bf<|ba (i:=7) jI.nd<|aK<|aG (Znd T) hr<|cv (pv 0)<|ai (ac<|pv 1)<|ai (aA az ay (ac<|pv 5)<|ac<|pv 6) aH)
 (av (bU (bL gP cO (ac<|pv 3) aj<|nomark _)
  (aF<|a9<|aw eY eU (aw eY eU (dt (ac<|pv 2) dL<|dc<|ac<|pv 4)<|bm<|ag (aw eY eU (aw eY eU (dt (ac<|pv 5) dL<|dc<|ac<|pv 6)<|bm<|ag (ac<|pv 7) am)<|dt (ac<|pv 5) (dc<|aw bC bB (ac<|pv 6) aj) dL) am)<|dt (ac<|pv 2) (dc<|aw bC bB (ac<|pv 4) aj) dL)
  bT)
 (av (bU (bL (ii hr) gZ (ac<|pv 3) aj<|nomark _)
  (aF<|a9<|aw eY eU (dt (ac<|pv 2) (dc<|ac<|pv 4) dL)<|dt (ac<|pv 2) dL<|dc<|ac<|pv 4)
  bT)
 (av (bU (bL (ii hr) gZ (ac<|pv 3) aj<|nomark _)
  (aF<|a9<|aw eY eU (aw eY eU (dt (ac<|pv 2) dL<|dc<|ac<|pv 4)<|bm<|ag (aw eY eU (dt (ac<|pv 5) dL<|dc<|ac<|pv 6)<|dt (ac<|pv 5) (dc<|aw bC bB (ac<|pv 6) aj) dL) am)<|dt (ac<|pv 2) (dc<|aw bC bB (ac<|pv 4) aj) dL)
  bT)
 (av (bU (bL (ii hr) gZ (ac<|pv 3) aj<|nomark _)
  (aF<|a9<|aw eY eU (aw eY eU (dt (ac<|pv 2) dL<|dc<|ac<|pv 4)<|bm<|ag (aw eY eU (aw eY eU (dt (ac<|pv 5) dL<|dc<|ac<|pv 6)<|dt (ac<|pv 5) (dc<|ac<|pv 6)<|dc<|aw bC bB (ac<|pv 6) aj)<|dt (ac<|pv 5) (dc<|ac<|pv 6) dL) am)<|dt (ac<|pv 2) (dc<|aw bC bB (ac<|pv 4) aj) dL)
  bT)
 (av (bf<|ba (i:=8) jI.nd<|bV<|dr<|ag (bV<|zS (t:=aS) (da vK rfl T.mJ boot_list (ag (ac<|pv 2) am)) wD)<|ag iH<|ag ce<|ag aj<|ag zX<|ag (bm am)<|ag (aw bC bB (ac<|pv 2)<|dt (ac<|pv 2) dL<|dc aj)<|ag (dt (ac<|pv 2) (dc aj) dL)<|ag (aw eY eU (aw eY eU (dt (ac<|pv 2) dL<|dc<|ac<|pv 4)<|bm<|ag (bV<|zS (t:=aS) (da vK rfl T.mJ boot_list (ag (ac<|pv 5) am)) wD) am)<|dt (ac<|pv 2) (dc<|aw bC bB (ac<|pv 4) aj) dL) am)
 (aF<|a9<|aA az ay (aw bC bB (ac<|pv 8)<|bV<|dr<|ag ZnN am)<|aK<|aG (cR T) hr<|cv (pv 0)<|ai aj aH)))))))))))
def xZ:DR :=
 (aa 0)
def xY:DR :=
 (aE<|aB p6<|ah (aa 1)<|ah (aa 2)<|ah (aa 0)<|ah (aa 3)<|ah (aa 4) aD)
def mX:DV:=bv 4 0
 (aZ<|jw (cz<|aE<|aB gg<|ah (aa 0) aD) 1 [0,1,2,3] (ao 0) xZ xY)
def Zfm(T:Txt K mg):ACal (bw cn) P w K mg base "behind_raises" 4 ["shop","day","ahead","scale"] mX:=bF T.Zmb ZhD rfl λf FA A outer sh H E hr=>by exact(aF<|a9<|ZfW (ZcP wk ["raised"] [0,1,2,3] hr.units0 rfl (de<|aK<|aG (lG T) hr<|ai (ac<|pv 0) aH) (λb=>(aV<|aT (i:=0)<|show((bN wk ["raised"] [0,1,2,3])).Nodup by trivial)) (λb=>(ac<|pv 0)) (λb=>(aK<|aG (Zm1 T) hr<|ai (ac<|pv 1)<|ai (ac<|pv 2)<|ai (ac<|pv 0)<|ai (ac<|pv 3)<|ai (ac<|pv 4) aH)) rfl (show BlkOk wk (aP xp) _ [0,1,2,3]by trivial))<|cp<|by decide)
def mw:DR :=
 (aE<|aB qg<|ah (aa 2)<|ah (aa 0)<|ah (aa 1) aD)
def jb:DV:=bv 3 0
 (au (bO (eE (dw<|cU<|eS "tuple"<|aa 2)<|bu<|ae cQ (bc cj<|af (aa 2) ak)<|aC<|.int 2)
  (aZ<|aC<|.bool false)
  bM)
 (aZ<|bc js<|af (bE<|dA (iI (aa 1)<|aa 2) 2 [0] (bD<|aJ (ao 0)<|aJ (ao 1) bo) mw) ak))
def Znh(T:Txt K mg):ACal (bw cn) P w K mg base "is_raise" 4 ["shop","stand","thing"] jb:=bF T.ZlY Zhw rfl λf FA A outer sh H E hr=>by
 exact(av (bU (eQ<|eP (dQ<|dq<|fI (T:="tuple") (Or.inr<|Or.inr<|Or.inr<|Or.inr<|.inl rfl) rfl (aX fG rfl T.fx En (bx (ac<|pv 2)<|bx (fv (v:=.ty "tuple") rfl T.dY Ev rfl) cf)))<|fH<|bL (eX hr) eT (bd (t:=aS) (aX cI rfl T.cF Et (ag (ac<|pv 2) am)) cY) aj<|nomark _)
 (aF<|a9 ce)
 bT)
 (aF<|a9<|bd (t:=aS) (aX (zy rfl) rfl T.yj boot_all (ag (bV<|fe (eW nZ ["stock","level"] [0] rfl (lM<|kH rfl rfl T.kN (ac<|pv 1) (ac<|pv 2)) (λb=>(cS rfl (br (aV<|aT (i:=0)<|show((bN nZ ["stock","level"] [0])).Nodup by trivial)<|br (aV<|aT (i:=1)<|show((bN nZ ["stock","level"] [0])).Nodup by trivial) cJ) (bq<|bq cH))) (λb=>(aK<|aG (Zni T) hr<|ai (ac<|pv 2)<|ai (ac<|pv 0)<|ai (ac<|pv 1) aH)) rfl (show BlkOk nZ (aP xh) _ [0]by trivial))<|kF<|ge (cp<|by decide)<|ge (cp<|by decide) kG) am)) wF))
def qq:DU :=
 (au (gF (lu<|aJ (ao 4)<|aJ (ao 5) bo)<|aE<|aB kX<|ah (aa 0)<|ah (cV (aa 2) (cK<|ae bg (aa 3)<|aC<|.int 1) df) aD)
 (bO (dw<|cU<|aE<|aB mQ<|ah (aa 0)<|ah (ae ap (aa 1)<|aa 3)<|ah (ae ap (aa 2)<|aa 3)<|ah (aa 4)<|ah (aa 5) aD)
  (aZ<|aC<|.bool false)
  bM))
def jQ:DV:=bv 3 3
 (au (bO (dw<|cU<|aE<|aB jR<|ah (aa 0)<|ah (aa 1)<|ah (aa 2) aD)
  (aZ<|aC<|.bool false)
  bM)
 (au (dR (gm<|af (bc cj<|af (aa 1) ak) ak) (ao 3) qq)
 (aZ<|aC<|.bool true)))
def Zm7(T:Txt K mg):ACal (bw cn) P w K mg base "_law_lets" 4 ["_law_shop_here","_law_double_here","_law_thing"] jQ:=bF T.Zmm oT rfl λf FA A outer sh H E hr=>by
 exact(av (bU (dQ<|dq<|aK<|aG (Zna T) hr<|ai (ac<|pv 0)<|ai (ac<|pv 1)<|ai (ac<|pv 2) aH)
 (aF<|a9 ce)
 bT)
 (av (eD A9 rfl (gX<|gO rfl T.eZ (ag (bd (t:=aS) (aX cI rfl T.cF Et (ag (ac<|pv 1) am)) cY) am)) (aV<|aT (i:=3) oT.nd)
  (av (iG<|fu (aK<|aG (Zff T) hr<|ai (ac<|pv 0)<|ai (dt (ac<|pv 2) (dc<|aw bC bB (ac<|pv 3) aj) dL) aH)<|ZfU rfl (br (aV<|aT (i:=4) oT.nd)<|br (aV<|aT (i:=5) oT.nd) cJ) (bq<|bq cH))
 (aF (bU (dQ<|dq<|aK<|aG (Zm5 T) hr<|ai (ac<|pv 0)<|ai (aA az ay (ac<|pv 1)<|ac<|pv 3)<|ai (aA az ay (ac<|pv 2)<|ac<|pv 3)<|ai (ac<|pv 4)<|ai (ac<|pv 5) aH)
  (aF<|a9 ce)
  bT))))
 (aF<|a9 ce)))
def xQ:DR :=
 (bc dO<|af (aa 0) ak)
def xP:DR :=
 (bj<|af (aa 0)<|af (aE<|aB mS<|ah (aa 1)<|ah (ae ap (aa 4)<|aa 5)<|ah (aa 2)<|ah (aa 3)<|ah (aa 0) aD) ak)
def mr:DR :=
 (aa 0)
def mD:DT :=
 (vZ (bu<|ae (cD λi j=>decide (i≥j)) (ae ap (aa 0)<|aC<|.int 0)<|ae ap (aa 1)<|aC<|.int 0)<|bu<|ae (cD λi j=>decide (i≥j)) (ae ap (aa 0)<|aC<|.int 1)<|ae ap (aa 1)<|aC<|.int 1)
def pb:DR :=
 (aa 0)
def pF:DT :=
 (bu<|ae dP (ae bX (ae bg (ae eO (aa 3)<|aa 0)<|ae bX (aE<|aB ja<|ah (aa 5)<|ah (aa 6)<|ah (aa 0) aD)<|aa 4)<|ae ap (aa 2)<|aC<|.int 1)<|aa 1)
def ZdE:DU :=
 (au (bb 15<|bE<|jv (cz<|aa 9) 1 [12] (ao 0) mD mr)
 (au (bb 16<|ae bX (ae ap (aa 13)<|aC<|.int 0)<|aa 8)
 (au (bb 15<|bE<|jv (cz<|aa 15) 1 [16,13,10,8,1,12] (ao 0) pF pb)
 (lV 11<|bj<|af (aa 13)<|af (ae ap (aa 15)<|aE<|aB cG<|cg 0<|ah (bc cj<|af (aa 15) ak) aD) ak))))
def yz:DU :=
 (au (gF (lu<|aJ (ao 6)<|aJ (ao 7) bo)<|aE<|aB kX<|ah (aa 1)<|ah (cV (aa 3) (cK<|ae bg (aa 5)<|aC<|.int 1) df) aD)
 (au (bb 8<|ae bX (aa 7)<|bc dO<|af (bE<|dA (cz<|ae ap (aa 2)<|aa 5) 1 [] (ao 0) xQ) ak)
 (au (bb 9<|bE<|gE hU<|af (aa 6) ak)
 (au (bb 10<|bc iF<|af (bE<|dA (cz<|aa 9) 1 [1,6,7,2,5] (ao 0) xP) ak)
 (au (j8 11<|cW ak)
 (au (dR (iI (aa 9)<|ae ap (aa 3)<|aa 5) (bD<|aJ (ao 12)<|aJ (bD<|aJ (ao 13)<|aJ (ao 14) bo) bo) ZdE)
 (lR 11<|lV 4<|bc ga<|af (aa 11) ak)))))))
def p8:DV:=bv 4 13
 (au (j8 4<|cW ak)
 (au (dR (gm<|af (bc cj<|af (aa 2) ak) ak) (ao 5) yz)
 (lR 4<|aZ<|bc ga<|af (aa 4) ak)))
def Zm6(T:Txt K mg):ACal (bw cn) P w K mg base "_law_other_raises" 4 ["_law_pen_here","_law_shop_here","_law_double_here","_law_paper"] p8:=bF T.Zmi eV rfl λf FA A outer sh H E hr=>by
 exact(av (vM<|ba (i:=4) eV.nd<|dr am)
 (av (eD A9 rfl (gX<|gO rfl T.eZ (ag (bd (t:=aS) (aX cI rfl T.cF Et (ag (ac<|pv 2) am)) cY) am)) (aV<|aT (i:=5) eV.nd)
  (av (iG<|fu (aK<|aG (Zff T) hr<|ai (ac<|pv 1)<|ai (dt (ac<|pv 3) (dc<|aw bC bB (ac<|pv 5) aj) dL) aH)<|ZfU rfl (br (aV<|aT (i:=6) eV.nd)<|br (aV<|aT (i:=7) eV.nd) cJ) (bq<|bq cH))
 (av (bf<|ba (i:=8) eV.nd<|aw b7 b6 (ac<|pv 7)<|bd (t:=aS) (aX (jr rfl) rfl T.i6 Fi (ag (bV<|fe (eW fZ ["_law_line"] [] rfl (de<|aA az ay (ac<|pv 2)<|ac<|pv 5) (λb=>(aV<|aT (i:=0)<|show((bN fZ ["_law_line"] [])).Nodup by trivial)) (λb=>(bd (t:=aS) (aX (jr rfl) rfl T.i6 Fi (ag (ac<|pv 0) am)) iM)) rfl (show BlkOk fZ (aP kC) _ []by trivial))<|cp<|by decide) am)) iM)
 (av (bf<|ba (i:=9) eV.nd<|bV<|vQ (t:=aS) (aX (vI rfl) rfl T.pO boot_sorted (ag (ac<|pv 6) am))<|oi notup)
 (av (bf<|ba (i:=10) eV.nd<|bd (t:=aS) (da (zx hr.units rfl) rfl T.yi boot_dict (ag (bV<|fe (eW fZ ["_law_goal"] [1,6,7,2,5] rfl (de<|ac<|pv 9) (λb=>(aV<|aT (i:=0)<|show((bN fZ ["_law_goal"] [1,6,7,2,5])).Nodup by trivial)) (λb=>(bm<|ag (ac<|pv 0)<|ag (aK<|aG (Zfe T) hr<|ai (ac<|pv 1)<|ai (aA az ay (ac<|pv 4)<|ac<|pv 5)<|ai (ac<|pv 2)<|ai (ac<|pv 3)<|ai (ac<|pv 0) aH) am)) rfl (show BlkOk fZ (aP kC) _ [1,6,7,2,5]by trivial))<|cp<|by decide) am)) wE)
 (av (vM<|ba (i:=11) eV.nd<|dr am)
 (av (eD A9 rfl (lM<|kH rfl rfl T.kN (ac<|pv 9) (aA az ay (ac<|pv 3)<|ac<|pv 5)) (cS rfl (br (aV<|aT (i:=12) eV.nd)<|br (cS rfl (br (aV<|aT (i:=13) eV.nd)<|br (aV<|aT (i:=14) eV.nd) cJ) (bq<|bq cH)) cJ) (bq<|bq cH))
  (av (ZfF (ZcA (i:=15) fZ ["_law_one"] [12] rfl eV.nd rfl rfl (de<|ac<|pv 9) (λb=>(aV<|aT (i:=0)<|show((bN fZ ["_law_one"] [12])).Nodup by trivial)) (λb=>(eQ<|Zfy (bL mG cO (aA az ay (ac<|pv 0) aj) (aA az ay (ac<|pv 1) aj)<|nomark _)<|Zfx<|bL mG cO (aA az ay (ac<|pv 0) aj) (aA az ay (ac<|pv 1) aj)<|nomark _)) (λb=>(ac<|pv 0)) rfl (show BlkOk fZ (aP kC) _ [12]by trivial) rfl)<|cp<|by decide)
 (av (bf<|ba (i:=16) eV.nd<|aw b7 b6 (aA az ay (ac<|pv 13) aj)<|ac<|pv 8)
 (av (ZfF (ZcA (i:=15) fZ ["_law_one"] [16,13,10,8,1,12] rfl eV.nd rfl rfl (de<|ac<|pv 15) (λb=>(aV<|aT (i:=0)<|show((bN fZ ["_law_one"] [16,13,10,8,1,12])).Nodup by trivial)) (λb=>(bL (ii hr) gZ (aw b7 b6 (aw bC bB (ju<|iX (fR hr) (ac<|pv 3) (ac<|pv 0)<|λ_ _=>rfl)<|aw b7 b6 (aK<|aG (zJ T) hr<|ai (ac<|pv 5)<|ai (ac<|pv 6)<|ai (ac<|pv 0) aH)<|ac<|pv 4)<|aA az ay (ac<|pv 2) aj) (ac<|pv 1)<|nomark _)) (λb=>(ac<|pv 0)) rfl (show BlkOk fZ (aP kC) _ [16,13,10,8,1,12]by trivial) rfl)<|cp<|by decide)
 (aF<|zR<|pw<|x5 Ct CY CW yl (pv 11)<|bx (bm<|ag (ac<|pv 13)<|ag (aA az ay (ac<|pv 15)<|aK<|aG (cR T) hr<|cv (pv 0)<|ai (bd (t:=aS) (aX cI rfl T.cF Et (ag (ac<|pv 15) am)) cY) aH) am) cf)))))
 (aF<|vO (k:=11)<|zR<|pw<|x5 Ct CY CW yl (pv 4)<|bx (bd (t:=aS) (da jq rfl T.dY Ev (ag (ac<|pv 11) am)) iL) cf))))))))
 (aF<|vO (k:=4)<|a9<|bd (t:=aS) (da jq rfl T.dY Ev (ag (ac<|pv 4) am)) iL)))
def xM:DR :=
 (aE<|aB qj<|ah (aa 1)<|ah (aa 0)<|ah (aa 2)<|ah (aa 3) aD)
def o9:DR :=
 (bj<|af (aE<|aB kR<|ah (aa 0)<|ah (aa 2) aD)<|af (aa 1) ak)
def xL:DR :=
 (aa 0)
def xK:DR :=
 (aa 1)
def ZdC:DU :=
 (au (bb 6<|aE<|aB mX<|ah (aa 0)<|ah (aa 5)<|ah (aa 3)<|ah (aa 4) aD)
 (au (lU lq 4<|aE<|aB mU<|ah (aa 5) aD)
 (au (bb 7<|bE<|dA (cz<|aE<|aB gg<|ah (aa 0) aD) 1 [0,6,4] (ao 0) xM)
 (au (lV 2<|bc ga<|af (bE<|dA (cz<|aa 7) 2 [4] (bD<|aJ (ao 0)<|aJ (ao 1) bo) o9) ak)
 (bb 3<|jw (iI (aE<|aB gg<|ah (aa 0) aD)<|aa 7) 3 [] (bD<|aJ (ao 0)<|aJ (bD<|aJ (ao 1)<|aJ (ao 2) bo) bo) xL xK)))))
def mO:DV:=bv 2 6
 (au (j8 2<|cW ak)
 (au (bb 3<|aE<|aB mT<|ah (aa 0) aD)
 (au (bb 4<|aC<|.int 1)
 (au (dR (Ad<|aa 1) (ao 5) ZdC)
 (au (vV 2)
 (lR 2<|aZ<|bc ga<|af (aa 2) ak))))))
def Zm3(T:Txt K mg):ACal (bw cn) P w K mg base "least_double" 5 ["shop","double"] mO:=bF T.ZlT hX rfl λf FA A outer sh H E hr=>by
 exact(av (vM<|ba (i:=2) hX.nd<|dr am)
 (av (bf<|ba (i:=3) hX.nd<|aK<|aG (Zfh T) hr<|ai (ac<|pv 0) aH)
 (av (bf<|ba (i:=4) hX.nd aj)
 (av (eD A9 rfl (ZnJ<|ZcH rfl T.Zda (ac<|pv 1)) (aV<|aT (i:=5) hX.nd)
  (av (bf<|ba (i:=6) hX.nd<|aK<|aG (Zfm T) hr<|ai (ac<|pv 0)<|ai (ac<|pv 5)<|ai (ac<|pv 3)<|ai (ac<|pv 4) aH)
 (av (zQ Zai<|x3 (i:=4) hX.nd rfl (.inr rfl) (aK<|aG (Zfj T) hr<|ai (ac<|pv 5) aH) (pip ZdV))
 (av (Znv (x0 (i:=7) fY ["stand"] [0,6,4] rfl hX.nd rfl rfl (de<|aK<|aG (lG T) hr<|ai (ac<|pv 0) aH) (λb=>(aV<|aT (i:=0)<|show((bN fY ["stand"] [0,6,4])).Nodup by trivial)) (λb=>(aK<|aG (Znn T) hr<|ai (ac<|pv 1)<|ai (ac<|pv 0)<|ai (ac<|pv 2)<|ai (ac<|pv 3) aH)) rfl (show BlkOk fY (aP mi) _ [0,6,4]by trivial) rfl)<|cp<|by decide)
 (av (zR<|pw<|x5 Ct CY CW yl (pv 2)<|bx (bd (t:=aS) (da jq rfl T.dY Ev (ag (bV<|fe (eW fY ["cost","raised"] [4] rfl (de<|ac<|pv 7) (λb=>(cS rfl (br (aV<|aT (i:=0)<|show((bN fY ["cost","raised"] [4])).Nodup by trivial)<|br (aV<|aT (i:=1)<|show((bN fY ["cost","raised"] [4])).Nodup by trivial) cJ) (bq<|bq cH))) (λb=>(bm<|ag (aK<|aG (Ze9 T) hr<|ai (ac<|pv 0)<|ai (ac<|pv 2) aH)<|ag (ac<|pv 1) am)) rfl (show BlkOk fY (aP mi) _ [4]by trivial))<|kF<|ge (cp<|by decide)<|ge (cp<|by decide) kG) am)) iL) cf)
 (aF<|Zny (Zit (i:=3) fY ["stand","cost","raised"] [] hr.units0 rfl hX.nd rfl rfl (lM<|kH rfl rfl T.kN (aK<|aG (lG T) hr<|ai (ac<|pv 0) aH) (ac<|pv 7)) (λb=>(cS rfl (br (aV<|aT (i:=0)<|show((bN fY ["stand","cost","raised"] [])).Nodup by trivial)<|br (cS rfl (br (aV<|aT (i:=1)<|show((bN fY ["stand","cost","raised"] [])).Nodup by trivial)<|br (aV<|aT (i:=2)<|show((bN fY ["stand","cost","raised"] [])).Nodup by trivial) cJ) (bq<|bq cH)) cJ) (bq<|bq cH))) (λb=>(ac<|pv 0)) (λb=>(ac<|pv 1)) rfl (show BlkOk fY (aP mi) _ []by trivial) rfl)<|kF<|ge (cp<|by decide)<|ge (kF<|ge (cp<|by decide)<|ge (cp<|by decide) kG) kG))))))
 (av (Znz<|pw<|ZiZ Ct PySem.F.slot_list_reverse PySem.F.type_list_reverse ZjA<|pv 2)
 (aF<|vO (k:=2)<|a9<|bd (t:=aS) (da jq rfl T.dY Ev (ag (ac<|pv 2) am)) iL))))))
def iu:DV:=bv 3 2
 (au (bO (eE (dw<|cU<|eS "tuple"<|aa 2)<|bu<|ae cQ (bc cj<|af (aa 2) ak)<|aC<|.int 2)
  (aZ<|aC<|.bool false)
  bM)
 (au (gF (bD<|aJ (ao 3)<|aJ (ao 4) bo)<|aa 2)
 (aZ<|kc (aE<|aB dD<|ah (aa 3) aD)<|aE<|aB jb<|ah (aa 0)<|ah (aa 1)<|ah (aa 4) aD)))
def Znl(T:Txt K mg):ACal (bw cn) P w K mg base "is_double_entry" 5 ["shop","stand","thing"] iu:=bF T.Zl2 wY rfl λf FA A outer sh H E hr=>by
 exact(av (bU (eQ<|eP (dQ<|dq<|fI (T:="tuple") (Or.inr<|Or.inr<|Or.inr<|Or.inr<|.inl rfl) rfl (aX fG rfl T.fx En (bx (ac<|pv 2)<|bx (fv (v:=.ty "tuple") rfl T.dY Ev rfl) cf)))<|fH<|bL (eX hr) eT (bd (t:=aS) (aX cI rfl T.cF Et (ag (ac<|pv 2) am)) cY) aj<|nomark _)
 (aF<|a9 ce)
 bT)
 (av (iG<|fu (ac<|pv 2)<|cS rfl (br (aV<|aT (i:=3) wY.nd)<|br (aV<|aT (i:=4) wY.nd) cJ) (bq<|bq cH))
 (aF<|a9<|nQ (aK<|aG (Zng T) hr<|ai (ac<|pv 3) aH)<|nO<|aK<|aG (Znh T) hr<|ai (ac<|pv 0)<|ai (ac<|pv 1)<|ai (ac<|pv 4) aH)))
def xS:DR :=
 (aE<|aB iu<|ah (aa 2)<|ah (aa 0)<|ah (aa 1) aD)
def la:DV:=bv 2 1
 (au (bb 2<|aE<|aB gg<|ah (aa 0) aD)
 (au (bO (eE (dw<|cU<|eS "tuple"<|aa 1)<|bu<|ae cQ (bc cj<|af (aa 1) ak)<|bc cj<|af (aa 2) ak)
  (aZ<|aC<|.bool false)
  bM)
 (aZ<|bc js<|af (bE<|dA (iI (aa 2)<|aa 1) 2 [0] (bD<|aJ (ao 0)<|aJ (ao 1) bo) xS) ak)))
def Znj(T:Txt K mg):ACal (bw cn) P w K mg base "is_double_paper_day" 6 ["shop","thing"] la:=bF T.Zl0 Za3 rfl λf FA A outer sh H E hr=>by
 exact(av (bf<|ba (i:=2) Za3.nd<|aK<|aG (lG T) hr<|ai (ac<|pv 0) aH)
 (av (bU (eQ<|eP (dQ<|dq<|fI (T:="tuple") (Or.inr<|Or.inr<|Or.inr<|Or.inr<|.inl rfl) rfl (aX fG rfl T.fx En (bx (ac<|pv 1)<|bx (fv (v:=.ty "tuple") rfl T.dY Ev rfl) cf)))<|fH<|bL (eX hr) eT (bd (t:=aS) (aX cI rfl T.cF Et (ag (ac<|pv 1) am)) cY) (bd (t:=aS) (aX cI rfl T.cF Et (ag (ac<|pv 2) am)) cY)<|nomark _)
  (aF<|a9 ce)
  bT)
 (aF<|a9<|bd (t:=aS) (aX (zy rfl) rfl T.yj boot_all (ag (bV<|fe (eW n5 ["stand","entry"] [0] rfl (lM<|kH rfl rfl T.kN (ac<|pv 2) (ac<|pv 1)) (λb=>(cS rfl (br (aV<|aT (i:=0)<|show((bN n5 ["stand","entry"] [0])).Nodup by trivial)<|br (aV<|aT (i:=1)<|show((bN n5 ["stand","entry"] [0])).Nodup by trivial) cJ) (bq<|bq cH))) (λb=>(aK<|aG (Znl T) hr<|ai (ac<|pv 2)<|ai (ac<|pv 0)<|ai (ac<|pv 1) aH)) rfl (show BlkOk n5 (aP xi) _ [0]by trivial))<|kF<|ge (cp<|by decide)<|ge (cp<|by decide) kG) am)) wF)))
def mx:DR :=
 (aE<|aB la<|ah (aa 1)<|ah (aa 0) aD)
def lb:DV:=bv 3 0
 (au (bO (eE (dw<|cU<|eS "tuple"<|aa 2)<|bu<|ae cQ (bc cj<|af (aa 2) ak)<|bc cj<|af (aa 1) ak)
  (aZ<|aC<|.bool false)
  bM)
 (aZ<|bc js<|af (bE<|dA (cz<|aa 2) 1 [0] (ao 0) mx) ak))
def Znk(T:Txt K mg):ACal (bw cn) P w K mg base "is_double_paper" 7 ["shop","double","thing"] lb:=bF T.Zl1 Zhy rfl λf FA A outer sh H E hr=>by
 exact(av (bU (eQ<|eP (dQ<|dq<|fI (T:="tuple") (Or.inr<|Or.inr<|Or.inr<|Or.inr<|.inl rfl) rfl (aX fG rfl T.fx En (bx (ac<|pv 2)<|bx (fv (v:=.ty "tuple") rfl T.dY Ev rfl) cf)))<|fH<|bL (eX hr) eT (bd (t:=aS) (aX cI rfl T.cF Et (ag (ac<|pv 2) am)) cY) (bd (t:=aS) (aX cI rfl T.cF Et (ag (ac<|pv 1) am)) cY)<|nomark _)
 (aF<|a9 ce)
 bT)
 (aF<|a9<|bd (t:=aS) (aX (zy rfl) rfl T.yj boot_all (ag (bV<|fe (eW we ["entries"] [0] rfl (de<|ac<|pv 2) (λb=>(aV<|aT (i:=0)<|show((bN we ["entries"] [0])).Nodup by trivial)) (λb=>(aK<|aG (Znj T) hr<|ai (ac<|pv 1)<|ai (ac<|pv 0) aH)) rfl (show BlkOk we (aP xj) _ [0]by trivial))<|cp<|by decide) am)) wF))
def qp:DU :=
 (au (bb 6<|aE<|aB mX<|ah (aa 0)<|ah (ae ap (aa 1)<|aa 5)<|ah (aa 3)<|ah (aa 4) aD)
 (au (lU lq 4<|aE<|aB mU<|ah (ae ap (aa 1)<|aa 5) aD)
 (au (bb 3<|aE<|aB mV<|ah (aa 0)<|ah (ae ap (aa 2)<|aa 5)<|ah (aa 6)<|ah (aa 4) aD)
 (bO (bu<|ae qw (aa 3)<|aC .none)
  (aZ<|aC<|.bool false)
  bM))))
def gQ:DV:=bv 3 4
 (au (bO (dw<|cU<|aE<|aB lb<|ah (aa 0)<|ah (aa 1)<|ah (aa 2) aD)
  (aZ<|aC<|.bool false)
  bM)
 (au (bb 3<|aE<|aB mT<|ah (aa 0) aD)
 (au (bb 4<|aC<|.int 1)
 (au (dR (Ac<|af (bc cj<|af (aa 1) ak) ak) (ao 5) qp)
 (aZ<|aC<|.bool true)))))
def Zfb(T:Txt K mg):ACal (bw cn) P w K mg base "lets_double" 8 ["shop","double","thing"] gQ:=bF T.ZlS jG rfl λf FA A outer sh H E hr=>by
 exact(av (bU (dQ<|dq<|aK<|aG (Znk T) hr<|ai (ac<|pv 0)<|ai (ac<|pv 1)<|ai (ac<|pv 2) aH)
 (aF<|a9 ce)
 bT)
 (av (bf<|ba (i:=3) jG.nd<|aK<|aG (Zfh T) hr<|ai (ac<|pv 0) aH)
 (av (bf<|ba (i:=4) jG.nd aj)
 (av (eD A9 rfl (ZnI<|ZcH rfl T.Zda (da ZmU rfl T.eZ boot_range (ag (bd (t:=aS) (aX cI rfl T.cF Et (ag (ac<|pv 1) am)) cY) am))) (aV<|aT (i:=5) jG.nd)
  (av (bf<|ba (i:=6) jG.nd<|aK<|aG (Zfm T) hr<|ai (ac<|pv 0)<|ai (aA az ay (ac<|pv 1)<|ac<|pv 5)<|ai (ac<|pv 3)<|ai (ac<|pv 4) aH)
 (av (zQ Zai<|x3 (i:=4) jG.nd rfl (.inl rfl) (aK<|aG (Zfj T) hr<|ai (aA az ay (ac<|pv 1)<|ac<|pv 5) aH) (pip ZdV))
 (av (bf<|ba (i:=3) jG.nd<|aK<|aG (Znm T) hr<|ai (ac<|pv 0)<|ai (aA az ay (ac<|pv 2)<|ac<|pv 5)<|ai (ac<|pv 6)<|ai (ac<|pv 4) aH)
 (aF (bU (bL Zjc Zgi (ac<|pv 3) iH<|nomark _)
  (aF<|a9 ce)
  bT))))))
 (aF<|a9 ce)))))
def ZdD:DU :=
 (bO (eE (bu<|ae cQ (bc jJ<|af (aE<|aB gQ<|ah (aa 0)<|ah (aa 1)<|ah (aa 2) aD) ak)<|aa 4)<|bu<|ae cQ (bc jJ<|af (bj<|af (aa 0)<|af (aa 1)<|af (aa 2) ak) ak)<|aa 3)
  (aZ<|aC<|.bool false)
  bM)
def kW:DV:=bv 3 3
 (au (bb 3<|bc jJ<|af (bj<|af (aa 0)<|af (aa 1)<|af (aa 2) ak) ak)
 (au (bb 4<|bc jJ<|af (aE<|aB jQ<|ah (aa 0)<|ah (aa 1)<|ah (aa 2) aD) ak)
 (au (dR (gm<|af (aC<|.int 2) ak) (ao 5) ZdD)
 (aZ<|aC<|.bool true))))
def zI(T:Txt K mg):ACal (bw cn) P w K mg base "_law_right" 9 ["_law_shop_here","_law_double_here","_law_thing"] kW:=bF T.Zmg oS rfl λf FA A outer sh H E hr=>by
 exact(av (bf<|ba (i:=3) oS.nd<|bd (t:=aS) (aX (vJ hr) rfl T.pP boot_repr (ag (bm<|ag (ac<|pv 0)<|ag (ac<|pv 1)<|ag (ac<|pv 2) am) am)) oj)
 (av (bf<|ba (i:=4) oS.nd<|bd (t:=aS) (aX (vJ hr) rfl T.pP boot_repr (ag (aK<|aG (Zm7 T) hr<|ai (ac<|pv 0)<|ai (ac<|pv 1)<|ai (ac<|pv 2) aH) am)) oj)
 (av (eD A9 rfl (gX<|gO rfl T.eZ (ag aj am)) (aV<|aT (i:=5) oS.nd)
  (aF (bU (eQ<|eP (bL (eX hr) eT (bd (t:=aS) (aX (vJ hr) rfl T.pP boot_repr (ag (aK<|aG (Zfb T) hr<|ai (ac<|pv 0)<|ai (ac<|pv 1)<|ai (ac<|pv 2) aH) am)) oj) (ac<|pv 4)<|nomark _)<|fH<|bL (eX hr) eT (bd (t:=aS) (aX (vJ hr) rfl T.pP boot_repr (ag (bm<|ag (ac<|pv 0)<|ag (ac<|pv 1)<|ag (ac<|pv 2) am) am)) oj) (ac<|pv 3)<|nomark _)
  (aF<|a9 ce)
  bT)))
 (aF<|a9 ce))))
def ZdH:DU :=
 (bO (dw<|cU<|aE<|aB kW<|ah (aa 2)<|ah (aa 3)<|ah (aE<|aB qd<|cg 1<|ah (aa 2)<|ah (ae ap (aa 5)<|ae i7 (aa 6)<|aC<|.int 2) aD) aD)
  (aZ<|aC<|.bool false)
  bM)
def qf:DU :=
 (au (bb 2<|aE<|aB p7<|cg 1 aD)
 (au (bb 3<|aE<|aB qb<|cg 1 aD)
 (au (bb 4<|aE<|aB mO<|ah (aa 2)<|ah (aa 3) aD)
 (au (bO (eE (bu<|ae qv (aE<|aB gQ<|ah (aa 2)<|ah (aa 3)<|ah (aa 4) aD)<|aC<|.bool true)<|dw<|cU<|aE<|aB kW<|ah (aa 2)<|ah (aa 3)<|ah (aa 4) aD)
  (aZ<|aC<|.bool false)
  bM)
 (au (bb 5<|bE<|cW<|af (aa 4)<|af (aE<|aB p8<|cg 1<|ah (aa 2)<|ah (aa 3)<|ah (aa 4) aD) ak)
 (au (bO (dw<|cU<|aE<|aB kW<|ah (aa 2)<|ah (aa 3)<|ah (ae ap (aa 5)<|aC<|.int 1) aD)
  (aZ<|aC<|.bool false)
  bM)
 (au (dR (gm<|af (aC<|.int 12) ak) (ao 6) ZdH)
 (aZ<|aC<|.bool true))))))))
noncomputable abbrev yw:D7:=.un::.pen::List.replicate 5 .un
def Zjj(T:Txt K mg){f:Fq}{fd:FuncData}(F:Fun K "law" "law" xg f fd)(hl:(qf yw).ok 0 λ_ o=>o=.ret (.d<|.bool true)):FnOk P w K mg base jA 10 f fd ["_law_script"] (ZaM K):=by
 refine F.ok jH (λvs H Q E h=>?_)<|λFA A outer s H vs Q E hr h=>?_
 ·obtain⟨a,ns,rfl,_⟩:=h
  rfl
 ·obtain⟨a,ns,rfl,hS,hlen,k⟩:=h;have hu:=fR hr;refine⟨_,(fr (ba (i:=1) jH.nd<|ZcQ (Zji T) (hr.mono<|by decide) rfl (bx (pv 0) cf))
 (Zir (t:=λcn=>bH (bw cn) qf) λcn=>(av (bf<|ba (i:=2) jH.nd<|aK<|aG (Zm4 T) hr<|cv (pv 1) aH)
 (av (bf<|ba (i:=3) jH.nd<|aK<|aG (Znc T) hr<|cv (pv 1) aH)
 (av (bf<|ba (i:=4) jH.nd<|aK<|aG (Zm3 T) hr<|ai (ac<|pv 2)<|ai (ac<|pv 3) aH)
 (av (bU (eQ<|eP (bL Zjb Zgh (aK<|aG (Zfb T) hr<|ai (ac<|pv 2)<|ai (ac<|pv 3)<|ai (ac<|pv 4) aH) ce<|nomark _)<|fH<|dQ<|dq<|aK<|aG (zI T) hr<|ai (ac<|pv 2)<|ai (ac<|pv 3)<|ai (ac<|pv 4) aH)
  (aF<|a9 ce)
  bT)
 (av (bf<|ba (i:=5) jH.nd<|bV<|dr<|ag (ac<|pv 4)<|ag (aK<|aG (Zm6 T) hr<|cv (pv 1)<|ai (ac<|pv 2)<|ai (ac<|pv 3)<|ai (ac<|pv 4) aH) am)
 (av (bU (dQ<|dq<|aK<|aG (zI T) hr<|ai (ac<|pv 2)<|ai (ac<|pv 3)<|ai (aA az ay (ac<|pv 5) aj) aH)
  (aF<|a9 ce)
  bT)
 (av (eD A9 rfl (gX<|gO rfl T.eZ (ag aj am)) (aV<|aT (i:=6) jH.nd)
  (aF (bU (dQ<|dq<|aK<|aG (zI T) hr<|ai (ac<|pv 2)<|ai (ac<|pv 3)<|ai (aK<|aG (Zne T) hr<|cv (pv 1)<|ai (ac<|pv 2)<|ai (aA az ay (ac<|pv 5)<|aw x9 wC (ac<|pv 6) aj) aH) aH)
  (aF<|a9 ce)
  bT)))
 (aF<|a9 ce)))))))))),?_⟩
  refine⟨_,rfl,a,ns,rfl,hS,hlen,λp c H' hp hP hs=>?_⟩;exact Zj5 (n:=5) hP rfl rfl (λH'=>k H') hl
end
end My
def Qaa:=("L2.qW L2.qV L2.vq L2.uR L2.uQ L2.ve L2.nv L2.vd L2.rA L2.uG L2.ux L2.tf L2.uy L2.uw L2.sZ L2.tS L2.tV L2.tO L2.fU L2.j6 L2.lK L2.lJ L2.nJ L2.nI L2.nH L2.nG L2.nF L2.nE L2.sY L2.sX L2.rz L2.re L2.rq L2.rn L2.rm L2.rj L2.rf L2.rh L2.vc L2.sQ L2.sV L2.u9 L2.va L2.sO L2.sP L2.sU L2.u8 L2.sT L2.uZ L2.u7 L2.sS L2.ug L2.ue L2.uf L2.uH L2.uM L2.uL L2.uK L2.uI L2.uJ L2.sW L2.uF L2.uE L2.uD L2.ra L2.q9 L2.tB L2.tz L2.tE L2.tD L2.bW L2.uO L2.uN L2.tG L2.tF L2.vf L2.tm L2.tW L2.tX L2.qZ L2.qX L2.tw L2.tq L2.jX L2.jl L2.lA L2.nu L2.tU L2.tT L2.rF L2.rE L2.rD L2.rC L2.rB L2.sL L2.sK L2.sJ L2.qY L2.nq L2.tu L2.nr L2.vm L2.vn L2.vp L2.vo L2.sG L2.sF L2.vh L2.vg L2.uP L2.sE L2.sD L2.uC L2.uu L2.ut L2.rT L2.rQ L2.rP L2.rS L2.rR L2.rG L2.t6 L2.tZ L2.t5 L2.sC L2.sB L2.sA L2.sy L2.sx L2.sw L2.sv L2.su L2.sn L2.rO L2.rN L2.rM L2.rL L2.qm L2.ql L2.uU L2.uT L2.uS L2.uh L2.sN L2.sM L2.uY L2.uX L2.lz L2.sj L2.si L2.ui L2.qL L2.qM L2.qK L2.qJ L2.qN L2.uW L2.uV L2.sR L2.qF L2.qD L2.qG L2.qI L2.qE L2.sI L2.sH L2.tR L2.tQ L2.tP L2.rZ L2.rY L2.qU L2.qT L2.qS L2.qR L2.qQ L2.uz L2.uB L2.uA L2.ur L2.uq L2.qO L2.uo L2.gW L2.uk L2.um L2.uj L2.tN L2.tM L2.tL L2.pR L2.pU L2.pW L2.pV L2.tH L2.tK L2.tJ L2.t7 L2.uc L2.ud L2.t9 L2.rK L2.rJ L2.rH L2.nz L2.ny L2.qH L2.r8 L2.rX L2.rW L2.r6 L2.rV Tw.oM Tw.oK Tw.oJ Tw.oI Tw.oH Tw.oG Tw.oF Tw.oD Tw.oC L2.tj L2.tY L2.o0 L2.Tr.of_some L2.Tr.bind_assoc L2.Tr.draw_bind List.cons_append List.nil_append List.replicate_succ List.replicate_zero List.length_cons List.length_nil L2.Re.val_d L2.Re.val_own L2.blk L2.lH List.map_cons List.map_nil List.getElem?_cons_zero List.getElem?_cons_succ Option.getD_some Nat.reduceAdd Nat.reduceLeDiff List.isEmpty_cons".splitOn " ").toArray.map λs=>Lean.mkIdent s.toName
local macro_rules|`(tactic|simp! [$ls,*]$[$loc]?)=>do let b:Lean.TSyntaxArray ``Lean.Parser.Tactic.simpLemma ← Qaa.mapM λi=>`(Lean.Parser.Tactic.simpLemma|$i:ident);`(tactic|simp only[$b,*,$ls,*]$[$loc]?)
local macro_rules|`(tactic|simp! only [$ls,*]$[$loc]?)=>do let b:Lean.TSyntaxArray ``Lean.Parser.Tactic.simpLemma ← Qaa.mapM λi=>`(Lean.Parser.Tactic.simpLemma|$i:ident);`(tactic|simp -implicitDefEqProofs only[$b,*,$ls,*]$[$loc]?)
namespace My
open L2 Tw
def Zet{s:Shp}(h:s.Ok):kQ [.d s.d]=.ret (.d<|.tuple<|bi (-s.depth)<|s.top+1):=by
 have:=h.t0;have:=h.d0;have:=h.td;have hr:iT (-s.depth) (s.top+1)=true:=by
  unfold iT;rw[fc (by omega)<|by omega,fc (by omega)<|by omega]
  simp;omega
 simp![kQ,nq hr]
def zb(s:Shp)(y f:Int):kU [.d s.d,.d<|.int y,.d<|.int f]=.ret (.d<|.int<|s.nx y f):=by simp![kU,Shp.nx]
def ZeE{s:Shp}(h:s.Ok){x:Int}(hx:nb 20 x):lc [.d s.d,.d<|.int x]=.ret (.d<|.int<|s.fin x):=by
 have f1:=aY (ip h.back)<|by decide
 have f2:=aY h.late<|by decide
 have f3:=aY hx<|by decide
 have f4:=aY (ip hx)<|by decide
 by_cases hp:x>0
 ·simp![lc,Ea hp,f1,f3,Shp.fin,Ed hp]
 ·simp![lc,Eb hp,f2,f4,Shp.fin,Ef hp]
def Zlq{s:Shp}(h:s.Ok){x y:Int}(hx:nb 20 x)(hy:nb 20 y):mN [.d s.d,.d<|.int x,.d<|.int y]=.ret (.d<|.int<|s.ord x y):=by
 have f1:=aY h.piece<|by decide
 have f2:=aY (i5 hy hx)<|by decide
 by_cases hp:y<=x
 ·simp![mN,Ea hp,Shp.ord,Ed hp]
 ·simp![mN,Eb hp,f1,f2,Shp.ord,Ef hp]
def ZeF{s:Shp}(h:s.Ok){y f:Int}(hy:nb 20 y)(hf:nb 40 f):le [.d s.d,.d<|.int y,.d<|.int f]=.ret (.d<|.int<|s.day y f):=by
 have hd:nb 7 s.depth:=by have:=h.t0;have:=h.d0;have:=h.td;exact bS (by show -128<_;omega)<|by show _<128;omega
 have hn:nb 50 (s.nx y f):=by unfold Shp.nx eL;exact kM (aO (ip hd)<|by decide)<|aO (i5 hy hf)<|by decide
 have f1:=aY h.keep<|by decide
 have f2:=aY hn<|by decide
 have f3:=aY (ip hn)<|by decide
 have f4:=aY h.lack<|by decide
 have f5:=aY h.lost<|by decide
 have f6:=aY (i5 hn<|i5 hy hf)<|by decide
 have e:=zb s y f;by_cases hp:s.nx y f>0
 ·simp![le,e,Ea hp,f1,f2,f5,f6,Shp.day,Ed hp]
 ·simp![le,e,Eb hp,f3,f4,f5,f6,Shp.day,Ef hp]
def ZeD{a b:Int}(hb:nb 8000 b):mW [.d<|.int a,.d<|.int b]=.ret (.d<|.int (Nat.gcd a.natAbs b.natAbs:Nat)):=by
 have key:=euclid (p:=wB) (s:=yC) (E:=λa b=>[.d<|.int a,.d<|.int b]) (λa b=>by
  simp![wB];by_cases h:b=0
  ·subst h;rfl
  ·rw[Ea h];congr 1;simp[h]) (λa b h=>by
  have h':(b:Int)≠0:=by omega
  simp![yC,yY h',Zei]) 8000 83999 a.natAbs b.natAbs hb
 have e:2*8000+1+83999=100000:=rfl;rw[e]at key;simp![mW,ZfX,key]
def Zeu{t b:Int}(h0:b≠0)(hb:nb 7000 b):kR [.d<|.int t,.d<|.int b]=.ret (.d<|gK t b):=by
 have e:=ZeD (a:=t) (b:=b)<|aO hb<|by decide
 have e0:(b==0)=false:=Eh.mpr h0;have hd:=Gc.nA (t:=t) h0;have hf:=aY (ZeO (t:=t) hb h0)<|by decide
 unfold gK Gc.cB Gc.bQ;by_cases hn:b<0
 ·have ed:Gc.den t b=-((Nat.gcd t.natAbs b.natAbs:Nat):Int):=by unfold Gc.den Gc.iz;rw[Ed hn]
  rw[ed]at hd hf ⊢;simp![kR,e0,e,Ea hn,uv hd hf]
 ·have ed:Gc.den t b=((Nat.gcd t.natAbs b.natAbs:Nat):Int):=by unfold Gc.den Gc.iz;rw[Ef hn]
  rw[ed]at hd hf ⊢;simp![kR,e0,e,Eb hn,uv hd hf]
def bn(ds:Fl (Fl D2)):Fn:=.tuple<|ds.map fD
def sml{n:Nat}{s:Shp}(h7:s.n<=7)(h:n<=s.n*s.n):n<=100:=by have:s.n*s.n<=7*7:=Cb h7 h7;omega
def Zev{day:Fl D2}(hd:DdB day):mU [.d<|fD day]=.ret (.d<|.int<|aN day):=by
 have hs:small (day.map tI).length=true:=bW (by rw[Av];have:=hd.len;omega)
 have e:bJ (dF (ao 0) xV [.un]) (day.map tI)=.ret (day.map λl=>PyData.int l.sum):=e9 λl _=>by have e1:bR dO [tI l]=.ret (.int l.sum):=jl l;simp![xV,e1]
 have e2:bR dO [.list<|day.map λl=>PyData.int l.sum]=.ret (.int<|aN day):=by rw[yW];exact jX _
 simp![mU,li,hs,e,e2]
def iC{s:Shp}(h:s.Ok)(h7:s.n<=7):gg [.d s.d]=.ret (.own<|s.sts.map aq):=by
 have e0:bi (-s.depth) (s.top+1)=(aQ (-s.depth) s.n).map PyData.int:=rfl;have hit:cz (aE<|aB kQ<|ah (aa 0) aD) [.d s.d]=.ret ((aQ (-s.depth) s.n).map PyData.int):=by simp![Zet h,e0]
 have e:=Zdv (n:=2) (ix:=[0]) (a:=0) (b:=1) (is1:=qA) (el:=o6) (f:=PyData.int) (g:=λx=>(aQ (-s.depth) s.n).map λy=>aq (x,y)) hit (by rw[fO];omega) λx _=>by
  refine Zdw (f:=PyData.int) ?_ (by rw[fO];omega) λy _=>?_
  ·show qA [.d<|.int x,.un,.d s.d]=_;simp![qA,Zet h,e0]
  ·show o6 [.d<|.int x,.d<|.int y,.d s.d]=_;simp![o6]
   rfl
 rw[Zg6]at e;simp![gg,e]
def za{s:Shp}(h:s.Ok){p q:Pt}(hp:nb 20 (p.1+p.2))(hq:nb 20 (q.1+q.2)):kT [.d s.d,.d<|aq p,.d<|aq q]=.ret (.d<|.int<|s.ord (p.1+p.2)<|q.1+q.2):=by have e:=Zlq h hp hq;simp![kT,Zg3,e]
def y9{s:Shp}(h:s.Ok)(h7:s.n<=7){p:Pt}(hp:p∈s.sts):mM [.d s.d,.d<|aq p]=.ret (.own<|(s.rzs p).map aq):=by
 have ht:=h.t0;have hd0:=h.d0;have htd:=h.td;have hn:=h.n_eq;obtain⟨⟨a1,a2⟩,b1,b2⟩:=(b8 h).mp hp;have r1:gi p.1=true:=fc (by omega)<|by omega
 have r2:gi p.2=true:=fc (by omega)<|by omega
 have r3:gi (s.top+1)=true:=fc (by omega)<|by omega
 have e0:∀x:Int,bi x (s.top+1)=(aQ x (s.top+1-x).toNat).map PyData.int:=λ_=>rfl;have hit:nS (af (aa 2)<|af (ae bg (aa 4)<|aC<|.int 1) ak) [.d s.d,.d<|aq p,.d<|.int p.1,.d<|.int p.2,.d<|.int s.top]=.ret ((aQ p.1 (s.top+1-p.1).toNat).map PyData.int):=by simp![Zel r1 r3,e0]
 have e:=Zdv (n:=2) (ix:=[3,4]) (a:=0) (b:=1) (is1:=qB) (el:=o7) (f:=PyData.int) (g:=λx=>(aQ p.2 (s.top+1-p.2).toNat).map λy=>aq (x,y)) hit (by rw[fO];omega) λx _=>by
  refine Zdw (f:=PyData.int) ?_ (by rw[fO];omega) λy _=>?_
  ·show qB [.d<|.int x,.un,.d<|.int p.2,.d<|.int s.top]=_;simp![qB,Zel r2 r3,e0]
  ·show o7 [.d<|.int x,.d<|.int y,.d<|.int p.2,.d<|.int s.top]=_;simp![o7]
   rfl
 rw[ZhS]at e;have eg:bD (aJ (ao 2)<|aJ (ao 3) bo) (aq p) [.d s.d,.d<|aq p,.un,.un,.un]=some [.d s.d,.d<|aq p,.d<|.int p.1,.d<|.int p.2,.un]:=rfl;simp![mM,eg,e]
def ze{s:Shp}(h:s.Ok)(h7:s.n<=7):mT [.d s.d]=.ret (.d<|pD<|s.tb λa b=>s.fin a+s.fin b):=by
 have hit:cz (aE<|aB gg<|ah (aa 0) aD) [.d s.d]=.ret (s.sts.map aq):=by simp![iC h h7]
 have e:=zo (n:=2) (ix:=[0]) (g:=bD<|aJ (ao 0)<|aJ (ao 1) bo) (kx:=xU) (i:=xT) (f:=aq) (kv:=λp:Pt=>(kS p,PyData.int<|s.fin p.1+s.fin p.2)) hit (AJ (sml h7<|by rw[fi];exact Aw _)<|by decide) (l9 h) (mY<|jE s) λp hp=>by
  obtain⟨⟨a1,a2⟩,b1,b2⟩:=(b8 h).mp hp;show iD _ _ [.d<|.int p.1,.d<|.int p.2,.d s.d]=_;refine zg ?_ ?_
  ·simp![xU]
   rfl
  ·simp![xT,ZeE h<|gw h a1 a2,ZeE h<|gw h b1 b2]
 simp![mT,e]
 rfl
def Zlp{s:Shp}(h:s.Ok){day:Fl D2}(hd:DdB day){F:Int->Int->Int}{b:Nat}(hF:eI s b F){c:Int}(hc:nb b c)(hb:b<=3000){q:Pt}(hq:q∈s.sts) :
  p6 [.d s.d,.d<|fD day,.d<|aq q,.d<|pD<|s.tb F,.d<|.int c]=.ret (.d<|.int<|s.w2 day F c q.1 q.2):=by
 obtain⟨⟨a1,a2⟩,b1,b2⟩:=(b8 h).mp hq;have hlen:=hd.len;have eg:bD (aJ (ao 5)<|aJ (ao 6) bo) (aq q) [.d s.d,.d<|fD day,.d<|aq q,.d<|pD<|s.tb F,.d<|.int c,.un,.un,.un,.un,.un,.un,.un,.un,.un]=some [.d s.d,.d<|fD day,.d<|aq q,.d<|pD<|s.tb F,.d<|.int c,.d<|.int q.1,.d<|.int q.2,.un,.un,.un,.un,.un,.un,.un]:=rfl;have hq1:=gw h a1 a2;have hq2:=gw h b1 b2;have gbs:∀i j:Nat,i<=3->j<=3->nb (b+102) (s.c2 F c q.1 q.2 i j):=λi j hi hj=>zM h hF hc a1 a2 b1 b2 (by omega)<|by omega
 have inner:∀(i:Nat)(line:D2)(T:Int)(FF FE FH FI:Sl),i<=3->line.length<=3->(∀w∈line,0<=w/\w<=1000) ->
   Al (ck (bD<|aJ (ao 10)<|aJ (ao 11) bo) yx (fF<|line.map PyData.int) [.d s.d,.d<|fD day,.d<|aq q,.d<|pD<|s.tb F,.d<|.int c,.d<|.int q.1,.d<|.int q.2,.d<|.int T,.d<|.int i,.d<|tI line,FF,FE,FH,FI]) 0
    λo=>∃FF FE FH FI:Sl,o=.next [.d s.d,.d<|fD day,.d<|aq q,.d<|pD<|s.tb F,.d<|.int c,.d<|.int q.1,.d<|.int q.2,.d<|.int<|T+ws (s.c2 F c q.1 q.2 i) 0 line,.d<|.int i,.d<|tI line,FF,FE,FH,FI]:=by
  intro i line T FF FE FH FI hi hl hw;refine jt (n:=0) (λpre ρ=>∃FF FE FH FI:Sl,ρ=[.d s.d,.d<|fD day,.d<|aq q,.d<|pD<|s.tb F,.d<|.int c,.d<|.int q.1,.d<|.int q.2,.d<|.int<|T+ws (s.c2 F c q.1 q.2 i) 0 line-ws (s.c2 F c q.1 q.2 i) pre.length (line.drop pre.length),.d<|.int i,.d<|tI line,FF,FE,FH,FI]) ⟨FF,FE,FH,FI,?_⟩ (by simp) ?_ ?_
  ·have e:T+ws (s.c2 F c q.1 q.2 i) 0 line-ws (s.c2 F c q.1 q.2 i) 0 line=T:=by omega
   simp only[Bm,BP,e]
  ·rintro pre x post ρ e ⟨FF,FE,FH,FI,rfl⟩;obtain⟨w,hw',rfl⟩:=vz e;rw[AK]at hw';obtain⟨v,hv,rfl⟩:=Bs.mp hw';refine⟨_,rfl,?_⟩;have FO:pre.length<line.length:=(Ay.mp hv).1;have e1:=ZeF h hq1 (jj (k:=i)<|by omega)
   have e2:=ZeF h hq2<|jj (k:=pre.length)<|by omega
   have e3:=zb s q.1 i;have e4:=zb s q.2 pre.length;have e5:=jD h (F:=F) (im s q.1 i) (il h a2<|show(0:Int)<=i by omega) (im s q.2 pre.length)<|il h b2<|show(0:Int)<=pre.length by omega
   have f1:=aY hc<|by omega
   have f2:=aY (dX (lD h hq1<|jj (k:=i)<|by omega)<|lD h hq2<|jj (k:=pre.length)<|by omega)<|by decide
   have f3:=aY (oh<|hw v<|Bi hv)<|by decide
   have f4:fit (c*(s.day q.1 i+s.day q.2 pre.length)+F (s.nx q.1 i) (s.nx q.2 pre.length))=true:=aY (gbs i pre.length (by omega)<|by omega)<|by omega
   simp![yx,e1,e2,e3,e4,e5,f1,f2,f3,f4];have ed:line.drop pre.length=v::line.drop (pre.length+1):=by rw[AY FO];congr 1;exact(Ay.mp hv).2
   have el:(pre++[PyData.tuple [PyData.int pre.length,PyData.int v]]).length=pre.length+1:=by simp
   have ee:T+ws (s.c2 F c q.1 q.2 i) 0 line-ws (s.c2 F c q.1 q.2 i) pre.length (line.drop pre.length)+v*(c*(s.day q.1 i+s.day q.2 pre.length)+F (s.nx q.1 i) (s.nx q.2 pre.length)) =
     T+ws (s.c2 F c q.1 q.2 i) 0 line-ws (s.c2 F c q.1 q.2 i) (pre++[PyData.tuple [PyData.int pre.length,PyData.int v]]).length (line.drop (pre++[PyData.tuple [PyData.int pre.length,PyData.int v]]).length):=by rw[el,ed,ws];show _=T+_-_;unfold Shp.c2;omega
   rw[ee];exact b9 ⟨_,rfl,_,_,_,_,rfl⟩
  ·rintro ρ ⟨FF,FE,FH,FI,rfl⟩;refine⟨FF,FE,FH,FI,?_⟩;rw[vA,Av,Br,ws,CU]
 apply nN;simp![p6,eg,li];refine eA (n:=0) (n':=0) (P:=λo=>∃J8 J9 FF FE FH FI:Sl,o=.next [.d s.d,.d<|fD day,.d<|aq q,.d<|pD<|s.tb F,.d<|.int c,.d<|.int q.1,.d<|.int q.2,.d<|.int<|s.w2 day F c q.1 q.2,J8,J9,FF,FE,FH,FI]) ?_ (by decide) ?_
 ·refine jt (n:=0) (λpre ρ=>∃J8 J9 FF FE FH FI:Sl,ρ=[.d s.d,.d<|fD day,.d<|aq q,.d<|pD<|s.tb F,.d<|.int c,.d<|.int q.1,.d<|.int q.2,.d<|.int<|s.w2 day F c q.1 q.2-wss (s.c2 F c q.1 q.2) pre.length (day.drop pre.length),J8,J9,FF,FE,FH,FI]) ⟨.un,.un,.un,.un,.un,.un,?_⟩ (by simp) ?_ ?_
  ·have e:s.w2 day F c q.1 q.2-wss (s.c2 F c q.1 q.2) 0 day=0:=by unfold Shp.w2;omega
   simp only[Bm,BP,e]
  ·rintro pre x post ρ e ⟨J8,J9,FF,FE,FH,FI,rfl⟩;obtain⟨w,hw',rfl⟩:=vz e;rw[AK]at hw';obtain⟨line,hv,rfl⟩:=Bs.mp hw';refine⟨_,rfl,?_⟩;have FO:pre.length<day.length:=(Ay.mp hv).1;obtain⟨l1,l2⟩:=hd.row line<|Bi hv;have ed:day.drop pre.length=line::day.drop (pre.length+1):=by rw[AY FO];congr 1;exact(Ay.mp hv).2
   have el:(pre++[PyData.tuple [PyData.int pre.length,tI line]]).length=pre.length+1:=by simp
   simp![ZdB,ZdP];refine lL (inner pre.length line _ _ _ _ _ (by omega) l1 l2) (Aw _) ?_
   rintro _ ⟨FF,FE,FH,FI,rfl⟩;have ee:s.w2 day F c q.1 q.2-wss (s.c2 F c q.1 q.2) pre.length (day.drop pre.length)+ws (s.c2 F c q.1 q.2 pre.length) 0 line=s.w2 day F c q.1 q.2-wss (s.c2 F c q.1 q.2) (pre++[PyData.tuple [PyData.int pre.length,tI line]]).length (day.drop (pre++[PyData.tuple [PyData.int pre.length,tI line]]).length):=by rw[el,ed,wss];omega
   rw[ee];exact⟨_,rfl,_,_,FF,FE,FH,FI,rfl⟩
  ·rintro ρ ⟨J8,J9,FF,FE,FH,FI,rfl⟩;refine⟨J8,J9,FF,FE,FH,FI,?_⟩;rw[vA,Av,Br,wss,CU]
 ·rintro _ ⟨J8,J9,FF,FE,FH,FI,rfl⟩;simp![Ci];exact b9 rfl
def ZeG{s:Shp}(h:s.Ok)(h7:s.n<=7){day:Fl D2}(hd:DdB day){F:Int->Int->Int}{b:Nat}(hF:eI s b F){c:Int}(hc:nb b c)(hb:b<=3000) :
  mX [.d s.d,.d<|fD day,.d<|pD<|s.tb F,.d<|.int c]=.ret (.d<|pD<|s.tb<|s.w2 day F c):=by
 have hit:cz (aE<|aB gg<|ah (aa 0) aD) [.d s.d,.d<|fD day,.d<|pD<|s.tb F,.d<|.int c]=.ret (s.sts.map aq):=by simp![iC h h7]
 have e:=zo (n:=1) (ix:=[0,1,2,3]) (g:=ao 0) (kx:=xZ) (i:=xY) (f:=aq) (kv:=λp:Pt=>(kS p,PyData.int<|s.w2 day F c p.1 p.2)) hit (AJ (sml h7<|by rw[fi];exact Aw _)<|by decide) (l9 h) (mY<|jE s) λp hp=>by
  show iD _ _ [.d<|aq p,.d s.d,.d<|fD day,.d<|pD<|s.tb F,.d<|.int c]=_;refine zg ?_ ?_
  ·simp![xZ]
   rfl
  ·simp![xY,Zlp h hd hF hc hb hp]
 simp![mX,e]
 rfl
def Zlw{s:Shp}(h:s.Ok)(h7:s.n<=7){W:Int->Int->Int}{c:Int}{b:Nat}(hc:nb b c)(hb:b<=3000){p:Pt}(hp:p∈s.sts) :
  qj [.d s.d,.d<|aq p,.d<|pD<|s.tb W,.d<|.int c]=.ret (.d<|eF<|s.bp W c p):=by
 obtain⟨⟨a1,a2⟩,b1,b2⟩:=(b8 h).mp hp;have FJ:∀q∈s.rzs p,q∈s.sts/\nb 20 (p.1+p.2)/\nb 20 (q.1+q.2):=λq hq=>by have ht:=h.t0;have hd0:=h.d0;have htd:=h.td;obtain⟨⟨q1,q2⟩,q3,q4⟩:=(gM a2 b2).mp hq;exact⟨(b8 h).mpr ⟨⟨by omega,q2⟩,by omega,q4⟩,bS (by show -1048576<_;omega)<|by show _<1048576;omega,bS (by show -1048576<_;omega)<|by show _<1048576;omega⟩
 have hsm:small ((s.rzs p).map aq).length=true:=bW<|by rw[Av,<- ku h hp];exact AJ (CH _ _)<|AJ (sml h7<|by rw[fi];exact Aw _)<|by decide
 have e:bJ (dF (ao 0) xX [.un,.d<|.int c,.d<|pD<|s.tb W,.d s.d,.d<|aq p]) ((s.rzs p).map aq)=.ret ((s.rzs p).map λq=>eF (c*s.ord (p.1+p.2) (q.1+q.2)+W q.1 q.2,kS q)):=e9 λq hq=>by
  obtain⟨q0,q1,q2⟩:=FJ q hq;obtain⟨⟨c1,c2⟩,d1,d2⟩:=(b8 h).mp q0;have e1:=za h q1 q2;have e2:aU eO (pD<|s.tb W) (aq q)=.ret (.int<|W q.1 q.2):=jD h c1 c2 d1 d2;have f1:=aY hc<|by omega
  have f2:=aY (ie h q1 q2)<|by decide
  simp![xX,e1,e2,f1,f2]
  rfl
 have e2:(s.rzs p).map (λq=>eF (c*s.ord (p.1+p.2) (q.1+q.2)+W q.1 q.2,kS q))=(s.cand W c p).map eF:=by unfold Shp.cand;rw[AR];rfl
 have hn:s.cand W c p≠[]:=λe=>ZbA h hp<|B7.mp e;rw[e2]at e;simp![qj,y9 h h7 hp,hsm,e,Zle hn]
 rfl
def Zlu{s:Shp}(h:s.Ok)(h7:s.n<=7){ds:Fl (Fl D2)}(hd:∀d∈ds,DdB d)(hl:ds.length<=3):mO [.d s.d,.d<|bn ds]=.ret (.d<|.tuple<|s.dtab ds):=by
 have FJ:∀k,∀d∈ds.drop k,DdB d:=λk d h=>hd d<|BB h;have it_ddD:dG (bn ds)=.ret (ds.map fD):=rfl;have dlen:∀R:Fl (Fl D2),(s.dtab R).length=R.length:=λR=>by
  induction R with
  |nil=>rfl
  |cons d R ih=>rw[Shp.dtab,AE,AE,ih]
 have hsm:small (s.sts.map aq).length=true:=bW<|by rw[Av];exact AJ (sml h7<|by rw[fi];exact Aw _)<|by decide
 have FR:s.sts.length<=100:=sml h7<|by rw[fi];exact Aw _
 apply nN;simp![mO,ze h h7,it_ddD];refine eA (n:=0) (n':=0) (P:=λo=>∃J3 J4 J5 J6 J7:Sl,o=.next [.d s.d,.d<|bn ds,.own (s.dtab ds).reverse,J3,J4,J5,J6,J7]) ?_ (by decide) ?_
 ·refine jt (n:=0) (λpre ρ=>∃J5 J6 J7:Sl,ρ=[.d s.d,.d<|bn ds,.own (s.dtab<|ds.drop<|ds.length-pre.length).reverse,.d<|pD<|s.tb (s.dk<|ds.drop<|ds.length-pre.length).1,.d<|.int (s.dk<|ds.drop<|ds.length-pre.length).2,J5,J6,J7]) ⟨.un,.un,.un,?_⟩ (by simp) ?_ ?_
  ·rw[Bm,Dv,Br]
   rfl
  ·rintro pre x post ρ e ⟨J5,J6,J7,rfl⟩;obtain⟨d,rfl,FO,hdr⟩:=Zh7 e;refine⟨_,rfl,?_⟩;have hdd:DdB d:=FJ (ds.length-(pre.length+1)) d (by rw[hdr];simp)
   obtain⟨k1,k2,k3⟩:=jY h<|FJ<|ds.length-pre.length;have el:(pre++[fD d]).length=pre.length+1:=by simp
   rw[el,hdr];have hrl:(ds.drop<|ds.length-pre.length).length<=3:=by rw[Cn];omega
   generalize ds.drop (ds.length-pre.length)=R at *;have FV:=CC k3 hdd.pos;have n2:nb 600 ((s.dk R).2*aN d):=aO (dm k2<|gJ hdd)<|by omega
   have e1:=ZeG h h7 hdd k1 k2<|by omega
   have e2:=Zev hdd;have f1:=aY k2<|by omega
   have f2:=aY (gJ hdd)<|by decide
   have e3:bJ (dF (ao 0) xM [.un,.d s.d,.d<|pD<|s.tb<|s.w2 d (s.dk R).1 (s.dk R).2,.d<|.int<|(s.dk R).2*aN d]) (s.sts.map aq)=.ret (s.sts.map λp=>eF<|s.pick d R p):=e9 λp hp=>by
    have e:=Zlw h h7 (W:=s.w2 d (s.dk R).1 (s.dk R).2) n2 (by decide) hp
    simp![xM,e]
    rfl
   have hsm3:small (s.sts.map λp=>eF<|s.pick d R p).length=true:=bW<|by rw[Av];omega
   have e4:bJ (dF (bD<|aJ (ao 0)<|aJ (ao 1) bo) o9 [.un,.un,.d<|.int<|(s.dk R).2*aN d]) (s.sts.map λp=>eF<|s.pick d R p)=.ret (s.ddayL d R):=e9 λp _=>by
    have es:=Zeu (t:=(s.pick d R p).1) (b:=(s.dk R).2*aN d) (Int.ne_of_gt FV)<|aO n2<|by decide
    show o9 [.d<|.int (s.pick d R p).1,.d<|.tuple<|(s.pick d R p).2.map PyData.int,.d<|.int<|(s.dk R).2*aN d]=_;simp![o9,es]
   have hsm4:small ((s.dtab R).reverse.length+1)=true:=bW<|by rw[Bv,dlen];omega
   have hit:∀τ:D7,iI (aE<|aB gg<|ah (aa 0) aD) (aa 7) [.d s.d,.d<|bn ds,.own<|(s.dtab R).reverse++[.tuple<|s.ddayL d R],.d<|pD<|s.tb (s.dk R).1,.d<|.int<|(s.dk R).2*aN d,.d<|fD d,.d<|pD<|s.tb<|s.w2 d (s.dk R).1 (s.dk R).2,.d<|.list<|s.sts.map λp=>eF<|s.pick d R p]=.ret (s.sts.map λp=>.tuple [aq p,eF<|s.pick d R p]):=λ_=>by simp![iC h h7,Zab]
   have e5:=zo (n:=3) (ix:=[]) (g:=bD<|aJ (ao 0)<|aJ (bD<|aJ (ao 1)<|aJ (ao 2) bo) bo) (kx:=xL) (i:=xK) (kv:=λp:Pt=>(kS p,PyData.int (s.pick d R p).1)) (hit []) (AJ FR<|by decide) (l9 h) (mY<|jE s) λp hp=>by
    show iD _ _ [.d<|aq p,.d<|.int (s.pick d R p).1,.d<|.tuple<|(s.pick d R p).2.map PyData.int]=_;refine zg ?_ ?_
    ·simp![xL]
     rfl
    ·simp![xK]
   simp![ZdC,e1,e2,f1,f2,iC h h7,hsm,e3,hsm3,e4,hsm4,e5];rw[Shp.dtab,CB];exact b9 ⟨_,rfl,_,_,_,rfl⟩
  ·rintro ρ ⟨J5,J6,J7,rfl⟩;rw[Bv,Av,Dw,BP];exact Exists.intro _<|Exists.intro _ ⟨J5,J6,J7,rfl⟩
 ·rintro _ ⟨J3,J4,J5,J6,J7,rfl⟩;simp![List.reverse_reverse];exact b9 rfl
def pZ{z:Int}{k:Nat}(h:nb k z):nb k (eL z 0):=by unfold eL;exact kM (show(0:Int).natAbs<2^k from Cd<|by simp) h
def ZlH(s:Shp)(y f:Int):s.keep*eL (s.nx y f) 0+s.lack*eL (0-s.nx y f) 0+s.lost*(s.nx y f-y+f)=s.day y f:=by
 unfold Shp.day;have e:s.nx y f-y+f=s.nx y f-(y-f):=by omega
 rw[e];generalize s.nx y f=z;unfold eL;by_cases hz:z>0
 ·rw[Ef<|by omega,Ed<|by omega,Ed hz,B6,Int.add_zero]
 ·rw[Ef hz];by_cases h0:z=0
  ·subst h0;simp
  ·rw[Ed<|by omega,Ef<|by omega,B6,C5]
   have e2:0-z=-z:=by omega
   rw[e2]
def Zk4(s:Shp)(x:Int):s.late*eL (0-x) 0-s.back*eL x 0=s.fin x:=by
 unfold Shp.fin eL;by_cases hx:x>0
 ·rw[Ed<|by omega,Ef<|by omega,Ed hx,B6,Int.neg_mul]
  omega
 ·rw[Ef hx];by_cases h0:x=0
  ·subst h0;simp
  ·rw[Ef<|by omega,Ed<|by omega,B6,CU]
   have e2:0-x=-x:=by omega
   rw[e2]
def Zjn(s:Shp)(y f:Int):eL (y-f) (0-s.depth)=s.nx y f:=by
 unfold Shp.nx;have e:0-s.depth=-s.depth:=by omega
 rw[e]
def ZeB{s:Shp}(h:s.Ok){x:Int}(x1:-s.depth<=x)(x2:x<=s.top):jS [.d s.d,.d<|.int x]=.ret (.d<|.int<|s.fin x):=by
 have:=h.t0;have:=h.d0;have:=h.td;have n1:nb 20 (0-x):=bS (by show -1048576<_;omega)<|by show _<1048576;omega
 have n2:nb 20 x:=bS (by show -1048576<_;omega)<|by show _<1048576;omega
 have g1:=aY h.late<|by decide
 have g2:=aY (pZ n1)<|by decide
 have g3:=aY h.back<|by decide
 have g4:=aY (pZ n2)<|by decide
 simp![jS,g1,g2,g3,g4,Zk4]
def Zew{s:Shp}(h:s.Ok):mP [.d s.d]=.ret (.own<|bi (-s.depth)<|s.top+1):=by
 have:=h.t0;have:=h.d0;have:=h.td;have e:0-s.depth=-s.depth:=by omega
 have hr:iT (-s.depth) (s.top+1)=true:=by
  unfold iT;rw[fc (by omega)<|by omega,fc (by omega)<|by omega]
  simp;omega
 simp![mP,e,nr hr]
def zc{t b:Int}(hb:0<b)(nB:nb 7000 b):jP [.d<|.int t,.d<|.int b]=.ret (.d<|gK t b):=by
 obtain⟨z,rfl⟩:∃z:Nat,b=(z:Int):=⟨b.toNat,by omega⟩
 have key:=euclid (p:=wA) (s:=yy) (E:=λa b'=>[.d<|.int t,.d<|.int z,.d<|.int a,.d<|.int b']) (λa b=>by
  simp![wA];by_cases h:b=0
  ·subst h;rfl
  ·rw[Ea h];congr 1;simp;omega) (λa b h=>by
  have h':(b:Int)≠0:=by omega
  simp![yy,yY h',Zei]) 8000 83999 t.natAbs z<|AD (show z<2^7000 from by unfold nb at nB;rwa [Int.natAbs_natCast]at nB)<|C9 (by decide)<|by decide
 have e:2*8000+1+83999=100000:=rfl;rw[e]at key;have hd:=Gc.nA (t:=t) (b:=(z:Int))<|by omega
 have hf:=aY (ZeO (t:=t) nB<|by omega)<|by decide
 have ed:Gc.den t (z:Int)=((Nat.gcd t.natAbs z:Nat):Int):=by unfold Gc.den Gc.iz;rw[Ef<|by omega,Int.natAbs_natCast]
 unfold gK Gc.cB Gc.bQ;rw[ed]at hd hf ⊢;simp![jP,ZfX,key,uv hd hf]
def fq(p:Pt):aU ap (aq p) (.int 0)=.ret (.int p.1):=rfl
def fo(p:Pt):aU ap (aq p) (.int 1)=.ret (.int p.2):=rfl
def Zey{s:Shp}(h:s.Ok){y:Int}{f:Nat}(y1:-s.depth<=y)(y2:y<=s.top)(f1:f<=16):mR [.d s.d,.d<|.int y,.d<|.int f]=.ret (.d<|.tuple [.int<|s.day y f,.int<|s.nx y f]):=by
 have:=h.t0;have:=h.d0;have:=h.td;have n1:=im s y f;have n2:=il h y2<|show(0:Int)<=f by omega
 have hn:nb 20 (s.nx y f):=bS (by show -1048576<_;omega)<|by show _<1048576;omega
 have hn2:nb 20 (0-s.nx y f):=bS (by show -1048576<_;omega)<|by show _<1048576;omega
 have hn3:nb 20 (s.nx y f-y+f):=bS (by show -1048576<_;omega)<|by show _<1048576;omega
 have g1:=aY h.keep<|by decide
 have g2:=aY (pZ hn)<|by decide
 have g3:=aY h.lack<|by decide
 have g4:=aY (pZ hn2)<|by decide
 have g5:=aY h.lost<|by decide
 have g6:=aY hn3<|by decide
 simp![mR,Zjn,g1,g2,g3,g4,g5,g6,ZlH]
def Zex{s:Shp}(h:s.Ok){p q:Pt}(hp:p∈s.sts)(hq:q∈s.rzs p):ja [.d s.d,.d<|aq p,.d<|aq q]=.ret (.d<|.int<|s.ord (p.1+p.2)<|q.1+q.2):=by
 have:=h.t0;have:=h.d0;have:=h.td;obtain⟨⟨a1,a2⟩,b1,b2⟩:=(b8 h).mp hp;obtain⟨⟨q1,q2⟩,q3,q4⟩:=(gM a2 b2).mp hq;have em:q.1-p.1+q.2-p.2=q.1+q.2-(p.1+p.2):=by omega
 have n1:nb 20 (q.1+q.2-(p.1+p.2)):=bS (by show -1048576<_;omega)<|by show _<1048576;omega
 have g2:=aY (show nb 20 (1:Int)from bS (by decide)<|by decide)<|by decide
 have g3:=aY (show nb 20 (0:Int)from bS (by decide)<|by decide)<|by decide
 have g4:=aY h.piece<|by decide
 have g5:=aY n1<|by decide
 have g6:=aY (dX h.start<|dm h.piece n1)<|by decide
 unfold Shp.ord;by_cases hc:q.1+q.2-(p.1+p.2)>0
 ·rw[Ef<|by omega]
  simp![ja,fq,fo,em,Ea hc,EM,g2,g4,g5,g6,Dd]
 ·rw[Ed<|by omega]
  simp![ja,fq,fo,em,Eb hc,g3,g4,g5,g6,B6,Bk,EJ]
def Zez{s:Shp}(h:s.Ok){day:Fl D2}(hd:DdB day){F:Int->Int->Int}{b:Nat}(hF:eI s b F){c:Int}(hc:nb b c)(hb:b<=3000){q:Pt}(hq:q∈s.sts) :
  mS [.d s.d,.d<|fD day,.d<|pD<|s.tb F,.d<|.int c,.d<|aq q]=.ret (.d<|.int<|s.w2 day F c q.1 q.2):=by
 obtain⟨⟨a1,a2⟩,b1,b2⟩:=(b8 h).mp hq;have hlen:=hd.len;have hq1:=gw h a1 a2;have hq2:=gw h b1 b2;have gbs:∀i j:Nat,i<=3->j<=3->nb (b+102) (s.c2 F c q.1 q.2 i j):=λi j hi hj=>zM h hF hc a1 a2 b1 b2 (by omega)<|by omega
 have inner:∀(i:Nat)(line:D2)(T:Int)(FF FE FH FI FW:Sl),i<=3->line.length<=3->(∀w∈line,0<=w/\w<=1000) ->
   Al (ck (bD<|aJ (ao 10)<|aJ (ao 11) bo) yA (fF<|line.map PyData.int) [.d s.d,.d<|fD day,.d<|pD<|s.tb F,.d<|.int c,.d<|aq q,.d<|.int T,.d<|.int i,.d<|tI line,.d<|.int<|s.day q.1 i,.d<|.int<|s.nx q.1 i,FF,FE,FH,FI,FW]) 0
    λo=>∃FF FE FH FI FW:Sl,o=.next [.d s.d,.d<|fD day,.d<|pD<|s.tb F,.d<|.int c,.d<|aq q,.d<|.int<|T+ws (s.c2 F c q.1 q.2 i) 0 line,.d<|.int i,.d<|tI line,.d<|.int<|s.day q.1 i,.d<|.int<|s.nx q.1 i,FF,FE,FH,FI,FW]:=by
  intro i line T FF FE FH FI FW hi hl hw;refine jt (n:=0) (λpre ρ=>∃FF FE FH FI FW:Sl,ρ=[.d s.d,.d<|fD day,.d<|pD<|s.tb F,.d<|.int c,.d<|aq q,.d<|.int<|T+ws (s.c2 F c q.1 q.2 i) 0 line-ws (s.c2 F c q.1 q.2 i) pre.length (line.drop pre.length),.d<|.int i,.d<|tI line,.d<|.int<|s.day q.1 i,.d<|.int<|s.nx q.1 i,FF,FE,FH,FI,FW]) ⟨FF,FE,FH,FI,FW,?_⟩ (by simp) ?_ ?_
  ·have e:T+ws (s.c2 F c q.1 q.2 i) 0 line-ws (s.c2 F c q.1 q.2 i) 0 line=T:=by omega
   simp only[Bm,BP,e]
  ·rintro pre x post ρ e ⟨FF,FE,FH,FI,FW,rfl⟩;obtain⟨w,hw',rfl⟩:=vz e;rw[AK]at hw';obtain⟨v,hv,rfl⟩:=Bs.mp hw';refine⟨_,rfl,?_⟩;have FO:pre.length<line.length:=(Ay.mp hv).1;have e1:=Zey h b1 b2 (f:=pre.length) (by omega)
   have eg:∀(a b:Int)(ρ:D7),bD (aJ (ao 12)<|aJ (ao 13) bo) (.tuple [.int a,.int b]) ρ=some ((ρ.set 12<|.d<|.int a).set 13<|.d<|.int b):=λ_ _ _=>rfl;have e5:=jD h (F:=F) (im s q.1 i) (il h a2<|show(0:Int)<=i by omega) (im s q.2 pre.length)<|il h b2<|show(0:Int)<=pre.length by omega
   have f1:=aY hc<|by omega
   have f2:=aY (dX (lD h hq1<|jj (k:=i)<|by omega)<|lD h hq2<|jj (k:=pre.length)<|by omega)<|by decide
   have f3:=aY (oh<|hw v<|Bi hv)<|by decide
   have em:(s.day q.1 i+s.day q.2 pre.length)*c+F (s.nx q.1 i) (s.nx q.2 pre.length)=s.c2 F c q.1 q.2 i pre.length:=by unfold Shp.c2;rw[BI]
   have f4:fit (s.c2 F c q.1 q.2 i pre.length)=true:=aY (gbs i pre.length (by omega)<|by omega)<|by omega
   simp![yA,fo,e1,eg,e5,f1,f2,f3,em,f4];have ed:line.drop pre.length=v::line.drop (pre.length+1):=by rw[AY FO];congr 1;exact(Ay.mp hv).2
   have el:(pre++[PyData.tuple [PyData.int pre.length,PyData.int v]]).length=pre.length+1:=by simp
   have ee:T+ws (s.c2 F c q.1 q.2 i) 0 line-ws (s.c2 F c q.1 q.2 i) pre.length (line.drop pre.length)+v*s.c2 F c q.1 q.2 i pre.length =
     T+ws (s.c2 F c q.1 q.2 i) 0 line-ws (s.c2 F c q.1 q.2 i) (pre++[PyData.tuple [PyData.int pre.length,PyData.int v]]).length (line.drop (pre++[PyData.tuple [PyData.int pre.length,PyData.int v]]).length):=by rw[el,ed,ws];omega
   rw[ee];exact b9 ⟨_,rfl,_,_,_,_,_,rfl⟩
  ·rintro ρ ⟨FF,FE,FH,FI,FW,rfl⟩;refine⟨FF,FE,FH,FI,FW,?_⟩;rw[vA,Av,Br,ws,CU]
 apply nN;simp![mS,li];refine eA (n:=0) (n':=0) (P:=λo=>∃J6 J7 J8 J9 FF FE FH FI FW:Sl,o=.next [.d s.d,.d<|fD day,.d<|pD<|s.tb F,.d<|.int c,.d<|aq q,.d<|.int<|s.w2 day F c q.1 q.2,J6,J7,J8,J9,FF,FE,FH,FI,FW]) ?_ (by decide) ?_
 ·refine jt (n:=0) (λpre ρ=>∃J6 J7 J8 J9 FF FE FH FI FW:Sl,ρ=[.d s.d,.d<|fD day,.d<|pD<|s.tb F,.d<|.int c,.d<|aq q,.d<|.int<|s.w2 day F c q.1 q.2-wss (s.c2 F c q.1 q.2) pre.length (day.drop pre.length),J6,J7,J8,J9,FF,FE,FH,FI,FW]) ⟨.un,.un,.un,.un,.un,.un,.un,.un,.un,?_⟩ (by simp) ?_ ?_
  ·have e:s.w2 day F c q.1 q.2-wss (s.c2 F c q.1 q.2) 0 day=0:=by unfold Shp.w2;omega
   simp only[Bm,BP,e]
  ·rintro pre x post ρ e ⟨J6,J7,J8,J9,FF,FE,FH,FI,FW,rfl⟩;obtain⟨w,hw',rfl⟩:=vz e;rw[AK]at hw';obtain⟨line,hv,rfl⟩:=Bs.mp hw';refine⟨_,rfl,?_⟩;have FO:pre.length<day.length:=(Ay.mp hv).1;obtain⟨l1,l2⟩:=hd.row line<|Bi hv;have ed:day.drop pre.length=line::day.drop (pre.length+1):=by rw[AY FO];congr 1;exact(Ay.mp hv).2
   have el:(pre++[PyData.tuple [PyData.int pre.length,tI line]]).length=pre.length+1:=by simp
   have e1:=Zey h a1 a2 (f:=pre.length)<|by omega
   have eg:∀(a b:Int)(ρ:D7),bD (aJ (ao 8)<|aJ (ao 9) bo) (.tuple [.int a,.int b]) ρ=some ((ρ.set 8<|.d<|.int a).set 9<|.d<|.int b):=λ_ _ _=>rfl;simp![ZdF,fq,e1,eg,ZdP];refine lL (inner pre.length line _ _ _ _ _ _ (by omega) l1 l2) (Aw _) ?_
   rintro _ ⟨FF,FE,FH,FI,FW,rfl⟩;have ee:s.w2 day F c q.1 q.2-wss (s.c2 F c q.1 q.2) pre.length (day.drop pre.length)+ws (s.c2 F c q.1 q.2 pre.length) 0 line=s.w2 day F c q.1 q.2-wss (s.c2 F c q.1 q.2) (pre++[PyData.tuple [PyData.int pre.length,tI line]]).length (day.drop (pre++[PyData.tuple [PyData.int pre.length,tI line]]).length):=by rw[el,ed,wss];omega
   rw[ee];exact⟨_,rfl,_,_,_,_,FF,FE,FH,FI,FW,rfl⟩
  ·rintro ρ ⟨J6,J7,J8,J9,FF,FE,FH,FI,FW,rfl⟩;refine⟨J6,J7,J8,J9,FF,FE,FH,FI,FW,?_⟩;rw[vA,Av,Br,wss,CU]
 ·rintro _ ⟨J6,J7,J8,J9,FF,FE,FH,FI,FW,rfl⟩;simp![Ci];exact b9 rfl
def Zc4{a b c d:Sl}(ha:bZ a=false)(hc:bZ c=false)(hd:bZ d=false):io 1 [a,b,c,d]=true:=by
 show(!bZ a&&(!bZ .un&&(!bZ c&&(!bZ d&&true))))=true;rw[ha,hc,hd]
 rfl
def zd{s:Shp}(h:s.Ok)(h7:s.n<=7):kY [.d s.d]=.ret (.d<|pD<|s.tb λa b=>s.fin a+s.fin b):=by
 have ht:=h.t0;have hd0:=h.d0;have htd:=h.td;have hn:=h.n_eq
 let kv:Pt->Fl Int×Fn:=λp=>(kS p,.int<|s.fin p.1+s.fin p.2)
 have inner:∀(k:Nat)(J3:Sl),bZ J3=false->k<s.n->Al (ck (ao 3) yB (bi (-s.depth)<|s.top+1) [.d s.d,.dip<|(cP (aQ (-s.depth) k)<|aQ (-s.depth) s.n).map kv,.d<|.int<|-s.depth+k,J3]) 0
   λo=>∃J3:Sl,bZ J3=false/\o=.next [.d s.d,.dip<|(cP (aQ (-s.depth)<|k+1)<|aQ (-s.depth) s.n).map kv,.d<|.int<|-s.depth+k,J3]:=by
  intro k J3 h3 hk;refine jt (n:=0) (λpre ρ=>∃J3:Sl,bZ J3=false/\ρ=[.d s.d,.dip<|(cP (aQ (-s.depth) k)<|aQ (-s.depth) s.n).map kv++((aQ (-s.depth) pre.length).map λy=>kv (-s.depth+k,y)),.d<|.int<|-s.depth+k,J3]) ⟨J3,h3,?_⟩ (by simp) ?_ ?_
  ·show _=[_,Sl.dip<|_++[],_,_];rw[A3]
  ·rintro pre x post ρ e ⟨J3,h3,rfl⟩;obtain⟨rfl,hpre⟩:=ZbL e;refine⟨_,rfl,?_⟩;have e1:=ZeB h (x:=-s.depth+k) (by omega) (by omega)
   have e2:=ZeB h (x:=-s.depth+(pre.length:Int)) (by omega)<|by omega
   have el:(pre++[PyData.int<|-s.depth+pre.length]).length=pre.length+1:=by simp
   have hlen:((cP (aQ (-s.depth) k)<|aQ (-s.depth) s.n).map kv++((aQ (-s.depth) pre.length).map λy=>kv (-s.depth+k,y))).length<=5000:=by
    have hp:(cP (aQ (-s.depth) k)<|aQ (-s.depth) s.n).length=k*s.n:=by
     unfold cP;rw[List.length_flatMap];have:((aQ (-s.depth) k).map λx=>((aQ (-s.depth) s.n).map λy=>(x,y)).length)=(aQ (-s.depth) k).map λ_=>s.n:=BD λx _=>by rw[Av,fO]
     rw[this,List.map_const',List.sum_replicate_nat,fO]
    rw[AQ,Av,Av,fO,hp];have:k*s.n<=7*7:=Cb (by omega) h7
    omega
   have hni:kS (-s.depth+k,-s.depth+pre.length)∉((cP (aQ (-s.depth) k)<|aQ (-s.depth) s.n).map kv++((aQ (-s.depth) pre.length).map λy=>kv (-s.depth+k,y))).map (·.1):=by
    rw[Bu,AR,AR];intro z;rcases Bh.mp z with z|z
    ·obtain⟨p,hp,e⟩:=AU.mp z;have e:kS p=kS (-s.depth+k,-s.depth+pre.length):=e;rw[ZdM e]at hp;have:=gN (pz.mp hp).1;omega
    ·obtain⟨y,hy,e⟩:=AU.mp z;have e:kS (-s.depth+k,y)=kS (-s.depth+k,-s.depth+pre.length):=e;injection e with _ e;injection e with e _;have:=gN hy;omega
   have ep:=ZcD (k:=1) (ρ:=[.d s.d,.dip<|(cP (aQ (-s.depth) k)<|aQ (-s.depth) s.n).map kv++((aQ (-s.depth) pre.length).map λy=>kv (-s.depth+k,y)),.d<|.int<|-s.depth+k,.d<|.int<|-s.depth+pre.length])
    (i:=(ae bg (aE<|aB jS<|ah (aa 0)<|ah (aa 2) aD)<|aE<|aB jS<|ah (aa 0)<|ah (aa 3) aD)) (nn:=(bj<|af (aa 2)<|af (aa 3) ak)) (x:=.int<|s.fin (-s.depth+k)+s.fin (-s.depth+pre.length)) (ns:=kS (-s.depth+k,-s.depth+pre.length))
    (by simp![e1,e2]) rfl (by simp! only[Ci];rfl) hlen (Zc4 rfl rfl rfl) hni
   unfold yB;show Al (lO 1 _ _ [.d s.d,.dip _,.d<|.int<|-s.depth+k,.d<|.int<|-s.depth+pre.length]) _ _;rw[ep];refine b9 ⟨_,rfl,.d<|.int<|-s.depth+pre.length,rfl,?_⟩;rw[el,Zb1,Bu,<- Bg]
   rfl
  ·rintro ρ ⟨J3,h3,rfl⟩;rw[dh];refine⟨J3,h3,?_⟩;have en:(s.top+1 - -s.depth).toNat=s.n:=rfl;rw[en,Zb1];have:cP (aQ (-s.depth) k++[-s.depth+(k:Int)]) (aQ (-s.depth) s.n)=cP (aQ (-s.depth) k) (aQ (-s.depth) s.n)++(aQ (-s.depth) s.n).map λy=>(-s.depth+(k:Int),y):=by unfold cP;rw[List.flatMap_append,Ds,List.flatMap_nil,A3]
   rw[this,Bu,AR]
   rfl
 apply nN;simp![kY,yX,Zew h];refine eA (n:=0) (n':=0) (P:=λo=>∃J2 J3:Sl,bZ J2=false/\bZ J3=false/\o=.next [.d s.d,.dip<|s.sts.map kv,J2,J3]) ?_ (by decide) ?_
 ·refine jt (n:=0) (λpre ρ=>∃J2 J3:Sl,bZ J2=false/\bZ J3=false/\ρ=[.d s.d,.dip<|(cP (aQ (-s.depth) pre.length)<|aQ (-s.depth) s.n).map kv,J2,J3]) ⟨.un,.un,rfl,rfl,rfl⟩ (by simp) ?_ ?_
  ·rintro pre x post ρ e ⟨J2,J3,h2,h3,rfl⟩;obtain⟨rfl,hpre⟩:=ZbL e;refine⟨_,rfl,?_⟩;have el:(pre++[PyData.int<|-s.depth+pre.length]).length=pre.length+1:=by simp
   have hk:pre.length<s.n:=by unfold Shp.n;omega
   simp![ZdG,Zew h];refine lL (inner pre.length J3 h3 hk) (Aw _) ?_;rintro _ ⟨J3',h3',rfl⟩;rw[el];exact⟨_,rfl,_,J3',rfl,h3',rfl⟩
  ·rintro ρ ⟨J2,J3,h2,h3,rfl⟩;rw[dh];exact⟨J2,J3,h2,h3,rfl⟩
 ·rintro _ ⟨J2,J3,h2,h3,rfl⟩;have ef:=Zeo (s:=fX 1) (k:=1) (ρ:=[.d s.d,.dip<|s.sts.map kv,J2,J3]) (l:=s.sts.map kv) rfl (Zc4 rfl h2 h3) (λe=>l9 h<|B7.mp e);simp![ef];exact b9 rfl
def bh(n:Int):cG [.pen,.d<|.int n]=.draw n λr=>.ret (.d<|.int r):=rfl
noncomputable abbrev rl(rows:Fl D1):Sl:=.d<|.list<|rows.map PyData.list
section
variable{A:Fl Sl->Tr (Fl D1)}{v i j:DR}{t:DU}{a b c d:Sl}{rows:Fl D1}{x y z:Fn}
def xw(t:DU)(a b c:Sl)(rows:Fl D1):Tr Ou:=t [a,b,c,rl rows]
def xx(t:DU)(a b c:Sl)(rows:Fl D1)(x y z:Fn):Tr Ou:=(Tr.of<|jL rows y z x).bind<|xw t a b c
def xz(j:DR)(t:DU)(a b c:Sl)(rows:Fl D1)(x y:Fn):Tr Ou:=(j [a,b,c,rl rows]).bind<|xx t a b c rows x y
def xA(i j:DR)(t:DU)(a b c:Sl)(rows:Fl D1)(x:Fn):Tr Ou:=(i [a,b,c,rl rows]).bind<|xz j t a b c rows x
def rw1(v i j:DR)(t:DU)(a b c:Sl)(rows:Fl D1):Tr Ou:=(v [a,b,c,rl rows]).bind<|xA i j t a b c rows
def Zld:Ab 3 A v i j t [a,b,c,d]=(A [a,b,c,d]).bind (rw1 v i j t a b c):=rfl
def Zlc:rw1 v i j t a b c rows=(v [a,b,c,rl rows]).bind (xA i j t a b c rows):=rfl
def Zlb:xA i j t a b c rows x=(i [a,b,c,rl rows]).bind (xz j t a b c rows x):=rfl
def Zla:xz j t a b c rows x y=(j [a,b,c,rl rows]).bind (xx t a b c rows x y):=rfl
def Zk9:xx t a b c rows x y z=(Tr.of<|jL rows y z x).bind (xw t a b c):=rfl
def Zk8:xw t a b c rows=t [a,b,c,rl rows]:=rfl
end
noncomputable def yo(el:DS)(ρ:D7)(x:Fn):Tr D1:=el (.d x::ρ)
def lr0(el:DS)(ρ:D7)(xs:D1):Tr (Fl D1):=if small xs.length=true then i9 (yo el ρ) xs else .fail
def Zno{x y:Fn}{d:Sl}:blk 1 [0,1,2] [.pen,.d x,.d y,d]=[.un,.pen,.d x,.d y]:=rfl
def Zlh{is el:DS}{x y:Fn}{d:Sl}:nT is 1 [0,1,2] (ao 0) el [.pen,.d x,.d y,d]=(is [.pen,.d x,.d y,d]).bind (lr0 el [.pen,.d x,.d y]):=by
 unfold nT;rw[Zno]
 rfl
def Zlg{el:DS}{ρ:D7}{xs:D1}(h:small xs.length=true):lr0 el ρ xs=i9 (yo el ρ) xs:=Ed h
def Zlf{el:DS}{ρ:D7}{x:Fn}:yo el ρ x=el (.d x::ρ):=rfl
theorem ZfQ{h:Fn->Tr D1}{P:Fl Fn->Prop}{n:Nat}:∀{xs:D1},(∀x∈xs,Al (h x) n P)->Al (i9 h xs) (xs.length*n) λys=>ys.length=xs.length/\∀y∈ys,P y
 | [],_=>b9 ⟨rfl,λ_ h=>nomatch h⟩
 | x::xs,hx=>by
  unfold i9;refine eA (n:=n) (n':=xs.length*n) (hx x AB) (by rw[AE,Cq];omega) λy hy=>?_
  refine eA (n:=xs.length*n) (n':=0) (ZfQ λz hz=>hx z<|Az _ hz) (by omega) λys hys=>?_
  refine b9 ⟨by rw[AE,AE,hys.1],λz hz=>?_⟩
  rcases AM.mp hz with e|e
  ·subst e;exact hy
  ·exact hys.2 z e
structure Rowd(R:List D1)(w:Nat):Prop where
 l1:1<=R.length
 l3:R.length<=3
 w1:1<=w
 w3:w<=3
 row:∀r∈R,r.length=w/\∀y∈r,gh 0 1000 y
theorem ZdW:∀{r:D1},(∀y∈r,gh 0 1000 y)->∃l:D2,r=l.map PyData.int/\∀w∈l,0<=w/\w<=1000
 | [],_=>⟨[],rfl,nofun⟩
 | y::r,h=>by
  obtain⟨n,rfl,a,b⟩:=h y<|AB ..;obtain⟨l,rfl,hl⟩:=ZdW (r:=r) λz hz=>h z<|Az _ hz;refine⟨n::l,rfl,λw hw=>?_⟩;rcases AM.mp hw with rfl|hw
  ·exact⟨a,b⟩
  ·exact hl w hw
theorem ZbJ:∀{R:Fl D1},(∀r∈R,r.length<=3/\∀y∈r,gh 0 1000 y)->∃day:Fl D2,R=day.map (List.map PyData.int)/\∀l∈day,l.length<=3/\∀w∈l,0<=w/\w<=1000
 | [],_=>⟨[],rfl,nofun⟩
 | r::R,h=>by
  obtain⟨h1,h2⟩:=h r<|AB ..;obtain⟨l,rfl,hl⟩:=ZdW h2;obtain⟨day,rfl,hd⟩:=ZbJ (R:=R) λz hz=>h z<|Az _ hz;refine⟨l::day,rfl,λw hw=>?_⟩;rcases AM.mp hw with rfl|hw
  ·exact⟨by rw[Av]at h1;exact h1,hl⟩
  ·exact hd w hw
theorem ZaJ:∀{l:D2},(∀w∈l,0<=w/\w<=1000)->∀n∈l,n<=l.sum
 | [],_,n,h=>by cases h
 | w::l,h,n,hn=>by
  have h1:=h w<|AB ..;have h2:=oy (l:=l) λv hv=>h v<|Az _ hv;rw[BW];rcases AM.mp hn with rfl|hn
  ·omega
  ·have:=ZaJ (l:=l) (λv hv=>h v<|Az _ hv) n hn;omega
theorem ZaQ:∀{L:Fl D2},(∀l∈L,l.length<=3/\∀w∈l,0<=w/\w<=1000)->∀l∈L,∀n∈l,n<=aN L
 | [],_,l,h,_,_=>by cases h
 | a::L,h,l,hl,n,hn=>by
  obtain⟨l1,l2⟩:=h a<|AB ..;have h1:=oy l2;have h2:=wT (L:=L) λv hv=>h v<|Az _ hv;have e:aN (a::L)=a.sum+aN L:=by unfold aN;rw[Ax,BW]
  rw[e];rcases AM.mp hl with rfl|hl
  ·have:=ZaJ l2 n hn;omega
  ·have:=ZaQ (L:=L) (λv hv=>h v<|Az _ hv) l hl n hn;omega
def Rowd.dd{R:Fl D1}{w:Nat}(h:Rowd R w){r:D1}{n:Int}(hr:r∈R)(hn:.int n∈r)(h0:0<n):∃day,PyData.tuple (R.map PyData.tuple)=fD day/\DdB day:=by
 obtain⟨day,rfl,hd⟩:=ZbJ (R:=R) λr hr=>⟨by rw[(h.row r hr).1];exact h.w3,(h.row r hr).2⟩
 refine⟨day,?_,?_,hd,?_⟩
 ·unfold fD;rw[AR]
  rfl
 ·have:=h.l3;rw[Av]at this;exact this
 ·obtain⟨l,hl,rfl⟩:=AU.mp hr;obtain⟨m,hm,e⟩:=AU.mp hn;have e:m=n:=by injection e
  have:=ZaQ hd l hl m hm;omega
def ZhN:Al (qa [.pen]) 15 λr=>∃day,r=.d (fD day)/\DdB day:=by
 simp![qa,bh];refine cN (n:=14) (by decide) (by decide) (by decide) λq q0 q1=>?_
 obtain⟨b,hb,b0,b1⟩:=x4 (xs:=[PyData.int 2,.int 4,.int 20,.int 1001]) (lo:=2) (hi:=1001) (by simp[gh]) q0 q1
 simp![bh,hb];refine cN (n:=13) (by decide) (by decide) (by decide) λw w0 w1=>?_
 simp![bh,Zld,Zlh];refine cN (n:=12) (by decide) (by decide) (by decide) λc c0 c1=>?_
 have rr:eK [.int<|1+c]=.ret (bi 0<|1+c):=gB<|fc (by omega)<|by omega
 have hs:small (bi 0<|1+c).length=true:=bW<|by rw[dh];omega
 have rw':eK [.int<|1+w]=.ret (bi 0<|1+w):=gB<|fc (by omega)<|by omega
 have hw:small (bi 0<|1+w).length=true:=bW<|by rw[dh];omega
 simp![bh,rr,Zlg hs];refine eA (n:=9) (n':=3) (P:=λR=>Rowd R (1+w).toNat) (lL (ZfQ (n:=3) (P:=λr=>r.length=(1+w).toNat/\∀y∈r,gh 0 1000 y) λx hx=>?_) (by rw[dh];omega) λR hR=>?_) (by decide) ?_
 ·rw[Zlf];simp![Zct,bh,rw',hw];refine zW (n:=1) (P:=gh 0 1000) (by rw[dh];omega) (λy hy=>?_) λys hl hys=>⟨by rw[hl,dh];omega,hys⟩
  simp![Zcu,bh];refine cN (n:=0) (by omega) (by omega) (by decide) λv v0 v1=>?_
  try simp![bh]
  exact b9 ⟨v,rfl,v0,by omega⟩
 ·rw[dh]at hR;exact⟨by omega,by omega,by omega,by omega,hR.2⟩
 ·intro R hR;simp![bh,Zlc];refine cN (n:=2) (by omega) (by omega) (by decide) λv v0 v1=>?_
  simp![bh,Zlb,Av];have l1:=hR.l1;have l3:=hR.l3;refine cN (n:=1) (by omega) (by omega) (by decide) λi i0 i1=>?_
  simp![bh,Zla];refine cN (n:=0) (by omega) (by omega) (by decide) λj j0 j1=>?_
  obtain⟨i,rfl⟩:=BM i0;obtain⟨j,rfl⟩:=BM j0;have hi:i<R.length:=by omega
  obtain⟨el,ei⟩:=hR.row R[i]<|AW hi;have hj:j<R[i].length:=by rw[el];omega
  have n1:L2.cy R.length (i:Int)=some i:=by unfold L2.cy;rw[Ed<|by omega,Ed<|by omega,AZ]
  have n2:L2.cy R[i].length (j:Int)=some j:=by unfold L2.cy;rw[Ed<|by omega,Ed<|by omega,AZ]
  have ep:jL R (.int (i:Int)) (.int (j:Int)) (.int<|1+v)=some (R.set i<|R[i].set j<|.int<|1+v):=by
   show((L2.cy R.length (i:Int)).bind λn=>(R[n]?).bind λr=>(L2.cy r.length (j:Int)).bind λl=>if gA (.int<|1+v)=true then some (R.set n<|r.set l<|.int<|1+v)else none)=_
   rw[n1];show((R[i]?).bind λr=>(L2.cy r.length (j:Int)).bind λl=>if gA (.int<|1+v)=true then some (R.set i<|r.set l<|.int<|1+v)else none)=_
   rw[Au hi];show((L2.cy R[i].length (j:Int)).bind λl=>if gA (.int<|1+v)=true then some (R.set i<|R[i].set l<|.int<|1+v)else none)=_
   rw[n2]
   rfl
  have hR2:Rowd (R.set i<|R[i].set j<|.int<|1+v) (1+w).toNat:=by
   refine⟨by rw[A1];exact l1,by rw[A1];exact l3,hR.w1,hR.w3,λr hr=>?_⟩
   rcases DG hr with q|q
   ·exact hR.row r q
   ·subst q;refine⟨by rw[A1];exact el,λy hy=>?_⟩
    rcases DG hy with q|q
    ·exact ei y q
    ·subst q;exact⟨1+v,rfl,by omega,by omega⟩
  have hin:R[i].set j (.int<|1+v)∈R.set i (R[i].set j<|.int<|1+v):=List.mem_set hi _;have hin2:PyData.int (1+v)∈R[i].set j (.int<|1+v):=List.mem_set hj _;obtain⟨day,ed,hdd⟩:=hR2.dd hin hin2<|by omega
  have hlen:(R.set i<|R[i].set j<|.int<|1+v).length=R.length:=A1 ..;generalize R.set i (R[i].set j<|.int<|1+v)=R' at ep hR2 ed hlen;have hs2:small (R'.map PyData.list).length=true:=bW<|by rw[Av];omega
  have em:bJ (dF (ao 0) xR [.un]) (R'.map PyData.list)=.ret (R'.map PyData.tuple):=e9 λr _=>by simp![xR]
  simp![bh,Zk9,ep,Zk8,hs2,em,ed];exact b9 ⟨day,rfl,hdd⟩
theorem ZeV:∀{ys:D1},(∀y∈ys,∃day,y=fD day/\DdB day)->∃ds:Fl (Fl D2),ys=ds.map fD/\∀d∈ds,DdB d
 | [],_=>⟨[],rfl,nofun⟩
 | y::ys,h=>by
  obtain⟨d,rfl,hd⟩:=h y<|AB ..;obtain⟨ds,rfl,hds⟩:=ZeV (ys:=ys) λz hz=>h z<|Az _ hz;refine⟨d::ds,rfl,λz hz=>?_⟩;rcases AM.mp hz with rfl|hz
  ·exact hd
  ·exact hds z hz
def ZhM:Al (qb [.pen]) 46 λr=>∃ds,r=.d (bn ds)/\1<=ds.length/\ds.length<=3/\∀d∈ds,DdB d:=by
 simp![qb,bh];refine cN (n:=45) (by decide) (by decide) (by decide) λc c0 c1=>?_
 have rr:eK [.int<|1+c]=.ret (bi 0<|1+c):=gB<|fc (by omega)<|by omega
 have hs:small (bi 0<|1+c).length=true:=bW<|by rw[dh];omega
 simp![bh,rr,hs];refine eA (n:=45) (n':=0) (zW (n:=15) (P:=λy=>∃day,y=fD day/\DdB day) (Q:=λys=>∃ds:Fl (Fl D2),ys=ds.map fD/\1<=ds.length/\ds.length<=3/\∀d∈ds,DdB d) (by rw[dh];omega) (λx hx=>?_) λys hl hys=>?_) (by decide) ?_
 ·simp![Zcv,bh];refine eA (n:=15) (n':=0) ZhN (by decide) ?_
  rintro _ ⟨day,rfl,hy⟩;simp![bh];exact b9 ⟨day,rfl,hy⟩
 ·obtain⟨ds,rfl,hd⟩:=ZeV hys;rw[Av,dh]at hl;exact⟨ds,rfl,by omega,by omega,hd⟩
 ·rintro _ ⟨ds,rfl,h1,h3,hd⟩
  try simp![bh]
  exact b9 ⟨ds,rfl,h1,h3,hd⟩
def ZhJ:Al (p7 [.pen]) 11 λr=>∃s:Shp,r=.d s.d/\s.Ok/\s.n<=5:=by
 have r7:eK [.int 7]=.ret (bi 0 7):=gB rfl;have h7:small (bi 0 7).length=true:=bW<|by rw[dh];decide
 simp![p7,bh];refine cN (n:=10) (by decide) (by decide) (by decide) λq q0 q1=>?_
 obtain⟨b,hb,b0,b1⟩:=x4 (xs:=[PyData.int 2,.int 3,.int 10,.int 60]) (lo:=2) (hi:=60) (by simp[gh]) q0 q1
 simp![bh,hb];refine cN (n:=9) (by decide) (by decide) (by decide) λt t0 t1=>?_
 simp![bh,r7,h7];refine eA (n:=7) (n':=2) (zW (n:=1) (P:=gh 0 1000000) (Q:=λys=>ys.length=7/\∀y∈ys,gh 0 1000000 y) (by rw[dh];decide) (λx hx=>?_) λys hl hys=>⟨by rw[hl,dh];rfl,hys⟩) (by decide) ?_
 ·simp![Zcs,bh];refine cN (n:=0) (by omega) (by omega) (by decide) λv v0 v1=>?_
  try simp![bh]
  exact b9 ⟨v,rfl,v0,by omega⟩
 rintro ys ⟨hl,hys⟩;obtain⟨a,b',c,d,e,f,g,rfl⟩:=ZjS hl;have hm:∀y∈[a,b',c,d,e,f,g],gh 0 1000000 y:=hys;simp only[AM,BU,EV,forall_eq_or_imp,forall_eq]at hm;obtain⟨⟨a,rfl,a0,a1⟩,⟨b',rfl,b0',b1'⟩,⟨c,rfl,c0,c1⟩,⟨d,rfl,d0,d1⟩,⟨e,rfl,e0,e1⟩,⟨f,rfl,f0,f1⟩,⟨g,rfl,g0,g1⟩⟩:=hm
 try simp![bh]
 refine cN (n:=1) (by decide) (by decide) (by decide) λr r0 r1=>?_
 have fin:∀a:Int,0<=a->a<=1000000->∀u:Int,0<=u->u<5-t->(Shp.mk t u a b' c d e f g).Ok/\(Shp.mk t u a b' c d e f g).n<=5:=λa a0 a1 u u0 u1=>by
  have hd:(Shp.mk t u a b' c d e f g).Dr:=⟨t0,u0,by show t+u<=39;omega,λn hn=>by have hn:n∈[a,b',c,d,e,f,g]:=hn;simp only[AM,BU,EV]at hn;omega⟩
  refine⟨hd.ok,?_⟩;show(t+1 - -u).toNat<=5;omega
 have hs:small ([PyData.int t,.int 0].length+[PyData.int a,.int b',.int c,.int d,.int e,.int f,.int g].length)=true:=bW<|by show 9<=10000;decide
 cases hb:(r==0)
 ·simp![bh,hb];refine cN (n:=0) (by omega) (by omega) (by decide) λu u0 u1=>?_
  try simp![bh]
  rw[ZaX];exact b9 ⟨_,rfl,fin a a0 a1 u u0 u1⟩
 ·simp![bh,hb,Zk7 (xs:=[PyData.int a,.int b',.int c,.int d,.int e,.int f,.int g]) (y:=0) (t:=0) rfl];refine cN (n:=0) (by omega) (by omega) (by decide) λu u0 u1=>?_
  try simp![bh]
  rw[ZaX];exact b9 ⟨_,rfl,fin 0 (by decide) (by decide) u u0 u1⟩
noncomputable def bK:Fn->Bool
 |.int _=>true
 |_=>false
noncomputable def cA(x:Fn)(a b:Int):Bool:=match x with
 |.int n=>decide (a<=n)&&decide (n<=b)
 |_=>false
noncomputable def cu:Fn->Bool
 |.tuple [.int t,.int b]=>decide (1<=b)&&(((Nat.gcd t.natAbs b.natAbs:Nat):Int)==1)
 |_=>false
def cw:((((2:Nat):Int))==2)=true:=rfl
def bz(xs:D1):lm "tuple" (iN<|.tuple xs)=true:=rfl
def cC(x:Fn):kZ [.d x]=.ret (.d<|.bool<|bK x):=by cases x <;> (simp![kZ];rfl)
def ZkF(x:Fn)(a b:Int):gR [.d x,.d<|.int a,.d<|.int b]=.ret (.d<|.bool<|cA x a b):=by
 cases x with
 | int n =>
  have e:=cC<|.int n;simp![gR,e,bK,cA];cases h1:decide (a<=n) <;> cases h2:decide (n<=b) <;> simp![h1,h2,Bq,Bb,Ck,CF]
 |none=>have e:=cC .none;simp![gR,e,bK,cA]
 |bool c=>have e:=cC<|.bool c;simp![gR,e,bK,cA]
 |str c=>have e:=cC<|.str c;simp![gR,e,bK,cA]
 |list c=>have e:=cC<|.list c;simp![gR,e,bK,cA]
 |tuple c=>have e:=cC<|.tuple c;simp![gR,e,bK,cA]
 |dict c=>have e:=cC<|.dict c;simp![gR,e,bK,cA]
def Sm(x:Fn):Prop:=∀t b,x=.tuple [.int t,.int b]->nb 7000 b
def gU{x:Fn}(h:∀xs,x≠.tuple xs):lm "tuple" (iN x)=false:=by
 cases x with
 |tuple xs=>exact absurd rfl (h xs)
 |none=>rfl
 |bool _=>rfl
 |int _=>rfl
 |str _=>rfl
 |list _=>rfl
 |dict _=>rfl
def oq(n:Nat):((((n+1+1+1:Nat):Int))==2)=false:=by rw[Eh];omega
def ZkG{x:Fn}(hs:Sm x):dD [.d x]=.ret (.d<|.bool<|cu x):=by
 by_cases ht:∃xs,x=.tuple xs
 ·obtain⟨xs,rfl⟩:=ht;have z0:((((0:Nat):Int))==2)=false:=rfl;have z1:((((1:Nat):Int))==2)=false:=rfl;rcases xs with _|⟨a,_|⟨b,_|⟨c,r⟩⟩⟩
  ·simp![dD,bz,z0,AF,AH,cu]
  ·have l1:([a].length:Int)=((1:Nat):Int):=rfl;simp![dD,bz,AF,Bp,z1,AH,cu]
  ·cases a with
   | int t =>
    cases b with
    | int b =>
     have w1:=cC<|.int t;have w2:=cC<|.int b;by_cases h1:b<1
     ·have e:cu (.tuple [.int t,.int b])=false:=by
       show(decide (1<=b)&&_)=false;rw[Eb<|by omega]
       rfl
      rw[e];simp![dD,bz,cw,AF,w1,w2,bK,Ea h1]
     ·have e:cu (.tuple [.int t,.int b])=(((Nat.gcd t.natAbs b.natAbs:Nat):Int)==1):=by
       show(decide (1<=b)&&_)=_;rw[Ea<|by omega]
       rfl
      have g:=ZeD (a:=t) (b:=b)<|aO (hs t b rfl)<|by decide
      rw[e];simp![dD,bz,cw,AF,w1,w2,bK,Eb h1,g]
    | none =>
     have w1:=cC<|.int t;have w2:=cC .none;simp![dD,bz,cw,AF,AH,w1,w2,bK,cu]
    | bool y =>
     have w1:=cC<|.int t;have w2:=cC<|.bool y;simp![dD,bz,cw,AF,AH,w1,w2,bK,cu]
    | str y =>
     have w1:=cC<|.int t;have w2:=cC<|.str y;simp![dD,bz,cw,AF,AH,w1,w2,bK,cu]
    | list y =>
     have w1:=cC<|.int t;have w2:=cC<|.list y;simp![dD,bz,cw,AF,AH,w1,w2,bK,cu]
    | tuple y =>
     have w1:=cC<|.int t;have w2:=cC<|.tuple y;simp![dD,bz,cw,AF,AH,w1,w2,bK,cu]
    | dict y =>
     have w1:=cC<|.int t;have w2:=cC<|.dict y;simp![dD,bz,cw,AF,AH,w1,w2,bK,cu]
   |none=>have w1:=cC .none;simp![dD,bz,cw,AF,AH,w1,bK,cu]
   |bool y=>have w1:=cC<|.bool y;simp![dD,bz,cw,AF,AH,w1,bK,cu]
   |str y=>have w1:=cC<|.str y;simp![dD,bz,cw,AF,AH,w1,bK,cu]
   |list y=>have w1:=cC<|.list y;simp![dD,bz,cw,AF,AH,w1,bK,cu]
   |tuple y=>have w1:=cC<|.tuple y;simp![dD,bz,cw,AF,AH,w1,bK,cu]
   |dict y=>have w1:=cC<|.dict y;simp![dD,bz,cw,AF,AH,w1,bK,cu]
  ·simp![dD,bz,AF,AH,oq,cu]
 ·have hn:∀xs,x≠.tuple xs:=λxs e=>ht ⟨xs,e⟩;have e:cu x=false:=by
   cases x with
   |tuple xs=>exact absurd rfl (hn xs)
   |_=>rfl
  have i:=gU hn;rw[e];simp![dD,i,AH]
def fj(s:Shp)(p:Pt):Fn->Bool
 |.tuple [a,b]=>cA a p.1 s.top&&cA b p.2 s.top
 |_=>false
def cM(s:Shp)(p:Pt):Fn->Bool
 |.tuple [c,r]=>cu c&&fj s p r
 |_=>false
def eh(s:Shp):Fn->Bool
 |.tuple es=>decide (es.length=s.sts.length)&&(s.sts.zip es).all λq=>cM s q.1 q.2
 |_=>false
def gu(s:Shp)(m:Nat):Fn->Bool
 |.tuple ds=>decide (ds.length=m)&&ds.all (eh s)
 |_=>false
def vB(s:Shp)(es:D1):eh s (.tuple es)=(decide (es.length=s.sts.length)&&(s.sts.zip es).all λq=>cM s q.1 q.2):=rfl
def pA(s:Shp)(m:Nat)(ds:D1):gu s m (.tuple ds)=(decide (ds.length=m)&&ds.all (eh s)):=rfl
def gq(x:Fn):Prop:=∀xs,x=.tuple xs->xs.length<=200
def SmC(x:Fn):Prop:=gq x/\∀t b,x=.tuple [.int t,.int b]->nb 900 t/\nb 900 b
def fK(e:Fn):Prop:=gq e/\∀c r,e=.tuple [c,r]->SmC c/\gq r
def Am(d:Fn):Prop:=∀es,d=.tuple es->es.length<=200/\∀e∈es,fK e
def nV(x:Fn):Prop:=∀ds,x=.tuple ds->ds.length<=200/\∀d∈ds,Am d
def SmC.sm{c:Fn}(h:SmC c):Sm c:=λt b e=>aO (h.2 t b e).2 (by decide)
theorem wu{α:Type}{f:α->Fn}:∀(l:Fl α)(es:D1),f9 (l.map f) es=(l.zip es).map λq=>.tuple [f q.1,q.2]
 | [],es=>by cases es <;> rfl
 |x::l,[]=>rfl
 |x::l,e::es=>by have ih:=wu (f:=f) l es;unfold f9 at ih ⊢;rw[Ax,A0,Ax,ih,A0,Ax]
theorem zV{α:Type}{f:α->Bool}:∀l:Fl α,(l.map f).all id=l.all f
 | []=>rfl
 |x::l=>by rw[Ax,BG,BG,zV l];rfl
def lf(n m:Nat):((n:Int)==(m:Int))=decide (n=m):=by
 by_cases h:n=m
 ·subst h;simp
 ·rw[Eb h,Eh];omega
def yQ(s:Shp)(x:Int)(a:Fn):qg [.d s.d,.d<|.int x,.d a]=.ret (.d<|.bool<|cA a x s.top):=by have e:=ZkF a x s.top;simp![qg,e]
def ZbB{s:Shp}{p:Pt}{r:Fn}(h:∀xs,r≠.tuple xs):fj s p r=false:=by
 cases r with
 |tuple xs=>exact absurd rfl (h xs)
 |_=>rfl
def ZkH{s:Shp}{p:Pt}{r:Fn}:jb [.d s.d,.d<|aq p,.d r]=.ret (.d<|.bool<|fj s p r):=by
 by_cases ht:∃xs,r=.tuple xs
 ·obtain⟨xs,rfl⟩:=ht;have z0:((((0:Nat):Int))==2)=false:=rfl;have z1:((((1:Nat):Int))==2)=false:=rfl;rcases xs with _|⟨a,_|⟨b,_|⟨c,r⟩⟩⟩
  ·simp![jb,bz,z0,AF,AH,fj]
  ·simp![jb,bz,AF,Bp,z1,AH,fj]
  ·have e1:=yQ s p.1 a;have e2:=yQ s p.2 b;have ez:f9 [PyData.int p.1,.int p.2] [a,b]=[.tuple [.int p.1,a],.tuple [.int p.2,b]]:=rfl;have it1':dG (aq p)=.ret [.int p.1,.int p.2]:=rfl;have h2:small 2=true:=bW (by decide)
   have em:bJ (dF (bD<|aJ (ao 0)<|aJ (ao 1) bo) mw [.un,.un,.d s.d]) [PyData.tuple [.int p.1,a],.tuple [.int p.2,b]]=.ret ([cA a p.1 s.top,cA b p.2 s.top].map PyData.bool):=by
    have q:∀(x:Int)(y:Fn),dF (bD<|aJ (ao 0)<|aJ (ao 1) bo) mw [.un,.un,.d s.d] (.tuple [.int x,y])=.ret (.bool<|cA y x s.top):=λx y=>by show mw [.d<|.int x,.d y,.d s.d]=_;simp![mw,yQ]
    rw[bJ,q,Tr.ret_bind,bJ,q,Tr.ret_bind,bJ]
    rfl
   have ea:bR js [.list [.bool<|cA a p.1 s.top,.bool<|cA b p.2 s.top]]=.ret (.bool<|fj s p<|.tuple [a,b]):=by have q:=lA [cA a p.1 s.top,cA b p.2 s.top];refine Eq.trans q ?_;show Tr.ret (PyData.bool<|cA a p.1 s.top&&(cA b p.2 s.top&&true))=Tr.ret (PyData.bool<|cA a p.1 s.top&&cA b p.2 s.top);rw[Ck]
   have l2:((([a,b]:D1).length:Nat):Int)=((2:Nat):Int):=rfl;simp![jb,bz,AF,Bp,cw,it1',ez,h2,em,ea]
  ·simp![jb,bz,AF,AH,oq,fj]
 ·have hn:=gU (x:=r) λxs e=>ht ⟨xs,e⟩;rw[ZbB λxs e=>ht ⟨xs,e⟩];simp![jb,hn,AH]
def Zes{s:Shp}{p:Pt}{r:Fn}(h:∀xs,r≠.tuple xs):cM s p r=false:=by
 cases r with
 |tuple xs=>exact absurd rfl (h xs)
 |_=>rfl
def ZkL{s:Shp}{p:Pt}{e:Fn}(h:fK e):iu [.d s.d,.d<|aq p,.d e]=.ret (.d<|.bool<|cM s p e):=by
 by_cases ht:∃xs,e=.tuple xs
 ·obtain⟨xs,rfl⟩:=ht;have z0:((((0:Nat):Int))==2)=false:=rfl;have z1:((((1:Nat):Int))==2)=false:=rfl;rcases xs with _|⟨a,_|⟨b,_|⟨c,r⟩⟩⟩
  ·simp![iu,bz,z0,AF,AH,cM]
  ·simp![iu,bz,AF,Bp,z1,AH,cM]
  ·have e1:=ZkG (h.2 a b rfl).1.sm;have e2:=ZkH (s:=s) (p:=p) (r:=b);have eg:∀J3 J4:Sl,bD (aJ (ao 3)<|aJ (ao 4) bo) (.tuple [a,b]) [.d s.d,.d<|aq p,.d<|.tuple [a,b],J3,J4]=some [.d s.d,.d<|aq p,.d<|.tuple [a,b],.d a,.d b]:=λ_ _=>rfl;have ee:cM s p (.tuple [a,b])=(cu a&&fj s p b):=rfl;rw[ee];cases hs:cu a
   ·simp![iu,bz,AF,Bp,cw,eg,e1,hs,Bb]
   ·simp![iu,bz,AF,Bp,cw,eg,e1,hs,e2,Bq]
  ·simp![iu,bz,AF,AH,oq,cM]
 ·have hn:=gU (x:=e) λxs q=>ht ⟨xs,q⟩;rw[Zes λxs q=>ht ⟨xs,q⟩];simp![iu,hn,AH]
def ZkM{s:Shp}(h:s.Ok)(h7:s.n<=7){d:Fn}(hd:Am d):la [.d s.d,.d d]=.ret (.d<|.bool<|eh s d):=by
 have FR:s.sts.length<=100:=sml h7<|by rw[fi];exact Aw _
 by_cases ht:∃es,d=.tuple es
 ·obtain⟨es,rfl⟩:=ht;obtain⟨h1,h2⟩:=hd es rfl;have el:=lf es.length s.sts.length;rw[vB];by_cases hl:es.length=s.sts.length
  ·rw[Ea hl]at el ⊢;have em:bJ (dF (bD<|aJ (ao 0)<|aJ (ao 1) bo) xS [.un,.un,.d s.d]) ((s.sts.zip es).map λq=>PyData.tuple [aq q.1,q.2])=.ret ((s.sts.zip es).map λq=>PyData.bool<|cM s q.1 q.2):=e9 λq hq=>by have e1:=ZkL (s:=s) (p:=q.1)<|h2 q.2 (Cv hq).2;simp![xS,e1]
   have hs:small (s.sts.zip es).length=true:=bW<|by rw[Bz];omega
   have ea:bR js [.list<|(s.sts.zip es).map λq=>PyData.bool<|cM s q.1 q.2]=.ret (.bool<|(s.sts.zip es).all λq=>cM s q.1 q.2):=by
    have q:(s.sts.zip es).map (λq=>PyData.bool<|cM s q.1 q.2)=((s.sts.zip es).map λq=>cM s q.1 q.2).map PyData.bool:=by rw[AR];rfl
    rw[q,lA,zV]
   simp![la,iC h h7,bz,AF,Av,el,wu,hs,em,ea,Bq]
  ·rw[Eb hl]at el ⊢;simp![la,iC h h7,bz,AF,Av,el,AH,Bb]
 ·have hn:=gU (x:=d) λxs q=>ht ⟨xs,q⟩;have e0:eh s d=false:=by
   cases d with
   |tuple xs=>exact absurd ⟨xs,rfl⟩ ht
   |_=>rfl
  rw[e0];simp![la,iC h h7,hn,AH]
def ZkI{s:Shp}(h:s.Ok)(h7:s.n<=7){ds:Fl (Fl D2)}{x:Fn}(hx:nV x):lb [.d s.d,.d<|bn ds,.d x]=.ret (.d<|.bool<|gu s ds.length x):=by
 have ld:bR cj [bn ds]=.ret (.int ds.length):=by show Tr.ret (PyData.int ((ds.map fD).length:Nat))=_;rw[Av]
 by_cases ht:∃es,x=.tuple es
 ·obtain⟨es,rfl⟩:=ht;obtain⟨h1,h2⟩:=hx es rfl;have el:=lf es.length ds.length;rw[pA];by_cases hl:es.length=ds.length
  ·rw[Ea hl]at el ⊢;have em:bJ (dF (ao 0) mx [.un,.d s.d]) es=.ret ((es.map<|eh s).map PyData.bool):=by
    have q:∀l:D1,(∀d∈l,Am d)->bJ (dF (ao 0) mx [.un,.d s.d]) l=.ret ((l.map<|eh s).map PyData.bool):=λl hl=>by
     induction l with
     |nil=>rfl
     | cons d l ih =>
      have e1:=ZkM h h7<|hl d<|AB ..;have e2:dF (ao 0) mx [.un,.d s.d] d=.ret (.bool<|eh s d):=by simp![mx,e1]
      rw[bJ,e2,Tr.ret_bind,ih λe he=>hl e<|Az _ he]
      rfl
    exact q es h2
   have hs:small es.length=true:=bW<|by omega
   simp![lb,bz,AF,ld,el,hs,em,zV,Bq]
  ·rw[Eb hl]at el ⊢;simp![lb,bz,AF,ld,el,AH,Bb]
 ·have hn:=gU (x:=x) λxs q=>ht ⟨xs,q⟩;have e0:gu s ds.length x=false:=by
   cases x with
   |tuple xs=>exact absurd ⟨xs,rfl⟩ ht
   |_=>rfl
  rw[e0];simp![lb,hn,AH]
theorem nonwh:∀l:D1,(l.filterMap λy=>if bK y=true then none else some y).isEmpty=l.all bK
 | []=>rfl
 | y::l=>by
  rw[B8,BG];cases h:bK y
  ·rfl
  ·rw[Bq];exact nonwh l
def iK{x:Fn}(h:bK x=true):∃n,x=.int n:=by
 cases x with
 |int n=>exact⟨n,rfl⟩
 |_=>cases h
def og{x:Fn}{a b:Int}(h:cA x a b=true):bK x=true:=by
 cases x with
 |int n=>rfl
 |_=>cases h
def Za0{a b:Fn}(h:cu (.tuple [a,b])=true):bK a=true/\bK b=true:=by
 cases a with
 | int t =>
  cases b with
  |int b=>exact⟨rfl,rfl⟩
  |_=>cases h
 |_=>cases h
def Zho{r:Fn}(h:∀xs,r≠.tuple xs):cu r=false:=by
 cases r with
 |tuple xs=>exact absurd rfl (h xs)
 |_=>rfl
def Za1{cs:D1}(h:cs.length≠2):cu (.tuple cs)=false:=by
 rcases cs with _|⟨a,_|⟨b,_|⟨c,r⟩⟩⟩
 ·rfl
 ·cases a <;> rfl
 ·exact absurd rfl h
 ·cases a <;> cases b <;> rfl
def ZbC{s:Shp}{p:Pt}{cs:D1}(h:cs.length≠2):fj s p (.tuple cs)=false:=by
 rcases cs with _|⟨a,_|⟨b,_|⟨c,r⟩⟩⟩
 ·rfl
 ·rfl
 ·exact absurd rfl h
 ·rfl
def ff{xs ys:D1}(h1:xs.length<=200)(h2:ys.length<=200):aU dM (.tuple xs) (.tuple ys)=.ret (.tuple<|xs++ys):=by
 cases xs with
 |nil=>exact nz
 |cons x xs=>exact ny<|bW<|by omega
def Zc7(a b c d:Int):aU cQ (.tuple [.int a,.int b]) (.tuple [.int c,.int d])=.ret (.bool<|!(decide (a=c/\b=d))):=by
 rw[Zjw rfl rfl (λx y z=>by cases z.1)]
 have e:PyData.eqv (.tuple [.int a,.int b]) (.tuple [.int c,.int d])=decide (a=c/\b=d):=by
  simp only[PyData.eqv,PyData.eqvAll];by_cases h1:a=c
  ·by_cases h2:b=d
   ·simp[h1,h2]
   ·simp[h1,h2]
  ·simp[h1]
 rw[e]
def Zju{t b:Int}(hb:1<=b):aU cQ (gK t b) (.tuple [.int t,.int b])=.ret (.bool<|!(((Nat.gcd t.natAbs b.natAbs:Nat):Int)==1)):=by
 unfold gK;rw[Zc7];congr 3;by_cases hg:Nat.gcd t.natAbs b.natAbs=1
 ·obtain⟨h1,h2⟩:=Gc.ZjP (by omega) hg
  rw[h1,h2,hg];simp
 ·have hn:¬ (Gc.cB t b=t/\Gc.bQ t b=b):=λ⟨h1,h2⟩=>by
   obtain⟨_,_,_,h3⟩:=Gc.jc (t:=t) (b:=b)<|by omega
   rw[h1,h2]at h3;exact hg h3
  rw[Eb hn]
  symm
  rw[Eh];omega
def ZkJ(x:Fn):p9 [.d x]=.ret (.d<|.bool<|bK x):=by cases x <;> (simp![p9];rfl)
def ZkK{s:Shp}{p:Pt}{e:Fn}(h:fK e):eC [.d s.d,.d<|aq p,.d e]=.ret (.d<|.bool<|cM s p e):=by
 by_cases ht:∃xs,e=.tuple xs
 ·obtain⟨xs,rfl⟩:=ht;have z0:((((0:Nat):Int))==2)=false:=rfl;have z1:((((1:Nat):Int))==2)=false:=rfl;rcases xs with _|⟨c,_|⟨r,_|⟨d,q⟩⟩⟩
  ·simp![eC,bz,z0,AF,AH,cM]
  ·simp![eC,bz,AF,Bp,z1,AH,cM]
  ·obtain⟨⟨hc,hcn⟩,hr⟩:=h.2 c r rfl;have ee:cM s p (.tuple [c,r])=(cu c&&fj s p r):=rfl;rw[ee];by_cases tc:∃cs,c=.tuple cs
   ·obtain⟨cs,rfl⟩:=tc;by_cases tr:∃rs,r=.tuple rs
    ·obtain⟨rs,rfl⟩:=tr;have l1:=hc cs rfl;have l2:=hr rs rfl;have ea:=ff l1 l2;have c1:=lf cs.length 2;have c2:=lf rs.length 2;have cc:((2:Nat):Int)=2:=rfl;rw[cc]at c1 c2;have hs:small (cs++rs).length=true:=bW (by rw[AQ];omega)
     have hf:eM (jf (ao 0) mE mv [.un]) (cs++rs)=.ret ((cs++rs).filterMap λy=>if bK y=true then none else some y):=mK λy hm=>by
      have e:=ZkJ y;cases hq:bK y
      ·rw[hq]at e;simp![mE,mv,e,AH,Bk,↓reduceIte]
      ·rw[hq]at e;simp![mE,mv,e,AF,↓reduceIte]
     by_cases k1:cs.length=2
     ·rw[Ea k1]at c1;by_cases k2:rs.length=2
      ·rw[Ea k2]at c2;have en:=Zen ((cs++rs).filterMap λy=>if bK y=true then none else some y)
       rw[nonwh]at en;cases ha:(cs++rs).all bK
       ·rw[ha]at en;have hz:(cu (.tuple cs)&&fj s p (.tuple rs))=false:=by
         cases hz:(cu (.tuple cs)&&fj s p (.tuple rs))with
         |false=>rfl
         | true =>
          exfalso;obtain⟨q1,q2⟩:=A2.mp hz;rcases cs with _|⟨a,_|⟨b,_|⟨d,q⟩⟩⟩ <;> try (cases k1)
          rcases rs with _|⟨u,_|⟨v,_|⟨d,q⟩⟩⟩ <;> try (cases k2)
          obtain⟨w1,w2⟩:=Za0 q1;have q2:(cA u p.1 s.top&&cA v p.2 s.top)=true:=q2;obtain⟨q3,q4⟩:=A2.mp q2;have:([a,b]++[u,v]).all bK=true:=by
           show(bK a&&(bK b&&(bK u&&(bK v&&true))))=true;rw[w1,w2,og q3,og q4]
           rfl
          rw[this]at ha;cases ha
        rw[hz];simp![eC,bz,cw,AF,Bp,ea,c1,c2,hs,hf,en,AH]
       ·rw[ha]at en;rcases cs with _|⟨a,_|⟨b,_|⟨d,q⟩⟩⟩ <;> try (cases k1)
        rcases rs with _|⟨u,_|⟨v,_|⟨d,q⟩⟩⟩ <;> try (cases k2)
        have ha:(bK a&&(bK b&&(bK u&&(bK v&&true))))=true:=ha;simp only[AT,Ck]at ha;obtain⟨w1,w2,w3,w4⟩:=ha;obtain⟨t,rfl⟩:=iK w1;obtain⟨b,rfl⟩:=iK w2;obtain⟨u,rfl⟩:=iK w3;obtain⟨v,rfl⟩:=iK w4;obtain⟨nt,nB⟩:=hcn t b rfl;have es:cu (.tuple [.int t,.int b])=(decide (1<=b)&&(((Nat.gcd t.natAbs b.natAbs:Nat):Int)==1)):=rfl;have er:fj s p (.tuple [.int u,.int v])=((decide (p.1<=u)&&decide (u<=s.top))&&(decide (p.2<=v)&&decide (v<=s.top))):=rfl;rw[es,er];have hs4:small ([PyData.int t,.int b]++[PyData.int u,.int v]).length=true:=hs;have hs4':small 4=true:=bW<|by decide
        have ea':aU dM (.tuple [.int t,.int b]) (.tuple [.int u,.int v])=.ret (.tuple [.int t,.int b,.int u,.int v]):=ea;have hf':eM (jf (ao 0) mE mv [.un]) [.int t,.int b,.int u,.int v]=.ret []:=hf;have en':aU kL (.list []) (.list [])=.ret (.bool false):=rfl;by_cases hb:b<1
        ·rw[Eb<|show ¬ 1<=b by omega,Bb,Bb]
         simp![eC,bz,cw,AF,Bp,ea',hs4',hf',en',Ea hb]
        ·rw[Ea<|show 1<=b by omega,Bq]
         have e1:=zc (t:=t) (b:=b) (by omega)<|aO nB<|by decide
         have e2:=Zju (t:=t) (b:=b)<|by omega
         cases hg:(((Nat.gcd t.natAbs b.natAbs:Nat):Int)==1)
         ·rw[hg]at e2;simp![eC,bz,cw,AF,Bp,ea',hs4',hf',en',Eb hb,e1,e2,AH,Bb]
         ·rw[hg]at e2;cases d1:decide (p.1<=u)
          ·simp![eC,bz,cw,AF,Bp,ea',hs4',hf',en',Eb hb,e1,e2,fq,fo,d1,Bq,Bb]
          ·cases d2:decide (u<=s.top)
           ·simp![eC,bz,cw,AF,Bp,ea',hs4',hf',en',Eb hb,e1,e2,fq,fo,d1,d2,Bq,Bb]
           ·cases d3:decide (p.2<=v)
            ·simp![eC,bz,cw,AF,Bp,ea',hs4',hf',en',Eb hb,e1,e2,fq,fo,d1,d2,d3,Bq,Bb]
            ·simp![eC,bz,cw,AF,Bp,ea',hs4',hf',en',Eb hb,e1,e2,fq,fo,d1,d2,d3,Bq]
      ·rw[Eb k2]at c2;rw[ZbC k2,CF];simp![eC,bz,cw,AF,Bp,ea,c1,c2,AH]
     ·rw[Eb k1]at c1;rw[Za1 k1,Bb];simp![eC,bz,cw,AF,Bp,ea,c1,AH]
    ·have hn:=gU (x:=r) λxs q=>tr ⟨xs,q⟩;rw[ZbB λxs q=>tr ⟨xs,q⟩,CF];simp![eC,bz,cw,AF,Bp,hn,AH]
   ·have hn:=gU (x:=c) λxs q=>tc ⟨xs,q⟩;rw[Zho λxs q=>tc ⟨xs,q⟩,Bb];simp![eC,bz,cw,AF,Bp,hn,AH]
  ·simp![eC,bz,AF,AH,oq,cM]
 ·have hn:=gU (x:=e) λxs q=>ht ⟨xs,q⟩;rw[Zes λxs q=>ht ⟨xs,q⟩];simp![eC,hn,AH]
noncomputable def lI{α:Type}(L:Fl α)(u:α->Bool):Fn->Fm Fn
 | .int k=>match L[k.toNat]? with
  |some q=>if u q=true then none else some (.int k)
  |none=>some (.int k)
 |_=>none
def xD{n:Nat}{a:Fn}(h:a∈bi 0 n):∃k:Nat,k<n/\a=.int k:=by
 obtain⟨x,hx,rfl⟩:=AU.mp h;have:=gN hx;have e:((n:Int)-0).toNat=n:=by omega
 rw[e]at this;exact⟨x.toNat,by omega,by congr 1;omega⟩
def Zh4{n k:Nat}(h:k<n):PyData.int k∈bi 0 n:=by refine AU.mpr ⟨(k:Int),?_,rfl⟩;unfold aQ;exact AU.mpr ⟨k,Bw.mpr<|by omega,by omega⟩
def Zk3{α:Type}(L:Fl α)(u:α->Bool):((bi 0 L.length).filterMap<|lI L u).isEmpty=L.all u:=by
 rw[B4,Dz,List.filterMap_eq_nil_iff,Bl];constructor
 ·intro h q hq;obtain⟨k,hk,rfl⟩:=BJ.mp hq;have:=h (.int k)<|Zh4 hk;unfold lI at this;dsimp only at this;rw[AZ,Au hk]at this;dsimp only at this
  split at this
  ·assumption
  ·cases this
 ·intro h a ha;obtain⟨k,hk,rfl⟩:=xD ha;unfold lI;dsimp only;rw[AZ,Au hk];dsimp only;rw[Ed<|h _<|AW hk]
def Zd7{s:Shp}(h:s.Ok)(h7:s.n<=7){ds:Fl (Fl D2)}{x:Fn}(hx:nV x):jR [.d s.d,.d<|bn ds,.d x]=.ret (.d<|.bool<|gu s ds.length x):=by
 have FR:s.sts.length<=100:=sml h7<|by rw[fi];exact Aw _
 have ld:bR cj [bn ds]=.ret (.int ds.length):=by show Tr.ret (PyData.int ((ds.map fD).length:Nat))=_;rw[Av]
 by_cases ht:∃es,x=.tuple es
 ·obtain⟨es,rfl⟩:=ht;obtain⟨h1,h2⟩:=hx es rfl;have el:=lf es.length ds.length;rw[pA];by_cases hl:es.length=ds.length
  ·rw[Ea hl]at el ⊢;have turn:∀d∈es,∀ρ:D7,(∃J4:Sl,ρ=[.d s.d,.d<|bn ds,.d<|.tuple es,.d<|.list<|s.sts.map aq,J4])->∃ρ1,ao 4 d ρ=some ρ1/\((∃r,(if eh s d=true then none else some<|Re.d<|.bool false)=some r/\ji ρ1=.ret (.ret r)) \/
     ((if eh s d=true then none else some<|Re.d<|.bool false)=none/\∃ρ2,ji ρ1=.ret (.next ρ2)/\∃J4:Sl,ρ2=[.d s.d,.d<|bn ds,.d<|.tuple es,.d<|.list<|s.sts.map aq,J4])):=by
    rintro d hd ρ ⟨J4,rfl⟩;refine⟨_,rfl,?_⟩;by_cases td:∃row,d=.tuple row
    ·obtain⟨row,rfl⟩:=td;obtain⟨r1,r2⟩:=h2 _ hd row rfl;have er:=lf row.length s.sts.length;rw[vB];by_cases hr:row.length=s.sts.length
     ·rw[Ea hr]at er ⊢;have zl:(s.sts.zip row).length=row.length:=by rw[Bz];omega
      have rr:eK [.int (row.length:Int)]=.ret (bi 0 row.length):=gB<|fc (by omega)<|by omega
      have hs:small (bi 0 row.length).length=true:=bW<|by rw[dh];omega
      have hf:eM (jf (ao 0) pG pe [.un,.d s.d,.d<|.list<|s.sts.map aq,.d<|.tuple row]) (bi 0 row.length)=.ret ((bi 0 row.length).filterMap<|lI (s.sts.zip row) λq=>cM s q.1 q.2):=mK λy hy=>by
       obtain⟨k,hk,rfl⟩:=xD hy;have FL:k<s.sts.length:=by omega
       have a1:bG (s.sts.map aq) (k:Int)=some (aq s.sts[k]):=fW (by omega)<|by rw[AZ,AK,Au FL];rfl
       have a2:bG row (k:Int)=some row[k]:=fW (by omega)<|by rw[AZ,Au hk]
       have e1:=ZkK (s:=s) (p:=s.sts[k])<|r2 row[k]<|AW hk;have ez:(s.sts.zip row)[k]?=some (s.sts[k],row[k]):=by rw[BY];exact⟨Au FL,Au hk⟩
       unfold lI;dsimp only;rw[AZ,ez];dsimp only;by_cases hq:cM s s.sts[k] row[k]=true
       ·rw[hq]at e1;rw[Ed hq];simp! only[pG,pe,a1,a2,e1,AF,Bk,↓reduceIte]
       ·rw[Bool.eq_false_iff.mpr hq]at e1;rw[Ef hq];simp! only[pG,pe,a1,a2,e1,AH,↓reduceIte]
      have en:=Zen ((bi 0 row.length).filterMap<|lI (s.sts.zip row) λq=>cM s q.1 q.2);have ef:=Zk3 (s.sts.zip row) (λq=>cM s q.1 q.2);rw[zl]at ef;rw[ef]at en;cases ha:(s.sts.zip row).all λq=>cM s q.1 q.2
      ·rw[ha]at en;refine .inl ⟨_,rfl,?_⟩;simp! only[ji,bz,AF,Av,er,rr,hs,hf,en,AH]
      ·rw[ha]at en;refine .inr ⟨rfl,?_⟩;simp! only[ji,bz,AF,Av,er,rr,hs,hf,en];exact⟨_,rfl,_,rfl⟩
     ·rw[Eb hr]at er ⊢;refine .inl ⟨_,rfl,?_⟩;simp! only[ji,bz,AF,Av,er,AH]
    ·have hn:=gU (x:=d) λxs q=>td ⟨xs,q⟩;have e0:eh s d=false:=by
      cases d with
      |tuple xs=>exact absurd ⟨xs,rfl⟩ td
      |_=>rfl
     rw[e0];refine .inl ⟨_,rfl,?_⟩;simp! only[ji,hn,AH]
   have key:=Zea (g:=ao 4) (s:=ji) (f:=λd=>if eh s d=true then none else some<|Re.d<|.bool false) (λρ=>∃J4:Sl,ρ=[.d s.d,.d<|bn ds,.d<|.tuple es,.d<|.list<|s.sts.map aq,J4]) (xs:=es) (ρ:=[.d s.d,.d<|bn ds,.d<|.tuple es,.d<|.list<|s.sts.map aq,.un]) turn ⟨_,rfl⟩
   have sr:=ot h h7 λa b=>s.fin a+s.fin b;rcases key with ⟨r,k1,k2⟩|⟨k1,ρ2,k2,J4,rfl⟩
   ·obtain⟨d,hd,hr⟩:=List.exists_of_findSome?_eq_some k1;have ha:es.all (eh s)=false:=by
     cases ha:es.all (eh s)with
     |false=>rfl
     | true =>
      have:=Bl.mp ha d hd;rw[Ed this]at hr;cases hr
    have hr':r=Re.d (.bool false):=by
     split at hr
     ·cases hr
     ·cases hr;rfl
    subst hr';rw[ha];simp! only[jR,bz,AF,ld,el,zd h h7,sr,k2,CF]
   ·have ha:es.all (eh s)=true:=Bl.mpr λd hd=>by
     have:=List.findSome?_eq_none_iff.mp k1 d hd
     split at this
     ·assumption
     ·cases this
    rw[ha];simp! only[jR,bz,AF,ld,el,zd h h7,sr,k2,Ck]
  ·rw[Eb hl]at el ⊢;simp! only[jR,bz,AF,ld,el,AH,Bb]
 ·have hn:=gU (x:=x) λxs q=>ht ⟨xs,q⟩;have e0:gu s ds.length x=false:=by
   cases x with
   |tuple xs=>exact absurd ⟨xs,rfl⟩ ht
   |_=>rfl
  rw[e0];simp! only[jR,hn,AH]
def dE(es:Fl E2):Fn:=.tuple<|es.map E2.d
def pE(P:Fl (Fl E2)):Fn:=.tuple<|P.map dE
def Zc3{a b c d x f g h i:Sl}(ha:bZ a=false)(hb:bZ b=false)(hc:bZ c=false)(hd:bZ d=false)(hf:bZ f=false)(hg:bZ g=false)(hh:bZ h=false)(hi:bZ i=false):io 4 [a,b,c,d,x,f,g,h,i]=true:=by
 show(!bZ a&&(!bZ b&&(!bZ c&&(!bZ d&&(!bZ .un&&(!bZ f&&(!bZ g&&(!bZ h&&(!bZ i&&true)))))))))=true;rw[ha,hb,hc,hd,hf,hg,hh,hi]
 rfl
theorem ZfO{α:Type}(f:α->Bool):∀l:Fl α,((l.map f).any id)=!(l.all λo=>!f o)
 | []=>rfl
 | x::l=>by
  rw[Ax,Cj,BG,ZfO f l,Bool.not_and,Bool.not_not]
  rfl
def l0{s:Shp}{es:Fl E2}:f9 (s.sts.map aq) (es.map E2.d)=(s.sts.zip es).map λx=>PyData.tuple [aq x.1,x.2.d]:=by
 rw[wu];have:s.sts.zip (es.map E2.d)=(s.sts.zip es).map λx=>(x.1,x.2.d):=by
  rw[List.zip_map_right]
  rfl
 rw[this,AR]
 rfl
def lj(es:Fl E2):dG (dE es)=.ret (es.map E2.d):=rfl
def Zlv{s:Shp}(h:s.Ok)(h7:s.n<=7){es:Fl E2}(FB:cE s es){W:Int->Int->Int}{b:Nat}(hW:eI s b W){c:Int}(hc:nb b c)(hc0:0<c)(hb:b<=3000) :
  mV [.d s.d,.d<|dE es,.d<|pD<|s.tb W,.d<|.int c]=.ret (.d<|if s.dayB W c es=true then pD (s.tb<|s.ownF W c es)else .none):=by
 have FR:s.sts.length<=100:=sml h7<|by rw[fi];exact Aw _
 have key:=nk (g:=bD<|aJ (ao 5)<|aJ (bD<|aJ (ao 6)<|aJ (ao 7) bo) bo) (s:=nc) (r:=Re.d .none) (mk:=λx:Pt×E2=>PyData.tuple [aq x.1,x.2.d]) (full:=s.sts.zip es)
  (λx=>s.okB W c x.1 x.2) (λpre ρ=>∃J5 J6 J7 J8:Sl,bZ J5=false/\bZ J6=false/\bZ J7=false/\bZ J8=false/\ρ=[.d s.d,.d<|dE es,.d<|pD<|s.tb W,.d<|.int c,.dip<|pre.map λx=>(kS x.1,.int<|s.own2 W c x.1 x.2.q),J5,J6,J7,J8]) (λpre x post ρ e hI=>by
   obtain⟨J5,J6,J7,J8,h5,h6,h7',h8,rfl⟩:=hI;have hx:x∈s.sts.zip es:=by rw[e];simp
   obtain⟨z1,z2,z3,_⟩:=gH FB hx;obtain⟨⟨a1,a2⟩,b1,b2⟩:=(b8 h).mp z1;have FJ:∀q∈s.rzs x.1,q∈s.sts/\nb 20 (x.1.1+x.1.2)/\nb 20 (q.1+q.2):=λq hq=>vH h hW hc z1 hq;obtain⟨y1,y2,y3⟩:=FJ x.2.q z3;obtain⟨⟨c1,c2⟩,d1,d2⟩:=(b8 h).mp y1;have er:=za h y2 y3;have eg:aU eO (pD<|s.tb W) (aq x.2.q)=.ret (.int<|W x.2.q.1 x.2.q.2):=jD h c1 c2 d1 d2;have f1:=aY hc (by omega)
   have f2:=aY (ie h y2 y3) (by decide)
   have eo:c*s.ord (x.1.1+x.1.2) (x.2.q.1+x.2.q.2)+W x.2.q.1 x.2.q.2=s.own2 W c x.1 x.2.q:=rfl;have es':=Zeu (t:=s.own2 W c x.1 x.2.q) (b:=c) (by omega) (aO hc<|by omega)
   have en:aU cQ (gK (s.own2 W c x.1 x.2.q) c) (.tuple [.int x.2.t,.int x.2.b])=.ret (.bool<|!(decide (Gc.cB (s.own2 W c x.1 x.2.q) c=x.2.t/\Gc.bQ (s.own2 W c x.1 x.2.q) c=x.2.b))):=Zc7 _ _ _ _;have hsm:small (s.rzs x.1).length=true:=bW (by rw[<- ku h z1];exact AJ (CH _ _)<|by omega)
   have hm:bJ (dF (ao 0) xW [.un,.d<|.int<|s.own2 W c x.1 x.2.q,.d<|.int c,.d<|pD<|s.tb W,.d s.d,.d<|aq x.1]) ((s.rzs x.1).map aq)=.ret ((s.rzs x.1).map λo=>PyData.bool<|decide (s.own2 W c x.1 o<s.own2 W c x.1 x.2.q)):=e9 λo ho=>by
    obtain⟨o1,o2,o3⟩:=FJ o ho;obtain⟨⟨u1,u2⟩,v1,v2⟩:=(b8 h).mp o1;have g1:=za h o2 o3;have g2:aU eO (pD<|s.tb W) (aq o)=.ret (.int<|W o.1 o.2):=jD h u1 u2 v1 v2;have g3:=aY (ie h o2 o3) (by decide)
    have eo:c*s.ord (x.1.1+x.1.2) (o.1+o.2)+W o.1 o.2=s.own2 W c x.1 o:=rfl;simp![xW,g1,g2,f1,g3,eo]
   have ea:bR nM [.list<|(s.rzs x.1).map λo=>PyData.bool<|decide (s.own2 W c x.1 o<s.own2 W c x.1 x.2.q)]=.ret (.bool<|!((s.rzs x.1).all λo=>!decide (s.own2 W c x.1 o<s.own2 W c x.1 x.2.q))):=by
    have q:(s.rzs x.1).map (λo=>PyData.bool<|decide (s.own2 W c x.1 o<s.own2 W c x.1 x.2.q))=((s.rzs x.1).map λo=>decide (s.own2 W c x.1 o<s.own2 W c x.1 x.2.q)).map PyData.bool:=by rw[AR];rfl
    rw[q,nu,ZfO]
   have ek:s.okB W c x.1 x.2=(decide (Gc.cB (s.own2 W c x.1 x.2.q) c=x.2.t/\Gc.bQ (s.own2 W c x.1 x.2.q) c=x.2.b)&&(s.rzs x.1).all λo=>!decide (s.own2 W c x.1 o<s.own2 W c x.1 x.2.q)):=rfl;refine⟨[.d s.d,.d<|dE es,.d<|pD<|s.tb W,.d<|.int c,.dip<|pre.map λx=>(kS x.1,.int<|s.own2 W c x.1 x.2.q),.d<|aq x.1,.d<|.tuple [.int x.2.t,.int x.2.b],.d<|aq x.2.q,J8],rfl,?_⟩;rw[ek];cases k1:decide (Gc.cB (s.own2 W c x.1 x.2.q) c=x.2.t/\Gc.bQ (s.own2 W c x.1 x.2.q) c=x.2.b)
   ·rw[k1]at en;refine .inr ⟨Bb _,?_⟩;simp![nc,er,eg,f1,f2,eo,es',en,AH]
   ·rw[k1]at en;cases k2:(s.rzs x.1).all λo=>!decide (s.own2 W c x.1 o<s.own2 W c x.1 x.2.q)
    ·rw[k2]at ea;refine .inr ⟨rfl,?_⟩;simp![nc,er,eg,f1,f2,eo,es',en,AF,y9 h h7 z1,Av,hsm,hm,ea,AH]
    ·rw[k2]at ea;have nd:((s.sts.zip es).map λx=>kS x.1).Nodup:=by
      have q:(s.sts.zip es).map (λx=>kS x.1)=s.sts.map kS:=by
       have e:(s.sts.zip es).map (·.1)=s.sts:=List.map_fst_zip (by rw[FB.1];exact Aw _)
       have e2:(s.sts.zip es).map (λx=>kS x.1)=((s.sts.zip es).map (·.1)).map kS:=by rw[AR];rfl
       rw[e2,e]
      rw[q];exact mY (jE s)
     have hni:kS x.1∉(pre.map λx=>(kS x.1,PyData.int<|s.own2 W c x.1 x.2.q)).map (·.1):=by rw[AR];intro z;have z:kS x.1∈pre.map λx=>kS x.1:=z;rw[e,Bu,Ax,Dp]at nd;exact nd.2.2 _ z _ (AB ..) rfl
     have hl:(pre.map λx=>(kS x.1,PyData.int<|s.own2 W c x.1 x.2.q)).length<=5000:=by have:=Eg List.length e;rw[Bz,AQ]at this;rw[Av];omega
     have ep:=ZcD (k:=4) (ρ:=[.d s.d,.d<|dE es,.d<|pD<|s.tb W,.d<|.int c,.dip<|pre.map λx=>(kS x.1,.int<|s.own2 W c x.1 x.2.q),.d<|aq x.1,.d<|.tuple [.int x.2.t,.int x.2.b],.d<|aq x.2.q,.d<|.int<|s.own2 W c x.1 x.2.q])
      (i:=aa 8) (nn:=aa 5) (x:=.int<|s.own2 W c x.1 x.2.q) (ns:=kS x.1)
      (by simp![Ci]) rfl (by simp! only[Ci];rfl) hl (Zc3 rfl rfl rfl rfl rfl rfl rfl rfl) hni
     refine .inl ⟨rfl,_,?_,.d<|aq x.1,.d<|.tuple [.int x.2.t,.int x.2.b],.d<|aq x.2.q,.d<|.int<|s.own2 W c x.1 x.2.q,rfl,rfl,rfl,rfl,rfl⟩;simp![nc,er,eg,f1,f2,eo,es',en,AF,y9 h h7 z1,Av,hsm,hm,ea,ep,Bu]
     ) (xs:=s.sts.zip es) (pre:=[]) (ρ:=[.d s.d,.d<|dE es,.d<|pD<|s.tb W,.d<|.int c,.dip [],.un,.un,.un,.un]) rfl ⟨_,_,_,_,rfl,rfl,rfl,rfl,rfl⟩
 rcases key with ⟨k1,ρ2,k2,J5,J6,J7,J8,h5,h6,h7',h8,rfl⟩|⟨k1,k2⟩
 ·have k1:s.dayB W c es=true:=k1;rw[Ed k1,Zau FB];have ne:(s.sts.zip es).map (λx=>(kS x.1,PyData.int<|s.own2 W c x.1 x.2.q))≠[]:=by rw[<- Zau FB];exact l6 h _
  have ef:=Zeo (s:=fX 4) (k:=4) (ρ:=[.d s.d,.d<|dE es,.d<|pD<|s.tb W,.d<|.int c,.dip<|(s.sts.zip es).map λx=>(kS x.1,.int<|s.own2 W c x.1 x.2.q),J5,J6,J7,J8]) rfl (Zc3 rfl rfl rfl rfl h5 h6 h7' h8) ne;simp![mV,yX,iC h h7,lj,l0,k2,ef]
 ·have k1:s.dayB W c es=false:=k1;rw[k1];simp![mV,yX,iC h h7,lj,l0,k2,Bk,↓reduceIte]
def Zh3{n:Nat}{pre post:D1}{x:Fn}(h:(bi 0 n).reverse=pre++x::post):x=.int ((n-1-pre.length:Nat):Int)/\pre.length<n:=by
 have h1:(bi 0 n).reverse[pre.length]?=some x:=by rw[h];simp
 have hl:pre.length<(bi 0 n).reverse.length:=(Ay.mp h1).1;rw[Bv,dh]at hl;have e0:((n:Int)-0).toNat=n:=by omega
 rw[e0]at hl;rw[CI<|by rw[dh];omega,dh,e0]at h1
 unfold bi aQ at h1;rw[e0,AR,AK,Cp<|by omega]at h1
 cases h1;refine⟨?_,hl⟩;show PyData.int (0+((n-1-pre.length:Nat):Int))=_;rw[C5]
def Zk0{s:Shp}{d:Fn}(h:eh s d=true):∃es:Fl E2,d=dE es/\cE s es:=by
 cases d with
 | tuple xs =>
  rw[vB,AT]at h;obtain⟨h1,h2⟩:=h;have h1:=Ec h1;have key:∀(l:Fl Pt)(xs:D1),(∀p∈l,p.1<=s.top/\p.2<=s.top)->xs.length=l.length->((l.zip xs).all λq=>cM s q.1 q.2)=true->∃es:Fl E2,xs=es.map E2.d/\es.length=l.length/\∀(k:Nat)(p:Pt)(e:E2),l[k]?=some p->es[k]?=some e->e.Sh/\e.q∈s.rzs p:=by
   intro l
   induction l with
   | nil =>
    intro xs _ hl _;cases xs with
    |nil=>exact⟨[],rfl,rfl,λk p e h=>by cases h⟩
    |cons _ _=>cases hl
   | cons p l ih =>
    intro xs hb hl ha;cases xs with
    |nil=>cases hl
    | cons x xs =>
     rw[A0,BG,AT]at ha;obtain⟨ha1,ha2⟩:=ha;obtain⟨es,rfl,q1,q2⟩:=ih xs (λp hp=>hb p<|Az _ hp) (BV hl) ha2;have ha1:cM s p x=true:=ha1;have:∃e:E2,x=e.d/\e.Sh/\e.q∈s.rzs p:=by
      cases x with
      | tuple ys =>
       rcases ys with _|⟨c,_|⟨r,_|⟨z,w⟩⟩⟩
       ·cases ha1
       ·cases ha1
       ·have ha1:(cu c&&fj s p r)=true:=ha1;obtain⟨b1,b2⟩:=A2.mp ha1;cases c with
        | tuple cs =>
         by_cases hcl:cs.length=2
         ·rcases cs with _|⟨a,_|⟨b,_|⟨z,w⟩⟩⟩ <;> try (cases hcl)
          obtain⟨w1,w2⟩:=Za0 b1;obtain⟨t,rfl⟩:=iK w1;obtain⟨b,rfl⟩:=iK w2;have b1:(decide (1<=b)&&(((Nat.gcd t.natAbs b.natAbs:Nat):Int)==1))=true:=b1;obtain⟨c1,c2⟩:=A2.mp b1;cases r with
          | tuple rs =>
           by_cases hrl:rs.length=2
           ·rcases rs with _|⟨u,_|⟨v,_|⟨z,w⟩⟩⟩ <;> try (cases hrl)
            have b2:(cA u p.1 s.top&&cA v p.2 s.top)=true:=b2;obtain⟨d1,d2⟩:=A2.mp b2;obtain⟨u,rfl⟩:=iK<|og d1;obtain⟨v,rfl⟩:=iK<|og d2;have d1:(decide (p.1<=u)&&decide (u<=s.top))=true:=d1;have d2:(decide (p.2<=v)&&decide (v<=s.top))=true:=d2;obtain⟨f1,f2⟩:=A2.mp d1;obtain⟨f3,f4⟩:=A2.mp d2;have c2:=EW.mp c2;obtain⟨g1,g2⟩:=hb p<|AB ..;exact⟨⟨t,b,(u,v)⟩,rfl,⟨Ec c1,by show Nat.gcd t.natAbs b.natAbs=1;omega⟩,(gM g1 g2).mpr ⟨⟨Ec f1,Ec f2⟩,Ec f3,Ec f4⟩⟩
           ·rw[ZbC hrl]at b2;cases b2
          |_=>cases b2
         ·rw[Za1 hcl]at b1;cases b1
        |_=>cases b1
       ·cases ha1
      |_=>cases ha1
     obtain⟨e,rfl,he1,he2⟩:=this;refine⟨e::es,rfl,by rw[AE,AE,q1],λk p' e' k1 k2=>?_⟩
     cases k with
     | zero =>
      cases k1;cases k2;exact⟨he1,he2⟩
     | succ k =>
      rw[A6]at k1 k2;exact q2 k p' e' k1 k2
  have hb:∀p∈s.sts,p.1<=s.top/\p.2<=s.top:=λp hp=>by
   have q:=pz.mp hp;have r1:=gN q.1;have r2:=gN q.2;have hn:(0:Int)<s.n:=by omega
   have e:(s.n:Int)=s.top+1 - -s.depth:=by unfold Shp.n at hn ⊢;omega
   omega
  obtain⟨es,rfl,q1,q2⟩:=key s.sts xs hb h1 h2;exact⟨es,rfl,q1,q2⟩
 |_=>cases h
theorem Zd9{s:Shp}:∀{xs:D1},xs.all (eh s)=true->∃P:Fl (Fl E2),xs=P.map dE/\∀es∈P,cE s es
 | [],_=>⟨[],rfl,nofun⟩
 | x::xs,h=>by
  rw[BG,AT]at h;obtain⟨es,rfl,he⟩:=Zk0 h.1;obtain⟨P,rfl,hP⟩:=Zd9 h.2;refine⟨es::P,rfl,λz hz=>?_⟩;rcases AM.mp hz with rfl|hz
  ·exact he
  ·exact hP z hz
def ZeA{s:Shp}(h:s.Ok)(h7:s.n<=7){ds:Fl (Fl D2)}(hd:∀d∈ds,DdB d)(hl:ds.length<=3){x:Fn}(hx:nV x) :
  (gu s ds.length x=false/\gQ [.d s.d,.d<|bn ds,.d x]=.ret (.d<|.bool false))\/∃P:Fl (Fl E2),x=pE P/\P.length=ds.length/\(∀es∈P,cE s es)/\gu s ds.length x=true/\gQ [.d s.d,.d<|bn ds,.d x]=.ret (.d<|.bool (s.chk ds P).isSome):=by
 have ep:=ZkI h h7 (ds:=ds) hx;cases hp:gu s ds.length x
 ·rw[hp]at ep;refine .inl ⟨rfl,?_⟩;simp! only[gQ,ep,AH]
 ·refine .inr ?_;obtain⟨P,rfl,hPl,hP⟩:∃P:Fl (Fl E2),x=pE P/\P.length=ds.length/\∀es∈P,cE s es:=by
   cases x with
   | tuple xs =>
    rw[pA,AT]at hp;obtain⟨P,rfl,hP⟩:=Zd9 hp.2;refine⟨P,rfl,?_,hP⟩;have:=Ec hp.1;rw[Av]at this;exact this
   |_=>cases hp
  rw[hp]at ep;refine⟨P,rfl,hPl,hP,rfl,?_⟩;have ld:bR cj [bn ds]=.ret (.int ds.length):=by show Tr.ret (PyData.int ((ds.map fD).length:Nat))=_;rw[Av]
  have FJ:∀k,∀d∈ds.drop k,DdB d:=λk d h=>hd d<|BB h;have hsubP:∀k,∀es∈P.drop k,cE s es:=λk d h=>hP d<|BB h;have rr:eK [.int (ds.length:Int)]=.ret (bi 0 ds.length):=gB<|fc (by omega)<|by omega
  have key:=Zk1 (g:=ao 5) (s:=qp) (r:=Re.d<|.bool false) (xs:=(bi 0 ds.length).reverse) (ρ:=[.d s.d,.d<|bn ds,.d<|pE P,.d<|pD<|s.tb λa b=>s.fin a+s.fin b,.d<|.int 1,.un,.un])
   (λpre _=>s.chk (ds.drop<|ds.length-(pre.length+1)) (P.drop<|ds.length-(pre.length+1))=none)
   (λpre ρ=>∃(F:Int->Int->Int)(c:Int)(J5 J6:Sl),s.chk (ds.drop<|ds.length-pre.length) (P.drop<|ds.length-pre.length)=some (F,c)/\ρ=[.d s.d,.d<|bn ds,.d<|pE P,.d<|pD<|s.tb F,.d<|.int c,J5,J6]) ⟨_,_,.un,.un,by
    rw[Bm,Dv,Br]
    rfl,rfl⟩ (λpre y post ρ e hI=>by
    obtain⟨F,c,J5,J6,hc,rfl⟩:=hI;obtain⟨rfl,FO⟩:=Zh3 e;refine⟨_,rfl,?_⟩;have e1:ds.length-(pre.length+1)=ds.length-1-pre.length:=by omega
    have e2:ds.length-pre.length=ds.length-1-pre.length+1:=by omega
    rw[e1];rw[e2]at hc;generalize hk:ds.length-1-pre.length=k at *;have hk1:k<ds.length:=by omega
    have FL:k<P.length:=by omega
    have d1:ds.drop k=ds[k]::ds.drop (k+1):=AY hk1;have d2:P.drop k=P[k]::P.drop (k+1):=AY FL;have hdd:=hd _<|AW hk1;have FB:=hP _<|AW FL;obtain⟨k1,k2,k3⟩:=Ze3 h (FJ<|k+1) (hsubP<|k+1) hc;have hlen:(ds.drop<|k+1).length<=2:=by rw[Cn];omega
    have n1:nb (102+250*(ds.drop<|k+1).length+20) (c*aN ds[k]):=dm k2<|gJ hdd;have hW:eI s (102+250*(ds.drop<|k+1).length+120) (s.w2 ds[k] F c):=l4 h hdd k1 k2;have i1:aU ap (bn ds) (.int k)=.ret (fD ds[k]):=by
     show Tr.of (bG (ds.map fD) (k:Int))=_;rw[fW (by omega)<|by rw[AZ,AK,Au hk1];rfl]
     rfl
    have i2:aU ap (pE P) (.int k)=.ret (dE P[k]):=by
     show Tr.of (bG (P.map dE) (k:Int))=_;rw[fW (by omega)<|by rw[AZ,AK,Au FL];rfl]
     rfl
    have g1:=ZeG h h7 hdd k1 k2 (by omega)
    have g2:=Zev hdd;have g3:=aY k2 (by omega)
    have g4:=aY (gJ hdd) (by decide)
    have g5:=Zlv h h7 FB hW (aO n1<|by omega) (CC k3 hdd.pos) (by omega)
    have ec:s.chk (ds.drop k) (P.drop k)=if s.dayB (s.w2 ds[k] F c) (c*aN ds[k]) P[k]=true then some (s.ownF (s.w2 ds[k] F c) (c*aN ds[k]) P[k],c*aN ds[k])else none:=by
     rw[d1,d2];unfold Shp.chk;rw[hc]
     rfl
    rw[ec];by_cases hz:s.dayB (s.w2 ds[k] F c) (c*aN ds[k]) P[k]=true
    ·rw[Ed hz]at g5 ⊢;have n0:jW (pD<|s.tb<|s.ownF (s.w2 ds[k] F c) (c*aN ds[k]) P[k])=false:=rfl;refine .inr ⟨λz=>(by cases z),?_⟩
     simp! only[qp,i1,i2,g1,g2,g3,g4,g5,n0];refine⟨_,rfl,_,_,_,_,?_,rfl⟩;have el:(pre++[PyData.int (k:Int)]).length=pre.length+1:=by simp
     rw[el,e1,ec,Ed hz]
    ·rw[Ef hz]at g5 ⊢;have n0:jW PyData.none=true:=rfl;refine .inl ⟨rfl,?_⟩;simp! only[qp,i1,i2,g1,g2,g3,g4,g5,n0])
  rcases key with ⟨⟨p,y,q,e,hb⟩,k2⟩|⟨_,ρ2,k2,F,c,J5,J6,hc,rfl⟩
  ·rw[Ze2 _ hPl hb];have e1:=ze h h7;simp! only[gQ,ep,AF,e1,ld,rr,k2]
   rfl
  ·rw[Bv,dh]at hc;have e0:ds.length-((ds.length:Int)-0).toNat=0:=by omega
   rw[e0,BP,BP]at hc;rw[hc];have e1:=ze h h7;simp! only[gQ,ep,AF,e1,ld,rr,k2]
   rfl
structure StB(S:Int)(es:List E2):Prop where
 pos:0<S
 nb:nb 1500 S
 t:∀e∈es,Tw.nb 900 e.t
 b:∀e∈es,1<=e.b/\Tw.nb 900 e.b/\e.b∣S
def pN{a S:Int}{k:Nat}(hS:0<S)(h:nb k S)(ha:0<a)(d:a∣S):nb k a:=by have:=Int.le_of_dvd hS d;unfold nb at h ⊢;omega
def Zc8{B b:Int}{k:Nat}(hB:0<B)(h:nb k B)(hb:0<b)(d:b∣B):nb k (B.fdiv b):=by
 obtain⟨w,rfl⟩:=d;rw[Cr _<|by omega]
 have hw:0<w:=by
  rcases Int.lt_trichotomy 0 w with z|z|z
  ·exact z
  ·subst z;rw[B6]at hB;omega
  ·have:=Int.mul_neg_of_pos_of_neg hb z;omega
 exact pN hB h hw ⟨b,BI _ _⟩
def vE(xs:D1)(t:Nat):L2.dJ xs (some<|(t:Int)+1) none=xs.drop (t+1):=by
 unfold L2.dJ;have e1:HT.aR xs.length 0 (some<|(t:Int)+1)=min (t+1) xs.length:=by
  unfold HT.aR;simp only
  split <;> omega
 have e2:HT.aR xs.length xs.length none=xs.length:=by
  unfold HT.aR
  rfl
 rw[e1,e2];rcases Dx (t+1) xs.length with hle|hle
 ·rw[Cu hle,Cc<|by rw[Cn];exact Aw _]
 ·rw[Cm hle,BS<|Aw _,BS hle];simp
def Zj4(e:E2):e.d.canLay0=true:=rfl
theorem Zdy:∀es:Fl E2,PyData.canLayAll0 (es.map E2.d)=true
 | []=>rfl
 |e::es=>by rw[Ax,PyData.canLayAll0,Zj4,Zdy es];rfl
def Zj3(es:Fl E2):(dE es).canLay0=true:=by unfold dE;rw[PyData.canLay0,Zdy]
theorem Zdz:∀P:Fl (Fl E2),PyData.canLayAll0 (P.map dE)=true
 | []=>rfl
 |e::P=>by rw[Ax,PyData.canLayAll0,Zj3,Zdz P];rfl
theorem zm{k:Nat}:∀{l:D1},(∀x∈l,x.depth<=k)->PyData.depthAll l<=k
 | [],_=>Bf _
 |x::l,h=>by rw[PyData.depthAll];exact Nat.max_le.mpr ⟨h x<|AB ..,zm λy hy=>h y<|Az _ hy⟩
def Zhl(P:Fl (Fl E2)):SeqAt.shaped (pE P)=true:=by
 have h1:(pE P).canLay0=true:=by unfold pE;rw[PyData.canLay0,Zdz]
 have d1:∀e:E2,e.d.depth<=2:=λe=>by show PyData.depth (.tuple [.tuple [.int e.t,.int e.b],.tuple [.int e.q.1,.int e.q.2]])<=2;exact Nat.le_of_eq rfl
 have d2:∀es:Fl E2,(dE es).depth<=3:=λes=>by
  unfold dE;rw[PyData.depth];have:=zm (k:=2) (l:=es.map E2.d) λx hx=>by obtain⟨e,_,rfl⟩:=AU.mp hx;exact d1 e
  omega
 have d3:(pE P).depth<=4:=by
  unfold pE;rw[PyData.depth];have:=zm (k:=3) (l:=P.map dE) λx hx=>by obtain⟨e,_,rfl⟩:=AU.mp hx;exact d2 e
  omega
 unfold SeqAt.shaped;rw[h1,Ea<|AJ d3<|by decide]
 rfl
def Zlj(P:Fl (Fl E2)):aU dP (pE P) (.tuple [])=.ret (.bool P.isEmpty):=by
 rw[Zlk (Zhl P) rfl (λa b z=>by cases z.1)]
 cases P with
 |nil=>rfl
 | cons es P =>
  have:PyData.eqv (pE (es::P)) (.tuple [])=false:=by show PyData.eqv (.tuple (dE es::P.map dE)) (.tuple [])=false;simp only[PyData.eqv,PyData.eqvAll]
  rw[this]
  rfl
def Zks(es:Fl E2)(P:Fl (Fl E2)):aU ap (pE (es::P)) (.int 0)=.ret (dE es):=by
 show Tr.of (bG (dE es::P.map dE) 0)=_;rw[j6]
 rfl
def Zhn(t b:Int):aU ap (gK t b) (.int 1)=.ret (.int<|Gc.bQ t b):=rfl
def ZeC{s:Shp}(h:s.Ok)(h7:s.n<=7){P:Fl (Fl E2)}(hP:∀es∈P,cE s es){S:Int}(hS:∀es∈P,StB S es):kX [.d s.d,.d<|pE P]=.ret (.own [pD<|s.tb (s.later P).1,.int (s.later P).2]):=by
 have FR:s.sts.length<=100:=sml h7<|by rw[fi];exact Aw _
 have tn:aU dP (pE P) (.tuple [])=.ret (.bool P.isEmpty):=Zlj P;have en:=zd h h7;have s2:small 2=true:=bW<|by decide
 cases P with
 | nil =>
  have tn:aU dP (pE []) (.tuple [])=.ret (.bool true):=tn;simp! only[kX,tn,en,s2]
  rfl
 | cons es P =>
  have tn:aU dP (pE (es::P)) (.tuple [])=.ret (.bool false):=tn;have FB:=hP es<|AB ..;have st:=hS es<|AB ..;have FV:∀e∈es,1<=e.b:=λe he=>(st.b e he).1;obtain⟨k1,_,k3⟩:=nD es 1 (by decide) FV
  have kS:bot es∣S:=vL es 1 (by decide) (λe he=>⟨(st.b e he).1,(st.b e he).2.2⟩) ⟨S,by rw[Int.one_mul]⟩
  have nB:nb 1500 (bot es):=pN st.pos st.nb k1 kS;have loop:∀(pre post:Fl E2)(J3 J4:Sl),es=pre++post->∃K3 K4:Sl,ck (bD<|aJ (ao 3)<|aJ (ao 4) bo) qr (post.map E2.d) [.d s.d,.d<|pE (es::P),.d<|.int<|bot pre,J3,J4,.un]=.ret (.next [.d s.d,.d<|pE (es::P),.d<|.int<|bot es,K3,K4,.un]):=by
   intro pre post
   induction post generalizing pre with
   | nil =>
    intro J3 J4 e;rw[A3]at e;subst e;exact⟨J3,J4,rfl⟩
   | cons e post ih =>
    intro J3 J4 he;have hb:=st.b e<|by rw[he];simp
    have FJ:∀x∈pre,x∈es:=λx hx=>by rw[he];exact Be _ hx
    obtain⟨p1,_,_⟩:=nD pre 1 (by decide) λx hx=>FV x<|FJ x hx
    have pS:bot pre∣S:=vL pre 1 (by decide) (λx hx=>⟨(st.b x<|FJ x hx).1,(st.b x<|FJ x hx).2.2⟩) ⟨S,by rw[Int.one_mul]⟩
    have pn:nb 1500 (bot pre):=pN st.pos st.nb p1 pS;have es1:=zc (t:=bot pre) (b:=e.b) (by omega)<|aO hb.2.1<|by decide
    have f1:=aY pn<|by decide
    have f2:=aY (yp pn hb.2.1<|show e.b≠0 by omega).2 (by decide)
    have el:qr [.d s.d,.d<|pE (es::P),.d<|.int<|bot pre,.d<|.tuple [.int e.t,.int e.b],.d<|aq e.q,.un]=.ret (.next [.d s.d,.d<|pE (es::P),.d<|.int<|bot<|pre++[e],.d<|.tuple [.int e.t,.int e.b],.d<|aq e.q,.un]):=by
     have eb:bot (pre++[e])=bot pre*Gc.bQ (bot pre) e.b:=by unfold bot;rw[Dq];rfl
     simp! only[qr,es1,Zhn,f1,f2,eb]
    obtain⟨J3',J4',q⟩:=ih (pre++[e]) (.d<|.tuple [.int e.t,.int e.b]) (.d<|aq e.q)<|by rw[he,Bg];rfl
    refine⟨J3',J4',?_⟩;rw[Ax,lv];have eg:bD (aJ (ao 3)<|aJ (ao 4) bo) e.d [.d s.d,.d<|pE (es::P),.d<|.int<|bot pre,J3,J4,.un]=some [.d s.d,.d<|pE (es::P),.d<|.int<|bot pre,.d<|.tuple [.int e.t,.int e.b],.d<|aq e.q,.un]:=rfl;rw[eg,Tr.of_some,Tr.ret_bind];unfold iA;rw[el,Tr.ret_bind,gW];exact q
  obtain⟨J3,J4,lp⟩:=loop [] es .un .un rfl;have b0:bot []=1:=rfl;rw[b0]at lp;have i0:=Zks es P;have sr:=ot h h7 λa b=>s.fin a+s.fin b;have rr:eK [.int (s.sts.length:Int)]=.ret (bi 0 s.sts.length):=gB<|fc (by omega)<|by omega
  have hs:small (bi 0 s.sts.length).length=true:=bW<|by rw[dh];omega
  have fB:=aY nB<|by decide
  have ei:bi 0 s.sts.length=(List.range s.sts.length).map λk:Nat=>PyData.int (k:Int):=by
   have e0:((s.sts.length:Int)-0).toNat=s.sts.length:=by omega
   unfold bi aQ;rw[e0,AR];refine BD λk _=>?_;show PyData.int (0+(k:Int))=_;rw[C5]
  have hm:bJ (dF (ao 0) pc [.un,.d<|.list<|s.sts.map aq,.d<|.int<|bot es,.d<|pE (es::P)]) (bi 0 s.sts.length)=.ret ((s.tb<|s.stF es).map dI):=by
   rw[ei,ZgD FB];have q:=e9 (h:=dF (ao 0) pc [.un,.d<|.list<|s.sts.map aq,.d<|.int<|bot es,.d<|pE (es::P)]) (f:=λk:Nat=>PyData.int (k:Int)) (g:=λk:Nat=>match (s.sts.zip es)[k]? with|some x=>dI (Tw.kS x.1,.int<|x.2.t*(bot es).fdiv x.2.b)|none=>.none) (l:=List.range s.sts.length) λk hk=>by
    have hk:=Bw.mp hk;have FL:k<es.length:=by rw[FB.1];exact hk
    have ez:(s.sts.zip es)[k]?=some (s.sts[k],es[k]):=by rw[BY];exact⟨Au hk,Au FL⟩
    have a1:bG (s.sts.map aq) (k:Int)=some (aq s.sts[k]):=fW (by omega)<|by rw[AZ,AK,Au hk];rfl
    have a2:aU ap (dE es) (.int k)=.ret es[k].d:=by
     show Tr.of (bG (es.map E2.d) (k:Int))=_;rw[fW (by omega)<|by rw[AZ,AK,Au FL];rfl]
     rfl
    have a3:aU ap es[k].d (.int 0)=.ret (.tuple [.int es[k].t,.int es[k].b]):=rfl;have hb:=st.b _<|AW FL;have f1:=aY (st.t _<|AW FL)<|by decide
    have f2:=aY (Zc8 k1 nB (by omega)<|k3 _<|AW FL)<|by decide
    have f3:=aY hb.2.1<|by decide
    have fd:=uv (m:=bot es) (n:=es[k].b) (by omega) f3
    rw[ez];have f2':fit ((bot es).fdiv es[k].b)=true:=f2;simp! only[pc,a1,i0,a2,a3,fd,f1,f2']
    rfl
   rw[q];refine Eg Tr.ret ?_;rw[AR];apply Dt;intro k;rw[AK,AK];by_cases hk:k<s.sts.length
   ·have FL:k<es.length:=by rw[FB.1];exact hk
    have ez:(s.sts.zip es)[k]?=some (s.sts[k],es[k]):=by rw[BY];exact⟨Au hk,Au FL⟩
    rw[Cp hk,ez];show some (match (s.sts.zip es)[k]? with|some x=>_|none=>_)=_
    rw[ez]
    rfl
   ·rw[CJ<|by rw[B3];omega,CJ<|by rw[Bz];omega]
    rfl
  have ed:bR iF [.list<|(s.tb<|s.stF es).map dI]=.ret (pD<|s.tb<|s.stF es):=yZ (l6 h _)<|ou s _;simp! only[kX,tn,i0,lj,lp,en,sr,Av,rr,hs,hm,ed,s2]
  rfl
def ZdA{s:Shp}(h:s.Ok){P:Fl (Fl E2)}(hP:∀es∈P,cE s es){S:Int}(hS:∀es∈P,StB S es):eI s 2500 (s.later P).1/\nb 1500 (s.later P).2/\0<(s.later P).2:=by
 cases P with
 |nil=>exact⟨λx y a1 a2 b1 b2=>aO (dX (ly h x a1 a2)<|ly h y b1 b2)<|by decide,aO (show nb 102 (1:Int)from bS (by decide)<|by decide)<|by decide,show(0:Int)<1 by decide⟩
 | cons es P =>
  have FB:=hP es<|AB ..;have st:=hS es<|AB ..;obtain⟨k1,_,k3⟩:=nD es 1 (by decide) λe he=>(st.b e he).1
  have kS:bot es∣S:=vL es 1 (by decide) (λe he=>⟨(st.b e he).1,(st.b e he).2.2⟩) ⟨S,by rw[Int.one_mul]⟩
  have nB:nb 1500 (bot es):=pN st.pos st.nb k1 kS;refine⟨λx y a1 a2 b1 b2=>?_,nB,k1⟩;obtain⟨e,he,hz⟩:=oA h FB (p:=(x,y))<|(b8 h).mpr ⟨⟨a1,a2⟩,b1,b2⟩;obtain⟨_,_,_,lk⟩:=gH FB hz;have lk:look (s.sts.zip es) (x,y)=some e:=lk;show nb 2500<|s.stF es x y;unfold Shp.stF;rw[lk];have hb:=(st.b e he).1;exact aO (dm (st.t e he)<|Zc8 k1 nB (by omega)<|k3 e he)<|by decide
def jn(e:E2):aU ap (.tuple [.int e.t,.int e.b]) (.int 0)=.ret (.int e.t):=rfl
def jm(e:E2):aU ap (.tuple [.int e.t,.int e.b]) (.int 1)=.ret (.int e.b):=rfl
def Zlr{s:Shp}(h:s.Ok)(h7:s.n<=7){day:Fl D2}(hd:DdB day){es:Fl E2}(FB:cE s es){S:Int}(st:StB S es){L:Int->Int->Int}{B:Int}(hL:eI s 2500 L)(hB:nb 1500 B) :
  mQ [.d s.d, .d<|fD day, .d<|dE es, .d<|pD<|s.tb L, .d<|.int B] = .ret (.d<|.bool<|s.rowB day (L, B) es) := by
 have FR:s.sts.length<=100:=sml h7<|by rw[fi];exact Aw _
 have hs:small (day.map tI).length=true:=bW (by rw[Av];have:=hd.len;omega)
 have e0:bJ (dF (ao 0) xO [.un]) (day.map tI) = .ret (day.map λl => PyData.int l.sum) := e9 λl _ => by have e1:bR dO [tI l]=.ret (.int l.sum):=jl l;simp![xO, e1]
 have e1:bR dO [.list<|day.map λl=>PyData.int l.sum]=.ret (.int<|aN day):=by rw[yW];exact jX _
 have f1:=aY hB<|by decide
 have f2:=aY (gJ hd)<|by decide
 have nw:nb 1520 (B*aN day):=dm hB<|gJ hd;have fw:=aY nw<|by decide
 have sr:=ot h h7 L;have hsm:small (s.sts.map aq).length=true:=bW<|by rw[Av];omega
 have e2:bJ (dF (ao 0) xN [.un, .d s.d, .d<|fD day, .d<|pD<|s.tb L, .d<|.int B]) (s.sts.map aq) = .ret ((s.tb<|s.w2 day L B).map dI) := by
  have q:(s.tb<|s.w2 day L B).map dI=s.sts.map λp=>dI (kS p,.int<|s.w2 day L B p.1 p.2):=by unfold Shp.tb;rw[AR];rfl
  rw[q];refine e9 λp hp=>?_;have em:=Zez h hd hL (aO hB<|by decide) (by decide) hp
  simp![xN, em]
  rfl
 have ed:bR iF [.list<|(s.tb<|s.w2 day L B).map dI]=.ret (pD<|s.tb<|s.w2 day L B):=yZ (l6 h _)<|ou s _;have hM:eI s 2620 (s.w2 day L B):=l4 h hd hL<|aO hB<|by decide
 have erow:s.rowB day (L,B) es=(s.sts.zip es).all λx=>s.rowE (s.w2 day L B) (B*aN day) x.1 x.2:=rfl;rw[erow];generalize s.w2 day L B=M at *;obtain⟨w,hw⟩:∃w,B*aN day=w:=⟨_,rfl⟩;rw[hw]at nw fw ⊢;have key := nk (g := bD<|aJ (ao 8)<|aJ (bD<|aJ (ao 9)<|aJ (ao 10) bo) bo) (s := m8) (r := Re.d<|.bool false) (mk := λx:Pt × E2 => PyData.tuple [aq x.1, x.2.d]) (full := s.sts.zip es)
  (λx=>s.rowE M w x.1 x.2) (λ_ ρ=>∃J8 J9 FF FE:Sl,ρ=[.d s.d,.d<|fD day,.d<|dE es,.d<|pD<|s.tb L,.d<|.int B,.d<|.int w,.d<|.list<|s.sts.map aq,.d<|pD<|s.tb M,J8,J9,FF,FE]) (λpre x post ρ e hI=>by
   obtain⟨J8,J9,FF,FE,rfl⟩:=hI;have hx:x∈s.sts.zip es:=by rw[e];simp
   have hxe:x.2∈es:=(Cv hx).2;obtain⟨z1,z2,z3,_⟩:=gH FB hx;obtain⟨⟨a1,a2⟩,b1,b2⟩:=(b8 h).mp z1;have FJ:∀q∈s.rzs x.1,q∈s.sts/\nb 20 (x.1.1+x.1.2)/\nb 20 (q.1+q.2):=λq hq=>vH h hM (aO hB<|by decide) z1 hq
   have nt:=st.t x.2 hxe;have nb':=(st.b x.2 hxe).2.1;have ft:=aY nt (by decide)
   have fb:=aY nb' (by decide)
   have cost:∀q∈s.rzs x.1,aU eO (pD<|s.tb M) (aq q)=.ret (.int<|M q.1 q.2)/\ja [.d s.d,.d<|aq x.1,.d<|aq q]=.ret (.d<|.int<|s.ord (x.1.1+x.1.2)<|q.1+q.2)/\fit (s.ord (x.1.1+x.1.2)<|q.1+q.2)=true/\fit (s.xF M w x.1 q)=true:=λq hq=>by
    obtain⟨y1,y2,y3⟩:=FJ q hq;obtain⟨⟨c1,c2⟩,d1,d2⟩:=(b8 h).mp y1;refine⟨jD h c1 c2 d1 d2,Zex h z1 hq,aY (ie h y2 y3)<|by decide,?_⟩
    unfold Shp.xF;exact aY (dX (hM _ _ c1 c2 d1 d2)<|dm (ie h y2 y3) nw) (by decide)
   obtain⟨g1,g2,g3,g4⟩:=cost x.2.q z3;have ex:∀q:Pt,M q.1 q.2+s.ord (x.1.1+x.1.2) (q.1+q.2)*w=s.xF M w x.1 q:=λ_=>rfl;have ek:s.rowE M w x.1 x.2=(decide (s.xF M w x.1 x.2.q*x.2.b=x.2.t*w)&&(s.rzs x.1).all λo=>!decide (s.xF M w x.1 o*x.2.b<x.2.t*w)):=rfl;refine⟨[.d s.d,.d<|fD day,.d<|dE es,.d<|pD<|s.tb L,.d<|.int B,.d<|.int w,.d<|.list<|s.sts.map aq,.d<|pD<|s.tb M,.d<|aq x.1,.d<|.tuple [.int x.2.t,.int x.2.b],.d<|aq x.2.q,FE],rfl,?_⟩;rw[ek];by_cases k1:s.xF M w x.1 x.2.q*x.2.b=x.2.t*w
   ·rw[Ea k1,Bq];have kb:(s.xF M w x.1 x.2.q*x.2.b==x.2.t*w)=true:=EW.mpr k1;have inn := nk (g := ao 11) (s := lg) (r := Re.d<|.bool false) (mk := aq) (full := s.sts)
     (λo=>!(decide (x.1.1<=o.1)&&decide (x.1.2<=o.2)) || !decide (s.xF M w x.1 o*x.2.b<x.2.t*w)) (λ_ ρ=>∃FE:Sl,ρ=[.d s.d,.d<|fD day,.d<|dE es,.d<|pD<|s.tb L,.d<|.int B,.d<|.int w,.d<|.list<|s.sts.map aq,.d<|pD<|s.tb M,.d<|aq x.1,.d<|.tuple [.int x.2.t,.int x.2.b],.d<|aq x.2.q,FE]) (λpre o post ρ e hI=>by
      obtain⟨FE,rfl⟩:=hI;have ho:o∈s.sts:=by rw[e];simp
      refine⟨_,rfl,?_⟩;have c1:decide (o.1≥x.1.1)=decide (x.1.1<=o.1):=rfl;have c2:decide (o.2≥x.1.2)=decide (x.1.2<=o.2):=rfl;cases d1:decide (x.1.1<=o.1)
      ·refine .inl ⟨rfl,?_⟩;simp![lg, fq, fo, c1, d1];exact⟨_,rfl,_,rfl⟩
      ·cases d2:decide (x.1.2<=o.2)
       ·refine .inl ⟨rfl,?_⟩;simp![lg, fq, fo, c1, c2, d1, d2];exact⟨_,rfl,_,rfl⟩
       ·have hor:o∈s.rzs x.1:=by rw[<- ku h z1];exact CP.mpr ⟨ho,by rw[d1,d2];rfl⟩
        obtain⟨u1,u2,u3,u4⟩:=cost o hor;cases d3:decide (s.xF M w x.1 o*x.2.b<x.2.t*w)
        ·refine .inl ⟨rfl,?_⟩;simp![lg, fq, fo, c1, c2, d1, d2, u1, u2, u3, ex, u4, fw, ft, fb, jn, jm, d3];exact⟨_,rfl,_,rfl⟩
        ·refine .inr ⟨rfl,?_⟩;simp![lg, fq, fo, c1, c2, d1, d2, u1, u2, u3, ex, u4, fw, ft, fb, jn, jm, d3])
     (xs:=s.sts) (pre:=[]) (ρ:=[.d s.d,.d<|fD day,.d<|dE es,.d<|pD<|s.tb L,.d<|.int B,.d<|.int w,.d<|.list<|s.sts.map aq,.d<|pD<|s.tb M,.d<|aq x.1,.d<|.tuple [.int x.2.t,.int x.2.b],.d<|aq x.2.q,FE]) rfl ⟨FE,rfl⟩
    have ef:(s.sts.all λo=>!(decide (x.1.1<=o.1)&&decide (x.1.2<=o.2)) || !decide (s.xF M w x.1 o*x.2.b<x.2.t*w))=(s.rzs x.1).all λo=>!decide (s.xF M w x.1 o*x.2.b<x.2.t*w):=by rw[<- ku h z1,List.all_filter]
    rw[ef]at inn;rcases inn with ⟨i1,ρ2,i2,J11',rfl⟩|⟨i1,i2⟩
    ·refine .inl ⟨i1,?_⟩;simp![m8, g1, g2, g3, ex, g4, fw, ft, fb, jn, jm, kb, AF, i2];exact⟨_,rfl,_,_,_,_,rfl⟩
    ·refine .inr ⟨i1,?_⟩;simp![m8, g1, g2, g3, ex, g4, fw, ft, fb, jn, jm, kb, AF, i2]
   ·rw[Eb k1,Bb];have kb:(s.xF M w x.1 x.2.q*x.2.b==x.2.t*w)=false:=Eh.mpr k1;refine .inr ⟨rfl,?_⟩;simp![m8, g1, g2, g3, ex, g4, fw, ft, fb, jn, jm, kb, AH])
  (xs:=s.sts.zip es) (pre:=[]) (ρ:=[.d s.d,.d<|fD day,.d<|dE es,.d<|pD<|s.tb L,.d<|.int B,.d<|.int w,.d<|.list<|s.sts.map aq,.d<|pD<|s.tb M,.un,.un,.un,.un]) rfl ⟨_,_,_,_,rfl⟩
 rcases key with ⟨k1,ρ2,k2,J8,J9,FF,FE,rfl⟩|⟨k1,k2⟩
 ·rw[k1];simp![mQ, li, hs, e0, e1, f1, f2, hw, fw, sr, hsm, e2, ed, lj, l0, k2]
 ·rw[k1];simp![mQ, li, hs, e0, e1, f1, f2, hw, fw, sr, hsm, e2, ed, lj, l0, k2]
noncomputable def ik(s:Shp)(ds:Fl (Fl D2))(P:Fl (Fl E2))(k:Nat):Bool:=match ds[k]?,P[k]? with
 |some d,some es=>s.rowB d (s.later<|P.drop<|k+1) es
 |_,_=>true
theorem ye{s:Shp}:∀{ds:Fl (Fl D2)}{P:Fl (Fl E2)},P.length=ds.length->(List.range ds.length).all (ik s ds P)=s.lawB ds P
 | [],[],_=>rfl
 | [],_::_,h=>by cases h
 |_::_,[],h=>by cases h
 | d::ds,es::P,h=>by
  rw[AE,List.range_succ_eq_map,BG,List.all_map];have e:ik s (d::ds) (es::P) ∘ Nat.succ=ik s ds P:=by funext k;show ik s (d::ds) (es::P) (k+1)=_;unfold ik;rw[A6,A6,Dc]
  rw[e,ye<|BV h]
  rfl
def Zls{s:Shp}(h:s.Ok)(h7:s.n<=7){ds:Fl (Fl D2)}(hd:∀d∈ds,DdB d)(hl:ds.length<=3){P:Fl (Fl E2)}(hPl:P.length=ds.length)(hP:∀es∈P,cE s es){S:Int}(hS:∀es∈P,StB S es)(hx:nV (pE P))(hp:gu s ds.length (pE P)=true) :
  jQ [.d s.d,.d<|bn ds,.d<|pE P]=.ret (.d<|.bool<|s.lawB ds P):=by
 have ef:=Zd7 h h7 (ds:=ds) hx;rw[hp]at ef;have ld:bR cj [bn ds]=.ret (.int ds.length):=by show Tr.ret (PyData.int ((ds.map fD).length:Nat))=_;rw[Av]
 have rr:eK [.int (ds.length:Int)]=.ret (bi 0 ds.length):=gB<|fc (by omega)<|by omega
 have ei:bi 0 ds.length=(List.range ds.length).map λk:Nat=>PyData.int (k:Int):=by
  have e0:((ds.length:Int)-0).toNat=ds.length:=by omega
  unfold bi aQ;rw[e0,AR];refine BD λk _=>?_;show PyData.int (0+(k:Int))=_;rw[C5]
 have key:=nk (g:=ao 3) (s:=qq) (r:=Re.d<|.bool false) (mk:=λk:Nat=>PyData.int (k:Int)) (full:=List.range ds.length)
  (ik s ds P) (λ_ ρ=>∃J3 J4 J5:Sl,ρ=[.d s.d,.d<|bn ds,.d<|pE P,J3,J4,J5]) (λpre k post ρ e hI=>by
   obtain⟨J3,J4,J5,rfl⟩:=hI;have hk:k<ds.length:=Bw.mp (by rw[e];simp)
   have FL:k<P.length:=by omega
   refine⟨_,rfl,?_⟩;have sl:ky (pE P) (some<|(k:Int)+1) none=.ret (pE<|P.drop<|k+1):=by show Tr.ret (PyData.tuple<|L2.dJ (P.map dE) (some<|(k:Int)+1) none)=_;rw[vE];unfold pE;rw[List.map_drop]
   have hP':∀es∈P.drop (k+1),cE s es:=λes FB=>hP es<|BB FB;have hS':∀es∈P.drop (k+1),StB S es:=λes FB=>hS es<|BB FB;have el:=ZeC h h7 hP' hS';obtain⟨n1,n2,n3⟩:=ZdA h hP' hS';have i1:aU ap (bn ds) (.int k)=.ret (fD ds[k]):=by
    show Tr.of (bG (ds.map fD) (k:Int))=_;rw[fW (by omega)<|by rw[AZ,AK,Au hk];rfl]
    rfl
   have i2:aU ap (pE P) (.int k)=.ret (dE P[k]):=by
    show Tr.of (bG (P.map dE) (k:Int))=_;rw[fW (by omega)<|by rw[AZ,AK,Au FL];rfl]
    rfl
   have er:=Zlr h h7 (hd _<|AW hk) (hP _<|AW FL) (hS _<|AW FL) n1 n2;have eo:ik s ds P k=s.rowB ds[k] ((s.later<|P.drop<|k+1).1,(s.later<|P.drop<|k+1).2) P[k]:=by unfold ik;rw[Au hk,Au FL]
   have eg:∀a b:Fn,lu (aJ (ao 4)<|aJ (ao 5) bo) (.list [a,b]) [.d s.d,.d<|bn ds,.d<|pE P,.d<|.int k,J4,J5]=some [.d s.d,.d<|bn ds,.d<|pE P,.d<|.int k,.d a,.d b]:=λ_ _=>rfl;rw[eo];cases hz:s.rowB ds[k] ((s.later<|P.drop<|k+1).1,(s.later<|P.drop<|k+1).2) P[k]
   ·rw[hz]at er;refine .inr ⟨rfl,?_⟩;simp! only[qq,sl,el,eg,i1,i2,er,AH]
   ·rw[hz]at er;refine .inl ⟨rfl,?_⟩;simp! only[qq,sl,el,eg,i1,i2,er,AF];exact⟨_,rfl,_,_,_,rfl⟩)
  (xs:=List.range ds.length) (pre:=[]) (ρ:=[.d s.d,.d<|bn ds,.d<|pE P,.un,.un,.un]) rfl ⟨_,_,_,rfl⟩
 rw[ye hPl]at key;rw[<- ei]at key;rcases key with ⟨k1,ρ2,k2,J3,J4,J5,rfl⟩|⟨k1,k2⟩
 ·rw[k1];simp! only[jQ,ef,AF,ld,rr,k2]
 ·rw[k1];simp! only[jQ,ef,AF,ld,rr,k2]
def okX{d:Fn}(h:oZ d=true):iU d=true:=by
 unfold oZ at h;unfold iU;simp only[AT]at h ⊢;obtain⟨⟨⟨h1,h2⟩,h3⟩,h4⟩:=h;refine⟨⟨⟨?_,h2⟩,h3⟩,h4⟩;rw[h1]
 rfl
def jB{a k n:Nat}(h:a<=k):a*n+2*a+10<=k*n+2*k+10:=by have:=Nat.mul_le_mul_right n h;omega
def ZhY{day:Fl D2}(h:DdB day):Rp (fD day) 2 18000:=by
 refine cm (iR (k:=1) (n:=5800) λy hy=>?_) (Aw _)<|AJ (jB<|by rw[Av];exact h.len)<|by decide
 obtain⟨l,hl,rfl⟩:=AU.mp hy;obtain⟨l1,l2⟩:=h.row l hl;exact cm (xB (m:=3) (λn hn=>aO (oh<|l2 n hn)<|by decide) l1) (Aw _)<|by decide
def ZhZ{ds:Fl (Fl D2)}(h:∀d∈ds,DdB d)(hl:ds.length<=3):Rp (bn ds) 3 60000:=by
 refine cm (iR (k:=2) (n:=18000) λy hy=>?_) (Aw _)<|AJ (jB<|by rw[Av];exact hl)<|by decide
 obtain⟨d,hd,rfl⟩:=AU.mp hy;exact ZhY<|h d hd
def ml{a b:Int}(ha:nb 1900 a)(hb:nb 1900 b):Rp (.tuple [.int a,.int b]) 1 4000:=by
 refine cm (xB (l:=[a,b]) (m:=2) (λn hn=>?_)<|Aw _) (Aw _)<|by decide
 simp only[AM,BU,EV]at hn;rcases hn with rfl|rfl
 ·exact ha
 ·exact hb
def GoE(S:Int)(y e:Fn):Prop:=(∃e':E2,e=e'.d/\nb 560 e'.t/\nb 560 e'.b/\1<=e'.b/\e'.b∣S/\nb 20 e'.q.1/\nb 20 e'.q.2)\/e=y
def n9(S:Int)(y d:Fn):Prop:=∀es,d=.tuple es->es.length<=200/\∀e∈es,GoE S y e
def GoP(S:Int)(y x:Fn):Prop:=∀ds,x=.tuple ds->ds.length<=200/\∀d∈ds,n9 S y d
def Zhe{e:E2}(h1:nb 900 e.t)(h2:nb 900 e.b):fK e.d:=by
 refine⟨λxs q=>?_,λc r q=>?_⟩
 ·unfold E2.d at q;cases q;show 2<=200;omega
 ·unfold E2.d at q;cases q;refine⟨⟨λxs q=>?_,λt b q=>?_⟩,λxs q=>?_⟩
  ·cases q;show 2<=200;omega
  ·cases q;exact⟨h1,h2⟩
  ·unfold aq at q;cases q;show 2<=200;omega
def GoE.sm{S:Int}{y e:Fn}(h:GoE S y e)(hy:fK y):fK e:=by
 rcases h with ⟨e',rfl,h1,h2,_⟩|rfl
 ·exact Zhe (aO h1<|by decide)<|aO h2<|by decide
 ·exact hy
theorem GoP.sm{S:Int}{y x:Fn}(h:GoP S y x)(hy:fK y):nV x:=λds e=>⟨(h ds e).1,λd hd es e2=>⟨((h ds e).2 d hd es e2).1,λz hz=>(((h ds e).2 d hd es e2).2 z hz).sm hy⟩⟩
def ZeH{a b:E2}(h:a.d=b.d):a.t=b.t/\a.b=b.b:=by unfold E2.d at h;simp only[PyData.tuple.injEq,List.cons.injEq,PyData.int.injEq]at h;exact⟨h.1.1,h.1.2.1⟩
def GoP.st{s:Shp}{S:Int}{y x:Fn}(h:GoP S y x)(hy:fK y)(hS:0<S)(hn:nb 560 S){P:Fl (Fl E2)}(e:x=pE P)(hd:∀es∈P,cE s es):∃S',∀es∈P,StB S' es:=by
 subst e;have hent:∀es∈P,∀e∈es,1<=e.b/\nb 900 e.t/\nb 900 e.b/\(e.b∣S\/e.d=y):=λes FB e he=>by
  have h1:=(h (P.map dE) rfl).2 (dE es) (AU.mpr ⟨es,FB,rfl⟩) (es.map E2.d) rfl;have h2:=h1.2 e.d<|AU.mpr ⟨e,he,rfl⟩;have pos:1<=e.b:=by
   obtain⟨k,hk,rfl⟩:=Co he;have FL:k<s.sts.length:=by rw[<- (hd es FB).1];exact hk
   exact((hd es FB).2 k s.sts[k] es[k] (Au FL) (Au hk)).1.pos
  have h3:=((h2.sm hy).2 (.tuple [.int e.t,.int e.b]) (aq e.q) rfl).1.2 e.t e.b rfl;refine⟨pos,h3.1,h3.2,?_⟩;rcases h2 with ⟨e',q,_,_,_,h4,_⟩|q
  ·refine .inl ?_;rw[(ZeH q).2];exact h4
  ·exact .inr q
 by_cases hz:∃es∈P,∃e∈es,e.d=y
 ·obtain⟨es0,hes0,e0,he0,q0⟩:=hz;obtain⟨p1,_,p3,_⟩:=hent es0 hes0 e0 he0;refine⟨S*e0.b,λes FB=>⟨CC hS<|by omega,aO (dm hn p3)<|by decide,λe he=>(hent es FB e he).2.1,λe he=>?_⟩⟩
  obtain⟨q1,_,q3,q4⟩:=hent es FB e he;refine⟨q1,q3,?_⟩;rcases q4 with q4|q4
  ·exact Di q4 ⟨_,rfl⟩
  ·rw[(ZeH<|q4.trans q0.symm).2];exact⟨S,BI _ _⟩
 ·refine⟨S,λes FB=>⟨hS,aO hn<|by decide,λe he=>(hent es FB e he).2.1,λe he=>?_⟩⟩
  obtain⟨q1,_,q3,q4⟩:=hent es FB e he;refine⟨q1,q3,?_⟩;rcases q4 with q4|q4
  ·exact q4
  ·exact absurd ⟨es,FB,e,he,q4⟩ hz
def ZhX{e:E2}(h1:nb 560 e.t)(h2:nb 560 e.b)(h3:nb 20 e.q.1)(h4:nb 20 e.q.2):Rp e.d 5 30000:=by
 have r1:=ml (aO h1<|show 560<=1900 by decide)<|aO h2<|show 560<=1900 by decide
 have r2:=ml (aO h3<|show 20<=1900 by decide)<|aO h4<|show 20<=1900 by decide
 refine cm (iR (xs:=[.tuple [.int e.t,.int e.b],aq e.q]) (k:=1) (n:=4000) λz hz=>?_) (by decide)<|by show 2*4000+2*2+10<=30000;decide
 simp only[AM,BU,EV]at hz;rcases hz with rfl|rfl
 ·exact r1
 ·exact r2
def GoE.rp{S:Int}{y e:Fn}(h:GoE S y e)(hy:Rp y 5 30000):Rp e 5 30000:=by
 rcases h with ⟨e',rfl,h1,h2,_,_,h3,h4⟩|rfl
 ·exact ZhX h1 h2 h3 h4
 ·exact hy
def mn{S:Int}{y:Fn}{es:D1}(l:es.length<=27)(h:∀e∈es,GoE S y e)(hy:Rp y 5 30000):n9 S y (.tuple es)/\Rp (.tuple es) 6 820000 :=
 ⟨λxs e=>by cases e;exact⟨by omega,h⟩,cm (iR λz hz=>(h z hz).rp hy) (Aw _)<|AJ (jB l)<|by decide⟩
def Zh1{S:Int}{y:Fn}{es:D1}(l:es.length<=27)(h:∀e∈es,GoE S y e)(hy:Rp y 5 30000):n9 S y (.list es)/\Rp (.list es) 6 820000 :=
 ⟨λxs e=>(by cases e),cm (ZbH λz hz=>(h z hz).rp hy) (Aw _)<|AJ (jB l)<|by decide⟩
structure Thg(S:Int)(x:Fn):Prop where
 go:∃y,fK y/\GoP S y x
 rp:Rp x 7 3300000\/x=.dict []
def g9{S:Int}{y:Fn}{ds:D1}(l:ds.length<=4)(hy:fK y)(h:∀d∈ds,n9 S y d/\Rp d 6 820000):Thg S (.tuple ds) :=
 ⟨⟨y,hy,λxs e=>by cases e;exact⟨by omega,λd hd=>(h d hd).1⟩⟩,.inl<|cm (iR λz hz=>(h z hz).2) (Aw _)<|AJ (jB l)<|by decide⟩
def ZaP:fK .none:=⟨λxs e=>(by cases e),λc r e=>(by cases e)⟩
def km{S:Int}{x:Fn}(h:∀xs,x≠.tuple xs)(hr:Rp x 7 3300000\/x=.dict []):Thg S x:=⟨⟨.none,ZaP,λds e=>absurd e<|h ds⟩,hr⟩
def Zd3(l:D2):dZ (tI l)=false:=by
 have:∀l:D2,fE (l.map PyData.int)=false:=λl=>by
  induction l with
  |nil=>simp only[BO,fE]
  |cons a l ih=>rw[Ax,fE,ih];simp only[dZ,Dk]
 unfold tI;rw[dZ,this]
theorem yN:∀{xs:D1},(∀x∈xs,dZ x=false)->fE xs=false
 | [],_=>by simp only[fE]
 |x::xs,h=>by rw[fE,h x<|AB ..,yN λy hy=>h y<|Az _ hy];rfl
def ZhW{s:Shp}(h:s.Ok){ds:Fl (Fl D2)}(hd:∀d∈ds,DdB d)(hl:ds.length<=3){x:Fn}(hr:Rp x 7 3300000\/x=.dict []):iU (.tuple [s.d,bn ds,x])=true:=by
 have r1:=ZhU h;have r2:=ZhZ hd hl;rcases hr with r3|rfl
 ·refine okX (ZbG (iR (k:=7) (n:=3300000) λz hz=>?_) (by decide)<|by show 3*3300000+2*3+10<=_;decide)
  simp only[AM,BU,EV]at hz;rcases hz with rfl|rfl|rfl
  ·exact cm r1 (by decide)<|by decide
  ·exact cm r2 (by decide)<|by decide
  ·exact r3
 ·have e:s.d=tI s.l:=by unfold Shp.d;rfl
  have l1:dZ s.d=false:=by rw[e];exact Zd3 _
  have l2:dZ (bn ds)=false:=by unfold bn;rw[dZ];refine yN λz hz=>?_;obtain⟨d,_,rfl⟩:=AU.mp hz;unfold fD;rw[dZ];refine yN λz hz=>?_;obtain⟨l,_,rfl⟩:=AU.mp hz;exact Zd3 l
  have z0:(PyData.dict []).shown.length=2:=by trivial
  have key:=tupleText_len_le<|PyData.shownAll [s.d,bn ds,.dict []];have a1:=r1.ln;have a2:=r2.ln;have a3:=r1.dp;have a4:=r2.dp;unfold iU;simp only[AT,Bool.or_eq_true,Ew];refine⟨⟨⟨.inr ?_,?_⟩,?_⟩,?_⟩
  ·simp only[dZ,fE,jk,l1,l2,Dk,AH]
  ·simp only[PyData.showable,PyData.showableAll,PyData.showableKv,r1.sh,r2.sh,Ck]
  ·simp only[PyData.depth,PyData.depthAll,PyData.depthKv];omega
  ·simp only[PyData.shownAll,Ax,BO,BW,List.sum_nil,AE,Bm,z0]at key;rw[PyData.shown];simp only[PyData.shownAll];rw[Ex];omega
def y8{s:Shp}(h:s.Ok)(h7:s.n<=7){ds:Fl (Fl D2)}(hd:∀d∈ds,DdB d)(hl:ds.length<=3){S:Int}(hS:0<S)(hn:nb 560 S){x:Fn}(hx:Thg S x) :
  kW [.d s.d,.d<|bn ds,.d x]=.ret (.d<|.bool true):=by
 obtain⟨y,hy,hg⟩:=hx.go;have hsm:=hg.sm hy;have key:∃b:Bool,gQ [.d s.d,.d<|bn ds,.d x]=.ret (.d<|.bool b)/\jQ [.d s.d,.d<|bn ds,.d x]=.ret (.d<|.bool b):=by
  rcases ZeA h h7 hd hl hsm with ⟨hp,e1⟩|⟨P,rfl,hPl,hP,hp,e1⟩
  ·have ef:=Zd7 h h7 (ds:=ds) hsm;rw[hp]at ef;refine⟨false,e1,?_⟩;simp![jQ,ef,AH]
  ·obtain⟨S',FR⟩:=hg.st hy hS hn rfl hP;refine⟨_,e1,?_⟩;rw[<- (yv h (λd FK=>(hd d FK).pos) hP hPl).1];exact Zls h h7 hd hl hPl hP FR hsm hp
 obtain⟨b,k1,k2⟩:=key;have rb:=Zem<|okX<|ZbG (ZbI b) (by decide)<|by decide
 have rk:=Zem<|ZhW h hd hl hx.rp;have g2:eK [.int 2]=.ret (bi 0 2):=gB rfl;refine nN ?_;simp![kW,bh,rk,k2,rb,g2];refine eA (n:=0) (n':=0) (P:=λo=>∃f:Sl,o=.next [.d s.d,.d<|bn ds,.d x,.d<|.str (PyData.tuple [s.d,bn ds,x]).shown,.d<|.str (PyData.bool b).shown,f]) ?_ (by decide) ?_
 ·refine ZfS (n:=0) (λρ=>∃f:Sl,ρ=[.d s.d,.d<|bn ds,.d x,.d<|.str (PyData.tuple [s.d,bn ds,x]).shown,.d<|.str (PyData.bool b).shown,f]) ⟨_,rfl⟩ (by simp) ?_ ?_
  ·rintro z ρ hz ⟨f,rfl⟩;refine⟨_,rfl,?_⟩;simp![ZdD,bh,k1,rb,rk,Zg7,AF];exact b9 ⟨_,rfl,_,rfl⟩
  ·rintro ρ ⟨f,rfl⟩;exact⟨f,rfl⟩
 ·rintro _ ⟨f,rfl⟩;simp![bh];exact b9 rfl
noncomputable def pJ(u:Pt->Bool):Fn->Fm Fn
 |.tuple [.int a,.int b]=>if u (a,b)=true then some (.tuple [.int a,.int b])else none
 |_=>none
theorem yV(u:Pt->Bool):∀l:Fl Pt,(l.map aq).filterMap (pJ u)=(l.filter u).map aq
 | []=>rfl
 | p::l=>by
  rw[Ax,B8,DA,yV u l];have e:pJ u (aq p)=if u p=true then some (aq p)else none:=rfl
  rw[e];cases u p <;> rfl
def ZfR{α:Type}{n N:Nat}{g:DX}{s:DU}{mk:α->Fn}{full:Fl α}{ρ:D7}{Q:Ou->Prop}(I:Fl α->Fl Sl->Prop)(h0:I [] ρ)(hN:full.length*n<=N)
  (ht:∀pre x post ρ,full=pre++x::post->I pre ρ->∃ρ1,g (mk x) ρ=some ρ1/\Al (s ρ1) n λo=>∃ρ2,o=.next ρ2/\I (pre++[x]) ρ2) (hq:∀ρ,I full ρ->Q (.next ρ)):Al (ck g s (full.map mk) ρ) N Q:=by
 refine jt (n:=n) (λpre' ρ=>∀a post,full=a++post->a.map mk=pre'->I a ρ) (λa post e1 e2=>?_) (by rw[Av];exact hN) (λpre' y post' ρ e h=>?_)<|λρ h=>hq ρ<|h full [] (A3 _).symm rfl
 ·rw[B7.mp e2];exact h0
 ·obtain⟨a,b,e1,e2,e3⟩:=List.map_eq_append_iff.mp e;cases b with
  |nil=>cases e3
  | cons x post =>
   rw[Ax]at e3;injection e3 with e3 e4;subst e3;obtain⟨ρ1,g1,k⟩:=ht a x post ρ e1<|h a (x::post) e1 e2;refine⟨ρ1,g1,lL k (Aw _) ?_⟩;rintro _ ⟨ρ2,rfl,hI⟩;refine⟨ρ2,rfl,λa2 post2 f1 f2=>?_⟩;have hl:a2.length=(a++[x]).length:=by
    have:=Eg List.length f2;rw[Av,AQ,<- e2,Av]at this;rw[this,AQ]
    rfl
   have f3:(a++[x])++post=a2++post2:=by rw[<- f1,e1,Bg];rfl
   have:=(List.append_inj f3 hl.symm).1;rw[<- this];exact hI
def oE(s:Shp)(ds:Fl (Fl D2))(P acc:Fl (Fl E2))(t:Nat)(L:Int->Int->Int)(B w:Int)(M:Int->Int->Int)(es':Fl E2)(K12 K13 K14 K15 K16:Sl):D7:=[.pen,.d s.d,.d<|bn ds,.d<|pE P,.own<|acc.map dE,.d<|.int t,.d<|pD<|s.tb L,.d<|.int B,.d<|.int w,.d<|.list<|s.sts.map aq,.d<|pD<|s.tb M,.own<|es'.map E2.d,K12,K13,K14,K15,K16]
def ZhK{s:Shp}(h:s.Ok)(h5:s.n<=5){ds:Fl (Fl D2)}(hd:∀d∈ds,DdB d)(hl:ds.length<=3){S:Int}{P:Fl (Fl E2)}(G:GdB s S ds.length P)(hlaw:s.lawB ds P=true){t:Nat}(ht:t<ds.length)(acc:Fl (Fl E2))(ha:acc.length<=10)(J6 J7 J8 J9 FF FE FH FI FW J15 J16:Sl) :
  Al (yz [.pen,.d s.d,.d<|bn ds,.d<|pE P,.own<|acc.map dE,.d<|.int t,J6,J7,J8,J9,FF,FE,FH,FI,FW,J15,J16]) 25 λo=>∃(es':Fl E2)(K6 K7 K8 K9 K10 K11 K12 K13 K14 K15 K16:Sl),o=.next [.pen,.d s.d,.d<|bn ds,.d<|pE P,.own<|(acc++[es']).map dE,.d<|.int t,K6,K7,K8,K9,K10,K11,K12,K13,K14,K15,K16]/\cE s es'/\∀e∈es',nb 560 e.t/\1<=e.b/\nb 560 e.b/\e.b∣S:=by
 have h7:s.n<=7:=by omega
 have FR:s.sts.length<=25:=by rw[fi];exact AJ (Cb h5 h5)<|by decide
 have FL:t<P.length:=by rw[G.len];exact ht
 have hSt:∀es∈P,StB S es:=λes FB=>⟨G.pos,aO G.nb<|by decide,λe he=>aO (G.ent es FB e he).1 (by decide),λe he=>⟨(G.ent es FB e he).2.1,aO (G.ent es FB e he).2.2.1 (by decide),(G.ent es FB e he).2.2.2⟩⟩
 have hP':∀es∈P.drop (t+1),cE s es:=λes FB=>G.day es<|BB FB;have hS':∀es∈P.drop (t+1),StB S es:=λes FB=>hSt es<|BB FB;have el:=ZeC h h7 hP' hS';obtain⟨n1,n2,n3⟩:=ZdA h hP' hS';have FG:=hd _<|AW ht;have FB:=G.day _<|AW FL;have hent:=G.ent _<|AW FL;have hrow:s.rowB ds[t] ((s.later<|P.drop<|t+1).1,(s.later<|P.drop<|t+1).2) P[t]=true:=by have q:=ye (s:=s) (ds:=ds) (P:=P) G.len;rw[hlaw,Bl]at q;have q:=q t<|Bw.mpr ht;unfold ik at q;rw[Au ht,Au FL]at q;exact q
 have sl:ky (pE P) (some<|(t:Int)+1) none=.ret (pE<|P.drop<|t+1):=by show Tr.ret (PyData.tuple<|L2.dJ (P.map dE) (some<|(t:Int)+1) none)=_;rw[vE];unfold pE;rw[List.map_drop]
 have i1:aU ap (bn ds) (.int t)=.ret (fD ds[t]):=by
  show Tr.of (bG (ds.map fD) (t:Int))=_;rw[fW (by omega)<|by rw[AZ,AK,Au ht];rfl]
  rfl
 have i2:aU ap (pE P) (.int t)=.ret (dE P[t]):=by
  show Tr.of (bG (P.map dE) (t:Int))=_;rw[fW (by omega)<|by rw[AZ,AK,Au FL];rfl]
  rfl
 generalize hes0:P[t]=es at *;generalize hday0:ds[t]=day at *;generalize hL0:(s.later<|P.drop<|t+1).1=L at *;generalize hB0:(s.later<|P.drop<|t+1).2=B at *;have eg:∀a b:Fn,lu (aJ (ao 6)<|aJ (ao 7) bo) (.list [a,b]) [.pen,.d s.d,.d<|bn ds,.d<|pE P,.own<|acc.map dE,.d<|.int t,J6,J7,J8,J9,FF,FE,FH,FI,FW,J15,J16]=some [.pen,.d s.d,.d<|bn ds,.d<|pE P,.own<|acc.map dE,.d<|.int t,.d a,.d b,J8,J9,FF,FE,FH,FI,FW,J15,J16]:=λ_ _=>rfl;have hs:small (day.map tI).length=true:=bW (by rw[Av];have:=FG.len;omega)
 have e0:bJ (dF (ao 0) xQ [.un]) (day.map tI)=.ret (day.map λl=>PyData.int l.sum):=e9 λl _=>by have e1:bR dO [tI l]=.ret (.int l.sum):=jl l;simp![xQ,e1]
 have e1:bR dO [.list<|day.map λl=>PyData.int l.sum]=.ret (.int<|aN day):=by rw[yW];exact jX _
 have f1:=aY n2<|by decide
 have f2:=aY (gJ FG)<|by decide
 have nw:nb 1520 (B*aN day):=dm n2<|gJ FG;have fw:=aY nw<|by decide
 have sr:=ot h h7 L;have hsm:small (s.sts.map aq).length=true:=bW<|by rw[Av];omega
 have e2:bJ (dF (ao 0) xP [.un,.d s.d,.d<|pD<|s.tb L,.d<|.int B,.d<|bn ds,.d<|.int t]) (s.sts.map aq)=.ret ((s.tb<|s.w2 day L B).map dI):=by
  have q:(s.tb<|s.w2 day L B).map dI=s.sts.map λp=>dI (kS p,.int<|s.w2 day L B p.1 p.2):=by unfold Shp.tb;rw[AR];rfl
  rw[q];refine e9 λp hp=>?_;have em:=Zez h FG n1 (aO n2<|by decide) (by decide) hp
  simp![xP,i1,em]
  rfl
 have ed:bR iF [.list<|(s.tb<|s.w2 day L B).map dI]=.ret (pD<|s.tb<|s.w2 day L B):=yZ (l6 h _)<|ou s _;have hM:eI s 2620 (s.w2 day L B):=l4 h FG n1<|aO n2<|by decide
 have erow:s.rowB day (L,B) es=(s.sts.zip es).all λx=>s.rowE (s.w2 day L B) (B*aN day) x.1 x.2:=rfl;rw[erow]at hrow;generalize s.w2 day L B=M at *;obtain⟨w,hw⟩:∃w,B*aN day=w:=⟨_,rfl⟩;rw[hw]at nw fw hrow;simp![yz,bh,sl,el,eg,i1,i2,li,hs,e0,e1,f1,f2,hw,fw,sr,hsm,e2,ed,lj,l0];refine eA (n:=25) (n':=0) (P:=λo=>∃(es':Fl E2)(K12 K13 K14 K15 K16:Sl),o=.next (oE s ds P acc t L B w M es' K12 K13 K14 K15 K16)/\cE s es'/\∀e∈es',nb 560 e.t/\1<=e.b/\nb 560 e.b/\e.b∣S) ?_ (by decide) ?_
 ·refine ZfR (n:=1) (mk:=λx:Pt×E2=>PyData.tuple [aq x.1,x.2.d]) (full:=s.sts.zip es) (λpre ρ=>∃(es':Fl E2)(K12 K13 K14 K15 K16:Sl),ρ=oE s ds P acc t L B w M es' K12 K13 K14 K15 K16/\es'.length=pre.length/\∀(k:Nat)(x:Pt×E2)(e':E2),pre[k]?=some x->es'[k]?=some e'->e'.t=x.2.t/\e'.b=x.2.b/\e'.q∈s.rzs x.1) ⟨[],_,_,_,_,_,rfl,rfl,λk x e' q _=>by cases q⟩ (by rw[Bz];omega) ?_ ?_
  ·rintro pre x post ρ e ⟨es',K12,K13,K14,K15,K16,rfl,hlen,hI⟩;have hx:x∈s.sts.zip es:=by rw[e];simp
   have hpre:pre.length<=25:=by have q:=Eg List.length e;rw[Bz,AQ]at q;omega
   have hxe:x.2∈es:=(Cv hx).2;obtain⟨z1,z2,z3,_⟩:=gH FB hx;obtain⟨⟨a1,a2⟩,b1,b2⟩:=(b8 h).mp z1;have FJ:∀q∈s.rzs x.1,q∈s.sts/\nb 20 (x.1.1+x.1.2)/\nb 20 (q.1+q.2):=λq hq=>vH h hM (aO n2<|by decide) z1 hq
   obtain⟨y1,y2,y3,y4⟩:=hent x.2 hxe;have ft:=aY y1<|by decide
   have fb:=aY y3<|by decide
   have nt:nb 2080 (x.2.t*w):=aO (dm y1 nw)<|by decide
   have ftw:=aY nt<|by decide
   refine⟨[.pen,.d s.d,.d<|bn ds,.d<|pE P,.own<|acc.map dE,.d<|.int t,.d<|pD<|s.tb L,.d<|.int B,.d<|.int w,.d<|.list<|s.sts.map aq,.d<|pD<|s.tb M,.own<|es'.map E2.d,.d<|aq x.1,.d<|.tuple [.int x.2.t,.int x.2.b],.d<|aq x.2.q,K15,K16],rfl,?_⟩;have m1:eM (jf (ao 0) mD mr [.un,.d<|aq x.1]) (s.sts.map aq)=.ret ((s.rzs x.1).map aq):=by
    rw[<- ku h z1,<- yV];refine mK λy hy=>?_;obtain⟨o,ho,rfl⟩:=AU.mp hy;have c1:decide (o.1≥x.1.1)=decide (x.1.1<=o.1):=rfl;have c2:decide (o.2≥x.1.2)=decide (x.1.2<=o.2):=rfl;have eo:pJ (λo=>decide (x.1.1<=o.1)&&decide (x.1.2<=o.2)) (aq o)=if (decide (x.1.1<=o.1)&&decide (x.1.2<=o.2))=true then some (aq o)else none:=rfl
    rw[eo];cases d1:decide (x.1.1<=o.1)
    ·simp![mD,mr,fq,fo,c1,d1,Bb,Bk,↓reduceIte]
    ·cases d2:decide (x.1.2<=o.2)
     ·simp![mD,mr,fq,fo,c1,c2,d1,d2,Bq,Bk,↓reduceIte]
     ·simp![mD,mr,fq,fo,c1,c2,d1,d2,Bq,↓reduceIte]
   have m2:eM (jf (ao 0) pF pb [.un,.d<|.int<|x.2.t*w,.d<|.tuple [.int x.2.t,.int x.2.b],.d<|pD<|s.tb M,.d<|.int w,.d s.d,.d<|aq x.1]) ((s.rzs x.1).map aq)=.ret (((s.rzs x.1).filter λo=>s.xF M w x.1 o*x.2.b==x.2.t*w).map aq):=by
    rw[<- yV];refine mK λy hy=>?_;obtain⟨o,ho,rfl⟩:=AU.mp hy;obtain⟨v1,v2,v3⟩:=FJ o ho;obtain⟨⟨c1,c2⟩,d1,d2⟩:=(b8 h).mp v1;have g1:aU eO (pD<|s.tb M) (aq o)=.ret (.int<|M o.1 o.2):=jD h c1 c2 d1 d2;have g2:=Zex h z1 ho;have g3:=aY (ie h v2 v3)<|by decide
    have g4:nb 2622 (s.xF M w x.1 o):=by unfold Shp.xF;exact aO (dX (hM _ _ c1 c2 d1 d2)<|dm (ie h v2 v3) nw)<|by decide
    have g4:=aY g4<|by decide
    have ex:M o.1 o.2+s.ord (x.1.1+x.1.2) (o.1+o.2)*w=s.xF M w x.1 o:=rfl;have eo:pJ (λo=>s.xF M w x.1 o*x.2.b==x.2.t*w) (aq o)=if (s.xF M w x.1 o*x.2.b==x.2.t*w)=true then some (aq o)else none:=rfl
    rw[eo];cases d3:s.xF M w x.1 o*x.2.b==x.2.t*w
    ·simp![pF,pb,g1,g2,g3,ex,g4,fw,ft,fb,jn,jm,d3,Bk,↓reduceIte]
    ·simp![pF,pb,g1,g2,g3,ex,g4,fw,ft,fb,jn,jm,d3,↓reduceIte]
   have hrz:(s.rzs x.1).length<=25:=by rw[<- ku h z1];exact AJ (CH _ _) FR
   have hin:x.2.q∈(s.rzs x.1).filter λo=>s.xF M w x.1 o*x.2.b==x.2.t*w:=by refine CP.mpr ⟨z3,?_⟩;have q:=Bl.mp hrow x hx;unfold Shp.rowE at q;rw[AT]at q;exact EW.mpr<|Ec q.1
   have hf:∀o∈(s.rzs x.1).filter λo=>s.xF M w x.1 o*x.2.b==x.2.t*w,o∈s.rzs x.1:=λo ho=>(CP.mp ho).1;have hfl:((s.rzs x.1).filter λo=>s.xF M w x.1 o*x.2.b==x.2.t*w).length<=25:=AJ (CH _ _) hrz;have hs1:small ((s.rzs x.1).map aq).length=true:=bW<|by rw[Av];omega
   generalize (s.rzs x.1).filter (λo=>s.xF M w x.1 o*x.2.b==x.2.t*w)=fl at *;have FV:=List.length_pos_of_mem hin;have hs2:small (fl.map aq).length=true:=bW<|by rw[Av];omega
   have hs3:small ((es'.map E2.d).length+1)=true:=bW<|by rw[Av];omega
   simp![ZdE,bh,m1,m2,ft,fw,jn,jm,hsm,hs1,hs2];refine cN (n:=0) (by rw[Av];omega) (by rw[Av];omega) (by decide) λr r0 r1=>?_
   obtain⟨v,hv,hvm⟩:=pick (xs:=fl.map aq) r0 r1;obtain⟨o,ho,rfl⟩:=AU.mp hvm;simp![bh,hv];rw[lz hs3];refine b9 ⟨_,rfl,es'++[⟨x.2.t,x.2.b,o⟩],_,_,_,_,_,by unfold oE;rw[Bu];rfl,by rw[AQ,AQ,hlen];rfl,λk x' e' q1 q2=>?_⟩
   by_cases hk:k<pre.length
   ·rw[AV hk]at q1;rw[AV<|by omega]at q2
    exact hI k x' e' q1 q2
   ·rw[A4<|by omega]at q1
    rw[A4<|by omega,hlen]at q2
    cases hz:k-pre.length with
    | zero =>
     rw[hz]at q1 q2;cases q1;cases q2;exact⟨rfl,rfl,hf o ho⟩
    | succ m =>
     rw[hz]at q1;cases q1
  ·rintro ρ ⟨es',K12,K13,K14,K15,K16,rfl,hlen,hI⟩;rw[Bz,FB.1,Nat.min_self]at hlen;have hz:∀(k:Nat)(p:Pt)(e':E2),s.sts[k]?=some p->es'[k]?=some e'->∃e0,es[k]?=some e0/\e0∈es/\e'.t=e0.t/\e'.b=e0.b/\e'.q∈s.rzs p:=λk p e' q1 q2=>by
    obtain⟨hk,_⟩:=Ay.mp q1;have FL:k<es.length:=by rw[FB.1];exact hk
    have ez:(s.sts.zip es)[k]?=some (p,es[k]):=by rw[BY];exact⟨q1,Au FL⟩
    obtain⟨w1,w2,w3⟩:=hI k _ e' ez q2;exact⟨es[k],Au FL,AW FL,w1,w2,w3⟩
   refine⟨es',_,_,_,_,_,rfl,⟨hlen,λk p e' q1 q2=>?_⟩,λe' he'=>?_⟩
   ·obtain⟨e0,w0,w1,w2,w3,w4⟩:=hz k p e' q1 q2;have sh:=(FB.2 k p e0 q1 w0).1;exact⟨⟨by rw[w3];exact sh.pos,by rw[w2,w3];exact sh.one⟩,w4⟩
   ·obtain⟨k,hk,rfl⟩:=Co he';have FL:k<s.sts.length:=by omega
    obtain⟨e0,w0,w1,w2,w3,w4⟩:=hz k s.sts[k] es'[k] (Au FL)<|Au hk;rw[w2,w3];exact hent e0 w1
 ·rintro _ ⟨es',K12,K13,K14,K15,K16,rfl,hD,hE⟩;have hs4:small ((acc.map dE).length+1)=true:=bW (by rw[Av];omega)
  simp![bh,oE];rw[lz hs4];rw[show acc.map dE++[PyData.tuple<|es'.map E2.d]=(acc++[es']).map dE from by rw[Bu];rfl]
  exact b9 ⟨es',_,_,_,_,_,_,_,_,_,_,_,rfl,hD,hE⟩
def ZhL{s:Shp}(h:s.Ok)(h5:s.n<=5){ds:Fl (Fl D2)}(hd:∀d∈ds,DdB d)(hl:ds.length<=3){S:Int}{P:Fl (Fl E2)}(G:GdB s S ds.length P)(hlaw:s.lawB ds P=true) :
  Al (p8 [.pen,.d s.d,.d<|bn ds,.d<|pE P]) 75 λr=>∃P':Fl (Fl E2),r=.d (pE P')/\GdB s S ds.length P':=by
 have ld:bR cj [bn ds]=.ret (.int ds.length):=by show Tr.ret (PyData.int ((ds.map fD).length:Nat))=_;rw[Av]
 have rr:eK [.int (ds.length:Int)]=.ret (bi 0 ds.length):=gB<|fc (by omega)<|by omega
 have ei:bi 0 ds.length=(List.range ds.length).map λk:Nat=>PyData.int (k:Int):=by
  have e0:((ds.length:Int)-0).toNat=ds.length:=by omega
  unfold bi aQ;rw[e0,AR];refine BD λk _=>?_;show PyData.int (0+(k:Int))=_;rw[C5]
 simp! only[p8,bh,ld,rr,ei];refine eA (n:=75) (n':=0) (P:=λo=>∃(P':Fl (Fl E2))(K5 K6 K7 K8 K9 K10 K11 K12 K13 K14 K15 K16:Sl),o=.next [.pen,.d s.d,.d<|bn ds,.d<|pE P,.own<|P'.map dE,K5,K6,K7,K8,K9,K10,K11,K12,K13,K14,K15,K16]/\GdB s S ds.length P') ?_ (by decide) ?_
 ·refine ZfR (n:=25) (mk:=λk:Nat=>PyData.int (k:Int)) (full:=List.range ds.length) (λpre ρ=>∃(P':Fl (Fl E2))(K5 K6 K7 K8 K9 K10 K11 K12 K13 K14 K15 K16:Sl),ρ=[.pen,.d s.d,.d<|bn ds,.d<|pE P,.own<|P'.map dE,K5,K6,K7,K8,K9,K10,K11,K12,K13,K14,K15,K16]/\GdB s S pre.length P') ⟨[],_,_,_,_,_,_,_,_,_,_,_,_,rfl,⟨G.pos,G.nb,rfl,nofun,nofun⟩⟩ (by rw[B3];omega) ?_ ?_
  ·rintro pre t post ρ e ⟨P',K5,K6,K7,K8,K9,K10,K11,K12,K13,K14,K15,K16,rfl,G'⟩;have ht:t<ds.length:=Bw.mp (by rw[e];simp)
   have hpre:pre.length<=3:=by have q:=Eg List.length e;rw[B3,AQ]at q;omega
   refine⟨_,rfl,lL (ZhK h h5 hd hl G hlaw ht P' (by rw[G'.len];omega) K6 K7 K8 K9 K10 K11 K12 K13 K14 K15 K16) (Aw _) ?_⟩
   rintro _ ⟨es',L6,L7,L8,L9,L10,L11,L12,L13,L14,L15,L16,rfl,q1,q2⟩;refine⟨_,rfl,P'++[es'],_,_,_,_,_,_,_,_,_,_,_,_,rfl,⟨G.pos,G.nb,by rw[AQ,AQ,G'.len];rfl,λes FB=>?_,λes FB=>?_⟩⟩
   ·rcases Bh.mp FB with FB|FB
    ·exact G'.day es FB
    ·rw[Ce.mp FB];exact q1
   ·rcases Bh.mp FB with FB|FB
    ·exact G'.ent es FB
    ·rw[Ce.mp FB];exact q2
  ·rintro ρ ⟨P',K5,K6,K7,K8,K9,K10,K11,K12,K13,K14,K15,K16,rfl,G'⟩;rw[B3]at G';exact⟨P',_,_,_,_,_,_,_,_,_,_,_,_,rfl,G'⟩
 ·rintro _ ⟨P',K5,K6,K7,K8,K9,K10,K11,K12,K13,K14,K15,K16,rfl,G'⟩;simp! only[bh];exact b9 ⟨P',rfl,G'⟩
def fa{p:Fn->Prop}{a:Fn}{l:D1}(h:p a)(k:∀x∈l,p x):∀x∈a::l,p x:=λx hx=>by
 rcases AM.mp hx with rfl|hx
 ·exact h
 ·exact k x hx
def fn{p:Fn->Prop}:∀x∈([]:D1),p x:=nofun
def hV{xs:D1}(h:xs.length<=200):gq (.tuple xs):=λys e=>by cases e;exact h
def iP{x:Fn}(h:∀xs,x≠.tuple xs):gq x:=λys e=>absurd e<|h ys
def wS{x:Fn}(ht:gq x)(h:∀t b,x≠.tuple [.int t,.int b]):SmC x:=⟨ht,λt b e=>absurd e<|h t b⟩
def kw{t b:Int}(h1:nb 900 t)(h2:nb 900 b):SmC (.tuple [.int t,.int b]):=⟨hV<|by show 2<=200;decide,λu v e=>by cases e;exact⟨h1,h2⟩⟩
def oB{y:Fn}(ht:gq y)(h:∀c r,y≠.tuple [c,r]):fK y:=⟨ht,λc r e=>absurd e<|h c r⟩
def ZaO{c r:Fn}(hc:SmC c)(hr:gq r):fK (.tuple [c,r]):=⟨hV<|by show 2<=200;decide,λu v e=>by cases e;exact⟨hc,hr⟩⟩
def pT{xs:D1}{k k' n n' m:Nat}(h:∀x∈xs,Rp x k n)(hl:xs.length<=m)(hk:k+1<=k')(hn:m*n+2*m+10<=n'):Rp (.tuple xs) k' n':=cm (iR h) hk<|AJ (jB hl) hn
def pL{xs:D1}{k k' n n' m:Nat}(h:∀x∈xs,Rp x k n)(hl:xs.length<=m)(hk:k+1<=k')(hn:m*n+2*m+10<=n'):Rp (.list xs) k' n':=cm (ZbH h) hk<|AJ (jB hl) hn
def fm{i:Int}(h:nb 1900 i):Rp (.int i) 0 5800:=cm (oY h) (Aw _)<|by decide
def jK:Rp .none 0 5800:=cm ZhV (Aw _)<|by decide
def o5(b:Bool):Rp (.bool b) 0 5800:=cm (ZbI b) (Aw _)<|by decide
def Zdj{i:Int}(h:nb 1900 i):i.natAbs.log2<1920:=by
 by_cases h0:i.natAbs=0
 ·rw[h0];decide
 ·exact Nat.lt_trans ((Da h0).mpr h)<|by decide
def r_s{i:Int}(h:nb 560 i):Rp (.str<|toString i) 0 5800:=by
 have h1:i.natAbs.log2<560:=by
  by_cases h0:i.natAbs=0
  ·rw[h0];decide
  ·exact(Da h0).mpr h
 have h2:=int_text_length_le (k:=560) (by decide) h1
 have h3:((toString i:String):Str).length<=561:=by rw[PySem.ofString_length];exact h2
 have h4:=PySem.StrLaws.reprText_len ((toString i:String):Str)<|Codes.of _;refine⟨rfl,rfl,Bf _,?_⟩;rw[PyData.shown];omega
def xG(x:Str)(h:(PyData.str x).shown.length<=5800):Rp (.str x) 0 5800:=⟨rfl,rfl,Bf _,h⟩
def Oc(x:Fn):Prop:=SmC x/\Rp x 2 12000
def Oy(y:Fn):Prop:=fK y/\Rp y 5 30000
def kK{a b:Fn}(ha:Rp a 1 5800)(hb:Rp b 1 5800)(hc:SmC (.tuple [a,b])):Oc (.tuple [a,b]):=⟨hc,pT (m:=2) (fa ha<|fa hb fn) (Aw _) (by decide)<|by decide⟩
def w1{x:Fn}(h:Rp x 0 5800):Rp x 1 5800:=cm h (by decide)<|Aw _
def mI{c r:Fn}(h:Oc c)(hr:gq r)(hr2:Rp r 2 12000):Oy (.tuple [c,r]):=⟨ZaO h.1 hr,pT (m:=2) (fa h.2<|fa hr2 fn) (Aw _) (by decide)<|by decide⟩
def pK{x:Fn}(h:∀xs,x≠.tuple xs){k n:Nat}(hr:Rp x k n)(hk:k<=2)(hn:n<=12000):Oc x:=⟨wS (iP h) λt b e=>h _ e,cm hr hk hn⟩
def jO{xs:D1}(h:∀t b,PyData.tuple xs≠.tuple [.int t,.int b])(hr:∀x∈xs,Rp x 1 5800)(hl:xs.length<=2):Oc (.tuple xs):=⟨wS (hV<|by omega) h,pT hr hl (Aw _)<|by decide⟩
def mF{c r:Fn}(h:Oc c)(hr:gq r){k n:Nat}(hr2:Rp r k n)(hk:k<=2)(hn:n<=12000):Oy (.tuple [c,r]):=mI h hr<|cm hr2 hk hn
def Zmz(a b:Fn):L2.dJ [a,b] none (some 1)=[a]:=rfl
def ZhO{s:Shp}(h:s.Ok)(h5:s.n<=5){e:E2}(h1:nb 560 e.t)(h2:nb 560 e.b)(h3:1<=e.b)(h4:nb 20 e.q.1)(h6:nb 20 e.q.2):Al (qc [.pen,.d s.d,.d e.d]) 5 λr=>∃y,r=.d y/\Oy y:=by
 have st:bR jF [.int e.t]=.ret (.str<|toString e.t):=Zek<|Zdj<|aO h1<|by decide
 have st2:bR jF [.int e.q.1]=.ret (.str<|toString e.q.1):=Zek<|Zdj<|aO h4<|by decide
 have f1:=aY h1<|by decide
 have f2:=aY h2<|by decide
 have t0:=h.t0;have d0:=h.d0;have hn:=h.n_eq;have f3:fit s.top=true:=aY (gw h (by omega)<|BZ _)<|by decide
 have f4:fit s.depth=true:=aY (bS (k:=20) (by show -1048576<_;omega)<|by show _<1048576;omega)<|by decide
 have f5:fit (s.top+s.depth)=true:=aY (bS (k:=20) (by show -1048576<_;omega)<|by show _<1048576;omega)<|by decide
 have f6:fit (2:Int)=true:=rfl;have f7:fit (0:Int)=true:=rfl;have c1:Rp (.tuple [.int e.t,.int e.b]) 1 4000:=ml (aO h1<|by decide)<|aO h2<|by decide
 have g1:Rp (aq e.q) 1 4000:=ml (aO h4<|by decide)<|aO h6<|by decide
 have it:=fm<|aO h1<|show 560<=1900 by decide
 have ib:=fm<|aO h2<|show 560<=1900 by decide
 have iq:=fm<|aO h4<|show 20<=1900 by decide
 have iq2:=fm<|aO h6<|show 20<=1900 by decide
 have oc0:Oc (.tuple [.int e.t,.int e.b]):=kK (w1 it) (w1 ib)<|kw (aO h1<|by decide)<|aO h2<|by decide
 have sg:gq (aq e.q):=hV<|by show 2<=200;decide
 have rg:Rp (aq e.q) 2 12000:=cm g1 (by decide)<|by decide
 have ed:e.d=.tuple [.tuple [.int e.t,.int e.b],.tuple [.int e.q.1,.int e.q.2]]:=rfl;have es:∀z:Int,nb 20 z->jP [.d<|.int<|e.t+z,.d<|.int e.b]=.ret (.d<|gK (e.t+z) e.b):=λz hz=>zc (by omega)<|aO h2<|by decide
 rw[ed];simp![qc,bh];refine cN (n:=4) (by decide) (by decide) (by decide) λw w0 w1'=>?_
 refine cN (n:=3) (by decide) (by decide) (by decide) λq q0 q1=>?_
 obtain⟨b,hb,b0,b1⟩:=x4 (xs:=[PyData.int 1,.int<|-1]) (lo:=-1) (hi:=1) (by simp[gh]) q0 q1
 have nb1:nb 20 b:=bS (by show -1048576<_;omega)<|by show _<1048576;omega
 have eg:bD (aJ (ao 5)<|aJ (ao 6) bo) (.tuple [.tuple [.int e.t,.int e.b],.tuple [.int e.q.1,.int e.q.2]]) [.pen,.d s.d,.d<|.tuple [.tuple [.int e.t,.int e.b],.tuple [.int e.q.1,.int e.q.2]],.d<|.int w,.d<|.int b,.un,.un,.un,.un,.un]=some [.pen,.d s.d,.d<|.tuple [.tuple [.int e.t,.int e.b],.tuple [.int e.q.1,.int e.q.2]],.d<|.int w,.d<|.int b,.d<|.tuple [.int e.t,.int e.b],.d<|.tuple [.int e.q.1,.int e.q.2],.un,.un,.un]:=rfl;simp![bh,hb,eg,f3,f4,f5,f6];refine cN (n:=2) (by omega) (by omega) (by decide) λu u0 u1=>?_
 refine cN (n:=1) (by omega) (by omega) (by decide) λv v0 v1=>?_
 by_cases k1:w<3
 ·have fb:=aY (dX h1<|aO nb1<|show 20<=560 by decide) (by decide)
  have ne:=yp (dX h1<|aO nb1<|show 20<=560 by decide) h2<|show e.b≠0 by omega
  have e1:=Ea k1;simp![bh,st,e1,es b nb1];refine b9 ⟨_,rfl,mI ?_ sg rg⟩;exact kK (w1<|fm<|aO ne.1<|by decide) (w1<|fm<|aO ne.2<|by decide)<|kw (aO ne.1<|by decide)<|aO ne.2<|by decide
 have e1:=Eb k1;by_cases k2:w<6
 ·have e2:=Ea k2;have n1:nb 1900 (u-s.depth):=aO (bS (k:=20) (by show -1048576<_;omega)<|by show _<1048576;omega) (by decide)
  have n2:nb 1900 (v-s.depth):=aO (bS (k:=20) (by show -1048576<_;omega)<|by show _<1048576;omega)<|by decide
  simp![bh,st,e1,e2];refine b9 ⟨_,rfl,mI oc0 (hV<|by show 2<=200;decide)<|cm (ml n1 n2) (by decide)<|by decide⟩
 have e2:=Eb k2;by_cases k3:w=6
 ·subst k3;have n1:nb 570 (2*e.t):=by unfold nb at *;omega
  have n2:nb 570 (2*e.b):=by unfold nb at *;omega
  have z6:((6:Int)==6)=true:=rfl;simp![bh,st,e1,e2,z6,f6,f1,f2];refine b9 ⟨_,rfl,mI ?_ sg rg⟩;exact kK (w1<|fm<|aO n1<|by decide) (w1<|fm<|aO n2<|by decide)<|kw (aO n1<|by decide)<|aO n2<|by decide
 have e3:(w==6)=false:=Eh.mpr k3;by_cases k4:w<9
 ·have e4:=Ea k4;simp![bh,st,e1,e2,e3,e4];refine cN (n:=0) (by decide) (by decide) (by decide) λy y0 y1=>?_
  obtain⟨x,hx,hm⟩:=pick (xs:=[PyData.none,.bool true,.list [.int e.t,.int e.b],.int e.t,.tuple [.int e.t],.tuple [.str<|toString e.t,.int e.b],.tuple [.int e.t,.int 0],.tuple [.int e.t,.bool true],.tuple [.int<|0-e.t,.int<|0-e.b],.tuple [],.tuple [.int e.t,.none],.tuple [.int e.t,.str<|Str.ofString "1"],.tuple [.list [.int 1],.int e.b]]) y0 y1;simp![bh,hx];refine b9 ⟨_,rfl,mI ?_ sg rg⟩;have z0:Rp (.int 0) 0 5800:=fm<|bS (k:=1900) (by trivial)<|by trivial
  have z1:Rp (.int 1) 0 5800:=fm<|bS (k:=1900) (by trivial)<|by trivial
  have l1:Rp (.list [.int 1]) 1 5800:=pL (m:=1) (fa (oY<|bS (k:=1900) (by trivial)<|by trivial) fn) (Aw _) (by decide)<|by decide
  have m1:nb 560 (0-e.t):=by unfold nb at *;omega
  have m2:nb 560 (0-e.b):=by unfold nb at *;omega
  have zs:Rp (.str<|Str.ofString "1") 0 5800:=xG _<|by trivial
  refine(fa (p:=Oc) (pK (by nofun) jK (by decide)<|by decide)<|fa (pK (by nofun) (o5 true) (by decide)<|by decide)<|fa (pK (by nofun) (pL (k':=2) (n':=12000) (m:=2) (fa it<|fa ib fn) (Aw _) (by decide)<|by decide) (by decide)<|by decide)<|fa (pK (by nofun) it (by decide)<|by decide)<|fa (jO (by rintro _ _ ⟨⟩) (fa (w1 it) fn)<|by simp) ?_) x hm
  refine fa (jO (by rintro _ _ ⟨⟩) (fa (w1<|r_s h1)<|fa (w1 ib) fn)<|by simp)<|fa (kK (w1 it) (w1 z0)<|kw (aO h1<|by decide)<|bS (k:=900) (by trivial)<|by trivial)<|fa (jO (by rintro _ _ ⟨⟩) (fa (w1 it)<|fa (w1<|o5 true) fn)<|by simp) ?_
  refine fa (kK (w1<|fm<|aO m1<|by decide) (w1<|fm<|aO m2<|by decide)<|kw (aO m1<|by decide)<|aO m2<|by decide)<|fa (jO (by rintro _ _ ⟨⟩) fn<|by simp)<|fa (jO (by rintro _ _ ⟨⟩) (fa (w1 it)<|fa (w1 jK) fn)<|by simp) ?_
  exact fa (jO (by rintro _ _ ⟨⟩) (fa (w1 it)<|fa (w1 zs) fn)<|by simp)<|fa (jO (by rintro _ _ ⟨⟩) (fa l1<|fa (w1 ib) fn)<|by simp) fn
 have e4:=Eb k4;have z0:Rp (.int 0) 0 5800:=fm<|bS (k:=1900) (by trivial)<|by trivial
 have l1:Rp (.list [.int 1]) 1 5800:=pL (m:=1) (fa (oY<|bS (k:=1900) (by trivial)<|by trivial) fn) (Aw _) (by decide)<|by decide
 have z01:Rp (.str<|Str.ofString "01") 0 5800:=xG _<|by trivial
 have og0:Oc (aq e.q):=kK (w1 iq) (w1 iq2)<|kw (aO h4<|by decide)<|aO h6<|by decide
 have cT:gq (.tuple [.int e.t,.int e.b]):=hV<|by show 2<=200;decide
 simp![bh,st,st2,e1,e2,e3,e4,Zmz];refine cN (n:=0) (by decide) (by decide) (by decide) λy y0 y1=>?_
 obtain⟨x,hx,hm⟩:=pick (xs:=[PyData.tuple [.tuple [.int e.t,.int e.b],.list [.int e.q.1,.int e.q.2]],.tuple [.tuple [.int e.t,.int e.b],.tuple [.int e.q.1]],.tuple [.tuple [.int e.t,.int e.b],.none],.tuple [.tuple [.int e.t,.int e.b],.tuple [.int e.q.1,.bool true]],.tuple [.tuple [.int e.t,.int e.b]],.list [.tuple [.int e.t,.int e.b],.tuple [.int e.q.1,.int e.q.2]],.tuple [.tuple [.int e.t,.int e.b],.tuple [.int e.q.1,.none]],.tuple [.tuple [.int e.t,.int e.b],.tuple [.str<|toString e.q.1,.int e.q.2]],.tuple [.tuple [.int e.t,.int e.b],.tuple [.list [.int 1],.int e.q.2]],.tuple [.tuple [.int e.t,.int e.b],.str<|Str.ofString "01"],.tuple [.tuple [.int e.q.1,.int e.q.2],.tuple [.int e.t,.int e.b]],.tuple [.tuple [.int e.t,.int e.b],.tuple [.int e.q.1,.int e.q.2],.int 0],.none,.tuple [.int e.t,.int e.b]]) y0 y1;simp![bh,hx];refine b9 ⟨x,rfl,?_⟩;have tt:∀{xs:D1},xs.length<=2->(∀x∈xs,Rp x 1 5800)->∀{c:Fn},Oc c->Oy (.tuple [c,.tuple xs]):=λhl hr c hc=>mF hc (hV<|by omega) (pT hr hl (Aw _)<|show 2*5800+2*2+10<=12000 by decide) (Aw _)<|Aw _
 refine(fa (p:=Oy) (mF oc0 (iP<|by nofun) (pL (n':=12000) (m:=2) (fa iq<|fa iq2 fn) (by simp) (Aw _)<|by decide) (by decide)<|Aw _)<|fa (tt (by simp) (fa (w1 iq) fn) oc0)<|fa (mF oc0 (iP<|by nofun) jK (by decide)<|by decide)<|fa (tt (by simp) (fa (w1 iq)<|fa (w1<|o5 true) fn) oc0) ?_) x hm
 refine fa ⟨oB (hV<|by simp)<|by nofun,pT (m:=1) (fa c1 fn) (by simp) (by decide)<|by decide⟩<|fa ⟨oB (iP<|by nofun)<|by nofun,pL (m:=2) (fa c1<|fa g1 fn) (by simp) (by decide)<|by decide⟩<|fa (tt (by simp) (fa (w1 iq)<|fa (w1 jK) fn) oc0)<|fa (tt (by simp) (fa (w1<|r_s<|aO h4<|by decide)<|fa (w1 iq2) fn) oc0)<|fa (tt (by simp) (fa l1<|fa (w1 iq2) fn) oc0) ?_
 refine fa (mF oc0 (iP<|by nofun) z01 (by decide)<|by decide)<|fa (mF og0 cT c1 (by decide)<|by decide)<|fa ⟨oB (hV<|by simp)<|by nofun,pT (m:=3) (n:=5800) (k:=1) (fa (cm c1 (by decide)<|by decide)<|fa (cm g1 (by decide)<|by decide)<|fa (w1 z0) fn) (by simp) (by decide)<|by decide⟩<|fa ⟨oB (iP<|by nofun)<|by nofun,cm jK (by decide)<|by decide⟩ ?_
 exact fa ⟨ZaO (wS (iP<|by nofun)<|by nofun)<|iP<|by nofun,cm c1 (by decide)<|by decide⟩ fn
def zp(xs:D1)(t:Nat):L2.dJ xs none (some (t:Int))=xs.take t:=by
 unfold L2.dJ;have e1:HT.aR xs.length 0 none=0:=by
  unfold HT.aR
  rfl
 have e2:HT.aR xs.length xs.length (some (t:Int))=min t xs.length:=by
  unfold HT.aR;simp only
  split <;> omega
 rw[e1,e2,BP,Dv];rcases Dx t xs.length with hle|hle
 ·rw[Cu hle]
 ·rw[Cm hle,CL,Cc hle]
def zq(xs:D1)(t:Nat):L2.dJ xs (some (t:Int)) none=xs.drop t:=by
 unfold L2.dJ;have e1:HT.aR xs.length 0 (some (t:Int))=min t xs.length:=by
  unfold HT.aR;simp only
  split <;> omega
 have e2:HT.aR xs.length xs.length none=xs.length:=by
  unfold HT.aR
  rfl
 rw[e1,e2];rcases Dx t xs.length with hle|hle
 ·rw[Cu hle,Cc<|by rw[Cn];exact Aw _]
 ·rw[Cm hle,BS<|Aw _,BS hle];simp
def Zmy(xs:D1)(t:Nat):L2.dJ xs (some (t:Int)) (some<|(t:Int)+1)=(xs.drop t).take 1:=by
 unfold L2.dJ;have e1:HT.aR xs.length 0 (some (t:Int))=min t xs.length:=by
  unfold HT.aR;simp only
  split <;> omega
 have e2:HT.aR xs.length xs.length (some<|(t:Int)+1)=min (t+1) xs.length:=by
  unfold HT.aR;simp only
  split <;> omega
 rw[e1,e2];rcases Nat.lt_or_ge t xs.length with hle|hle
 ·rw[Cu<|by omega,Cu<|by omega]
  congr 1;omega
 ·rw[Cm hle,BS<|Aw _,BS hle];simp
def fap{p:Fn->Prop}{a b:D1}(h:∀x∈a,p x)(k:∀x∈b,p x):∀x∈a++b,p x:=λx hx=>(Bh.mp hx).elim (h x)<|k x
def fat{p:Fn->Prop}{a:D1}{t:Nat}(h:∀x∈a,p x):∀x∈a.take t,p x:=λx hx=>h x<|List.mem_of_mem_take hx
def fad{p:Fn->Prop}{a:D1}{t:Nat}(h:∀x∈a,p x):∀x∈a.drop t,p x:=λx hx=>h x<|BB hx
def ZnW(S:Int)(d:Fn):Prop:=∃RM:D1,d=.tuple RM/\1<=RM.length/\RM.length<=25/\∀x∈RM,∃e:E2,x=e.d/\nb 560 e.t/\nb 560 e.b/\1<=e.b/\e.b∣S/\nb 20 e.q.1/\nb 20 e.q.2
def Zd6{s:Shp}(h:s.Ok)(h5:s.n<=5){n:Nat}{S:Int}{P:Fl (Fl E2)}(G:GdB s S n P):∀d∈P.map dE,ZnW S d:=λd hd=>by
 obtain⟨es,FB,rfl⟩:=AU.mp hd;have FG:=G.day es FB;have hn:=h.n_eq;have t0:=h.t0;have d0:=h.d0;have FR:s.sts.length<=25:=by rw[fi];exact AJ (Cb h5 h5)<|by decide
 have hs1:1<=s.sts.length:=by rw[fi];exact Cb (show 1<=s.n by omega)<|show 1<=s.n by omega
 refine⟨es.map E2.d,rfl,by rw[Av,FG.1];exact hs1,by rw[Av,FG.1];exact FR,λx hx=>?_⟩
 obtain⟨e,he,rfl⟩:=AU.mp hx;obtain⟨q1,q2,q3,q4⟩:=G.ent es FB e he;obtain⟨k,hk,rfl⟩:=Co he;have FL:k<s.sts.length:=by rw[<- FG.1];exact hk
 have hq:=(FG.2 k s.sts[k] es[k] (Au FL)<|Au hk).2;obtain⟨⟨a1,a2⟩,b1,b2⟩:=(b8 h).mp<|AW FL;obtain⟨⟨c1,c2⟩,d1,d2⟩:=(gM a2 b2).mp hq;exact⟨_,rfl,q1,q3,q2,q4,gw h (by omega) c2,gw h (by omega) d2⟩
def ZhP{s:Shp}(h:s.Ok)(h5:s.n<=5){n:Nat}{S:Int}{P:Fl (Fl E2)}(G:GdB s S n P)(hn:1<=n)(hn3:n<=3):Al (qd [.pen,.d s.d,.d<|pE P]) 9 λr=>∃x,r=.d x/\Thg S x:=by
 have hr:=Zd6 h h5 G;have hl:(P.map dE).length=n:=by rw[Av];exact G.len
 have ep:pE P=.tuple (P.map dE):=rfl;rw[ep];generalize P.map dE=PM at *;simp![qd,bh];refine cN (n:=8) (by decide) (by decide) (by decide) λw w0 w1'=>?_
 refine cN (n:=7) (by omega) (by omega) (by decide) λt t0 t1=>?_
 obtain⟨t,rfl⟩:=BM t0;have ht:t<PM.length:=by omega
 have hrow:=hr _<|AW ht;obtain⟨RM,eR,r1,r25,hE⟩:=hrow;have it:bG PM (t:Int)=some (.tuple RM):=fW (by omega)<|by rw[AZ,Au ht,eR]
 simp![bh,it];refine cN (n:=6) (by omega) (by omega) (by decide) λa a0 a1=>?_
 obtain⟨a,rfl⟩:=BM a0;have ha:a<RM.length:=by omega
 obtain⟨e,ee,v1,v2,v3,v4,v5,v6⟩:=hE _<|AW ha;have ia:bG RM (a:Int)=some e.d:=fW (by omega)<|by rw[AZ,Au ha,ee]
 simp![bh,ia];refine eA (n:=5) (n':=1) (ZhO h h5 v1 v2 v3 v5 v6) (by decide) ?_
 rintro _ ⟨y,rfl,hy,hy2⟩;have hgo:∀x∈RM,GoE S y x:=λx hx=>by obtain⟨e,ee,u1,u2,u3,u4,u5,u6⟩:=hE x hx;exact .inl ⟨e,ee,u1,u2,u3,u4,u5,u6⟩
 have hPM:∀d∈PM,n9 S y d/\Rp d 6 820000:=λd hd=>by
  obtain⟨RM',rfl,l1,l2,hE'⟩:=hr d hd;refine mn (by omega) (λx hx=>?_) hy2
  obtain⟨e,ee,u1,u2,u3,u4,u5,u6⟩:=hE' x hx;exact .inl ⟨e,ee,u1,u2,u3,u4,u5,u6⟩
 have c1:=zp PM t;have c2:=vE PM t;have c3:=zq PM t;have c4:=zp RM a;have c5:=vE RM a;have c6:=zq RM a;have c7:=Zmy RM a;by_cases k1:w<6
 ·have e1:=Ea k1;have j1:=ff (xs:=RM.take a) (ys:=[y]) (by simp <;> omega) (by simp <;> omega)
  have j2:=ff (xs:=RM.take a++[y]) (ys:=RM.drop<|a+1) (by simp <;> omega)<|by simp <;> omega
  have j3:=ff (xs:=PM.take t) (ys:=[.tuple<|RM.take a++[y]++RM.drop (a+1)]) (by simp <;> omega)<|by simp <;> omega
  have j4:=ff (xs:=PM.take t++[.tuple<|RM.take a++[y]++RM.drop (a+1)]) (ys:=PM.drop<|t+1) (by simp <;> omega)<|by simp <;> omega
  simp![bh,e1,c1,c2,c4,c5,j1,j2,j3,j4];refine b9 ⟨_,rfl,g9 (y:=y) (by simp <;> omega) hy<|fap (fap (fat hPM)<|fa (mn (by simp <;> omega) (fap (fap (fat hgo)<|fa (.inr rfl) fn)<|fad hgo) hy2) fn)<|fad hPM⟩
 have e1:=Eb k1;by_cases k2:w=6
 ·subst k2;have z6:((6:Int)==6)=true:=rfl;have j1:=ff (xs:=PM.drop t) (ys:=PM.take t) (by simp <;> omega) (by simp <;> omega)
  simp![bh,e1,z6,c1,c3,j1];refine b9 ⟨_,rfl,g9 (y:=y) (by simp <;> omega) hy<|fap (fad hPM)<|fat hPM⟩
 have e2:(w==6)=false:=Eh.mpr k2;by_cases k3:w=7
 ·subst k3;have z7:((7:Int)==7)=true:=rfl;have j1:=ff (xs:=RM.take a) (ys:=RM.drop<|a+1) (by simp <;> omega) (by simp <;> omega)
  have j3:=ff (xs:=PM.take t) (ys:=[.tuple<|RM.take a++RM.drop (a+1)]) (by simp <;> omega)<|by simp <;> omega
  have j4:=ff (xs:=PM.take t++[.tuple<|RM.take a++RM.drop (a+1)]) (ys:=PM.drop<|t+1) (by simp <;> omega)<|by simp <;> omega
  simp![bh,e1,e2,z7,c1,c2,c4,c5,j1,j3,j4];refine b9 ⟨_,rfl,g9 (y:=y) (by simp <;> omega) hy<|fap (fap (fat hPM)<|fa (mn (by simp <;> omega) (fap (fat hgo)<|fad hgo) hy2) fn)<|fad hPM⟩
 have e3:(w==7)=false:=Eh.mpr k3;by_cases k4:w=8
 ·subst k4;have z8:((8:Int)==8)=true:=rfl;have j1:=ff (xs:=RM.take a) (ys:=(RM.drop a).take 1) (by simp <;> omega) (by simp <;> omega)
  have j2:=ff (xs:=RM.take a++(RM.drop a).take 1) (ys:=RM.drop a) (by simp <;> omega)<|by simp <;> omega
  have j3:=ff (xs:=PM.take t) (ys:=[.tuple<|RM.take a++(RM.drop a).take 1++RM.drop a]) (by simp <;> omega)<|by simp <;> omega
  have j4:=ff (xs:=PM.take t++[.tuple<|RM.take a++(RM.drop a).take 1++RM.drop a]) (ys:=PM.drop<|t+1) (by simp <;> omega)<|by simp <;> omega
  simp![bh,e1,e2,e3,z8,c1,c2,c4,c6,c7,j1,j2,j3,j4];refine b9 ⟨_,rfl,g9 (y:=y) (by simp <;> omega) hy<|fap (fap (fat hPM)<|fa (mn (by simp <;> omega) (fap (fap (fat hgo)<|fat<|fad hgo)<|fad hgo) hy2) fn)<|fad hPM⟩
 have e4:(w==8)=false:=Eh.mpr k4;have d1:L2.dJ PM none (some 1)=PM.take 1:=zp PM 1;have d2:L2.dJ PM (some 1) none=PM.drop 1:=zq PM 1;have j3:=ff (xs:=PM.take t) (ys:=[.list RM]) (by simp <;> omega)<|by simp <;> omega
 have j4:=ff (xs:=PM.take t++[.list RM]) (ys:=PM.drop<|t+1) (by simp <;> omega)<|by simp <;> omega
 have hs1:small PM.length=true:=bW<|by omega
 have hs2:small RM.length=true:=bW<|by omega
 have hs3:small (PM++PM.take 1).length=true:=bW<|by simp <;> omega
 have FD:PM.isEmpty=false:=by
  cases PM with
  |nil=>exact absurd ht (Nat.not_lt_zero _)
  |cons _ _=>rfl
 have j5:aU bg (.tuple PM) (.tuple<|PM.take 1)=.ret (.tuple<|PM++PM.take 1):=nv FD<|bW<|by simp <;> omega
 simp![bh,e1,e2,e3,e4,c1,c2,d1,d2,j3,j4,j5];refine cN (n:=0) (by decide) (by decide) (by decide) λr r0 r1'=>?_
 obtain⟨x,hx,hm⟩:=pick (xs:=[PyData.list PM,.none,.bool true,.int 0,.str<|Str.ofString "",.tuple [],.tuple<|PM++PM.take 1,.tuple<|PM.drop 1,.tuple<|PM.take t++[.list RM]++PM.drop (t+1),.dict []]) r0 r1';simp![bh,hx];refine b9 ⟨x,rfl,?_⟩;have z0:Rp (.int 0) 0 5800:=fm<|bS (k:=1900) (by trivial)<|by trivial
 refine(fa (p:=Thg S) (km (by nofun)<|.inl<|pL (n':=3300000) (m:=4) (λd hd=>(hPM d hd).2) (by omega) (Aw _)<|by decide)<|fa (km (by nofun)<|.inl<|cm jK (by decide)<|by decide)<|fa (km (by nofun)<|.inl<|cm (o5 true) (by decide)<|by decide)<|fa (km (by nofun)<|.inl<|cm z0 (by decide)<|by decide) ?_) x hm
 refine fa (km (by nofun)<|.inl<|cm (xG _<|by trivial) (by decide)<|by decide)<|fa (g9 (y:=y) (by simp) hy fn)<|fa (g9 (y:=y) (by simp <;> omega) hy<|fap hPM<|fat hPM) ?_
 exact fa (g9 (y:=y) (by simp <;> omega) hy<|fad hPM)<|fa (g9 (y:=y) (by simp <;> omega) hy<|fap (fap (fat hPM)<|fa (Zh1 (by omega) hgo hy2) fn)<|fad hPM)<|fa (km (by nofun)<|.inr rfl) fn
def Zgd(l:Fl Pt)(es:Fl E2):l.zip (es.map E2.d)=(l.zip es).map λx=>(x.1,x.2.d):=by
 induction l generalizing es with
 |nil=>rfl
 | cons p l ih =>
  cases es with
  |nil=>rfl
  |cons e es=>rw[Ax,A0,A0,Ax,ih]
def ZlI{s:Shp}(h:s.Ok){es:Fl E2}(hd:cE s es):eh s (dE es)=true:=by
 show eh s (.tuple<|es.map E2.d)=true;rw[vB,AT];refine⟨Ea<|by rw[Av];exact hd.1,?_⟩
 rw[Zgd,Bl];intro q hq;obtain⟨x,hx,rfl⟩:=AU.mp hq;obtain⟨z1,z2,z3,_⟩:=gH hd hx;obtain⟨⟨a1,a2⟩,b1,b2⟩:=(b8 h).mp z1;obtain⟨⟨c1,c2⟩,d1,d2⟩:=(gM a2 b2).mp z3;show(decide (1<=x.2.b)&&(((Nat.gcd x.2.t.natAbs x.2.b.natAbs:Nat):Int)==1)&&(decide (x.1.1<=x.2.q.1)&&decide (x.2.q.1<=s.top)&&(decide (x.1.2<=x.2.q.2)&&decide (x.2.q.2<=s.top))))=true;rw[Ea z2.pos,z2.one,Ea c1,Ea c2,Ea d1,Ea d2]
 rfl
def Zi3{s:Shp}(h:s.Ok){P:Fl (Fl E2)}{m:Nat}(hl:P.length=m)(hd:∀es∈P,cE s es):gu s m (pE P)=true:=by
 show gu s m (.tuple<|P.map dE)=true;rw[pA,AT];refine⟨Ea<|by rw[Av];exact hl,?_⟩
 rw[Bl];intro d hm;obtain⟨es,FB,rfl⟩:=AU.mp hm;exact ZlI h<|hd es FB
def wN{s:Shp}(h:s.Ok)(h5:s.n<=5){n:Nat}{S:Int}{P:Fl (Fl E2)}(G:GdB s S n P)(hn:n<=3):Thg S (pE P):=by
 have hl:(P.map dE).length=n:=by rw[Av];exact G.len
 refine g9 (y:=.none) (by omega) ZaP λd hd=>?_
 obtain⟨RM',rfl,l1,l2,hE'⟩:=Zd6 h h5 G d hd;refine mn (by omega) (λx hx=>?_)<|cm jK (by decide)<|by decide
 obtain⟨e,ee,u1,u2,u3,u4,u5,u6⟩:=hE' x hx;exact .inl ⟨e,ee,u1,u2,u3,u4,u5,u6⟩
noncomputable def unE:Fn->E2
 |.tuple [.tuple [.int t,.int b],.tuple [.int x,.int y]]=>⟨t,b,(x,y)⟩
 |_=>⟨0,0,(0,0)⟩
def oo:Fn->Fl E2
 |.tuple es=>es.map unE
 |_=>[]
def wI:Fn->Fl (Fl E2)
 |.tuple ds=>ds.map oo
 |_=>[]
def Zgr(es:Fl E2):oo (dE es)=es:=by
 show(es.map E2.d).map unE=es;rw[AR]
 induction es with
 |nil=>rfl
 |cons e es ih=>rw[Ax,ih];rfl
def Zao(P:Fl (Fl E2)):wI (pE P)=P:=by
 show(P.map dE).map oo=P;rw[AR]
 induction P with
 |nil=>rfl
 | cons es P ih =>
  rw[Ax,ih];show oo (dE es)::P=_;rw[Zgr]
def Zlt{s:Shp}(h:s.Ok)(h5:s.n<=5){ds:Fl (Fl D2)}(hd:∀d∈ds,DdB d)(hl:ds.length<=3):gQ [.d s.d,.d<|bn ds,.d<|pE<|s.tbE ds]=.ret (.d<|.bool true):=by
 have h7:s.n<=7:=by omega
 have G:=wO h hd hl;obtain⟨y,hy,hg⟩:=(wN h h5 G hl).go;have hform:=Zi3 h G.len G.day;obtain⟨F,hc,_⟩:=wP h hd;rcases ZeA h h7 hd hl (hg.sm hy)with ⟨hp,_⟩|⟨P,e,hPl,hP,hp,e1⟩
 ·rw[hform]at hp;cases hp
 ·have eq:s.tbE ds=P:=?_
  ·rw[<- eq,hc]at e1;exact e1
  ·rw[<- Zao (s.tbE ds),<- Zao P,e]
def ZgE{s:Shp}(h:s.Ok){ds:Fl (Fl D2)}(hd:∀d∈ds,DdB d)(hl:ds.length<=3):s.lawB ds (s.tbE ds)=true:=by
 have G:=wO h hd hl;obtain⟨F,hc,_⟩:=wP h hd;rw[(yv h (λd FK=>(hd d FK).pos) G.day G.len).1,hc]
 rfl
def law_true:Al (qf yw) 300 λo=>o=.ret (.d<|.bool true):=by
 have g2:eK [.int 12]=.ret (bi 0 12):=gB rfl;simp! only[qf,yw,bh,g2];refine eA (n:=11) (n':=289) ZhJ (by decide) ?_
 rintro _ ⟨s,rfl,h,h5⟩;have h7:s.n<=7:=by omega
 simp! only[bh];refine eA (n:=46) (n':=243) ZhM (by decide) ?_
 rintro _ ⟨ds,rfl,l1,l3,hd⟩;have G:=wO h hd l3;have e1:mO [.d s.d,.d<|bn ds]=.ret (.d<|pE<|s.tbE ds):=by
  rw[Zlu h h7 hd l3,Zax h ds]
  rfl
 have zt:((true:Bool)==true)=true:=rfl;have e2:=Zlt h h5 hd l3;have e3:=y8 h h7 hd l3 G.pos G.nb<|wN h h5 G l3;simp! only[bh,e1,e2,e3,zt,AF];refine eA (n:=75) (n':=168) (ZhL h h5 hd l3 G<|ZgE h hd l3) (by decide) ?_
 rintro _ ⟨P',rfl,G'⟩;have e4:=y8 h h7 hd l3 G.pos G.nb<|wN h h5 G' l3;simp! only[bh,e4,zt,AF,g2];refine eA (n:=108) (n':=60) (P:=λo=>∃ρ,o=.next ρ) ?_ (by decide) ?_
 ·refine ZfS (n:=9) (λρ=>∃x:Sl,ρ=[.un,.pen,.d s.d,.d<|bn ds,.d<|pE<|s.tbE ds,.d<|.list [pE<|s.tbE ds,pE P'],x]) ⟨_,rfl⟩ (by rw[dh];decide) ?_ (λρ _=>⟨ρ,rfl⟩)
  rintro x ρ hx ⟨J,rfl⟩;obtain⟨k,hk,rfl⟩:=xD (n:=12) hx;refine⟨_,rfl,?_⟩;have em:aU i7 (.int (k:Int)) (.int 2)=.ret (.int<|(k:Int).fmod 2):=yY<|by decide
  obtain⟨Q,hQ,GQ⟩:∃Q,bG [pE<|s.tbE ds,pE P'] ((k:Int).fmod 2)=some (pE Q)/\GdB s (s.dk ds).2 ds.length Q:=by
   have:(k:Int).fmod 2=0\/(k:Int).fmod 2=1:=by
    rw[CS _<|by decide]
    omega
   rcases this with z|z
   ·rw[z];exact⟨_,rfl,G⟩
   ·rw[z];exact⟨_,rfl,G'⟩
  simp! only[ZdH,bh,em,hQ];refine eA (n:=9) (n':=0) (ZhP h h5 GQ l1 l3) (by decide) ?_
  rintro _ ⟨y,rfl,hy⟩;have e5:=y8 h h7 hd l3 G.pos G.nb hy;simp! only[bh,e5,zt,AF];exact b9 ⟨_,rfl,_,rfl⟩
 ·rintro _ ⟨ρ,rfl⟩;simp! only[bh];exact b9 rfl
end My
end
open PySem.W L2
def My.g_mk{K:DQ}{mg:D6}{h:Fv}(X:K.In h)(G:h.Ns mainGlobals mg){n:Str}{v:Int}{t:Tok}(z:PySem.W.nsIn K mainGlobals n=some (some<|.int v t)):∃t,mg n=some (.int v t):=⟨_,PySem.W.mg_of X G z⟩
set_option maxRecDepth 100000 in
set_option maxHeartbeats 0 in
theorem PySem.Challenge.cw_twomarks_k48_double_papers_holds : PySem.Challenge.rw_twomarks_k48_double_papers.Holds := by
 refine My.hd ?_
 k_fill
 refine L2.Zgf (l:=PySem.Challenge.rw_twomarks_k48_double_papers) (n:=63) (k:=10) (x:="_law_script") (CX:=jA) (sp:=L2.ZaM) rfl (by decide) rfl ⟨rfl,by decide,by decide,rfl⟩ (λw h Y=>PySem.W.kIn_of Y) ?F ?S ?C
 case F =>
  intro w mg fa h KX G hmg;have T:My.Txt (L2.KOf KX) mg:=by
   dsimp only [L2.KOf];constructor
   all_goals first
    |(refine PySem.W.mg_none_of KX G ?_; k_is)
    |(refine' My.g_mk KX G ?z; (case z=>k_is))
    |(refine' L2.ZlG KX G ?a ?l ?c ?k ?b; (case a=>k_is); (case l=>k_is); (case c=>k_is); (case k=>k_is); (case b=>intro _ _ _ _ _ _ us hl; first | (obtain ⟨_,rfl⟩:=L2.Zdq hl; rfl) | (obtain ⟨_,_,rfl⟩:=L2.Zdp hl; rfl) | (obtain ⟨_,_,_,rfl⟩:=L2.Zdo hl; rfl) | (obtain ⟨_,_,_,_,rfl⟩:=L2.Zdn hl; rfl) | (obtain ⟨_,_,_,_,_,rfl⟩:=L2.ZjY hl; rfl)))
  obtain ⟨f,fd,F,hm,_⟩:=T.ZlU.ex;have e0:=hmg.symm.trans hm;cases e0;refine ⟨fd,?_,λbase _ _=>My.Zjj T F (L2.Tr.ok_mono (L2.Tr.all_ok My.law_true.out (by decide)) λ_ _ h=>h.2)⟩
  obtain ⟨oc,od,kV,doc,pm,an,cdv,ct,osl,rfl,lk,hcd⟩:=F.ex;exact λs u=>.of_eq rfl
 case S=>exact λK H a ns hl _ hS=>⟨a,ns,rfl,hS,hl,λ_=>rfl⟩
 case C=>exact λ_ _ _ _ z=>z
