import PyProof.Rows.All
import Wide.All
import OpenK.AllK
import Wide.FinOn
import Lean
import PyProof.EqAt
import PyProof.EqKinds
import PyProof.TupleCall
import PySem.Challenge.RW_twomarks_k47_double_tables_walked
set_option Elab.async false
set_option linter.all false
set_option maxRecDepth 100000
set_option maxHeartbeats 0
noncomputable abbrev My.vw : PySem.Program := PySem.W.view
 PySem.Challenge.rw_twomarks_k47_double_tables_walked.row.prog [1, 2, 4, 5, 7, 8, 9, 10, 11, 12, 13, 14, 15, 16, 17, 18, 19, 20, 22, 23, 24, 25, 26, 27, 28, 29, 30, 32, 33, 34, 35, 36, 37, 38, 39, 40, 41, 42, 43, 44, 45, 46]
open PySem PySem.W in
theorem My.hd_s {p:Program} {N:Nat} {α β:Type} {S:Shared->α×β} {G:α×β} (a:∀ w,(openEnds treeTable p w N).map (λs=>(S s).1)=some G.1) (b:∀ w,(openEnds treeTable p w N).map (λs=>(S s).2)=some G.2):∀ w,(openEnds treeTable p w N).map S=some G:=λw=>by
 have h:=a w
 have g:=b w
 cases e:openEnds treeTable p w N with
 | none=>rw [e] at h;exact nomatch h
 | some s=>rw [e,Option.map_some] at h g;rw [Option.map_some];exact congrArg some (Prod.ext (Option.some.inj h) (Option.some.inj g))
open PySem PySem.W in
theorem My.hd_l {p q:Program} {loose:List Str} {Xt:Shared->Bool} {α:Type} {Yf:Shared->α} {Ya:World->α} {N:Nat} (a:∀ w,(openEnds treeTable p w N).map (λs=>openSeen q loose (importedModules p.main.body) Xt true s)=some (openGood q loose)) (b:∀ w,(openEnds treeTable p w N).map Yf=some (Ya w)):LeftO p q loose Xt Yf Ya N:=λw=>by
 have h:=a w
 have g:=b w
 cases e:openEnds treeTable p w N with
 | none=>rw [e] at h;exact nomatch h
 | some s=>rw [e,Option.map_some] at h g;rw [Option.map_some,Option.some.inj h,Option.some.inj g]
theorem My.hd_b {A B C H:Prop} (f:A->B->C->H) (p:A∧B∧C):H:=f p.1 p.2.1 p.2.2
local macro_rules
 | `(tactic| o_head $H:term) => `(tactic| (
  refine My.hd_b (λa b c => PySem.W.holds_open (q := My.vw) (loose := [])
   (Xt := λs => PySem.W.xlAt My.vw [] s && PySem.W.recOk
    (PySem.W.RowW.records PySem.Challenge.rw_twomarks_k47_double_tables_walked.row.toRowW) s)
   (XP := PySem.W.XL My.vw []) (Yf := ($H).obs)
   (Ya := ($H).val) (YP := ($H).says) (N := 20000) (My.hd_l a b)
   ($H).of ($H).keeps (λs e => PySem.W.xl_of s
    (Bool.and_eq_true_iff.mp e).1) PySem.W.XL.keeps
   (by rfl) (by rfl) (by rfl)
   (λs e => PySem.W.recFacts_of
    (Bool.and_eq_true_iff.mp e).2)
   (by rfl) ?k1 (by decide +kernel)
   ⟨rfl, rfl, rfl, rfl, rfl, by decide +kernel⟩ ?hw c) ?hc
  (case k1 => assumption)))
open_top My.hd_0 for PySem.Challenge.rw_twomarks_k47_double_tables_walked
noncomputable def My.hd_n:=λx0 x1 x2 x3 b c=>My.hd_0 ⟨(My.hd_s x0 (My.hd_s x1 (My.hd_s x2 x3))),b,c⟩
noncomputable def My.hd_n0:=λx1 x2 x3 b c=>My.hd_n (λw=>by kernel_rfl) x1 x2 x3 b c
noncomputable def My.hd_n1:=λx2 x3 b c=>My.hd_n0 (λw=>by kernel_rfl) x2 x3 b c
noncomputable def My.hd_n2:=λx3 b c=>My.hd_n1 (λw=>by kernel_rfl) x3 b c
noncomputable def My.hd_n3:=λb c=>My.hd_n2 (λw=>by kernel_rfl) b c
noncomputable def My.hd_1:=My.hd_n3
noncomputable def My.hd:=λc=>My.hd_1 (λw=>by kernel_rfl) c
set_option maxHeartbeats 4000000
namespace L2
open PySem PySem.Spec PyProof.Rows
noncomputable abbrev ak:=Sum Int Str
noncomputable def gl:ak->Value->Bool
 | .inl k,v=>Value.isInt k v
 | .inr x,v=>Value.isStrOf x v
noncomputable def Zix (w:World):ak->Int
 | .inl k=>hashInt k
 | .inr x=>hashStr w x
theorem eI:∀ {k:ak} {v:Value},gl k v=true->(∃ i t,k=Sum.inl i/\v=Value.int i t)\/(∃ x t,k=Sum.inr x/\v=Value.str x t)
 | .inl i,v,h=>by
  obtain ⟨t,e⟩:=Value.isInt_shape (k:=i) (v:=v) h
  exact .inl ⟨i,t,rfl,e⟩
 | .inr x,v,h=>by
  obtain ⟨t,e⟩:=Value.isStrOf_shape (x:=x) (v:=v) h
  exact .inr ⟨x,t,rfl,e⟩
theorem Ziw (i:Int) (t:Tok):gl (.inl i) (.int i t)=true:=by simp [gl,Value.isInt]
theorem Ziv (x:Str) (t:Tok):gl (.inr x) (.str x t)=true:=by simp [gl,Value.isStrOf]
theorem Ziu (a b:Int):decide ((Sum.inl a:ak)=Sum.inl b)=(a == b):=by
 by_cases e:a=b
 ·subst e; simp
 ·have h:¬ (Sum.inl a:ak)=Sum.inl b:=λq=>e (Sum.inl.inj q)
  rw [decide_eq_false h]
  exact (beq_eq_false_iff_ne.mpr e).symm
theorem Zir (a b:Str):decide ((Sum.inr a:ak)=Sum.inr b)=decide (a=b):=by
 by_cases e:a=b
 ·subst e; simp
 ·have h:¬ (Sum.inr a:ak)=Sum.inr b:=λq=>e (Sum.inr.inj q)
  rw [decide_eq_false h,decide_eq_false e]
theorem Zit (a:Int) (b:Str):decide ((Sum.inl a:ak)=Sum.inr b)=false:=decide_eq_false (λq=>nomatch q)
theorem Zis (a:Str) (b:Int):decide ((Sum.inr a:ak)=Sum.inl b)=false:=decide_eq_false (λq=>nomatch q)
noncomputable def aX (prog:Program) (w:World):PySem.KeyKind prog w ak where
 is:=gl
 hash:=Zix w
 inj:=λv a b ha hb=>by
  rcases eI ha with ⟨i,t,rfl,rfl⟩ | ⟨x,t,rfl,rfl⟩
  ·rcases eI hb with ⟨j,u,rfl,e⟩ | ⟨y,u,rfl,e⟩
   ·injection e with e1 _; rw [e1]
   ·exact nomatch e
  ·rcases eI hb with ⟨j,u,rfl,e⟩ | ⟨y,u,rfl,e⟩
   ·exact nomatch e
   ·injection e with e1 _; rw [e1]
 byValue:=λk v h=>by
  rcases eI h with ⟨i,t,rfl,rfl⟩ | ⟨x,t,rfl,rfl⟩ <;> rfl
 pyHash:=λhv h=>by
  rcases eI hv with ⟨i,t,rfl,rfl⟩ | ⟨x,t,rfl,rfl⟩
  ·exact wpAny_pyHash_int h
  ·exact wpAny_pyHash_str h
 eqBool:=λhu hv h=>by
  rcases eI hu with ⟨i,t,rfl,rfl⟩ | ⟨x,t,rfl,rfl⟩
  ·rcases eI hv with ⟨j,u,rfl,rfl⟩ | ⟨y,u,rfl,rfl⟩
   ·rw [Ziu] at h; exact wpAny_eqBool_int h
   ·rw [Zit] at h; exact SeqAt.EqAt.int_str i t y u _ _ _ _ h
  ·rcases eI hv with ⟨j,u,rfl,rfl⟩ | ⟨y,u,rfl,rfl⟩
   ·rw [Zis] at h; exact SeqAt.EqAt.str_int x t j u _ _ _ _ h
   ·rw [Zir] at h; exact wpAny_eqBool_str h
 «strs»:=λk x t v h=>by
  rcases eI h with ⟨i,u,rfl,e⟩ | ⟨y,u,rfl,e⟩
  ·exact nomatch e
  ·injection e with e1 _
   subst e1
   cases v <;> rfl
theorem ZhT (prog:Program) (w:World) (i:Int) (t:Tok):(aX prog w).is (.inl i) (.int i t)=true:=Ziw i t
theorem ZhS (prog:Program) (w:World) (x:Str) (t:Tok):(aX prog w).is (.inr x) (.str x t)=true:=Ziv x t
inductive V where
 | non | bl (b:Bool) | int (i:Int) | str (x:Str) | byt (b:Array UInt8) | flt (b:UInt64) | ref (a:Addr) | ty (n:String)
 deriving DecidableEq
noncomputable def RelV:V->Value->Prop
 | .non,u=>u=Value.none
 | .bl b,u=>u=Value.bool b
 | .int i,u=>∃ t,u=Value.int i t
 | .str x,u=>∃ t,u=Value.str x t
 | .byt b,u=>∃ t,u=Value.bytes b t
 | .flt b,u=>∃ t,u=Value.float b t
 | .ref a,u=>u=Value.ref a
 | .ty n,u=>u=Value.type n
noncomputable abbrev Vals:List V->List Value->Prop:=Paired RelV
theorem Vals.length {xs:List V} {us:List Value} (r:Vals xs us):xs.length=us.length:=Paired.length r
theorem Vals.get {xs:List V} {us:List Value} {i:Nat} {x:V} (h:Vals xs us) (e:xs[i]?=some x):∃ u,us[i]?=some u/\RelV x u:=by
 induction h generalizing i with
 | nil=>cases e
 | cons r t ih=>cases i with | zero=>cases e; exact ⟨_,rfl,r⟩ | succ i=>exact ih (i:=i) e
theorem Vals.set {x:V} {u:Value} (r:RelV x u) {xs:List V} {us:List Value} (i:Nat) (h:Vals xs us):Vals (xs.set i x) (us.set i u):=by
 induction h generalizing i with
 | nil=>exact .nil
 | cons q t ih=>cases i with | zero=>exact .cons r t | succ i=>exact .cons q (ih i)
theorem Vals.append {xs ys:List V} {us ws:List Value} (h:Vals xs us) (s:Vals ys ws):Vals (xs++ys) (us++ws):=by
 induction h with
 | nil=>exact s
 | cons r t ih=>exact .cons r ih
theorem Vals.take {xs:List V} {us:List Value} (n:Nat) (h:Vals xs us):Vals (xs.take n) (us.take n):=by
 induction h generalizing n with
 | nil=>rw [List.take_nil,List.take_nil]; exact .nil
 | cons r t ih=>cases n with | zero=>exact .nil | succ n=>exact .cons r (ih n)
theorem Vals.drop {xs:List V} {us:List Value} (n:Nat) (h:Vals xs us):Vals (xs.drop n) (us.drop n):=by
 induction h generalizing n with
 | nil=>rw [List.drop_nil,List.drop_nil]; exact .nil
 | cons r t ih=>cases n with | zero=>exact .cons r t | succ n=>exact ih n
theorem Vals.none_of:∀ {xs:List V} {us:List Value} {i:Nat},Vals xs us->xs[i]?=none->us[i]?=none:=λ{xs us i} r e=>by
 have h1:=r.length
 have h2:xs.length<=i:=List.getElem?_eq_none_iff.mp e
 exact List.getElem?_eq_none_iff.mpr (by omega)
noncomputable def RelO:Option V->Option Value->Prop
 | some v,some u=>RelV v u
 | none,none=>True
 | _,_=>False
noncomputable def KV {κ:Type}:List (κ×V)->List (κ×Value)->Prop:=Paired λ(p:κ×V) (q:κ×Value)=>p.1=q.1/\RelV p.2 q.2
noncomputable def kV:ak->V
 | .inl i=>.int i
 | .inr x=>.str x
inductive HO where
 /-- a list -/
 | lst (xs:List V)
 /-- a tuple (never changes) -/
 | tup (xs:List V)
 /-- a dict whose keys are ints and texts; one whose keys are tuples of ints and texts (the empty one is both) -/
 | dK (kvs:List (ak×V)) | dT (kvs:List (List ak×V))
 /-- a set of ints: its members,its size -/
 | set (S:Int->Bool) (n:Nat)
 /-- an instance of the class at C,its dict at dx,its attributes -/
 | ins (C dx:Addr) (fs:List (Str×V))
 /-- the dict of the instance at x -/
 | own (x:Addr)
 /-- the dict of an exception -/
 | xd (fs:List (Str×V))
 /-- a bound method,f of x -/
 | met (f x:Addr)
 /-- a range object lo,lo+1,.. below hi -/
 | rng (lo hi:Int)
 /-- a thing that is known to the object (the script; a dict while a loop walks it): read,never written while it is so -/
 | frz (o:Obj) (u:HO)
 /-- a code object's table -/
 | tbl (ps:Array Value)
 /-- any other thing,by what is true of its one object (a def of one's own: SetO a S n:=HO.ext λh=>..) -/
 | ext (φ:Heap->Prop)
 | cod (ps:Array Value)
noncomputable abbrev Hp:=Addr->Option HO
noncomputable def upd (H:Hp) (a:Addr) (o:HO):Hp:=λb=>if b=a then some o else H b
theorem bf {H:Hp} {a:Addr} {o:HO}:upd H a o a=some o:=by unfold upd; rw [if_pos rfl]
theorem ai {H:Hp} {a b:Addr} {o:HO} (h:b≠a):upd H a o b=H b:=by unfold upd; rw [if_neg h]
theorem Zfc {H:Hp} {a:Addr} {o u:HO}:upd (upd H a o) a u=upd H a u:=by
 funext b; unfold upd; split <;> rfl
theorem ZhL {H:Hp} {a b:Addr} {o u:HO} (h:H a=some o) (h':H b=some u) (d:o≠u):a≠b:=by
 intro e; subst e; rw [h] at h'; exact d (Option.some.inj h')
theorem bZ {H:Hp} {a b:Addr} {o:HO} (h:H a=some o) (h':H b=none):a≠b:=by
 intro e; subst e; rw [h] at h'; cases h'
section
variable (P:Program) (w:World)
noncomputable def ObjOk (H:Hp) (h:Heap) (a:Addr):HO->Prop
 | .lst xs=>xs.length<=sizeLine/\∃ (its:List Value) (n:Nat),Vals xs its/\h.get? a=some { cls:=.type "list",data:=.seq its.toArray n }
 | .tup xs=>xs.length<=sizeLine/\∃ its:List Value,Vals xs its/\IsTup h a its.toArray
 | .dK kvs=>kvs.length<=sizeLine/\(a == sysModules)=false/\∃ vs,KV kvs vs/\h.DictOf (aX P w) a vs
 | .dT kvs=>kvs.length<=sizeLine/\(a == sysModules)=false/\∃ xs:List (List ak×Addr×Value),
   Paired (λ(p:List ak×V) (q:List ak×Addr×Value)=>p.1=q.1/\H q.2.1=some (.tup (p.1.map kV))/\RelV p.2 q.2.2) kvs xs /\
   ∃ o es ep,h.get? a=some o/\o.ExactDict/\o.data=.dict es ep/\es.toList=xs.map (entryOfKey (tupleKind (aX P w)))/\(xs.map (·.1)).Nodup
 | .set S n=>h.SetOf (intKind P w) a S n
 | .ins C dx fs=>H dx=some (.own a)/\fs.length<=1000/\dx≠a/\h.get? a=some (PySem.W.instObj C dx) /\
   ∃ mA,h.Ns1 dx mA/\(∀ f,RelO (fs.lookup f) (mA f))/\PySem.Within mA (fs.map (·.1))
 | .own _=>∃ o,h.get? a=some o
 | .xd fs=>∃ mA,h.Ns1 a mA/\∀ f,RelO (fs.lookup f) (mA f)
 | .rng lo hi=>∃ t u v,h.get? a=some { cls:=.type "range",data:=.fields #[.int lo t,.int hi u,.int 1 v] }
 | .frz o u=>h.get? a=some o/\ObjOk H h a u
 | .tbl ps=>h.get? a=some { cls:=.none,data:=.fields ps }
 | .met f x=>h.get? a=some (PySem.W.methodObj (.ref f) (.ref x))
 | .ext φ=>φ h/\(∃ o,h.get? a=some o)/\∀ h1 h2:Heap,φ h1->(∀ o,h1.get? a=some o->h2.get? a=some o)->φ h2
 | .cod ps=>∃ more:Array Value,h.get? a=some { cls:=.none,data:=.fields (ps++more) }/\PySem.TriplesOk (ps++more).toList/\∀ (po:Pos) (v:Value),codeAmong po (ps++more).toList=some v->∃ (c:Addr) (ob:Obj) (vs:Array Value) (q:Str) (t:Tok),v=.ref c/\H c=some (.frz ob (.own 0))/\ob.data=.fields vs/\vs[1]?=some (.str q t)
noncomputable def HOk (H:Hp) (h:Heap):Prop:=∀ a o,H a=some o->ObjOk P w H h a o
end
section
variable {P:Program} {w:World} {H H':Hp} {h h':Heap} {a:Addr} {o:HO}
theorem ObjOk.lt (x:ObjOk P w H h a o):a < h.objs.size:=by
 cases o with
 | lst xs=>obtain ⟨_,_,_,_,e⟩:=x; exact Heap.lt_size e
 | tup xs=>obtain ⟨_,_,_,p⟩:=x; exact p.lt
 | dK kvs=>obtain ⟨_,_,_,_,o,_,_,e,_⟩:=x; exact Heap.lt_size e
 | dT kvs=>obtain ⟨_,_,_,_,o,_,_,e,_⟩:=x; exact Heap.lt_size e
 | set S n=>obtain ⟨o,_,_,_,e,_⟩:=x; exact Heap.lt_size e
 | ins C dx fs=>obtain ⟨_,_,_,e,_⟩:=x; exact Heap.lt_size e
 | own y=>obtain ⟨_,e⟩:=x; exact Heap.lt_size e
 | xd fs=>obtain ⟨_,⟨_,_,_,e,_⟩,_⟩:=x; exact Heap.lt_size e
 | rng lo hi=>obtain ⟨_,_,_,e⟩:=x; exact Heap.lt_size e
 | frz ob u=>obtain ⟨e,_⟩:=x; exact Heap.lt_size e
 | tbl ps=>exact Heap.lt_size (show h.get? a=some _ from x)
 | met f y=>exact Heap.lt_size (show h.get? a=some _ from x)
 | ext φ=>obtain ⟨_,⟨_,e⟩,_⟩:=x; exact Heap.lt_size e
 | cod ps=>obtain ⟨_,e,_⟩:=x; exact Heap.lt_size e
theorem Paired.mapP {α β:Type} {F G:α->β->Prop} {l₁:List α} {l₂:List β} (h:Paired F l₁ l₂) (f:∀ a b,F a b->G a b):Paired G l₁ l₂:=by
 induction h with
 | nil=>exact .nil
 | cons r t ih=>exact .cons (f _ _ r) ih
theorem ObjOk.stay (x:ObjOk P w H h a o) (k:∀ b u,(b=a\/H b=some (.own a))->h.get? b=some u->h'.get? b=some u)
  (ho:∀ b,H b=some (.own a)->H' b=some (.own a)) (ht:∀ b xs,H b=some (.tup xs)->H' b=some (.tup xs)) (hf:∀ b ob u vs,H b=some (.frz ob u)->ob.data=.fields vs->H' b=some (.frz ob u)):ObjOk P w H' h' a o:=by
 induction o with
 | lst xs=>obtain ⟨z,its,n,r,e⟩:=x; exact ⟨z,its,n,r,k _ _ (.inl rfl) e⟩
 | tup xs=>obtain ⟨z,its,r,ob,e,c⟩:=x; exact ⟨z,its,r,ob,k _ _ (.inl rfl) e,c⟩
 | dK kvs=>obtain ⟨z,y,vs,r,ob,es,ep,e,c⟩:=x; exact ⟨z,y,vs,r,ob,es,ep,k _ _ (.inl rfl) e,c⟩
 | dT kvs =>
  obtain ⟨z,y,xs,r,ob,es,ep,e,c⟩:=x
  exact ⟨z,y,xs,Paired.mapP r λp q z=>⟨z.1,ht _ _ z.2.1,z.2.2⟩,ob,es,ep,k _ _ (.inl rfl) e,c⟩
 | set S n=>obtain ⟨ob,es,ep,t,e,c⟩:=x; exact ⟨ob,es,ep,t,k _ _ (.inl rfl) e,c⟩
 | ins C dx fs =>
  obtain ⟨d,z,ne,e,mA,⟨od,es,ep,e2,c⟩,r⟩:=x
  exact ⟨ho _ d,z,ne,k _ _ (.inl rfl) e,mA,⟨od,es,ep,k _ _ (.inr d) e2,c⟩,r⟩
 | own y=>obtain ⟨ob,e⟩:=x; exact ⟨ob,k _ _ (.inl rfl) e⟩
 | xd fs=>obtain ⟨mA,⟨od,es,ep,e,c⟩,r⟩:=x; exact ⟨mA,⟨od,es,ep,k _ _ (.inl rfl) e,c⟩,r⟩
 | rng lo hi=>obtain ⟨t,u,v,e⟩:=x; exact ⟨t,u,v,k _ _ (.inl rfl) e⟩
 | frz ob u ih=>obtain ⟨e,q⟩:=x; exact ⟨k _ _ (.inl rfl) e,ih q⟩
 | tbl ps =>
  have e:h.get? a=some { cls:=.none,data:=.fields ps }:=x
  show h'.get? a=some { cls:=.none,data:=.fields ps }
  exact k a _ (.inl rfl) e
 | met f y =>
  have e:h.get? a=some (PySem.W.methodObj (.ref f) (.ref y)):=x
  show h'.get? a=some (PySem.W.methodObj (.ref f) (.ref y))
  exact k a _ (.inl rfl) e
 | ext φ=>obtain ⟨p,⟨o,e⟩,st⟩:=x; exact ⟨st _ _ p λo q=>k _ _ (.inl rfl) q,⟨o,k _ _ (.inl rfl) e⟩,st⟩
 | cod ps =>
  obtain ⟨more,e,tr,al⟩:=x
  refine ⟨more,k _ _ (.inl rfl) e,tr,λpo v hv=>?_⟩
  obtain ⟨c,ob,vs,q,t,r1,r2,r3⟩:=al po v hv
  exact ⟨c,ob,vs,q,t,r1,hf _ _ _ _ r2 r3.1,r3⟩
theorem HOk.lt (x:HOk P w H h) (e:H a=some o):a < h.objs.size:=(x a o e).lt
theorem HOk.fresh (x:HOk P w H h) (e:h.objs.size<=a):H a=none:=by
 cases q:H a with
 | none=>rfl
 | some u=>exact absurd (Nat.lt_of_lt_of_le (x.lt q) e) (Nat.lt_irrefl _)
theorem HOk.kept (x:HOk P w H h) (k:∀ b u,h.get? b=some u->h'.get? b=some u):HOk P w H h':=λa o e =>
 (x a o e).stay (λb u _ q=>k b u q) (λ_ q=>q) (λ_ _ q=>q) λ_ _ _ _ q _=>q
theorem HOk.laid (x:HOk P w H h) (k:∀ b u,h.get? b=some u->h'.get? b=some u) (hp:h.objs.size<=a) (new:ObjOk P w (upd H a o) h' a o):HOk P w (upd H a o) h':=λb u e=>by
 have hn:=x.fresh hp
 by_cases hb:b=a
 ·subst hb; rw [bf] at e; cases e; exact new
 ·rw [ai hb] at e
  exact (x b u e).stay (λc v _ q=>k c v q) (λc q=>by rw [ai (bZ q hn)]; exact q) (λc xs q=>by rw [ai (bZ q hn)]; exact q) λc ob xs _ q _=>by rw [ai (bZ q hn)]; exact q
end
noncomputable def Rd (H:Hp) (a:Addr) (u:HO):Prop:=H a=some u\/∃ o,H a=some (.frz o u)
theorem Rd.ok {P:Program} {w:World} {H:Hp} {h:Heap} {a:Addr} {u:HO} (r:Rd H a u) (x:HOk P w H h):ObjOk P w H h a u:=by
 rcases r with r | ⟨o,r⟩
 ·exact x a u r
 ·obtain ⟨_,q⟩:=x a _ r
  exact q
noncomputable def jB:Option HO->Prop
 | some (.lst _)=>True
 | some (.dK _)=>True
 | some (.dT _)=>True
 | some (.set _ _)=>True
 | some (.ins _ _ _)=>True
 | some (.ext _)=>True
 | _=>False
section
variable {P:Program} {w:World} {H:Hp} {h h':Heap} {x e:Addr} {o':HO}
theorem HOk.write (ok:HOk P w H h) (mu:jB (H x)) (he:e=x\/H e=some (.own x)) (k:∀ b u,b≠e->h.get? b=some u->h'.get? b=some u) (heo:∃ u,h'.get? e=some u)
  (new:ObjOk P w (upd H x o') h' x o'):HOk P w (upd H x o') h':=λb u q=>by
 have nown:∀ c y,H c=some (.own y)->c≠x:=λc y r z=>by subst z; rw [r] at mu; exact mu
 have ntup:∀ c xs,H c=some (.tup xs)->c≠x:=λc xs r z=>by subst z; rw [r] at mu; exact mu
 have nfrz:∀ c ob u,H c=some (.frz ob u)->c≠x:=λc ob u r z=>by subst z; rw [r] at mu; exact mu
 by_cases hb:b=x
 ·subst hb; rw [bf] at q; cases q; exact new
 ·rw [ai hb] at q
  by_cases hbe:b=e
  ·have q':H b=some (.own x):=by
    rcases he with z | z
    ·exact absurd (hbe.trans z) hb
    ·rw [hbe]; exact z
   rw [q] at q'; cases q'
   obtain ⟨v,hv⟩:=heo
   exact ⟨v,by rw [hbe]; exact hv⟩
  ·refine (ok b u q).stay (λc v hc r=>k c v ?_ r) (λc r=>by rw [ai (nown c b r)]; exact r) (λc xs r=>by rw [ai (ntup c xs r)]; exact r) λc ob xs _ r _=>by rw [ai (nfrz c ob xs r)]; exact r
   rcases hc with rfl | hc
   ·exact hbe
   ·rintro rfl
    rcases he with z | z
    ·exact nown c b hc z
    ·rw [hc] at z; cases z; exact hb rfl
end
structure Un (fs ex:List Addr) (H H':Hp) (h h':Heap):Prop where
 keep:∀ b o,h.get? b=some o->H b=none->b ∉ fs->b ∉ ex->h'.get? b=some o
 slot:∀ b o,h.get? b=some o->H b=none->b∈fs->b ∉ ex->∃ sl,h'.get? b=some { o with slots:=sl }
 free:∀ b o,h.get? b=some o->H b=none->b ∉ ex->H' b=none
 there:∀ b o,h.get? b=some o->b ∉ ex->∃ o',h'.get? b=some o'
 tups:∀ b xs,H b=some (.tup xs)->H' b=some (.tup xs)
 frzs:∀ b o u,H b=some (.frz o u)->H' b=some (.frz o u)
 tbls:∀ b ps,H b=some (.tbl ps)->∃ more,H' b=some (.tbl (ps++more))
section
variable {fs fs' ex ex':List Addr} {H H1 H2:Hp} {h h1 h2 h':Heap} {a x e:Addr} {o:HO}
theorem Un.any (u:Un fs ex H H1 h h1) {b:Addr} {ob:Obj} (q:h.get? b=some ob) (n:H b=none) (hx:b ∉ ex):∃ sl,h1.get? b=some { ob with slots:=sl }:=by
 by_cases hb:b∈fs
 ·exact u.slot b ob q n hb hx
 ·exact ⟨ob.slots,u.keep b ob q n hb hx⟩
theorem Un.kept (k:∀ b u,h.get? b=some u->h'.get? b=some u):Un fs ex H H h h' :=
 ⟨λb ob q _ _ _=>k b ob q,λb ob q _ _ _=>⟨ob.slots,k b ob q⟩,λ_ _ _ n _=>n,λb ob q _=>⟨ob,k b ob q⟩,λ_ _ q=>q,λ_ _ _ q=>q,λ_ ps q=>⟨#[],by rw [q]; simp⟩⟩
theorem Un.refl:Un fs ex H H h h:=Un.kept λ_ _ q=>q
theorem Un.laid (k:∀ b u,h.get? b=some u->h'.get? b=some u) (hp:h.objs.size<=a) (hn:H a=none):Un fs ex H (upd H a o) h h' where
 keep:=λb u q _ _ _=>k b u q
 slot:=λb u q _ _ _=>⟨u.slots,k b u q⟩
 free:=λb u q n _=>by rw [ai (Nat.ne_of_lt (Nat.lt_of_lt_of_le (Heap.lt_size q) hp))]; exact n
 there:=λb u q _=>⟨u,k b u q⟩
 tups:=λb xs q=>by rw [ai (bZ q hn)]; exact q
 frzs:=λb u xs q=>by rw [ai (bZ q hn)]; exact q
 tbls:=λb ps q=>⟨#[],by rw [ai (bZ q hn),q]; simp⟩
theorem Un.write (mu:jB (H x)) (he:e=x\/H e=some (.own x)) (k:∀ b u,b≠e->h.get? b=some u->h'.get? b=some u) (heo:∃ u,h'.get? e=some u):Un fs ex H (upd H x o) h h':=by
 have hx:∀ b,H b=none->b≠x:=λb n z=>by subst z; rw [n] at mu; exact mu
 have hb:∀ b,H b=none->b≠e:=λb n z=>by
  subst z
  rcases he with r | r
  ·exact hx b n r
  ·rw [n] at r; cases r
 have hm:∀ b u,H b=some u->¬ jB (some u)->b≠x:=λb u q nm z=>by subst z; rw [q] at mu; exact nm mu
 refine ⟨λb u q n _ _=>k b u (hb b n) q,λb u q n _ _=>⟨u.slots,k b u (hb b n) q⟩,λb u q n _=>by rw [ai (hx b n)]; exact n,λb u q _=>?_,
  λb xs q=>by rw [ai (hm b _ q λz=>z)]; exact q,λb u xs q=>by rw [ai (hm b _ q λz=>z)]; exact q,λb ps q=>⟨#[],by rw [ai (hm b _ q λz=>z),q]; simp⟩⟩
 by_cases hbe:b=e
 ·subst hbe; exact heo
 ·exact ⟨u,k b u hbe q⟩
end
noncomputable def trk (h:Heap) (H:Hp):List Addr:=(List.range h.objs.size).filter λa=>(H a).isSome
noncomputable def fb (h:Heap) (H:Hp):Heap:=PySem.W.hideAll h (trk h H)
theorem ZiN (h:Heap) (H:Hp):(fb h H).objs.size=h.objs.size:=PySem.W.hideAll_size _ _
theorem ZiO {h:Heap} {H:Hp} {b:Addr} {o:Obj} (e:h.get? b=some o) (n:H b=none):(fb h H).get? b=some o :=
 PySem.W.hideAll_get _ e λhm=>by
  have q:(H b).isSome=true:=(List.mem_filter.mp hm).2
  rw [n] at q; simp at q
theorem ZhD {h:Heap} {H:Hp} {b:Addr} {o:Obj} (e:(fb h H).get? b=some o):h.get? b=some o/\H b=none:=by
 have e':h.get? b=some o:=PySem.W.of_hideAll (trk h H) e
 refine ⟨e',?_⟩
 cases q:H b with
 | none=>rfl
 | some x =>
  have hm:b∈trk h H:=List.mem_filter.mpr ⟨List.mem_range.mpr (Heap.lt_size e'),by simp [q]⟩
  have z:(fb h H).get? b=none:=PySem.W.hideAll_none (trk h H) hm
  rw [z] at e; cases e
noncomputable def Zlr (g h:Heap) (L:Addr):List (Addr×Obj):=(List.range h.objs.size).filterMap λa=>if a=L\/(g.get? a).isSome=true then none else (h.get? a).map λo=>(a,o)
noncomputable def rest (g h:Heap) (L d:Addr):List (Addr×Obj):=(Zlr g h L).filter λp=>decide (p.1≠d)
structure Mod (K:PySem.W.Frag) (mg:Str->Option Value) (base:Heap):Prop where
 kin:K.In base
 glob:base.Ns mainGlobals mg
 blt:∃ mb,base.Ns builtinsNs mb/\∀ x:Str,x≠"__name__"->mb x=bootBuiltins x
 nolimit:base.NoLimit
 nodig:base.NoDigits
structure Cx where
 prog:Program
 w:World
 K:PySem.W.Frag
 mg:Str->Option Value
 base:Heap
 A:Around
 N:List Str
 s₀:Shared
 H₀:Hp
 env:Env
 outer:List Env
 stack:List Env
 ex:List Addr
 fn:Str->Bool
 calm:Bool
 pn:List (Addr×Obj)
 xe:Value->Shared->Prop
noncomputable def frs (l:List Env):List Addr:=l.filterMap (·.frame)
noncomputable abbrev Cx.fs (X:Cx):List Addr:=frs X.outer
noncomputable def l5 (sc:Scope) (x:Str):Prop:=sc.names.lookup x=some .local\/sc.names.lookup x=some .cell\/sc.names.lookup x=some .free
noncomputable def jC (sc:Scope) (x:Str):Prop:=sc.names.lookup x=some .local\/sc.names.lookup x=some .cell
noncomputable def Zl3 (env:Env) (h:Heap) (m:Str->Option Value) (x:Str) (u:Value):Prop :=
 (env.kindOf x=some .local/\m x=some u)\/((env.kindOf x=some .cell\/env.kindOf x=some .free)/\∃ c,env.cells.lookup x=some c/\h.IsCell c (some u))
structure Cx.Ok (X:Cx):Prop where
 mod:Mod X.K X.mg X.base
 kind:X.env.scope.kind=.function
 glob:X.env.globals=mainGlobals
 blt:X.env.builtins=builtinsNs
 above:X.s₀.heap.objs.size<=X.env.locals
 inj:∀ x y c,X.env.cells.lookup x=some c->X.env.cells.lookup y=some c->x=y
 has:∀ x,(X.env.kindOf x=some .cell\/X.env.kindOf x=some .free)->∃ c,X.env.cells.lookup x=some c
 cab:∀ x c,X.fn x=true->X.env.cells.lookup x=some c->X.s₀.heap.objs.size<=c
 hd:X.calm=true->X.A.handled=none
 frames:X.A.frames=some X.stack
 stk:X.stack=X.outer\/(X.stack=X.env::X.outer/\X.env.frame=some X.env.locals)
 exf:∀ b∈X.ex,b≠X.env.locals/\∀ x c,X.env.cells.lookup x=some c->c≠b
 bs:∀ b o,X.base.get? b=some o->X.s₀.heap.get? b=some o/\X.H₀ b=none
 bsz:X.base.objs.size<=X.s₀.heap.objs.size
 noex:∀ b o,X.base.get? b=some o->b ∉ X.ex
 exfs:∀ b∈X.ex,b ∉ X.fs
 funs:X.s₀.heap.FunFrames X.base X.outer
 frf:∀ b∈X.fs,X.H₀ b=none
structure Inv (X:Cx) (pins:List (Addr×Obj)) (σ:List (Option V)) (H:Hp) (s:Shared):Prop where
 ok:X.Ok
 os:s.os=X.s₀.os
 bare:AllBare s.gens
 base:Un X.fs X.ex X.H₀ H X.s₀.heap s.heap
 loc:∃ m,s.heap.Ns X.env.locals m/\∀ (i:Nat) (x:Str) (v:V),X.N[i]?=some x->σ[i]?=some (some v)->l5 X.env.scope x->∃ u,RelV v u/\Zl3 X.env s.heap m x u
 cell:∀ x c,X.env.cells.lookup x=some c->∃ v,s.heap.IsCell c v
 free:H X.env.locals=none
 freeC:∀ x c,X.env.cells.lookup x=some c->H c=none
 pin:∀ p∈X.pn++pins,s.heap.get? p.1=some p.2/\H p.1=none/\p.1≠X.env.locals/\p.1 ∉ X.fs/\∀ v,p.2.data≠.cell v
 hok:HOk X.prog X.w H s.heap
 len:σ.length=X.N.length
section
variable {X:Cx} {pins:List (Addr×Obj)} {σ:List (Option V)} {H H':Hp} {s:Shared} {h':Heap}
theorem Cx.Ok.nofr (ok:X.Ok) {b:Addr} {o:Obj} (e:X.base.get? b=some o):b ∉ X.fs:=λhb=>by
 have:=(ok.funs.mem hb).1
 rw [e] at this; cases this
theorem Inv.bs (I:Inv X pins σ H s):∀ b o,X.base.get? b=some o->s.heap.get? b=some o/\H b=none:=λb o e =>
 ⟨I.base.keep b o (I.ok.bs b o e).1 (I.ok.bs b o e).2 (I.ok.nofr e) (I.ok.noex b o e),I.base.free b o (I.ok.bs b o e).1 (I.ok.bs b o e).2 (I.ok.noex b o e)⟩
theorem Inv.bk (I:Inv X pins σ H s):∀ b o,X.base.get? b=some o->s.heap.get? b=some o:=λb o e=>(I.bs b o e).1
theorem Inv.mod (I:Inv X pins σ H s):Mod X.K X.mg X.base:=I.ok.mod
theorem Inv.kIn (I:Inv X pins σ H s):X.K.In s.heap:=I.ok.mod.kin.keeps I.bk
theorem Inv.lt (I:Inv X pins σ H s):X.env.locals < s.heap.objs.size:=let ⟨_,hn,_⟩:=I.loc; hn.lt
theorem Inv.sz (I:Inv X pins σ H s):X.s₀.heap.objs.size<=s.heap.objs.size:=Nat.le_trans I.ok.above (Nat.le_of_lt I.lt)
theorem Inv.nofs (I:Inv X pins σ H s) {a:Addr} (h:s.heap.objs.size<=a):a ∉ X.fs:=λhb=>by
 obtain ⟨_,o,ho,_⟩:=I.ok.funs.mem hb
 exact absurd (Nat.lt_of_lt_of_le (Heap.lt_size ho) (Nat.le_trans I.sz h)) (Nat.lt_irrefl _)
theorem Inv.cne (I:Inv X pins σ H s):∀ x c,X.env.cells.lookup x=some c->c≠X.env.locals:=λx c e z=>by
 obtain ⟨v,o,ho,hd⟩:=I.cell x c e
 obtain ⟨m,⟨o',es,ep,ho',hd',_⟩,_⟩:=I.loc
 rw [z,ho'] at ho; cases ho; rw [hd'] at hd; cases hd
theorem Inv.funs (I:Inv X pins σ H s):s.heap.FunFrames X.base X.outer:=by
 have all:∀ (l:List Env),(∀ b∈frs l,b∈X.fs)->X.s₀.heap.FunFrames X.base l->s.heap.FunFrames X.base l:=by
  intro l
  induction l with
  | nil=>intro _ _; trivial
  | cons env r ih =>
   intro hs hl
   obtain ⟨hk,⟨L,o,hf,hn,ho,hd⟩,hr⟩:=hl
   have hL:L∈X.fs:=hs L (by unfold frs; rw [List.filterMap_cons,hf]; exact List.mem_cons_self)
   obtain ⟨sl,e⟩:=I.base.slot L o ho (I.ok.frf L hL) hL λz=>I.ok.exfs L z hL
   exact ⟨hk,⟨L,_,hf,hn,e,hd⟩,ih (λb hb=>hs b (by unfold frs; rw [List.filterMap_cons,hf]; exact List.mem_cons_of_mem _ hb)) hr⟩
 exact all X.outer (λ_ hb=>hb) I.ok.funs
theorem Inv.stack (I:Inv X pins σ H s):s.heap.FunFrames X.base X.stack:=by
 rcases I.ok.stk with e | ⟨e,hf⟩
 ·rw [e]; exact I.funs
 ·rw [e]
  obtain ⟨m,hn,_⟩:=I.loc
  refine .cons (by rw [I.ok.kind]; decide) hf hn ?_ I.funs
  exact Heap.get?_none_of_le (Nat.le_trans I.ok.bsz I.ok.above)
theorem Inv.stkSub (I:Inv X pins σ H s):∀ b∈frs X.stack,b∈X.env.locals::X.fs:=λb hb=>by
 rcases I.ok.stk with e | ⟨e,hf⟩
 ·rw [e] at hb; exact List.mem_cons_of_mem _ hb
 ·rw [e] at hb
  unfold frs at hb
  rw [List.filterMap_cons,hf] at hb
  exact hb
theorem Inv.stkFree (I:Inv X pins σ H s):∀ b∈frs X.stack,H b=none:=λb hb=>by
 rcases List.mem_cons.mp (I.stkSub b hb) with e | hb
 ·rw [e]; exact I.free
 ·obtain ⟨_,o,ho,_⟩:=I.ok.funs.mem hb
  exact I.base.free b o ho (I.ok.frf b hb) λz=>I.ok.exfs b z hb
theorem Inv.step {g':Array GenState} {t':Nat} {d':Drawn} {ch:List Addr} (I:Inv X pins σ H s)
  (hch:∀ b∈ch,(b∈X.ex\/X.s₀.heap.objs.size<=b)/\b≠X.env.locals/\(∀ x c,X.env.cells.lookup x=some c->c≠b)/\∀ p∈X.pn++pins,p.1≠b)
  (keep:∀ b o,b≠X.env.locals->b ∉ X.fs->b ∉ ch->s.heap.get? b=some o->H b=none->h'.get? b=some o)
  (slot:∀ b o,b≠X.env.locals->b∈X.fs->b ∉ ch->s.heap.get? b=some o->H b=none->∃ sl,h'.get? b=some { o with slots:=sl }) (free:∀ b o,b ∉ ch->s.heap.get? b=some o->H b=none->H' b=none)
  (there:∀ b o,b ∉ ch->s.heap.get? b=some o->∃ o',h'.get? b=some o')
  (tups:∀ b xs,H b=some (.tup xs)->H' b=some (.tup xs)) (frzs:∀ b o u,H b=some (.frz o u)->H' b=some (.frz o u)) (tbls:∀ b ps,H b=some (.tbl ps)->∃ more,H' b=some (.tbl (ps++more)))
  (ns:∀ m,s.heap.Ns X.env.locals m->h'.Ns X.env.locals m) (hok:HOk X.prog X.w H' h') (hg:AllBare g') :
  Inv X pins σ H' { s with heap:=h',gens:=g',drawn:=d',toks:=t' }:=by
 have neL:∀ b o,X.s₀.heap.get? b=some o->b≠X.env.locals:=λb o e=>Nat.ne_of_lt (Nat.lt_of_lt_of_le (Heap.lt_size e) I.ok.above)
 have neC:∀ b o,X.s₀.heap.get? b=some o->b ∉ X.ex->b ∉ ch:=λb o e hx hb=>by
  rcases (hch b hb).1 with z | z
  ·exact hx z
  ·exact absurd (Nat.lt_of_lt_of_le (Heap.lt_size e) z) (Nat.lt_irrefl _)
 have cellK:∀ x c,X.env.cells.lookup x=some c->∀ v,s.heap.IsCell c v->h'.IsCell c v:=λx c e v hz0=>by
  obtain ⟨o,ho,hd⟩:=hz0
  have nch:c ∉ ch:=λz=>(hch c z).2.2.1 x c e rfl
  by_cases hc:c∈X.fs
  ·obtain ⟨sl,q⟩:=slot c o (I.cne x c e) hc nch ho (I.freeC x c e)
   exact ⟨_,q,hd⟩
  ·exact ⟨o,keep c o (I.cne x c e) hc nch ho (I.freeC x c e),hd⟩
 refine ⟨I.ok,I.os,hg,⟨λb o e n hb hx=>?_,λb o e n hb hx=>?_,λb o e n hx=>?_,λb o e hx=>?_,λb xs e=>tups b xs (I.base.tups b xs e),λb o xs e=>frzs b o xs (I.base.frzs b o xs e),λb ps e=>?_⟩,?_,λx c e=>?_,?_,λx c e=>?_,λp hp=>?_,hok,I.len⟩
 ·exact keep b o (neL b o e) hb (neC b o e hx) (I.base.keep b o e n hb hx) (I.base.free b o e n hx)
 ·obtain ⟨sl,e1⟩:=I.base.slot b o e n hb hx
  obtain ⟨sl',e2⟩:=slot b _ (neL b o e) hb (neC b o e hx) e1 (I.base.free b o e n hx)
  exact ⟨sl',e2⟩
 ·obtain ⟨o',e1⟩:=I.base.there b o e hx
  exact free b o' (neC b o e hx) e1 (I.base.free b o e n hx)
 ·obtain ⟨o',e1⟩:=I.base.there b o e hx
  exact there b o' (neC b o e hx) e1
 ·obtain ⟨m1,e1⟩:=I.base.tbls b ps e
  obtain ⟨m2,e2⟩:=tbls b _ e1
  exact ⟨m1++m2,by rw [e2,Array.append_assoc]⟩
 ·obtain ⟨m,hn,hl⟩:=I.loc
  refine ⟨m,ns m hn,λi x v e1 e2 e3=>?_⟩
  obtain ⟨u,r,l⟩:=hl i x v e1 e2 e3
  refine ⟨u,r,?_⟩
  rcases l with l | ⟨k,c,e,z⟩
  ·exact .inl l
  ·exact .inr ⟨k,c,e,cellK x c e _ z⟩
 ·obtain ⟨v,z⟩:=I.cell x c e
  exact ⟨v,cellK x c e v z⟩
 ·obtain ⟨m,⟨o,_,_,ho,_⟩,_⟩:=I.loc
  exact free _ o (λz=>(hch _ z).2.1 rfl) ho I.free
 ·obtain ⟨v,o,ho,hd⟩:=I.cell x c e
  exact free c o (λz=>(hch c z).2.2.1 x c e rfl) ho (I.freeC x c e)
 ·obtain ⟨e,n,ne,nf,d⟩:=I.pin p hp
  have nch:p.1 ∉ ch:=λz=>(hch p.1 z).2.2.2 p hp rfl
  exact ⟨keep p.1 p.2 ne nf nch e n,free p.1 p.2 nch e n,ne,nf,d⟩
theorem Inv.un {t':Nat} (I:Inv X pins σ H s) (u:Un X.fs [] H H' s.heap h') (hok:HOk X.prog X.w H' h'):Inv X pins σ H' { s with heap:=h',toks:=t' }:=by
 obtain ⟨m,⟨o,es,ep,ho,r⟩,_⟩:=id I.loc
 obtain ⟨sl,hL⟩:=u.any ho I.free (by simp)
 exact I.step (g':=s.gens) (d':=s.drawn) (ch:=[]) (λ_ z=>nomatch z) (λb o _ hb _ e n=>u.keep b o e n hb (by simp)) (λb o _ hb _ e n=>u.slot b o e n hb (by simp)) (λb o _ e n=>u.free b o e n (by simp)) (λb o _ e=>u.there b o e (by simp)) u.tups u.frzs u.tbls (λm' hm=>by
  obtain ⟨o',es',ep',ho',r'⟩:=hm
  rw [ho] at ho'; cases ho'
  exact ⟨_,es',ep',hL,r'⟩) hok I.bare
theorem Inv.call {g':Array GenState} {t':Nat} {d':Drawn} {ch:List Addr} (I:Inv X pins σ H s) (u:Un (frs X.stack) ch H H' s.heap h') (hok:HOk X.prog X.w H' h') (hg:AllBare g')
  (hch:∀ b∈ch,(b∈X.ex\/X.s₀.heap.objs.size<=b)/\b≠X.env.locals/\(∀ x c,X.env.cells.lookup x=some c->c≠b)/\∀ p∈X.pn++pins,p.1≠b) :
  Inv X pins σ H' { s with heap:=h',gens:=g',drawn:=d',toks:=t' }:=by
 obtain ⟨m,⟨o,es,ep,ho,r⟩,_⟩:=id I.loc
 obtain ⟨sl,hL⟩:=u.any ho I.free λz=>(hch _ z).2.1 rfl
 exact I.step (ch:=ch) hch (λb o hL hb hc e n=>u.keep b o e n (λz=>(List.mem_cons.mp (I.stkSub b z)).elim hL hb) hc) (λb o _ _ hc e n=>u.any e n hc) (λb o hc e n=>u.free b o e n hc) (λb o hc e=>u.there b o e hc) u.tups u.frzs u.tbls (λm' hm=>by
  obtain ⟨o',es',ep',ho',r'⟩:=hm
  rw [ho] at ho'; cases ho'
  exact ⟨_,es',ep',hL,r'⟩) hok hg
theorem Inv.turned {t':Nat} {it:Addr} (I:Inv X pins σ H s) (k:∀ b o,b≠it->s.heap.get? b=some o->h'.get? b=some o) (hn:H it=none) (hL:it≠X.env.locals)
  (h1:it∈X.ex\/X.s₀.heap.objs.size<=it) (h2:∀ x c,X.env.cells.lookup x=some c->c≠it) (h3:∀ p∈X.pn++pins,p.1≠it):Inv X pins σ H { s with heap:=h',toks:=t' }:=by
 have nit:∀ b u,H b=some u->b≠it:=λb u e z=>by rw [z,hn] at e; cases e
 refine I.step (g':=s.gens) (d':=s.drawn) (ch:=[it]) (λb hb=>?_) (λb o _ _ hc e _=>k b o (λz=>hc (by simp [z])) e) (λb o _ _ hc e _=>⟨o.slots,k b o (λz=>hc (by simp [z])) e⟩) (λ_ _ _ _ n=>n)
  (λb o hc e=>⟨o,k b o (λz=>hc (by simp [z])) e⟩) (λ_ _ e=>e) (λ_ _ _ e=>e) (λb ps e=>⟨#[],by rw [e]; simp⟩) (λm hm=>?_) (λb u e=>?_) I.bare
 ·have e:b=it:=by simpa using hb
  subst e
  exact ⟨h1,hL,h2,h3⟩
 ·obtain ⟨o,es,ep,ho,r⟩:=hm
  exact ⟨o,es,ep,k _ o (Ne.symm hL) ho,r⟩
 ·refine (I.hok b u e).stay (λc v hc q=>k c v ?_ q) (λ_ q=>q) (λ_ _ q=>q) λ_ _ _ _ q _=>q
  rcases hc with z | z
  ·rw [z]; exact nit b u e
  ·exact nit c _ z
theorem Inv.tok (I:Inv X pins σ H s) (t:Nat):Inv X pins σ H { s with toks:=t }:=I.un (h':=s.heap) (t':=t) Un.refl I.hok
theorem Inv.kept {t':Nat} (I:Inv X pins σ H s) (k:∀ b u,s.heap.get? b=some u->h'.get? b=some u):Inv X pins σ H { s with heap:=h',toks:=t' }:=I.un (Un.kept k) (I.hok.kept k)
theorem Inv.laid {a:Addr} {o:HO} {t':Nat} (I:Inv X pins σ H s) (k:∀ b u,s.heap.get? b=some u->h'.get? b=some u) (hp:s.heap.objs.size<=a) (new:ObjOk X.prog X.w (upd H a o) h' a o) :
  Inv X pins σ (upd H a o) { s with heap:=h',toks:=t' }:=I.un (Un.laid k hp (I.hok.fresh hp)) (I.hok.laid k hp new)
theorem Inv.write {x e:Addr} {o:HO} {t':Nat} (I:Inv X pins σ H s) (mu:jB (H x)) (he:e=x\/H e=some (.own x)) (k:∀ b u,b≠e->s.heap.get? b=some u->h'.get? b=some u) (heo:∃ u,h'.get? e=some u)
  (new:ObjOk X.prog X.w (upd H x o) h' x o):Inv X pins σ (upd H x o) { s with heap:=h',toks:=t' }:=I.un (Un.write mu he k heo) (I.hok.write mu he k heo new)
theorem Inv.pins_of {pins':List (Addr×Obj)} (I:Inv X pins σ H s) (h:∀ p∈pins',s.heap.get? p.1=some p.2/\H p.1=none/\p.1≠X.env.locals/\p.1 ∉ X.fs/\∀ v,p.2.data≠.cell v):Inv X pins' σ H s :=
 ⟨I.ok,I.os,I.bare,I.base,I.loc,I.cell,I.free,I.freeC,λp hp=>(List.mem_append.mp hp).elim (λz=>I.pin p (List.mem_append_left _ z)) (h p),I.hok,I.len⟩
theorem Zcm {N:List Str} (hN:N.Nodup) {i j:Nat} {x:Str} (a:N[i]?=some x) (b:N[j]?=some x):i=j:=by
 obtain ⟨h1,e1⟩:=List.getElem?_eq_some_iff.mp a
 obtain ⟨h2,e2⟩:=List.getElem?_eq_some_iff.mp b
 exact (List.getElem_inj hN).mp (e1.trans e2.symm)
theorem jP {M:Model} {A:Around} {E:Value->Shared->Prop} {i:Nat} {x:Str} {v:V} {u:Value} {Q:Unit->Shared->Prop} (I:Inv X pins σ H s) (hN:X.N.Nodup) (hi:X.N[i]?=some x) (hx:jC X.env.scope x) (r:RelV v u)
  (h:∀ s',Inv X pins (σ.set i (some v)) H s'->(∃ a,Heap.SameBut a s.heap s'.heap/\(a=X.env.locals\/X.env.cells.lookup x=some a))->Q () s') (hf:X.fn x=true\/X.env.scope.names.lookup x=some .local:=by first | exact .inl rfl | exact .inr rfl | assumption):wpAny M A (storeName X.env x u) Q E s:=by
 obtain ⟨m,hn,hl⟩:=id I.loc
 have hcls:(X.env.scope.kind == .class || (X.env.scope.kind == .module && X.env.locals != X.env.globals))=false:=by rw [I.ok.kind]; rfl
 have hiσ:i < σ.length:=by rw [I.len]; exact (List.getElem?_eq_some_iff.mp hi).1
 have cne:=I.cne
 have tracked:∀ {a:Addr} {h':Heap},(∃ o,s.heap.get? a=some o/\H a=none)->Heap.SameBut a s.heap h'->HOk X.prog X.w H h':=λ{a h'} ha hs b ob e=>by
  obtain ⟨_,_,hfree⟩:=ha
  refine (I.hok b ob e).stay (λc w' hc q=>(hs.2 c ?_).trans q) (λ_ q=>q) (λ_ _ q=>q) λ_ _ _ _ q _=>q
  rintro rfl
  rcases hc with rfl | hc
  ·rw [hfree] at e; cases e
  ·rw [hfree] at hc; cases hc
 rcases hx with hk | hk
 ·refine wpAny_storeName_local hk hn (λh' hn' hs=>?_) hcls
  obtain ⟨oL,_,_,hoL,_⟩:=id hn
  refine h _ ⟨I.ok,I.os,I.bare,⟨λb o e n hb hx=>?_,λb o e n hb hx=>?_,I.base.free,λb o e hx=>?_,I.base.tups,I.base.frzs,I.base.tbls⟩,⟨_,hn',λj y v' e1 e2 e3=>?_⟩,λy c e=>?_,I.free,I.freeC,λp hp=>?_,tracked ⟨oL,hoL,I.free⟩ hs,by simpa using I.len⟩ ⟨_,hs,.inl rfl⟩
  ·exact (hs.2 b (Nat.ne_of_lt (Nat.lt_of_lt_of_le (Heap.lt_size e) I.ok.above))).trans (I.base.keep b o e n hb hx)
  ·obtain ⟨sl,e1⟩:=I.base.slot b o e n hb hx
   exact ⟨sl,(hs.2 b (Nat.ne_of_lt (Nat.lt_of_lt_of_le (Heap.lt_size e) I.ok.above))).trans e1⟩
  ·obtain ⟨o',e1⟩:=I.base.there b o e hx
   exact ⟨o',(hs.2 b (Nat.ne_of_lt (Nat.lt_of_lt_of_le (Heap.lt_size e) I.ok.above))).trans e1⟩
  ·by_cases hj:j=i
   ·subst hj
    rw [hi] at e1; cases e1
    rw [List.getElem?_set_self hiσ] at e2
    cases e2
    exact ⟨u,r,.inl ⟨hk,by simp⟩⟩
   ·rw [List.getElem?_set_ne (Ne.symm hj)] at e2
    obtain ⟨u',r',q⟩:=hl j y v' e1 e2 e3
    refine ⟨u',r',?_⟩
    rcases q with ⟨k,e⟩ | ⟨k,c,e,z⟩
    ·refine .inl ⟨k,?_⟩
     have:y≠x:=λe=>hj (Zcm hN e1 (e ▸ hi))
     simp [this,e]
    ·exact .inr ⟨k,c,e,z.sameBut hs (cne y c e)⟩
  ·obtain ⟨w',z⟩:=I.cell y c e
   exact ⟨w',z.sameBut hs (cne y c e)⟩
  ·obtain ⟨e,n,ne,nf,d⟩:=I.pin p hp
   exact ⟨(hs.2 p.1 ne).trans e,n,ne,nf,d⟩
 ·have hfn:X.fn x=true:=by
   rcases hf with z | z
   ·exact z
   ·rw [z] at hk; cases hk
  obtain ⟨c,hc⟩:=I.ok.has x (.inl hk)
  obtain ⟨w',z⟩:=I.cell x c hc
  refine wpAny_storeName_cell I.ok.kind hk hc z (λh' hc' hs=>?_)
  obtain ⟨oc,hoc,hocd⟩:=id z
  refine h { s with heap:=h' } ⟨I.ok,I.os,I.bare,⟨λb o e n hb hx=>?_,λb o e n hb hx=>?_,I.base.free,λb o e hx=>?_,I.base.tups,I.base.frzs,I.base.tbls⟩,⟨m,hn.sameBut hs (Ne.symm (cne x c hc)),λj y v' e1 e2 e3=>?_⟩,λy c' e=>?_,I.free,I.freeC,λp hp=>?_,tracked ⟨oc,hoc,I.freeC x c hc⟩ hs,by simpa using I.len⟩ ⟨c,hs,.inr hc⟩
  ·exact (hs.2 b (Nat.ne_of_lt (Nat.lt_of_lt_of_le (Heap.lt_size e) (I.ok.cab x c hfn hc)))).trans (I.base.keep b o e n hb hx)
  ·obtain ⟨sl,e1⟩:=I.base.slot b o e n hb hx
   exact ⟨sl,(hs.2 b (Nat.ne_of_lt (Nat.lt_of_lt_of_le (Heap.lt_size e) (I.ok.cab x c hfn hc)))).trans e1⟩
  ·obtain ⟨o',e1⟩:=I.base.there b o e hx
   exact ⟨o',(hs.2 b (Nat.ne_of_lt (Nat.lt_of_lt_of_le (Heap.lt_size e) (I.ok.cab x c hfn hc)))).trans e1⟩
  ·by_cases hj:j=i
   ·subst hj
    rw [hi] at e1; cases e1
    rw [List.getElem?_set_self hiσ] at e2
    cases e2
    exact ⟨u,r,.inr ⟨.inl hk,c,hc,hc'⟩⟩
   ·rw [List.getElem?_set_ne (Ne.symm hj)] at e2
    obtain ⟨u',r',q⟩:=hl j y v' e1 e2 e3
    refine ⟨u',r',?_⟩
    rcases q with q | ⟨k,c',e,z'⟩
    ·exact .inl q
    ·refine .inr ⟨k,c',e,z'.sameBut hs ?_⟩
     rintro rfl
     exact hj (Zcm hN e1 (I.ok.inj _ _ _ e hc ▸ hi))
  ·by_cases hcc:c'=c
   ·subst hcc; exact ⟨_,hc'⟩
   ·obtain ⟨w2,z2⟩:=I.cell y c' e
    exact ⟨w2,z2.sameBut hs hcc⟩
  ·obtain ⟨e,n,ne,nf,d⟩:=I.pin p hp
   refine ⟨(hs.2 p.1 ?_).trans e,n,ne,nf,d⟩
   intro q
   rw [q,hoc] at e
   have q':oc=p.2:=Option.some.inj e
   exact d w' (by rw [<- q']; exact hocd)
theorem iL {M:Model} {A:Around} {E:Value->Shared->Prop} {i:Nat} {x:Str} {v:V} {u:Value} {Q:Unit->Shared->Prop} (I:Inv X pins σ H s) (hN:X.N.Nodup) (hi:X.N[i]?=some x) (hx:jC X.env.scope x) (r:RelV v u)
  (h:∀ s',Inv X pins (σ.set i (some v)) H s'->Q () s') (hf:X.fn x=true\/X.env.scope.names.lookup x=some .local:=by first | exact .inl rfl | exact .inr rfl | assumption):wpAny M A (storeName X.env x u) Q E s :=
 jP I hN hi hx r (λs' I' _=>h s' I') hf
theorem Inv.call' {s':Shared} {ch:List Addr} (I:Inv X pins σ H s) (ho:s'.os=s.os) (u:Un (frs X.stack) ch H H' s.heap s'.heap) (hok:HOk X.prog X.w H' s'.heap) (hg:AllBare s'.gens)
  (hch:∀ b∈ch,(b∈X.ex\/X.s₀.heap.objs.size<=b)/\b≠X.env.locals/\(∀ x c,X.env.cells.lookup x=some c->c≠b)/\∀ p∈X.pn++pins,p.1≠b):Inv X pins σ H' s':=by
 obtain ⟨h',g',d',t',o'⟩:=s'
 have e:o'=s.os:=ho
 subst e
 exact I.call (g':=g') (t':=t') (d':=d') u hok hg hch
end
noncomputable abbrev XK:=Value->Option Addr->Hp->Prop
noncomputable abbrev St:=List (Option V)
noncomputable abbrev VK:=V->Hp->Prop
noncomputable abbrev TE:=St->Hp->VK->Prop
noncomputable abbrev TT:=St->Hp->(Bool->Hp->Prop)->Prop
noncomputable abbrev TA:=St->Hp->(List V->Hp->Prop)->Prop
structure Ends where
 nx:St->Hp->Prop
 rt:VK
 bk:St->Hp->Prop:=λ_ _=>False
 ct:St->Hp->Prop:=λ_ _=>False
noncomputable abbrev TS:=Ends->St->Hp->Prop
noncomputable def EP (X:Cx) (pins:List (Addr×Obj)) (σ:St) (Q:VK) (u:Value) (s':Shared):Prop:=∃ v H',Inv X pins σ H' s'/\RelV v u/\Q v H'
noncomputable def TP (X:Cx) (pins:List (Addr×Obj)) (σ:St) (Q:Bool->Hp->Prop) (b:Bool) (s':Shared):Prop:=∃ H',Inv X pins σ H' s'/\Q b H'
noncomputable def AP (X:Cx) (pins:List (Addr×Obj)) (σ:St) (Q:List V->Hp->Prop) (us:List Value) (s':Shared):Prop:=∃ vs H',Inv X pins σ H' s'/\Vals vs us/\Q vs H'
noncomputable def SP (X:Cx) (pins:List (Addr×Obj)) (D:Ends) (f:Flow) (s':Shared):Prop :=
 match f with
 | .next=>∃ σ' H',Inv X pins σ' H' s'/\D.nx σ' H'
 | .brk=>∃ σ' H',Inv X pins σ' H' s'/\D.bk σ' H'
 | .cont=>∃ σ' H',Inv X pins σ' H' s'/\D.ct σ' H'
 | .ret u=>∃ v σ' H',Inv X pins σ' H' s'/\RelV v u/\D.rt v H'
noncomputable def PE (X:Cx) (e:Expr) (t:TE):Prop :=
 ∀ (pins:List (Addr×Obj)) (s:Shared) (σ:St) (H:Hp) (Q:VK),Inv X pins σ H s->t σ H Q->wpAny (model X.prog X.w) X.A (eval e X.env) (EP X pins σ Q) X.xe s
noncomputable def PT (X:Cx) (e:Expr) (t:TT):Prop :=
 ∀ (pins:List (Addr×Obj)) (s:Shared) (σ:St) (H:Hp) (Q:Bool->Hp->Prop),Inv X pins σ H s->t σ H Q->wpAny (model X.prog X.w) X.A (isTrue e X.env (eval e X.env)) (TP X pins σ Q) X.xe s
noncomputable def PW (X:Cx) (e:Expr) (t:TT):Prop :=
 ∀ (whole:Sem Value) (pins:List (Addr×Obj)) (s:Shared) (σ:St) (H:Hp) (Q:Bool->Hp->Prop),Inv X pins σ H s->t σ H Q->wpAny (model X.prog X.w) X.A (isTrue e X.env whole) (TP X pins σ Q) X.xe s
theorem PW.pt {X:Cx} {e:Expr} {t:TT} (h:PW X e t):PT X e t:=h _
noncomputable def PA (X:Cx) (es:List Expr) (t:TA):Prop :=
 ∀ (pos:Pos) (pins:List (Addr×Obj)) (s:Shared) (σ:St) (H:Hp) (Q:List V->Hp->Prop),Inv X pins σ H s->t σ H Q->wpAny (model X.prog X.w) X.A (spliced (backTo pos (starEach es X.env))) (AP X pins σ Q) X.xe s
noncomputable def PS (X:Cx) (st:Stmt) (t:TS):Prop :=
 ∀ (pins:List (Addr×Obj)) (s:Shared) (σ:St) (H:Hp) (D:Ends),Inv X pins σ H s->t D σ H->wpAny (model X.prog X.w) X.A (exec st X.env) (SP X pins D) X.xe s
noncomputable def PSs (X:Cx) (st:List Stmt) (t:TS):Prop :=
 ∀ (pins:List (Addr×Obj)) (s:Shared) (σ:St) (H:Hp) (D:Ends),Inv X pins σ H s->t D σ H->wpAny (model X.prog X.w) X.A (execs st X.env) (SP X pins D) X.xe s
theorem thn {α:Type} {t:Sem α} {Q Q':α->Shared->Prop} {M:Model} {A:Around} {E:Value->Shared->Prop} {s:Shared} (h:wpAny M A t Q E s) (hQ:∀ a s,Q a s->Q' a s):wpAny M A t Q' E s:=wpAny_mono h hQ λ_ _ x=>x
section
variable {X:Cx}
noncomputable def eC (i:Nat):TE:=λσ H Q=>∃ v,σ[i]?=some (some v)/\Q v H
noncomputable def tC (v:V):TE:=λ_ H Q=>Q v H
theorem Zha {i:Nat} {x:Str} {pos:Pos} (hN:X.N[i]?=some x) (hv:l5 X.env.scope x) (hd:(x == ("__debug__":Str))=false:=by decide) (hcd:(x == ("__classdict__":Str))=false:=by decide):PE X (.Name x pos) (eC i):=by
 intro pins s σ H Q I h
 obtain ⟨v,e,h⟩:=h
 obtain ⟨m,hn,hl⟩:=I.loc
 obtain ⟨u,r,l⟩:=hl i x v hN e hv
 have fin:EP X pins σ Q u s:=⟨v,H,I,r,h⟩
 rcases l with ⟨hk,hm⟩ | ⟨hk,c,hc,hcell⟩
 ·exact wpAny_Name (wpAny_loadName_local I.ok.kind hk hn hm fin) hd
 ·rcases hk with hk | hk
  ·exact wpAny_Name (wpAny_loadName_cell I.ok.kind hk hc hcell fin) hd
  ·exact wpAny_Name (wpAny_loadName_free I.ok.kind hk hc hcell fin hcd) hd
theorem bu {i j pos}:PE X (.Constant (.int i) j pos) (tC (.int i)):=λ_ _ _ H _ I h=>wpAny_Constant_int ⟨.int i,H,I.tok _,⟨_,rfl⟩,h⟩
theorem Zhl {b j pos}:PE X (.Constant (.bool b) j pos) (tC (.bl b)):=λ_ _ _ H _ I h=>Constant_bool ⟨.bl b,H,I,rfl,h⟩
noncomputable def Gl (X:Cx) (x:Str):Prop:=X.env.kindOf x=some .globalImplicit
theorem ZcK {E:Value->Shared->Prop} {pins:List (Addr×Obj)} {s:Shared} {σ:St} {H:Hp} {x:Str} {u:Value} {pos:Pos} {Q:Value->Shared->Prop} (I:Inv X pins σ H s) (hg:Gl X x) (hm:X.mg x=some u) (h:Q u s)
  (hd:(x == ("__debug__":Str))=false:=by decide):wpAny (model X.prog X.w) X.A (eval (.Name x pos) X.env) Q E s :=
 Calls.Name_function_global I.ok.kind hg (Calls.loadGlobal_global (by rw [I.ok.glob]; exact I.mod.glob.keeps I.bk) hm h) hd
theorem gk {E:Value->Shared->Prop} {pins:List (Addr×Obj)} {s:Shared} {σ:St} {H:Hp} {x:Str} {u:Value} {pos:Pos} {Q:Value->Shared->Prop} (I:Inv X pins σ H s) (hg:Gl X x) (hm:X.mg x=none) (hv:bootBuiltins x=some u) (h:Q u s)
  (hn:x≠"__name__":=by decide) (hd:(x == ("__debug__":Str))=false:=by decide):wpAny (model X.prog X.w) X.A (eval (.Name x pos) X.env) Q E s:=by
 obtain ⟨mb,h1,h2⟩:=I.mod.blt
 exact Calls.Name_function_global I.ok.kind hg (Calls.loadGlobal_builtin (by rw [I.ok.glob]; exact I.mod.glob.keeps I.bk) hm (by rw [I.ok.blt]; exact h1.keeps I.bk) ((h2 x hn).trans hv) h) hd
theorem Zhg {x:Str} {v:V} {u:Value} {pos:Pos} (hg:Gl X x) (hm:X.mg x=some u) (r:RelV v u) (hd:(x == ("__debug__":Str))=false:=by decide):PE X (.Name x pos) (tC v) :=
 λ_ _ _ H _ I h=>ZcK I hg hm ⟨v,H,I,r,h⟩ hd
variable {a b:Expr} {ta tb:TE} {pos:Pos}
variable {tA tB':TT} {rest:List Expr}
noncomputable def ZfL (t u:TT):TT:=λσ H Q=>t σ H λc H1=>if c=true then u σ H1 Q else Q false H1
noncomputable def tOr (t u:TT):TT:=λσ H Q=>t σ H λc H1=>if c=true then Q true H1 else u σ H1 Q
theorem ZbX (ha:PT X a tA):PW X (.BoolOp .And [a] pos) tA:=by
 intro wh pins s σ H Q I h
 refine isTrue_and (thn (ha pins s σ H Q I h) λc s1 e=>?_)
 cases c with
 | true=>exact isTrue_and_nil e
 | false=>exact e
theorem ZgK (ha:PT X a tA):PW X (.BoolOp .Or [a] pos) tA:=by
 intro wh pins s σ H Q I h
 refine isTrue_or (thn (ha pins s σ H Q I h) λc s1 e=>?_)
 cases c with
 | false=>exact isTrue_or_nil e
 | true=>exact e
theorem ZbY (ha:PT X a tA) (hb:PW X (.BoolOp .And (b::rest) pos) tB'):PW X (.BoolOp .And (a::b::rest) pos) (ZfL tA tB'):=by
 intro wh pins s σ H Q I h
 refine isTrue_and (thn (ha pins s σ H _ I h) λc s1 hz0=>?_)
 obtain ⟨H1,I1,q1⟩:=hz0
 cases c with
 | true=>exact hb wh pins s1 σ H1 Q I1 q1
 | false=>exact ⟨H1,I1,q1⟩
theorem ZgL (ha:PT X a tA) (hb:PW X (.BoolOp .Or (b::rest) pos) tB'):PW X (.BoolOp .Or (a::b::rest) pos) (tOr tA tB'):=by
 intro wh pins s σ H Q I h
 refine isTrue_or (thn (ha pins s σ H _ I h) λc s1 hz0=>?_)
 obtain ⟨H1,I1,q1⟩:=hz0
 cases c with
 | true=>exact ⟨H1,I1,q1⟩
 | false=>exact hb wh pins s1 σ H1 Q I1 q1
noncomputable def tIf (t:TT) (ta tb:TE):TE:=λσ H Q=>t σ H λc H1=>if c=true then ta σ H1 Q else tb σ H1 Q
theorem Zhf {c:Expr} (hc:PT X c tA) (ha:PE X a ta) (hb:PE X b tb):PE X (.IfExp c a b pos) (tIf tA ta tb):=by
 intro pins s σ H Q I h
 refine wpAny_IfExp (thn (hc pins s σ H _ I h) λd s1 hz0=>?_)
 obtain ⟨H1,I1,q1⟩:=hz0
 cases d with
 | true=>exact ha pins s1 σ H1 Q I1 q1
 | false=>exact hb pins s1 σ H1 Q I1 q1
end
noncomputable def SqL (K:PySem.W.Frag) (H:Hp) (a:Addr) (xs:List V):Prop :=
 Rd H a (.lst xs) \/
  ∃ (o:Obj) (its:Array Value) (n:Nat),K.lookup a=some o/\o.cls=.type "list"/\o.dict=none/\o.data=.seq its n/\its.size<=sizeLine/\Vals xs its.toList
noncomputable def SqT (K:PySem.W.Frag) (H:Hp) (a:Addr) (xs:List V):Prop :=
 Rd H a (.tup xs) \/
  ∃ (o:Obj) (its:Array Value) (n:Nat),K.lookup a=some o/\o.cls=.type "tuple"/\o.data=.seq its n/\its.size<=sizeLine/\Vals xs its.toList
noncomputable def ZlB:Value->Option V
 | .none=>some .non
 | .bool b=>some (.bl b)
 | .int i _=>some (.int i)
 | .str x _=>some (.str x)
 | .bytes b _=>some (.byt b)
 | .float b _=>some (.flt b)
 | .ref a=>some (.ref a)
 | .type n=>some (.ty n)
 | _=>none
theorem RelV.abs {x:V} {u:Value} (r:RelV x u):ZlB u=some x:=by
 cases x with
 | non=>cases r; rfl
 | bl _=>cases r; rfl
 | int _=>obtain ⟨t,rfl⟩:=r; rfl
 | str _=>obtain ⟨t,rfl⟩:=r; rfl
 | byt _=>obtain ⟨t,rfl⟩:=r; rfl
 | flt _=>obtain ⟨t,rfl⟩:=r; rfl
 | ref _=>cases r; rfl
 | ty _=>cases r; rfl
theorem RelV.inj {x y:V} {u:Value} (r:RelV x u) (q:RelV y u):x=y:=Option.some.inj (r.abs.symm.trans q.abs)
theorem Vals.inj {xs ys:List V} {us:List Value} (h:Vals xs us) (h':Vals ys us):xs=ys:=by
 induction h generalizing ys with
 | nil=>cases h'; rfl
 | cons r t ih=>cases h' with | cons r' t'=>rw [r.inj r',ih t']
section
variable {X:Cx} {pins:List (Addr×Obj)} {σ:St} {H:Hp} {s:Shared} {a:Addr} {xs ys:List V}
theorem SqL.of {K:PySem.W.Frag} (h:H a=some (.lst xs)):SqL K H a xs:=.inl (.inl h)
theorem SqT.of {K:PySem.W.Frag} (h:H a=some (.tup xs)):SqT K H a xs:=.inl (.inl h)
theorem Inv.list (I:Inv X pins σ H s) (h:SqL X.K H a xs):∃ its:List Value,Vals xs its/\PlainL s.heap a its.toArray/\xs.length<=sizeLine:=by
 rcases h with h | ⟨o,its,n,hk,hc,hd,hs,hz,r⟩
 ·obtain ⟨z,its,n,r,e⟩:=h.ok I.hok
  exact ⟨its,r,⟨_,n,e,rfl,rfl,rfl⟩,z⟩
 ·refine ⟨its.toList,r,⟨o,n,I.kIn a o hk,hc,hd,by simpa using hs⟩,?_⟩
  have e:=r.length
  simp only [Array.length_toList] at e
  omega
theorem Inv.tuple (I:Inv X pins σ H s) (h:SqT X.K H a xs):∃ its:List Value,Vals xs its/\IsTup s.heap a its.toArray/\xs.length<=sizeLine:=by
 rcases h with h | ⟨o,its,n,hk,hc,hs,hz,r⟩
 ·obtain ⟨z,its,r,p⟩:=h.ok I.hok
  exact ⟨its,r,p,z⟩
 ·refine ⟨its.toList,r,⟨o,I.kIn a o hk,hc,n,by simpa using hs⟩,?_⟩
  have e:=r.length
  simp only [Array.length_toList] at e
  omega
theorem Inv.list_inj (I:Inv X pins σ H s) (h:SqL X.K H a xs) (h':SqL X.K H a ys):xs=ys:=by
 obtain ⟨its,r,⟨o,n,e,_,_,d⟩,_⟩:=I.list h
 obtain ⟨its',r',⟨o',n',e',_,_,d'⟩,_⟩:=I.list h'
 rw [e] at e'; cases e'
 rw [d] at d'
 injection d' with d1 _
 have:its=its':=by simpa using congrArg Array.toList d1
 subst this
 exact r.inj r'
theorem Inv.tuple_inj (I:Inv X pins σ H s) (h:SqT X.K H a xs) (h':SqT X.K H a ys):xs=ys:=by
 obtain ⟨its,r,⟨o,e,_,n,d⟩,_⟩:=I.tuple h
 obtain ⟨its',r',⟨o',e',_,n',d'⟩,_⟩:=I.tuple h'
 rw [e] at e'; cases e'
 rw [d] at d'
 injection d' with d1 _
 have:its=its':=by simpa using congrArg Array.toList d1
 subst this
 exact r.inj r'
end
noncomputable abbrev Cx.wish (X:Cx) (E:Value->Shared->Prop):Cx:={ X with xe:=E }
noncomputable abbrev Cx.nox (X:Cx):Cx:=X.wish λ_ _=>False
theorem Cx.Ok.wish {X:Cx} (ok:X.Ok) (E:Value->Shared->Prop):(X.wish E).Ok :=
 ⟨ok.mod,ok.kind,ok.glob,ok.blt,ok.above,ok.inj,ok.has,ok.cab,ok.hd,ok.frames,ok.stk,ok.exf,ok.bs,ok.bsz,ok.noex,ok.exfs,ok.funs,ok.frf⟩
theorem Cx.Ok.unwish {X:Cx} {E:Value->Shared->Prop} (ok:(X.wish E).Ok):X.Ok :=
 ⟨ok.mod,ok.kind,ok.glob,ok.blt,ok.above,ok.inj,ok.has,ok.cab,ok.hd,ok.frames,ok.stk,ok.exf,ok.bs,ok.bsz,ok.noex,ok.exfs,ok.funs,ok.frf⟩
section
variable {X:Cx} {pins:List (Addr×Obj)} {σ:St} {H:Hp} {s:Shared} {E:Value->Shared->Prop}
theorem Inv.wish (I:Inv X pins σ H s) (E:Value->Shared->Prop):Inv (X.wish E) pins σ H s:=⟨I.ok.wish E,I.os,I.bare,I.base,I.loc,I.cell,I.free,I.freeC,I.pin,I.hok,I.len⟩
theorem Inv.unwish (I:Inv (X.wish E) pins σ H s):Inv X pins σ H s:=⟨I.ok.unwish,I.os,I.bare,I.base,I.loc,I.cell,I.free,I.freeC,I.pin,I.hok,I.len⟩
theorem SP.unwish {D:Ends} {f:Flow} {s':Shared} (h:SP (X.wish E) pins D f s'):SP X pins D f s':=by
 cases f with
 | next=>obtain ⟨σ',H',I,q⟩:=h; exact ⟨σ',H',I.unwish,q⟩
 | brk=>obtain ⟨σ',H',I,q⟩:=h; exact ⟨σ',H',I.unwish,q⟩
 | cont=>obtain ⟨σ',H',I,q⟩:=h; exact ⟨σ',H',I.unwish,q⟩
 | ret u=>obtain ⟨v,σ',H',I,r,q⟩:=h; exact ⟨v,σ',H',I.unwish,r,q⟩
theorem PSs.nox {st:List Stmt} {t:TS} (h:PSs X.nox st t):PSs X st t:=λpins s σ H D I hw =>
 wpAny_mono (h pins s σ H D (I.wish _) hw) (λ_ _ q=>q.unwish) λ_ _ z=>False.elim z
end
section
variable {X:Cx} {st:Stmt} {rest:List Stmt} {t u:TS} {e:Expr} {te:TE} {pos:Pos}
noncomputable def ZfE:TS:=λD σ H=>D.nx σ H
noncomputable def Zav (t u:TS):TS:=λD σ H=>t { D with nx:=u D } σ H
theorem j9:PSs X [] ZfE:=λ_ _ σ H _ I h=>wpAny_execs_nil ⟨σ,H,I,h⟩
theorem cO (h1:PS X st t) (h2:PSs X rest u):PSs X (st::rest) (Zav t u):=by
 intro pins s σ H D I h
 refine wpAny_execs_cons (thn (h1 pins s σ H { D with nx:=u D } I h) λf s1 q=>?_)
 cases f with
 | next =>
  obtain ⟨σ',H',I',q⟩:=q
  exact h2 pins s1 σ' H' D I' q
 | ret v=>exact q
 | brk=>exact q
 | cont=>exact q
theorem gP (h1:PS X st t):PSs X [st] t:=by
 intro pins s σ H D I h
 refine wpAny_execs_cons (thn (h1 pins s σ H D I h) λf s1 q=>?_)
 cases f with
 | next=>exact wpAny_execs_nil q
 | ret v=>exact q
 | brk=>exact q
 | cont=>exact q
theorem Inv.quiet {pins:List (Addr×Obj)} {σ:St} {H:Hp} {s:Shared} (I:Inv X pins σ H s):interactive X.env=false:=by simp [interactive,I.ok.kind]
noncomputable def mC (te:TE):TS:=λD σ H=>te σ H λ_ H1=>D.nx σ H1
theorem nN (he:PE X e te) (hs:swapsWith e none pos.line X.env=pure false:=by rfl):PS X (.Expr e pos) (mC te):=by
 intro pins s σ H D I h
 exact wpAny_Expr_any (thn (he pins s σ H _ I h) λv s1 ⟨x,H1,I1,r1,q1⟩=>⟨σ,H1,I1,q1⟩) I.quiet hs
noncomputable def ZfA (te:TE):TS:=λD σ H=>te σ H D.rt
theorem fu (he:PE X e te):PS X (.Return (some e) pos) (ZfA te):=by
 intro pins s σ H D I h
 exact wpAny_Return_some (thn (he pins s σ H _ I h) λv s1 ⟨x,H1,I1,r1,q1⟩=>⟨x,σ,H1,I1,r1,q1⟩)
noncomputable def ZfI (c:TT) (t u:TS):TS:=λD σ H=>c σ H λb H1=>if b=true then t D σ H1 else u D σ H1
theorem kb {c:Expr} {a b:List Stmt} {tc:TT} (hc:PT X c tc) (ha:PSs X a t) (hb:PSs X b u):PS X (.If c a b pos) (ZfI tc t u):=by
 intro pins s σ H D I h
 refine wpAny_If (thn (hc pins s σ H _ I h) λd s1 hz0=>?_)
 obtain ⟨H1,I1,q1⟩:=hz0
 cases d with
 | true=>exact ha pins s1 σ H1 D I1 q1
 | false=>exact hb pins s1 σ H1 D I1 q1
end
noncomputable abbrev TG:=V->St->Hp->(St->Hp->Prop)->Prop
noncomputable abbrev fg:=List V->St->Hp->(St->Hp->Prop)->Prop
noncomputable def PG (X:Cx) (target:Expr) (t:TG):Prop :=
 ∀ (pins:List (Addr×Obj)) (s:Shared) (σ:St) (H:Hp) (v:V) (u:Value) (Q:St->Hp->Prop),Inv X pins σ H s->RelV v u->t v σ H Q ->
  wpAny (model X.prog X.w) X.A (assign target X.env u) (λ_ s'=>∃ σ' H',Inv X pins σ' H' s'/\Q σ' H') X.xe s
noncomputable def PGs (X:Cx) (ts:List Expr) (t:fg):Prop :=
 ∀ (pins:List (Addr×Obj)) (s:Shared) (σ:St) (H:Hp) (vs:List V) (us:List Value) (Q:St->Hp->Prop),Inv X pins σ H s->Vals vs us->t vs σ H Q ->
  wpAny (model X.prog X.w) X.A (assignInOrder ((assignEach ts X.env).map (·.2)) us) (λ_ s'=>∃ σ' H',Inv X pins σ' H' s'/\Q σ' H') X.xe s
noncomputable abbrev tH:=V->V->V->Hp->(Hp->Prop)->Prop
noncomputable def ZeP (X:Cx) (t:tH):Prop :=
 ∀ (pins:List (Addr×Obj)) (s:Shared) (σ:St) (H:Hp) (o i v:V) (ov iv u:Value) (Q:Hp->Prop),Inv X pins σ H s->RelV o ov->RelV i iv->RelV v u->t o i v H Q ->
  wpAny (model X.prog X.w) X.A (setItem ov iv u) (λ_ s'=>∃ H',Inv X pins σ H' s'/\Q H') X.xe s
noncomputable abbrev tJ:=V->V->Hp->VK->Prop
noncomputable def PIp (X:Cx) (op:Operator) (t:tJ):Prop :=
 ∀ (pins:List (Addr×Obj)) (s:Shared) (σ:St) (H:Hp) (x y:V) (v u:Value) (Q:VK),Inv X pins σ H s->RelV x v->RelV y u->t x y H Q ->
  wpAny (model X.prog X.w) X.A (inplaceOp op v u) (EP X pins σ Q) X.xe s
section
variable {X:Cx} {pos:Pos}
noncomputable def cp (i:Nat):TG:=λv σ H Q=>Q (σ.set i (some v)) H
theorem aK {i:Nat} {x:Str} (hN:X.N.Nodup) (hi:X.N[i]?=some x) (hx:jC X.env.scope x) (hf:X.fn x=true\/X.env.scope.names.lookup x=some .local:=by first | exact .inl rfl | exact .inr rfl | assumption):PG X (.Name x pos) (cp i):=by
 intro pins s σ H v u Q I r h
 exact wpAny_assign_Name (iL I hN hi hx r (λs' I'=>⟨_,H,I',h⟩) hf)
noncomputable def ZiZ:fg:=λvs σ H Q=>vs=[]/\Q σ H
noncomputable def Zi0 (t:TG) (u:fg):fg:=λvs σ H Q=>∃ v r,vs=v::r/\t v σ H λσ' H'=>u r σ' H' Q
theorem Zg7:PGs X [] ZiZ:=by
 intro pins s σ H vs us Q I r h
 obtain ⟨e,h⟩:=h
 subst e
 cases r
 exact assignInOrder_nil ⟨σ,H,I,h⟩
theorem Zg8 {e:Expr} {es:List Expr} {t:TG} {u:fg} (h1:PG X e t) (h2:PGs X es u)
  (hs:(assignEach (e::es) X.env).map (·.2)=assign e X.env::(assignEach es X.env).map (·.2):=by rfl):PGs X (e::es) (Zi0 t u):=by
 intro pins s σ H vs us Q I r h
 obtain ⟨v,vr,e1,h⟩:=h
 subst e1
 cases r with
 | cons r rr =>
  rw [hs]
  refine assignInOrder_cons (thn (h1 pins s σ H _ _ _ I r h) λ_ s1 hz0=>?_)
  obtain ⟨σ1,H1,I1,q1⟩:=hz0
  exact h2 pins s1 σ1 H1 _ _ Q I1 rr q1
noncomputable def ZiY (K:PySem.W.Frag) (n:Nat) (t:fg):TG:=λv σ H Q=>∃ a xs,v=.ref a/\SqT K H a xs/\xs.length=n/\t xs σ H Q
theorem Zg9 {es:List Expr} {k:Nat} {t:fg} {n:Nat} (hc:X.calm=true) (h:PGs X es t)
  (hn:(assignEach es X.env).length=n:=by rfl) (hst:(assignEach es X.env).findIdx? (·.1)=none:=by rfl):PG X (.Tuple es k pos) (ZiY X.K n t):=by
 intro pins s σ H v u Q I r hw
 obtain ⟨a,xs,e1,hq,hl,hw⟩:=hw
 subst e1
 cases r
 obtain ⟨its,rv,ht,hz⟩:=I.tuple hq
 refine assign_Tuple_tuple (I.ok.hd hc) ht (by simp [hn,<- hl,rv.length]) hst λh' hx=>?_
 have I1:Inv X pins σ H { s with heap:=h' }:=I.kept (t':=s.toks) λb o e=>hx b o (Nat.ne_of_lt (Heap.lt_size e)) e
 exact h pins _ σ H xs _ Q I1 (by simpa using rv) hw
noncomputable def oV (to ti:TE) (t:tH):TG:=λv σ H Q=>to σ H λo H1=>ti σ H1 λi H2=>t o i v H2 λH3=>Q σ H3
theorem iZ {o i:Expr} {to ti:TE} {t:tH} (ho:PE X o to) (hi:PE X i ti) (hs:ZeP X t)
  (ha:∀ v,assign (.Subscript o i pos) X.env v=(do
   let ov <- holding [v] (eval o X.env)
   let iv <- holding [v,ov] (eval i X.env)
   standAt pos
   holding [v,ov,iv] (setItem ov iv v)
   release [v,ov,iv] []):=by intro _; rfl):PG X (.Subscript o i pos) (oV to ti t):=by
 intro pins s σ H v u Q I r h
 rw [ha]
 refine wpAny_bind (wpAny_holding (thn (ho pins s σ H _ I h) λov s1 hz0=>?_))
 obtain ⟨x,H1,I1,r1,q1⟩:=hz0
 refine wpAny_bind (wpAny_holding (thn (hi pins s1 σ H1 _ I1 q1) λiv s2 hz0=>?_))
 obtain ⟨y,H2,I2,r2,q2⟩:=hz0
 refine wpAny_bind (wpAny_standAt (wpAny_bind (wpAny_holding (thn (hs pins s2 σ H2 x y v ov iv u _ I2 r1 r2 r q2) λ_ s3 hz0=>?_))))
 obtain ⟨H3,I3,q3⟩:=hz0
 exact wpAny_release ⟨σ,H3,I3,q3⟩
noncomputable def ce (te:TE) (g:TG):TS:=λD σ H=>te σ H λx H1=>g x σ H1 D.nx
theorem eU {tg e:Expr} {te:TE} {g:TG} (he:PE X e te) (hg:PG X tg g) (hs:swapsWithSole [tg] e pos.line X.env=pure false:=by rfl) (hw:swappedStores [tg] e X.env=pure none:=by rfl)
  (h1:(assignEach [tg] X.env).map (·.2)=[assign tg X.env]:=by rfl):PS X (.Assign [tg] e pos) (ce te g):=by
 intro pins s σ H D I h
 refine wpAny_Assign_stores (thn (he pins s σ H _ I h) λv s1 hz0=>?_) hs hw
 obtain ⟨x,H1,I1,r1,q1⟩:=hz0
 rw [h1]
 exact thn (hg pins s1 σ H1 x v _ I1 r1 q1) λ_ s2 q=>q
theorem aU {i:Nat} {x:Str} {e:Expr} {te:TE} {pos':Pos} (hN:X.N.Nodup) (hi:X.N[i]?=some x) (hx:jC X.env.scope x) (he:PE X e te) (hs:swapsWith e (some (.Name x pos')) pos.line X.env=pure false:=by rfl) (hf:X.fn x=true\/X.env.scope.names.lookup x=some .local:=by first | exact .inl rfl | exact .inr rfl | assumption) :
  PS X (.Assign [.Name x pos'] e pos) (ce te (cp i)):=by
 intro pins s σ H D I h
 refine wpAny_Assign_Name (thn (he pins s σ H _ I h) λv s1 hz0=>?_) hs
 obtain ⟨y,H1,I1,r1,q1⟩:=hz0
 exact iL I1 hN hi hx r1 (λs2 I2=>⟨_,H1,I2,q1⟩) hf
noncomputable def Zaw (i j:Nat) (ta:TA):TS:=λD σ H=>ta σ H λvs H1=>∃ v w,vs=[v,w]/\D.nx ((σ.set i (some v)).set j (some w)) H1
theorem ka {i j:Nat} {x y:Str} {a b:Expr} {ta:TA} {px py pt:Pos} {kt k2 pt2} (hc:X.calm=true) (hN:X.N.Nodup) (hi:X.N[i]?=some x) (hj:X.N[j]?=some y) (hij:i≠j)
  (hx:X.env.scope.names.lookup x=some .local) (hy:X.env.scope.names.lookup y=some .local) (ha:PA X [a,b] ta)
  (hw:swappedStores [.Tuple [.Name x px,.Name y py] kt pt] (.Tuple [a,b] k2 pt2) X.env=pure (some [x,y]))
  (hs:swapsWithSole [.Tuple [.Name x px,.Name y py] kt pt] (.Tuple [a,b] k2 pt2) pos.line X.env=pure false:=by rfl) :
  PS X (.Assign [.Tuple [.Name x px,.Name y py] kt pt] (.Tuple [a,b] k2 pt2) pos) (Zaw i j ta):=by
 intro pins s σ H D I h
 rw [exec_Assign_arm]
 refine wpAny_bind (wpAny_standAt ?_)
 rw [hs]
 refine wpAny_bind (wpAny_pure ?_)
 rw [if_neg (by decide)]
 refine wpAny_bind (Tuple_ (thn (ha _ pins s σ H _ I h) λus s1 hz0=>?_))
 obtain ⟨vs,H1,I1,r1,q1⟩:=hz0
 obtain ⟨v,w,e1,q1⟩:=q1
 subst e1
 obtain ⟨u1,u2,rfl,rv,rw'⟩:∃ u1 u2,us=[u1,u2]/\RelV v u1/\RelV w u2:=by
  cases r1 with
  | cons p q =>
   cases q with
   | cons p' q' =>
    cases q'
    exact ⟨_,_,rfl,p,p'⟩
 refine wpAny_newObj_type ?_ (by show 2<=sizeLine; decide)
 have I2:Inv X pins σ H1 { s1 with heap:=s1.heap.push { cls:=.type "tuple",data:=.seq [u1,u2].toArray } }:=I1.kept (t':=s1.toks) λb o e=>Heap.get?_push_of_some _ e
 rw [hw]
 refine wpAny_bind (wpAny_pure ?_)
 show wpAny (model X.prog X.w) X.A (do rule "assign.swapped-stores"; let items <- unpackItems (.ref s1.heap.objs.size) 2 none; assignInOrder [λv=>bindName X.env y v,λv=>bindName X.env x v] items.reverse; pure Flow.next) _ _ _
 refine wpAny_bind (wpAny_rule (wpAny_bind (unpackItems_tuple (items:=#[u1,u2]) (I.ok.hd hc) (IsTup.new s1.heap _) λh' hx'=>?_)))
 have I3:=I2.kept (h':=h') (t':=s1.toks) λb o e=>hx' b o (Nat.ne_of_lt (Heap.lt_size e)) e
 show wpAny _ _ (assignInOrder [λv=>bindName X.env y v,λv=>bindName X.env x v] [u2,u1] >>= λ_=>pure Flow.next) _ _ _
 refine wpAny_bind (assignInOrder_cons (wpAny_bindName (iL I3 hN hj (.inl hy) rw' (λs2 I4=>?_) (.inr hy))))
 refine assignInOrder_cons (wpAny_bindName (iL I4 hN hi (.inl hx) rv (λs3 I5=>assignInOrder_nil (wpAny_pure ?_)) (.inr hx)))
 rw [List.set_comm _ _ (Ne.symm hij)] at I5
 exact ⟨_,H1,I5,q1⟩
noncomputable def ZaC (i:Nat) (te:TE) (ti:tJ):TS:=λD σ H=>∃ x,σ[i]?=some (some x)/\te σ H λy H1=>ti x y H1 λz H2=>D.nx (σ.set i (some z)) H2
theorem Zb1 {i:Nat} {x:Str} {e:Expr} {te:TE} {op:Operator} {ti:tJ} {pos':Pos} (hN:X.N.Nodup) (hi:X.N[i]?=some x) (hx:jC X.env.scope x) (he:PE X e te) (ho:PIp X op ti) (hf:X.fn x=true\/X.env.scope.names.lookup x=some .local:=by first | exact .inl rfl | exact .inr rfl | assumption) :
  PS X (.AugAssign (.Name x pos') op e pos) (ZaC i te ti):=by
 intro pins s σ H D I h
 obtain ⟨v,e1,h⟩:=h
 obtain ⟨m,hn,hl⟩:=I.loc
 have vis:l5 X.env.scope x:=by rcases hx with k | k; exact .inl k; exact .inr (.inl k)
 obtain ⟨u,r,l⟩:=hl i x v hi e1 vis
 refine wpAny_AugAssign_Name ?_
 have go:wpAny (model X.prog X.w) X.A (eval e X.env) (λw s₂=>wpAny (model X.prog X.w) X.A (inplaceOp op u w) (λr s₃=>wpAny (model X.prog X.w) X.A (storeName X.env x r) (λ_=>SP X pins D .next) X.xe s₃) X.xe s₂) X.xe s:=by
  refine thn (he pins s σ H _ I h) λw s1 hz0=>?_
  obtain ⟨y,H1,I1,r1,q1⟩:=hz0
  refine thn (ho pins s1 σ H1 v y u w _ I1 r r1 q1) λz s2 hz0=>?_
  obtain ⟨zv,H2,I2,r2,q2⟩:=hz0
  exact iL I2 hN hi hx r2 (λs3 I3=>⟨_,H2,I3,q2⟩) hf
 rcases l with ⟨hk,hm⟩ | ⟨hk,c,hc,hcell⟩
 ·exact wpAny_loadName_local I.ok.kind hk hn hm go
 ·rcases hk with hk | hk
  ·exact wpAny_loadName_cell I.ok.kind hk hc hcell go
  ·rcases hx with k | k
   ·have:X.env.scope.names.lookup x=some .free:=hk
    rw [k] at this; cases this
   ·have:X.env.scope.names.lookup x=some .free:=hk
    rw [k] at this; cases this
end
section
variable {X:Cx} {pos:Pos}
noncomputable def Zfs (c:TT) (tb:TS):TS:=λD σ H=>∃ W:Nat->St->Hp->Prop,(∃ m,W m σ H)/\∀ m σ H,W m σ H ->
 c σ H λb H1=>if b=true then ∃ N:St->Hp->Prop,(∀ σ' H',N σ' H'->∃ m',m' < m/\W m' σ' H')/\tb { D with nx:=N,ct:=N,bk:=D.nx } σ H1 else D.nx σ H1
theorem ZgP {c:Expr} {body:List Stmt} {tc:TT} {tb:TS} (hp:PassesOwn (model X.prog X.w) X.A X.env X.xe) (hc:PT X c tc) (hb:PSs X body tb):PS X (.While c body [] pos) (Zfs tc tb):=by
 intro pins s σ H D I h
 obtain ⟨W,⟨m0,w0⟩,turn⟩:=h
 refine wpAny_While (codeAny_whileLoop (λn s'=>∃ σ' H',Inv X pins σ' H' s'/\W n σ' H') ?_ m0 ⟨σ,H,I,w0⟩)
 rintro n s1 ⟨σ1,H1,I1,w1⟩
 refine wpAny_passesOwn hp (thn (hc pins s1 σ1 H1 _ I1 (turn n σ1 H1 w1)) λb s2 hz0=>?_)
 obtain ⟨H2,I2,q2⟩:=hz0
 cases b with
 | true =>
  obtain ⟨N,hN,q2⟩:=q2
  rw [if_pos rfl]
  refine wpAny_passesOwn hp (thn (hb pins s2 σ1 H2 _ I2 q2) λf s3 q3=>?_)
  cases f with
  | next =>
   obtain ⟨σ3,H3,I3,n3⟩:=q3
   obtain ⟨m',hm,w3⟩:=hN σ3 H3 n3
   exact ⟨m',hm,σ3,H3,I3,w3⟩
  | cont =>
   obtain ⟨σ3,H3,I3,n3⟩:=q3
   obtain ⟨m',hm,w3⟩:=hN σ3 H3 n3
   exact ⟨m',hm,σ3,H3,I3,w3⟩
  | brk=>exact q3
  | ret v=>exact q3
 | false =>
  rw [if_neg Bool.false_ne_true]
  exact wpAny_execs_nil ⟨σ1,H2,I2,q2⟩
end
structure It where
 go:Nat->Hp->Prop
 yld:Nat->Hp->V->Hp->Prop
 stop:Nat->Hp->Prop
noncomputable def da (X:Cx) (pins:List (Addr×Obj)) (H:Hp) (b:Addr):Prop :=
 H b=none/\b≠X.env.locals/\b ∉ X.fs/\(b∈X.ex\/X.s₀.heap.objs.size<=b)/\(∀ x c,X.env.cells.lookup x=some c->c≠b)/\∀ p∈X.pn++pins,p.1≠b
theorem Inv.fpOk {X:Cx} {pins:List (Addr×Obj)} {σ:St} {H H':Hp} {s:Shared} {b:Addr} (I:Inv X pins σ H s) (hb:s.heap.objs.size<=b) (hn:H' b=none):da X pins H' b:=by
 refine ⟨hn,Nat.ne_of_gt (Nat.lt_of_lt_of_le I.lt hb),I.nofs hb,.inr (Nat.le_trans I.sz hb),λx c e z=>?_,λp hp z=>?_⟩
 ·obtain ⟨v,q⟩:=I.cell x c e
  exact absurd (Nat.lt_of_lt_of_le q.lt (by rw [z]; exact hb)) (Nat.lt_irrefl _)
 ·exact absurd (Nat.lt_of_lt_of_le (Heap.lt_size (I.pin p hp).1) (by rw [z]; exact hb)) (Nat.lt_irrefl _)
structure Turn (P:Program) (w:World) (K:PySem.W.Frag) (tg:Expr) (J:It) (fp:List Addr) (it:Addr) (tn:Nat->Heap->Prop):Prop where
 mem:it∈fp
 obj:∀ i h,tn i h->∀ b∈fp,∃ o,h.get? b=some o/\∀ v,o.data≠.cell v
 keep:∀ i h h',tn i h->(∀ b∈fp,∀ o,h.get? b=some o->h'.get? b=some o)->tn i h'
 item:∀ (X:Cx),X.prog=P->X.w=w->X.K=K->X.calm=true->∀ (i:Nat) (pins:List (Addr×Obj)) (s:Shared) (σ:St) (H:Hp) (E:Value->Shared->Prop),Inv X pins σ H s->(∀ b∈fp,da X pins H b)->tn i s.heap->J.go i H ->
  wpAny (model P w) X.A (pyNext (.ref it)) (λr s1=>∃ u,r=some u /\
   wpAny (model P w) X.A (letOwnedTupleGo tg (.ref it) u) (λ_ s2=>∃ x H',Inv X pins σ H' s2/\RelV x u/\J.yld i H x H'/\tn (i+1) s2.heap/\∀ b∈fp,H' b=none) E s1) E s
 done:∀ (X:Cx),X.prog=P->X.w=w->X.K=K->X.calm=true->∀ (i:Nat) (pins:List (Addr×Obj)) (s:Shared) (σ:St) (H:Hp) (E:Value->Shared->Prop),Inv X pins σ H s->(∀ b∈fp,da X pins H b)->tn i s.heap->J.stop i H ->
  wpAny (model P w) X.A (pyNext (.ref it)) (λr s1=>r=none/\Inv X pins σ H s1) E s
 self:∀ (A:Around) (i:Nat) (s:Shared) (Q:Value->Shared->Prop) (E:Value->Shared->Prop),tn i s.heap->Q (.ref it) s->wpAny (model P w) A (pyIter (.ref it)) Q E s
noncomputable abbrev TI:=St->Hp->(It->Hp->Prop)->Prop
noncomputable def iG (X:Cx) (pins:List (Addr×Obj)) (σ:St) (tg:Expr) (R:It->Hp->Prop) (itv:Value) (s2:Shared):Prop :=
 ∃ (it:Addr) (fp:List Addr) (tn:Nat->Heap->Prop) (J:It) (H':Hp),itv=.ref it/\Inv X pins σ H' s2/\Turn X.prog X.w X.K tg J fp it tn/\tn 0 s2.heap/\(∀ b∈fp,da X pins H' b)/\R J H'
noncomputable def PI (X:Cx) (tg iter:Expr) (wi:TI):Prop :=
 ∀ (pins:List (Addr×Obj)) (s:Shared) (σ:St) (H:Hp) (R:It->Hp->Prop),Inv X pins σ H s->wi σ H R ->
  wpAny (model X.prog X.w) X.A (eval iter X.env) (λv s1=>wpAny (model X.prog X.w) X.A (pyIter v) (iG X pins σ tg R) X.xe s1) X.xe s
theorem ic {M:Model} {A:Around} {E:Value->Shared->Prop} {s:Shared} {tg:Expr} {it:Addr} {u:Value} {o:Obj} {n:String} {vs:Array Value} {Q:Unit->Shared->Prop} (ho:s.heap.get? it=some o) (hc:o.cls=.type n) (hd:o.data=.fields vs)
  (hn:["enumerate","zip","dict_itemiterator","dict_reverseitemiterator","odict_iterator","itertools.zip_longest","itertools.pairwise"].contains n=false) (hQ:Q () s):wpAny M A (letOwnedTupleGo tg (.ref it) u) Q E s:=by
 unfold letOwnedTupleGo
 cases tg <;> first
  | exact wpAny_pure hQ
  | (cases u <;> first
    | exact wpAny_pure hQ
    | (refine wpAny_bind (wpAny_load ho ?_)
       rw [hc,hd]
       show wpAny M A (if (["enumerate","zip","dict_itemiterator","dict_reverseitemiterator","odict_iterator","itertools.zip_longest","itertools.pairwise"].contains n && vs[0]? == some (rawInt _))=true then _ else _) Q E s
       rw [if_neg (by intro h; rw [hn,Bool.false_and] at h; cases h)]
       exact wpAny_pure hQ))
noncomputable def tQ (K:PySem.W.Frag) (a:Addr):It :=
 ⟨λi H=>∃ xs x,SqL K H a xs/\xs[i]?=some x,λi H x H'=>H'=H/\∀ xs,SqL K H a xs->xs[i]?=some x,λi H=>∃ xs,SqL K H a xs/\xs.length<=i⟩
noncomputable def tO (K:PySem.W.Frag) (a:Addr):It :=
 ⟨λi H=>∃ xs x,SqT K H a xs/\xs[i]?=some x,λi H x H'=>H'=H/\∀ xs,SqT K H a xs->xs[i]?=some x,λi H=>∃ xs,SqT K H a xs/\xs.length<=i⟩
noncomputable def gz (lo:Int) (n:Nat):It:=⟨λi _=>i < n,λi H x H'=>H'=H/\x=.int (lo+i),λi _=>n<=i⟩
theorem Zfj {P:Program} {w:World} {K:PySem.W.Frag} {tg:Expr} (a it:Addr):Turn P w K tg (tQ K a) [it] it (λi h=>h.IsListIter it a i) where
 mem:=by simp
 obj:=λi h st b hb=>by
  have e:b=it:=by simpa using hb
  subst e
  obtain ⟨o,e,c,d⟩:=st
  exact ⟨o,e,λv z=>by rw [d] at z; cases z⟩
 keep:=λi h h' st k=>st.at λo e=>k it (by simp) o e
 item:=by
  intro X hP hw hK hc i pins s σ H E I hf st hg
  subst hP hw hK
  obtain ⟨xs,x,hq,hx⟩:=hg
  obtain ⟨its,rv,p,hz⟩:=I.list hq
  obtain ⟨u,hu,ru⟩:=rv.get hx
  obtain ⟨f0,f1,f2,f3,f4,f5⟩:=hf it (by simp)
  refine wpAny_pyNext_list_item st p.isList (x:=u) (by simpa using hu) λh' st' sb=>?_
  have I1:Inv X pins σ H { s with heap:=h' }:=I.turned (t':=s.toks) (λb o hb e=>(sb.2 b hb).trans e) f0 f1 f3 f4 f5
  obtain ⟨o,e,c,d⟩:=id st'
  exact ⟨u,rfl,ic (s:={ s with heap:=h' }) e c d (by decide) ⟨x,H,I1,ru,⟨rfl,λys hy=>by rw [I.list_inj hy hq]; exact hx⟩,st',λb hb=>(hf b hb).1⟩⟩
 done:=by
  intro X hP hw hK hc i pins s σ H E I hf st hg
  subst hP hw hK
  obtain ⟨xs,hq,hx⟩:=hg
  obtain ⟨its,rv,p,hz⟩:=I.list hq
  obtain ⟨f0,f1,f2,f3,f4,f5⟩:=hf it (by simp)
  have hl:=rv.length
  exact wpAny_pyNext_list_end (I.ok.hd hc) st p.isList (by simp; omega) λh' eb=>⟨rfl,I.turned (t':=s.toks) (λb o hb e=>eb b o hb e) f0 f1 f3 f4 f5⟩
 self:=λ_ _ _ _ _ st h=>wpAny_pyIter_listiter st h
theorem Zfg {P:Program} {w:World} {K:PySem.W.Frag} {tg:Expr} (a it:Addr):Turn P w K tg (tO K a) [it] it (λi h=>h.IsTupleIter it a i) where
 mem:=by simp
 obj:=λi h st b hb=>by
  have e:b=it:=by simpa using hb
  subst e
  obtain ⟨o,e,c,d⟩:=st
  exact ⟨o,e,λv z=>by rw [d] at z; cases z⟩
 keep:=λi h h' st k=>st.at λo e=>k it (by simp) o e
 item:=by
  intro X hP hw hK hc i pins s σ H E I hf st hg
  subst hP hw hK
  obtain ⟨xs,x,hq,hx⟩:=hg
  obtain ⟨its,rv,p,hz⟩:=I.tuple hq
  obtain ⟨u,hu,ru⟩:=rv.get hx
  obtain ⟨f0,f1,f2,f3,f4,f5⟩:=hf it (by simp)
  refine wpAny_pyNext_tuple_item st (show s.heap.IsTuple a its.toArray from p) (x:=u) (by simpa using hu) λh' st' sb=>?_
  have I1:Inv X pins σ H { s with heap:=h' }:=I.turned (t':=s.toks) (λb o hb e=>(sb.2 b hb).trans e) f0 f1 f3 f4 f5
  obtain ⟨o,e,c,d⟩:=id st'
  exact ⟨u,rfl,ic (s:={ s with heap:=h' }) e c d (by decide) ⟨x,H,I1,ru,⟨rfl,λys hy=>by rw [I.tuple_inj hy hq]; exact hx⟩,st',λb hb=>(hf b hb).1⟩⟩
 done:=by
  intro X hP hw hK hc i pins s σ H E I hf st hg
  subst hP hw hK
  obtain ⟨xs,hq,hx⟩:=hg
  obtain ⟨its,rv,p,hz⟩:=I.tuple hq
  obtain ⟨f0,f1,f2,f3,f4,f5⟩:=hf it (by simp)
  have hl:=rv.length
  exact wpAny_pyNext_tuple_end (I.ok.hd hc) st (show s.heap.IsTuple a its.toArray from p) (by simp; omega) λh' eb=>⟨rfl,I.turned (t':=s.toks) (λb o hb e=>eb b o hb e) f0 f1 f3 f4 f5⟩
 self:=λ_ _ _ _ _ st h=>wpAny_pyIter_tupleiter st h
theorem Zfi {P:Program} {w:World} {K:PySem.W.Frag} {tg:Expr} (it:Addr) (lo:Int) (n:Nat):Turn P w K tg (gz lo n) [it] it (λi h=>IsRangeIter h it (lo+(i:Nat) * 1) ((n:Int) - (i:Nat)) 1) where
 mem:=by simp
 obj:=λi h st b hb=>by
  have e:b=it:=by simpa using hb
  subst e
  exact ⟨_,st,λv z=>by
   have z':Data.fields _=Data.cell v:=z
   cases z'⟩
 keep:=λi h h' st k=>k it (by simp) _ st
 item:=by
  intro X hP hw hK hc i pins s σ H E I hf st hg
  subst hP hw hK
  obtain ⟨f0,f1,f2,f3,f4,f5⟩:=hf it (by simp)
  have W:=Walks.range (prog:=X.prog) (w:=X.w) (I.ok.hd hc) it lo 1 n
  refine W.item i s _ _ hg st λv h' tk hv st' kk=>?_
  obtain ⟨t,rfl⟩:=hv
  have I1:Inv X pins σ H { s with heap:=h',toks:=tk }:=I.turned (λb o hb e=>kk b o (by simpa using hb) e) f0 f1 f3 f4 f5
  refine ⟨_,rfl,ic (s:={ s with heap:=h',toks:=tk }) (n:="range_iterator") st' rfl rfl (by decide) ⟨.int (lo+i),H,I1,⟨t,?_⟩,⟨rfl,rfl⟩,st',λb hb=>(hf b hb).1⟩⟩
  rw [Int.mul_one]
 done:=by
  intro X hP hw hK hc i pins s σ H E I hf st hg
  subst hP hw hK
  obtain ⟨f0,f1,f2,f3,f4,f5⟩:=hf it (by simp)
  exact wpAny_pyNext_range_end (I.ok.hd hc) st (by have:n<=i:=hg; omega) λh' eb=>⟨rfl,I.turned (t':=s.toks) (λb o hb e=>eb b o hb e) f0 f1 f3 f4 f5⟩
 self:=λ_ _ _ _ _ st h=>wpAny_pyIter_rangeiter st h
section
variable {X:Cx} {tg:Expr}
theorem Zbv {pins:List (Addr×Obj)} {σ:St} {H:Hp} {s:Shared} {R:It->Hp->Prop} {E:Value->Shared->Prop} {lo hi:Int} {t u v:Tok} {tk:Nat} (I:Inv X pins σ H s) (h1:-(2 ^ 62)<=lo) (h2:lo < 2 ^ 62) (h3:-(2 ^ 62)<=hi) (h4:hi < 2 ^ 62)
  (q:R (gz lo (hi - lo).toNat) H):wpAny (model X.prog X.w) X.A (pyIter (.ref s.heap.objs.size)) (iG X pins σ tg R) E { s with heap:=s.heap.push { cls:=.type "range",data:=.fields #[.int lo t,.int hi u,.int 1 v] },toks:=tk }:=by
 refine wpAny_pyIter_range (IsRange.new ..) (small_one h1 h2 h3 h4) ?_
 have I1:Inv X pins σ H { s with heap:=s.heap.push { cls:=.type "range",data:=.fields #[.int lo t,.int hi u,.int 1 v] },toks:=tk }:=I.kept λb o e=>Heap.get?_push_of_some _ e
 refine ⟨(s.heap.push { cls:=.type "range",data:=.fields #[.int lo t,.int hi u,.int 1 v] }).objs.size,[(s.heap.push { cls:=.type "range",data:=.fields #[.int lo t,.int hi u,.int 1 v] }).objs.size],_,_,H,rfl,
  I1.kept (t':=tk) λb o e=>Heap.get?_push_of_some _ e,Zfi _ lo (hi - lo).toNat,?_,λb hb=>?_,q⟩
 ·have e1:lo+((0:Nat):Int) * 1=lo:=by simp
  have e2:(((hi - lo).toNat:Nat):Int) - ((0:Nat):Int)=Builtin.Range.rangeSize lo hi 1:=by rw [rangeSize_one]; split <;> omega
  show IsRangeIter _ _ (lo+((0:Nat):Int) * 1) ((((hi - lo).toNat:Nat):Int) - ((0:Nat):Int)) 1
  rw [e1,e2]
  exact Heap.get?_push_size _ rfl
 ·have e:b=(s.heap.push { cls:=.type "range",data:=.fields #[.int lo t,.int hi u,.int 1 v] }).objs.size:=by simpa using hb
  subst e
  exact I1.fpOk (Nat.le_refl _) (I1.hok.fresh (Nat.le_refl _))
noncomputable def Zc9 (ta:TA):TI:=λσ H R=>ta σ H λvs H1=>∃ j:Int,vs=[.int j]/\-(2 ^ 62)<=j/\j < 2 ^ 62/\R (gz 0 j.toNat) H1
noncomputable def Zc8 (ta:TA):TI:=λσ H R=>ta σ H λvs H1=>∃ i j:Int,vs=[.int i,.int j]/\(-(2 ^ 62)<=i/\i < 2 ^ 62/\-(2 ^ 62)<=j/\j < 2 ^ 62)/\R (gz i (j - i).toNat) H1
theorem gS {a:Expr} {ta:TA} {p pos:Pos} (hg:Gl X "range") (hm:X.mg "range"=none) (ha:PA X [a] ta) (hs:starEach [a] X.env=[(false,eval a X.env)]:=by rfl):PI X tg (.Call (.Name "range" p) [a] [] pos) (Zc9 ta):=by
 intro pins s σ H R I h
 refine Call_ (gk I hg hm boot_range (PyProof.Rows.callWith_type1 (thn (ha pos pins s σ H _ I h) λus s1 hz0=>?_) hs rfl))
 obtain ⟨vs,H1,I1,r1,q1⟩:=hz0
 obtain ⟨j,e,q1,q2,q⟩:=q1
 subst e
 cases r1 with
 | cons r rr =>
  cases rr
  obtain ⟨t,rfl⟩:=r
  exact call_range_1 (Zbv I1 (by omega) (by omega) q1 q2 (by simpa using q))
theorem Zb6 {a b:Expr} {ta:TA} {p pos:Pos} (hg:Gl X "range") (hm:X.mg "range"=none) (ha:PA X [a,b] ta) (hs:starEach [a,b] X.env=[(false,eval a X.env),(false,eval b X.env)]:=by rfl) (hs2:starEach [b] X.env=[(false,eval b X.env)]:=by rfl) :
  PI X tg (.Call (.Name "range" p) [a,b] [] pos) (Zc8 ta):=by
 intro pins s σ H R I h
 refine Call_ (gk I hg hm boot_range (PyProof.Rows.callWith_type1 (thn (ha pos pins s σ H _ I h) λus s1 hz0=>?_) (by rw [hs,hs2]) (by rw [hs2]; rfl)))
 obtain ⟨vs,H1,I1,r1,q1⟩:=hz0
 obtain ⟨i,j,e,⟨q1,q2,q3,q4⟩,q⟩:=q1
 subst e
 cases r1 with
 | cons r rr =>
  cases rr with
  | cons r' rr =>
   cases rr
   obtain ⟨t,rfl⟩:=r
   obtain ⟨t',rfl⟩:=r'
   exact call_range_2 (Zbv I1 q1 q2 q3 q4 q)
noncomputable def ZfK (wi:TI) (g:TG) (tb:TS):TS:=λD σ H=>wi σ H λJ H1=>∃ W:Nat->Nat->St->Hp->Prop,(∃ m,W 0 m σ H1)/\∀ i m σ H,W i m σ H ->
 (J.stop i H/\D.nx σ H)\/(J.go i H/\∃ N:St->Hp->Prop,(∀ σ' H',N σ' H'->∃ m',m' < m/\W (i+1) m' σ' H')/\∀ x H',J.yld i H x H'->g x σ H' λσ2 H2=>tb { D with nx:=N,ct:=N,bk:=D.nx } σ2 H2)
noncomputable def dc (fp:List Addr) (h:Heap):List (Addr×Obj):=fp.filterMap λb=>(h.get? b).map λo=>(b,o)
theorem cR {fp:List Addr} {h:Heap} {b:Addr} {o:Obj} (hb:b∈fp) (e:h.get? b=some o):(b,o)∈dc fp h:=List.mem_filterMap.mpr ⟨b,hb,by rw [e]; rfl⟩
theorem ZhC {fp:List Addr} {h:Heap} {p:Addr×Obj} (hp:p∈dc fp h):p.1∈fp/\h.get? p.1=some p.2:=by
 obtain ⟨b,hb,e⟩:=List.mem_filterMap.mp hp
 cases q:h.get? b with
 | none=>rw [q] at e; cases e
 | some o =>
  rw [q] at e
  have e':(b,o)=p:=Option.some.inj e
  subst e'
  exact ⟨hb,q⟩
theorem Inv.pinned {pins:List (Addr×Obj)} {σ:St} {H:Hp} {s:Shared} {fp:List Addr} (I:Inv X pins σ H s) (hf:∀ b∈fp,da X pins H b) (ho:∀ b∈fp,∃ o,s.heap.get? b=some o/\∀ v,o.data≠.cell v):Inv X (pins++dc fp s.heap) σ H s :=
 I.pins_of λp hp=>(List.mem_append.mp hp).elim (λz=>I.pin p (List.mem_append_right _ z)) λz=>by
  obtain ⟨hb,e⟩:=ZhC z
  obtain ⟨f0,f1,f2,_⟩:=hf p.1 hb
  obtain ⟨o,e',d⟩:=ho p.1 hb
  rw [e] at e'; cases e'
  exact ⟨e,f0,f1,f2,d⟩
theorem Inv.unpinned {pins pl:List (Addr×Obj)} {σ:St} {H:Hp} {s:Shared} (I:Inv X (pins++pl) σ H s):Inv X pins σ H s:=I.pins_of λp hp=>I.pin p (List.mem_append_right _ (List.mem_append_left _ hp))
theorem ZgS {iter:Expr} {body:List Stmt} {wi:TI} {g:TG} {tb:TS} {pos:Pos} (hp:PassesOwn (model X.prog X.w) X.A X.env X.xe) (hc:X.calm=true) (hi:PI X tg iter wi) (hg:PG X tg g) (hb:PSs X body tb)
  (hs:∀ x,foldedSetIterable iter X.env x=pure x:=by intro _; rfl):PS X (.For tg iter body [] pos) (ZfK wi g tb):=by
 intro pins s σ H D I h
 refine wpAny_For (thn (hi pins s σ H _ I h) λv s1 h1=>thn h1 λitv s2 h2=>?_) hs
 obtain ⟨it,fp,tn,J,H2,e,I2,T,st2,f2,W,⟨m0,w0⟩,turn⟩:=h2
 subst e
 -- what stays true of the iterator's objects through the loop
 have stat:∀ {H':Hp},(∀ b∈fp,H' b=none)->∀ b∈fp,da X pins H' b:=λhn b hb=>⟨hn b hb,(f2 b hb).2⟩
 refine codeAny_forLoop_any (λn s'=>∃ i σ' H',Inv X pins σ' H' s'/\tn i s'.heap/\(∀ b∈fp,H' b=none)/\W i n σ' H') ?_ m0 ⟨0,σ,H2,I2,st2,λb hb=>(f2 b hb).1,w0⟩
 rintro n s3 ⟨i,σ3,H3,I3,st3,fr3,w3⟩
 rcases turn i n σ3 H3 w3 with ⟨stop,qn⟩ | ⟨go,N,hN,step⟩
 ·refine wpAny_passesOwn hp (thn (T.done X rfl rfl rfl hc i pins s3 σ3 H3 X.xe I3 (stat fr3) st3 stop) λr s4 hz0=>?_)
  obtain ⟨hr,I4⟩:=hz0
  subst hr
  exact wpAny_execs_nil ⟨σ3,H3,I4,qn⟩
 ·refine wpAny_passesOwn hp (thn (T.item X rfl rfl rfl hc i pins s3 σ3 H3 X.xe I3 (stat fr3) st3 go) λr s4 hz0=>?_)
  obtain ⟨u,hr,h4⟩:=hz0
  subst hr
  refine wpAny_passesOwn hp (thn h4 λ_ s5 hz0=>?_)
  obtain ⟨x,H5,I5,r5,y5,st5,fr5⟩:=hz0
  have I5':=I5.pinned (stat fr5) (T.obj _ _ st5)
  refine wpAny_passesOwn hp (thn (hg _ s5 σ3 H5 x u _ I5' r5 (step x H5 y5)) λ_ s6 hz0=>?_)
  obtain ⟨σ6,H6,I6,q6⟩:=hz0
  refine wpAny_passesOwn hp (thn (hb _ s6 σ6 H6 _ I6 q6) λf s7 q7=>?_)
  have again:∀ {σ7:St} {H7:Hp},Inv X (pins++dc fp s5.heap) σ7 H7 s7->N σ7 H7->∃ m,m < n/\∃ i σ' H',Inv X pins σ' H' s7/\tn i s7.heap/\(∀ b∈fp,H' b=none)/\W i m σ' H':=λ{σ7 H7} I7 n7=>by
   obtain ⟨m',hm,w7⟩:=hN σ7 H7 n7
   refine ⟨m',hm,i+1,σ7,H7,I7.unpinned,T.keep _ _ _ st5 λb hb o e=>(I7.pin (b,o) (List.mem_append_right _ (List.mem_append_right _ (cR hb e)))).1,λb hb=>?_,w7⟩
   obtain ⟨o,e,d⟩:=T.obj _ _ st5 b hb
   exact (I7.pin (b,o) (List.mem_append_right _ (List.mem_append_right _ (cR hb e)))).2.1
  cases f with
  | next=>obtain ⟨σ7,H7,I7,n7⟩:=q7; exact again I7 n7
  | cont=>obtain ⟨σ7,H7,I7,n7⟩:=q7; exact again I7 n7
  | brk=>obtain ⟨σ7,H7,I7,q7⟩:=q7; exact ⟨σ7,H7,I7.unpinned,q7⟩
  | ret v=>obtain ⟨x7,σ7,H7,I7,r7,q7⟩:=q7; exact ⟨x7,σ7,H7,I7.unpinned,r7,q7⟩
end
noncomputable abbrev R2:=V->V->Hp->VK->Prop
noncomputable def OpR (X:Cx) (f:Value->Value->Sem Value) (r:R2):Prop :=
 ∀ (pins:List (Addr×Obj)) (s:Shared) (σ:St) (H:Hp) (x y:V) (v u:Value) (Q:VK),Inv X pins σ H s->RelV x v->RelV y u->r x y H Q ->
  wpAny (model X.prog X.w) X.A (f v u) (EP X pins σ Q) X.xe s
noncomputable def tG (X:Cx) (f:Value->Sem Value) (r:V->Hp->VK->Prop):Prop :=
 ∀ (pins:List (Addr×Obj)) (s:Shared) (σ:St) (H:Hp) (x:V) (v:Value) (Q:VK),Inv X pins σ H s->RelV x v->r x H Q ->
  wpAny (model X.prog X.w) X.A (f v) (EP X pins σ Q) X.xe s
noncomputable def cH (X:Cx) (f:Value) (r:List V->Hp->VK->Prop):Prop :=
 ∀ (pins:List (Addr×Obj)) (s:Shared) (σ:St) (H:Hp) (xs:List V) (us:List Value) (Q:VK),Inv X pins σ H s->Vals xs us->r xs H Q ->
  wpAny (model X.prog X.w) X.A (call f us) (EP X pins σ Q) X.xe s
noncomputable def ZlI (X:Cx) (r:V->Hp->(Bool->Hp->Prop)->Prop):Prop :=
 ∀ (pins:List (Addr×Obj)) (s:Shared) (σ:St) (H:Hp) (x:V) (v:Value) (Q:Bool->Hp->Prop),Inv X pins σ H s->RelV x v->r x H Q ->
  wpAny (model X.prog X.w) X.A (truthy v) (TP X pins σ Q) X.xe s
noncomputable def gD (r:R2) (ta tb:TE):TE:=λσ H Q=>ta σ H λx H1=>tb σ H1 λy H2=>r x y H2 Q
noncomputable def tUn (r:V->Hp->VK->Prop) (ta:TE):TE:=λσ H Q=>ta σ H λx H1=>r x H1 Q
noncomputable def rI (C:Int->Int->Prop) (g:Int->Int->V):R2:=λx y H Q=>∃ i j,x=.int i/\y=.int j/\C i j/\Q (g i j) H
noncomputable def db (g:Int->Int->V):R2:=λx y H Q=>∃ i j,x=.int i/\y=.int j/\Q (g i j) H
noncomputable def rU (g:Int->V):V->Hp->VK->Prop:=λx H Q=>∃ i,x=.int i/\Q (g i) H
section
variable {X:Cx} {a b c:Expr} {ta tb tc:TE} {pos:Pos}
theorem sU (ha:PE X a ta) (hb:PE X b tb) {pins:List (Addr×Obj)} {s:Shared} {σ:St} {H:Hp} {R:V->V->Hp->Prop} (I:Inv X pins σ H s)
  (h:ta σ H λx H1=>tb σ H1 λy H2=>R x y H2) {Q:Value->Shared->Prop} {f:Value->Value->Sem Value}
  (hf:∀ v u s2 x y H2,Inv X pins σ H2 s2->RelV x v->RelV y u->R x y H2->wpAny (model X.prog X.w) X.A (f v u) Q X.xe s2) :
  wpAny (model X.prog X.w) X.A (eval a X.env) (λv s₁=>wpAny (model X.prog X.w) X.A (eval b X.env) (λu s₂=>wpAny (model X.prog X.w) X.A (f v u) Q X.xe s₂) X.xe s₁) X.xe s:=by
 refine thn (ha pins s σ H _ I h) λv s1 hz0=>?_
 obtain ⟨x,H1,I1,r1,q1⟩:=hz0
 refine thn (hb pins s1 σ H1 _ I1 q1) λu s2 hz0=>?_
 obtain ⟨y,H2,I2,r2,q2⟩:=hz0
 exact hf v u s2 x y H2 I2 r1 r2 q2
theorem bU {op:Operator} {r:R2} (ho:OpR X (binaryOp op) r) (ha:PE X a ta) (hb:PE X b tb):PE X (.BinOp a op b pos) (gD r ta tb):=by
 intro pins s σ H Q I h
 exact wpAny_BinOp (sU ha hb I h λv u s2 x y H2 I2 rx ry q=>ho pins s2 σ H2 x y v u Q I2 rx ry q)
theorem Zhb {op:UnaryOp} {r:V->Hp->VK->Prop} (ho:tG X (unaryOp op) r) (ha:PE X a ta):PE X (.UnaryOp op a pos) (tUn r ta):=by
 intro pins s σ H Q I h
 exact UnaryOp_ (thn (ha pins s σ H _ I h) λv s1 ⟨x,H1,I1,r1,q1⟩=>ho pins s1 σ H1 x v Q I1 r1 q1)
theorem fw {f:Value->Value->Sem Value} {C:Int->Int->Prop} {g:Int->Int->Int}
  (rule:∀ (i j:Int) (t u:Tok) (s:Shared) (Q:Value->Shared->Prop) (E:Value->Shared->Prop),C i j->Q (.int (g i j) s.toks) { s with toks:=s.toks+1 }->wpAny (model X.prog X.w) X.A (f (.int i t) (.int j u)) Q E s) :
  OpR X f (rI C λi j=>.int (g i j)):=by
 intro pins s σ H x y v u Q I rx ry h
 obtain ⟨i,j,rfl,rfl,hc,q⟩:=h
 obtain ⟨t,rfl⟩:=rx
 obtain ⟨t',rfl⟩:=ry
 exact rule i j t t' s _ _ hc ⟨.int (g i j),H,I.tok _,⟨_,rfl⟩,q⟩
theorem nV {f:Value->Value->Sem Value} {g:Int->Int->Int}
  (rule:∀ (i j:Int) (t u:Tok) (s:Shared) (Q:Value->Shared->Prop) (E:Value->Shared->Prop),Q (.int (g i j) s.toks) { s with toks:=s.toks+1 }->wpAny (model X.prog X.w) X.A (f (.int i t) (.int j u)) Q E s) :
  OpR X f (db λi j=>.int (g i j)):=by
 intro pins s σ H x y v u Q I rx ry h
 obtain ⟨i,j,rfl,rfl,q⟩:=h
 obtain ⟨t,rfl⟩:=rx
 obtain ⟨t',rfl⟩:=ry
 exact rule i j t t' s _ _ ⟨.int (g i j),H,I.tok _,⟨_,rfl⟩,q⟩
theorem kj {f:Value->Value->Sem Value} {g:Int->Int->Bool}
  (rule:∀ (i j:Int) (t u:Tok) (s:Shared) (Q:Value->Shared->Prop) (E:Value->Shared->Prop),Q (.bool (g i j)) s->wpAny (model X.prog X.w) X.A (f (.int i t) (.int j u)) Q E s) :
  OpR X f (db λi j=>.bl (g i j)):=by
 intro pins s σ H x y v u Q I rx ry h
 obtain ⟨i,j,rfl,rfl,q⟩:=h
 obtain ⟨t,rfl⟩:=rx
 obtain ⟨t',rfl⟩:=ry
 exact rule i j t t' s _ _ ⟨.bl (g i j),H,I,rfl,q⟩
noncomputable def Zl4 (i j:Int):Prop:=0 < j/\j < 1073741824
noncomputable def ZeW (i j:Int):Prop:=0<=j/\j<=1000000/\i.natAbs < 2 ^ 64
noncomputable def CMul (i j:Int):Prop:=(-(2 ^ 64) < i/\i < 2 ^ 64)\/(-(2 ^ 64) < j/\j < 2 ^ 64)
theorem CMul.ok {i j:Int} (h:CMul i j):IntMulOk i j:=by
 rcases h with ⟨h1,h2⟩ | ⟨h1,h2⟩
 ·exact .of_left (intBits_le_64 h1 h2)
 ·exact .of_right (intBits_le_64 h1 h2)
theorem ge:OpR X (binaryOp .Add) (db λi j=>.int (i+j)):=nV λ_ _ _ _ _ _ _ q=>add_int q
theorem cK:OpR X (binaryOp .Sub) (db λi j=>.int (i - j)):=nV λ_ _ _ _ _ _ _ q=>sub_int q
theorem nS:OpR X (binaryOp .Mult) (rI CMul λi j=>.int (i * j)):=fw λ_ _ _ _ _ _ _ hc q=>mul_int q hc.ok
theorem nU:OpR X (binaryOp .FloorDiv) (rI Zl4 λi j=>.int (i / j)):=fw λi j _ _ _ _ _ hc q=>by
 have h1:(0:Int) < j:=hc.1
 have h2:j < 1073741824:=hc.2
 exact floordiv_int (by omega) (by rw [Int.fdiv_eq_ediv_of_nonneg i (by omega)]; exact q) (.inl (PyProof.noPylong_small (by omega)))
theorem fv:OpR X (binaryOp .Mod) (rI (λ_ j=>0 < j) λi j=>.int (i % j)):=fw λi j _ _ _ _ _ hc q=>by
 have h1:(0:Int) < j:=hc
 exact mod_int' (by omega) (by rw [Int.fmod_eq_emod_of_nonneg i (by omega)]; exact q)
theorem Zch:OpR X (binaryOp .Mod) (rI (λ_ j=>j≠0) λi j=>.int (i.fmod j)):=fw λ_ _ _ _ _ _ _ hc q=>mod_int' hc q
theorem nR:OpR X (binaryOp .Pow) (rI ZeW λi j=>.int (i ^ j.toNat)):=fw λ_ _ _ _ _ _ _ hc q=>pow_int_small hc.1 hc.2.1 hc.2.2 q
theorem ZiI:OpR X (inplaceOp .Add) (db λi j=>.int (i+j)):=nV λ_ _ _ _ _ _ _ q=>iadd_int q
theorem unI {f:Value->Sem Value} {g:Int->Int}
  (rule:∀ (i:Int) (t:Tok) (s:Shared) (Q:Value->Shared->Prop) (E:Value->Shared->Prop),Q (.int (g i) s.toks) { s with toks:=s.toks+1 }->wpAny (model X.prog X.w) X.A (f (.int i t)) Q E s) :
  tG X f (rU λi=>.int (g i)):=by
 intro pins s σ H x v Q I rx h
 obtain ⟨i,rfl,q⟩:=h
 obtain ⟨t,rfl⟩:=rx
 exact rule i t s _ _ ⟨.int (g i),H,I.tok _,⟨_,rfl⟩,q⟩
theorem Zfd:tG X (unaryOp .USub) (rU λi=>.int (-i)):=unI λ_ _ _ _ _ q=>neg_int q
end
noncomputable def scal:V->V->Bool
 | .non,.non=>true | .non,.int _=>true | .int _,.non=>true | .non,.bl _=>true | .bl _,.non=>true | .non,.str _=>true | .str _,.non=>true
 | .int _,.int _=>true | .bl _,.bl _=>true | .str _,.str _=>true | .byt _,.byt _=>true
 | .int _,.str _=>true | .str _,.int _=>true | .bl _,.str _=>true | .str _,.bl _=>true
 | _,_=>false
noncomputable def rEq:R2:=λx y H Q=>scal x y=true/\Q (.bl (decide (x=y))) H
noncomputable def rNe:R2:=λx y H Q=>scal x y=true/\Q (.bl (!decide (x=y))) H
theorem ZdP {i j:Int}:decide (V.int i=V.int j)=(i == j):=by
 rw [Bool.eq_iff_iff]
 simp
theorem ZdR {i j:Bool}:decide (V.bl i=V.bl j)=(i == j):=by
 rw [Bool.eq_iff_iff]
 simp
theorem lB {i j:Str}:decide (V.str i=V.str j)=(i == j):=by
 rw [Bool.eq_iff_iff]
 simp
theorem ZdQ {i j:Array UInt8}:decide (V.byt i=V.byt j)=(i.toList == j.toList):=by
 rw [Bool.eq_iff_iff]
 cases i
 cases j
 simp
section
variable {X:Cx} {a b c:Expr} {ta tb tc:TE} {pos:Pos}
theorem bx {pins:List (Addr×Obj)} {σ:St} {H:Hp} {s:Shared} {Q:VK} {k k':Bool} (I:Inv X pins σ H s) (q:Q (.bl k) H) (e:k=k'):EP X pins σ Q (.bool k') s:=by
 subst e
 exact ⟨.bl k,H,I,rfl,q⟩
theorem Zhv:OpR X (compareOp .Eq) rEq:=by
 intro pins s σ H x y v u Q I rx ry h
 obtain ⟨hs,q⟩:=h
 cases x with
 | non =>
  cases rx
  cases y with
  | non=>cases ry; exact PySem.EqNone.eq_none_none (bx I q (by simp))
  | bl j=>cases ry; exact PySem.EqNone.eq_none_bool (bx I q (by simp))
  | int j=>obtain ⟨t',rfl⟩:=ry; exact PySem.EqNone.eq_none_int (bx I q (by simp))
  | str j=>obtain ⟨t',rfl⟩:=ry; exact PySem.EqNone.eq_none_str (bx I q (by simp))
  | _=>exact absurd (show false=true from hs) Bool.false_ne_true
 | bl i =>
  cases rx
  cases y with
  | non=>cases ry; exact PySem.EqNone.eq_bool_none (bx I q (by simp))
  | bl j=>cases ry; exact eq_bool (bx I q ZdR)
  | str j=>obtain ⟨t',rfl⟩:=ry; exact PySem.EqMixed.eq_bool_str (bx I q (by simp))
  | _=>exact absurd (show false=true from hs) Bool.false_ne_true
 | int i =>
  obtain ⟨t,rfl⟩:=rx
  cases y with
  | non=>cases ry; exact PySem.EqNone.eq_int_none (bx I q (by simp))
  | int j=>obtain ⟨t',rfl⟩:=ry; exact eq_int (bx I q ZdP)
  | str j=>obtain ⟨t',rfl⟩:=ry; exact PySem.EqMixed.eq_int_str (bx I q (by simp))
  | _=>exact absurd (show false=true from hs) Bool.false_ne_true
 | str i =>
  obtain ⟨t,rfl⟩:=rx
  cases y with
  | non=>cases ry; exact PySem.EqNone.eq_str_none (bx I q (by simp))
  | bl j=>cases ry; exact PySem.EqMixed.eq_str_bool (bx I q (by simp))
  | int j=>obtain ⟨t',rfl⟩:=ry; exact PySem.EqMixed.eq_str_int (bx I q (by simp))
  | str j=>obtain ⟨t',rfl⟩:=ry; exact eq_str (bx I q lB)
  | _=>exact absurd (show false=true from hs) Bool.false_ne_true
 | byt i =>
  obtain ⟨t,rfl⟩:=rx
  cases y with
  | byt j=>obtain ⟨t',rfl⟩:=ry; exact PySem.W.eq_bytes (bx I q ZdQ)
  | _=>exact absurd (show false=true from hs) Bool.false_ne_true
 | _=>cases y <;> exact absurd (show false=true from hs) Bool.false_ne_true
theorem Zhr:OpR X (compareOp .NotEq) rNe:=by
 intro pins s σ H x y v u Q I rx ry h
 obtain ⟨hs,q⟩:=h
 cases x with
 | non =>
  cases rx
  cases y with
  | non=>cases ry; exact PySem.EqNone.ne_none_none (bx I q (by simp))
  | bl j=>cases ry; exact PySem.EqNone.ne_none_bool (bx I q (by simp))
  | int j=>obtain ⟨t',rfl⟩:=ry; exact PySem.EqNone.ne_none_int (bx I q (by simp))
  | str j=>obtain ⟨t',rfl⟩:=ry; exact PySem.EqNone.ne_none_str (bx I q (by simp))
  | _=>exact absurd (show false=true from hs) Bool.false_ne_true
 | bl i =>
  cases rx
  cases y with
  | non=>cases ry; exact PySem.EqNone.ne_bool_none (bx I q (by simp))
  | bl j=>cases ry; exact ne_bool (bx I q (congrArg not ZdR))
  | str j=>obtain ⟨t',rfl⟩:=ry; exact PySem.EqMixed.ne_bool_str (bx I q (by simp))
  | _=>exact absurd (show false=true from hs) Bool.false_ne_true
 | int i =>
  obtain ⟨t,rfl⟩:=rx
  cases y with
  | non=>cases ry; exact PySem.EqNone.ne_int_none (bx I q (by simp))
  | int j=>obtain ⟨t',rfl⟩:=ry; exact ne_int (bx I q (congrArg not ZdP))
  | str j=>obtain ⟨t',rfl⟩:=ry; exact PySem.EqMixed.ne_int_str (bx I q (by simp))
  | _=>exact absurd (show false=true from hs) Bool.false_ne_true
 | str i =>
  obtain ⟨t,rfl⟩:=rx
  cases y with
  | non=>cases ry; exact PySem.EqNone.ne_str_none (bx I q (by simp))
  | bl j=>cases ry; exact PySem.EqMixed.ne_str_bool (bx I q (by simp))
  | int j=>obtain ⟨t',rfl⟩:=ry; exact PySem.EqMixed.ne_str_int (bx I q (by simp))
  | str j=>obtain ⟨t',rfl⟩:=ry; exact ne_str (bx I q (congrArg not lB))
  | _=>exact absurd (show false=true from hs) Bool.false_ne_true
 | byt i =>
  obtain ⟨t,rfl⟩:=rx
  cases y with
  | byt j=>obtain ⟨t',rfl⟩:=ry; exact PySem.W.ne_bytes (bx I q (congrArg not ZdQ))
  | _=>exact absurd (show false=true from hs) Bool.false_ne_true
 | _=>cases y <;> exact absurd (show false=true from hs) Bool.false_ne_true
theorem Zci:OpR X (compareOp .Lt) (db λi j=>.bl (decide (i < j))):=kj λ_ _ _ _ _ _ _ q=>lt_int q
theorem Zht:OpR X (compareOp .LtE) (db λi j=>.bl (decide (i<=j))):=kj λ_ _ _ _ _ _ _ q=>le_int q
theorem gU:OpR X (compareOp .Gt) (db λi j=>.bl (decide (j < i))):=kj λ_ _ _ _ _ _ _ q=>gt_int q
theorem nT:OpR X (compareOp .GtE) (db λi j=>.bl (decide (j<=i))):=kj λ_ _ _ _ _ _ _ q=>ge_int q
theorem OpR.or {f:Value->Value->Sem Value} {r r':R2} (h:OpR X f r) (h':OpR X f r'):OpR X f (λx y H Q=>r x y H Q\/r' x y H Q):=by
 intro pins s σ H x y v u Q I rx ry q
 rcases q with q | q
 ·exact h pins s σ H x y v u Q I rx ry q
 ·exact h' pins s σ H x y v u Q I rx ry q
theorem nomark (b:Expr) {op:CmpOp} (h:op≠.In:=by decide) (h2:op≠.NotIn:=by decide):behindInMarks op b=false:=by
 have e1:(op == CmpOp.In)=false:=by cases op <;> first | rfl | exact absurd rfl h
 have e2:(op == CmpOp.NotIn)=false:=by cases op <;> first | rfl | exact absurd rfl h2
 cases b <;> first | rfl | (show (_ && (op == CmpOp.In || op == CmpOp.NotIn) && _)=false; rw [e1,e2,Bool.or_false,Bool.and_false,Bool.false_and])
theorem Zhi {op:CmpOp} {r:R2} (ho:OpR X (compareOp op) r) (ha:PE X a ta) (hb:PE X b tb) (hm:behindInMarks op b=false):PE X (.Compare a [op] [b] pos) (gD r ta tb):=by
 intro pins s σ H Q I h
 exact wpAny_Compare1 (sU ha hb I h λv u s2 x y H2 I2 rx ry q=>ho pins s2 σ H2 x y v u Q I2 rx ry q) hm
noncomputable def jM (t:TE):TT:=λσ H Q=>t σ H λx H'=>∃ k,x=.bl k/\Q k H'
theorem iY {op:CmpOp} {r:R2} (ho:OpR X (compareOp op) r) (ha:PE X a ta) (hb:PE X b tb) (hm:behindInMarks op b=false):PT X (.Compare a [op] [b] pos) (jM (gD r ta tb)):=by
 intro pins s σ H Q I h
 refine wpAny_isTrue_Compare1 (thn (ha pins s σ H _ I h) λv s1 ⟨x,H1,I1,r1,q1⟩=>thn (hb pins s1 σ H1 _ I1 q1) λu s2 ⟨y,H2,I2,r2,q2⟩ =>
  thn (ho pins s2 σ H2 x y v u _ I2 r1 r2 q2) λc s3 ⟨z,H3,I3,r3,k,e,q3⟩=>?_) hm
 subst e
 cases r3
 exact wpAny_truthy_bool ⟨H3,I3,q3⟩
noncomputable def ZeM (K:PySem.W.Frag) (x:V) (H:Hp) (k:Bool):Prop :=
 match x with
 | .non=>k=false
 | .bl b=>k=b
 | .int i=>k=(i != 0)
 | .str y=>y.length<=sizeLine/\k=((y.length:Int) != 0)
 | .byt y=>y.size<=sizeLine/\k=((y.size:Int) != 0)
 | .ref p=>(∃ xs,SqL K H p xs/\k=!xs.isEmpty)\/(∃ xs,SqT K H p xs/\k=!xs.isEmpty)\/∃ kvs,H p=some (.dK kvs)/\k=!kvs.isEmpty
 | _=>False
theorem ZiG {κ:Type} {kvs:List (κ×V)} {vs:List (κ×Value)} (r:KV kvs vs):(!vs.isEmpty)=!kvs.isEmpty:=by
 cases r <;> rfl
theorem Zc3 {xs:List V} {its:List Value} (r:Vals xs its):(!its.toArray.isEmpty)=!xs.isEmpty:=by
 cases r <;> simp
theorem gj:(sizeLine:Nat) < 2 ^ 63:=by rw [sizeLine_eq]; decide
theorem Zfp:ZlI X (λx H Q=>∃ k,ZeM X.K x H k/\Q k H):=by
 intro pins s σ H x v Q I rx h
 obtain ⟨k,e,q⟩:=h
 have hl:=gj
 have hs:sizeLine=16777216:=sizeLine_eq
 cases x with
 | non =>
  cases rx
  have e':k=false:=e
  subst e'
  exact truthy_none ⟨H,I,q⟩
 | bl b =>
  cases rx
  have e':k=b:=e
  subst e'
  exact wpAny_truthy_bool ⟨H,I,q⟩
 | int i =>
  obtain ⟨t,rfl⟩:=rx
  have e':k=(i != 0):=e
  subst e'
  exact PySem.P.truthy_int ⟨H,I,q⟩
 | str y =>
  obtain ⟨t,rfl⟩:=rx
  obtain ⟨hy,e'⟩:y.length<=sizeLine/\k=((y.length:Int) != 0):=e
  subst e'
  exact PySem.P.truthy_str (by omega) ⟨H,I.tok _,q⟩
 | byt y =>
  obtain ⟨t,rfl⟩:=rx
  obtain ⟨hy,e'⟩:y.size<=sizeLine/\k=((y.size:Int) != 0):=e
  subst e'
  exact PySem.W.truthy_bytes (by omega) ⟨H,I.tok _,q⟩
 | ref p =>
  cases rx
  have e':(∃ xs,SqL X.K H p xs/\k=!xs.isEmpty)\/(∃ xs,SqT X.K H p xs/\k=!xs.isEmpty)\/∃ kvs,H p=some (.dK kvs)/\k=!kvs.isEmpty:=e
  rcases e' with ⟨xs,hx,e'⟩ | ⟨xs,hx,e'⟩ | ⟨kvs,hx,e'⟩
  ·subst e'
   obtain ⟨its,r,pl,hz⟩:=I.list hx
   have hlen:=r.length
   exact wpAny_truthy_list pl.isList (by simp only [List.size_toArray]; omega) ⟨H,I.tok _,by rw [Zc3 r]; exact q⟩
  ·subst e'
   obtain ⟨its,r,pl,hz⟩:=I.tuple hx
   have hlen:=r.length
   exact truthy_tuple pl (by simp only [List.size_toArray]; omega) ⟨H,I.tok _,by rw [Zc3 r]; exact q⟩
  ·subst e'
   obtain ⟨hz,hS,vs,r,m⟩:kvs.length<=sizeLine/\(p == sysModules)=false/\∃ vs,KV kvs vs/\s.heap.DictOf (aX X.prog X.w) p vs:=I.hok p _ hx
   have hlen:kvs.length=vs.length:=Paired.length r
   exact wpAny_truthy_dict hS m (by omega) ⟨H,I.tok _,by rw [ZiG r]; exact q⟩
 | _=>exact (show False from e).elim
theorem ZgN (ha:PE X a ta) (he:∀ whole,isTrue a X.env whole=(do let v <- whole; standAt a.pos; holding [v] (truthy v))) :
  PT X a (λσ H Q=>ta σ H λx H'=>∃ k,ZeM X.K x H' k/\Q k H'):=by
 intro pins s σ H Q I h
 exact isTrue_plain (thn (ha pins s σ H _ I h) λv s1 ⟨x,H1,I1,r1,q1⟩=>Zfp pins s1 σ H1 x v Q I1 r1 q1) (he _)
theorem cJ {x:V} {us:List Value} (r:Vals [x] us):∃ u,us=[u]/\RelV x u:=by
 cases r with
 | cons r1 r2=>cases r2; exact ⟨_,rfl,r1⟩
theorem Zao {x y:V} {us:List Value} (r:Vals [x,y] us):∃ u w',us=[u,w']/\RelV x u/\RelV y w':=by
 cases r with
 | cons r1 r2 =>
  cases r2 with
  | cons r3 r4=>cases r4; exact ⟨_,_,rfl,r1,r3⟩
theorem ip:cH X (.builtin "abs") (λxs H Q=>∃ i,xs=[.int i]/\Q (.int (if i < 0 then -i else i)) H):=by
 intro pins s σ H xs us Q I r h
 obtain ⟨i,rfl,q⟩:=h
 obtain ⟨u,rfl,t,rfl⟩:=cJ r
 exact call_abs_int λu tk=>⟨.int (if i < 0 then -i else i),H,I.tok _,⟨_,rfl⟩,q⟩
theorem io (hc:X.calm=true):cH X (.builtin "max") (λxs H Q=>∃ i j,xs=[.int i,.int j]/\Q (.int (if j > i then j else i)) H):=by
 intro pins s σ H xs us Q I r h
 obtain ⟨i,j,rfl,q⟩:=h
 obtain ⟨u,w',rfl,⟨t,rfl⟩,⟨t',rfl⟩⟩:=Zao r
 refine max_two_ints (I.ok.hd hc) λh' tk k=>⟨_,H,I.kept k,?_,q⟩
 by_cases hj:j > i
 ·rw [if_pos hj,if_pos hj]; exact ⟨_,rfl⟩
 ·rw [if_neg hj,if_neg hj]; exact ⟨_,rfl⟩
theorem ZkG:cH X (.type "int") (λxs H Q=>(∃ i,xs=[.int i]/\Q (.int i) H)\/∃ k,xs=[.bl k]/\Q (.int (if k then 1 else 0)) H):=by
 intro pins s σ H xs us Q I r h
 rcases h with ⟨i,rfl,q⟩ | ⟨k,rfl,q⟩
 ·obtain ⟨u,rfl,t,rfl⟩:=cJ r
  exact call_int_int ⟨.int i,H,I,⟨_,rfl⟩,q⟩
 ·obtain ⟨u,rfl,r1⟩:=cJ r
  cases r1
  exact call_int_bool ⟨.int (if k then 1 else 0),H,I.tok _,⟨_,rfl⟩,q⟩
end
section
variable {prog:Program} {w:World} {A:Around} {E:Value->Shared->Prop} {s:Shared} {K:PySem.W.Frag} {x dx C f:Addr} {mA:Str->Option Value} {name:Str} {v:Value}
end
theorem RelO.some_of {v:V} {o:Option Value} (r:RelO (some v) o):∃ u,o=some u/\RelV v u:=by
 cases o with
 | none=>exact (show False from r).elim
 | some u=>exact ⟨u,rfl,r⟩
section
variable {P:Program} {w:World} {H H':Hp} {h h':Heap} {a C dx:Addr} {fs fs':List (Str×V)}
end
section
variable {X:Cx} {pins:List (Addr×Obj)} {σ:St} {H:Hp} {s:Shared} {a C dx:Addr} {fs:List (Str×V)} {f:Str} {v:V} {A:Around} {E:Value->Shared->Prop}
end
section
variable {X:Cx} {o e value:Expr} {f:Str} {pos pos' tpos:Pos} {ta tv:TE}
end
section
variable {X:Cx} {pins:List (Addr×Obj)} {σ:St} {H:Hp} {s:Shared} {A:Around} {E:Value->Shared->Prop} {Q:Value->Shared->Prop} {c:Value} {b:Bool}
end
structure Room (k:Nat) (A:Around):Prop where
 hd:A.handled=none
 dp:A.depth+3 * k+5 < recursionLimit
 un:A.units+16 * k+200 < cLine
 gd:A.guards=some []
theorem Room.mono {j k:Nat} {A:Around} (r:Room k A) (h:j<=k):Room j A:=⟨r.hd,by have:=r.dp; omega,by have:=r.un; omega,r.gd⟩
theorem Room.deeper {k:Nat} {A:Around} (r:Room (k+1) A) (env:Env):Room k (A.deeper env) :=
 ⟨r.hd,by have:=r.dp; show A.depth+1+3 * k+5 < _; omega,by have:=r.un; show A.units+3+16 * k+200 < _; omega,r.gd⟩
theorem Room.depth {k:Nat} {A:Around} (r:Room k A):A.depth < recursionLimit:=by have:=r.dp; omega
theorem Room.units {k:Nat} {A:Around} (r:Room k A):A.units+64 < cLine:=by have:=r.un; omega
theorem Room.units0 {k:Nat} {A:Around} (r:Room k A):A.units < cLine:=by have:=r.un; omega
noncomputable def aT:TA:=λ_ H Q=>Q [] H
noncomputable def dP (ta:TE) (tr:TA):TA:=λσ H Q=>ta σ H λx H1=>tr σ H1 λxs H2=>Q (x::xs) H2
section
variable {X:Cx} {e:Expr} {es:List Expr} {te:TE} {t:TA} {pos:Pos}
theorem cx:PA X [] aT:=λ_ _ _ _ H Q I h=>Calls.spliced_nil ⟨[],H,I,.nil,h⟩
theorem bY (ha:PE X e te) (hr:PA X es t) (hs:starEach (e::es) X.env=(false,eval e X.env)::starEach es X.env:=by rfl):PA X (e::es) (dP te t):=by
 intro pos pins s σ H Q I h
 rw [hs]
 show wpAny _ _ (spliced ((false,eval e X.env)::backTo pos (starEach es X.env))) _ _ s
 refine Calls.spliced_cons (thn (ha pins s σ H _ I h) λu s1 hz0=>?_)
 obtain ⟨x,H1,I1,r1,q1⟩:=hz0
 exact thn (hr pos pins s1 σ H1 _ I1 q1) λus s2 hz0=>by
  obtain ⟨xs,H2,I2,r2,q2⟩:=hz0
  exact ⟨x::xs,H2,I2,.cons r1 r2,q2⟩
noncomputable def Zfu (t:TA):TE:=λσ H Q=>t σ H λxs H1=>xs.length<=sizeLine/\∀ p,H1 p=none->Q (.ref p) (upd H1 p (.tup xs))
noncomputable def ZfF (t:TA):TE:=λσ H Q=>t σ H λxs H1=>xs.length<=sizeLine/\∀ p,H1 p=none->Q (.ref p) (upd H1 p (.lst xs))
theorem Zhc {x1} (h:PA X es t):PE X (.Tuple es x1 pos) (Zfu t):=by
 intro pins s σ H Q I hq
 refine wpAny_Tuple_spliced (thn (h pos pins s σ H _ I hq) λus s1 ⟨xs,H1,I1,r,z,q⟩=>⟨by rw [<- r.length]; exact z,?_⟩)
 have hf:H1 s1.heap.objs.size=none:=I1.hok.fresh (Nat.le_refl _)
 refine ⟨.ref s1.heap.objs.size,upd H1 s1.heap.objs.size (.tup xs),I1.laid (t':=s1.toks) (λb u e=>Heap.get?_push_of_some _ e) (Nat.le_refl _) ?_,rfl,q _ hf⟩
 exact ⟨z,us,r,⟨_,Heap.get?_push_size _ rfl,rfl,_,rfl⟩⟩
theorem Zb8 (h:PA X es t):PE X (.List es pos) (ZfF t):=by
 intro pins s σ H Q I hq
 refine wpAny_List_spliced (thn (h pos pins s σ H _ I hq) λus s1 ⟨xs,H1,I1,r,z,q⟩=>⟨by rw [<- r.length]; exact z,?_⟩)
 have hf:H1 s1.heap.objs.size=none:=I1.hok.fresh (Nat.le_refl _)
 refine ⟨.ref s1.heap.objs.size,upd H1 s1.heap.objs.size (.lst xs),I1.laid (t':=s1.toks) (λb u e=>Heap.get?_push_of_some _ e) (Nat.le_refl _) ?_,rfl,q _ hf⟩
 exact ⟨z,us,0,r,Heap.get?_push_size _ rfl⟩
end
noncomputable abbrev Sp:=List V->Hp->VK->XK->Prop
noncomputable abbrev dq:=List Env->Hp->Shared->XK->Value->Shared->Prop
structure Env0 (P:Program) (w:World) (K:PySem.W.Frag) (mg:Str->Option Value) (base:Heap) (A:Around) (outer:List Env) (s:Shared) (H:Hp):Prop where
 frames:A.frames=some outer
 mod:Mod K mg base
 bs:∀ b o,base.get? b=some o->s.heap.get? b=some o/\H b=none
 bsz:base.objs.size<=s.heap.objs.size
 funs:s.heap.FunFrames base outer
 frf:∀ b∈frs outer,H b=none
 hok:HOk P w H s.heap
 bare:AllBare s.gens
noncomputable def CE (outer:List Env) (P:Program) (w:World) (H:Hp) (s:Shared) (Q:VK) (u:Value) (s':Shared):Prop :=
 ∃ v H',s'.os=s.os/\AllBare s'.gens/\Un (frs outer) [] H H' s.heap s'.heap/\HOk P w H' s'.heap/\RelV v u/\Q v H'
noncomputable def CR (CX:dq) (outer:List Env) (P:Program) (w:World) (H:Hp) (s:Shared) (Q:VK) (E:XK) (r:Result) (s':Shared):Prop :=
 match r with
 | .ok (.ret u)=>CE outer P w H s Q u s'
 | .ok _=>False
 | .error e=>CX outer H s E e s'
structure FnOk (P:Program) (w:World) (K:PySem.W.Frag) (mg:Str->Option Value) (base:Heap) (CX:dq) (k:Nat) (f:Addr) (fd:FuncData) (ps:List Str) (sp:Sp):Prop where
 len:∀ vs H Q E,sp vs H Q E->vs.length=ps.length
 run:∀ (A:Around) (outer:List Env) (s:Shared) (H:Hp) (args:Args) (us:List Value) (vs:List V) (Q:VK) (E:XK),Room k A->Env0 P w K mg base A outer s H->BindsTo s fd args (ps.zip us)->Vals vs us->sp vs H Q E ->
  codeAny (model P w) A (.call (.ref f) args) (CR CX outer P w H s Q E) s
theorem FnOk.imp {P:Program} {w:World} {K:PySem.W.Frag} {mg:Str->Option Value} {base:Heap} {CX:dq} {k:Nat} {f:Addr} {fd:FuncData} {ps:List Str} {sp sp':Sp} (F:FnOk P w K mg base CX k f fd ps sp)
  (h:∀ vs H Q E,sp' vs H Q E->sp vs H Q E):FnOk P w K mg base CX k f fd ps sp' :=
 ⟨λvs H Q E q=>F.len vs H Q E (h _ _ _ _ q),λA outer s H args us vs Q E hr he hb hv hs=>F.run A outer s H args us vs Q E hr he hb hv (h _ _ _ _ hs)⟩
section
variable {X:Cx} {pins:List (Addr×Obj)} {σ:St} {H:Hp} {s s':Shared}
theorem Inv.env0 (I:Inv X pins σ H s):Env0 X.prog X.w X.K X.mg X.base X.A X.stack s H :=
 ⟨I.ok.frames,I.ok.mod,I.bs,Nat.le_trans I.ok.bsz I.sz,I.stack,I.stkFree,I.hok,I.bare⟩
theorem Inv.after {Q:VK} {u:Value} (I:Inv X pins σ H s) (h:CE X.stack X.prog X.w H s Q u s'):EP X pins σ Q u s':=by
 obtain ⟨v,H',os,bare,un,hok,r,q⟩:=h
 obtain ⟨hh,g,d,t,os'⟩:=s'
 obtain rfl:os'=s.os:=os
 exact ⟨v,H',I.call (h':=hh) (g':=g) (d':=d) (t':=t) (ch:=[]) un hok bare (λb z=>absurd z (by simp)),r,q⟩
end
noncomputable def Zaz (sp:Sp) (dvs:List V) (E:XK) (t:TA):TE:=λσ H Q=>t σ H λvs H1=>sp (vs++dvs) H1 Q E
noncomputable def Binds (K:PySem.W.Frag) (fd:FuncData) (ps:List Str) (ds:List Value):Prop :=
 ∀ (s:Shared) (us:List Value),K.In s.heap->(us++ds).length=ps.length->BindsTo s fd ⟨us,[]⟩ (ps.zip (us++ds))
theorem Binds.all {K:PySem.W.Frag} {fd:FuncData} {ps:List Str} (h:∀ us:List Value,us.length=ps.length->bindArgs fd ⟨us,[]⟩=pure (ps.zip us)):Binds K fd ps []:=λs us _ hl=>by
 rw [List.append_nil] at hl ⊢
 exact .of_eq (h us hl)
noncomputable def tM (CX:dq) (X:Cx) (E:XK):Prop:=∀ (pins:List (Addr×Obj)) (σ:St) (H:Hp) (s:Shared) (e:Value) (s':Shared),Inv X pins σ H s->CX X.stack H s E e s'->X.xe e s'
section
variable {X:Cx} {CX:dq} {k:Nat} {f C:Addr} {fd:FuncData} {ps:List Str} {sp:Sp} {dvs:List V} {ds:List Value} {E:XK} {x m:Str} {p pos apos:Pos} {e o:Expr} {es:List Expr} {ta:TE} {t:TA}
theorem Zgo {pins:List (Addr×Obj)} {σ:St} {H:Hp} {s:Shared} {Q:VK} {us:List Value} {vs:List V} (F:FnOk X.prog X.w X.K X.mg X.base CX k f fd ps sp) (hr:Room k X.A) (hb:Binds X.K fd ps ds) (hd:Vals dvs ds) (hx:tM CX X E)
  (I:Inv X pins σ H s) (r:Vals vs us) (h:sp (vs++dvs) H Q E):wpAny (model X.prog X.w) X.A (call (.ref f) us) (EP X pins σ Q) X.xe s:=by
 have r2:Vals (vs++dvs) (us++ds):=r.append hd
 have hl:(us++ds).length=ps.length:=by rw [<- r2.length]; exact F.len _ _ _ _ h
 refine wpAny_call (codeAny_mono (F.run X.A X.stack s H ⟨us,[]⟩ (us++ds) (vs++dvs) Q E hr I.env0 (hb s us I.kIn hl) r2 h) λr s' hq=>?_)
 cases r with
 | error e=>exact hx pins σ H s e s' I hq
 | ok fl =>
  cases fl with
  | ret u=>exact I.after hq
  | next=>exact False.elim hq
  | brk=>exact False.elim hq
  | cont=>exact False.elim hq
theorem Zhj (F:FnOk X.prog X.w X.K X.mg X.base CX k f fd ps sp) (hr:Room k X.A) (hg:Gl X x) (hm:X.mg x=some (.ref f)) (hk:PySem.W.keepIn X.K (.ref f)=true) (hb:Binds X.K fd ps ds) (hd:Vals dvs ds) (hx:tM CX X E)
  (ha:PA X (e::es) t) (hdb:(x == ("__debug__":Str))=false:=by decide) (he:starEach (e::es) X.env=(false,eval e X.env)::starEach es X.env:=by rfl) (hpl:(backTo pos (starEach es X.env)).any (·.1)=false:=by rfl) :
  PE X (.Call (.Name x p) (e::es) [] pos) (Zaz sp dvs E t):=by
 intro pins s σ H Q I h
 refine wpAny_Call_Name_kw (ZcK I hg hm ?_ hdb)
 refine PySem.W.callWith_K (h₀:=X.base) I.ok.mod.kin hk (thn (ha pos pins s σ H _ I h) λus s1 ⟨vs,H1,I1,r,q⟩=>⟨I1.kIn,?_⟩) he hpl
 exact Zgo F hr hb hd hx I1 r q
end
noncomputable def PK (X:Cx) (kws:List Keyword) (t:TA):Prop :=
 ∀ (pos:Pos) (pins:List (Addr×Obj)) (s:Shared) (σ:St) (H:Hp) (Q:List V->Hp->Prop),Inv X pins σ H s->t σ H Q->wpAny (model X.prog X.w) X.A (evalAll ((backToKw pos (keywordEach kws X.env)).map (·.2))) (AP X pins σ Q) X.xe s
section
variable {X:Cx} {CX:dq} {k:Nat} {f C:Addr} {fd:FuncData} {ps ks:List Str} {sp:Sp} {E:XK} {x m:Str} {p pos apos kpos:Pos} {e o:Expr} {es:List Expr} {kws:List Keyword} {te ta:TE} {t tk:TA} {nm:Option Str}
variable {g:List Value->List Value->List Value} {gV:List V->List V->List V}
end
structure FnScope (N P:List Str) (sc:Scope):Prop where
 kind:sc.kind=.function
 co:sc.isCoroutine=false
 gen:sc.isGenerator=false
 nd:N.Nodup
 pre:N.take P.length=P
 par:∀ x∈P,sc.names.lookup x=some .local\/sc.names.lookup x=some .cell
 nofree:∀ y∈sc.names,y.2≠.free
theorem Zee {kindOf:Str->Option NameKind} {x:Str}:∀ {binds:List (Str×Value)} {m:Str->Option Value},(∀ v,(x,v) ∉ binds)->bindL kindOf binds m x=m x
 | [],_,_=>rfl
 | (n,v)::r,m,h=>by
  unfold bindL
  rw [Zee λw hw=>h w (List.mem_cons_of_mem _ hw)]
  split
  ·have:x≠n:=by rintro rfl; exact h v List.mem_cons_self
   simp [this]
  ·rfl
theorem Zeg {kindOf:Str->Option NameKind} {x:Str}:∀ {binds:List (Str×Value)} {m:Str->Option Value},(∀ v,(x,v) ∉ binds)->bindC kindOf binds m x=m x
 | [],_,_=>rfl
 | (n,v)::r,m,h=>by
  unfold bindC
  rw [Zeg λw hw=>h w (List.mem_cons_of_mem _ hw)]
  split
  ·rfl
  ·have:x≠n:=by rintro rfl; exact h v List.mem_cons_self
   simp [this]
theorem Zef {kindOf:Str->Option NameKind} {x:Str} {v:Value}:∀ {P:List Str} {vs:List Value} {i:Nat} {m:Str->Option Value},P.Nodup->P[i]?=some x->vs[i]?=some v->kindOf x=some .local ->
  bindL kindOf (P.zip vs) m x=some v
 | [],_,_,_,_,h,_,_=>by simp at h
 | _::_,[],_,_,_,_,h,_=>by simp at h
 | p::P,w::vs,0,m,nd,h1,h2,hk=>by
  simp at h1 h2; subst h1; subst h2
  show bindL kindOf ((p,w)::P.zip vs) m p=_
  unfold bindL
  rw [Zee λv hv=>(List.nodup_cons.mp nd).1 (List.of_mem_zip hv).1,if_pos hk]
  simp
 | p::P,w::vs,i+1,m,nd,h1,h2,hk=>by
  show bindL kindOf ((p,w)::P.zip vs) m x=_
  unfold bindL
  exact Zef (i:=i) (List.nodup_cons.mp nd).2 (by simpa using h1) (by simpa using h2) hk
theorem Zeh {kindOf:Str->Option NameKind} {x:Str} {v:Value}:∀ {P:List Str} {vs:List Value} {i:Nat} {m:Str->Option Value},P.Nodup->P[i]?=some x->vs[i]?=some v->kindOf x≠some .local ->
  bindC kindOf (P.zip vs) m x=some v
 | [],_,_,_,_,h,_,_=>by simp at h
 | _::_,[],_,_,_,_,h,_=>by simp at h
 | p::P,w::vs,0,m,nd,h1,h2,hk=>by
  simp at h1 h2; subst h1; subst h2
  show bindC kindOf ((p,w)::P.zip vs) m p=_
  unfold bindC
  rw [Zeg λv hv=>(List.nodup_cons.mp nd).1 (List.of_mem_zip hv).1,if_neg hk]
  simp
 | p::P,w::vs,i+1,m,nd,h1,h2,hk=>by
  show bindC kindOf ((p,w)::P.zip vs) m x=_
  unfold bindC
  exact Zeh (i:=i) (List.nodup_cons.mp nd).2 (by simpa using h1) (by simpa using h2) hk
noncomputable def start (N:List Str) (vs:List V):St:=vs.map some++List.replicate (N.length - vs.length) none
noncomputable def fK (CX:dq) (P:Program) (w:World) (K:PySem.W.Frag) (mg:Str->Option Value) (base:Heap) (N:List Str) (qual:Str) (scope:Scope) (f:Addr) (cd:Value) (A:Around) (outer:List Env) (s:Shared) (H:Hp) (E:XK):Cx where
 prog:=P
 w:=w
 K:=K
 mg:=mg
 base:=base
 A:=A.deeper (envOfC qual scope s.heap.objs.size f cd)
 N:=N
 s₀:=s
 H₀:=H
 env:=envOfC qual scope s.heap.objs.size f cd
 outer:=outer
 stack:=envOfC qual scope s.heap.objs.size f cd::outer
 ex:=[]
 calm:=true
 fn:=λ_=>true
 pn:=[]
 xe:=λe s'=>wpAny (model P w) (A.deeper (envOfC qual scope s.heap.objs.size f cd)) (leaving (envOfC qual scope s.heap.objs.size f cd) e) (λ_ s''=>CX outer H s E e s'') (λe' s''=>CX outer H s E e' s'') s'
theorem Zd1 {sc:Scope} {n:Nat} {x:Str} (h:sc.names.lookup x=some .cell):∃ c,(cellsFrom n sc.names []).lookup x=some c:=by
 have q:=PySem.W.cellsFrom_some sc.names n [] (.inl h)
 exact Option.isSome_iff_exists.mp q
theorem ZiJ {CX:dq} {P:Program} {w:World} {K:PySem.W.Frag} {mg:Str->Option Value} {base:Heap} {N ps:List Str} {qual:Str} {scope:Scope} {f:Addr} {cd:Value} {A:Around} {outer:List Env} {s s1:Shared} {H:Hp} {E:XK} {us:List Value} {vs:List V}
  (S:FnScope N ps scope) (hd:A.handled=none) (e0:Env0 P w K mg base A outer s H) (hl:vs.length=ps.length) (r:Vals vs us)
  (x:InCallC s s.heap.objs.size (bindL (envOfC qual scope s.heap.objs.size f cd).kindOf (ps.zip us) λ_=>none) (cellsFrom (s.heap.objs.size+1) scope.names []) (bindC (envOfC qual scope s.heap.objs.size f cd).kindOf (ps.zip us) λ_=>none) s1) :
  Inv (fK CX P w K mg base N qual scope f cd A outer s H E) [] (start N vs) H s1:=by
 have hpl:ps.length<=N.length:=by have:=congrArg List.length S.pre; rw [List.length_take] at this; omega
 obtain ⟨h1,tk,rfl,hk⟩:=x.done
 have noA:∀ b:Addr,b ∉ (fK CX P w K mg base N qual scope f cd A outer s H E).ex:=λb z=>absurd (show b∈([]:List Addr) from z) (by simp)
 refine ⟨⟨e0.mod,S.kind,rfl,rfl,Nat.le_refl _,λy z c h1 h2=>?_,λy hy=>?_,λy c _ h=>?_,λ_=>hd,Around.frames_deeper e0.frames,.inr ⟨rfl,rfl⟩,λb z=>absurd z (noA b),e0.bs,e0.bsz,λb _ _=>noA b,λb z=>absurd z (noA b),e0.funs,e0.frf⟩,
  rfl,e0.bare,Un.kept hk,⟨_,x.toInCall.ns,λi y v h1 h2 h3=>?_⟩,λy c h=>⟨_,x.cell y c h⟩,e0.hok.fresh (Nat.le_refl _),λy c h=>?_,λp hp=>absurd (show p∈([]:List (Addr×Obj)) from hp) (by simp),e0.hok.kept hk,?_⟩
 ·exact name_of_addr x.apart (PySem.mem_of_lookup h1) (PySem.mem_of_lookup h2)
 ·have hy:scope.names.lookup y=some .cell\/scope.names.lookup y=some .free:=hy
  rcases hy with hy | hy
  ·exact Zd1 hy
  ·exact absurd rfl (S.nofree _ (PySem.mem_of_lookup hy))
 ·exact Nat.le_of_lt (x.above y c (PySem.mem_of_lookup h))
 ·have hi:i < vs.length:=by
   unfold start at h2
   by_cases hi:i < vs.length
   ·exact hi
   ·rw [List.getElem?_append_right (by simpa using hi)] at h2
    rw [List.getElem?_replicate] at h2
    split at h2 <;> cases h2
  have ha:vs[i]?=some v:=by
   unfold start at h2
   rw [List.getElem?_append_left (by simpa using hi),List.getElem?_map] at h2
   cases e:vs[i]? with
   | none=>rw [e] at h2; cases h2
   | some a=>rw [e] at h2; cases h2; rfl
  obtain ⟨u,hu,rv⟩:=r.get ha
  have hp:ps[i]?=some y:=by
   rw [<- S.pre,List.getElem?_take_of_lt (by omega)]; exact h1
  have ndP:ps.Nodup:=by rw [<- S.pre]; exact S.nd.sublist (List.take_sublist _ _)
  refine ⟨u,rv,?_⟩
  rcases S.par y (List.mem_of_getElem? hp) with k | k
  ·exact .inl ⟨k,Zef ndP hp hu k⟩
  ·obtain ⟨c,e⟩:=Zd1 (n:=s.heap.objs.size+1) k
   refine .inr ⟨.inl k,c,e,?_⟩
   have q:=x.cell y c e
   rw [Zeh ndP hp hu (by show scope.names.lookup y≠_; rw [k]; decide)] at q
   exact q
 ·exact e0.hok.fresh (Nat.le_of_lt (x.above y c (PySem.mem_of_lookup h)))
 ·unfold start
  show _=N.length
  rw [List.length_append,List.length_map,List.length_replicate]
  omega
theorem Zi2 {CX:dq} {P:Program} {w:World} {K:PySem.W.Frag} {mg:Str->Option Value} {base:Heap} {k:Nat} {f:Addr} {name qual:Str} {params:Arguments} {body:List Stmt} {scope:Scope} {dV kV doc pm cdv ct oc:Value} {an od:Option Addr}
  {osl:Array (Option Value)} {N ps:List Str} {sp:Sp} (lk:K.lookup f=some ⟨oc,od,.func (PySem.W.fnOf name qual params body scope dV kV doc pm an cdv ct),osl⟩) (hcd:PySem.W.codeIn K cdv qual=true) (S:FnScope N ps scope)
  (len:∀ vs H Q E,sp vs H Q E->vs.length=ps.length)
  (hbody:∀ (A:Around) (outer:List Env) (s:Shared) (H:Hp) (vs:List V) (Q:VK) (E:XK),Room k (A.deeper (envOfC qual scope s.heap.objs.size f cdv))->sp vs H Q E ->
   ∃ t,PSs (fK CX P w K mg base N qual scope f cdv A outer s H E) body t/\t { nx:=λ_ H'=>Q .non H',rt:=Q } (start N vs) H) :
  FnOk P w K mg base CX (k+1) f (PySem.W.fnOf name qual params body scope dV kV doc pm an cdv ct) ps sp:=by
 refine ⟨len,λA outer s H args us vs Q E hr e0 hb r hsp=>?_⟩
 have hl:=len _ _ _ _ hsp
 have KX:K.In s.heap:=e0.mod.kin.keeps λb o e=>(e0.bs b o e).1
 have lim:s.heap.NoLimit:=e0.mod.nolimit.keeps λb o e=>(e0.bs b o e).1
 have hkind:∀ y∈ps.zip us,scope.names.lookup y.1=some .local\/(scope.names.lookup y.1=some .cell/\((cellsFrom (s.heap.objs.size+1) scope.names []).lookup y.1).isSome=true):=λ⟨n,v⟩ hy=>by
  rcases S.par n (List.of_mem_zip hy).1 with q | q
  ·exact .inl q
  ·exact .inr ⟨q,PySem.W.cellsFrom_some _ _ _ (.inl q)⟩
 refine codeAny_call_function hr.depth (KX _ _ lk) rfl S.co S.gen rfl (PySem.W.codeRec_of KX hcd) (hb _ _ _ _ ?_)
 refine wpAny_newFunctionEnv_cells S.kind hkind λenv he s1 x=>?_
 subst he
 refine ⟨lim.keeps x.toInCall.keep,codeAny_func ?_⟩
 obtain ⟨t,ht,hq⟩:=hbody A outer s H vs Q E (hr.deeper _) hsp
 have I:Inv (fK CX P w K mg base N qual scope f cdv A outer s H E) [] (start N vs) H s1:=ZiJ S hr.hd e0 hl r x
 refine wpAny_mono (ht [] s1 (start N vs) H _ I hq) (λfl s' hs=>?_) λe s' hs=>hs
 have fin:∀ {σ':St} {H':Hp} {v:V} {u:Value},Inv (fK CX P w K mg base N qual scope f cdv A outer s H E) [] σ' H' s'->RelV v u->Q v H'->CE outer P w H s Q u s' :=
  λ{σ' H' v u} J rv q=>⟨v,H',J.os,J.bare,J.base,J.hok,rv,q⟩
 cases fl with
 | ret u =>
  obtain ⟨v,σ',H',J,rv,q⟩:=hs
  exact fin J rv q
 | next =>
  obtain ⟨σ',H',J,q⟩:=hs
  exact fin (v:=V.non) (u:=Value.none) J rfl q
 | brk =>
  obtain ⟨_,_,_,q⟩:=hs
  exact False.elim q
 | cont =>
  obtain ⟨_,_,_,q⟩:=hs
  exact False.elim q
section
variable {X:Cx} {x:Str} {p pos:Pos} {e:Expr} {es:List Expr} {t:TA} {id T:String} {r:List V->Hp->VK->Prop}
noncomputable def eP (r:List V->Hp->VK->Prop) (t:TA):TE:=λσ H Q=>t σ H λvs H1=>r vs H1 Q
theorem bo (hc:cH X (.builtin id) r) (hg:Gl X x) (hm:X.mg x=none) (hv:bootBuiltins x=some (.builtin id)) (ha:PA X (e::es) t) (hn:x≠"__name__":=by decide) (hdb:(x == ("__debug__":Str))=false:=by decide)
  (he:starEach (e::es) X.env=(false,eval e X.env)::starEach es X.env:=by rfl) (hpl:(backTo pos (starEach es X.env)).any (·.1)=false:=by rfl):PE X (.Call (.Name x p) (e::es) [] pos) (eP r t):=by
 intro pins s σ H Q I h
 refine wpAny_Call_Name_kw (gk I hg hm hv ?_ hn hdb)
 exact PyProof.Rows.callWith_builtin1 (thn (ha pos pins s σ H _ I h) λus s1 ⟨vs,H1,I1,r1,q1⟩=>hc pins s1 σ H1 vs us Q I1 r1 q1) he hpl
theorem cP (hc:cH X (.type T) r) (hg:Gl X x) (hm:X.mg x=none) (hv:bootBuiltins x=some (.type T)) (ha:PA X (e::es) t) (hn:x≠"__name__":=by decide) (hdb:(x == ("__debug__":Str))=false:=by decide)
  (he:starEach (e::es) X.env=(false,eval e X.env)::starEach es X.env:=by rfl) (hpl:(backTo pos (starEach es X.env)).any (·.1)=false:=by rfl):PE X (.Call (.Name x p) (e::es) [] pos) (eP r t):=by
 intro pins s σ H Q I h
 refine wpAny_Call_Name_kw (gk I hg hm hv ?_ hn hdb)
 exact PyProof.Rows.callWith_type1 (thn (ha pos pins s σ H _ I h) λus s1 ⟨vs,H1,I1,r1,q1⟩=>hc pins s1 σ H1 vs us Q I1 r1 q1) he hpl
end
end L2
namespace HT
open PySem PyProof.Rows
noncomputable def cE:List Int->List Int->Bool
 | [],[]=>false
 | [],_::_=>true
 | _::_,[]=>false
 | x::xs,y::ys=>if x=y then cE xs ys else decide (x < y)
theorem ZcF (x y:Int) (xs ys:List Int):cE (x::xs) (y::ys)=if x=y then cE xs ys else decide (x < y):=rfl
theorem Zh9:cE [] []=false:=rfl
theorem Zia (y:Int) (ys:List Int):cE [] (y::ys)=true:=rfl
theorem Zib (x:Int) (xs:List Int):cE (x::xs) []=false:=rfl
theorem Zdx (A:Around) (s:Shared) (a:Int) (t:Tok) (c:Int) (u:Tok):∃ e,SeqAt.EqAt A s (.int a t) (.int c u) e/\(e=true ↔ a=c) :=
 ⟨(a == c),SeqAt.EqAt.int_int a t c u,by simp⟩
theorem Zbu (A:Around) (s:Shared) (a:Int) (t:Tok) (c:Int) (u:Tok) (prog:Program) (w:World) (E:Value->Shared->Prop) (Q:Value->Shared->Prop) (h:Q (.bool (decide (a < c))) s) :
  wpAny (model prog w) A (richCompare .Lt (.int a t) (.int c u)) Q E s :=
 (PyProof.Rows.lt_int h:wpAny (model prog w) A (compareOp .Lt (.int a t) (.int c u)) Q E s)
section
open PySem.SeqAt
open PySem.AutoSeq1 (wpAny_loadPart')
open PySem.MeetsSeq PySem.MeetsSeq2 PySem.MeetsSeq3
theorem Zfo (l b:Addr) (items items2:Array Value) (n n2:Nat) (dd dd2:Option Addr) (sl dQ:Array (Option Value)) (ns ms:List Int) (hi:IntsAre items.toList ns) (hj:IntsAre items2.toList ms) :
  Meets (Builtin.«tuple.__lt__» ⟨[.ref l,.ref b],[]⟩)
   (λ_ R s=>s.heap.get? l=some { cls:=.type "tuple",dict:=dd,data:=.seq items n,slots:=sl }/\s.heap.get? b=some { cls:=.type "tuple",dict:=dd2,data:=.seq items2 n2,slots:=dQ } /\
    R (.ok (.ret (.bool (cE ns ms)))) s) :=
 .of_wp λprog w A R s h=>by
  obtain ⟨hp,g,d,tk,os⟩:=s; obtain ⟨hl,hb,h⟩:=h
  have f2:=AutoSeq1.sub_tuple_tuple
  have z1:items.size=ns.length:=by rw [<- hi.length]; simp
  have z2:items2.size=ms.length:=by rw [<- hj.length]; simp
  wp_walk using wpAny_loadPart' hl,wpAny_loadPart' hb,wpAny_forIn_list _ (λrest b s'=>b.1=none/\s'=⟨hp,g,d,tk,os⟩/\∃ (vs ws:List Value) (ns' ms':List Int),rest=vs.zip ws /\
   IntsAre vs ns'/\IntsAre ws ms'/\ns'.length+items2.size=ms'.length+items.size/\R (.ok (.ret (.bool (cE ns' ms')))) ⟨hp,g,d,tk,os⟩) _
  case turn =>
   rintro ⟨y,x⟩ rest b s' ⟨hb',rfl,vs,ws,ns',ms',hz,hvi,hwi,hlen,hR⟩
   cases hvi with
   | nil=>rw [List.zip_nil_left] at hz; cases hz
   | cons a t hvi' =>
    cases hwi with
    | nil=>rw [List.zip_nil_right] at hz; cases hz
    | cons c u hwi' =>
     rw [List.zip_cons_cons] at hz
     injection hz with hyx hrest
     injection hyx with hy hx
     subst hy hx
     rw [ZcF] at hR
     simp only [List.length_cons] at hlen
     obtain ⟨e,he,hiff⟩:=Zdx A.in1 ⟨hp,g,d,tk,os⟩ a t c u
     refine wpAny_bind (he prog w _ _ ?_)
     cases e with
     | true =>
      rw [if_pos (hiff.mp rfl)] at hR
      wp_walk
      exact ⟨rfl,rfl,_,_,_,_,hrest,hvi',hwi',by omega,hR⟩
     | false =>
      rw [if_neg (λq=>absurd (hiff.mpr q) Bool.false_ne_true)] at hR
      have hri:=Zbu A.in1 ⟨hp,g,d,tk,os⟩ a t c u prog w
      wp_walk using hri
      exact ⟨_,rfl,by simpa using hR⟩
  case fin =>
   rintro ⟨b1,b2⟩ s' ⟨hb',rfl,vs,ws,ns',ms',hz,hvi,hwi,hlen,hR⟩
   simp only at hb'
   subst hb'
   have hv:cE ns' ms'=decide (items.size < items2.size):=by
    cases hvi with
    | nil =>
     cases hwi with
     | nil =>
      simp only [List.length_nil] at hlen
      rw [Zh9]
      exact (decide_eq_false (by omega)).symm
     | cons c u hw =>
      simp only [List.length_nil,List.length_cons] at hlen
      rw [Zia]
      exact (decide_eq_true (by omega)).symm
    | cons a t hv =>
     cases hwi with
     | nil =>
      simp only [List.length_nil,List.length_cons] at hlen
      rw [Zib]
      exact (decide_eq_false (by omega)).symm
     | cons c u hw =>
      rw [List.zip_cons_cons] at hz
      cases hz
   rw [hv] at hR
   wp_walk
   exact ⟨_,rfl,by simpa [Builtin.Tuple.tupleCompareSizes] using hR⟩
  case h =>
   exact ⟨rfl,rfl,items.toList,items2.toList,ns,ms,rfl,hi,hj,by omega,h⟩
end
section
variable {prog:Program} {w:World} {A:Around} {E:Value->Shared->Prop} {s:Shared}
theorem Zh2 {l b:Addr} {items items2:Array Value} {ns ms:List Int} {Q:Value->Shared->Prop} (hl:IsTup s.heap l items) (hb:IsTup s.heap b items2) (hi:IntsAre items.toList ns) (hj:IntsAre items2.toList ms)
  (hu:A.units < cLine) (h:Q (.bool (cE ns ms)) s):wpAny (model prog w) A (compareOp .Lt (.ref l) (.ref b)) Q E s:=by
 obtain ⟨⟨cls,dd,data,sl⟩,ho,hc,n,hd⟩:=id hl
 obtain ⟨⟨cls2,dd2,data2,dQ⟩,ho2,hc2,n2,hd2⟩:=id hb
 simp only at hc hd hc2 hd2
 subst hc hd hc2 hd2
 exact richCompare_meets_room (op:=.Lt) ⟨_,ho,rfl⟩ ⟨_,ho2,rfl⟩ PySem.F.slot_tuple_lt PySem.F.entry_tuple_lt (PySem.F.args_tuple_lt_2 _ _) (Zfo l b items items2 n n2 dd dd2 sl dQ ns ms hi hj)
  ⟨ho,ho2,show Value.bool (cE ns ms)≠Value.notImplemented/\Q (.bool (cE ns ms)) s from ⟨(λx=>nomatch x),h⟩⟩ hu
theorem Zky {t b:Addr} {vs ws:List Value} {Q:Value->Shared->Prop} (ht:IsTup s.heap t vs.toArray) (hb:IsTup s.heap b ws.toArray) (hv:vs≠[])
  (h1:ws=[]->Q (.ref t) s) (h2:ws≠[]->Q (.ref s.heap.objs.size) { s with heap:=s.heap.push { cls:=.type "tuple",data:=.seq (vs++ws).toArray } })
  (hsz:vs.length+ws.length<=sizeLine):wpAny (model prog w) A (binaryOp .Add (.ref t) (.ref b)) Q E s:=by
 obtain ⟨⟨cls,dd,data,sl⟩,ho,hc,n,hd⟩:=id ht
 obtain ⟨⟨cls2,dd2,data2,dQ⟩,ho2,hc2,n2,hd2⟩:=id hb
 simp only at hc hd hc2 hd2
 subst hc hd hc2 hd2
 have e:vs.toArray++ws.toArray=(vs++ws).toArray:=by simp
 by_cases hw:ws=[]
 ·exact concat_meets ⟨_,ho,rfl⟩ ⟨_,ho2,rfl⟩ noFill_tuple_add seq_tuple_add PySem.F.slot_tuple_add PySem.F.entry_tuple_add (PySem.F.args_tuple_add_2 _ _)
   (tuple_addW1 t b vs.toArray ws.toArray n n2 dd dd2 sl dQ (by simpa using hv) (by simp [hw])) ⟨ho,ho2,h1 hw⟩
 ·refine concat_meets ⟨_,ho,rfl⟩ ⟨_,ho2,rfl⟩ noFill_tuple_add seq_tuple_add PySem.F.slot_tuple_add PySem.F.entry_tuple_add (PySem.F.args_tuple_add_2 _ _)
   (tuple_addW2 t b vs.toArray ws.toArray n n2 dd dd2 sl dQ (by simpa using hv) (by simpa using hw) (by rw [List.size_toArray,List.size_toArray]; exact hsz)) ⟨ho,ho2,?_⟩
  rw [e]
  exact h2 hw
noncomputable def cg (n d:Nat):Option Int->Nat
 | none=>d
 | some v=>if v < 0 then (v+(n:Int)).toNat else min v.toNat n
theorem Zgm (n d k:Nat):cg n d (some (k:Int))=min k n:=by
 show (if (k:Int) < 0 then ((k:Int)+(n:Int)).toNat else min (k:Int).toNat n)=min k n
 rw [if_neg (by omega),Int.toNat_natCast]
theorem mF {v:Value} {o:Option Int} {Q:Option Int->Shared->Prop} (p:IsPart v o) (h:Q o s):wpAny (model prog w) A (Builtin.Slice.slicePartIndex v) Q E s:=by
 cases p with
 | none=>exact slicePart_none h
 | int i t=>exact slicePart_int h
end
end HT
namespace L2
open PySem PySem.Spec PyProof.Rows
noncomputable abbrev TO:=St->Hp->(Option Int->Hp->Prop)->Prop
noncomputable def PO (X:Cx) (e:Option Expr) (t:TO):Prop :=
 ∀ (pins:List (Addr×Obj)) (s:Shared) (σ:St) (H:Hp) (Q:Option Int->Hp->Prop),Inv X pins σ H s->t σ H Q ->
  wpAny (model X.prog X.w) X.A (evalPart e X.env) (λu s'=>∃ o H',Inv X pins σ H' s'/\IsPart u o/\Q o H') X.xe s
noncomputable def ZfD:TO:=λ_ H Q=>Q none H
noncomputable def ZfB (t:TE):TO:=λσ H Q=>t σ H λx H1=>∃ i,x=.int i/\Q (some i) H1
theorem oI {ns:List Int}:∀ {us:List Value},Vals (ns.map V.int) us->IntsAre us ns:=by
 induction ns with
 | nil=>intro us r; rw [List.map_nil] at r; cases r; exact .nil
 | cons n ns ih =>
  intro us r
  rw [List.map_cons] at r
  cases r with
  | cons r1 r2 =>
   obtain ⟨t,e⟩:=r1
   subst e
   exact .cons n t (ih r2)
section
variable {X:Cx} {e:Expr} {te:TE} {lo hi:Option Expr} {tl th:TO} {pos p2:Pos}
theorem ZgY:PO X none ZfD:=by
 intro pins s σ H Q I h
 rw [evalPart_none]
 exact wpAny_pure ⟨none,H,I,.none,h⟩
theorem ZgX (h:PE X e te):PO X (some e) (ZfB te):=by
 intro pins s σ H Q I hw
 rw [evalPart_some]
 refine thn (h pins s σ H _ I hw) λu s1 hz0=>?_
 obtain ⟨x,H1,I1,r1,q1⟩:=hz0
 obtain ⟨i,rfl,q⟩:=q1
 obtain ⟨t,rfl⟩:=r1
 exact ⟨some i,H1,I1,.int i t,q⟩
noncomputable def SlR (X:Cx) (r:V->Option Int->Option Int->Hp->VK->Prop):Prop :=
 ∀ (pins:List (Addr×Obj)) (s:Shared) (σ:St) (H:Hp) (x:V) (v vl vu:Value) (lo hi:Option Int) (sl:Addr) (Q:VK),Inv X pins σ H s->RelV x v->s.heap.IsSliceOf sl vl vu .none->IsPart vl lo->IsPart vu hi->r x lo hi H Q ->
  ∃ T id,typeLookup (.type T) "__getitem__"=pure (some (.builtin id))/\s.TypeIs v T/\wpAny (model X.prog X.w) X.A (getItem v (.ref sl)) (EP X pins σ Q) X.xe s
noncomputable def tSl (r:V->Option Int->Option Int->Hp->VK->Prop) (te:TE) (tl th:TO):TE:=λσ H Q=>te σ H λx H1=>tl σ H1 λl H2=>th σ H2 λu H3=>r x l u H3 Q
theorem Zhe {r:V->Option Int->Option Int->Hp->VK->Prop} (hr:SlR X r) (he:PE X e te) (hl:PO X lo tl) (hu:PO X hi th):PE X (.Subscript e (.Slice lo hi none p2) pos) (tSl r te tl th):=by
 intro pins s σ H Q I h
 refine Subscript_ (thn (he pins s σ H _ I h) λv s1 hz0=>?_)
 obtain ⟨x,H1,I1,r1,q1⟩:=hz0
 refine wpAny_Slice (thn (hl pins s1 σ H1 _ I1 q1) λvl s2 ⟨l,H2,I2,pl,q2⟩=>thn (hu pins s2 σ H2 _ I2 q2) λvu s3 hz0=>?_)
 obtain ⟨u,H3,I3,pu,q3⟩:=hz0
 rw [evalPart_none]
 refine wpAny_pure ?_
 have I4:Inv X pins σ H3 { s3 with heap:=s3.heap.push { cls:=.type "slice",data:=.fields #[vl,vu,.none] } }:=I3.kept (t':=s3.toks) λb ob q=>Heap.get?_push_of_some _ q
 obtain ⟨T,id,hT,ht,hg⟩:=hr pins { s3 with heap:=s3.heap.push { cls:=.type "slice",data:=.fields #[vl,vu,.none] } } σ H3 x v vl vu l u s3.heap.objs.size Q I4 r1 (Heap.IsSliceOf.new ..) pl pu q3
 show wpAny (model X.prog X.w) X.A (subscriptTail e (.Slice lo hi none p2) v (.ref s3.heap.objs.size)) (EP X pins σ Q) X.xe { s3 with heap:=s3.heap.push { cls:=.type "slice",data:=.fields #[vl,vu,.none] } }
 exact tail_any (ops:=[.ref s3.heap.objs.size,v]) ht hT hg (by with_unfolding_all rfl)
noncomputable def fL (xs:List V) (lo hi:Option Int):List V:=(xs.drop (HT.cg xs.length 0 lo)).take (HT.cg xs.length xs.length hi - HT.cg xs.length 0 lo)
theorem Zkl (xs:List V) (lo hi:Option Int):(fL xs lo hi).length<=xs.length:=by
 unfold fL
 rw [List.length_take,List.length_drop]
 exact Nat.le_trans (Nat.min_le_right _ _) (Nat.sub_le _ _)
noncomputable def ZbO (K:PySem.W.Frag):R2:=λx y H Q=>∃ a b xs ys,x=.ref a/\y=.ref b/\SqT K H a xs/\SqT K H b ys/\xs≠[]/\xs.length+ys.length<=sizeLine /\
 (ys=[]->Q (.ref a) H)/\(ys≠[]->∀ p,H p=none->Q (.ref p) (upd H p (.tup (xs++ys))))
theorem Vals.nil_iff {xs:List V} {us:List Value} (r:Vals xs us):us=[] ↔ xs=[]:=by
 cases r with
 | nil=>simp
 | cons _ _=>simp
theorem Zhw:OpR X (binaryOp .Add) (ZbO X.K):=by
 intro pins s σ H x y v u Q I rx ry h
 obtain ⟨a,b,xs,ys,rfl,rfl,ha,hb,hx,hz,q1,q2⟩:=h
 cases rx
 cases ry
 obtain ⟨its,r1,p1,_⟩:=I.tuple ha
 obtain ⟨its2,r2,p2,_⟩:=I.tuple hb
 refine HT.Zky p1 p2 (λz=>hx (r1.nil_iff.mp z)) (λz=>⟨.ref a,H,I,rfl,q1 (r2.nil_iff.mp z)⟩) (λz=>?_) (by rw [<- r1.length,<- r2.length]; exact hz)
 refine ⟨.ref s.heap.objs.size,_,I.laid (t':=s.toks) (o:=.tup (xs++ys)) (λb ob q=>Heap.get?_push_of_some _ q) (Nat.le_refl _) ?_,rfl,q2 (λw=>z (r2.nil_iff.mpr w)) _ (I.hok.fresh (Nat.le_refl _))⟩
 exact ⟨by rw [List.length_append]; exact hz,_,r1.append r2,IsTup.new _ _⟩
end
noncomputable def bB (n:Nat) (i:Int):Option Nat:=if 0<=i then (if i < n then some i.toNat else none) else if -(n:Int)<=i then some (i+n).toNat else none
noncomputable def bv {α:Type} (xs:List α) (i:Int):Option α:=(bB xs.length i).bind λj=>xs[j]?
theorem kX {n:Nat} {i:Int} {j:Nat} (h:bB n i=some j):seqIndex? i n=some j/\j < n/\-(n:Int)<=i/\i < n:=by
 unfold bB at h
 by_cases h0:0<=i
 ·rw [if_pos h0] at h
  by_cases h1:i < n
  ·rw [if_pos h1] at h
   have e:i.toNat=j:=Option.some.inj h
   exact ⟨by rw [seqIndex_of h0 h1,e],by omega,by omega,h1⟩
  ·rw [if_neg h1] at h; cases h
 ·rw [if_neg h0] at h
  by_cases h1:-(n:Int)<=i
  ·rw [if_pos h1] at h
   have e:(i+n).toNat=j:=Option.some.inj h
   exact ⟨by rw [seqIndex_neg (by omega) h1,e],by omega,h1,by omega⟩
  ·rw [if_neg h1] at h; cases h
theorem sW {α:Type} {xs:List α} {i:Int} {v:α} (h:bv xs i=some v):∃ j,seqIndex? i xs.length=some j/\xs[j]?=some v/\j < xs.length/\-(xs.length:Int)<=i/\i < xs.length:=by
 unfold bv at h
 cases e:bB xs.length i with
 | none=>rw [e] at h; cases h
 | some j =>
  rw [e] at h
  obtain ⟨h1,h2,h3,h4⟩:=kX e
  exact ⟨j,h1,h,h2,h3,h4⟩
theorem eu {α:Type} {xs:List α} {j:Nat} {v:α} (h:xs[j]?=some v):bv xs (j:Int)=some v:=by
 have hj:j < xs.length:=(List.getElem?_eq_some_iff.mp h).1
 have e:bB xs.length (j:Int)=some j:=by
  unfold bB
  rw [if_pos (by omega),if_pos (by omega)]; simp
 unfold bv; rw [e]; exact h
noncomputable def ZeO (b:Expr):Prop:=∀ o i,subscripted b false o i=operate [o,i] (getItem o i)
noncomputable def IxR (X:Cx) (r:R2):Prop :=
 ∀ (value slice:Expr) (pins:List (Addr×Obj)) (s:Shared) (σ:St) (H:Hp) (x y:V) (v u:Value) (Q:VK),Inv X pins σ H s->RelV x v->RelV y u->r x y H Q ->
  subscripted slice false v u=operate [v,u] (getItem v u)->wpAny (model X.prog X.w) X.A (subscriptTail value slice v u) (EP X pins σ Q) X.xe s
noncomputable def MtR (X:Cx) (id:String) (r:V->List V->Hp->VK->Prop):Prop :=
 ∀ (pins:List (Addr×Obj)) (s:Shared) (σ:St) (H:Hp) (x:V) (xs:List V) (v:Value) (us:List Value) (Q:VK),Inv X pins σ H s->RelV x v->Vals xs us->r x xs H Q ->
  wpAny (model X.prog X.w) X.A (call (.builtin id) (v::us)) (EP X pins σ Q) X.xe s
section
variable {X:Cx} {a b:Expr} {ta tb:TE} {pos:Pos}
theorem IxR.or {r r':R2} (h:IxR X r) (h':IxR X r'):IxR X (λx y H Q=>r x y H Q\/r' x y H Q):=by
 intro value slice pins s σ H x y v u Q I rx ry q hs
 rcases q with q | q
 ·exact h value slice pins s σ H x y v u Q I rx ry q hs
 ·exact h' value slice pins s σ H x y v u Q I rx ry q hs
theorem dU {r:R2} (hr:IxR X r) (ha:PE X a ta) (hb:PE X b tb) (hs:ZeO b):PE X (.Subscript a b pos) (gD r ta tb):=by
 intro pins s σ H Q I h
 exact Subscript_ (sU ha hb I h λv u s2 x y H2 I2 rx ry q=>hr a b pins s2 σ H2 x y v u Q I2 rx ry q (hs _ _))
noncomputable def ny (K:PySem.W.Frag):R2:=λx y H Q=>∃ p xs i v,x=.ref p/\y=.int i/\SqL K H p xs/\bv xs i=some v/\Q v H
noncomputable def ZbI (K:PySem.W.Frag):R2:=λx y H Q=>∃ p xs i v,x=.ref p/\y=.int i/\SqT K H p xs/\bv xs i=some v/\Q v H
noncomputable def ZbJ:R2:=λx y H Q=>∃ z i c,x=.str z/\y=.int i/\z.length<=sizeLine/\bv z.cps.toList i=some c/\Q (.str ⟨#[c]⟩) H
theorem dW:IxR X (ny X.K):=by
 intro value slice pins s σ H x y v u Q I rx ry h hs
 obtain ⟨p,xs,i,z,rfl,rfl,hq,he,q⟩:=h
 cases rx
 obtain ⟨t,rfl⟩:=ry
 obtain ⟨its,r,pl,hz⟩:=I.list hq
 obtain ⟨j,h1,h2,h3,h4,h5⟩:=sW he
 obtain ⟨w,ew,rw'⟩:=r.get h2
 have hl:=r.length
 have hn:=gj
 have fin:EP X pins σ Q w s:=⟨z,H,I,rw',q⟩
 by_cases h0:0<=i
 ·have hj:i.toNat=j:=by
   rw [seqIndex_of h0 h5] at h1
   exact Option.some.inj h1
  exact item_listR pl.isList h0 (by omega) (by rw [hj]; simpa using ew) fin hs
 ·have hj:(i+(its.toArray.size:Int)).toNat=j:=by
   rw [seqIndex_neg (by omega) h4] at h1
   rw [List.size_toArray,<- hl]
   exact Option.some.inj h1
  exact subscriptTail_builtinR (x:=w) pl.isList.typeIs slot_list_getitem.lookup
   (wpAny_getItem_list_neg (Q:=λr s'=>r=w/\EP X pins σ Q r s') pl.isList (by omega) (by rw [List.size_toArray] <;> omega) (by omega) (by rw [hj]; simpa using ew) ⟨rfl,fin⟩) hs
theorem ZiE:IxR X (ZbI X.K):=by
 intro value slice pins s σ H x y v u Q I rx ry h hs
 obtain ⟨p,xs,i,z,rfl,rfl,hq,he,q⟩:=h
 cases rx
 obtain ⟨t,rfl⟩:=ry
 obtain ⟨its,r,pl,hz⟩:=I.tuple hq
 obtain ⟨j,h1,h2,h3,h4,h5⟩:=sW he
 obtain ⟨w,ew,rw'⟩:=r.get h2
 have hl:=r.length
 have hn:=gj
 have fin:EP X pins σ Q w s:=⟨z,H,I,rw',q⟩
 exact subscriptTail_builtinR (x:=w) pl.typeIs slot_tuple_getitem.lookup
  (getItem_tuple (j:=j) (Q:=λr s'=>r=w/\EP X pins σ Q r s') pl (by omega) (by omega) (by rw [List.size_toArray,<- hl]; exact h1) (by simpa using ew) ⟨rfl,fin⟩) hs
theorem ZiF:IxR X ZbJ:=by
 intro value slice pins s σ H x y v u Q I rx ry h hs
 obtain ⟨z,i,c,rfl,rfl,hz,he,q⟩:=h
 obtain ⟨t,rfl⟩:=rx
 obtain ⟨t',rfl⟩:=ry
 obtain ⟨j,h1,h2,h3,h4,h5⟩:=sW he
 have hl:z.cps.toList.length=z.length:=by simp [Str.length]
 rw [hl] at h1 h4 h5
 have hn:=gj
 exact tail_any (typeIs_str s z t) slot_str_getitem.lookup (getItem_str (c:=c) (by
  have e1:decide (i < -(2 ^ 63:Int))=false:=decide_eq_false (by omega)
  have e2:decide (i ≥ 2 ^ 63)=false:=decide_eq_false (by omega)
  rw [e1,e2,Bool.or_false]) (by rw [h1]; simpa using h2) ⟨.str ⟨#[c]⟩,H,I.tok _,⟨_,rfl⟩,q⟩) hs
noncomputable def rIx (K:PySem.W.Frag):R2:=λx y H Q=>ny K x y H Q\/ZbI K x y H Q\/ZbJ x y H Q
theorem bc:IxR X (rIx X.K):=dW.or (ZiE.or ZiF)
theorem Zh1 (its:List Value) (n j:Nat) (u:Value):Obj.mapSeq (·.setIfInBounds j u) { cls:=.type "list",data:=.seq its.toArray n }={ cls:=.type "list",data:=.seq (its.set j u).toArray n }:=by
 simp [Obj.mapSeq]
theorem Inv.lst {pins:List (Addr×Obj)} {σ:St} {H:Hp} {s:Shared} {p:Addr} {xs:List V} (I:Inv X pins σ H s) (h:H p=some (.lst xs)) :
  ∃ (its:List Value) (n:Nat),Vals xs its/\s.heap.get? p=some { cls:=.type "list",data:=.seq its.toArray n }/\xs.length<=sizeLine:=by
 obtain ⟨z,its,n,r,e⟩:=I.hok p _ h
 exact ⟨its,n,r,e,z⟩
theorem Inv.lstUpd {pins:List (Addr×Obj)} {σ:St} {H:Hp} {s:Shared} {p:Addr} {xs ys:List V} {its its':List Value} {n n':Nat} {f:Obj->Obj} (I:Inv X pins σ H s) (h:H p=some (.lst xs))
  (ho:s.heap.get? p=some { cls:=.type "list",data:=.seq its.toArray n }) (hf:f { cls:=.type "list",data:=.seq its.toArray n }={ cls:=.type "list",data:=.seq its'.toArray n' }) (r:Vals ys its') (hz:ys.length<=sizeLine) (t:Nat) :
  Inv X pins σ (upd H p (.lst ys)) { s with heap:=s.heap.update p f,toks:=t }:=by
 have e:(s.heap.update p f).get? p=some { cls:=.type "list",data:=.seq its'.toArray n' }:=by
  rw [Heap.get?_update_self f ho (by rw [hf] <;> rfl),hf]
 refine I.write (x:=p) (e:=p) (by rw [h]; trivial) (.inl rfl) (λb u hb q=>(Heap.get?_update_other _ _ (Ne.symm hb)).trans q) ⟨_,e⟩ ?_
 exact ⟨hz,its',n',r,e⟩
noncomputable def nw:V->V->V->Hp->(Hp->Prop)->Prop:=λo i v H Q=>∃ p xs k j,o=.ref p/\i=.int k/\H p=some (.lst xs)/\bB xs.length k=some j/\Q (upd H p (.lst (xs.set j v)))
theorem iO:ZeP X nw:=by
 intro pins s σ H o i v ov iv u Q I ro ri rv h
 obtain ⟨p,xs,k,j,rfl,rfl,hp,hj,q⟩:=h
 cases ro
 obtain ⟨t,rfl⟩:=ri
 obtain ⟨its,n,r,ho,hz⟩:=I.lst hp
 obtain ⟨h1,h2,h3,h4⟩:=kX hj
 have hl:=r.length
 have hn:=gj
 have I':Inv X pins σ (upd H p (.lst (xs.set j v))) { s with heap:=s.heap.update p (Obj.mapSeq (·.setIfInBounds j u)) } :=
  I.lstUpd hp ho (Zh1 its n j u) (r.set rv j) (by rw [List.length_set]; exact hz) s.toks
 by_cases h0:0<=k
 ·have hk:k.toNat=j:=by
   rw [seqIndex_of h0 h4] at h1
   exact Option.some.inj h1
  exact PySem.W.ki_setAt ho h0 (by omega) (by rw [List.size_toArray,<- hl]; exact h4) (by rw [hk]; exact ⟨_,I',q⟩)
 ·have hk:(k+(its.toArray.size:Int)).toNat=j:=by
   rw [seqIndex_neg (by omega) h3] at h1
   rw [List.size_toArray,<- hl]
   exact Option.some.inj h1
  exact PySem.W.ki_setBack ho (by omega) (by rw [List.size_toArray,<- hl]; exact h3) (by omega) (by rw [hk]; exact ⟨_,I',q⟩)
theorem ZdX {n:Nat} {i:Int} (h:i < 0):max 0 (min (i+(n:Int)) n)=(((i+n).toNat:Nat):Int):=by
 rw [Int.min_eq_left (by omega),Int.ofNat_toNat,Int.max_comm]
theorem ZdY {n:Nat} {i:Int} (h:¬ i < 0):max 0 (min i (n:Int))=((min i.toNat n:Nat):Int):=by
 obtain ⟨k,rfl⟩:=Int.eq_ofNat_of_zero_le (Int.not_lt.mp h)
 rw [Int.toNat_natCast,<- Lean.Omega.Int.ofNat_min]
 exact Int.max_eq_right (Int.natCast_nonneg _)
theorem ZfY (lo hi:Option Int) (n:Nat):(sliceBounds lo hi none n).1=((HT.cg n 0 lo:Nat):Int)/\(sliceBounds lo hi none n).2.1=((HT.cg n n hi:Nat):Int)/\(sliceBounds lo hi none n).2.2=1:=by
 refine ⟨?_,?_,rfl⟩
 ·cases lo with
  | none=>simp [sliceBounds,HT.cg]
  | some i =>
   simp only [sliceBounds,HT.cg,Option.getD_none,show (1:Int) > 0 by decide,if_true]
   by_cases h:i < 0
   ·simp only [h,if_true]
    exact ZdX h
   ·simp only [h,if_false]
    exact ZdY h
 ·cases hi with
  | none=>simp [sliceBounds,HT.cg]
  | some i =>
   simp only [sliceBounds,HT.cg,Option.getD_none,show (1:Int) > 0 by decide,if_true]
   by_cases h:i < 0
   ·simp only [h,if_true]
    exact ZdX h
   ·simp only [h,if_false]
    exact ZdY h
theorem ZfZ (its:List Value) (lo hi:Option Int):slicePick its.toArray lo hi none=((its.drop (HT.cg its.length 0 lo)).take (HT.cg its.length its.length hi - HT.cg its.length 0 lo)).toArray:=by
 obtain ⟨h1,h2,h3⟩:=ZfY lo hi its.toArray.size
 unfold slicePick
 rw [h1,h2,h3]
 simp only [sliceRange_one,pick_run,List.size_toArray] <;> rfl
noncomputable def ZgF (K:PySem.W.Frag):V->Option Int->Option Int->Hp->VK->Prop:=λx lo hi H Q=>∃ a xs,x=.ref a/\SqL K H a xs/\∀ p,H p=none->Q (.ref p) (upd H p (.lst (fL xs lo hi)))
theorem Zf2:SlR X (ZgF X.K):=by
 intro pins s σ H x v vl vu lo hi sl Q I rx hs pl pu h
 obtain ⟨a,xs,rfl,hx,q⟩:=h
 cases rx
 obtain ⟨its,r,ht,hz⟩:=I.list hx
 have hlen:=r.length
 refine ⟨"list",_,slot_list_getitem.lookup,ht.isList.typeIs,?_⟩
 refine wpAny_getItem_list_slice ht.isList hs pl pu .none (by simp) ?_ (by rw [List.size_toArray] <;> omega)
 rw [ZfZ,<- hlen]
 refine ⟨.ref s.heap.objs.size,_,I.laid (t':=s.toks) (o:=.lst (fL xs lo hi)) (λb ob q=>Heap.get?_push_of_some _ q) (Nat.le_refl _) ?_,rfl,q _ (I.hok.fresh (Nat.le_refl _))⟩
 exact ⟨Nat.le_trans (Zkl xs lo hi) hz,_,0,(r.drop (HT.cg xs.length 0 lo)).take (HT.cg xs.length xs.length hi - HT.cg xs.length 0 lo),Heap.get?_push_size _ rfl⟩
theorem lE:cH X (.builtin "len") (λxs H Q=>∃ p ys,xs=[.ref p]/\(SqL X.K H p ys\/SqT X.K H p ys)/\Q (.int ys.length) H):=by
 intro pins s σ H xs us Q I r h
 obtain ⟨p,ys,rfl,hq,q⟩:=h
 obtain ⟨u,rfl,rx⟩:=cJ r
 cases rx
 have hn:=gj
 rcases hq with hq | hq
 ·obtain ⟨its,r',pl,hz⟩:=I.list hq
  have hlen:=r'.length
  exact Calls.call_len_list pl.isList (by simp only [List.size_toArray] <;> omega) ⟨.int ys.length,H,I.tok _,⟨s.toks+1,by rw [List.size_toArray,hlen]⟩,q⟩
 ·obtain ⟨its,r',pl,hz⟩:=I.tuple hq
  have hlen:=r'.length
  exact len_tuple pl (by simp only [List.size_toArray] <;> omega) ⟨.int ys.length,H,I.tok _,⟨s.toks+1,by rw [List.size_toArray,hlen]⟩,q⟩
theorem ZkF:cH X (.type "list") (λxs H Q=>∃ p ys,xs=[.ref p]/\(SqL X.K H p ys\/SqT X.K H p ys)/\∀ l,H l=none->Q (.ref l) (upd H l (.lst ys))):=by
 intro pins s σ H xs us Q I r h
 obtain ⟨p,ys,rfl,hq,q⟩:=h
 obtain ⟨u,rfl,rx⟩:=cJ r
 cases rx
 have fin:∀ (its:List Value),Vals ys its->ys.length<=sizeLine->∀ (h':Heap) (c':Nat),(∀ b o',s.heap.get? b=some o'->h'.get? b=some o') ->
   h'.get? s.heap.objs.size=some { cls:=.type "list",dict:=none,data:=.seq its.toArray c',slots:=#[] }->EP X pins σ Q (.ref s.heap.objs.size) { s with heap:=h' }:=λits r' hz h' c' kp e =>
  ⟨.ref s.heap.objs.size,_,I.laid (t':=s.toks) kp (Nat.le_refl _) (show ObjOk X.prog X.w _ h' _ (.lst ys) from ⟨hz,its,c',r',e⟩),rfl,q _ (I.hok.fresh (Nat.le_refl _))⟩
 rcases hq with hq | hq
 ·obtain ⟨its,r',pl,hz⟩:=I.list hq
  have hlen:=r'.length
  obtain ⟨o,ho,hc,n,hd⟩:=pl.isList
  exact call_list_seq p (.inl rfl) ho hc hd (λh' c' kp e=>fin its r' hz h' c' kp e) (by simp only [List.size_toArray] <;> omega)
 ·obtain ⟨its,r',pl,hz⟩:=I.tuple hq
  have hlen:=r'.length
  obtain ⟨o,ho,hc,n,hd⟩:=pl
  exact call_list_seq p (.inr rfl) ho hc hd (λh' c' kp e=>fin its r' hz h' c' kp e) (by simp only [List.size_toArray] <;> omega)
theorem gu:cH X (.type "tuple") (λxs H Q=>∃ p ys,xs=[.ref p]/\((SqL X.K H p ys/\∀ l,H l=none->Q (.ref l) (upd H l (.tup ys)))\/(SqT X.K H p ys/\Q (.ref p) H))):=by
 intro pins s σ H xs us Q I r h
 obtain ⟨p,ys,rfl,h⟩:=h
 obtain ⟨u,rfl,rx⟩:=cJ r
 cases rx
 rcases h with ⟨hq,q⟩ | ⟨hq,q⟩
 ·obtain ⟨its,r',pl,hz⟩:=I.list hq
  have hlen:=r'.length
  refine call_tuple_list pl.isList (λh' kp=>?_) (by simp only [List.size_toArray] <;> omega)
  have I1:Inv X pins σ H { s with heap:=h' }:=I.kept (t':=s.toks) kp
  have I2:Inv X pins σ (upd H h'.objs.size (.tup ys)) { s with heap:=h'.push { cls:=.type "tuple",data:=.seq its.toArray } } :=
   I1.laid (t':=s.toks) (λb o e=>Heap.get?_push_of_some _ e) (Nat.le_refl _) (show ObjOk X.prog X.w _ _ _ (.tup ys) from ⟨hz,its,r',IsTup.new _ _⟩)
  exact ⟨.ref h'.objs.size,_,I2,rfl,q _ (I1.hok.fresh (Nat.le_refl _))⟩
 ·obtain ⟨its,r',pl,hz⟩:=I.tuple hq
  exact call_tuple_same pl ⟨.ref p,H,I,rfl,q⟩
noncomputable def mr (K:PySem.W.Frag) (T:String) (x:V) (H:Hp):Prop:=match x with
 | .str _=>T="str"
 | .int _=>T="int"
 | .ref p=>(T="list"/\∃ xs,SqL K H p xs)\/(T="tuple"/\∃ o,K.lookup p=some o/\o.cls=.type "tuple"/\o.dict=none) \/
   (T="dict"/\((∃ kvs,H p=some (.dK kvs))\/∃ kvs,H p=some (.dT kvs)))\/(T="set"/\∃ S n,H p=some (.set S n))
 | _=>False
theorem Zaq {pins:List (Addr×Obj)} {σ:St} {H:Hp} {s:Shared} {T:String} {x:V} {v:Value} (I:Inv X pins σ H s) (r:RelV x v) (ty:mr X.K T x H) :
  s.TypeIs v T/\∀ a,v=.ref a->∃ ob,s.heap.get? a=some ob/\ob.dict=none:=by
 cases x with
 | str z =>
  obtain ⟨t,rfl⟩:=r
  cases (show T="str" from ty)
  exact ⟨typeIs_str s z t,λ_ e=>nomatch e⟩
 | int i =>
  obtain ⟨t,rfl⟩:=r
  cases (show T="int" from ty)
  exact ⟨typeIs_int s i t,λ_ e=>nomatch e⟩
 | ref p =>
  cases r
  rcases ty with ⟨rfl,xs,hq⟩ | ⟨rfl,o,hk,hc,hd⟩ | ⟨rfl,hk⟩ | ⟨rfl,S,n,hk⟩
  ·obtain ⟨its,_,pl,_⟩:=I.list hq
   refine ⟨pl.isList.typeIs,λa e=>?_⟩
   cases e
   obtain ⟨o,n,e,c,hd,_⟩:=pl
   exact ⟨o,e,hd⟩
  ·refine ⟨⟨o,I.kIn p o hk,hc⟩,λa e=>?_⟩
   cases e
   exact ⟨o,I.kIn _ o hk,hd⟩
  ·have z:∃ o,s.heap.get? p=some o/\o.ExactDict:=by
    rcases hk with ⟨kvs,hk⟩ | ⟨kvs,hk⟩
    ·obtain ⟨_,_,_,_,o,_,_,e,ex,_⟩:=I.hok p _ hk
     exact ⟨o,e,ex⟩
    ·obtain ⟨_,_,_,_,o,_,_,e,ex,_⟩:=I.hok p _ hk
     exact ⟨o,e,ex⟩
   obtain ⟨o,e,ex⟩:=z
   refine ⟨⟨o,e,ex.1⟩,λa e2=>?_⟩
   cases e2
   exact ⟨o,e,ex.2.1⟩
  ·obtain ⟨o,_,_,_,e,ex,_⟩:=I.hok p _ hk
   refine ⟨⟨o,e,ex.1⟩,λa e2=>?_⟩
   cases e2
   exact ⟨o,e,ex.2.1⟩
 | _=>exact False.elim ty
noncomputable def ZaA (K:PySem.W.Frag) (T:String) (r:V->List V->Hp->VK->Prop) (to:TE):TE:=λσ H Q=>to σ H λx H1=>mr K T x H1/\r x [] H1 Q
noncomputable def tBM (K:PySem.W.Frag) (T:String) (r:V->List V->Hp->VK->Prop) (to:TE) (t:TA):TE:=λσ H Q=>to σ H λx H1=>mr K T x H1/\t σ H1 λxs H2=>r x xs H2 Q
variable {o e:Expr} {es:List Expr} {to:TE} {t:TA} {name:Str} {apos cpos:Pos} {T id:String} {r:V->List V->Hp->VK->Prop}
theorem Zhk (pa:PlainAttrs T) (slot:Slot T name id) (hty:typeOf (.builtin id)=pure (.type "method_descriptor")) (hm:MtR X id r) (ho:PE X o to)
  (hbase:attributeBase o name X.env (eval o X.env)=eval o X.env:=by rfl) (hline:(apos.endLine == cpos.line)=true:=by rfl):PE X (.Call (.Attribute o name apos) [] [] cpos) (ZaA X.K T r to):=by
 intro pins s σ H Q I h
 refine wpAny_Call_method0_late hbase hline (thn (ho pins s σ H _ I h) λv s1 hz0=>?_)
 obtain ⟨x,H1,I1,r1,ty,q1⟩:=hz0
 obtain ⟨h1,h2⟩:=Zaq I1 r1 ty
 exact ⟨T,id,pa,slot,hty,h1,h2,Calls.callWith_builtin rfl (PySem.evalArgs_none (hm pins s1 σ H1 x [] v [] Q I1 r1 .nil q1))⟩
theorem Zcd (pa:PlainAttrs T) (slot:Slot T name id) (hty:typeOf (.builtin id)=pure (.type "method_descriptor")) (hm:MtR X id r) (ho:PE X o to) (ha:PA X (e::es) t)
  (hbase:attributeBase o name X.env (eval o X.env)=eval o X.env:=by rfl)
  (hfew:((backTo cpos (starEach (e::es) X.env)).all (λx=>!x.1) && (backToKw cpos (keywordEach [] X.env)).all (λx=>x.1.isSome)
   && decide ((e::es).length+([]:List Keyword).length+(if ([]:List Keyword).isEmpty then 0 else 1) < 30))=true:=by rfl)
  (hline:(apos.endLine == cpos.line)=true:=by rfl) (hs:starEach (e::es) X.env=(false,eval e X.env)::starEach es X.env:=by rfl) (hplain:(backTo cpos (starEach es X.env)).any (·.1)=false:=by rfl) :
  PE X (.Call (.Attribute o name apos) (e::es) [] cpos) (tBM X.K T r to t):=by
 intro pins s σ H Q I h
 refine wpAny_Call_method_late hbase hfew hline rfl (thn (ho pins s σ H _ I h) λv s1 hz0=>?_)
 obtain ⟨x,H1,I1,r1,ty,q1⟩:=hz0
 obtain ⟨h1,h2⟩:=Zaq I1 r1 ty
 refine ⟨T,id,pa,slot,hty,h1,h2,?_⟩
 have hA:=ha cpos pins s1 σ H1 _ I1 q1
 rw [hs] at hA ⊢
 refine Calls.callWith_builtin (by show (false || (backTo cpos (starEach es X.env)).any (·.1))=false; rw [hplain] <;> rfl) (Calls.evalArgs_plain ?_)
 exact thn hA λus s2 hz0=>by
  obtain ⟨vs,H2,I2,r2,q2⟩:=hz0
  exact hm pins s2 σ H2 x vs v us Q I2 r1 r2 q2
end
noncomputable def MtM (X:Cx) (id:String) (r:V->List V->Hp->VK->Prop):Prop :=
 ∀ (pins:List (Addr×Obj)) (s:Shared) (σ:St) (H:Hp) (x:V) (xs:List V) (v:Value) (us:List Value) (Q:VK),Inv X pins σ H s->RelV x v->Vals xs us->r x xs H Q ->
  wpAny (model X.prog X.w) X.A (call (.builtin id) (v::us)) (EP X pins σ Q) X.xe s
theorem Vals.one {x:V} {us:List Value} (h:Vals [x] us):∃ u,us=[u]/\RelV x u:=by
 cases h with
 | cons r t=>cases t; exact ⟨_,rfl,r⟩
theorem Vals.two:∀ {x y:V} {us:List Value},Vals [x,y] us->∃ u v,us=[u,v]/\RelV x u/\RelV y v
 | _,_,_,.cons r (.cons q .nil)=>⟨_,_,rfl,r,q⟩
theorem Vals.zero:∀ {us:List Value},Vals [] us->us=[]
 | _,.nil=>rfl
theorem Vals.reverse {xs:List V} {us:List Value} (h:Vals xs us):Vals xs.reverse us.reverse:=by
 induction h with
 | nil=>exact .nil
 | cons r t ih=>rw [List.reverse_cons,List.reverse_cons]; exact Vals.append ih (.cons r .nil)
theorem Vals.rep {xs:List V} {us:List Value} (h:Vals xs us):∀ k:Nat,Vals (List.replicate k xs).flatten (List.replicate k us).flatten
 | 0=>.nil
 | k+1=>by
  rw [List.replicate_succ,List.replicate_succ,List.flatten_cons,List.flatten_cons]
  exact Vals.append h (Vals.rep h k)
theorem Zdl (its:List Value):∀ (k:Nat) (acc:List Value),
  List.foldl (λx1 x2=>x1++x2) acc.toArray (List.replicate k its.toArray)=(acc++(List.replicate k its).flatten).toArray
 | 0,acc=>by simp
 | k+1,acc=>by
  have e:acc.toArray++its.toArray=(acc++its).toArray:=by simp
  have e2:(acc++its)++(List.replicate k its).flatten=acc++(List.replicate (k+1) its).flatten:=by
   rw [List.replicate_succ,List.flatten_cons,List.append_assoc]
  rw [<- e2,<- Zdl its k (acc++its),<- e,List.replicate_succ,List.foldl_cons]
section
variable {X:Cx} {pins:List (Addr×Obj)} {σ:St} {H:Hp} {s:Shared} {l b:Addr} {xs ys zs:List V}
theorem Inv.lset {its its':List Value} {n:Nat} {f:Array Value->Array Value} {t':Nat} (I:Inv X pins σ H s) (hH:H l=some (.lst xs))
  (e:s.heap.get? l=some { cls:=.type "list",data:=.seq its.toArray n }) (hf:f its.toArray=its'.toArray) (hv:Vals ys its') (hz:ys.length<=sizeLine) :
  Inv X pins σ (upd H l (.lst ys)) { s with heap:=s.heap.update l (Obj.mapSeq f),toks:=t' }:=by
 have q:=PySem.IsL.update e f
 rw [hf] at q
 refine I.write (x:=l) (e:=l) (by rw [hH]; exact trivial) (.inl rfl) (λb' u hb hu=>(Heap.get?_update_other s.heap (Obj.mapSeq f) (Ne.symm hb)).trans hu) ⟨_,q⟩ ?_
 exact ⟨hz,its',_,hv,q⟩
theorem Inv.lnew {its:List Value} {t':Nat} (I:Inv X pins σ H s) (hv:Vals ys its) (hz:ys.length<=sizeLine) :
  Inv X pins σ (upd H s.heap.objs.size (.lst ys)) { s with heap:=s.heap.push { cls:=.type "list",data:=.seq its.toArray },toks:=t' } :=
 I.laid (λ_ _ q=>Heap.get?_push_of_some _ q) (Nat.le_refl _) ⟨hz,its,0,hv,Heap.get?_push_size _ rfl⟩
theorem Inv.fresh (I:Inv X pins σ H s):H s.heap.objs.size=none:=I.hok.fresh (Nat.le_refl _)
theorem Inv.lstM (I:Inv X pins σ H s) (hH:H l=some (.lst xs)):xs.length<=sizeLine/\∃ (its:List Value) (n:Nat),Vals xs its/\xs.length=its.length/\s.heap.get? l=some { cls:=.type "list",data:=.seq its.toArray n }:=by
 obtain ⟨z,its,n,r,e⟩:=I.hok l _ hH
 exact ⟨z,its,n,r,r.length,e⟩
theorem ZhH {n:Nat} (h:n<=sizeLine):Builtin.List.listTooLong n=false:=by
 unfold Builtin.List.listTooLong
 exact decide_eq_false (by omega)
end
section
variable {X:Cx}
noncomputable def ZbQ:V->List V->Hp->VK->Prop:=λx vs H Q=>∃ l xs y,x=.ref l/\vs=[y]/\H l=some (.lst xs)/\xs.length < sizeLine/\Q .non (upd H l (.lst (xs++[y])))
theorem Zcv:MtM X "list.append" ZbQ:=by
 intro pins s σ H x vs v us Q I rx rv h
 obtain ⟨l,xs,y,rfl,rfl,hH,hz,q⟩:=h
 cases rx
 obtain ⟨u,rfl,ru⟩:=rv.one
 obtain ⟨z,its,n,r,hl,e⟩:=I.lstM hH
 refine call_meets F.slot_list_append ⟨_,e,rfl⟩ F.entry_list_append (F.args_list_append_2 _ _) (PySem.list_append l its.toArray n u (by rw [List.size_toArray]; omega)) ⟨e,?_⟩
 refine ⟨.non,_,I.lset (its':=its++[u]) hH e (by simp) (r.append (.cons ru .nil)) ?_,rfl,q⟩
 rw [List.length_append,List.length_singleton]
 omega
noncomputable def ZbA:V->List V->Hp->VK->Prop:=λx vs H Q=>∃ l xs,x=.ref l/\vs=[]/\H l=some (.lst xs)/\Q .non (upd H l (.lst xs.reverse))
theorem ZhR:MtM X "list.reverse" ZbA:=by
 intro pins s σ H x vs v us Q I rx rv h
 obtain ⟨l,xs,rfl,rfl,hH,q⟩:=h
 cases rx
 have hus:=rv.zero
 subst hus
 obtain ⟨z,its,n,r,hl,e⟩:=I.lstM hH
 refine call_meets F.slot_list_reverse ⟨_,e,rfl⟩ F.entry_list_reverse (F.args_list_reverse_1 _) (AutoSeq1.list_reverse_list_0 l its.toArray n (by rw [List.size_toArray]; omega)) ⟨e,?_⟩
 refine ⟨.non,_,I.lset (its':=its.reverse) hH e (by simp) r.reverse ?_,rfl,q⟩
 rw [List.length_reverse]
 omega
noncomputable def ZbP:R2:=λx y H Q=>∃ l b xs zs,x=.ref l/\y=.ref b/\H l=some (.lst xs)/\H b=some (.lst zs)/\xs.length+zs.length<=sizeLine/\∀ p,H p=none->Q (.ref p) (upd H p (.lst (xs++zs)))
theorem Zhx:OpR X (binaryOp .Add) ZbP:=by
 intro pins s σ H x y v u Q I rx ry h
 obtain ⟨l,b,xs,zs,rfl,rfl,hH,hB,hz,q⟩:=h
 cases rx
 cases ry
 obtain ⟨z,its,n,r,hl,e⟩:=I.lstM hH
 obtain ⟨z2,its2,n2,r2,hl2,e2⟩:=I.lstM hB
 refine PySem.P.add_list e e2 ?_ (by rw [List.size_toArray,List.size_toArray]; omega)
 have ea:its.toArray++its2.toArray=(its++its2).toArray:=by simp
 rw [ea]
 exact ⟨.ref _,_,I.lnew (t':=s.toks) (r.append r2) (by rw [List.length_append]; omega),rfl,q _ I.fresh⟩
noncomputable def ZbD:R2:=λx y H Q=>∃ l k xs,x=.ref l/\y=.int k/\H l=some (.lst xs)/\-(2 ^ 63)<=k/\k < 2 ^ 63/\xs.length * k.toNat<=sizeLine /\
 ∀ p,H p=none->Q (.ref p) (upd H p (.lst (List.replicate k.toNat xs).flatten))
theorem Zid {α:Type} (xs:List α) (k:Nat):(List.replicate k xs).flatten.length=k * xs.length:=by
 induction k with
 | zero=>simp
 | succ k ih=>rw [List.replicate_succ,List.flatten_cons,List.length_append,ih,Nat.succ_mul,Nat.add_comm]
theorem Zhp:OpR X (binaryOp .Mult) ZbD:=by
 intro pins s σ H x y v u Q I rx ry h
 obtain ⟨l,k,xs,rfl,rfl,hH,h1,h2,hz,q⟩:=h
 cases rx
 obtain ⟨t,rfl⟩:=ry
 obtain ⟨z,its,n,r,hl,e⟩:=I.lstM hH
 have hlen:its.toArray.size * k.toNat<=sizeLine:=by rw [List.size_toArray,<- hl]; exact hz
 have hcap:¬ its.toArray.size * k.toNat > (2 ^ 63 - 1) / 8:=by
  have:(sizeLine:Nat)<=(2 ^ 63 - 1) / 8:=by decide
  omega
 have hfit:¬ (!Builtin.List.listFitsIndex k)=true:=by
  rw [fitsIndex_both h1 h2]
  exact Bool.false_ne_true
 have hlong:¬ Builtin.List.listTooLong (its.toArray.size * k.toNat)=true:=by
  rw [ZhH hlen]
  exact Bool.false_ne_true
 have hnew:List.foldl (λx1 x2=>x1++x2) #[] (List.replicate (if its.toArray.isEmpty=true then 0 else k.toNat) its.toArray)=(List.replicate k.toNat its).flatten.toArray:=by
  have f0:∀ m:Nat,List.foldl (λx1 x2=>x1++x2) #[] (List.replicate m its.toArray)=(List.replicate m its).flatten.toArray:=λm=>by
   have:=Zdl its m []
   rw [List.nil_append] at this
   exact this
  rw [f0]
  cases its with
  | nil=>simp
  | cons a r'=>rw [if_neg (by simp)]
 refine wpAny_binaryOp_repeat_ref (T:="list") (U:="int") (by decide) ⟨_,e,rfl⟩ (λs'=>typeIs_int s' k t) noFill_list_mul F.fills_int_mul F.slot_int_rmul repeat_list F.slot_int_index.lookup
  (call_meets F.slot_int_rmul (typeIs_int s k t) F.entry_int_rmul (F.args_int_rmul_2 _ _) (int___rmul___int_list k t l its.toArray n)
   ⟨e,rfl,⟨_,e,rfl⟩,call_meets F.slot_list_mul ⟨_,e,rfl⟩ F.entry_list_mul (F.args_list_mul_2 _ _) (AutoListH.list___mul___list_int_3 l its.toArray n k t hfit hcap hlong) ⟨e,?_⟩⟩)
 rw [hnew]
 exact ⟨.ref _,_,I.lnew (t':=s.toks) (r.rep k.toNat) (by rw [Zid,Nat.mul_comm]; exact hz),rfl,q _ I.fresh⟩
end
section
variable {prog:Program} {w:World} {A:Around} {E:Value->Shared->Prop} {s:Shared}
end
section
variable {X:Cx}
end
section
variable {κ:Type} [DecidableEq κ]
noncomputable def dN (kvs:List (κ×V)) (k:κ):Option V:=(kvs.find? λkv=>decide (kv.1=k)).map (·.2)
noncomputable def bT (kvs:List (κ×V)) (k:κ) (v:V):List (κ×V) :=
 if (kvs.any λkv=>decide (kv.1=k))=true then kvs.map (λkv=>if kv.1=k then (kv.1,v) else kv) else kvs++[(k,v)]
theorem jH {p:κ×V} {r:List (κ×V)} {k:κ} (e:p.1=k):dN (p::r) k=some p.2:=by simp [dN,List.find?_cons,e]
theorem jI {p:κ×V} {r:List (κ×V)} {k:κ} (e:¬ p.1=k):dN (p::r) k=dN r k:=by simp [dN,List.find?_cons,e]
theorem Zap (k:κ):∀ kvs:List (κ×V),(kvs.any λkv=>decide (kv.1=k))=(dN kvs k).isSome
 | []=>rfl
 | p::r=>by
  rw [List.any_cons]
  by_cases e:p.1=k
  ·simp only [jH e,decide_eq_true e,Bool.true_or,Option.isSome_some]
  ·rw [jI e,decide_eq_false e,Bool.false_or]; exact Zap k r
theorem kU (kvs:List (κ×V)) (k:κ) (v:V):(bT kvs k v).length<=kvs.length+1:=by
 unfold bT
 split
 ·rw [List.length_map]; omega
 ·rw [List.length_append,List.length_cons,List.length_nil]; omega
theorem RelO.isSome_eq {o:Option V} {u:Option Value} (r:RelO o u):o.isSome=u.isSome:=by
 cases o with
 | none=>cases u with
  | none=>rfl
  | some _=>exact (show False from r).elim
 | some _=>cases u with
  | none=>exact (show False from r).elim
  | some _=>rfl
theorem KV.val {kvs:List (κ×V)} {vs:List (κ×Value)} (r:KV kvs vs) (k:κ):RelO (dN kvs k) (valueAt vs k):=by
 unfold KV at r
 induction r with
 | nil=>exact True.intro
 | @cons p q ps qs h t ih =>
  obtain ⟨h1,h2⟩:=h
  by_cases e:p.1=k
  ·have e':q.1=k:=h1.symm.trans e
   have b:valueAt (q::qs) k=some q.2:=by simp [valueAt,List.find?_cons,e']
   rw [jH e,b]; exact h2
  ·have e':¬ q.1=k:=λz=>e (h1.trans z)
   have b:valueAt (q::qs) k=valueAt qs k:=by simp [valueAt,List.find?_cons,e']
   rw [jI e,b]; exact ih
theorem KV.any {kvs:List (κ×V)} {vs:List (κ×Value)} (r:KV kvs vs) (k:κ):(kvs.any λkv=>decide (kv.1=k))=vs.any λkv=>decide (kv.1=k):=by
 unfold KV at r
 induction r with
 | nil=>rfl
 | cons h t ih=>rw [List.any_cons,List.any_cons,ih,h.1]
theorem KV.repl {kvs:List (κ×V)} {vs:List (κ×Value)} (r:KV kvs vs) (k:κ) {y:V} {u:Value} (ry:RelV y u) :
  KV (kvs.map λkv=>if kv.1=k then (kv.1,y) else kv) (vs.map λkv=>if kv.1=k then (kv.1,u) else kv):=by
 unfold KV at r ⊢
 induction r with
 | nil=>exact .nil
 | @cons p q ps qs h t ih =>
  rw [List.map_cons,List.map_cons]
  refine .cons ?_ ih
  obtain ⟨h1,h2⟩:=h
  by_cases e:p.1=k
  ·rw [if_pos e,if_pos (h1.symm.trans e)]; exact ⟨h1,ry⟩
  ·rw [if_neg e,if_neg (λz=>e (h1.trans z))]; exact ⟨h1,h2⟩
theorem KV.put {kvs:List (κ×V)} {vs:List (κ×Value)} (r:KV kvs vs) (k:κ) {y:V} {u:Value} (ry:RelV y u):KV (bT kvs k y) (stored vs k u):=by
 unfold bT stored
 rw [r.any k]
 by_cases e:(vs.any λkv=>decide (kv.1=k))=true
 ·rw [if_pos e,if_pos e]; exact r.repl k ry
 ·rw [if_neg e,if_neg e]; exact Paired.snoc r ⟨rfl,ry⟩
theorem KV.length {kvs:List (κ×V)} {vs:List (κ×Value)} (r:KV kvs vs):kvs.length=vs.length:=Paired.length r
end
theorem oE {P:Program} {w:World} {k:ak} {u:Value} (r:RelV (kV k) u):(aX P w).is k u=true:=by
 cases k with
 | inl i=>obtain ⟨t,e⟩:=(show ∃ t,u=Value.int i t from r); subst e; exact ZhT P w i t
 | inr x=>obtain ⟨t,e⟩:=(show ∃ t,u=Value.str x t from r); subst e; exact ZhS P w x t
theorem Zc0 {P:Program} {w:World}:∀ {ks:List ak} {us:List Value},Vals (ks.map kV) us->ItemsAre (aX P w) ks us
 | [],_,r=>by rw [List.map_nil] at r; cases r; exact .nil
 | k::ks,_,r=>by
  rw [List.map_cons] at r
  cases r with
  | cons h t=>exact .cons (oE h) (Zc0 t)
noncomputable abbrev KT (H:Hp):List (List ak×V)->List (List ak×Addr×Value)->Prop:=Paired λp q=>p.1=q.1/\H q.2.1=some (.tup (p.1.map kV))/\RelV p.2 q.2.2
theorem KT.val {H:Hp} {kvs:List (List ak×V)} {xs:List (List ak×Addr×Value)} (r:KT H kvs xs) (k:List ak):RelO (dN kvs k) ((atKey xs k).map (·.2)):=by
 induction r with
 | nil=>exact True.intro
 | @cons p q ps qs h t ih =>
  obtain ⟨h1,_,h2⟩:=h
  by_cases e:p.1=k
  ·have e':q.1=k:=h1.symm.trans e
   have b:atKey (q::qs) k=some q.2:=by simp [atKey,List.find?_cons,e']
   rw [jH e,b]; exact h2
  ·have e':¬ q.1=k:=λz=>e (h1.trans z)
   have b:atKey (q::qs) k=atKey qs k:=by simp [atKey,List.find?_cons,e']
   rw [jI e,b]; exact ih
theorem KT.repl {H:Hp} {kvs:List (List ak×V)} {xs:List (List ak×Addr×Value)} (r:KT H kvs xs) (k:List ak) {y:V} {u:Value} (ry:RelV y u) :
  KT H (kvs.map λkv=>if kv.1=k then (kv.1,y) else kv) (xs.map (putAt k u)):=by
 induction r with
 | nil=>exact .nil
 | @cons p q ps qs h t ih =>
  rw [List.map_cons,List.map_cons]
  refine .cons ?_ ih
  obtain ⟨h1,h2,h3⟩:=h
  unfold putAt
  by_cases e:p.1=k
  ·rw [if_pos e,if_pos (h1.symm.trans e)]; exact ⟨h1,h2,ry⟩
  ·rw [if_neg e,if_neg (λz=>e (h1.trans z))]; exact ⟨h1,h2,h3⟩
theorem KT.put {H:Hp} {kvs:List (List ak×V)} {xs:List (List ak×Addr×Value)} (r:KT H kvs xs) (k:List ak) {b:Addr} {y:V} {u:Value} (hb:H b=some (.tup (k.map kV))) (ry:RelV y u) :
  KT H (bT kvs k y) (storedH xs k b u):=by
 have e:(kvs.any λkv=>decide (kv.1=k))=(atKey xs k).isSome:=by
  rw [Zap,(r.val k).isSome_eq,Option.isSome_map]
 unfold bT storedH
 rw [e]
 by_cases q:(atKey xs k).isSome=true
 ·rw [if_pos q,if_pos q]; exact r.repl k ry
 ·rw [if_neg q,if_neg q]; exact Paired.snoc r ⟨rfl,hb,ry⟩
theorem KT.keeps {H H':Hp} {kvs:List (List ak×V)} {xs:List (List ak×Addr×Value)} (r:KT H kvs xs) (ht:∀ b ys,H b=some (.tup ys)->H' b=some (.tup ys)):KT H' kvs xs :=
 Paired.mapP r λ_ _ z=>⟨z.1,ht _ _ z.2.1,z.2.2⟩
section
variable {P:Program} {w:World} {H:Hp} {h:Heap} {a:Addr}
theorem Zbt {u:HO} (ok:HOk P w H h) (e:Rd H a u):ObjOk P w H h a u:=e.ok ok
theorem sL {kvs:List (ak×V)} (ok:HOk P w H h) (e:Rd H a (.dK kvs)):kvs.length<=sizeLine/\(a == sysModules)=false/\∃ vs,KV kvs vs/\h.DictOf (aX P w) a vs :=
 show ObjOk P w H h a (.dK kvs) from Zbt ok e
theorem ZjI {kvs:List (ak×V)} (ok:HOk P w H h) (e:H a=some (.dK kvs)):kvs.length<=sizeLine/\(a == sysModules)=false/\∃ vs,KV kvs vs/\h.DictOf (aX P w) a vs:=sL ok (.inl e)
theorem ia {ks:List ak} (ok:HOk P w H h) (e:H a=some (.tup (ks.map kV))):(tupleKind (aX P w)).is h ks a:=by
 obtain ⟨_,its,r,o,h1,h2,n,h3⟩:=(show ObjOk P w H h a (.tup (ks.map kV)) from ok a _ e)
 exact ⟨o,its.toArray,n,h1,h2,h3,by simpa using Zc0 r⟩
theorem sI {kvs:List (List ak×V)} (ok:HOk P w H h) (e:Rd H a (.dT kvs)):kvs.length<=sizeLine/\(a == sysModules)=false /\
  ∃ xs,KT H kvs xs/\h.DictOfH (tupleKind (aX P w)) a xs:=by
 obtain ⟨z,y,xs,r,o,es,ep,h1,h2,h3,h4,h5⟩:=(show ObjOk P w H h a (.dT kvs) from Zbt ok e)
 refine ⟨z,y,xs,r,o,es,ep,h1,h2,h3,h4,λx hx=>?_,h5⟩
 have all:∀ {l:List (List ak×V)} {m:List (List ak×Addr×Value)},KT H l m->∀ x∈m,(tupleKind (aX P w)).is h x.1 x.2.1:=by
  intro l m q
  induction q with
  | nil=>intro x hx; exact nomatch hx
  | @cons p q ps qs hq t ih =>
   intro x hx
   rcases List.mem_cons.mp hx with e | hx
   ·subst e
    exact ia ok (by rw [<- hq.1]; exact hq.2.1)
   ·exact ih x hx
 exact all r x hx
theorem ZjE {kvs:List (List ak×V)} (ok:HOk P w H h) (e:H a=some (.dT kvs)):kvs.length<=sizeLine/\(a == sysModules)=false /\
  ∃ xs,KT H kvs xs/\h.DictOfH (tupleKind (aX P w)) a xs:=sI ok (.inl e)
end
noncomputable def tR (H:Hp) (a:Addr) (y:V) (r:Option V):Prop :=
 (∃ kvs k,Rd H a (.dK kvs)/\y=kV k/\r=dN kvs k)\/∃ kvs k b,Rd H a (.dT kvs)/\y=.ref b/\H b=some (.tup (k.map kV))/\r=dN kvs k
noncomputable def DPut (H:Hp) (a:Addr) (y v:V) (H':Hp):Prop :=
 (∃ kvs k,H a=some (.dK kvs)/\y=kV k/\kvs.length < sizeLine/\H'=upd H a (.dK (bT kvs k v))) \/
 ∃ kvs k b,H a=some (.dT kvs)/\y=.ref b/\H b=some (.tup (k.map kV))/\kvs.length < sizeLine/\H'=upd H a (.dT (bT kvs k v))
theorem DPut.t {H:Hp} {a b:Addr} {kvs:List (List ak×V)} {k:List ak} {v:V} (e:H a=some (.dT kvs)) (eb:H b=some (.tup (k.map kV))) (hl:kvs.length < sizeLine) :
  DPut H a (.ref b) v (upd H a (.dT (bT kvs k v))):=.inr ⟨kvs,k,b,e,rfl,eb,hl,rfl⟩
section
variable {X:Cx} {pins:List (Addr×Obj)} {σ:St} {H:Hp} {s:Shared} {a:Addr} {y v:V} {u r:Value} {o:Option V} {A:Around} {E:Value->Shared->Prop}
theorem Inv.big (I:Inv X pins σ H s):sysModules < s.heap.objs.size:=by
 have h:mainGlobals < s.heap.objs.size:=(I.mod.glob.keeps I.bk).lt
 exact Nat.lt_trans (by decide) h
theorem ZjZ {Q:Value->Shared->Prop} (hu:A.units+1 < cLine) (I:Inv X pins σ H s) (g:tR H a y (some v)) (ry:RelV y u) (h:∀ w' s',Inv X pins σ H s'->RelV v w'->Q w' s') :
  wpAny (model X.prog X.w) A (getItem (.ref a) u) Q E s:=by
 rcases g with ⟨kvs,k,e,ey,l⟩ | ⟨kvs,k,b,e,ey,eb,l⟩
 ·subst ey
  obtain ⟨z,hd,vs,rel,dd⟩:=sL I.hok e
  obtain ⟨w',hw,rw'⟩:=RelO.some_of (v:=v) (o:=valueAt vs k) (by rw [l]; exact rel.val k)
  exact wpAny_getItem_of (oE ry) dd.mapOf hw (h w' _ (I.tok _) rw')
 ·subst ey
  cases (show u=Value.ref b from ry)
  obtain ⟨z,hd,xs,rel,dd⟩:=sI I.hok e
  obtain ⟨w',hw,rw'⟩:=RelO.some_of (v:=v) (o:=(atKey xs k).map (·.2)) (by rw [l]; exact rel.val k)
  obtain ⟨p,hp,hp2⟩:=Option.map_eq_some_iff.mp hw
  refine wpAny_getItem_heap (tupleKind_room_in1 hu) (ia I.hok eb) dd hp ?_
  rw [hp2]
  exact h w' _ (I.tok _) rw'
theorem ZdW {h':Heap} {t':Nat} {ob:HO} (I:Inv X pins σ H s) (mu:jB (H a)) (hs:Heap.SameBut a s.heap h') (he:∃ q,h'.get? a=some q) (new:ObjOk X.prog X.w (upd H a ob) h' a ob) :
  Inv X pins σ (upd H a ob) { s with heap:=h',toks:=t' } :=
 I.write (x:=a) (e:=a) mu (.inl rfl) (λb q hb z=>(hs.2 b hb).trans z) he new
theorem ZjJ {P:Program} {w:World} {H':Hp} {h':Heap} {kvs:List (ak×V)} {vs:List (ak×Value)} (z:kvs.length<=sizeLine) (hd:(a == sysModules)=false) (rel:KV kvs vs) (dd:h'.DictOf (aX P w) a vs) :
  ObjOk P w H' h' a (.dK kvs):=⟨z,hd,vs,rel,dd⟩
theorem ZjS {H':Hp} {Q:Unit->Shared->Prop} (hu:A.units+1 < cLine) (I:Inv X pins σ H s) (g:DPut H a y v H') (ry:RelV y u) (rv:RelV v r) (h:∀ s',Inv X pins σ H' s'->Q () s') :
  wpAny (model X.prog X.w) A (setItem (.ref a) u r) Q E s:=by
 rcases g with ⟨kvs,k,e,ey,l,eH⟩ | ⟨kvs,k,b,e,ey,eb,l,eH⟩
 ·subst ey eH
  obtain ⟨z,hd,vs,rel,dd⟩:=ZjI I.hok e
  have hz:vs.length<=sizeLine:=by rw [<- rel.length]; exact z
  have hl:(bT kvs k v).length<=sizeLine:=by have:=kU kvs k v; omega
  refine wpAny_setItem_pairs (hsz:=hz) (oE ry) dd λh' dd' hs=>h _ ?_
  have he:∃ q,h'.get? a=some q:=let ⟨q,_,_,hq,_⟩:=dd'; ⟨q,hq⟩
  exact ZdW I (by rw [e]; exact True.intro) hs he (ZjJ hl hd (rel.put k rv) dd')
 ·subst ey eH
  cases (show u=Value.ref b from ry)
  obtain ⟨z,hd,xs,rel,dd⟩:=ZjE I.hok e
  have hz:xs.length<=sizeLine:=by rw [<- Paired.length rel]; exact z
  have hl:(bT kvs k v).length<=sizeLine:=by have:=kU kvs k v; omega
  refine wpAny_setItem_heap (hsz:=hz) (tupleKind_room_in1 hu) (ia I.hok eb) dd λh' dd' hs=>h _ ?_
  obtain ⟨q,es,ep,hq,h2,h3,h4,_,h5⟩:=dd'
  refine ZdW I (by rw [e]; exact True.intro) hs ⟨q,hq⟩ ⟨hl,hd,_,(rel.put k eb rv).keeps λc ys ec=>?_,q,es,ep,hq,h2,h3,h4,h5⟩
  rw [ai (ZhL ec e (λz=>nomatch z))]
  exact ec
end
section
variable {X:Cx} {pins:List (Addr×Obj)} {σ:St} {H:Hp} {s:Shared} {a:Addr} {kvs:List (ak×V)} {k:ak} {u:Value} {A:Around} {E:Value->Shared->Prop}
end
noncomputable def ZeR (i:Expr):Prop:=∀ ov iv,subscripted i false ov iv=operate [ov,iv] (getItem ov iv)
theorem ZfO {prog:Program} {w:World} {A:Around} {E:Value->Shared->Prop} {s:Shared} {env:Env} {value slice:Expr} {pos:Pos} {T id:String} {Q:Value->Shared->Prop}
  (hl:typeLookup (.type T) "__getitem__"=pure (some (.builtin id))) (hs:ZeR slice)
  (h:wpAny (model prog w) A (eval value env) (λo s₁=>wpAny (model prog w) A (eval slice env) (λi s₂=>s₂.TypeIs o T/\wpAny (model prog w) A (getItem o i) Q E s₂) E s₁) E s) :
  wpAny (model prog w) A (eval (.Subscript value slice pos) env) Q E s:=by
 refine Subscript_ (wpAny_mono h (λo s₁ h₁=>wpAny_mono h₁ (λi s₂ h₂=>?_) λ_ _ x=>x) λ_ _ x=>x)
 obtain ⟨hT,h₂⟩:=h₂
 unfold subscriptTail
 refine wpAny_bind ?_
 rw [getitemInPython_of_ne hT.not_modules]
 refine wpAny_bind (wpAny_specialOf hT hl ?_)
 have fin:wpAny (model prog w) A (subscripted slice false o i) (λr s₃=>wpAny (model prog w) A (letTemporaryGo value o r >>= λ_=>pure r) Q E s₃) E s₂:=by
  rw [hs o i]
  exact wpAny_operating (wpAny_mono h₂ (λr s₃ h₃=>wpAny_bind (wpAny_letTemporaryGo (wpAny_pure h₃))) λ_ _ x=>x)
 first
  | exact wpAny_pure (wpAny_bind fin)
  | exact wpAny_bind (wpAny_pure (wpAny_bind fin))
  | exact wpAny_bind fin
theorem ZjK {X:Cx} {pins:List (Addr×Obj)} {σ:St} {H:Hp} {s:Shared} {a:Addr} {y:V} {o:Option V} (I:Inv X pins σ H s) (g:tR H a y o):s.TypeIs (.ref a) "dict":=by
 rcases g with ⟨kvs,k,e,_,_⟩ | ⟨kvs,k,b,e,_,_,_⟩
 ·obtain ⟨_,_,vs,_,dd⟩:=sL I.hok e
  exact dd.typeIs
 ·obtain ⟨_,_,xs,_,dd⟩:=sI I.hok e
  exact dd.typeIs
noncomputable def Zay (td ty:TE):TE:=λσ H Q=>td σ H λx H1=>ty σ H1 λy H2=>∃ a v,x=.ref a/\tR H2 a y (some v)/\Q v H2
noncomputable def Za7 (td ty tv:TE):TS:=λD σ H=>tv σ H λv H1=>td σ H1 λx H2=>ty σ H2 λy H3=>∃ a H4,x=.ref a/\DPut H3 a y v H4/\D.nx σ H4
section
variable {X:Cx} {o i e value:Expr} {pos pos' tpos:Pos} {td ty tv:TE}
theorem kg (hu:X.A.units+1 < cLine) (ho:PE X o td) (hi:PE X i ty) (hs:ZeR i):PE X (.Subscript o i pos) (Zay td ty):=by
 intro pins s σ H Q I h
 refine ZfO PySem.F.slot_dict_getitem.lookup hs (thn (ho pins s σ H _ I h) λu s1 ⟨x,H1,I1,rx,q1⟩=>thn (hi pins s1 σ H1 _ I1 q1) λiv s2 hz0=>?_)
 obtain ⟨y,H2,I2,ry,a,v,ex,g,q2⟩:=hz0
 subst ex
 obtain rfl:u=Value.ref a:=rx
 exact ⟨ZjK I2 g,ZjZ hu I2 g ry λw' s3 I3 rw'=>⟨v,H2,I3,rw',q2⟩⟩
theorem Zb0 (hu:X.A.units+1 < cLine) (ho:PE X o td) (hi:PE X i ty) (hv:PE X value tv) (hs:swapsWith value (some (.Subscript o i pos')) pos.line X.env=pure false) :
  PS X (.Assign [.Subscript o i pos'] value pos) (Za7 td ty tv):=by
 intro pins s σ H D I h
 refine wpAny_Assign_Subscript (thn (hv pins s σ H _ I h) λr s1 ⟨v,H1,I1,rv,q1⟩=>thn (ho pins s1 σ H1 _ I1 q1) λu s2 ⟨x,H2,I2,rx,q2⟩=>thn (hi pins s2 σ H2 _ I2 q2) λiv s3 hz0=>?_) hs
 obtain ⟨y,H3,I3,ry,a,H4,ex,g,q3⟩:=hz0
 subst ex
 obtain rfl:u=Value.ref a:=rx
 exact ZjS hu I3 g ry rv λs4 I4=>⟨σ,H4,I4,q3⟩
end
theorem ZjF {P:Program} {w:World} {H:Hp} (h:Heap) (hb:sysModules < h.objs.size):ObjOk P w H (h.push { cls:=.type "dict",data:=.dict #[] }) h.objs.size (.dT []) :=
 ⟨Nat.zero_le _,beq_eq_false_iff_ne.mpr (Ne.symm (Nat.ne_of_lt hb)),[],.nil,_,#[],0,Heap.get?_push_size _ rfl,⟨rfl,rfl,rfl⟩,rfl,rfl,List.nodup_nil⟩
noncomputable def Zax:TE:=λ_ H Q=>∀ p,H p=none->Q (.ref p) (upd H p (.dT []))
section
variable {X:Cx} {pos:Pos}
theorem Zca:PE X (.Dict [] [] pos) Zax:=λpins s σ H Q I h =>
 wpAny_Dict_empty ⟨.ref s.heap.objs.size,_,I.laid (a:=s.heap.objs.size) (o:=.dT []) (t':=s.toks) (λ_ _ q=>Heap.get?_push_of_some _ q) (Nat.le_refl _) (ZjF s.heap I.big),rfl,h _ (I.hok.fresh (Nat.le_refl _))⟩
end
section
variable {X:Cx} {pins:List (Addr×Obj)} {σ:St} {H:Hp} {s:Shared} {a:Addr} {y d:V} {u r:Value} {o:Option V} {A:Around} {E:Value->Shared->Prop}
end
section
variable {X:Cx} {o e f:Expr} {apos cpos:Pos} {td ty tx:TE}
end
section
variable {X:Cx} {pins:List (Addr×Obj)} {σ:St} {H:Hp} {s:Shared} {a:Addr} {kvs:List (ak×V)} {A:Around} {E:Value->Shared->Prop}
end
section
variable {X:Cx} {pins:List (Addr×Obj)} {σ:St} {H:Hp} {s:Shared} {a:Addr} {y:V} {u:Value} {A:Around} {E:Value->Shared->Prop}
end
end L2
namespace Att
open PySem PySem.W PySem.Calls PyProof.Rows
theorem ints_of_wellAll {P:Params} {h:Heap}:∀ (ns:List Int) (vs:List Value),WellAll P h vs (ns.map WData.int)->IntsAre vs ns:=by
 intro ns
 induction ns with
 | nil =>
  intro vs w
  rw [List.map_nil] at w
  cases w
  exact .nil
 | cons n ns ih =>
  intro vs w
  rw [List.map_cons] at w
  cases w with
  | cons a b =>
   cases a
   exact .cons _ _ (ih _ b)
theorem script_of {l:OpenLaw} {n:Nat} (hn:l.most=some n) {P:Params} {h:Heap} {args:List WData} {vals:List Value}
  (hpre:l.row.toRowW.claim.pre args=true) (hwl:WellAll P h vals args) :
  ∃ a vs ns,vals=[Value.ref a]/\args=[WData.list (ns.map WData.int)]/\h.get? a=some { cls:=.type "list",data:=.seq vs.toArray }/\IntsAre vs ns/\ns.length<=n:=by
 have hsh:WShape.hasAll [] args [.list .int]=true:=(pre_splitW hpre).1
 have hc:l.pre.holds [] { args:=args }=true:=(pre_splitW hpre).2
 obtain ⟨d,r,rfl,h1,h2⟩:=hasAllW_cons hsh
 obtain rfl:=hasAllW_nil h2
 obtain ⟨xs,rfl,h3⟩:=hasW_list h1
 obtain ⟨ns,rfl⟩:=items_int h3
 have hlen:ns.length<=n:=by
  unfold OpenLaw.pre at hc
  have h4:(WTm.not (.lt (.lit (.int (n:Int))) (.len (.arg 0)))).holds [] { args:=[.list (ns.map .int)] }=true:=by
   have h4:=(holds_andW hc).1
   rw [hn] at h4
   exact h4
  have h5:=condW_of h4 (w_not (w_lt w_lit (w_len_list (w_arg rfl))))
  rw [List.length_map] at h5
  refine Nat.le_of_not_lt λq=>?_
  have q':(n:Int) < ((ns.length:Nat):Int):=by omega
  first
   | (rw [decide_eq_true q'] at h5; exact absurd h5 (by decide))
   | (simp at h5; omega)
 cases hwl with
 | cons w1 w2 =>
  cases w2
  cases w1 with
  | list ho hall=>exact ⟨_,_,ns,rfl,rfl,ho,ints_of_wellAll ns _ hall,hlen⟩
theorem post_true (l:OpenLaw) (args:List WData):l.row.toRowW.claim.post args (.bool true) args=true :=
 postW_of (r:=l.row.toRowW) (X:=(true == true))
  (show WShape.has [] (.bool true) .bool=true by first | rfl | decide | simp [WShape.has,WShape.arms,WShape.armsAll])
  (show (WTm.eq .res (.lit (.bool true))).value [] { args:=args,res:=some (.bool true),after:=args }=some (.bool (true == true)) from w_eq_bool (w_res rfl) w_lit) rfl
theorem attach_call {l:OpenLaw} {n:Nat} {q:Program} {loose:List Str} {XP:(Str->Option Value)->Heap->Prop} {YP:World->Heap->Prop} {d:DefRec}
  (hn:l.most=some n) (hdf:d.params.defaults=[])
  (call:∀ (w:World) (s₀ s₁:Shared) (mg mb:Str->Option Value) (fa:Addr) (o:Obj) (pm cd doc:Value) (a:Addr) (vs:List Value) (ns:List Int),
   Ground q loose [] XP w s₀ mg mb s₁.heap->YP w s₁.heap ->
   s₁.heap.get? fa=some o->o.data=.func (docDef d.name d.params d.body d.scope pm cd doc)->s₁.heap.CodeRec cd d.name->mg d.name=some (.ref fa) ->
   s₁.heap.get? a=some { cls:=.type "list",data:=.seq vs.toArray }->IntsAre vs ns->ns.length<=n->s₁.gens=#[] ->
   codeAny (model l.prog w) callerA (.call (.ref fa) ⟨[.ref a],[]⟩) (λr s'=>r=.ok (.ret (.bool true))/\OldK s₁.heap s'.heap/\s'.os=s₁.os/\AllBare s'.gens) s₁) :
  WalkO q loose XP YP l.row.toRowW d [] (λf vs=>PySem.call f vs):=by
 intro w s₀ s₁ mg mb G Y fa o pm cd doc dV kV ho hd hcd hD hmg hg args vals as hpre hlay hrd hwl hlo
 obtain rfl:dV=.none:=Dflts.none hD hdf
 obtain rfl:kV=.none:=Dflts.noKw hD
 obtain ⟨a,vs,ns,rfl,rfl,hobj,hints,hlen⟩:=script_of hn hpre hwl
 refine enter_call (codeAny_mono (call w s₀ s₁ mg mb fa o pm cd doc a vs ns G Y ho (fd_plain hd) hcd hmg hobj hints hlen hg) λr s' hq=>?_)
 obtain ⟨rfl,h2,h3,h4⟩:=hq
 exact ⟨.inl ⟨.bool true,.bool true,[],rfl,λ_=>rfl,.bool true,post_true l _,λ_=>⟨List.Pairwise.nil,λ_ hm=>(nomatch hm)⟩⟩,h2,h3,h4⟩
section
variable {prog:Program} {w:World} {A:Around} {E:Value->Shared->Prop} {s:Shared} {K:Frag}
end
end Att
namespace L2
open PySem PySem.Spec PyProof.Rows
theorem Zfb {vs:List Value} {ns:List Int} (h:IntsAre vs ns):Vals (ns.map V.int) vs:=by
 induction h with
 | nil=>exact .nil
 | cons n t h ih=>exact .cons ⟨t,rfl⟩ ih
noncomputable def l8 (H:Hp):Prop:=∀ b,H b=none\/∃ o xs,H b=some (.frz o (.lst xs))
theorem Zil {P:Program} {w:World} {K:PySem.W.Frag} {mg mb:Str->Option Value} {CX:dq} {k:Nat} {fa a:Addr} {fd:FuncData} {x:Str} {sp:Sp} {s₁:Shared} {vs:List Value} {ns:List Int}
  (KX:K.In s₁.heap) (hns:s₁.heap.Ns mainGlobals mg) (hb:s₁.heap.Ns builtinsNs mb) (hbb:∀ x:Str,x≠"__name__"->mb x=bootBuiltins x) (hlim:s₁.heap.NoLimit) (hdig:s₁.heap.NoDigits) (hg:s₁.gens=#[])
  (ha:s₁.heap.get? a=some { cls:=.type "list",data:=.seq vs.toArray }) (hi:IntsAre vs ns) (hl:ns.length<=sizeLine) (hr:Room k callerA)
  (F:∀ base:Heap,K.In base->base.Ns mainGlobals mg->FnOk P w K mg base CX k fa fd [x] sp) (hbind:∀ (s:Shared) (u:Value),BindsTo s fd ⟨[u],[]⟩ [(x,u)])
  (hsp:∀ H:Hp,l8 H->SqL K H a (ns.map V.int)->sp [.ref a] H (λv _=>v=.bl true) λ_ _ _=>False)
  (hCX:∀ H e s',CX [] H s₁ (λ_ _ _=>False) e s'->False) :
  codeAny (model P w) callerA (.call (.ref fa) ⟨[.ref a],[]⟩) (λr s'=>r=.ok (.ret (.bool true))/\OldK s₁.heap s'.heap/\s'.os=s₁.os/\AllBare s'.gens) s₁:=by
 have rv:=Zfb hi
 have lenV:=hi.length
 -- from an abstract heap in which nothing but the script may be tracked
 have core:∀ H:Hp,l8 H->SqL K H a (ns.map V.int)->HOk P w H s₁.heap->(∀ b,H b≠none->b=a)->(H a≠none->K.lookup a=none) ->
   codeAny (model P w) callerA (.call (.ref fa) ⟨[.ref a],[]⟩) (λr s'=>r=.ok (.ret (.bool true))/\OldK s₁.heap s'.heap/\s'.os=s₁.os/\AllBare s'.gens) s₁:=by
  intro H hO hS hok hA hK
  have base_of:∀ {b:Addr} {o:Obj},s₁.heap.get? b=some o->H b=none->(fb s₁.heap H).get? b=some o:=λe n=>ZiO e n
  have noA:∀ {b:Addr} {o:Obj} {es:Array DictEntry} {ep:Nat},s₁.heap.get? b=some o->o.data=.dict es ep->H b=none:=λ{b o es ep} e d=>by
   cases q:H b with
   | none=>rfl
   | some u =>
    have e':b=a:=hA b (by rw [q]; simp)
    subst e'
    rw [ha] at e; cases e
    have d':Data.seq vs.toArray _=Data.dict es ep:=d
    cases d'
  have nsK:∀ {b:Addr} {m:Str->Option Value},s₁.heap.Ns b m->(fb s₁.heap H).Ns b m:=λ{b m} hz0=>by
   obtain ⟨o,es,ep,e,d,r⟩:=hz0
   exact ⟨o,es,ep,base_of e (noA e d),d,r⟩
  have hKb:K.In (fb s₁.heap H):=λb o e=>base_of (KX b o e) (by
   cases q:H b with
   | none=>rfl
   | some u =>
    have e':b=a:=hA b (by rw [q]; simp)
    subst e'
    rw [hK (by rw [q]; simp)] at e; cases e)
  have hM:Mod K mg (fb s₁.heap H):=⟨hKb,nsK hns,⟨mb,nsK hb,hbb⟩,let ⟨mc,h1,h2⟩:=hlim; ⟨mc,nsK h1,h2⟩,let ⟨mc,h1,h2⟩:=hdig; ⟨mc,nsK h1,h2⟩⟩
  have e0:Env0 P w K mg (fb s₁.heap H) callerA [] s₁ H:=⟨rfl,hM,λb o e=>ZhD e,Nat.le_of_eq (ZiN _ _),trivial,λb hb=>absurd (show b∈([]:List Addr) from hb) (by simp),hok,.of_eq hg⟩
  refine codeAny_mono ((F _ hKb (nsK hns)).run callerA [] s₁ H ⟨[.ref a],[]⟩ [.ref a] [.ref a] _ _ hr e0 (hbind s₁ (.ref a)) (.cons rfl .nil) (hsp H hO hS)) λr s' h=>?_
  cases r with
  | error e=>exact (hCX H e s' h).elim
  | ok fl =>
   cases fl with
   | next=>exact False.elim h
   | brk=>exact False.elim h
   | cont=>exact False.elim h
   | ret u =>
    obtain ⟨v,H',os,bare,un,hok',r',q⟩:=h
    have q':v=.bl true:=q
    subst q'
    obtain rfl:u=Value.bool true:=r'
    refine ⟨rfl,OldK.of_keep λb o e=>?_,os,bare⟩
    cases q:H b with
    | none=>exact un.keep b o e q (by intro z; exact absurd (show b∈([]:List Addr) from z) (by simp)) (by simp)
    | some u =>
     rcases hO b with z | ⟨ob,xs,z⟩
     ·rw [q] at z; cases z
     ·have z2:=un.frzs b ob _ z
      obtain ⟨e1,_⟩:=hok b _ z
      obtain ⟨e2,_⟩:=hok' b _ z2
      rw [e] at e1; cases e1
      exact e2
 cases hk:K.lookup a with
 | some o =>
  -- the script is one of the module's own objects
  have e:=KX a o hk
  rw [ha] at e
  cases e
  refine core (λ_=>none) (λ_=>.inl rfl) (.inr ⟨_,vs.toArray,_,hk,rfl,rfl,rfl,by rw [List.size_toArray,lenV]; exact hl,by simpa using rv⟩) (λb u z=>by have z':(none:Option HO)=some u:=z; cases z') (λb z=>absurd rfl z) λz=>absurd rfl z
 | none =>
  refine core (λb=>if b=a then some (.frz { cls:=.type "list",data:=.seq vs.toArray } (.lst (ns.map V.int))) else none) (λb=>?_) (.inl (.inr ⟨{ cls:=.type "list",data:=.seq vs.toArray },if_pos rfl⟩)) (λb u z=>?_) (λb z=>?_) λ_=>hk
  ·by_cases hb:b=a
   ·exact .inr ⟨_,_,if_pos hb⟩
   ·exact .inl (if_neg hb)
  ·by_cases hb:b=a
   ·have z':=(if_pos hb).symm.trans z
    cases z'
    subst hb
    exact ⟨ha,by rw [List.length_map]; exact hl,vs,_,rv,ha⟩
   ·have z':=(if_neg hb).symm.trans z
    cases z'
  ·by_cases hb:b=a
   ·exact hb
   ·exact absurd (if_neg hb) z
noncomputable abbrev KOf {K:PySem.W.Frag} {h:Heap} (_:K.In h):PySem.W.Frag:=K
theorem Ze3 {l:PySem.W.OpenLaw} {n k:Nat} {q:Program} {loose:List Str} {XP:(Str->Option Value)->Heap->Prop} {YP:World->Heap->Prop} {d:DefRec} {K:Params->PySem.W.Frag} {CX:World->dq} {sp:World->Sp} {x:Str}
  (hn:l.most=some n) (hn2:n<=sizeLine) (hdf:d.params.defaults=[]) (hr:Room k callerA)
  (hY:∀ (w:World) (h:Heap),YP w h->(K w.params).In h)
  (F:∀ (w:World) (mg:Str->Option Value) (fa:Addr) (h:Heap),(K w.params).In h->h.Ns mainGlobals mg->mg d.name=some (.ref fa) ->
   ∃ fd:FuncData,(∀ (s:Shared) (u:Value),BindsTo s fd ⟨[u],[]⟩ [(x,u)]) /\
    ∀ base:Heap,(K w.params).In base->base.Ns mainGlobals mg->FnOk l.prog w (K w.params) mg base (CX w) k fa fd [x] (sp w))
  (hsp:∀ (w:World) (H:Hp) (a:Addr) (ns:List Int),ns.length<=n->l8 H->SqL (K w.params) H a (ns.map V.int)->sp w [.ref a] H (λv _=>v=.bl true) λ_ _ _=>False)
  (hCX:∀ (w:World) (H:Hp) (s:Shared) (e:Value) (s':Shared),CX w [] H s (λ_ _ _=>False) e s'->False) :
  PySem.W.WalkO q loose XP YP l.row.toRowW d [] (λf vs=>PySem.call f vs):=by
 refine Att.attach_call hn hdf λw s₀ s₁ mg mb fa o pm cd doc a vs ns G Y ho hd hcd hmg hobj hints hlen hg=>?_
 have KX:=hY w _ Y
 obtain ⟨fd,hb,hF⟩:=F w mg fa _ KX G.T.g hmg
 exact Zil KX G.T.g G.T.b G.T.builtins G.T.nolimit G.T.nodigits hg hobj hints (Nat.le_trans hlen hn2) hr hF hb (λH hO hS=>hsp w H a ns hlen hO hS) λH e s'=>hCX w H s₁ e s'
theorem Ze2 {l:PySem.W.OpenLaw} {n k:Nat} {q:Program} {loose:List Str} {XP:(Str->Option Value)->Heap->Prop} {YP:World->Heap->Prop} {d:DefRec} {K:Params->PySem.W.Frag} {CX:dq} {sp:PySem.W.Frag->Sp} {x:Str}
  (hn:l.most=some n) (hn2:n<=sizeLine) (hdf:d.params.defaults=[]) (hr:Room k callerA)
  (hY:∀ (w:World) (h:Heap),YP w h->(K w.params).In h)
  (F:∀ (w:World) (mg:Str->Option Value) (fa:Addr) (h:Heap),(K w.params).In h->h.Ns mainGlobals mg->mg d.name=some (.ref fa) ->
   ∃ fd:FuncData,(∀ (s:Shared) (u:Value),BindsTo s fd ⟨[u],[]⟩ [(x,u)]) /\
    ∀ base:Heap,(K w.params).In base->base.Ns mainGlobals mg->FnOk l.prog w (K w.params) mg base CX k fa fd [x] (sp (K w.params)))
  (hsp:∀ (K:PySem.W.Frag) (H:Hp) (a:Addr) (ns:List Int),ns.length<=n->l8 H->SqL K H a (ns.map V.int)->sp K [.ref a] H (λv _=>v=.bl true) λ_ _ _=>False)
  (hCX:∀ (H:Hp) (s:Shared) (e:Value) (s':Shared),CX [] H s (λ_ _ _=>False) e s'->False) :
  PySem.W.WalkO q loose XP YP l.row.toRowW d [] (λf vs=>PySem.call f vs) :=
 Ze3 (K:=K) (CX:=λ_=>CX) (sp:=λw=>sp (K w.params)) hn hn2 hdf hr hY F (λw H a ns h1 h2 h3=>hsp (K w.params) H a ns h1 h2 h3) λ_ H s e s'=>hCX H s e s'
noncomputable def ik (s:Stmt):Arguments:=match s with
 | .FunctionDef _ a _ _ _ _ _ _ _ _=>a
 | _=>{ posonlyargs:=[],args:=[],vararg:=none,kwonlyargs:=[],kw_defaults:=[],kwarg:=none,defaults:=[] }
noncomputable def ff (s:Stmt):List Stmt:=match s with
 | .FunctionDef _ _ b _ _ _ _ _ _ _=>b
 | _=>[]
noncomputable def aA (s:Stmt):Scope:=match s with
 | .FunctionDef _ _ _ _ _ _ sc _ _ _=>sc
 | _=>{ kind:=.function,names:=[],isGenerator:=false,isCoroutine:=false }
noncomputable abbrev fV:dq:=λ_ _ _ _ _ _=>False
noncomputable abbrev E0:XK:=λ_ _ _=>False
theorem Zhm {X:Cx}:tM fV X E0:=λ_ _ _ _ _ _ _ h=>h.elim
structure Fun (K:PySem.W.Frag) (x qual:Str) (st:Stmt) (f:Addr) (fd:FuncData):Prop where
 ex:∃ (oc:Value) (od:Option Addr) (kV doc pm:Value) (an:Option Addr) (cdv ct:Value) (osl:Array (Option Value)),
  fd=PySem.W.fnOf x qual (ik st) (ff st) (aA st) .none kV doc pm an cdv ct/\K.lookup f=some ⟨oc,od,.func fd,osl⟩/\PySem.W.codeIn K cdv qual=true
 kp:PySem.W.keepIn K (.ref f)=true
section
variable {P:Program} {w:World} {K:PySem.W.Frag} {mg:Str->Option Value} {base:Heap}
theorem Fun.ok {x qual:Str} {st:Stmt} {f:Addr} {fd:FuncData} {N ps:List Str} {k:Nat} {sp:Sp} (F:Fun K x qual st f fd) (S:FnScope N ps (aA st)) (len:∀ vs H Q E,sp vs H Q E->vs.length=ps.length)
  (hbody:∀ (cdv:Value) (A:Around) (outer:List Env) (s:Shared) (H:Hp) (vs:List V) (Q:VK) (E:XK),Room k (A.deeper (envOfC qual (aA st) s.heap.objs.size f cdv))->sp vs H Q E ->
   ∃ t,PSs (fK fV P w K mg base N qual (aA st) f cdv A outer s H E).nox (ff st) t/\t { nx:=λ_ H'=>Q .non H',rt:=Q } (start N vs) H):FnOk P w K mg base fV (k+1) f fd ps sp:=by
 obtain ⟨oc,od,kV,doc,pm,an,cdv,ct,osl,rfl,lk,hcd⟩:=F.ex
 refine Zi2 lk hcd S len λA outer s H vs Q E hr hsp=>?_
 obtain ⟨t,h,q⟩:=hbody cdv A outer s H vs Q E hr hsp
 exact ⟨t,h.nox,q⟩
theorem Fun.binds {x qual:Str} {st:Stmt} {f:Addr} {fd:FuncData} {ps:List Str} (F:Fun K x qual st f fd)
  (h:∀ (kV doc pm:Value) (an:Option Addr) (cdv ct:Value) (us:List Value),us.length=ps.length->bindArgs (PySem.W.fnOf x qual (ik st) (ff st) (aA st) .none kV doc pm an cdv ct) ⟨us,[]⟩=pure (ps.zip us)):Binds K fd ps []:=by
 obtain ⟨oc,od,kV,doc,pm,an,cdv,ct,osl,rfl,lk,hcd⟩:=F.ex
 exact .all (h kV doc pm an cdv ct)
theorem Zi1 {x qual:Str} {st:Stmt} {f:Addr} {oc:Value} {od an:Option Addr} {osl:Array (Option Value)} {kV doc pm cdv ct:Value} (l:K.lookup f=some ⟨oc,od,.func (PySem.W.fnOf x qual (ik st) (ff st) (aA st) .none kV doc pm an cdv ct),osl⟩)
  (c:PySem.W.codeIn K cdv qual=true) (k:PySem.W.keepIn K (.ref f)=true):Fun K x qual st f (PySem.W.fnOf x qual (ik st) (ff st) (aA st) .none kV doc pm an cdv ct):=⟨⟨oc,od,kV,doc,pm,an,cdv,ct,osl,rfl,l,c⟩,k⟩
end
theorem e9 {A:Around} {k:Nat} (hr:Room k A):A.units+1 < cLine:=Nat.lt_of_le_of_lt (Nat.add_le_add_left (by decide:1<=64) _) hr.units
section
variable {X:Cx}
theorem pv (i:Nat) {x:Str} {pos:Pos} (hN:X.N[i]?=some x:=by rfl) (hv:l5 X.env.scope x:=by first | exact Or.inl rfl | exact Or.inr (Or.inl rfl) | exact Or.inr (Or.inr rfl)) (hd:(x == ("__debug__":Str))=false:=by decide)
  (hcd:(x == ("__classdict__":Str))=false:=by decide):PE X (.Name x pos) (eC i):=Zha hN hv hd hcd
end
theorem kY {c A B:Prop} [Decidable c] (h1:c->A) (h2:¬ c->B):if c then A else B:=by
 by_cases h:c
 ·rw [if_pos h]
  exact h1 h
 ·rw [if_neg h]
  exact h2 h
noncomputable def Same (H H':Hp):Prop:=∀ b o,H b=some o->H' b=some o
theorem Same.refl (H:Hp):Same H H:=λ_ _ h=>h
theorem Same.free {H H':Hp} (e:Same H H') {l:Addr} (h:H' l=Option.none):H l=Option.none:=by
 cases q:H l with
 | none=>rfl
 | some o =>
  rw [e l o q] at h
  cases h
structure Blk where
 cl:List (Str×Addr)
 C:Addr
 s:Shared
 H:Hp
 fp:List Addr
 pn:List (Addr×Obj)
noncomputable def au (X:Cx) (N:List Str) (scope:Scope) (b:Blk):Cx where
 prog:=X.prog
 w:=X.w
 K:=X.K
 mg:=X.mg
 base:=X.base
 A:=X.A
 N:=N
 s₀:=b.s
 H₀:=b.H
 env:=compEnvC scope b.cl b.C X.env
 outer:=X.stack
 stack:=X.stack
 ex:=b.fp
 fn:=λx=>scope.names.lookup x == some .cell
 calm:=X.calm
 pn:=b.pn
 xe:=λ_ _=>False
noncomputable def bN (Nx ts:List Str) (ix:List Nat):List Str:=ts++ix.map λj=>(Nx[j]?).getD Str.empty
noncomputable def bV (n:Nat) (ix:List Nat) (σ:St):St:=List.replicate n none++ix.map λj=>(σ[j]?).getD none
structure BlkOk (Nx:List Str) (sc scope:Scope) (ix:List Nat):Prop where
 kind:scope.kind=.function
 cells:∀ y∈scope.names,y.2=.cell->scope.names.lookup y.1=some .cell
 locs:∀ y∈scope.names,y.2=.local->scope.names.lookup y.1=some .local
 frees:∀ y∈scope.names,y.2=.free->sc.names.lookup y.1=some .cell\/sc.names.lookup y.1=some .free
 caps:∀ j∈ix,j < Nx.length/\scope.names.lookup ((Nx[j]?).getD Str.empty)=some .free
theorem o5 {env:Env} {f:Str×NameKind->List (Str×Addr)->Sem (ForInStep (List (Str×Addr)))}
  (h1:∀ n k r,k≠NameKind.free->f (n,k) r=pure (.yield r)) (h2:∀ n r c,env.cells.lookup n=some c->f (n,NameKind.free) r=pure (.yield ((n,c)::r))) :
  ∀ (names:List (Str×NameKind)) (acc:List (Str×Addr)),(∀ y∈names,y.2=.free->∃ c,env.cells.lookup y.1=some c)->(∀ x c,acc.lookup x=some c->env.cells.lookup x=some c) ->
   ∃ cl,forIn names acc f=pure cl/\(∀ x c,cl.lookup x=some c->env.cells.lookup x=some c)/\(∀ y∈names,y.2=.free->∃ c,cl.lookup y.1=some c)/\∀ x c,acc.lookup x=some c->∃ c',cl.lookup x=some c'
 | [],acc,_,ha=>⟨acc,rfl,ha,(λ_ h=>nomatch h),λx c h=>⟨c,h⟩⟩
 | (n,k)::names,acc,hn,ha=>by
  have hn':∀ y∈names,y.2=.free->∃ c,env.cells.lookup y.1=some c:=λy hy=>hn y (List.mem_cons_of_mem _ hy)
  by_cases hk:k=.free
  ·subst hk
   obtain ⟨c,hc⟩:=hn (n,.free) List.mem_cons_self rfl
   have ha':∀ x d,((n,c)::acc).lookup x=some d->env.cells.lookup x=some d:=λx d e=>by
    rw [List.lookup_cons] at e
    cases hx:x == n with
    | true =>
     rw [hx] at e
     have hxn:x=n:=by simpa using hx
     subst hxn
     cases e
     exact hc
    | false =>
     rw [hx] at e
     exact ha x d e
   obtain ⟨cl,e,p1,p2,p3⟩:=o5 h1 h2 names ((n,c)::acc) hn' ha'
   refine ⟨cl,?_,p1,λy hy hf=>?_,λx d hx=>?_⟩
   ·rw [List.forIn_cons,h2 n acc c hc,pure_bind]
    exact e
   ·rcases List.mem_cons.mp hy with rfl | hy
    ·exact p3 n c (by simp)
    ·exact p2 y hy hf
   ·by_cases e1:x=n
    ·subst e1
     exact p3 x c (by simp)
    ·exact p3 x d (by rw [List.lookup_cons,beq_false_of_ne e1]; exact hx)
  ·obtain ⟨cl,e,p1,p2,p3⟩:=o5 h1 h2 names acc hn' ha
   refine ⟨cl,?_,p1,λy hy hf=>?_,p3⟩
   ·rw [List.forIn_cons,h1 n k acc hk,pure_bind]
    exact e
   ·rcases List.mem_cons.mp hy with rfl | hy
    ·exact absurd hf hk
    ·exact p2 y hy hf
theorem im {scope:Scope} {env:Env} (hn:∀ y∈scope.names,y.2=.free->∃ c,env.cells.lookup y.1=some c) :
  ∃ cl,closureFor scope env=pure cl/\(∀ x c,cl.lookup x=some c->env.cells.lookup x=some c)/\∀ y∈scope.names,y.2=.free->∃ c,cl.lookup y.1=some c:=by
 unfold closureFor
 have key:=o5 (env:=env) (f:=λ(x:Str×NameKind) (r:List (Str×Addr))=>match x with
  | (name,kind)=>if (kind == NameKind.free)=true then (do let a <- cellOf env name; pure (ForInStep.yield ((name,a)::r))) else pure (ForInStep.yield r))
  (λn k r hk=>by
   have hb:(k == NameKind.free)=false:=by simpa using hk
   show (if (k == NameKind.free)=true then _ else _)=_
   rw [hb]
   rfl)
  (λn r c hc=>by
   show (do let a <- cellOf env n; pure (ForInStep.yield ((n,a)::r)))=_
   unfold cellOf
   rw [hc]
   rfl) scope.names [] hn (λx c h=>by simp at h)
 obtain ⟨cl,e,p1,p2,_⟩:=key
 refine ⟨cl,?_,p1,p2⟩
 show (forIn scope.names [] _ >>= λr=>pure r)=pure cl
 exact (congrArg (λt=>t >>= λr=>pure r) e).trans (pure_bind _ _)
section
variable {X:Cx} {pins:List (Addr×Obj)} {σ:St} {H:Hp} {s:Shared}
theorem Zbr {scope:Scope} {env:Env} {x:Str} (h:scope.names.lookup x=some .free):(relabel scope env).names.lookup x=some .cell\/(relabel scope env).names.lookup x=some .free:=by
 unfold relabel
 show List.lookup x (scope.names.map _)=_\/List.lookup x (scope.names.map _)=_
 generalize scope.names=l at h
 induction l with
 | nil=>simp at h
 | cons p r ih =>
  obtain ⟨n,k⟩:=p
  rw [List.map_cons]
  cases hx:x == n with
  | true =>
   rw [List.lookup_cons,hx] at h
   have hk:k=.free:=by simpa using h
   subst hk
   by_cases hc:(NameKind.free == NameKind.free && env.scope.kind == .function && env.kindOf n == some .cell)=true
   ·refine .inl ?_
    show List.lookup x ((if (NameKind.free == NameKind.free && env.scope.kind == .function && env.kindOf n == some .cell)=true then (n,NameKind.cell) else (n,NameKind.free))::_)=_
    rw [if_pos hc,List.lookup_cons,hx]
   ·refine .inr ?_
    show List.lookup x ((if (NameKind.free == NameKind.free && env.scope.kind == .function && env.kindOf n == some .cell)=true then (n,NameKind.cell) else (n,NameKind.free))::_)=_
    rw [if_neg hc,List.lookup_cons,hx]
  | false =>
   rw [List.lookup_cons,hx] at h
   have key:∀ q:Str×NameKind,(q=(n,NameKind.cell)\/q=(n,k))->∀ l',List.lookup x (q::l')=List.lookup x l':=λq hq l'=>by
    rcases hq with rfl | rfl <;> rw [List.lookup_cons,hx]
   have hq:(if (k == NameKind.free && env.scope.kind == .function && env.kindOf n == some .cell)=true then (n,NameKind.cell) else (n,k))=(n,NameKind.cell)\/(if (k == NameKind.free && env.scope.kind == .function && env.kindOf n == some .cell)=true then (n,NameKind.cell) else (n,k))=(n,k):=by
    split
    ·exact .inl rfl
    ·exact .inr rfl
   rcases ih h with z | z
   ·exact .inl ((key _ hq _).trans z)
   ·exact .inr ((key _ hq _).trans z)
theorem ZgB {scope:Scope} {env:Env} {x:Str} (h:(relabel scope env).names.lookup x=some .cell\/(relabel scope env).names.lookup x=some .free):∃ y∈scope.names,y.1=x/\(y.2=.free\/y.2=.cell):=by
 unfold relabel at h
 have h':List.lookup x (scope.names.map λ(n,k)=>if (k == .free && env.scope.kind == .function && env.kindOf n == some .cell) then (n,NameKind.cell) else (n,k))=some .cell\/List.lookup x (scope.names.map λ(n,k)=>if (k == .free && env.scope.kind == .function && env.kindOf n == some .cell) then (n,NameKind.cell) else (n,k))=some .free:=h
 clear h
 generalize scope.names=l at h'
 induction l with
 | nil=>simp at h'
 | cons p r ih =>
  obtain ⟨n,k⟩:=p
  rw [List.map_cons] at h'
  cases hx:x == n with
  | true =>
   have hxn:x=n:=by simpa using hx
   by_cases hk:k=.free
   ·exact ⟨(n,k),List.mem_cons_self,hxn.symm,.inl hk⟩
   ·
    have hb:(k == NameKind.free)=false:=by simpa using hk
    have e:(if (k == NameKind.free && env.scope.kind == .function && env.kindOf n == some .cell)=true then (n,NameKind.cell) else (n,k))=(n,k):=by
     rw [hb]
     rfl
    have h2:List.lookup x ((n,k)::r.map λ(n,k)=>if (k == .free && env.scope.kind == .function && env.kindOf n == some .cell) then (n,NameKind.cell) else (n,k))=some .cell\/List.lookup x ((n,k)::r.map λ(n,k)=>if (k == .free && env.scope.kind == .function && env.kindOf n == some .cell) then (n,NameKind.cell) else (n,k))=some .free:=by
     rw [<- e]
     exact h'
    rw [List.lookup_cons,hx] at h2
    rcases h2 with z | z
    ·exact ⟨(n,k),List.mem_cons_self,hxn.symm,.inr (Option.some.inj z)⟩
    ·exact absurd (Option.some.inj z) hk
  | false =>
   have hq:∀ q:Str×NameKind,(q=(n,NameKind.cell)\/q=(n,k))->∀ l',List.lookup x (q::l')=List.lookup x l':=λq hq l'=>by
    rcases hq with rfl | rfl <;> rw [List.lookup_cons,hx]
   have hqq:(if (k == NameKind.free && env.scope.kind == .function && env.kindOf n == some .cell)=true then (n,NameKind.cell) else (n,k))=(n,NameKind.cell)\/(if (k == NameKind.free && env.scope.kind == .function && env.kindOf n == some .cell)=true then (n,NameKind.cell) else (n,k))=(n,k):=by
    split
    ·exact .inl rfl
    ·exact .inr rfl
   obtain ⟨y,hy,e⟩:=ih (by
    rcases h' with z | z
    ·exact .inl ((hq _ hqq _).symm.trans z)
    ·exact .inr ((hq _ hqq _).symm.trans z))
   exact ⟨y,List.mem_cons_of_mem _ hy,e⟩
theorem lC:∀ (names:List (Str×NameKind)) (h:Heap) (acc:List (Str×Addr)),
  (∀ x c,(cellsFrom h.objs.size names acc).lookup x=some c->acc.lookup x=some c\/(h.objs.size<=c/\(pushCells h names).IsCell c none/\(x,NameKind.cell)∈names)) /\
  (∀ x,((x,NameKind.cell)∈names\/∃ c,acc.lookup x=some c)->∃ c,(cellsFrom h.objs.size names acc).lookup x=some c) /\
  (∀ x c,(x,NameKind.cell)∈names->(cellsFrom h.objs.size names acc).lookup x=some c->h.objs.size<=c) /\
  ((∀ x c,acc.lookup x=some c->c < h.objs.size)->(∀ x y c,acc.lookup x=some c->acc.lookup y=some c->x=y)->∀ x y c,(cellsFrom h.objs.size names acc).lookup x=some c->(cellsFrom h.objs.size names acc).lookup y=some c->x=y):=by
 intro names
 induction names with
 | nil=>intro h acc; exact ⟨λx c e=>.inl e,λx e=>by rcases e with e | e; cases e; exact e,λx c e=>(by cases e),λ_ i=>i⟩
 | cons p r ih =>
  obtain ⟨name,kind⟩:=p
  intro h acc
  unfold cellsFrom pushCells
  by_cases hk:kind=.cell
  ·subst hk
   have hk':((NameKind.cell == NameKind.cell)=true):=rfl
   rw [if_pos hk',if_pos hk']
   have ih':=ih (h.push { cls:=.type "cell",data:=.cell none }) ((name,h.objs.size)::acc)
   rw [Heap.size_push] at ih'
   obtain ⟨i1,i2,i4,i3⟩:=ih'
   refine ⟨λx c e=>?_,λx e=>?_,λx c e1 e2=>?_,λhb hi=>i3 (λx c e=>?_) λx y c e1 e2=>?_⟩
   ·rcases i1 x c e with z | ⟨z1,z2,z3⟩
    ·rw [List.lookup_cons] at z
     cases hx:x == name with
     | true =>
      rw [hx] at z
      have hxn:x=name:=by simpa using hx
      cases z
      exact .inr ⟨Nat.le_refl _,⟨_,pushCells_keeps _ _ _ _ (Heap.get?_push_size _ rfl),rfl⟩,by rw [hxn]; exact List.mem_cons_self⟩
     | false=>rw [hx] at z; exact .inl z
    ·exact .inr ⟨by omega,z2,List.mem_cons_of_mem _ z3⟩
   ·refine i2 x ?_
    by_cases hx:x=name
    ·exact .inr ⟨h.objs.size,by rw [List.lookup_cons,hx]; simp⟩
    ·rcases e with e | ⟨c,e⟩
     ·rcases List.mem_cons.mp e with q | q
      ·exact absurd (congrArg Prod.fst q) hx
      ·exact .inl q
     ·exact .inr ⟨c,by rw [List.lookup_cons,beq_false_of_ne hx]; exact e⟩
   ·rcases i1 x c e2 with z | ⟨z,_,_⟩
    ·rw [List.lookup_cons] at z
     cases hx:x == name with
     | true=>rw [hx] at z; cases z; exact Nat.le_refl _
     | false =>
      have hxn:x≠name:=by simpa using hx
      rcases List.mem_cons.mp e1 with q | q
      ·exact absurd (congrArg Prod.fst q) hxn
      ·exact Nat.le_of_succ_le (i4 x c q e2)
    ·exact Nat.le_of_succ_le z
   ·rw [List.lookup_cons] at e
    cases hx:x == name with
    | true=>rw [hx] at e; cases e; exact Nat.lt_succ_self _
    | false=>rw [hx] at e; exact Nat.lt_succ_of_lt (hb x c e)
   ·rw [List.lookup_cons] at e1 e2
    cases hx:x == name with
    | true =>
     have hxn:x=name:=by simpa using hx
     rw [hx] at e1
     cases e1
     cases hy:y == name with
     | true =>
      have hyn:y=name:=by simpa using hy
      rw [hxn,hyn]
     | false=>rw [hy] at e2; exact absurd (hb y _ e2) (Nat.lt_irrefl _)
    | false =>
     rw [hx] at e1
     cases hy:y == name with
     | true=>rw [hy] at e2; cases e2; exact absurd (hb x _ e1) (Nat.lt_irrefl _)
     | false=>rw [hy] at e2; exact hi x y c e1 e2
  ·have hk':¬ ((kind == NameKind.cell)=true):=by simpa using hk
   rw [if_neg hk',if_neg hk']
   obtain ⟨i1,i2,i4,i3⟩:=ih h acc
   refine ⟨λx c e=>?_,λx e=>i2 x ?_,λx c e1 e2=>?_,i3⟩
   ·rcases i1 x c e with z | ⟨z1,z2,z3⟩
    ·exact .inl z
    ·exact .inr ⟨z1,z2,List.mem_cons_of_mem _ z3⟩
   ·rcases e with e | e
    ·rcases List.mem_cons.mp e with q | q
     ·exact absurd (congrArg Prod.snd q).symm hk
     ·exact .inl q
    ·exact .inr e
   ·rcases List.mem_cons.mp e1 with q | q
    ·exact absurd (congrArg Prod.snd q).symm hk
    ·exact i4 x c q e2
theorem jD {M:Model} {A:Around} {E:Value->Shared->Prop} {s:Shared} {scope:Scope} {globals:Addr} {cl:List (Str×Addr)} {qual:Str} {outer:Env} {Q:Env->Shared->Prop}
  (h:Q { scope:=scope,locals:=s.heap.objs.size,globals:=globals,cells:=cellsFrom (s.heap.objs.size+1) scope.names cl,qual:=qual,func:=none,code:=outer.code,frame:=outer.frame,builtins:=outer.builtins } { s with heap:=pushCells (s.heap.push { cls:=.type "dict",data:=.dict #[] }) scope.names }) :
  wpAny M A (newFunctionEnv scope globals cl [] qual none .none (some outer)) Q E s:=by
 simp only [newFunctionEnv,Option.isSome_some,if_true]
 refine wpAny_bind (wpAny_alloc ?_)
 refine wpAny_bind (wpAny_layCells _ (λname kind cells=>by cases hkc:kind == NameKind.cell <;> simp [hkc]) _ _ _ _ ?_)
 rw [show ({ s with heap:=s.heap.push { cls:=.type "dict",data:=.dict #[] } }:Shared).heap.objs.size=s.heap.objs.size+1 from Heap.size_push ..]
 rw [List.forIn_nil]
 exact wpAny_bind (wpAny_pure (wpAny_pure h))
theorem Zk7 {Nx ts:List Str} {ix:List Nat} {i:Nat} {x:Str} (h:(bN Nx ts ix)[i]?=some x) (hi:ts.length<=i):∃ j,ix[i - ts.length]?=some j/\x=(Nx[j]?).getD Str.empty:=by
 unfold bN at h
 rw [List.getElem?_append_right hi,List.getElem?_map] at h
 cases e:ix[i - ts.length]? with
 | none=>rw [e] at h; cases h
 | some j=>rw [e] at h; exact ⟨j,rfl,(Option.some.inj h).symm⟩
theorem lb {scope:Scope} {cl:List (Str×Addr)} {fp:List Addr} {C:Addr} {h3:Heap} {tk:Nat} {m:Str->Option Value} {Nx ts:List Str} {ix:List Nat}
  (I:Inv X pins σ H s) (hNx:X.N=Nx) (ok:BlkOk Nx X.env.scope scope ix) (cs1:∀ x c,cl.lookup x=some c->X.env.cells.lookup x=some c\/(C < c/\h3.IsCell c none/\(x,NameKind.cell)∈scope.names)) (csI:∀ x y c,cl.lookup x=some c->cl.lookup y=some c->x=y) (cl2:∀ y∈scope.names,(y.2=.free\/y.2=.cell)->∃ c,cl.lookup y.1=some c) (csA:∀ x c,(x,NameKind.cell)∈scope.names->cl.lookup x=some c->C<=c)
  (hf:∀ b∈fp,da X pins H b) (hfs:∀ b∈fp,b < s.heap.objs.size) (hC:s.heap.objs.size<=C) (kp:∀ b o,s.heap.get? b=some o->h3.get? b=some o) (hns:h3.Ns C m) :
  Inv (au X (bN Nx ts ix) scope ⟨cl,C,s,H,fp,X.pn++pins⟩) [] (bV ts.length ix σ) H { s with heap:=h3,toks:=tk }:=by
 have below:∀ {b:Addr},b < s.heap.objs.size->b≠C:=λhb=>Nat.ne_of_lt (Nat.lt_of_lt_of_le hb hC)
 have nstk:∀ b,b≠X.env.locals->b ∉ X.fs->b ∉ frs X.stack:=λb h1 h2 hb=>by
  rcases List.mem_cons.mp (I.stkSub b hb) with z | z
  ·exact h1 z
  ·exact h2 z
 refine ⟨⟨I.ok.mod,?_,I.ok.glob,I.ok.blt,hC,csI,λx hx=>?_,λx c hfn e=>Nat.le_trans hC (csA x c (PySem.mem_of_lookup (eq_of_beq hfn)) e),I.ok.hd,I.ok.frames,.inl rfl,λb hb=>⟨below (hfs b hb),λx c e=>by
  rcases cs1 x c e with z | ⟨z,_,_⟩
  ·exact (hf b hb).2.2.2.2.1 x c z
  ·exact Nat.ne_of_gt (Nat.lt_of_lt_of_le (hfs b hb) (Nat.le_trans hC (Nat.le_of_lt z)))⟩,I.bs,Nat.le_trans I.ok.bsz I.sz,λb o e hb=>?_,λb hb=>nstk b (hf b hb).2.1 (hf b hb).2.2.1,I.stack,I.stkFree⟩,
  rfl,I.bare,Un.kept kp,⟨m,hns,λi x v h1 h2 h3'=>?_⟩,λx c e=>?_,I.hok.fresh hC,λx c e=>by
  rcases cs1 x c e with z | ⟨z,_,_⟩
  ·exact I.freeC x c z
  ·exact I.hok.fresh (Nat.le_trans hC (Nat.le_of_lt z)),λp hp=>?_,I.hok.kept kp,?_⟩
 ·exact ok.kind
 ·have hx':(relabel scope X.env).names.lookup x=some .cell\/(relabel scope X.env).names.lookup x=some .free:=hx
  obtain ⟨y,hy,e1,e2⟩:=ZgB hx'
  obtain ⟨c,hc⟩:=cl2 y hy e2
  exact ⟨c,by rw [<- e1]; exact hc⟩
 ·rcases (hf b hb).2.2.2.1 with z | z
  ·exact I.ok.noex b o e z
  ·exact absurd (Nat.lt_of_lt_of_le (Heap.lt_size e) (Nat.le_trans I.ok.bsz z)) (Nat.lt_irrefl _)
 ·have hi:ts.length<=i:=by
   rcases Nat.lt_or_ge i ts.length with z | z
   ·exfalso
    have h2':(bV ts.length ix σ)[i]?=some (some v):=h2
    unfold bV at h2'
    rw [List.getElem?_append_left (by simpa using z),List.getElem?_replicate] at h2'
    split at h2' <;> cases h2'
   ·exact z
  obtain ⟨j,hj,ex⟩:=Zk7 h1 hi
  have h2':(bV ts.length ix σ)[i]?=some (some v):=h2
  unfold bV at h2'
  rw [List.getElem?_append_right (by simpa using hi),List.getElem?_map,List.length_replicate,hj] at h2'
  have hσ:σ[j]?=some (some v):=by
   have q:(σ[j]?).getD none=some v:=Option.some.inj h2'
   cases e:σ[j]? with
   | none=>rw [e] at q; cases q
   | some w=>rw [e] at q; exact congrArg some q
  obtain ⟨hjl,hfree⟩:=ok.caps j (List.mem_of_getElem? hj)
  have hNj:X.N[j]?=some x:=by
   rw [hNx,ex,List.getElem?_eq_getElem hjl]
   rfl
  rw [<- ex] at hfree
  obtain ⟨c,hc⟩:=cl2 (x,.free) (PySem.mem_of_lookup hfree) (.inl rfl)
  have cl1:X.env.cells.lookup x=some c:=by
   rcases cs1 x c hc with z | ⟨_,_,z⟩
   ·exact z
   ·have:=ok.cells _ z rfl
    rw [hfree] at this
    cases this
  have kx:=ok.frees (x,.free) (PySem.mem_of_lookup hfree) rfl
  obtain ⟨m0,hn0,hl0⟩:=I.loc
  obtain ⟨u,ru,look⟩:=hl0 j x v hNj hσ (by rcases kx with z | z; exact .inr (.inl z); exact .inr (.inr z))
  refine ⟨u,ru,.inr ⟨Zbr hfree,c,hc,?_⟩⟩
  rcases look with ⟨k1,_⟩ | ⟨_,c',hc',z⟩
  ·have k1':X.env.scope.names.lookup x=some .local:=k1
   rcases kx with z | z
   ·rw [k1'] at z; cases z
   ·rw [k1'] at z; cases z
  ·have e:=cl1
   rw [hc'] at e
   cases e
   obtain ⟨o,ho,hd⟩:=z
   exact ⟨o,kp _ _ ho,hd⟩
 ·rcases cs1 x c e with z | ⟨_,z,_⟩
  ·obtain ⟨v,o,ho,hd⟩:=I.cell x c z
   exact ⟨v,o,kp _ _ ho,hd⟩
  ·exact ⟨_,z⟩
 ·have hp':p∈X.pn++pins:=by simpa [au] using hp
  obtain ⟨e,n,ne,nf,d⟩:=I.pin p hp'
  exact ⟨kp _ _ e,n,below (Heap.lt_size e),nstk _ ne nf,d⟩
 ·show (bV ts.length ix σ).length=(bN Nx ts ix).length
  unfold bV bN
  simp
theorem Inv.track {D:Addr} {ys:List V} {its:List Value} {n:Nat} (I:Inv X pins σ H s) (hD:H D=none) (ho:s.heap.get? D=some { cls:=.type "list",data:=.seq its.toArray n }) (r:Vals ys its) (hz:ys.length<=sizeLine)
  (hL:D≠X.env.locals) (hs0:X.s₀.heap.objs.size<=D) (hc:∀ x c,X.env.cells.lookup x=some c->c≠D) (hp:∀ p∈X.pn++pins,p.1≠D):Inv X pins σ (upd H D (.lst ys)) s:=by
 have ne:∀ {b:Addr} {o:HO},H b=some o->b≠D:=λe=>bZ e hD
 refine I.step (g':=s.gens) (d':=s.drawn) (t':=s.toks) (h':=s.heap) (ch:=[D]) (λb hb=>?_) (λb o _ _ _ e _=>e) (λb o _ _ _ e _=>⟨o.slots,e⟩) (λb o hb e n=>?_) (λb o _ e=>⟨o,e⟩)
  (λb xs e=>by rw [ai (ne e)]; exact e) (λb o u e=>by rw [ai (ne e)]; exact e) (λb ps e=>⟨#[],by rw [ai (ne e),e]; simp⟩) (λm hm=>hm) (λb u e=>?_) I.bare
 ·have e:b=D:=by simpa using hb
  subst e
  exact ⟨.inr hs0,hL,hc,hp⟩
 ·have hb':b≠D:=by simpa using hb
  rw [ai hb']
  exact n
 ·by_cases hb:b=D
  ·subst hb
   rw [bf] at e
   cases e
   exact ⟨hz,its,n,r,ho⟩
  ·rw [ai hb] at e
   exact (I.hok b u e).stay (λc v _ q=>q) (λc q=>by rw [ai (ne q)]; exact q) (λc xs q=>by rw [ai (ne q)]; exact q) λc ob xs _ q _=>by rw [ai (ne q)]; exact q
end
theorem Zku {prog:Program} {w:World} {A:Around} {R:Result->Shared->Prop} {s:Shared} {elt target iter:Expr} {scope:Scope} {pos:Pos} {it acc:Value} {env:Env} (J:Nat->Shared->Prop)
  (step:∀ k s0,J k s0->wpAny (model prog w) A (pyNext it) (λgot s1=>match got with
   | none=>R (.ok .next) s1
   | some v=>wpAny (model prog w) A (letOwnedTupleGo target it v) (λ_ s2=>wpAny (model prog w) A (assign target env v) (λ_ s3=>wpAny (model prog w) A (eval elt env) (λy s4 =>
     wpAny (model prog w) A (call (.builtin "list.append") [acc,y]) (λ_ s5=>∃ j,j < k/\J j s5) (λ_ _=>False) s4) (λ_ _=>False) s3) (λ_ _=>False) s2) (λ_ _=>False) s1) (λ_ _=>False) s0)
  (k:Nat) (h:J k s):codeAny (model prog w) A (.compLoop (.ListComp elt [⟨target,iter,[],0⟩] scope pos) 0 it acc env) R s:=by
 refine codeAny_loop rfl J (λk0 s0 hJ=>?_) k h
 show wpAny _ _ ((compTurn (.ListComp elt [⟨target,iter,[],0⟩] scope pos) 0 it acc env).onRaise (λx=>do noteFrame x env; theTreesLotGoes x)) _ _ s0
 apply wpAny_noted
 rw [compTurn_list1]
 refine wpAny_bind (wpAny_standAt (wpAny_bind (wpAny_mono (step k0 s0 hJ) (λgot s1 h1=>?_) λ_ _ z=>z.elim)))
 cases got with
 | none=>exact wpAny_pure h1
 | some v =>
  refine wpAny_bind (wpAny_mono h1 (λ_ s2 h2=>?_) λ_ _ z=>z.elim)
  refine wpAny_bind (wpAny_mono h2 (λ_ s3 h3=>?_) λ_ _ z=>z.elim)
  refine wpAny_bind (wpAny_bind (wpAny_mono h3 (λy s4 h4=>?_) λ_ _ z=>z.elim))
  exact wpAny_bind (wpAny_mono h4 (λ_ s5 h5=>wpAny_pure (wpAny_pure ⟨rfl,h5⟩)) λ_ _ z=>z.elim)
noncomputable def fm (wi:TI) (n:Nat) (ix:List Nat) (g:Blk->TG) (te:Blk->TE):TE:=λσ H Q=>wi σ H λJ H1=>∀ b:Blk,∃ W:Nat->Nat->St->List V->Hp->Prop,(∃ m,W 0 m (bV n ix σ) [] H1)/\∀ i m τ ys H2,W i m τ ys H2 ->
 (J.stop i H2/\∀ p v H',H2 p=none->v=V.ref p->H'=upd H2 p (.lst ys)->Q v H') \/
 (J.go i H2/\ys.length < sizeLine/\∀ x H3,J.yld i H2 x H3->g b x τ H3 λτ2 H4=>te b τ2 H4 λy H5=>∃ m',m' < m/\W (i+1) m' τ2 (ys++[y]) H5)
section
variable {X:Cx} {pins:List (Addr×Obj)} {σ:St} {H:Hp} {s:Shared}
theorem ZcN {elt target iter:Expr} {scope:Scope} {pos:Pos} {Nx ts:List Str} {ix:List Nat} {g:Blk->TG} {te:Blk->TE} {cl:List (Str×Addr)} {s2:Shared} {itv:Value} {R:Value->Addr->Result->Shared->Prop}
  {E:Value->Shared->Prop} {Q:VK}
  (hc:X.calm=true) (hg:∀ b,PG (au X (bN Nx ts ix) scope b) target (g b)) (he:∀ b,PE (au X (bN Nx ts ix) scope b) elt (te b))
  (hNx:X.N=Nx) (ok:BlkOk Nx X.env.scope scope ix) (cl1:∀ x c,cl.lookup x=some c->X.env.cells.lookup x=some c) (cl2:∀ y∈scope.names,y.2=.free->∃ c,cl.lookup y.1=some c)
  (h2:iG X pins σ target (λJ H1=>∀ b:Blk,∃ W:Nat->Nat->St->List V->Hp->Prop,(∃ m,W 0 m (bV ts.length ix σ) [] H1)/\∀ i m τ ys H2,W i m τ ys H2 ->
   (J.stop i H2/\∀ p v H',H2 p=none->v=V.ref p->H'=upd H2 p (.lst ys)->Q v H') \/
   (J.go i H2/\ys.length < sizeLine/\∀ x H3,J.yld i H2 x H3->g b x τ H3 λτ2 H4=>te b τ2 H4 λy H5=>∃ m',m' < m/\W (i+1) m' τ2 (ys++[y]) H5)) itv s2)
  (hR:∀ (D C:Addr) (H':Hp) (s':Shared) (v:V),Inv X pins σ H' s'->v=.ref D->Q v H'->(∃ m,s'.heap.Ns C m)->H' C=none->C≠X.env.locals->X.s₀.heap.objs.size<=C->(∀ x c,X.env.cells.lookup x=some c->c≠C)->(∀ p∈X.pn++pins,p.1≠C) ->
   R (.ref D) C (.ok .next) s') :
  wpAny (model X.prog X.w) X.A (newList []) (λacc s₃=>wpAny (model X.prog X.w) X.A (newFunctionEnv scope X.env.globals cl [] X.env.qual none .none (some X.env)) (λcenv s₄ =>
   codeAny (model X.prog X.w) X.A (.compStart (.ListComp elt [⟨target,iter,[],0⟩] scope pos) 0 itv acc { cenv with scope:=relabel scope X.env }) (R acc cenv.locals) s₄) E s₃) E s2:=by
 obtain ⟨it,fp,tn,J,H1,e,I2,T,st2,f2,q2⟩:=h2
 subst e
 refine wpAny_newObj_type (jD ?_)
 dsimp only
 generalize hG:s2.heap.push { cls:=.type "list",dict:=none,data:=.seq ([]:List Value).toArray }=G
 have hGs:G.objs.size=s2.heap.objs.size+1:=by rw [<- hG,Heap.size_push]
 have hfs:∀ b∈fp,b < s2.heap.objs.size:=λb hb=>let ⟨o,e,_⟩:=T.obj _ _ st2 b hb; Heap.lt_size e
 have kpG:∀ b o,G.get? b=some o->(pushCells (G.push { cls:=.type "dict",data:=.dict #[] }) scope.names).get? b=some o:=λb o e=>pushCells_keeps _ _ _ _ (Heap.get?_push_of_some _ e)
 have hns3:(pushCells (G.push { cls:=.type "dict",data:=.dict #[] }) scope.names).Ns G.objs.size (λ_=>none):=(Heap.Ns.new G (.type "dict")).keeps (pushCells_keeps _ _)
 obtain ⟨sp1,sp2,sp4,sp3⟩:=lC scope.names (G.push { cls:=.type "dict",data:=.dict #[] }) cl
 rw [Heap.size_push] at sp1 sp2 sp3 sp4
 generalize hh3:pushCells (G.push { cls:=.type "dict",data:=.dict #[] }) scope.names=h3 at kpG hns3 sp1 ⊢
 have kp:∀ b o,s2.heap.get? b=some o->h3.get? b=some o:=λb o e=>kpG b o (by rw [<- hG]; exact Heap.get?_push_of_some _ e)
 have hD3:h3.get? s2.heap.objs.size=some { cls:=.type "list",data:=.seq ([]:List Value).toArray }:=kpG _ _ (by rw [<- hG]; exact Heap.get?_push_size _ rfl)
 have clB:∀ x c,cl.lookup x=some c->c < G.objs.size+1:=λx c e=>by
  obtain ⟨v,q⟩:=I2.cell x c (cl1 x c e)
  exact Nat.lt_succ_of_lt (Nat.lt_of_lt_of_le q.lt (by rw [hGs]; exact Nat.le_succ _))
 have csI:=sp3 clB λx y c e1 e2=>I2.ok.inj x y c (cl1 x c e1) (cl1 y c e2)
 have cs1:∀ x c,(cellsFrom (G.objs.size+1) scope.names cl).lookup x=some c->X.env.cells.lookup x=some c\/(G.objs.size < c/\h3.IsCell c none/\(x,NameKind.cell)∈scope.names):=λx c e=>by
  rcases sp1 x c e with z | ⟨z1,z2,z3⟩
  ·exact .inl (cl1 x c z)
  ·exact .inr ⟨by omega,z2,z3⟩
 have cs2:∀ y∈scope.names,(y.2=.free\/y.2=.cell)->∃ c,(cellsFrom (G.objs.size+1) scope.names cl).lookup y.1=some c:=λy hy hk=>by
  refine sp2 y.1 ?_
  rcases hk with z | z
  ·exact .inr (cl2 y hy z)
  ·exact .inl (by rw [<- z]; exact hy)
 have csA:∀ x c,(x,NameKind.cell)∈scope.names->(cellsFrom (G.objs.size+1) scope.names cl).lookup x=some c->G.objs.size<=c:=λx c e1 e2=>Nat.le_of_succ_le (sp4 x c e1 e2)
 generalize hcs:cellsFrom (G.objs.size+1) scope.names cl=cs at csI cs1 cs2 csA ⊢
 generalize hCe:G.objs.size=C at hns3 cs1 csA ⊢
 have hC:s2.heap.objs.size<=C:=by omega
 have hDC:s2.heap.objs.size≠C:=by omega
 let B:Blk:=⟨cs,C,s2,H1,fp,X.pn++pins⟩
 have I3:Inv (au X (bN Nx ts ix) scope B) [] (bV ts.length ix σ) H1 { s2 with heap:=h3 }:=lb I2 hNx ok cs1 csI cs2 csA f2 hfs hC kp hns3
 have fC:H1 s2.heap.objs.size=none:=I2.hok.fresh (Nat.le_refl _)
 have cellIn:∀ x c,cs.lookup x=some c->c≠s2.heap.objs.size:=λx c e=>by
  rcases cs1 x c e with z | ⟨z,_,_⟩
  ·obtain ⟨v,q⟩:=I2.cell x c z
   exact Nat.ne_of_lt q.lt
  ·exact Nat.ne_of_gt (Nat.lt_of_le_of_lt hC z)
 have pinIn:∀ p∈X.pn++pins,p.1 < s2.heap.objs.size:=λp hp=>Heap.lt_size (I2.pin p hp).1
 have nofrs:s2.heap.objs.size ∉ frs X.stack:=λhb=>by
  rcases List.mem_cons.mp (I2.stkSub _ hb) with z | z
  ·exact absurd I2.lt (by rw [<- z]; exact Nat.lt_irrefl _)
  ·exact I2.nofs (Nat.le_refl _) z
 -- a state with the list at its place,pinned
 have pinD:∀ {τ:St} {H':Hp} {s':Shared} {ob:Obj},Inv (au X (bN Nx ts ix) scope B) [] τ H' s'->s'.heap.get? s2.heap.objs.size=some ob->H' s2.heap.objs.size=none->(∀ v,ob.data≠.cell v)->Inv (au X (bN Nx ts ix) scope B) [(s2.heap.objs.size,ob)] τ H' s' :=
  λ{τ H' s' ob} I' ho hn hd=>I'.pins_of λp hp=>by
   have e:p=(s2.heap.objs.size,ob):=by simpa using hp
   subst e
   exact ⟨ho,hn,hDC,nofrs,hd⟩
 obtain ⟨W,⟨m0,w0⟩,turn⟩:=q2 B
 have stat:∀ {H':Hp} {ob:Obj},(∀ b∈fp,H' b=none)->∀ b∈fp,da (au X (bN Nx ts ix) scope B) [(s2.heap.objs.size,ob)] H' b:=λ{H' ob} hn b hb=>by
  refine ⟨hn b hb,Nat.ne_of_lt (Nat.lt_of_lt_of_le (hfs b hb) hC),λz=>?_,.inl hb,λx c e=>by
   rcases cs1 x c e with z | ⟨z,_,_⟩
   ·exact (f2 b hb).2.2.2.2.1 x c z
   ·exact Nat.ne_of_gt (Nat.lt_of_lt_of_le (hfs b hb) (Nat.le_trans hC (Nat.le_of_lt z))),λp hp=>?_⟩
  ·rcases List.mem_cons.mp (I2.stkSub _ z) with q | q
   ·exact (f2 b hb).2.1 q
   ·exact (f2 b hb).2.2.1 q
  ·rcases List.mem_append.mp hp with z | z
   ·exact (f2 b hb).2.2.2.2.2 p z
   ·have e:p=(s2.heap.objs.size,ob):=by simpa using z
    subst e
    exact Nat.ne_of_gt (hfs b hb)
 have loop:∀ s4:Shared,s4={ s2 with heap:=h3 } ->
   codeAny (model X.prog X.w) X.A (.compLoop (.ListComp elt [⟨target,iter,[],0⟩] scope pos) 0 (.ref it) (.ref s2.heap.objs.size) (compEnvC scope cs C X.env)) (R (.ref s2.heap.objs.size) C) s4:=by
  rintro s4 rfl
  refine Zku (λk s'=>∃ i τ ys its n H',Inv (au X (bN Nx ts ix) scope B) [(s2.heap.objs.size,({ cls:=.type "list",data:=.seq (List.toArray its) n }:Obj))] τ H' s'/\tn i s'.heap/\(∀ b∈fp,H' b=none)/\Vals ys its/\ys.length<=sizeLine/\W i k τ ys H') ?_ m0
   ⟨0,_,[],[],_,H1,pinD I3 hD3 fC (λv z=>by cases z),T.keep _ _ _ st2 λb hb o e=>kp b o e,λb hb=>(f2 b hb).1,.nil,Nat.zero_le _,w0⟩
  rintro k s5 ⟨i,τ,ys,its,n,H5,I5,st5,fr5,rv,hz,w5⟩
  rcases turn i k τ ys H5 w5 with ⟨stop,qn⟩ | ⟨go,hlt,step⟩
  ·refine thn (T.done (au X (bN Nx ts ix) scope B) rfl rfl rfl hc i _ s5 τ H5 _ I5 (stat fr5) st5 stop) λgot s6 hz0=>?_
   obtain ⟨hr,I6⟩:=hz0
   subst hr
   obtain ⟨ho,hn,_,_,_⟩:=I6.pin (s2.heap.objs.size,({ cls:=.type "list",data:=.seq (List.toArray its) n }:Obj)) (List.mem_append_right _ (by simp))
   have I7:Inv X pins σ H5 s6:=I2.call' (ch:=fp) (H':=H5) (by exact I6.os) I6.base I6.hok I6.bare λb hb=>⟨(f2 b hb).2.2.2.1,(f2 b hb).2.1,(f2 b hb).2.2.2.2.1,(f2 b hb).2.2.2.2.2⟩
   have hs0:X.s₀.heap.objs.size<=s2.heap.objs.size:=I2.sz
   have I8:=I7.track hn ho rv hz (Nat.ne_of_gt I2.lt) hs0 (λx c e z=>by
    obtain ⟨v,q⟩:=I2.cell x c e
    exact absurd q.lt (by rw [z]; exact Nat.lt_irrefl _)) (λp hp=>Nat.ne_of_lt (pinIn p hp))
   obtain ⟨m6,hm6,_⟩:=I6.loc
   refine hR _ C _ s6 _ I8 rfl (qn _ _ _ hn rfl rfl) ⟨m6,hm6⟩ ?_ (λz=>?_) (Nat.le_trans hs0 hC) (λx c e z=>?_) λp hp=>Nat.ne_of_lt (Nat.lt_of_lt_of_le (pinIn p hp) hC)
   ·rw [ai (Ne.symm hDC)]
    exact I6.free
   ·exact absurd (Nat.lt_of_lt_of_le I2.lt hC) (by rw [z]; exact Nat.lt_irrefl _)
   ·obtain ⟨v,q⟩:=I2.cell x c e
    exact absurd (Nat.lt_of_lt_of_le q.lt hC) (by rw [z]; exact Nat.lt_irrefl _)
  ·refine thn (T.item (au X (bN Nx ts ix) scope B) rfl rfl rfl hc i _ s5 τ H5 _ I5 (stat fr5) st5 go) λgot s6 hz0=>?_
   obtain ⟨u,hr,h6⟩:=hz0
   subst hr
   refine thn h6 λ_ s7 hz0=>?_
   obtain ⟨x,H7,I7,r7,y7,st7,fr7⟩:=hz0
   have I7':=I7.pinned (stat fr7) (T.obj _ _ st7)
   refine thn (hg B _ s7 τ H7 x u _ I7' r7 (step x H7 y7)) λ_ s8 hz0=>?_
   obtain ⟨τ8,H8,I8,q8⟩:=hz0
   refine thn (he B _ s8 τ8 H8 _ I8 q8) λy s9 hz0=>?_
   obtain ⟨vy,H9,I9,r9,m',hm',w9⟩:=hz0
   obtain ⟨ho,hn,_,_,_⟩:=I9.pin (s2.heap.objs.size,({ cls:=.type "list",data:=.seq (List.toArray its) n }:Obj)) (List.mem_append_right _ (List.mem_append_left _ (by simp)))
   have lenv:=rv.length
   refine wpAny_list_append_plain (l:=s2.heap.objs.size) ⟨n,ho⟩ (λh' hpl hsb=>?_) (by rw [List.size_toArray]; omega)
   obtain ⟨n',ho'⟩:=hpl
   have eobj:(its.toArray.push y)=List.toArray (its++[y]):=by simp
   rw [eobj] at ho'
   have I9':Inv (au X (bN Nx ts ix) scope B) [] τ8 H9 s9:=I9.pins_of λp hp=>absurd hp (by simp)
   have I10:Inv (au X (bN Nx ts ix) scope B) [] τ8 H9 { s9 with heap:=h' }:=I9'.turned (it:=s2.heap.objs.size) (t':=s9.toks) (λb o hb e=>(hsb.2 b hb).trans e) hn hDC (.inr (Nat.le_refl _)) cellIn (λp hp=>by
    have hp':p∈(X.pn++pins)++[]:=hp
    rw [List.append_nil] at hp'
    exact Nat.ne_of_lt (pinIn p hp'))
   refine ⟨m',hm',i+1,τ8,ys++[vy],its++[y],n',H9,pinD I10 ho' hn (λv z=>by cases z),?_,λb hb=>?_,rv.append (.cons r9 .nil),by rw [List.length_append]; show ys.length+1<=_; omega,w9⟩
   ·refine T.keep _ _ _ st7 λb hb o e=>?_
    have q:=(I9.pin (b,o) (List.mem_append_right _ (List.mem_append_right _ (cR hb e)))).1
    exact (hsb.2 b (Nat.ne_of_lt (hfs b hb))).trans q
   ·obtain ⟨o,e,d⟩:=T.obj _ _ st7 b hb
    exact (I9.pin (b,o) (List.mem_append_right _ (List.mem_append_right _ (cR hb e)))).2.1
 exact codeAny_compStart_list (loop _ rfl) (T.self X.A 0 _ _ _ (T.keep _ _ _ st2 λb hb o e=>kp b o e) (loop _ rfl))
theorem dS {elt target iter:Expr} {scope:Scope} {pos:Pos} {wi:TI} {g:Blk->TG} {te:Blk->TE} (Nx:List Str) (ts:List Str) (ix:List Nat)
  (hc:X.calm=true) (hi:PI X target iter wi) (hg:∀ b,PG (au X (bN Nx ts ix) scope b) target (g b)) (he:∀ b,PE (au X (bN Nx ts ix) scope b) elt (te b))
  (hNx:X.N=Nx) (ok:BlkOk Nx X.env.scope scope ix) (hs:∀ x,foldedSetIterable iter X.env x=pure x:=by intro _; rfl) :
  PE X (.ListComp elt [⟨target,iter,[],0⟩] scope pos) (fm wi ts.length ix g te):=by
 intro pins s σ H Q I h
 obtain ⟨cl,hcl,cl1,cl2⟩:=im (scope:=scope) (env:=X.env) λy hy hf=>I.ok.has y.1 (ok.frees y hy hf)
 rw [eval_ListComp]
 refine wpAny_comprehension_free (use:=none) rfl hs hcl ok.kind ok.locs (thn (hi pins s σ H _ I h) λv s1 h1=>thn h1 λitv s2 h2=>?_)
 refine ZcN (R:=λacc C=>compPost (model X.prog X.w) X.A X.xe none (EP X pins σ Q) acc C) hc hg he hNx ok cl1 cl2 h2 ?_
 rintro D C H' s' v I' rfl q ⟨m,hm⟩ hn hL h0 hcl' hp
 exact ⟨m,hm,λh' hsb=>⟨.ref D,H',I'.turned (it:=C) (t':=s'.toks) (λb o hb e=>(hsb.2 b hb).trans e) hn hL (.inr h0) hcl' hp,rfl,q⟩⟩
theorem nM {elt target iter:Expr} {scope:Scope} {pos pos' spos:Pos} {wi:TI} {g:Blk->TG} {te:Blk->TE} {i:Nat} {x:Str} (Nx:List Str) (ts:List Str) (ix:List Nat)
  (hc:X.calm=true) (hN:X.N.Nodup) (hix:X.N[i]?=some x) (hx:X.env.scope.names.lookup x=some .local) (hi:PI X target iter wi) (hg:∀ b,PG (au X (bN Nx ts ix) scope b) target (g b)) (he:∀ b,PE (au X (bN Nx ts ix) scope b) elt (te b))
  (hNx:X.N=Nx) (ok:BlkOk Nx X.env.scope scope ix) (hsw:swapsWith (.ListComp elt [⟨target,iter,[],0⟩] scope pos) (some (.Name x pos')) spos.line X.env=pure true) (hs:∀ x,foldedSetIterable iter X.env x=pure x:=by intro _; rfl) :
  PS X (.Assign [.Name x pos'] (.ListComp elt [⟨target,iter,[],0⟩] scope pos) spos) (ce (fm wi ts.length ix g te) (cp i)):=by
 intro pins s σ H D0 I h
 obtain ⟨cl,hcl,cl1,cl2⟩:=im (scope:=scope) (env:=X.env) λy hy hf=>I.ok.has y.1 (ok.frees y hy hf)
 rw [exec_Assign_Name_used _ _ _ _ hsw]
 refine wpAny_bind (wpAny_standAt (wpAny_bind ?_))
 show wpAny _ X.A (do let _ <- comprehension (.ListComp elt [⟨target,iter,[],0⟩] scope pos) scope X.env _ (newList []) false (eval iter X.env) (some (assign (.Name x pos') X.env))) _ _ s
 refine wpAny_bind (thn (wpAny_comprehension_free (use:=some (assign (.Name x pos') X.env)) (Q:=λ_ s'=>SP X pins D0 .next s') rfl hs hcl ok.kind ok.locs (thn (hi pins s σ H _ I h) λv s1 h1=>thn h1 λitv s2 h2=>?_)) λ_ s' hq=>wpAny_pure (wpAny_pure hq))
 refine ZcN (R:=λacc C=>compPost (model X.prog X.w) X.A X.xe (some (assign (.Name x pos') X.env)) (λ_ s'=>SP X pins D0 .next s') acc C) (Q:=λx H1=>cp i x σ H1 D0.nx) hc hg he hNx ok cl1 cl2 h2 ?_
 rintro D C H' s' v I' rfl q ⟨m,hm⟩ hn hL h0 hcl' hp
 show wpAny _ X.A (assign (.Name x pos') X.env (.ref D)) _ _ _
 refine wpAny_assign_Name (jP I' hN hix (.inl hx) (show RelV (.ref D) (.ref D) from rfl) (λs'' I'' hch=>?_) (.inr hx))
 obtain ⟨a,hsb,ha⟩:=hch
 have haC:C≠a:=by
  rcases ha with z | z
  ·rw [z]; exact hL
  ·exact λe=>hcl' _ _ z e.symm
 exact ⟨m,hm.sameBut hsb haC,λh'' hs''=>⟨_,H',I''.turned (it:=C) (t':=s''.toks) (λb o hb e=>(hs''.2 b hb).trans e) hn hL (.inr h0) hcl' hp,q⟩⟩
end
theorem ZgA {scope:Scope} {env:Env} {x:Str} (h:scope.names.lookup x=some .cell\/scope.names.lookup x=some .free):(relabel scope env).names.lookup x=some .cell\/(relabel scope env).names.lookup x=some .free:=by
 rcases h with h | h
 ·refine .inl ?_
  unfold relabel
  show List.lookup x (scope.names.map _)=_
  generalize scope.names=l at h
  induction l with
  | nil=>simp at h
  | cons p r ih =>
   obtain ⟨n,k⟩:=p
   rw [List.map_cons]
   show List.lookup x ((if (k == NameKind.free && env.scope.kind == .function && env.kindOf n == some .cell)=true then (n,NameKind.cell) else (n,k))::_)=_
   cases hx:x == n with
   | true =>
    rw [List.lookup_cons,hx] at h
    have hk:k=.cell:=by simpa using h
    subst hk
    rw [if_neg (by rw [show (NameKind.cell == NameKind.free)=false from rfl]; simp),List.lookup_cons,hx]
   | false =>
    rw [List.lookup_cons,hx] at h
    split <;> rw [List.lookup_cons,hx] <;> exact ih h
 ·exact Zbr h
theorem BlkOk.nest {Nx:List Str} {sc scope:Scope} {env:Env} {ix:List Nat} (h:BlkOk Nx sc scope ix):BlkOk Nx (relabel sc env) scope ix :=
 ⟨h.kind,h.cells,h.locs,λy hy z=>ZgA (h.frees y hy z),h.caps⟩
mutual
/-- the value bears the datum -/
inductive Dn (H:Hp):V->PyData->Prop
 | non:Dn H .non .none
 | bl (b:Bool):Dn H (.bl b) (.bool b)
 | int (i:Int):Dn H (.int i) (.int i)
 | str (x:Str):Dn H (.str x) (.str x)
 | tup {a:Addr} {xs:List V} {ds:List PyData}:H a=some (.tup xs)->DnAll H xs ds->Dn H (.ref a) (.tuple ds)
 | lst {a:Addr} {xs:List V} {ds:List PyData}:H a=some (.lst xs)->DnAll H xs ds->Dn H (.ref a) (.list ds)
 | dct {a:Addr} {ks:List (ak×V)} {ds:List PyData}:Rd H a (.dK ks)->DnAll H (ks.map (·.2)) ds->Dn H (.ref a) (.dict ((ks.map λk=>match k.1 with | .inl i=>PyData.int i | .inr x=>PyData.str x).zip ds))
 | dcp {a:Addr} {o:Obj} {ks:List (List Int×V)} {ds:List PyData}:ks≠[]->H a=some (.frz o (.dT (ks.map λk=>(k.1.map Sum.inl,k.2))))->DnAll H (ks.map (·.2)) ds->Dn H (.ref a) (.dict ((ks.map λk=>PyData.tuple (k.1.map PyData.int)).zip ds))
inductive DnAll (H:Hp):List V->List PyData->Prop
 | nil:DnAll H [] []
 | cons {v:V} {vs:List V} {d:PyData} {ds:List PyData}:Dn H v d->DnAll H vs ds->DnAll H (v::vs) (d::ds)
end
mutual
theorem Dn.mono {H H':Hp} (e:∀ b o,H b=some o->H' b=some o):∀ {v:V} {d:PyData},Dn H v d->Dn H' v d
 | _,_,.non=>.non
 | _,_,.bl b=>.bl b
 | _,_,.int i=>.int i
 | _,_,.str x=>.str x
 | _,_,.tup h r=>.tup (e _ _ h) (DnAll.mono e r)
 | _,_,.lst h r=>.lst (e _ _ h) (DnAll.mono e r)
 | _,_,.dct h r=>.dct (h.imp (e _ _) λ⟨o,h⟩=>⟨o,e _ _ h⟩) (DnAll.mono e r)
 | _,_,.dcp n h r=>.dcp n (e _ _ h) (DnAll.mono e r)
theorem DnAll.mono {H H':Hp} (e:∀ b o,H b=some o->H' b=some o):∀ {vs:List V} {ds:List PyData},DnAll H vs ds->DnAll H' vs ds
 | _,_,.nil=>.nil
 | _,_,.cons r t=>.cons (Dn.mono e r) (DnAll.mono e t)
end
theorem DnAll.ints {H:Hp}:∀ ns:List Int,DnAll H (ns.map V.int) (ns.map PyData.int)
 | []=>.nil
 | n::ns=>.cons (.int n) (DnAll.ints ns)
theorem DnAll.length {H:Hp} {vs:List V} {ds:List PyData} (h:DnAll H vs ds):vs.length=ds.length:=by
 induction vs generalizing ds with
 | nil=>cases h; rfl
 | cons v vs ih=>cases h with | cons r t=>exact congrArg (·+1) (ih t)
theorem DnAll.append {H:Hp} {vs ws:List V} {ds es:List PyData} (h:DnAll H vs ds) (s:DnAll H ws es):DnAll H (vs++ws) (ds++es):=by
 induction vs generalizing ds with
 | nil=>cases h; exact s
 | cons v vs ih=>cases h with | cons r t=>exact .cons r (ih t)
mutual
/-- data without dicts -/
theorem Dn.reads {P:Program} {w:World} {H:Hp} {h:Heap} (ok:HOk P w H h):∀ {v:V} {d:PyData} {u:Value},Dn H v d->d.hasDict=false->RelV v u->∃ as,Reads h u d as
 | _,_,_,.non,_,r=>by cases r; exact ⟨_,.none⟩
 | _,_,_,.bl b,_,r=>by cases r; exact ⟨_,.bool b⟩
 | _,_,_,.int i,_,r=>by obtain ⟨t,rfl⟩:=r; exact ⟨_,.int i t⟩
 | _,_,_,.str x,_,r=>by obtain ⟨t,rfl⟩:=r; exact ⟨_,.str x t⟩
 | _,_,_,.tup e rs,hd,r=>by
  cases r
  obtain ⟨z,its,rv,o,h1,h2,n,h3⟩:=ok _ _ e
  obtain ⟨as,q⟩:=DnAll.reads ok rs (by simpa [PyData.hasDict] using hd) rv
  exact ⟨_,.tuple h1 h2 h3 (by simpa using q)⟩
 | _,_,_,.lst e rs,hd,r=>by
  cases r
  obtain ⟨z,its,n,rv,h1⟩:=ok _ _ e
  obtain ⟨as,q⟩:=DnAll.reads ok rs (by simpa [PyData.hasDict] using hd) rv
  exact ⟨_,.list h1 rfl rfl (by simpa using q)⟩
 | _,_,_,.dct e rs,hd,r=>by simp [PyData.hasDict] at hd
 | _,_,_,.dcp n e rs,hd,r=>by simp [PyData.hasDict] at hd
theorem DnAll.reads {P:Program} {w:World} {H:Hp} {h:Heap} (ok:HOk P w H h):∀ {vs:List V} {ds:List PyData} {us:List Value},DnAll H vs ds->PyData.hasDictAll ds=false->Vals vs us->∃ as,ReadsAll h us ds as
 | _,_,_,.nil,_,r=>by cases r; exact ⟨_,.nil⟩
 | _,_,_,.cons p t,hd,r=>by
  cases r with
  | cons r1 r2 =>
   simp only [PyData.hasDictAll,Bool.or_eq_false_iff] at hd
   obtain ⟨as,q⟩:=Dn.reads ok p hd.1 r1
   obtain ⟨bs,q2⟩:=DnAll.reads ok t hd.2 r2
   exact ⟨_,.cons q q2⟩
end
section
variable {X:Cx}
theorem Zhu {k:Nat} (hr:Room k X.A):OpR X (compareOp .Eq) (λx y H Q=>∃ d e,Dn H x d/\Dn H y e/\SeqAt.shaped d=true/\SeqAt.shaped e=true/\Q (.bl (PyData.eqv d e)) H):=by
 intro pins s σ H x y v u Q I rx ry h
 obtain ⟨d,e,hd,he,sd,se,q⟩:=h
 obtain ⟨as,r1⟩:=Dn.reads I.hok hd (PyData.hasDict_of_canLay _ (SeqAt.canLay_of_shaped sd)) rx
 obtain ⟨bs,r2⟩:=Dn.reads I.hok he (PyData.hasDict_of_canLay _ (SeqAt.canLay_of_shaped se)) ry
 exact SeqAt.compareEq_shaped r1 r2 sd se hr.units ⟨.bl _,H,I,rfl,q⟩
theorem Zhq {k:Nat} (hr:Room k X.A):OpR X (compareOp .NotEq) (λx y H Q=>∃ d e,Dn H x d/\Dn H y e/\SeqAt.shaped d=true/\SeqAt.shaped e=true/\Q (.bl (!PyData.eqv d e)) H):=by
 intro pins s σ H x y v u Q I rx ry h
 obtain ⟨d,e,hd,he,sd,se,q⟩:=h
 obtain ⟨as,r1⟩:=Dn.reads I.hok hd (PyData.hasDict_of_canLay _ (SeqAt.canLay_of_shaped sd)) rx
 obtain ⟨bs,r2⟩:=Dn.reads I.hok he (PyData.hasDict_of_canLay _ (SeqAt.canLay_of_shaped se)) ry
 exact SeqAt.compareNe_shaped r1 r2 sd se hr.units ⟨.bl _,H,I,rfl,q⟩
theorem Zd3:cH X (.type "range") (λxs H Q=>∃ i j:Int,xs=[.int i,.int j]/\∀ p,H p=none->Q (.ref p) (upd H p (.rng i j))):=by
 intro pins s σ H xs us Q I r h
 obtain ⟨i,j,rfl,q⟩:=h
 cases r with
 | cons r1 rr =>
  cases rr with
  | cons r2 rr =>
   cases rr
   obtain ⟨t,rfl⟩:=r1
   obtain ⟨u,rfl⟩:=r2
   refine call_range_2 ?_
   exact ⟨.ref s.heap.objs.size,_,I.laid (t':=s.toks+1) (λb o e=>Heap.get?_push_of_some _ e) (Nat.le_refl _) (show ObjOk X.prog X.w _ _ _ (.rng i j) from ⟨t,u,s.toks,Heap.get?_push_size _ rfl⟩),rfl,q _ (I.hok.fresh (Nat.le_refl _))⟩
noncomputable def cN (lo:Int) (n:Nat):List V:=(List.range n).map λ(k:Nat)=>V.int (lo+(k:Int))
theorem Zan (lo:Int):∀ (n:Nat) (l:List Value),l.length=n->(∀ (j:Nat) (v:Value),l[j]?=some v->∃ t,v=Value.int (lo+(j:Int)) t)->Vals (cN lo n) l:=by
 intro n
 unfold cN
 induction n with
 | zero =>
  intro l hl _
  have e:l=[]:=List.length_eq_zero_iff.mp hl
  subst e
  exact .nil
 | succ n ih =>
  intro l hl hl2
  obtain ⟨l',x,rfl⟩:∃ l' x,l=l'++[x]:=⟨l.dropLast,l.getLast (by intro e; rw [e] at hl; cases hl),(List.dropLast_concat_getLast _).symm⟩
  have hl':l'.length=n:=by rw [List.length_append] at hl; simpa using hl
  rw [List.range_succ,List.map_append]
  refine Vals.append (ih l' hl' λj v hv=>hl2 j v (by rw [List.getElem?_append_left (List.getElem?_eq_some_iff.mp hv).1]; exact hv)) (.cons ?_ .nil)
  obtain ⟨t,e⟩:=hl2 n x (by rw [List.getElem?_append_right (by omega),hl',Nat.sub_self]; rfl)
  exact ⟨t,e⟩
theorem ZkE (hh:X.A.handled=none):cH X (.type "list") (λxs H Q=>∃ a lo hi,xs=[.ref a]/\H a=some (.rng lo hi)/\-(2 ^ 62)<=lo/\lo < 2 ^ 62/\-(2 ^ 62)<=hi/\hi < 2 ^ 62/\(hi - lo).toNat<=1000/\∀ p,H p=none->Q (.ref p) (upd H p (.lst (cN lo (hi - lo).toNat)))):=by
 intro pins s σ H xs us Q I r h
 obtain ⟨a,lo,hi,rfl,ha,b1,b2,b3,b4,hn,q⟩:=h
 obtain ⟨u,rfl,ru⟩:=cJ r
 cases ru
 obtain ⟨t,u,v,e⟩:=I.hok a _ ha
 have hsz:Builtin.Range.rangeSize lo hi 1=(((hi - lo).toNat:Nat):Int):=by rw [rangeSize_one]; split <;> omega
 refine call_list_range hh (r:=a) (t:=t) (u:=u) (v:=v) e (small_one b1 b2 b3 b4) hsz (by omega) λh' tk acc c' hk ho hacc=>?_
 refine ⟨.ref s.heap.objs.size,_,I.laid hk (Nat.le_refl _) ?_,rfl,q _ (I.hok.fresh (Nat.le_refl _))⟩
 refine ⟨by unfold cN; rw [List.length_map,List.length_range]; exact Nat.le_trans hn (by decide),acc.toList,c',?_,by simpa using ho⟩
 obtain ⟨hl,hit⟩:=hacc
 exact Zan lo _ _ (by simpa using hl) λj v hv=>by
  obtain ⟨t,e⟩:=hit j v (by simpa using hv)
  exact ⟨t,by rw [e,Int.mul_one]⟩
end
structure Def (K:PySem.W.Frag) (mg:Str->Option Value) (x:Str) (st:Stmt) (ps:List Str):Prop where
 ex:∃ f fd,Fun K x x st f fd/\mg x=some (.ref f)/\Binds K fd ps []
structure Callee (P:Program) (w:World) (K:PySem.W.Frag) (mg:Str->Option Value) (base:Heap) (x:Str) (k:Nat) (ps:List Str) (sp:Sp):Prop where
 ex:∃ f fd,FnOk P w K mg base fV k f fd ps sp/\mg x=some (.ref f)/\PySem.W.keepIn K (.ref f)=true/\Binds K fd ps []
section
variable {P:Program} {w:World} {K:PySem.W.Frag} {mg:Str->Option Value} {base:Heap}
theorem Def.ok {x:Str} {st:Stmt} {N ps:List Str} {k:Nat} {sp:Sp} (D:Def K mg x st ps) (S:FnScope N ps (aA st)) (len:∀ vs H Q E,sp vs H Q E->vs.length=ps.length)
  (hbody:∀ (f:Addr) (cdv:Value) (A:Around) (outer:List Env) (s:Shared) (H:Hp) (vs:List V) (Q:VK) (E:XK),Room k (A.deeper (envOfC x (aA st) s.heap.objs.size f cdv))->sp vs H Q E ->
   ∃ t,PSs (fK fV P w K mg base N x (aA st) f cdv A outer s H E).nox (ff st) t/\t { nx:=λ_ H'=>Q .non H',rt:=Q } (start N vs) H):Callee P w K mg base x (k+1) ps sp:=by
 obtain ⟨f,fd,F,hm,hb⟩:=D.ex
 exact ⟨f,fd,F.ok S len λcdv A outer s H vs Q E hr h=>hbody f cdv A outer s H vs Q E hr h,hm,F.kp,hb⟩
theorem ZjM {x:Str} {st:Stmt} {ps:List Str} {h:Heap} {f:Addr} {oc:Value} {od an:Option Addr} {osl:Array (Option Value)} {kV doc pm cdv ct:Value} (X:K.In h) (G:h.Ns mainGlobals mg)
  (a:PySem.W.nsIn K mainGlobals x=some (some (.ref f))) (l:K.lookup f=some ⟨oc,od,.func (PySem.W.fnOf x x (ik st) (ff st) (aA st) .none kV doc pm an cdv ct),osl⟩)
  (c:PySem.W.codeIn K cdv x=true) (k:PySem.W.keepIn K (.ref f)=true)
  (hb:∀ (kV doc pm:Value) (an:Option Addr) (cdv ct:Value) (us:List Value),us.length=ps.length->bindArgs (PySem.W.fnOf x x (ik st) (ff st) (aA st) .none kV doc pm an cdv ct) ⟨us,[]⟩=pure (ps.zip us)):Def K mg x st ps:=by
 have F:=Zi1 (st:=st) l c k
 exact ⟨f,_,F,PySem.W.mg_of X G a,F.binds hb⟩
end
section
variable {X:Cx} {x:Str} {k:Nat} {ps:List Str} {sp:Sp} {e:Expr} {es:List Expr} {t:TA} {p pos:Pos}
theorem Zcc (C:Callee X.prog X.w X.K X.mg X.base x k ps sp) (hr:Room k X.A) (hg:Gl X x) (ha:PA X (e::es) t) (hdb:(x == ("__debug__":Str))=false:=by decide)
  (he:starEach (e::es) X.env=(false,eval e X.env)::starEach es X.env:=by rfl) (hpl:(backTo pos (starEach es X.env)).any (·.1)=false:=by rfl):PE X (.Call (.Name x p) (e::es) [] pos) (Zaz sp [] E0 t):=by
 obtain ⟨f,fd,F,hm,hk,hb⟩:=C.ex
 exact Zhj F hr hg hm hk hb .nil Zhm ha hdb he hpl
theorem Zhh {i:Int} (hg:Gl X x) (h:∃ t,X.mg x=some (.int i t)) (hd:(x == ("__debug__":Str))=false:=by decide):PE X (.Name x pos) (tC (.int i)):=by
 obtain ⟨t,e⟩:=h
 exact Zhg hg e ⟨t,rfl⟩ hd
end
noncomputable def ZfH (t:TS):TS:=λD σ H=>∃ J:St->Hp->Prop,t { D with nx:=J } σ H/\∀ σ' H',J σ' H'->D.nx σ' H'
noncomputable def ZfG (t:TT):TT:=λσ H Q=>∃ J:Bool->Hp->Prop,t σ H J/\∀ b H',J b H'->Q b H'
section
variable {X:Cx} {st:Stmt} {e:Expr}
theorem PS.join {t:TS} (h:PS X st t):PS X st (ZfH t):=by
 rintro pins s σ H D I ⟨J,q,hJ⟩
 refine thn (h pins s σ H _ I q) λf s' z=>?_
 cases f with
 | next=>obtain ⟨σ',H',I',q'⟩:=z; exact ⟨σ',H',I',hJ _ _ q'⟩
 | brk=>exact z
 | cont=>exact z
 | ret u=>exact z
theorem PT.join {t:TT} (h:PT X e t):PT X e (ZfG t):=by
 rintro pins s σ H Q I ⟨J,q,hJ⟩
 refine thn (h pins s σ H _ I q) λb s' ⟨H',I',q'⟩=>⟨H',I',hJ _ _ q'⟩
end
section
variable {H:Hp} {p c:Addr} {a l b:Int}
end
noncomputable def Kept (p:Addr) (H H':Hp):Prop:=∀ b o,H b=some o->b≠p->H' b=some o
theorem Kept.refl {p:Addr} {H:Hp}:Kept p H H:=λ_ _ h _=>h
theorem Kept.pen {p:Addr} {H H':Hp} {o:HO} (a:Kept p H H'):Kept p H (upd H' p o):=λc u h n=>by
 rw [ai n]
 exact a c u h n
theorem Same.new {q:Addr} {H H':Hp} {o:HO} (a:Same H H') (hq:H' q=none):Same H (upd H' q o):=λc u h=>by
 have e:=a c u h
 rw [ai (bZ e hq)]
 exact e
section
variable {prog:Program} {w:World} {A:Around} {E:Value->Shared->Prop} {s:Shared} {r:Addr} {a b c:Int} {t u v:Tok} {n:Nat}
theorem Zkv {Q:List Value->Shared->Prop} (hh:A.handled=none) (hr:IsRange s.heap r a b c t u v) (hs:Builtin.Range.small a b c=true) (hn:Builtin.Range.rangeSize a b c=n) (hl:n<=2 ^ 24)
  (hQ:∀ (h':Heap) (tk:Nat) (acc:Array Value),(∀ b o,s.heap.get? b=some o->h'.get? b=some o)->ItemsOf (λi v=>∃ t,v=.int (a+i * c) t) acc n->Q acc.toList { s with heap:=h',toks:=tk }):wpAny (model prog w) A (collect (.ref r)) Q E s:=by
 unfold collect; apply wpAny_bind; apply wpAny_runValue; refine codeAny_builtin F.entry_proto_collect ?_
 rw [Around.under_plainId F.plain_proto_collect _]
 show wpAny _ A.in1 (newList [] >>= λz=>again (.builtin "list.__iadd__" ⟨[z,.ref r],[]⟩)) _ _ s
 refine wpAny_bind (wpAny_newObj_type (wpAny_pure ⟨plainId_quiet F.plain_list_iadd _,codeAny_builtin F.entry_list_iadd ?_⟩))
 rw [Around.under_plainId F.plain_list_iadd _]
 show wpAny _ A.in1 (Builtin.List.listExtendWith (.ref s.heap.objs.size) (.ref r) (.ref s.heap.objs.size)) _ _ { s with heap:=s.heap.push { cls:=.type "list",data:=.seq ([]:List Value).toArray } }
 let R:Result->Shared->Prop:=λz s'=>match z with
  | .ok (.ret v)=>wpAny (model prog w) A (match v with
   | .ref q=>(do match (<- load q).data with
    | .seq xs _=>pure xs.toList
    | _=>unsupported "internal:collect")
   | _=>unsupported "internal:collect") Q E s'
  | .ok _=>False
  | .error e=>E e s'
 refine wpAny_extend_range (R:=R) (s:={ s with heap:=s.heap.push { cls:=.type "list",data:=.seq ([]:List Value).toArray } }) hh (Heap.get?_push_of_some _ hr) hs hn hl _ _ _ (show (s.heap.push { cls:=.type "list",data:=.seq ([]:List Value).toArray }).get? s.heap.objs.size=some { cls:=.type "list",data:=.seq #[] } from Heap.get?_push_size _ rfl) λh' tk acc c' hk hS hacc=>?_
 show wpAny _ A (load s.heap.objs.size >>= _) _ _ { s with heap:=h',toks:=tk }
 exact wpAny_bind (wpAny_load hS (wpAny_pure (hQ h' tk acc (λb o e=>hk b o (Nat.ne_of_lt (Heap.lt_size e)) (Heap.get?_push_of_some _ e)) hacc)))
theorem Zfm {Q:Value->Shared->Prop} (hh:A.handled=none) (hr:IsRange s.heap r a b c t u v) (hs:Builtin.Range.small a b c=true) (hn:Builtin.Range.rangeSize a b c=n) (hl:n<=2 ^ 24)
  (hQ:∀ (h':Heap) (tk:Nat) (acc:Array Value),(∀ b o,s.heap.get? b=some o->h'.get? b=some o)->ItemsOf (λi v=>∃ t,v=.int (a+i * c) t) acc n->Q (.ref h'.objs.size) { s with heap:=h'.push { cls:=.type "tuple",data:=.seq acc },toks:=tk }) :
  wpAny (model prog w) A (call (.type "tuple") [.ref r]) Q E s:=by
 refine callType_codes (Q₁:=λz s1=>s1.TypeIs z "tuple"/\Q z s1) F.called_tuple (F.typeCall_tuple_1 _) F.entry_object_init ?_ λz s1 h1=>?_
 ·apply codeAny_of_tree
  show wpAny _ A.in1.in1 (do checkBuiltinCall "tuple.__new__" ⟨[.type "tuple",.ref r],[]⟩; again (.builtin "tuple.__new__" ⟨[.type "tuple",.ref r],[]⟩)) _ _ s
  refine wpAny_bind (wpAny_of_eq (F.newCall_tuple_1 _) (wpAny_pure ⟨plainId_quiet F.plain_tuple_new _,codeAny_builtin F.entry_tuple_new ?_⟩))
  rw [Around.under_plainId F.plain_tuple_new _]
  have f1:=sub_tuple_self; have f2:=init_tuple_lookup; have f3:=madeHere_tuple
  have fT:s.TypeIs (.ref r) "range":=⟨_,hr,rfl⟩
  wp_walk using wpAny_typeOf fT,Zkv (A:=A.in1.in1) hh hr hs hn hl
  intro h' tk acc hk hacc
  show wpAny _ _ (Builtin.Tuple.tupleExact acc.toList.toArray >>= λz=>ret z) _ _ _
  unfold Builtin.Tuple.tupleExact
  have e:acc.toList.toArray=acc:=by simp
  rw [e]
  refine wpAny_bind (wpAny_newObj_type (wpAny_pure ⟨⟨_,Heap.get?_push_size _ rfl,rfl⟩,hQ h' tk acc hk hacc⟩) ?_)
  show acc.size<=sizeLine
  rw [hacc.1,sizeLine_eq]
  exact hl
 ·exact ⟨h1.1,F.args_object_init_2 z _,object_init_meets F.called_tuple.init.lookup F.called_tuple.made (by decide) prog w A.in1 _ s1 ⟨h1.1,rfl,h1.2⟩⟩
end
section
variable {X:Cx}
theorem ZkB (hh:X.A.handled=none):cH X (.type "tuple") (λxs H Q=>∃ a lo hi,xs=[.ref a]/\H a=some (.rng lo hi)/\-(2 ^ 62)<=lo/\lo < 2 ^ 62/\-(2 ^ 62)<=hi/\hi < 2 ^ 62/\(hi - lo).toNat<=1000/\∀ p,H p=none->Q (.ref p) (upd H p (.tup (cN lo (hi - lo).toNat)))):=by
 intro pins s σ H xs us Q I r h
 obtain ⟨a,lo,hi,rfl,ha,b1,b2,b3,b4,hn,q⟩:=h
 obtain ⟨u,rfl,ru⟩:=cJ r
 cases ru
 obtain ⟨t,u,v,e⟩:=I.hok a _ ha
 have hsz:Builtin.Range.rangeSize lo hi 1=(((hi - lo).toNat:Nat):Int):=by rw [rangeSize_one]; split <;> omega
 refine Zfm hh (r:=a) (t:=t) (u:=u) (v:=v) e (small_one b1 b2 b3 b4) hsz (by omega) λh' tk acc hk hacc=>?_
 have I1:Inv X pins σ H { s with heap:=h',toks:=tk }:=I.kept hk
 have hv:Vals (cN lo (hi - lo).toNat) acc.toList:=Zan lo _ _ (by simpa using hacc.1) λj v hv=>by
  obtain ⟨t,e⟩:=hacc.2 j v (by simpa using hv)
  exact ⟨t,by rw [e,Int.mul_one]⟩
 have hz:(cN lo (hi - lo).toNat).length<=sizeLine:=by
  unfold cN
  rw [List.length_map,List.length_range]
  exact Nat.le_trans hn (by decide)
 refine ⟨.ref h'.objs.size,_,I1.laid (h':=h'.push { cls:=.type "tuple",data:=.seq acc }) (t':=tk) (λb o e=>Heap.get?_push_of_some _ e) (Nat.le_refl _) (show ObjOk X.prog X.w _ _ _ (.tup (cN lo (hi - lo).toNat)) from ⟨hz,acc.toList,hv,⟨_,Heap.get?_push_size _ rfl,rfl,0,by simp⟩⟩),rfl,q _ (I1.hok.fresh (Nat.le_refl _))⟩
theorem ZhI:fillsNumberSlot (.type "tuple") "mul"=pure false :=
 PySem.fillsNumberSlot_seq (id:="tuple.__mul__") (r:=some (.builtin "tuple.__rmul__")) PySem.F.slot_tuple_mul.lookup (by decide +kernel) PySem.F.slot_tuple_rmul.lookup (by decide +kernel)
theorem Zgz:seqRepeat? (.type "tuple")=pure (some (.builtin "tuple.__mul__")):=by
 unfold seqRepeat?
 rw [PySem.seqSlot_of (T:="tuple") (name:="__mul__") (id:="tuple.__mul__") PySem.F.slot_tuple_mul.lookup (by decide +kernel),PySem.seqSlot_of (T:="tuple") (name:="__rmul__") (id:="tuple.__rmul__") PySem.F.slot_tuple_rmul.lookup (by decide +kernel)]; rfl
theorem Zgy (x:Int) (t:Tok) (l:Addr) (items:Array Value) (n:Nat) (dd:Option Addr) (sl:Array (Option Value)) :
  Meets (Builtin.«int.__rmul__» ⟨[.int x t,.ref l],[]⟩) (λ_ R s=>s.heap.get? l=some { cls:=.type "tuple",dict:=dd,data:=.seq items n,slots:=sl }/\R (.ok (.ret Value.notImplemented)) s):=by
 refine .of_wp λprog w A R s h=>?_
 obtain ⟨hp,g,d,tk,os⟩:=s
 obtain ⟨hl,h⟩:=h
 wp_walk
 exact ⟨_,rfl,h⟩
theorem ZhQ (x:Int) (t:Tok) (l:Addr) (items:Array Value) (n:Nat) (dd:Option Addr) (sl:Array (Option Value)) (h1:1 < x) (h2:x<=1000) (h3:items.isEmpty=false) (h4:items.size<=1000) :
  Meets (Builtin.«tuple.__mul__» ⟨[.ref l,.int x t],[]⟩) (λ_ R s=>s.heap.get? l=some { cls:=.type "tuple",dict:=dd,data:=.seq items n,slots:=sl } /\
   R (.ok (.ret (.ref s.heap.objs.size))) { s with heap:=s.heap.push { cls:=.type "tuple",data:=.seq ((List.replicate x.toNat items).foldl (·++·) #[]) } }):=by
 refine .of_wp λprog w A R s h=>?_
 obtain ⟨hp,g,d,tk,os⟩:=s
 obtain ⟨hl,h⟩:=h
 have hp0:0<=(items.size:Int) * x:=Int.mul_nonneg (by omega) (by omega)
 have hp1:(items.size:Int) * x<=1000 * 1000:=Int.mul_le_mul (by omega) h2 (by omega) (by omega)
 have hne:items.size≠0:=λe=>by simp [Array.isEmpty,e] at h3
 wp_walk
 refine wpAny_ite_split (λz=>absurd z (by simp; omega)) (λ_=>?_)
 refine wpAny_bind ?_
 unfold Builtin.Tuple.tupleItemsOf
 refine wpAny_bind (wpAny_seqItems hl rfl (wpAny_pure ?_))
 refine wpAny_ite_split (λz=>absurd z (by rw [h3]; simp; omega)) (λ_=>?_)
 refine wpAny_ite_split (λz=>absurd z (by rw [h3]; simp; omega)) (λ_=>?_)
 refine wpAny_ite_split (λz=>absurd z (by omega)) (λ_=>?_)
 refine wpAny_ite_split (λz=>absurd z (by unfold Builtin.Tuple.tupleTooMany; rw [sizeLine_eq]; simp; omega)) (λ_=>?_)
 unfold Builtin.Tuple.tupleExact
 have hlen:∀ k:Nat,((List.replicate k items).foldl (·++·) #[]).size=k * items.size:=λk=>by
  have key:∀ (k:Nat) (acc:Array Value),((List.replicate k items).foldl (·++·) acc).size=acc.size+k * items.size:=by
   intro k
   induction k with
   | zero=>intro acc; simp
   | succ k ih =>
    intro acc
    rw [List.replicate_succ,List.foldl_cons,ih,Array.size_append,Nat.succ_mul]
    omega
  simpa using key k #[]
 refine wpAny_bind (wpAny_newObj_type (wpAny_pure ⟨_,rfl,h⟩) ?_)
 show ((List.replicate x.toNat items).foldl (·++·) #[]).size<=sizeLine
 rw [hlen,sizeLine_eq]
 have hx:x.toNat<=1000:=by omega
 exact Nat.le_trans (Nat.mul_le_mul hx h4) (by decide)
noncomputable def ZbC (K:PySem.W.Frag):R2:=λx y H Q=>∃ a k xs,x=.ref a/\y=.int k/\SqT K H a xs/\1 < k/\k<=1000/\xs≠[]/\xs.length<=1000/\∀ p,H p=none->Q (.ref p) (upd H p (.tup (List.replicate k.toNat xs).flatten))
theorem Zal {xs:List V} {us:List Value} (r:Vals xs us):∀ k:Nat,Vals (List.replicate k xs).flatten (List.replicate k us).flatten
 | 0=>.nil
 | k+1=>by
  rw [List.replicate_succ,List.replicate_succ,List.flatten_cons,List.flatten_cons]
  exact r.append (Zal r k)
theorem Zho:OpR X (binaryOp .Mult) (ZbC X.K):=by
 intro pins s σ H x y v u Q I rx ry h
 obtain ⟨a,k,xs,rfl,rfl,hq,h1,h2,hne,hl,q⟩:=h
 cases rx
 obtain ⟨t,rfl⟩:=ry
 obtain ⟨its,rv,p,hz⟩:=I.tuple hq
 obtain ⟨o,ho,hc,n,hd⟩:=p
 obtain ⟨oc,od,odd,osl⟩:=o
 have hc':oc=.type "tuple":=hc
 have hd':odd=.seq its.toArray n:=hd
 subst hc' hd'
 have hlen:=rv.length
 have hemp:its.toArray.isEmpty=false:=by
  cases its with
  | nil=>cases rv; exact absurd rfl hne
  | cons i r=>rfl
 have efl:(List.replicate k.toNat its.toArray).foldl (·++·) #[]=(List.replicate k.toNat its).flatten.toArray:=by
  have key:∀ (k:Nat) (acc:Array Value),(List.replicate k its.toArray).foldl (·++·) acc=acc++(List.replicate k its).flatten.toArray:=by
   intro k
   induction k with
   | zero=>intro acc; simp
   | succ k ih =>
    intro acc
    rw [List.replicate_succ,List.foldl_cons,ih,List.replicate_succ,List.flatten_cons]
    simp
  simpa using key k.toNat #[]
 refine wpAny_binaryOp_repeat_ref (T:="tuple") (U:="int") (by decide) ⟨_,ho,rfl⟩ (λs'=>typeIs_int s' k t) ZhI PySem.F.fills_int_mul PySem.F.slot_int_rmul Zgz PySem.F.slot_int_index.lookup ?_
 refine call_meets PySem.F.slot_int_rmul (typeIs_int s k t) PySem.F.entry_int_rmul (PySem.F.args_int_rmul_2 _ _) (Zgy k t a its.toArray n od osl) ⟨ho,rfl,⟨_,ho,rfl⟩,?_⟩
 refine call_meets PySem.F.slot_tuple_mul ⟨_,ho,rfl⟩ PySem.F.entry_tuple_mul (PySem.F.args_tuple_mul_2 _ _) (ZhQ k t a its.toArray n od osl h1 h2 hemp (by rw [List.size_toArray]; omega)) ⟨ho,?_⟩
 rw [efl]
 have hzz:(List.replicate k.toNat xs).flatten.length<=sizeLine:=by
  have hx:k.toNat<=1000:=by omega
  have e:(List.replicate k.toNat xs).flatten.length=k.toNat * xs.length:=by simp
  rw [e,sizeLine_eq]
  exact Nat.le_trans (Nat.mul_le_mul hx hl) (by decide)
 exact ⟨.ref s.heap.objs.size,_,I.laid (t':=s.toks) (λb o e=>Heap.get?_push_of_some _ e) (Nat.le_refl _) (show ObjOk X.prog X.w _ _ _ (.tup (List.replicate k.toNat xs).flatten) from ⟨hzz,_,Zal rv k.toNat,IsTup.new _ _⟩),rfl,q _ (I.hok.fresh (Nat.le_refl _))⟩
end
theorem ZcC {n:Nat} (h:n < 2 ^ 1900):n.log2 < 1900:=by
 by_cases h0:n=0
 ·rw [h0]; decide
 ·exact (Nat.log2_lt h0).mpr h
theorem Zf4 {i:Int} (h:i.natAbs < 2 ^ 1900):(PyData.int i).shown.length<=1901:=by
 have e:=int_text_length_le (k:=1900) (by decide) (ZcC h)
 have q:(Str.ofString (toString i)).length<=1901:=by rw [PySem.ofString_length]; exact e
 simpa [PyData.shown] using q
theorem ZaL:∀ (ns:List Int),(∀ n∈ns,n.natAbs < 2 ^ 1900)->((PyData.shownAll (ns.map PyData.int)).map (·.length)).sum<=ns.length * 1901/\(PyData.shownAll (ns.map PyData.int)).length=ns.length
 | [],_=>⟨by simp [PyData.shownAll],rfl⟩
 | n::r,h=>by
  obtain ⟨h1,h2⟩:=ZaL r λx hx=>h x (List.mem_cons_of_mem _ hx)
  have h3:=Zf4 (h n List.mem_cons_self)
  rw [List.map_cons,PyData.shownAll,List.map_cons,List.sum_cons,List.length_cons,List.length_cons,h2,Nat.succ_mul]
  exact ⟨by omega,rfl⟩
theorem ZaM:∀ (ns:List Int),(∀ n∈ns,n.natAbs < 2 ^ 1900)->PyData.showableAll (ns.map PyData.int)=true
 | [],_=>rfl
 | n::r,h=>by
  rw [List.map_cons,PyData.showableAll,ZaM r λx hx=>h x (List.mem_cons_of_mem _ hx),Bool.and_true]
  have q:=ZcC (h n List.mem_cons_self)
  simp only [PyData.showable,decide_eq_true_eq]
  omega
noncomputable def aq (lo:Int) (n:Nat):List Int:=(List.range n).map λ(k:Nat)=>lo+(k:Int)
theorem ZgD (lo:Int) (n:Nat):cN lo n=(aq lo n).map V.int:=by
 unfold cN aq
 rw [List.map_map]
 rfl
theorem dA (lo:Int) (n:Nat):(aq lo n).length=n:=by
 unfold aq
 rw [List.length_map,List.length_range]
theorem gb {lo x:Int} {n:Nat} (h:x∈aq lo n):lo<=x/\x < lo+n:=by
 unfold aq at h
 obtain ⟨k,hk,rfl⟩:=List.mem_map.mp h
 have:=List.mem_range.mp hk
 omega
noncomputable def CMulG (i j:Int):Prop:=i.natAbs < 2 ^ 8000/\j.natAbs < 2 ^ 8000
noncomputable def ZeX (i j:Int):Prop:=j≠0/\j.natAbs < 2 ^ 8000
theorem Zed {x:Int} (h:x.natAbs < 2 ^ 8000):Builtin.Int.intBits x<=8000:=by
 unfold Builtin.Int.intBits
 split
 ·exact Nat.zero_le _
 ·rename_i hx
  have h0:x.natAbs≠0:=by
   intro z
   have e:x=0:=Int.natAbs_eq_zero.mp z
   rw [e] at hx
   exact hx rfl
  exact (Nat.log2_lt h0).mpr h
theorem CMulG.ok {i j:Int} (h:CMulG i j):IntMulOk i j:=by
 have h1:=Zed h.1
 have h2:=Zed h.2
 unfold IntMulOk
 have e:Builtin.Int.intTooBig ((Builtin.Int.intBits i+Builtin.Int.intBits j:Nat):Int)=false:=by
  unfold Builtin.Int.intTooBig
  refine decide_eq_false ?_
  have hb:((16000:Nat):Int)<=(bitsLine:Int):=by decide
  omega
 intro z
 rw [Bool.and_eq_true] at z
 have z2:Builtin.Int.intTooBig ((Builtin.Int.intBits i+Builtin.Int.intBits j:Nat):Int)=true:=z.2
 rw [e] at z2
 cases z2
section
variable {X:Cx}
theorem Zhs:OpR X (binaryOp .Mult) (rI CMulG λi j=>.int (i * j)):=fw λ_ _ _ _ _ _ _ hc q=>mul_int q hc.ok
theorem ki:OpR X (binaryOp .FloorDiv) (rI ZeX λi j=>.int (i.fdiv j)):=fw λi j _ _ _ _ _ hc q=>by
 refine floordiv_int hc.1 q (.inl (PyProof.noPylong_of_log2 ?_))
 by_cases h0:j.natAbs=0
 ·exact absurd (Int.natAbs_eq_zero.mp h0) hc.1
 ·exact Nat.lt_trans ((Nat.log2_lt h0).mpr hc.2) (by decide)
end
end L2
namespace Gc
noncomputable def fI (a b:Int):Int:=((Nat.gcd a.natAbs b.natAbs:Nat):Int)
noncomputable def den (t b:Int):Int:=if b < 0 then -fI t b else fI t b
noncomputable def eZ (t b:Int):Int:=t.fdiv (den t b)
noncomputable def eG (t b:Int):Int:=b.fdiv (den t b)
theorem oP {t b:Int} (h:b≠0):0 < Nat.gcd t.natAbs b.natAbs:=Nat.gcd_pos_of_pos_right _ (by omega)
theorem sN {t b:Int} (h:b≠0):den t b≠0:=by
 have:=oP (t:=t) h
 unfold den fI
 split <;> omega
theorem sO (t b:Int):(den t b).natAbs=Nat.gcd t.natAbs b.natAbs:=by
 unfold den fI
 split <;> omega
theorem Zh5 {t b:Int} (h:b≠0):t=den t b * eZ t b/\b=den t b * eG t b/\0 < eG t b/\Nat.gcd (eZ t b).natAbs (eG t b).natAbs=1:=by
 have hd:=sN (t:=t) h
 have ha:=sO t b
 have hg:=oP (t:=t) h
 have d1:den t b ∣ t:=Int.natAbs_dvd_natAbs.mp (by rw [ha]; exact Nat.gcd_dvd_left _ _)
 have d2:den t b ∣ b:=Int.natAbs_dvd_natAbs.mp (by rw [ha]; exact Nat.gcd_dvd_right _ _)
 obtain ⟨x,hx⟩:=d1
 obtain ⟨y,hy⟩:=d2
 have e1:eZ t b=x:=by
  show t.fdiv (den t b)=x
  generalize den t b=d at hd hx
  rw [hx]
  exact Int.mul_fdiv_cancel_left _ hd
 have e2:eG t b=y:=by
  show b.fdiv (den t b)=y
  generalize den t b=d at hd hy
  rw [hy]
  exact Int.mul_fdiv_cancel_left _ hd
 rw [e1,e2]
 refine ⟨hx,hy,?_,?_⟩
 ·have hb:(0 < b/\0 < den t b)\/(b < 0/\den t b < 0):=by
   unfold den fI
   split <;> omega
  rcases hb with ⟨p,q⟩ | ⟨p,q⟩
  ·rcases (show 0 < y\/y<=0 by omega) with z | z
   ·exact z
   ·exfalso
    have:=Int.mul_nonneg (Int.le_of_lt q) (show 0<=-y by omega)
    rw [Int.mul_neg,<- hy] at this
    omega
  ·rcases (show 0 < y\/y<=0 by omega) with z | z
   ·exact z
   ·exfalso
    have:=Int.mul_nonneg (show 0<=-den t b by omega) (show 0<=-y by omega)
    rw [Int.neg_mul_neg,<- hy] at this
    omega
 ·have h1:t.natAbs=Nat.gcd t.natAbs b.natAbs * x.natAbs:=by
   have:=congrArg Int.natAbs hx
   rw [Int.natAbs_mul,ha] at this
   exact this
  have h2:b.natAbs=Nat.gcd t.natAbs b.natAbs * y.natAbs:=by
   have:=congrArg Int.natAbs hy
   rw [Int.natAbs_mul,ha] at this
   exact this
  have h3:Nat.gcd t.natAbs b.natAbs=Nat.gcd t.natAbs b.natAbs * Nat.gcd x.natAbs y.natAbs:=by
   rw [<- Nat.gcd_mul_left,<- h1,<- h2]
  have h4:Nat.gcd t.natAbs b.natAbs * 1=Nat.gcd t.natAbs b.natAbs * Nat.gcd x.natAbs y.natAbs:=by rw [Nat.mul_one]; exact h3
  exact (Nat.eq_of_mul_eq_mul_left hg h4).symm
theorem Zh7 {t b:Int} (h:b≠0):(eZ t b).natAbs<=t.natAbs/\(eG t b).natAbs<=b.natAbs:=by
 obtain ⟨h1,h2,_,_⟩:=Zh5 (t:=t) h
 have hg:=oP (t:=t) h
 have ha:=sO t b
 constructor
 ·have e:=congrArg Int.natAbs h1
  rw [Int.natAbs_mul,ha] at e
  rw [e]
  exact Nat.le_mul_of_pos_left _ hg
 ·have e:=congrArg Int.natAbs h2
  rw [Int.natAbs_mul,ha] at e
  rw [e]
  exact Nat.le_mul_of_pos_left _ hg
end Gc
namespace L2
open PySem PySem.Spec PyProof.Rows
inductive Tr (α:Type) where
 | ret (a:α)
 | draw (n:Int) (k:Int->Tr α)
 | fail
namespace Tr
variable {α β γ:Type}
noncomputable def bind:Tr α->(α->Tr β)->Tr β
 | .ret a,f=>f a
 | .draw n k,f=>.draw n λr=>(k r).bind f
 | .fail,_=>.fail
@[simp] theorem ret_bind (a:α) (f:α->Tr β):(Tr.ret a).bind f=f a:=rfl
@[simp] theorem draw_bind (n:Int) (k:Int->Tr α) (f:α->Tr β):(Tr.draw n k).bind f=.draw n λr=>(k r).bind f:=rfl
@[simp] theorem fail_bind (f:α->Tr β):(Tr.fail:Tr α).bind f=.fail:=rfl
@[simp] theorem bind_assoc:∀ (t:Tr α) (f:α->Tr β) (g:β->Tr γ),(t.bind f).bind g=t.bind λa=>(f a).bind g
 | .ret a,f,g=>rfl
 | .draw n k,f,g=>by simp only [draw_bind]; congr 1; funext r; exact bind_assoc (k r) f g
 | .fail,f,g=>rfl
noncomputable def of:Option α->Tr α
 | some a=>.ret a
 | none=>.fail
@[simp] theorem of_some (a:α):Tr.of (some a)=.ret a:=rfl
@[simp] theorem of_none:Tr.of (none:Option α)=.fail:=rfl
noncomputable def ok:Tr α->Nat->(Nat->α->Prop)->Prop
 | .ret a,m,Q=>Q m a
 | .draw n k,m,Q=>m < 400000/\0 < n/\n < 1073741824/\∀ r,0<=r->r < n->(k r).ok (m+1) Q
 | .fail,_,_=>False
theorem ok_mono:∀ {t:Tr α} {m:Nat} {Q Q':Nat->α->Prop},t.ok m Q->(∀ m a,Q m a->Q' m a)->t.ok m Q'
 | .ret a,m,_,_,h,hq=>hq m a h
 | .draw n k,m,_,_,⟨h1,h2,h3,h⟩,hq=>⟨h1,h2,h3,λr h0 h1=>ok_mono (h r h0 h1) hq⟩
theorem ok_bind:∀ {t:Tr α} {f:α->Tr β} {m:Nat} {Q:Nat->β->Prop},(t.bind f).ok m Q ↔ t.ok m λm' a=>(f a).ok m' Q
 | .ret a,f,m,Q=>Iff.rfl
 | .draw n k,f,m,Q=>by
  show (_/\_/\_/\∀ r,_) ↔ (_/\_/\_/\∀ r,_)
  refine and_congr_right λ_=>and_congr_right λ_=>and_congr_right λ_=>forall_congr' λr=>forall_congr' λ_=>forall_congr' λ_=>ok_bind
 | .fail,f,m,Q=>Iff.rfl
theorem ok_of {o:Option α} {m:Nat} {Q:Nat->α->Prop} (h:(Tr.of o).ok m Q):∃ a,o=some a/\Q m a:=by
 cases o with
 | none=>exact h.elim
 | some a=>exact ⟨a,rfl,h⟩
noncomputable def all:Tr α->Nat->(α->Prop)->Prop
 | .ret a,_,P=>P a
 | .draw w k,n+1,P=>0 < w/\w < 1073741824/\∀ r,0<=r->r < w->(k r).all n P
 | .draw _ _,0,_=>False
 | .fail,_,_=>False
theorem all_ok:∀ {t:Tr α} {n m:Nat} {P:α->Prop},t.all n P->m+n<=400000->t.ok m λm' a=>m'<=m+n/\P a
 | .ret a,n,m,P,h,hm=>⟨by omega,h⟩
 | .draw w k,n+1,m,P,⟨h1,h2,h⟩,hm=>⟨by omega,h1,h2,λr a b=>ok_mono (all_ok (h r a b) (by omega)) λm' x hz0=>by
  obtain ⟨p,q⟩:=hz0
  exact ⟨by omega,q⟩⟩
theorem all_mono:∀ {t:Tr α} {n n':Nat} {P P':α->Prop},t.all n P->n<=n'->(∀ a,P a->P' a)->t.all n' P'
 | .ret a,n,n',P,P',h,hn,hp=>hp a h
 | .draw w k,n+1,n'+1,P,P',⟨h1,h2,h⟩,hn,hp=>⟨h1,h2,λr a b=>all_mono (h r a b) (by omega) hp⟩
 | .draw w k,n+1,0,P,P',h,hn,hp=>by omega
theorem all_bind:∀ {t:Tr α} {f:α->Tr β} {n n':Nat} {P:α->Prop} {P':β->Prop},t.all n P->(∀ a,P a->(f a).all n' P')->(t.bind f).all (n+n') P'
 | .ret a,f,n,n',P,P',h,hf=>all_mono (hf a h) (by omega) λ_ x=>x
 | .draw w k,f,n+1,n',P,P',⟨h1,h2,h⟩,hf=>by
  have e:n+1+n'=(n+n')+1:=by omega
  rw [e]
  exact ⟨h1,h2,λr a b=>all_bind (h r a b) hf⟩
end Tr
noncomputable abbrev Sub (G H:Hp):Prop:=∀ b o,G b=some o->H b=some o
structure Pk where
 is:HO->Hp->Nat->Prop
 mono:∀ {o:HO} {G G':Hp} {m:Nat},Sub G G'->is o G m->is o G' m
structure Wd (PK:Pk) (pa:Addr) (m:Nat) (G H:Hp):Prop where
 sub:Sub G H
 gpa:G pa=none
 pen:∃ o,H pa=some o/\PK.is o G m
structure Stp (pa:Addr) (G H G' H':Hp):Prop where
 gs:Sub G G'
 gn:∀ b o,G' b=some o->G b=some o\/H b=none\/(b≠pa/\∃ xs,H b=some (.tup xs))
 hk:∀ b o,H b=some o->b≠pa->H' b=some o
theorem Stp.refl {pa:Addr} {G H:Hp}:Stp pa G H G H:=⟨λ_ _ h=>h,λ_ _ h=>.inl h,λ_ _ h _=>h⟩
theorem Stp.trans {pa:Addr} {G H G1 H1 G2 H2:Hp} (a:Stp pa G H G1 H1) (b:Stp pa G1 H1 G2 H2) (hp:∃ o,H1 pa=some o):Stp pa G H G2 H2:=by
 refine ⟨λc o h=>b.gs c o (a.gs c o h),λc o h=>?_,λc o h n=>b.hk c o (a.hk c o h n) n⟩
 rcases b.gn c o h with z | z | ⟨hc,xs,z⟩
 ·exact a.gn c o z
 ·refine .inr (.inl ?_)
  cases e:H c with
  | none=>rfl
  | some u =>
   by_cases hc:c=pa
   ·subst hc
    obtain ⟨o',z'⟩:=hp
    rw [z'] at z; cases z
   ·rw [a.hk c u e hc] at z; cases z
 ·cases e:H c with
  | none=>exact .inr (.inl rfl)
  | some u =>
   rw [a.hk c u e hc] at z
   cases z
   exact .inr (.inr ⟨hc,xs,rfl⟩)
section
variable {PK:Pk} {pa:Addr} {m:Nat} {G H:Hp}
theorem Wd.some (w:Wd PK pa m G H):∃ o,H pa=some o:=let ⟨o,h,_⟩:=w.pen; ⟨o,h⟩
theorem Wd.ne (w:Wd PK pa m G H) {p:Addr} (hp:H p=none):pa≠p:=λe=>by
 obtain ⟨o,h⟩:=w.some
 rw [e,hp] at h; cases h
theorem Sub.new {p:Addr} {o:HO} (hp:G p=none):Sub G (upd G p o):=λb u h=>by rw [ai (bZ h hp)]; exact h
theorem Wd.gnone (w:Wd PK pa m G H) {p:Addr} (hp:H p=none):G p=none:=by
 cases e:G p with
 | none=>rfl
 | some o=>rw [w.sub p o e] at hp; cases hp
theorem Sub.upd2 {p:Addr} {o:HO} (s:Sub G H):Sub (upd G p o) (upd H p o):=λb u h=>by
 by_cases e:b=p
 ·subst e; rw [bf] at h ⊢; exact h
 ·rw [ai e] at h ⊢; exact s b u h
theorem Wd.new (w:Wd PK pa m G H) {p:Addr} {o:HO} (hp:H p=none):Wd PK pa m (upd G p o) (upd H p o)/\Stp pa G H (upd G p o) (upd H p o):=by
 have hg:=w.gnone hp
 have hne:=w.ne hp
 refine ⟨⟨w.sub.upd2,by rw [ai hne]; exact w.gpa,?_⟩,⟨Sub.new hg,λb u h=>?_,λb u h _=>by rw [ai (bZ h hp)]; exact h⟩⟩
 ·obtain ⟨u,h,q⟩:=w.pen
  exact ⟨u,by rw [ai hne]; exact h,PK.mono (Sub.new hg) q⟩
 ·by_cases e:b=p
  ·subst e; exact .inr (.inl hp)
  ·rw [ai e] at h; exact .inl h
theorem Wd.own (w:Wd PK pa m G H) {p:Addr} {o:HO} (hp:H p=none):Wd PK pa m G (upd H p o)/\Stp pa G H G (upd H p o):=by
 have hne:=w.ne hp
 refine ⟨⟨λb u h=>by rw [ai (bZ (w.sub b u h) hp)]; exact w.sub b u h,w.gpa,?_⟩,⟨λ_ _ h=>h,λ_ _ h=>.inl h,λb u h _=>by rw [ai (bZ h hp)]; exact h⟩⟩
 obtain ⟨u,h,q⟩:=w.pen
 exact ⟨u,by rw [ai hne]; exact h,q⟩
theorem Wd.freeze (w:Wd PK pa m G H) {p:Addr} {o:HO} (hp:H p=Option.some o) (hg:G p=none) (hne:pa≠p):Wd PK pa m (upd G p o) H:=by
 refine ⟨λb u h=>?_,by rw [ai hne]; exact w.gpa,?_⟩
 ·by_cases e:b=p
  ·subst e; rw [bf] at h; rw [hp]; exact h
  ·rw [ai e] at h; exact w.sub b u h
 ·obtain ⟨u,h,q⟩:=w.pen
  exact ⟨u,h,PK.mono (Sub.new hg) q⟩
noncomputable def Kn (PK:Pk) (pa:Addr) (m:Nat) (G H:Hp) (x:PyData) (Q:VK):Prop:=∀ v G' H',Stp pa G H G' H'->Wd PK pa m G' H'->Dn G' v x->Q v H'
variable {x:PyData} {Q:VK} {v:V} {vs:List V} {ds:List PyData} {p:Addr}
theorem Kn.here (k:Kn PK pa m G H x Q) (w:Wd PK pa m G H) (d:Dn G v x):Q v H:=k v G H .refl w d
theorem Kn.tup (k:Kn PK pa m G H (.tuple ds) Q) (w:Wd PK pa m G H) (d:DnAll G vs ds) (hp:H p=none):Q (.ref p) (upd H p (.tup vs)):=by
 obtain ⟨w1,s1⟩:=w.new (o:=.tup vs) hp
 exact k _ _ _ s1 w1 (.tup bf (DnAll.mono s1.gs d))
theorem Kn.lst (k:Kn PK pa m G H (.list ds) Q) (w:Wd PK pa m G H) (d:DnAll G vs ds) (hp:H p=none):Q (.ref p) (upd H p (.lst vs)):=by
 obtain ⟨w1,s1⟩:=w.new (o:=.lst vs) hp
 exact k _ _ _ s1 w1 (.lst bf (DnAll.mono s1.gs d))
theorem Kn.later {G1 H1:Hp} (k:Kn PK pa m G H x Q) (s:Stp pa G H G1 H1) (hp:∃ o,H1 pa=Option.some o):Kn PK pa m G1 H1 x Q:=λv G' H' s' w d=>k v G' H' (s.trans s' hp) w d
end
inductive Sl where
 | un | d (x:PyData) | own (xs:List PyData) | pen | dic (kvs:List (Int×PyData)) | fn (a:Addr) | dip (kvs:List (List Int×PyData))
inductive KD (G:Hp):List (ak×V)->List (Int×PyData)->Prop
 | nil:KD G [] []
 | cons {i:Int} {v:V} {d:PyData} {ks:List (ak×V)} {kvs:List (Int×PyData)}:Dn G v d->KD G ks kvs->KD G ((.inl i,v)::ks) ((i,d)::kvs)
theorem KD.mono {G G':Hp} (s:Sub G G') {ks:List (ak×V)} {kvs:List (Int×PyData)} (h:KD G ks kvs):KD G' ks kvs:=by
 induction h with
 | nil=>exact .nil
 | cons h _ ih=>exact .cons (h.mono s) ih
noncomputable abbrev bi (k:List Int×V):List ak×V:=(k.1.map Sum.inl,k.2)
inductive KP (G:Hp):List (List Int×V)->List (List Int×PyData)->Prop
 | nil:KP G [] []
 | cons {i:List Int} {v:V} {d:PyData} {ks:List (List Int×V)} {kvs:List (List Int×PyData)}:Dn G v d->KP G ks kvs->KP G ((i,v)::ks) ((i,d)::kvs)
theorem KP.mono {G G':Hp} (s:Sub G G') {ks:List (List Int×V)} {kvs:List (List Int×PyData)} (h:KP G ks kvs):KP G' ks kvs:=by
 induction h with
 | nil=>exact .nil
 | cons h _ ih=>exact .cons (h.mono s) ih
inductive SlOk (pa:Addr) (H₀ G H:Hp):Option V->Sl->Prop
 | un {o:Option V}:SlOk pa H₀ G H o .un
 | d {v:V} {x:PyData}:Dn G v x->SlOk pa H₀ G H (some v) (.d x)
 | own {p:Addr} {vs:List V} {xs:List PyData}:H p=some (.lst vs)->G p=none->H₀ p=none->DnAll G vs xs->SlOk pa H₀ G H (some (.ref p)) (.own xs)
 | pen:SlOk pa H₀ G H (some (.ref pa)) .pen
 | fn {a:Addr}:SlOk pa H₀ G H (some (.ref a)) (.fn a)
 | dic {p:Addr} {ks:List (ak×V)} {kvs:List (Int×PyData)}:H p=some (.dK ks)->G p=none->H₀ p=none->KD G ks kvs->SlOk pa H₀ G H (some (.ref p)) (.dic kvs)
 | dip {p:Addr} {ks:List (List Int×V)} {kvs:List (List Int×PyData)}:H p=some (.dT (ks.map bi))->G p=none->H₀ p=none->KP G ks kvs->SlOk pa H₀ G H (some (.ref p)) (.dip kvs)
structure Rl (PK:Pk) (pa:Addr) (G₀ H₀:Hp) (m:Nat) (σ:St) (ρ:List Sl) (G H:Hp):Prop where
 wd:Wd PK pa m G H
 st:Stp pa G₀ H₀ G H
 p0:∃ o,H₀ pa=some o
 sl:∀ (i:Nat) (s:Sl),ρ[i]?=some s->∃ o,σ[i]?=some o/\SlOk pa H₀ G H o s
 len:ρ.length=σ.length
 dj:∀ (i j:Nat) (xs ys:List PyData),i≠j->ρ[i]?=some (.own xs)->ρ[j]?=some (.own ys)->σ[i]?≠σ[j]?
 dj2:∀ (i j:Nat) (xs ys:List (Int×PyData)),i≠j->ρ[i]?=some (.dic xs)->ρ[j]?=some (.dic ys)->σ[i]?≠σ[j]?
section
variable {PK:Pk} {pa:Addr} {G₀ H₀ G H:Hp} {m:Nat} {σ:St} {ρ:List Sl}
theorem jQ {α:Type} {l:List α} {k i:Nat} {x y:α} (h:(l.set k x)[i]?=some y) (hn:x≠y):k≠i/\l[i]?=some y:=by
 have hi:k≠i:=λe=>by
  subst e
  have hl:k < l.length:=by
   have:=(List.getElem?_eq_some_iff.mp h).1
   rwa [List.length_set] at this
  rw [List.getElem?_set_self hl] at h
  exact hn (Option.some.inj h)
 rw [List.getElem?_set_ne hi] at h
 exact ⟨hi,h⟩
theorem lA {α:Type} {T:α->Sl} {k:Nat} {x:Sl} {v:Option V} (dj:∀ (i j:Nat) (a b:α),i≠j->ρ[i]?=some (T a)->ρ[j]?=some (T b)->σ[i]?≠σ[j]?) (hn:∀ a,x≠T a) :
  ∀ (i j:Nat) (a b:α),i≠j->(ρ.set k x)[i]?=some (T a)->(ρ.set k x)[j]?=some (T b)->(σ.set k v)[i]?≠(σ.set k v)[j]?:=λi j a b hij h1 h2=>by
 obtain ⟨hi,h1⟩:=jQ h1 (hn a)
 obtain ⟨hj,h2⟩:=jQ h2 (hn b)
 rw [List.getElem?_set_ne hi,List.getElem?_set_ne hj]
 exact dj i j a b hij h1 h2
theorem ij {α:Type} {T:α->Sl} {k:Nat} {x:Sl} (dj:∀ (i j:Nat) (a b:α),i≠j->ρ[i]?=some (T a)->ρ[j]?=some (T b)->σ[i]?≠σ[j]?) (hn:∀ a,x≠T a) :
  ∀ (i j:Nat) (a b:α),i≠j->(ρ.set k x)[i]?=some (T a)->(ρ.set k x)[j]?=some (T b)->σ[i]?≠σ[j]?:=λi j a b hij h1 h2 =>
 dj i j a b hij (jQ h1 (hn a)).2 (jQ h2 (hn b)).2
theorem SlOk.step {G' H':Hp} {o:Option V} {s:Sl} (k:SlOk pa H₀ G H o s) (hp0:∃ o,H₀ pa=some o) (st:Stp pa G H G' H'):SlOk pa H₀ G' H' o s:=by
 cases k with
 | un=>exact .un
 | d h=>exact .d (h.mono st.gs)
 | pen=>exact .pen
 | fn=>exact .fn
 | @own p vs xs h1 h2 h3 h4 =>
  have hne:p≠pa:=λe=>by
   obtain ⟨u,hu⟩:=hp0
   rw [<- e,h3] at hu; cases hu
  refine .own (st.hk _ _ h1 hne) ?_ h3 (DnAll.mono st.gs h4)
  cases e:G' p with
  | none=>rfl
  | some u =>
   rcases st.gn p u e with z | z | ⟨_,_,z⟩
   ·rw [h2] at z; cases z
   ·rw [h1] at z; cases z
   ·rw [h1] at z; cases z
 | @dic p ks kvs h1 h2 h3 h4 =>
  have hne:p≠pa:=λe=>by
   obtain ⟨u,hu⟩:=hp0
   rw [<- e,h3] at hu; cases hu
  refine .dic (st.hk _ _ h1 hne) ?_ h3 (h4.mono st.gs)
  cases e:G' p with
  | none=>rfl
  | some u =>
   rcases st.gn p u e with z | z | ⟨_,_,z⟩
   ·rw [h2] at z; cases z
   ·rw [h1] at z; cases z
   ·rw [h1] at z; cases z
 | @dip p ks kvs h1 h2 h3 h4 =>
  have hne:p≠pa:=λe=>by
   obtain ⟨u,hu⟩:=hp0
   rw [<- e,h3] at hu; cases hu
  refine .dip (st.hk _ _ h1 hne) ?_ h3 (h4.mono st.gs)
  cases e:G' p with
  | none=>rfl
  | some u =>
   rcases st.gn p u e with z | z | ⟨_,_,z⟩
   ·rw [h2] at z; cases z
   ·rw [h1] at z; cases z
   ·rw [h1] at z; cases z
theorem Rl.step {G' H':Hp} {m':Nat} (r:Rl PK pa G₀ H₀ m σ ρ G H) (s:Stp pa G H G' H') (w:Wd PK pa m' G' H'):Rl PK pa G₀ H₀ m' σ ρ G' H' :=
 ⟨w,r.st.trans s r.wd.some,r.p0,λi sl h=>let ⟨o,h1,h2⟩:=r.sl i sl h; ⟨o,h1,h2.step r.p0 s⟩,r.len,r.dj,r.dj2⟩
theorem Rl.set (r:Rl PK pa G₀ H₀ m σ ρ G H) {v:V} {x:PyData} (d:Dn G v x) (k:Nat):Rl PK pa G₀ H₀ m (σ.set k (some v)) (ρ.set k (.d x)) G H:=by
 refine ⟨r.wd,r.st,r.p0,λi s h=>?_,by rw [List.length_set,List.length_set]; exact r.len,λi j xs ys hij h1 h2=>?_,lA r.dj2 λa h=>by cases h⟩
 ·by_cases e:k=i
  ·subst e
   have hl:k < ρ.length:=by
    have:=(List.getElem?_eq_some_iff.mp h).1
    rwa [List.length_set] at this
   rw [List.getElem?_set_self hl] at h
   cases h
   exact ⟨_,List.getElem?_set_self (by rw [<- r.len]; exact hl),.d d⟩
  ·rw [List.getElem?_set_ne e] at h ⊢
   exact r.sl i s h
 ·have hi:k≠i:=λe=>by
   subst e
   have hl:k < ρ.length:=by
    have:=(List.getElem?_eq_some_iff.mp h1).1
    rwa [List.length_set] at this
   rw [List.getElem?_set_self hl] at h1; cases h1
  have hj:k≠j:=λe=>by
   subst e
   have hl:k < ρ.length:=by
    have:=(List.getElem?_eq_some_iff.mp h2).1
    rwa [List.length_set] at this
   rw [List.getElem?_set_self hl] at h2; cases h2
  rw [List.getElem?_set_ne hi] at h1 ⊢
  rw [List.getElem?_set_ne hj] at h2 ⊢
  exact r.dj i j xs ys hij h1 h2
theorem Rl.setO (r:Rl PK pa G₀ H₀ m σ ρ G H) {p:Addr} {vs:List V} {xs:List PyData} (h1:H p=some (.lst vs)) (h2:G p=none) (h3:H₀ p=none) (h4:DnAll G vs xs)
  (hd:∀ (i:Nat) (ys:List PyData),ρ[i]?=some (.own ys)->σ[i]?≠some (some (.ref p))) (k:Nat):Rl PK pa G₀ H₀ m (σ.set k (some (.ref p))) (ρ.set k (.own xs)) G H:=by
 have up:∀ {i:Nat} {s:Sl},(ρ.set k (.own xs))[i]?=some s->i=k->s=.own xs/\(σ.set k (some (V.ref p)))[i]?=some (some (.ref p)):=λ{i s} h e=>by
  subst e
  have hl:i < ρ.length:=by
   have:=(List.getElem?_eq_some_iff.mp h).1
   rwa [List.length_set] at this
  rw [List.getElem?_set_self hl] at h
  cases h
  exact ⟨rfl,List.getElem?_set_self (by rw [<- r.len]; exact hl)⟩
 refine ⟨r.wd,r.st,r.p0,λi s h=>?_,by rw [List.length_set,List.length_set]; exact r.len,λi j ys zs hij e1 e2=>?_,lA r.dj2 λa h=>by cases h⟩
 ·by_cases e:i=k
  ·obtain ⟨e1,e2⟩:=up h e
   subst e1
   exact ⟨_,e2,.own h1 h2 h3 h4⟩
  ·rw [List.getElem?_set_ne (Ne.symm e)] at h ⊢
   exact r.sl i s h
 ·by_cases ei:i=k
  ·have q:=(up e1 ei).2
   have hj:k≠j:=λe=>hij (ei.trans e)
   rw [q]
   rw [List.getElem?_set_ne hj] at e2 ⊢
   exact λz=>hd j zs e2 z.symm
  ·rw [List.getElem?_set_ne (Ne.symm ei)] at e1 ⊢
   by_cases ej:j=k
   ·rw [(up e2 ej).2]
    exact hd i ys e1
   ·rw [List.getElem?_set_ne (Ne.symm ej)] at e2 ⊢
    exact r.dj i j ys zs hij e1 e2
theorem Rl.h0 (r:Rl PK pa G₀ H₀ m σ ρ G H) {p:Addr} (hp:H p=none):H₀ p=none:=by
 cases e:H₀ p with
 | none=>rfl
 | some u =>
  by_cases hc:p=pa
  ·subst hc
   obtain ⟨o,h⟩:=r.wd.some
   rw [hp] at h; cases h
  ·rw [r.st.hk p u e hc] at hp; cases hp
theorem Rl.apart (r:Rl PK pa G₀ H₀ m σ ρ G H) {p:Addr} (hp:H p=none) (i:Nat) (ys:List PyData) (h:ρ[i]?=some (.own ys)):σ[i]?≠some (some (.ref p)):=λe=>by
 obtain ⟨o,h1,h2⟩:=r.sl i _ h
 rw [e] at h1
 cases h1
 cases h2 with
 | own a _ _ _=>rw [hp] at a; cases a
theorem Rl.change (r:Rl PK pa G₀ H₀ m σ ρ G H) {k:Nat} {xs ys:List PyData} {p:Addr} {ws:List V} (hk:ρ[k]?=some (.own xs)) (hσ:σ[k]?=some (some (.ref p))) (d:DnAll G ws ys) :
  Rl PK pa G₀ H₀ m σ (ρ.set k (.own ys)) G (upd H p (.lst ws)):=by
 obtain ⟨o,h1,h2⟩:=r.sl k _ hk
 rw [hσ] at h1
 cases h1
 cases h2 with
 | @own _ vs _ a1 a2 a3 a4 =>
  have hne:pa≠p:=λe=>by
   obtain ⟨u,hu⟩:=r.p0
   rw [e,a3] at hu; cases hu
  have hl:k < ρ.length:=(List.getElem?_eq_some_iff.mp hk).1
  refine ⟨⟨λb o h=>?_,r.wd.gpa,?_⟩,⟨r.st.gs,r.st.gn,λb o h hb=>?_⟩,r.p0,λi s h=>?_,by rw [List.length_set]; exact r.len,λi j us ws hij e1 e2=>?_,ij r.dj2 λa h=>by cases h⟩
  ·rw [ai (λe=>by subst e; rw [a2] at h; cases h)]
   exact r.wd.sub b o h
  ·obtain ⟨u,h,q⟩:=r.wd.pen
   exact ⟨u,by rw [ai hne]; exact h,q⟩
  ·rw [ai (λe=>by subst e; rw [a3] at h; cases h)]
   exact r.st.hk b o h hb
  ·by_cases e:k=i
   ·subst e
    rw [List.getElem?_set_self hl] at h
    cases h
    exact ⟨_,hσ,.own bf a2 a3 d⟩
   ·rw [List.getElem?_set_ne e] at h
    obtain ⟨o,q1,q2⟩:=r.sl i s h
    refine ⟨o,q1,?_⟩
    cases q2 with
    | un=>exact .un
    | d z=>exact .d z
    | pen=>exact .pen
    | fn=>exact .fn
    | dic b1 b2 b3 b4=>exact .dic (by rw [ai (λe2=>by subst e2; rw [a1] at b1; cases b1)]; exact b1) b2 b3 b4
    | dip b1 b2 b3 b4=>exact .dip (by rw [ai (λe2=>by subst e2; rw [a1] at b1; cases b1)]; exact b1) b2 b3 b4
    | own b1 b2 b3 b4 =>
     refine .own ?_ b2 b3 b4
     rw [ai]
     ·exact b1
     ·intro e2
      subst e2
      exact r.dj k i _ _ e hk h (by rw [hσ,q1])
  ·by_cases ei:k=i
   ·subst ei
    rw [List.getElem?_set_ne hij] at e2
    exact r.dj k j _ _ hij hk e2
   ·rw [List.getElem?_set_ne ei] at e1
    by_cases ej:k=j
    ·subst ej
     exact r.dj i k _ _ hij e1 hk
    ·rw [List.getElem?_set_ne ej] at e2
     exact r.dj i j _ _ hij e1 e2
noncomputable def fz (k:Nat) (ρ:List Sl):List Sl:=match ρ[k]? with
 | some (.own xs)=>ρ.set k (.d (.list xs))
 | _=>ρ
theorem Rl.freeze (r:Rl PK pa G₀ H₀ m σ ρ G H) (k:Nat):∃ G',Sub G G'/\Rl PK pa G₀ H₀ m σ (fz k ρ) G' H:=by
 unfold fz
 split
 ·rename_i xs hk
  obtain ⟨o,h1,h2⟩:=r.sl k _ hk
  cases h2 with
  | @own p vs _ a1 a2 a3 a4 =>
   have hne:pa≠p:=λe=>by
    obtain ⟨u,hu⟩:=r.p0
    rw [e,a3] at hu; cases hu
   have hl:k < ρ.length:=(List.getElem?_eq_some_iff.mp hk).1
   have sb:Sub G (upd G p (.lst vs)):=Sub.new a2
   refine ⟨upd G p (.lst vs),sb,r.wd.freeze a1 a2 hne,⟨λb o h=>sb b o (r.st.gs b o h),λb o h=>?_,r.st.hk⟩,r.p0,λi s h=>?_,by rw [List.length_set]; exact r.len,λi j us ws hij e1 e2=>?_,ij r.dj2 λa h=>by cases h⟩
   ·by_cases e:b=p
    ·subst e; exact .inr (.inl a3)
    ·rw [ai e] at h; exact r.st.gn b o h
   ·by_cases e:k=i
    ·subst e
     rw [List.getElem?_set_self hl] at h
     cases h
     exact ⟨_,h1,.d (.lst bf (DnAll.mono sb a4))⟩
    ·rw [List.getElem?_set_ne e] at h
     obtain ⟨o,q1,q2⟩:=r.sl i s h
     refine ⟨o,q1,?_⟩
     cases q2 with
     | un=>exact .un
     | d z=>exact .d (z.mono sb)
     | pen=>exact .pen
     | fn=>exact .fn
     | dic b1 b2 b3 b4=>exact .dic b1 (by rw [ai (λe2=>by subst e2; rw [a1] at b1; cases b1)]; exact b2) b3 (b4.mono sb)
     | dip b1 b2 b3 b4=>exact .dip b1 (by rw [ai (λe2=>by subst e2; rw [a1] at b1; cases b1)]; exact b2) b3 (b4.mono sb)
     | own b1 b2 b3 b4 =>
      refine .own b1 ?_ b3 (DnAll.mono sb b4)
      rw [ai]
      ·exact b2
      ·intro e2
       subst e2
       exact r.dj k i _ _ e hk h (by rw [h1,q1])
   ·have hi:k≠i:=λe=>by subst e; rw [List.getElem?_set_self hl] at e1; cases e1
    have hj:k≠j:=λe=>by subst e; rw [List.getElem?_set_self hl] at e2; cases e2
    rw [List.getElem?_set_ne hi] at e1
    rw [List.getElem?_set_ne hj] at e2
    exact r.dj i j _ _ hij e1 e2
 ·exact ⟨G,λ_ _ h=>h,r⟩
end
noncomputable def TAe (PK:Pk) (i:List Sl->Tr PyData):TE:=λσ H Q=>∃ pa G₀ H₀ m ρ G,Rl PK pa G₀ H₀ m σ ρ G H/\(i ρ).ok m λm' x=>Kn PK pa m' G H x Q
noncomputable def TAt (PK:Pk) (i:List Sl->Tr Bool):TT:=λσ H Q=>∃ pa G₀ H₀ m ρ G,Rl PK pa G₀ H₀ m σ ρ G H/\(i ρ).ok m λm' b=>∀ G' H',Stp pa G H G' H'->Wd PK pa m' G' H'->Q b H'
noncomputable def TAd (PK:Pk) (i:List Sl->Tr (List PyData)):TA:=λσ H Q=>∃ pa G₀ H₀ m ρ G,Rl PK pa G₀ H₀ m σ ρ G H/\(i ρ).ok m λm' xs=>∀ vs G' H',Stp pa G H G' H'->Wd PK pa m' G' H'->DnAll G' vs xs->Q vs H'
noncomputable def Ko1 (PK:Pk) (pa:Addr) (m:Nat) (G H:Hp) (xs:List PyData) (Q:VK):Prop:=∀ p vs G' H',Stp pa G H G' H'->Wd PK pa m G' H'->H p=none->G' p=none->H' p=some (.lst vs)->DnAll G' vs xs->Q (.ref p) H'
noncomputable def c7 (PK:Pk) (i:List Sl->Tr (List PyData)):TE:=λσ H Q=>∃ pa G₀ H₀ m ρ G,Rl PK pa G₀ H₀ m σ ρ G H/\(i ρ).ok m λm' xs=>Ko1 PK pa m' G H xs Q
inductive ArOk (pa:Addr) (G:Hp):V->Sl->Prop
 | d {v:V} {x:PyData}:Dn G v x->ArOk pa G v (.d x)
 | pen:ArOk pa G (.ref pa) .pen
 | fn {a:Addr}:ArOk pa G (.ref a) (.fn a)
inductive ArsOk (pa:Addr) (G:Hp):List V->List Sl->Prop
 | nil:ArsOk pa G [] []
 | cons {v:V} {vs:List V} {s:Sl} {ss:List Sl}:ArOk pa G v s->ArsOk pa G vs ss->ArsOk pa G (v::vs) (s::ss)
theorem ArsOk.length {pa:Addr} {G:Hp} {vs:List V} {ss:List Sl} (h:ArsOk pa G vs ss):vs.length=ss.length:=by
 induction h with
 | nil=>rfl
 | cons h t ih=>exact congrArg (·+1) ih
noncomputable def TAa (PK:Pk) (i:List Sl->Tr (List Sl)):TA:=λσ H Q=>∃ pa G₀ H₀ m ρ G,Rl PK pa G₀ H₀ m σ ρ G H/\(i ρ).ok m λm' as=>∀ vs G' H',Stp pa G H G' H'->Wd PK pa m' G' H'->ArsOk pa G' vs as->Q vs H'
inductive Re where
 | d (x:PyData) | own (xs:List PyData)
noncomputable def Re.val:Re->PyData
 | .d x=>x
 | .own xs=>.list xs
@[simp] theorem Re.val_d (x:PyData):(Re.d x).val=x:=rfl
@[simp] theorem Re.val_own (xs:List PyData):(Re.own xs).val=.list xs:=rfl
inductive Ou where
 | next (ρ:List Sl) | ret (r:Re) | brk (ρ:List Sl) | cont (ρ:List Sl)
noncomputable def ZlJ (H₀ G H:Hp) (v:V):Re->Prop
 | .d x=>Dn G v x
 | .own xs=>∃ p vs,v=.ref p/\H p=some (.lst vs)/\G p=none/\H₀ p=none/\DnAll G vs xs
noncomputable def Kr (PK:Pk) (pa:Addr) (m:Nat) (G₀ H₀:Hp) (r:Re) (Q:VK):Prop:=∀ v G H,Stp pa G₀ H₀ G H->Wd PK pa m G H->ZlJ H₀ G H v r->Q v H
noncomputable def Ko (PK:Pk) (pa:Addr) (G₀ H₀ Gs:Hp) (D:Ends) (m:Nat):Ou->Prop
 | .next ρ=>∀ σ G H,Sub Gs G->Rl PK pa G₀ H₀ m σ ρ G H->D.nx σ H
 | .ret r=>Kr PK pa m G₀ H₀ r D.rt
 | .brk ρ=>∀ σ G H,Sub Gs G->Rl PK pa G₀ H₀ m σ ρ G H->D.bk σ H
 | .cont ρ=>∀ σ G H,Sub Gs G->Rl PK pa G₀ H₀ m σ ρ G H->D.ct σ H
noncomputable def aV (PK:Pk) (i:List Sl->Tr Ou):TS:=λD σ H=>∃ pa G₀ H₀ m ρ G,Rl PK pa G₀ H₀ m σ ρ G H/\(i ρ).ok m (Ko PK pa G₀ H₀ G D)
theorem PE.imp {X:Cx} {e:Expr} {t t':TE} (h:PE X e t) (q:∀ σ H Q,t' σ H Q->t σ H Q):PE X e t':=λpins s σ H Q I z=>h pins s σ H Q I (q σ H Q z)
theorem PT.imp {X:Cx} {e:Expr} {t t':TT} (h:PT X e t) (q:∀ σ H Q,t' σ H Q->t σ H Q):PT X e t':=λpins s σ H Q I z=>h pins s σ H Q I (q σ H Q z)
theorem PW.imp {X:Cx} {e:Expr} {t t':TT} (h:PW X e t) (q:∀ σ H Q,t' σ H Q->t σ H Q):PW X e t':=λwh pins s σ H Q I z=>h wh pins s σ H Q I (q σ H Q z)
theorem PA.imp {X:Cx} {e:List Expr} {t t':TA} (h:PA X e t) (q:∀ σ H Q,t' σ H Q->t σ H Q):PA X e t':=λpos pins s σ H Q I z=>h pos pins s σ H Q I (q σ H Q z)
theorem PS.imp {X:Cx} {e:Stmt} {t t':TS} (h:PS X e t) (q:∀ D σ H,t' D σ H->t D σ H):PS X e t':=λpins s σ H D I z=>h pins s σ H D I (q D σ H z)
theorem PSs.imp {X:Cx} {e:List Stmt} {t t':TS} (h:PSs X e t) (q:∀ D σ H,t' D σ H->t D σ H):PSs X e t':=λpins s σ H D I z=>h pins s σ H D I (q D σ H z)
variable {PK:Pk} {X:Cx} {a b c e:Expr} {es:List Expr} {pos:Pos} {i j l:List Sl->Tr PyData}
theorem TAe.then {σ:St} {H:Hp} {β:Type} {k:PyData->Tr β} {Z:Nat->β->Prop} {Q:VK} {pa:Addr} {G₀ H₀ G:Hp} {m:Nat} {ρ:List Sl} (R:Rl PK pa G₀ H₀ m σ ρ G H) (h:((i ρ).bind k).ok m Z)
  (hq:∀ m1 x v G1 H1,Stp pa G H G1 H1->Wd PK pa m1 G1 H1->Rl PK pa G₀ H₀ m1 σ ρ G1 H1->Dn G1 v x->(k x).ok m1 Z->Q v H1):TAe PK i σ H Q:=by
 refine ⟨pa,G₀,H₀,m,ρ,G,R,Tr.ok_mono (Tr.ok_bind.mp h) λm1 x hx v G1 H1 s1 w1 d1=>?_⟩
 exact hq m1 x v G1 H1 s1 w1 (R.step s1 w1) d1 hx
noncomputable def aa (k:Nat):List Sl->Tr PyData:=λρ=>match ρ[k]? with
 | some (.d x)=>.ret x
 | _=>.fail
noncomputable def aC (d:PyData):List Sl->Tr PyData:=λ_=>.ret d
theorem ac {k:Nat} (h:PE X e (eC k)):PE X e (TAe PK (aa k)):=h.imp λσ H Q hz0=>by
 obtain ⟨pa,G₀,H₀,m,ρ,G,R,q⟩:=hz0
 unfold aa at q
 split at q
 ·rename_i x hx
  obtain ⟨o,h1,h2⟩:=R.sl k _ hx
  cases h2 with
  | d z=>exact ⟨_,h1,Kn.here q R.wd z⟩
 ·exact q.elim
theorem tj {v:V} {d:PyData} (h:PE X e (tC v)) (hd:∀ G,Dn G v d):PE X e (TAe PK (aC d)):=h.imp λσ H Q hz0=>by
 obtain ⟨pa,G₀,H₀,m,ρ,G,R,q⟩:=hz0
 exact Kn.here q R.wd (hd G)
theorem av {n:Int} {k pos}:PE X (.Constant (.int n) k pos) (TAe PK (aC (.int n))):=tj bu λ_=>.int n
theorem ZeG {n:Bool} {k pos}:PE X (.Constant (.bool n) k pos) (TAe PK (aC (.bool n))):=tj Zhl λ_=>.bl n
theorem eA {x:Str} {n:Int} (hg:Gl X x) (h:∃ t,X.mg x=some (.int n t)) (hd:(x == ("__debug__":Str))=false:=by decide):PE X (.Name x pos) (TAe PK (aC (.int n))):=tj (Zhh hg h hd) λ_=>.int n
noncomputable def cz (r:R2) (f:PyData->PyData->Option PyData):Prop:=∀ (PK:Pk) (pa:Addr) (m:Nat) (G H:Hp) (x y:V) (dx dy dz:PyData) (Q:VK),Wd PK pa m G H->Dn G x dx->Dn G y dy->f dx dy=some dz->Kn PK pa m G H dz Q->r x y H Q
noncomputable def ae (f:PyData->PyData->Option PyData) (i j:List Sl->Tr PyData):List Sl->Tr PyData:=λρ=>(i ρ).bind λx=>(j ρ).bind λy=>Tr.of (f x y)
theorem l4 {r:R2} {f:PyData->PyData->Option PyData} (hv:cz r f):∀ σ H Q,TAe PK (ae f i j) σ H Q->gD r (TAe PK i) (TAe PK j) σ H Q:=by
 rintro σ H Q ⟨pa,G₀,H₀,m,ρ,G,R,q⟩
 refine TAe.then R q λm1 x v G1 H1 s1 w1 R1 d1 q1=>?_
 refine TAe.then R1 q1 λm2 y u G2 H2 s2 w2 R2 d2 q2=>?_
 obtain ⟨z,hz,k⟩:=Tr.ok_of q2
 exact hv PK pa m2 G2 H2 v u x y z Q w2 (d1.mono s2.gs) d2 hz (Kn.later k (s1.trans s2 w1.some) w2.some)
theorem ay {op:Operator} {r:R2} {f:PyData->PyData->Option PyData} (ho:OpR X (binaryOp op) r) (hv:cz r f) (ha:PE X a (TAe PK i)) (hb:PE X b (TAe PK j)):PE X (.BinOp a op b pos) (TAe PK (ae f i j)) :=
 (bU ho ha hb).imp (l4 hv)
theorem ZlA {op:CmpOp} {r:R2} {f:PyData->PyData->Option PyData} (ho:OpR X (compareOp op) r) (hv:cz r f) (ha:PE X a (TAe PK i)) (hb:PE X b (TAe PK j)) (hm:behindInMarks op b=false):PE X (.Compare a [op] [b] pos) (TAe PK (ae f i j)) :=
 (Zhi ho ha hb hm).imp (l4 hv)
theorem bd {r:R2} {f:PyData->PyData->Option PyData} (hr:IxR X r) (hv:cz r f) (ha:PE X a (TAe PK i)) (hb:PE X b (TAe PK j)) (hs:ZeO b):PE X (.Subscript a b pos) (TAe PK (ae f i j)) :=
 (dU hr ha hb hs).imp (l4 hv)
noncomputable def jK:PyData->Option Bool
 | .bool b=>some b
 | _=>none
@[simp] theorem Zl5 (b:Bool):jK (.bool b)=some b:=rfl
noncomputable def c5 (i:List Sl->Tr PyData):List Sl->Tr Bool:=λρ=>(i ρ).bind λx=>Tr.of (jK x)
theorem ZlC:∀ σ H Q,TAt PK (c5 i) σ H Q->jM (TAe PK i) σ H Q:=by
 rintro σ H Q ⟨pa,G₀,H₀,m,ρ,G,R,q⟩
 refine TAe.then R q λm1 x v G1 H1 s1 w1 R1 d1 q1=>?_
 obtain ⟨b,hb,k⟩:=Tr.ok_of q1
 cases d1 <;> simp only [jK] at hb <;> cases hb
 exact ⟨_,rfl,k G1 H1 s1 w1⟩
theorem Zfv {t t':TE} (h:∀ σ H Q,t' σ H Q->t σ H Q):∀ σ H Q,jM t' σ H Q->jM t σ H Q:=λσ H Q z=>h σ H _ z
theorem er {op:CmpOp} {r:R2} {f:PyData->PyData->Option PyData} (ho:OpR X (compareOp op) r) (hv:cz r f) (ha:PE X a (TAe PK i)) (hb:PE X b (TAe PK j)) (hm:behindInMarks op b=false):PT X (.Compare a [op] [b] pos) (TAt PK (c5 (ae f i j))) :=
 (iY ho ha hb hm).imp λσ H Q z=>Zfv (l4 hv) σ H Q (ZlC σ H Q z)
noncomputable def Zat:PyData->Option Bool
 | .bool b=>some b
 | .int n=>some (n != 0)
 | .none=>some false
 | .list xs=>some (!xs.isEmpty)
 | .tuple xs=>some (!xs.isEmpty)
 | _=>none
noncomputable def tq (i:List Sl->Tr PyData):List Sl->Tr Bool:=λρ=>(i ρ).bind λx=>Tr.of (Zat x)
theorem DnAll.isEmpty {H:Hp} {vs:List V} {ds:List PyData} (h:DnAll H vs ds):vs.isEmpty=ds.isEmpty:=by
 cases h <;> rfl
theorem Zlc (h:PE X e (TAe PK i)) (he:∀ whole,isTrue e X.env whole=(do let v <- whole; standAt e.pos; holding [v] (truthy v)):=by intro _; rfl):PT X e (TAt PK (tq i)):=(ZgN h he).imp λσ H Q hz0=>by
 obtain ⟨pa,G₀,H₀,m,ρ,G,R,q⟩:=hz0
 refine TAe.then R q λm1 x v G1 H1 s1 w1 R1 d1 q1=>?_
 obtain ⟨b,hb,k⟩:=Tr.ok_of q1
 have fin:=k G1 H1 s1 w1
 cases d1 with
 | non=>cases hb; exact ⟨_,rfl,fin⟩
 | bl b=>cases hb; exact ⟨_,rfl,fin⟩
 | int n=>cases hb; exact ⟨_,rfl,fin⟩
 | str _=>cases hb
 | tup h1 h2=>cases hb; exact ⟨_,.inr (.inl ⟨_,SqT.of (w1.sub _ _ h1),rfl⟩),by rw [h2.isEmpty]; exact fin⟩
 | lst h1 h2=>cases hb; exact ⟨_,.inl ⟨_,SqL.of (w1.sub _ _ h1),rfl⟩,by rw [h2.isEmpty]; exact fin⟩
 | dct _ _=>cases hb
 | dcp _ _ _=>cases hb
noncomputable def tF (i j:List Sl->Tr Bool):List Sl->Tr Bool:=λρ=>(i ρ).bind λx=>if x=true then j ρ else .ret false
noncomputable def tz (i j:List Sl->Tr Bool):List Sl->Tr Bool:=λρ=>(i ρ).bind λx=>if x=true then .ret true else j ρ
noncomputable def ZlF (i:List Sl->Tr Bool):List Sl->Tr Bool:=λρ=>(i ρ).bind λx=>.ret (!x)
variable {p q:List Sl->Tr Bool} {rest:List Expr}
theorem TAt.then {σ:St} {H:Hp} {β:Type} {k:Bool->Tr β} {Z:Nat->β->Prop} {Q:Bool->Hp->Prop} {pa:Addr} {G₀ H₀ G:Hp} {m:Nat} {ρ:List Sl} (R:Rl PK pa G₀ H₀ m σ ρ G H) (h:((p ρ).bind k).ok m Z)
  (hq:∀ m1 x G1 H1,Stp pa G H G1 H1->Wd PK pa m1 G1 H1->Rl PK pa G₀ H₀ m1 σ ρ G1 H1->(k x).ok m1 Z->Q x H1):TAt PK p σ H Q:=by
 refine ⟨pa,G₀,H₀,m,ρ,G,R,Tr.ok_mono (Tr.ok_bind.mp h) λm1 x hx G1 H1 s1 w1=>?_⟩
 exact hq m1 x G1 H1 s1 w1 (R.step s1 w1) hx
theorem Zem {G₀ H₀ G H G1 H1:Hp} {m:Nat} {σ:St} {ρ:List Sl} {pa:Addr} {Q:Bool->Hp->Prop} (R1:Rl PK pa G₀ H₀ m σ ρ G1 H1) (s1:Stp pa G H G1 H1) (h:(q ρ).ok m λm' b=>∀ G' H',Stp pa G H G' H'->Wd PK pa m' G' H'->Q b H'):TAt PK q σ H1 Q :=
 ⟨pa,G₀,H₀,m,ρ,G1,R1,Tr.ok_mono h λm2 b k G2 H2 s2 w2=>k G2 H2 (s1.trans s2 R1.wd.some) w2⟩
theorem ZeE {G₀ H₀ G H G1 H1:Hp} {m:Nat} {σ:St} {ρ:List Sl} {pa:Addr} {Q:VK} (R1:Rl PK pa G₀ H₀ m σ ρ G1 H1) (s1:Stp pa G H G1 H1) (h:(i ρ).ok m λm' x=>Kn PK pa m' G H x Q):TAe PK i σ H1 Q :=
 ⟨pa,G₀,H₀,m,ρ,G1,R1,Tr.ok_mono h λm2 b k=>Kn.later k s1 R1.wd.some⟩
theorem Zla (ha:PT X a (TAt PK p)):PW X (.BoolOp .And [a] pos) (TAt PK p):=ZbX ha
theorem Zk8 (ha:PT X a (TAt PK p)):PW X (.BoolOp .Or [a] pos) (TAt PK p):=ZgK ha
theorem Zlb (ha:PT X a (TAt PK p)) (hb:PW X (.BoolOp .And (b::rest) pos) (TAt PK q)):PW X (.BoolOp .And (a::b::rest) pos) (TAt PK (tF p q)):=(ZbY ha hb).imp λσ H Q hz0=>by
 obtain ⟨pa,G₀,H₀,m,ρ,G,R,z⟩:=hz0
 refine TAt.then R z λm1 x G1 H1 s1 w1 R1 q1=>?_
 cases x with
 | true=>rw [if_pos rfl] at q1 ⊢; exact Zem R1 s1 q1
 | false=>rw [if_neg Bool.false_ne_true] at q1 ⊢; exact q1 G1 H1 s1 w1
theorem Zk9 (ha:PT X a (TAt PK p)) (hb:PW X (.BoolOp .Or (b::rest) pos) (TAt PK q)):PW X (.BoolOp .Or (a::b::rest) pos) (TAt PK (tz p q)):=(ZgL ha hb).imp λσ H Q hz0=>by
 obtain ⟨pa,G₀,H₀,m,ρ,G,R,z⟩:=hz0
 refine TAt.then R z λm1 x G1 H1 s1 w1 R1 q1=>?_
 cases x with
 | true=>rw [if_pos rfl] at q1 ⊢; exact q1 G1 H1 s1 w1
 | false=>rw [if_neg Bool.false_ne_true] at q1 ⊢; exact Zem R1 s1 q1
theorem Zel (h:PW X e (TAt PK p)):PT X e (TAt PK p):=h.pt
noncomputable def tE (p:List Sl->Tr Bool) (i j:List Sl->Tr PyData):List Sl->Tr PyData:=λρ=>(p ρ).bind λx=>if x=true then i ρ else j ρ
theorem Zlz (hc:PT X c (TAt PK p)) (ha:PE X a (TAe PK i)) (hb:PE X b (TAe PK j)):PE X (.IfExp c a b pos) (TAe PK (tE p i j)):=(Zhf hc ha hb).imp λσ H Q hz0=>by
 obtain ⟨pa,G₀,H₀,m,ρ,G,R,z⟩:=hz0
 refine TAt.then R z λm1 x G1 H1 s1 w1 R1 q1=>?_
 cases x with
 | true=>rw [if_pos rfl] at q1 ⊢; exact ZeE R1 s1 q1
 | false=>rw [if_neg Bool.false_ne_true] at q1 ⊢; exact ZeE R1 s1 q1
variable {is:List Sl->Tr (List PyData)}
noncomputable def ap:List Sl->Tr (List PyData):=λ_=>.ret []
noncomputable def af (i:List Sl->Tr PyData) (is:List Sl->Tr (List PyData)):List Sl->Tr (List PyData):=λρ=>(i ρ).bind λx=>(is ρ).bind λxs=>.ret (x::xs)
theorem aw:PA X [] (TAd PK ap):=cx.imp λσ H Q hz0=>by
 obtain ⟨pa,G₀,H₀,m,ρ,G,R,z⟩:=hz0
 exact z [] G H .refl R.wd .nil
theorem TAd.then {σ:St} {H:Hp} {β:Type} {k:List PyData->Tr β} {Z:Nat->β->Prop} {Q:List V->Hp->Prop} {pa:Addr} {G₀ H₀ G:Hp} {m:Nat} {ρ:List Sl} (R:Rl PK pa G₀ H₀ m σ ρ G H) (h:((is ρ).bind k).ok m Z)
  (hq:∀ m1 xs vs G1 H1,Stp pa G H G1 H1->Wd PK pa m1 G1 H1->Rl PK pa G₀ H₀ m1 σ ρ G1 H1->DnAll G1 vs xs->(k xs).ok m1 Z->Q vs H1):TAd PK is σ H Q:=by
 refine ⟨pa,G₀,H₀,m,ρ,G,R,Tr.ok_mono (Tr.ok_bind.mp h) λm1 x hx v G1 H1 s1 w1 d1=>?_⟩
 exact hq m1 x v G1 H1 s1 w1 (R.step s1 w1) d1 hx
theorem ah (ha:PE X e (TAe PK i)) (hr:PA X es (TAd PK is)) (hs:starEach (e::es) X.env=(false,eval e X.env)::starEach es X.env:=by rfl):PA X (e::es) (TAd PK (af i is)):=(bY ha hr hs).imp λσ H Q hz0=>by
 obtain ⟨pa,G₀,H₀,m,ρ,G,R,z⟩:=hz0
 refine TAe.then R z λm1 x v G1 H1 s1 w1 R1 d1 q1=>?_
 refine TAd.then R1 q1 λm2 xs vs G2 H2 s2 w2 R2 d2 q2=>?_
 exact q2 _ _ _ (s1.trans s2 w1.some) w2 (.cons (d1.mono s2.gs) d2)
noncomputable def small (n:Nat):Bool:=decide (n<=sizeLine)
noncomputable def bM (is:List Sl->Tr (List PyData)):List Sl->Tr PyData:=λρ=>(is ρ).bind λxs=>if small xs.length=true then .ret (.tuple xs) else .fail
noncomputable def bW (is:List Sl->Tr (List PyData)):List Sl->Tr PyData:=λρ=>(is ρ).bind λxs=>.ret (.list xs)
noncomputable def iC (is:List Sl->Tr (List PyData)):List Sl->Tr (List PyData):=λρ=>(is ρ).bind λxs=>if small xs.length=true then .ret xs else .fail
theorem dC {α:Type} {c:Bool} {t:Tr α} {m:Nat} {Q:Nat->α->Prop} (h:(if c=true then t else .fail).ok m Q):c=true/\t.ok m Q:=by
 cases c with
 | true=>exact ⟨rfl,h⟩
 | false=>exact h.elim
theorem ci {x1} (h:PA X es (TAd PK is)):PE X (.Tuple es x1 pos) (TAe PK (bM is)):=(Zhc h).imp λσ H Q hz0=>by
 obtain ⟨pa,G₀,H₀,m,ρ,G,R,z⟩:=hz0
 refine TAd.then R z λm1 xs vs G1 H1 s1 w1 R1 d1 q1=>?_
 obtain ⟨hs,k⟩:=dC q1
 exact ⟨by rw [d1.length]; exact of_decide_eq_true hs,λp hp=>(Kn.later k s1 w1.some).tup w1 d1 hp⟩
theorem Ko1.new {pa:Addr} {m:Nat} {G H:Hp} {xs:List PyData} {vs:List V} {Q:VK} {p:Addr} (k:Ko1 PK pa m G H xs Q) (w:Wd PK pa m G H) (d:DnAll G vs xs) (hp:H p=none):Q (.ref p) (upd H p (.lst vs)):=by
 obtain ⟨w1,s1⟩:=w.own (o:=.lst vs) hp
 exact k p vs G _ s1 w1 hp (w.gnone hp) bf d
theorem Ko1.later {pa:Addr} {m:Nat} {G H G1 H1:Hp} {xs:List PyData} {Q:VK} (k:Ko1 PK pa m G H xs Q) (s:Stp pa G H G1 H1) (hp:∃ o,H1 pa=some o):Ko1 PK pa m G1 H1 xs Q:=λp vs G' H' s' w' h1 h2 h3 h4=>by
 refine k p vs G' H' (s.trans s' hp) w' ?_ h2 h3 h4
 cases e:H p with
 | none=>rfl
 | some u =>
  by_cases hc:p=pa
  ·subst hc
   obtain ⟨o,z⟩:=hp
   rw [h1] at z; cases z
  ·rw [s.hk p u e hc] at h1; cases h1
theorem lP (h:PA X es (TAd PK is)):PE X (.List es pos) (c7 PK (iC is)):=(Zb8 h).imp λσ H Q hz0=>by
 obtain ⟨pa,G₀,H₀,m,ρ,G,R,z⟩:=hz0
 refine TAd.then R z λm1 xs vs G1 H1 s1 w1 R1 d1 q1=>?_
 obtain ⟨hs,k⟩:=dC q1
 exact ⟨by rw [d1.length]; exact of_decide_eq_true hs,λp hp=>(Ko1.later k s1 w1.some).new w1 d1 hp⟩
theorem Ko1.of {pa:Addr} {m:Nat} {G H:Hp} {xs:List PyData} {Q:VK} (k:Kn PK pa m G H (.list xs) Q) (hp:∃ o,H pa=some o):Ko1 PK pa m G H xs Q:=λp vs G' H' s w h1 h2 h3 h4=>by
 have hne:pa≠p:=λe=>by
  obtain ⟨o,z⟩:=hp
  rw [e,h1] at z; cases z
 have sb:Sub G' (upd G' p (.lst vs)):=Sub.new h2
 refine k _ (upd G' p (.lst vs)) H' ⟨λb o h=>sb b o (s.gs b o h),λb o h=>?_,s.hk⟩ (w.freeze h3 h2 hne) (.lst bf (DnAll.mono sb h4))
 by_cases e:b=p
 ·subst e; exact .inr (.inl h1)
 ·rw [ai e] at h; exact s.gn b o h
theorem cZ (h:PE X e (c7 PK is)):PE X e (TAe PK (bW is)):=h.imp λσ H Q hz0=>by
 obtain ⟨pa,G₀,H₀,m,ρ,G,R,z⟩:=hz0
 refine ⟨pa,G₀,H₀,m,ρ,G,R,Tr.ok_mono (Tr.ok_bind.mp z) λm1 xs k=>Ko1.of k R.wd.some⟩
noncomputable def eB (r:List V->Hp->VK->Prop) (f:List PyData->Option PyData):Prop:=∀ (PK:Pk) (pa:Addr) (m:Nat) (G H:Hp) (vs:List V) (ds:List PyData) (d:PyData) (Q:VK),Wd PK pa m G H->DnAll G vs ds->f ds=some d->Kn PK pa m G H d Q->r vs H Q
noncomputable def a9 (f:List PyData->Option PyData) (is:List Sl->Tr (List PyData)):List Sl->Tr PyData:=λρ=>(is ρ).bind λxs=>Tr.of (f xs)
noncomputable def l0 (f:List PyData->Option (List PyData)) (is:List Sl->Tr (List PyData)):List Sl->Tr (List PyData):=λρ=>(is ρ).bind λxs=>Tr.of (f xs)
theorem ZlG {r:List V->Hp->VK->Prop} {f:List PyData->Option PyData} (hv:eB r f):∀ σ H Q,TAe PK (a9 f is) σ H Q->eP r (TAd PK is) σ H Q:=by
 rintro σ H Q ⟨pa,G₀,H₀,m,ρ,G,R,z⟩
 refine TAd.then R z λm1 xs vs G1 H1 s1 w1 R1 d1 q1=>?_
 obtain ⟨d,hd,k⟩:=Tr.ok_of q1
 exact hv PK pa m1 G1 H1 vs xs d Q w1 d1 hd (Kn.later k s1 w1.some)
theorem bn {t:TA} {r:List V->Hp->VK->Prop} {f:List PyData->Option PyData} (h:PE X e (eP r (TAd PK is))) (hv:eB r f):PE X e (TAe PK (a9 f is)):=h.imp (ZlG hv)
variable {as:List Sl->Tr (List Sl)}
noncomputable def aD:List Sl->Tr (List Sl):=λ_=>.ret []
noncomputable def ag (i:List Sl->Tr PyData) (as:List Sl->Tr (List Sl)):List Sl->Tr (List Sl):=λρ=>(i ρ).bind λx=>(as ρ).bind λxs=>.ret (.d x::xs)
noncomputable def cu (k:Nat) (as:List Sl->Tr (List Sl)):List Sl->Tr (List Sl):=λρ=>match ρ[k]? with
 | some .pen=>(as ρ).bind λxs=>.ret (.pen::xs)
 | _=>.fail
theorem aN:PA X [] (TAa PK aD):=cx.imp λσ H Q hz0=>by
 obtain ⟨pa,G₀,H₀,m,ρ,G,R,z⟩:=hz0
 exact z [] G H .refl R.wd .nil
theorem TAa.then {σ:St} {H:Hp} {β:Type} {k:List Sl->Tr β} {Z:Nat->β->Prop} {Q:List V->Hp->Prop} {pa:Addr} {G₀ H₀ G:Hp} {m:Nat} {ρ:List Sl} (R:Rl PK pa G₀ H₀ m σ ρ G H) (h:((as ρ).bind k).ok m Z)
  (hq:∀ m1 xs vs G1 H1,Stp pa G H G1 H1->Wd PK pa m1 G1 H1->Rl PK pa G₀ H₀ m1 σ ρ G1 H1->ArsOk pa G1 vs xs->(k xs).ok m1 Z->Q vs H1):TAa PK as σ H Q:=by
 refine ⟨pa,G₀,H₀,m,ρ,G,R,Tr.ok_mono (Tr.ok_bind.mp h) λm1 x hx v G1 H1 s1 w1 d1=>?_⟩
 exact hq m1 x v G1 H1 s1 w1 (R.step s1 w1) d1 hx
theorem aj (ha:PE X e (TAe PK i)) (hr:PA X es (TAa PK as)) (hs:starEach (e::es) X.env=(false,eval e X.env)::starEach es X.env:=by rfl):PA X (e::es) (TAa PK (ag i as)):=(bY ha hr hs).imp λσ H Q hz0=>by
 obtain ⟨pa,G₀,H₀,m,ρ,G,R,z⟩:=hz0
 refine TAe.then R z λm1 x v G1 H1 s1 w1 R1 d1 q1=>?_
 refine TAa.then R1 q1 λm2 xs vs G2 H2 s2 w2 R2 d2 q2=>?_
 exact q2 _ _ _ (s1.trans s2 w1.some) w2 (.cons (.d (d1.mono s2.gs)) d2)
theorem cG {k:Nat} (ha:PE X e (eC k)) (hr:PA X es (TAa PK as)) (hs:starEach (e::es) X.env=(false,eval e X.env)::starEach es X.env:=by rfl):PA X (e::es) (TAa PK (cu k as)):=(bY ha hr hs).imp λσ H Q hz0=>by
 obtain ⟨pa,G₀,H₀,m,ρ,G,R,z⟩:=hz0
 unfold cu at z
 split at z
 ·rename_i hk
  obtain ⟨o,h1,h2⟩:=R.sl k _ hk
  cases h2
  refine ⟨_,h1,?_⟩
  refine TAa.then R z λm2 xs vs G2 H2 s2 w2 R2 d2 q2=>?_
  exact q2 _ _ _ s2 w2 (.cons .pen d2)
 ·exact z.elim
noncomputable def aSp (PK:Pk) (n:Nat) (f:List Sl->Tr Re):Sp:=λvs H Q _=>vs.length=n/\∃ pa m G as,Wd PK pa m G H/\ArsOk pa G vs as/\(f as).ok m λm' r=>Kr PK pa m' G H r Q
noncomputable def aE (f:List Sl->Tr Re) (as:List Sl->Tr (List Sl)):List Sl->Tr Re:=λρ=>(as ρ).bind f
noncomputable def aF (f:List Sl->Tr Re):List Sl->Tr PyData:=λρ=>(f ρ).bind λr=>.ret r.val
noncomputable def tK (PK:Pk) (i:List Sl->Tr Re):TE:=λσ H Q=>∃ pa G₀ H₀ m ρ G,Rl PK pa G₀ H₀ m σ ρ G H/\(i ρ).ok m λm' r=>Kr PK pa m' G H r Q
theorem Kr.later {pa:Addr} {m:Nat} {G H G1 H1:Hp} {r:Re} {Q:VK} (k:Kr PK pa m G H r Q) (s:Stp pa G H G1 H1) (hp:∃ o,H1 pa=some o):Kr PK pa m G1 H1 r Q:=λv G' H' s' w' d=>by
 refine k v G' H' (s.trans s' hp) w' ?_
 cases r with
 | d x=>exact d
 | own xs =>
  obtain ⟨p,vs,e,h1,h2,h3,h4⟩:=d
  refine ⟨p,vs,e,h1,h2,?_,h4⟩
  cases e:H p with
  | none=>rfl
  | some u =>
   by_cases hc:p=pa
   ·subst hc
    obtain ⟨o,z⟩:=hp
    rw [h3] at z; cases z
   ·rw [s.hk p u e hc] at h3; cases h3
theorem Kr.of {pa:Addr} {m:Nat} {G H:Hp} {r:Re} {Q:VK} (k:Kn PK pa m G H r.val Q) (hp:∃ o,H pa=some o):Kr PK pa m G H r Q:=λv G' H' s w d=>by
 cases r with
 | d x=>exact k v G' H' s w d
 | own xs =>
  obtain ⟨p,vs,rfl,h1,h2,h3,h4⟩:=d
  exact Ko1.of k hp p vs G' H' s w h3 h2 h1 h4
theorem aO {f:List Sl->Tr Re} (h:PE X e (tK PK f)):PE X e (TAe PK (aF f)):=h.imp (by
 intro σ H Q z
 obtain ⟨pa,G₀,H₀,m,ρ,G,R,z⟩:=z
 exact ⟨pa,G₀,H₀,m,ρ,G,R,Tr.ok_mono (Tr.ok_bind.mp z) λm1 r k=>Kr.of k R.wd.some⟩)
structure ACal (PK:Pk) (P:Program) (w:World) (K:PySem.W.Frag) (mg:Str->Option Value) (base:Heap) (x:Str) (k:Nat) (ps:List Str) (f:List Sl->Tr Re):Prop where
 cal:Callee P w K mg base x k ps (aSp PK ps.length f)
 len:∀ as m Z,(f as).ok m Z->as.length=ps.length
theorem aL {x:Str} {k:Nat} {ps:List Str} {f:List Sl->Tr Re} {pp:Pos} (C:ACal PK X.prog X.w X.K X.mg X.base x k ps f) (hr:Room k X.A) (hg:Gl X x) (ha:PA X (e::es) (TAa PK as))
  (hdb:(x == ("__debug__":Str))=false:=by decide)
  (he:starEach (e::es) X.env=(false,eval e X.env)::starEach es X.env:=by rfl) (hpl:(backTo pos (starEach es X.env)).any (·.1)=false:=by rfl):PE X (.Call (.Name x pp) (e::es) [] pos) (tK PK (aE f as)) :=
 (Zcc C.cal hr hg ha hdb he hpl).imp λσ H Q hz0=>by
  obtain ⟨pa,G₀,H₀,m,ρ,G,R,z⟩:=hz0
  refine TAa.then R z λm1 xs vs G1 H1 s1 w1 R1 d1 q1=>?_
  show aSp PK ps.length f (vs++[]) H1 Q E0
  rw [List.append_nil]
  exact ⟨by rw [d1.length]; exact C.len _ _ _ q1,pa,m1,G1,xs,w1,d1,Tr.ok_mono q1 λm2 r k=>Kr.later k s1 w1.some⟩
variable {PK:Pk} {X:Cx} {a b c e:Expr} {es:List Expr} {pos:Pos} {i j l:List Sl->Tr PyData} {is:List Sl->Tr (List PyData)} {as:List Sl->Tr (List Sl)} {f:List Sl->Tr Re} {p q:List Sl->Tr Bool} {st:Stmt} {sts:List Stmt} {s t u:List Sl->Tr Ou}
noncomputable def az (s t:List Sl->Tr Ou):List Sl->Tr Ou:=λρ=>(s ρ).bind λo=>match o with
 | .next ρ'=>t ρ'
 | o=>.ret o
noncomputable def fN:List Sl->Tr Ou:=λρ=>.ret (.next ρ)
theorem Ko.later {pa:Addr} {G₀ H₀ Gs G:Hp} {D:Ends} {m:Nat} {o:Ou} (k:Ko PK pa G₀ H₀ Gs D m o) (sb:Sub Gs G):Ko PK pa G₀ H₀ G D m o:=by
 cases o with
 | next ρ=>exact λσ G' H s R=>k σ G' H (λb o h=>s b o (sb b o h)) R
 | ret r=>exact k
 | brk ρ=>exact λσ G' H s R=>k σ G' H (λb o h=>s b o (sb b o h)) R
 | cont ρ=>exact λσ G' H s R=>k σ G' H (λb o h=>s b o (sb b o h)) R
theorem Sub.refl {G:Hp}:Sub G G:=λ_ _ h=>h
theorem Sub.trans {G G1 G2:Hp} (a:Sub G G1) (b:Sub G1 G2):Sub G G2:=λc o h=>b c o (a c o h)
theorem iq:PSs X [] (aV PK fN):=j9.imp λD σ H hz0=>by
 obtain ⟨pa,G₀,H₀,m,ρ,G,R,z⟩:=hz0
 exact z σ G H .refl R
theorem ZlD:∀ D σ H,aV PK (az s t) D σ H->Zav (aV PK s) (aV PK t) D σ H:=by
 rintro D σ H ⟨pa,G₀,H₀,m,ρ,G,R,z⟩
 refine ⟨pa,G₀,H₀,m,ρ,G,R,Tr.ok_mono (Tr.ok_bind.mp z) λm1 o k=>?_⟩
 cases o with
 | next ρ'=>exact λσ' G' H' sb R'=>⟨pa,G₀,H₀,m1,ρ',G',R',Tr.ok_mono k λ_ _ k'=>Ko.later k' sb⟩
 | ret r=>exact k
 | brk ρ'=>exact k
 | cont ρ'=>exact k
theorem aB (h1:PS X st (aV PK s)) (h2:PSs X sts (aV PK t)):PSs X (st::sts) (aV PK (az s t)):=(cO h1 h2).imp ZlD
theorem aQ (h1:PS X st (aV PK s)):PSs X [st] (aV PK s):=gP h1
noncomputable def ZeK:List Sl->Tr Ou:=λ_=>.fail
theorem Zlm:PS X st (aV PK ZeK):=λ_ _ _ _ _ _ h=>by
 obtain ⟨pa,G₀,H₀,m,ρ,G,R,z⟩:=h
 exact z.elim
noncomputable def bR (i:List Sl->Tr PyData):List Sl->Tr Ou:=λρ=>(i ρ).bind λx=>.ret (.ret (.d x))
theorem b6 (he:PE X e (TAe PK i)):PS X (.Return (some e) pos) (aV PK (bR i)):=(fu he).imp λD σ H hz0=>by
 obtain ⟨pa,G₀,H₀,m,ρ,G,R,z⟩:=hz0
 refine TAe.then R z λm1 x v G1 H1 s1 w1 R1 d1 q1=>?_
 exact q1 v G1 H1 R1.st w1 d1
noncomputable def ju (is:List Sl->Tr (List PyData)):List Sl->Tr Ou:=λρ=>(is ρ).bind λx=>.ret (.ret (.own x))
theorem sY (he:PE X e (c7 PK is)):PS X (.Return (some e) pos) (aV PK (ju is)):=(fu he).imp λD σ H hz0=>by
 obtain ⟨pa,G₀,H₀,m,ρ,G,R,z⟩:=hz0
 refine ⟨pa,G₀,H₀,m,ρ,G,R,Tr.ok_mono (Tr.ok_bind.mp z) λm1 xs k p vs G1 H1 s1 w1 h1 h2 h3 h4=>?_⟩
 exact k (.ref p) G1 H1 (R.st.trans s1 R.wd.some) w1 ⟨p,vs,rfl,h3,h2,R.h0 h1,h4⟩
noncomputable def tw (f:List Sl->Tr Re):List Sl->Tr Ou:=λρ=>(f ρ).bind λr=>.ret (.ret r)
theorem Zll (he:PE X e (tK PK f)):PS X (.Return (some e) pos) (aV PK (tw f)):=(fu he).imp (by
 intro D σ H z
 obtain ⟨pa,G₀,H₀,m,ρ,G,R,z⟩:=z
 exact ⟨pa,G₀,H₀,m,ρ,G,R,Tr.ok_mono (Tr.ok_bind.mp z) λm1 r k=>Kr.later k R.st R.wd.some⟩)
noncomputable def di (k:Nat):List Sl->Tr Ou:=λρ=>match ρ[k]? with
 | some (.d x)=>.ret (.ret (.d x))
 | some (.own xs)=>.ret (.ret (.own xs))
 | _=>.fail
theorem ir {k:Nat} (he:PE X e (eC k)):PS X (.Return (some e) pos) (aV PK (di k)):=(fu he).imp λD σ H hz0=>by
 obtain ⟨pa,G₀,H₀,m,ρ,G,R,z⟩:=hz0
 unfold di at z
 split at z
 ·rename_i x hx
  obtain ⟨o,h1,h2⟩:=R.sl k _ hx
  cases h2 with
  | d d1=>exact ⟨_,h1,z _ G H R.st R.wd d1⟩
 ·rename_i xs hx
  obtain ⟨o,h1,h2⟩:=R.sl k _ hx
  cases h2 with
  | own a1 a2 a3 a4=>exact ⟨_,h1,z _ G H R.st R.wd ⟨_,_,rfl,a1,a2,a3,a4⟩⟩
 ·exact z.elim
noncomputable def fP (p:List Sl->Tr Bool) (s t:List Sl->Tr Ou):List Sl->Tr Ou:=λρ=>(p ρ).bind λx=>if x=true then s ρ else t ρ
theorem iu {xs ys:List Stmt} (hc:PT X c (TAt PK p)) (ha:PSs X xs (aV PK s)) (hb:PSs X ys (aV PK t)):PS X (.If c xs ys pos) (aV PK (fP p s t)):=(kb hc ha hb).imp λD σ H hz0=>by
 obtain ⟨pa,G₀,H₀,m,ρ,G,R,z⟩:=hz0
 refine TAt.then R z λm1 x G1 H1 s1 w1 R1 q1=>?_
 cases x with
 | true=>rw [if_pos rfl] at q1 ⊢; exact ⟨pa,G₀,H₀,m1,ρ,G1,R1,Tr.ok_mono q1 λ_ _ k'=>Ko.later k' s1.gs⟩
 | false=>rw [if_neg Bool.false_ne_true] at q1 ⊢; exact ⟨pa,G₀,H₀,m1,ρ,G1,R1,Tr.ok_mono q1 λ_ _ k'=>Ko.later k' s1.gs⟩
noncomputable def aW (k:Nat) (i:List Sl->Tr PyData):List Sl->Tr Ou:=λρ=>(i ρ).bind λx=>.ret (.next (ρ.set k (.d x)))
theorem ba {k:Nat} (h:PS X st (ce (TAe PK i) (cp k))):PS X st (aV PK (aW k i)):=h.imp λD σ H hz0=>by
 obtain ⟨pa,G₀,H₀,m,ρ,G,R,z⟩:=hz0
 refine TAe.then R z λm1 x v G1 H1 s1 w1 R1 d1 q1=>?_
 exact q1 _ G1 H1 s1.gs (R1.set d1 k)
noncomputable def iB (k:Nat) (is:List Sl->Tr (List PyData)):List Sl->Tr Ou:=λρ=>(is ρ).bind λx=>.ret (.next (ρ.set k (.own x)))
theorem sX {k:Nat} (h:PS X st (ce (c7 PK is) (cp k))):PS X st (aV PK (iB k is)):=h.imp λD σ H hz0=>by
 obtain ⟨pa,G₀,H₀,m,ρ,G,R,z⟩:=hz0
 refine ⟨pa,G₀,H₀,m,ρ,G,R,Tr.ok_mono (Tr.ok_bind.mp z) λm1 xs k' p vs G1 H1 s1 w1 h1 h2 h3 h4=>?_⟩
 exact k' _ G1 H1 s1.gs ((R.step s1 w1).setO h3 h2 (R.h0 h1) h4 (λn ys e=>R.apart h1 n ys e) k)
noncomputable def jw (f:PyData->PyData->Option PyData) (k:Nat) (i:List Sl->Tr PyData):List Sl->Tr Ou:=λρ=>(aa k ρ).bind λx=>(i ρ).bind λy=>(Tr.of (f x y)).bind λz=>.ret (.next (ρ.set k (.d z)))
theorem Zeu {k:Nat} {r:R2} {g:PyData->PyData->Option PyData} (hv:cz r g) (h:PS X st (ZaC k (TAe PK i) r)):PS X st (aV PK (jw g k i)):=h.imp λD σ H hz0=>by
 obtain ⟨pa,G₀,H₀,m,ρ,G,R,z⟩:=hz0
 unfold jw aa at z
 split at z
 ·rename_i x hx
  obtain ⟨o,h1,h2⟩:=R.sl k _ hx
  cases h2 with
  | d d0 =>
   refine ⟨_,h1,?_⟩
   refine TAe.then R z λm1 y v G1 H1 s1 w1 R1 d1 q1=>?_
   rw [Tr.ok_bind] at q1
   obtain ⟨w,hw,q1⟩:=Tr.ok_of q1
   refine hv PK pa m1 G1 H1 _ v x y w _ w1 (d0.mono s1.gs) d1 hw λu G2 H2 s2 w2 d2=>?_
   exact q1 _ G2 H2 (s1.gs.trans s2.gs) ((R1.step s2 w2).set d2 k)
 ·exact z.elim
noncomputable def gy (k:Nat) (i:List Sl->Tr PyData):List Sl->Tr Ou:=λρ=>match ρ[k]? with
 | some (.own xs)=>(i ρ).bind λx=>if small (xs.length+1)=true then .ret (.next (ρ.set k (.own (xs++[x])))) else .fail
 | _=>.fail
theorem DnAll.snoc {H:Hp} {vs:List V} {ds:List PyData} {v:V} {d:PyData} (h:DnAll H vs ds) (h1:Dn H v d):DnAll H (vs++[v]) (ds++[d]):=h.append (.cons h1 .nil)
theorem Zev {k:Nat} {K:PySem.W.Frag} {st:Stmt} (h:PS X st (mC (tBM K "list" ZbQ (eC k) (dP (TAe PK i) aT)))):PS X st (aV PK (gy k i)):=h.imp λD σ H hz0=>by
 obtain ⟨pa,G₀,H₀,m,ρ,G,R,z⟩:=hz0
 unfold gy at z
 split at z
 ·rename_i xs hx
  obtain ⟨o,h1,h2⟩:=R.sl k _ hx
  cases h2 with
  | @own p vs _ a1 a2 a3 a4 =>
   refine ⟨_,h1,.inl ⟨rfl,_,SqL.of a1⟩,?_⟩
   refine TAe.then R z λm1 x v G1 H1 s1 w1 R1 d1 q1=>?_
   obtain ⟨hs,q1⟩:=dC q1
   obtain ⟨o,h1',h2⟩:=R1.sl k _ hx
   rw [h1] at h1'
   cases h1'
   cases h2 with
   | @own _ vs1 _ b1 b2 b3 b4 =>
    have hs':xs.length+1<=sizeLine:=of_decide_eq_true hs
    refine ⟨p,vs1,v,rfl,rfl,b1,by rw [b4.length]; omega,?_⟩
    exact q1 σ G1 _ s1.gs (R1.change hx h1 (b4.snoc d1))
 ·exact z.elim
theorem DnAll.set {H:Hp}:∀ {vs:List V} {ds:List PyData} {v:V} {d:PyData} (n:Nat),DnAll H vs ds->Dn H v d->DnAll H (vs.set n v) (ds.set n d)
 | _,_,_,_,_,.nil,_=>.nil
 | _,_,_,_,0,.cons _ t,h=>.cons h t
 | _,_,_,_,n+1,.cons g t,h=>.cons g (DnAll.set n t h)
noncomputable def lW (k:Nat) (n i:List Sl->Tr PyData):List Sl->Tr Ou:=λρ=>(i ρ).bind λx=>match ρ[k]? with
 | some (.own xs)=>(n ρ).bind λy=>match y with
  | .int y=>(Tr.of (bB xs.length y)).bind λt=>.ret (.next (ρ.set k (.own (xs.set t x))))
  | _=>.fail
 | _=>.fail
theorem Zli {k:Nat} {n:List Sl->Tr PyData} (h:PS X st (ce (TAe PK i) (oV (eC k) (TAe PK n) nw))):PS X st (aV PK (lW k n i)):=h.imp λD σ H hz0=>by
 obtain ⟨pa,G₀,H₀,m,ρ,G,R,z⟩:=hz0
 refine TAe.then R z λm1 x v G1 H1 s1 w1 R1 d1 q1=>?_
 split at q1
 ·rename_i xs hx
  obtain ⟨o,h1,h2⟩:=R1.sl k _ hx
  cases h2 with
  | @own p vs _ a1 a2 a3 a4 =>
   refine ⟨_,h1,?_⟩
   refine TAe.then R1 q1 λm2 y u G2 H2 s2 w2 R2 d2 q2=>?_
   obtain ⟨o,h1',h2⟩:=R2.sl k _ hx
   rw [h1] at h1'
   cases h1'
   cases h2 with
   | @own _ vs2 _ b1 b2 b3 b4 =>
    cases d2 with
    | int y =>
     rw [Tr.ok_bind] at q2
     obtain ⟨n',hn,q2⟩:=Tr.ok_of q2
     refine ⟨p,vs2,y,n',rfl,rfl,b1,by rw [b4.length]; exact hn,?_⟩
     exact q2 σ G2 _ (s1.gs.trans s2.gs) (R2.change hx h1 (b4.set n' (d1.mono s2.gs)))
    | _=>exact q2.elim
 ·exact q1.elim
theorem DnAll.reverse {H:Hp} {vs:List V} {ds:List PyData} (h:DnAll H vs ds):DnAll H vs.reverse ds.reverse:=by
 induction vs generalizing ds with
 | nil=>cases h; exact .nil
 | cons v vs ih=>cases h with | cons r t=>rw [List.reverse_cons,List.reverse_cons]; exact DnAll.append (ih t) (.cons r .nil)
noncomputable def lX (k:Nat):List Sl->Tr Ou:=λρ=>match ρ[k]? with
 | some (.own xs)=>.ret (.next (ρ.set k (.own xs.reverse)))
 | _=>.fail
theorem Zlk {k:Nat} {K:PySem.W.Frag} (h:PS X st (mC (ZaA K "list" ZbA (eC k)))):PS X st (aV PK (lX k)):=h.imp λD σ H hz0=>by
 obtain ⟨pa,G₀,H₀,m,ρ,G,R,z⟩:=hz0
 unfold lX at z
 split at z
 ·rename_i xs hx
  obtain ⟨o,h1,h2⟩:=R.sl k _ hx
  cases h2 with
  | @own p vs _ a1 a2 a3 a4 =>
   refine ⟨_,h1,.inl ⟨rfl,_,SqL.of a1⟩,p,vs,rfl,rfl,a1,?_⟩
   exact z σ G _ .refl (R.change hx h1 a4.reverse)
 ·exact z.elim
noncomputable def lZ (k:Nat) (s:List Sl->Tr Ou):List Sl->Tr Ou:=λρ=>s (fz k ρ)
theorem Zet {k:Nat} (h:PS X st (aV PK s)):PS X st (aV PK (lZ k s)):=h.imp λD σ H hz0=>by
 obtain ⟨pa,G₀,H₀,m,ρ,G,R,z⟩:=hz0
 obtain ⟨G',sb,R'⟩:=R.freeze k
 exact ⟨pa,G₀,H₀,m,_,G',R',Tr.ok_mono z λ_ _ k'=>Ko.later k' sb⟩
noncomputable def ck (PK:Pk) (g:PyData->List Sl->Option (List Sl)):TG:=λv σ H Q=>∃ pa G₀ H₀ m ρ G x ρ',Rl PK pa G₀ H₀ m σ ρ G H/\Dn G v x/\g x ρ=some ρ'/\∀ σ',Rl PK pa G₀ H₀ m σ' ρ' G H->Q σ' H
noncomputable def l6 (PK:Pk) (g:List PyData->List Sl->Option (List Sl)):fg:=λvs σ H Q=>∃ pa G₀ H₀ m ρ G xs ρ',Rl PK pa G₀ H₀ m σ ρ G H/\DnAll G vs xs/\g xs ρ=some ρ'/\∀ σ',Rl PK pa G₀ H₀ m σ' ρ' G H->Q σ' H
theorem PG.imp {tg:Expr} {t t':TG} (h:PG X tg t) (q:∀ v σ H Q,t' v σ H Q->t v σ H Q):PG X tg t':=λpins s σ H v u Q I r z=>h pins s σ H v u Q I r (q v σ H Q z)
theorem PGs.imp {tg:List Expr} {t t':fg} (h:PGs X tg t) (q:∀ v σ H Q,t' v σ H Q->t v σ H Q):PGs X tg t':=λpins s σ H v u Q I r z=>h pins s σ H v u Q I r (q v σ H Q z)
noncomputable def am (k:Nat):PyData->List Sl->Option (List Sl):=λx ρ=>some (ρ.set k (.d x))
theorem aM {k:Nat} (h:PG X e (cp k)):PG X e (ck PK (am k)):=h.imp λv σ H Q hz0=>by
 obtain ⟨pa,G₀,H₀,m,ρ,G,x,ρ',R,d,e,q⟩:=hz0
 cases e
 exact q _ (R.set d k)
noncomputable def bw:List PyData->List Sl->Option (List Sl):=λxs ρ=>match xs with
 | []=>some ρ
 | _=>none
noncomputable def aH (g:PyData->List Sl->Option (List Sl)) (gs:List PyData->List Sl->Option (List Sl)):List PyData->List Sl->Option (List Sl):=λxs ρ=>match xs with
 | x::xs=>(g x ρ).bind λρ'=>gs xs ρ'
 | []=>none
theorem cX:PGs X [] (l6 PK bw):=Zg7.imp λvs σ H Q hz0=>by
 obtain ⟨pa,G₀,H₀,m,ρ,G,xs,ρ',R,d,e,q⟩:=hz0
 cases d with
 | nil=>cases e; exact ⟨rfl,q _ R⟩
 | cons _ _=>cases e
theorem bD {g:PyData->List Sl->Option (List Sl)} {gs:List PyData->List Sl->Option (List Sl)} (h1:PG X e (ck PK g)) (h2:PGs X es (l6 PK gs))
  (hs:(assignEach (e::es) X.env).map (·.2)=assign e X.env::(assignEach es X.env).map (·.2):=by rfl):PGs X (e::es) (l6 PK (aH g gs)):=(Zg8 h1 h2 hs).imp λvs σ H Q hz0=>by
 obtain ⟨pa,G₀,H₀,m,ρ,G,xs,ρ',R,d,e,q⟩:=hz0
 cases d with
 | nil=>cases e
 | cons d1 d2 =>
  have e':(g _ ρ).bind (λρ'=>gs _ ρ')=some ρ':=e
  cases h:g _ ρ with
  | none=>rw [h] at e'; cases e'
  | some ρ1 =>
   rw [h] at e'
   exact ⟨_,_,rfl,pa,G₀,H₀,m,ρ,G,_,ρ1,R,d1,h,λσ1 R1=>⟨pa,G₀,H₀,m,ρ1,G,_,ρ',R1,d2,e',q⟩⟩
noncomputable def bz (gs:List PyData->List Sl->Option (List Sl)):PyData->List Sl->Option (List Sl):=λx ρ=>match x with
 | .tuple xs=>gs xs ρ
 | _=>none
noncomputable def li (n:Nat) (gs:List PyData->List Sl->Option (List Sl)):Prop:=∀ xs ρ ρ',gs xs ρ=some ρ'->xs.length=n
theorem cT:li 0 bw:=λxs ρ ρ' h=>by cases xs with | nil=>rfl | cons _ _=>cases h
theorem bC {n:Nat} {g:PyData->List Sl->Option (List Sl)} {gs:List PyData->List Sl->Option (List Sl)} (h:li n gs):li (n+1) (aH g gs):=λxs ρ ρ' e=>by
 cases xs with
 | nil=>cases e
 | cons x xs =>
  have e':(g x ρ).bind (λρ'=>gs xs ρ')=some ρ':=e
  cases h1:g x ρ with
  | none=>rw [h1] at e'; cases e'
  | some ρ1 =>
   rw [h1] at e'
   exact congrArg (·+1) (h xs ρ1 ρ' e')
theorem cY {k:Nat} {gs:List PyData->List Sl->Option (List Sl)} {n:Nat} (hc:X.calm=true) (h:PGs X es (l6 PK gs)) (hl:li n gs)
  (hn:(assignEach es X.env).length=n:=by rfl) (hst:(assignEach es X.env).findIdx? (·.1)=none:=by rfl):PG X (.Tuple es k pos) (ck PK (bz gs)):=(Zg9 hc h hn hst).imp λv σ H Q hz0=>by
 obtain ⟨pa,G₀,H₀,m,ρ,G,x,ρ',R,d,e,q⟩:=hz0
 cases d with
 | tup h1 h2=>exact ⟨_,_,rfl,SqT.of (R.wd.sub _ _ h1),by rw [h2.length]; exact hl _ _ _ e,pa,G₀,H₀,m,ρ,G,_,ρ',R,h2,e,q⟩
 | _=>cases e
noncomputable def iF (g:PyData->List Sl->Option (List Sl)) (i:List Sl->Tr PyData):List Sl->Tr Ou:=λρ=>(i ρ).bind λx=>(Tr.of (g x ρ)).bind λρ'=>.ret (.next ρ')
theorem lN {g:PyData->List Sl->Option (List Sl)} (h:PS X st (ce (TAe PK i) (ck PK g))):PS X st (aV PK (iF g i)):=h.imp λD σ H hz0=>by
 obtain ⟨pa,G₀,H₀,m,ρ,G,R,z⟩:=hz0
 refine TAe.then R z λm1 x v G1 H1 s1 w1 R1 d1 q1=>?_
 rw [Tr.ok_bind] at q1
 obtain ⟨ρ',hg,q1⟩:=Tr.ok_of q1
 exact ⟨pa,G₀,H₀,m1,ρ,G1,x,ρ',R1,d1,hg,λσ' R'=>q1 σ' G1 H1 s1.gs R'⟩
noncomputable def gw (k n:Nat) (is:List Sl->Tr (List PyData)):List Sl->Tr Ou:=λρ=>(is ρ).bind λxs=>match xs with
 | [x,y]=>.ret (.next ((ρ.set k (.d x)).set n (.d y)))
 | _=>.fail
theorem lM {k n:Nat} (h:PS X st (Zaw k n (TAd PK is))):PS X st (aV PK (gw k n is)):=h.imp λD σ H hz0=>by
 obtain ⟨pa,G₀,H₀,m,ρ,G,R,z⟩:=hz0
 refine TAd.then R z λm1 xs vs G1 H1 s1 w1 R1 d1 q1=>?_
 split at q1
 ·cases d1 with
  | cons e1 d1 =>
   cases d1 with
   | cons e2 d1 =>
    cases d1
    exact ⟨_,_,rfl,q1 _ G1 H1 s1.gs ((R1.set e1 k).set e2 n)⟩
 ·exact q1.elim
noncomputable def fS (PK:Pk) (pa:Addr) (J:It) (G:Hp) (xs:List PyData):Prop:=∀ m G2 H2,Sub G G2->Wd PK pa m G2 H2 ->
 (∀ (n:Nat) (d:PyData),xs[n]?=some d->J.go n H2/\∀ x H3,J.yld n H2 x H3->∃ G3,Stp pa G2 H2 G3 H3/\Wd PK pa m G3 H3/\Dn G3 x d)/\J.stop xs.length H2
noncomputable def bX (PK:Pk) (is:List Sl->Tr (List PyData)):TI:=λσ H R=>∃ pa G₀ H₀ m ρ G,Rl PK pa G₀ H₀ m σ ρ G H/\(is ρ).ok m λm' xs=>∀ J G' H',Stp pa G H G' H'->Wd PK pa m' G' H'->fS PK pa J G' xs->R J H'
theorem PI.imp {tg iter:Expr} {t t':TI} (h:PI X tg iter t) (q:∀ σ H R,t' σ H R->t σ H R):PI X tg iter t':=λpins s σ H R I z=>h pins s σ H R I (q σ H R z)
noncomputable def b9 (g:PyData->List Sl->Option (List Sl)) (s:List Sl->Tr Ou):List PyData->List Sl->Tr Ou
 | [],ρ=>.ret (.next ρ)
 | x::xs,ρ=>(Tr.of (g x ρ)).bind λρ1=>(s ρ1).bind λo=>match o with
  | .next ρ2=>b9 g s xs ρ2
  | .cont ρ2=>b9 g s xs ρ2
  | .brk ρ2=>.ret (.next ρ2)
  | .ret r=>.ret (.ret r)
noncomputable def c6 (is:List Sl->Tr (List PyData)) (g:PyData->List Sl->Option (List Sl)) (s:List Sl->Tr Ou):List Sl->Tr Ou:=λρ=>(is ρ).bind λxs=>b9 g s xs ρ
theorem dL {tg iter:Expr} {body:List Stmt} {g:PyData->List Sl->Option (List Sl)} (hp:PassesOwn (model X.prog X.w) X.A X.env X.xe) (hc:X.calm=true) (hi:PI X tg iter (bX PK is)) (hg:PG X tg (ck PK g)) (hb:PSs X body (aV PK s))
  (hs:∀ x,foldedSetIterable iter X.env x=pure x:=by intro _; rfl):PS X (.For tg iter body [] pos) (aV PK (c6 is g s)):=(ZgS hp hc hi hg hb hs).imp λD σ H hz0=>by
 obtain ⟨pa,G₀,H₀,m,ρ,G,R,z⟩:=hz0
 refine ⟨pa,G₀,H₀,m,ρ,G,R,Tr.ok_mono (Tr.ok_bind.mp z) λm1 xs k J G1 H1 s1 w1 jo=>?_⟩
 let W:Nat->Nat->St->Hp->Prop:=λn mm σ H=>mm=xs.length - n/\n<=xs.length/\∃ m ρ G,Sub G1 G/\Rl PK pa G₀ H₀ m σ ρ G H/\(b9 g s (xs.drop n) ρ).ok m (Ko PK pa G₀ H₀ G1 D)
 refine ⟨W,⟨xs.length,rfl,Nat.zero_le _,m1,ρ,G1,λ_ _ h=>h,R.step s1 w1,Tr.ok_mono k λ_ _ k'=>Ko.later k' s1.gs⟩,?_⟩
 rintro n mm σ2 H2 ⟨rfl,hn,m2,ρ2,G2,sb,R2,k2⟩
 obtain ⟨j1,j2⟩:=jo m2 G2 H2 sb R2.wd
 by_cases hlt:n < xs.length
 ·have hx:xs[n]?=some xs[n]:=by simp [hlt]
  obtain ⟨jg,jy⟩:=j1 n _ hx
  refine .inr ⟨jg,W (n+1) (xs.length - (n+1)),λσ' H' h'=>⟨_,by omega,h'⟩,λx H3 y=>?_⟩
  obtain ⟨G3,s3,w3,d3⟩:=jy x H3 y
  rw [List.drop_eq_getElem_cons hlt] at k2
  unfold b9 at k2
  rw [Tr.ok_bind] at k2
  obtain ⟨ρ3,hg3,k3⟩:=Tr.ok_of k2
  refine ⟨pa,G₀,H₀,m2,ρ2,G3,_,ρ3,R2.step s3 w3,d3,hg3,λσ4 R4=>?_⟩
  refine ⟨pa,G₀,H₀,m2,ρ3,G3,R4,Tr.ok_mono (Tr.ok_bind.mp k3) λm5 o ko=>?_⟩
  have again:∀ ρ5,(b9 g s (xs.drop (n+1)) ρ5).ok m5 (Ko PK pa G₀ H₀ G1 D)->∀ σ5 G5 H5,Sub G3 G5->Rl PK pa G₀ H₀ m5 σ5 ρ5 G5 H5->W (n+1) (xs.length - (n+1)) σ5 H5:=λρ5 k5 σ5 G5 H5 sb5 R5 =>
   ⟨rfl,hlt,m5,ρ5,G5,(sb.trans s3.gs).trans sb5,R5,k5⟩
  cases o with
  | next ρ5=>exact again ρ5 ko
  | cont ρ5=>exact again ρ5 ko
  | brk ρ5=>exact λσ5 G5 H5 sb5 R5=>ko σ5 G5 H5 ((sb.trans s3.gs).trans sb5) R5
  | ret r=>exact ko
 ·have e:n=xs.length:=by omega
  subst e
  refine .inl ⟨j2,?_⟩
  rw [List.drop_length] at k2
  exact k2 σ2 G2 H2 sb R2
variable {PK:Pk} {X:Cx} {a b c e:Expr} {es:List Expr} {pos:Pos} {i j l:List Sl->Tr PyData} {is:List Sl->Tr (List PyData)} {as:List Sl->Tr (List Sl)} {f:List Sl->Tr Re} {p q:List Sl->Tr Bool} {st:Stmt} {sts:List Stmt} {s t u:List Sl->Tr Ou}
noncomputable def cM (p:List Sl->Tr Bool) (s:List Sl->Tr Ou):Nat->List Sl->Tr Ou
 | 0,_=>.fail
 | n+1,ρ=>(p ρ).bind λb=>if b=true then (s ρ).bind λo=>match o with
   | .next ρ2=>cM p s n ρ2
   | .cont ρ2=>cM p s n ρ2
   | .brk ρ2=>.ret (.next ρ2)
   | .ret r=>.ret (.ret r)
  else .ret (.next ρ)
theorem Zep {body:List Stmt} (n:Nat) (hp:PassesOwn (model X.prog X.w) X.A X.env X.xe) (hc:PT X c (TAt PK p)) (hb:PSs X body (aV PK s)):PS X (.While c body [] pos) (aV PK (cM p s n)):=(ZgP hp hc hb).imp λD σ H hz0=>by
 obtain ⟨pa,G₀,H₀,m,ρ,G,R,z⟩:=hz0
 let W:Nat->St->Hp->Prop:=λn σ H=>∃ m ρ G1,Sub G G1/\Rl PK pa G₀ H₀ m σ ρ G1 H/\(cM p s n ρ).ok m (Ko PK pa G₀ H₀ G D)
 refine ⟨W,⟨n,m,ρ,G,.refl,R,z⟩,?_⟩
 rintro n σ2 H2 ⟨m2,ρ2,G2,sb,R2,k2⟩
 cases n with
 | zero=>exact k2.elim
 | succ n =>
  unfold cM at k2
  refine TAt.then R2 k2 λm3 x G3 H3 s3 w3 R3 k3=>?_
  cases x with
  | false =>
   rw [if_neg Bool.false_ne_true] at k3 ⊢
   exact k3 σ2 G3 H3 (sb.trans s3.gs) R3
  | true =>
   rw [if_pos rfl] at k3 ⊢
   refine ⟨W n,λσ' H' h=>⟨n,by omega,h⟩,pa,G₀,H₀,m3,ρ2,G3,R3,Tr.ok_mono (Tr.ok_bind.mp k3) λm4 o ko=>?_⟩
   have again:∀ ρ5,(cM p s n ρ5).ok m4 (Ko PK pa G₀ H₀ G D)->∀ σ5 G5 H5,Sub G3 G5->Rl PK pa G₀ H₀ m4 σ5 ρ5 G5 H5->W n σ5 H5:=λρ5 k5 σ5 G5 H5 sb5 R5 =>
    ⟨m4,ρ5,G5,(sb.trans s3.gs).trans sb5,R5,k5⟩
   cases o with
   | next ρ5=>exact again ρ5 ko
   | cont ρ5=>exact again ρ5 ko
   | brk ρ5=>exact λσ5 G5 H5 sb5 R5=>ko σ5 G5 H5 ((sb.trans s3.gs).trans sb5) R5
   | ret r=>exact ko
noncomputable def jn:Sl->Sl
 | .own _=>.un
 | .dic _=>.un
 | .dip _=>.un
 | s=>s
noncomputable def blk (n:Nat) (ix:List Nat) (ρ:List Sl):List Sl:=List.replicate n .un++ix.map λj=>jn ((ρ[j]?).getD .un)
theorem Rl.blk {pa:Addr} {G₀ H₀ G H:Hp} {m:Nat} {σ:St} {ρ:List Sl} (R:Rl PK pa G₀ H₀ m σ ρ G H) (n:Nat) (ix:List Nat):Rl PK pa G₀ H₀ m (bV n ix σ) (blk n ix ρ) G H:=by
 have key:∀ (k:Nat) (s:Sl),(L2.blk n ix ρ)[k]?=some s->(∃ o,(bV n ix σ)[k]?=some o/\SlOk pa H₀ G H o s)/\(∀ xs,s≠.own xs)/\∀ xs,s≠.dic xs:=λk s h=>by
  unfold L2.blk at h
  unfold bV
  by_cases hk:k < n
  ·rw [List.getElem?_append_left (by simpa using hk),List.getElem?_replicate,if_pos hk] at h
   rw [List.getElem?_append_left (by simpa using hk),List.getElem?_replicate,if_pos hk]
   cases h
   exact ⟨⟨_,rfl,.un⟩,(λxs h=>by cases h),λxs h=>by cases h⟩
  ·rw [List.getElem?_append_right (by simpa using Nat.le_of_not_lt hk),List.length_replicate,List.getElem?_map] at h
   rw [List.getElem?_append_right (by simpa using Nat.le_of_not_lt hk),List.length_replicate,List.getElem?_map]
   cases hj:ix[k - n]? with
   | none=>rw [hj] at h; cases h
   | some j =>
    rw [hj] at h
    have h':jn ((ρ[j]?).getD .un)=s:=Option.some.inj h
    subst h'
    show (∃ o,some ((σ[j]?).getD none)=some o/\_)/\_
    cases hr:ρ[j]? with
    | none=>exact ⟨⟨_,rfl,.un⟩,(λxs h=>by cases h),λxs h=>by cases h⟩
    | some s' =>
     obtain ⟨o,h1,h2⟩:=R.sl j s' hr
     rw [h1]
     cases h2 with
     | un=>exact ⟨⟨_,rfl,.un⟩,(λxs h=>by cases h),λxs h=>by cases h⟩
     | d z=>exact ⟨⟨_,rfl,.d z⟩,(λxs h=>by cases h),λxs h=>by cases h⟩
     | own _ _ _ _=>exact ⟨⟨_,rfl,.un⟩,(λxs h=>by cases h),λxs h=>by cases h⟩
     | dic _ _ _ _=>exact ⟨⟨_,rfl,.un⟩,(λxs h=>by cases h),λxs h=>by cases h⟩
     | dip _ _ _ _=>exact ⟨⟨_,rfl,.un⟩,(λxs h=>by cases h),λxs h=>by cases h⟩
     | pen=>exact ⟨⟨_,rfl,.pen⟩,(λxs h=>by cases h),λxs h=>by cases h⟩
     | fn=>exact ⟨⟨_,rfl,.fn⟩,(λxs h=>by cases h),λxs h=>by cases h⟩
 refine ⟨R.wd,R.st,R.p0,λk s h=>(key k s h).1,?_,λk n' xs ys _ h1 _=>absurd rfl ((key k _ h1).2.1 xs),λk n' xs ys _ h1 _=>absurd rfl ((key k _ h1).2.2 xs)⟩
 unfold L2.blk bV
 simp
noncomputable def c8 (n:Nat) (g:PyData->List Sl->Option (List Sl)):Prop:=∀ x ρ ρ',g x ρ=some ρ'->ρ'.length=ρ.length/\∀ k,n<=k->ρ'[k]?=ρ[k]?
noncomputable def l7 (n:Nat) (g:List PyData->List Sl->Option (List Sl)):Prop:=∀ x ρ ρ',g x ρ=some ρ'->ρ'.length=ρ.length/\∀ k,n<=k->ρ'[k]?=ρ[k]?
theorem bP {n k:Nat} (h:k < n):c8 n (am k):=λx ρ ρ' e=>by
 cases e
 exact ⟨List.length_set,λj hj=>List.getElem?_set_ne (by omega)⟩
theorem gR {n:Nat}:l7 n bw:=λx ρ ρ' e=>by
 cases x with
 | nil=>cases e; exact ⟨rfl,λ_ _=>rfl⟩
 | cons _ _=>cases e
theorem dB {n:Nat} {g:PyData->List Sl->Option (List Sl)} {gs:List PyData->List Sl->Option (List Sl)} (h1:c8 n g) (h2:l7 n gs):l7 n (aH g gs):=λx ρ ρ' e=>by
 cases x with
 | nil=>cases e
 | cons x xs =>
  have e':(g x ρ).bind (λρ'=>gs xs ρ')=some ρ':=e
  cases h:g x ρ with
  | none=>rw [h] at e'; cases e'
  | some ρ1 =>
   rw [h] at e'
   obtain ⟨a1,a2⟩:=h1 x ρ ρ1 h
   obtain ⟨b1,b2⟩:=h2 xs ρ1 ρ' e'
   exact ⟨b1.trans a1,λk hk=>(b2 k hk).trans (a2 k hk)⟩
theorem gQ {n:Nat} {gs:List PyData->List Sl->Option (List Sl)} (h2:l7 n gs):c8 n (bz gs):=λx ρ ρ' e=>by
 cases x with
 | tuple xs=>exact h2 xs ρ ρ' e
 | _=>cases e
noncomputable def bh (h:PyData->Tr PyData):List PyData->Tr (List PyData)
 | []=>.ret []
 | x::xs=>(h x).bind λy=>(bh h xs).bind λys=>.ret (y::ys)
noncomputable def cj (is:List Sl->Tr (List PyData)) (n:Nat) (ix:List Nat) (g:PyData->List Sl->Option (List Sl)) (el:List Sl->Tr PyData):List Sl->Tr (List PyData):=λρ =>
 (is ρ).bind λxs=>if small xs.length=true then bh (λx=>(Tr.of (g x (blk n ix ρ))).bind el) xs else .fail
theorem Rl.weak {pa:Addr} {G₀ H₀ G H:Hp} {m:Nat} {σ:St} {ρ ρ':List Sl} (R:Rl PK pa G₀ H₀ m σ ρ' G H) (hl:ρ'.length=ρ.length) (h:∀ (k:Nat) (s:Sl),ρ[k]?=some s->s=.un\/ρ'[k]?=some s):Rl PK pa G₀ H₀ m σ ρ G H:=by
 refine ⟨R.wd,R.st,R.p0,λk s hk=>?_,hl.symm.trans R.len,λk n xs ys hkn h1 h2=>?_,λk n xs ys hkn h1 h2=>?_⟩
 ·rcases h k s hk with e | e
  ·subst e
   have hlt:k < σ.length:=by
    rw [<- R.len,hl]
    exact (List.getElem?_eq_some_iff.mp hk).1
   exact ⟨σ[k],by simp [hlt],.un⟩
  ·exact R.sl k s e
 ·rcases h k _ h1 with e | e
  ·cases e
  ·rcases h n _ h2 with e' | e'
   ·cases e'
   ·exact R.dj k n xs ys hkn e e'
 ·rcases h k _ h1 with e | e
  ·cases e
  ·rcases h n _ h2 with e' | e'
   ·cases e'
   ·exact R.dj2 k n xs ys hkn e e'
theorem on {n:Nat} {ix:List Nat} {g:PyData->List Sl->Option (List Sl)} (hn:c8 n g):∀ σ H Q,c7 PK (cj is n ix g i) σ H Q->fm (bX PK is) n ix (λ_=>ck PK g) (λ_=>TAe PK i) σ H Q:=by
 rintro σ H Q ⟨pa,G₀,H₀,m,ρ,G,R,z⟩
 refine ⟨pa,G₀,H₀,m,ρ,G,R,Tr.ok_mono (Tr.ok_bind.mp z) λm1 xs k J G1 H1 s1 w1 jo=>λB=>?_⟩
 obtain ⟨hs,k⟩:=dC k
 have hs:xs.length<=sizeLine:=of_decide_eq_true hs
 let el:PyData->Tr PyData:=λx=>(Tr.of (g x (blk n ix ρ))).bind i
 let W:Nat->Nat->St->List V->Hp->Prop:=λk mm τ ys H2=>mm=xs.length - k/\k<=xs.length/\ys.length=k/\∃ m G2 ds,Sub G1 G2/\Stp pa G H G2 H2/\Rl PK pa G₀ H₀ m τ (blk n ix ρ) G2 H2 /\
  DnAll G2 ys ds/\(bh el (xs.drop k)).ok m λm' zs=>Ko1 PK pa m' G H (ds++zs) Q
 refine ⟨W,⟨xs.length,rfl,Nat.zero_le _,rfl,m1,G1,[],.refl,s1,(R.step s1 w1).blk n ix,.nil,k⟩,?_⟩
 rintro k mm τ ys H2 ⟨rfl,hk,hy,m2,G2,ds,sb,st2,R2,dn,k2⟩
 obtain ⟨j1,j2⟩:=jo m2 G2 H2 sb R2.wd
 by_cases hlt:k < xs.length
 ·have hx:xs[k]?=some xs[k]:=by simp [hlt]
  obtain ⟨jg,jy⟩:=j1 k _ hx
  refine .inr ⟨jg,by omega,λx H3 y=>?_⟩
  obtain ⟨G3,s3,w3,d3⟩:=jy x H3 y
  rw [List.drop_eq_getElem_cons hlt] at k2
  unfold bh at k2
  rw [Tr.ok_bind,Tr.ok_bind] at k2
  obtain ⟨ρ3,hg3,k3⟩:=Tr.ok_of k2
  refine ⟨pa,G₀,H₀,m2,_,G3,_,ρ3,R2.step s3 w3,d3,hg3,λτ4 R4=>?_⟩
  refine ⟨pa,G₀,H₀,m2,ρ3,G3,R4,Tr.ok_mono k3 λm5 yd k5=>?_⟩
  intro v G5 H5 s5 w5 d5
  have s35:=s3.trans s5 w3.some
  obtain ⟨pl,pk⟩:=hn _ _ _ hg3
  refine ⟨xs.length - (k+1),by omega,rfl,hlt,by rw [List.length_append,hy]; rfl,m5,G5,ds++[yd],sb.trans s35.gs,st2.trans s35 R2.wd.some,?_,(DnAll.mono s35.gs dn).snoc d5,?_⟩
  ·refine (R4.step s5 w5).weak pl λq sl hq=>?_
   by_cases hqn:q < n
   ·left
    unfold blk at hq
    rw [List.getElem?_append_left (by simpa using hqn),List.getElem?_replicate,if_pos hqn] at hq
    cases hq
    rfl
   ·right
    rw [pk q (Nat.le_of_not_lt hqn)]
    exact hq
  ·refine Tr.ok_mono (Tr.ok_bind.mp k5) λm6 zs k6=>?_
   rw [List.append_assoc]
   exact k6
 ·have e:k=xs.length:=by omega
  subst e
  refine .inl ⟨j2,λp v H' hp ev eH=>?_⟩
  subst ev eH
  rw [List.drop_length] at k2
  have k2':Ko1 PK pa m2 G H (ds++[]) Q:=k2
  rw [List.append_nil] at k2'
  exact (Ko1.later k2' st2 R2.wd.some).new R2.wd dn hp
theorem ez {n:Nat} {ix:List Nat} {g:PyData->List Sl->Option (List Sl)} (h:PE X e (fm (bX PK is) n ix (λ_=>ck PK g) (λ_=>TAe PK i))) (hn:c8 n g):PE X e (c7 PK (cj is n ix g i)):=h.imp (on hn)
theorem jN {te te':TE} {g:TG} (h:∀ σ H Q,te' σ H Q->te σ H Q):∀ D σ H,ce te' g D σ H->ce te g D σ H:=λD σ H z=>h σ H _ z
theorem Zlh {n k:Nat} {ix:List Nat} {g:PyData->List Sl->Option (List Sl)} (h:PS X st (ce (fm (bX PK is) n ix (λ_=>ck PK g) (λ_=>TAe PK i)) (cp k))) (hn:c8 n g):PS X st (aV PK (iB k (cj is n ix g i))) :=
 sX (h.imp (jN (on hn)))
noncomputable def lp:Ou->Tr Re
 | .next _=>.ret (.d .none)
 | .ret r=>.ret r
 | _=>.fail
noncomputable def bj (n k:Nat) (s:List Sl->Tr Ou):List Sl->Tr Re:=λas=>if decide (as.length=n)=true then (s (as++List.replicate k .un)).bind lp else .fail
theorem Rl.start {pa:Addr} {G H:Hp} {m:Nat} {N:List Str} {vs:List V} {as:List Sl} {k:Nat} (w:Wd PK pa m G H) (ar:ArsOk pa G vs as) (hk:N.length - vs.length=k):Rl PK pa G H m (L2.start N vs) (as++List.replicate k .un) G H:=by
 have key:∀ {vs:List V} {as:List Sl},ArsOk pa G vs as->∀ (q:Nat) (s:Sl),as[q]?=some s->(∃ o,(vs.map some)[q]?=some o/\SlOk pa H G H o s)/\(∀ xs,s≠.own xs)/\∀ xs,s≠.dic xs:=by
  intro vs as h
  induction h with
  | nil=>intro q s h; simp at h
  | cons h1 h2 ih =>
   intro q s h
   cases q with
   | zero =>
    simp at h
    subst h
    cases h1 with
    | d z=>exact ⟨⟨_,rfl,.d z⟩,(λxs h=>by cases h),λxs h=>by cases h⟩
    | pen=>exact ⟨⟨_,rfl,.pen⟩,(λxs h=>by cases h),λxs h=>by cases h⟩
    | fn=>exact ⟨⟨_,rfl,.fn⟩,(λxs h=>by cases h),λxs h=>by cases h⟩
   | succ q =>
    obtain ⟨⟨o,p1,p2⟩,p3⟩:=ih q s (by simpa using h)
    exact ⟨⟨o,by simpa using p1,p2⟩,p3⟩
 have hl:=ar.length
 have key2:∀ (q:Nat) (s:Sl),(as++List.replicate k .un)[q]?=some s->(∃ o,(L2.start N vs)[q]?=some o/\SlOk pa H G H o s)/\(∀ xs,s≠.own xs)/\∀ xs,s≠.dic xs:=λq s h=>by
  unfold L2.start
  by_cases hq:q < as.length
  ·rw [List.getElem?_append_left hq] at h
   rw [List.getElem?_append_left (by rw [List.length_map,hl]; exact hq)]
   exact key ar q s h
  ·rw [List.getElem?_append_right (by omega),List.getElem?_replicate] at h
   rw [List.getElem?_append_right (by rw [List.length_map]; omega),List.getElem?_replicate,List.length_map,hl]
   split at h
   ·rename_i hq2
    cases h
    rw [if_pos (by omega)]
    exact ⟨⟨_,rfl,.un⟩,(λxs h=>by cases h),λxs h=>by cases h⟩
   ·cases h
 refine ⟨w,.refl,w.some,λq s h=>(key2 q s h).1,?_,λq n xs ys _ h1 _=>absurd rfl ((key2 q _ h1).2.1 xs),λq n xs ys _ h1 _=>absurd rfl ((key2 q _ h1).2.2 xs)⟩
 unfold L2.start
 simp [hl,hk]
 omega
theorem bE {P:Program} {w:World} {K:PySem.W.Frag} {mg:Str->Option Value} {base:Heap} {x:Str} {N ps:List Str} {kk k:Nat} (D:Def K mg x st ps) (S:FnScope N ps (aA st)) (hk:N.length - ps.length=k)
  (hbody:∀ (f:Addr) (cdv:Value) (A:Around) (outer:List Env) (sh:Shared) (H:Hp) (E:XK),Room kk (A.deeper (envOfC x (aA st) sh.heap.objs.size f cdv)) ->
   PSs (fK fV P w K mg base N x (aA st) f cdv A outer sh H E).nox (ff st) (aV PK s)):ACal PK P w K mg base x (kk+1) ps (bj ps.length k s):=by
 have len:∀ as m Z,(bj ps.length k s as).ok m Z->as.length=ps.length:=λas m Z h=>by
  unfold bj at h
  exact of_decide_eq_true (dC h).1
 refine ⟨D.ok S (λvs H Q E h=>h.1) λf cdv A outer sh H vs Q E hr hsp=>?_,len⟩
 obtain ⟨hv,pa,m,G,as,wd,ar,z⟩:=hsp
 refine ⟨_,hbody f cdv A outer sh H E hr,?_⟩
 unfold bj at z
 obtain ⟨_,z⟩:=dC z
 refine ⟨pa,G,H,m,_,G,Rl.start wd ar (by rw [hv]; exact hk),Tr.ok_mono (Tr.ok_bind.mp z) λm1 o ko=>?_⟩
 cases o with
 | next ρ=>exact λσ G1 H1 sb R1=>ko .non G1 H1 R1.st R1.wd .non
 | ret r=>exact ko
 | brk ρ=>exact ko.elim
 | cont ρ=>exact ko.elim
theorem Zg4 {tg l:Expr} {tl:TE} (hl:PE X l tl):PI X tg l (λσ H R=>tl σ H λx H1=>∃ a,x=.ref a/\((∃ xs,SqL X.K H1 a xs/\R (tQ X.K a) H1)\/(∃ xs,SqT X.K H1 a xs/\R (tO X.K a) H1))):=by
 intro pins s σ H R I h
 refine thn (hl pins s σ H _ I h) λv s1 hz0=>?_
 obtain ⟨x,H1,I1,r1,q1⟩:=hz0
 obtain ⟨a,e,q⟩:=q1
 subst e
 cases r1
 rcases q with ⟨xs,hq,q⟩ | ⟨xs,hq,q⟩
 ·obtain ⟨its,rv,p,hz⟩:=I1.list hq
  refine wpAny_pyIter_list p.isList ?_
  refine ⟨s1.heap.objs.size,[s1.heap.objs.size],_,_,H1,rfl,I1.kept (t':=s1.toks) λb o e=>Heap.get?_push_of_some _ e,Zfj a _,⟨_,Heap.get?_push_size _ rfl,rfl,rfl⟩,λb hb=>?_,q⟩
  have e:b=s1.heap.objs.size:=by simpa using hb
  subst e
  exact I1.fpOk (Nat.le_refl _) (I1.hok.fresh (Nat.le_refl _))
 ·obtain ⟨its,rv,p,hz⟩:=I1.tuple hq
  refine wpAny_pyIter_tuple (show s1.heap.IsTuple a its.toArray from p) ?_
  refine ⟨s1.heap.objs.size,[s1.heap.objs.size],_,_,H1,rfl,I1.kept (t':=s1.toks) λb o e=>Heap.get?_push_of_some _ e,Zfg a _,⟨_,Heap.get?_push_size _ rfl,rfl,rfl⟩,λb hb=>?_,q⟩
  have e:b=s1.heap.objs.size:=by simpa using hb
  subst e
  exact I1.fpOk (Nat.le_refl _) (I1.hok.fresh (Nat.le_refl _))
theorem DnAll.get {H:Hp}:∀ {vs:List V} {ds:List PyData} (n:Nat) {d:PyData},DnAll H vs ds->ds[n]?=some d->∃ v,vs[n]?=some v/\Dn H v d
 | _,_,_,_,.nil,e=>by simp at e
 | _,_,0,_,.cons g t,e=>by simp at e; subst e; exact ⟨_,rfl,g⟩
 | _,_,n+1,_,.cons g t,e=>by
  obtain ⟨v,h1,h2⟩:=DnAll.get n t (by simpa using e)
  exact ⟨v,by simpa using h1,h2⟩
theorem ZiB {K:PySem.W.Frag} {pa a:Addr} {G:Hp} {vs:List V} {xs:List PyData} (h:G a=some (.lst vs)) (d:DnAll G vs xs):fS PK pa (tQ K a) G xs:=λm G2 H2 sb w=>by
 have hq:SqL K H2 a vs:=SqL.of (w.sub _ _ (sb _ _ h))
 refine ⟨λn x hx=>?_,vs,hq,by rw [d.length]; exact Nat.le_refl _⟩
 obtain ⟨v,hv,dv⟩:=d.get n hx
 refine ⟨⟨vs,v,hq,hv⟩,λy H3 hz0=>?_⟩
 obtain ⟨e,hy⟩:=hz0
 subst e
 have:=hy vs hq
 rw [hv] at this
 cases this
 exact ⟨G2,.refl,w,dv.mono sb⟩
theorem Ziz {K:PySem.W.Frag} {pa a:Addr} {G:Hp} {vs:List V} {xs:List PyData} (h:G a=some (.tup vs)) (d:DnAll G vs xs):fS PK pa (tO K a) G xs:=λm G2 H2 sb w=>by
 have hq:SqT K H2 a vs:=SqT.of (w.sub _ _ (sb _ _ h))
 refine ⟨λn x hx=>?_,vs,hq,by rw [d.length]; exact Nat.le_refl _⟩
 obtain ⟨v,hv,dv⟩:=d.get n hx
 refine ⟨⟨vs,v,hq,hv⟩,λy H3 hz0=>?_⟩
 obtain ⟨e,hy⟩:=hz0
 subst e
 have:=hy vs hq
 rw [hv] at this
 cases this
 exact ⟨G2,.refl,w,dv.mono sb⟩
noncomputable def dX:PyData->Option (List PyData)
 | .list xs=>some xs
 | .tuple xs=>some xs
 | _=>none
@[simp] theorem Zl8 (xs:List PyData):dX (.list xs)=some xs:=rfl
@[simp] theorem Zl7 (xs:List PyData):dX (.tuple xs)=some xs:=rfl
noncomputable def bJ (i:List Sl->Tr PyData):List Sl->Tr (List PyData):=λρ=>(i ρ).bind λx=>Tr.of (dX x)
theorem cr {tg l:Expr} (hl:PE X l (TAe PK i)):PI X tg l (bX PK (bJ i)):=(Zg4 hl).imp λσ H R0 hz0=>by
 obtain ⟨pa,G₀,H₀,m,ρ,G,R,z⟩:=hz0
 refine TAe.then R z λm1 x v G1 H1 s1 w1 R1 d1 q1=>?_
 obtain ⟨xs,hx,q1⟩:=Tr.ok_of q1
 cases d1 with
 | lst h1 h2=>cases hx; exact ⟨_,rfl,.inl ⟨_,SqL.of (w1.sub _ _ h1),q1 _ G1 H1 s1 w1 (ZiB h1 h2)⟩⟩
 | tup h1 h2=>cases hx; exact ⟨_,rfl,.inr ⟨_,SqT.of (w1.sub _ _ h1),q1 _ G1 H1 s1 w1 (Ziz h1 h2)⟩⟩
 | _=>cases hx
noncomputable def br (lo hi:Int):List PyData:=(aq lo (hi - lo).toNat).map PyData.int
theorem ZcY {pa:Addr} {G:Hp} {lo:Int} {n:Nat}:fS PK pa (gz lo n) G ((aq lo n).map PyData.int):=λm G2 H2 sb w=>by
 refine ⟨λk x hx=>?_,by show n<=_; rw [List.length_map,dA]; exact Nat.le_refl _⟩
 have hk:k < n:=by
  have:=(List.getElem?_eq_some_iff.mp hx).1
  rwa [List.length_map,dA] at this
 refine ⟨hk,λy H3 hz0=>?_⟩
 obtain ⟨e1,e2⟩:=hz0
 subst e1 e2
 have:x=.int (lo+k):=by
  unfold aq at hx
  simp [hk] at hx
  exact hx.symm
 subst this
 exact ⟨G2,.refl,w,.int _⟩
noncomputable def dG (n:Int):Bool:=decide (-(2 ^ 62)<=n/\n < 2 ^ 62)
noncomputable def iU:List PyData->Option (List PyData)
 | [.int n]=>if dG n=true then some (br 0 n) else none
 | _=>none
noncomputable def iT:List PyData->Option (List PyData)
 | [.int k,.int n]=>if (dG k && dG n)=true then some (br k n) else none
 | _=>none
noncomputable def fO (is:List Sl->Tr (List PyData)):List Sl->Tr (List PyData):=λρ=>(is ρ).bind λxs=>Tr.of (iU xs)
noncomputable def jt (is:List Sl->Tr (List PyData)):List Sl->Tr (List PyData):=λρ=>(is ρ).bind λxs=>Tr.of (iT xs)
theorem Zgx {G:Hp} {vs:List V} {xs ys:List PyData} (d:DnAll G vs xs) (h:iU xs=some ys):∃ n:Int,vs=[.int n]/\-(2 ^ 62)<=n/\n < 2 ^ 62/\ys=br 0 n:=by
 unfold iU at h
 split at h
 ·rename_i n
  split at h
  ·rename_i hn
   cases h
   cases d with
   | cons d1 d2 =>
    cases d2
    cases d1
    have:=of_decide_eq_true hn
    exact ⟨n,rfl,this.1,this.2,rfl⟩
  ·cases h
 ·cases h
theorem Zgw {G:Hp} {vs:List V} {xs ys:List PyData} (d:DnAll G vs xs) (h:iT xs=some ys):∃ k n:Int,vs=[.int k,.int n]/\(-(2 ^ 62)<=k/\k < 2 ^ 62/\-(2 ^ 62)<=n/\n < 2 ^ 62)/\ys=br k n:=by
 unfold iT at h
 split at h
 ·rename_i k n
  split at h
  ·rename_i hn
   cases h
   cases d with
   | cons d1 d2 =>
    cases d2 with
    | cons d2 d3 =>
     cases d3
     cases d1
     cases d2
     rw [Bool.and_eq_true] at hn
     have h1:=of_decide_eq_true hn.1
     have h2:=of_decide_eq_true hn.2
     exact ⟨k,n,rfl,⟨h1.1,h1.2,h2.1,h2.2⟩,rfl⟩
  ·cases h
 ·cases h
theorem iz {tg e:Expr} (h:PI X tg e (Zc9 (TAd PK is))):PI X tg e (bX PK (fO is)):=h.imp λσ H R0 hz0=>by
 obtain ⟨pa,G₀,H₀,m,ρ,G,R,z⟩:=hz0
 refine TAd.then R z λm1 xs vs G1 H1 s1 w1 R1 d1 q1=>?_
 obtain ⟨ys,hy,q1⟩:=Tr.ok_of q1
 obtain ⟨n,e,h1,h2,rfl⟩:=Zgx d1 hy
 refine ⟨n,e,h1,h2,?_⟩
 have q:=q1 (gz 0 n.toNat) G1 H1 s1 w1
 unfold br at q
 rw [Int.sub_zero] at q
 exact q ZcY
theorem ZeD {tg e:Expr} (h:PI X tg e (Zc8 (TAd PK is))):PI X tg e (bX PK (jt is)):=h.imp λσ H R0 hz0=>by
 obtain ⟨pa,G₀,H₀,m,ρ,G,R,z⟩:=hz0
 refine TAd.then R z λm1 xs vs G1 H1 s1 w1 R1 d1 q1=>?_
 obtain ⟨ys,hy,q1⟩:=Tr.ok_of q1
 obtain ⟨k,n,e,h1,rfl⟩:=Zgw d1 hy
 exact ⟨k,n,e,h1,q1 (gz k (n - k).toNat) G1 H1 s1 w1 ZcY⟩
variable {PK:Pk} {X:Cx} {a b c e:Expr} {es:List Expr} {pos:Pos} {i j l:List Sl->Tr PyData} {is:List Sl->Tr (List PyData)}
noncomputable def fit (n:Int):Bool:=decide (n.natAbs < 2 ^ 8000)
noncomputable def aZ:PyData->PyData->Option PyData
 | .int m,.int n=>some (.int (m+n))
 | .tuple xs,.tuple ys=>if (!xs.isEmpty && small (xs.length+ys.length))=true then some (.tuple (xs++ys)) else none
 | .list xs,.list ys=>if small (xs.length+ys.length)=true then some (.list (xs++ys)) else none
 | _,_=>none
noncomputable def ZbR (K:PySem.W.Frag):R2:=λx y H Q=>db (λi j=>.int (i+j)) x y H Q\/ZbO K x y H Q\/ZbP x y H Q
theorem bG:OpR X (binaryOp .Add) (ZbR X.K):=ge.or (Zhw.or Zhx)
theorem bF {K:PySem.W.Frag}:cz (ZbR K) aZ:=λPK pa m G H x y dx dy dz Q w hx hy hz k=>by
 unfold aZ at hz
 split at hz
 ·cases hz; cases hx; cases hy
  exact .inl ⟨_,_,rfl,rfl,k.here w (.int _)⟩
 ·rename_i xs ys
  split at hz
  ·rename_i hc
   rw [Bool.and_eq_true] at hc
   have h1:xs.isEmpty=false:=by simpa using hc.1
   have h2:xs.length+ys.length<=sizeLine:=of_decide_eq_true hc.2
   cases hz
   cases hx with
   | tup a1 a2 =>
    cases hy with
    | tup b1 b2 =>
     refine .inr (.inl ⟨_,_,_,_,rfl,rfl,SqT.of (w.sub _ _ a1),SqT.of (w.sub _ _ b1),?_,by rw [a2.length,b2.length]; exact h2,λe=>?_,λe p hp=>k.tup w (a2.append b2) hp⟩)
     ·intro e
      rw [<- a2.isEmpty,e] at h1
      cases h1
     ·subst e
      cases b2
      refine k.here w ?_
      rw [List.append_nil]
      exact .tup a1 a2
  ·cases hz
 ·rename_i xs ys
  split at hz
  ·rename_i hc
   have h2:xs.length+ys.length<=sizeLine:=of_decide_eq_true hc
   cases hz
   cases hx with
   | lst a1 a2 =>
    cases hy with
    | lst b1 b2=>exact .inr (.inr ⟨_,_,_,_,rfl,rfl,w.sub _ _ a1,w.sub _ _ b1,by rw [a2.length,b2.length]; exact h2,λp hp=>k.lst w (a2.append b2) hp⟩)
  ·cases hz
 ·cases hz
noncomputable def cv:PyData->PyData->Option PyData
 | .int m,.int n=>some (.int (m - n))
 | _,_=>none
theorem cI:cz (db λi j=>.int (i - j)) cv:=λPK pa m G H x y dx dy dz Q w hx hy hz k=>by
 unfold cv at hz
 split at hz
 ·cases hz; cases hx; cases hy
  exact ⟨_,_,rfl,rfl,k.here w (.int _)⟩
 ·cases hz
theorem DnAll.rep {H:Hp} {vs:List V} {ds:List PyData} (h:DnAll H vs ds):∀ k:Nat,DnAll H (List.replicate k vs).flatten (List.replicate k ds).flatten
 | 0=>.nil
 | k+1=>by
  rw [List.replicate_succ,List.replicate_succ,List.flatten_cons,List.flatten_cons]
  exact h.append (h.rep k)
noncomputable def ZbG (K:PySem.W.Frag):R2:=λx y H Q=>rI CMulG (λi j=>.int (i * j)) x y H Q\/ZbC K x y H Q\/ZbD x y H Q
theorem b8:OpR X (binaryOp .Mult) (ZbG X.K):=Zhs.or (Zho.or Zhp)
noncomputable def bK:PyData->PyData->Option PyData
 | .int m,.int n=>if (fit m && fit n)=true then some (.int (m * n)) else none
 | .tuple xs,.int n=>if (decide (1 < n) && decide (n<=1000) && !xs.isEmpty && decide (xs.length<=1000))=true then some (.tuple (List.replicate n.toNat xs).flatten) else none
 | .list xs,.int n=>if (decide (-(2 ^ 63)<=n) && decide (n < 2 ^ 63) && small (xs.length * n.toNat))=true then some (.list (List.replicate n.toNat xs).flatten) else none
 | _,_=>none
theorem b7 {K:PySem.W.Frag}:cz (ZbG K) bK:=λPK pa m G H x y dx dy dz Q w hx hy hz k=>by
 unfold bK at hz
 split at hz
 ·split at hz
  ·rename_i hc
   rw [Bool.and_eq_true] at hc
   cases hz; cases hx; cases hy
   exact .inl ⟨_,_,rfl,rfl,⟨of_decide_eq_true hc.1,of_decide_eq_true hc.2⟩,k.here w (.int _)⟩
  ·cases hz
 ·split at hz
  ·rename_i hc
   simp only [Bool.and_eq_true,decide_eq_true_eq,Bool.not_eq_true'] at hc
   cases hz; cases hy
   cases hx with
   | tup a1 a2 =>
    refine .inr (.inl ⟨_,_,_,rfl,rfl,SqT.of (w.sub _ _ a1),hc.1.1.1,hc.1.1.2,?_,by rw [a2.length]; exact hc.2,λp hp=>k.tup w (a2.rep _) hp⟩)
    intro e
    have:=hc.1.2
    rw [<- a2.isEmpty,e] at this
    cases this
  ·cases hz
 ·split at hz
  ·rename_i hc
   simp only [Bool.and_eq_true,decide_eq_true_eq] at hc
   cases hz; cases hy
   cases hx with
   | lst a1 a2=>exact .inr (.inr ⟨_,_,_,rfl,rfl,w.sub _ _ a1,hc.1.1,hc.1.2,by rw [a2.length]; exact of_decide_eq_true hc.2,λp hp=>k.lst w (a2.rep _) hp⟩)
  ·cases hz
 ·cases hz
noncomputable def fJ:PyData->PyData->Option PyData
 | .int m,.int n=>if (decide (n≠0) && fit n)=true then some (.int (m.fdiv n)) else none
 | _,_=>none
theorem jF:cz (rI ZeX λi j=>.int (i.fdiv j)) fJ:=λPK pa m G H x y dx dy dz Q w hx hy hz k=>by
 unfold fJ at hz
 split at hz
 ·split at hz
  ·rename_i hc
   rw [Bool.and_eq_true] at hc
   cases hz; cases hx; cases hy
   exact ⟨_,_,rfl,rfl,⟨of_decide_eq_true hc.1,of_decide_eq_true hc.2⟩,k.here w (.int _)⟩
  ·cases hz
 ·cases hz
noncomputable def g9:PyData->PyData->Option PyData
 | .int m,.int n=>if decide (n≠0)=true then some (.int (m.fmod n)) else none
 | _,_=>none
theorem Zag:cz (rI (λ_ j=>j≠0) λi j=>.int (i.fmod j)) g9:=λPK pa m G H x y dx dy dz Q w hx hy hz k=>by
 unfold g9 at hz
 split at hz
 ·split at hz
  ·rename_i hc
   cases hz; cases hx; cases hy
   exact ⟨_,_,rfl,rfl,of_decide_eq_true hc,k.here w (.int _)⟩
  ·cases hz
 ·cases hz
noncomputable def kc:PyData->PyData->Option PyData
 | .int m,.int n=>if (decide (0<=n) && decide (n<=1000000) && decide (m.natAbs < 2 ^ 64))=true then some (.int (m ^ n.toNat)) else none
 | _,_=>none
theorem Ze5:cz (rI ZeW λi j=>.int (i ^ j.toNat)) kc:=λPK pa m G H x y dx dy dz Q w hx hy hz k=>by
 unfold kc at hz
 split at hz
 ·split at hz
  ·rename_i hc
   simp only [Bool.and_eq_true,decide_eq_true_eq] at hc
   cases hz; cases hx; cases hy
   exact ⟨_,_,rfl,rfl,⟨hc.1.1,hc.1.2,hc.2⟩,k.here w (.int _)⟩
  ·cases hz
 ·cases hz
noncomputable def eN (i:List Sl->Tr PyData):List Sl->Tr PyData:=λρ=>(i ρ).bind λx=>match x with
 | .int n=>.ret (.int (-n))
 | _=>.fail
theorem gv (ha:PE X a (TAe PK i)):PE X (.UnaryOp .USub a pos) (TAe PK (eN i)):=(Zhb Zfd ha).imp λσ H Q hz0=>by
 obtain ⟨pa,G₀,H₀,m,ρ,G,R,z⟩:=hz0
 refine TAe.then R z λm1 x v G1 H1 s1 w1 R1 d1 q1=>?_
 cases d1 with
 | int n=>exact ⟨n,rfl,(Kn.later q1 s1 w1.some).here w1 (.int _)⟩
 | _=>exact q1.elim
noncomputable def eh (f:Int->Int->Bool):PyData->PyData->Option PyData
 | .int m,.int n=>some (.bool (f m n))
 | _,_=>none
theorem fj {f:Int->Int->Bool}:cz (db λi j=>.bl (f i j)) (eh f):=λPK pa m G H x y dx dy dz Q w hx hy hz k=>by
 unfold eh at hz
 split at hz
 ·cases hz; cases hx; cases hy
  exact ⟨_,_,rfl,rfl,k.here w (.bl _)⟩
 ·cases hz
noncomputable def gt:PyData->PyData->Option PyData
 | .str m,.str n=>some (.bool (m == n))
 | x,y=>if (SeqAt.shaped x && SeqAt.shaped y)=true then some (.bool (PyData.eqv x y)) else none
noncomputable def gW:PyData->PyData->Option PyData
 | .str m,.str n=>some (.bool (!(m == n)))
 | x,y=>if (SeqAt.shaped x && SeqAt.shaped y)=true then some (.bool (!PyData.eqv x y)) else none
noncomputable def ZbL:R2:=λx y H Q=>rEq x y H Q\/∃ d e,Dn H x d/\Dn H y e/\SeqAt.shaped d=true/\SeqAt.shaped e=true/\Q (.bl (PyData.eqv d e)) H
noncomputable def ZbE:R2:=λx y H Q=>rNe x y H Q\/∃ d e,Dn H x d/\Dn H y e/\SeqAt.shaped d=true/\SeqAt.shaped e=true/\Q (.bl (!PyData.eqv d e)) H
theorem Zcj {k:Nat} (hr:Room k X.A):OpR X (compareOp .Eq) ZbL:=Zhv.or (Zhu hr)
theorem Zcg {k:Nat} (hr:Room k X.A):OpR X (compareOp .NotEq) ZbE:=Zhr.or (Zhq hr)
theorem Zah:cz ZbL gt:=λPK pa m G H x y dx dy dz Q w hx hy hz k=>by
 unfold gt at hz
 split at hz
 ·cases hz; cases hx; cases hy
  exact .inl ⟨rfl,by rw [lB]; exact k.here w (.bl _)⟩
 ·split at hz
  ·rename_i hc
   rw [Bool.and_eq_true] at hc
   cases hz
   exact .inr ⟨_,_,hx.mono w.sub,hy.mono w.sub,hc.1,hc.2,k.here w (.bl _)⟩
  ·cases hz
theorem Zaf:cz ZbE gW:=λPK pa m G H x y dx dy dz Q w hx hy hz k=>by
 unfold gW at hz
 split at hz
 ·cases hz; cases hx; cases hy
  exact .inl ⟨rfl,by rw [lB]; exact k.here w (.bl _)⟩
 ·split at hz
  ·rename_i hc
   rw [Bool.and_eq_true] at hc
   cases hz
   exact .inr ⟨_,_,hx.mono w.sub,hy.mono w.sub,hc.1,hc.2,k.here w (.bl _)⟩
  ·cases hz
noncomputable def aJ:PyData->PyData->Option PyData
 | .list xs,.int n=>bv xs n
 | .tuple xs,.int n=>bv xs n
 | _,_=>none
theorem DnAll.at {H:Hp} {vs:List V} {ds:List PyData} {n:Int} {d:PyData} (h:DnAll H vs ds) (e:bv ds n=some d):∃ v,bv vs n=some v/\Dn H v d:=by
 unfold bv at e ⊢
 rw [<- h.length] at e
 cases hn:bB vs.length n with
 | none=>rw [hn] at e; cases e
 | some j =>
  rw [hn] at e
  exact h.get j e
theorem bb {K:PySem.W.Frag}:cz (rIx K) aJ:=λPK pa m G H x y dx dy dz Q w hx hy hz k=>by
 unfold aJ at hz
 split at hz
 ·cases hy
  cases hx with
  | lst a1 a2 =>
   obtain ⟨v,h1,h2⟩:=a2.at hz
   exact .inl ⟨_,_,_,v,rfl,rfl,SqL.of (w.sub _ _ a1),h1,k.here w h2⟩
 ·cases hy
  cases hx with
  | tup a1 a2 =>
   obtain ⟨v,h1,h2⟩:=a2.at hz
   exact .inr (.inl ⟨_,_,_,v,rfl,rfl,SqT.of (w.sub _ _ a1),h1,k.here w h2⟩)
 ·cases hz
noncomputable def je:List PyData->Option PyData
 | [.list xs]=>some (.int xs.length)
 | [.tuple xs]=>some (.int xs.length)
 | _=>none
theorem Ze8 {K:PySem.W.Frag}:eB (λxs H Q=>∃ p ys,xs=[.ref p]/\(SqL K H p ys\/SqT K H p ys)/\Q (.int ys.length) H) je:=λPK pa m G H vs ds d Q w hv hd k=>by
 unfold je at hd
 split at hd
 ·cases hd
  cases hv with
  | cons h1 h2 =>
   cases h2
   cases h1 with
   | lst a1 a2=>exact ⟨_,_,rfl,.inl (SqL.of (w.sub _ _ a1)),by rw [a2.length]; exact k.here w (.int _)⟩
 ·cases hd
  cases hv with
  | cons h1 h2 =>
   cases h2
   cases h1 with
   | tup a1 a2=>exact ⟨_,_,rfl,.inr (SqT.of (w.sub _ _ a1)),by rw [a2.length]; exact k.here w (.int _)⟩
 ·cases hd
noncomputable def lT (n:Int):Int:=if n < 0 then -n else n
noncomputable def iA:List PyData->Option PyData
 | [.int n]=>some (.int (lT n))
 | _=>none
theorem mq:eB (λxs H Q=>∃ i,xs=[.int i]/\Q (.int (if i < 0 then -i else i)) H) iA:=λPK pa m G H vs ds d Q w hv hd k=>by
 unfold iA at hd
 split at hd
 ·cases hd
  cases hv with
  | cons h1 h2=>cases h2; cases h1; exact ⟨_,rfl,k.here w (.int _)⟩
 ·cases hd
noncomputable def cD (m n:Int):Int:=if n > m then n else m
noncomputable def eY:List PyData->Option PyData
 | [.int m,.int n]=>some (.int (cD m n))
 | _=>none
theorem gB:eB (λxs H Q=>∃ i j,xs=[.int i,.int j]/\Q (.int (if j > i then j else i)) H) eY:=λPK pa m G H vs ds d Q w hv hd k=>by
 unfold eY at hd
 split at hd
 ·cases hd
  cases hv with
  | cons h1 h2=>cases h2 with | cons h2 h3=>cases h3; cases h1; cases h2; exact ⟨_,_,rfl,k.here w (.int _)⟩
 ·cases hd
noncomputable def jh:List PyData->Option PyData
 | [.int n]=>some (.int n)
 | [.bool n]=>some (.int (if n then 1 else 0))
 | _=>none
theorem Ze9:eB (λxs H Q=>(∃ i,xs=[.int i]/\Q (.int i) H)\/∃ k,xs=[.bl k]/\Q (.int (if k then 1 else 0)) H) jh:=λPK pa m G H vs ds d Q w hv hd k=>by
 unfold jh at hd
 split at hd
 ·cases hd
  cases hv with
  | cons h1 h2=>cases h2; cases h1; exact .inl ⟨_,rfl,k.here w (.int _)⟩
 ·cases hd
  cases hv with
  | cons h1 h2=>cases h2; cases h1; exact .inr ⟨_,rfl,k.here w (.int _)⟩
 ·cases hd
noncomputable def dO:List PyData->Option PyData
 | [.list xs]=>some (.tuple xs)
 | [.tuple xs]=>some (.tuple xs)
 | _=>none
theorem fY {K:PySem.W.Frag}:eB (λxs H Q=>∃ p ys,xs=[.ref p]/\((SqL K H p ys/\∀ l,H l=none->Q (.ref l) (upd H l (.tup ys)))\/(SqT K H p ys/\Q (.ref p) H))) dO:=λPK pa m G H vs ds d Q w hv hd k=>by
 unfold dO at hd
 split at hd
 ·cases hd
  cases hv with
  | cons h1 h2 =>
   cases h2
   cases h1 with
   | lst a1 a2=>exact ⟨_,_,rfl,.inl ⟨SqL.of (w.sub _ _ a1),λp hp=>k.tup w a2 hp⟩⟩
 ·cases hd
  cases hv with
  | cons h1 h2 =>
   cases h2
   cases h1 with
   | tup a1 a2=>exact ⟨_,_,rfl,.inr ⟨SqT.of (w.sub _ _ a1),k.here w (.tup a1 a2)⟩⟩
 ·cases hd
noncomputable def gL (d:PyData):Bool:=!d.hasDict && d.showable && decide (d.depth<=32) && decide (d.shown.length<=sizeLine)
noncomputable def ZdZ (xs:List PyData) (lo hi:Option Int):List PyData:=(xs.drop (HT.cg xs.length 0 lo)).take (HT.cg xs.length xs.length hi - HT.cg xs.length 0 lo)
noncomputable abbrev ZlE:=List Sl->Tr (Option Int)
noncomputable def Zf0 (x:PyData) (lo hi:Option Int):Option PyData:=match x with
 | .list xs=>some (.list (ZdZ xs lo hi))
 | .tuple xs=>some (.tuple (ZdZ xs lo hi))
 | _=>none
theorem DnAll.range {H:Hp} (lo:Int) (n:Nat):DnAll H (cN lo n) ((aq lo n).map PyData.int):=by
 rw [ZgD]
 exact DnAll.ints _
noncomputable def fr (lo hi:Int):Bool:=dG lo && dG hi && decide ((hi - lo).toNat<=1000)
noncomputable def fq:List PyData->Option (List PyData)
 | [.int lo,.int hi]=>if fr lo hi=true then some (br lo hi) else none
 | _=>none
theorem Zbh {G:Hp} {vs:List V} {xs ys:List PyData} (d:DnAll G vs xs) (h:fq xs=some ys):∃ k n:Int,vs=[.int k,.int n]/\(-(2 ^ 62)<=k/\k < 2 ^ 62/\-(2 ^ 62)<=n/\n < 2 ^ 62/\(n - k).toNat<=1000)/\ys=br k n:=by
 unfold fq at h
 split at h
 ·split at h
  ·rename_i hn
   cases h
   cases d with
   | cons d1 d2 =>
    cases d2 with
    | cons d2 d3 =>
     cases d3
     cases d1
     cases d2
     unfold fr at hn
     rw [Bool.and_eq_true,Bool.and_eq_true] at hn
     have h1:=of_decide_eq_true hn.1.1
     have h2:=of_decide_eq_true hn.1.2
     exact ⟨_,_,rfl,⟨h1.1,h1.2,h2.1,h2.2,of_decide_eq_true hn.2⟩,rfl⟩
  ·cases h
 ·cases h
noncomputable def Zfy (t:TA):TE:=eP (λxs H Q=>∃ a lo hi,xs=[.ref a]/\H a=some (.rng lo hi)/\-(2 ^ 62)<=lo/\lo < 2 ^ 62/\-(2 ^ 62)<=hi/\hi < 2 ^ 62/\(hi - lo).toNat<=1000/\∀ p,H p=none->Q (.ref p) (upd H p (.tup (cN lo (hi - lo).toNat))))
 (dP (eP (λxs H Q=>∃ i j:Int,xs=[.int i,.int j]/\∀ p,H p=none->Q (.ref p) (upd H p (.rng i j))) t) aT)
noncomputable def Zfz (t:TA):TE:=eP (λxs H Q=>∃ a lo hi,xs=[.ref a]/\H a=some (.rng lo hi)/\-(2 ^ 62)<=lo/\lo < 2 ^ 62/\-(2 ^ 62)<=hi/\hi < 2 ^ 62/\(hi - lo).toNat<=1000/\∀ p,H p=none->Q (.ref p) (upd H p (.lst (cN lo (hi - lo).toNat))))
 (dP (eP (λxs H Q=>∃ i j:Int,xs=[.int i,.int j]/\∀ p,H p=none->Q (.ref p) (upd H p (.rng i j))) t) aT)
noncomputable def tm (is:List Sl->Tr (List PyData)):List Sl->Tr PyData:=λρ=>(is ρ).bind λxs=>(Tr.of (fq xs)).bind λys=>.ret (.tuple ys)
noncomputable def tB (is:List Sl->Tr (List PyData)):List Sl->Tr (List PyData):=λρ=>(is ρ).bind λxs=>Tr.of (fq xs)
theorem Zlx (h:PE X e (Zfy (TAd PK is))):PE X e (TAe PK (tm is)):=h.imp λσ H Q hz0=>by
 obtain ⟨pa,G₀,H₀,m,ρ,G,R,z⟩:=hz0
 refine TAd.then R z λm1 xs vs G1 H1 s1 w1 R1 d1 q1=>?_
 rw [Tr.ok_bind] at q1
 obtain ⟨ys,hy,k⟩:=Tr.ok_of q1
 obtain ⟨lo,hi,rfl,⟨b1,b2,b3,b4,b5⟩,rfl⟩:=Zbh d1 hy
 refine ⟨lo,hi,rfl,λp hp=>?_⟩
 obtain ⟨w2,s2⟩:=w1.own (o:=.rng lo hi) hp
 refine ⟨p,lo,hi,rfl,bf,b1,b2,b3,b4,b5,λq hq=>?_⟩
 exact (Kn.later k (s1.trans s2 w1.some) w2.some).tup w2 (DnAll.range _ _) hq
theorem Zlp (h:PE X e (Zfz (TAd PK is))):PE X e (c7 PK (tB is)):=h.imp λσ H Q hz0=>by
 obtain ⟨pa,G₀,H₀,m,ρ,G,R,z⟩:=hz0
 refine TAd.then R z λm1 xs vs G1 H1 s1 w1 R1 d1 q1=>?_
 obtain ⟨ys,hy,k⟩:=Tr.ok_of q1
 obtain ⟨lo,hi,rfl,⟨b1,b2,b3,b4,b5⟩,rfl⟩:=Zbh d1 hy
 refine ⟨lo,hi,rfl,λp hp=>?_⟩
 obtain ⟨w2,s2⟩:=w1.own (o:=.rng lo hi) hp
 refine ⟨p,lo,hi,rfl,bf,b1,b2,b3,b4,b5,λq hq=>?_⟩
 exact (Ko1.later k (s1.trans s2 w1.some) w2.some).new w2 (DnAll.range _ _) hq
noncomputable def ints?:List PyData->Option (List Int)
 | []=>some []
 | .int n::xs=>(ints? xs).bind λns=>some (n::ns)
 | _=>none
@[simp] theorem ints?_map:∀ ns:List Int,ints? (ns.map PyData.int)=some ns
 | []=>rfl
 | n::ns=>by rw [List.map_cons,ints?,ints?_map ns]; rfl
theorem DnAll.ints_inv {H:Hp} {vs:List V} {ds:List PyData} {ns:List Int} (a:DnAll H vs ds) (h:ints? ds=some ns):vs=ns.map V.int/\ds=ns.map PyData.int:=by
 induction vs generalizing ds ns with
 | nil=>cases a; cases h; exact ⟨rfl,rfl⟩
 | cons v vs ih =>
  cases a with
  | cons g t =>
   cases g with
   | int n =>
    unfold ints? at h
    rename_i ds
    cases e:ints? ds with
    | none=>rw [e] at h; cases h
    | some ms =>
     rw [e] at h
     cases h
     obtain ⟨h1,h2⟩:=ih t e
     exact ⟨by rw [h1]; rfl,by rw [h2]; rfl⟩
   | _=>unfold ints? at h; cases h
section
variable {prog:Program} {w:World} {A:Around} {E:Value->Shared->Prop} {s:Shared}
noncomputable def ItAt (b:Bool) (h:Heap) (it a:Addr) (k:Nat):Prop:=match b with
 | true=>h.IsListIter it a k
 | false=>h.IsTupleIter it a k
noncomputable def SqAt (b:Bool) (h:Heap) (a:Addr) (items:Array Value):Prop:=match b with
 | true=>h.IsList a items
 | false=>h.IsTuple a items
theorem ItAt.at {b:Bool} {h h':Heap} {it a:Addr} {k:Nat} (x:ItAt b h it a k) (e:∀ o,h.get? it=some o->h'.get? it=some o):ItAt b h' it a k:=by
 cases b with
 | true=>exact Heap.IsListIter.at x e
 | false=>obtain ⟨o,ho,r⟩:=(show h.IsTupleIter it a k from x); exact ⟨o,e o ho,r⟩
theorem SqAt.at {b:Bool} {h h':Heap} {a:Addr} {items:Array Value} (x:SqAt b h a items) (e:∀ o,h.get? a=some o->h'.get? a=some o):SqAt b h' a items:=by
 cases b with
 | true=>exact Heap.IsList.at x e
 | false=>exact Heap.IsTuple.at x e
theorem ItAt.there {b:Bool} {h:Heap} {it a:Addr} {k:Nat} (x:ItAt b h it a k):∃ o,h.get? it=some o/\∀ v,o.data≠.cell v:=by
 cases b with
 | true=>obtain ⟨o,ho,_,hd⟩:=(show h.IsListIter it a k from x); exact ⟨o,ho,λv z=>by rw [hd] at z; cases z⟩
 | false=>obtain ⟨o,ho,_,hd⟩:=(show h.IsTupleIter it a k from x); exact ⟨o,ho,λv z=>by rw [hd] at z; cases z⟩
theorem ZhJ {it l:Addr} {i:Nat} {items:Array Value} {x:Value} {Q:Value->Shared->Prop} (hit:s.heap.IsTupleIter it l i) (hl:s.heap.IsTuple l items) (hx:items[i]?=some x)
  (hQ:∀ h',h'.IsTupleIter it l (i+1)->Heap.SameBut it s.heap h'->Q x { s with heap:=h' }):wpAny (model prog w) A (Builtin.SmallTypes.nextOf (.ref it)) Q E s:=by
 obtain ⟨o,ho,hc,hd⟩:=id hit; obtain ⟨ol,hol,_,nl,hdl⟩:=hl
 unfold Builtin.SmallTypes.nextOf
 refine wpAny_bind (wpAny_callSpecial?_slot (name:=Str.ofString "__next__") hit.typeIs F.slot_tuple_iterator_next (wpAny_call_entry F.slot_tuple_iterator_next hit.typeIs F.entry_tuple_iterator_next ?_ (F.args_tuple_iterator_next_1 _)))
 show wpAny _ _ (field (.ref it) 0 >>= _) _ _ s; refine wpAny_bind (wpAny_field ho hd (x:=.ref l) rfl ?_)
 show wpAny _ _ (if (Value.ref l == Value.none)=true then _ else _) _ _ s; rw [if_neg (show ¬ ((Value.ref l == Value.none)=true) from Bool.false_ne_true)]
 show wpAny _ _ (field (.ref it) 1 >>= _) _ _ s; refine wpAny_bind (wpAny_field ho hd (x:=.int i 0) rfl ?_)
 show wpAny _ _ (seqItems? (.ref l) >>= _) _ _ s; refine wpAny_bind (wpAny_seqItems hol hdl ?_); simp only [Int.toNat_natCast,hx]
 refine wpAny_bind (wpAny_setField ho hd (by simp) (wpAny_pure ⟨x,rfl,wpAny_pure (hQ _ ⟨_,Heap.get?_update_self _ ho (Obj.isFreed_of_fields (Obj.data_mapFields hd _)),(Obj.cls_mapFields ..).trans hc,?_⟩ (Heap.SameBut.update ..))⟩))
 rw [Obj.data_mapFields hd]; simp [rawInt]
theorem ZhK {it l:Addr} {i:Nat} {items:Array Value} {Q:Value->Shared->Prop} (hh:A.handled=none) (hit:s.heap.IsTupleIter it l i) (hl:s.heap.IsTuple l items) (hx:items[i]?=none)
  (hE:∀ h' e,Heap.ExtBut it s.heap h'->(∃ o,h'.get? e=some o/\o.cls=.type "StopIteration")->E (.ref e) { s with heap:=h' }):wpAny (model prog w) A (Builtin.SmallTypes.nextOf (.ref it)) Q E s:=by
 obtain ⟨o,ho,hc,hd⟩:=id hit; obtain ⟨ol,hol,_,nl,hdl⟩:=hl
 unfold Builtin.SmallTypes.nextOf
 refine wpAny_bind (wpAny_callSpecial?_slot (name:=Str.ofString "__next__") hit.typeIs F.slot_tuple_iterator_next (wpAny_call_entry F.slot_tuple_iterator_next hit.typeIs F.entry_tuple_iterator_next ?_ (F.args_tuple_iterator_next_1 _)))
 show wpAny _ _ (field (.ref it) 0 >>= _) _ _ s; refine wpAny_bind (wpAny_field ho hd (x:=.ref l) rfl ?_)
 show wpAny _ _ (if (Value.ref l == Value.none)=true then _ else _) _ _ s; rw [if_neg (show ¬ ((Value.ref l == Value.none)=true) from Bool.false_ne_true)]
 show wpAny _ _ (field (.ref it) 1 >>= _) _ _ s; refine wpAny_bind (wpAny_field ho hd (x:=.int i 0) rfl ?_)
 show wpAny _ _ (seqItems? (.ref l) >>= _) _ _ s; refine wpAny_bind (wpAny_seqItems hol hdl ?_); simp only [Int.toNat_natCast,hx]
 refine wpAny_bind (wpAny_rule (wpAny_bind (wpAny_setField ho hd (by simp) ?_))); show wpAny _ _ (newExc (.type "StopIteration") [] >>= _) _ _ _
 refine wpAny_bind ?_; simp only [newExc,newTuple]; refine wpAny_bind (wpAny_newObj_type ?_ (by size_fits))
 refine wpAny_bind (m:=firstArgMember _ _) (wpAny_of_eq (a:=Value.none) (by first | rfl | (simp only [firstArgMember]; rfl)) ?_); refine wpAny_newObj_type ?_ (by size_fits); simp only [raiseNew]
 refine wpAny_bind (wpAny_handled ?_); first | rw [show A.in1.handled=none from hh] | rw [hh]
 refine wpAny_bind (wpAny_pure (wpAny_throw (hE _ _ (((Heap.SameBut.update ..).extBut.push _).push _) ⟨_,Heap.get?_push_size _ rfl,rfl⟩)))
theorem kr {b:Bool} {it l:Addr} {i:Nat} {items:Array Value} {x:Value} {Q:Value->Shared->Prop} (hit:ItAt b s.heap it l i) (hl:SqAt b s.heap l items) (hx:items[i]?=some x)
  (hQ:∀ h',ItAt b h' it l (i+1)->Heap.SameBut it s.heap h'->Q x { s with heap:=h' }):wpAny (model prog w) A (Builtin.SmallTypes.nextOf (.ref it)) Q E s:=by
 cases b with
 | true=>exact wpAny_nextOf_list_item hit hl hx hQ
 | false=>exact ZhJ hit hl hx hQ
theorem nY {b:Bool} {it l:Addr} {i:Nat} {items:Array Value} {Q:Value->Shared->Prop} (hh:A.handled=none) (hit:ItAt b s.heap it l i) (hl:SqAt b s.heap l items) (hx:items[i]?=none)
  (hE:∀ h' e,Heap.ExtBut it s.heap h'->(∃ o,h'.get? e=some o/\o.cls=.type "StopIteration")->E (.ref e) { s with heap:=h' }):wpAny (model prog w) A (Builtin.SmallTypes.nextOf (.ref it)) Q E s:=by
 cases b with
 | true=>exact wpAny_nextOf_list_end hh hit hl hx hE
 | false=>exact ZhK hh hit hl hx hE
theorem ItAt.bt {b:Bool} {h h':Heap} {it a c:Addr} {k:Nat} (x:ItAt b h it a k) (e:Heap.ExtBut c h h') (n:it≠c):ItAt b h' it a k:=x.at λo q=>e it o n q
theorem SqAt.bt {b:Bool} {h h':Heap} {a c:Addr} {items:Array Value} (x:SqAt b h a items) (e:Heap.ExtBut c h h') (n:a≠c):SqAt b h' a items:=x.at λo q=>e a o n q
theorem ZeY {b1 b2:Bool} {z TI TO i1 i2 l1 l2:Addr} {k1 k2:Nat} {xs ys:Array Value} {x y a b:Value} {Q:Value->Shared->Prop} (D:ZipApart z TI TO i1 i2 l1 l2)
  (hz:IsZip s.heap z TI TO .none) (hTI:IsPair s.heap TI (.ref i1) (.ref i2)) (hTO:IsPair s.heap TO a b) (h1:ItAt b1 s.heap i1 l1 k1) (h2:ItAt b2 s.heap i2 l2 k2) (hl1:SqAt b1 s.heap l1 xs) (hl2:SqAt b2 s.heap l2 ys) (hx:xs[k1]?=some x) (hy:ys[k2]?=some y)
  (hQ:∀ h',IsZip h' z TI TO (rawInt s.heap.objs.size)->IsPair h' TO x y->ItAt b1 h' i1 l1 (k1+1)->ItAt b2 h' i2 l2 (k2+1)->IsPair h' s.heap.objs.size x y ->
   (∀ c o,c≠z->c≠TO->c≠i1->c≠i2->s.heap.get? c=some o->h'.get? c=some o)->Q (.ref s.heap.objs.size) { s with heap:=h' }) :
  wpAny (model prog w) A (Builtin.«zip.__next__» ⟨[.ref z],[]⟩) (λfin s'=>∃ v,fin=.done (.ret v)/\Q v s') E s:=by
 show wpAny _ _ (field (.ref z) 2 >>= _) _ _ _; refine wpAny_bind (wpAny_field hz rfl (x:=.bool false) rfl ?_)
 show wpAny _ _ (field (.ref z) 3 >>= _) _ _ _; refine wpAny_bind (wpAny_field hz rfl (x:=.ref TI) rfl ?_); refine wpAny_bind (wpAny_seqItems hTI rfl ?_)
 show wpAny _ _ (Builtin.SmallTypes.ownedTupleIsFree (.ref z) >>= _) _ _ _; refine wpAny_bind ?_; unfold Builtin.SmallTypes.ownedTupleIsFree
 refine wpAny_bind (wpAny_field hz rfl (x:=.none) rfl (wpAny_pure ?_)); simp only [if_true]; refine wpAny_bind (wpAny_rule ?_); refine wpAny_bind (wpAny_field hz rfl (x:=.ref TO) rfl ?_)
 refine wpAny_bind (wpAny_setField_rec hz (by simp) λg1 hz1 e1=>?_); replace hz1:IsZip g1 z TI TO .ellipsis:=hz1
 refine wpAny_bind ?_; simp only [List.zipIdx_cons,List.zipIdx_nil,List.forIn_cons,List.forIn_nil]; refine wpAny_bind (wpAny_bind (wpAny_onRaise ?_))
 show wpAny _ _ (Builtin.SmallTypes.nextOf (.ref i1) >>= _) _ _ _; refine wpAny_bind (kr (h1.bt e1.extBut D.i1z) (hl1.bt e1.extBut D.l1z) hx λg2 t1 e2=>wpAny_pure ?_)
 have p2:IsPair g2 TO a b:=e2.extBut _ _ D.TOi1 (e1.extBut _ _ D.TOz hTO)
 refine wpAny_bind (wpAny_seqItems p2 rfl ?_); refine wpAny_bind (wpAny_updateSeq_pair p2 λg3 p3 e3=>?_); replace p3:IsPair g3 TO x b:=p3
 refine wpAny_bind (wpAny_letGo (wpAny_pure ?_)); refine wpAny_bind (wpAny_bind (wpAny_onRaise ?_))
 show wpAny _ _ (Builtin.SmallTypes.nextOf (.ref i2) >>= _) _ _ _
 refine wpAny_bind (kr (((h2.bt e1.extBut D.i2z).bt e2.extBut D.i12.symm).bt e3.extBut D.TOi2.symm) (((hl2.bt e1.extBut D.l2z).bt e2.extBut D.l2i1).bt e3.extBut D.l2TO) hy λg4 t2 e4=>wpAny_pure ?_)
 have p4:IsPair g4 TO x b:=e4.extBut _ _ D.TOi2 p3
 refine wpAny_bind (wpAny_seqItems p4 rfl ?_); refine wpAny_bind (wpAny_updateSeq_pair p4 λg5 p5 e5=>?_); replace p5:IsPair g5 TO x y:=p5
 refine wpAny_bind (wpAny_letGo (wpAny_pure (wpAny_pure ?_))); refine wpAny_bind (wpAny_seqItems p5 rfl ?_); refine wpAny_bind (wpAny_newTuple ?_)
 have hsz:g5.objs.size=s.heap.objs.size:=by rw [e5.1,e4.1,e3.1,e2.1,e1.1]
 have z5:IsZip g5 z TI TO .ellipsis:=e5.extBut _ _ D.TOz.symm (e4.extBut _ _ D.i2z.symm (e3.extBut _ _ D.TOz.symm (e2.extBut _ _ D.i1z.symm hz1)))
 have k5:∀ c o,c≠z->c≠TO->c≠i1->c≠i2->s.heap.get? c=some o->g5.get? c=some o:=λc o c1 c2 c3 c4 q=>e5.extBut _ _ c2 (e4.extBut _ _ c4 (e3.extBut _ _ c2 (e2.extBut _ _ c3 (e1.extBut _ _ c1 q))))
 have u1:ItAt b1 g5 i1 l1 (k1+1):=((t1.bt e3.extBut D.TOi1.symm).bt e4.extBut D.i12).bt e5.extBut D.TOi1.symm
 have u2:ItAt b2 g5 i2 l2 (k2+1):=t2.bt e5.extBut D.TOi2.symm
 have zlt:z < g5.objs.size:=Heap.lt_size z5
 show wpAny _ _ (Builtin.SmallTypes.ownedTupleHandOut (.ref z) (.ref g5.objs.size) >>= _) _ _ _; refine wpAny_bind ?_; unfold Builtin.SmallTypes.ownedTupleHandOut
 have z6:IsZip (g5.push { cls:=.type "tuple",data:=.seq #[x,y] }) z TI TO .ellipsis:=Heap.get?_push_of_some _ z5
 refine wpAny_bind (wpAny_setField_rec z6 (by simp) λg7 z7 e7=>?_); replace z7:IsZip g7 z TI TO (rawInt g5.objs.size):=z7
 refine wpAny_setField_rec z7 (by simp) λg8 z8 e8=>?_; replace z8:IsZip g8 z TI TO (rawInt g5.objs.size):=z8
 have up:∀ c o,c≠z->g5.get? c=some o->g8.get? c=some o:=λc o c1 q=>e8.extBut _ _ c1 (e7.extBut _ _ c1 (Heap.get?_push_of_some _ q))
 have t8:IsPair g8 g5.objs.size x y:=e8.extBut _ _ (Nat.ne_of_gt zlt) (e7.extBut _ _ (Nat.ne_of_gt zlt) (Heap.get?_push_size _ rfl))
 rw [hsz] at z8 t8
 refine wpAny_pure ⟨_,rfl,?_⟩; show Q (.ref g5.objs.size) _; rw [hsz]
 exact hQ g8 z8 (up _ _ D.TOz p5) (u1.at λo q=>up _ o D.i1z q) (u2.at λo q=>up _ o D.i2z q) t8 λc o c1 c2 c3 c4 q=>up c o c1 (k5 c o c1 c2 c3 c4 q)
theorem ZeZ {b1 b2:Bool} {z TI TO i1 i2 l1 l2:Addr} {k1 k2:Nat} {xs ys:Array Value} {a b:Value} {Q:Fin->Shared->Prop} (hh:A.handled=none) (D:ZipApart z TI TO i1 i2 l1 l2)
  (hz:IsZip s.heap z TI TO .none) (hTI:IsPair s.heap TI (.ref i1) (.ref i2)) (hTO:IsPair s.heap TO a b) (h1:ItAt b1 s.heap i1 l1 k1) (h2:ItAt b2 s.heap i2 l2 k2) (hl1:SqAt b1 s.heap l1 xs) (hl2:SqAt b2 s.heap l2 ys) (hend:xs[k1]?=none\/ys[k2]?=none)
  (hE:∀ h' e,(∀ c o,c≠z->c≠TO->c≠i1->c≠i2->s.heap.get? c=some o->h'.get? c=some o)->(∃ o,h'.get? e=some o/\o.cls=.type "StopIteration")->E (.ref e) { s with heap:=h' }) :
  wpAny (model prog w) A (Builtin.«zip.__next__» ⟨[.ref z],[]⟩) Q E s:=by
 show wpAny _ _ (field (.ref z) 2 >>= _) _ _ _; refine wpAny_bind (wpAny_field hz rfl (x:=.bool false) rfl ?_)
 show wpAny _ _ (field (.ref z) 3 >>= _) _ _ _; refine wpAny_bind (wpAny_field hz rfl (x:=.ref TI) rfl ?_); refine wpAny_bind (wpAny_seqItems hTI rfl ?_)
 show wpAny _ _ (Builtin.SmallTypes.ownedTupleIsFree (.ref z) >>= _) _ _ _; refine wpAny_bind ?_; unfold Builtin.SmallTypes.ownedTupleIsFree
 refine wpAny_bind (wpAny_field hz rfl (x:=.none) rfl (wpAny_pure ?_)); simp only [if_true]; refine wpAny_bind (wpAny_rule ?_); refine wpAny_bind (wpAny_field hz rfl (x:=.ref TO) rfl ?_)
 refine wpAny_bind (wpAny_setField_rec hz (by simp) λg1 hz1 e1=>?_); replace hz1:IsZip g1 z TI TO .ellipsis:=hz1
 refine wpAny_bind ?_; simp only [List.zipIdx_cons,List.zipIdx_nil,List.forIn_cons,List.forIn_nil]; refine wpAny_bind (wpAny_bind (wpAny_onRaise ?_))
 show wpAny _ _ (Builtin.SmallTypes.nextOf (.ref i1) >>= _) _ _ _
 cases hx:xs[k1]? with
 | none =>
  refine wpAny_bind (nY hh (h1.bt e1.extBut D.i1z) (hl1.bt e1.extBut D.l1z) hx λg2 e e2 he=>?_)
  obtain ⟨oe,hoe,hce⟩:=he
  have z2:IsZip g2 z TI TO .ellipsis:=e2 _ _ D.i1z.symm hz1
  have ne:e≠z:=λq=>by subst q; rw [z2] at hoe; cases hoe; simp at hce
  exact wpAny_setField_rec z2 (by simp) λg3 _ e3=>hE g3 e (λc o c1 _ c3 _ q=>e3.extBut _ _ c1 (e2 _ _ c3 (e1.extBut _ _ c1 q))) ⟨oe,e3.extBut _ _ ne hoe,hce⟩
 | some x =>
  have hy:ys[k2]?=none:=by rcases hend with h | h; rw [hx] at h; cases h; exact h
  refine wpAny_bind (kr (h1.bt e1.extBut D.i1z) (hl1.bt e1.extBut D.l1z) hx λg2 t1 e2=>wpAny_pure ?_)
  have p2:IsPair g2 TO a b:=e2.extBut _ _ D.TOi1 (e1.extBut _ _ D.TOz hTO)
  refine wpAny_bind (wpAny_seqItems p2 rfl ?_); refine wpAny_bind (wpAny_updateSeq_pair p2 λg3 p3 e3=>?_)
  refine wpAny_bind (wpAny_letGo (wpAny_pure ?_)); refine wpAny_bind (wpAny_bind (wpAny_onRaise ?_))
  show wpAny _ _ (Builtin.SmallTypes.nextOf (.ref i2) >>= _) _ _ _
  refine wpAny_bind (nY hh (((h2.bt e1.extBut D.i2z).bt e2.extBut D.i12.symm).bt e3.extBut D.TOi2.symm) (((hl2.bt e1.extBut D.l2z).bt e2.extBut D.l2i1).bt e3.extBut D.l2TO) hy λg4 e e4 he=>?_)
  obtain ⟨oe,hoe,hce⟩:=he
  have z4:IsZip g4 z TI TO .ellipsis:=e4 _ _ D.i2z.symm (e3.extBut _ _ D.TOz.symm (e2.extBut _ _ D.i1z.symm hz1))
  have ne:e≠z:=λq=>by subst q; rw [z4] at hoe; cases hoe; simp at hce
  exact wpAny_setField_rec z4 (by simp) λg5 _ e5=>hE g5 e (λc o c1 c2 c3 c4 q=>e5.extBut _ _ c1 (e4 _ _ c4 (e3.extBut _ _ c2 (e2.extBut _ _ c3 (e1.extBut _ _ c1 q))))) ⟨oe,e5.extBut _ _ ne hoe,hce⟩
noncomputable def cS (b:Bool) (l:Addr):Obj:=match b with
 | true=>{ cls:=.type "list_iterator",data:=.fields #[.ref l,.int 0 0] }
 | false=>{ cls:=.type "tuple_iterator",data:=.fields #[.ref l,.int 0 0] }
theorem gM {b:Bool} {l:Addr} {items:Array Value} {Q:Value->Shared->Prop} (hl:SqAt b s.heap l items) (hQ:Q (.ref s.heap.objs.size) { s with heap:=s.heap.push (cS b l) }):wpAny (model prog w) A (pyIter (.ref l)) Q E s:=by
 cases b with
 | true=>exact wpAny_pyIter_list hl hQ
 | false=>exact wpAny_pyIter_tuple hl hQ
theorem SqAt.push {b:Bool} {h:Heap} {l:Addr} {items:Array Value} (x:SqAt b h l items) (o:Obj):SqAt b (h.push o) l items:=x.at λ_ q=>Heap.get?_push_of_some _ q
theorem la {b:Bool} {h:Heap} {it l:Addr} (e:h.get? it=some (cS b l)):ItAt b h it l 0:=by
 cases b with
 | true=>exact ⟨_,e,rfl,rfl⟩
 | false=>exact ⟨_,e,rfl,rfl⟩
noncomputable abbrev zA (b1:Bool) (h:Heap) (l1:Addr):Heap:=h.push (cS b1 l1)
noncomputable abbrev zB (b1 b2:Bool) (h:Heap) (l1 l2:Addr):Heap:=(zA b1 h l1).push (cS b2 l2)
noncomputable abbrev zC (b1 b2:Bool) (h:Heap) (l1 l2:Addr):Heap:=(zB b1 b2 h l1 l2).push { cls:=.type "tuple",data:=.seq #[.ref h.objs.size,.ref (zA b1 h l1).objs.size] }
noncomputable abbrev zD (b1 b2:Bool) (h:Heap) (l1 l2:Addr):Heap:=(zC b1 b2 h l1 l2).push { cls:=.type "tuple",data:=.seq #[.none,.none] }
noncomputable abbrev zH (b1 b2:Bool) (h:Heap) (l1 l2:Addr):Heap:=(zD b1 b2 h l1 l2).push { cls:=.type "zip",data:=.fields #[.none,.bool false,.bool false,.ref (zB b1 b2 h l1 l2).objs.size,.ref (zC b1 b2 h l1 l2).objs.size] }
theorem ZhX (b1 b2:Bool) (l1 l2:Addr) (xs ys:Array Value) :
  Meets (Builtin.«zip.__new__» ⟨[.type "zip",.ref l1,.ref l2],[]⟩) (λ_ R s=>SqAt b1 s.heap l1 xs/\SqAt b2 s.heap l2 ys/\R (.ok (.ret (.ref (zD b1 b2 s.heap l1 l2).objs.size))) { s with heap:=zH b1 b2 s.heap l1 l2 }) :=
 .of_wp λprog w A R s h=>by
  obtain ⟨hp,g,d,tk,os⟩:=s
  obtain ⟨hl1,hl2,h⟩:=h
  have hsub:=sub_zip
  have q1:SqAt b1 (Shared.heap ⟨hp,g,d,tk,os⟩) l1 xs:=hl1
  have q2:SqAt b2 (Shared.heap ⟨hp.push (cS b1 l1),g,d,tk,os⟩) l2 ys:=hl2.push _
  wp_walk using gM q1,gM q2
  exact ⟨_,rfl,h⟩
theorem ZkA {b1 b2:Bool} {l1 l2:Addr} {xs ys:Array Value} {Q:Value->Shared->Prop} (hl1:SqAt b1 s.heap l1 xs) (hl2:SqAt b2 s.heap l2 ys)
  (h:∀ h',IsZip h' (s.heap.objs.size+4) (s.heap.objs.size+2) (s.heap.objs.size+3) .none->IsPair h' (s.heap.objs.size+2) (.ref s.heap.objs.size) (.ref (s.heap.objs.size+1))->IsPair h' (s.heap.objs.size+3) .none .none ->
   ItAt b1 h' s.heap.objs.size l1 0->ItAt b2 h' (s.heap.objs.size+1) l2 0->(∀ c o,s.heap.get? c=some o->h'.get? c=some o)->Q (.ref (s.heap.objs.size+4)) { s with heap:=h' }) :
  wpAny (model prog w) A (call (.type "zip") [.ref l1,.ref l2]) Q E s:=by
 refine callType_new F.called_zip (by decide) (F.typeCall_zip_2 _ _) (F.newCall_zip_2 _ _) (λobj=>F.args_object_init_3 obj _ _) F.entry_zip_new (ZhX b1 b2 l1 l2 xs ys) ⟨hl1,hl2,?_⟩
 have n1:(zA b1 s.heap l1).objs.size=s.heap.objs.size+1:=Heap.size_push ..
 have n2:(zB b1 b2 s.heap l1 l2).objs.size=s.heap.objs.size+2:=(Heap.size_push ..).trans (by rw [n1])
 have n3:(zC b1 b2 s.heap l1 l2).objs.size=s.heap.objs.size+3:=(Heap.size_push ..).trans (by rw [n2])
 have n4:(zD b1 b2 s.heap l1 l2).objs.size=s.heap.objs.size+4:=(Heap.size_push ..).trans (by rw [n3])
 have a5:IsZip (zH b1 b2 s.heap l1 l2) (zD b1 b2 s.heap l1 l2).objs.size (zB b1 b2 s.heap l1 l2).objs.size (zC b1 b2 s.heap l1 l2).objs.size .none:=Heap.get?_push_size _ rfl
 have a4:IsPair (zH b1 b2 s.heap l1 l2) (zC b1 b2 s.heap l1 l2).objs.size .none .none:=Heap.get?_push_of_some _ (Heap.get?_push_size _ rfl)
 have a3:IsPair (zH b1 b2 s.heap l1 l2) (zB b1 b2 s.heap l1 l2).objs.size (.ref s.heap.objs.size) (.ref (zA b1 s.heap l1).objs.size):=Heap.get?_push_of_some _ (Heap.get?_push_of_some _ (Heap.get?_push_size _ rfl))
 have a2:(zH b1 b2 s.heap l1 l2).get? (zA b1 s.heap l1).objs.size=some (cS b2 l2):=Heap.get?_push_of_some _ (Heap.get?_push_of_some _ (Heap.get?_push_of_some _ (Heap.get?_push_size _ (by cases b2 <;> rfl))))
 have a1:(zH b1 b2 s.heap l1 l2).get? s.heap.objs.size=some (cS b1 l1):=Heap.get?_push_of_some _ (Heap.get?_push_of_some _ (Heap.get?_push_of_some _ (Heap.get?_push_of_some _ (Heap.get?_push_size _ (by cases b1 <;> rfl)))))
 rw [n2,n3,n4] at a5
 rw [n3] at a4
 rw [n1,n2] at a3
 rw [n1] at a2
 show _/\_
 rw [n4]
 exact ⟨⟨_,a5,rfl⟩,h _ a5 a3 a4 (la a1) (la a2) λc o x=>Heap.get?_push_of_some _ (Heap.get?_push_of_some _ (Heap.get?_push_of_some _ (Heap.get?_push_of_some _ (Heap.get?_push_of_some _ x))))⟩
theorem ZgG {b1 b2:Bool} {z TI TO i1 i2 l1 l2:Addr} {k1 k2:Nat} {xs ys:Array Value} {x y a b:Value} {Q:Option Value->Shared->Prop} (D:ZipApart z TI TO i1 i2 l1 l2)
  (hz:IsZip s.heap z TI TO .none) (hTI:IsPair s.heap TI (.ref i1) (.ref i2)) (hTO:IsPair s.heap TO a b) (h1:ItAt b1 s.heap i1 l1 k1) (h2:ItAt b2 s.heap i2 l2 k2) (hl1:SqAt b1 s.heap l1 xs) (hl2:SqAt b2 s.heap l2 ys) (hx:xs[k1]?=some x) (hy:ys[k2]?=some y)
  (hQ:∀ h',IsZip h' z TI TO (rawInt s.heap.objs.size)->IsPair h' TO x y->ItAt b1 h' i1 l1 (k1+1)->ItAt b2 h' i2 l2 (k2+1)->IsPair h' s.heap.objs.size x y ->
   (∀ c o,c≠z->c≠TO->c≠i1->c≠i2->s.heap.get? c=some o->h'.get? c=some o)->Q (some (.ref s.heap.objs.size)) { s with heap:=h' }):wpAny (model prog w) A (pyNext (.ref z)) Q E s:=by
 have hT:s.TypeIs (.ref z) "zip":=⟨_,hz,rfl⟩
 unfold pyNext
 exact wpAny_bind (wpAny_attempt (wpAny_callSpecial?_slot (name:=Str.ofString "__next__") hT F.slot_zip_next (wpAny_call_entry F.slot_zip_next hT F.entry_zip_next (ZeY D hz hTI hTO h1 h2 hl1 hl2 hx hy λh' a1 a2 a3 a4 a5 a6=>wpAny_pure (hQ h' a1 a2 a3 a4 a5 a6)) (F.args_zip_next_1 _))))
theorem ZgH {b1 b2:Bool} {z TI TO i1 i2 l1 l2:Addr} {k1 k2:Nat} {xs ys:Array Value} {a b:Value} {Q:Option Value->Shared->Prop} (hh:A.handled=none) (D:ZipApart z TI TO i1 i2 l1 l2)
  (hz:IsZip s.heap z TI TO .none) (hTI:IsPair s.heap TI (.ref i1) (.ref i2)) (hTO:IsPair s.heap TO a b) (h1:ItAt b1 s.heap i1 l1 k1) (h2:ItAt b2 s.heap i2 l2 k2) (hl1:SqAt b1 s.heap l1 xs) (hl2:SqAt b2 s.heap l2 ys) (hend:xs[k1]?=none\/ys[k2]?=none)
  (hQ:∀ h',(∀ c o,c≠z->c≠TO->c≠i1->c≠i2->s.heap.get? c=some o->h'.get? c=some o)->Q none { s with heap:=h' }):wpAny (model prog w) A (pyNext (.ref z)) Q E s:=by
 have hT:s.TypeIs (.ref z) "zip":=⟨_,hz,rfl⟩
 unfold pyNext
 refine wpAny_bind (wpAny_attempt (wpAny_callSpecial?_slot (name:=Str.ofString "__next__") hT F.slot_zip_next (wpAny_call_entry F.slot_zip_next hT F.entry_zip_next (ZeZ hh D hz hTI hTO h1 h2 hl1 hl2 hend λh' e hk he=>?_) (F.args_zip_next_1 _))))
 obtain ⟨o,ho,hc⟩:=he
 exact wpAny_bind (wpAny_isInstance (T:="StopIteration") (b:=true) ⟨o,ho,hc⟩ isSubtype_stop (wpAny_pure (hQ _ hk)))
end
section
variable {X:Cx} {pins:List (Addr×Obj)} {σ:St} {H:Hp} {s:Shared} {h':Heap}
theorem Inv.turns {t':Nat} {ch:List Addr} (I:Inv X pins σ H s) (k:∀ b o,b ∉ ch->s.heap.get? b=some o->h'.get? b=some o) (hf:∀ b∈ch,da X pins H b):Inv X pins σ H { s with heap:=h',toks:=t' }:=by
 have nit:∀ b u,H b=some u->b ∉ ch:=λb u e z=>by rw [(hf b z).1] at e; cases e
 refine I.step (g':=s.gens) (d':=s.drawn) (ch:=ch) (λb hb=>?_) (λb o _ _ hc e _=>k b o hc e) (λb o _ _ hc e _=>⟨o.slots,k b o hc e⟩) (λ_ _ _ _ n=>n)
  (λb o hc e=>⟨o,k b o hc e⟩) (λ_ _ e=>e) (λ_ _ _ e=>e) (λb ps e=>⟨#[],by rw [e]; simp⟩) (λm hm=>?_) (λb u e=>?_) I.bare
 ·obtain ⟨_,f1,_,f3,f4,f5⟩:=hf b hb
  exact ⟨f3,f1,f4,f5⟩
 ·obtain ⟨o,es,ep,ho,r⟩:=hm
  exact ⟨o,es,ep,k _ o (λz=>(hf _ z).2.1 rfl) ho,r⟩
 ·refine (I.hok b u e).stay (λc v hc q=>k c v ?_ q) (λ_ q=>q) (λ_ _ q=>q) λ_ _ _ _ q _=>q
  rcases hc with z | z
  ·rw [z]; exact nit b u e
  ·exact nit c _ z
theorem Inv.pair {T:Addr} {x y:V} {u v:Value} (I:Inv X pins σ H s) (hT:H T=none) (ho:IsPair s.heap T u v) (r1:RelV x u) (r2:RelV y v)
  (hL:T≠X.env.locals) (hs0:X.s₀.heap.objs.size<=T) (hc:∀ x c,X.env.cells.lookup x=some c->c≠T) (hp:∀ p∈X.pn++pins,p.1≠T):Inv X pins σ (upd H T (.tup [x,y])) s:=by
 have ne:∀ {b:Addr} {o:HO},H b=some o->b≠T:=λe=>bZ e hT
 refine I.step (g':=s.gens) (d':=s.drawn) (t':=s.toks) (h':=s.heap) (ch:=[T]) (λb hb=>?_) (λb o _ _ _ e _=>e) (λb o _ _ _ e _=>⟨o.slots,e⟩) (λb o hb e n=>?_) (λb o _ e=>⟨o,e⟩)
  (λb xs e=>by rw [ai (ne e)]; exact e) (λb o u e=>by rw [ai (ne e)]; exact e) (λb ps e=>⟨#[],by rw [ai (ne e),e]; simp⟩) (λm hm=>hm) (λb u e=>?_) I.bare
 ·have e:b=T:=by simpa using hb
  subst e
  exact ⟨.inr hs0,hL,hc,hp⟩
 ·have hb':b≠T:=by simpa using hb
  rw [ai hb']
  exact n
 ·by_cases hb:b=T
  ·subst hb
   rw [bf] at e
   cases e
   exact ⟨by show 2<=sizeLine; decide,[_,_],.cons r1 (.cons r2 .nil),⟨_,ho,rfl,_,rfl⟩⟩
  ·rw [ai hb] at e
   exact (I.hok b u e).stay (λc v _ q=>q) (λc q=>by rw [ai (ne q)]; exact q) (λc xs q=>by rw [ai (ne q)]; exact q) λc ob xs _ q _=>by rw [ai (ne q)]; exact q
end
noncomputable def aR (b:Bool) (xs:List V):HO:=match b with
 | true=>.lst xs
 | false=>.tup xs
theorem cA {P:Program} {w:World} {H:Hp} {h:Heap} (ok:HOk P w H h) {b:Bool} {a:Addr} {xs:List V} (e:H a=some (aR b xs)):∃ its:List Value,Vals xs its/\SqAt b h a its.toArray:=by
 cases b with
 | true=>obtain ⟨_,its,n,r,q⟩:=ok a _ e; exact ⟨its,r,⟨_,q,rfl,n,rfl⟩⟩
 | false=>obtain ⟨_,its,r,q⟩:=ok a _ e; exact ⟨its,r,q⟩
noncomputable def fU (b1 b2:Bool) (l1 l2:Addr):It :=
 ⟨λi H=>∃ xs ys x y,H l1=some (aR b1 xs)/\H l2=some (aR b2 ys)/\xs[i]?=some x/\ys[i]?=some y,
  λi H v H'=>∃ xs ys x y p,H l1=some (aR b1 xs)/\H l2=some (aR b2 ys)/\xs[i]?=some x/\ys[i]?=some y/\H p=none/\v=.ref p/\H'=upd H p (.tup [x,y]),
  λi H=>∃ xs ys,H l1=some (aR b1 xs)/\H l2=some (aR b2 ys)/\(xs[i]?=none\/ys[i]?=none)⟩
noncomputable def ZSt (b1 b2:Bool) (z TI TO i1 i2 l1 l2:Addr) (i:Nat) (h:Heap):Prop :=
 IsZip h z TI TO .none/\IsPair h TI (.ref i1) (.ref i2)/\(∃ a b,IsPair h TO a b)/\ItAt b1 h i1 l1 i/\ItAt b2 h i2 l2 i
theorem Zff {P:Program} {w:World} {K:PySem.W.Frag} {elts:List Expr} {x1:Nat} {pos:Pos} {b1 b2:Bool} {l1 l2:Addr} (z TI TO i1 i2:Addr)
  (d:TI≠z/\TO≠z/\i1≠z/\i2≠z/\TI≠TO/\TI≠i1/\TI≠i2/\TO≠i1/\TO≠i2/\i1≠i2) :
  Turn P w K (.Tuple elts x1 pos) (fU b1 b2 l1 l2) [z,TI,TO,i1,i2] z (ZSt b1 b2 z TI TO i1 i2 l1 l2) where
 mem:=by simp
 obj:=λi h st b hb=>by
  obtain ⟨hz,hTI,⟨a,c,hTO⟩,h1,h2⟩:=st
  simp at hb
  rcases hb with rfl | rfl | rfl | rfl | rfl
  ·exact ⟨_,hz,λv q=>by cases q⟩
  ·exact ⟨_,hTI,λv q=>by cases q⟩
  ·exact ⟨_,hTO,λv q=>by cases q⟩
  ·exact h1.there
  ·exact h2.there
 keep:=λi h h' st k=>by
  obtain ⟨hz,hTI,⟨a,c,hTO⟩,h1,h2⟩:=st
  exact ⟨k _ (by simp) _ hz,k _ (by simp) _ hTI,⟨a,c,k _ (by simp) _ hTO⟩,h1.at λo e=>k _ (by simp) o e,h2.at λo e=>k _ (by simp) o e⟩
 item:=by
  intro X hP hw hK hc i pins s σ H E I hf st hg
  subst hP hw hK
  obtain ⟨xs,ys,x,y,e1,e2,hx,hy⟩:=hg
  obtain ⟨hz,hTI,⟨a,c,hTO⟩,h1,h2⟩:=st
  obtain ⟨us,r1,q1⟩:=cA I.hok e1
  obtain ⟨vs,r2,q2⟩:=cA I.hok e2
  obtain ⟨u,hu,ru⟩:=r1.get hx
  obtain ⟨v,hv,rv⟩:=r2.get hy
  have n1:∀ b∈[z,TI,TO,i1,i2],l1≠b/\l2≠b:=λb hb=>⟨bZ e1 (hf b hb).1,bZ e2 (hf b hb).1⟩
  obtain ⟨d1,d2,d3,d4,d5,d6,d7,d8,d9,d10⟩:=d
  have D:ZipApart z TI TO i1 i2 l1 l2:=⟨d1,d2,d3,d4,d5,d6,d7,d8,d9,d10,(n1 z (by simp)).1,(n1 TO (by simp)).1,(n1 i1 (by simp)).1,(n1 i2 (by simp)).1,(n1 z (by simp)).2,(n1 TO (by simp)).2,(n1 i1 (by simp)).2,(n1 i2 (by simp)).2⟩
  refine ZgG D hz hTI hTO h1 h2 q1 q2 (by simpa using hu) (by simpa using hv) λh' z' p' t1 t2 pr kk=>?_
  refine ⟨_,rfl,wpAny_letOwnedTupleGo_zip z' λh2' z2 sb=>?_⟩
  have lt:∀ {b:Addr} {o:Obj},s.heap.get? b=some o->s.heap.objs.size≠b:=λq=>Nat.ne_of_gt (Heap.lt_size q)
  have zlt:=lt hz
  have I1:Inv X pins σ H { s with heap:=h2' }:=I.turns (ch:=[z,TI,TO,i1,i2]) (t':=s.toks) (λb o hb e=>by
   simp at hb
   exact sb.extBut _ _ hb.1 (kk b o hb.1 hb.2.2.1 hb.2.2.2.1 hb.2.2.2.2 e)) hf
  have hTn:H s.heap.objs.size=none:=I.hok.fresh (Nat.le_refl _)
  have I2:=I1.pair (T:=s.heap.objs.size) (x:=x) (y:=y) hTn (sb.extBut _ _ zlt pr) ru rv (Nat.ne_of_gt I.lt) I.sz
   (λq cc e hq=>by obtain ⟨vv,zz⟩:=I.cell q cc e; exact absurd zz.lt (by rw [hq]; exact Nat.lt_irrefl _)) (λp hp hq=>absurd (Heap.lt_size (I.pin p hp).1) (by rw [hq]; exact Nat.lt_irrefl _))
  refine ⟨.ref s.heap.objs.size,_,I2,rfl,⟨xs,ys,x,y,_,e1,e2,hx,hy,hTn,rfl,rfl⟩,⟨z2,sb.extBut _ _ d1 (kk _ _ d1 d5 d6 d7 hTI),⟨u,v,sb.extBut _ _ d2 p'⟩,t1.at λo e=>sb.extBut _ _ d3 e,t2.at λo e=>sb.extBut _ _ d4 e⟩,λb hb=>?_⟩
  have hbn:b≠s.heap.objs.size:=by
   simp at hb
   obtain ⟨o1,g1,_⟩:=h1.there
   obtain ⟨o2,g2,_⟩:=h2.there
   rcases hb with rfl | rfl | rfl | rfl | rfl
   ·exact (lt hz).symm
   ·exact (lt hTI).symm
   ·exact (lt hTO).symm
   ·exact (lt g1).symm
   ·exact (lt g2).symm
  rw [ai hbn]
  exact (hf b hb).1
 done:=by
  intro X hP hw hK hc i pins s σ H E I hf st hg
  subst hP hw hK
  obtain ⟨xs,ys,e1,e2,hend⟩:=hg
  obtain ⟨hz,hTI,⟨a,c,hTO⟩,h1,h2⟩:=st
  obtain ⟨us,r1,q1⟩:=cA I.hok e1
  obtain ⟨vs,r2,q2⟩:=cA I.hok e2
  have n1:∀ b∈[z,TI,TO,i1,i2],l1≠b/\l2≠b:=λb hb=>⟨bZ e1 (hf b hb).1,bZ e2 (hf b hb).1⟩
  obtain ⟨d1,d2,d3,d4,d5,d6,d7,d8,d9,d10⟩:=d
  have D:ZipApart z TI TO i1 i2 l1 l2:=⟨d1,d2,d3,d4,d5,d6,d7,d8,d9,d10,(n1 z (by simp)).1,(n1 TO (by simp)).1,(n1 i1 (by simp)).1,(n1 i2 (by simp)).1,(n1 z (by simp)).2,(n1 TO (by simp)).2,(n1 i1 (by simp)).2,(n1 i2 (by simp)).2⟩
  refine ZgH (I.ok.hd hc) D hz hTI hTO h1 h2 q1 q2 (hend.imp (λq=>by simpa using r1.none_of q) (λq=>by simpa using r2.none_of q)) λh' kk=>⟨rfl,?_⟩
  exact I.turns (ch:=[z,TI,TO,i1,i2]) (t':=s.toks) (λb o hb e=>by
   simp at hb
   exact kk b o hb.1 hb.2.2.1 hb.2.2.2.1 hb.2.2.2.2 e) hf
 self:=λ_ _ _ _ _ st h=>wpAny_pyIter_zip st.1 h
end L2
namespace L2
open PySem PySem.Spec PyProof.Rows
open AutoSeq1 (wpAny_loadPart')
section
variable {X:Cx} {tg:Expr} {PK:Pk} {a b:Expr} {i j:List Sl->Tr PyData} {p pos:Pos}
noncomputable def Zc7 (ta tb:TE):TI:=λσ H R=>ta σ H λx H1=>tb σ H1 λy H2=>∃ b1 b2 l1 l2 xs ys,x=.ref l1/\y=.ref l2/\H2 l1=some (aR b1 xs)/\H2 l2=some (aR b2 ys)/\R (fU b1 b2 l1 l2) H2
theorem Zg3 {elts:List Expr} {x1:Nat} {tpos:Pos} {ta tb:TE} (hc:X.calm=true) (hg:Gl X "zip") (hm:X.mg "zip"=none) (ha:PE X a ta) (hb:PE X b tb)
  (hs:starEach [a,b] X.env=[(false,eval a X.env),(false,eval b X.env)]:=by rfl) (hs2:starEach [b] X.env=[(false,eval b X.env)]:=by rfl):PI X (.Tuple elts x1 tpos) (.Call (.Name "zip" p) [a,b] [] pos) (Zc7 ta tb):=by
 intro pins s σ H R I h
 have hab:PA X [a,b] (dP ta (dP tb aT)):=bY ha (bY hb cx (by rw [hs2]; rfl)) (by rw [hs,hs2])
 refine Call_ (gk I hg hm boot_zip (PyProof.Rows.callWith_type1 (thn (hab pos pins s σ H (λvs H2=>∃ b1 b2 l1 l2 xs ys,vs=[.ref l1,.ref l2]/\H2 l1=some (aR b1 xs)/\H2 l2=some (aR b2 ys)/\R (fU b1 b2 l1 l2) H2) I ?_) λus s1 ⟨vs,H1,I1,r1,q1⟩=>?_) (by rw [hs,hs2]) (by rw [hs2]; rfl)))
 ·refine (show ta σ H _ from ?_)
  have h':ta σ H λx H1=>tb σ H1 λy H2=>∃ b1 b2 l1 l2 xs ys,x=.ref l1/\y=.ref l2/\H2 l1=some (aR b1 xs)/\H2 l2=some (aR b2 ys)/\R (fU b1 b2 l1 l2) H2:=h
  have e:(λ(x:V) (H1:Hp)=>tb σ H1 λy H2=>∃ b1 b2 l1 l2 xs ys,x=.ref l1/\y=.ref l2/\H2 l1=some (aR b1 xs)/\H2 l2=some (aR b2 ys)/\R (fU b1 b2 l1 l2) H2) =
    λx H1=>dP tb aT σ H1 λxs H2=>∃ b1 b2 l1 l2 us ys,x::xs=[.ref l1,.ref l2]/\H2 l1=some (aR b1 us)/\H2 l2=some (aR b2 ys)/\R (fU b1 b2 l1 l2) H2:=by
   funext x H1
   show _=tb σ H1 _
   congr 1
   funext y H2
   show _=(∃ b1 b2 l1 l2 us ys,[x,y]=[.ref l1,.ref l2]/\H2 l1=some (aR b1 us)/\H2 l2=some (aR b2 ys)/\R (fU b1 b2 l1 l2) H2)
   apply propext
   constructor
   ·rintro ⟨b1,b2,l1,l2,xs,ys,rfl,rfl,q⟩; exact ⟨b1,b2,l1,l2,xs,ys,rfl,q⟩
   ·rintro ⟨b1,b2,l1,l2,xs,ys,e,q⟩
    have e1:x=V.ref l1/\y=V.ref l2:=by simpa using e
    exact ⟨b1,b2,l1,l2,xs,ys,e1.1,e1.2,q⟩
  rw [e] at h'
  exact h'
 ·obtain ⟨b1,b2,l1,l2,xs,ys,rfl,e1,e2,q⟩:=q1
  obtain ⟨u1,u2,rfl,r1,r2⟩:=Zao r1
  cases r1
  cases r2
  obtain ⟨us,ru,q1⟩:=cA I1.hok e1
  obtain ⟨vs,rv,q2⟩:=cA I1.hok e2
  refine ZkA q1 q2 λh' z pTI pTO t1 t2 kk=>?_
  have I2:Inv X pins σ H1 { s1 with heap:=h' }:=I1.kept (t':=s1.toks) kk
  have na:∀ n k:Nat,n≠k->(s1.heap.objs.size+n:Nat)≠s1.heap.objs.size+k:=λn k h e=>h (by omega)
  refine wpAny_pyIter_zip z ⟨s1.heap.objs.size+4,[s1.heap.objs.size+4,s1.heap.objs.size+2,s1.heap.objs.size+3,s1.heap.objs.size,s1.heap.objs.size+1],_,_,H1,rfl,I2,Zff _ _ _ _ _ ⟨na 2 4 (by decide),na 3 4 (by decide),na 0 4 (by decide),na 1 4 (by decide),na 2 3 (by decide),na 2 0 (by decide),na 2 1 (by decide),na 3 0 (by decide),na 3 1 (by decide),na 0 1 (by decide)⟩,⟨z,pTI,⟨_,_,pTO⟩,t1,t2⟩,λb hb=>?_,q⟩
  have hle:s1.heap.objs.size<=b:=by
   simp at hb
   rcases hb with rfl | rfl | rfl | rfl | rfl <;> first | exact Nat.le_add_right _ _ | exact Nat.le_refl _
  exact I1.fpOk hle (I1.hok.fresh hle)
noncomputable def fi (xs ys:List PyData):List PyData:=(xs.zip ys).map λ(x,y)=>.tuple [x,y]
theorem jj {G:Hp} {v:V} {x:PyData} {xs:List PyData} (d:Dn G v x) (h:dX x=some xs):∃ b a vs,v=.ref a/\G a=some (aR b vs)/\DnAll G vs xs:=by
 cases d with
 | lst h1 h2=>cases h; exact ⟨true,_,_,rfl,h1,h2⟩
 | tup h1 h2=>cases h; exact ⟨false,_,_,rfl,h1,h2⟩
 | _=>cases h
theorem lh {b:Bool} {xs ys:List V} (h:some (aR b xs)=some (aR b ys)):xs=ys:=by
 cases b <;> (cases h; rfl)
theorem Ziy {pa:Addr} {G:Hp} {b1 b2:Bool} {l1 l2:Addr} {us vs:List V} {xs ys:List PyData} (h1:G l1=some (aR b1 us)) (h2:G l2=some (aR b2 vs)) (d1:DnAll G us xs) (d2:DnAll G vs ys):fS PK pa (fU b1 b2 l1 l2) G (fi xs ys):=λm G2 H2 sb w=>by
 have e1:H2 l1=some (aR b1 us):=w.sub _ _ (sb _ _ h1)
 have e2:H2 l2=some (aR b2 vs):=w.sub _ _ (sb _ _ h2)
 refine ⟨λn d hd=>?_,us,vs,e1,e2,?_⟩
 ·unfold fi at hd
  rw [List.getElem?_map] at hd
  cases hz:(xs.zip ys)[n]? with
  | none=>rw [hz] at hd; cases hd
  | some xy =>
   rw [hz] at hd
   cases hd
   have hxy:=List.getElem?_zip_eq_some.mp hz
   obtain ⟨u,hu,du⟩:=d1.get n hxy.1
   obtain ⟨v,hv,dv⟩:=d2.get n hxy.2
   refine ⟨⟨us,vs,u,v,e1,e2,hu,hv⟩,λx H3 hz0=>?_⟩
   obtain ⟨us',vs',u',v',p,f1,f2,hu',hv',hp,ex,eH⟩:=hz0
   rw [e1] at f1
   rw [e2] at f2
   have:=lh f1
   have:=lh f2
   subst us' vs'
   rw [hu] at hu'
   rw [hv] at hv'
   cases hu'
   cases hv'
   subst ex eH
   obtain ⟨w3,s3⟩:=w.new (o:=.tup [u,v]) hp
   exact ⟨_,s3,w3,.tup bf (.cons ((du.mono sb).mono s3.gs) (.cons ((dv.mono sb).mono s3.gs) .nil))⟩
 ·unfold fi
  rw [List.length_map,List.length_zip,d1.length.symm,d2.length.symm]
  rcases Nat.le_total us.length vs.length with hle | hle
  ·left
   rw [Nat.min_eq_left hle]
   simp
  ·right
   rw [Nat.min_eq_right hle]
   simp
noncomputable def lU (i j:List Sl->Tr PyData):List Sl->Tr (List PyData):=λρ=>(i ρ).bind λx=>(j ρ).bind λy=>(Tr.of (dX x)).bind λxs=>(Tr.of (dX y)).bind λys=>.ret (fi xs ys)
theorem Zlu {iter:Expr} (h:PI X tg iter (Zc7 (TAe PK i) (TAe PK j))):PI X tg iter (bX PK (lU i j)):=h.imp λσ H R0 hz0=>by
 obtain ⟨pa,G₀,H₀,m,ρ,G,R,z⟩:=hz0
 refine TAe.then R z λm1 x v G1 H1 s1 w1 R1 d1 q1=>?_
 refine TAe.then R1 q1 λm2 y u G2 H2 s2 w2 R2 d2 q2=>?_
 rw [Tr.ok_bind] at q2
 obtain ⟨xs,hx,q2⟩:=Tr.ok_of q2
 rw [Tr.ok_bind] at q2
 obtain ⟨ys,hy,q2⟩:=Tr.ok_of q2
 obtain ⟨b1,l1,us,rfl,e1,f1⟩:=jj (d1.mono s2.gs) hx
 obtain ⟨b2,l2,vs,rfl,e2,f2⟩:=jj d2 hy
 exact ⟨b1,b2,l1,l2,us,vs,rfl,rfl,w2.sub _ _ e1,w2.sub _ _ e2,q2 _ G2 H2 (s1.trans s2 w1.some) w2 (Ziy e1 e2 f1 f2)⟩
end
theorem ZdJ {prog:Program} {w:World} {A:Around} (hh:A.handled=none) (b:Bool) (it l:Addr) (hne:l≠it) (items:Array Value):Draws prog w A it [it,l] items.size (λi v=>items[i]?=some v) (λi h=>ItAt b h it l i/\SqAt b h l items) where
 live:=λ_ _ st=>let ⟨o,ho,_⟩:=st.1.there; ⟨o,ho⟩
 frame:=λ_ _ _ st hk=>⟨st.1.at λo e=>hk it (by simp) o e,st.2.at λo e=>hk l (by simp) o e⟩
 item:=λi s Q E hi st hQ=>kr st.1 st.2 (x:=items[i]) (by simp [hi]) λh' hit' hs'=>hQ _ h' s.toks (by simp [hi]) ⟨hit',st.2.bt hs'.extBut hne⟩ hs'
 done:=λs Q E st hE=>nY hh st.1 st.2 (by simp) hE
theorem Zh0 (b:Bool) (l:Addr) (items:Array Value) :
  Meets (Builtin.«enumerate.__new__» ⟨[.type "enumerate",.ref l],[]⟩) (λ_ R s=>SqAt b s.heap l items /\
   R (.ok (.ret (.ref (s.heap.push (cS b l)).objs.size))) { s with heap:=(s.heap.push (cS b l)).push { cls:=.type "enumerate",data:=.fields #[.none,.bool false,.ref s.heap.objs.size,rawInt 0,.none,.none] } }) :=
 .of_wp λprog w A R s h=>by
  obtain ⟨hp,g,d,tk,os⟩:=s
  obtain ⟨hl,h⟩:=h
  have hsub:=sub_enumerate
  have q:SqAt b (Shared.heap ⟨hp,g,d,tk,os⟩) l items:=hl
  have ho:∃ ob,hp.get? l=some ob:=by
   cases b with
   | true=>obtain ⟨ob,e,_⟩:=hl; exact ⟨ob,e⟩
   | false=>obtain ⟨ob,e,_⟩:=hl; exact ⟨ob,e⟩
  obtain ⟨ob,ho⟩:=ho
  wp_walk using wpAny_loadPart' ho
  refine wpAny_stack_any λst=>wpAny_pure ?_
  split
  ·rename_i c _ _ _ _ _
   cases (c == Value.type "enumerate")
   ·wp_walk using wpAny_loadPart' ho,gM q
    exact ⟨_,rfl,h⟩
   ·wp_walk using wpAny_loadPart' ho,gM q
    exact ⟨_,rfl,h⟩
  ·wp_walk using wpAny_loadPart' ho,gM q
   exact ⟨_,rfl,h⟩
section
variable {prog:Program} {w:World} {A:Around} {E:Value->Shared->Prop} {s:Shared}
theorem ZkH {b:Bool} {l:Addr} {items:Array Value} {Q:Value->Shared->Prop} (hl:SqAt b s.heap l items)
  (h:∀ h',IsEnum h' (s.heap.objs.size+1) s.heap.objs.size 0 .none->ItAt b h' s.heap.objs.size l 0->(∀ c o,s.heap.get? c=some o->h'.get? c=some o)->Q (.ref (s.heap.objs.size+1)) { s with heap:=h' }) :
  wpAny (model prog w) A (call (.type "enumerate") [.ref l]) Q E s:=by
 refine callType_new F.called_enumerate (by decide) (F.typeCall_enumerate_1 _) (F.newCall_enumerate_1 _) (λobj=>F.args_object_init_2 obj _) F.entry_enumerate_new (Zh0 b l items) ⟨hl,?_⟩
 have n1:(s.heap.push (cS b l)).objs.size=s.heap.objs.size+1:=Heap.size_push ..
 have a2:IsEnum ((s.heap.push (cS b l)).push { cls:=.type "enumerate",data:=.fields #[.none,.bool false,.ref s.heap.objs.size,rawInt 0,.none,.none] }) (s.heap.push (cS b l)).objs.size s.heap.objs.size 0 .none:=Heap.get?_push_size _ rfl
 have a1:((s.heap.push (cS b l)).push { cls:=.type "enumerate",data:=.fields #[.none,.bool false,.ref s.heap.objs.size,rawInt 0,.none,.none] }).get? s.heap.objs.size=some (cS b l):=Heap.get?_push_of_some _ (Heap.get?_push_size _ (by cases b <;> rfl))
 rw [n1] at a2
 show _/\_
 rw [n1]
 exact ⟨⟨_,a2,rfl⟩,h _ a2 (la a1) λc o x=>Heap.get?_push_of_some _ (Heap.get?_push_of_some _ x)⟩
end
noncomputable def gA (b:Bool) (l:Addr):It :=
 ⟨λi H=>∃ xs x,H l=some (aR b xs)/\xs[i]?=some x,
  λi H v H'=>∃ xs x p,H l=some (aR b xs)/\xs[i]?=some x/\H p=none/\v=.ref p/\H'=upd H p (.tup [.int i,x]),
  λi H=>∃ xs,H l=some (aR b xs)/\xs.length=i⟩
theorem Zfl {P:Program} {w:World} {K:PySem.W.Frag} {elts:List Expr} {x1:Nat} {pos:Pos} {b:Bool} {l:Addr} (e it:Addr) (hne:e≠it) :
  Turn P w K (.Tuple elts x1 pos) (gA b l) [e,it] e (λi h=>(∃ old,IsEnum h e it i old)/\ItAt b h it l i) where
 mem:=by simp
 obj:=λi h st c hb=>by
  obtain ⟨⟨old,he⟩,h1⟩:=st
  simp at hb
  rcases hb with rfl | rfl
  ·exact ⟨_,he,λv q=>by cases q⟩
  ·exact h1.there
 keep:=λi h h' st k=>by
  obtain ⟨⟨old,he⟩,h1⟩:=st
  exact ⟨⟨old,k _ (by simp) _ he⟩,h1.at λo q=>k _ (by simp) o q⟩
 item:=by
  intro X hP hw hK hc i pins s σ H E I hf st hg
  subst hP hw hK
  obtain ⟨xs,x,e1,hx⟩:=hg
  obtain ⟨⟨old,he⟩,h1⟩:=st
  obtain ⟨us,r1,q1⟩:=cA I.hok e1
  obtain ⟨u,hu,ru⟩:=r1.get hx
  have nl:∀ c∈[e,it],l≠c:=λc hc=>bZ e1 (hf c hc).1
  have hlt:i < us.toArray.size:=by
   have:=(List.getElem?_eq_some_iff.mp hu).1
   simpa using this
  refine wpAny_pyNext_enum_itemD (ZdJ (A:=X.A.in1) (show X.A.in1.handled=none from I.ok.hd hc) b it l (nl it (by simp)) us.toArray) he ⟨h1,q1⟩ hlt hne (by simp only [List.mem_cons,List.not_mem_nil,or_false,not_or]; exact ⟨hne,(nl e (by simp)).symm⟩) λx' h' tk hP' ho st' hT hsz kk=>?_
  have hxu:x'=u:=by
   have q:us[i]?=some x':=by simpa using hP'
   rw [hu] at q
   cases q
   rfl
  subst hxu
  refine ⟨_,rfl,wpAny_letOwnedTupleGo_enum ho λh2' z2 sb=>?_⟩
  have lt:∀ {c:Addr} {o:Obj},s.heap.get? c=some o->s.heap.objs.size≠c:=λq=>Nat.ne_of_gt (Heap.lt_size q)
  have I1:Inv X pins σ H { s with heap:=h2',toks:=tk+1 }:=I.turns (ch:=[e,it]) (λc o hb q=>by
   simp at hb
   exact sb.extBut _ _ hb.1 (kk c o hb.1 hb.2 q)) hf
  have hTn:H s.heap.objs.size=none:=I.hok.fresh (Nat.le_refl _)
  have I2:=I1.pair (T:=s.heap.objs.size) (x:=.int i) (y:=x) hTn (sb.extBut _ _ (lt he) hT) ⟨tk,rfl⟩ ru (Nat.ne_of_gt I.lt) I.sz
   (λq cc ee hq=>by obtain ⟨vv,zz⟩:=I.cell q cc ee; exact absurd zz.lt (by rw [hq]; exact Nat.lt_irrefl _)) (λp hp hq=>absurd (Heap.lt_size (I.pin p hp).1) (by rw [hq]; exact Nat.lt_irrefl _))
  refine ⟨.ref s.heap.objs.size,_,I2,rfl,⟨xs,x,_,e1,hx,hTn,rfl,rfl⟩,⟨⟨_,z2⟩,st'.1.at λo q=>sb.extBut _ _ (Ne.symm hne) q⟩,λc hb=>?_⟩
  have hbn:c≠s.heap.objs.size:=by
   simp at hb
   obtain ⟨o1,g1,_⟩:=h1.there
   rcases hb with rfl | rfl
   ·exact (lt he).symm
   ·exact (lt g1).symm
  rw [ai hbn]
  exact (hf c hb).1
 done:=by
  intro X hP hw hK hc i pins s σ H E I hf st hg
  subst hP hw hK
  obtain ⟨xs,e1,hend⟩:=hg
  obtain ⟨⟨old,he⟩,h1⟩:=st
  obtain ⟨us,r1,q1⟩:=cA I.hok e1
  have nl:∀ c∈[e,it],l≠c:=λc hc=>bZ e1 (hf c hc).1
  have hsz:us.toArray.size=i:=by rw [List.size_toArray,<- r1.length]; exact hend
  subst hsz
  refine wpAny_pyNext_enum_endD (ZdJ (A:=X.A.in1) (show X.A.in1.handled=none from I.ok.hd hc) b it l (nl it (by simp)) us.toArray) he ⟨h1,q1⟩ λh' eb=>⟨rfl,?_⟩
  exact I.turns (ch:=[e,it]) (t':=s.toks) (λc o hb q=>by
   simp at hb
   exact eb c o hb.2 q) hf
 self:=λ_ _ _ _ _ st h=>by
  obtain ⟨⟨old,he⟩,_⟩:=st
  exact wpAny_pyIter_enum he h
section
variable {X:Cx} {tg:Expr} {PK:Pk} {a b:Expr} {i j:List Sl->Tr PyData} {p pos:Pos}
noncomputable def Zdb (ta:TE):TI:=λσ H R=>ta σ H λx H1=>∃ b l xs,x=.ref l/\H1 l=some (aR b xs)/\R (gA b l) H1
theorem ke {elts:List Expr} {x1:Nat} {tpos:Pos} {ta:TE} (hc:X.calm=true) (hg:Gl X "enumerate") (hm:X.mg "enumerate"=none) (ha:PE X a ta)
  (hs:starEach [a] X.env=[(false,eval a X.env)]:=by rfl):PI X (.Tuple elts x1 tpos) (.Call (.Name "enumerate" p) [a] [] pos) (Zdb ta):=by
 intro pins s σ H R I h
 have hab:PA X [a] (dP ta aT):=bY ha cx (by rw [hs]; rfl)
 have h':dP ta aT σ H λvs H1=>∃ x,vs=[x]/\∃ b l xs,x=.ref l/\H1 l=some (aR b xs)/\R (gA b l) H1:=by
  have e:(λ(x:V) (H1:Hp)=>∃ b l xs,x=.ref l/\H1 l=some (aR b xs)/\R (gA b l) H1)=λx H1=>aT σ H1 λxs H2=>∃ y,x::xs=[y]/\∃ b l xs,y=.ref l/\H2 l=some (aR b xs)/\R (gA b l) H2:=by
   funext x H1
   apply propext
   constructor
   ·exact λq=>⟨x,rfl,q⟩
   ·rintro ⟨y,e,q⟩
    have e':x=y:=by simpa using e
    subst e'
    exact q
  have h0:ta σ H λx H1=>∃ b l xs,x=.ref l/\H1 l=some (aR b xs)/\R (gA b l) H1:=h
  rw [e] at h0
  exact h0
 refine Call_ (gk I hg hm boot_enumerate (PyProof.Rows.callWith_type1 (thn (hab pos pins s σ H _ I h') λus s1 hz0=>?_) (by rw [hs]; rfl) rfl))
 obtain ⟨vs,H1,I1,r1,q1⟩:=hz0
 obtain ⟨x,rfl,b,l,xs,rfl,e1,q⟩:=q1
 obtain ⟨u,rfl,ru⟩:=cJ r1
 cases ru
 obtain ⟨us,ru,q1⟩:=cA I1.hok e1
 refine ZkH q1 λh' z t1 kk=>?_
 have I2:Inv X pins σ H1 { s1 with heap:=h' }:=I1.kept (t':=s1.toks) kk
 refine wpAny_pyIter_enum z ⟨s1.heap.objs.size+1,[s1.heap.objs.size+1,s1.heap.objs.size],_,_,H1,rfl,I2,Zfl _ _ (λq=>absurd (show (s1.heap.objs.size+1:Nat)=s1.heap.objs.size from q) (by omega)),⟨⟨_,z⟩,t1⟩,λc hb=>?_,q⟩
 have hle:s1.heap.objs.size<=c:=by
  simp at hb
  rcases hb with rfl | rfl <;> first | exact Nat.le_add_right _ _ | exact Nat.le_refl _
 exact I1.fpOk hle (I1.hok.fresh hle)
noncomputable def cU (xs:List PyData):List PyData:=(List.range xs.length).zipWith (λ(n:Nat) x=>.tuple [.int n,x]) xs
theorem ZiD {pa:Addr} {G:Hp} {b:Bool} {l:Addr} {us:List V} {xs:List PyData} (h1:G l=some (aR b us)) (d1:DnAll G us xs):fS PK pa (gA b l) G (cU xs):=λm G2 H2 sb w=>by
 have e1:H2 l=some (aR b us):=w.sub _ _ (sb _ _ h1)
 have hlen:(cU xs).length=xs.length:=by unfold cU; simp
 refine ⟨λn d hd=>?_,us,e1,by rw [hlen,d1.length]⟩
 have hn:n < xs.length:=by rw [<- hlen]; exact (List.getElem?_eq_some_iff.mp hd).1
 have hd':d=.tuple [.int n,xs[n]]:=by
  unfold cU at hd
  rw [List.getElem?_zipWith] at hd
  simp [hn] at hd
  exact hd.symm
 subst hd'
 obtain ⟨u,hu,du⟩:=d1.get n (show xs[n]?=some xs[n] by simp [hn])
 refine ⟨⟨us,u,e1,hu⟩,λx H3 hz0=>?_⟩
 obtain ⟨us',u',p,f1,hu',hp,ex,eH⟩:=hz0
 rw [e1] at f1
 have:=lh f1
 subst us'
 rw [hu] at hu'
 cases hu'
 subst ex eH
 obtain ⟨w3,s3⟩:=w.new (o:=.tup [.int n,u]) hp
 exact ⟨_,s3,w3,.tup bf (.cons (.int n) (.cons ((du.mono sb).mono s3.gs) .nil))⟩
noncomputable def iE (i:List Sl->Tr PyData):List Sl->Tr (List PyData):=λρ=>(i ρ).bind λx=>(Tr.of (dX x)).bind λxs=>.ret (cU xs)
theorem lR {iter:Expr} (h:PI X tg iter (Zdb (TAe PK i))):PI X tg iter (bX PK (iE i)):=h.imp λσ H R0 hz0=>by
 obtain ⟨pa,G₀,H₀,m,ρ,G,R,z⟩:=hz0
 refine TAe.then R z λm1 x v G1 H1 s1 w1 R1 d1 q1=>?_
 rw [Tr.ok_bind] at q1
 obtain ⟨xs,hx,q1⟩:=Tr.ok_of q1
 obtain ⟨b1,l1,us,rfl,e1,f1⟩:=jj d1 hx
 exact ⟨b1,l1,us,rfl,w1.sub _ _ e1,q1 _ G1 H1 s1 w1 (ZiD e1 f1)⟩
end
end L2
namespace L2
open PySem PySem.Spec PyProof.Rows
section
variable {prog:Program} {w:World} {A:Around}
theorem Ze1 (hh:A.handled=none) (b:Bool) (I ax:Addr) (hne:ax≠I) (items:Array Value):Walks prog w A I [I,ax] [I] items.size (λi v=>items[i]?=some v) (λi h=>ItAt b h I ax i/\SqAt b h ax items):=by
 cases b with
 | true=>exact Walks.list hh I ax hne items
 | false=>exact Walks.tuple hh I ax hne items
end
theorem ZiK {ns:List Int} {us:List Value} (r:Vals (ns.map V.int) us) {i:Nat} {v:Value} (h:us[i]?=some v):∃ t,v=.int ((ns[i]?).getD 0) t:=by
 have hi:i < us.length:=(List.getElem?_eq_some_iff.mp h).1
 have hl:us.length=ns.length:=by rw [<- r.length,List.length_map]
 obtain ⟨u,e1,e2⟩:=r.get (i:=i) (x:=V.int ns[i]) (by simp [show i < ns.length by omega])
 rw [h] at e1
 cases e1
 obtain ⟨t,e2⟩:=e2
 exact ⟨t,by simp [show i < ns.length by omega,e2]⟩
theorem ZgV (ns:List Int):preSum (λi=>(ns[i]?).getD 0) ns.length=ns.sum:=by
 have key:∀ k,k<=ns.length->preSum (λi=>(ns[i]?).getD 0) k=(ns.take k).sum:=by
  intro k
  induction k with
  | zero=>intro _; simp [preSum]
  | succ k ih =>
   intro hk
   rw [preSum,ih (by omega),List.take_add_one,List.sum_append]
   simp [show k < ns.length by omega]
 rw [key _ (Nat.le_refl _),List.take_length]
section
variable {X:Cx} {PK:Pk}
theorem fM (hc:X.calm=true):cH X (.builtin "sum") (λxs H Q=>∃ (b:Bool) (l:Addr) (ns:List Int),xs=[.ref l]/\H l=some (aR b (ns.map V.int))/\Q (.int ns.sum) H):=by
 intro pins s σ H xs us Q I r h
 obtain ⟨b,l,ns,rfl,e1,q⟩:=h
 obtain ⟨u,rfl,ru⟩:=cJ r
 cases ru
 obtain ⟨vs,rv,sq⟩:=cA I.hok e1
 have hlt:l < s.heap.objs.size:=I.hok.lt e1
 refine call_sum_walkG (gM sq ?_)
 refine ⟨s.heap.objs.size,[s.heap.objs.size,l],[s.heap.objs.size],vs.toArray.size,_,_,λi=>(ns[i]?).getD 0,rfl,Ze1 (A:=X.A.in1) (I.ok.hd hc) b _ l (Nat.ne_of_lt hlt) vs.toArray,
  ⟨la (Heap.get?_push_size _ (by cases b <;> rfl)),sq.push _⟩,λc hc=>?_,λi v hv=>ZiK rv (by simpa using hv),λh' tk t' hk=>?_⟩
 ·rw [Heap.size_push]
  simp at hc
  rcases hc with rfl | rfl
  ·exact Nat.lt_succ_self _
  ·exact Nat.lt_succ_of_lt hlt
 ·refine ⟨.int ns.sum,H,I.kept (t':=tk) λc o e=>hk c o (λz=>?_) (Heap.get?_push_of_some _ e),⟨t',?_⟩,q⟩
  ·have:c=s.heap.objs.size:=by simpa using z
   subst this
   exact Nat.lt_irrefl _ (Heap.lt_size e)
  ·have e:vs.toArray.size=ns.length:=by rw [List.size_toArray,<- rv.length,List.length_map]
   rw [e,ZgV]
noncomputable def bools?:List PyData->Option (List Bool)
 | []=>some []
 | .bool n::xs=>(bools? xs).bind λns=>some (n::ns)
 | _=>none
@[simp] theorem bools?_map:∀ ns:List Bool,bools? (ns.map PyData.bool)=some ns
 | []=>rfl
 | n::ns=>by rw [List.map_cons,bools?,bools?_map ns]; rfl
noncomputable def i6 {α:Type} (p:List PyData->Option α) (f:α->Option PyData):List PyData->Option PyData
 | [x]=>(dX x).bind λxs=>(p xs).bind f
 | _=>none
noncomputable def cf:List PyData->Option PyData:=i6 ints? λns=>some (.int ns.sum)
theorem Zhy {α:Type} {p:List PyData->Option α} {f:α->Option PyData} {G:Hp} {vs:List V} {ds:List PyData} {d:PyData} (hv:DnAll G vs ds) (h:i6 p f ds=some d):∃ b l us xs y,vs=[.ref l]/\G l=some (aR b us)/\DnAll G us xs/\p xs=some y/\f y=some d:=by
 unfold i6 at h
 split at h
 ·rename_i x
  cases hx:dX x with
  | none=>rw [hx] at h; cases h
  | some xs =>
   rw [hx] at h
   have h':(p xs).bind f=some d:=h
   cases hp:p xs with
   | none=>rw [hp] at h'; cases h'
   | some y =>
    rw [hp] at h'
    cases hv with
    | cons h1 h2 =>
     cases h2
     obtain ⟨b,l,us,rfl,e1,e2⟩:=jj h1 hx
     exact ⟨b,l,us,xs,y,rfl,e1,e2,hp,h'⟩
 ·cases h
theorem fk:eB (λxs H Q=>∃ (b:Bool) (l:Addr) (ns:List Int),xs=[.ref l]/\H l=some (aR b (ns.map V.int))/\Q (.int ns.sum) H) cf:=λPK pa m G H vs ds d Q w hv hd k=>by
 obtain ⟨b,l,us,xs,ns,rfl,e1,e2,hp,hf⟩:=Zhy hv hd
 obtain ⟨rfl,rfl⟩:=e2.ints_inv hp
 cases hf
 exact ⟨b,l,ns,rfl,w.sub _ _ e1,k.here w (.int _)⟩
variable {a b c e:Expr} {pos:Pos} {i j l:List Sl->Tr PyData}
theorem ZiH:OpR X (inplaceOp .Mult) (rI CMulG λi j=>.int (i * j)):=fw λ_ _ _ _ _ _ _ hc q=>imul_int q hc.ok
theorem pip {op:Operator} {r:R2} (h:OpR X (inplaceOp op) r):PIp X op r:=h
noncomputable def le:PyData->PyData->Option PyData
 | .int m,.int n=>some (.int (m+n))
 | _,_=>none
theorem Ze7:cz (db λi j=>.int (i+j)) le:=λPK pa m G H x y dx dy dz Q w hx hy hz k=>by
 unfold le at hz
 split at hz
 ·cases hz; cases hx; cases hy
  exact ⟨_,_,rfl,rfl,k.here w (.int _)⟩
 ·cases hz
noncomputable def ji:PyData->PyData->Option PyData
 | .int m,.int n=>if (fit m && fit n)=true then some (.int (m * n)) else none
 | _,_=>none
theorem Ze6:cz (rI CMulG λi j=>.int (i * j)) ji:=λPK pa m G H x y dx dy dz Q w hx hy hz k=>by
 unfold ji at hz
 split at hz
 ·split at hz
  ·rename_i hc
   rw [Bool.and_eq_true] at hc
   cases hz; cases hx; cases hy
   exact ⟨_,_,rfl,rfl,⟨of_decide_eq_true hc.1,of_decide_eq_true hc.2⟩,k.here w (.int _)⟩
  ·cases hz
 ·cases hz
end
theorem Zck {PK:Pk} {is:List Sl->Tr (List PyData)}:∀ σ H Q,TAe PK (bW is) σ H Q->c7 PK is σ H Q:=by
 intro σ H Q z
 obtain ⟨pa,G₀,H₀,m,ρ,G,R,z⟩:=z
 exact ⟨pa,G₀,H₀,m,ρ,G,R,Tr.ok_mono (Tr.ok_bind.mp z) λm1 xs k=>Ko1.of k R.wd.some⟩
theorem Zlg {PK:Pk} {X:Cx} {st:Stmt} {is:List Sl->Tr (List PyData)} {i:List Sl->Tr PyData} {n k:Nat} {ix:List Nat} {g:PyData->List Sl->Option (List Sl)} (h:PS X st (ce (fm (bX PK is) n ix (λ_=>ck PK g) (λ_=>TAe PK i)) (cp k))) (hn:c8 n g):PS X st (aV PK (aW k (bW (cj is n ix g i)))) :=
 ba (h.imp (jN λσ H Q z=>on hn σ H Q (Zck σ H Q z)))
variable {ρ:List Sl} {s t:List Sl->Tr Ou} {i j l:List Sl->Tr PyData} {is:List Sl->Tr (List PyData)} {as:List Sl->Tr (List Sl)} {f:List Sl->Tr Re} {p q:List Sl->Tr Bool} {k n:Nat} {x y d:PyData} {xs ys:List PyData} {sl:Sl}
theorem pg:aa 0 (.d x::ρ)=.ret x:=rfl
theorem pf:aa (k+1) (sl::ρ)=aa k ρ:=rfl
theorem sF:aC d ρ=.ret d:=rfl
noncomputable def aP (g:PyData->PyData->Option PyData) (x y:PyData):Tr PyData:=Tr.of (g x y)
noncomputable def Zei (g:PyData->PyData->Option PyData) (j:List Sl->Tr PyData) (ρ:List Sl) (x:PyData):Tr PyData:=(j ρ).bind (aP g x)
theorem rY {g:PyData->PyData->Option PyData}:ae g i j ρ=(i ρ).bind (Zei g j ρ):=rfl
theorem rX {g:PyData->PyData->Option PyData}:Zei g j ρ x=(j ρ).bind (aP g x):=rfl
theorem sw (m n:Int):aP aZ (.int m) (.int n)=.ret (.int (m+n)):=rfl
theorem lv (h1:xs.isEmpty=false) (h2:small (xs.length+ys.length)=true):aP aZ (.tuple xs) (.tuple ys)=.ret (.tuple (xs++ys)):=by
 simp [aP,aZ,h1,h2]
theorem sv (h2:small (xs.length+ys.length)=true):aP aZ (.list xs) (.list ys)=.ret (.list (xs++ys)):=by
 simp [aP,aZ,h2]
theorem pJ (m n:Int):aP cv (.int m) (.int n)=.ret (.int (m - n)):=rfl
theorem qJ {m n:Int} (h1:fit m=true) (h2:fit n=true):aP bK (.int m) (.int n)=.ret (.int (m * n)):=by
 simp [aP,bK,h1,h2]
theorem rG {m n:Int} (h1:n≠0) (h2:fit n=true):aP fJ (.int m) (.int n)=.ret (.int (m.fdiv n)):=by
 simp [aP,fJ,h1,h2]
theorem Zdt {m n:Int} (h1:n≠0):aP g9 (.int m) (.int n)=.ret (.int (m.fmod n)):=by
 simp [aP,g9,h1]
theorem rS {g:Int->Int->Bool} (m n:Int):aP (eh g) (.int m) (.int n)=.ret (.bool (g m n)):=rfl
theorem rJ (m n:Int):aP gt (.int m) (.int n)=.ret (.bool (m == n)):=rfl
theorem qI (m n:Int):aP gW (.int m) (.int n)=.ret (.bool (!(m == n))):=rfl
theorem rK (m n:Bool):aP gt (.bool m) (.bool n)=.ret (.bool (m == n)):=rfl
theorem rH (m n:Str):aP gt (.str m) (.str n)=.ret (.bool (m == n)):=rfl
theorem qH (m n:Str):aP gW (.str m) (.str n)=.ret (.bool (!(m == n))):=rfl
theorem qY (n:Int):aP aJ (.list xs) (.int n)=Tr.of (bv xs n):=rfl
theorem dI (n:Int):aP aJ (.tuple xs) (.int n)=Tr.of (bv xs n):=rfl
theorem Zld {α:Type} {xs:List α} {n:Int} {v:α} (h0:0<=n) (h:xs[n.toNat]?=some v):bv xs n=some v:=by
 have e:(n.toNat:Int)=n:=Int.toNat_of_nonneg h0
 rw [<- e]
 exact eu h
section
variable {α:Type} {a0 a1 a2 a3 a4 a5 a6 a7 a8:α} {r:List α}
theorem jr:bv (a0::r) 0=some a0:=eu (j:=0) rfl
theorem jq:bv (a0::a1::r) 1=some a1:=eu (j:=1) rfl
theorem jp:bv (a0::a1::a2::r) 2=some a2:=eu (j:=2) rfl
theorem lL:bv (a0::a1::a2::a3::r) 3=some a3:=eu (j:=3) rfl
theorem lK:bv (a0::a1::a2::a3::a4::r) 4=some a4:=eu (j:=4) rfl
theorem lJ:bv (a0::a1::a2::a3::a4::a5::r) 5=some a5:=eu (j:=5) rfl
theorem lI:bv (a0::a1::a2::a3::a4::a5::a6::r) 6=some a6:=eu (j:=6) rfl
theorem lH:bv (a0::a1::a2::a3::a4::a5::a6::a7::r) 7=some a7:=eu (j:=7) rfl
theorem lG:bv (a0::a1::a2::a3::a4::a5::a6::a7::a8::r) 8=some a8:=eu (j:=8) rfl
end
noncomputable def Zcr:PyData->Tr PyData
 | .int n=>.ret (.int (-n))
 | _=>.fail
theorem qG:eN i ρ=(i ρ).bind Zcr:=by
 unfold eN
 refine congrArg (Tr.bind (i ρ)) (funext λx=>?_)
 cases x <;> rfl
theorem qF (n:Int):Zcr (.int n)=.ret (.int (-n)):=rfl
noncomputable def Zas (x:PyData):Tr Bool:=Tr.of (jK x)
theorem pI:c5 i ρ=(i ρ).bind Zas:=rfl
theorem pA (b:Bool):Zas (.bool b)=.ret b:=rfl
noncomputable def gC (x:PyData):Tr Bool:=Tr.of (Zat x)
theorem pH:tq i ρ=(i ρ).bind gC:=rfl
theorem pG (b:Bool):gC (.bool b)=.ret b:=rfl
theorem pF (n:Int):gC (.int n)=.ret (n != 0):=rfl
theorem pE:gC (.list xs)=.ret (!xs.isEmpty):=rfl
theorem pB:gC (.tuple xs)=.ret (!xs.isEmpty):=rfl
theorem pC:gC .none=.ret false:=rfl
noncomputable def sZ (q:List Sl->Tr Bool) (ρ:List Sl) (b:Bool):Tr Bool:=if b=true then q ρ else .ret false
noncomputable def nQ (q:List Sl->Tr Bool) (ρ:List Sl) (b:Bool):Tr Bool:=if b=true then .ret true else q ρ
noncomputable def Zcl (b:Bool):Tr Bool:=.ret (!b)
theorem su:tF p q ρ=(p ρ).bind (sZ q ρ):=rfl
theorem qA:tz p q ρ=(p ρ).bind (nQ q ρ):=rfl
theorem qD:ZlF p ρ=(p ρ).bind Zcl:=rfl
theorem sn:sZ q ρ true=q ρ:=rfl
theorem sr:sZ q ρ false=.ret false:=rfl
theorem qy:nQ q ρ true=.ret true:=rfl
theorem qz:nQ q ρ false=q ρ:=rfl
theorem qC (b:Bool):Zcl b=.ret (!b):=rfl
noncomputable def oN (i j:List Sl->Tr PyData) (ρ:List Sl) (b:Bool):Tr PyData:=if b=true then i ρ else j ρ
theorem rz:tE p i j ρ=(p ρ).bind (oN i j ρ):=rfl
theorem rp:oN i j ρ true=i ρ:=rfl
theorem rq:oN i j ρ false=j ρ:=rfl
noncomputable def sQ (x:PyData) (xs:List PyData):Tr (List PyData):=.ret (x::xs)
noncomputable def Zd0 (is:List Sl->Tr (List PyData)) (ρ:List Sl) (x:PyData):Tr (List PyData):=(is ρ).bind (sQ x)
theorem qE:ap ρ=.ret []:=rfl
theorem rR:af i is ρ=(i ρ).bind (Zd0 is ρ):=rfl
theorem rQ:Zd0 is ρ x=(is ρ).bind (sQ x):=rfl
theorem rP:sQ x xs=.ret (x::xs):=rfl
noncomputable def mw (xs:List PyData):Tr PyData:=if small xs.length=true then .ret (.tuple xs) else .fail
theorem pz:bM is ρ=(is ρ).bind mw:=rfl
theorem pw (h:small xs.length=true):mw xs=.ret (.tuple xs):=by unfold mw; rw [if_pos h]
noncomputable def ZcA (xs:List PyData):Tr PyData:=.ret (.list xs)
theorem qN:bW is ρ=(is ρ).bind ZcA:=rfl
theorem qM:ZcA xs=.ret (.list xs):=rfl
noncomputable def oj (xs:List PyData):Tr (List PyData):=if small xs.length=true then .ret xs else .fail
theorem qP:iC is ρ=(is ρ).bind oj:=rfl
theorem qO (h:small xs.length=true):oj xs=.ret xs:=by unfold oj; rw [if_pos h]
theorem bS {n:Nat} (h:n<=10000):small n=true:=decide_eq_true (Nat.le_trans h (by decide))
noncomputable def bQ (g:List PyData->Option PyData) (xs:List PyData):Tr PyData:=Tr.of (g xs)
noncomputable def sR (g:List PyData->Option (List PyData)) (xs:List PyData):Tr (List PyData):=Tr.of (g xs)
theorem rV {g:List PyData->Option PyData}:a9 g is ρ=(is ρ).bind (bQ g):=rfl
theorem rT {g:List PyData->Option (List PyData)}:l0 g is ρ=(is ρ).bind (sR g):=rfl
theorem qR:bQ je [.list xs]=.ret (.int xs.length):=rfl
theorem qQ:bQ je [.tuple xs]=.ret (.int xs.length):=rfl
theorem sx (n:Int):bQ iA [.int n]=.ret (.int (lT n)):=rfl
theorem qK (m n:Int):bQ eY [.int m,.int n]=.ret (.int (cD m n)):=rfl
theorem ra (n:Int):bQ jh [.int n]=.ret (.int n):=rfl
theorem rb (b:Bool):bQ jh [.bool b]=.ret (.int (if b then 1 else 0)):=rfl
theorem pq:bQ dO [.list xs]=.ret (.tuple xs):=rfl
theorem ph:bQ dO [.tuple xs]=.ret (.tuple xs):=rfl
theorem ii (ns:List Int):bQ cf [.list (ns.map .int)]=.ret (.int ns.sum):=by
 unfold bQ cf i6
 simp
theorem gr (ns:List Int):bQ cf [.tuple (ns.map .int)]=.ret (.int ns.sum):=by
 unfold bQ cf i6
 simp
noncomputable def sl3 (x:PyData) (lo:Option Int) (hi:Option Int):Tr PyData:=Tr.of (Zf0 x lo hi)
noncomputable def dQ (q:ZlE) (ρ:List Sl) (x:PyData) (lo:Option Int):Tr PyData:=(q ρ).bind (sl3 x lo)
noncomputable def mv (xs:List PyData):Tr PyData:=(Tr.of (fq xs)).bind λys=>.ret (.tuple ys)
theorem pj:tm is ρ=(is ρ).bind mv:=rfl
theorem lq {lo hi:Int} (h:fr lo hi=true):mv [.int lo,.int hi]=.ret (.tuple (br lo hi)):=by
 simp [mv,fq,h]
noncomputable def oa (xs:List PyData):Tr (List PyData):=Tr.of (fq xs)
theorem qL:tB is ρ=(is ρ).bind oa:=rfl
theorem lu {lo hi:Int} (h:fr lo hi=true):oa [.int lo,.int hi]=.ret (br lo hi):=by
 simp [oa,fq,h]
theorem sB:aD ρ=.ret []:=rfl
noncomputable def js (x:Sl) (xs:List Sl):Tr (List Sl):=.ret (x::xs)
noncomputable def aa1 (as:List Sl->Tr (List Sl)) (ρ:List Sl) (x:PyData):Tr (List Sl):=(as ρ).bind (js (.d x))
theorem sC:ag i as ρ=(i ρ).bind (aa1 as ρ):=rfl
theorem sE:aa1 as ρ x=(as ρ).bind (js (.d x)):=rfl
theorem sD {xs:List Sl}:js sl xs=.ret (sl::xs):=rfl
noncomputable def gT:Nat->List Sl->Tr Unit
 | 0,.pen::_=>.ret ()
 | k+1,_::ρ=>gT k ρ
 | _,_=>.fail
theorem qt:gT 0 (.pen::ρ)=.ret ():=rfl
theorem qr:gT (k+1) (sl::ρ)=gT k ρ:=rfl
noncomputable def aap (as:List Sl->Tr (List Sl)) (ρ:List Sl) (_:Unit):Tr (List Sl):=(as ρ).bind (js .pen)
theorem sA:cu k as ρ=(gT k ρ).bind (aap as ρ):=by
 have key:∀ (k:Nat) (σ:List Sl) (as:List Sl->Tr (List Sl)) (ρ:List Sl),(match σ[k]? with | some Sl.pen=>(as ρ).bind λxs=>Tr.ret (Sl.pen::xs) | _=>Tr.fail)=(gT k σ).bind (aap as ρ):=by
  intro k
  induction k with
  | zero =>
   intro σ as ρ
   cases σ with
   | nil=>rfl
   | cons s r=>cases s <;> rfl
  | succ k ih =>
   intro σ as ρ
   cases σ with
   | nil=>rfl
   | cons s r=>exact ih r as ρ
 exact key k ρ as ρ
theorem sy (u:Unit):aap as ρ u=(as ρ).bind (js .pen):=rfl
theorem rW:aE f as ρ=(as ρ).bind f:=rfl
noncomputable def re1 (r:Re):Tr PyData:=.ret r.val
theorem qq:aF f ρ=(f ρ).bind re1:=rfl
theorem qp (r:Re):re1 r=.ret r.val:=rfl
theorem rO {as:List Sl} (h:as.length=n):bj n k s as=(s (as++List.replicate k .un)).bind lp:=by
 unfold bj
 rw [if_pos (decide_eq_true h)]
theorem rF:lp (.next ρ)=.ret (.d .none):=rfl
theorem rE (r:Re):lp (.ret r)=.ret r:=rfl
noncomputable def iP (t:List Sl->Tr Ou):Ou->Tr Ou
 | .next ρ=>t ρ
 | o=>.ret o
theorem pW:az s t ρ=(s ρ).bind (iP t):=by
 unfold az
 refine congrArg (Tr.bind (s ρ)) (funext λo=>?_)
 cases o <;> rfl
theorem pT:iP t (.next ρ)=t ρ:=rfl
theorem pS (r:Re):iP t (.ret r)=.ret (.ret r):=rfl
theorem pV:iP t (.brk ρ)=.ret (.brk ρ):=rfl
theorem pU:iP t (.cont ρ)=.ret (.cont ρ):=rfl
theorem pK:fN ρ=.ret (.next ρ):=rfl
noncomputable def oJ (s t:List Sl->Tr Ou) (ρ:List Sl) (b:Bool):Tr Ou:=if b=true then s ρ else t ρ
theorem rg:fP p s t ρ=(p ρ).bind (oJ s t ρ):=rfl
theorem re:oJ s t ρ true=s ρ:=rfl
theorem rf:oJ s t ρ false=t ρ:=rfl
noncomputable def Zbq (x:PyData):Tr Ou:=.ret (.ret (.d x))
theorem qo:bR i ρ=(i ρ).bind Zbq:=rfl
theorem qm:Zbq x=.ret (.ret (.d x)):=rfl
noncomputable def Zbp (xs:List PyData):Tr Ou:=.ret (.ret (.own xs))
theorem ql:ju is ρ=(is ρ).bind Zbp:=rfl
theorem qj:Zbp xs=.ret (.ret (.own xs)):=rfl
noncomputable def Zbo (r:Re):Tr Ou:=.ret (.ret r)
theorem qh:tw f ρ=(f ρ).bind Zbo:=rfl
theorem qg (r:Re):Zbo r=.ret (.ret r):=rfl
theorem qf:di 0 (.d x::ρ)=.ret (.ret (.d x)):=rfl
theorem qd:di 0 (.own xs::ρ)=.ret (.ret (.own xs)):=rfl
theorem qc:di (k+1) (sl::ρ)=di k ρ:=rfl
noncomputable def jR (k:Nat) (ρ:List Sl) (x:PyData):Tr Ou:=.ret (.next (ρ.set k (.d x)))
theorem pR:aW k i ρ=(i ρ).bind (jR k ρ):=rfl
theorem pQ:jR k ρ x=.ret (.next (ρ.set k (.d x))):=rfl
noncomputable def ZaN (k:Nat) (ρ:List Sl) (x:List PyData):Tr Ou:=.ret (.next (ρ.set k (.own x)))
theorem pP:iB k is ρ=(is ρ).bind (ZaN k ρ):=rfl
theorem pO:ZaN k ρ xs=.ret (.next (ρ.set k (.own xs))):=rfl
theorem oh {α:Type} {a b:α} {r:List α}:(a::r).set 0 b=b::r:=rfl
theorem og {α:Type} {a b:α} {r:List α}:(a::r).set (k+1) b=a::r.set k b:=rfl
noncomputable def sV (g:PyData->PyData->Option PyData) (k:Nat) (ρ:List Sl) (x y:PyData):Tr Ou:=(aP g x y).bind (jR k ρ)
noncomputable def Zek (g:PyData->PyData->Option PyData) (k:Nat) (i:List Sl->Tr PyData) (ρ:List Sl) (x:PyData):Tr Ou:=(i ρ).bind (sV g k ρ x)
theorem r8 {g:PyData->PyData->Option PyData}:jw g k i ρ=(aa k ρ).bind (Zek g k i ρ):=rfl
theorem r6 {g:PyData->PyData->Option PyData}:Zek g k i ρ x=(i ρ).bind (sV g k ρ x):=rfl
theorem rZ {g:PyData->PyData->Option PyData}:sV g k ρ x y=(aP g x y).bind (jR k ρ):=rfl
theorem rA (m n:Int):aP le (.int m) (.int n)=.ret (.int (m+n)):=rfl
theorem rc {m n:Int} (h1:fit m=true) (h2:fit n=true):aP ji (.int m) (.int n)=.ret (.int (m * n)):=by
 simp [aP,ji,h1,h2]
noncomputable def eV:Nat->List Sl->Tr (List PyData)
 | 0,.own xs::_=>.ret xs
 | k+1,_::ρ=>eV k ρ
 | _,_=>.fail
theorem qx:eV 0 (.own xs::ρ)=.ret xs:=rfl
theorem qw:eV (k+1) (sl::ρ)=eV k ρ:=rfl
theorem kh {β:Type} {g:List PyData->Tr β}:∀ (k:Nat) (σ:List Sl),(match σ[k]? with | some (Sl.own xs)=>g xs | _=>Tr.fail)=(eV k σ).bind g
 | 0,[]=>rfl
 | 0,s::r=>by cases s <;> rfl
 | k+1,[]=>rfl
 | k+1,s::r=>kh k r
noncomputable def lO (k:Nat) (ρ:List Sl) (xs:List PyData) (x:PyData):Tr Ou:=if small (xs.length+1)=true then .ret (.next (ρ.set k (.own (xs++[x])))) else .fail
noncomputable def Zey (k:Nat) (i:List Sl->Tr PyData) (ρ:List Sl) (xs:List PyData):Tr Ou:=(i ρ).bind (lO k ρ xs)
theorem sm:gy k i ρ=(eV k ρ).bind (Zey k i ρ):=kh k ρ
theorem sj:Zey k i ρ xs=(i ρ).bind (lO k ρ xs):=rfl
theorem si (h:small (xs.length+1)=true):lO k ρ xs x=.ret (.next (ρ.set k (.own (xs++[x])))):=by unfold lO; rw [if_pos h]
noncomputable def Zbn (k:Nat) (ρ:List Sl) (xs:List PyData):Tr Ou:=.ret (.next (ρ.set k (.own xs.reverse)))
theorem qb:lX k ρ=(eV k ρ).bind (Zbn k ρ):=kh k ρ
theorem qa:Zbn k ρ xs=.ret (.next (ρ.set k (.own xs.reverse))):=rfl
theorem rB:lZ k s ρ=s (fz k ρ):=rfl
theorem oY:fz 0 (.own xs::ρ)=.d (.list xs)::ρ:=rfl
theorem oZ:fz 0 (.d x::ρ)=.d x::ρ:=rfl
theorem oX:fz 0 (.pen::ρ)=.pen::ρ:=rfl
theorem oW:fz 0 (.un::ρ)=.un::ρ:=rfl
theorem o0:fz (k+1) (sl::ρ)=sl::fz k ρ:=by
 unfold fz
 rw [List.getElem?_cons_succ]
 cases h:ρ[k]? with
 | none=>rfl
 | some s=>cases s <;> rfl
noncomputable def nX (ρ:List Sl):Tr Ou:=.ret (.next ρ)
noncomputable def Zen (g:PyData->List Sl->Option (List Sl)) (ρ:List Sl) (x:PyData):Tr Ou:=(Tr.of (g x ρ)).bind nX
theorem sg {g:PyData->List Sl->Option (List Sl)}:iF g i ρ=(i ρ).bind (Zen g ρ):=rfl
theorem sa {g:PyData->List Sl->Option (List Sl)}:Zen g ρ x=(Tr.of (g x ρ)).bind nX:=rfl
theorem qB:nX ρ=.ret (.next ρ):=rfl
theorem oS:am k x ρ=some (ρ.set k (.d x)):=rfl
theorem oQ {gs:List PyData->List Sl->Option (List Sl)}:bz gs (.tuple xs) ρ=gs xs ρ:=rfl
theorem oT:bw [] ρ=some ρ:=rfl
theorem oU {g:PyData->List Sl->Option (List Sl)} {gs:List PyData->List Sl->Option (List Sl)}:aH g gs (x::xs) ρ=(g x ρ).bind (gs xs):=rfl
theorem oR {α β:Type} {a:α} {g:α->Option β}:(some a).bind g=g a:=rfl
noncomputable def Zce (k n:Nat) (ρ:List Sl):List PyData->Tr Ou
 | [x,y]=>.ret (.next ((ρ.set k (.d x)).set n (.d y)))
 | _=>.fail
theorem qv:gw k n is ρ=(is ρ).bind (Zce k n ρ):=by
 unfold gw
 refine congrArg (Tr.bind (is ρ)) (funext λxs=>?_)
 match xs with
 | []=>rfl
 | [_]=>rfl
 | [_,_]=>rfl
 | _::_::_::_=>rfl
theorem qu:Zce k n ρ [x,y]=.ret (.next ((ρ.set k (.d x)).set n (.d y))):=rfl
noncomputable def cm (x:PyData):Tr (List PyData):=Tr.of (dX x)
theorem q9:bJ i ρ=(i ρ).bind cm:=rfl
theorem q5:cm (.list xs)=.ret xs:=rfl
theorem qZ:cm (.tuple xs)=.ret xs:=rfl
noncomputable def ft (xs:List PyData):Tr (List PyData):=Tr.of (iU xs)
noncomputable def nu (xs:List PyData):Tr (List PyData):=Tr.of (iT xs)
theorem p6:fO is ρ=(is ρ).bind ft:=rfl
theorem pZ:jt is ρ=(is ρ).bind nu:=rfl
theorem eK {n:Int} (h1:-1000000000000<=n) (h2:n<=1000000000000):dG n=true:=decide_eq_true (by omega)
theorem jl {n:Int} (h:dG n=true):ft [.int n]=.ret (br 0 n):=by
 simp [ft,iU,h]
theorem Zds {m n:Int} (h1:dG m=true) (h2:dG n=true):nu [.int m,.int n]=.ret (br m n):=by
 simp [nu,iT,h1,h2]
noncomputable def mi (xs:List PyData) (ys:List PyData):Tr (List PyData):=.ret (fi xs ys)
noncomputable def mj (y:PyData) (xs:List PyData):Tr (List PyData):=(cm y).bind (mi xs)
noncomputable def ml (x y:PyData):Tr (List PyData):=(cm x).bind (mj y)
noncomputable def Zac (j:List Sl->Tr PyData) (ρ:List Sl) (x:PyData):Tr (List PyData):=(j ρ).bind (ml x)
theorem pe:lU i j ρ=(i ρ).bind (Zac j ρ):=rfl
theorem pc:Zac j ρ x=(j ρ).bind (ml x):=rfl
theorem pb:ml x y=(cm x).bind (mj y):=rfl
theorem o9:mj y xs=(cm y).bind (mi xs):=rfl
theorem o7:mi xs ys=.ret (fi xs ys):=rfl
noncomputable def sG (xs:List PyData):Tr (List PyData):=.ret (cU xs)
noncomputable def Zdy (x:PyData):Tr (List PyData):=(cm x).bind sG
theorem rL:iE i ρ=(i ρ).bind Zdy:=rfl
theorem rN:Zdy x=(cm x).bind sG:=rfl
theorem rM:sG xs=.ret (cU xs):=rfl
noncomputable def Zdk (g:PyData->List Sl->Option (List Sl)) (s:List Sl->Tr Ou) (ρ:List Sl) (xs:List PyData):Tr Ou:=b9 g s xs ρ
theorem rD {g:PyData->List Sl->Option (List Sl)}:c6 is g s ρ=(is ρ).bind (Zdk g s ρ):=rfl
theorem rC {g:PyData->List Sl->Option (List Sl)}:Zdk g s ρ xs=b9 g s xs ρ:=rfl
noncomputable def Zdj (g:PyData->List Sl->Option (List Sl)) (s:List Sl->Tr Ou) (xs:List PyData):Ou->Tr Ou
 | .next ρ=>b9 g s xs ρ
 | .cont ρ=>b9 g s xs ρ
 | .brk ρ=>.ret (.next ρ)
 | .ret r=>.ret (.ret r)
noncomputable def lm (g:PyData->List Sl->Option (List Sl)) (s:List Sl->Tr Ou) (xs:List PyData) (ρ:List Sl):Tr Ou:=(s ρ).bind (Zdj g s xs)
theorem o3 {g:PyData->List Sl->Option (List Sl)}:b9 g s [] ρ=.ret (.next ρ):=rfl
theorem Zdg {g:PyData->List Sl->Option (List Sl)}:b9 g s (x::xs) ρ=(Tr.of (g x ρ)).bind (lm g s xs):=by
 rw [b9]
 refine congrArg (Tr.bind (Tr.of (g x ρ))) (funext λρ1=>?_)
 unfold lm
 refine congrArg (Tr.bind (s ρ1)) (funext λo=>?_)
 cases o <;> rfl
theorem Zdw {g:PyData->List Sl->Option (List Sl)}:Zdj g s xs (.next ρ)=b9 g s xs ρ:=rfl
noncomputable def df (g:PyData->List Sl->Option (List Sl)) (el:List Sl->Tr PyData) (τ:List Sl) (x:PyData):Tr PyData:=(Tr.of (g x τ)).bind el
noncomputable def oo (n:Nat) (ix:List Nat) (g:PyData->List Sl->Option (List Sl)) (el:List Sl->Tr PyData) (ρ:List Sl) (xs:List PyData):Tr (List PyData):=if small xs.length=true then bh (df g el (blk n ix ρ)) xs else .fail
theorem qX {ix:List Nat} {g:PyData->List Sl->Option (List Sl)}:cj is n ix g i ρ=(is ρ).bind (oo n ix g i ρ):=rfl
theorem qW {ix:List Nat} {g:PyData->List Sl->Option (List Sl)} (h:small xs.length=true):oo n ix g i ρ xs=bh (df g i (blk n ix ρ)) xs:=by unfold oo; rw [if_pos h]
theorem qV {τ:List Sl} {g:PyData->List Sl->Option (List Sl)}:df g i τ x=(Tr.of (g x τ)).bind i:=rfl
theorem Zcx {h:PyData->Tr PyData} {n:Nat} {P:PyData->Prop}:∀ {xs:List PyData},(∀ x∈xs,(h x).all n P)->(bh h xs).all (xs.length * n) λys=>ys.length=xs.length/\∀ y∈ys,P y
 | [],_=>⟨rfl,λy hy=>by cases hy⟩
 | x::xs,hx=>by
  have e:(x::xs).length * n=n+(xs.length * n+0):=by rw [List.length_cons,Nat.succ_mul]; omega
  rw [e,bh]
  refine Tr.all_bind (hx x (by simp)) λy hy=>Tr.all_bind (Zcx λz hz=>hx z (List.mem_cons_of_mem _ hz)) λys hys=>?_
  exact ⟨by simp [hys.1],λz hz=>by
   rcases List.mem_cons.mp hz with rfl | hz
   ·exact hy
   ·exact hys.2 z hz⟩
theorem Zdi {g:PyData->List Sl->Option (List Sl)} {n:Nat} (I:List PyData->List Sl->Prop) {Q:Ou->Prop} :
  ∀ {xs pre:List PyData} {ρ:List Sl},I pre ρ->(∀ pre x post ρ,pre++x::post=pre++x::post->I pre ρ->x∈xs->∃ ρ1,g x ρ=some ρ1/\(s ρ1).all n λo=>∃ ρ2,o=.next ρ2/\I (pre++[x]) ρ2)->(∀ ρ,I (pre++xs) ρ->Q (.next ρ))->(b9 g s xs ρ).all (xs.length * n) Q
 | [],pre,ρ,h0,_,hq=>hq ρ (by rw [List.append_nil]; exact h0)
 | x::xs,pre,ρ,h0,ht,hq=>by
  obtain ⟨ρ1,e,ha⟩:=ht pre x xs ρ rfl h0 (by simp)
  have en:(x::xs).length * n=n+xs.length * n:=by rw [List.length_cons,Nat.succ_mul]; omega
  rw [en,Zdg,e,Tr.of_some,Tr.ret_bind]
  unfold lm
  refine Tr.all_bind ha λo ⟨ρ2,eo,h2⟩=>?_
  subst eo
  rw [Zdw]
  exact Zdi I h2 (λpre y post ρ e h hy=>ht pre y post ρ e h (List.mem_cons_of_mem _ hy)) (λρ h=>hq ρ (by rw [List.append_assoc] at h; exact h))
theorem ZjG {α:Type} {w:Int} {k:Int->Tr α} {n:Nat} {P:α->Prop} (h1:0 < w) (h2:w < 1073741824) (h:∀ r,0<=r->r < w->(k r).all n P):(Tr.draw w k).all (n+1) P:=⟨h1,h2,h⟩
noncomputable def n9 (y:PyData) (ys:List PyData):Tr (List PyData):=.ret (y::ys)
noncomputable def mt1 (h:PyData->Tr PyData) (xs:List PyData) (y:PyData):Tr (List PyData):=(bh h xs).bind (n9 y)
theorem nZ {h:PyData->Tr PyData}:bh h []=.ret []:=rfl
theorem n5 {h:PyData->Tr PyData} {x:PyData} {xs:List PyData}:bh h (x::xs)=(h x).bind (mt1 h xs):=rfl
theorem n8 {h:PyData->Tr PyData} {y:PyData} {xs:List PyData}:mt1 h xs y=(bh h xs).bind (n9 y):=rfl
theorem n6 {y:PyData} {ys:List PyData}:n9 y ys=.ret (y::ys):=rfl
theorem pick {α:Type} {xs:List α} {r:Int} (h0:0<=r) (h1:r < xs.length):∃ v,bv xs r=some v/\v∈xs:=by
 have h:r.toNat < xs.length:=by omega
 exact ⟨xs[r.toNat],Zld h0 (by simp [h]),List.getElem_mem h⟩
theorem Zh8 {α:Type} {xs:List α} (h:xs.length=7):∃ a b c d e f g,xs=[a,b,c,d,e,f,g]:=by
 rcases xs with _ | ⟨a,_ | ⟨b,_ | ⟨c,_ | ⟨d,_ | ⟨e,_ | ⟨f,_ | ⟨g,_ | ⟨k,xs⟩⟩⟩⟩⟩⟩⟩⟩
 ·cases h
 ·cases h
 ·cases h
 ·cases h
 ·cases h
 ·cases h
 ·cases h
 ·exact ⟨a,b,c,d,e,f,g,rfl⟩
 ·exact absurd h (by simp)
end L2
namespace L2
open PySem
@[irreducible] noncomputable def Al {α:Type} (t:Tr α) (n:Nat) (P:α->Prop):Prop:=t.all n P
section
variable {α β:Type} {t:Tr α} {n n' N:Nat} {P:α->Prop} {P':β->Prop}
theorem Al.of (h:t.all n P):Al t n P:=by unfold Al; exact h
theorem Al.out (h:Al t n P):t.all n P:=by unfold Al at h; exact h
theorem bL {a:α} (h:P a):Al (.ret a) n P:=.of h
theorem cW {w:Int} {k:Int->Tr α} (h1:0 < w) (h2:w < 1073741824) (hN:n+1<=N) (h:∀ r,0<=r->r < w->Al (k r) n P):Al (.draw w k) N P:=.of (Tr.all_mono (ZjG h1 h2 λr a b=>(h r a b).out) hN λ_ h=>h)
theorem cF {f:α->Tr β} (h:Al t n P) (hN:n+n'<=N) (hf:∀ a,P a->Al (f a) n' P'):Al (t.bind f) N P':=.of (Tr.all_mono (Tr.all_bind h.out λa ha=>(hf a ha).out) hN λ_ h=>h)
theorem lQ {Q:α->Prop} (h:Al t n P) (hN:n<=N) (hq:∀ a,P a->Q a):Al t N Q:=.of (Tr.all_mono h.out hN hq)
theorem ZeC {g:PyData->List Sl->Option (List Sl)} {s:List Sl->Tr Ou} {xs:List PyData} {ρ:List Sl} {Q:Ou->Prop} (I:List Sl->Prop) (h0:I ρ) (hN:xs.length * n<=N) (ht:∀ x ρ,x∈xs->I ρ->∃ ρ1,g x ρ=some ρ1/\Al (s ρ1) n λo=>∃ ρ2,o=.next ρ2/\I ρ2) (hq:∀ ρ,I ρ->Q (.next ρ)):Al (b9 g s xs ρ) N Q :=
 .of (Tr.all_mono (Zdi (λ_ ρ=>I ρ) (pre:=[]) h0 (λpre x post ρ _ h hx=>let ⟨ρ1,e,a⟩:=ht x ρ hx h; ⟨ρ1,e,a.out⟩) λρ h=>hq ρ h) hN λ_ h=>h)
theorem tf {h:PyData->Tr PyData} {P:PyData->Prop} {xs:List PyData} {Q:List PyData->Prop} (hN:xs.length * n<=N) (hx:∀ x∈xs,Al (h x) n P) (hq:∀ ys,ys.length=xs.length->(∀ y∈ys,P y)->Q ys):Al (bh h xs) N Q :=
 .of (Tr.all_mono (Zcx λx m=>(hx x m).out) hN λys ⟨a,b⟩=>hq ys a b)
end
noncomputable def dY (lo hi:Int) (x:PyData):Prop:=∃ z:Int,x=.int z/\lo<=z/\z<=hi
theorem cC {lo hi:Int}:(br lo hi).length=(hi - lo).toNat:=by unfold br; rw [List.length_map,dA]
theorem Zb5 {xs:List PyData} {lo hi r:Int} (h:∀ x∈xs,dY lo hi x) (h0:0<=r) (h1:r < xs.length):∃ z:Int,bv xs r=some (.int z)/\lo<=z/\z<=hi:=by
 obtain ⟨v,e,m⟩:=pick h0 h1
 obtain ⟨z,rfl,a,b⟩:=h v m
 exact ⟨z,e,a,b⟩
end L2
namespace L2
open PySem PySem.Spec PyProof.Rows
variable {PK:Pk} {X:Cx} {a b c e:Expr} {es:List Expr} {pos:Pos} {i j l:List Sl->Tr PyData} {is:List Sl->Tr (List PyData)} {p q:List Sl->Tr Bool} {st:Stmt}
noncomputable def dZ:PyData->Bool
 | .none=>true
 | .bool _=>true
 | .int _=>true
 | .str _=>true
 | _=>false
variable {PK:Pk} {X:Cx} {a b c e:Expr} {es:List Expr} {pos:Pos} {i j l:List Sl->Tr PyData} {as:List Sl->Tr (List Sl)}
structure PkLow (PK:Pk):Prop where
 low:∀ {o o':HO} {G G':Hp} {m m':Nat},PK.is o G m->Sub G G'->PK.is o' G' m'->PK.is o' G m'
theorem Dn.flat_any {G G':Hp} {v:V} {x:PyData} (h:Dn G v x) (f:dZ x=true):Dn G' v x:=by
 cases h with
 | non=>exact .non
 | bl b=>exact .bl b
 | int i=>exact .int i
 | str s=>exact .str s
 | _=>cases f
variable {ρ:List Sl} {k:Nat} {xs:List PyData} {x:PyData} {sl:Sl} {f:List Sl->Tr Re}
theorem Zks {prog:Program} {w:World} {A:Around} {R:Result->Shared->Prop} {s:Shared} {elt target iter cnd:Expr} {scope:Scope} {pos:Pos} {it acc:Value} {env:Env} (J:Nat->Shared->Prop)
  (step:∀ k s0,J k s0->wpAny (model prog w) A (pyNext it) (λgot s1=>match got with
   | none=>R (.ok .next) s1
   | some v=>wpAny (model prog w) A (letOwnedTupleGo target it v) (λ_ s2=>wpAny (model prog w) A (assign target env v) (λ_ s3=>wpAny (model prog w) A (isTrue cnd env (eval cnd env)) (λok s3'=>if ok=true then wpAny (model prog w) A (eval elt env) (λy s4 =>
     wpAny (model prog w) A (call (.builtin "list.append") [acc,y]) (λ_ s5=>∃ j,j < k/\J j s5) (λ_ _=>False) s4) (λ_ _=>False) s3' else ∃ j,j < k/\J j s3') (λ_ _=>False) s3) (λ_ _=>False) s2) (λ_ _=>False) s1) (λ_ _=>False) s0)
  (k:Nat) (h:J k s):codeAny (model prog w) A (.compLoop (.ListComp elt [⟨target,iter,[cnd],0⟩] scope pos) 0 it acc env) R s:=by
 refine codeAny_loop rfl J (λk0 s0 hJ=>?_) k h
 show wpAny _ _ ((compTurn (.ListComp elt [⟨target,iter,[cnd],0⟩] scope pos) 0 it acc env).onRaise (λx=>do noteFrame x env; theTreesLotGoes x)) _ _ s0
 apply wpAny_noted
 rw [compTurn_list]
 refine wpAny_bind (wpAny_standAt (wpAny_bind (wpAny_mono (step k0 s0 hJ) (λgot s1 h1=>?_) λ_ _ z=>z.elim)))
 cases got with
 | none=>exact wpAny_pure h1
 | some v =>
  refine wpAny_bind (wpAny_mono h1 (λ_ s2 h2=>?_) λ_ _ z=>z.elim)
  refine wpAny_bind (wpAny_mono h2 (λ_ s3 h3=>?_) λ_ _ z=>z.elim)
  refine wpAny_bind (wpAny_mono (wpAny_tests_one h3) (λok s3' h3'=>?_) λ_ _ z=>z.elim)
  cases ok with
  | false=>exact wpAny_pure ⟨rfl,h3'⟩
  | true =>
   refine wpAny_bind (wpAny_bind (wpAny_mono h3' (λy s4 h4=>?_) λ_ _ z=>z.elim))
   exact wpAny_bind (wpAny_mono h4 (λ_ s5 h5=>wpAny_pure (wpAny_pure ⟨rfl,h5⟩)) λ_ _ z=>z.elim)
noncomputable def mz (wi:TI) (n:Nat) (ix:List Nat) (g:Blk->TG) (tc:Blk->TT) (te:Blk->TE):TE:=λσ H Q=>wi σ H λJ H1=>∀ b:Blk,∃ W:Nat->Nat->St->List V->Hp->Prop,(∃ m,W 0 m (bV n ix σ) [] H1)/\∀ i m τ ys H2,W i m τ ys H2 ->
 (J.stop i H2/\∀ p v H',H2 p=none->v=V.ref p->H'=upd H2 p (.lst ys)->Q v H') \/
 (J.go i H2/\ys.length < sizeLine/\∀ x H3,J.yld i H2 x H3->g b x τ H3 λτ2 H4=>tc b τ2 H4 λok H4'=>if ok=true then te b τ2 H4' λy H5=>∃ m',m' < m/\W (i+1) m' τ2 (ys++[y]) H5 else ∃ m',m' < m/\W (i+1) m' τ2 ys H4')
section
variable {X:Cx} {pins:List (Addr×Obj)} {σ:St} {H:Hp} {s:Shared}
theorem Zig {elt target iter cnd:Expr} {scope:Scope} {pos:Pos} {Nx ts:List Str} {ix:List Nat} {g:Blk->TG} {tc:Blk->TT} {te:Blk->TE} {cl:List (Str×Addr)} {s2:Shared} {itv:Value} {R:Value->Addr->Result->Shared->Prop}
  {E:Value->Shared->Prop} {Q:VK}
  (hc:X.calm=true) (hg:∀ b,PG (au X (bN Nx ts ix) scope b) target (g b)) (hcn:∀ b,PT (au X (bN Nx ts ix) scope b) cnd (tc b)) (he:∀ b,PE (au X (bN Nx ts ix) scope b) elt (te b))
  (hNx:X.N=Nx) (ok:BlkOk Nx X.env.scope scope ix) (cl1:∀ x c,cl.lookup x=some c->X.env.cells.lookup x=some c) (cl2:∀ y∈scope.names,y.2=.free->∃ c,cl.lookup y.1=some c)
  (h2:iG X pins σ target (λJ H1=>∀ b:Blk,∃ W:Nat->Nat->St->List V->Hp->Prop,(∃ m,W 0 m (bV ts.length ix σ) [] H1)/\∀ i m τ ys H2,W i m τ ys H2 ->
   (J.stop i H2/\∀ p v H',H2 p=none->v=V.ref p->H'=upd H2 p (.lst ys)->Q v H') \/
   (J.go i H2/\ys.length < sizeLine/\∀ x H3,J.yld i H2 x H3->g b x τ H3 λτ2 H4=>tc b τ2 H4 λok H4'=>if ok=true then te b τ2 H4' λy H5=>∃ m',m' < m/\W (i+1) m' τ2 (ys++[y]) H5 else ∃ m',m' < m/\W (i+1) m' τ2 ys H4')) itv s2)
  (hR:∀ (D C:Addr) (H':Hp) (s':Shared) (v:V),Inv X pins σ H' s'->v=.ref D->Q v H'->(∃ m,s'.heap.Ns C m)->H' C=none->C≠X.env.locals->X.s₀.heap.objs.size<=C->(∀ x c,X.env.cells.lookup x=some c->c≠C)->(∀ p∈X.pn++pins,p.1≠C) ->
   R (.ref D) C (.ok .next) s') :
  wpAny (model X.prog X.w) X.A (newList []) (λacc s₃=>wpAny (model X.prog X.w) X.A (newFunctionEnv scope X.env.globals cl [] X.env.qual none .none (some X.env)) (λcenv s₄ =>
   codeAny (model X.prog X.w) X.A (.compStart (.ListComp elt [⟨target,iter,[cnd],0⟩] scope pos) 0 itv acc { cenv with scope:=relabel scope X.env }) (R acc cenv.locals) s₄) E s₃) E s2:=by
 obtain ⟨it,fp,tn,J,H1,e,I2,T,st2,f2,q2⟩:=h2
 subst e
 refine wpAny_newObj_type (jD ?_)
 dsimp only
 generalize hG:s2.heap.push { cls:=.type "list",dict:=none,data:=.seq ([]:List Value).toArray }=G
 have hGs:G.objs.size=s2.heap.objs.size+1:=by rw [<- hG,Heap.size_push]
 have hfs:∀ b∈fp,b < s2.heap.objs.size:=λb hb=>let ⟨o,e,_⟩:=T.obj _ _ st2 b hb; Heap.lt_size e
 have kpG:∀ b o,G.get? b=some o->(pushCells (G.push { cls:=.type "dict",data:=.dict #[] }) scope.names).get? b=some o:=λb o e=>pushCells_keeps _ _ _ _ (Heap.get?_push_of_some _ e)
 have hns3:(pushCells (G.push { cls:=.type "dict",data:=.dict #[] }) scope.names).Ns G.objs.size (λ_=>none):=(Heap.Ns.new G (.type "dict")).keeps (pushCells_keeps _ _)
 obtain ⟨sp1,sp2,sp4,sp3⟩:=lC scope.names (G.push { cls:=.type "dict",data:=.dict #[] }) cl
 rw [Heap.size_push] at sp1 sp2 sp3 sp4
 generalize hh3:pushCells (G.push { cls:=.type "dict",data:=.dict #[] }) scope.names=h3 at kpG hns3 sp1 ⊢
 have kp:∀ b o,s2.heap.get? b=some o->h3.get? b=some o:=λb o e=>kpG b o (by rw [<- hG]; exact Heap.get?_push_of_some _ e)
 have hD3:h3.get? s2.heap.objs.size=some { cls:=.type "list",data:=.seq ([]:List Value).toArray }:=kpG _ _ (by rw [<- hG]; exact Heap.get?_push_size _ rfl)
 have clB:∀ x c,cl.lookup x=some c->c < G.objs.size+1:=λx c e=>by
  obtain ⟨v,q⟩:=I2.cell x c (cl1 x c e)
  exact Nat.lt_succ_of_lt (Nat.lt_of_lt_of_le q.lt (by rw [hGs]; exact Nat.le_succ _))
 have csI:=sp3 clB λx y c e1 e2=>I2.ok.inj x y c (cl1 x c e1) (cl1 y c e2)
 have cs1:∀ x c,(cellsFrom (G.objs.size+1) scope.names cl).lookup x=some c->X.env.cells.lookup x=some c\/(G.objs.size < c/\h3.IsCell c none/\(x,NameKind.cell)∈scope.names):=λx c e=>by
  rcases sp1 x c e with z | ⟨z1,z2,z3⟩
  ·exact .inl (cl1 x c z)
  ·exact .inr ⟨by omega,z2,z3⟩
 have cs2:∀ y∈scope.names,(y.2=.free\/y.2=.cell)->∃ c,(cellsFrom (G.objs.size+1) scope.names cl).lookup y.1=some c:=λy hy hk=>by
  refine sp2 y.1 ?_
  rcases hk with z | z
  ·exact .inr (cl2 y hy z)
  ·exact .inl (by rw [<- z]; exact hy)
 have csA:∀ x c,(x,NameKind.cell)∈scope.names->(cellsFrom (G.objs.size+1) scope.names cl).lookup x=some c->G.objs.size<=c:=λx c e1 e2=>Nat.le_of_succ_le (sp4 x c e1 e2)
 generalize hcs:cellsFrom (G.objs.size+1) scope.names cl=cs at csI cs1 cs2 csA ⊢
 generalize hCe:G.objs.size=C at hns3 cs1 csA ⊢
 have hC:s2.heap.objs.size<=C:=by omega
 have hDC:s2.heap.objs.size≠C:=by omega
 let B:Blk:=⟨cs,C,s2,H1,fp,X.pn++pins⟩
 have I3:Inv (au X (bN Nx ts ix) scope B) [] (bV ts.length ix σ) H1 { s2 with heap:=h3 }:=lb I2 hNx ok cs1 csI cs2 csA f2 hfs hC kp hns3
 have fC:H1 s2.heap.objs.size=none:=I2.hok.fresh (Nat.le_refl _)
 have cellIn:∀ x c,cs.lookup x=some c->c≠s2.heap.objs.size:=λx c e=>by
  rcases cs1 x c e with z | ⟨z,_,_⟩
  ·obtain ⟨v,q⟩:=I2.cell x c z
   exact Nat.ne_of_lt q.lt
  ·exact Nat.ne_of_gt (Nat.lt_of_le_of_lt hC z)
 have pinIn:∀ p∈X.pn++pins,p.1 < s2.heap.objs.size:=λp hp=>Heap.lt_size (I2.pin p hp).1
 have nofrs:s2.heap.objs.size ∉ frs X.stack:=λhb=>by
  rcases List.mem_cons.mp (I2.stkSub _ hb) with z | z
  ·exact absurd I2.lt (by rw [<- z]; exact Nat.lt_irrefl _)
  ·exact I2.nofs (Nat.le_refl _) z
 -- a state with the list at its place,pinned
 have pinD:∀ {τ:St} {H':Hp} {s':Shared} {ob:Obj},Inv (au X (bN Nx ts ix) scope B) [] τ H' s'->s'.heap.get? s2.heap.objs.size=some ob->H' s2.heap.objs.size=none->(∀ v,ob.data≠.cell v)->Inv (au X (bN Nx ts ix) scope B) [(s2.heap.objs.size,ob)] τ H' s' :=
  λ{τ H' s' ob} I' ho hn hd=>I'.pins_of λp hp=>by
   have e:p=(s2.heap.objs.size,ob):=by simpa using hp
   subst e
   exact ⟨ho,hn,hDC,nofrs,hd⟩
 obtain ⟨W,⟨m0,w0⟩,turn⟩:=q2 B
 have stat:∀ {H':Hp} {ob:Obj},(∀ b∈fp,H' b=none)->∀ b∈fp,da (au X (bN Nx ts ix) scope B) [(s2.heap.objs.size,ob)] H' b:=λ{H' ob} hn b hb=>by
  refine ⟨hn b hb,Nat.ne_of_lt (Nat.lt_of_lt_of_le (hfs b hb) hC),λz=>?_,.inl hb,λx c e=>by
   rcases cs1 x c e with z | ⟨z,_,_⟩
   ·exact (f2 b hb).2.2.2.2.1 x c z
   ·exact Nat.ne_of_gt (Nat.lt_of_lt_of_le (hfs b hb) (Nat.le_trans hC (Nat.le_of_lt z))),λp hp=>?_⟩
  ·rcases List.mem_cons.mp (I2.stkSub _ z) with q | q
   ·exact (f2 b hb).2.1 q
   ·exact (f2 b hb).2.2.1 q
  ·rcases List.mem_append.mp hp with z | z
   ·exact (f2 b hb).2.2.2.2.2 p z
   ·have e:p=(s2.heap.objs.size,ob):=by simpa using z
    subst e
    exact Nat.ne_of_gt (hfs b hb)
 have loop:∀ s4:Shared,s4={ s2 with heap:=h3 } ->
   codeAny (model X.prog X.w) X.A (.compLoop (.ListComp elt [⟨target,iter,[cnd],0⟩] scope pos) 0 (.ref it) (.ref s2.heap.objs.size) (compEnvC scope cs C X.env)) (R (.ref s2.heap.objs.size) C) s4:=by
  rintro s4 rfl
  refine Zks (λk s'=>∃ i τ ys its n H',Inv (au X (bN Nx ts ix) scope B) [(s2.heap.objs.size,({ cls:=.type "list",data:=.seq (List.toArray its) n }:Obj))] τ H' s'/\tn i s'.heap/\(∀ b∈fp,H' b=none)/\Vals ys its/\ys.length<=sizeLine/\W i k τ ys H') ?_ m0
   ⟨0,_,[],[],_,H1,pinD I3 hD3 fC (λv z=>by cases z),T.keep _ _ _ st2 λb hb o e=>kp b o e,λb hb=>(f2 b hb).1,.nil,Nat.zero_le _,w0⟩
  rintro k s5 ⟨i,τ,ys,its,n,H5,I5,st5,fr5,rv,hz,w5⟩
  rcases turn i k τ ys H5 w5 with ⟨stop,qn⟩ | ⟨go,hlt,step⟩
  ·refine thn (T.done (au X (bN Nx ts ix) scope B) rfl rfl rfl hc i _ s5 τ H5 _ I5 (stat fr5) st5 stop) λgot s6 hz0=>?_
   obtain ⟨hr,I6⟩:=hz0
   subst hr
   obtain ⟨ho,hn,_,_,_⟩:=I6.pin (s2.heap.objs.size,({ cls:=.type "list",data:=.seq (List.toArray its) n }:Obj)) (List.mem_append_right _ (by simp))
   have I7:Inv X pins σ H5 s6:=I2.call' (ch:=fp) (H':=H5) (by exact I6.os) I6.base I6.hok I6.bare λb hb=>⟨(f2 b hb).2.2.2.1,(f2 b hb).2.1,(f2 b hb).2.2.2.2.1,(f2 b hb).2.2.2.2.2⟩
   have hs0:X.s₀.heap.objs.size<=s2.heap.objs.size:=I2.sz
   have I8:=I7.track hn ho rv hz (Nat.ne_of_gt I2.lt) hs0 (λx c e z=>by
    obtain ⟨v,q⟩:=I2.cell x c e
    exact absurd q.lt (by rw [z]; exact Nat.lt_irrefl _)) (λp hp=>Nat.ne_of_lt (pinIn p hp))
   obtain ⟨m6,hm6,_⟩:=I6.loc
   refine hR _ C _ s6 _ I8 rfl (qn _ _ _ hn rfl rfl) ⟨m6,hm6⟩ ?_ (λz=>?_) (Nat.le_trans hs0 hC) (λx c e z=>?_) λp hp=>Nat.ne_of_lt (Nat.lt_of_lt_of_le (pinIn p hp) hC)
   ·rw [ai (Ne.symm hDC)]
    exact I6.free
   ·exact absurd (Nat.lt_of_lt_of_le I2.lt hC) (by rw [z]; exact Nat.lt_irrefl _)
   ·obtain ⟨v,q⟩:=I2.cell x c e
    exact absurd (Nat.lt_of_lt_of_le q.lt hC) (by rw [z]; exact Nat.lt_irrefl _)
  ·refine thn (T.item (au X (bN Nx ts ix) scope B) rfl rfl rfl hc i _ s5 τ H5 _ I5 (stat fr5) st5 go) λgot s6 hz0=>?_
   obtain ⟨u,hr,h6⟩:=hz0
   subst hr
   refine thn h6 λ_ s7 hz0=>?_
   obtain ⟨x,H7,I7,r7,y7,st7,fr7⟩:=hz0
   have I7':=I7.pinned (stat fr7) (T.obj _ _ st7)
   refine thn (hg B _ s7 τ H7 x u _ I7' r7 (step x H7 y7)) λ_ s8 hz0=>?_
   obtain ⟨τ8,H8,I8,q8⟩:=hz0
   refine thn (hcn B _ s8 τ8 H8 _ I8 q8) λokk s8' hz0=>?_
   obtain ⟨H8',I8',q8'⟩:=hz0
   cases okk with
   | false =>
    obtain ⟨m',hm',w9⟩:=q8'
    obtain ⟨ho,hn,_,_,_⟩:=I8'.pin (s2.heap.objs.size,({ cls:=.type "list",data:=.seq (List.toArray its) n }:Obj)) (List.mem_append_right _ (List.mem_append_left _ (by simp)))
    have I9':Inv (au X (bN Nx ts ix) scope B) [] τ8 H8' s8':=I8'.pins_of λp hp=>absurd hp (by simp)
    refine ⟨m',hm',i+1,τ8,ys,its,n,H8',pinD I9' ho hn (λv z=>by cases z),?_,λb hb=>?_,rv,hz,w9⟩
    ·refine T.keep _ _ _ st7 λb hb o e=>?_
     exact (I8'.pin (b,o) (List.mem_append_right _ (List.mem_append_right _ (cR hb e)))).1
    ·obtain ⟨o,e,d⟩:=T.obj _ _ st7 b hb
     exact (I8'.pin (b,o) (List.mem_append_right _ (List.mem_append_right _ (cR hb e)))).2.1
   | true =>
   refine thn (he B _ s8' τ8 H8' _ I8' q8') λy s9 hz0=>?_
   obtain ⟨vy,H9,I9,r9,m',hm',w9⟩:=hz0
   obtain ⟨ho,hn,_,_,_⟩:=I9.pin (s2.heap.objs.size,({ cls:=.type "list",data:=.seq (List.toArray its) n }:Obj)) (List.mem_append_right _ (List.mem_append_left _ (by simp)))
   have lenv:=rv.length
   refine wpAny_list_append_plain (l:=s2.heap.objs.size) ⟨n,ho⟩ (λh' hpl hsb=>?_) (by rw [List.size_toArray]; omega)
   obtain ⟨n',ho'⟩:=hpl
   have eobj:(its.toArray.push y)=List.toArray (its++[y]):=by simp
   rw [eobj] at ho'
   have I9':Inv (au X (bN Nx ts ix) scope B) [] τ8 H9 s9:=I9.pins_of λp hp=>absurd hp (by simp)
   have I10:Inv (au X (bN Nx ts ix) scope B) [] τ8 H9 { s9 with heap:=h' }:=I9'.turned (it:=s2.heap.objs.size) (t':=s9.toks) (λb o hb e=>(hsb.2 b hb).trans e) hn hDC (.inr (Nat.le_refl _)) cellIn (λp hp=>by
    have hp':p∈(X.pn++pins)++[]:=hp
    rw [List.append_nil] at hp'
    exact Nat.ne_of_lt (pinIn p hp'))
   refine ⟨m',hm',i+1,τ8,ys++[vy],its++[y],n',H9,pinD I10 ho' hn (λv z=>by cases z),?_,λb hb=>?_,rv.append (.cons r9 .nil),by rw [List.length_append]; show ys.length+1<=_; omega,w9⟩
   ·refine T.keep _ _ _ st7 λb hb o e=>?_
    have q:=(I9.pin (b,o) (List.mem_append_right _ (List.mem_append_right _ (cR hb e)))).1
    exact (hsb.2 b (Nat.ne_of_lt (hfs b hb))).trans q
   ·obtain ⟨o,e,d⟩:=T.obj _ _ st7 b hb
    exact (I9.pin (b,o) (List.mem_append_right _ (List.mem_append_right _ (cR hb e)))).2.1
 exact codeAny_compStart_list (loop _ rfl) (T.self X.A 0 _ _ _ (T.keep _ _ _ st2 λb hb o e=>kp b o e) (loop _ rfl))
theorem ZgQ {elt target iter cnd:Expr} {scope:Scope} {pos pos' spos:Pos} {wi:TI} {g:Blk->TG} {tc:Blk->TT} {te:Blk->TE} {i:Nat} {x:Str} (Nx:List Str) (ts:List Str) (ix:List Nat)
  (hc:X.calm=true) (hN:X.N.Nodup) (hix:X.N[i]?=some x) (hx:X.env.scope.names.lookup x=some .local) (hi:PI X target iter wi) (hg:∀ b,PG (au X (bN Nx ts ix) scope b) target (g b)) (hcn:∀ b,PT (au X (bN Nx ts ix) scope b) cnd (tc b)) (he:∀ b,PE (au X (bN Nx ts ix) scope b) elt (te b))
  (hNx:X.N=Nx) (ok:BlkOk Nx X.env.scope scope ix) (hsw:swapsWith (.ListComp elt [⟨target,iter,[cnd],0⟩] scope pos) (some (.Name x pos')) spos.line X.env=pure true) (hs:∀ x,foldedSetIterable iter X.env x=pure x:=by intro _; rfl) :
  PS X (.Assign [.Name x pos'] (.ListComp elt [⟨target,iter,[cnd],0⟩] scope pos) spos) (ce (mz wi ts.length ix g tc te) (cp i)):=by
 intro pins s σ H D0 I h
 obtain ⟨cl,hcl,cl1,cl2⟩:=im (scope:=scope) (env:=X.env) λy hy hf=>I.ok.has y.1 (ok.frees y hy hf)
 rw [exec_Assign_Name_used _ _ _ _ hsw]
 refine wpAny_bind (wpAny_standAt (wpAny_bind ?_))
 show wpAny _ X.A (do let _ <- comprehension (.ListComp elt [⟨target,iter,[cnd],0⟩] scope pos) scope X.env _ (newList []) false (eval iter X.env) (some (assign (.Name x pos') X.env))) _ _ s
 refine wpAny_bind (thn (wpAny_comprehension_free (use:=some (assign (.Name x pos') X.env)) (Q:=λ_ s'=>SP X pins D0 .next s') rfl hs hcl ok.kind ok.locs (thn (hi pins s σ H _ I h) λv s1 h1=>thn h1 λitv s2 h2=>?_)) λ_ s' hq=>wpAny_pure (wpAny_pure hq))
 refine Zig (R:=λacc C=>compPost (model X.prog X.w) X.A X.xe (some (assign (.Name x pos') X.env)) (λ_ s'=>SP X pins D0 .next s') acc C) (Q:=λx H1=>cp i x σ H1 D0.nx) hc hg hcn he hNx ok cl1 cl2 h2 ?_
 rintro D C H' s' v I' rfl q ⟨m,hm⟩ hn hL h0 hcl' hp
 show wpAny _ X.A (assign (.Name x pos') X.env (.ref D)) _ _ _
 refine wpAny_assign_Name (jP I' hN hix (.inl hx) (show RelV (.ref D) (.ref D) from rfl) (λs'' I'' hch=>?_) (.inr hx))
 obtain ⟨a,hsb,ha⟩:=hch
 have haC:C≠a:=by
  rcases ha with z | z
  ·rw [z]; exact hL
  ·exact λe=>hcl' _ _ z e.symm
 exact ⟨m,hm.sameBut hsb haC,λh'' hs''=>⟨_,H',I''.turned (it:=C) (t':=s''.toks) (λb o hb e=>(hs''.2 b hb).trans e) hn hL (.inr h0) hcl' hp,q⟩⟩
end
section
variable {PK:Pk} {X:Cx} {e:Expr} {st:Stmt} {i:List Sl->Tr PyData} {is:List Sl->Tr (List PyData)} {p:List Sl->Tr Bool}
noncomputable def kB (y:Option PyData) (ys:List PyData):Tr (List PyData):=.ret (match y with
 | some y=>y::ys
 | none=>ys)
noncomputable def dE (h:PyData->Tr (Option PyData)):List PyData->Tr (List PyData)
 | []=>.ret []
 | x::xs=>(h x).bind λy=>(dE h xs).bind (kB y)
noncomputable def ib (p:List Sl->Tr Bool) (i:List Sl->Tr PyData) (τ:List Sl):Tr (Option PyData):=(p τ).bind λok=>if ok=true then (i τ).bind λy=>.ret (some y) else .ret none
noncomputable def lY (is:List Sl->Tr (List PyData)) (n:Nat) (ix:List Nat) (g:PyData->List Sl->Option (List Sl)) (p:List Sl->Tr Bool) (el:List Sl->Tr PyData):List Sl->Tr (List PyData):=λρ =>
 (is ρ).bind λxs=>if small xs.length=true then dE (λx=>(Tr.of (g x (blk n ix ρ))).bind (ib p el)) xs else .fail
theorem Zif {n:Nat} {ix:List Nat} {g:PyData->List Sl->Option (List Sl)} (hn:c8 n g):∀ σ H Q,c7 PK (lY is n ix g p i) σ H Q->mz (bX PK is) n ix (λ_=>ck PK g) (λ_=>TAt PK p) (λ_=>TAe PK i) σ H Q:=by
 rintro σ H Q ⟨pa,G₀,H₀,m,ρ,G,R,z⟩
 refine ⟨pa,G₀,H₀,m,ρ,G,R,Tr.ok_mono (Tr.ok_bind.mp z) λm1 xs k J G1 H1 s1 w1 jo=>λB=>?_⟩
 obtain ⟨hs,k⟩:=dC k
 have hs:xs.length<=sizeLine:=of_decide_eq_true hs
 let el:PyData->Tr (Option PyData):=λx=>(Tr.of (g x (blk n ix ρ))).bind (ib p i)
 let W:Nat->Nat->St->List V->Hp->Prop:=λk mm τ ys H2=>mm=xs.length - k/\k<=xs.length/\ys.length<=k/\∃ m G2 ds,Sub G1 G2/\Stp pa G H G2 H2/\Rl PK pa G₀ H₀ m τ (blk n ix ρ) G2 H2 /\
  DnAll G2 ys ds/\(dE el (xs.drop k)).ok m λm' zs=>Ko1 PK pa m' G H (ds++zs) Q
 refine ⟨W,⟨xs.length,rfl,Nat.zero_le _,Nat.le_refl _,m1,G1,[],.refl,s1,(R.step s1 w1).blk n ix,.nil,k⟩,?_⟩
 rintro k mm τ ys H2 ⟨rfl,hk,hy,m2,G2,ds,sb,st2,R2,dn,k2⟩
 obtain ⟨j1,j2⟩:=jo m2 G2 H2 sb R2.wd
 by_cases hlt:k < xs.length
 ·have hx:xs[k]?=some xs[k]:=by simp [hlt]
  obtain ⟨jg,jy⟩:=j1 k _ hx
  refine .inr ⟨jg,by omega,λx H3 y=>?_⟩
  obtain ⟨G3,s3,w3,d3⟩:=jy x H3 y
  rw [List.drop_eq_getElem_cons hlt] at k2
  unfold dE at k2
  rw [Tr.ok_bind,Tr.ok_bind] at k2
  obtain ⟨ρ3,hg3,k3⟩:=Tr.ok_of k2
  refine ⟨pa,G₀,H₀,m2,_,G3,_,ρ3,R2.step s3 w3,d3,hg3,λτ4 R4=>?_⟩
  obtain ⟨pl,pk⟩:=hn _ _ _ hg3
  have hback:∀ (q:Nat) (sl:Sl),(blk n ix ρ)[q]?=some sl->sl=.un\/ρ3[q]?=some sl:=λq sl hq=>by
   by_cases hqn:q < n
   ·left
    unfold blk at hq
    rw [List.getElem?_append_left (by simpa using hqn),List.getElem?_replicate,if_pos hqn] at hq
    cases hq
    rfl
   ·right
    rw [pk q (Nat.le_of_not_lt hqn)]
    exact hq
  unfold ib at k3
  rw [Tr.ok_bind] at k3
  refine ⟨pa,G₀,H₀,m2,ρ3,G3,R4,Tr.ok_mono k3 λm4 ok k4 G4 H4 s4 w4=>?_⟩
  have R4':=R4.step s4 w4
  have s34:=s3.trans s4 w3.some
  cases ok with
  | false =>
   have k4':((dE el (xs.drop (k+1))).bind (kB none)).ok m4 λm' zs=>Ko1 PK pa m' G H (ds++zs) Q:=k4
   refine ⟨xs.length - (k+1),by omega,rfl,hlt,by omega,m4,G4,ds,sb.trans s34.gs,st2.trans s34 R2.wd.some,R4'.weak pl hback,DnAll.mono s34.gs dn,?_⟩
   exact Tr.ok_mono (Tr.ok_bind.mp k4') λm6 zs k6=>k6
  | true =>
   have k4':((i ρ3).bind λy=>.ret (some y)).ok m4 λm' y=>((dE el (xs.drop (k+1))).bind (kB y)).ok m' λm' zs=>Ko1 PK pa m' G H (ds++zs) Q:=k4
   rw [Tr.ok_bind] at k4'
   refine ⟨pa,G₀,H₀,m4,ρ3,G4,R4',Tr.ok_mono k4' λm5 yd k5=>?_⟩
   intro v G5 H5 s5 w5 d5
   have s35:=s34.trans s5 w4.some
   refine ⟨xs.length - (k+1),by omega,rfl,hlt,by rw [List.length_append]; show ys.length+1<=_; omega,m5,G5,ds++[yd],sb.trans s35.gs,st2.trans s35 R2.wd.some,(R4'.step s5 w5).weak pl hback,(DnAll.mono s35.gs dn).snoc d5,?_⟩
   have k5':((dE el (xs.drop (k+1))).bind (kB (some yd))).ok m5 λm' zs=>Ko1 PK pa m' G H (ds++zs) Q:=k5
   refine Tr.ok_mono (Tr.ok_bind.mp k5') λm6 zs k6=>?_
   rw [List.append_assoc]
   exact k6
 ·have e:k=xs.length:=by omega
  subst e
  refine .inl ⟨j2,λp v H' hp ev eH=>?_⟩
  subst ev eH
  rw [List.drop_length] at k2
  have k2':Ko1 PK pa m2 G H (ds++[]) Q:=k2
  rw [List.append_nil] at k2'
  exact (Ko1.later k2' st2 R2.wd.some).new R2.wd dn hp
end
section
variable {X:Cx}
theorem Zlf {PK:Pk} {st:Stmt} {is:List Sl->Tr (List PyData)} {p:List Sl->Tr Bool} {i:List Sl->Tr PyData} {n k:Nat} {ix:List Nat} {g:PyData->List Sl->Option (List Sl)} (h:PS X st (ce (mz (bX PK is) n ix (λ_=>ck PK g) (λ_=>TAt PK p) (λ_=>TAe PK i)) (cp k))) (hn:c8 n g):PS X st (aV PK (aW k (bW (lY is n ix g p i)))) :=
 ba (h.imp (jN λσ H Q z=>Zif hn σ H Q (Zck σ H Q z)))
section
variable {ρ:List Sl} {is:List Sl->Tr (List PyData)} {n:Nat} {i:List Sl->Tr PyData} {p:List Sl->Tr Bool} {xs:List PyData} {x:PyData}
noncomputable def kW (g:PyData->List Sl->Option (List Sl)) (p:List Sl->Tr Bool) (el:List Sl->Tr PyData) (τ:List Sl) (x:PyData):Tr (Option PyData):=(Tr.of (g x τ)).bind (ib p el)
noncomputable def om (n:Nat) (ix:List Nat) (g:PyData->List Sl->Option (List Sl)) (p:List Sl->Tr Bool) (el:List Sl->Tr PyData) (ρ:List Sl) (xs:List PyData):Tr (List PyData):=if small xs.length=true then dE (kW g p el (blk n ix ρ)) xs else .fail
theorem qS {ix:List Nat} {g:PyData->List Sl->Option (List Sl)}:lY is n ix g p i ρ=(is ρ).bind (om n ix g p i ρ):=rfl
theorem qU {ix:List Nat} {g:PyData->List Sl->Option (List Sl)} (h:small xs.length=true):om n ix g p i ρ xs=dE (kW g p i (blk n ix ρ)) xs:=by unfold om; rw [if_pos h]
theorem qT {τ:List Sl} {g:PyData->List Sl->Option (List Sl)}:kW g p i τ x=(Tr.of (g x τ)).bind (ib p i):=rfl
noncomputable def oK (y:PyData):Tr (Option PyData):=.ret (some y)
noncomputable def oM (i:List Sl->Tr PyData) (τ:List Sl) (b:Bool):Tr (Option PyData):=if b=true then (i τ).bind oK else .ret none
theorem rh {τ:List Sl}:ib p i τ=(p τ).bind (oM i τ):=rfl
theorem rm {τ:List Sl}:oM i τ true=(i τ).bind oK:=rfl
theorem rn {τ:List Sl}:oM i τ false=.ret none:=rfl
theorem rj:oK x=.ret (some x):=rfl
end
end
section
variable {PK:Pk} {X:Cx} {e:Expr} {as:List Sl->Tr (List Sl)}
end
section
variable {ρ:List Sl} {as:List Sl->Tr (List Sl)} {f:List PyData->Option PyData} {x:PyData} {xs:List PyData} {i j:List Sl->Tr PyData} {k:Nat} {p:List Sl->Tr Bool} {s:List Sl->Tr Ou}
noncomputable def iN (k:Nat) (ρ:List Sl) (x:PyData) (xs:List PyData):PyData->Tr Ou
 | .int y=>(Tr.of (bB xs.length y)).bind λt=>.ret (.next (ρ.set k (.own (xs.set t x))))
 | _=>.fail
noncomputable def mG (k:Nat) (n:List Sl->Tr PyData) (ρ:List Sl) (x:PyData) (xs:List PyData):Tr Ou:=(n ρ).bind (iN k ρ x xs)
noncomputable def mH (k:Nat) (n:List Sl->Tr PyData) (ρ:List Sl) (x:PyData):Tr Ou:=(eV k ρ).bind (mG k n ρ x)
theorem pN:lW k j i ρ=(i ρ).bind (mH k j ρ):=by
 unfold lW
 refine congrArg (Tr.bind (i ρ)) (funext λx=>?_)
 rw [mH,<- kh k ρ]
 cases ρ[k]? with
 | none=>rfl
 | some sl =>
  cases sl with
  | own xs =>
   show ((j ρ).bind _:Tr Ou)=(j ρ).bind (iN k ρ x xs)
   refine congrArg (Tr.bind (j ρ)) (funext λy=>?_)
   cases y <;> rfl
  | _=>rfl
theorem pM {n:List Sl->Tr PyData}:mH k n ρ x=(eV k ρ).bind (mG k n ρ x):=rfl
theorem pL {n:List Sl->Tr PyData}:mG k n ρ x xs=(n ρ).bind (iN k ρ x xs):=rfl
theorem Zi6 {y:Int} {t:Nat} (h:bB xs.length y=some t):iN k ρ x xs (.int y)=.ret (.next (ρ.set k (.own (xs.set t x)))):=by
 simp only [iN,h]
 rfl
end
end L2
namespace L2
open PySem PySem.Spec PyProof.Rows
open AutoSeq1 (wpAny_loadPart')
noncomputable def mh (hi:Int) (n:Nat):It:=⟨λi _=>i < n,λi H x H'=>H'=H/\x=.int (hi - i),λi _=>n<=i⟩
theorem Zfh {P:Program} {w:World} {K:PySem.W.Frag} {tg:Expr} (it:Addr) (hi:Int) (n:Nat):Turn P w K tg (mh hi n) [it] it (λi h=>IsRangeIter h it (hi+(i:Nat) * (-1)) ((n:Int) - (i:Nat)) (-1)) where
 mem:=by simp
 obj:=λi h st b hb=>by
  have e:b=it:=by simpa using hb
  subst e
  exact ⟨_,st,λv z=>by
   have z':Data.fields _=Data.cell v:=z
   cases z'⟩
 keep:=λi h h' st k=>k it (by simp) _ st
 item:=by
  intro X hP hw hK hc i pins s σ H E I hf st hg
  subst hP hw hK
  obtain ⟨f0,f1,f2,f3,f4,f5⟩:=hf it (by simp)
  have W:=Walks.range (prog:=X.prog) (w:=X.w) (I.ok.hd hc) it hi (-1) n
  refine W.item i s _ _ hg st λv h' tk hv st' kk=>?_
  obtain ⟨t,rfl⟩:=hv
  have I1:Inv X pins σ H { s with heap:=h',toks:=tk }:=I.turned (λb o hb e=>kk b o (by simpa using hb) e) f0 f1 f3 f4 f5
  refine ⟨_,rfl,ic (s:={ s with heap:=h',toks:=tk }) (n:="range_iterator") st' rfl rfl (by decide) ⟨.int (hi - i),H,I1,⟨t,?_⟩,⟨rfl,rfl⟩,st',λb hb=>(hf b hb).1⟩⟩
  have e:hi+(i:Int) * -1=hi - i:=by omega
  rw [e]
 done:=by
  intro X hP hw hK hc i pins s σ H E I hf st hg
  subst hP hw hK
  obtain ⟨f0,f1,f2,f3,f4,f5⟩:=hf it (by simp)
  exact wpAny_pyNext_range_end (I.ok.hd hc) st (by have:n<=i:=hg; omega) λh' eb=>⟨rfl,I.turned (t':=s.toks) (λb o hb e=>eb b o hb e) f0 f1 f3 f4 f5⟩
 self:=λ_ _ _ _ _ st h=>wpAny_pyIter_rangeiter st h
theorem ZhZ (r:Addr) (a b c:Int) (t u v:Tok) (hs:¬ (!(Builtin.Range.rangeFitsLong a && Builtin.Range.rangeFitsLong b && Builtin.Range.rangeFitsLong c && Builtin.Range.rangeFitsLong (-c) && Builtin.Range.rangeFitsLong (a - c) && Builtin.Range.rangeFitsLong (Builtin.Range.rangeSize a b c)))=true) :
  Meets (Builtin.«range.__reversed__» ⟨[.ref r],[]⟩) (λ_ R s=>s.heap.get? r=some { cls:=.type "range",dict:=none,data:=.fields #[.int a t,.int b u,.int c v],slots:=#[] } /\
   R (.ok (.ret (.ref s.heap.objs.size))) { s with heap:=s.heap.push { cls:=.type "range_iterator",data:=.fields #[rawInt (a+(Builtin.Range.rangeSize a b c - 1) * c),rawInt (Builtin.Range.rangeSize a b c),rawInt (-c)] },toks:=s.toks }) :=
 .of_wp λprog w A R s h=>by
  obtain ⟨hp,g,d,tk,os⟩:=s
  obtain ⟨hl,h⟩:=h
  have hs':=hs
  rw [Bool.not_eq_true',Bool.not_eq_false] at hs'
  wp_walk
  rw [if_pos hs']
  exact ⟨_,rfl,h⟩
theorem ie {n:Int} (h1:-(2 ^ 63)<=n) (h2:n < 2 ^ 63):Builtin.Range.rangeFitsLong n=true:=by
 unfold Builtin.Range.rangeFitsLong
 simp
 omega
section
variable {prog:Program} {w:World} {A:Around} {E:Value->Shared->Prop} {s:Shared}
theorem Zkw {r:Addr} {a b:Int} {t u v:Tok} {Q₁:Value->Shared->Prop} (hr:IsRange s.heap r a b 1 t u v) (ha:-(2 ^ 62)<=a) (ha':a < 2 ^ 62) (hb:-(2 ^ 62)<=b) (hb':b < 2 ^ 62)
  (h:Q₁ (.ref s.heap.objs.size) { s with heap:=s.heap.push { cls:=.type "range_iterator",data:=.fields #[rawInt (a+(Builtin.Range.rangeSize a b 1 - 1) * 1),rawInt (Builtin.Range.rangeSize a b 1),rawInt (-1)] } }) :
  codeAny (model prog w) A (.call (.builtin "reversed.__new__") ⟨[.type "reversed",.ref r],[]⟩) (wants Q₁ E) s:=by
 have hT:s.TypeIs (.ref r) "range":=⟨_,hr,rfl⟩
 refine codeAny_of_tree ?_
 show wpAny _ A.in1 (do checkBuiltinCall "reversed.__new__" ⟨[.type "reversed",.ref r],[]⟩; again (.builtin "reversed.__new__" ⟨[.type "reversed",.ref r],[]⟩)) _ _ s
 refine wpAny_bind (wpAny_of_eq (F.newCall_reversed_1 _) (wpAny_pure ⟨plainId_quiet F.plain_reversed_new _,codeAny_builtin F.entry_reversed_new ?_⟩))
 rw [Around.under_plainId F.plain_reversed_new _]
 unfold Builtin.«reversed.__new__»
 refine wpAny_bind (wpAny_of_eq (newClass_reversed _) ?_)
 try dsimp only
 refine wpAny_bind (wpAny_of_eq (a:=()) (by first | rfl | kernel_rfl) ?_)
 refine wpAny_bind (wpAny_of_eq (a:=()) (by first | rfl | kernel_rfl) ?_)
 try dsimp only
 refine wpAny_bind (wpAny_specialOf hT F.slot_range_reversed.lookup ?_)
 try dsimp only
 refine wpAny_bind (wpAny_of_eq (F.slot_range_reversed.bind _) ?_)
 try dsimp only
 first
 | rw [if_neg (show ¬ ((Value.builtin "range.__reversed__" == Value.none)=true) from Bool.false_ne_true)]
 | (show wpAny _ _ (if (Value.builtin "range.__reversed__" == Value.none)=true then _ else _) _ _ _; rw [if_neg (show ¬ ((Value.builtin "range.__reversed__" == Value.none)=true) from Bool.false_ne_true)])
 refine wpAny_bind (wpAny_rule ?_)
 have hsz:Builtin.Range.rangeSize a b 1=if a < b then b - a else 0:=rangeSize_one a b
 refine wpAny_bind (m:=runValue (.call (.builtin "range.__reversed__") ⟨[.ref r],[]⟩)) (show wpAny _ _ (call (.builtin "range.__reversed__") [.ref r]) _ _ _ from
  call_meets F.slot_range_reversed hT F.entry_range_reversed (F.args_range_reversed_1 _) (ZhZ r a b 1 t u v ?_) ⟨hr,?_⟩)
 ·rw [Bool.not_eq_true',Bool.not_eq_false,ie (by omega) (by omega),ie (by omega) (by omega),ie (by decide) (by decide),ie (by decide) (by decide),ie (n:=a - 1) (by omega) (by omega),ie (n:=Builtin.Range.rangeSize a b 1) (by rw [hsz]; split <;> omega) (by rw [hsz]; split <;> omega)]
  rfl
 ·first
  | exact wpAny_pure h
  | exact wpAny_bind (wpAny_pure (wpAny_pure h))
theorem ZfN:isSubtype (.type "range_iterator") (.type "reversed")=pure false:=by rw [isSubtype_type]; kernel_rfl
theorem ZkD {r:Addr} {a b:Int} {t u v:Tok} {Q:Value->Shared->Prop} (hr:IsRange s.heap r a b 1 t u v) (ha:-(2 ^ 62)<=a) (ha':a < 2 ^ 62) (hb:-(2 ^ 62)<=b) (hb':b < 2 ^ 62)
  (h:Q (.ref s.heap.objs.size) { s with heap:=s.heap.push { cls:=.type "range_iterator",data:=.fields #[rawInt (a+(Builtin.Range.rangeSize a b 1 - 1) * 1),rawInt (Builtin.Range.rangeSize a b 1),rawInt (-1)] } }):wpAny (model prog w) A (call (.type "reversed") [.ref r]) Q E s:=by
 refine callType_other (U:="range_iterator") (Q₁:=λobj s₁=>obj=.ref s.heap.objs.size/\s₁={ s with heap:=s.heap.push { cls:=.type "range_iterator",data:=.fields #[rawInt (a+(Builtin.Range.rangeSize a b 1 - 1) * 1),rawInt (Builtin.Range.rangeSize a b 1),rawInt (-1)] } }) (by decide +kernel) F.create_reversed ⟨_,_,F.mro_reversed⟩ F.made_reversed ZfN (F.typeCall_reversed_1 _) (Zkw hr ha ha' hb hb' ⟨rfl,rfl⟩) ?_
 rintro obj s₁ ⟨rfl,rfl⟩
 exact ⟨⟨_,Heap.get?_push_size _ rfl,rfl⟩,h⟩
end
theorem Zcf:Manifest.owners.lookup (String.ofList ['d','e','s','r','e','v','e','r'].reverse)=some Manifest.sig_reversed:=by kernel_rfl
theorem ZfX:Slot "reversed" "__init__" "object.__init__" :=
 .of (owner:="object") (n:="__init__") (by rw [typeLookup_type,builtinLookup_eq_fast]; kernel_rfl) (by decide +kernel) (by decide +kernel) (by decide +kernel)
  (by first | exact .inl (by decide +kernel) | exact .inr (by decide +kernel)) (by rw [isSubtype_type]; kernel_rfl)
theorem iM:Slot "reversed" "__next__" "reversed.__next__" :=
 .of (owner:="reversed") (n:="__next__") (by rw [typeLookup_type,builtinLookup_eq_fast]; kernel_rfl) (by decide +kernel) (by decide +kernel) (by decide +kernel)
  (by first | exact .inl (by decide +kernel) | exact .inr (by decide +kernel)) (by rw [isSubtype_type]; kernel_rfl)
theorem ZdB:entryFor table "reversed.__next__"=some Builtin.«reversed.__next__»:=entryFor_of_tree (by kernel_rfl)
theorem Zew (a:Value):argsOk "reversed.__next__" ⟨[a],[]⟩:=by
 unfold argsOk; rw [signature?_of (id:="reversed.__next__") (n:=['_','_','t','x','e','n','_','_']) (o:=['d','e','s','r','e','v','e','r']) (by kernel_rfl) Zcf]; kernel_rfl
theorem ZaJ:Slot "reversed" "__iter__" "reversed.__iter__" :=
 .of (owner:="reversed") (n:="__iter__") (by rw [typeLookup_type,builtinLookup_eq_fast]; kernel_rfl) (by decide +kernel) (by decide +kernel) (by decide +kernel)
  (by first | exact .inl (by decide +kernel) | exact .inr (by decide +kernel)) (by rw [isSubtype_type]; kernel_rfl)
theorem Zlo (a:Value):argsOk "reversed.__iter__" ⟨[a],[]⟩:=by
 unfold argsOk; rw [signature?_of (id:="reversed.__iter__") (n:=['_','_','r','e','t','i','_','_']) (o:=['d','e','s','r','e','v','e','r']) (by kernel_rfl) Zcf]; kernel_rfl
theorem Zjm:entryFor table "reversed.__iter__"=some Builtin.«dict_keyiterator.__iter__» :=
 entryFor_alias (id':="dict_keyiterator.__iter__") (by kernel_rfl) (by first | rfl | decide +kernel | (unfold String.splitOn; simp +decide [String.splitOnAux])) (by decide +kernel) (by kernel_rfl)
theorem Zkz:TypeCalled "reversed" "reversed.__new__" "object.__init__" :=
 ⟨by decide +kernel,by decide +kernel,⟨_,_,F.mro_reversed⟩,F.made_reversed,by decide +kernel,by rw [isSubtype_type]; kernel_rfl,ZfX⟩
theorem ZhG:typeLookup (.type "tuple") "__reversed__"=pure none:=by rw [typeLookup_type,builtinLookup_eq_fast]; kernel_rfl
theorem ZhY (l:Addr) (items:Array Value) (hfit:(items.size:Int) < 2 ^ 63) :
  Meets (Builtin.«reversed.__new__» ⟨[.type "reversed",.ref l],[]⟩) (λ_ R s=>IsTup s.heap l items /\
   R (.ok (.ret (.ref s.heap.objs.size))) { s with heap:=s.heap.push { cls:=.type "reversed",data:=.fields #[.ref l,rawInt ((items.size:Int) - 1)] },toks:=s.toks+1+1 }) :=
 .of_wp λprog w A R s h=>by
  obtain ⟨hp,g,d,tk,os⟩:=s
  obtain ⟨hl,h⟩:=h
  have hl':(Shared.mk hp g d tk os).heap.IsTuple l items:=hl
  unfold Builtin.«reversed.__new__»
  refine wpAny_bind (wpAny_of_eq (newClass_reversed _) ?_)
  try dsimp only
  refine wpAny_bind (wpAny_of_eq (a:=()) (by first | rfl | kernel_rfl) ?_)
  refine wpAny_bind (wpAny_of_eq (a:=()) (by first | rfl | kernel_rfl) ?_)
  try dsimp only
  refine wpAny_bind (wpAny_specialOf hl'.typeIs ZhG ?_)
  try dsimp only
  refine wpAny_bind ?_
  show wpAny _ _ (isInstance (Value.ref l) (.type "dict") >>= _) _ _ _
  refine wpAny_bind (wpAny_isInstance (T:="tuple") (b:=false) hl'.typeIs (by rw [isSubtype_type]; kernel_rfl) ?_)
  show wpAny _ _ (specialOf (Value.ref l) "__getitem__" >>= _) _ _ _
  refine wpAny_bind (wpAny_specialOf hl'.typeIs F.slot_tuple_getitem.lookup ?_)
  refine wpAny_pure ?_
  show wpAny _ _ (call (Value.builtin "len") [Value.ref l] >>= _) _ _ _
  refine wpAny_bind (len_tuple hl hfit ?_)
  refine wpAny_bind (wpAny_of_eq (a:=some (items.size:Int)) rfl ?_)
  show wpAny _ _ (newObj (.type "reversed") (.fields #[.ref l,rawInt ((items.size:Int) - 1)]) >>= _) _ _ _
  refine wpAny_bind (wpAny_newObj_type ?_)
  exact wpAny_pure ⟨_,rfl,h⟩
noncomputable def IsTRev (h:Heap) (a l:Addr) (i:Int):Prop:=∃ o,h.get? a=some o/\o.cls=.type "reversed"/\o.data=.fields #[.ref l,rawInt i]
theorem IsTRev.at {h h':Heap} {a l:Addr} {i:Int} (x:IsTRev h a l i) (e:∀ o,h.get? a=some o->h'.get? a=some o):IsTRev h' a l i:=let ⟨o,ho,r⟩:=x; ⟨o,e _ ho,r⟩
section
variable {prog:Program} {w:World} {A:Around} {E:Value->Shared->Prop} {s:Shared}
theorem ZkC {l:Addr} {items:Array Value} {Q:Value->Shared->Prop} (hl:IsTup s.heap l items) (hfit:(items.size:Int) < 2 ^ 63)
  (h:Q (.ref s.heap.objs.size) { s with heap:=s.heap.push { cls:=.type "reversed",data:=.fields #[.ref l,rawInt ((items.size:Int) - 1)] },toks:=s.toks+1+1 }) :
  wpAny (model prog w) A (call (.type "reversed") [.ref l]) Q E s :=
 callType_new Zkz (by decide) (F.typeCall_reversed_1 _) (F.newCall_reversed_1 _) (λobj=>F.args_object_init_2 obj _) F.entry_reversed_new (ZhY l items hfit) ⟨hl,⟨_,Heap.get?_push_size _ rfl,rfl⟩,h⟩
theorem ZgI {it l:Addr} {i:Nat} {items:Array Value} {x:Value} {Q:Option Value->Shared->Prop} (hit:IsTRev s.heap it l (i:Int)) (hl:IsTup s.heap l items) (hne:l≠it) (hx:items[i]?=some x) (hfit:(items.size:Int) < 2 ^ 63)
  (hQ:∀ h',IsTRev h' it l ((i:Int) - 1)->Heap.SameBut it s.heap h'->Q (some x) { s with heap:=h',toks:=s.toks+1 }):wpAny (model prog w) A (pyNext (.ref it)) Q E s:=by
 obtain ⟨o,ho,hc,hd⟩:=id hit
 have hT:s.TypeIs (.ref it) "reversed":=⟨o,ho,hc⟩
 have hl':s.heap.IsTuple l items:=hl
 have hlt:i < items.size:=(Array.getElem?_eq_some_iff.mp hx).1
 unfold pyNext
 refine wpAny_bind (wpAny_attempt (wpAny_callSpecial?_slot (name:=Str.ofString "__next__") hT iM
  (wpAny_call_entry iM hT ZdB ?_ (Zew _))))
 unfold Builtin.«reversed.__next__»
 refine wpAny_bind (wpAny_of_eq (a:=(Value.ref it,[])) rfl ?_)
 try dsimp only
 refine wpAny_bind (wpAny_field ho hd (x:=.ref l) rfl ?_)
 refine wpAny_bind (wpAny_field ho hd (x:=rawInt (i:Int)) rfl ?_)
 show wpAny _ _ (if (i:Int) < 0 then _ else _) _ _ s
 rw [if_neg (by omega)]
 refine wpAny_bind (wpAny_specialOf hl'.typeIs F.slot_tuple_getitem.lookup ?_)
 show wpAny _ _ (mkInt (i:Int) >>= _) _ _ s
 refine wpAny_bind (wpAny_mkInt ?_)
 refine wpAny_bind (wpAny_attempt (getItem_tuple (j:=i) (x:=x) hl (by omega) (by omega) ?_ hx ?_))
 ·unfold seqIndex?
  simp
  omega
 ·dsimp only
  refine wpAny_bind (wpAny_field ho hd (x:=rawInt (i:Int)) rfl ?_)
  show wpAny _ _ (setField (.ref it) 1 (rawInt ((i:Int) - 1)) >>= _) _ _ _
  refine wpAny_bind (wpAny_setField ho hd (by simp) ?_)
  refine wpAny_pure ⟨x,rfl,wpAny_pure (hQ _ ?_ (Heap.SameBut.update ..))⟩
  exact ⟨_,Heap.get?_update_self _ ho (Obj.isFreed_of_fields (Obj.data_mapFields hd _)),(Obj.cls_mapFields ..).trans hc,by
   rw [Obj.data_mapFields hd]; simp⟩
theorem ZgJ {it l:Addr} {Q:Option Value->Shared->Prop} (hh:A.handled=none) (hit:IsTRev s.heap it l (-1))
  (hQ:∀ h',Heap.ExtBut it s.heap h'->Q none { s with heap:=h' }):wpAny (model prog w) A (pyNext (.ref it)) Q E s:=by
 obtain ⟨o,ho,hc,hd⟩:=id hit
 have hT:s.TypeIs (.ref it) "reversed":=⟨o,ho,hc⟩
 unfold pyNext
 refine wpAny_bind (wpAny_attempt (wpAny_callSpecial?_slot (name:=Str.ofString "__next__") hT iM
  (wpAny_call_entry iM hT ZdB ?_ (Zew _))))
 unfold Builtin.«reversed.__next__»
 refine wpAny_bind (wpAny_of_eq (a:=(Value.ref it,[])) rfl ?_)
 try dsimp only
 refine wpAny_bind (wpAny_field ho hd (x:=.ref l) rfl ?_)
 refine wpAny_bind (wpAny_field ho hd (x:=rawInt (-1)) rfl ?_)
 show wpAny _ _ (if (-1:Int) < 0 then _ else _) _ _ s
 rw [if_pos (by decide)]
 refine wpAny_bind (wpAny_rule ?_)
 refine wpAny_bind ?_
 show wpAny _ _ (setField (.ref it) 1 (rawInt (-1)) >>= _) _ _ _
 refine wpAny_bind (wpAny_setField ho hd (by simp) ?_)
 have ho2:=Heap.get?_update_self (Obj.mapFields λx_1=>x_1.setIfInBounds 1 (rawInt (-1))) ho (Obj.isFreed_of_fields (Obj.data_mapFields hd _))
 refine wpAny_setField ho2 (Obj.data_mapFields hd _) (by simp) ?_
 have eb:Heap.ExtBut it s.heap ((s.heap.update it (Obj.mapFields λx_1=>x_1.setIfInBounds 1 (rawInt (-1)))).update it (Obj.mapFields λx_1=>x_1.setIfInBounds 0 Value.none)):=λb o' hb e=>(Heap.SameBut.update _ _ _).extBut b o' hb ((Heap.SameBut.update _ _ _).extBut b o' hb e)
 show wpAny _ _ (newExc (.type "StopIteration") [] >>= _ >>= _) _ _ _
 refine wpAny_bind ?_
 refine wpAny_bind ?_
 simp only [newExc,newTuple]
 refine wpAny_bind (wpAny_newObj_type ?_ (by size_fits))
 refine wpAny_bind (m:=firstArgMember _ _) (wpAny_of_eq (a:=Value.none) (by first | rfl | (simp only [firstArgMember]; rfl)) ?_)
 refine wpAny_newObj_type ?_ (by size_fits)
 simp only [raiseNew]
 refine wpAny_bind (wpAny_handled ?_)
 first | rw [show A.in1.handled=none from hh] | rw [hh]
 refine wpAny_bind (wpAny_pure (wpAny_throw ?_))
 refine wpAny_bind (wpAny_isInstance (T:="StopIteration") (b:=true) ⟨_,Heap.get?_push_size _ rfl,rfl⟩ isSubtype_stop ?_)
 exact wpAny_pure (hQ _ ((eb.push _).push _))
theorem ZbW {it l:Addr} {i:Int} {Q:Value->Shared->Prop} (hit:IsTRev s.heap it l i) (h:Q (.ref it) s):wpAny (model prog w) A (pyIter (.ref it)) Q E s:=by
 obtain ⟨o,ho,hc,hd⟩:=id hit
 have hT:s.TypeIs (.ref it) "reversed":=⟨o,ho,hc⟩
 refine wpAny_pyIter_slot hT ZaJ (wpAny_call_entry ZaJ hT Zjm ?_ (Zlo _))
 show wpAny _ _ (ret (.ref it)) _ _ s
 exact wpAny_pure ⟨_,rfl,"reversed",_,hT,iM.lookup,h⟩
end
noncomputable def iJ (b:Bool) (l:Addr) (n:Nat):It :=
 ⟨λi H=>i < n/\∃ xs,H l=some (aR b xs)/\xs.length=n,λi H x H'=>H'=H/\∃ xs,H l=some (aR b xs)/\xs[n - 1 - i]?=some x,λi _=>i=n⟩
noncomputable def RvAt (b:Bool) (h:Heap) (it l:Addr) (i:Int):Prop:=match b with
 | true=>h.IsRevIter it l i
 | false=>IsTRev h it l i
theorem RvAt.there {b:Bool} {h:Heap} {it l:Addr} {i:Int} (x:RvAt b h it l i):∃ o n vs,h.get? it=some o/\o.cls=.type n/\o.data=.fields vs/\["enumerate","zip","dict_itemiterator","dict_reverseitemiterator","odict_iterator","itertools.zip_longest","itertools.pairwise"].contains n=false:=by
 cases b with
 | true=>obtain ⟨o,h1,h2,h3⟩:=x; exact ⟨o,_,_,h1,h2,h3,by decide⟩
 | false=>obtain ⟨o,h1,h2,h3⟩:=x; exact ⟨o,_,_,h1,h2,h3,by decide⟩
theorem RvAt.at {b:Bool} {h h':Heap} {it l:Addr} {i:Int} (x:RvAt b h it l i) (e:∀ o,h.get? it=some o->h'.get? it=some o):RvAt b h' it l i:=by
 cases b with
 | true=>exact Heap.IsRevIter.at x e
 | false=>exact IsTRev.at x e
theorem Zar {P:Program} {w:World} {K:PySem.W.Frag} {tg:Expr} {b:Bool} {l:Addr} {n:Nat} (it:Addr) (hn:(n:Int) < 2 ^ 63):Turn P w K tg (iJ b l n) [it] it (λi h=>RvAt b h it l ((n:Int) - 1 - (i:Nat))) where
 mem:=by simp
 obj:=λi h st c hb=>by
  have e:c=it:=by simpa using hb
  subst e
  obtain ⟨o,_,_,h1,_,h3,_⟩:=st.there
  exact ⟨o,h1,λv z=>by rw [h3] at z; cases z⟩
 keep:=λi h h' st k=>st.at λo e=>k it (by simp) o e
 item:=by
  intro X hP hw hK hc i pins s σ H E I hf st hg
  subst hP hw hK
  obtain ⟨hi,xs,e1,hlen⟩:=hg
  obtain ⟨us,r1,q1⟩:=cA I.hok e1
  obtain ⟨f0,f1,f2,f3,f4,f5⟩:=hf it (by simp)
  have hxl:n - 1 - i < xs.length:=by omega
  have hx:xs[n - 1 - i]?=some xs[n - 1 - i]:=List.getElem?_eq_getElem hxl
  obtain ⟨u,hu,ru⟩:=r1.get hx
  have ne:l≠it:=bZ e1 f0
  have ei:(n:Int) - 1 - (i:Nat)=((n - 1 - i:Nat):Int):=by omega
  have ei2:((n - 1 - i:Nat):Int) - 1=(n:Int) - 1 - ((i+1:Nat):Int):=by omega
  rw [ei] at st
  have usz:us.toArray.size=n:=by rw [List.size_toArray,<- r1.length]; exact hlen
  have fin:∀ (h':Heap) (tk:Nat),RvAt b h' it l ((n:Int) - 1 - ((i+1:Nat):Int))->Heap.SameBut it s.heap h'->∃ u',some u=some u'/\wpAny (model X.prog X.w) X.A (letOwnedTupleGo tg (.ref it) u') (λ_ s2=>∃ x H',Inv X pins σ H' s2/\RelV x u'/\(iJ b l n).yld i H x H'/\RvAt b s2.heap it l ((n:Int) - 1 - ((i+1:Nat):Int))/\∀ b∈[it],H' b=none) E { s with heap:=h',toks:=tk }:=λh' tk st' sb=>by
   have I1:Inv X pins σ H { s with heap:=h',toks:=tk }:=I.turned (λb o hb e=>(sb.2 b hb).trans e) f0 f1 f3 f4 f5
   obtain ⟨o,nm,vs,g1,g2,g3,g4⟩:=st'.there
   exact ⟨u,rfl,ic (s:={ s with heap:=h',toks:=tk }) g1 g2 g3 g4 ⟨_,H,I1,ru,⟨rfl,xs,e1,hx⟩,st',λb hb=>(hf b hb).1⟩⟩
  cases b with
  | true =>
   refine wpAny_pyNext_rev_item (i:=n - 1 - i) st q1 (x:=u) (by simpa using hu) λh' st' sb=>?_
   rw [ei2] at st'
   exact fin h' s.toks st' sb
  | false =>
   refine ZgI (i:=n - 1 - i) st q1 ne (x:=u) (by simpa using hu) (by rw [usz]; exact hn) λh' st' sb=>?_
   rw [ei2] at st'
   exact fin h' (s.toks+1) st' sb
 done:=by
  intro X hP hw hK hc i pins s σ H E I hf st hg
  subst hP hw hK
  obtain ⟨f0,f1,f2,f3,f4,f5⟩:=hf it (by simp)
  have hi:i=n:=hg
  subst hi
  have e:(i:Int) - 1 - (i:Nat)=-1:=by omega
  rw [e] at st
  cases b with
  | true=>exact wpAny_pyNext_rev_end (I.ok.hd hc) st λh' eb=>⟨rfl,I.turned (t':=s.toks) (λb o hb e=>eb b o hb e) f0 f1 f3 f4 f5⟩
  | false=>exact ZgJ (I.ok.hd hc) st λh' eb=>⟨rfl,I.turned (t':=s.toks) (λb o hb e=>eb b o hb e) f0 f1 f3 f4 f5⟩
 self:=λ_ _ _ _ _ st h=>by
  cases b with
  | true=>exact wpAny_pyIter_revIter st h
  | false=>exact ZbW st h
section
variable {X:Cx} {tg:Expr} {PK:Pk} {a b:Expr} {i j:List Sl->Tr PyData} {p pos:Pos}
noncomputable def Zda (ta:TE):TI:=λσ H R=>ta σ H λx H1=>(∃ b l xs,x=.ref l/\H1 l=some (aR b xs)/\R (iJ b l xs.length) H1) \/
 (∃ l lo hi,x=.ref l/\H1 l=some (.rng lo hi)/\-(2 ^ 62)<=lo/\lo < 2 ^ 62/\-(2 ^ 62)<=hi/\hi < 2 ^ 62/\R (mh (lo+(hi - lo).toNat - 1) (hi - lo).toNat) H1)
theorem Zg5 {ta:TE} (hg:Gl X "reversed") (hm:X.mg "reversed"=none) (ha:PE X a ta)
  (hs:starEach [a] X.env=[(false,eval a X.env)]:=by rfl):PI X tg (.Call (.Name "reversed" p) [a] [] pos) (Zda ta):=by
 intro pins s σ H R I h
 have hab:PA X [a] (dP ta aT):=bY ha cx (by rw [hs]; rfl)
 have h':dP ta aT σ H λvs H1=>∃ x,vs=[x]/\((∃ b l xs,x=.ref l/\H1 l=some (aR b xs)/\R (iJ b l xs.length) H1) \/
   (∃ l lo hi,x=.ref l/\H1 l=some (.rng lo hi)/\-(2 ^ 62)<=lo/\lo < 2 ^ 62/\-(2 ^ 62)<=hi/\hi < 2 ^ 62/\R (mh (lo+(hi - lo).toNat - 1) (hi - lo).toNat) H1)):=by
  have h0:ta σ H λx H1=>(∃ b l xs,x=.ref l/\H1 l=some (aR b xs)/\R (iJ b l xs.length) H1) \/
   (∃ l lo hi,x=.ref l/\H1 l=some (.rng lo hi)/\-(2 ^ 62)<=lo/\lo < 2 ^ 62/\-(2 ^ 62)<=hi/\hi < 2 ^ 62/\R (mh (lo+(hi - lo).toNat - 1) (hi - lo).toNat) H1):=h
  refine cast (congrArg (ta σ H) ?_) h0
  funext x H1
  apply propext
  constructor
  ·exact λq=>⟨x,rfl,q⟩
  ·rintro ⟨y,e,q⟩
   have e':x=y:=by simpa using e
   subst e'
   exact q
 refine Call_ (gk I hg hm boot_reversed (PyProof.Rows.callWith_type1 (thn (hab pos pins s σ H _ I h') λus s1 hz0=>?_) (by rw [hs]; rfl) rfl))
 obtain ⟨vs,H1,I1,r1,q1⟩:=hz0
 obtain ⟨x,rfl,q1⟩:=q1
 obtain ⟨u,rfl,ru⟩:=cJ r1
 have fp:∀ c∈[s1.heap.objs.size],da X pins H1 c:=λc hb=>by
  have e:c=s1.heap.objs.size:=by simpa using hb
  subst e
  exact I1.fpOk (Nat.le_refl _) (I1.hok.fresh (Nat.le_refl _))
 have hn:=gj
 rcases q1 with ⟨b,l,xs,rfl,e1,q⟩ | ⟨l,lo,hi,rfl,e1,b1,b2,b3,b4,q⟩
 ·cases ru
  obtain ⟨us,r2,q2⟩:=cA I1.hok e1
  have usz:us.toArray.size=xs.length:=by rw [List.size_toArray,<- r2.length]
  have hz:xs.length<=sizeLine:=by
   cases b with
   | true=>exact (I1.hok _ _ e1).1
   | false=>exact (I1.hok _ _ e1).1
  cases b with
  | true =>
   refine call_reversed_list q2 (wpAny_pyIter_revIter ⟨_,Heap.get?_push_size _ rfl,rfl,rfl⟩ ?_)
   refine ⟨_,_,_,_,H1,rfl,I1.kept (t':=s1.toks) λb o e=>Heap.get?_push_of_some _ e,Zar (b:=true) (l:=l) (n:=xs.length) s1.heap.objs.size (by omega),?_,fp,q⟩
   refine ⟨_,Heap.get?_push_size _ rfl,rfl,?_⟩
   rw [usz]
   show Data.fields #[_,rawInt ((xs.length:Int) - 1)]=Data.fields #[_,rawInt ((xs.length:Int) - 1 - ((0:Nat):Int))]
   simp
  | false =>
   refine ZkC q2 (by rw [usz]; omega) (ZbW ⟨_,Heap.get?_push_size _ rfl,rfl,rfl⟩ ?_)
   refine ⟨_,_,_,_,H1,rfl,I1.kept (t':=s1.toks+1+1) λb o e=>Heap.get?_push_of_some _ e,Zar (b:=false) (l:=l) (n:=xs.length) s1.heap.objs.size (by omega),?_,fp,q⟩
   refine ⟨_,Heap.get?_push_size _ rfl,rfl,?_⟩
   rw [usz]
   show Data.fields #[_,rawInt ((xs.length:Int) - 1)]=Data.fields #[_,rawInt ((xs.length:Int) - 1 - ((0:Nat):Int))]
   simp
 ·cases ru
  obtain ⟨t,u,v,e⟩:=I1.hok _ _ e1
  have hsz:Builtin.Range.rangeSize lo hi 1=((hi - lo).toNat:Int):=by rw [rangeSize_one]; split <;> omega
  refine ZkD e b1 b2 b3 b4 (wpAny_pyIter_rangeiter (Heap.get?_push_size _ rfl) ?_)
  refine ⟨_,_,_,_,H1,rfl,I1.kept (t':=s1.toks) λb o e=>Heap.get?_push_of_some _ e,Zfh s1.heap.objs.size (lo+(hi - lo).toNat - 1) (hi - lo).toNat,?_,fp,q⟩
  rw [hsz]
  have e1:lo+(((hi - lo).toNat:Int) - 1) * 1=lo+(hi - lo).toNat - 1+((0:Nat):Int) * (-1):=by simp; omega
  have e2:((hi - lo).toNat:Int)=((hi - lo).toNat:Int) - ((0:Nat):Int):=by simp
  rw [e1]
  show IsRangeIter _ _ _ (((hi - lo).toNat:Int) - ((0:Nat):Int)) (-1)
  rw [<- e2]
  exact Heap.get?_push_size _ rfl
end
end L2
namespace L2
open PySem PySem.Spec PyProof.Rows
section
variable {X:Cx} {tg:Expr} {PK:Pk} {e:Expr} {i j:List Sl->Tr PyData} {is:List Sl->Tr (List PyData)} {p pos:Pos}
theorem ZiA {pa:Addr} {G:Hp} {b:Bool} {l:Addr} {us:List V} {xs:List PyData} (h1:G l=some (aR b us)) (d1:DnAll G us xs):fS PK pa (iJ b l us.length) G xs.reverse:=λm G2 H2 sb w=>by
 have e1:H2 l=some (aR b us):=w.sub _ _ (sb _ _ h1)
 have hlen:us.length=xs.length:=d1.length
 refine ⟨λn d hd=>?_,by show xs.reverse.length=us.length; rw [List.length_reverse,hlen]⟩
 have hn:n < xs.length:=by
  have:=(List.getElem?_eq_some_iff.mp hd).1
  rwa [List.length_reverse] at this
 have hd':xs[xs.length - 1 - n]?=some d:=by
  rw [List.getElem?_reverse hn] at hd
  exact hd
 refine ⟨⟨by omega,us,e1,rfl⟩,λy H3 hz0=>?_⟩
 obtain ⟨eH,vs,f1,hy⟩:=hz0
 subst eH
 rw [e1] at f1
 have:=lh f1
 subst this
 rw [hlen] at hy
 obtain ⟨v,hv,dv⟩:=d1.get _ hd'
 rw [hv] at hy
 cases hy
 exact ⟨G2,.refl,w,dv.mono sb⟩
noncomputable def tu (i:List Sl->Tr PyData):List Sl->Tr (List PyData):=λρ=>(i ρ).bind λx=>(Tr.of (dX x)).bind λxs=>.ret xs.reverse
theorem Zlv {iter:Expr} (h:PI X tg iter (Zda (TAe PK i))):PI X tg iter (bX PK (tu i)):=h.imp λσ H R0 hz0=>by
 obtain ⟨pa,G₀,H₀,m,ρ,G,R,z⟩:=hz0
 refine TAe.then R z λm1 x v G1 H1 s1 w1 R1 d1 q1=>?_
 rw [Tr.ok_bind] at q1
 obtain ⟨xs,hx,q1⟩:=Tr.ok_of q1
 obtain ⟨b1,l1,us,rfl,e1,f1⟩:=jj d1 hx
 exact .inl ⟨b1,l1,us,rfl,w1.sub _ _ e1,q1 _ G1 H1 s1 w1 (ZiA e1 f1)⟩
end
section
variable {X:Cx} {PK:Pk} {i n:List Sl->Tr PyData}
noncomputable def Zl9 (k:Nat) (n i:List Sl->Tr PyData):List Sl->Tr Ou:=λρ=>match ρ[k]? with
 | some (.own xs)=>(n ρ).bind λy=>(i ρ).bind λx=>match y with
  | .int t=>if (decide (0<=t) && decide (t<=1000) && decide (xs.length<=1000))=true then .ret (.next (ρ.set k (.own (xs.take t.toNat++x::xs.drop t.toNat)))) else .fail
  | _=>.fail
 | _=>.fail
end
section
variable {prog:Program} {w:World} {A:Around} {E:Value->Shared->Prop} {s:Shared}
theorem Zf1 {sl:Addr} {vk:Value} {n:Nat} {Q:Int×Int×Nat->Shared->Prop} (hs:s.heap.IsSliceOf sl .none .none vk) (pk:IsPart vk (some (-1)))
  (h:Q ((n:Int) - 1,-1,n) s):wpAny (model prog w) A (Builtin.Slice.sliceApplied (.ref sl) (pure (n:Int))) Q E s:=by
 obtain ⟨os,hos,hcs,hds⟩:=id hs
 unfold Builtin.Slice.sliceApplied Builtin.Slice.sliceFields
 refine wpAny_bind (wpAny_bind (wpAny_field hos hds (x:=.none) rfl (wpAny_bind (wpAny_field hos hds (x:=.none) rfl (wpAny_bind (wpAny_field hos hds (x:=vk) rfl (wpAny_pure ?_)))))))
 refine wpAny_bind (HT.mF pk ?_)
 show wpAny _ _ (if ((-1:Int) == 0)=true then _ else _) _ _ s
 rw [if_neg (by decide)]
 refine wpAny_bind (HT.mF .none (wpAny_bind (HT.mF .none (wpAny_bind (wpAny_pure ?_)))))
 show wpAny _ _ (match Builtin.Slice.sliceAdjust none none (-1) (n:Int) with | (lo,hi)=>pure (lo,(-1:Int),Builtin.Slice.slicePlaces lo hi (-1))) _ _ s
 have ea:Builtin.Slice.sliceAdjust none none (-1) (n:Int)=((n:Int) - 1,-1):=by
  unfold Builtin.Slice.sliceAdjust
  simp
 rw [ea]
 show wpAny _ _ (pure ((n:Int) - 1,(-1:Int),Builtin.Slice.slicePlaces ((n:Int) - 1) (-1) (-1))) _ _ s
 have ep:Builtin.Slice.slicePlaces ((n:Int) - 1) (-1) (-1)=n:=by
  unfold Builtin.Slice.slicePlaces
  rw [if_neg (by decide)]
  split
  ·have e:(-(-1:Int))=1:=by decide
   rw [e,Int.ediv_one]
   omega
  ·omega
 rw [ep]
 exact wpAny_pure h
theorem Zg1 (xs:Array Value):((List.range xs.size).filterMap λ(m:Nat)=>xs[((xs.size:Int) - 1+(m:Int) * (-1)).toNat]?).toArray=xs.toList.reverse.toArray:=by
 have h1:=PySem.W.krv_pick xs
 unfold slicePick at h1
 rw [PySem.W.krv_bounds] at h1
 have h2:((sliceRange ((xs.size:Int) - 1) (-1) (-1)).filterMap (xs[·]?)).toArray=xs.toList.reverse.toArray:=h1
 rw [PySem.W.krv_sliceRange,List.filterMap_map] at h2
 rw [<- h2]
 congr 2
 funext m
 show xs[((xs.size:Int) - 1+(m:Int) * (-1)).toNat]?=xs[xs.size - 1 - m]?
 congr 1
 omega
theorem ZiQ {t sl:Addr} {items:Array Value} {vk:Value} {Q:Value->Shared->Prop} (ht:IsTup s.heap t items) (hs:s.heap.IsSliceOf sl .none .none vk) (pk:IsPart vk (some (-1)))
  (h:Q (.ref s.heap.objs.size) { s with heap:=s.heap.push { cls:=.type "tuple",data:=.seq items.toList.reverse.toArray } })
  (hsz:items.size<=sizeLine):wpAny (model prog w) A (getItem (.ref t) (.ref sl)) Q E s:=by
 have htake:sizeOk (.seq items.toList.reverse.toArray):=by
  show items.toList.reverse.toArray.size<=sizeLine
  rw [List.size_toArray,List.length_reverse,Array.length_toList]
  exact hsz
 obtain ⟨os,hos,hcs,hds⟩:=id hs
 have hTs:s.TypeIs (.ref sl) "slice":=⟨os,hos,hcs⟩
 unfold getItem
 try with_reducible refine wpAny_holding ?_
 first | refine wpAny_bind (wpAny_pure ?_) | skip
 refine wpAny_bind (wpAny_sequenceKey ht.typeIs (by decide) ?_)
 refine wpAny_bind (wpAny_callSpecial?_slot (name:=Str.ofString "__getitem__") ht.typeIs PyProof.Rows.slot_tuple_getitem
  (wpAny_call_entry PyProof.Rows.slot_tuple_getitem ht.typeIs entry_tuple_getitem ?_ (args_tuple_getitem _ _)))
 show wpAny _ _ (Builtin.Tuple.tupleItemsOf (.ref t) >>= _) _ _ s
 refine wpAny_bind (tupleItemsOf_ ht ?_)
 refine wpAny_bind (wpAny_typeOf hTs ?_)
 rw [if_pos (by decide)]
 refine wpAny_bind (Zf1 hs pk ?_)
 show wpAny _ _ (if (((items.size:Int) - 1) == 0 && (-1:Int) == 1 && items.size == items.size)=true then _ else _) _ _ s
 rw [if_neg (by simp),Zg1]
 first
  | exact wpAny_bind (m:=Builtin.Tuple.tupleExact _) (wpAny_newObj_type (wpAny_pure ⟨_,rfl,wpAny_pure h⟩) htake)
  | exact wpAny_bind (m:=Builtin.Tuple.tupleExact _) (wpAny_newObj_type (wpAny_bind (wpAny_pure (wpAny_pure ⟨_,rfl,wpAny_pure h⟩))) htake)
  | exact wpAny_bind (wpAny_bind (m:=Builtin.Tuple.tupleExact _) (wpAny_newObj_type (wpAny_pure (wpAny_pure ⟨_,rfl,wpAny_pure h⟩)) htake))
  | exact wpAny_bind (wpAny_bind (m:=Builtin.Tuple.tupleExact _) (wpAny_newObj_type (wpAny_pure ⟨_,rfl,wpAny_pure h⟩) htake))
end
section
variable {X:Cx} {PK:Pk} {e st:Expr} {te ts:TE} {i j:List Sl->Tr PyData} {p2 pos:Pos}
noncomputable def Zfw (te ts:TE):TE:=λσ H Q=>te σ H λx H1=>ts σ H1 λk H2=>k=.int (-1)/\∃ b a xs,x=.ref a/\H2 a=some (aR b xs)/\∀ p,H2 p=none->Q (.ref p) (upd H2 p (aR b xs.reverse))
theorem Zak {xs:List V} {us:List Value} (h:Vals xs us):Vals xs.reverse us.reverse:=by
 induction h with
 | nil=>exact .nil
 | cons a b ih =>
  rw [List.reverse_cons,List.reverse_cons]
  exact ih.append (.cons a .nil)
theorem Zhd (he:PE X e te) (hk:PE X st ts):PE X (.Subscript e (.Slice none none (some st) p2) pos) (Zfw te ts):=by
 intro pins s σ H Q I h
 refine Subscript_ (thn (he pins s σ H _ I h) λv s1 hz0=>?_)
 obtain ⟨x,H1,I1,r1,q1⟩:=hz0
 refine wpAny_Slice ?_
 rw [evalPart_none]
 refine wpAny_pure (wpAny_pure ?_)
 rw [evalPart_some]
 refine thn (hk pins s1 σ H1 _ I1 q1) λvk s3 hz0=>?_
 obtain ⟨y,H3,I3,r3,q3⟩:=hz0
 obtain ⟨rfl,b,a,xs,rfl,e1,q⟩:=q3
 obtain ⟨t,rfl⟩:=r3
 cases r1
 have I4:Inv X pins σ H3 { s3 with heap:=s3.heap.push { cls:=.type "slice",data:=.fields #[.none,.none,.int (-1) t] } }:=I3.kept (t':=s3.toks) λb ob q=>Heap.get?_push_of_some _ q
 have hsl:({ s3 with heap:=s3.heap.push { cls:=.type "slice",data:=.fields #[.none,.none,.int (-1) t] } }:Shared).heap.IsSliceOf s3.heap.objs.size .none .none (.int (-1) t):=Heap.IsSliceOf.new ..
 show wpAny (model X.prog X.w) X.A (subscriptTail e (.Slice none none (some st) p2) (.ref a) (.ref s3.heap.objs.size)) (EP X pins σ Q) X.xe { s3 with heap:=s3.heap.push { cls:=.type "slice",data:=.fields #[.none,.none,.int (-1) t] } }
 generalize hs4:({ s3 with heap:=s3.heap.push { cls:=.type "slice",data:=.fields #[.none,.none,.int (-1) t] } }:Shared)=s4 at I4 hsl ⊢
 obtain ⟨us,r2,q2⟩:=cA I4.hok e1
 have hlen:=r2.length
 cases b with
 | true =>
  have hz:xs.length<=sizeLine:=(I4.hok _ _ e1).1
  have q2':s4.heap.IsList a us.toArray:=q2
  refine tail_any (ops:=[.ref a,.ref s3.heap.objs.size]) q2'.typeIs slot_list_getitem.lookup ?_ (by with_unfolding_all rfl)
  refine wpAny_getItem_list_slice q2' hsl .none .none (.int (-1) t) (by decide) ?_ (by rw [List.size_toArray]; omega)
  rw [PySem.W.krv_pick]
  refine ⟨.ref s4.heap.objs.size,_,I4.laid (t':=s4.toks) (o:=.lst xs.reverse) (λb ob q=>Heap.get?_push_of_some _ q) (Nat.le_refl _) ?_,rfl,q _ (I4.hok.fresh (Nat.le_refl _))⟩
  exact ⟨by rw [List.length_reverse]; exact hz,_,0,Zak r2,Heap.get?_push_size _ rfl⟩
 | false =>
  have hz:xs.length<=sizeLine:=(I4.hok _ _ e1).1
  have q2':IsTup s4.heap a us.toArray:=q2
  refine tail_any (ops:=[.ref a,.ref s3.heap.objs.size]) q2'.typeIs PyProof.Rows.slot_tuple_getitem.lookup ?_ (by with_unfolding_all rfl)
  refine ZiQ q2' hsl (.int (-1) t) ?_ (by rw [List.size_toArray]; omega)
  refine ⟨.ref s4.heap.objs.size,_,I4.laid (t':=s4.toks) (o:=.tup xs.reverse) (λb ob q=>Heap.get?_push_of_some _ q) (Nat.le_refl _) ?_,rfl,q _ (I4.hok.fresh (Nat.le_refl _))⟩
  exact ⟨by rw [List.length_reverse]; exact hz,_,Zak r2,IsTup.new _ _⟩
noncomputable def gJ:PyData->PyData->Option PyData
 | .list xs,.int (-1)=>some (.list xs.reverse)
 | .tuple xs,.int (-1)=>some (.tuple xs.reverse)
 | _,_=>none
theorem Zly (he:PE X e (TAe PK i)) (hk:PE X st (TAe PK j)):PE X (.Subscript e (.Slice none none (some st) p2) pos) (TAe PK (ae gJ i j)):=(Zhd he hk).imp λσ H Q hz0=>by
 obtain ⟨pa,G₀,H₀,m,ρ,G,R,z⟩:=hz0
 refine TAe.then R z λm1 x v G1 H1 s1 w1 R1 d1 q1=>?_
 refine TAe.then R1 q1 λm2 y u G2 H2 s2 w2 R2 d2 q2=>?_
 obtain ⟨d,hd,k⟩:=Tr.ok_of q2
 have k':=Kn.later k (s1.trans s2 w1.some) w2.some
 have d1':=d1.mono s2.gs
 unfold gJ at hd
 split at hd
 ·cases hd
  cases d2
  cases d1' with
  | lst a1 a2=>exact ⟨rfl,true,_,_,rfl,w2.sub _ _ a1,λp hp=>k'.lst w2 a2.reverse hp⟩
 ·cases hd
  cases d2
  cases d1' with
  | tup a1 a2=>exact ⟨rfl,false,_,_,rfl,w2.sub _ _ a1,λp hp=>k'.tup w2 a2.reverse hp⟩
 ·cases hd
end
noncomputable abbrev iI (h0 h:Heap):Prop:=∀ c o,h0.get? c=some o->h.get? c=some o
noncomputable def tS (prog:Program) (w:World) (A:Around) (h0:Heap) (P:Nat->Value->Prop) (bt:Nat->Nat->Bool):Prop :=
 ∀ i j vi vj (s:Shared) (Q:Value->Shared->Prop) (E:Value->Shared->Prop),j < i->iI h0 s.heap->P i vi->P j vj->Q (.bool (bt i j)) s->wpAny (model prog w) A (richCompare .Lt vi vj) Q E s
theorem Zex (bt:Nat->Nat->Bool):∀ j,argBest bt j<=j
 | 0=>Nat.le_refl _
 | j+1=>by
  have:=Zex bt j
  unfold argBest
  split <;> omega
section
variable {prog:Program} {w:World} {A:Around} {R:Result->Shared->Prop} {I S:Addr} {fp wr:List Addr} {n:Nat} {P:Nat->Value->Prop} {St:Nat->Heap->Prop} {h0:Heap}
theorem kz:(toString "min"++toString ".loop":String)="min.loop":=by decide
theorem ZhV (W:Walks prog w A.in1 I fp wr n P St) (bt:Nat->Nat->Bool) (hcmp:tS prog w A.in1 h0 P bt) (hSf:S ∉ fp) (h0w:∀ c o,h0.get? c=some o->c ∉ wr/\c≠S) :
  ∀ (k j:Nat) (s:Shared) (vb:Value) (c:Nat),n - (j+1)=k->j+1<=n->iI h0 s.heap->St (j+1) s.heap->P (argBest bt j) vb ->
  s.heap.get? S=some { cls:=.type "list",data:=.seq #[vb,vb] c } ->
  (∀ v h' tk,P (argBest bt (n - 1)) v->(∀ b o,b ∉ wr->b≠S->s.heap.get? b=some o->h'.get? b=some o)->R (.ok (.ret v)) { s with heap:=h',toks:=tk }) ->
  codeAny (model prog w) A (.builtin "min.loop" ⟨[.ref I,.none,.ref S],[]⟩) R s:=by
 have hSw:S ∉ wr:=λh=>hSf (W.sub _ h)
 intro k
 induction k with
 | zero =>
  intro j s vb c hk hj kp hst hPb hS hR
  have hin:j+1=n:=by omega
  refine codeAny_builtin F.entry_min_loop (by
   rw [Around.under_plainId F.plain_min_loop _]
   show wpAny _ A.in1 (seqItems? (.ref S) >>= _) _ _ s
   refine wpAny_bind (wpAny_seqItems hS rfl ?_)
   show wpAny _ A.in1 (tryCatch (pyNext (.ref I)) _ >>= _) _ _ s
   refine wpAny_bind (wpAny_tryCatch (W.done s _ _ (hin ▸ hst) λh' tk hk'=>?_))
   have hS':=hk' S _ hSw hS
   show wpAny _ A.in1 (updateSeq S (λ_=>#[]) >>= _) _ _ _
   refine wpAny_bind (wpAny_updateSeq hS' rfl (wpAny_bind (wpAny_letGo (wpAny_pure ?_))))
   exact hR vb _ tk (by rw [<- hin]; exact hPb) λb o hbw hbS e=>(Heap.get?_update_other _ _ (Ne.symm hbS)).trans (hk' b o hbw e))
 | succ k ih =>
  intro j s vb c hk hj kp hst hPb hS hR
  have hlt:j+1 < n:=by omega
  refine codeAny_builtin F.entry_min_loop (by
   rw [Around.under_plainId F.plain_min_loop _]
   show wpAny _ A.in1 (seqItems? (.ref S) >>= _) _ _ s
   refine wpAny_bind (wpAny_seqItems hS rfl ?_)
   show wpAny _ A.in1 (tryCatch (pyNext (.ref I)) _ >>= _) _ _ s
   refine wpAny_bind (wpAny_tryCatch (W.item (j+1) s _ _ hlt hst λv h' tk hP hst' hk'=>?_))
   have hS':=hk' S _ hSw hS
   have kp':iI h0 h':=λc o e=>hk' c o (h0w c o e).1 (kp c o e)
   show wpAny _ A.in1 (tryCatch (holding [v,v] (richCompare .Lt v vb >>= _)) _ >>= _) _ _ _
   refine wpAny_bind (wpAny_tryCatch (wpAny_holding (wpAny_bind (hcmp (j+1) (argBest bt j) v vb _ _ _ (Nat.lt_succ_of_le (Zex bt j)) kp' hP hPb (wpAny_bind (wpAny_holding (wpAny_truthy_bool (wpAny_bind (wpAny_letGo (wpAny_pure ?_))))))))))
   cases hb:bt (j+1) (argBest bt j) with
   | true =>
    simp only [if_true]
    refine wpAny_bind (wpAny_updateSeq hS' rfl (wpAny_bind (wpAny_letGo ?_)))
    rw [kz]
    refine wpAny_pure ⟨plainId_quiet F.plain_min_loop _,ih (j+1) _ v _ (by omega) hlt (λc o e=>(Heap.get?_update_other _ _ (Ne.symm (h0w c o e).2)).trans (kp' c o e)) (W.frame _ _ _ hst' λb hbf o e=>?_) (by simp only [argBest,hb,if_true]; exact hP) (Heap.get?_update_self _ hS' rfl)
     λv' h'' tk'' hP' hk''=>hR v' h'' tk'' hP' λb o hbw hbS e=>hk'' b o hbw hbS ((Heap.get?_update_other _ _ (Ne.symm hbS)).trans (hk' b o hbw e))⟩
    exact (Heap.get?_update_other _ _ (λh:S=b=>hSf (by rw [h]; exact hbf))).trans e
   | false =>
    simp only [Bool.false_eq_true,if_false]
    refine wpAny_bind (wpAny_letGo ?_)
    rw [kz]
    exact wpAny_pure ⟨plainId_quiet F.plain_min_loop _,ih (j+1) _ vb c (by omega) hlt kp' hst' (by simp only [argBest,hb,Bool.false_eq_true,if_false]; exact hPb) hS' λv' h'' tk'' hP' hk'' =>
     hR v' h'' tk'' hP' λb o hbw hbS e=>hk'' b o hbw hbS (hk' b o hbw e)⟩)
theorem ZhW (W:Walks prog w A.in1 I fp wr n P St) (bt:Nat->Nat->Bool) (hcmp:tS prog w A.in1 h0 P bt) (hSf:S ∉ fp) (h0w:∀ c o,h0.get? c=some o->c ∉ wr/\c≠S) (hn:0 < n) {s:Shared} {c:Nat} (kp:iI h0 s.heap) (hst:St 0 s.heap)
  (hS:s.heap.get? S=some { cls:=.type "list",data:=.seq #[] c })
  (hR:∀ v h' tk,P (argBest bt (n - 1)) v->(∀ b o,b ∉ wr->b≠S->s.heap.get? b=some o->h'.get? b=some o)->R (.ok (.ret v)) { s with heap:=h',toks:=tk }) :
  codeAny (model prog w) A (.builtin "min.loop" ⟨[.ref I,.none,.ref S],[]⟩) R s:=by
 have hSw:S ∉ wr:=λh=>hSf (W.sub _ h)
 refine codeAny_builtin F.entry_min_loop (by
  rw [Around.under_plainId F.plain_min_loop _]
  show wpAny _ A.in1 (seqItems? (.ref S) >>= _) _ _ s
  refine wpAny_bind (wpAny_seqItems hS rfl ?_)
  show wpAny _ A.in1 (tryCatch (pyNext (.ref I)) _ >>= _) _ _ s
  refine wpAny_bind (wpAny_tryCatch (W.item 0 s _ _ hn hst λv h' tk hP hst' hk'=>?_))
  have hS':=hk' S _ hSw hS
  have kp':iI h0 h':=λc o e=>hk' c o (h0w c o e).1 (kp c o e)
  show wpAny _ A.in1 (updateSeq S (λ_=>#[v,v]) >>= _) _ _ _
  refine wpAny_bind (wpAny_updateSeq hS' rfl ?_)
  rw [kz]
  refine wpAny_pure ⟨plainId_quiet F.plain_min_loop _,ZhV W bt hcmp hSf h0w _ 0 _ v _ rfl hn (λc o e=>(Heap.get?_update_other _ _ (Ne.symm (h0w c o e).2)).trans (kp' c o e)) (W.frame _ _ _ hst' λb hbf o e=>?_) hP (Heap.get?_update_self _ hS' rfl)
   λv' h'' tk'' hP' hk''=>hR v' h'' tk'' hP' λb o hbw hbS e=>hk'' b o hbw hbS ((Heap.get?_update_other _ _ (Ne.symm hbS)).trans (hk' b o hbw e))⟩
  exact (Heap.get?_update_other _ _ (λh:S=b=>hSf (by rw [h]; exact hbf))).trans e)
end
section
variable {prog:Program} {w:World} {A:Around} {E:Value->Shared->Prop} {s:Shared}
end
section
variable {X:Cx}
end
section
variable {X:Cx} {PK:Pk} {e:Expr} {is:List Sl->Tr (List PyData)}
end
section
variable {prog:Program} {w:World} {A:Around} {E:Value->Shared->Prop} {s:Shared}
theorem ZhU {l:Addr} {items:Array Value} {Q:Value->Shared->Prop} {bt:Nat->Nat->Bool} (hh:A.handled=none) (hl:s.heap.IsList l items) (hn:0 < items.size)
  (hcmp:tS prog w A.in1 s.heap (λi v=>items[i]?=some v) bt)
  (h:∀ h' tk v,iI s.heap h'->items[argBest bt (items.size - 1)]?=some v->Q v { s with heap:=h',toks:=tk }):wpAny (model prog w) A (call (.builtin "min") [.ref l]) Q E s:=by
 refine call_function_tree F.kind_min F.plain_min F.entry_min (F.args_min1 _) (by
  show wpAny _ A.in1 (Builtin.Builtins.bindParams "min" ["key","default"] 0 ⟨[],[]⟩ >>= _) _ _ s
  refine wpAny_bind (wpAny_of_eq (a:=[none,none]) rfl ?_)
  refine wpAny_bind (wpAny_pure ?_)
  refine wpAny_bind (wpAny_pyIter_list hl (wpAny_bind (wpAny_newObj_type ?_)))
  rw [kz]
  have hlt:∀ {c:Nat} {o:Obj},s.heap.get? c=some o->c < s.heap.objs.size:=λe=>Heap.lt_size e
  obtain ⟨ol,hol,_⟩:=id hl
  have hll:(l:Nat) < s.heap.objs.size:=Heap.lt_size hol
  have hsz:∀ ob:Obj,(s.heap.push ob).objs.size=s.heap.objs.size+1:=λob=>Heap.size_push ..
  have W:=Walks.list (prog:=prog) (w:=w) (A:=A.in1) hh s.heap.objs.size l (show (l:Nat)≠s.heap.objs.size from Nat.ne_of_lt hll) items
  refine wpAny_pure ⟨plainId_quiet F.plain_min_loop _,ZhW (A:=A) (h0:=s.heap) W bt hcmp ?_ ?_ hn ?_ ⟨?_,?_⟩ (Heap.get?_push_size _ rfl) ?_⟩
  ·intro hm
   have hm':((s.heap.push { cls:=.type "list_iterator",data:=.fields #[.ref l,.int 0 0] }).objs.size:Nat)∈([s.heap.objs.size,l]:List Nat):=hm
   rw [hsz] at hm'
   rcases List.mem_cons.mp hm' with z | z
   ·exact absurd z (Nat.succ_ne_self _)
   ·rcases List.mem_cons.mp z with z | z
    ·have hll':=hll
     rw [<- z] at hll'
     exact absurd hll' (Nat.not_lt.mpr (Nat.le_succ _))
    ·cases z
  ·intro (c:Nat) o e
   have hc:=hlt e
   refine ⟨λhm=>?_,?_⟩
   ·have hm':c=s.heap.objs.size:=by simpa using hm
    omega
   ·show c≠(s.heap.push { cls:=.type "list_iterator",data:=.fields #[.ref l,.int 0 0] }).objs.size
    rw [hsz]
    omega
  ·exact λc o e=>Heap.get?_push_of_some _ (Heap.get?_push_of_some _ e)
  ·exact ⟨_,Heap.get?_push_of_some _ (Heap.get?_push_size _ rfl),rfl,rfl⟩
  ·exact hl.at λo e=>Heap.get?_push_of_some _ (Heap.get?_push_of_some _ e)
  ·intro v h' tk hP hk
   refine h h' tk v (λ(c:Nat) o e=>hk c o (λhm=>?_) ?_ (Heap.get?_push_of_some _ (Heap.get?_push_of_some _ e))) hP
   ·have hc:=hlt e
    have hm':c=s.heap.objs.size:=by simpa using hm
    omega
   ·have hc:=hlt e
    show c≠(s.heap.push { cls:=.type "list_iterator",data:=.fields #[.ref l,.int 0 0] }).objs.size
    rw [hsz]
    omega)
end
section
variable {X:Cx}
end
section
variable {X:Cx} {PK:Pk} {a b:Expr} {pos:Pos} {j:List Sl->Tr PyData}
end
section
variable {prog:Program} {w:World} {A:Around} {E:Value->Shared->Prop} {s:Shared}
end
section
variable {X:Cx}
end
section
variable {PK:Pk} {X:Cx} {a b:Expr} {pos:Pos} {i j:List Sl->Tr PyData}
end
theorem jd {α:Type} {n:Nat}:∀ {us:List α},us.length=n+1->∃ (a:α) (t:List α),us=a::t/\t.length=n
 | a::t,h=>⟨a,t,rfl,Nat.succ.inj h⟩
theorem Zic {α:Type} {us:List α} (h:us.length=0):us=[]:=List.eq_nil_of_length_eq_zero h
theorem ZcJ {α:Type} {us:List α} (h:us.length=1):∃ a,us=[a]:=by
 obtain ⟨a,t,rfl,h2⟩:=jd h
 exact ⟨a,by rw [Zic h2]⟩
theorem ZcI {α:Type} {us:List α} (h:us.length=2):∃ a0 a1,us=[a0,a1]:=by
 obtain ⟨a0,t,rfl,h2⟩:=jd h
 obtain ⟨a1,rfl⟩:=ZcJ h2
 exact ⟨a0,a1,rfl⟩
theorem ZcH {α:Type} {us:List α} (h:us.length=3):∃ a0 a1 a2,us=[a0,a1,a2]:=by
 obtain ⟨a0,t,rfl,h2⟩:=jd h
 obtain ⟨a1,a2,rfl⟩:=ZcI h2
 exact ⟨a0,a1,a2,rfl⟩
theorem ZcG {α:Type} {us:List α} (h:us.length=4):∃ a0 a1 a2 a3,us=[a0,a1,a2,a3]:=by
 obtain ⟨a0,t,rfl,h2⟩:=jd h
 obtain ⟨a1,a2,a3,rfl⟩:=ZcH h2
 exact ⟨a0,a1,a2,a3,rfl⟩
theorem Zie {α:Type} {us:List α} (h:us.length=5):∃ a0 a1 a2 a3 a4,us=[a0,a1,a2,a3,a4]:=by
 obtain ⟨a0,t,rfl,h2⟩:=jd h
 obtain ⟨a1,a2,a3,a4,rfl⟩:=ZcG h2
 exact ⟨a0,a1,a2,a3,a4,rfl⟩
section
variable {PK:Pk} {X:Cx} {pos:Pos} {n:Nat} {is:List Sl->Tr (List PyData)} {s t:List Sl->Tr Ou}
end
section
variable {PK:Pk} {X:Cx} {a b c d e:Expr} {pos:Pos} {i j l n:List Sl->Tr PyData}
end
end L2
set_option exponentiation.threshold 9000
namespace Tw
open PySem L2
noncomputable def nb (k:Nat) (n:Int):Prop:=n.natAbs < 2 ^ k
theorem aS {k:Nat} {n:Int} (h:nb k n) (hk:k<=8000):fit n=true:=decide_eq_true (Nat.lt_of_lt_of_le h (Nat.pow_le_pow_right (by decide) hk))
theorem bA {k l:Nat} {n:Int} (h:nb k n) (hk:k<=l):nb l n:=Nat.lt_of_lt_of_le h (Nat.pow_le_pow_right (by decide) hk)
theorem cQ {k l:Nat} {m n:Int} (h:nb k m) (h':nb l n):nb (k+l) (m * n):=by
 unfold nb at *
 rw [Int.natAbs_mul,Nat.pow_add]
 exact Nat.mul_lt_mul'' h h'
theorem dD {k l:Nat} {m n:Int} (h:nb k m) (h':nb l n):nb (max k l+1) (m+n):=by
 have h1:=bA h (Nat.le_max_left k l)
 have h2:=bA h' (Nat.le_max_right k l)
 unfold nb at *
 rw [Nat.pow_succ,Nat.mul_two]
 exact Nat.lt_of_le_of_lt (Int.natAbs_add_le m n) (Nat.add_lt_add h1 h2)
theorem eX {k:Nat} {n:Int} (h:nb k n):nb k (-n):=by
 unfold nb at *
 omega
theorem fx {k l:Nat} {m n:Int} (h:nb k m) (h':nb l n):nb (max k l+1) (m - n):=by
 rw [Int.sub_eq_add_neg]
 exact dD h (eX h')
theorem bH {k:Nat} {n:Int} (h1:-(2 ^ k:Nat) < n) (h2:n < (2 ^ k:Nat)):nb k n:=by
 unfold nb
 omega
theorem gX {k:Nat} {c:Prop} [Decidable c] {m n:Int} (h:nb k m) (h':nb k n):nb k (if c then m else n):=by split <;> assumption
noncomputable def ws (f:Int->Int):Nat->List Int->Int
 | _,[]=>0
 | k,w::l=>w * f k+ws f (k+1) l
structure Shp where
 top:Int
 depth:Int
 start:Int
 piece:Int
 keep:Int
 lack:Int
 lost:Int
 back:Int
 late:Int
noncomputable def Shp.l (s:Shp):List Int:=[s.top,s.depth,s.start,s.piece,s.keep,s.lack,s.lost,s.back,s.late]
@[irreducible] noncomputable def Shp.d (s:Shp):PyData:=.tuple (s.l.map PyData.int)
structure Shp.Ok (s:Shp):Prop where
 t0:0<=s.top
 d0:0<=s.depth
 td:s.top+s.depth<=100
 start0:0<=s.start
 start:nb 45 s.start
 piece:nb 45 s.piece
 keep:nb 45 s.keep
 lack:nb 45 s.lack
 lost:nb 45 s.lost
 back:nb 45 s.back
 late:nb 45 s.late
theorem mQ (s:Shp):aP aJ s.d (.int 0)=.ret (.int s.top):=by unfold Shp.d; rw [dI]; exact congrArg Tr.of jr
theorem mP (s:Shp):aP aJ s.d (.int 1)=.ret (.int s.depth):=by unfold Shp.d; rw [dI]; exact congrArg Tr.of jq
theorem mO (s:Shp):aP aJ s.d (.int 2)=.ret (.int s.start):=by unfold Shp.d; rw [dI]; exact congrArg Tr.of jp
theorem mN (s:Shp):aP aJ s.d (.int 3)=.ret (.int s.piece):=by unfold Shp.d; rw [dI]; exact congrArg Tr.of lL
theorem mM (s:Shp):aP aJ s.d (.int 4)=.ret (.int s.keep):=by unfold Shp.d; rw [dI]; exact congrArg Tr.of lK
theorem mL (s:Shp):aP aJ s.d (.int 5)=.ret (.int s.lack):=by unfold Shp.d; rw [dI]; exact congrArg Tr.of lJ
theorem mK (s:Shp):aP aJ s.d (.int 6)=.ret (.int s.lost):=by unfold Shp.d; rw [dI]; exact congrArg Tr.of lI
theorem mJ (s:Shp):aP aJ s.d (.int 7)=.ret (.int s.back):=by unfold Shp.d; rw [dI]; exact congrArg Tr.of lH
theorem mI (s:Shp):aP aJ s.d (.int 8)=.ret (.int s.late):=by unfold Shp.d; rw [dI]; exact congrArg Tr.of lG
section
variable (s:Shp)
noncomputable def Shp.nx (y f:Int):Int:=cD (y - f) (-s.depth)
noncomputable def Shp.day (y f:Int):Int:=(if s.nx y f > 0 then s.keep * s.nx y f else s.lack * -s.nx y f)+s.lost * (s.nx y f - (y - f))
noncomputable def Shp.ord (x y:Int):Int:=if y<=x then 0 else s.start+s.piece * (y - x)
noncomputable def Shp.fin (x:Int):Int:=if x > 0 then -s.back * x else s.late * -x
end
noncomputable def Shp.n (s:Shp):Nat:=(s.top+1 - -s.depth).toNat
noncomputable def tI (l:List Int):PyData:=.tuple (l.map PyData.int)
noncomputable def fD (fs:List (List Int)):PyData:=.tuple (fs.map tI)
theorem Shp.Ok.n_eq {s:Shp} (h:s.Ok):(s.n:Int)=s.top+s.depth+1:=by have:=h.t0; have:=h.d0; unfold Shp.n; omega
theorem gg (s:Shp) (y f:Int):-s.depth<=s.nx y f:=by unfold Shp.nx cD; split <;> omega
theorem gf {s:Shp} (h:s.Ok) {y f:Int} (hy:y<=s.top) (hf:0<=f):s.nx y f<=s.top:=by have:=h.t0; have:=h.d0; unfold Shp.nx cD; split <;> omega
end Tw
namespace L2
open PySem PySem.Spec PyProof.Rows
variable {ρ:List Sl} {s t:List Sl->Tr Ou} {i j l:List Sl->Tr PyData} {is:List Sl->Tr (List PyData)} {k n:Nat} {x y d:PyData} {xs ys:List PyData} {sl:Sl}
theorem nv {α β:Type} {a:α} {f:α->Tr β}:(Tr.ret a).bind f=f a:=Eq.trans (Tr.ret_bind a f) (Eq.refl _)
noncomputable def nr (xs:List PyData):Tr (List PyData):=.ret xs.reverse
noncomputable def Za9 (x:PyData):Tr (List PyData):=(cm x).bind nr
theorem p9:tu i ρ=(i ρ).bind Za9:=rfl
theorem pY:Za9 x=(cm x).bind nr:=rfl
theorem pX:nr xs=.ret xs.reverse:=rfl
theorem p8:aP gJ (.list xs) (.int (-1))=.ret (.list xs.reverse):=rfl
theorem p7:aP gJ (.tuple xs) (.int (-1))=.ret (.tuple xs.reverse):=rfl
theorem Zlt {α:Type} {t:Tr α} {P:α->Prop} (h:Al t 0 P):∃ a,t=.ret a/\P a:=by
 have h':=h.out
 cases t with
 | ret a=>exact ⟨a,rfl,h'⟩
 | draw w k=>exact h'.elim
 | fail=>exact h'.elim
theorem iw {α:Type} {t:Tr α} {a:α} (h:Al t 0 λb=>b=a):t=.ret a:=by
 obtain ⟨b,e,rfl⟩:=Zlt h
 exact e
theorem Zls {α:Type} {t:Tr α} {a:α} {P:α->Prop} {N:Nat} (h:t=.ret a) (hp:P a):Al t N P:=by rw [h]; exact bL hp
theorem Zdh {s:List Sl->Tr Ou} {g:PyData->List Sl->Option (List Sl)} {n:Nat} {full:List PyData} (I:List PyData->List Sl->Prop) {Q:Ou->Prop} (ht:∀ pre x post ρ,full=pre++x::post->I pre ρ->∃ ρ1,g x ρ=some ρ1/\(s ρ1).all n λo=>∃ ρ2,o=.next ρ2/\I (pre++[x]) ρ2) (hq:∀ ρ,I full ρ->Q (.next ρ)) :
  ∀ {xs pre:List PyData} {ρ:List Sl},full=pre++xs->I pre ρ->(b9 g s xs ρ).all (xs.length * n) Q
 | [],pre,ρ,e,h0=>hq ρ (by rw [e,List.append_nil]; exact h0)
 | x::xs,pre,ρ,e0,h0=>by
  obtain ⟨ρ1,e,ha⟩:=ht pre x xs ρ e0 h0
  have en:(x::xs).length * n=n+xs.length * n:=by rw [List.length_cons,Nat.succ_mul]; omega
  rw [en,Zdg,e,Tr.of_some,Tr.ret_bind]
  unfold lm
  refine Tr.all_bind ha λo ⟨ρ2,eo,h2⟩=>?_
  subst eo
  rw [Zdw]
  exact Zdh I ht hq (by rw [e0,List.append_assoc]; rfl) h2
theorem eM {n N:Nat} {g:PyData->List Sl->Option (List Sl)} {s:List Sl->Tr Ou} {xs:List PyData} {ρ:List Sl} {Q:Ou->Prop} (I:List PyData->List Sl->Prop) (h0:I [] ρ) (hN:xs.length * n<=N) (ht:∀ pre x post ρ,xs=pre++x::post->I pre ρ->∃ ρ1,g x ρ=some ρ1/\Al (s ρ1) n λo=>∃ ρ2,o=.next ρ2/\I (pre++[x]) ρ2) (hq:∀ ρ,I xs ρ->Q (.next ρ)):Al (b9 g s xs ρ) N Q :=
 .of (Tr.all_mono (Zdh (full:=xs) I (λpre x post ρ e h=>let ⟨ρ1,e,a⟩:=ht pre x post ρ e h; ⟨ρ1,e,a.out⟩) hq (pre:=[]) rfl h0) hN λ_ h=>h)
theorem Zbi {lo hi:Int} {pre post:List PyData} {x:PyData} (h:br lo hi=pre++x::post):x=.int (lo+pre.length)/\(pre.length:Int) < hi - lo:=by
 have h1:(br lo hi)[pre.length]?=some x:=by rw [h]; simp
 have hl:pre.length < (br lo hi).length:=(List.getElem?_eq_some_iff.mp h1).1
 rw [cC] at hl
 unfold br aq at h1
 rw [List.map_map,List.getElem?_map,List.getElem?_range (by omega)] at h1
 refine ⟨?_,by omega⟩
 cases h1
 rfl
theorem lw {xs:List PyData} {pre post:List PyData} {x:PyData} (h:cU xs=pre++x::post):∃ y,xs[pre.length]?=some y/\x=.tuple [.int pre.length,y]:=by
 have h1:(cU xs)[pre.length]?=some x:=by rw [h]; simp
 unfold cU at h1
 rw [List.getElem?_zipWith] at h1
 cases hx:xs[pre.length]? with
 | none=>rw [hx] at h1; simp at h1
 | some y =>
  have hl:pre.length < xs.length:=(List.getElem?_eq_some_iff.mp hx).1
  rw [hx,List.getElem?_range hl] at h1
  simp at h1
  exact ⟨y,rfl,h1.symm⟩
theorem lx (xs:List PyData):(cU xs).length=xs.length:=by unfold cU; simp
end L2
namespace Tw
open PySem L2
theorem il {s:Shp} (h:s.Ok) {y f:Int} (hy:nb 20 y) (hf:nb 40 f):nb 100 (s.day y f):=by
 have hd:nb 7 s.depth:=by have:=h.t0; have:=h.d0; have:=h.td; exact bH (by show -128 < _; omega) (by show _ < 128; omega)
 have hn:nb 50 (s.nx y f):=by
  unfold Shp.nx cD
  exact gX (bA (eX hd) (by decide)) (bA (fx hy hf) (by decide))
 unfold Shp.day
 refine bA (dD (gX (k:=95) (cQ h.keep hn) (cQ h.lack (eX hn))) (cQ h.lost (fx hn (fx hy hf)))) (by decide)
noncomputable def Bd (s:Shp) (b:Nat) (f:Int->Int):Prop:=∀ x,-s.depth<=x->x<=s.top->nb b (f x)
theorem Zdq {s:Shp} (h:s.Ok):Bd s 100 s.fin:=λx h1 h2=>by
 have:=h.t0
 have:=h.d0
 have:=h.td
 have hx:nb 20 x:=bH (by show -1048576 < _; omega) (by show _ < 1048576; omega)
 unfold Shp.fin
 exact bA (gX (k:=65) (cQ (eX h.back) hx) (cQ h.late (eX hx))) (by decide)
noncomputable abbrev rng (lo hi:Int):List Int:=aq lo (hi - lo).toNat
variable {α:Type}
theorem ZgE (lo:Int) (a b:Nat):aq lo (a+b)=aq lo a++aq (lo+a) b:=by
 unfold aq
 rw [List.range_add,List.map_append,List.map_map]
 congr 1
 apply List.map_congr_left
 intro k _
 show lo+((a+k:Nat):Int)=lo+(a:Int)+(k:Int)
 omega
noncomputable def f3 (lo a b c:Int) (t:Int->Int->Int->Option α):Option α:=(rng lo a).findSome? λu=>(rng (u+1) b).findSome? λv=>(rng (v+1) c).findSome? λw=>t u v w
structure Shp.Dr (s:Shp):Prop where
 t0:0<=s.top
 d0:0<=s.depth
 td:s.top+s.depth<=39
 p:∀ n∈[s.start,s.piece,s.keep,s.lack,s.lost,s.back,s.late],0<=n/\n<=1000000
theorem Shp.Dr.ok {s:Shp} (h:s.Dr):s.Ok:=by
 have hp:=h.p
 simp only [List.mem_cons,List.not_mem_nil,or_false,forall_eq_or_imp,forall_eq] at hp
 obtain ⟨h1,h2,h3,h4,h5,h6,h7⟩:=hp
 have k:∀ n:Int,0<=n/\n<=1000000->nb 45 n:=λn hn=>bH (by show -35184372088832 < _; omega) (by show _ < 35184372088832; omega)
 exact ⟨h.t0,h.d0,by have:=h.td; omega,h1.1,k _ h1,k _ h2,k _ h3,k _ h4,k _ h5,k _ h6,k _ h7⟩
theorem ZaK {a b c d e f g h i:Int}:PyData.tuple [.int a,.int b,.int c,.int d,.int e,.int f,.int g,.int h,.int i]=(Shp.mk a b c d e f g h i).d:=by
 unfold Shp.d
 rfl
theorem Zc1 (l:List Int):cm (tI l)=.ret (l.map PyData.int):=rfl
theorem jf (l:List (List Int)):cm (fD l)=.ret (l.map tI):=rfl
structure Rp (d:PyData) (k n:Nat):Prop where
 hd:d.hasDict=false
 sh:d.showable=true
 dp:d.depth<=k
 ln:d.shown.length<=n
theorem Zbc {d:PyData} {k n:Nat} (h:Rp d k n) (hk:k<=32) (hn:n<=10000000):gL d=true:=by
 unfold gL
 rw [h.hd,h.sh,decide_eq_true (Nat.le_trans h.dp hk),decide_eq_true (Nat.le_trans h.ln (Nat.le_trans hn (by rw [sizeLine_eq]; decide)))]
 rfl
theorem dt {d:PyData} {k n k' n':Nat} (h:Rp d k n) (hk:k<=k') (hn:n<=n'):Rp d k' n':=⟨h.hd,h.sh,Nat.le_trans h.dp hk,Nat.le_trans h.ln hn⟩
theorem Zgr {i:Int} (h:nb 1900 i):Rp (.int i) 0 1901:=by
 have h1:=ZaM [i] λn hn=>by simp at hn; subst hn; exact h
 have h2:=(ZaL [i] λn hn=>by simp at hn; subst hn; exact h).1
 refine ⟨rfl,?_,Nat.zero_le _,?_⟩
 ·simp only [List.map_cons,List.map_nil,PyData.showableAll,Bool.and_true] at h1
  exact h1
 ·simp only [List.map_cons,List.map_nil,PyData.shownAll,List.sum_cons,List.sum_nil,List.length_cons,List.length_nil] at h2
  omega
theorem Zbf {k n:Nat}:∀ {xs:List PyData},(∀ x∈xs,Rp x k n)->PyData.hasDictAll xs=false/\PyData.showableAll xs=true/\PyData.depthAll xs<=k/\((PyData.shownAll xs).map (·.length)).sum<=xs.length * n/\(PyData.shownAll xs).length=xs.length
 | [],_=>⟨rfl,rfl,Nat.zero_le _,by simp [PyData.shownAll],rfl⟩
 | x::xs,h=>by
  obtain ⟨h1,h2,h3,h4,h5⟩:=Zbf (xs:=xs) λy hy=>h y (List.mem_cons_of_mem _ hy)
  have hx:=h x (by simp)
  refine ⟨?_,?_,?_,?_,?_⟩
  ·rw [PyData.hasDictAll,hx.hd,h1]; rfl
  ·rw [PyData.showableAll,hx.sh,h2]; rfl
  ·rw [PyData.depthAll]; have:=hx.dp; omega
  ·rw [PyData.shownAll,List.map_cons,List.sum_cons,List.length_cons,Nat.succ_mul]; have:=hx.ln; omega
  ·rw [PyData.shownAll,List.length_cons,List.length_cons,h5]
theorem gI {xs:List PyData} {k n:Nat} (h:∀ x∈xs,Rp x k n):Rp (.tuple xs) (k+1) (xs.length * n+2 * xs.length+10):=by
 obtain ⟨h1,h2,h3,h4,h5⟩:=Zbf h
 have c3:=tupleText_len_le (PyData.shownAll xs)
 refine ⟨?_,?_,?_,?_⟩
 ·rw [PyData.hasDict,h1]
 ·rw [PyData.showable,h2]
 ·rw [PyData.depth]; omega
 ·rw [PyData.shown]; omega
theorem jY {l:List Int} {m:Nat} (h:∀ n∈l,nb 1900 n) (hl:l.length<=m):Rp (tI l) 1 (m * 1903+10):=by
 refine dt (gI (k:=0) (n:=1901) λx hx=>?_) (Nat.le_refl _) ?_
 ·obtain ⟨i,hi,rfl⟩:=List.mem_map.mp hx
  exact Zgr (h i hi)
 ·rw [List.length_map]
  have:l.length * 1903<=m * 1903:=Nat.mul_le_mul_right _ hl
  omega
theorem Zgp {s:Shp} (h:s.Ok):Rp s.d 1 20000:=by
 have e:s.d=tI s.l:=by unfold Shp.d; rfl
 rw [e]
 refine dt (jY (m:=9) (λn hn=>?_) (Nat.le_refl _)) (Nat.le_refl _) (by decide)
 have:=h.t0
 have:=h.d0
 have:=h.td
 unfold Shp.l at hn
 simp only [List.mem_cons,List.not_mem_nil,or_false] at hn
 have k:∀ n:Int,nb 45 n->nb 1900 n:=λn hn=>bA hn (by decide)
 have k1:nb 1900 s.top:=k _ (bH (by show -35184372088832 < _; omega) (by show _ < 35184372088832; omega))
 have k2:nb 1900 s.depth:=k _ (bH (by show -35184372088832 < _; omega) (by show _ < 35184372088832; omega))
 rcases hn with rfl | rfl | rfl | rfl | rfl | rfl | rfl | rfl | rfl
 ·exact k1
 ·exact k2
 ·exact k _ h.start
 ·exact k _ h.piece
 ·exact k _ h.keep
 ·exact k _ h.lack
 ·exact k _ h.lost
 ·exact k _ h.back
 ·exact k _ h.late
theorem ZfQ (x:Str):(x == x)=true:=by simp
theorem euclid {p:List Sl->Tr Bool} {s:List Sl->Tr Ou} {E:Nat->Nat->List Sl} (hp:∀ a b:Nat,p (E a b)=.ret (decide (b≠0))) (hs:∀ a b:Nat,b≠0->s (E a b)=.ret (.next (E b (a % b)))) :
  ∀ n k a b:Nat,b < 2 ^ n->cM p s (2 * n+1+k) (E a b)=.ret (.next (E (Nat.gcd a b) 0)):=by
 have stop:∀ k a:Nat,cM p s (k+1) (E a 0)=.ret (.next (E a 0)):=λk a=>by
  rw [cM,hp,Tr.ret_bind]
  rfl
 have go:∀ k a b:Nat,b≠0->cM p s (k+1) (E a b)=cM p s k (E b (a % b)):=λk a b hb=>by
  rw [cM,hp,Tr.ret_bind,decide_eq_true hb,if_pos rfl,hs a b hb,Tr.ret_bind]
 intro n
 induction n with
 | zero =>
  intro k a b hb
  have e:b=0:=by simp at hb; exact hb
  subst e
  rw [Nat.gcd_zero_right,Nat.add_comm (2 * 0+1) k]
  exact stop k a
 | succ n ih =>
  intro k a b hb
  by_cases h0:b=0
  ·subst h0
   have e:2 * (n+1)+1+k=(2 * (n+1)+k)+1:=by omega
   rw [Nat.gcd_zero_right,e]
   exact stop _ a
  ·have e:2 * (n+1)+1+k=(2 * n+2+k)+1:=by omega
   rw [e,go _ a b h0]
   have hr:a % b < b:=Nat.mod_lt _ (Nat.pos_of_ne_zero h0)
   by_cases h1:a % b=0
   ·rw [h1]
    have e2:2 * n+2+k=(2 * n+1+k)+1:=by omega
    have eg:Nat.gcd a b=b:=by rw [Nat.gcd_comm,Nat.gcd_rec,h1,Nat.gcd_zero_left]
    rw [e2,eg]
    exact stop _ b
   ·have e2:2 * n+2+k=(2 * n+1+k)+1:=by omega
    rw [e2,go _ b (a % b) h1]
    have hlt:b % (a % b) < 2 ^ n:=by
     have h2:b % (a % b) < a % b:=Nat.mod_lt _ (Nat.pos_of_ne_zero h1)
     have h3:b % (a % b)+a % b<=b:=by
      have h4:=Nat.div_add_mod b (a % b)
      have h5:1<=b / (a % b):=(Nat.le_div_iff_mul_le (Nat.pos_of_ne_zero h1)).mpr (by omega)
      have h6:a % b<=(a % b) * (b / (a % b)):=Nat.le_mul_of_pos_right _ h5
      omega
     rw [Nat.pow_succ] at hb
     omega
    rw [ih k (a % b) (b % (a % b)) hlt]
    have eg:Nat.gcd a b=Nat.gcd (a % b) (b % (a % b)):=by
     rw [Nat.gcd_comm a b,Nat.gcd_rec b a,Nat.gcd_rec (a % b) b,Nat.gcd_comm]
    rw [eg]
theorem Zdo (a b:Nat):(a:Int).fmod (b:Int)=((a % b:Nat):Int):=by
 rw [Int.fmod_eq_emod_of_nonneg _ (Int.natCast_nonneg b)]
 rfl
theorem ZeH (n:Int):lT n=(n.natAbs:Int):=by
 unfold lT
 split <;> omega
noncomputable def gF (t b:Int):PyData:=.tuple [.int (Gc.eZ t b),.int (Gc.eG t b)]
theorem Zh6 {t b:Int} {k l:Nat} (ht:nb k t) (hb:nb l b) (h0:b≠0):nb k (Gc.eZ t b)/\nb l (Gc.eG t b):=by
 obtain ⟨h1,h2⟩:=Gc.Zh7 (t:=t) h0
 exact ⟨Nat.lt_of_le_of_lt h1 ht,Nat.lt_of_le_of_lt h2 hb⟩
theorem ZdO {t b:Int} {l:Nat} (hb:nb l b) (h0:b≠0):nb l (Gc.den t b):=by
 unfold nb
 rw [Gc.sO]
 exact Nat.lt_of_le_of_lt (Nat.gcd_le_right _ (by omega)) hb
noncomputable def pr (p:Int×Int):List Int:=[p.1,p.2]
end Tw
namespace HT
open PySem PyProof.Rows
section
open PySem.SeqAt
open PySem.AutoSeq1 (wpAny_loadPart')
open PySem.MeetsSeq PySem.MeetsSeq2 PySem.MeetsSeq3
theorem Zfn (l b:Addr) (a c:Int) (t u:Tok) (y x:Value) (n n2:Nat) (dd dd2:Option Addr) (sl dQ:Array (Option Value)) (e q:Bool) :
  Meets (Builtin.«tuple.__lt__» ⟨[.ref l,.ref b],[]⟩)
   (λA R s=>s.heap.get? l=some { cls:=.type "tuple",dict:=dd,data:=.seq #[.int a t,y] n,slots:=sl }/\s.heap.get? b=some { cls:=.type "tuple",dict:=dd2,data:=.seq #[.int c u,x] n2,slots:=dQ } /\
    EqAt A.in1 s y x e/\(∀ (prog:Program) (w:World) (E:Value->Shared->Prop) (Q:Value->Shared->Prop),Q (.bool q) s->wpAny (model prog w) A.in1 (richCompare .Lt y x) Q E s) /\
    R (.ok (.ret (.bool (if a=c then (if e=true then false else q) else decide (a < c))))) s) :=
 .of_wp λprog w A R s h=>by
  obtain ⟨hp,g,d,tk,os⟩:=s; obtain ⟨hl,hb,hE,hq,h⟩:=h
  have f2:=AutoSeq1.sub_tuple_tuple
  wp_walk using wpAny_loadPart' hl,wpAny_loadPart' hb,wpAny_forIn_list _ (λrest b s'=>b.1=none/\s'=⟨hp,g,d,tk,os⟩/\((rest=[(.int a t,.int c u),(y,x)])\/(rest=[(y,x)]/\a=c)\/(rest=[]/\a=c/\e=true))) _
  case turn =>
   rintro ⟨y',x'⟩ rest b s' ⟨hb',rfl,hz⟩
   rcases hz with hz | ⟨hz,hac⟩ | ⟨hz,_⟩
   ·injection hz with hyx hrest
    injection hyx with hy hx
    subst hy hx
    obtain ⟨e1,he1,hiff⟩:=Zdx A.in1 ⟨hp,g,d,tk,os⟩ a t c u
    refine wpAny_bind (he1 prog w _ _ ?_)
    cases e1 with
    | true =>
     wp_walk
     exact ⟨rfl,rfl,.inr (.inl ⟨hrest,hiff.mp rfl⟩)⟩
    | false =>
     rw [if_neg (λq=>absurd (hiff.mpr q) Bool.false_ne_true)] at h
     have hri:=Zbu A.in1 ⟨hp,g,d,tk,os⟩ a t c u prog w
     wp_walk using hri
     exact ⟨_,rfl,by simpa using h⟩
   ·injection hz with hyx hrest
    injection hyx with hy hx
    subst hy hx
    rw [if_pos hac] at h
    refine wpAny_bind (hE prog w _ _ ?_)
    cases e with
    | true =>
     wp_walk
     exact ⟨rfl,rfl,.inr (.inr ⟨hrest,hac,rfl⟩)⟩
    | false =>
     have hri:=hq prog w
     wp_walk using hri
     exact ⟨_,rfl,by simpa using h⟩
   ·cases hz
  case fin =>
   rintro ⟨b1,b2⟩ s' ⟨hb',rfl,hz⟩
   simp only at hb'
   subst hb'
   rcases hz with hz | ⟨hz,_⟩ | ⟨_,hac,he⟩
   ·cases hz
   ·cases hz
   ·rw [if_pos hac,if_pos he] at h
    wp_walk
    exact ⟨_,rfl,by simpa [Builtin.Tuple.tupleCompareSizes] using h⟩
  case h =>
   exact ⟨rfl,rfl,.inl rfl⟩
end
end HT
namespace HT
open PySem PyProof.Rows
theorem ZcE:∀ ns:List Int,cE ns ns=false
 | []=>rfl
 | n::ns=>by rw [ZcF,if_pos rfl]; exact ZcE ns
theorem oH:∀ {vs:List Value} {ns:List Int},IntsAre vs ns->vs.length=ns.length/\∀ j (h:j < vs.length),∃ t,vs[j]=.int (ns[j]?.getD 0) t
 | _,_,.nil=>⟨rfl,λj h=>by cases h⟩
 | _,_,.cons n t r=>by
  obtain ⟨h1,h2⟩:=oH r
  refine ⟨by rw [List.length_cons,List.length_cons,h1],λj h=>?_⟩
  cases j with
  | zero=>exact ⟨t,rfl⟩
  | succ j =>
   obtain ⟨t',e⟩:=h2 j (by simpa using h)
   exact ⟨t',by simpa using e⟩
theorem Zc5:∀ {vs:List Value} {ns ms:List Int},IntsAre vs ns->IntsAre vs ms->ns=ms
 | _,_,_,.nil,h=>by cases h; rfl
 | _,_,_,.cons n t r,h=>by
  cases h with
  | cons _ _ r'=>rw [Zc5 r r']
theorem Zlq {ns ms:List Int}:((List.range (min ns.length ms.length)).all (λj=>decide (ns[j]?.getD 0=ms[j]?.getD 0)) && ns.length == ms.length)=decide (ns=ms):=by
 rw [Bool.eq_iff_iff,Bool.and_eq_true,List.all_eq_true,decide_eq_true_eq,beq_iff_eq]
 constructor
 ·rintro ⟨h1,h2⟩
  refine List.ext_getElem h2 λj a b=>?_
  have:=of_decide_eq_true (h1 j (List.mem_range.mpr (by omega)))
  simpa [List.getElem?_eq_getElem a,List.getElem?_eq_getElem b] using this
 ·rintro rfl
  exact ⟨λj _=>decide_eq_true rfl,rfl⟩
section
variable {prog:Program} {w:World} {A:Around} {E:Value->Shared->Prop} {s:Shared}
theorem Zjl {l b:Addr} {items items2:Array Value} {ns ms:List Int} (hl:IsTup s.heap l items) (hb:IsTup s.heap b items2) (hi:IntsAre items.toList ns) (hj:IntsAre items2.toList ms) (hu:A.units < cLine) :
  SeqAt.EqAt A s (.ref l) (.ref b) (decide (ns=ms)):=by
 by_cases hlb:l=b
 ·subst hlb
  have e:items=items2:=by
   obtain ⟨o,h1,h2,n,h3⟩:=id hl
   obtain ⟨o',h1',h2',n',h3'⟩:=id hb
   rw [h1] at h1'
   cases h1'
   rw [h3] at h3'
   cases h3'
   rfl
  subst e
  rw [decide_eq_true (Zc5 hi hj)]
  exact SeqAt.EqAt.same _
 ·obtain ⟨z1,g1⟩:=oH hi
  obtain ⟨z2,g2⟩:=oH hj
  have r:=SeqAt.RcAt.tuples (e:=λj=>decide (ns[j]?.getD 0=ms[j]?.getD 0)) hl hb hu λj h1 h2=>by
   obtain ⟨t1,e1⟩:=g1 j (by simpa using h1)
   obtain ⟨t2,e2⟩:=g2 j (by simpa using h2)
   have e1':items[j]=.int (ns[j]?.getD 0) t1:=by simpa using e1
   have e2':items2[j]=.int (ms[j]?.getD 0) t2:=by simpa using e2
   rw [e1',e2']
   exact SeqAt.EqAt.int_int (ns[j]?.getD 0) t1 (ms[j]?.getD 0) t2
  have s1:items.size=ns.length:=by rw [<- z1]; simp
  have s2:items2.size=ms.length:=by rw [<- z2]; simp
  rw [s1,s2,Zlq] at r
  exact SeqAt.EqAt.of_refs hlb r
noncomputable def cB (p q:Int×List Int):Bool:=if p.1=q.1 then cE p.2 q.2 else decide (p.1 < q.1)
theorem Zh3 {l b r1 r2:Addr} {a c:Int} {t u:Tok} {cm it2:Array Value} {ns ms:List Int} {Q:Value->Shared->Prop} (hl:IsTup s.heap l #[.int a t,.ref r1]) (hb:IsTup s.heap b #[.int c u,.ref r2])
  (h1:IsTup s.heap r1 cm) (h2:IsTup s.heap r2 it2) (hi:IntsAre cm.toList ns) (hj:IntsAre it2.toList ms)
  (hu:A.units+1 < cLine) (h:Q (.bool (cB (a,ns) (c,ms))) s):wpAny (model prog w) A (compareOp .Lt (.ref l) (.ref b)) Q E s:=by
 obtain ⟨⟨cls,dd,data,sl⟩,ho,hc,n,hd⟩:=id hl
 obtain ⟨⟨cls2,dd2,data2,dQ⟩,ho2,hc2,n2,hd2⟩:=id hb
 simp only at hc hd hc2 hd2
 subst hc hd hc2 hd2
 have ev:(if a=c then (if decide (ns=ms)=true then false else cE ns ms) else decide (a < c))=cB (a,ns) (c,ms):=by
  unfold cB
  dsimp only
  by_cases e:ns=ms
  ·rw [decide_eq_true e,if_pos rfl,e,ZcE]
  ·rw [decide_eq_false e,if_neg Bool.false_ne_true]
 refine richCompare_meets_room (op:=.Lt) ⟨_,ho,rfl⟩ ⟨_,ho2,rfl⟩ PySem.F.slot_tuple_lt PySem.F.entry_tuple_lt (PySem.F.args_tuple_lt_2 _ _) (Zfn l b a c t u (.ref r1) (.ref r2) n n2 dd dd2 sl dQ (decide (ns=ms)) (cE ns ms))
  ⟨ho,ho2,Zjl h1 h2 hi hj ?_,λprog w E Q hq=>?_,?_⟩ (by omega)
 ·exact hu
 ·exact (Zh2 h1 h2 hi hj hu hq:wpAny (model prog w) A.in1 (compareOp .Lt (.ref r1) (.ref r2)) Q E s)
 ·rw [ev]
  exact ⟨(λx=>nomatch x),h⟩
end
end HT
namespace L2
open PySem PySem.Spec PyProof.Rows
noncomputable def Zc2:PyData->Bool
 | .tuple _=>true
 | _=>false
mutual
noncomputable def eL:PyData->Bool
 | .none=>false
 | .bool _=>false
 | .int _=>false
 | .str _=>false
 | .list _=>true
 | .tuple xs=>gq xs
 | .dict kvs=>gm kvs
noncomputable def gq:List PyData->Bool
 | []=>false
 | x::xs=>eL x || gq xs
noncomputable def gm:List (PyData×PyData)->Bool
 | []=>false
 | (k,v)::r=>Zc2 k || eL v || gm r
end
noncomputable def eJ:ak->PyData
 | .inl i=>.int i
 | .inr x=>.str x
theorem Zdc:∀ {ks:List (ak×V)} {ds:List PyData},(ks.map λk=>eJ k.1).length=ds.length->gm ((ks.map λk=>eJ k.1).zip ds)=gq ds
 | [],[],_=>by simp only [List.map_nil,List.zip_nil_left,gm,gq]
 | k::ks,d::ds,h=>by
  have hk:Zc2 (eJ k.1)=false:=by obtain ⟨k,v⟩:=k; cases k <;> rfl
  rw [List.map_cons,List.zip_cons_cons,gm,gq,hk,Bool.false_or,Zdc (Nat.succ.inj h)]
 | [],_::_,h=>by cases h
 | _::_,[],h=>by cases h
theorem Ziq {P:Program} {w:World} {h:Heap}:∀ {es:List DictEntry} {vs:List (ak×Value)},Pairs (aX P w) es vs->ReadsAll h (es.map (·.key)) (vs.map λq=>eJ q.1) []:=by
 intro es vs hp
 induction hp with
 | nil=>exact .nil
 | @cons e kv es kvs h1 h2 _ ih =>
  have h1':gl kv.1 e.key=true:=h1
  rcases eI h1' with ⟨i,t,e1,e2⟩ | ⟨x,t,e1,e2⟩
  ·rw [List.map_cons,List.map_cons,e1,e2]
   exact ReadsAll.cons (as:=[]) (bs:=[]) (.int i t) ih
  ·rw [List.map_cons,List.map_cons,e1,e2]
   exact ReadsAll.cons (as:=[]) (bs:=[]) (.str x t) ih
theorem Zhn {P:Program} {w:World} {es:List DictEntry} {vs:List (ak×Value)} (hp:Pairs (aX P w) es vs):es.map (·.val)=vs.map (·.2):=by
 induction hp with
 | nil=>rfl
 | @cons e kv es kvs h1 h2 _ ih=>rw [List.map_cons,List.map_cons,h2,ih]
theorem Zin:∀ {ks:List (ak×V)} {vs:List (ak×Value)},KV ks vs->Vals (ks.map (·.2)) (vs.map (·.2))/\(ks.map (·.1))=vs.map (·.1):=by
 intro ks vs kv
 unfold KV at kv
 induction kv with
 | nil=>exact ⟨.nil,rfl⟩
 | cons h _ ih=>exact ⟨.cons h.2 ih.1,by rw [List.map_cons,List.map_cons,h.1,ih.2]⟩
theorem Zaa:∀ {ks ds:List PyData},ks.length=ds.length->(ks.zip ds).map (·.1)=ks/\(ks.zip ds).map (·.2)=ds
 | [],[],_=>⟨rfl,rfl⟩
 | k::ks,d::ds,h=>by
  obtain ⟨h1,h2⟩:=Zaa (Nat.succ.inj h)
  rw [List.zip_cons_cons,List.map_cons,List.map_cons,h1,h2]
  exact ⟨rfl,rfl⟩
 | [],_::_,h=>by cases h
 | _::_,[],h=>by cases h
theorem ZiP:∀ {ks:List (List Int×V)} {ds:List PyData},ks≠[]->ks.length=ds.length->eL (.dict ((ks.map λk=>PyData.tuple (k.1.map PyData.int)).zip ds))=true
 | [],_,h,_=>absurd rfl h
 | _::_,[],_,h=>by cases h
 | k::ks,d::ds,_,_=>by
  rw [List.map_cons,List.zip_cons_cons,eL,gm]
  rfl
mutual
/-- data without lists -/
theorem Dn.readsD {P:Program} {w:World} {H:Hp} {h:Heap} (ok:HOk P w H h):∀ {v:V} {d:PyData} {u:Value},Dn H v d->eL d=false->RelV v u->∃ as,Reads h u d as/\∀ b∈as,b≠sysModules
 | _,_,_,.non,_,r=>by cases r; exact ⟨_,.none,λb hb=>nomatch hb⟩
 | _,_,_,.bl b,_,r=>by cases r; exact ⟨_,.bool b,λb hb=>nomatch hb⟩
 | _,_,_,.int i,_,r=>by obtain ⟨t,rfl⟩:=r; exact ⟨_,.int i t,λb hb=>nomatch hb⟩
 | _,_,_,.str x,_,r=>by obtain ⟨t,rfl⟩:=r; exact ⟨_,.str x t,λb hb=>nomatch hb⟩
 | _,_,_,.tup e rs,hd,r=>by
  cases r
  obtain ⟨z,its,rv,o,h1,h2,n,h3⟩:=ok _ _ e
  obtain ⟨as,q,hq⟩:=DnAll.readsD ok rs (by rw [eL] at hd; exact hd) rv
  exact ⟨_,.tuple h1 h2 h3 (by simpa using q),hq⟩
 | _,_,_,.lst e rs,hd,r=>by rw [eL] at hd; cases hd
 | _,_,_,.dct (ks:=ks) (ds:=ds) e rs,hd,r=>by
  cases r
  obtain ⟨z,hsys,vs,kv,o,es,ep,h1,⟨h2,_⟩,h3,_,hp,_⟩:=e.ok ok
  obtain ⟨k1,k2⟩:=Zin kv
  have hl:(ks.map λk=>eJ k.1).length=ds.length:=by
   have:=rs.length
   rw [List.length_map] at this ⊢
   exact this
  have hd2:gm ((ks.map λk=>eJ k.1).zip ds)=false:=by rw [eL] at hd; exact hd
  rw [Zdc (ks:=ks) hl] at hd2
  obtain ⟨as,q,hq⟩:=DnAll.readsD ok rs hd2 k1
  obtain ⟨z1,z2⟩:=Zaa hl
  have k3:(ks.map λk=>eJ k.1)=vs.map λq=>eJ q.1:=by
   have:=congrArg (List.map eJ) k2
   rw [List.map_map,List.map_map] at this
   exact this
  show ∃ as,Reads h _ (.dict ((ks.map λk=>eJ k.1).zip ds)) as/\_
  refine ⟨_,.dict (as:=[]) (bs:=as) h1 h2 h3 ?_ ?_,λb hb=>?_⟩
  ·rw [z1,k3]
   exact Ziq hp
  ·rw [z2,Zhn hp]
   exact q
  ·rcases List.mem_append.mp hb with hb | hb
   ·rw [List.mem_singleton] at hb
    rw [hb]
    exact beq_eq_false_iff_ne.mp hsys
   ·exact hq b hb
 | _,_,_,.dcp (ks:=ks) (ds:=ds) hn e rs,hd,r=>by
  rw [ZiP hn (by have:=rs.length; rw [List.length_map] at this; exact this)] at hd
  cases hd
theorem DnAll.readsD {P:Program} {w:World} {H:Hp} {h:Heap} (ok:HOk P w H h):∀ {vs:List V} {ds:List PyData} {us:List Value},DnAll H vs ds->gq ds=false->Vals vs us->∃ as,ReadsAll h us ds as/\∀ b∈as,b≠sysModules
 | _,_,_,.nil,_,r=>by cases r; exact ⟨_,.nil,λb hb=>nomatch hb⟩
 | _,_,_,.cons p t,hd,r=>by
  cases r with
  | cons r1 r2 =>
   rw [gq,Bool.or_eq_false_iff] at hd
   obtain ⟨as,q,hq⟩:=Dn.readsD ok p hd.1 r1
   obtain ⟨bs,q2,hq2⟩:=DnAll.readsD ok t hd.2 r2
   refine ⟨_,.cons q q2,λb hb=>?_⟩
   rcases List.mem_append.mp hb with hb | hb
   ·exact hq b hb
   ·exact hq2 b hb
end
noncomputable def ZbB (xs:List V) (H:Hp) (Q:VK):Prop:=∃ v d,xs=[v]/\Dn H v d/\(d.hasDict=false\/eL d=false)/\d.showable=true/\d.depth<=32/\d.shown.length<=sizeLine/\Q (.str d.shown) H
theorem lD {X:Cx} {k:Nat} (hr:Room k X.A):cH X (.builtin "repr") ZbB:=by
 intro pins s σ H xs us Q I r h
 obtain ⟨v,d,rfl,hd,hor,hs,hdp,hz,q⟩:=h
 obtain ⟨u,rfl,ru⟩:=cJ r
 have hun:=hr.units
 have key:∀ (as:List Addr),Reads s.heap u d as->(d.hasDict=true->sysModules ∉ as)->wpAny (model X.prog X.w) X.A (call (.builtin "repr") [u]) (EP X pins σ Q) X.xe s:=by
  intro as rd hsm
  have viaRef:∀ {a:Addr},u=.ref a->wpAny (model X.prog X.w) X.A (call (.builtin "repr") [u]) (EP X pins σ Q) X.xe s:=λ{a} e=>by
   subst e
   exact repr_of_reads' rd hs hsm hr.gd (by omega) (λ_ _ e=>e) (λh' u' tk hk=>⟨.str d.shown,H,I.kept hk,⟨_,rfl⟩,q⟩) hz
  cases rd with
  | none=>exact PySem.P.repr_of_none ⟨.str "None",H,I.tok _,⟨_,rfl⟩,q⟩
  | bool b=>exact PySem.P.repr_of_bool ⟨.str (if b then "True" else "False"),H,I.tok _,⟨_,rfl⟩,q⟩
  | int i t=>exact PySem.P.repr_of_int (by simpa [PyData.showable] using hs) ⟨.str (toString i),H,I.tok _,⟨_,rfl⟩,q⟩
  | str x t=>exact PySem.P.repr_of_str ⟨.str (reprText x),H,I.tok _,⟨_,rfl⟩,q⟩ hz
  | list h1 h2 h3 h4=>exact viaRef rfl
  | tuple h1 h2 h3 h4=>exact viaRef rfl
  | dict h1 h2 h3 h4 h5=>exact viaRef rfl
 rcases hor with hn | hn
 ·obtain ⟨as,rd⟩:=Dn.reads I.hok hd hn ru
  exact key as rd (PyData.noDict_hsm hn)
 ·obtain ⟨as,rd,hsys⟩:=Dn.readsD I.hok hd hn ru
  exact key as rd λ_ hm=>hsys _ hm rfl
noncomputable def gK (d:PyData):Bool:=(!d.hasDict || !eL d) && d.showable && decide (d.depth<=32) && decide (d.shown.length<=sizeLine)
noncomputable def ga:List PyData->Option PyData
 | [d]=>if gK d=true then some (.str d.shown) else none
 | _=>none
theorem jG:eB ZbB ga:=λPK pa m G H vs ds d Q w hv hd k=>by
 unfold ga at hd
 split at hd
 ·split at hd
  ·rename_i hc
   unfold gK at hc
   simp only [Bool.and_eq_true,Bool.or_eq_true,decide_eq_true_eq,Bool.not_eq_true'] at hc
   cases hd
   cases hv with
   | cons h1 h2=>cases h2; exact ⟨_,_,rfl,h1.mono w.sub,hc.1.1.1,hc.1.1.2,hc.1.2,hc.2,k.here w (.str _)⟩
  ·cases hd
 ·cases hd
section
variable {PK:Pk} {X:Cx} {pos:Pos} {i j:List Sl->Tr PyData}
end
theorem lr {d:PyData} (h:gK d=true):bQ ga [d]=.ret (.str d.shown):=by
 show Tr.of (if gK d=true then some (PyData.str d.shown) else none)=_
 rw [if_pos h]
 rfl
end L2
namespace PySem
theorem dk_list_keys:typeLookup (.type "list") "keys"=pure none:=by rw [typeLookup_type,builtinLookup_eq_fast]; kernel_rfl
section
variable {prog:Program} {w:World} {A:Around} {E:Value->Shared->Prop} {s:Shared} {a:Addr} {o:Obj} {xs:Array Value} {k:Nat}
theorem dk_list_miss {Q:Option Value->Shared->Prop} (hx:s.heap.get? a=some o) (hc:o.cls=.type "list") (hdat:o.data=.seq xs k) (hd:o.dict=none) (hA:A.handled=none)
  (h:∀ h' tk,(∀ b ob,s.heap.get? b=some ob->h'.get? b=some ob)->Q none { s with heap:=h',toks:=tk }) :
  wpAny (model prog w) A (getAttr? (.ref a) "keys") Q E s:=by
 obtain ⟨c,dct,dat,sl⟩:=o
 simp only at hc hdat hd
 subst hc hdat hd
 obtain ⟨hp,g,d,tk,os⟩:=s
 have hT:∀ tk',(⟨hp,g,d,tk',os⟩:Shared).TypeIs (.ref a) "list":=λ_=>⟨_,hx,rfl⟩
 have f1:=sub_AttributeError
 have f3:=F.slot_list_getattribute.lookup
 have f4:=F.slot_list_getattribute.bind (.ref a)
 have f5:=am_list_getattr_none
 unfold getAttr? getAttrBy? getAttrBy
 repeat (any_goals (first | assumption | exact hT _ | ((with_reducible show wpAny _ _ (call (Value.builtin "list.__getattribute__") _ _) _ _ _); refine call_meets F.slot_list_getattribute (hT _) am_entry_list_getattribute (F.args_list_getattribute_2 _ _) (meets_getattribute_miss_list a xs k sl "keys" _ dk_list_keys (by decide) (by size_fits)) ⟨hx,hA,λh' tk' e hx'=>?_⟩) | wp_step))
 obtain ⟨t',u',he⟩:=hx'.there
 show wpAny _ _ (getattributeRaised _ _ _ _ _ _ _) _ _ _
 unfold getattributeRaised
 repeat (any_goals (first | assumption | exact h _ _ hx'.keeps | wp_step))
end
section
variable {prog:Program} {w:World} {A:Around} {E:Value->Shared->Prop} {s:Shared}
end
section
variable {prog:Program} {w:World} {A:Around} {E:Value->Shared->Prop} {s:Shared}
end
theorem F.dk_entry_loop:entryFor table "dict.update.loop"=some Builtin.«dict.update.loop»:=entryFor_of_tree (by kernel_rfl)
theorem F.dk_plain_loop:plainId "dict.update.loop"=true:=by decide +kernel
section
variable {K:Type} [DecidableEq K]
end
end PySem
namespace L2
open PySem PySem.Spec PyProof.Rows
section
variable {prog:Program} {w:World} {A:Around} {R:Result->Shared->Prop} {K:Type} [DecidableEq K] {knd:KeyKind prog w K} {kf:Nat->K}
end
section
variable {prog:Program} {w:World} {A:Around} {E:Value->Shared->Prop} {s:Shared} {K:Type} [DecidableEq K] {knd:KeyKind prog w K} {kf:Nat->K}
end
section
variable {PK:Pk} {X:Cx} {a:Expr} {p p2 pos pos2:Pos} {i:List Sl->Tr PyData}
end
section
variable {X:Cx} {PK:Pk} {e:Expr} {es:List Expr} {i:List Sl->Tr PyData} {is:List Sl->Tr (List PyData)}
end
section
variable {prog:Program} {w:World} {A:Around} {R:Result->Shared->Prop} {K:Type} [DecidableEq K] {knd:KeyKind prog w K} {kf:Nat->K} {lo:Int}
end
section
variable {prog:Program} {w:World} {A:Around} {E:Value->Shared->Prop} {s:Shared} {K:Type} [DecidableEq K] {knd:KeyKind prog w K} {kf:Nat->K} {lo:Int}
end
section
variable {X:Cx} {tg:Expr}
end
variable {PK:Pk} {X:Cx} {is:List Sl->Tr (List PyData)} {ρ:List Sl}
section
variable {G:Hp} {ks:List (ak×V)} {kvs:List (Int×PyData)}
end
section
variable {PK:Pk} {pa:Addr} {G₀ H₀ G H:Hp} {m:Nat} {σ:St} {ρ:List Sl}
end
variable {PK:Pk} {X:Cx} {a b c e:Expr} {es:List Expr} {pos:Pos} {i j l:List Sl->Tr PyData} {is:List Sl->Tr (List PyData)} {st:Stmt} {s:List Sl->Tr Ou}
section
variable {X:Cx} {pins:List (Addr×Obj)} {σ:St} {H:Hp} {s:Shared}
end
theorem Zko (kx vx target iter:Expr) (scope:Scope) (pos:Pos) (it:Value) (D:Addr) (env:Env) :
  compTurn (.DictComp kx vx [⟨target,iter,[],0⟩] scope pos) 0 it (.ref D) env=(standAt iter.pos >>= λ_=>pyNext it >>= λr=>match r with
   | none=>pure (.done .next)
   | some v=>letOwnedTupleGo target it v >>= λ_=>assign target env v >>= λ_ =>
    (eval kx env >>= λkv=>holding [kv] (eval vx env) >>= λvv=>standAt { kx.pos with endLine:=vx.pos.endLine,endCol:=vx.pos.endCol } >>= λ_=>holding [kv,vv] (dictSet D kv vv)) >>= λ_ =>
     again (.compLoop (.DictComp kx vx [⟨target,iter,[],0⟩] scope pos) 0 it (.ref D) env)):=by rfl
theorem Zkt {prog:Program} {w:World} {A:Around} {R:Result->Shared->Prop} {s:Shared} {kx vx target iter:Expr} {scope:Scope} {pos:Pos} {it:Value} {D:Addr} {env:Env} (J:Nat->Shared->Prop)
  (step:∀ k s0,J k s0->wpAny (model prog w) A (pyNext it) (λgot s1=>match got with
   | none=>R (.ok .next) s1
   | some v=>wpAny (model prog w) A (letOwnedTupleGo target it v) (λ_ s2=>wpAny (model prog w) A (assign target env v) (λ_ s3=>wpAny (model prog w) A (eval kx env) (λkv s4 =>
     wpAny (model prog w) A (eval vx env) (λy s5=>wpAny (model prog w) A (dictSet D kv y) (λ_ s6=>∃ j,j < k/\J j s6) (λ_ _=>False) s5) (λ_ _=>False) s4) (λ_ _=>False) s3) (λ_ _=>False) s2) (λ_ _=>False) s1) (λ_ _=>False) s0)
  (k:Nat) (h:J k s):codeAny (model prog w) A (.compLoop (.DictComp kx vx [⟨target,iter,[],0⟩] scope pos) 0 it (.ref D) env) R s:=by
 refine codeAny_loop rfl J (λk0 s0 hJ=>?_) k h
 show wpAny _ _ ((compTurn (.DictComp kx vx [⟨target,iter,[],0⟩] scope pos) 0 it (.ref D) env).onRaise (λx=>do noteFrame x env; theTreesLotGoes x)) _ _ s0
 apply wpAny_noted
 rw [Zko]
 refine wpAny_bind (wpAny_standAt (wpAny_bind (wpAny_mono (step k0 s0 hJ) (λgot s1 h1=>?_) λ_ _ z=>z.elim)))
 cases got with
 | none=>exact wpAny_pure h1
 | some v =>
  refine wpAny_bind (wpAny_mono h1 (λ_ s2 h2=>?_) λ_ _ z=>z.elim)
  refine wpAny_bind (wpAny_mono h2 (λ_ s3 h3=>?_) λ_ _ z=>z.elim)
  refine wpAny_bind (wpAny_bind (wpAny_mono h3 (λkv s4 h4=>?_) λ_ _ z=>z.elim))
  refine wpAny_bind (wpAny_holding (wpAny_mono h4 (λy s5 h5=>?_) λ_ _ z=>z.elim))
  refine wpAny_bind (wpAny_standAt (wpAny_holding (wpAny_mono h5 (λ_ s6 h6=>?_) λ_ _ z=>z.elim)))
  exact wpAny_pure ⟨rfl,h6⟩
section
variable {X:Cx} {pins:List (Addr×Obj)} {σ:St} {H:Hp} {s:Shared}
theorem Zi4 (kx vx gens scope pos) (env:Env):eval (.DictComp kx vx gens scope pos) env=comprehension (.DictComp kx vx gens scope pos) scope env (firstIterPos gens pos) newDict (firstAsync gens) (firstIter gens env):=by rw [eval]
end
section
variable {X:Cx} {pins:List (Addr×Obj)} {σ:St} {H:Hp} {s:Shared}
theorem Inv.trackT {D:Addr} {ys:List (List ak×V)} {xs:List (List ak×Addr×Value)} (I:Inv X pins σ H s) (hD:H D=none) (ho:s.heap.DictOfH (tupleKind (aX X.prog X.w)) D xs) (r:KT H ys xs) (hz:ys.length<=sizeLine) (hsys:(D == sysModules)=false)
  (hL:D≠X.env.locals) (hs0:X.s₀.heap.objs.size<=D) (hc:∀ x c,X.env.cells.lookup x=some c->c≠D) (hp:∀ p∈X.pn++pins,p.1≠D):∃ o,Inv X pins σ (upd H D (.frz o (.dT ys))) s:=by
 have ne:∀ {b:Addr} {o:HO},H b=some o->b≠D:=λe=>bZ e hD
 obtain ⟨o,es,ep,h1,h2,h3,h4,_,h5⟩:=ho
 refine ⟨o,?_⟩
 refine I.step (g':=s.gens) (d':=s.drawn) (t':=s.toks) (h':=s.heap) (ch:=[D]) (λb hb=>?_) (λb o _ _ _ e _=>e) (λb o _ _ _ e _=>⟨o.slots,e⟩) (λb o hb e n=>?_) (λb o _ e=>⟨o,e⟩)
  (λb xs e=>by rw [ai (ne e)]; exact e) (λb o u e=>by rw [ai (ne e)]; exact e) (λb ps e=>⟨#[],by rw [ai (ne e),e]; simp⟩) (λm hm=>hm) (λb u e=>?_) I.bare
 ·have e:b=D:=by simpa using hb
  subst e
  exact ⟨.inr hs0,hL,hc,hp⟩
 ·have hb':b≠D:=by simpa using hb
  rw [ai hb']
  exact n
 ·by_cases hb:b=D
  ·subst hb
   rw [bf] at e
   cases e
   exact ⟨h1,hz,hsys,xs,r.keeps λc zs q=>by rw [ai (ne q)]; exact q,o,es,ep,h1,h2,h3,h4,h5⟩
  ·rw [ai hb] at e
   exact (I.hok b u e).stay (λc v _ q=>q) (λc q=>by rw [ai (ne q)]; exact q) (λc xs q=>by rw [ai (ne q)]; exact q) λc ob xs _ q _=>by rw [ai (ne q)]; exact q
end
theorem Zgv {A:Around} {P:Program} {w:World} (hu:A.units < cLine):(tupleKind (aX P w)).room A:=hu
theorem Zio {H H':Hp} {KA:Addr->Prop} {kvs:List (List ak×V)} {xs:List (List ak×Addr×Value)} (r:KT H kvs xs) (hk:∀ x∈xs,KA x.2.1) (st:∀ b zs,KA b->H b=some (.tup zs)->H' b=some (.tup zs)):KT H' kvs xs:=by
 induction r with
 | nil=>exact .nil
 | @cons p q ps qs h t ih=>exact .cons ⟨h.1,st _ _ (hk q (by simp)) h.2.1,h.2.2⟩ (ih λx hx=>hk x (List.mem_cons_of_mem _ hx))
theorem Zip {P:Program} {w:World} {H:Hp} {h:Heap} (ok:HOk P w H h) {l:List (List ak×V)} {m:List (List ak×Addr×Value)} (r:KT H l m):∀ x∈m,(tupleKind (aX P w)).is h x.1 x.2.1:=by
 induction r with
 | nil=>intro x hx; exact nomatch hx
 | @cons p q ps qs hq t ih =>
  intro x hx
  rcases List.mem_cons.mp hx with e | hx
  ·subst e
   exact ia ok (by rw [<- hq.1]; exact hq.2.1)
  ·exact ih x hx
theorem ZdM {P:Program} {w:World} {H:Hp} {h h':Heap} {D:Addr} {l:List (List ak×V)} {m:List (List ak×Addr×Value)} (ok:HOk P w H h') (r:KT H l m) (d:h.DictOfH (tupleKind (aX P w)) D m) (e:∀ o,h.get? D=some o->h'.get? D=some o):h'.DictOfH (tupleKind (aX P w)) D m:=by
 obtain ⟨o,es,ep,h1,h2,h3,h4,_,h5⟩:=d
 exact ⟨o,es,ep,e o h1,h2,h3,h4,Zip ok r,h5⟩
theorem ZaE {KA:Addr->Prop} {xs:List (List ak×Addr×Value)} {k:List ak} {c:Addr} {u:Value} (h:∀ x∈xs,KA x.2.1):∀ x∈storedH xs k c u,KA x.2.1\/x.2.1=c:=by
 intro x hx
 unfold storedH at hx
 split at hx
 ·obtain ⟨y,hy,rfl⟩:=List.mem_map.mp hx
  refine .inl ?_
  unfold putAt
  split <;> exact h y hy
 ·rcases List.mem_append.mp hx with z | z
  ·exact .inl (h x z)
  ·rw [List.mem_singleton.mp z]
   exact .inr rfl
noncomputable def iK (wi:TI) (n:Nat) (ix:List Nat) (g:Blk->TG) (tk te:Blk->TE):TE:=λσ H Q=>wi σ H λJ H1=>∀ b:Blk,∃ W:Nat->Nat->St->List (List ak×V)->(Addr->Prop)->Hp->Prop,(∃ m,W 0 m (bV n ix σ) [] (λ_=>False) H1)/\∀ i m τ ys KA H2,W i m τ ys KA H2 ->
 (J.stop i H2/\∀ p v o H',H2 p=none->v=V.ref p->H'=upd H2 p (.frz o (.dT ys))->Q v H') \/
 (J.go i H2/\ys.length < sizeLine/\∀ x H3,J.yld i H2 x H3->g b x τ H3 λτ2 H4=>tk b τ2 H4 λkv H5=>te b τ2 H5 λy H6=>∃ (z:List ak) (c:Addr) (m':Nat),kv=.ref c/\H6 c=some (.tup (z.map kV))/\(∀ b xs,KA b->H2 b=some (.tup xs)->H6 b=some (.tup xs))/\m' < m/\W (i+1) m' τ2 (bT ys z y) (λb=>KA b\/b=c) H6)
section
variable {X:Cx} {pins:List (Addr×Obj)} {σ:St} {H:Hp} {s:Shared}
theorem ZdU {kx vx target iter:Expr} {scope:Scope} {pos:Pos} {Nx ts:List Str} {ix:List Nat} {g:Blk->TG} {tk te:Blk->TE} {cl:List (Str×Addr)} {s2:Shared} {itv:Value} {R:Value->Addr->Result->Shared->Prop}
  {E:Value->Shared->Prop} {Q:VK}
  (hu:X.A.units < cLine) (hc:X.calm=true) (hg:∀ b,PG (au X (bN Nx ts ix) scope b) target (g b)) (hk:∀ b,PE (au X (bN Nx ts ix) scope b) kx (tk b)) (he:∀ b,PE (au X (bN Nx ts ix) scope b) vx (te b))
  (hNx:X.N=Nx) (ok:BlkOk Nx X.env.scope scope ix) (cl1:∀ x c,cl.lookup x=some c->X.env.cells.lookup x=some c) (cl2:∀ y∈scope.names,y.2=.free->∃ c,cl.lookup y.1=some c)
  (h2:iG X pins σ target (λJ H1=>∀ b:Blk,∃ W:Nat->Nat->St->List (List ak×V)->(Addr->Prop)->Hp->Prop,(∃ m,W 0 m (bV ts.length ix σ) [] (λ_=>False) H1)/\∀ i m τ ys KA H2,W i m τ ys KA H2 ->
   (J.stop i H2/\∀ p v o H',H2 p=none->v=V.ref p->H'=upd H2 p (.frz o (.dT ys))->Q v H') \/
   (J.go i H2/\ys.length < sizeLine/\∀ x H3,J.yld i H2 x H3->g b x τ H3 λτ2 H4=>tk b τ2 H4 λkv H5=>te b τ2 H5 λy H6=>∃ (z:List ak) (c:Addr) (m':Nat),kv=.ref c/\H6 c=some (.tup (z.map kV))/\(∀ b xs,KA b->H2 b=some (.tup xs)->H6 b=some (.tup xs))/\m' < m/\W (i+1) m' τ2 (bT ys z y) (λb=>KA b\/b=c) H6)) itv s2)
  (hR:∀ (D C:Addr) (H':Hp) (s':Shared) (v:V),Inv X pins σ H' s'->v=.ref D->Q v H'->(∃ m,s'.heap.Ns C m)->H' C=none->C≠X.env.locals->X.s₀.heap.objs.size<=C->(∀ x c,X.env.cells.lookup x=some c->c≠C)->(∀ p∈X.pn++pins,p.1≠C) ->
   R (.ref D) C (.ok .next) s') :
  wpAny (model X.prog X.w) X.A newDict (λacc s₃=>wpAny (model X.prog X.w) X.A (newFunctionEnv scope X.env.globals cl [] X.env.qual none .none (some X.env)) (λcenv s₄ =>
   codeAny (model X.prog X.w) X.A (.compStart (.DictComp kx vx [⟨target,iter,[],0⟩] scope pos) 0 itv acc { cenv with scope:=relabel scope X.env }) (R acc cenv.locals) s₄) E s₃) E s2:=by
 obtain ⟨it,fp,tn,J,H1,e,I2,T,st2,f2,q2⟩:=h2
 subst e
 refine wpAny_newObj_type (jD ?_)
 dsimp only
 generalize hG:s2.heap.push { cls:=.type "dict",dict:=none,data:=.dict #[] }=G
 have hGs:G.objs.size=s2.heap.objs.size+1:=by rw [<- hG,Heap.size_push]
 have hfs:∀ b∈fp,b < s2.heap.objs.size:=λb hb=>let ⟨o,e,_⟩:=T.obj _ _ st2 b hb; Heap.lt_size e
 have kpG:∀ b o,G.get? b=some o->(pushCells (G.push { cls:=.type "dict",data:=.dict #[] }) scope.names).get? b=some o:=λb o e=>pushCells_keeps _ _ _ _ (Heap.get?_push_of_some _ e)
 have hns3:(pushCells (G.push { cls:=.type "dict",data:=.dict #[] }) scope.names).Ns G.objs.size (λ_=>none):=(Heap.Ns.new G (.type "dict")).keeps (pushCells_keeps _ _)
 obtain ⟨sp1,sp2,sp4,sp3⟩:=lC scope.names (G.push { cls:=.type "dict",data:=.dict #[] }) cl
 rw [Heap.size_push] at sp1 sp2 sp3 sp4
 generalize hh3:pushCells (G.push { cls:=.type "dict",data:=.dict #[] }) scope.names=h3 at kpG hns3 sp1 ⊢
 have kp:∀ b o,s2.heap.get? b=some o->h3.get? b=some o:=λb o e=>kpG b o (by rw [<- hG]; exact Heap.get?_push_of_some _ e)
 have hD3:h3.get? s2.heap.objs.size=some { cls:=.type "dict",data:=.dict #[] }:=kpG _ _ (by rw [<- hG]; exact Heap.get?_push_size _ rfl)
 have hDo:h3.DictOfH (tupleKind (aX X.prog X.w)) s2.heap.objs.size []:=⟨_,#[],_,hD3,⟨rfl,rfl,by first | rfl | decide | trivial⟩,rfl,rfl,(λx hx=>nomatch (show x∈([]:List (List ak×Addr×Value)) from hx)),List.nodup_nil⟩
 have clB:∀ x c,cl.lookup x=some c->c < G.objs.size+1:=λx c e=>by
  obtain ⟨v,q⟩:=I2.cell x c (cl1 x c e)
  exact Nat.lt_succ_of_lt (Nat.lt_of_lt_of_le q.lt (by rw [hGs]; exact Nat.le_succ _))
 have csI:=sp3 clB λx y c e1 e2=>I2.ok.inj x y c (cl1 x c e1) (cl1 y c e2)
 have cs1:∀ x c,(cellsFrom (G.objs.size+1) scope.names cl).lookup x=some c->X.env.cells.lookup x=some c\/(G.objs.size < c/\h3.IsCell c none/\(x,NameKind.cell)∈scope.names):=λx c e=>by
  rcases sp1 x c e with z | ⟨z1,z2,z3⟩
  ·exact .inl (cl1 x c z)
  ·exact .inr ⟨by omega,z2,z3⟩
 have cs2:∀ y∈scope.names,(y.2=.free\/y.2=.cell)->∃ c,(cellsFrom (G.objs.size+1) scope.names cl).lookup y.1=some c:=λy hy hk=>by
  refine sp2 y.1 ?_
  rcases hk with z | z
  ·exact .inr (cl2 y hy z)
  ·exact .inl (by rw [<- z]; exact hy)
 have csA:∀ x c,(x,NameKind.cell)∈scope.names->(cellsFrom (G.objs.size+1) scope.names cl).lookup x=some c->G.objs.size<=c:=λx c e1 e2=>Nat.le_of_succ_le (sp4 x c e1 e2)
 generalize hcs:cellsFrom (G.objs.size+1) scope.names cl=cs at csI cs1 cs2 csA ⊢
 generalize hCe:G.objs.size=C at hns3 cs1 csA ⊢
 have hC:s2.heap.objs.size<=C:=by omega
 have hDC:s2.heap.objs.size≠C:=by omega
 let B:Blk:=⟨cs,C,s2,H1,fp,X.pn++pins⟩
 have I3:Inv (au X (bN Nx ts ix) scope B) [] (bV ts.length ix σ) H1 { s2 with heap:=h3 }:=lb I2 hNx ok cs1 csI cs2 csA f2 hfs hC kp hns3
 have fC:H1 s2.heap.objs.size=none:=I2.hok.fresh (Nat.le_refl _)
 have cellIn:∀ x c,cs.lookup x=some c->c≠s2.heap.objs.size:=λx c e=>by
  rcases cs1 x c e with z | ⟨z,_,_⟩
  ·obtain ⟨v,q⟩:=I2.cell x c z
   exact Nat.ne_of_lt q.lt
  ·exact Nat.ne_of_gt (Nat.lt_of_le_of_lt hC z)
 have pinIn:∀ p∈X.pn++pins,p.1 < s2.heap.objs.size:=λp hp=>Heap.lt_size (I2.pin p hp).1
 have nofrs:s2.heap.objs.size ∉ frs X.stack:=λhb=>by
  rcases List.mem_cons.mp (I2.stkSub _ hb) with z | z
  ·exact absurd I2.lt (by rw [<- z]; exact Nat.lt_irrefl _)
  ·exact I2.nofs (Nat.le_refl _) z
 -- a state with the list at its place,pinned
 have pinD:∀ {τ:St} {H':Hp} {s':Shared} {ob:Obj},Inv (au X (bN Nx ts ix) scope B) [] τ H' s'->s'.heap.get? s2.heap.objs.size=some ob->H' s2.heap.objs.size=none->(∀ v,ob.data≠.cell v)->Inv (au X (bN Nx ts ix) scope B) [(s2.heap.objs.size,ob)] τ H' s' :=
  λ{τ H' s' ob} I' ho hn hd=>I'.pins_of λp hp=>by
   have e:p=(s2.heap.objs.size,ob):=by simpa using hp
   subst e
   exact ⟨ho,hn,hDC,nofrs,hd⟩
 obtain ⟨W,⟨m0,w0⟩,turn⟩:=q2 B
 have stat:∀ {H':Hp} {ob:Obj},(∀ b∈fp,H' b=none)->∀ b∈fp,da (au X (bN Nx ts ix) scope B) [(s2.heap.objs.size,ob)] H' b:=λ{H' ob} hn b hb=>by
  refine ⟨hn b hb,Nat.ne_of_lt (Nat.lt_of_lt_of_le (hfs b hb) hC),λz=>?_,.inl hb,λx c e=>by
   rcases cs1 x c e with z | ⟨z,_,_⟩
   ·exact (f2 b hb).2.2.2.2.1 x c z
   ·exact Nat.ne_of_gt (Nat.lt_of_lt_of_le (hfs b hb) (Nat.le_trans hC (Nat.le_of_lt z))),λp hp=>?_⟩
  ·rcases List.mem_cons.mp (I2.stkSub _ z) with q | q
   ·exact (f2 b hb).2.1 q
   ·exact (f2 b hb).2.2.1 q
  ·rcases List.mem_append.mp hp with z | z
   ·exact (f2 b hb).2.2.2.2.2 p z
   ·have e:p=(s2.heap.objs.size,ob):=by simpa using z
    subst e
    exact Nat.ne_of_gt (hfs b hb)
 have loop:∀ s4:Shared,s4={ s2 with heap:=h3 } ->
   codeAny (model X.prog X.w) X.A (.compLoop (.DictComp kx vx [⟨target,iter,[],0⟩] scope pos) 0 (.ref it) (.ref s2.heap.objs.size) (compEnvC scope cs C X.env)) (R (.ref s2.heap.objs.size) C) s4:=by
  rintro s4 rfl
  refine Zkt (λk s'=>∃ i τ ys us ob KA H',Inv (au X (bN Nx ts ix) scope B) [(s2.heap.objs.size,(ob:Obj))] τ H' s'/\tn i s'.heap/\(∀ b∈fp,H' b=none)/\KT H' ys us/\(∀ x∈us,KA x.2.1)/\s'.heap.DictOfH (tupleKind (aX X.prog X.w)) s2.heap.objs.size us/\ys.length<=sizeLine/\W i k τ ys KA H') ?_ m0
   ⟨0,_,[],[],_,_,H1,pinD I3 hD3 fC (λv z=>by cases z),T.keep _ _ _ st2 λb hb o e=>kp b o e,λb hb=>(f2 b hb).1,.nil,(λx hx=>nomatch hx),hDo,Nat.zero_le _,w0⟩
  rintro k s5 ⟨i,τ,ys,us,ob,KA,H5,I5,st5,fr5,rv,hKA,hDO,hz,w5⟩
  rcases turn i k τ ys KA H5 w5 with ⟨stop,qn⟩ | ⟨go,hlt,step⟩
  ·have p5:=I5.pin (s2.heap.objs.size,ob) (List.mem_append_right _ (by simp))
   refine thn (T.done (au X (bN Nx ts ix) scope B) rfl rfl rfl hc i _ s5 τ H5 _ I5 (stat fr5) st5 stop) λgot s6 hz0=>?_
   obtain ⟨hr,I6⟩:=hz0
   subst hr
   obtain ⟨ho,hn,_,_,_⟩:=I6.pin (s2.heap.objs.size,ob) (List.mem_append_right _ (by simp))
   have hDO6:s6.heap.DictOfH (tupleKind (aX X.prog X.w)) s2.heap.objs.size us:=ZdM I6.hok rv hDO λo e=>by
    rw [p5.1] at e
    cases e
    exact ho
   have I7:Inv X pins σ H5 s6:=I2.call' (ch:=fp) (H':=H5) (by exact I6.os) I6.base I6.hok I6.bare λb hb=>⟨(f2 b hb).2.2.2.1,(f2 b hb).2.1,(f2 b hb).2.2.2.2.1,(f2 b hb).2.2.2.2.2⟩
   have hs0:X.s₀.heap.objs.size<=s2.heap.objs.size:=I2.sz
   obtain ⟨o8,I8⟩:=I7.trackT hn hDO6 rv hz (beq_eq_false_iff_ne.mpr (Nat.ne_of_gt I2.big)) (Nat.ne_of_gt I2.lt) hs0 (λx c e z=>by
    obtain ⟨v,q⟩:=I2.cell x c e
    exact absurd q.lt (by rw [z]; exact Nat.lt_irrefl _)) (λp hp=>Nat.ne_of_lt (pinIn p hp))
   obtain ⟨m6,hm6,_⟩:=I6.loc
   refine hR _ C _ s6 _ I8 rfl (qn _ _ o8 _ hn rfl rfl) ⟨m6,hm6⟩ ?_ (λz=>?_) (Nat.le_trans hs0 hC) (λx c e z=>?_) λp hp=>Nat.ne_of_lt (Nat.lt_of_lt_of_le (pinIn p hp) hC)
   ·rw [ai (Ne.symm hDC)]
    exact I6.free
   ·exact absurd (Nat.lt_of_lt_of_le I2.lt hC) (by rw [z]; exact Nat.lt_irrefl _)
   ·obtain ⟨v,q⟩:=I2.cell x c e
    exact absurd (Nat.lt_of_lt_of_le q.lt hC) (by rw [z]; exact Nat.lt_irrefl _)
  ·have p5:=I5.pin (s2.heap.objs.size,ob) (List.mem_append_right _ (by simp))
   refine thn (T.item (au X (bN Nx ts ix) scope B) rfl rfl rfl hc i _ s5 τ H5 _ I5 (stat fr5) st5 go) λgot s6 hz0=>?_
   obtain ⟨u,hr,h6⟩:=hz0
   subst hr
   refine thn h6 λ_ s7 hz0=>?_
   obtain ⟨x,H7,I7,r7,y7,st7,fr7⟩:=hz0
   have I7':=I7.pinned (stat fr7) (T.obj _ _ st7)
   refine thn (hg B _ s7 τ H7 x u _ I7' r7 (step x H7 y7)) λ_ s8 hz0=>?_
   obtain ⟨τ8,H8,I8,q8⟩:=hz0
   refine thn (hk B _ s8 τ8 H8 _ I8 q8) λkv sk hz0=>?_
   obtain ⟨vk,Hk,Ik,rk,qk⟩:=hz0
   refine thn (he B _ sk τ8 Hk _ Ik qk) λy s9 hz0=>?_
   obtain ⟨vy,H9,I9,r9,zk,c9,m',ek,ec,stay,hm',w9⟩:=hz0
   subst ek
   cases (show kv=Value.ref c9 from rk)
   have rv9:KT H9 ys us:=Zio rv hKA stay
   obtain ⟨ho,hn,_,_,_⟩:=I9.pin (s2.heap.objs.size,ob) (List.mem_append_right _ (List.mem_append_left _ (by simp)))
   have hDO9:s9.heap.DictOfH (tupleKind (aX X.prog X.w)) s2.heap.objs.size us:=ZdM I9.hok rv9 hDO λo e=>by
    rw [p5.1] at e
    cases e
    exact ho
   have lenv:ys.length=us.length:=Paired.length rv
   refine wpAny_dictSet_heap (knd:=tupleKind (aX X.prog X.w)) (k:=zk) (Zgv hu) (ia I9.hok ec) hDO9 (λh' hpl0 hsb=>?_) (by omega)
   have hpl:=hpl0
   obtain ⟨ob',es',ep',ho',hc',hd',_⟩:=hpl0
   have I9':Inv (au X (bN Nx ts ix) scope B) [] τ8 H9 s9:=I9.pins_of λp hp=>absurd hp (by simp)
   have I10:Inv (au X (bN Nx ts ix) scope B) [] τ8 H9 { s9 with heap:=h',toks:=s9.toks+(tupleKind (aX X.prog X.w)).draws zk }:=I9'.turned (it:=s2.heap.objs.size) (t':=s9.toks+(tupleKind (aX X.prog X.w)).draws zk) (λb o hb e=>(hsb.2 b hb).trans e) hn hDC (.inr (Nat.le_refl _)) cellIn (λp hp=>by
    have hp':p∈(X.pn++pins)++[]:=hp
    rw [List.append_nil] at hp'
    exact Nat.ne_of_lt (pinIn p hp'))
   refine ⟨m',hm',i+1,τ8,bT ys zk vy,storedH us zk c9 y,ob',_,H9,pinD I10 ho' hn (λv z=>by rw [hd'] at z; cases z),?_,λb hb=>?_,rv9.put zk ec r9,ZaE hKA,hpl,by have:=kU ys zk vy; omega,w9⟩
   ·refine T.keep _ _ _ st7 λb hb o e=>?_
    have q:=(I9.pin (b,o) (List.mem_append_right _ (List.mem_append_right _ (cR hb e)))).1
    exact (hsb.2 b (Nat.ne_of_lt (hfs b hb))).trans q
   ·obtain ⟨o,e,d⟩:=T.obj _ _ st7 b hb
    exact (I9.pin (b,o) (List.mem_append_right _ (List.mem_append_right _ (cR hb e)))).2.1
 exact codeAny_compStart_dict (loop _ rfl) (T.self X.A 0 _ _ _ (T.keep _ _ _ st2 λb hb o e=>kp b o e) (loop _ rfl))
theorem Zcb {kx vx target iter:Expr} {scope:Scope} {pos:Pos} {wi:TI} {g:Blk->TG} {tk te:Blk->TE} (Nx:List Str) (ts:List Str) (ix:List Nat)
  (hu:X.A.units < cLine) (hc:X.calm=true) (hi:PI X target iter wi) (hg:∀ b,PG (au X (bN Nx ts ix) scope b) target (g b)) (hk:∀ b,PE (au X (bN Nx ts ix) scope b) kx (tk b)) (he:∀ b,PE (au X (bN Nx ts ix) scope b) vx (te b))
  (hNx:X.N=Nx) (ok:BlkOk Nx X.env.scope scope ix) (hs:∀ x,foldedSetIterable iter X.env x=pure x:=by intro _; rfl) :
  PE X (.DictComp kx vx [⟨target,iter,[],0⟩] scope pos) (iK wi ts.length ix g tk te):=by
 intro pins s σ H Q I h
 obtain ⟨cl,hcl,cl1,cl2⟩:=im (scope:=scope) (env:=X.env) λy hy hf=>I.ok.has y.1 (ok.frees y hy hf)
 rw [Zi4]
 refine wpAny_comprehension_free (use:=none) rfl hs hcl ok.kind ok.locs (thn (hi pins s σ H _ I h) λv s1 h1=>thn h1 λitv s2 h2=>?_)
 refine ZdU (R:=λacc C=>compPost (model X.prog X.w) X.A X.xe none (EP X pins σ Q) acc C) hu hc hg hk he hNx ok cl1 cl2 h2 ?_
 rintro D C H' s' v I' rfl q ⟨m,hm⟩ hn hL h0 hcl' hp
 exact ⟨m,hm,λh' hsb=>⟨.ref D,H',I'.turned (it:=C) (t':=s'.toks) (λb o hb e=>(hsb.2 b hb).trans e) hn hL (.inr h0) hcl' hp,rfl,q⟩⟩
theorem ZgR {kx vx target iter:Expr} {scope:Scope} {pos pos' spos:Pos} {wi:TI} {g:Blk->TG} {tk te:Blk->TE} {i:Nat} {x:Str} (Nx:List Str) (ts:List Str) (ix:List Nat)
  (hu:X.A.units < cLine) (hc:X.calm=true) (hN:X.N.Nodup) (hix:X.N[i]?=some x) (hx:X.env.scope.names.lookup x=some .local) (hi:PI X target iter wi) (hg:∀ b,PG (au X (bN Nx ts ix) scope b) target (g b)) (hk:∀ b,PE (au X (bN Nx ts ix) scope b) kx (tk b)) (he:∀ b,PE (au X (bN Nx ts ix) scope b) vx (te b))
  (hNx:X.N=Nx) (ok:BlkOk Nx X.env.scope scope ix) (hsw:swapsWith (.DictComp kx vx [⟨target,iter,[],0⟩] scope pos) (some (.Name x pos')) spos.line X.env=pure true) (hs:∀ x,foldedSetIterable iter X.env x=pure x:=by intro _; rfl) :
  PS X (.Assign [.Name x pos'] (.DictComp kx vx [⟨target,iter,[],0⟩] scope pos) spos) (ce (iK wi ts.length ix g tk te) (cp i)):=by
 intro pins s σ H D0 I h
 obtain ⟨cl,hcl,cl1,cl2⟩:=im (scope:=scope) (env:=X.env) λy hy hf=>I.ok.has y.1 (ok.frees y hy hf)
 rw [exec_Assign_Name_used _ _ _ _ hsw]
 refine wpAny_bind (wpAny_standAt (wpAny_bind ?_))
 show wpAny _ X.A (do let _ <- comprehension (.DictComp kx vx [⟨target,iter,[],0⟩] scope pos) scope X.env _ newDict false (eval iter X.env) (some (assign (.Name x pos') X.env))) _ _ s
 refine wpAny_bind (thn (wpAny_comprehension_free (use:=some (assign (.Name x pos') X.env)) (Q:=λ_ s'=>SP X pins D0 .next s') rfl hs hcl ok.kind ok.locs (thn (hi pins s σ H _ I h) λv s1 h1=>thn h1 λitv s2 h2=>?_)) λ_ s' hq=>wpAny_pure (wpAny_pure hq))
 refine ZdU (R:=λacc C=>compPost (model X.prog X.w) X.A X.xe (some (assign (.Name x pos') X.env)) (λ_ s'=>SP X pins D0 .next s') acc C) (Q:=λx H1=>cp i x σ H1 D0.nx) hu hc hg hk he hNx ok cl1 cl2 h2 ?_
 rintro D C H' s' v I' rfl q ⟨m,hm⟩ hn hL h0 hcl' hp
 show wpAny _ X.A (assign (.Name x pos') X.env (.ref D)) _ _ _
 refine wpAny_assign_Name (jP I' hN hix (.inl hx) (show RelV (.ref D) (.ref D) from rfl) (λs'' I'' hch=>?_) (.inr hx))
 obtain ⟨a,hsb,ha⟩:=hch
 have haC:C≠a:=by
  rcases ha with z | z
  ·rw [z]; exact hL
  ·exact λe=>hcl' _ _ z e.symm
 exact ⟨m,hm.sameBut hsb haC,λh'' hs''=>⟨_,H',I''.turned (it:=C) (t':=s''.toks) (λb o hb e=>(hs''.2 b hb).trans e) hn hL (.inr h0) hcl' hp,q⟩⟩
end
section
variable {PK:Pk} {X:Cx} {e:Expr} {is:List Sl->Tr (List PyData)} {kx i:List Sl->Tr PyData}
end
noncomputable def pD (kvs:List (List Int×PyData)):PyData:=.dict (kvs.map λkv=>(.tuple (kv.1.map PyData.int),kv.2))
noncomputable def eT (kvs:List (List Int×PyData)) (k:List Int) (v:PyData):List (List Int×PyData) :=
 if (kvs.any λkv=>decide (kv.1=k))=true then kvs.map (λkv=>if kv.1=k then (kv.1,v) else kv) else kvs++[(k,v)]
theorem lc:∀ {a b:List Int},a.map (Sum.inl:Int->ak)=b.map Sum.inl->a=b
 | [],[],_=>rfl
 | [],_::_,e=>by cases e
 | _::_,[],e=>by cases e
 | x::xs,y::ys,e=>by
  rw [List.map_cons,List.map_cons] at e
  injection e with e1 e2
  rw [Sum.inl.inj e1,lc e2]
theorem ZiL (a b:List Int):decide (a.map (Sum.inl:Int->ak)=b.map Sum.inl)=decide (a=b):=by
 by_cases h:a=b
 ·rw [decide_eq_true h,decide_eq_true (by rw [h])]
 ·rw [decide_eq_false h,decide_eq_false λe=>h (lc e)]
theorem j7 (ks:List (List Int×V)) (k:List Int) (v:V):bT (ks.map bi) (k.map Sum.inl) v=(bT ks k v).map bi:=by
 have ha:((ks.map bi).any λkv=>decide (kv.1=k.map Sum.inl))=ks.any λkv=>decide (kv.1=k):=by
  induction ks with
  | nil=>rfl
  | cons p ks ih=>rw [List.map_cons,List.any_cons,List.any_cons,ih]; show (decide (p.1.map Sum.inl=k.map Sum.inl) || _)=_; rw [ZiL]
 have hm:(ks.map bi).map (λkv=>if kv.1=k.map Sum.inl then (kv.1,v) else kv)=(ks.map λkv=>if kv.1=k then (kv.1,v) else kv).map bi:=by
  clear ha
  induction ks with
  | nil=>rfl
  | cons p ks ih =>
   rw [List.map_cons,List.map_cons,List.map_cons,List.map_cons,ih]
   by_cases h:p.1=k
   ·rw [if_pos h,if_pos (show p.1.map Sum.inl=k.map Sum.inl by rw [h])]
   ·rw [if_neg h,if_neg λe=>h (lc e)]
 unfold bT
 rw [ha,hm]
 split
 ·rfl
 ·rw [List.map_append]
  rfl
section
variable {G G':Hp} {ks:List (List Int×V)} {kvs:List (List Int×PyData)}
theorem KP.any (h:KP G ks kvs) (k:List Int):(ks.any λkv=>decide (kv.1=k))=kvs.any λkv=>decide (kv.1=k):=by
 induction h with
 | nil=>rfl
 | cons _ _ ih=>rw [List.any_cons,List.any_cons,ih]
theorem KP.snoc (h:KP G ks kvs) {k:List Int} {v:V} {d:PyData} (hd:Dn G v d):KP G (ks++[(k,v)]) (kvs++[(k,d)]):=by
 induction h with
 | nil=>exact .cons hd .nil
 | cons h1 _ ih=>exact .cons h1 ih
theorem KP.map (h:KP G ks kvs) {k:List Int} {v:V} {d:PyData} (hd:Dn G v d):KP G (ks.map λkv=>if kv.1=k then (kv.1,v) else kv) (kvs.map λkv=>if kv.1=k then (kv.1,d) else kv):=by
 induction h with
 | nil=>exact .nil
 | @cons i u x ks kvs h1 _ ih =>
  rw [List.map_cons,List.map_cons]
  by_cases hk:i=k
  ·rw [if_pos hk,if_pos hk]
   exact .cons hd ih
  ·rw [if_neg hk,if_neg hk]
   exact .cons h1 ih
theorem KP.put (h:KP G ks kvs) (k:List Int) {v:V} {d:PyData} (hd:Dn G v d):KP G (bT ks k v) (eT kvs k d):=by
 unfold bT eT
 rw [h.any]
 split
 ·exact h.map hd
 ·exact h.snoc hd
theorem KP.vals (h:KP G ks kvs):DnAll G (ks.map (·.2)) (kvs.map (·.2)):=by
 induction h with
 | nil=>exact .nil
 | cons h1 _ ih=>exact .cons h1 ih
theorem KP.zip (h:KP G ks kvs):((ks.map λk=>PyData.tuple (k.1.map PyData.int)).zip (kvs.map (·.2)))=kvs.map λkv=>(.tuple (kv.1.map PyData.int),kv.2):=by
 induction h with
 | nil=>rfl
 | cons h1 _ ih=>rw [List.map_cons,List.map_cons,List.zip_cons_cons,ih,List.map_cons]
theorem KP.ne (h:KP G ks kvs) (hn:kvs≠[]):ks≠[]:=by
 cases h with
 | nil=>exact absurd rfl hn
 | cons _ _=>exact List.cons_ne_nil _ _
theorem KP.dn (h:KP G ks kvs) (hn:kvs≠[]) {a:Addr} {o:Obj} (r:G a=some (.frz o (.dT (ks.map bi)))):Dn G (.ref a) (pD kvs) :=
 Eq.mp (congrArg (λz=>Dn G (V.ref a) (PyData.dict z)) h.zip) (Dn.dcp (h.ne hn) r h.vals)
end
theorem Kn.pd {PK:Pk} {pa:Addr} {m:Nat} {G H:Hp} {ks:List (List Int×V)} {kvs:List (List Int×PyData)} {Q:VK} {p:Addr} (k:Kn PK pa m G H (pD kvs) Q) (hn:kvs≠[]) (w:Wd PK pa m G H) (d:KP G ks kvs) (hp:H p=none) (o:Obj):Q (.ref p) (upd H p (.frz o (.dT (ks.map bi)))):=by
 obtain ⟨w1,s1⟩:=w.new (o:=.frz o (.dT (ks.map bi))) hp
 exact k _ _ _ s1 w1 ((d.mono s1.gs).dn hn bf)
section
variable {PK:Pk} {X:Cx} {e:Expr} {is:List Sl->Tr (List PyData)} {kx i j:List Sl->Tr PyData}
noncomputable def cq:List (List Int×PyData)->List PyData->Option PyData
 | kvs,[]=>if kvs.isEmpty=true then none else some (pD kvs)
 | kvs,.tuple [.tuple ks,v]::ps=>(ints? ks).bind λns=>cq (eT kvs ns v) ps
 | _,_=>none
noncomputable def sK (i:List Sl->Tr PyData) (τ:List Sl):PyData->Tr PyData
 | .tuple ks=>match ints? ks with
  | some ns=>(i τ).bind λv=>.ret (.tuple [.tuple (ns.map PyData.int),v])
  | none=>.fail
 | _=>.fail
noncomputable def fc (kx i:List Sl->Tr PyData) (τ:List Sl):Tr PyData:=(kx τ).bind (sK i τ)
noncomputable def fR (is:List Sl->Tr (List PyData)) (n:Nat) (ix:List Nat) (g:PyData->List Sl->Option (List Sl)) (kx i:List Sl->Tr PyData):List Sl->Tr PyData:=λρ =>
 (is ρ).bind λxs=>if small xs.length=true then (bh (λx=>(Tr.of (g x (blk n ix ρ))).bind (fc kx i)) xs).bind λps=>Tr.of (cq [] ps) else .fail
theorem ZdL {n:Nat} {ix:List Nat} {g:PyData->List Sl->Option (List Sl)} (hn:c8 n g):∀ σ H Q,TAe PK (fR is n ix g kx i) σ H Q->iK (bX PK is) n ix (λ_=>ck PK g) (λ_=>TAe PK kx) (λ_=>TAe PK i) σ H Q:=by
 rintro σ H Q ⟨pa,G₀,H₀,m,ρ,G,R,z⟩
 refine ⟨pa,G₀,H₀,m,ρ,G,R,Tr.ok_mono (Tr.ok_bind.mp z) λm1 xs k J G1 H1 s1 w1 jo=>λB=>?_⟩
 obtain ⟨hs,k⟩:=dC k
 have hs:xs.length<=sizeLine:=of_decide_eq_true hs
 let el:PyData->Tr PyData:=λx=>(Tr.of (g x (blk n ix ρ))).bind (fc kx i)
 let W:Nat->Nat->St->List (List ak×V)->(Addr->Prop)->Hp->Prop:=λk mm τ ys KA H2=>mm=xs.length - k/\k<=xs.length/\ys.length<=k/\∃ m G2 ks kvs,ys=ks.map bi/\Sub G1 G2/\Stp pa G H G2 H2/\Rl PK pa G₀ H₀ m τ (blk n ix ρ) G2 H2 /\
  KP G2 ks kvs/\(∀ c,KA c->∃ o,G2 c=some o)/\((bh el (xs.drop k)).bind λzs=>Tr.of (cq kvs zs)).ok m λm' d=>Kn PK pa m' G H d Q
 refine ⟨W,⟨xs.length,rfl,Nat.zero_le _,Nat.le_refl _,m1,G1,[],[],rfl,.refl,s1,(R.step s1 w1).blk n ix,.nil,(λ_ h=>h.elim),k⟩,?_⟩
 rintro k mm τ ys KA H2 ⟨rfl,hk,hy,m2,G2,ks,kvs,rfl,sb,st2,R2,dn,hKA,k2⟩
 obtain ⟨j1,j2⟩:=jo m2 G2 H2 sb R2.wd
 by_cases hlt:k < xs.length
 ·have hx:xs[k]?=some xs[k]:=by simp [hlt]
  obtain ⟨jg,jy⟩:=j1 k _ hx
  refine .inr ⟨jg,by omega,λx H3 y=>?_⟩
  obtain ⟨G3,s3,w3,d3⟩:=jy x H3 y
  rw [List.drop_eq_getElem_cons hlt] at k2
  unfold bh at k2
  rw [Tr.ok_bind,Tr.ok_bind,Tr.ok_bind] at k2
  obtain ⟨ρ3,hg3,k3⟩:=Tr.ok_of k2
  refine ⟨pa,G₀,H₀,m2,_,G3,_,ρ3,R2.step s3 w3,d3,hg3,λτ4 R4=>?_⟩
  unfold fc at k3
  refine ⟨pa,G₀,H₀,m2,ρ3,G3,R4,Tr.ok_mono (Tr.ok_bind.mp k3) λm5 kd k5=>?_⟩
  intro v G5 H5 s5 w5 d5
  have s35:=s3.trans s5 w3.some
  obtain ⟨pl,pk⟩:=hn _ _ _ hg3
  obtain ⟨ns,rfl,k7⟩:∃ ns:List Int,kd=.tuple (ns.map PyData.int)/\((i ρ3).bind λv=>Tr.ret (PyData.tuple [.tuple (ns.map PyData.int),v])).ok m5 λm' y=>((bh el (xs.drop (k+1))).bind λzs=>Tr.ret (y::zs)).ok m' λm' zs=>(Tr.of (cq kvs zs)).ok m' λm'' d=>Kn PK pa m'' G H d Q:=by
   cases kd with
   | tuple kk =>
    unfold sK at k5
    dsimp only at k5
    cases hi:ints? kk with
    | none=>rw [hi] at k5; exact k5.elim
    | some ns =>
     rw [hi] at k5
     have hkk:kk=ns.map PyData.int:=by
      cases d5 with
      | tup h1 h2=>exact (h2.ints_inv hi).2
     subst hkk
     exact ⟨ns,rfl,k5⟩
   | _=>exact k5.elim
  obtain ⟨c,rfl,hc⟩:∃ c,v=.ref c/\G5 c=some (.tup (ns.map V.int)):=by
   cases d5 with
   | tup h1 h2 =>
    obtain ⟨e1,_⟩:=h2.ints_inv (ints?_map ns)
    exact ⟨_,rfl,by rw [<- e1]; exact h1⟩
  refine ⟨pa,G₀,H₀,m5,ρ3,G5,R4.step s5 w5,Tr.ok_mono (Tr.ok_bind.mp k7) λm6 yd k6=>?_⟩
  intro u G6 H6 s6 w6 d6
  have s56:=s35.trans s6 w5.some
  have k8:((bh el (xs.drop (k+1))).bind λzs=>Tr.of (cq (eT kvs ns yd) zs)).ok m6 λm' d=>Kn PK pa m' G H d Q:=by
   have k6':((bh el (xs.drop (k+1))).bind λzs=>Tr.ret (PyData.tuple [.tuple (ns.map PyData.int),yd]::zs)).ok m6 λm' zs=>(Tr.of (cq kvs zs)).ok m' λm'' d=>Kn PK pa m'' G H d Q:=k6
   rw [Tr.ok_bind] at k6' ⊢
   refine Tr.ok_mono k6' λm' zs q=>?_
   have q':(Tr.of (cq kvs (PyData.tuple [.tuple (ns.map PyData.int),yd]::zs))).ok m' λm'' d=>Kn PK pa m'' G H d Q:=q
   unfold cq at q'
   rw [ints?_map] at q'
   exact q'
  have hmap:(ns.map (Sum.inl:Int->ak)).map kV=ns.map V.int:=by rw [List.map_map]; rfl
  refine ⟨ns.map Sum.inl,c,xs.length - (k+1),rfl,?_,λb zs hb hz=>?_,by omega,rfl,hlt,?_,m6,G6,bT ks ns u,eT kvs ns yd,j7 _ _ _,sb.trans s56.gs,st2.trans s56 R2.wd.some,?_,(KP.mono s56.gs dn).put ns d6,λb hb=>?_,k8⟩
  ·rw [hmap]
   exact w6.sub _ _ (s6.gs _ _ hc)
  ·obtain ⟨o,ho⟩:=hKA b hb
   refine s56.hk b _ hz λz=>?_
   rw [z,R2.wd.gpa] at ho
   cases ho
  ·rw [j7,List.length_map]
   rw [List.length_map] at hy
   have:=kU ks ns u
   omega
  ·refine ((R4.step s5 w5).step s6 w6).weak pl λq sl hq=>?_
   by_cases hqn:q < n
   ·left
    unfold blk at hq
    rw [List.getElem?_append_left (by simpa using hqn),List.getElem?_replicate,if_pos hqn] at hq
    cases hq
    rfl
   ·right
    rw [pk q (Nat.le_of_not_lt hqn)]
    exact hq
  ·rcases hb with hb | rfl
   ·obtain ⟨o,ho⟩:=hKA b hb
    exact ⟨o,s56.gs _ _ ho⟩
   ·exact ⟨_,s6.gs _ _ hc⟩
 ·have e:k=xs.length:=by omega
  subst e
  refine .inl ⟨j2,λp v o H' hp ev eH=>?_⟩
  subst ev eH
  rw [List.drop_length] at k2
  have k2':(Tr.of (cq kvs [])).ok m2 λm' d=>Kn PK pa m' G H d Q:=k2
  unfold cq at k2'
  have hne:kvs≠[]:=by
   intro e
   rw [e] at k2'
   exact k2'.elim
  have hne':kvs.isEmpty=false:=by cases kvs with | nil=>exact absurd rfl hne | cons _ _=>rfl
  rw [hne'] at k2'
  have k3:Kn PK pa m2 G H (pD kvs) Q:=k2'
  exact (Kn.later k3 st2 R2.wd.some).pd hne R2.wd dn hp o
theorem ZeF {n:Nat} {ix:List Nat} {g:PyData->List Sl->Option (List Sl)} (h:PE X e (iK (bX PK is) n ix (λ_=>ck PK g) (λ_=>TAe PK kx) (λ_=>TAe PK i))) (hn:c8 n g):PE X e (TAe PK (fR is n ix g kx i)):=h.imp (ZdL hn)
theorem Zlj {st:Stmt} {n k:Nat} {ix:List Nat} {g:PyData->List Sl->Option (List Sl)} (h:PS X st (ce (iK (bX PK is) n ix (λ_=>ck PK g) (λ_=>TAe PK kx) (λ_=>TAe PK i)) (cp k))) (hn:c8 n g):PS X st (aV PK (aW k (fR is n ix g kx i))) :=
 ba (h.imp (jN (ZdL hn)))
noncomputable def dg (kvs:List (PyData×PyData)) (ns:List Int):Option PyData:=(kvs.find? λkv=>match kv.1 with | .tuple xs=>decide (ints? xs=some ns) | _=>false).map (·.2)
noncomputable def fe:PyData->PyData->Option PyData
 | .dict kvs,.tuple ks=>(ints? ks).bind (dg kvs)
 | _,_=>none
theorem ZdT {G:Hp} {ns:List Int} {d:PyData}:∀ {ks:List (List Int×V)} {ds:List PyData},DnAll G (ks.map (·.2)) ds->dg ((ks.map λk=>PyData.tuple (k.1.map PyData.int)).zip ds) ns=some d->∃ v,dN (ks.map bi) (ns.map Sum.inl)=some v/\Dn G v d
 | [],_,h,e=>by cases h; cases e
 | kv::ks,_,h,e=>by
  rw [List.map_cons] at h
  cases h with
  | @cons _ _ x ds h1 h2 =>
   rw [List.map_cons,List.zip_cons_cons] at e
   unfold dg at e
   rw [List.find?_cons] at e
   dsimp only at e
   rw [ints?_map] at e
   by_cases hk:kv.1=ns
   ·rw [decide_eq_true (by rw [hk])] at e
    have e':some x=some d:=e
    cases e'
    exact ⟨kv.2,jH (by show kv.1.map Sum.inl=_; rw [hk]),h1⟩
   ·rw [decide_eq_false λz=>hk (Option.some.inj z)] at e
    obtain ⟨v,hv,dn⟩:=ZdT h2 (show dg _ ns=some d from e)
    exact ⟨v,by rw [List.map_cons,jI λz=>hk (lc z)]; exact hv,dn⟩
theorem ZdS {ns:List Int}:∀ {ks:List (ak×V)} {ds:List PyData},dg ((ks.map λk=>match k.1 with | .inl i=>PyData.int i | .inr x=>PyData.str x).zip ds) ns=none
 | [],_=>rfl
 | _::_,[]=>rfl
 | k::ks,d::ds=>by
  rw [List.map_cons,List.zip_cons_cons]
  unfold dg
  rw [List.find?_cons]
  obtain ⟨k,v⟩:=k
  cases k <;> exact ZdS
theorem lS (h:PE X e (Zay (TAe PK i) (TAe PK j))):PE X e (TAe PK (ae fe i j)):=h.imp λσ H Q hz0=>by
 obtain ⟨pa,G₀,H₀,m,ρ,G,R,q⟩:=hz0
 refine TAe.then R q λm1 x v G1 H1 s1 w1 R1 d1 q1=>?_
 refine TAe.then R1 q1 λm2 y u G2 H2 s2 w2 R2 d2 q2=>?_
 obtain ⟨z,hz,k⟩:=Tr.ok_of q2
 cases d2 with
 | @tup b vs es h1 h2 =>
  cases d1 with
  | @dcp a o ks ds r0 r1 r2 =>
   have hz':((ints? es).bind (dg _))=some z:=hz
   cases hi:ints? es with
   | none=>rw [hi] at hz'; cases hz'
   | some ns =>
    rw [hi] at hz'
    obtain ⟨v',hv,dn⟩:=ZdT r2 hz'
    obtain ⟨e1,_⟩:=h2.ints_inv hi
    refine ⟨_,v',rfl,.inr ⟨_,ns.map Sum.inl,b,(Or.inr ⟨o,w2.sub _ _ (s2.gs _ _ r1)⟩),rfl,?_,hv.symm⟩,(Kn.later k (s1.trans s2 w1.some) w2.some).here w2 (dn.mono s2.gs)⟩
    rw [List.map_map]
    have:=w2.sub _ _ h1
    rw [e1] at this
    exact this
  | @dct _ ks ds r1 r2 =>
   have hz':((ints? es).bind (dg _))=some z:=hz
   cases hi:ints? es with
   | none=>rw [hi] at hz'; cases hz'
   | some ns =>
    rw [hi] at hz'
    have hz'':dg _ ns=some z:=hz'
    exact nomatch (Eq.trans (Eq.symm (ZdS (ks:=ks) (ds:=ds) (ns:=ns))) hz'')
  | _=>cases hz
 | _=>cases d1 <;> cases hz
end
noncomputable abbrev Pr:=Int×List Int
noncomputable def dJ:List Pr->Pr
 | []=>(0,[])
 | x::r=>r.foldl (λb y=>if HT.cB y b=true then y else b) x
theorem Zej:∀ (nss:List Pr) (k:Nat),k < nss.length->nss[argBest (λi j=>HT.cB (nss[i]?.getD (0,[])) (nss[j]?.getD (0,[]))) k]?=some (dJ (nss.take (k+1)))
 | [],k,h=>by cases h
 | x::r,0,h=>by simp [argBest,dJ]
 | x::r,k+1,h=>by
  have ih:=Zej (x::r) k (by omega)
  have hk:k < r.length:=by simpa using h
  have et:(x::r).take (k+1+1)=(x::r).take (k+1)++[r[k]]:=by
   rw [List.take_succ_cons,List.take_succ_cons,List.take_add_one,List.getElem?_eq_getElem hk]
   rfl
  have eb:dJ ((x::r).take (k+1+1))=if HT.cB r[k] (dJ ((x::r).take (k+1)))=true then r[k] else dJ ((x::r).take (k+1)):=by
   rw [et,List.take_succ_cons]
   show (r.take k++[r[k]]).foldl (λb y=>if HT.cB y b=true then y else b) x=_
   rw [List.foldl_append]
   rfl
  have ex:(x::r)[k+1]?=some r[k]:=by rw [List.getElem?_cons_succ,List.getElem?_eq_getElem hk]
  rw [eb]
  unfold argBest
  have e1:((x::r)[k+1]?).getD (0,[])=r[k]:=by rw [ex]; rfl
  have e2:((x::r)[argBest (λi j=>HT.cB ((x::r)[i]?.getD (0,[])) ((x::r)[j]?.getD (0,[]))) k]?).getD (0,[])=dJ ((x::r).take (k+1)):=by rw [ih]; rfl
  rw [e1,e2]
  split
  ·exact ex
  ·exact ih
section
variable {X:Cx}
noncomputable def ZbH:List V->Hp->VK->Prop:=λxs H Q=>∃ (l:Addr) (vs:List V) (nss:List Pr),xs=[.ref l]/\H l=some (.lst vs)/\nss≠[]/\vs.length=nss.length /\
 (∀ i:Nat,∀ p:Pr,nss[i]?=some p->∃ a c:Addr,vs[i]?=some (.ref a)/\H a=some (.tup [.int p.1,.ref c])/\H c=some (.tup (p.2.map V.int))) /\
 ∀ (i:Nat) (a:Addr),vs[i]?=some (.ref a)->nss[i]?=some (dJ nss)->Q (.ref a) H
theorem Zd4 {k:Nat} (hr:Room k X.A) (hc:X.calm=true):cH X (.builtin "min") ZbH:=by
 intro pins s σ H xs us Q I r h
 obtain ⟨l,vs,nss,rfl,hl,hne,hlen,hat,q⟩:=h
 obtain ⟨u,rfl,ru⟩:=cJ r
 cases ru
 obtain ⟨us,r1,p1⟩:=cA (b:=true) I.hok hl
 have hul:=r1.length
 have p1':s.heap.IsList l us.toArray:=p1
 have hpos:0 < nss.length:=List.length_pos_iff.mpr hne
 have look:∀ (i:Nat) (v:Value),us.toArray[i]?=some v->∃ (a c:Addr) (p:Pr),v=.ref a/\nss[i]?=some p/\vs[i]?=some (.ref a)/\H a=some (.tup [.int p.1,.ref c])/\H c=some (.tup (p.2.map V.int)):=λi v hv=>by
  have hv':us[i]?=some v:=by simpa using hv
  have hi:i < us.length:=(List.getElem?_eq_some_iff.mp hv').1
  have hi2:i < nss.length:=by omega
  obtain ⟨a,c,ha,hH,hC⟩:=hat i nss[i] (List.getElem?_eq_getElem hi2)
  obtain ⟨u',hu',ru'⟩:=r1.get ha
  rw [hv'] at hu'
  cases hu'
  cases ru'
  exact ⟨a,c,nss[i],rfl,List.getElem?_eq_getElem hi2,ha,hH,hC⟩
 have pair:∀ {a c:Addr} {p:Pr},H a=some (.tup [.int p.1,.ref c])->∃ t,IsTup s.heap a #[.int p.1 t,.ref c]:=λ{a c p} h=>by
  obtain ⟨u1,w1,t1⟩:=cA (b:=false) I.hok h
  cases w1 with
  | cons r1 w1 =>
   cases w1 with
   | cons r2 w1 =>
    cases w1
    obtain ⟨t,rfl⟩:=r1
    cases r2
    exact ⟨t,t1⟩
 refine ZhU (bt:=λi j=>HT.cB (nss[i]?.getD (0,[])) (nss[j]?.getD (0,[]))) (I.ok.hd hc) p1' (by rw [List.size_toArray]; omega) (λi j vi vj s' Q' E' _ kp hi hj hq=>?_) λh' tk v kp hv=>?_
 ·obtain ⟨a,ca,p,rfl,e1,_,hHa,hCa⟩:=look i vi hi
  obtain ⟨b,cb,p',rfl,e2,_,hHb,hCb⟩:=look j vj hj
  obtain ⟨ta,t1⟩:=pair hHa
  obtain ⟨tb,t2⟩:=pair hHb
  obtain ⟨u3,w3,t3⟩:=cA (b:=false) I.hok hCa
  obtain ⟨u4,w4,t4⟩:=cA (b:=false) I.hok hCb
  have i1:IntsAre u3.toArray.toList p.2:=oI w3
  have i2:IntsAre u4.toArray.toList p'.2:=oI w4
  have q1:IsTup s'.heap a #[.int p.1 ta,.ref ca]:=SqAt.at (b:=false) t1 λo e=>kp a o e
  have q2:IsTup s'.heap b #[.int p'.1 tb,.ref cb]:=SqAt.at (b:=false) t2 λo e=>kp b o e
  have q3:IsTup s'.heap ca u3.toArray:=SqAt.at (b:=false) t3 λo e=>kp ca o e
  have q4:IsTup s'.heap cb u4.toArray:=SqAt.at (b:=false) t4 λo e=>kp cb o e
  have hq':Q' (.bool (HT.cB (p.1,p.2) (p'.1,p'.2))) s':=by
   have:HT.cB (nss[i]?.getD (0,[])) (nss[j]?.getD (0,[]))=HT.cB p p':=by rw [e1,e2]; rfl
   have hq2:Q' (.bool (HT.cB (nss[i]?.getD (0,[])) (nss[j]?.getD (0,[])))) s':=hq
   rw [this] at hq2
   exact hq2
  exact HT.Zh3 q1 q2 q3 q4 i1 i2 (show X.A.units+1+1 < cLine from by have:=hr.units; omega) hq'
 ·obtain ⟨a,ca,p,rfl,e1,e2,hHa,hCa⟩:=look _ v hv
  have hsz:us.toArray.size - 1=nss.length - 1:=by rw [List.size_toArray]; omega
  rw [hsz] at e1 e2
  have hb:=Zej nss (nss.length - 1) (by omega)
  have et:nss.take (nss.length - 1+1)=nss:=List.take_of_length_le (by omega)
  rw [et] at hb
  exact ⟨.ref a,H,I.kept kp,rfl,q _ a e2 hb⟩
noncomputable def bg (p:Pr):PyData:=.tuple [.int p.1,.tuple (p.2.map PyData.int)]
noncomputable def prs?:List PyData->Option (List Pr)
 | []=>some []
 | .tuple [.int a,.tuple ks]::xs=>(ints? ks).bind λns=>(prs? xs).bind λr=>some ((a,ns)::r)
 | _=>none
theorem prs?_map:∀ ps:List Pr,prs? (ps.map bg)=some ps
 | []=>rfl
 | p::r=>by
  rw [List.map_cons]
  show (ints? (p.2.map PyData.int)).bind _=_
  rw [ints?_map]
  show (prs? (r.map bg)).bind _=_
  rw [prs?_map r]
  rfl
theorem Zb2 {H:Hp}:∀ {vs:List V} {ds:List PyData} {ps:List Pr},DnAll H vs ds->prs? ds=some ps->vs.length=ps.length/\ds=ps.map bg/\∀ i:Nat,∀ p:Pr,ps[i]?=some p->∃ a c:Addr,vs[i]?=some (.ref a)/\H a=some (.tup [.int p.1,.ref c])/\H c=some (.tup (p.2.map V.int))
 | [],_,ps,.nil,h=>by cases h; exact ⟨rfl,rfl,λi p h=>by cases h⟩
 | v::vs,_,ps,.cons (d:=d) (ds:=ds) hd ht,h=>by
  unfold prs? at h
  split at h
  ·rename_i e; cases e
  ·rename_i a ks xs e
   injection e with e1 e2
   subst e1 e2
   cases hi:ints? ks with
   | none=>rw [hi] at h; cases h
   | some ns =>
    cases e2:prs? ds with
    | none=>rw [hi,e2] at h; cases h
    | some r =>
     rw [hi,e2] at h
     have h':(a,ns)::r=ps:=Option.some.inj h
     subst h'
     obtain ⟨k1,k2,k3⟩:=Zb2 ht e2
     cases hd with
     | @tup b us _ a1 a2 =>
      cases a2 with
      | cons b1 b2 =>
       cases b2 with
       | cons b2 b3 =>
        cases b3
        cases b1
        cases b2 with
        | @tup c ws _ c1 c2 =>
         obtain ⟨rfl,rfl⟩:=c2.ints_inv hi
         refine ⟨by simp [k1],by rw [List.map_cons,<- k2]; rfl,λi p hp=>?_⟩
         cases i with
         | zero=>cases hp; exact ⟨b,c,rfl,a1,c1⟩
         | succ i=>exact k3 i p hp
  ·cases h
noncomputable def gh:List PyData->Option PyData
 | [.list xs]=>(prs? xs).bind λps=>if ps.isEmpty=true then none else some (bg (dJ ps))
 | _=>none
theorem Zaj:eB ZbH gh:=λPK pa m G H vs ds d Q w hv hd k=>by
 unfold gh at hd
 split at hd
 ·rename_i xs
  cases e1:prs? xs with
  | none=>rw [e1] at hd; cases hd
  | some ps =>
   rw [e1] at hd
   have hd':(if ps.isEmpty=true then none else some (bg (dJ ps)))=some d:=hd
   cases hv with
   | cons h1 h2 =>
    cases h2
    cases h1 with
    | @lst l us _ a1 a2 =>
     obtain ⟨k1,k2,k3⟩:=Zb2 a2 e1
     split at hd'
     ·cases hd'
     ·rename_i hne
      cases hd'
      refine ⟨l,us,ps,rfl,w.sub _ _ a1,λz=>hne (by rw [z]; rfl),k1,λi p hi=>?_,λi a ham hHa=>?_⟩
      ·obtain ⟨a,c,e1,e2,e3⟩:=k3 i p hi
       exact ⟨a,c,e1,w.sub _ _ e2,w.sub _ _ e3⟩
      ·obtain ⟨a',c,e1,e2,e3⟩:=k3 i _ hHa
       rw [ham] at e1
       cases e1
       exact k.here w (.tup e2 (.cons (.int _) (.cons (.tup e3 (DnAll.ints _)) .nil)))
 ·cases hd
end
theorem Zkn (elt t0 i0 t1 i1:Expr) (scope:Scope) (pos:Pos) (it acc:Value) (env:Env) :
  compTurn (.ListComp elt [⟨t0,i0,[],0⟩,⟨t1,i1,[],0⟩] scope pos) 0 it acc env=(standAt i0.pos >>= λ_=>pyNext it >>= λr=>match r with
   | none=>pure (.done .next)
   | some v=>letOwnedTupleGo t0 it v >>= λ_=>assign t0 env v >>= λ_ =>
    (eval i1 env >>= λx=>standAt i1.pos >>= λ_=>foldedSetIterable i1 env x >>= λx=>holding [x] (pyIter x) >>= λj =>
     runOwn (.compStart (.ListComp elt [⟨t0,i0,[],0⟩,⟨t1,i1,[],0⟩] scope pos) 1 j acc env) env >>= λ_ =>
     again (.compLoop (.ListComp elt [⟨t0,i0,[],0⟩,⟨t1,i1,[],0⟩] scope pos) 0 it acc env))):=by rfl
theorem Zkm (elt t0 i0 t1 i1:Expr) (scope:Scope) (pos:Pos) (it acc:Value) (env:Env) :
  compTurn (.ListComp elt [⟨t0,i0,[],0⟩,⟨t1,i1,[],0⟩] scope pos) 1 it acc env=(standAt i1.pos >>= λ_=>pyNext it >>= λr=>match r with
   | none=>pure (.done .next)
   | some v=>letOwnedTupleGo t1 it v >>= λ_=>assign t1 env v >>= λ_ =>
    (eval elt env >>= λx=>call (.builtin "list.append") [acc,x] >>= λ_=>pure ()) >>= λ_ =>
     again (.compLoop (.ListComp elt [⟨t0,i0,[],0⟩,⟨t1,i1,[],0⟩] scope pos) 1 it acc env)):=by rfl
section
variable {prog:Program} {w:World} {A:Around} {R:Result->Shared->Prop} {s:Shared} {elt t0 i0 t1 i1:Expr} {scope:Scope} {pos:Pos} {it acc:Value} {env:Env}
noncomputable def ZaF (elt t0 i0 t1 i1:Expr) (scope:Scope) (pos:Pos) (it acc:Value) (env:Env) (plain:Bool):Sem Fin :=
 let loop:Value->Sem Fin:=λj=>again (.compLoop (.ListComp elt [⟨t0,i0,[],0⟩,⟨t1,i1,[],0⟩] scope pos) 1 j acc env)
 if plain=true then loop it >>= λf=>pure f
 else rule "comprehension.iter-twice" >>= λ_=>standAt i1.pos >>= λ_=>pyIter it >>= loop
theorem ZfR (elt t0 i0 t1 i1:Expr) (scope:Scope) (pos:Pos) (it acc:Value) (env:Env) :
  compStart (.ListComp elt [⟨t0,i0,[],0⟩,⟨t1,i1,[],0⟩] scope pos) 1 it acc env=ask >>= λz=>ZaF elt t0 i0 t1 i1 scope pos it acc env (z.params.followText "comprehension-iter-twice"):=by rfl
theorem Zkp (h0:codeAny (model prog w) A (.compLoop (.ListComp elt [⟨t0,i0,[],0⟩,⟨t1,i1,[],0⟩] scope pos) 1 it acc env) R s)
  (h:wpAny (model prog w) A (pyIter it) (λj s1=>codeAny (model prog w) A (.compLoop (.ListComp elt [⟨t0,i0,[],0⟩,⟨t1,i1,[],0⟩] scope pos) 1 j acc env) R s1)
   (notedBy (model prog w) A env λx s1=>R (.error x) s1) s) :
  codeAny (model prog w) A (.compStart (.ListComp elt [⟨t0,i0,[],0⟩,⟨t1,i1,[],0⟩] scope pos) 1 it acc env) R s:=by
 have tree:∀ E,(∀ x s1,notedBy (model prog w) A env (λx s1=>R (.error x) s1) x s1->E x s1)->wpAny (model prog w) A (compStart (.ListComp elt [⟨t0,i0,[],0⟩,⟨t1,i1,[],0⟩] scope pos) 1 it acc env)
   (λfin s1=>match fin with | .done f=>R (.ok f) s1 | .again c=>c.quiet=true/\codeAny (model prog w) A c R s1) E s:=λE hE=>by
  rw [ZfR]
  apply wpAny_bind; apply wpAny_askSetting
  unfold ZaF
  cases Params.followText _ _ with
  | true=>exact wpAny_bind (wpAny_pure (wpAny_pure ⟨rfl,h0⟩))
  | false =>
   apply wpAny_bind; apply wpAny_rule
   apply wpAny_bind; apply wpAny_standAt
   apply wpAny_bind
   exact wpAny_mono h (λj s1 hj=>wpAny_pure ⟨rfl,hj⟩) hE
 exact codeAny_of_tree (wpAny_notedAt (tree _ λ_ _ z=>z))
theorem Zkq (J:Nat->Shared->Prop)
  (step:∀ k s0,J k s0->wpAny (model prog w) A (pyNext it) (λgot s1=>match got with
   | none=>R (.ok .next) s1
   | some v=>wpAny (model prog w) A (letOwnedTupleGo t1 it v) (λ_ s2=>wpAny (model prog w) A (assign t1 env v) (λ_ s3=>wpAny (model prog w) A (eval elt env) (λy s4 =>
     wpAny (model prog w) A (call (.builtin "list.append") [acc,y]) (λ_ s5=>∃ j,j < k/\J j s5) (λ_ _=>False) s4) (λ_ _=>False) s3) (λ_ _=>False) s2) (λ_ _=>False) s1) (λ_ _=>False) s0)
  (k:Nat) (h:J k s):codeAny (model prog w) A (.compLoop (.ListComp elt [⟨t0,i0,[],0⟩,⟨t1,i1,[],0⟩] scope pos) 1 it acc env) R s:=by
 refine codeAny_loop rfl J (λk0 s0 hJ=>?_) k h
 show wpAny _ _ ((compTurn (.ListComp elt [⟨t0,i0,[],0⟩,⟨t1,i1,[],0⟩] scope pos) 1 it acc env).onRaise (λx=>do noteFrame x env; theTreesLotGoes x)) _ _ s0
 apply wpAny_noted
 rw [Zkm]
 refine wpAny_bind (wpAny_standAt (wpAny_bind (wpAny_mono (step k0 s0 hJ) (λgot s1 h1=>?_) λ_ _ z=>z.elim)))
 cases got with
 | none=>exact wpAny_pure h1
 | some v =>
  refine wpAny_bind (wpAny_mono h1 (λ_ s2 h2=>?_) λ_ _ z=>z.elim)
  refine wpAny_bind (wpAny_mono h2 (λ_ s3 h3=>?_) λ_ _ z=>z.elim)
  refine wpAny_bind (wpAny_bind (wpAny_mono h3 (λy s4 h4=>?_) λ_ _ z=>z.elim))
  exact wpAny_bind (wpAny_mono h4 (λ_ s5 h5=>wpAny_pure (wpAny_pure ⟨rfl,h5⟩)) λ_ _ z=>z.elim)
theorem Zkr (J:Nat->Shared->Prop) (hs:∀ x,foldedSetIterable i1 env x=pure x)
  (step:∀ k s0,J k s0->wpAny (model prog w) A (pyNext it) (λgot s1=>match got with
   | none=>R (.ok .next) s1
   | some v=>wpAny (model prog w) A (letOwnedTupleGo t0 it v) (λ_ s2=>wpAny (model prog w) A (assign t0 env v) (λ_ s3=>wpAny (model prog w) A (eval i1 env) (λx s4 =>
     wpAny (model prog w) A (pyIter x) (λj s5=>codeAny (model prog w) A (.compStart (.ListComp elt [⟨t0,i0,[],0⟩,⟨t1,i1,[],0⟩] scope pos) 1 j acc env) (λr s6=>(∃ f,r=.ok f)/\∃ j,j < k/\J j s6) s5)
      (λ_ _=>False) s4) (λ_ _=>False) s3) (λ_ _=>False) s2) (λ_ _=>False) s1) (λ_ _=>False) s0)
  (k:Nat) (h:J k s):codeAny (model prog w) A (.compLoop (.ListComp elt [⟨t0,i0,[],0⟩,⟨t1,i1,[],0⟩] scope pos) 0 it acc env) R s:=by
 refine codeAny_loop rfl J (λk0 s0 hJ=>?_) k h
 show wpAny _ _ ((compTurn (.ListComp elt [⟨t0,i0,[],0⟩,⟨t1,i1,[],0⟩] scope pos) 0 it acc env).onRaise (λx=>do noteFrame x env; theTreesLotGoes x)) _ _ s0
 apply wpAny_noted
 rw [Zkn]
 refine wpAny_bind (wpAny_standAt (wpAny_bind (wpAny_mono (step k0 s0 hJ) (λgot s1 h1=>?_) λ_ _ z=>z.elim)))
 cases got with
 | none=>exact wpAny_pure h1
 | some v =>
  refine wpAny_bind (wpAny_mono h1 (λ_ s2 h2=>?_) λ_ _ z=>z.elim)
  refine wpAny_bind (wpAny_mono h2 (λ_ s3 h3=>?_) λ_ _ z=>z.elim)
  refine wpAny_bind (wpAny_mono h3 (λx s4 h4=>?_) λ_ _ z=>z.elim)
  refine wpAny_bind (wpAny_standAt (wpAny_bind (wpAny_of_eq (hs x) ?_)))
  refine wpAny_bind (wpAny_holding (wpAny_mono h4 (λj s5 h5=>?_) λ_ _ z=>z.elim))
  refine wpAny_bind (wpAny_runOwn ?_)
  refine codeAny_mono h5 λr s6 h6=>?_
  obtain ⟨⟨f,rfl⟩,h6⟩:=h6
  exact wpAny_pure ⟨rfl,h6⟩
end
theorem Zg0 {fp:List Addr} {h:Heap} {p:Addr×Obj} (hp:p∈dc fp h):p.1∈fp:=by
 obtain ⟨b,hb,e⟩:=List.mem_filterMap.mp hp
 cases z:h.get? b with
 | none=>rw [z] at e; cases e
 | some o=>rw [z] at e; cases e; exact hb
noncomputable def mB (wi:TI) (n:Nat) (ix:List Nat) (g:Blk->TG) (wi1:Blk->TI) (g1:Blk->TG) (te:Blk->TE):TE:=λσ H Q=>wi σ H λJ H1=>∀ b:Blk,∃ W:Nat->Nat->St->List V->Hp->Prop,(∃ m,W 0 m (bV n ix σ) [] H1)/\∀ i m τ ys H2,W i m τ ys H2 ->
   (J.stop i H2/\∀ p v H',H2 p=none->v=V.ref p->H'=upd H2 p (.lst ys)->Q v H') \/
   (J.go i H2/\∀ x H3,J.yld i H2 x H3->g b x τ H3 λτ2 H4=>wi1 b τ2 H4 λJ1 H5=>∃ W1:Nat->Nat->St->List V->Hp->Prop,(∃ m1,W1 0 m1 τ2 ys H5)/\∀ k1 m1 τ3 zs H6,W1 k1 m1 τ3 zs H6 ->
    (J1.stop k1 H6/\∃ m',m' < m/\W (i+1) m' τ3 zs H6) \/
    (J1.go k1 H6/\zs.length < sizeLine/\∀ x1 H7,J1.yld k1 H6 x1 H7->g1 b x1 τ3 H7 λτ4 H8=>te b τ4 H8 λy H9=>∃ m1',m1' < m1/\W1 (k1+1) m1' τ4 (zs++[y]) H9))
section
variable {X:Cx} {pins:List (Addr×Obj)} {σ:St} {H:Hp} {s:Shared}
theorem Zii {elt target iter t1 i1:Expr} {scope:Scope} {pos:Pos} {Nx ts:List Str} {ix:List Nat} {g g1:Blk->TG} {wi1:Blk->TI} {te:Blk->TE} {cl:List (Str×Addr)} {s2:Shared} {itv:Value} {R:Value->Addr->Result->Shared->Prop}
  {E:Value->Shared->Prop} {Q:VK}
  (hc:X.calm=true) (hg:∀ b,PG (au X (bN Nx ts ix) scope b) target (g b)) (hi1:∀ b,PI (au X (bN Nx ts ix) scope b) t1 i1 (wi1 b)) (hg1:∀ b,PG (au X (bN Nx ts ix) scope b) t1 (g1 b)) (he:∀ b,PE (au X (bN Nx ts ix) scope b) elt (te b)) (hs1:∀ b x,foldedSetIterable i1 (au X (bN Nx ts ix) scope b).env x=pure x)
  (hNx:X.N=Nx) (ok:BlkOk Nx X.env.scope scope ix) (cl1:∀ x c,cl.lookup x=some c->X.env.cells.lookup x=some c) (cl2:∀ y∈scope.names,y.2=.free->∃ c,cl.lookup y.1=some c)
  (h2:iG X pins σ target (λJ H1=>∀ b:Blk,∃ W:Nat->Nat->St->List V->Hp->Prop,(∃ m,W 0 m (bV ts.length ix σ) [] H1)/\∀ i m τ ys H2,W i m τ ys H2 ->
   (J.stop i H2/\∀ p v H',H2 p=none->v=V.ref p->H'=upd H2 p (.lst ys)->Q v H') \/
   (J.go i H2/\∀ x H3,J.yld i H2 x H3->g b x τ H3 λτ2 H4=>wi1 b τ2 H4 λJ1 H5=>∃ W1:Nat->Nat->St->List V->Hp->Prop,(∃ m1,W1 0 m1 τ2 ys H5)/\∀ k1 m1 τ3 zs H6,W1 k1 m1 τ3 zs H6 ->
    (J1.stop k1 H6/\∃ m',m' < m/\W (i+1) m' τ3 zs H6) \/
    (J1.go k1 H6/\zs.length < sizeLine/\∀ x1 H7,J1.yld k1 H6 x1 H7->g1 b x1 τ3 H7 λτ4 H8=>te b τ4 H8 λy H9=>∃ m1',m1' < m1/\W1 (k1+1) m1' τ4 (zs++[y]) H9))) itv s2)
  (hR:∀ (D C:Addr) (H':Hp) (s':Shared) (v:V),Inv X pins σ H' s'->v=.ref D->Q v H'->(∃ m,s'.heap.Ns C m)->H' C=none->C≠X.env.locals->X.s₀.heap.objs.size<=C->(∀ x c,X.env.cells.lookup x=some c->c≠C)->(∀ p∈X.pn++pins,p.1≠C) ->
   R (.ref D) C (.ok .next) s') :
  wpAny (model X.prog X.w) X.A (newList []) (λacc s₃=>wpAny (model X.prog X.w) X.A (newFunctionEnv scope X.env.globals cl [] X.env.qual none .none (some X.env)) (λcenv s₄ =>
   codeAny (model X.prog X.w) X.A (.compStart (.ListComp elt [⟨target,iter,[],0⟩,⟨t1,i1,[],0⟩] scope pos) 0 itv acc { cenv with scope:=relabel scope X.env }) (R acc cenv.locals) s₄) E s₃) E s2:=by
 obtain ⟨it,fp,tn,J,H1,e,I2,T,st2,f2,q2⟩:=h2
 subst e
 refine wpAny_newObj_type (jD ?_)
 dsimp only
 generalize hG:s2.heap.push { cls:=.type "list",dict:=none,data:=.seq ([]:List Value).toArray }=G
 have hGs:G.objs.size=s2.heap.objs.size+1:=by rw [<- hG,Heap.size_push]
 have hfs:∀ b∈fp,b < s2.heap.objs.size:=λb hb=>let ⟨o,e,_⟩:=T.obj _ _ st2 b hb; Heap.lt_size e
 have kpG:∀ b o,G.get? b=some o->(pushCells (G.push { cls:=.type "dict",data:=.dict #[] }) scope.names).get? b=some o:=λb o e=>pushCells_keeps _ _ _ _ (Heap.get?_push_of_some _ e)
 have hns3:(pushCells (G.push { cls:=.type "dict",data:=.dict #[] }) scope.names).Ns G.objs.size (λ_=>none):=(Heap.Ns.new G (.type "dict")).keeps (pushCells_keeps _ _)
 obtain ⟨sp1,sp2,sp4,sp3⟩:=lC scope.names (G.push { cls:=.type "dict",data:=.dict #[] }) cl
 rw [Heap.size_push] at sp1 sp2 sp3 sp4
 generalize hh3:pushCells (G.push { cls:=.type "dict",data:=.dict #[] }) scope.names=h3 at kpG hns3 sp1 ⊢
 have kp:∀ b o,s2.heap.get? b=some o->h3.get? b=some o:=λb o e=>kpG b o (by rw [<- hG]; exact Heap.get?_push_of_some _ e)
 have hD3:h3.get? s2.heap.objs.size=some { cls:=.type "list",data:=.seq ([]:List Value).toArray }:=kpG _ _ (by rw [<- hG]; exact Heap.get?_push_size _ rfl)
 have clB:∀ x c,cl.lookup x=some c->c < G.objs.size+1:=λx c e=>by
  obtain ⟨v,q⟩:=I2.cell x c (cl1 x c e)
  exact Nat.lt_succ_of_lt (Nat.lt_of_lt_of_le q.lt (by rw [hGs]; exact Nat.le_succ _))
 have csI:=sp3 clB λx y c e1 e2=>I2.ok.inj x y c (cl1 x c e1) (cl1 y c e2)
 have cs1:∀ x c,(cellsFrom (G.objs.size+1) scope.names cl).lookup x=some c->X.env.cells.lookup x=some c\/(G.objs.size < c/\h3.IsCell c none/\(x,NameKind.cell)∈scope.names):=λx c e=>by
  rcases sp1 x c e with z | ⟨z1,z2,z3⟩
  ·exact .inl (cl1 x c z)
  ·exact .inr ⟨by omega,z2,z3⟩
 have cs2:∀ y∈scope.names,(y.2=.free\/y.2=.cell)->∃ c,(cellsFrom (G.objs.size+1) scope.names cl).lookup y.1=some c:=λy hy hk=>by
  refine sp2 y.1 ?_
  rcases hk with z | z
  ·exact .inr (cl2 y hy z)
  ·exact .inl (by rw [<- z]; exact hy)
 have csA:∀ x c,(x,NameKind.cell)∈scope.names->(cellsFrom (G.objs.size+1) scope.names cl).lookup x=some c->G.objs.size<=c:=λx c e1 e2=>Nat.le_of_succ_le (sp4 x c e1 e2)
 generalize hcs:cellsFrom (G.objs.size+1) scope.names cl=cs at csI cs1 cs2 csA ⊢
 generalize hCe:G.objs.size=C at hns3 cs1 csA ⊢
 have hC:s2.heap.objs.size<=C:=by omega
 have hDC:s2.heap.objs.size≠C:=by omega
 let B:Blk:=⟨cs,C,s2,H1,fp,X.pn++pins⟩
 have I3:Inv (au X (bN Nx ts ix) scope B) [] (bV ts.length ix σ) H1 { s2 with heap:=h3 }:=lb I2 hNx ok cs1 csI cs2 csA f2 hfs hC kp hns3
 have fC:H1 s2.heap.objs.size=none:=I2.hok.fresh (Nat.le_refl _)
 have cellIn:∀ x c,cs.lookup x=some c->c≠s2.heap.objs.size:=λx c e=>by
  rcases cs1 x c e with z | ⟨z,_,_⟩
  ·obtain ⟨v,q⟩:=I2.cell x c z
   exact Nat.ne_of_lt q.lt
  ·exact Nat.ne_of_gt (Nat.lt_of_le_of_lt hC z)
 have pinIn:∀ p∈X.pn++pins,p.1 < s2.heap.objs.size:=λp hp=>Heap.lt_size (I2.pin p hp).1
 have nofrs:s2.heap.objs.size ∉ frs X.stack:=λhb=>by
  rcases List.mem_cons.mp (I2.stkSub _ hb) with z | z
  ·exact absurd I2.lt (by rw [<- z]; exact Nat.lt_irrefl _)
  ·exact I2.nofs (Nat.le_refl _) z
 -- a state with the list at its place,pinned
 have pinD:∀ {τ:St} {H':Hp} {s':Shared} {ob:Obj},Inv (au X (bN Nx ts ix) scope B) [] τ H' s'->s'.heap.get? s2.heap.objs.size=some ob->H' s2.heap.objs.size=none->(∀ v,ob.data≠.cell v)->Inv (au X (bN Nx ts ix) scope B) [(s2.heap.objs.size,ob)] τ H' s' :=
  λ{τ H' s' ob} I' ho hn hd=>I'.pins_of λp hp=>by
   have e:p=(s2.heap.objs.size,ob):=by simpa using hp
   subst e
   exact ⟨ho,hn,hDC,nofrs,hd⟩
 obtain ⟨W,⟨m0,w0⟩,turn⟩:=q2 B
 have stat:∀ {H':Hp} {ob:Obj},(∀ b∈fp,H' b=none)->∀ b∈fp,da (au X (bN Nx ts ix) scope B) [(s2.heap.objs.size,ob)] H' b:=λ{H' ob} hn b hb=>by
  refine ⟨hn b hb,Nat.ne_of_lt (Nat.lt_of_lt_of_le (hfs b hb) hC),λz=>?_,.inl hb,λx c e=>by
   rcases cs1 x c e with z | ⟨z,_,_⟩
   ·exact (f2 b hb).2.2.2.2.1 x c z
   ·exact Nat.ne_of_gt (Nat.lt_of_lt_of_le (hfs b hb) (Nat.le_trans hC (Nat.le_of_lt z))),λp hp=>?_⟩
  ·rcases List.mem_cons.mp (I2.stkSub _ z) with q | q
   ·exact (f2 b hb).2.1 q
   ·exact (f2 b hb).2.2.1 q
  ·rcases List.mem_append.mp hp with z | z
   ·exact (f2 b hb).2.2.2.2.2 p z
   ·have e:p=(s2.heap.objs.size,ob):=by simpa using z
    subst e
    exact Nat.ne_of_gt (hfs b hb)
 have loop:∀ s4:Shared,s4={ s2 with heap:=h3 } ->
   codeAny (model X.prog X.w) X.A (.compLoop (.ListComp elt [⟨target,iter,[],0⟩,⟨t1,i1,[],0⟩] scope pos) 0 (.ref it) (.ref s2.heap.objs.size) (compEnvC scope cs C X.env)) (R (.ref s2.heap.objs.size) C) s4:=by
  rintro s4 rfl
  refine Zkr (λk s'=>∃ i τ ys its n H',Inv (au X (bN Nx ts ix) scope B) [(s2.heap.objs.size,({ cls:=.type "list",data:=.seq (List.toArray its) n }:Obj))] τ H' s'/\tn i s'.heap/\(∀ b∈fp,H' b=none)/\Vals ys its/\ys.length<=sizeLine/\W i k τ ys H') (hs1 B) ?_ m0
   ⟨0,_,[],[],_,H1,pinD I3 hD3 fC (λv z=>by cases z),T.keep _ _ _ st2 λb hb o e=>kp b o e,λb hb=>(f2 b hb).1,.nil,Nat.zero_le _,w0⟩
  rintro k s5 ⟨i,τ,ys,its,n,H5,I5,st5,fr5,rv,hz,w5⟩
  rcases turn i k τ ys H5 w5 with ⟨stop,qn⟩ | ⟨go,step⟩
  ·refine thn (T.done (au X (bN Nx ts ix) scope B) rfl rfl rfl hc i _ s5 τ H5 _ I5 (stat fr5) st5 stop) λgot s6 hz0=>?_
   obtain ⟨hr,I6⟩:=hz0
   subst hr
   obtain ⟨ho,hn,_,_,_⟩:=I6.pin (s2.heap.objs.size,({ cls:=.type "list",data:=.seq (List.toArray its) n }:Obj)) (List.mem_append_right _ (by simp))
   have I7:Inv X pins σ H5 s6:=I2.call' (ch:=fp) (H':=H5) (by exact I6.os) I6.base I6.hok I6.bare λb hb=>⟨(f2 b hb).2.2.2.1,(f2 b hb).2.1,(f2 b hb).2.2.2.2.1,(f2 b hb).2.2.2.2.2⟩
   have hs0:X.s₀.heap.objs.size<=s2.heap.objs.size:=I2.sz
   have I8:=I7.track hn ho rv hz (Nat.ne_of_gt I2.lt) hs0 (λx c e z=>by
    obtain ⟨v,q⟩:=I2.cell x c e
    exact absurd q.lt (by rw [z]; exact Nat.lt_irrefl _)) (λp hp=>Nat.ne_of_lt (pinIn p hp))
   obtain ⟨m6,hm6,_⟩:=I6.loc
   refine hR _ C _ s6 _ I8 rfl (qn _ _ _ hn rfl rfl) ⟨m6,hm6⟩ ?_ (λz=>?_) (Nat.le_trans hs0 hC) (λx c e z=>?_) λp hp=>Nat.ne_of_lt (Nat.lt_of_lt_of_le (pinIn p hp) hC)
   ·rw [ai (Ne.symm hDC)]
    exact I6.free
   ·exact absurd (Nat.lt_of_lt_of_le I2.lt hC) (by rw [z]; exact Nat.lt_irrefl _)
   ·obtain ⟨v,q⟩:=I2.cell x c e
    exact absurd (Nat.lt_of_lt_of_le q.lt hC) (by rw [z]; exact Nat.lt_irrefl _)
  ·refine thn (T.item (au X (bN Nx ts ix) scope B) rfl rfl rfl hc i _ s5 τ H5 _ I5 (stat fr5) st5 go) λgot s6 hz0=>?_
   obtain ⟨u,hr,h6⟩:=hz0
   subst hr
   refine thn h6 λ_ s7 hz0=>?_
   obtain ⟨x,H7,I7,r7,y7,st7,fr7⟩:=hz0
   have I7':=I7.pinned (stat fr7) (T.obj _ _ st7)
   refine thn (hg B _ s7 τ H7 x u _ I7' r7 (step x H7 y7)) λ_ s8 hz0=>?_
   obtain ⟨τ8,H8,I8,q8⟩:=hz0
   refine thn (hi1 B _ s8 τ8 H8 _ I8 q8) λv9 s9 h9=>thn h9 λitv1 s10 h10=>?_
   obtain ⟨cm,fp1,tn1,J1,H10,e1,I10,T1,st10,f10,W1,⟨m1,w10⟩,turn1⟩:=h10
   subst e1
   have hP0:∀ p∈dc fp s7.heap,p.1∈fp:=λp hp=>Zg0 hp
   have notD:∀ p∈dc fp s7.heap,p.1≠s2.heap.objs.size:=λp hp=>Nat.ne_of_lt (hfs _ (hP0 p hp))
   have stat1:∀ {H':Hp} {its':List Value} {n':Nat},(∀ b∈fp1,H' b=none)->∀ b∈fp1,da (au X (bN Nx ts ix) scope B) ([(s2.heap.objs.size,({ cls:=.type "list",data:=.seq (List.toArray its') n' }:Obj))]++dc fp s7.heap) H' b:=λ{H' its' n'} hn b hb=>by
    refine ⟨hn b hb,(f10 b hb).2.1,(f10 b hb).2.2.1,(f10 b hb).2.2.2.1,(f10 b hb).2.2.2.2.1,λp hp=>?_⟩
    rcases List.mem_append.mp hp with z | z
    ·exact (f10 b hb).2.2.2.2.2 p (List.mem_append_left _ z)
    ·rcases List.mem_append.mp z with z | z
     ·have e:p=(s2.heap.objs.size,({ cls:=.type "list",data:=.seq (List.toArray its') n' }:Obj)):=by simpa using z
      subst e
      exact (f10 b hb).2.2.2.2.2 (s2.heap.objs.size,({ cls:=.type "list",data:=.seq (List.toArray its) n }:Obj)) (List.mem_append_right _ (List.mem_append_left _ (by simp)))
     ·exact (f10 b hb).2.2.2.2.2 p (List.mem_append_right _ (List.mem_append_right _ z))
   have loop1:codeAny (model X.prog X.w) X.A (.compLoop (.ListComp elt [⟨target,iter,[],0⟩,⟨t1,i1,[],0⟩] scope pos) 1 (.ref cm) (.ref s2.heap.objs.size) (compEnvC scope cs C X.env)) (λr s6=>(∃ f,r=.ok f)/\∃ j,j < k/\∃ i τ ys its n H',Inv (au X (bN Nx ts ix) scope B) [(s2.heap.objs.size,({ cls:=.type "list",data:=.seq (List.toArray its) n }:Obj))] τ H' s6/\tn i s6.heap/\(∀ b∈fp,H' b=none)/\Vals ys its/\ys.length<=sizeLine/\W i j τ ys H') s10:=by
    refine Zkq (λk1 s'=>∃ i1 τ ys its n H',Inv (au X (bN Nx ts ix) scope B) ([(s2.heap.objs.size,({ cls:=.type "list",data:=.seq (List.toArray its) n }:Obj))]++dc fp s7.heap) τ H' s'/\tn1 i1 s'.heap/\(∀ b∈fp1,H' b=none)/\Vals ys its/\ys.length<=sizeLine/\W1 i1 k1 τ ys H') ?_ m1
     ⟨0,_,ys,its,n,H10,I10,st10,λb hb=>(f10 b hb).1,rv,hz,w10⟩
    rintro k1 s11 ⟨j1,τ11,zs,jts,n11,H11,I11,st11,fr11,rv11,hz11,w11⟩
    rcases turn1 j1 k1 τ11 zs H11 w11 with ⟨stop1,m',hm',wn⟩ | ⟨go1,hlt1,step1⟩
    ·refine thn (T1.done (au X (bN Nx ts ix) scope B) rfl rfl rfl hc j1 _ s11 τ11 H11 _ I11 (stat1 fr11) st11 stop1) λgot s12 hz0=>?_
     obtain ⟨hr,I12⟩:=hz0
     subst hr
     refine ⟨⟨_,rfl⟩,m',hm',i+1,τ11,zs,jts,n11,H11,I12.unpinned,?_,λb hb=>?_,rv11,hz11,wn⟩
     ·exact T.keep _ _ _ st7 λb hb o e=>(I12.pin (b,o) (List.mem_append_right _ (List.mem_append_right _ (cR hb e)))).1
     ·obtain ⟨o,e,d⟩:=T.obj _ _ st7 b hb
      exact (I12.pin (b,o) (List.mem_append_right _ (List.mem_append_right _ (cR hb e)))).2.1
    ·refine thn (T1.item (au X (bN Nx ts ix) scope B) rfl rfl rfl hc j1 _ s11 τ11 H11 _ I11 (stat1 fr11) st11 go1) λgot s12 hz0=>?_
     obtain ⟨u1,hr,h12⟩:=hz0
     subst hr
     refine thn h12 λ_ s13 hz0=>?_
     obtain ⟨x13,H13,I13,r13,y13,st13,fr13⟩:=hz0
     have I13':=I13.pinned (stat1 fr13) (T1.obj _ _ st13)
     refine thn (hg1 B _ s13 τ11 H13 x13 u1 _ I13' r13 (step1 x13 H13 y13)) λ_ s14 hz0=>?_
     obtain ⟨τ14,H14,I14,q14⟩:=hz0
     refine thn (he B _ s14 τ14 H14 _ I14 q14) λy s15 hz0=>?_
     obtain ⟨vy,H15,I15,r15,m15,hm15,w15⟩:=hz0
     have pD:(s2.heap.objs.size,({ cls:=.type "list",data:=.seq (List.toArray jts) n11 }:Obj))∈[(s2.heap.objs.size,({ cls:=.type "list",data:=.seq (List.toArray jts) n11 }:Obj))]++dc fp s7.heap:=List.mem_append_left _ (by simp)
     obtain ⟨ho,hn,_,_,_⟩:=I15.pin _ (List.mem_append_right _ (List.mem_append_left _ pD))
     have lenv:=rv11.length
     refine wpAny_list_append_plain (l:=s2.heap.objs.size) ⟨n11,ho⟩ (λh' hpl hsb=>?_) (by rw [List.size_toArray]; omega)
     obtain ⟨n',ho'⟩:=hpl
     have eobj:(jts.toArray.push y)=List.toArray (jts++[y]):=by simp
     rw [eobj] at ho'
     have I15':Inv (au X (bN Nx ts ix) scope B) (dc fp s7.heap) τ14 H15 s15:=I15.pins_of λp hp=>I15.pin p (List.mem_append_right _ (List.mem_append_left _ (List.mem_append_right _ hp)))
     have I16:Inv (au X (bN Nx ts ix) scope B) (dc fp s7.heap) τ14 H15 { s15 with heap:=h' }:=I15'.turned (it:=s2.heap.objs.size) (t':=s15.toks) (λb o hb e=>(hsb.2 b hb).trans e) hn hDC (.inr (Nat.le_refl _)) cellIn (λp hp=>by
      rcases List.mem_append.mp hp with z | z
      ·exact Nat.ne_of_lt (pinIn p z)
      ·exact notD p z)
     have I17:Inv (au X (bN Nx ts ix) scope B) ([(s2.heap.objs.size,({ cls:=.type "list",data:=.seq (List.toArray (jts++[y])) n' }:Obj))]++dc fp s7.heap) τ14 H15 { s15 with heap:=h' }:=I16.pins_of λp hp=>by
      rcases List.mem_append.mp hp with z | z
      ·have e:p=(s2.heap.objs.size,({ cls:=.type "list",data:=.seq (List.toArray (jts++[y])) n' }:Obj)):=by simpa using z
       subst e
       exact ⟨ho',hn,hDC,nofrs,λv z=>by cases z⟩
      ·exact I16.pin p (List.mem_append_right _ z)
     refine ⟨m15,hm15,j1+1,τ14,zs++[vy],jts++[y],n',H15,I17,?_,λb hb=>?_,rv11.append (.cons r15 .nil),by rw [List.length_append]; show zs.length+1<=_; omega,w15⟩
     ·refine T1.keep _ _ _ st13 λb hb o e=>?_
      have q:=(I15.pin (b,o) (List.mem_append_right _ (List.mem_append_right _ (cR hb e)))).1
      refine (hsb.2 b ?_).trans q
      exact λz=>(f10 b hb).2.2.2.2.2 (s2.heap.objs.size,({ cls:=.type "list",data:=.seq (List.toArray its) n }:Obj)) (List.mem_append_right _ (List.mem_append_left _ (by simp))) z.symm
     ·obtain ⟨o,e,d⟩:=T1.obj _ _ st13 b hb
      exact (I15.pin (b,o) (List.mem_append_right _ (List.mem_append_right _ (cR hb e)))).2.1
   exact Zkp loop1 (T1.self X.A 0 _ _ _ st10 loop1)
 exact codeAny_compStart_list (loop _ rfl) (T.self X.A 0 _ _ _ (T.keep _ _ _ st2 λb hb o e=>kp b o e) (loop _ rfl))
theorem Zb9 {elt target iter t1 i1:Expr} {scope:Scope} {pos:Pos} {wi:TI} {g g1:Blk->TG} {wi1:Blk->TI} {te:Blk->TE} (Nx:List Str) (ts:List Str) (ix:List Nat)
  (hc:X.calm=true) (hi:PI X target iter wi) (hg:∀ b,PG (au X (bN Nx ts ix) scope b) target (g b)) (hi1:∀ b,PI (au X (bN Nx ts ix) scope b) t1 i1 (wi1 b)) (hg1:∀ b,PG (au X (bN Nx ts ix) scope b) t1 (g1 b)) (he:∀ b,PE (au X (bN Nx ts ix) scope b) elt (te b))
  (hNx:X.N=Nx) (ok:BlkOk Nx X.env.scope scope ix) (hs1:∀ b x,foldedSetIterable i1 (au X (bN Nx ts ix) scope b).env x=pure x:=by intro _ _; rfl) (hs:∀ x,foldedSetIterable iter X.env x=pure x:=by intro _; rfl) :
  PE X (.ListComp elt [⟨target,iter,[],0⟩,⟨t1,i1,[],0⟩] scope pos) (mB wi ts.length ix g wi1 g1 te):=by
 intro pins s σ H Q I h
 obtain ⟨cl,hcl,cl1,cl2⟩:=im (scope:=scope) (env:=X.env) λy hy hf=>I.ok.has y.1 (ok.frees y hy hf)
 rw [eval_ListComp]
 refine wpAny_comprehension_free (use:=none) rfl hs hcl ok.kind ok.locs (thn (hi pins s σ H _ I h) λv s1 h1=>thn h1 λitv s2 h2=>?_)
 refine Zii (R:=λacc C=>compPost (model X.prog X.w) X.A X.xe none (EP X pins σ Q) acc C) hc hg hi1 hg1 he hs1 hNx ok cl1 cl2 h2 ?_
 rintro D C H' s' v I' rfl q ⟨m,hm⟩ hn hL h0 hcl' hp
 exact ⟨m,hm,λh' hsb=>⟨.ref D,H',I'.turned (it:=C) (t':=s'.toks) (λb o hb e=>(hsb.2 b hb).trans e) hn hL (.inr h0) hcl' hp,rfl,q⟩⟩
end
noncomputable def fB (h:PyData->Tr (List PyData)):List PyData->Tr (List PyData)
 | []=>.ret []
 | x::xs=>(h x).bind λys=>(fB h xs).bind λzs=>.ret (ys++zs)
noncomputable def fG (a:Nat) (is1:List Sl->Tr (List PyData)) (b:Nat) (el:List Sl->Tr PyData) (ρ:List Sl) (x:PyData):Tr (List PyData) :=
 (is1 (ρ.set a (.d x))).bind λys=>if decide (ys.length<=100)=true then bh (λy=>el ((ρ.set a (.d x)).set b (.d y))) ys else .fail
noncomputable def iD (is:List Sl->Tr (List PyData)) (n:Nat) (ix:List Nat) (a:Nat) (is1:List Sl->Tr (List PyData)) (b:Nat) (el:List Sl->Tr PyData):List Sl->Tr (List PyData):=λρ =>
 (is ρ).bind λxs=>if decide (xs.length<=100)=true then fB (fG a is1 b el (blk n ix ρ)) xs else .fail
section
variable {PK:Pk} {X:Cx} {e:Expr} {is is1:List Sl->Tr (List PyData)} {i:List Sl->Tr PyData}
theorem Zec {n:Nat} {ix:List Nat} {ρ:List Sl} {k:Nat} (h:k < n) {s:Sl} (e:(blk n ix ρ)[k]?=some s):s=.un:=by
 unfold blk at e
 rw [List.getElem?_append_left (by simpa using h),List.getElem?_replicate,if_pos h] at e
 cases e
 rfl
theorem Zih {n a b:Nat} {ix:List Nat} (ha:a < n) (hb:b < n) (hab:a≠b):∀ σ H Q,c7 PK (iD is n ix a is1 b i) σ H Q->mB (bX PK is) n ix (λ_=>ck PK (am a)) (λ_=>bX PK is1) (λ_=>ck PK (am b)) (λ_=>TAe PK i) σ H Q:=by
 rintro σ H Q ⟨pa,G₀,H₀,m,ρ,G,R,z⟩
 refine ⟨pa,G₀,H₀,m,ρ,G,R,Tr.ok_mono (Tr.ok_bind.mp z) λm1 xs k J G1 H1 s1 w1 jo=>λB=>?_⟩
 obtain ⟨hs,k⟩:=dC k
 have hs:xs.length<=100:=of_decide_eq_true hs
 let W:Nat->Nat->St->List V->Hp->Prop:=λk mm τ ys H2=>mm=xs.length - k/\k<=xs.length/\ys.length<=100 * k/\∃ m G2 ds,Sub G1 G2/\Stp pa G H G2 H2/\Rl PK pa G₀ H₀ m τ (blk n ix ρ) G2 H2 /\
  DnAll G2 ys ds/\(fB (fG a is1 b i (blk n ix ρ)) (xs.drop k)).ok m λm' zs=>Ko1 PK pa m' G H (ds++zs) Q
 refine ⟨W,⟨xs.length,rfl,Nat.zero_le _,Nat.zero_le _,m1,G1,[],.refl,s1,(R.step s1 w1).blk n ix,.nil,k⟩,?_⟩
 rintro k mm τ ys H2 ⟨rfl,hk,hy,m2,G2,ds,sb,st2,R2,dn,k2⟩
 obtain ⟨j1,j2⟩:=jo m2 G2 H2 sb R2.wd
 by_cases hlt:k < xs.length
 ·have hx:xs[k]?=some xs[k]:=by simp [hlt]
  obtain ⟨jg,jy⟩:=j1 k _ hx
  refine .inr ⟨jg,λx H3 y=>?_⟩
  obtain ⟨G3,s3,w3,d3⟩:=jy x H3 y
  rw [List.drop_eq_getElem_cons hlt] at k2
  unfold fB at k2
  rw [Tr.ok_bind] at k2
  unfold fG at k2
  rw [Tr.ok_bind] at k2
  refine ⟨pa,G₀,H₀,m2,_,G3,_,_,R2.step s3 w3,d3,rfl,λτ4 R4=>?_⟩
  refine ⟨pa,G₀,H₀,m2,_,G3,R4,Tr.ok_mono k2 λm5 ys5 k5 J1 G5 H5 s5 w5 jo1=>?_⟩
  obtain ⟨hs5,k5⟩:=dC k5
  have hs5:ys5.length<=100:=of_decide_eq_true hs5
  have s35:=s3.trans s5 w3.some
  generalize hρ:(blk n ix ρ).set a (.d xs[k])=ρ1 at *
  have hbl:∀ s,ρ1[b]?=some s->s=.un:=λs hq=>by
   rw [<- hρ,List.getElem?_set_ne hab] at hq
   exact Zec hb hq
  let W1:Nat->Nat->St->List V->Hp->Prop:=λk1 mm τ zs H6=>mm=ys5.length - k1/\k1<=ys5.length/\zs.length=ys.length+k1/\∃ m G6 es,Sub G5 G6/\Stp pa G H G6 H6/\Rl PK pa G₀ H₀ m τ ρ1 G6 H6 /\
   DnAll G6 zs (ds++es)/\(bh (λy=>i (ρ1.set b (.d y))) (ys5.drop k1)).ok m λm' us=>((fB (fG a is1 b i (blk n ix ρ)) (xs.drop (k+1))).bind λzs=>.ret ((es++us)++zs)).ok m' λm'' ws=>Ko1 PK pa m'' G H (ds++ws) Q
  refine ⟨W1,⟨ys5.length,rfl,Nat.zero_le _,rfl,m5,G5,[],.refl,st2.trans s35 R2.wd.some,R4.step s5 w5,by rw [List.append_nil]; exact DnAll.mono s35.gs dn,k5⟩,?_⟩
  rintro k1 mm1 τ6 zs H6 ⟨rfl,hk1,hz,m6,G6,es,sb6,st6,R6,dn6,k6⟩
  obtain ⟨i1,i2⟩:=jo1 m6 G6 H6 sb6 R6.wd
  by_cases hlt1:k1 < ys5.length
  ·have hx1:ys5[k1]?=some ys5[k1]:=by simp [hlt1]
   obtain ⟨ig,iy⟩:=i1 k1 _ hx1
   refine .inr ⟨ig,?_,λx1 H7 y1=>?_⟩
   ·rw [hz]
    have h1:ys.length<=10000:=Nat.le_trans hy (Nat.mul_le_mul_left 100 (Nat.le_trans hk hs))
    have h2:20000 < sizeLine:=by decide
    omega
   obtain ⟨G7,s7,w7,d7⟩:=iy x1 H7 y1
   rw [List.drop_eq_getElem_cons hlt1] at k6
   unfold bh at k6
   rw [Tr.ok_bind] at k6
   refine ⟨pa,G₀,H₀,m6,_,G7,_,_,R6.step s7 w7,d7,rfl,λτ8 R8=>?_⟩
   refine ⟨pa,G₀,H₀,m6,_,G7,R8,Tr.ok_mono k6 λm9 yd k9=>?_⟩
   intro v G9 H9 s9 w9 d9
   have s79:=s7.trans s9 w7.some
   refine ⟨ys5.length - (k1+1),by omega,rfl,hlt1,by rw [List.length_append,hz]; rfl,m9,G9,es++[yd],sb6.trans s79.gs,st6.trans s79 R6.wd.some,?_,?_,?_⟩
   ·refine (R8.step s9 w9).weak List.length_set λq sl hq=>?_
    by_cases hqb:q=b
    ·subst hqb
     exact .inl (hbl sl hq)
    ·right
     rw [List.getElem?_set_ne (Ne.symm hqb)]
     exact hq
   ·rw [<- List.append_assoc]
    exact (DnAll.mono s79.gs dn6).snoc d9
   ·refine Tr.ok_mono (Tr.ok_bind.mp k9) λm10 us k10=>?_
    rw [List.append_assoc]
    exact k10
  ·have e1:k1=ys5.length:=by omega
   subst e1
   refine .inl ⟨i2,xs.length - (k+1),by omega,rfl,hlt,by rw [hz,Nat.mul_succ]; omega,m6,G6,ds++es,(sb.trans s35.gs).trans sb6,st6,?_,dn6,?_⟩
   ·refine R6.weak (by rw [<- hρ]; exact List.length_set) λq sl hq=>?_
    by_cases hqa:q=a
    ·subst hqa
     exact .inl (Zec ha hq)
    ·right
     rw [<- hρ,List.getElem?_set_ne (Ne.symm hqa)]
     exact hq
   ·rw [List.drop_length] at k6
    have k6':((fB (fG a is1 b i (blk n ix ρ)) (xs.drop (k+1))).bind λzs=>Tr.ret ((es++[])++zs)).ok m6 λm'' ws=>Ko1 PK pa m'' G H (ds++ws) Q:=k6
    refine Tr.ok_mono (Tr.ok_bind.mp k6') λm7 ws k7=>?_
    have k7':Ko1 PK pa m7 G H (ds++((es++[])++ws)) Q:=k7
    rw [List.append_nil,<- List.append_assoc] at k7'
    exact k7'
 ·have e:k=xs.length:=by omega
  subst e
  refine .inl ⟨j2,λp v H' hp ev eH=>?_⟩
  subst ev eH
  rw [List.drop_length] at k2
  have k2':Ko1 PK pa m2 G H (ds++[]) Q:=k2
  rw [List.append_nil] at k2'
  exact (Ko1.later k2' st2 R2.wd.some).new R2.wd dn hp
theorem Zez {n a b:Nat} {ix:List Nat} (h:PE X e (mB (bX PK is) n ix (λ_=>ck PK (am a)) (λ_=>bX PK is1) (λ_=>ck PK (am b)) (λ_=>TAe PK i))) (ha:a < n) (hb:b < n) (hab:a≠b):PE X e (c7 PK (iD is n ix a is1 b i)):=h.imp (Zih ha hb hab)
end
noncomputable def RawD (h:Heap) (d:Addr) (es:Array DictEntry) (ep:Nat):Prop:=∃ o,h.get? d=some o/\o.ExactDict/\o.data=.dict es ep
theorem RawD.mono {h h':Heap} {d:Addr} {es:Array DictEntry} {ep:Nat} (r:RawD h d es ep) (k:∀ o,h.get? d=some o->h'.get? d=some o):RawD h' d es ep :=
 let ⟨o,a,b⟩:=r; ⟨o,k o a,b⟩
theorem RawD.ty {s:Shared} {d:Addr} {es:Array DictEntry} {ep:Nat} (r:RawD s.heap d es ep):s.TypeIs (.ref d) "dict":=let ⟨o,a,b,_⟩:=r; ⟨o,a,b.1⟩
noncomputable abbrev oB (d:Addr) (i n ep:Nat):Array Value:=#[.ref d,.int i 0,.int n 0,.int ep 0]
noncomputable def KiAt (h:Heap) (it d:Addr) (i n ep:Nat):Prop:=∃ o,h.get? it=some o/\o.cls=.type "dict_keyiterator"/\o.data=.fields (oB d i n ep)
section
variable {prog:Program} {w:World} {A:Around} {E:Value->Shared->Prop} {s:Shared} {d it:Addr} {es:Array DictEntry} {ep i:Nat}
theorem KiAt.ty {n:Nat} (k:KiAt s.heap it d i n ep):s.TypeIs (.ref it) "dict_keyiterator":=let ⟨o,a,b,_⟩:=k; ⟨o,a,b⟩
theorem ZcZ {Q:Value->Shared->Prop} (lo:(d == sysModules)=false) (r:RawD s.heap d es ep)
  (q:Q (.ref s.heap.objs.size) { s with heap:=s.heap.push { cls:=.type "dict_keyiterator",data:=.fields (oB d 0 es.size ep) } }):wpAny (model prog w) A (pyIter (.ref d)) Q E s:=by
 have ht:=r.ty
 obtain ⟨o,h1,h2,h3⟩:=r
 have nl:¬ (d == sysModules)=true:=by rw [lo]; decide
 apply wpAny_pyIter_slot ht F.slot_dict_iter
 refine wpAny_call_entry F.slot_dict_iter ht F.entry_dict_iter (b:=Builtin.«dict.__iter__») ?_ (F.args_dict_iter_1 _)
 unfold Builtin.«dict.__iter__»
 apply wpAny_bind
 unfold Builtin.Dict.dictSlotNone
 apply wpAny_bind; apply wpAny_notOrdered_dict ht
 apply wpAny_pure (a:=Value.ref d)
 show wpAny _ _ (Builtin.Dict.showsAll d >>= _) _ _ s
 apply wpAny_bind; unfold Builtin.Dict.showsAll; rw [if_neg nl]; apply wpAny_pure
 apply wpAny_bind; apply wpAny_dictEntries h1 h3
 apply wpAny_bind; apply wpAny_dictEpoch h1 h3
 apply wpAny_bind; refine wpAny_newObj_type ?_ (by size_fits)
 exact wpAny_pure ⟨_,rfl,_,_,⟨_,Heap.get?_push_size _ rfl,rfl⟩,F.slot_dict_keyiterator_next.lookup,q⟩
theorem km {Q:Option Value->Shared->Prop} (hh:A.handled=none) (k:KiAt s.heap it d i es.size ep) (r:RawD s.heap d es ep)
  (qi:∀ e h',es[i]?=some e->KiAt h' it d (i+1) es.size ep->Heap.SameBut it s.heap h'->Q (some e.key) { s with heap:=h' })
  (qe:es[i]?=none->∀ h',Heap.ExtBut it s.heap h'->Q none { s with heap:=h' }):wpAny (model prog w) A (pyNext (.ref it)) Q E s:=by
 have ht:=k.ty
 obtain ⟨o,h1,h2,h3⟩:=k
 obtain ⟨od,d1,d2,d3⟩:=r
 have own:Builtin.Dict_items.ownsTuple "dict_keyiterator"=false:=by decide
 have named:∀ {A:Around} {E:Value->Shared->Prop} {P:String->Shared->Prop},P "dict_keyiterator" s->wpAny (model prog w) A (typeNameOfWhole (.ref it)) P E s:=λq=>wpAny_typeNameOfWhole_keyiter ht q
 unfold pyNext
 apply wpAny_bind; apply wpAny_attempt
 apply wpAny_callSpecial?_slot (name:=Str.ofString "__next__") ht F.slot_dict_keyiterator_next
 refine wpAny_call_entry F.slot_dict_keyiterator_next ht F.entry_dict_keyiterator_next ?_ (F.args_dict_keyiterator_next_1 _)
 apply wpAny_bind; apply wpAny_pure
 apply wpAny_bind; apply wpAny_bind
 apply wpAny_bind; apply named; apply wpAny_pure
 apply wpAny_bind; apply wpAny_fieldsOf h1 h3
 simp only [own,Bool.false_eq_true,if_false]
 show wpAny _ _ (if (Value.ref d == Value.none)=true then _ else _) _ _ s
 rw [if_neg (show ¬ (Value.ref d == Value.none)=true from nofun)]
 apply wpAny_bind; apply wpAny_pure
 apply wpAny_bind; apply wpAny_dictEntries d1 d3
 rw [if_neg (by simp)]
 apply wpAny_bind; apply wpAny_pure
 apply wpAny_bind; apply wpAny_dictEpoch d1 d3
 rw [if_neg (by simp)]
 apply wpAny_pure
 have nn:¬ (i:Int) < 0:=by omega
 simp only [nn,if_false,Int.toNat_natCast]
 cases hx:es[i]? with
 | some e =>
  dsimp only
  apply wpAny_bind
  apply wpAny_bind; apply named; apply wpAny_pure
  apply wpAny_bind; apply wpAny_isOneOf_keyiter ht
  show wpAny _ _ (setField (.ref it) 1 (rawInt ((i:Int)+1)) >>= _) _ _ s
  apply wpAny_bind; apply wpAny_setField h1 h3 (by simp)
  have k':KiAt (s.heap.update it (Obj.mapFields (·.setIfInBounds 1 (rawInt ((i:Int)+1))))) it d (i+1) es.size ep :=
   ⟨_,Heap.get?_update_self _ h1 (Obj.isFreed_of_fields (Obj.data_mapFields h3 _)),(Obj.cls_mapFields ..).trans h2,by rw [Obj.data_mapFields h3]; simp [rawInt]⟩
  apply wpAny_bind; apply wpAny_holding
  apply wpAny_bind
  apply wpAny_isOneOf_keyiter (s:={ s with heap:=s.heap.update it (Obj.mapFields (·.setIfInBounds 1 (rawInt ((i:Int)+1)))) }) k'.ty
  show wpAny _ _ (pure e.key) _ _ _
  exact wpAny_pure (wpAny_pure ⟨_,rfl,wpAny_pure (qi e _ hx k' (Heap.SameBut.update ..))⟩)
 | none =>
  dsimp only
  apply wpAny_bind
  apply wpAny_bind; apply named; apply wpAny_pure
  show wpAny _ _ (setField (.ref it) 0 .none >>= _) _ _ s
  apply wpAny_bind; apply wpAny_setField h1 h3 (by simp)
  show wpAny _ _ (newExc (.type "StopIteration") [] >>= _) _ _ _
  apply wpAny_bind
  simp only [newExc,newTuple]
  apply wpAny_bind; refine wpAny_newObj_type ?_ (by size_fits)
  apply wpAny_bind (m:=firstArgMember _ _)
  refine wpAny_of_eq (a:=Value.none) (by first | rfl | (simp only [firstArgMember]; rfl)) ?_
  refine wpAny_newObj_type ?_ (by size_fits)
  simp only [raiseNew]
  apply wpAny_bind; apply wpAny_handled
  rw [show A.in1.handled=none from hh]
  first
   | (apply wpAny_bind; apply wpAny_pure; apply wpAny_throw)
   | apply wpAny_throw
  apply wpAny_bind
  refine wpAny_isInstance (b:=true) (T:="StopIteration") ⟨_,Heap.get?_push_size _ rfl,rfl⟩ isSubtype_stop ?_
  exact wpAny_pure (qe hx _ (((Heap.SameBut.update ..).extBut.push _).push _))
end
noncomputable def aY:Sl->Bool
 | .dip _=>true
 | _=>false
noncomputable def eW (k:Nat) (ρ:List Sl):Bool:=(ρ.set k .un).all λs=>!aY s
theorem Zco {k:Nat} {ρ:List Sl} (h:eW k ρ=true) {i:Nat} (hi:k≠i) {xs:List (List Int×PyData)}:ρ[i]?≠some (.dip xs):=λe=>by
 have e':(ρ.set k .un)[i]?=some (.dip xs):=by rw [List.getElem?_set_ne hi]; exact e
 have:=List.all_eq_true.mp h _ (List.mem_of_getElem? e')
 cases this
section
variable {PK:Pk} {pa:Addr} {G₀ H₀ G H:Hp} {m:Nat} {σ:St} {ρ:List Sl}
theorem KP.len {ks:List (List Int×V)} {kvs:List (List Int×PyData)} (h:KP G ks kvs):ks.length=kvs.length:=by
 induction h with
 | nil=>rfl
 | cons _ _ ih=>rw [List.length_cons,List.length_cons,ih]
theorem Rl.setP (r:Rl PK pa G₀ H₀ m σ ρ G H) {p:Addr} {ks:List (List Int×V)} {kvs:List (List Int×PyData)} (h1:H p=some (.dT (ks.map bi))) (h2:G p=none) (h3:H₀ p=none) (h4:KP G ks kvs) (k:Nat):Rl PK pa G₀ H₀ m (σ.set k (some (.ref p))) (ρ.set k (.dip kvs)) G H:=by
 refine ⟨r.wd,r.st,r.p0,λi s h=>?_,by rw [List.length_set,List.length_set]; exact r.len,lA r.dj λa h=>(by cases h),lA r.dj2 λa h=>(by cases h)⟩
 by_cases e:i=k
 ·subst e
  have hl:i < ρ.length:=by
   have:=(List.getElem?_eq_some_iff.mp h).1
   rwa [List.length_set] at this
  rw [List.getElem?_set_self hl] at h
  cases h
  exact ⟨_,List.getElem?_set_self (by rw [<- r.len]; exact hl),.dip h1 h2 h3 h4⟩
 ·rw [List.getElem?_set_ne (Ne.symm e)] at h ⊢
  exact r.sl i s h
theorem Rl.newP (r:Rl PK pa G₀ H₀ m σ ρ G H) {p:Addr} {ks:List (List Int×V)} {kvs:List (List Int×PyData)} (hp:H p=none) (h4:KP G ks kvs) (k:Nat):Rl PK pa G₀ H₀ m (σ.set k (some (.ref p))) (ρ.set k (.dip kvs)) G (upd H p (.dT (ks.map bi))):=by
 obtain ⟨w1,s1⟩:=r.wd.own (o:=.dT (ks.map bi)) hp
 exact (r.step s1 w1).setP bf (r.wd.gnone hp) (r.h0 hp) h4 k
theorem Rl.changeP (r:Rl PK pa G₀ H₀ m σ ρ G H) {k:Nat} {xs ys:List (List Int×PyData)} {p:Addr} {ws:List (List Int×V)} (hk:ρ[k]?=some (.dip xs)) (hσ:σ[k]?=some (some (.ref p))) (hno:eW k ρ=true) (d:KP G ws ys) :
  Rl PK pa G₀ H₀ m σ (ρ.set k (.dip ys)) G (upd H p (.dT (ws.map bi))):=by
 obtain ⟨o,h1,h2⟩:=r.sl k _ hk
 rw [hσ] at h1
 cases h1
 cases h2 with
 | @dip _ vs _ a1 a2 a3 a4 =>
  have hne:pa≠p:=λe=>by
   obtain ⟨u,hu⟩:=r.p0
   rw [e,a3] at hu; cases hu
  have hl:k < ρ.length:=(List.getElem?_eq_some_iff.mp hk).1
  refine ⟨⟨λb o h=>?_,r.wd.gpa,?_⟩,⟨r.st.gs,r.st.gn,λb o h hb=>?_⟩,r.p0,λi s h=>?_,by rw [List.length_set]; exact r.len,ij r.dj λa h=>(by cases h),ij r.dj2 λa h=>(by cases h)⟩
  ·rw [ai (λe=>by subst e; rw [a2] at h; cases h)]
   exact r.wd.sub b o h
  ·obtain ⟨u,h,q⟩:=r.wd.pen
   exact ⟨u,by rw [ai hne]; exact h,q⟩
  ·rw [ai (λe=>by subst e; rw [a3] at h; cases h)]
   exact r.st.hk b o h hb
  ·by_cases e:k=i
   ·subst e
    rw [List.getElem?_set_self hl] at h
    cases h
    exact ⟨_,hσ,.dip bf a2 a3 d⟩
   ·rw [List.getElem?_set_ne e] at h
    obtain ⟨o,q1,q2⟩:=r.sl i s h
    refine ⟨o,q1,?_⟩
    cases q2 with
    | un=>exact .un
    | d z=>exact .d z
    | pen=>exact .pen
    | fn=>exact .fn
    | own b1 b2 b3 b4=>exact .own (by rw [ai (λe2=>by subst e2; rw [a1] at b1; cases b1)]; exact b1) b2 b3 b4
    | dic b1 b2 b3 b4=>exact .dic (by rw [ai (λe2=>by subst e2; rw [a1] at b1; cases b1)]; exact b1) b2 b3 b4
    | dip b1 b2 b3 b4=>exact absurd h (Zco hno e)
theorem Rl.keepP (r:Rl PK pa G₀ H₀ m σ ρ G H) {k:Nat} {xs:List (List Int×PyData)} {p:Addr} {ks:List (List Int×V)} (hk:ρ[k]?=some (.dip xs)) (hσ:σ[k]?=some (some (.ref p))) (hp:H p=some (.dT (ks.map bi))) (h4:KP G ks xs) (hno:eW k ρ=true) (hx:xs≠[]) (o:Obj) :
  Sub G (upd G p (.frz o (.dT (ks.map bi))))/\Rl PK pa G₀ H₀ m σ (ρ.set k (.d (pD xs))) (upd G p (.frz o (.dT (ks.map bi)))) (upd H p (.frz o (.dT (ks.map bi)))):=by
 obtain ⟨o',h1,h2⟩:=r.sl k _ hk
 rw [hσ] at h1
 cases h1
 cases h2 with
 | @dip _ vs _ a1 a2 a3 a4 =>
  have hne:pa≠p:=λe=>by
   obtain ⟨u,hu⟩:=r.p0
   rw [e,a3] at hu; cases hu
  have hl:k < ρ.length:=(List.getElem?_eq_some_iff.mp hk).1
  have sb:Sub G (upd G p (.frz o (.dT (ks.map bi)))):=Sub.new a2
  refine ⟨sb,⟨λb o h=>?_,by rw [ai hne]; exact r.wd.gpa,?_⟩,⟨λb o h=>sb b o (r.st.gs b o h),λb o h=>?_,λb o h hb=>?_⟩,r.p0,λi s h=>?_,by rw [List.length_set]; exact r.len,ij r.dj λa h=>(by cases h),ij r.dj2 λa h=>(by cases h)⟩
  ·by_cases e:b=p
   ·subst e; rw [bf] at h ⊢; exact h
   ·rw [ai e] at h ⊢; exact r.wd.sub b o h
  ·obtain ⟨u',h,q⟩:=r.wd.pen
   exact ⟨u',by rw [ai hne]; exact h,PK.mono sb q⟩
  ·by_cases e:b=p
   ·subst e; exact .inr (.inl a3)
   ·rw [ai e] at h; exact r.st.gn b o h
  ·rw [ai (λe=>by subst e; rw [a3] at h; cases h)]
   exact r.st.hk b o h hb
  ·by_cases e:k=i
   ·subst e
    rw [List.getElem?_set_self hl] at h
    cases h
    exact ⟨_,hσ,.d ((h4.mono sb).dn hx bf)⟩
   ·rw [List.getElem?_set_ne e] at h
    obtain ⟨o,q1,q2⟩:=r.sl i s h
    refine ⟨o,q1,?_⟩
    cases q2 with
    | un=>exact .un
    | d z=>exact .d (z.mono sb)
    | pen=>exact .pen
    | fn=>exact .fn
    | @own q vs ys b1 b2 b3 b4 =>
     have hn:q≠p:=λe2=>by subst e2; rw [hp] at b1; cases b1
     exact .own (by rw [ai hn]; exact b1) (by rw [ai hn]; exact b2) b3 (DnAll.mono sb b4)
    | @dic q ks' kvs' b1 b2 b3 b4 =>
     have hn:q≠p:=λe2=>by subst e2; rw [hp] at b1; cases b1
     exact .dic (by rw [ai hn]; exact b1) (by rw [ai hn]; exact b2) b3 (b4.mono sb)
    | dip b1 b2 b3 b4=>exact absurd h (Zco hno e)
theorem Inv.knownT {X:Cx} {pins:List (Addr×Obj)} {σ:St} {H:Hp} {s:Shared} {a:Addr} {ks:List (List ak×V)} (I:Inv X pins σ H s) (h:H a=some (.dT ks)):∃ o,Inv X pins σ (upd H a (.frz o (.dT ks))) s:=by
 obtain ⟨hz,hS,xs,r,o,es,ep,ho,h1,h2,h3,h4⟩:=(show ObjOk X.prog X.w H s.heap a (.dT ks) from I.hok a _ h)
 refine ⟨o,?_⟩
 have r':KT (upd H a (.frz o (.dT ks))) ks xs:=KT.keeps r λc ys ec=>by
  rw [ai λe=>by subst e; rw [h] at ec; cases ec]
  exact ec
 exact I.write (t':=s.toks) (h':=s.heap) (e:=a) (by rw [h]; trivial) (.inl rfl) (λb u _ q=>q) ⟨o,ho⟩ ⟨ho,hz,hS,xs,r',o,es,ep,ho,h1,h2,h3,h4⟩
end
section
variable {PK:Pk} {X:Cx} {e:Expr} {i:List Sl->Tr PyData} {st:Stmt} {s:List Sl->Tr Ou}
noncomputable def lV (k:Nat):List Sl->Tr Ou:=λρ=>.ret (.next (ρ.set k (.dip [])))
theorem Zeq {k:Nat} (h:PS X st (ce Zax (cp k))):PS X st (aV PK (lV k)):=h.imp λD σ H hz0=>by
 obtain ⟨pa,G₀,H₀,m,ρ,G,R,z⟩:=hz0
 intro p hp
 exact z _ G _ .refl (R.newP (ks:=[]) hp .nil k)
noncomputable def gx (k:Nat) (n i:List Sl->Tr PyData):List Sl->Tr Ou:=λρ=>(i ρ).bind λx=>match ρ[k]? with
 | some (.dip xs)=>(n ρ).bind λy=>match y with
  | .tuple ks=>match ints? ks with
   | some ns=>if (small (xs.length+1) && eW k ρ)=true then .ret (.next (ρ.set k (.dip (eT xs ns x)))) else .fail
   | none=>.fail
  | _=>.fail
 | _=>.fail
theorem Zer {k:Nat} {n:List Sl->Tr PyData} (h:PS X st (Za7 (eC k) (TAe PK n) (TAe PK i))):PS X st (aV PK (gx k n i)):=h.imp λD σ H hz0=>by
 obtain ⟨pa,G₀,H₀,m,ρ,G,R,z⟩:=hz0
 refine TAe.then R z λm1 x v G1 H1 s1 w1 R1 d1 q1=>?_
 split at q1
 ·rename_i xs hx
  obtain ⟨o,h1,h2⟩:=R1.sl k _ hx
  cases h2 with
  | @dip p ks _ a1 a2 a3 a4 =>
   refine ⟨_,h1,?_⟩
   refine TAe.then R1 q1 λm2 y u G2 H2 s2 w2 R2 d2 q2=>?_
   obtain ⟨o,h1',h2⟩:=R2.sl k _ hx
   rw [h1] at h1'
   cases h1'
   cases h2 with
   | @dip _ ks2 _ b1 b2 b3 b4 =>
    cases d2 with
    | @tup c vs es c1 c2 =>
     cases hi:ints? es with
     | none=>dsimp only at q2; rw [hi] at q2; exact q2.elim
     | some ns =>
      dsimp only at q2
      rw [hi] at q2
      obtain ⟨hs,q2⟩:=dC q2
      obtain ⟨hs1,hs2⟩:=Bool.and_eq_true_iff.mp hs
      have hs':xs.length+1<=sizeLine:=of_decide_eq_true hs1
      obtain ⟨e1,_⟩:=c2.ints_inv hi
      have hc:H2 c=some (.tup ((ns.map (Sum.inl:Int->ak)).map kV)):=by
       rw [List.map_map]
       have:=w2.sub _ _ c1
       rw [e1] at this
       exact this
      refine ⟨p,_,rfl,DPut.t (k:=ns.map Sum.inl) b1 hc (by rw [List.length_map,b4.len]; omega),?_⟩
      rw [j7]
      exact q2 σ G2 _ (s1.gs.trans s2.gs) (R2.changeP hx h1 hs2 (b4.put ns (d1.mono s2.gs)))
    | _=>exact q2.elim
 ·exact q1.elim
noncomputable def lj (k:Nat) (ρ:List Sl):List Sl:=match ρ[k]? with
 | some (.dip xs)=>if (eW k ρ && !xs.isEmpty)=true then ρ.set k (.d (pD xs)) else ρ
 | _=>ρ
noncomputable def fQ (k:Nat) (s:List Sl->Tr Ou):List Sl->Tr Ou:=λρ=>s (lj k ρ)
theorem Zes {k:Nat} (h:PS X st (aV PK s)):PS X st (aV PK (fQ k s)):=by
 intro pins sh σ H D I hz0
 obtain ⟨pa,G₀,H₀,m,ρ,G,R,z⟩:=hz0
 unfold fQ lj at z
 split at z
 ·rename_i xs hk
  split at z
  ·rename_i hh
   obtain ⟨h1,h2⟩:=Bool.and_eq_true_iff.mp hh
   obtain ⟨o,q1,q2⟩:=R.sl k _ hk
   cases q2 with
   | @dip p ks _ a1 a2 a3 a4 =>
    obtain ⟨ob,I'⟩:=I.knownT a1
    obtain ⟨sb,R'⟩:=R.keepP hk q1 a1 a4 h1 (λz=>by rw [z] at h2; cases h2) ob
    exact h pins sh σ _ D I' ⟨pa,G₀,H₀,m,_,_,R',Tr.ok_mono z λ_ _ k'=>Ko.later k' sb⟩
  ·exact h pins sh σ H D I ⟨pa,G₀,H₀,m,ρ,G,R,z⟩
 ·exact h pins sh σ H D I ⟨pa,G₀,H₀,m,ρ,G,R,z⟩
end
theorem ll {X:Cx} {pins:List (Addr×Obj)} {σ:St} {H:Hp} {s:Shared} {a:Addr} {o:Obj} {ks:List (List ak×V)} (I:Inv X pins σ H s) (h:H a=some (.frz o (.dT ks))) :
  ∃ xs es ep,KT H ks xs/\s.heap.get? a=some o/\o.data=.dict es ep/\RawD s.heap a es ep/\(a == sysModules)=false/\es.toList=xs.map (entryOfKey (tupleKind (aX X.prog X.w)))/\ks.length<=sizeLine:=by
 obtain ⟨ho,hz,hS,xs,r,o',es,ep,ho',h1,h2,h3,_⟩:=(show ObjOk X.prog X.w H s.heap a (.frz o (.dT ks)) from I.hok a _ h)
 rw [ho] at ho'
 cases ho'
 exact ⟨xs,es,ep,r,ho,h2,⟨o,ho,h1,h2⟩,hS,h3,hz⟩
theorem KT.at {H:Hp} {ks:List (List ak×V)} {xs:List (List ak×Addr×Value)} (r:KT H ks xs):∀ (i:Nat) (k:List ak×V),ks[i]?=some k->∃ x,xs[i]?=some x/\H x.2.1=some (.tup (k.1.map kV)):=by
 induction r with
 | nil=>intro i k h; cases h
 | @cons a b l m h _ ih =>
  intro i k e
  cases i with
  | zero =>
   cases e
   exact ⟨b,rfl,h.2.1⟩
  | succ i =>
   rw [List.getElem?_cons_succ] at e ⊢
   exact ih i k e
theorem Zdz {X:Cx} {H:Hp} {ks:List (List ak×V)} {xs:List (List ak×Addr×Value)} {es:Array DictEntry} (r:KT H ks xs) (e:es.toList=xs.map (entryOfKey (tupleKind (aX X.prog X.w)))):es.size=ks.length:=by
 have:=congrArg List.length e
 rw [Array.length_toList,List.length_map] at this
 exact this.trans r.length.symm
theorem ZdA {X:Cx} {xs:List (List ak×Addr×Value)} {es:Array DictEntry} (e:es.toList=xs.map (entryOfKey (tupleKind (aX X.prog X.w)))) {i:Nat} {x:List ak×Addr×Value} (h:xs[i]?=some x) {y:DictEntry} (hy:es[i]?=some y):y.key=.ref x.2.1:=by
 have q:=entry_at e i
 rw [hy,h] at q
 cases q
 rfl
noncomputable def tP (a:Addr) (o:Obj) (ks:List (List ak×V)):It :=
 ⟨λi H=>H a=some (.frz o (.dT ks))/\i < ks.length,λi H x H'=>H'=H/\∃ k b,ks[i]?=some k/\x=.ref b/\H b=some (.tup (k.1.map kV)),λi H=>H a=some (.frz o (.dT ks))/\ks.length<=i⟩
theorem Zfk {P:Program} {w:World} {K:PySem.W.Frag} {tg:Expr} (a it:Addr) {o:Obj} {ks:List (List ak×V)} {es:Array DictEntry} {ep:Nat} (hep:o.data=.dict es ep) (hs:es.size=ks.length):Turn P w K tg (tP a o ks) [it] it (λi h=>KiAt h it a i es.size ep) where
 mem:=by simp
 obj:=λi h st b hb=>by
  have e:b=it:=by simpa using hb
  subst e
  obtain ⟨o,e,c,d⟩:=st
  exact ⟨o,e,λv z=>by rw [d] at z; cases z⟩
 keep:=λi h h' st k=>by
  obtain ⟨o,e,c,d⟩:=st
  exact ⟨o,k it (by simp) o e,c,d⟩
 item:=by
  intro X hP hw hK hc i pins s σ H E I hf st hg
  subst hP hw hK
  obtain ⟨hq,hi⟩:=hg
  obtain ⟨xs,es',ep',r,ho,hd,rw',lo,he,_⟩:=ll I hq
  rw [hep] at hd
  cases hd
  obtain ⟨x,hx,hb⟩:=r.at i ks[i] (by simp [hi])
  obtain ⟨f0,f1,f2,f3,f4,f5⟩:=hf it (by simp)
  refine km (I.ok.hd hc) st rw' (λy h' hy st' sb=>?_) λhn=>?_
  ·have I1:Inv X pins σ H { s with heap:=h' }:=I.turned (t':=s.toks) (λb o hb e=>(sb.2 b hb).trans e) f0 f1 f3 f4 f5
   obtain ⟨o,e,c,d⟩:=id st'
   rw [ZdA he hx hy]
   exact ⟨_,rfl,ic (s:={ s with heap:=h' }) e c d (by decide) ⟨.ref x.2.1,H,I1,rfl,⟨rfl,ks[i],x.2.1,by simp [hi],rfl,hb⟩,st',λb hb=>(hf b hb).1⟩⟩
  ·rw [Array.getElem?_eq_none_iff] at hn
   omega
 done:=by
  intro X hP hw hK hc i pins s σ H E I hf st hg
  subst hP hw hK
  obtain ⟨hq,hi⟩:=hg
  obtain ⟨xs,es',ep',r,ho,hd,rw',lo,he,_⟩:=ll I hq
  rw [hep] at hd
  cases hd
  obtain ⟨f0,f1,f2,f3,f4,f5⟩:=hf it (by simp)
  refine km (I.ok.hd hc) st rw' (λy h' hy=>?_) λ_ h' eb=>⟨rfl,I.turned (t':=s.toks) (λb o hb e=>eb b o hb e) f0 f1 f3 f4 f5⟩
  have:=(Array.getElem?_eq_some_iff.mp hy).1
  omega
 self:=λA i s Q E st h=>by
  apply wpAny_pyIter_slot st.ty F.slot_dict_keyiterator_iter
  refine wpAny_call_entry F.slot_dict_keyiterator_iter st.ty F.entry_dict_keyiterator_iter ?_ (F.args_dict_keyiterator_iter_1 _)
  show wpAny _ _ (ret (.ref it)) _ _ s
  exact wpAny_pure ⟨_,rfl,_,_,st.ty,F.slot_dict_keyiterator_next.lookup,h⟩
section
variable {PK:Pk} {X:Cx} {i:List Sl->Tr PyData}
noncomputable def iH (PK:Pk):Prop:=∀ xs G m,¬ PK.is (.tup xs) G m
theorem Wd.take {pa:Addr} {m:Nat} {G H:Hp} (nt:iH PK) (w:Wd PK pa m G H) {b:Addr} {ns:List Int} (h:H b=Option.some (.tup (ns.map V.int))):∃ G',Stp pa G H G' H/\Wd PK pa m G' H/\Dn G' (.ref b) (.tuple (ns.map PyData.int)):=by
 have hne:pa≠b:=λe=>by
  obtain ⟨o,h1,h2⟩:=w.pen
  rw [e,h] at h1
  cases h1
  exact nt _ _ _ h2
 cases e:G b with
 | some o =>
  have:=w.sub b o e
  rw [h] at this
  cases this
  exact ⟨G,.refl,w,.tup e (DnAll.ints ns)⟩
 | none =>
  have sb:Sub G (upd G b (.tup (ns.map V.int))):=Sub.new e
  refine ⟨upd G b (.tup (ns.map V.int)),⟨sb,λc o hc=>?_,λ_ _ q _=>q⟩,w.freeze h e hne,.tup bf (DnAll.ints ns)⟩
  by_cases ec:c=b
  ·subst ec
   exact .inr (.inr ⟨Ne.symm hne,_,h⟩)
  ·rw [ai ec] at hc
   exact .inl hc
noncomputable def dF:List (PyData×PyData)->Option (List (List Int))
 | []=>some []
 | (.tuple ks,_)::r=>(ints? ks).bind λns=>(dF r).map (ns::·)
 | _::_=>none
noncomputable def kZ:PyData->Option (List PyData)
 | .dict []=>none
 | .dict kvs=>(dF kvs).map λks=>ks.map λk=>PyData.tuple (k.map PyData.int)
 | _=>none
theorem ZcW:∀ {l:List (List Int×V)} {ds:List PyData},ds.length=l.length->dF ((l.map λk=>PyData.tuple (k.1.map PyData.int)).zip ds)=some (l.map (·.1))
 | [],ds,h=>by
  cases ds with
  | nil=>rfl
  | cons _ _=>cases h
 | k::l,[],h=>by cases h
 | k::l,d::ds,h=>by
  rw [List.map_cons,List.zip_cons_cons,List.map_cons]
  unfold dF
  rw [ints?_map,ZcW (Nat.succ.inj h)]
  rfl
theorem Dn.keys {G:Hp} {v:V} {x:PyData} {xs:List PyData} (d:Dn G v x) (h:kZ x=some xs) :
  ∃ a o l,v=.ref a/\G a=some (.frz o (.dT (List.map bi l)))/\xs=l.map λk=>PyData.tuple (k.1.map PyData.int):=by
 cases d with
 | @dct a ks ds h1 h2 =>
  have hl:=h2.length
  rw [List.length_map] at hl
  cases ks with
  | nil=>rw [List.map_nil,List.zip_nil_left] at h; cases h
  | cons k ks =>
   cases ds with
   | nil=>cases hl
   | cons y ds =>
    rw [List.map_cons,List.zip_cons_cons] at h
    obtain ⟨c,_⟩:=k
    cases c <;> cases h
 | @dcp a o ks ds h0 h1 h2 =>
  have hl:=h2.length
  rw [List.length_map] at hl
  refine ⟨a,o,ks,rfl,h1,?_⟩
  have e:=ZcW (l:=ks) (ds:=ds) hl.symm
  cases ks with
  | nil=>exact absurd rfl h0
  | cons k ks =>
   cases ds with
   | nil=>cases hl
   | cons y ds =>
    rw [List.map_cons,List.zip_cons_cons] at h e
    have h:(dF ((PyData.tuple (k.1.map PyData.int),y)::(ks.map λk=>PyData.tuple (k.1.map PyData.int)).zip ds)).map (λks=>ks.map λk=>PyData.tuple (k.map PyData.int))=some xs:=h
    rw [e] at h
    cases h
    exact List.map_map
 | _=>cases h
theorem oF (ns:List Int):(ns.map (Sum.inl:Int->ak)).map kV=ns.map V.int:=by rw [List.map_map]; rfl
theorem ZiC {pa a:Addr} {G:Hp} {o:Obj} {l:List (List Int×V)} (nt:iH PK) (h:G a=some (.frz o (.dT (l.map bi)))):fS PK pa (tP a o (l.map bi)) G (l.map λk=>PyData.tuple (k.1.map PyData.int)):=λm G2 H2 sb w=>by
 have hq:=w.sub _ _ (sb _ _ h)
 refine ⟨λn x hx=>?_,hq,by rw [List.length_map,List.length_map]; exact Nat.le_refl _⟩
 rw [List.getElem?_map] at hx
 obtain ⟨k,hk,rfl⟩:=Option.map_eq_some_iff.mp hx
 refine ⟨⟨hq,by rw [List.length_map]; exact (List.getElem?_eq_some_iff.mp hk).1⟩,?_⟩
 rintro y H3 ⟨rfl,k',b,e1,rfl,e2⟩
 rw [List.getElem?_map,hk] at e1
 cases e1
 have e2:H3 b=some (.tup ((k.1.map (Sum.inl:Int->ak)).map kV)):=e2
 rw [oF] at e2
 exact w.take nt e2
noncomputable def tD (i:List Sl->Tr PyData):List Sl->Tr (List PyData):=λρ=>(i ρ).bind λx=>Tr.of (kZ x)
noncomputable def ZiM (tl:TE):TI:=λσ H R=>tl σ H λx H1=>∃ a o ks,x=.ref a/\H1 a=some (.frz o (.dT ks))/\R (tP a o ks) H1
theorem Zg6 {tg e:Expr} {tl:TE} (he:PE X e tl):PI X tg e (ZiM tl):=by
 intro pins s σ H R I h
 refine thn (he pins s σ H _ I h) λv s1 hz0=>?_
 obtain ⟨x,H1,I1,r1,a,o,ks,rfl,hp,q⟩:=hz0
 cases r1
 obtain ⟨xs,es,ep,r,ho,hd,rw',lo,he,_⟩:=ll I1 hp
 have hs:=Zdz r he
 refine ZcZ lo rw' ?_
 refine ⟨s1.heap.objs.size,[s1.heap.objs.size],_,_,H1,rfl,I1.kept (t':=s1.toks) λb o e=>Heap.get?_push_of_some _ e,Zfk a _ hd hs,⟨_,Heap.get?_push_size _ rfl,rfl,rfl⟩,λb hb=>?_,q⟩
 have e:b=s1.heap.objs.size:=by simpa using hb
 subst e
 exact I1.fpOk (Nat.le_refl _) (I1.hok.fresh (Nat.le_refl _))
theorem Zlw {tg e:Expr} (nt:iH PK) (he:PE X e (TAe PK i)):PI X tg e (bX PK (tD i)):=(Zg6 he).imp λσ H R0 hz0=>by
 obtain ⟨pa,G₀,H₀,m,ρ,G,R,z⟩:=hz0
 refine TAe.then R z λm1 x v G1 H1 s1 w1 R1 d1 q1=>?_
 obtain ⟨xs,hx,q1⟩:=Tr.ok_of q1
 obtain ⟨a,o,l,rfl,hG,rfl⟩:=d1.keys hx
 exact ⟨a,o,_,rfl,w1.sub _ _ hG,q1 _ G1 H1 s1 w1 (ZiC nt hG)⟩
end
section
variable {prog:Program} {w:World} {A:Around} {E:Value->Shared->Prop} {s:Shared}
end
section
variable {prog:Program} {w:World} {A:Around} {R:Result->Shared->Prop} {I:Addr} {fp wr:List Addr} {G:Array GenState->Array GenState->Prop} {n:Nat} {P:Nat->Value->Prop} {St:Nat->Shared->Prop}
end
section
variable {prog:Program} {w:World} {A:Around} {E:Value->Shared->Prop} {s:Shared}
end
section
variable {prog:Program} {w:World} {A:Around} {E:Value->Shared->Prop} {s:Shared}
end
end L2
namespace PySem.F
end PySem.F
namespace L2
open PySem PySem.Spec PyProof.Rows
section
variable {prog:Program} {w:World} {A:Around} {E:Value->Shared->Prop} {s:Shared} {I p:Addr} {first:Value} {i n ep ep':Nat} {o:Obj} {es:Array (Int×Value)} {t:SetTable}
end
section
variable {prog:Program} {w:World} {A:Around} {E:Value->Shared->Prop} {s:Shared} {I p:Addr} {i n ep:Nat} {o:Obj} {es:Array (Int×Value)} {t:SetTable}
end
end L2
namespace PySem.F
end PySem.F
namespace L2
open PySem PySem.Spec PyProof.Rows
section
variable {prog:Program} {w:World} {A:Around} {E:Value->Shared->Prop} {s:Shared} {I p tp:Addr} {n ep:Nat} {o:Obj} {es:Array (Int×Value)} {t:SetTable}
end
section
variable {prog:Program} {w:World} {A:Around} {E:Value->Shared->Prop} {s:Shared} {p:Addr}
end
section
variable {prog:Program} {w:World} {A:Around} {E:Value->Shared->Prop} {s:Shared} {p:Addr}
end
section
variable {prog:Program} {w:World} {A:Around} {E:Value->Shared->Prop} {s:Shared} {p:Addr}
end
section
variable {X:Cx}
end
variable {PK:Pk} {X:Cx} {is:List Sl->Tr (List PyData)} {e:Expr}
section
variable {prog:Program} {w:World} {A:Around} {E:Value->Shared->Prop} {s:Shared} {p:Addr}
end
section
variable {X:Cx}
end
variable {PK:Pk} {X:Cx} {is:List Sl->Tr (List PyData)} {e:Expr}
section
variable {prog:Program} {w:World} {A:Around} {E:Value->Shared->Prop} {s:Shared} {d:Addr} {es:Array DictEntry} {ep:Nat}
noncomputable abbrev ZeV (es:Array DictEntry):Nat->Value->Prop:=λi v=>∃ e,es[i]?=some e/\v=e.key
theorem Ze0 (hh:A.handled=none) (it:Addr) (hne:d≠it):Walks prog w A it [it,d] [it] es.size (ZeV es) (λi h=>KiAt h it d i es.size ep/\RawD h d es ep) where
 sub:=λb hb=>by cases hb with | head=>exact List.mem_cons_self .. | tail _ h=>cases h
 frame:=λi h h' st k=>by
  obtain ⟨⟨o,a,b⟩,r⟩:=st
  exact ⟨⟨o,k it (List.mem_cons_self ..) o a,b⟩,r.mono λo q=>k d (List.mem_cons_of_mem _ (List.mem_cons_self ..)) o q⟩
 item:=λi s Q E hi st q=>by
  refine km hh st.1 st.2 (λy h' hy st' sb=>?_) λhn=>?_
  ·exact q y.key h' s.toks ⟨y,hy,rfl⟩ ⟨st',st.2.mono λo z=>sb.extBut d o hne z⟩ λb o hb z=>sb.extBut b o (λe=>hb (by rw [e]; exact List.mem_cons_self ..)) z
  ·rw [Array.getElem?_eq_none_iff] at hn
   omega
 done:=λs Q E st q=>by
  refine km hh st.1 st.2 (λy h' hy=>?_) λ_ h' eb=>q h' s.toks λb o hb z=>eb b o (λe=>hb (by rw [e]; exact List.mem_cons_self ..)) z
  have:=(Array.getElem?_eq_some_iff.mp hy).1
  omega
 self:=λi s Q E st q=>by
  obtain ⟨st,_⟩:=st
  apply wpAny_pyIter_slot st.ty F.slot_dict_keyiterator_iter
  refine wpAny_call_entry F.slot_dict_keyiterator_iter st.ty F.entry_dict_keyiterator_iter ?_ (F.args_dict_keyiterator_iter_1 _)
  show wpAny _ _ (ret (.ref it)) _ _ s
  exact wpAny_pure ⟨_,rfl,_,_,st.ty,F.slot_dict_keyiterator_next.lookup,q⟩
theorem ZfT (lo:(d == sysModules)=false):PySem.W.KdlSrc prog w "dict" d d es.size (ZeV es) (λh=>RawD h d es ep) where
 type:=λs r=>r.ty
 there:=λh r=>let ⟨o,a,_⟩:=r; ⟨Heap.lt_size a,Heap.lt_size a⟩
 keep:=λh h' r k=>r.mono λo q=>k d (.inl rfl) o q
 notList:=by decide
 notTuple:=by decide
 hint:=λA E s Q r q=>PySem.W.kdl_hint_dict r.ty q
 iter:=λA s hh r=>by
  refine ⟨{ cls:=.type "dict_keyiterator",data:=.fields (oB d 0 es.size ep) },λi h=>KiAt h s.heap.objs.size d i es.size ep/\RawD h d es ep,λE Q q=>ZcZ lo r q,?_,⟨_,Heap.get?_push_size _ rfl,rfl,rfl⟩,r.mono λo q=>Heap.get?_push_of_some _ q⟩
  obtain ⟨o,a,_⟩:=r
  exact Ze0 hh _ (Nat.ne_of_lt (Heap.lt_size a))
theorem gather {T:String} {r:Addr} {n:Nat} {P:Nat->Value->Prop} {OK:Heap->Prop} {R:List Value->Shared->Prop} (src:PySem.W.KdlSrc prog w T r d n P OK) (hh:A.handled=none) (ok:OK s.heap) (hk:n<=sizeLine)
  (h:∀ h' tk acc,(∀ b o,s.heap.get? b=some o->h'.get? b=some o)->s.heap.objs.size<=h'.objs.size->ItemsOf P acc n->R acc.toList { s with heap:=h',toks:=tk }):wpAny (model prog w) A (collect (.ref r)) R E s:=by
 obtain ⟨hr,hd⟩:=src.there _ ok
 have g0:(s.heap.push { cls:=.type "list",data:=.seq ([]:List Value).toArray }).get? s.heap.objs.size=some { cls:=.type "list",data:=.seq #[] }:=Heap.get?_push_size _ rfl
 have walk:=PySem.W.kdl_extend (A:=A) (s:={ s with heap:=s.heap.push { cls:=.type "list",data:=.seq ([]:List Value).toArray } })
  (R:=λ(q:Result) (s':Shared)=>∃ h' tk acc c,q=.ok (.ret (.ref s.heap.objs.size))/\s'={ s with heap:=h',toks:=tk }/\(∀ b o,s.heap.get? b=some o->h'.get? b=some o)/\h'.get? s.heap.objs.size=some { cls:=.type "list",dict:=none,data:=.seq acc c,slots:=#[] }/\ItemsOf P acc n)
  src hh (src.keep _ _ ok λb _ o q=>Heap.get?_push_of_some _ q) s.heap.objs.size (Nat.ne_of_gt hr) (Nat.ne_of_gt hd) (.ref s.heap.objs.size) 0 g0
  (λh' tk acc c k1 k2 k3=>⟨h',tk,acc,c,rfl,rfl,λb o q=>k1 b o (Nat.ne_of_lt (Heap.lt_size q)) (Heap.get?_push_of_some _ q),k2,k3⟩) hk
 unfold collect
 refine wpAny_bind (wpAny_runValue (codeAny_builtin F.entry_proto_collect ?_))
 rw [Around.under_plainId F.plain_proto_collect _]
 show wpAny _ A.in1 (newList [] >>= λl=>again (.builtin "list.__iadd__" ⟨[l,.ref r],[]⟩)) _ _ s
 refine wpAny_bind (wpAny_newObj_type (wpAny_pure ⟨plainId_quiet F.plain_list_iadd _,codeAny_builtin F.entry_list_iadd ?_⟩))
 rw [Around.under_plainId F.plain_list_iadd _]
 refine wpAny_mono walk (λfl s' z=>?_) λe s' z=>?_
 ·have fin:∀ {q:Result} {s':Shared},(∃ h' tk acc c,q=.ok (.ret (.ref s.heap.objs.size))/\s'={ s with heap:=h',toks:=tk }/\(∀ b o,s.heap.get? b=some o->h'.get? b=some o)/\h'.get? s.heap.objs.size=some { cls:=.type "list",dict:=none,data:=.seq acc c,slots:=#[] }/\ItemsOf P acc n) ->
    q=.ok (.ret (.ref s.heap.objs.size))/\wpAny (model prog w) A (load s.heap.objs.size >>= λo=>match o.data with | .seq xs _=>pure xs.toList | _=>unsupported "internal:collect") R E s':=λz=>by
   obtain ⟨h',tk,acc,c,e,rfl,k1,k2,k3⟩:=z
   exact ⟨e,wpAny_bind (wpAny_load k2 (wpAny_pure (h h' tk acc k1 (Nat.le_of_lt (Heap.lt_size k2)) k3)))⟩
  cases fl with
  | done f =>
   obtain ⟨e,q⟩:=fin z
   cases e
   exact q
  | again c1 =>
   refine ⟨z.1,codeAny_mono z.2 λq s2 y=>?_⟩
   obtain ⟨e,q'⟩:=fin y
   subst e
   exact q'
 ·obtain ⟨_,_,_,_,e',_⟩:=z
  cases e'
end
noncomputable def fF:List Int->List Int->Bool
 | x::xs,y::ys=>if x=y then fF xs ys else decide (x < y)
 | _,_=>false
noncomputable def NumT (h:Heap) (v:Value) (ns:List Int):Prop:=∃ a o us n,v=.ref a/\h.get? a=some o/\o.cls=.type "tuple"/\o.data=.seq us n/\IntsAre us.toList ns
theorem NumT.keeps {h h':Heap} {v:Value} {ns:List Int} (t:NumT h v ns) (k:∀ b o,h.get? b=some o->h'.get? b=some o):NumT h' v ns :=
 let ⟨a,o,us,n,e,h1,r⟩:=t; ⟨a,o,us,n,e,k a o h1,r⟩
section
variable {prog:Program} {w:World} {A:Around} {E:Value->Shared->Prop} {s:Shared} {Q:Bool->Shared->Prop} {b:Bool}
theorem ZcD:∀ {xs ys:List Int} {us vs:List Value} {i:Nat},IntsAre us xs->IntsAre vs ys->xs.length=ys.length->Q (fF xs ys) s->PySem.W.KatLex prog w A b false Q (us.zip vs) i s
 | [],[],_,_,i,hu,hv,_,q=>by
  cases hu
  exact PySem.W.kat_nil q
 | x::xs,y::ys,_,_,i,hu,hv,hl,q=>by
  cases hu with
  | cons _ t hu =>
   cases hv with
   | cons _ t' hv =>
    rename_i us vs
    rw [List.zip_cons_cons]
    refine PySem.W.kat_cons (wpAny_eqBool_int ?_)
    unfold fF at q
    by_cases e:x=y
    ·rw [if_pos e] at q
     rw [show (x == y)=true from beq_iff_eq.mpr e]
     exact PySem.W.kat_yes (ZcD hu hv (Nat.succ.inj hl) q)
    ·rw [if_neg e] at q
     rw [show (x == y)=false from beq_eq_false_iff_ne.mpr e]
     refine PySem.W.kat_no ?_
     cases (b && i == 0) with
     | true=>exact oneLt_int q
     | false =>
      refine PySem.W.kat_one _ _ (lt_int ?_)
      exact q
 | [],_::_,_,_,_,_,_,h,_=>by cases h
 | _::_,[],_,_,_,_,_,h,_=>by cases h
theorem Zc6 {us:List Value} {ns:List Int} (h:IntsAre us ns):us.length=ns.length:=by
 induction h with
 | nil=>rfl
 | cons _ _ _ ih=>rw [List.length_cons,List.length_cons,ih]
theorem Zh4 {u v:Value} {xs ys:List Int} (hu:NumT s.heap u xs) (hv:NumT s.heap v ys) (hl:xs.length=ys.length) (q:Q (fF xs ys) s):wpAny (model prog w) A (keyLt' (tuples' b) u v) Q E s:=by
 obtain ⟨a,o,us,n,rfl,h1,h2,h3,h4⟩:=hu
 obtain ⟨a',o',us',n',rfl,k1,k2,k3,k4⟩:=hv
 refine PySem.W.kat_lt h1 h3 k1 k3 ?_
 have e:decide (us.size < us'.size)=false:=by
  rw [<- Array.length_toList,<- Array.length_toList,Zc6 h4,Zc6 k4,hl]
  exact decide_eq_false (Nat.lt_irrefl _)
 rw [e]
 exact ZcD h4 k4 hl q
end
section
variable {prog:Program} {w:World} {A:Around} {E:Value->Shared->Prop} {s:Shared}
theorem Zdp {h:Heap}:∀ {vs:List Value},(∀ v∈vs,∃ n ns,NumT h v (n::ns))->∃ fs,PySem.W.KatTups h vs fs/\fs.length=vs.length/\∀ f∈fs,∃ n t,f=Value.int n t
 | [],_=>⟨[],PySem.W.KatTups.nil,rfl,nofun⟩
 | v::vs,hv=>by
  obtain ⟨fs,h1,h2,h3⟩:=Zdp (vs:=vs) λu hu=>hv u (List.mem_cons_of_mem _ hu)
  obtain ⟨n,ns,a,o,us,k,rfl,a1,a2,a3,a4⟩:=hv v (List.mem_cons_self ..)
  cases hus:us.toList with
  | nil=>rw [hus] at a4; cases a4
  | cons u ul =>
   rw [hus] at a4
   cases a4 with
   | cons _ t hr =>
    refine ⟨.int n t::fs,PySem.W.KatTups.cons a1 a2 a3 ?_ h1,by rw [List.length_cons,List.length_cons,h2],λf hf=>?_⟩
    ·rw [<- Array.getElem?_toList,hus]
     rfl
    ·rcases List.mem_cons.mp hf with rfl | hf
     ·exact ⟨n,t,rfl⟩
     ·exact h3 f hf
open PySem.W in
theorem Zeo {cmp:Nat->Nat->(Bool->Shared->Prop)->Shared->Prop} {N:Nat} {p:Array Nat} (hc:∀ n C,1<=n->n < N->C false s->cmp (p.getD n 0) (p.getD (n - 1) 0) C s) :
  ∀ (f n:Nat) {Q:Nat->Shared->Prop},1<=n->n+f<=N->Q (n+f) s->(kas_asc p f n).kasWp cmp Q s
 | 0,n,Q,_,_,q=>q
 | f+1,n,Q,h1,h2,q=>by
  refine hc n _ h1 (by omega) ?_
  have e:n+(f+1)=n+1+f:=by omega
  rw [e] at q h2
  exact Zeo hc f (n+1) (by omega) h2 q
open PySem.W in
theorem ZfW {cmp:Nat->Nat->(Bool->Shared->Prop)->Shared->Prop} {N:Nat} (h2:2<=N) (hc:∀ n C,n+1 < N->C false s->cmp (n+1) n C s) {G:Array Nat->Shared->Prop} (g:G (List.toArray (List.range N)) s):(kas_sort N).kasWp cmp G s:=by
 have at':∀ i,i < N->(List.toArray (List.range N)).getD i 0=i:=λi hi=>by simp [Array.getD,hi]
 unfold kas_sort kas_count
 rw [KasT.kasWp_bind,KasT.kasWp_bind]
 refine Zeo (N:=N) (λn C h1 h3 q=>?_) (N - 1) 1 (Nat.le_refl _) (by omega) ?_
 ·rw [at' n h3,at' (n - 1) (by omega)]
  obtain ⟨m,rfl⟩:∃ m,n=m+1:=⟨n - 1,by omega⟩
  exact hc m C h3 q
 ·have e:1+(N - 1)=N:=by omega
  rw [e]
  show KasT.kasWp cmp (if (N == N)=true then _ else _) _ s
  rw [if_pos (beq_self_eq_true N)]
  show KasT.kasWp cmp (if N < N then _ else _) G s
  rw [if_neg (Nat.lt_irrefl N)]
  exact g
theorem oO {vs:List Value} {i:Nat} {v:Value} (h:vs[i]?=some v):vs.getD i Value.none=v:=by rw [List.getD_eq_getElem?_getD,h]; rfl
theorem ZgC (vs:List Value):(List.toArray (List.range vs.length)).toList.map (λi=>vs.getD i Value.none)=vs:=by
 apply List.ext_getElem?
 intro i
 rw [List.getElem?_map]
 by_cases hi:i < vs.length
 ·have e:(List.toArray (List.range vs.length)).toList[i]?=some i:=by simp [hi]
  rw [e,List.getElem?_eq_getElem hi]
  show some (vs.getD i Value.none)=_
  rw [oO (List.getElem?_eq_getElem hi)]
 ·have e:(List.toArray (List.range vs.length)).toList[i]?=none:=by simp; omega
  rw [e,List.getElem?_eq_none (by omega)]
  rfl
structure Rising (h:Heap) (vs:List Value) (kss:List (List Int)):Prop where
 len:vs.length=kss.length
 num:∀ (i:Nat) (v:Value) (ns:List Int),vs[i]?=some v->kss[i]?=some ns->NumT h v ns
 ne:∀ ns∈kss,ns≠[]
 up:∀ (i:Nat) (x y:List Int),kss[i]?=some x->kss[i+1]?=some y->y.length=x.length/\fF y x=false
theorem Rising.keeps {h h':Heap} {vs:List Value} {kss:List (List Int)} (r:Rising h vs kss) (k:∀ v∈vs,∀ ns,NumT h v ns->NumT h' v ns):Rising h' vs kss :=
 ⟨r.len,λi v ns a b=>k v (List.mem_of_getElem? a) ns (r.num i v ns a b),r.ne,r.up⟩
theorem Rising.head {h:Heap} {vs:List Value} {kss:List (List Int)} (r:Rising h vs kss):∀ v∈vs,∃ n ns,NumT h v (n::ns):=λv hv=>by
 obtain ⟨i,hi,e⟩:=List.mem_iff_getElem.mp hv
 have hk:i < kss.length:=by rw [<- r.len]; exact hi
 have q:=r.num i v kss[i] (by rw [List.getElem?_eq_getElem hi,e]) (List.getElem?_eq_getElem hk)
 have n0:=r.ne kss[i] (List.getElem_mem hk)
 cases e2:kss[i] with
 | nil=>exact absurd e2 n0
 | cons n ns=>exact ⟨n,ns,e2 ▸ q⟩
theorem ZfV {a:Addr} {vs:List Value} {n:Nat} {P:PySem.Fin->Shared->Prop} (ho:s.heap.get? a=some (seqObj "list" vs.toArray n)) {kss:List (List Int)} (hr:Rising s.heap vs kss) (h64:vs.length < 64)
  (h:P (.done (.ret .none)) { s with heap:=sortedHeap s.heap a vs vs.toArray }):wpAny (model prog w) A (Builtin.«list.sort» ⟨[.ref a],[]⟩) P E s:=by
 have ha:a < s.heap.objs.size:=Heap.lt_size ho
 have hsz:vs.toArray.size=vs.length:=List.size_toArray ..
 obtain ⟨e1,ho1⟩:∃ e1,(s.heap.update a (Obj.mapSeq λ_=>#[])).get? a=some (seqObj "list" #[] e1):=⟨_,get?_update_seq ho λ_=>#[]⟩
 let h3:Heap:=((s.heap.update a (Obj.mapSeq λ_=>#[])).push (seqObj "tuple" vs.toArray 0)).push (seqObj "list" #[] 0)
 have kp:∀ b o,(s.heap.update a (Obj.mapSeq λ_=>#[])).get? b=some o->h3.get? b=some o:=λb o q=>Heap.get?_push_of_some _ (Heap.get?_push_of_some _ q)
 have ho3:h3.get? a=some (seqObj "list" #[] e1):=kp _ _ ho1
 have hr3:Rising h3 vs kss:=hr.keeps λv hv ns t=>by
  obtain ⟨b,o,us,k,e,t1,t2,t3,t4⟩:=t
  have hb:b≠a:=λe=>by
   rw [e,ho] at t1
   cases t1
   have t2:Value.type "list"=Value.type "tuple":=t2
   exact absurd t2 (by decide)
  exact ⟨b,o,us,k,e,kp _ _ ((Heap.get?_update_other _ _ (Ne.symm hb)).trans t1),t2,t3,t4⟩
 rw [list_sort_plain]
 apply wpAny_bind; apply listItems_at ho rfl
 apply wpAny_bind; refine listUpdate_at ho rfl ?_ (by rw [hsz,sizeLine_eq]; omega) (Nat.zero_le _)
 apply wpAny_bind; apply seqEpoch_at ho1 rfl
 apply wpAny_bind; refine wpAny_newTuple ?_ (by show vs.length<=_; rw [sizeLine_eq]; omega)
 apply wpAny_bind; refine wpAny_newList ?_ (Nat.zero_le _)
 apply wpAny_holding
 show wpAny (model prog w) A _ P E { s with heap:=h3 }
 dsimp only
 have tail:∀ st:SortSt,(arrOf st).map (·.2)=vs.toArray->failedOf st=none->wpAny (model prog w) A (do
   let touched:=(<- seqEpoch a) != e1
   Builtin.List.listUpdate (.ref a) λ_=>(arrOf st).map (·.2)
   if let some e:=failedOf st then rule "list.sort.comparison-raised"; throw e
   if touched then rule "list.sort.modified"; raiseError "ValueError" "list modified during sort"
   ret .none) P E { s with heap:=h3 }:=λst q1 q2=>by
  apply wpAny_bind; apply seqEpoch_at ho3 rfl
  rw [q1]
  apply wpAny_bind; refine listUpdate_at ho3 rfl ?_ (Nat.zero_le _) (by rw [hsz,sizeLine_eq]; omega)
  rw [q2]
  simp only [bne_self_eq_false,Bool.false_eq_true,if_false]
  exact wpAny_pure h
 by_cases h2:vs.toArray.size < 2
 ·rw [if_pos h2,if_pos h2]
  apply wpAny_bind; apply wpAny_pure
  rw [StateT.run_pure]
  apply wpAny_bind; apply wpAny_pure
  refine tail (SortSt.mk' general' (vs.toArray.zip vs.toArray) #[] 7 none) ?_ rfl
  show (vs.toArray.zip vs.toArray).map (·.2)=_
  rw [Array.map_snd_zip (Nat.le_refl _)]
 ·rw [if_neg h2,if_neg h2]
  have h2':2<=vs.length:=by omega
  obtain ⟨fs,f1,f2,f3⟩:=Zdp hr3.head
  apply wpAny_bind
  refine PySem.W.kat_kind (s:={ s with heap:=h3 }) (T:=.type "int") f1 (by omega) (λv hv=>?_) (by decide) ?_
  ·obtain ⟨k,t,rfl⟩:=f3 v hv
   exact PySem.W.Looks.of_pure rfl
  apply wpAny_bind
  refine wpAny_mono (PySem.W.kat_run (s:={ s with heap:=h3 }) (Q:=λst s'=>s'={ s with heap:=h3 }/\(arrOf st).map (·.2)=vs.toArray/\failedOf st=none) (G:=λp s'=>p=List.toArray (List.range vs.length)/\s'={ s with heap:=h3 }) rfl h2' h64
   (λp st s' a1 a2 a3 a4=>?_) ?_) ?_ λ_ _ e=>e
  ·obtain ⟨rfl,rfl⟩:=a4
   exact ⟨rfl,(PySem.W.kat_snds rfl a2).trans (congrArg List.toArray (ZgC vs)),a3⟩
  ·refine ZfW h2' (λi C hi q=>?_) ⟨rfl,rfl⟩
   have b1:i < kss.length:=by rw [<- hr.len]; omega
   have b2:i+1 < kss.length:=by rw [<- hr.len]; omega
   have c1:vs[i]?=some vs[i]:=List.getElem?_eq_getElem (by omega)
   have c2:vs[i+1]?=some vs[i+1]:=List.getElem?_eq_getElem (by omega)
   obtain ⟨u1,u2⟩:=hr3.up i _ _ (List.getElem?_eq_getElem b1) (List.getElem?_eq_getElem b2)
   show wpAny _ _ (keyLt' _ (vs.getD (i+1) Value.none) (vs.getD i Value.none)) C _ _
   rw [oO c1,oO c2]
   exact Zh4 (hr3.num _ _ _ c2 (List.getElem?_eq_getElem b2)) (hr3.num _ _ _ c1 (List.getElem?_eq_getElem b1)) u1 (by rw [u2]; exact q)
  ·rintro ⟨⟨⟩,st⟩ s' ⟨rfl,q1,q2⟩
   exact tail st q1 q2
end
noncomputable def dw:List (List Int)->Bool
 | x::y::r=>!x.isEmpty && (y.length == x.length) && !fF y x && dw (y::r)
 | [x]=>!x.isEmpty
 | []=>true
theorem Zbl:∀ {l:List (List Int)},dw l=true->∀ x∈l,x≠[]
 | [],_,x,hx=>by cases hx
 | [a],h,x,hx=>by
  rw [List.mem_singleton.mp hx]
  intro e
  rw [e] at h
  cases h
 | a::b::r,h,x,hx=>by
  unfold dw at h
  obtain ⟨h1,h2⟩:=Bool.and_eq_true_iff.mp h
  rcases List.mem_cons.mp hx with rfl | hx
  ·intro e
   rw [e] at h1
   cases h1
  ·exact Zbl h2 x hx
theorem Zbj:∀ {l:List (List Int)},dw l=true->∀ (i:Nat) (x y:List Int),l[i]?=some x->l[i+1]?=some y->y.length=x.length/\fF y x=false
 | [],_,i,x,y,h,_=>by cases h
 | [a],_,i,x,y,_,h=>by
  rw [List.getElem?_cons_succ] at h
  cases h
 | a::b::r,h,i,x,y,h1,h2=>by
  unfold dw at h
  obtain ⟨h3,h4⟩:=Bool.and_eq_true_iff.mp h
  cases i with
  | zero =>
   cases h1
   cases h2
   obtain ⟨h5,h6⟩:=Bool.and_eq_true_iff.mp h3
   obtain ⟨_,h7⟩:=Bool.and_eq_true_iff.mp h5
   exact ⟨beq_iff_eq.mp h7,by simpa using h6⟩
  | succ i =>
   rw [List.getElem?_cons_succ] at h1 h2
   exact Zbj h4 i x y h1 h2
theorem ZhF {P:Program} {w:World} {H:Hp} {h:Heap} (ok:HOk P w H h) {b:Addr} {ns:List Int} (e:H b=some (.tup (ns.map V.int))):NumT h (.ref b) ns:=by
 obtain ⟨_,its,r,o,h1,h2,n,h3⟩:=ok b _ e
 exact ⟨b,o,its.toArray,n,rfl,h1,h2,h3,by simpa using oI r⟩
section
variable {X:Cx}
noncomputable def Zbz:List V->Hp->VK->Prop:=λxs H Q=>∃ p o l,xs=[.ref p]/\H p=some (.frz o (.dT (List.map bi l)))/\dw (l.map (·.1))=true/\l.length < 64 /\
  ∀ (q:Addr) (bs:List Addr),H q=none->bs.length=l.length->(∀ (i:Nat) (b:Addr) (k:List Int×V),bs[i]?=some b->l[i]?=some k->H b=some (.tup (k.1.map V.int)))->Q (.ref q) (upd H q (.lst (bs.map V.ref)))
theorem Zam:∀ bs:List Addr,Vals (bs.map V.ref) (bs.map Value.ref)
 | []=>.nil
 | _::bs=>.cons rfl (Zam bs)
theorem Zd2 (hc:X.calm=true):cH X (.builtin "sorted") Zbz:=by
 intro pins s σ H xs us Q I r h
 obtain ⟨p,o,l,rfl,hp,hk,h64,q⟩:=h
 obtain ⟨u,rfl,ru⟩:=cJ r
 cases ru
 obtain ⟨xs,es,ep,rk,ho,hd,rw',lo,he,_⟩:=ll I hp
 have hs:es.size=l.length:=(Zdz rk he).trans (List.length_map ..)
 have xl:xs.length=l.length:=rk.length.symm.trans (List.length_map ..)
 have hh:=I.ok.hd hc
 refine Calls.call_function_entry kind_sorted plain_sorted entry_sorted (args_sorted1 _) ?_
 unfold Builtin.«sorted»
 refine wpAny_bind (m:=checkCount "sorted" 1 1 _) (wpAny_pure (wpAny_bind (gather (A:=X.A.in1) (ZfT lo) (by simp [hh]) rw' (by rw [hs,sizeLine_eq]; omega) λh1 tk acc kp hsz it=>?_)))
 let bs:List Addr:=xs.map (·.2.1)
 have bl:bs.length=l.length:=by rw [List.length_map]; exact xl
 have hacc:acc.toList=bs.map Value.ref:=by
  apply List.ext_getElem?
  intro i
  rw [List.getElem?_map,List.getElem?_map,Array.getElem?_toList]
  by_cases hi:i < es.size
  ·have hb:i < acc.size:=by rw [it.1]; exact hi
   have h1:acc[i]?=some acc[i]:=Array.getElem?_eq_getElem hb
   obtain ⟨y,y1,y2⟩:=it.2 i _ h1
   have hbx:i < xs.length:=by rw [xl,<- hs]; exact hi
   have hx:xs[i]?=some xs[i]:=List.getElem?_eq_getElem hbx
   rw [h1,hx,y2,ZdA he hx y1]
   rfl
  ·have h1:acc[i]?=none:=Array.getElem?_eq_none (by rw [it.1]; omega)
   have hx:xs[i]?=none:=List.getElem?_eq_none (by rw [xl,<- hs]; omega)
   rw [h1,hx]
   rfl
 have hH:∀ (i:Nat) (b:Addr) (k:List Int×V),bs[i]?=some b->l[i]?=some k->H b=some (.tup (k.1.map V.int)):=λi b k h1 h2=>by
  rw [List.getElem?_map] at h1
  obtain ⟨x,hx,rfl⟩:=Option.map_eq_some_iff.mp h1
  obtain ⟨x',hx',e⟩:=rk.at i (bi k) (by rw [List.getElem?_map,h2]; rfl)
  rw [hx] at hx'
  cases hx'
  have e:H x.2.1=some (.tup ((k.1.map (Sum.inl:Int->ak)).map kV)):=e
  rw [oF] at e
  exact e
 have hr:Rising (h1.push (seqObj "list" acc.toList.toArray 0)) acc.toList (l.map (·.1)):=by
  refine ⟨by rw [hacc,List.length_map,bl,List.length_map],λi v ns a b=>?_,Zbl hk,Zbj hk⟩
  rw [hacc,List.getElem?_map] at a
  obtain ⟨c,hc',rfl⟩:=Option.map_eq_some_iff.mp a
  rw [List.getElem?_map] at b
  obtain ⟨k,hk',rfl⟩:=Option.map_eq_some_iff.mp b
  exact (ZhF I.hok (hH i c k hc' hk')).keeps λb o z=>Heap.get?_push_of_some _ (kp b o z)
 have al:acc.toList.length=l.length:=by rw [hacc,List.length_map,bl]
 refine wpAny_bind (wpAny_newList ?_ (by rw [al,sizeLine_eq]; omega))
 have g1:(h1.push (seqObj "list" acc.toList.toArray 0)).get? h1.objs.size=some (seqObj "list" acc.toList.toArray 0):=Heap.get?_push_size _ rfl
 refine wpAny_bind (wpAny_holding (wpAny_call_entry slot_list_sort ⟨_,g1,rfl⟩ entry_list_sort (ZfV (s:={ s with heap:=h1.push (seqObj "list" acc.toList.toArray 0),toks:=tk }) g1 hr (by rw [al]; exact h64) ⟨_,rfl,?_⟩) (args_list_sort _)))
 obtain ⟨e,he'⟩:=sortedHeap_at (out:=acc.toList.toArray) g1
 refine wpAny_pure ⟨_,rfl,.ref h1.objs.size,_,I.laid (a:=h1.objs.size) (o:=.lst (bs.map V.ref)) (t':=tk) (λb o z=>?_) hsz ⟨by rw [List.length_map,bl,sizeLine_eq]; omega,bs.map Value.ref,e,Zam bs,by rw [<- hacc]; exact he'⟩,rfl,q _ bs (I.hok.fresh hsz) bl hH⟩
 have hb:=Heap.lt_size (kp b o z)
 rw [sortedHeap_old (Nat.ne_of_lt hb) (by rw [Heap.size_push]; exact Nat.lt_succ_of_lt hb)]
 exact Heap.get?_push_of_some _ (kp b o z)
end
section
variable {PK:Pk} {X:Cx} {is:List Sl->Tr (List PyData)} {e:Expr}
noncomputable def ZeL (PK:Pk) (r:List V->Hp->VK->Prop) (f:List PyData->Option (List PyData)):Prop:=∀ (pa:Addr) (m:Nat) (G H:Hp) (vs:List V) (ds:List PyData) (d:List PyData) (Q:VK),Wd PK pa m G H->DnAll G vs ds->f ds=some d->Ko1 PK pa m G H d Q->r vs H Q
theorem ZeA {t:TA} {r:List V->Hp->VK->Prop} {f:List PyData->Option (List PyData)} (h:PE X e (eP r (TAd PK is))) (hv:ZeL PK r f):PE X e (c7 PK (l0 f is)):=h.imp λσ H Q hz0=>by
 obtain ⟨pa,G₀,H₀,m,ρ,G,R,z⟩:=hz0
 refine TAd.then R z λm1 xs vs G1 H1 s1 w1 R1 d1 q1=>?_
 obtain ⟨d,hd,k⟩:=Tr.ok_of q1
 exact hv _ _ _ _ _ _ _ _ w1 d1 hd (Ko1.later k s1 w1.some)
noncomputable def f7:List PyData->Option (List PyData)
 | [.dict (p::kvs)]=>(dF (p::kvs)).bind λks=>if (decide (ks.length < 64) && dw ks)=true then some (ks.map λk=>PyData.tuple (k.map PyData.int)) else none
 | _=>none
theorem ZfS {x:PyData} {d:List PyData} (h:f7 [x]=some d):kZ x=some d/\∀ l:List (List Int×V),d=(l.map λk=>PyData.tuple (k.1.map PyData.int))->l.length < 64/\dw (l.map (·.1))=true:=by
 have inj:∀ {a b:List (List Int)},(a.map λk=>PyData.tuple (k.map PyData.int))=(b.map λk=>PyData.tuple (k.map PyData.int))->a=b:=by
  intro a
  induction a with
  | nil=>intro b e; cases b with
   | nil=>rfl
   | cons _ _=>cases e
  | cons x a ih=>intro b e; cases b with
   | nil=>cases e
   | cons y b =>
    rw [List.map_cons,List.map_cons] at e
    injection e with e1 e2
    injection e1 with e1
    rw [ih e2]
    have:ints? (x.map PyData.int)=ints? (y.map PyData.int):=by rw [e1]
    rw [ints?_map,ints?_map] at this
    rw [Option.some.inj this]
 cases x with
 | dict kvs =>
  cases kvs with
  | nil=>cases h
  | cons p kvs =>
   have h:((dF (p::kvs)).bind λks=>if (decide (ks.length < 64) && dw ks)=true then some (ks.map λk=>PyData.tuple (k.map PyData.int)) else none)=some d:=h
   obtain ⟨ks,hk,h2⟩:=Option.bind_eq_some_iff.mp h
   split at h2
   ·rename_i hc
    cases h2
    obtain ⟨c1,c2⟩:=Bool.and_eq_true_iff.mp hc
    refine ⟨show (dF (p::kvs)).map _=_ by rw [hk]; rfl,λl e=>?_⟩
    have e':ks=l.map (·.1):=inj (e.trans (List.map_map (f:=λk:List Int×V=>k.1) (g:=λk:List Int=>PyData.tuple (k.map PyData.int)) (l:=l)).symm)
    have hl:ks.length=l.length:=by rw [e',List.length_map]
    exact ⟨by rw [<- hl]; exact of_decide_eq_true c1,by rw [<- e']; exact c2⟩
   ·cases h2
 | _=>cases h
theorem Wd.takes {pa:Addr} {m:Nat} (nt:iH PK) {H:Hp}:∀ {bs:List Addr} {l:List (List Int×V)} {G:Hp},Wd PK pa m G H->bs.length=l.length->(∀ (i:Nat) (b:Addr) (k:List Int×V),bs[i]?=Option.some b->l[i]?=Option.some k->H b=Option.some (.tup (k.1.map V.int))) ->
  ∃ G',Stp pa G H G' H/\Wd PK pa m G' H/\DnAll G' (bs.map V.ref) (l.map λk=>PyData.tuple (k.1.map PyData.int))
 | [],[],G,w,_,_=>⟨G,.refl,w,.nil⟩
 | [],_::_,_,_,h,_=>by cases h
 | _::_,[],_,_,h,_=>by cases h
 | b::bs,k::l,G,w,h,hb=>by
  obtain ⟨G1,s1,w1,d1⟩:=w.take nt (hb 0 b k rfl rfl)
  obtain ⟨G2,s2,w2,d2⟩:=Wd.takes nt (bs:=bs) (l:=l) w1 (Nat.succ.inj h) λi b k e1 e2=>hb (i+1) b k e1 e2
  exact ⟨G2,s1.trans s2 w1.some,w2,.cons (d1.mono s2.gs) d2⟩
theorem Zai (nt:iH PK):ZeL PK Zbz f7:=λpa m G H vs ds d Q w hv hd k=>by
 cases hv with
 | nil=>cases hd
 | cons h1 h2 =>
  cases h2 with
  | cons _ _ =>
   unfold f7 at hd
   split at hd
   ·rename_i e
    cases e
   ·cases hd
  | nil =>
   obtain ⟨h3,h4⟩:=ZfS hd
   obtain ⟨a,o,l,rfl,hG,rfl⟩:=h1.keys h3
   obtain ⟨c1,c2⟩:=h4 l rfl
   refine ⟨a,o,l,rfl,w.sub _ _ hG,c2,c1,λq bs hq hl hb=>?_⟩
   obtain ⟨G1,s1,w1,d1⟩:=Wd.takes nt w hl hb
   obtain ⟨w2,s2⟩:=w1.own (o:=.lst (bs.map V.ref)) hq
   exact k q _ _ _ (s1.trans s2 w1.some) w2 hq (w1.gnone hq) bf d1
end
section
variable {prog:Program} {w:World} {A:Around} {R:Result->Shared->Prop} {K:Type} [DecidableEq K] {knd:KeyKind prog w K} {kf:Nat->K}
end
section
variable {prog:Program} {w:World} {A:Around} {E:Value->Shared->Prop} {s:Shared} {K:Type} [DecidableEq K] {knd:KeyKind prog w K} {kf:Nat->K}
end
section
variable {prog:Program} {w:World} {A:Around} {R:Result->Shared->Prop}
noncomputable abbrev TK:=List ak×Addr×Value
noncomputable def PrT (P:Program) (w:World) (h:Heap) (d it:Addr) (items:Array Value) (xs:List TK):Prop :=
 items.size=xs.length/\∀ (i:Nat) (x:TK),xs[i]?=some x->(∃ (p:Addr) (o:Obj) (n:Nat),items[i]?=some (.ref p)/\p≠d/\p≠it/\h.get? p=some o/\o.cls=.type "tuple"/\o.data=.seq #[.ref x.2.1,x.2.2] n) /\
  x.2.1≠d/\x.2.1≠it/\(tupleKind (aX P w)).is h x.1 x.2.1
theorem oD {P:Program} {w:World} {h h':Heap} {k:List ak} {a:Addr} (t:(tupleKind (aX P w)).is h k a) (e:∀ o,h.get? a=some o->h'.get? a=some o):(tupleKind (aX P w)).is h' k a :=
 let ⟨o,us,n,h1,r⟩:=t; ⟨o,us,n,e o h1,r⟩
theorem PrT.keeps {h h':Heap} {d it:Addr} {items:Array Value} {xs:List TK} (x:PrT prog w h d it items xs) (k:∀ b o,b≠d->b≠it->h.get? b=some o->h'.get? b=some o):PrT prog w h' d it items xs :=
 ⟨x.1,λi v hv=>let ⟨⟨p,o,n,a1,a2,a3,a4,a5⟩,b1,b2,b3⟩:=x.2 i v hv; ⟨⟨p,o,n,a1,a2,a3,k _ _ a2 a3 a4,a5⟩,b1,b2,oD b3 λo q=>k _ _ b1 b2 q⟩⟩
noncomputable def dH (xs:List TK):List TK:=xs.foldl (λys x=>storedH ys x.1 x.2.1 x.2.2) []
theorem Zdm (xs:List TK) (x:TK):dH (xs++[x])=storedH (dH xs) x.1 x.2.1 x.2.2:=by
 unfold dH
 rw [List.foldl_append]
 rfl
theorem Zdn:∀ xs:List TK,(dH xs).length<=xs.length:=by
 have g:∀ (xs ys:List TK),(xs.foldl (λys x=>storedH ys x.1 x.2.1 x.2.2) ys).length<=ys.length+xs.length:=by
  intro xs
  induction xs with
  | nil=>intro ys; exact Nat.le_refl _
  | cons x xs ih =>
   intro ys
   refine Nat.le_trans (ih (storedH ys x.1 x.2.1 x.2.2)) ?_
   have:(storedH ys x.1 x.2.1 x.2.2).length<=ys.length+1:=by
    unfold storedH
    split
    ·rw [List.length_map]; omega
    ·rw [List.length_append]; exact Nat.le_refl _
   rw [List.length_cons]
   omega
 intro xs
 have:=g xs []
 rw [List.length_nil,Nat.zero_add] at this
 exact this
noncomputable def DhAt (P:Program) (w:World) (h:Heap) (d it:Addr) (ys:List TK):Prop:=h.DictOfH (tupleKind (aX P w)) d ys/\∀ y∈ys,y.2.1≠d/\y.2.1≠it
theorem DhAt.keeps {h h':Heap} {d it:Addr} {ys:List TK} (x:DhAt prog w h d it ys) (k:∀ b o,b≠it->h.get? b=some o->h'.get? b=some o) (hd:d≠it):DhAt prog w h' d it ys:=by
 obtain ⟨⟨o,es,ep,h1,h2,h3,h4,h5,h6⟩,q⟩:=x
 exact ⟨⟨o,es,ep,k _ _ hd h1,h2,h3,h4,λy hy=>oD (h5 y hy) λo z=>k _ _ (q y hy).2 z,h6⟩,q⟩
theorem ZjL (hu:A.units+1 < cLine) (hh:A.handled=none) {it l d:Addr} (items:Array Value) (xs:List TK) (hli:l≠it) (hdi:d≠it) (hdl:d≠l) (hsz:items.size<=sizeLine) :
  ∀ (k i:Nat) (s:Shared),items.size - i=k->i<=items.size->s.heap.IsListIter it l i->s.heap.IsList l items->PrT prog w s.heap d it items xs->DhAt prog w s.heap d it (dH (xs.take i)) ->
   (∀ h' tk,DhAt prog w h' d it (dH xs)->(∀ b o,b≠d->b≠it->s.heap.get? b=some o->h'.get? b=some o)->R (.ok (.ret .none)) { s with heap:=h',toks:=tk }) ->
   codeAny (model prog w) A (.builtin "dict.update.loop" ⟨[.ref d,.ref it,rawInt i,.none],[]⟩) R s:=by
 intro k
 induction k with
 | zero =>
  intro i s hk hi h1 h2 hP hD hR
  have hin:i=items.size:=by omega
  subst hin
  refine codeAny_builtin F.dk_entry_loop ?_
  rw [Around.under_plainId F.dk_plain_loop _]
  show wpAny _ A.in1 (pyNext (.ref it) >>= _) _ _ s
  refine wpAny_bind (wpAny_pyNext_list_end (A:=A.in1) hh h1 h2 (by simp) λh' eb=>?_)
  show wpAny _ A.in1 (Builtin.Dict.addKeywords d [] >>= _) _ _ _
  refine wpAny_bind (wpAny_pure ?_)
  refine wpAny_pure (hR h' s.toks ?_ λb o _ hb q=>eb b o hb q)
  rw [hP.1,List.take_length] at hD
  exact hD.keeps (λb o hb q=>eb b o hb q) hdi
 | succ k ih =>
  intro i s hk hi h1 h2 hP hD hR
  have hlt:i < items.size:=by omega
  have hlv:i < xs.length:=by rw [<- hP.1]; exact hlt
  obtain ⟨⟨p,o,n,a1,a2,a3,a4,a5,a6⟩,b1,b2,b3⟩:=hP.2 i xs[i] (List.getElem?_eq_getElem hlv)
  refine codeAny_builtin F.dk_entry_loop ?_
  rw [Around.under_plainId F.dk_plain_loop _]
  show wpAny _ A.in1 (pyNext (.ref it) >>= _) _ _ s
  refine wpAny_bind (wpAny_pyNext_list_item h1 h2 a1 λh' hit' sb=>?_)
  have hx':xs.take (i+1)=xs.take i++[xs[i]]:=by
   rw [List.take_add_one,List.getElem?_eq_getElem hlv]; rfl
  have hD':DhAt prog w h' d it (dH (xs.take i)):=hD.keeps (λb o hb q=>sb.extBut b o hb q) hdi
  have hT:h'.get? p=some o:=sb.extBut _ _ a3 a4
  have hlen:(dH (xs.take i)).length<=i:=Nat.le_trans (Zdn _) (by rw [List.length_take]; omega)
  show wpAny _ A.in1 (holding [Value.ref p] _ >>= _) _ _ _
  refine wpAny_bind (wpAny_holding (wpAny_bind ?_))
  refine wpAny_tryCatch ?_
  unfold Builtin.Dict.pairItems
  refine wpAny_bind (wpAny_typeOf (T:="tuple") ⟨_,hT,a5⟩ ?_)
  show wpAny _ _ (seqItems? (.ref p) >>= _) _ _ _
  refine wpAny_bind (wpAny_seqItems hT a6 (wpAny_pure ?_))
  show wpAny _ _ (holding [.ref xs[i].2.1,xs[i].2.2] (dictSet d (.ref xs[i].2.1) xs[i].2.2)) _ _ _
  refine wpAny_holding (wpAny_dictSet_heap (knd:=tupleKind (aX prog w)) (k:=xs[i].1) (tupleKind_room_in1 hu) (oD b3 λo q=>sb.extBut _ _ b2 q) hD'.1 (λh2' hD2 hs2=>?_) (by omega))
  have ei:rawInt ((i:Int)+1)=rawInt ((i+1:Nat):Int):=rfl
  refine wpAny_pure ⟨plainId_quiet F.dk_plain_loop _,?_⟩
  have kp:∀ b o,b≠d->h'.get? b=some o->h2'.get? b=some o:=λb o hb q=>hs2.extBut b o hb q
  have kq:∀ b o,b≠d->b≠it->s.heap.get? b=some o->h2'.get? b=some o:=λb o b1 b2 q=>kp b o b1 (sb.extBut _ _ b2 q)
  rw [ei]
  refine ih (i+1) _ (by omega) hlt ?_ ?_ (hP.keeps kq) ⟨by rw [hx',Zdm]; exact hD2,λy hy=>?_⟩ λh3 tk3 hD3 k3=>?_
  ·obtain ⟨o',g1,g2⟩:=hit'
   exact ⟨o',kp _ _ (Ne.symm hdi) g1,g2⟩
  ·obtain ⟨o',g1,g2⟩:=h2
   exact ⟨o',kq _ _ (Ne.symm hdl) hli g1,g2⟩
  ·rw [hx',Zdm] at hy
   rcases ZaE (KA:=λc=>c≠d/\c≠it) hD'.2 y hy with z | z
   ·exact z
   ·rw [z]; exact ⟨b1,b2⟩
  ·exact hR h3 tk3 hD3 λb o b1 b2 q=>k3 b o b1 b2 (kq b o b1 b2 q)
end
section
variable {prog:Program} {w:World} {A:Around} {E:Value->Shared->Prop} {s:Shared}
theorem ZkI (hu:A.units+4 < cLine) (hh:A.handled=none) {l:Addr} {items:Array Value} {xs:List TK} {o:Obj} {n:Nat} {Q:Value->Shared->Prop} (hsz:items.size<=sizeLine)
  (hl:s.heap.get? l=some o) (hc:o.cls=.type "list") (hd:o.data=.seq items n) (hn:o.dict=none) (hv:items.size=xs.length)
  (hP:∀ (i:Nat) (x:TK),xs[i]?=some x->(∃ (p:Addr) (o:Obj) (n:Nat),items[i]?=some (.ref p)/\s.heap.get? p=some o/\o.cls=.type "tuple"/\o.data=.seq #[.ref x.2.1,x.2.2] n)/\(tupleKind (aX prog w)).is s.heap x.1 x.2.1)
  (h:∀ h' tk,h'.DictOfH (tupleKind (aX prog w)) s.heap.objs.size (dH xs)->(∀ b o,s.heap.get? b=some o->h'.get? b=some o)->Q (.ref s.heap.objs.size) { s with heap:=h',toks:=tk }) :
  wpAny (model prog w) A (call (.type "dict") [.ref l]) Q E s:=by
 refine callType_codes (Q₁:=λobj s₁=>obj=.ref s.heap.objs.size/\s₁={ s with heap:=s.heap.push { cls:=.type "dict",data:=.dict #[] } }) F.kt_called_dict (F.kt_typeCall_dict_1 _) F.entry_dict_init (kt_code_dict_new _ ⟨rfl,rfl⟩) ?_
 rintro obj s₁ ⟨rfl,rfl⟩
 have hnew:(s.heap.push { cls:=.type "dict",data:=.dict #[] }).DictOfH (tupleKind (aX prog w)) s.heap.objs.size []:=Heap.DictOfH.new s.heap
 have kp:∀ b o,s.heap.get? b=some o->(s.heap.push { cls:=.type "dict",data:=.dict #[] }).get? b=some o:=λb o q=>Heap.get?_push_of_some _ q
 have hl':(s.heap.push { cls:=.type "dict",data:=.dict #[] }).get? l=some o:=kp _ _ hl
 have lt:∀ {c:Addr} {o:Obj},s.heap.get? c=some o->s.heap.objs.size≠c:=λq=>Nat.ne_of_gt (Heap.lt_size q)
 have hdl:=lt hl
 generalize hG:s.heap.push { cls:=.type "dict",data:=.dict #[] }=G at *
 refine ⟨hnew.typeIs,F.args_dict_init_2 _ _,?_⟩
 unfold Builtin.«dict.__init__»
 refine wpAny_bind ?_
 unfold Builtin.Dict.selfAndRest
 refine wpAny_bind (wpAny_notOrdered_dict hnew.typeIs ?_)
 show wpAny _ _ (pure (s.heap.objs.size,[Value.ref l])) _ _ _
 refine wpAny_pure ?_
 show wpAny _ _ (Builtin.Dict.updateFrom "dict.__init__" s.heap.objs.size (.ref l) [] .none) _ _ _
 unfold Builtin.Dict.updateFrom
 refine wpAny_bind (wpAny_typeOf (T:="list") ⟨_,hl',hc⟩ ?_)
 rw [if_pos (by decide)]
 refine wpAny_bind ?_
 refine dk_list_miss hl' hc hd hn (by exact hh) λh3 tk3 k3=>?_
 rw [if_pos (by rfl)]
 refine wpAny_bind (wpAny_rule ?_)
 have hl3:h3.get? l=some o:=k3 _ _ hl'
 refine wpAny_bind (wpAny_pyIter_list (s:={ s with heap:=h3,toks:=tk3 }) (items:=items) ⟨o,hl3,hc,n,hd⟩ ?_)
 refine wpAny_pure ⟨plainId_quiet F.dk_plain_loop _,?_⟩
 have l3:∀ {c:Addr} {o:Obj},h3.get? c=some o->c≠h3.objs.size:=λq=>Nat.ne_of_lt (Heap.lt_size q)
 have hnew3:h3.DictOfH (tupleKind (aX prog w)) s.heap.objs.size []:=by
  obtain ⟨o',es,ep,g1,g2,g3,g4,_,g6⟩:=hnew
  exact ⟨o',es,ep,k3 _ _ g1,g2,g3,g4,nofun,g6⟩
 have hd3:s.heap.objs.size≠h3.objs.size:=by
  obtain ⟨o',_,_,g1,_⟩:=hnew3
  exact l3 g1
 have kn:∀ b o,h3.get? b=some o->(h3.push { cls:=.type "list_iterator",data:=.fields #[.ref l,.int 0 0] }).get? b=some o:=λb o q=>Heap.get?_push_of_some _ q
 have hD0:DhAt prog w (h3.push { cls:=.type "list_iterator",data:=.fields #[.ref l,.int 0 0] }) s.heap.objs.size h3.objs.size []:=by
  obtain ⟨o',es,ep,g1,g2,g3,g4,_,g6⟩:=hnew3
  exact ⟨⟨o',es,ep,kn _ _ g1,g2,g3,g4,nofun,g6⟩,nofun⟩
 refine ZjL (A:=A.in1) (by show A.units+1+1 < cLine; omega) hh (it:=h3.objs.size) (l:=l) items xs (l3 hl3) hd3 hdl hsz items.size 0 _ (by omega) (Nat.zero_le _) ⟨_,Heap.get?_push_size _ rfl,rfl,rfl⟩ ⟨o,kn _ _ hl3,hc,n,hd⟩ ⟨hv,λi x q=>?_⟩ hD0 λh4 tk4 hD4 k4=>?_
 ·obtain ⟨⟨p,o',n',b1,b2,b3,b4⟩,b5⟩:=hP i x q
  obtain ⟨o2,us,n2,c1,c2⟩:=b5
  exact ⟨⟨p,o',n',b1,(lt b2).symm,l3 (k3 _ _ (kp _ _ b2)),kn _ _ (k3 _ _ (kp _ _ b2)),b3,b4⟩,(lt c1).symm,l3 (k3 _ _ (kp _ _ c1)),⟨o2,us,n2,kn _ _ (k3 _ _ (kp _ _ c1)),c2⟩⟩
 ·exact ⟨rfl,h h4 tk4 hD4.1 λb o q=>k4 b o (lt q).symm (l3 (k3 _ _ (kp _ _ q))) (kn _ _ (k3 _ _ (kp _ _ q)))⟩
end
inductive PtV (H:Hp):List V->List (List Int×V)->Prop
 | nil:PtV H [] []
 | cons {p b:Addr} {k:List Int} {v:V} {ps:List V} {kvs:List (List Int×V)}:H p=some (.tup [.ref b,v])->H b=some (.tup (k.map V.int))->PtV H ps kvs->PtV H (.ref p::ps) ((k,v)::kvs)
theorem PtV.sub {G H:Hp} (s:Sub G H) {ps:List V} {kvs:List (List Int×V)} (h:PtV G ps kvs):PtV H ps kvs:=by
 induction h with
 | nil=>exact .nil
 | cons h1 h2 _ ih=>exact .cons (s _ _ h1) (s _ _ h2) ih
theorem ZgM {P:Program} {w:World} {H:Hp} {h:Heap} (ok:HOk P w H h) {ps:List V} {kvs:List (List Int×V)} (hp:PtV H ps kvs):∀ {its:List Value},Vals ps its->∃ xs:List TK,KT H (kvs.map bi) xs/\its.length=xs.length /\
  ∀ (i:Nat) (x:TK),xs[i]?=some x->(∃ (p:Addr) (o:Obj) (n:Nat),its[i]?=some (.ref p)/\h.get? p=some o/\o.cls=.type "tuple"/\o.data=.seq #[.ref x.2.1,x.2.2] n)/\(tupleKind (aX P w)).is h x.1 x.2.1:=by
 induction hp with
 | nil=>intro its r; cases r; exact ⟨[],.nil,rfl,λi x q=>by cases q⟩
 | @cons p b k v ps kvs hp hb h2 ih =>
  intro its r
  cases r with
  | cons r1 r2 =>
   cases r1
   obtain ⟨xs,g1,g2,g3⟩:=ih r2
   obtain ⟨_,its2,q1,o,q2,q3,n,q4⟩:=ok p _ hp
   obtain ⟨u1,u2,rfl,x1,x2⟩:=Vals.two q1
   cases x1
   have hb':H b=some (.tup ((k.map (Sum.inl:Int->ak)).map kV)):=by rw [oF]; exact hb
   refine ⟨(k.map Sum.inl,b,u2)::xs,.cons ⟨rfl,hb',x2⟩ g1,by rw [List.length_cons,List.length_cons,g2],λi x q=>?_⟩
   cases i with
   | zero =>
    cases q
    exact ⟨⟨p,o,n,rfl,q2,q3,by rw [q4]⟩,ia ok hb'⟩
   | succ i =>
    rw [List.getElem?_cons_succ] at q
    obtain ⟨⟨p',o',n',a1,a2,a3,a4⟩,a5⟩:=g3 i x q
    exact ⟨⟨p',o',n',by rw [List.getElem?_cons_succ]; exact a1,a2,a3,a4⟩,a5⟩
noncomputable def jk (kvs:List (List Int×V)):List (List Int×V):=kvs.foldl (λys x=>bT ys x.1 x.2) []
theorem ZcV {H:Hp}:∀ {kvs:List (List Int×V)} {xs:List TK} {ys:List (List Int×V)} {zs:List TK},KT H (kvs.map bi) xs->KT H (ys.map bi) zs ->
  KT H ((kvs.foldl (λys x=>bT ys x.1 x.2) ys).map bi) (xs.foldl (λys x=>storedH ys x.1 x.2.1 x.2.2) zs)
 | [],xs,ys,zs,h,r=>by cases h; exact r
 | k::kvs,xs,ys,zs,h,r=>by
  rw [List.map_cons] at h
  cases h with
  | @cons _ x _ xs h1 h2 =>
   obtain ⟨h3,h4,h5⟩:=h1
   rw [List.foldl_cons,List.foldl_cons]
   refine ZcV h2 ?_
   rw [<- j7]
   have e:x.1=k.1.map Sum.inl:=h3.symm
   rw [e]
   exact r.put (k.1.map Sum.inl) h4 h5
noncomputable def rDT:List V->Hp->VK->Prop:=λxs H Q=>∃ l ps kvs,xs=[.ref l]/\H l=some (.lst ps)/\PtV H ps kvs/\∀ (q:Addr) (o:Obj),H q=none->Q (.ref q) (upd H q (.frz o (.dT ((jk kvs).map bi))))
theorem ZkJ {X:Cx} (hu:X.A.units+64 < cLine) (hc:X.calm=true):cH X (.type "dict") rDT:=by
 intro pins s σ H xs us Q I r h
 obtain ⟨l,ps,kvs,rfl,hl,hp,q⟩:=h
 obtain ⟨u,rfl,ru⟩:=cJ r
 cases ru
 obtain ⟨z,its,n,rv,h1⟩:=I.hok _ _ hl
 obtain ⟨xs,g1,g2,g3⟩:=ZgM I.hok hp rv
 have hbig:=I.big
 have hle:its.length<=sizeLine:=by rw [<- rv.length]; exact z
 refine ZkI (xs:=xs) (by omega) (I.ok.hd hc) (l:=l) (items:=its.toArray) (by rw [List.size_toArray]; exact hle) h1 rfl rfl rfl (by rw [List.size_toArray]; exact g2) (λi x hv=>?_) λh3 tk3 hD k3=>?_
 ·obtain ⟨⟨p,o,n',a1,a2,a3,a4⟩,a5⟩:=g3 i x hv
  exact ⟨⟨p,o,n',by rw [List.getElem?_toArray]; exact a1,a2,a3,a4⟩,a5⟩
 ·have kt:KT H ((jk kvs).map bi) (dH xs):=ZcV g1 (ys:=[]) (zs:=[]) .nil
  have hfr:H s.heap.objs.size=none:=I.hok.fresh (Nat.le_refl _)
  have kt':KT (upd H s.heap.objs.size (.dT ((jk kvs).map bi))) ((jk kvs).map bi) (dH xs):=kt.keeps λb ys e=>by rw [ai (bZ e hfr)]; exact e
  have I1:Inv X pins σ (upd H s.heap.objs.size (.dT ((jk kvs).map bi))) { s with heap:=h3,toks:=tk3 }:=by
   refine I.laid (a:=s.heap.objs.size) (t':=tk3) (λc o q=>k3 c o q) (Nat.le_refl _) ?_
   refine ⟨?_,beq_eq_false_iff_ne.mpr (Nat.ne_of_gt hbig),dH xs,kt',?_⟩
   ·rw [kt.length]
    exact Nat.le_trans (Zdn xs) (by rw [<- g2]; exact hle)
   ·obtain ⟨o,es,ep,e1,e2,e3,e4,_,e6⟩:=hD
    exact ⟨o,es,ep,e1,e2,e3,e4,e6⟩
  obtain ⟨o,I2⟩:=I1.knownT bf
  rw [Zfc] at I2
  exact ⟨.ref s.heap.objs.size,_,I2,rfl,q _ o hfr⟩
noncomputable def jm:List PyData->Option PyData
 | [.list ds]=>cq [] ds
 | _=>none
theorem ZdN {G:Hp}:∀ {ds:List PyData} {ps:List V} {ys:List (List Int×V)} {kvs:List (List Int×PyData)} {d:PyData},DnAll G ps ds->KP G ys kvs->cq kvs ds=some d ->
  ∃ xs zs,PtV G ps xs/\KP G (xs.foldl (λys x=>bT ys x.1 x.2) ys) zs/\zs≠[]/\d=pD zs
 | [],_,ys,kvs,d,h,r,e=>by
  cases h
  unfold cq at e
  split at e
  ·cases e
  ·rename_i hn
   cases e
   exact ⟨[],kvs,.nil,r,λz=>hn (by rw [z]; rfl),rfl⟩
 | x::ds,_,ys,kvs,d,h,r,e=>by
  cases h with
  | cons h1 h2 =>
   unfold cq at e
   split at e
   ·rename_i e0; cases e0
   ·rename_i ks v ps e0
    cases e0
    obtain ⟨ns,hi,e⟩:=Option.bind_eq_some_iff.mp e
    cases h1 with
    | tup a1 a2 =>
     cases a2 with
     | cons b1 b2 =>
      cases b2 with
      | cons b3 b4 =>
       cases b4
       cases b1 with
       | tup c1 c2 =>
        obtain ⟨e1,_⟩:=c2.ints_inv hi
        rw [e1] at c1
        obtain ⟨xs,zs,g1,g2,g3,g4⟩:=ZdN h2 (r.put ns b3) e
        exact ⟨(ns,_)::xs,zs,.cons a1 c1 g1,g2,g3,g4⟩
   ·cases e
theorem Zfa:eB rDT jm:=λPK pa m G H vs ds d Q w hv hd k=>by
 unfold jm at hd
 split at hd
 ·cases hv with
  | cons d1 d2 =>
   cases d2
   cases d1 with
   | lst a1 a2 =>
    obtain ⟨xs,zs,g1,g2,g3,rfl⟩:=ZdN a2 .nil hd
    exact ⟨_,_,xs,rfl,w.sub _ _ a1,g1.sub w.sub,λq o hq=>k.pd g3 w g2 hq o⟩
 ·cases hd
variable {PK:Pk} {X:Cx} {e:Expr}
structure Rws (H G H':Hp) (ps:List Addr) (rows:List (List PyData)):Prop where
 len:ps.length=rows.length
 row:∀ (i:Nat) (q:Addr) (r:List PyData),ps[i]?=some q->rows[i]?=some r->H q=none/\G q=none/\∃ vs,H' q=some (.lst vs)/\DnAll G vs r
theorem Rws.mem {H G H':Hp} {ps:List Addr} {rows:List (List PyData)} (h:Rws H G H' ps rows) {q:Addr} (hq:q∈ps):H q=none/\G q=none/\∃ vs,H' q=some (.lst vs):=by
 obtain ⟨i,hi,e⟩:=List.mem_iff_getElem.mp hq
 have h2:i < rows.length:=by rw [<- h.len]; exact hi
 obtain ⟨a,b,vs,c,_⟩:=h.row i q rows[i] (by rw [List.getElem?_eq_getElem hi,e]) (List.getElem?_eq_getElem h2)
 exact ⟨a,b,vs,c⟩
theorem Rws.step {pa:Addr} {H G H1 G2 H2:Hp} {ps:List Addr} {rows:List (List PyData)} (h:Rws H G H1 ps rows) (st:Stp pa G H1 G2 H2) (hp:∃ o,H pa=some o):Rws H G2 H2 ps rows:=by
 refine ⟨h.len,λi q r h1 h2=>?_⟩
 obtain ⟨a,b,vs,c,d⟩:=h.row i q r h1 h2
 have hne:q≠pa:=λe=>by
  obtain ⟨o,z⟩:=hp
  rw [<- e,a] at z; cases z
 refine ⟨a,?_,vs,st.hk _ _ c hne,DnAll.mono st.gs d⟩
 cases e:G2 q with
 | none=>rfl
 | some u =>
  rcases st.gn q u e with z | z | ⟨_,_,z⟩
  ·rw [b] at z; cases z
  ·rw [c] at z; cases z
  ·rw [c] at z; cases z
theorem Stp.old {pa:Addr} {G H G' H':Hp} (st:Stp pa G H G' H') (hp:∃ o,H' pa=some o) {p:Addr} (h:H' p=none):H p=none:=by
 cases e:H p with
 | none=>rfl
 | some u =>
  by_cases hc:p=pa
  ·subst hc
   obtain ⟨o,z⟩:=hp
   rw [h] at z; cases z
  ·rw [st.hk p u e hc] at h; cases h
noncomputable def tN (PK:Pk) (pa:Addr) (m:Nat) (G H:Hp) (rows:List (List PyData)) (Q:VK):Prop:=∀ p ps G' H',Stp pa G H G' H'->Wd PK pa m G' H'->H p=none->G' p=none->H' p=some (.lst (ps.map V.ref))->ps.Nodup->p ∉ ps->Rws H G' H' ps rows->Q (.ref p) H'
noncomputable def tL (PK:Pk) (i:List Sl->Tr (List (List PyData))):TE:=λσ H Q=>∃ pa G₀ H₀ m ρ G,Rl PK pa G₀ H₀ m σ ρ G H/\(i ρ).ok m λm' xs=>tN PK pa m' G H xs Q
noncomputable def fE (h:PyData->Tr (List PyData)):List PyData->Tr (List (List PyData))
 | []=>.ret []
 | x::xs=>(h x).bind λy=>(fE h xs).bind λys=>.ret (y::ys)
noncomputable def jv (is:List Sl->Tr (List PyData)) (n:Nat) (ix:List Nat) (g:PyData->List Sl->Option (List Sl)) (el:List Sl->Tr (List PyData)):List Sl->Tr (List (List PyData)):=λρ =>
 (is ρ).bind λxs=>if small xs.length=true then fE (λx=>(Tr.of (g x (blk n ix ρ))).bind el) xs else .fail
variable {is:List Sl->Tr (List PyData)} {i:List Sl->Tr (List PyData)}
theorem Zij {n:Nat} {ix:List Nat} {g:PyData->List Sl->Option (List Sl)} (hn:c8 n g):∀ σ H Q,tL PK (jv is n ix g i) σ H Q->fm (bX PK is) n ix (λ_=>ck PK g) (λ_=>c7 PK i) σ H Q:=by
 rintro σ H Q ⟨pa,G₀,H₀,m,ρ,G,R,z⟩
 refine ⟨pa,G₀,H₀,m,ρ,G,R,Tr.ok_mono (Tr.ok_bind.mp z) λm1 xs k J G1 H1 s1 w1 jo=>λB=>?_⟩
 obtain ⟨hs,k⟩:=dC k
 have hs:xs.length<=sizeLine:=of_decide_eq_true hs
 let el:PyData->Tr (List PyData):=λx=>(Tr.of (g x (blk n ix ρ))).bind i
 let W:Nat->Nat->St->List V->Hp->Prop:=λk mm τ ys H2=>mm=xs.length - k/\k<=xs.length/\ys.length=k/\∃ m G2 ps rows,Sub G1 G2/\Stp pa G H G2 H2/\Rl PK pa G₀ H₀ m τ (blk n ix ρ) G2 H2 /\
  ys=ps.map V.ref/\ps.Nodup/\Rws H G2 H2 ps rows/\(fE el (xs.drop k)).ok m λm' zs=>tN PK pa m' G H (rows++zs) Q
 refine ⟨W,⟨xs.length,rfl,Nat.zero_le _,rfl,m1,G1,[],[],.refl,s1,(R.step s1 w1).blk n ix,rfl,List.nodup_nil,⟨rfl,λi q r h=>by cases h⟩,k⟩,?_⟩
 rintro k mm τ ys H2 ⟨rfl,hk,hy,m2,G2,ps,rows,sb,st2,R2,rfl,nd,rw0,k2⟩
 obtain ⟨j1,j2⟩:=jo m2 G2 H2 sb R2.wd
 by_cases hlt:k < xs.length
 ·have hx:xs[k]?=some xs[k]:=by simp [hlt]
  obtain ⟨jg,jy⟩:=j1 k _ hx
  refine .inr ⟨jg,by omega,λx H3 y=>?_⟩
  obtain ⟨G3,s3,w3,d3⟩:=jy x H3 y
  rw [List.drop_eq_getElem_cons hlt] at k2
  unfold fE at k2
  rw [Tr.ok_bind,Tr.ok_bind] at k2
  obtain ⟨ρ3,hg3,k3⟩:=Tr.ok_of k2
  refine ⟨pa,G₀,H₀,m2,_,G3,_,ρ3,R2.step s3 w3,d3,hg3,λτ4 R4=>?_⟩
  refine ⟨pa,G₀,H₀,m2,ρ3,G3,R4,Tr.ok_mono k3 λm5 yd k5=>?_⟩
  intro p vs G5 H5 s5 w5 hp gp hv d5
  have s35:=s3.trans s5 w3.some
  have r3:=rw0.step s3 R.wd.some
  have hH:H p=none:=(st2.trans s3 R2.wd.some).old w3.some hp
  have hnp:p ∉ ps:=λhq=>by
   obtain ⟨_,_,us,c⟩:=r3.mem hq
   rw [hp] at c; cases c
  obtain ⟨pl,pk⟩:=hn _ _ _ hg3
  have r5:=r3.step s5 R.wd.some
  refine ⟨xs.length - (k+1),by omega,rfl,hlt,by rw [List.length_append,hy]; rfl,m5,G5,ps++[p],rows++[yd],sb.trans s35.gs,st2.trans s35 R2.wd.some,?_,by rw [List.map_append]; rfl,?_,⟨by rw [List.length_append,List.length_append,r5.len]; rfl,λi q r h1 h2=>?_⟩,?_⟩
  ·refine (R4.step s5 w5).weak pl λq sl hq=>?_
   by_cases hqn:q < n
   ·left
    unfold blk at hq
    rw [List.getElem?_append_left (by simpa using hqn),List.getElem?_replicate,if_pos hqn] at hq
    cases hq
    rfl
   ·right
    rw [pk q (Nat.le_of_not_lt hqn)]
    exact hq
  ·rw [List.nodup_append]
   exact ⟨nd,by simp,λa ha b hb e=>by
    rw [List.mem_singleton] at hb
    subst hb
    subst e
    exact hnp ha⟩
  ·by_cases hi:i < ps.length
   ·rw [List.getElem?_append_left hi] at h1
    rw [List.getElem?_append_left (by rw [<- r5.len]; exact hi)] at h2
    exact r5.row i q r h1 h2
   ·have hi':i=ps.length:=by
     have:=(List.getElem?_eq_some_iff.mp h1).1
     rw [List.length_append] at this
     have:i < ps.length+1:=this
     omega
    subst hi'
    rw [List.getElem?_append_right (Nat.le_refl _),Nat.sub_self] at h1
    rw [r5.len,List.getElem?_append_right (Nat.le_refl _),Nat.sub_self] at h2
    cases h1
    cases h2
    exact ⟨hH,gp,vs,hv,d5⟩
  ·refine Tr.ok_mono (Tr.ok_bind.mp k5) λm6 zs k6=>?_
   rw [List.append_assoc]
   exact k6
 ·have e:k=xs.length:=by omega
  subst e
  refine .inl ⟨j2,λp v H' hp ev eH=>?_⟩
  subst ev eH
  rw [List.drop_length] at k2
  have k2':tN PK pa m2 G H (rows++[]) Q:=k2
  rw [List.append_nil] at k2'
  obtain ⟨w3,s3⟩:=R2.wd.own (o:=.lst (ps.map V.ref)) hp
  refine k2' p ps G2 _ (st2.trans s3 R2.wd.some) w3 (st2.old R2.wd.some hp) (R2.wd.gnone hp) bf nd (λhq=>?_) (rw0.step s3 R.wd.some)
  obtain ⟨_,_,us,c⟩:=rw0.mem hq
  rw [hp] at c; cases c
variable {PK:Pk} {X:Cx} {e:Expr}
theorem Zcn {α:Type}:∀ {l:List α} {i j:Nat},l.Nodup->(hi:i < l.length)->(hj:j < l.length)->l[i]=l[j]->i=j
 | _::_,0,0,_,_,_,_=>rfl
 | x::l,0,j+1,h,_,hj,e=>by
  have e:x=l[j]'(Nat.lt_of_succ_lt_succ hj):=e
  exact absurd (by rw [e]; exact List.getElem_mem _) (List.nodup_cons.mp h).1
 | x::l,i+1,0,h,hi,_,e=>by
  have e:l[i]'(Nat.lt_of_succ_lt_succ hi)=x:=e
  exact absurd (by rw [<- e]; exact List.getElem_mem _) (List.nodup_cons.mp h).1
 | x::l,i+1,j+1,h,hi,hj,e=>congrArg (·+1) (Zcn (List.nodup_cons.mp h).2 (Nat.lt_of_succ_lt_succ hi) (Nat.lt_of_succ_lt_succ hj) e)
theorem Rl.rows {pa:Addr} {G₀ H₀ G H G' H' H4:Hp} {m m1 m4:Nat} {σ:St} {ρ:List Sl} {p:Addr} {ps:List Addr} {rows0 rows:List (List PyData)} (R:Rl PK pa G₀ H₀ m σ ρ G H) (s1:Stp pa G H G' H') (w1:Wd PK pa m1 G' H')
  (hp:H p=none) (gp:G' p=none) (r0:Rws H G' H' ps rows0)
  (hk:∀ b o,H' b=some o->b≠pa->b ∉ ps->H4 b=some o) (h4:H4 p=some (.lst (ps.map V.ref)))
  (pen:∃ o,H4 pa=some o/\PK.is o G' m4) (len:ps.length=rows.length)
  (row:∀ (i:Nat) (q:Addr) (r:List PyData),ps[i]?=some q->rows[i]?=some r->∃ vs,H4 q=some (.lst vs)/\DnAll G' vs r) (k:Nat) :
  ∃ Gz,Sub G' Gz/\Rl PK pa G₀ H₀ m4 (σ.set k (some (.ref p))) (ρ.set k (.d (.list (rows.map PyData.list)))) Gz H4:=by
 classical
 let Gz:Hp:=λb=>if b=p\/b∈ps then H4 b else G' b
 have yes:∀ {b},(b=p\/b∈ps)->Gz b=H4 b:=λh=>if_pos h
 have no:∀ {b},¬ (b=p\/b∈ps)->Gz b=G' b:=λh=>if_neg h
 have fresh:∀ {b},(b=p\/b∈ps)->H b=none/\G' b=none:=λ{b} h=>by
  rcases h with rfl | h
  ·exact ⟨hp,gp⟩
  ·exact ⟨(r0.mem h).1,(r0.mem h).2.1⟩
 have hpa:¬ (pa=p\/pa∈ps):=λh=>by
  obtain ⟨o,z⟩:=R.wd.some
  rw [(fresh h).1] at z; cases z
 have sb:Sub G' Gz:=λb o h=>by
  rw [no λz=>by rw [(fresh z).2] at h; cases h]
  exact h
 have keep:∀ b o,H' b=some o->b≠pa->¬ (b=p\/b∈ps)->H4 b=some o:=λb o h1 h2 h3=>hk b o h1 h2 λz=>h3 (.inr z)
 have wz:Wd PK pa m4 Gz H4:=by
  refine ⟨λb o h=>?_,by rw [no hpa]; exact w1.gpa,?_⟩
  ·by_cases hb:b=p\/b∈ps
   ·rw [yes hb] at h; exact h
   ·rw [no hb] at h
    exact keep b o (w1.sub b o h) (λz=>by subst z; rw [w1.gpa] at h; cases h) hb
  ·obtain ⟨o,h1,h2⟩:=pen
   exact ⟨o,h1,PK.mono sb h2⟩
 have st:=R.st.trans s1 R.wd.some
 have stz:Stp pa G₀ H₀ Gz H4:=by
  refine ⟨λb o h=>sb b o (st.gs b o h),λb o h=>?_,λb o h hb=>?_⟩
  ·by_cases hq:b=p\/b∈ps
   ·exact .inr (.inl (R.h0 (fresh hq).1))
   ·rw [no hq] at h; exact st.gn b o h
  ·refine keep b o (st.hk b o h hb) hb λz=>?_
   rw [R.h0 (fresh z).1] at h; cases h
 have Rz:Rl PK pa G₀ H₀ m4 σ ρ Gz H4:=by
  refine ⟨wz,stz,R.p0,λi s h=>?_,R.len,R.dj,R.dj2⟩
  obtain ⟨o,h1,h2⟩:=R.sl i s h
  refine ⟨o,h1,?_⟩
  cases h2 with
  | un=>exact .un
  | d z=>exact .d (z.mono λb o h=>sb b o (s1.gs b o h))
  | pen=>exact .pen
  | fn=>exact .fn
  | @dic q ks kvs a1 a2 a3 a4 =>
   have hq:¬ (q=p\/q∈ps):=λz=>by rw [(fresh z).1] at a1; cases a1
   have hne:q≠pa:=λe=>by
    obtain ⟨u,hu⟩:=R.p0
    rw [<- e,a3] at hu; cases hu
   refine .dic (keep q _ (s1.hk q _ a1 hne) hne hq) ?_ a3 (a4.mono λb o h=>sb b o (s1.gs b o h))
   rw [no hq]
   cases e:G' q with
   | none=>rfl
   | some u =>
    rcases s1.gn q u e with z | z | ⟨_,_,z⟩
    ·rw [a2] at z; cases z
    ·rw [a1] at z; cases z
    ·rw [a1] at z; cases z
  | @dip q ks kvs a1 a2 a3 a4 =>
   have hq:¬ (q=p\/q∈ps):=λz=>by rw [(fresh z).1] at a1; cases a1
   have hne:q≠pa:=λe=>by
    obtain ⟨u,hu⟩:=R.p0
    rw [<- e,a3] at hu; cases hu
   refine .dip (keep q _ (s1.hk q _ a1 hne) hne hq) ?_ a3 (a4.mono λb o h=>sb b o (s1.gs b o h))
   rw [no hq]
   cases e:G' q with
   | none=>rfl
   | some u =>
    rcases s1.gn q u e with z | z | ⟨_,_,z⟩
    ·rw [a2] at z; cases z
    ·rw [a1] at z; cases z
    ·rw [a1] at z; cases z
  | @own q vs xs a1 a2 a3 a4 =>
   have hq:¬ (q=p\/q∈ps):=λz=>by rw [(fresh z).1] at a1; cases a1
   have hne:q≠pa:=λe=>by
    obtain ⟨u,hu⟩:=R.p0
    rw [<- e,a3] at hu; cases hu
   refine .own (keep q _ (s1.hk q _ a1 hne) hne hq) ?_ a3 (DnAll.mono (λb o h=>sb b o (s1.gs b o h)) a4)
   rw [no hq]
   cases e:G' q with
   | none=>rfl
   | some u =>
    rcases s1.gn q u e with z | z | ⟨_,_,z⟩
    ·rw [a2] at z; cases z
    ·rw [a1] at z; cases z
    ·rw [a1] at z; cases z
 refine ⟨Gz,sb,Rz.set (.lst (by rw [yes (.inl rfl)]; exact h4) ?_) k⟩
 clear Rz stz st wz
 have yes':∀ {b},b∈ps->Gz b=H4 b:=λh=>yes (.inr h)
 clear_value Gz
 clear hk h4 no fresh keep r0
 induction ps generalizing rows with
 | nil =>
  cases rows with
  | nil=>exact .nil
  | cons _ _=>cases len
 | cons q qs ih =>
  cases rows with
  | nil=>cases len
  | cons r rs =>
   obtain ⟨vs,e1,e2⟩:=row 0 q r rfl rfl
   refine .cons (.lst (by rw [yes' (List.mem_cons_self ..)]; exact e1) (DnAll.mono sb e2)) ?_
   exact ih (Nat.succ.inj len) (λi q r h1 h2=>row (i+1) q r h1 h2) (λh=>yes (h.imp id (List.mem_cons_of_mem _))) (λh=>hpa (h.imp id (List.mem_cons_of_mem _))) (λh=>yes' (List.mem_cons_of_mem _ h))
noncomputable def gc (rows:List (List PyData)) (a b x:PyData):Option (List (List PyData)):=match a,b with
 | .int a,.int b=>(bB rows.length a).bind λn=>(rows[n]?).bind λr=>(bB r.length b).bind λl=>if dZ x=true then some (rows.set n (r.set l x)) else none
 | _,_=>none
noncomputable def iV (rows:List (List PyData)):Sl:=.d (.list (rows.map PyData.list))
noncomputable def tt (k:Nat) (A:List Sl->Tr (List (List PyData))) (v i j:List Sl->Tr PyData) (t:List Sl->Tr Ou):List Sl->Tr Ou:=λρ=>(A ρ).bind λrows =>
 if k < ρ.length then (v (ρ.set k (iV rows))).bind λx=>(i (ρ.set k (iV rows))).bind λa=>(j (ρ.set k (iV rows))).bind λb=>(Tr.of (gc rows a b x)).bind λrows'=>t (ρ.set k (iV rows')) else .fail
variable {A:List Sl->Tr (List (List PyData))} {v i j:List Sl->Tr PyData} {t:List Sl->Tr Ou} {st3 st4:Stmt} {rest:List Stmt}
theorem Zle {k:Nat} (L:PkLow PK) (h3:PS X st3 (ce (tL PK A) (cp k))) (h4:PS X st4 (ce (TAe PK v) (oV (gD (ny X.K) (eC k) (TAe PK i)) (TAe PK j) nw)))
  (hr:PSs X rest (aV PK t)):PSs X (st3::st4::rest) (aV PK (tt k A v i j t)):=(cO h3 (cO h4 hr)).imp λD σ H hz0=>by
 obtain ⟨pa,G₀,H₀,m,ρ,G,R,z⟩:=hz0
 refine ⟨pa,G₀,H₀,m,ρ,G,R,Tr.ok_mono (Tr.ok_bind.mp z) λm1 rows z1=>?_⟩
 intro p ps G1 H1 s1 w1 hp gp h1 nd npp r1
 have hl:k < ρ.length:=by
  by_cases hl:k < ρ.length
  ·exact hl
  ·rw [if_neg hl] at z1; exact z1.elim
 rw [if_pos hl] at z1
 have rowsH:∀ (i:Nat) (q:Addr) (r:List PyData),ps[i]?=some q->rows[i]?=some r->∃ vs,H1 q=some (.lst vs)/\DnAll G1 vs r:=λi q r e1 e2=>(r1.row i q r e1 e2).2.2
 obtain ⟨Gf,sf,Rf⟩:=R.rows s1 w1 hp gp r1 (λb o h _ _=>h) h1 w1.pen r1.len rowsH k
 have hnpa:p≠pa:=λz=>by
  obtain ⟨o,y⟩:=R.wd.some
  rw [<- z,hp] at y; cases y
 show TAe PK v (σ.set k (some (.ref p))) H1 _
 have hσ:(σ.set k (some (V.ref p)))[k]?=some (some (.ref p)):=List.getElem?_set_self (by rw [<- R.len]; exact hl)
 refine TAe.then Rf z1 λm2 x u G2 H2 s2 w2 R2 d2 z2=>?_
 refine ⟨.ref p,hσ,?_⟩
 refine TAe.then R2 z2 λm3 a ua G3 H3 s3 w3 R3 d3 z3=>?_
 have s13:=s2.trans s3 w2.some
 have k3:∀ b o,H1 b=some o->b≠pa->H3 b=some o:=s13.hk
 -- what is put
 have z3':=Tr.ok_bind.mp z3
 have hmid:∃ aI n q,a=.int aI/\bB rows.length aI=some n/\ps[n]?=some q:=by
  have:∃ (m':Nat) (b:PyData) (rows':_),gc rows a b x=some rows':=by
   clear z z1 z2 z3
   generalize hT:j (ρ.set k (iV rows))=T at z3'
   clear hT
   have key:∀ (T:Tr PyData) (mm:Nat) (Q:Nat->PyData->Prop),T.ok mm Q->∃ m' b,Q m' b:=by
    intro T
    induction T with
    | ret b=>intro mm Q h; exact ⟨_,_,h⟩
    | draw n kk ih=>intro mm Q h; exact ih 0 _ _ (h.2.2.2 0 (Int.le_refl _) h.2.1)
    | fail=>intro mm Q h; exact h.elim
   obtain ⟨m',b,hb⟩:=key T _ _ z3'
   rw [Tr.ok_bind] at hb
   obtain ⟨rows',hr,_⟩:=Tr.ok_of hb
   exact ⟨m',b,rows',hr⟩
  obtain ⟨_,b,rows',hr⟩:=this
  unfold gc at hr
  split at hr
  ·rename_i aI bI
   cases hn:bB rows.length aI with
   | none=>rw [hn] at hr; cases hr
   | some n =>
    rw [hn] at hr
    have hlt:=(kX hn).2.1
    exact ⟨aI,n,ps[n]'(by rw [r1.len]; exact hlt),rfl,hn,List.getElem?_eq_getElem _⟩
  ·cases hr
 obtain ⟨aI,n,q,rfl,hn,hq⟩:=hmid
 have hqm:q∈ps:=List.mem_of_getElem? hq
 have hqpa:q≠pa:=λz=>by
  obtain ⟨o,y⟩:=R.wd.some
  rw [<- z,(r1.mem hqm).1] at y; cases y
 cases d3
 refine ⟨p,ps.map V.ref,aI,.ref q,rfl,rfl,SqL.of (k3 _ _ h1 hnpa),?_,?_⟩
 ·unfold bv
  rw [List.length_map,r1.len,hn]
  show (ps.map V.ref)[n]?=_
  rw [List.getElem?_map,hq]; rfl
 refine TAe.then R3 z3 λm4 b ub G4 H4 s4 w4 R4 d4 z4=>?_
 have s14:=s13.trans s4 w3.some
 rw [Tr.ok_bind] at z4
 obtain ⟨rows',hput,z4⟩:=Tr.ok_of z4
 have hlt:=(kX hn).2.1
 obtain ⟨_,_,vs,hvs,dvs⟩:=r1.row n q rows[n] hq (List.getElem?_eq_getElem hlt)
 unfold gc at hput
 cases d4 with
 | int bI =>
  have e0:((bB rows.length aI).bind λn=>(rows[n]?).bind λr=>(bB r.length bI).bind λl=>if dZ x=true then some (rows.set n (r.set l x)) else none)=some rows':=hput
  rw [hn] at e0
  have e1:((rows[n]?).bind λr=>(bB r.length bI).bind λl=>if dZ x=true then some (rows.set n (r.set l x)) else none)=some rows':=e0
  rw [List.getElem?_eq_getElem hlt] at e1
  have e2:((bB rows[n].length bI).bind λl=>if dZ x=true then some (rows.set n (rows[n].set l x)) else none)=some rows':=e1
  cases hb:bB rows[n].length bI with
  | none=>rw [hb] at e2; cases e2
  | some l =>
   rw [hb] at e2
   have e3:(if dZ x=true then some (rows.set n (rows[n].set l x)) else none)=some rows':=e2
   have hf:dZ x=true:=by
    by_cases hf:dZ x=true
    ·exact hf
    ·rw [if_neg hf] at e3; cases e3
   rw [if_pos hf] at e3
   cases e3
   have hv4:H4 q=some (.lst vs):=s14.hk q _ hvs hqpa
   refine ⟨q,vs,bI,l,rfl,rfl,hv4,by rw [dvs.length]; exact hb,?_⟩
   obtain ⟨o1,e1',p1⟩:=w1.pen
   obtain ⟨o4,e4',p4⟩:=w4.pen
   obtain ⟨Gz,sz,Rz⟩:=R.rows (H4:=upd H4 q (.lst (vs.set l u))) (m4:=m4) (rows:=rows.set n (rows[n].set l x)) s1 w1 hp gp r1
    (λb o h hb hbp=>by rw [ai (λz=>hbp (by rw [z]; exact hqm))]; exact s14.hk b o h hb)
    (by rw [ai (λz=>npp (by rw [z]; exact hqm))]; exact s14.hk _ _ h1 hnpa)
    ⟨o4,by rw [ai (Ne.symm hqpa)]; exact e4',L.low p1 (sf.trans s14.gs) p4⟩
    (by rw [List.length_set]; exact r1.len)
    (λi q' r h1 h2=>by
     by_cases hi:i=n
     ·subst hi
      rw [hq] at h1
      cases h1
      rw [List.getElem?_set_self hlt] at h2
      cases h2
      exact ⟨_,bf,dvs.set l (Dn.flat_any d2 hf)⟩
     ·rw [List.getElem?_set_ne (Ne.symm hi)] at h2
      have hne:q'≠q:=λz=>by
       subst z
       obtain ⟨b1,b2⟩:=List.getElem?_eq_some_iff.mp h1
       obtain ⟨c1,c2⟩:=List.getElem?_eq_some_iff.mp hq
       exact hi (Zcn nd b1 c1 (b2.trans c2.symm))
      obtain ⟨us,y1,y2⟩:=rowsH i q' r h1 h2
      refine ⟨us,?_,y2⟩
      rw [ai hne]
      exact s14.hk q' _ y1 λz=>by
       obtain ⟨o,y⟩:=R.wd.some
       rw [<- z,(r1.mem (List.mem_of_getElem? h1)).1] at y; cases y) k
   exact ⟨pa,G₀,H₀,m4,_,Gz,Rz,Tr.ok_mono z4 λ_ _ k'=>Ko.later k' (s1.gs.trans sz)⟩
 | _=>cases hput
theorem Zln {st:Stmt} {is el:List Sl->Tr (List PyData)} {n k:Nat} {ix:List Nat} {g:PyData->List Sl->Option (List Sl)} (h:PS X st (ce (fm (bX PK is) n ix (λ_=>ck PK g) (λ_=>c7 PK el)) (cp k))) (hn:c8 n g):PS X st (ce (tL PK (jv is n ix g el)) (cp k)) :=
 h.imp λD σ H z=>Zij hn σ H _ z
variable {ρ:List Sl} {s:List Sl->Tr Ou} {i j kx:List Sl->Tr PyData} {is is1:List Sl->Tr (List PyData)} {k n a b:Nat} {ix:List Nat} {xs ys:List PyData}
theorem de {α:Type} {h:PyData->Tr PyData} {f g:α->PyData}:∀ {l:List α},(∀ x∈l,h (f x)=.ret (g x))->bh h (l.map f)=.ret (l.map g)
 | [],_=>rfl
 | x::l,e=>by
  rw [List.map_cons,bh,e x (List.mem_cons_self ..),Tr.ret_bind,de λy hy=>e y (List.mem_cons_of_mem _ hy)]
  rfl
theorem ZcM {α:Type} {el:List Sl->Tr PyData} {x:PyData} {f g:α->PyData} {l:List α} (h1:is1 (ρ.set a (.d x))=.ret (l.map f)) (h2:l.length<=100) (h3:∀ y∈l,el ((ρ.set a (.d x)).set b (.d (f y)))=.ret (g y)):fG a is1 b el ρ x=.ret (l.map g):=by
 unfold fG
 rw [h1,Tr.ret_bind,if_pos (decide_eq_true (by rw [List.length_map]; exact h2))]
 exact de h3
theorem Zcy {α:Type} {h:PyData->Tr (List PyData)} {f:α->PyData} {g:α->List PyData}:∀ {l:List α},(∀ x∈l,h (f x)=.ret (g x))->fB h (l.map f)=.ret (l.flatMap g)
 | [],_=>rfl
 | x::l,e=>by
  rw [List.map_cons,fB,e x (List.mem_cons_self ..),Tr.ret_bind,Zcy λy hy=>e y (List.mem_cons_of_mem _ hy)]
  rfl
theorem ZcL {α:Type} {el:List Sl->Tr PyData} {f:α->PyData} {g:α->List PyData} {l:List α} (h1:is ρ=.ret (l.map f)) (h2:l.length<=100) (h3:∀ x∈l,fG a is1 b el (blk n ix ρ) (f x)=.ret (g x)):iD is n ix a is1 b el ρ=.ret (l.flatMap g):=by
 unfold iD
 rw [h1,Tr.ret_bind,if_pos (decide_eq_true (by rw [List.length_map]; exact h2))]
 exact Zcy h3
noncomputable def cV (p:List Int×PyData):PyData:=.tuple [.tuple (p.1.map PyData.int),p.2]
theorem ZbZ {kvs:List (List Int×PyData)} {k:List Int} {v:PyData} (h:k ∉ kvs.map (·.1)):eT kvs k v=kvs++[(k,v)]:=by
 unfold eT
 rw [if_neg]
 intro e
 obtain ⟨p,hp,e⟩:=List.any_eq_true.mp e
 exact h (by rw [<- of_decide_eq_true e]; exact List.mem_map_of_mem hp)
theorem sM:∀ {l kvs:List (List Int×PyData)},kvs++l≠[]->((kvs++l).map (·.1)).Nodup->cq kvs (l.map cV)=some (pD (kvs++l))
 | [],kvs,h,_=>by
  rw [List.append_nil] at h ⊢
  unfold cq
  rw [List.map_nil]
  dsimp only
  rw [if_neg]
  intro e
  exact h (List.isEmpty_iff.mp e)
 | p::l,kvs,h,nd=>by
  rw [List.map_cons]
  unfold cV cq
  rw [ints?_map]
  show cq (eT kvs p.1 p.2) (l.map cV)=_
  have hn:p.1 ∉ kvs.map (·.1):=λz=>by
   rw [List.map_append,List.nodup_append] at nd
   exact nd.2.2 _ z _ (by rw [List.map_cons]; exact List.mem_cons_self ..) rfl
  rw [ZbZ hn]
  have e:kvs++[(p.1,p.2)]++l=kvs++p::l:=by rw [List.append_assoc]; rfl
  rw [sM (l:=l) (kvs:=kvs++[(p.1,p.2)]) (by rw [e]; exact h) (by rw [e]; exact nd),e]
theorem sP {α:Type} {g:PyData->List Sl->Option (List Sl)} {f:α->PyData} {kv:α->List Int×PyData} {l:List α} (h1:is ρ=.ret (l.map f)) (h2:l.length<=10000) (h0:l≠[]) (nd:(l.map λx=>(kv x).1).Nodup)
  (h3:∀ x∈l,(Tr.of (g (f x) (blk n ix ρ))).bind (fc kx i)=.ret (cV (kv x))):fR is n ix g kx i ρ=.ret (pD (l.map kv)):=by
 unfold fR
 rw [h1,Tr.ret_bind,if_pos (bS (by rw [List.length_map]; exact h2)),de (g:=λx=>cV (kv x)) h3,Tr.ret_bind]
 have e:l.map (λx=>cV (kv x))=(l.map kv).map cV:=by rw [List.map_map]; rfl
 rw [e,sM (kvs:=[])]
 ·rfl
 ·intro z
  exact h0 (List.map_eq_nil_iff.mp z)
 ·rw [List.nil_append,List.map_map]
  exact nd
theorem sJ {τ:List Sl} {ns:List Int} {v:PyData} (h1:kx τ=.ret (.tuple (ns.map PyData.int))) (h2:i τ=.ret v):fc kx i τ=.ret (cV (ns,v)):=by
 unfold fc
 rw [h1,Tr.ret_bind]
 unfold sK
 dsimp only
 rw [ints?_map]
 dsimp only
 rw [h2]
 rfl
theorem Zjk {l:List (List Int×PyData)} (h0:l≠[]) (nd:(l.map (·.1)).Nodup):bQ jm [.list (l.map cV)]=.ret (pD l):=by
 show Tr.of (cq [] (l.map cV))=_
 rw [sM (kvs:=[]) h0 nd]
 rfl
theorem Zdd:∀ {l:List (List Int×PyData)} {k:List Int} {v:PyData},(l.map (·.1)).Nodup->(k,v)∈l->dg (l.map λkv=>(PyData.tuple (kv.1.map PyData.int),kv.2)) k=some v
 | [],_,_,_,h=>by cases h
 | p::l,k,v,nd,h=>by
  rw [List.map_cons] at nd ⊢
  unfold dg
  rw [List.find?_cons]
  dsimp only
  rw [ints?_map]
  rcases List.mem_cons.mp h with e | h
  ·subst e
   rw [decide_eq_true rfl]
   rfl
  ·have hn:p.1≠k:=λe=>by
    rw [<- e] at h
    exact (List.nodup_cons.mp nd).1 (List.mem_map.mpr ⟨_,h,rfl⟩)
   rw [decide_eq_false λz=>hn (Option.some.inj z)]
   exact Zdd (List.nodup_cons.mp nd).2 h
theorem Zjj {l:List (List Int×PyData)} {k:List Int} {v:PyData} (nd:(l.map (·.1)).Nodup) (h:(k,v)∈l):aP fe (pD l) (.tuple (k.map PyData.int))=.ret v:=by
 show Tr.of ((ints? (k.map PyData.int)).bind (dg _))=_
 rw [ints?_map]
 show Tr.of (dg _ k)=_
 rw [Zdd nd h]
 rfl
theorem Zdr:lV k ρ=.ret (.next (ρ.set k (.dip []))):=rfl
theorem Zb4 {nn:List Sl->Tr PyData} {l:List (List Int×PyData)} {x:PyData} {ns:List Int} (h1:i ρ=.ret x) (h2:ρ[k]?=some (.dip l)) (h3:nn ρ=.ret (.tuple (ns.map PyData.int))) (h4:l.length<=5000) (h5:eW k ρ=true) (h6:ns ∉ l.map (·.1)) :
  gx k nn i ρ=.ret (.next (ρ.set k (.dip (l++[(ns,x)])))):=by
 unfold gx
 rw [h1,Tr.ret_bind,h2]
 dsimp only
 rw [h3,Tr.ret_bind]
 dsimp only
 rw [ints?_map]
 dsimp only
 rw [if_pos (by rw [bS (by omega),h5]; rfl),ZbZ h6]
theorem Zdv {l:List (List Int×PyData)} (h1:ρ[k]?=some (.dip l)) (h2:eW k ρ=true) (h3:l≠[]):fQ k s ρ=s (ρ.set k (.d (pD l))):=by
 unfold fQ lj
 rw [h1]
 dsimp only
 rw [if_pos]
 rw [h2]
 cases l with
 | nil=>exact absurd rfl h3
 | cons _ _=>rfl
theorem Zji {x:PyData} (h1:ρ[k]?=some (.d x)):fQ k s ρ=s ρ:=by
 unfold fQ lj
 rw [h1]
theorem oC:∀ l:List (List Int×PyData),dF (l.map λkv=>(PyData.tuple (kv.1.map PyData.int),kv.2))=some (l.map (·.1))
 | []=>rfl
 | p::l=>by
  rw [List.map_cons]
  unfold dF
  rw [ints?_map,oC l]
  rfl
noncomputable def oG (x:PyData):Tr (List PyData):=Tr.of (kZ x)
theorem Zjh:tD i ρ=(i ρ).bind oG:=rfl
theorem Zjg {l:List (List Int×PyData)} (h:l≠[]):oG (pD l)=.ret (l.map λkv=>PyData.tuple (kv.1.map PyData.int)):=by
 cases l with
 | nil=>exact absurd rfl h
 | cons p l =>
  show Tr.of ((dF ((p::l).map λkv=>(PyData.tuple (kv.1.map PyData.int),kv.2))).map _)=_
  rw [oC,Option.map_some,Tr.of_some,List.map_map]
  rfl
theorem Zi5 {l:List (List Int×PyData)} (h:l≠[]) (h1:l.length < 64) (h2:dw (l.map (·.1))=true):sR f7 [pD l]=.ret (l.map λkv=>PyData.tuple (kv.1.map PyData.int)):=by
 cases l with
 | nil=>exact absurd rfl h
 | cons p l =>
  show Tr.of ((dF ((p::l).map λkv=>(PyData.tuple (kv.1.map PyData.int),kv.2))).bind _)=_
  rw [oC]
  dsimp only [Option.bind_some]
  rw [if_pos (by rw [h2,decide_eq_true (by rw [List.length_map]; exact h1)]; rfl),Tr.of_some,List.map_map]
  rfl
theorem Zdu {ps:List Pr} (h:ps≠[]):bQ gh [.list (ps.map bg)]=.ret (bg (dJ ps)):=by
 show Tr.of ((prs? (ps.map bg)).bind _)=_
 rw [prs?_map]
 dsimp only [Option.bind_some]
 rw [if_neg λe=>h (List.isEmpty_iff.mp e)]
 rfl
theorem Zk5:∀ {ps:List Pr},ps≠[]->dJ ps∈ps
 | [],h=>absurd rfl h
 | x::r,_=>by
  have key:∀ (r:List Pr) (b:Pr),r.foldl (λb y=>if HT.cB y b=true then y else b) b=b\/r.foldl (λb y=>if HT.cB y b=true then y else b) b∈r:=by
   intro r
   induction r with
   | nil=>intro b; exact .inl rfl
   | cons y r ih =>
    intro b
    rw [List.foldl_cons]
    rcases ih (if HT.cB y b=true then y else b) with e | e
    ·rw [e]
     split
     ·exact .inr (List.mem_cons_self ..)
     ·exact .inl rfl
    ·exact .inr (List.mem_cons_of_mem _ e)
  show r.foldl (λb y=>if HT.cB y b=true then y else b) x∈x::r
  rcases key r x with e | e
  ·rw [e]; exact List.mem_cons_self ..
  ·exact List.mem_cons_of_mem _ e
end L2
namespace Tw
open PySem PySem.Spec PyProof.Rows L2
noncomputable abbrev Pt:=Int×Int
noncomputable def kS (p:Pt):List Int:=[p.1,p.2]
noncomputable def ao (p:Pt):PyData:=.tuple [.int p.1,.int p.2]
noncomputable def j8 (p q:Pt):Prop:=p.1 < q.1\/p.1=q.1/\p.2 < q.2
noncomputable def bO (a b:List Int):List Pt:=a.flatMap λx=>b.map λy=>(x,y)
theorem nO {a b:List Int} {p:Pt}:p∈bO a b ↔ p.1∈a/\p.2∈b:=by
 unfold bO
 rw [List.mem_flatMap]
 constructor
 ·rintro ⟨x,hx,h⟩
  obtain ⟨y,hy,rfl⟩:=List.mem_map.mp h
  exact ⟨hx,hy⟩
 ·rintro ⟨h1,h2⟩
  exact ⟨p.1,h1,List.mem_map.mpr ⟨p.2,h2,rfl⟩⟩
theorem ZgT {a b:List Int} (ha:a.Pairwise (· < ·)) (hb:b.Pairwise (· < ·)):(bO a b).Pairwise j8:=by
 unfold bO
 rw [List.pairwise_flatMap]
 refine ⟨λx _=>?_,ha.imp λ{x y} hxy p hp q hq=>?_⟩
 ·rw [List.pairwise_map]
  exact hb.imp λh=>.inr ⟨rfl,h⟩
 ·obtain ⟨u,_,rfl⟩:=List.mem_map.mp hp
  obtain ⟨v,_,rfl⟩:=List.mem_map.mp hq
  exact .inl hxy
theorem Zby (lo:Int) (n:Nat):(aq lo n).Pairwise (· < ·):=by
 unfold aq
 rw [List.pairwise_map]
 exact List.pairwise_lt_range.imp λh=>by omega
theorem ZgU (a b:List Int) (u v:Int->Bool):(bO a b).filter (λq=>u q.1 && v q.2)=bO (a.filter u) (b.filter v):=by
 have row:∀ (x:Int),(b.map λy=>(x,y)).filter (λq:Pt=>u q.1 && v q.2)=if u x=true then (b.filter v).map λy=>(x,y) else []:=λx=>by
  rw [List.filter_map]
  cases hu:u x with
  | true =>
   rw [if_pos rfl]
   congr 2
   funext y
   show (u x && v y)=v y
   rw [hu]; rfl
  | false =>
   rw [if_neg (by decide)]
   have:∀ l:List Int,l.filter ((λq:Pt=>u q.1 && v q.2) ∘ λy=>(x,y))=[]:=λl=>by
    induction l with
    | nil=>rfl
    | cons y l ih =>
     rw [List.filter_cons,if_neg]
     ·exact ih
     ·show ¬ (u x && v y)=true
      rw [hu,Bool.false_and]; decide
   rw [this]
   rfl
 unfold bO
 induction a with
 | nil=>rfl
 | cons x a ih =>
  rw [List.flatMap_cons,List.filter_append,ih,row,List.filter_cons]
  split
  ·rw [List.flatMap_cons]
  ·rw [List.nil_append]
theorem Zbx (lo:Int) (n:Nat):aq lo (n+1)=aq lo n++[lo+n]:=by unfold aq; rw [List.range_succ,List.map_append]; rfl
theorem Zbw (c:Int):∀ (n:Nat) (lo:Int),lo<=c->(aq lo n).filter (λx=>decide (c<=x))=aq c (lo+n - c).toNat:=by
 intro n lo h
 by_cases hc:c<=lo+n
 ·have e:n=(c - lo).toNat+(lo+n - c).toNat:=by omega
  have e2:lo+((c - lo).toNat:Int)=c:=by omega
  have split:aq lo n=aq lo (c - lo).toNat++aq c (lo+n - c).toNat:=by
   have:=ZgE lo (c - lo).toNat (lo+n - c).toNat
   rw [<- e,e2] at this
   exact this
  rw [split,List.filter_append]
  have f1:(aq lo (c - lo).toNat).filter (λx=>decide (c<=x))=[]:=List.filter_eq_nil_iff.mpr λx hx=>by
   have:=gb hx
   rw [decide_eq_true_eq]
   omega
  have f2:(aq c (lo+n - c).toNat).filter (λx=>decide (c<=x))=aq c (lo+n - c).toNat:=List.filter_eq_self.mpr λx hx=>by
   have:=gb hx
   rw [decide_eq_true_eq]
   omega
  rw [f1,f2]
  rfl
 ·have e:(lo+n - c).toNat=0:=by omega
  rw [e]
  exact List.filter_eq_nil_iff.mpr λx hx=>by
   have:=gb hx
   rw [decide_eq_true_eq]
   omega
theorem Zbk:∀ {l:List Pt},l.Pairwise j8->dw (l.map kS)=true
 | [],_=>rfl
 | [a],_=>rfl
 | a::b::r,h=>by
  have hab:=(List.pairwise_cons.mp h).1 b (List.mem_cons_self ..)
  have ih:=Zbk (List.pairwise_cons.mp h).2
  rw [List.map_cons,List.map_cons]
  rw [List.map_cons] at ih
  unfold dw
  rw [ih]
  have:fF (kS b) (kS a)=false:=by
   show (if b.1=a.1 then (if b.2=a.2 then false else decide (b.2 < a.2)) else decide (b.1 < a.1))=false
   rcases hab with h | ⟨h1,h2⟩
   ·rw [if_neg (by omega),decide_eq_false (by omega)]
   ·rw [if_pos h1.symm,if_neg (by omega),decide_eq_false (by omega)]
  rw [this]
  rfl
theorem ZcX {p q:Pt} (h:kS p=kS q):p=q:=by
 unfold kS at h
 injection h with h1 h2
 injection h2 with h2 _
 exact Prod.ext h1 h2
theorem hZ {l:List Pt} (h:l.Pairwise j8):(l.map kS).Nodup:=by
 unfold List.Nodup
 rw [List.pairwise_map]
 refine h.imp λ{p q} hpq e=>?_
 have e:=ZcX e
 subst e
 rcases hpq with h | ⟨_,h⟩
 ·exact absurd h (Int.lt_irrefl _)
 ·exact absurd h (Int.lt_irrefl _)
section
variable (s:Shp)
noncomputable def Shp.sts:List Pt:=bO (aq (-s.depth) s.n) (aq (-s.depth) s.n)
noncomputable def Shp.rzs (p:Pt):List Pt:=bO (aq p.1 (s.top+1 - p.1).toNat) (aq p.2 (s.top+1 - p.2).toNat)
noncomputable def Shp.tb (F:Int->Int->Int):List (List Int×PyData):=s.sts.map λp=>(kS p,.int (F p.1 p.2))
noncomputable def wss (g:Int->Int->Int):Nat->List (List Int)->Int
 | _,[]=>0
 | i,l::ls=>ws (g i) 0 l+wss g (i+1) ls
noncomputable def aG (day:List (List Int)):Int:=(day.map List.sum).sum
noncomputable def Shp.c2 (F:Int->Int->Int) (c y1 y2 i j:Int):Int:=c * (s.day y1 i+s.day y2 j)+F (s.nx y1 i) (s.nx y2 j)
noncomputable def Shp.w2 (day:List (List Int)) (F:Int->Int->Int) (c y1 y2:Int):Int:=wss (s.c2 F c y1 y2) 0 day
noncomputable def Shp.cand (W:Int->Int->Int) (c:Int) (p:Pt):List Pr:=(s.rzs p).map λq=>(c * s.ord (p.1+p.2) (q.1+q.2)+W q.1 q.2,kS q)
noncomputable def Shp.bp (W:Int->Int->Int) (c:Int) (p:Pt):Pr:=dJ (s.cand W c p)
noncomputable def Shp.dk:List (List (List Int))->(Int->Int->Int)×Int
 | []=>(λa b=>s.fin a+s.fin b,1)
 | day::r=>(λa b=>(s.bp (s.w2 day (Shp.dk r).1 (Shp.dk r).2) ((Shp.dk r).2 * aG day) (a,b)).1,(Shp.dk r).2 * aG day)
noncomputable def Shp.pick (day:List (List Int)) (r:List (List (List Int))) (p:Pt):Pr:=s.bp (s.w2 day (s.dk r).1 (s.dk r).2) ((s.dk r).2 * aG day) p
noncomputable def Shp.ddayL (day:List (List Int)) (r:List (List (List Int))):List PyData:=s.sts.map λp=>.tuple [gF (s.pick day r p).1 ((s.dk r).2 * aG day),.tuple ((s.pick day r p).2.map PyData.int)]
noncomputable def Shp.dtab:List (List (List Int))->List PyData
 | []=>[]
 | day::r=>.tuple (s.ddayL day r)::Shp.dtab r
end
section
variable {s:Shp}
theorem cw (h:s.Ok) {p:Pt}:p∈s.sts ↔ (-s.depth<=p.1/\p.1<=s.top)/\(-s.depth<=p.2/\p.2<=s.top):=by
 have:=h.n_eq
 have key:∀ x:Int,x∈aq (-s.depth) s.n ↔ -s.depth<=x/\x<=s.top:=λx=>by
  constructor
  ·intro hx
   have:=gb hx
   omega
  ·intro hx
   unfold aq
   exact List.mem_map.mpr ⟨(x+s.depth).toNat,List.mem_range.mpr (by omega),by omega⟩
 unfold Shp.sts
 rw [nO,key,key]
theorem gH {p q:Pt} (h1:p.1<=s.top) (h2:p.2<=s.top):q∈s.rzs p ↔ (p.1<=q.1/\q.1<=s.top)/\(p.2<=q.2/\q.2<=s.top):=by
 have key:∀ (a x:Int),a<=s.top->(x∈aq a (s.top+1 - a).toNat ↔ a<=x/\x<=s.top):=λa x ha=>by
  constructor
  ·intro hx
   have:=gb hx
   omega
  ·intro hx
   unfold aq
   exact List.mem_map.mpr ⟨(x - a).toNat,List.mem_range.mpr (by omega),by omega⟩
 unfold Shp.rzs
 rw [nO,key _ _ h1,key _ _ h2]
theorem fZ (s:Shp):s.sts.Pairwise j8:=ZgT (Zby _ _) (Zby _ _)
theorem gE (h:s.Ok):s.sts≠[]:=by
 have:=h.t0
 have:=h.d0
 exact List.ne_nil_of_mem ((cw h (p:=(0,0))).mpr ⟨⟨by show -s.depth<=(0:Int); omega,by show (0:Int)<=s.top; omega⟩,⟨by show -s.depth<=(0:Int); omega,by show (0:Int)<=s.top; omega⟩⟩)
theorem eQ (s:Shp):s.sts.length=s.n * s.n:=by
 unfold Shp.sts bO
 rw [List.length_flatMap]
 have:((aq (-s.depth) s.n).map λx=>((aq (-s.depth) s.n).map λy=>(x,y)).length)=(aq (-s.depth) s.n).map λ_=>s.n:=List.map_congr_left λx _=>by rw [List.length_map,dA]
 rw [this,List.map_const',List.sum_replicate_nat,dA]
theorem mD (h:s.Ok) {p:Pt} (hp:p∈s.sts):s.sts.filter (λq=>decide (p.1<=q.1) && decide (p.2<=q.2))=s.rzs p:=by
 have hn:=h.n_eq
 obtain ⟨⟨a1,a2⟩,b1,b2⟩:=(cw h).mp hp
 unfold Shp.sts Shp.rzs
 rw [ZgU _ _ (λx=>decide (p.1<=x)) (λx=>decide (p.2<=x)),Zbw _ _ _ a1,Zbw _ _ _ b1]
 have e1:-s.depth+(s.n:Int) - p.1=s.top+1 - p.1:=by omega
 have e2:-s.depth+(s.n:Int) - p.2=s.top+1 - p.2:=by omega
 rw [e1,e2]
theorem my (h:s.Ok) (F:Int->Int->Int):s.tb F≠[]:=λe=>gE h (List.map_eq_nil_iff.mp e)
theorem Zau (s:Shp) (F:Int->Int->Int):(s.tb F).map (·.1)=s.sts.map kS:=by unfold Shp.tb; rw [List.map_map]; rfl
theorem Zfq (s:Shp) (F:Int->Int->Int):((s.tb F).map (·.1)).Nodup:=by rw [Zau]; exact hZ (fZ s)
theorem jL (h:s.Ok) {F:Int->Int->Int} {a b:Int} (h1:-s.depth<=a) (h2:a<=s.top) (h3:-s.depth<=b) (h4:b<=s.top):aP fe (pD (s.tb F)) (.tuple [.int a,.int b])=.ret (.int (F a b)) :=
 Zjj (k:=[a,b]) (Zfq s F) (List.mem_map.mpr ⟨(a,b),(cw h).mpr ⟨⟨h1,h2⟩,h3,h4⟩,rfl⟩)
theorem mx (h:s.Ok) (h7:s.n<=7) (F:Int->Int->Int):sR f7 [pD (s.tb F)]=.ret (s.sts.map ao):=by
 have hl:(s.tb F).length < 64:=by
  unfold Shp.tb
  rw [List.length_map,eQ]
  have:s.n * s.n<=7 * 7:=Nat.mul_le_mul h7 h7
  omega
 rw [Zi5 (my h F) hl (by rw [Zau]; exact Zbk (fZ s))]
 unfold Shp.tb
 rw [List.map_map]
 rfl
theorem Zfr (h:s.Ok) (F:Int->Int->Int):oG (pD (s.tb F))=.ret (s.sts.map ao):=by
 rw [Zjg (my h F)]
 unfold Shp.tb
 rw [List.map_map]
 rfl
theorem ni (h:s.Ok) {p:Pt} (hp:p∈s.sts):s.rzs p≠[]:=by
 obtain ⟨⟨a1,a2⟩,b1,b2⟩:=(cw h).mp hp
 exact List.ne_nil_of_mem ((gH a2 b2 (q:=p)).mpr ⟨⟨Int.le_refl _,a2⟩,Int.le_refl _,b2⟩)
theorem Zeb (h:s.Ok) {W:Int->Int->Int} {c:Int} {p:Pt} (hp:p∈s.sts):∃ q∈s.rzs p,s.bp W c p=(c * s.ord (p.1+p.2) (q.1+q.2)+W q.1 q.2,kS q):=by
 have hn:s.cand W c p≠[]:=λe=>ni h hp (List.map_eq_nil_iff.mp e)
 obtain ⟨q,hq,e⟩:=List.mem_map.mp (Zk5 hn)
 exact ⟨q,hq,e.symm⟩
theorem Zbm {α:Type} {g:α->PyData} {fs:List α} {pre post:List PyData} {x:PyData} (h:(fs.map g).reverse=pre++x::post):∃ d:α,x=g d/\pre.length < fs.length/\fs.drop (fs.length - (pre.length+1))=d::fs.drop (fs.length - pre.length):=by
 have h1:((fs.map g).reverse)[pre.length]?=some x:=by rw [h]; simp
 have hl:pre.length < ((fs.map g).reverse).length:=(List.getElem?_eq_some_iff.mp h1).1
 rw [List.length_reverse,List.length_map] at hl
 rw [List.getElem?_reverse (by rw [List.length_map]; exact hl),List.length_map,List.getElem?_map] at h1
 obtain ⟨d,hd,rfl⟩:=Option.map_eq_some_iff.mp h1
 refine ⟨d,rfl,hl,?_⟩
 have e:fs.length - (pre.length+1)=fs.length - 1 - pre.length:=by omega
 have e2:fs.length - pre.length=fs.length - 1 - pre.length+1:=by omega
 rw [e,e2,List.drop_eq_getElem_cons (by omega)]
 congr 1
 exact (List.getElem?_eq_some_iff.mp hd).2
theorem Zab {α:Type} {f g:α->PyData}:∀ l:List α,fi (l.map f) (l.map g)=l.map λx=>.tuple [f x,g x]
 | []=>rfl
 | x::l=>by
  have ih:=Zab (f:=f) (g:=g) l
  unfold fi at ih ⊢
  rw [List.map_cons,List.map_cons,List.zip_cons_cons,List.map_cons,ih,List.map_cons]
theorem ZfP (s:Shp):((aq (-s.depth) s.n).flatMap λx=>(aq (-s.depth) s.n).map λy=>ao (x,y))=s.sts.map ao:=by
 unfold Shp.sts bO
 rw [List.map_flatMap]
 simp only [List.map_map]
 rfl
theorem Zgn (s:Shp) (p:Pt):((aq p.1 (s.top+1 - p.1).toNat).flatMap λx=>(aq p.2 (s.top+1 - p.2).toNat).map λy=>ao (x,y))=(s.rzs p).map ao:=by
 unfold Shp.rzs bO
 rw [List.map_flatMap]
 simp only [List.map_map]
 rfl
theorem ZfM (p:Pt):bQ cf [ao p]=.ret (.int (p.1+p.2)):=by
 have e:=gr [p.1,p.2]
 have e2:[p.1,p.2].sum=p.1+p.2:=by rw [List.sum_cons,List.sum_cons,List.sum_nil,Int.add_zero]
 rw [e2] at e
 exact e
theorem o6 (day:List (List Int)):(day.map λl=>PyData.int l.sum)=(day.map List.sum).map PyData.int:=by rw [List.map_map]; rfl
structure DdB (day:List (List Int)):Prop where
 len:day.length<=3
 row:∀ l∈day,l.length<=3/\∀ w∈l,0<=w/\w<=1000
 pos:0 < aG day
theorem jE {w:Int} (h:0<=w/\w<=1000):nb 10 w:=bH (by show -1024 < _; omega) (by show _ < 1024; omega)
noncomputable def fX (s:Shp) (b:Nat) (F:Int->Int->Int):Prop:=∀ x y,-s.depth<=x->x<=s.top->-s.depth<=y->y<=s.top->nb b (F x y)
theorem eF {s:Shp} (h:s.Ok) {y:Int} (y1:-s.depth<=y) (y2:y<=s.top):nb 20 y:=by
 have:=h.t0
 have:=h.d0
 have:=h.td
 exact bH (by show -1048576 < _; omega) (by show _ < 1048576; omega)
theorem fH {k:Nat} (h:k<=1000):nb 40 (k:Int):=bH (by show -1099511627776 < _; omega) (by show _ < 1099511627776; omega)
theorem sT (h:s.Ok) {F:Int->Int->Int} {b:Nat} (hF:fX s b F) {c:Int} (hc:nb b c) {y1 y2:Int} (a1:-s.depth<=y1) (a2:y1<=s.top) (b1:-s.depth<=y2) (b2:y2<=s.top) {i j:Nat} (hi:i<=1000) (hj:j<=1000):nb (b+102) (s.c2 F c y1 y2 i j):=by
 have n1:=il h (eF h a1 a2) (fH hi)
 have n2:=il h (eF h b1 b2) (fH hj)
 have n3:=hF _ _ (gg s y1 i) (gf h a2 (show (0:Int)<=i by omega)) (gg s y2 j) (gf h b2 (show (0:Int)<=j by omega))
 unfold Shp.c2
 exact bA (dD (cQ hc (dD n1 n2)) n3) (by omega)
theorem Zae {f:Int->Int} {b:Nat}:∀ {l:List Int} {k:Nat},(∀ i:Nat,i < k+l.length->nb b (f i))->(∀ w∈l,0<=w/\w<=1000)->nb (b+10+l.length) (ws f k l)
 | [],k,_,_=>by unfold ws nb; exact Nat.pos_of_ne_zero (by simp)
 | w::l,k,hf,h=>by
  unfold ws
  have h1:=cQ (jE (h w (List.mem_cons_self ..))) (hf k (by rw [List.length_cons]; omega))
  have h2:=Zae (f:=f) (b:=b) (l:=l) (k:=k+1) (λi hi=>hf i (by rw [List.length_cons]; omega)) λv hv=>h v (List.mem_cons_of_mem _ hv)
  exact bA (dD h1 h2) (by rw [List.length_cons]; omega)
theorem Zad {g:Int->Int->Int} {b:Nat}:∀ {L:List (List Int)} {k:Nat},(∀ i j:Nat,i < k+L.length->j<=3->nb b (g i j))->(∀ l∈L,l.length<=3/\∀ w∈l,0<=w/\w<=1000)->nb (b+13+L.length) (wss g k L)
 | [],k,_,_=>by unfold wss nb; exact Nat.pos_of_ne_zero (by simp)
 | l::L,k,hg,h=>by
  unfold wss
  obtain ⟨l1,l2⟩:=h l (List.mem_cons_self ..)
  have h1:=Zae (f:=g k) (b:=b) (l:=l) (k:=0) (λj hj=>hg k j (by rw [List.length_cons]; omega) (by omega)) l2
  have h2:=Zad (g:=g) (b:=b) (L:=L) (k:=k+1) (λi j hi hj=>hg i j (by rw [List.length_cons]; omega) hj) λv hv=>h v (List.mem_cons_of_mem _ hv)
  exact bA (dD h1 h2) (by rw [List.length_cons]; omega)
theorem Ze4 (h:s.Ok) {day:List (List Int)} (hd:DdB day) {F:Int->Int->Int} {b:Nat} (hF:fX s b F) {c:Int} (hc:nb b c):fX s (b+120) (s.w2 day F c):=λy1 y2 a1 a2 b1 b2=>by
 have hl:=hd.len
 unfold Shp.w2
 exact bA (Zad (b:=b+102) (λi j hi hj=>sT h hF hc a1 a2 b1 b2 (by omega) (by omega)) hd.row) (by omega)
theorem jO:∀ {l:List Int},(∀ w∈l,0<=w/\w<=1000)->0<=l.sum/\l.sum<=1000 * l.length
 | [],_=>⟨Int.le_refl _,Int.le_refl _⟩
 | w::l,h=>by
  have h1:=h w (List.mem_cons_self ..)
  have h2:=jO (l:=l) λv hv=>h v (List.mem_cons_of_mem _ hv)
  rw [List.sum_cons,List.length_cons]
  omega
theorem mE:∀ {L:List (List Int)},(∀ l∈L,l.length<=3/\∀ w∈l,0<=w/\w<=1000)->0<=aG L/\aG L<=3000 * L.length
 | [],_=>⟨Int.le_refl _,Int.le_refl _⟩
 | l::L,h=>by
  obtain ⟨l1,l2⟩:=h l (List.mem_cons_self ..)
  have h1:=jO l2
  have h2:=mE (L:=L) λv hv=>h v (List.mem_cons_of_mem _ hv)
  have e:aG (l::L)=l.sum+aG L:=by unfold aG; rw [List.map_cons,List.sum_cons]
  rw [e,List.length_cons]
  omega
theorem f8 {day:List (List Int)} (hd:DdB day):nb 20 (aG day):=by
 have:=mE hd.row
 have:=hd.len
 exact bH (by show -1048576 < _; omega) (by show _ < 1048576; omega)
theorem nP (h:s.Ok) {x y:Int} (hx:nb 20 x) (hy:nb 20 y):nb 100 (s.ord x y):=by
 unfold Shp.ord
 refine gX (bH (by decide) (by decide)) (bA (dD h.start (cQ h.piece (fx hy hx))) (by decide))
theorem lz (h:s.Ok):∀ {ds:List (List (List Int))},(∀ d∈ds,DdB d)->fX s (102+150 * ds.length) (s.dk ds).1/\nb (102+150 * ds.length) (s.dk ds).2/\0 < (s.dk ds).2
 | [],_=>⟨λx y a1 a2 b1 b2=>bA (dD (Zdq h x a1 a2) (Zdq h y b1 b2)) (by decide),bA (show nb 102 (1:Int) from bH (by decide) (by decide)) (by decide),show (0:Int) < 1 from by decide⟩
 | day::r,hd=>by
  obtain ⟨k1,k2,k3⟩:=lz h (ds:=r) λd hd'=>hd d (List.mem_cons_of_mem _ hd')
  have hday:=hd day (List.mem_cons_self ..)
  have c1:nb (102+150 * r.length+20) ((s.dk r).2 * aG day):=cQ k2 (f8 hday)
  refine ⟨λx y a1 a2 b1 b2=>?_,bA c1 (by rw [List.length_cons]; omega),Int.mul_pos k3 hday.pos⟩
  have hp:((x,y):Pt)∈s.sts:=(cw h).mpr ⟨⟨a1,a2⟩,b1,b2⟩
  obtain ⟨q,hq,e⟩:=Zeb h (W:=s.w2 day (s.dk r).1 (s.dk r).2) (c:=(s.dk r).2 * aG day) hp
  obtain ⟨⟨q1,q2⟩,q3,q4⟩:=(gH a2 b2).mp hq
  have ht:=h.t0
  have hd0:=h.d0
  have htd:=h.td
  have q1:x<=q.1:=q1
  have q3:y<=q.2:=q3
  show nb _ (s.bp (s.w2 day (s.dk r).1 (s.dk r).2) ((s.dk r).2 * aG day) (x,y)).1
  rw [e]
  have n1:=nP h (x:=x+y) (y:=q.1+q.2) (bH (by show -1048576 < _; omega) (by show _ < 1048576; omega)) (bH (by show -1048576 < _; omega) (by show _ < 1048576; omega))
  have n2:=Ze4 h hday k1 k2 q.1 q.2 (by omega) q2 (by omega) q4
  exact bA (dD (cQ c1 n1) n2) (by rw [List.length_cons]; omega)
end
end Tw
namespace L2
open PySem PySem.Spec PyProof.Rows
noncomputable def Zb7 (c:Addr) (at' left:Int):HO:=.lst [.ref c,.int at',.int left]
structure Pen2 (H:Hp) (p c:Addr) (ns:List Int) (m:Nat):Prop where
 ex:∃ (k:Nat) (left:Int),H p=some (Zb7 c k left)/\k<=m/\0<=left
 cells:H c=some (.lst (ns.map V.int))
 len:ns.length<=63
 ne:c≠p
noncomputable def ZaH:Sp:=λvs H Q _=>∃ (p c:Addr) (ns:List Int) (m:Nat) (most:Int),vs=[.ref p,.int most]/\Pen2 H p c ns m/\m<=500000/\0 < most/\most < 1073741824 /\
 ∀ (r:Int) (H':Hp),0<=r->r < most->Pen2 H' p c ns (m+1)->Kept p H H'->Q (.int r) H'
noncomputable def ZfU (K:PySem.W.Frag):Sp:=λvs H Q _=>∃ (a:Addr) (ns:List Int),vs=[.ref a]/\SqL K H a (ns.map V.int)/\ns.length<=63 /\
 ∀ (p c:Addr) (H':Hp),H p=none->Pen2 H' p c ns 0->Same H H'->Q (.ref p) H'
noncomputable def bm (cn:Addr×List Int):Pk where
 is:=λo G m=>∃ (k:Nat) (left:Int),o=Zb7 cn.1 k left/\k<=m/\0<=left/\G cn.1=some (.lst (cn.2.map V.int))/\cn.2.length<=63
 mono:=λs ⟨k,left,e,h1,h2,h3,h4⟩=>⟨k,left,e,h1,h2,s _ _ h3,h4⟩
theorem ZgZ {cn:Addr×List Int}:PkLow (bm cn):=⟨λ⟨_,_,_,_,_,h3,_⟩ _ ⟨k,left,e,h1,h2,_,h4⟩=>⟨k,left,e,h1,h2,h3,h4⟩⟩
theorem ZgO {ι:Type} {X:Cx} {e:List Stmt} {t:ι->TS} (h:∀ i,PSs X e (t i)):PSs X e (λD σ H=>∃ i,t i D σ H):=λpins s σ H D I z=>by
 obtain ⟨i,z⟩:=z
 exact h i pins s σ H D I z
noncomputable def kO:List Sl->Tr Re:=λas=>match as with
 | [.pen,.d (.int most)]=>.draw most λr=>.ret (.d (.int r))
 | _=>.fail
theorem ZdK {as:List Sl} {m:Nat} {Z:Nat->Re->Prop} (h:(kO as).ok m Z):∃ most,as=[.pen,.d (.int most)]:=by
 unfold kO at h
 split at h
 ·exact ⟨_,rfl⟩
 ·exact h.elim
theorem ZjH {cn:Addr×List Int} {P:Program} {w:World} {K:PySem.W.Frag} {mg:Str->Option Value} {base:Heap} {x:Str} {k:Nat} {ps:List Str} (hp:ps.length=2) (C:Callee P w K mg base x k ps ZaH):ACal (bm cn) P w K mg base x k ps kO:=by
 refine ⟨?_,λas m Z h=>by obtain ⟨most,rfl⟩:=ZdK h; exact hp.symm⟩
 obtain ⟨f,fd,F,hm,hk,hb⟩:=C.ex
 refine ⟨f,fd,F.imp λvs H Q E h=>?_,hm,hk,hb⟩
 obtain ⟨hv,pa,m,G,as,wd,ar,z⟩:=h
 obtain ⟨most,rfl⟩:=ZdK z
 obtain ⟨h1,h2,h3,h4⟩:=z
 cases ar with
 | cons a1 ar =>
  cases ar with
  | cons a2 ar =>
   cases ar
   cases a1
   cases a2 with
   | d d2 =>
    cases d2
    obtain ⟨c,ns⟩:=cn
    obtain ⟨o,ho,kk,left,rfl,q1,q2,q3,q4⟩:=wd.pen
    replace q3:G c=some (.lst (ns.map V.int)):=q3
    have ncp:c≠pa:=λz=>by rw [z,wd.gpa] at q3; cases q3
    refine ⟨pa,c,ns,m,most,rfl,⟨⟨kk,left,ho,q1,q2⟩,wd.sub _ _ q3,q4,ncp⟩,by omega,h2,h3,λr H' r0 r1 P' K'=>?_⟩
    refine h4 r r0 r1 (.int r) G H' ⟨λ_ _ q=>q,λ_ _ q=>.inl q,λb o e n=>K' b o e n⟩ ⟨λb o e=>K' b o (wd.sub b o e) (λz=>by subst z; rw [wd.gpa] at e; cases e),wd.gpa,?_⟩ (.int r)
    obtain ⟨⟨k2,l2,e2,g1,g2⟩,_,_,_⟩:=P'
    exact ⟨_,e2,k2,l2,rfl,g1,g2,q3,q4⟩
noncomputable def ZaG:PySem.W.Frag->Sp:=λK vs H Q _=>∃ (a:Addr) (ns:List Int),vs=[.ref a]/\SqL K H a (ns.map V.int)/\ns.length<=63/\∀ H',Q (.bl true) H'
theorem Zik {D:Ends} {p c:Addr} {ns:List Int} {H:Hp} {σ:St} {s:List Sl->Tr Ou} {n:Nat} (P:Pen2 H p c ns 0) (hσ:σ.length=n+2) (h1:σ[1]?=some (some (.ref p))) (hrt:∀ H',D.rt (.bl true) H')
  (h:(s (.un::.pen::List.replicate n .un)).ok 0 λ_ o=>o=.ret (.d (.bool true))):∃ cn,aV (bm cn) s D σ H:=by
 obtain ⟨⟨k,l,e,hk,hl⟩,hc,hn,ncp⟩:=P
 have npc:p≠c:=Ne.symm ncp
 have key:∀ (i:Nat) (sl:Sl),(Sl.un::.pen::List.replicate n .un)[i]?=some sl->sl=.un\/(i=1/\sl=.pen):=λi sl hi=>by
  match i with
  | 0=>simp at hi; exact .inl hi.symm
  | 1=>simp at hi; exact .inr ⟨rfl,hi.symm⟩
  | i+2 =>
   simp [List.getElem?_replicate] at hi
   exact .inl hi.2.symm
 refine ⟨(c,ns),p,λb=>if b=c then H c else none,H,0,_,λb=>if b=c then H c else none,⟨⟨λb o hb=>?_,if_neg npc,?_⟩,.refl,⟨_,e⟩,λi sl hi=>?_,by simp [hσ],λi j xs ys _ hi _=>?_,λi j xs ys _ hi _=>by rcases key i _ hi with z | ⟨_,z⟩ <;> cases z⟩,Tr.ok_mono h λm o ho=>?_⟩
 ·by_cases hbc:b=c
  ·subst hbc; simpa using hb
  ·simp [hbc] at hb
 ·exact ⟨_,e,k,l,rfl,hk,hl,by simp [hc],hn⟩
 ·have hlt:i < σ.length:=by
   have:=(List.getElem?_eq_some_iff.mp hi).1
   simp at this
   omega
  rcases key i sl hi with rfl | ⟨rfl,rfl⟩
  ·exact ⟨σ[i],by simp [hlt],.un⟩
  ·exact ⟨_,h1,.pen⟩
 ·rcases key i _ hi with z | ⟨_,z⟩ <;> cases z
 ·subst ho
  intro v G H' s' w' d
  cases (show Dn G v (.bool true) from d)
  exact hrt H'
end L2
namespace My
open PySem PySem.Spec PyProof.Rows L2
noncomputable def top (i:Nat):Stmt:=PySem.Challenge.pw_twomarks_k47_double_tables_walked.main.body.getD i (.Pass ⟨0,0,0,0⟩)
noncomputable abbrev ZaX:Stmt:=top 4
noncomputable abbrev ZlT:List Str:=["one","other"]
theorem mS:FnScope ZlT ["one","other"] (aA ZaX):=⟨rfl,rfl,rfl,by decide +kernel,rfl,by decide +kernel,by decide +kernel⟩
noncomputable abbrev ZaR:Stmt:=top 5
noncomputable abbrev ZlM:List Str:=["top","bottom","divisor"]
theorem mR:FnScope ZlM ["top","bottom"] (aA ZaR):=⟨rfl,rfl,rfl,by decide +kernel,rfl,by decide +kernel,by decide +kernel⟩
noncomputable abbrev ZaQ:Stmt:=top 16
noncomputable abbrev ZlL:List Str:=["shop"]
theorem Zf5:FnScope ZlL ["shop"] (aA ZaQ):=⟨rfl,rfl,rfl,by decide +kernel,rfl,by decide +kernel,by decide +kernel⟩
noncomputable abbrev ZaT:Stmt:=top 17
noncomputable abbrev ZlO:List Str:=["shop","stock","level"]
theorem Zf8:FnScope ZlO ["shop","stock","level"] (aA ZaT):=⟨rfl,rfl,rfl,by decide +kernel,rfl,by decide +kernel,by decide +kernel⟩
noncomputable abbrev ZaU:Stmt:=top 18
noncomputable abbrev ZlP:List Str:=["shop","level","fall"]
theorem Zf9:FnScope ZlP ["shop","level","fall"] (aA ZaU):=⟨rfl,rfl,rfl,by decide +kernel,rfl,by decide +kernel,by decide +kernel⟩
noncomputable abbrev ZaW:Stmt:=top 19
noncomputable abbrev ZlS:List Str:=["shop","level","fall","stock","sold_never","held"]
theorem jT:FnScope ZlS ["shop","level","fall"] (aA ZaW):=⟨rfl,rfl,rfl,by decide +kernel,rfl,by decide +kernel,by decide +kernel⟩
noncomputable abbrev ZaV:Stmt:=top 20
noncomputable abbrev ZlR:List Str:=["shop","stock"]
theorem Zgb:FnScope ZlR ["shop","stock"] (aA ZaV):=⟨rfl,rfl,rfl,by decide +kernel,rfl,by decide +kernel,by decide +kernel⟩
noncomputable abbrev mZ:Stmt:=top 22
noncomputable abbrev l9:List Str:=["day"]
theorem Zgc:FnScope l9 ["day"] (aA mZ):=⟨rfl,rfl,rfl,by decide +kernel,rfl,by decide +kernel,by decide +kernel⟩
noncomputable abbrev mV:Stmt:=top 23
noncomputable abbrev jx:List Str:=["shop"]
theorem Zf6:FnScope jx ["shop"] (aA mV):=⟨rfl,rfl,rfl,by decide +kernel,rfl,by decide +kernel,by decide +kernel⟩
noncomputable abbrev mW:Stmt:=top 24
noncomputable abbrev jz:List Str:=["shop","stand","one","other","top"]
theorem jS:FnScope jz ["shop","stand"] (aA mW):=⟨rfl,rfl,rfl,by decide +kernel,rfl,by decide +kernel,by decide +kernel⟩
noncomputable abbrev ZaS:Stmt:=top 25
noncomputable abbrev ZlN:List Str:=["shop","stand","raised"]
theorem Zf7:FnScope ZlN ["shop","stand","raised"] (aA ZaS):=⟨rfl,rfl,rfl,by decide +kernel,rfl,by decide +kernel,by decide +kernel⟩
noncomputable abbrev mY:Stmt:=top 26
noncomputable abbrev jA:List Str:=["shop"]
theorem Zga:FnScope jA ["shop"] (aA mY):=⟨rfl,rfl,rfl,by decide +kernel,rfl,by decide +kernel,by decide +kernel⟩
noncomputable abbrev ZaP:Stmt:=top 27
noncomputable abbrev ZlK:List Str:=["shop","day","raised","ahead","scale","first","second","total","fall","line","other","weight","cost","following"]
theorem dR:FnScope ZlK ["shop","day","raised","ahead","scale"] (aA ZaP):=⟨rfl,rfl,rfl,by decide +kernel,rfl,by decide +kernel,by decide +kernel⟩
noncomputable abbrev nc:Stmt:=top 28
noncomputable abbrev md:List Str:=["shop","day","ahead","scale"]
theorem Zge:FnScope md ["shop","day","ahead","scale"] (aA nc):=⟨rfl,rfl,rfl,by decide +kernel,rfl,by decide +kernel,by decide +kernel⟩
noncomputable abbrev m8:Stmt:=top 29
noncomputable abbrev ma:List Str:=["shop","stand","behind","scale"]
theorem Zgd:FnScope ma ["shop","stand","behind","scale"] (aA m8):=⟨rfl,rfl,rfl,by decide +kernel,rfl,by decide +kernel,by decide +kernel⟩
noncomputable abbrev iQ:Stmt:=top 30
noncomputable abbrev dm:List Str:=["shop","double","days","ahead","scale","day","behind","picks"]
theorem eR:FnScope dm ["shop","double"] (aA iQ):=⟨rfl,rfl,rfl,by decide +kernel,rfl,by decide +kernel,by decide +kernel⟩
noncomputable abbrev Za0:Stmt:=top 32
noncomputable abbrev ZlW:List Str:=["_law_script"]
theorem Zgg:FnScope ZlW ["_law_script"] (aA Za0):=⟨rfl,rfl,rfl,by decide +kernel,rfl,by decide +kernel,by decide +kernel⟩
noncomputable abbrev Za6:Stmt:=top 33
noncomputable abbrev Zl2:List Str:=["_law_pen_here","_law_many","_law_digit","_law_at","_law_cell","_law_mixed"]
theorem gG:FnScope Zl2 ["_law_pen_here","_law_many"] (aA Za6):=⟨rfl,rfl,rfl,by decide +kernel,rfl,by decide +kernel,by decide +kernel⟩
noncomputable abbrev jX:Stmt:=top 34
noncomputable abbrev fh:List Str:=["_law_pen_here","_law_bound","_law_wide","_law_rows"]
theorem jW:FnScope fh ["_law_pen_here"] (aA jX):=⟨rfl,rfl,rfl,by decide +kernel,rfl,by decide +kernel,by decide +kernel⟩
noncomputable abbrev ng:Stmt:=top 35
noncomputable abbrev me:List Str:=["_law_pen_here","_law_bound","_law_top","_law_prices"]
theorem jU:FnScope me ["_law_pen_here"] (aA ng):=⟨rfl,rfl,rfl,by decide +kernel,rfl,by decide +kernel,by decide +kernel⟩
noncomputable abbrev nh:Stmt:=top 36
noncomputable abbrev mf:List Str:=["_law_pen_here"]
theorem Zgi:FnScope mf ["_law_pen_here"] (aA nh):=⟨rfl,rfl,rfl,by decide +kernel,rfl,by decide +kernel,by decide +kernel⟩
noncomputable abbrev ZaY:Stmt:=top 37
noncomputable abbrev ZlU:List Str:=["_law_shop_here"]
theorem Zgf:FnScope ZlU ["_law_shop_here"] (aA ZaY):=⟨rfl,rfl,rfl,by decide +kernel,rfl,by decide +kernel,by decide +kernel⟩
noncomputable abbrev Za2:Stmt:=top 38
noncomputable abbrev ZlY:List Str:=["_law_shop_here","_law_level","_law_fall","_law_stock","_law_never"]
theorem mU:FnScope ZlY ["_law_shop_here","_law_level","_law_fall"] (aA Za2):=⟨rfl,rfl,rfl,by decide +kernel,rfl,by decide +kernel,by decide +kernel⟩
noncomputable abbrev Za5:Stmt:=top 39
noncomputable abbrev Zl1:List Str:=["_law_shop_here","_law_stock"]
theorem Zgh:FnScope Zl1 ["_law_shop_here","_law_stock"] (aA Za5):=⟨rfl,rfl,rfl,by decide +kernel,rfl,by decide +kernel,by decide +kernel⟩
noncomputable abbrev Za1:Stmt:=top 40
noncomputable abbrev ZlX:List Str:=["_law_shop_here","_law_stand","_law_goal","_law_many"]
theorem ZaO:FnScope ZlX ["_law_shop_here","_law_stand","_law_goal"] (aA Za1):=⟨rfl,rfl,rfl,by decide +kernel,rfl,by decide +kernel,by decide +kernel⟩
noncomputable abbrev Za3:Stmt:=top 41
noncomputable abbrev ZlZ:List Str:=["_law_shop_here","_law_one","_law_later","_law_bottom","_law_goal","_law_found","_law_i","_law_line","_law_first","_law_stock","_law_j","_law_weight","_law_second","_law_other","_law_here"]
theorem dr:FnScope ZlZ ["_law_shop_here","_law_one","_law_later","_law_bottom","_law_goal"] (aA Za3):=⟨rfl,rfl,rfl,by decide +kernel,rfl,by decide +kernel,by decide +kernel⟩
noncomputable abbrev Za4:Stmt:=top 42
noncomputable abbrev Zl0:List Str:=["_law_shop_here","_law_found","_law_one","_law_other"]
theorem jV:FnScope Zl0 ["_law_shop_here"] (aA Za4):=⟨rfl,rfl,rfl,by decide +kernel,rfl,by decide +kernel,by decide +kernel⟩
noncomputable abbrev ZaZ:Stmt:=top 43
noncomputable abbrev ZlV:List Str:=["_law_top","_law_bottom","_law_one","_law_other"]
theorem mT:FnScope ZlV ["_law_top","_law_bottom"] (aA ZaZ):=⟨rfl,rfl,rfl,by decide +kernel,rfl,by decide +kernel,by decide +kernel⟩
noncomputable abbrev iR:Stmt:=top 44
noncomputable abbrev eO:List Str:=["_law_shop_here","_law_one","_law_later","_law_bottom","_law_whole","_law_means","_law_goal","_law_found","_law_stand","_law_some"]
theorem f9:FnScope eO ["_law_shop_here","_law_one","_law_later","_law_bottom"] (aA iR):=⟨rfl,rfl,rfl,by decide +kernel,rfl,by decide +kernel,by decide +kernel⟩
noncomputable abbrev iS:Stmt:=top 45
noncomputable abbrev dM:List Str:=["_law_shop_here","_law_double_here","_law_found","_law_later","_law_bottom","_law_one","_law_row"]
theorem eS:FnScope dM ["_law_shop_here","_law_double_here"] (aA iS):=⟨rfl,rfl,rfl,by decide +kernel,rfl,by decide +kernel,by decide +kernel⟩
noncomputable abbrev mX:Stmt:=top 46
noncomputable abbrev ZlQ:List Str:=["_law_script","_law_pen_here","_law_turn","_law_shop_here","_law_double_here","_law_kept","_law_due_here","_law_again"]
theorem fo:FnScope ZlQ ["_law_script"] (aA mX):=⟨rfl,rfl,rfl,by decide +kernel,rfl,by decide +kernel,by decide +kernel⟩
structure Txt (K:PySem.W.Frag) (mg:Str->Option Value):Prop where
 kw:mg "len"=none
 gZ:mg "abs"=none
 gY:mg "max"=none
 Zct:mg "min"=none
 ku:mg "repr"=none
 ZhO:mg "int"=none
 Zcu:mg "list"=none
 fy:mg "tuple"=none
 eD:mg "range"=none
 Zcs:mg "sorted"=none
 ZhM:mg "zip"=none
 fA:mg "sum"=none
 ZhP:mg "dict"=none
 ky:mg "enumerate"=none
 Zl6:mg "ValueError"=none
 ZhN:mg "reversed"=none
 Zde:∃ t,mg "TOP"=some (.int 0 t)
 Zdf:∃ t,mg "DEPTH"=some (.int 1 t)
 ZiR:∃ t,mg "START"=some (.int 2 t)
 ZiS:∃ t,mg "PIECE"=some (.int 3 t)
 ZiW:∃ t,mg "KEEP"=some (.int 4 t)
 ZiV:∃ t,mg "LACK"=some (.int 5 t)
 ZiT:∃ t,mg "LOST"=some (.int 6 t)
 ZiX:∃ t,mg "BACK"=some (.int 7 t)
 ZiU:∃ t,mg "LATE"=some (.int 8 t)
 Zj4:Def K mg "common_divisor" ZaX ["one","other"]
 ZjR:Def K mg "share" ZaR ["top","bottom"]
 ZjP:Def K mg "stocks" ZaQ ["shop"]
 ZjV:Def K mg "order_cost" ZaT ["shop","stock","level"]
 ZjW:Def K mg "next_stock" ZaU ["shop","level","fall"]
 Zj3:Def K mg "day_cost" ZaW ["shop","level","fall"]
 Zj1:Def K mg "end_cost" ZaV ["shop","stock"]
 Zj2:Def K mg "day_scale" mZ ["day"]
 ZjQ:Def K mg "stands" mV ["shop"]
 ZjT:Def K mg "raises_from" mW ["shop","stand"]
 ZjU:Def K mg "raise_cost" ZaS ["shop","stand","raised"]
 Zj0:Def K mg "end_of_both" mY ["shop"]
 ZjO:Def K mg "weighed_both" ZaP ["shop","day","raised","ahead","scale"]
 Zj6:Def K mg "behind_raises" nc ["shop","day","ahead","scale"]
 Zj5:Def K mg "cheapest_raise" m8 ["shop","stand","behind","scale"]
 ZjX:Def K mg "least_double" iQ ["shop","double"]
 Zka:Def K mg "_law_pen" Za0 ["_law_script"]
 Zki:Def K mg "_law_draw" Za6 ["_law_pen_here","_law_many"]
 Zkj:Def K mg "_law_double_day" jX ["_law_pen_here"]
 Zj8:Def K mg "_law_shop" ng ["_law_pen_here"]
 Zkk:Def K mg "_law_double" nh ["_law_pen_here"]
 Zj7:Def K mg "_law_stocks" ZaY ["_law_shop_here"]
 Zkc:Def K mg "_law_one_cost" Za2 ["_law_shop_here","_law_level","_law_fall"]
 Zkf:Def K mg "_law_end" Za5 ["_law_shop_here","_law_stock"]
 Zkb:Def K mg "_law_order" Za1 ["_law_shop_here","_law_stand","_law_goal"]
 Zkd:Def K mg "_law_mean" Za3 ["_law_shop_here","_law_one","_law_later","_law_bottom","_law_goal"]
 Zke:Def K mg "_law_ends" Za4 ["_law_shop_here"]
 Zj9:Def K mg "_law_share" ZaZ ["_law_top","_law_bottom"]
 Zkg:Def K mg "_law_due_row" iR ["_law_shop_here","_law_one","_law_later","_law_bottom"]
 Zkh:Def K mg "_law_due" iS ["_law_shop_here","_law_double_here"]
 ZjY:Def K mg "law" mX ["_law_script"]
theorem Zkx (ns:List Int) (a:Nat) (h:ns≠[]):∃ z:Int,bv (ns.map V.int) ((a:Int) % ((ns.map V.int).length:Nat))=some (.int z):=by
 have hl:0 < ns.length:=List.length_pos_iff.mpr h
 have hl':(ns.map V.int).length=ns.length:=List.length_map ..
 have e:(a:Int) % ((ns.map V.int).length:Nat)=((a % ns.length:Nat):Int):=by rw [hl']; omega
 have hlt:a % ns.length < ns.length:=Nat.mod_lt _ hl
 rw [e]
 exact ⟨ns[a % ns.length],eu (by rw [List.getElem?_map,List.getElem?_eq_getElem hlt]; rfl)⟩
section
variable {P:Program} {w:World} {K:PySem.W.Frag} {mg:Str->Option Value} {base:Heap}
theorem Zhz (T:Txt K mg):Callee P w K mg base "_law_pen" 1 ["_law_script"] (ZfU K):=by
 refine T.Zka.ok Zgg (λvs H Q E h=>?_) (λf cdv A outer s H vs Q E hr h=>?_)
 ·obtain ⟨a,ns,rfl,_⟩:=h
  rfl
 ·obtain ⟨a,ns,rfl,hS,hlen,k⟩:=h
  have hu:=e9 hr
  refine ⟨_,(gP (fu (Zb8 (bY (cP (ZkF) rfl T.Zcu boot_list (bY (Zhe Zf2 (pv 0) ZgY (ZgX bu)) cx)) (bY bu (bY bu cx)))))),?_⟩
  refine ⟨_,rfl,63,rfl,a,_,rfl,hS,λq hq=>⟨q,_,rfl,Or.inl (SqL.of bf),λc hc=>⟨by show 3<=sizeLine; decide,λp hp=>?_⟩⟩⟩
  have hcut:fL (ns.map V.int) none (some 63)=ns.map V.int:=by
   unfold fL
   have e:HT.cg (ns.map V.int).length (ns.map V.int).length (some 63)=(ns.map V.int).length:=by
    have q:=HT.Zgm (ns.map V.int).length (ns.map V.int).length 63
    rw [List.length_map] at q ⊢
    exact q.trans (Nat.min_eq_right hlen)
   rw [e]
   show ((ns.map V.int).drop 0).take ((ns.map V.int).length - 0)=_
   rw [List.drop_zero,Nat.sub_zero,List.take_length]
  have s1:Same H (upd H q (.lst (fL (ns.map V.int) none (some 63)))):=(Same.refl _).new hq
  have s2:=s1.new (o:=.lst (fL (ns.map V.int) none (some 63))) hc
  have s3:=s2.new (o:=.lst [.ref c,.int 0,.int 0]) hp
  have npc:c≠p:=λz=>by
   rw [<- z,bf] at hp
   cases hp
  refine k p c _ (s2.free hp) ⟨⟨0,0,bf,Nat.le_refl _,Int.le_refl _⟩,?_,hlen,npc⟩ s3
  rw [ai npc,bf,hcut]
theorem Zk6 {z a:Int} (h3:0<=a) (h4:a<=500000):(z % 2147483629+48017 * a+83).natAbs < 2 ^ 64:=by
 have:=Int.emod_nonneg z (by decide:(2147483629:Int)≠0)
 have:=Int.emod_lt_of_pos z (by decide:(0:Int) < 2147483629)
 omega
theorem ZhB (T:Txt K mg):Callee P w K mg base "_law_draw" 1 ["_law_pen_here","_law_many"] ZaH:=by
 refine T.Zki.ok gG (λvs H Q E h=>?_) (λf cdv A outer s H vs Q E hr h=>?_)
 ·obtain ⟨p,c,ns,m,most,rfl,_⟩:=h
  rfl
 ·obtain ⟨p,c,ns,m,most,rfl,hP,hm,h0,h1,k⟩:=h
  have hu:=e9 hr
  refine ⟨_,(cO (kb (iY gU (dU dW (pv 0) bu (λ_ _=>rfl)) bu (nomark _)) (cO (aU (i:=2) gG.nd rfl (Or.inl rfl) (bU fv (dU dW (pv 0) bu (λ_ _=>rfl)) (pv 1)))
 (cO (eU (bU nU (dU dW (pv 0) bu (λ_ _=>rfl)) (pv 1)) (iZ (pv 0) bu iO))
 (gP (fu (pv 2))))) j9)
 (cO (aU (i:=3) gG.nd rfl (Or.inl rfl) (dU dW (pv 0) bu (λ_ _=>rfl)))
 (cO (eU (bU ge (pv 3) bu) (iZ (pv 0) bu iO))
 (cO (aU (i:=4) gG.nd rfl (Or.inl rfl) (bU ge (bU nS bu (pv 3)) bu))
 (cO (PS.join (kb (iY gU (bo (lE) rfl T.kw boot_len (bY (dU dW (pv 0) bu (λ_ _=>rfl)) cx)) bu (nomark _)) (gP (aU (i:=4) gG.nd rfl (Or.inl rfl) (dU dW (dU dW (pv 0) bu (λ_ _=>rfl)) (bU fv (pv 3) (bo (lE) rfl T.kw boot_len (bY (dU dW (pv 0) bu (λ_ _=>rfl)) cx))) (λ_ _=>rfl)))) j9))
 (cO (kb (PT.join (PW.pt (ZbY (iY Zci (pv 3) (bo (lE) rfl T.kw boot_len (bY (dU dW (pv 0) bu (λ_ _=>rfl)) cx)) (nomark _)) (ZbX (iY nT (bo (ip) rfl T.gZ boot_abs (bY (pv 4) cx)) (bU nR bu bu) (nomark _)))))) (cO (eU (bU nU (bo (ip) rfl T.gZ boot_abs (bY (pv 4) cx)) (pv 1)) (iZ (pv 0) bu iO))
 (gP (fu (bU fv (bo (ip) rfl T.gZ boot_abs (bY (pv 4) cx)) (pv 1))))) j9)
 (cO (aU (i:=5) gG.nd rfl (Or.inl rfl) (bU fv (bU nR (bU ge (bU ge (bU fv (pv 4) bu) (bU nS bu (pv 3))) bu) bu) bu))
 (gP (fu (bU fv (bU nU (bU fv (bU nS (pv 5) (bU ge (bU ge (bU fv (pv 5) bu) (pv 3)) bu)) bu) bu) (pv 1))))))))))),?_⟩
  obtain ⟨⟨a,l,hd,ha,hl⟩,hc,hn,npc⟩:=hP
  have hd':H p=some (.lst [.ref c,.int a,.int l]):=hd
  have x2:bv [V.ref c,.int (a:Int),.int l] 2=some (.int l):=jp
  have x1:bv [V.ref c,.int (a:Int),.int l] 1=some (.int (a:Int)):=jq
  refine ⟨_,rfl,p,_,_,_,rfl,rfl,SqL.of hd',x2,_,_,rfl,rfl,_,rfl,?_⟩
  refine kY (λhz=>?_) (λhz=>?_)
  ·refine ⟨_,rfl,p,_,_,_,rfl,rfl,SqL.of hd',x2,_,rfl,_,_,rfl,rfl,h0,?_⟩
   refine ⟨_,rfl,p,_,_,_,rfl,rfl,SqL.of hd',x2,_,rfl,_,_,rfl,rfl,⟨h0,h1⟩,_,rfl,p,_,2,2,rfl,rfl,hd',rfl,?_⟩
   refine ⟨_,rfl,k _ _ (Int.emod_nonneg _ (by omega)) (Int.emod_lt_of_pos _ h0) ⟨⟨a,l / most,bf,by omega,Int.ediv_nonneg hl (by omega)⟩,by rw [ai npc]; exact hc,hn,npc⟩ Kept.refl.pen⟩
  ·refine ⟨_,rfl,p,_,_,_,rfl,rfl,SqL.of hd',x1,?_⟩
   refine ⟨_,rfl,_,_,rfl,rfl,_,rfl,p,_,1,1,rfl,rfl,hd',rfl,?_⟩
   have hd1:(upd H p (.lst ([V.ref c,.int (a:Int),.int l].set 1 (.int ((a:Int)+1))))) p=some (.lst [.ref c,.int ((a:Int)+1),.int l]):=bf
   have hc1:(upd H p (.lst ([V.ref c,.int (a:Int),.int l].set 1 (.int ((a:Int)+1))))) c=some (.lst (ns.map V.int)):=by
    rw [ai npc]
    exact hc
   have k1:Kept p H (upd H p (.lst ([V.ref c,.int (a:Int),.int l].set 1 (.int ((a:Int)+1))))):=Kept.refl.pen
   generalize upd H p (.lst ([V.ref c,.int (a:Int),.int l].set 1 (.int ((a:Int)+1))))=H1 at hd1 hc1 k1
   have y0:bv [V.ref c,.int ((a:Int)+1),.int l] 0=some (.ref c):=jr
   refine ⟨_,rfl,_,_,rfl,rfl,.inl ⟨by decide,by decide⟩,_,_,rfl,rfl,?_⟩
   refine ⟨λσ' H'=>∃ (z:Int),σ'=[some (.ref p),some (.int most),none,some (.int a),some (.int z),none]/\H' p=some (.lst [.ref c,.int ((a:Int)+1),.int l])/\H' c=some (.lst (ns.map V.int))/\Kept p H H',?_,?_⟩
   ·refine ⟨_,rfl,p,_,_,_,rfl,rfl,SqL.of hd1,y0,c,_,rfl,.inl (SqL.of hc1),_,_,rfl,rfl,_,rfl,?_⟩
    refine kY (λhne=>?_) (λ_=>?_)
    ·have hpos:0 < (((ns.map V.int).length:Nat):Int):=of_decide_eq_true hne
     have hne':ns≠[]:=by
      rintro rfl
      cases hpos
     obtain ⟨z,hz2⟩:=Zkx ns a hne'
     refine ⟨_,rfl,p,_,_,_,rfl,rfl,SqL.of hd1,y0,_,rfl,_,rfl,p,_,_,_,rfl,rfl,SqL.of hd1,y0,c,_,rfl,.inl (SqL.of hc1),_,_,rfl,rfl,hpos,c,_,_,_,rfl,rfl,SqL.of hc1,hz2,?_⟩
     exact ⟨z,rfl,hd1,hc1,k1⟩
    ·exact ⟨_,rfl,hd1,hc1,k1⟩
   ·rintro σ2 H2 ⟨z,rfl,hd2,hc2,k2⟩
    refine ⟨λ_ H'=>H'=H2,?_,?_⟩
    ·refine ⟨_,rfl,_,rfl,p,_,_,_,rfl,rfl,SqL.of hd2,y0,c,_,rfl,.inl (SqL.of hc2),_,_,rfl,rfl,_,rfl,?_⟩
     refine kY (λ_=>?_) (λ_=>rfl)
     exact ⟨_,rfl,z,rfl,_,_,rfl,rfl,⟨by decide,by decide,by decide⟩,_,_,rfl,rfl,_,rfl,rfl⟩
    ·rintro b H3 rfl
     have ab:0<=(if z < 0 then -z else z):=by split <;> omega
     refine kY (λ_=>?_) (λ_=>?_)
     ·refine ⟨_,rfl,z,rfl,_,rfl,_,_,rfl,rfl,⟨h0,h1⟩,_,rfl,p,_,2,2,rfl,rfl,hd2,rfl,?_⟩
      refine ⟨_,rfl,z,rfl,_,rfl,_,_,rfl,rfl,h0,?_⟩
      refine k _ _ (Int.emod_nonneg _ (by omega)) (Int.emod_lt_of_pos _ h0) ⟨⟨a+1,_,bf,by omega,Int.ediv_nonneg ab (by omega)⟩,by rw [ai npc]; exact hc2,hn,npc⟩ k2.pen
     ·refine ⟨_,rfl,_,_,rfl,rfl,(by show (0:Int) < 2147483629; decide),_,rfl,_,_,rfl,rfl,.inl ⟨by decide,by decide⟩,_,_,rfl,rfl,_,_,rfl,rfl,_,_,rfl,rfl,⟨by decide,by decide,Zk6 (by omega) (by omega)⟩,_,_,rfl,rfl,(by show (0:Int) < 2147483647; decide),?_⟩
      have m0:0<=((z % 2147483629+48017 * (a:Int)+83) ^ (5:Int).toNat) % 2147483647:=Int.emod_nonneg _ (by decide)
      have m1:((z % 2147483629+48017 * (a:Int)+83) ^ (5:Int).toNat) % 2147483647 < 2147483647:=Int.emod_lt_of_pos _ (by decide)
      refine ⟨_,rfl,_,rfl,_,_,rfl,rfl,(by show (0:Int) < 65449; decide),_,rfl,_,_,rfl,rfl,_,_,rfl,rfl,_,_,rfl,rfl,.inl ⟨Int.lt_of_lt_of_le (by decide) m0,Int.lt_trans m1 (by decide)⟩,?_⟩
      refine ⟨_,_,rfl,rfl,(by show (0:Int) < 2147483587; decide),?_⟩
      refine ⟨_,_,rfl,rfl,⟨by decide,by decide⟩,_,rfl,_,_,rfl,rfl,h0,?_⟩
      exact k _ _ (Int.emod_nonneg _ (by omega)) (Int.emod_lt_of_pos _ h0) ⟨⟨a+1,l,hd2,by omega,hl⟩,hc2,hn,npc⟩ k2
end
theorem notup {cn:Addr×List Int}:iH (bm cn):=λxs G m h=>by obtain ⟨k,left,e,_⟩:=h; cases e
section
variable {cn:Addr×List Int} {P:Program} {w:World} {K:PySem.W.Frag} {mg:Str->Option Value} {base:Heap}
noncomputable def mo:List Sl->Tr Bool :=
 (tq (aa 1))
noncomputable def oA:List Sl->Tr Ou :=
 (gw 0 1 (af (aa 1) (af (ae g9 (aa 0) (aa 1)) ap)))
noncomputable def kQ:List Sl->Tr Re:=bj 2 0
 (az (gw 0 1 (af (a9 iA (af (aa 0) ap)) (af (a9 iA (af (aa 1) ap)) ap)))
 (az (cM mo oA 100000)
 (di 0)))
theorem Zk1 (T:Txt K mg):ACal (bm cn) P w K mg base "common_divisor" 1 ["one","other"] kQ:=bE T.Zj4 mS rfl λf cdv A outer sh H E hr=>by
 exact (aB (lM (ka (i:=0) (j:=1) rfl mS.nd rfl rfl (by decide) rfl rfl (ah (bn (t:=aT) (bo ip rfl T.gZ boot_abs (ah (ac (pv 0)) aw)) mq) (ah (bn (t:=aT) (bo ip rfl T.gZ boot_abs (ah (ac (pv 1)) aw)) mq) aw)) rfl))
 (aB (Zep 100000 PassesOwn.never (Zlc (ac (pv 1)))
  (aQ (lM (ka (i:=0) (j:=1) rfl mS.nd rfl rfl (by decide) rfl rfl (ah (ac (pv 1)) (ah (ay Zch Zag (ac (pv 0)) (ac (pv 1))) aw)) rfl))))
 (aQ (ir (pv 0)))))
noncomputable def hI:List Sl->Tr Re:=bj 1 0
 (bR (tm (af (eN (ae aJ (aa 0) (aC (.int 1)))) (af (ae aZ (ae aJ (aa 0) (aC (.int 0))) (aC (.int 1))) ap))))
theorem Zd5 (T:Txt K mg):ACal (bm cn) P w K mg base "stocks" 1 ["shop"] hI:=bE T.ZjP Zf5 rfl λf cdv A outer sh H E hr=>by
 exact (aQ (b6 (Zlx (cP (ZkB hr.hd) rfl T.fy boot_tuple (bY (cP Zd3 rfl T.eD boot_range (ah (gv (bd bc bb (ac (pv 0)) (eA rfl T.Zdf) (λ_ _=>rfl))) (ah (ay bG bF (bd bc bb (ac (pv 0)) (eA rfl T.Zde) (λ_ _=>rfl)) av) aw))) cx)))))
noncomputable def i8:List Sl->Tr Re:=bj 3 0
 (az (fP (c5 (ae (eh λi j=>decide (i<=j)) (aa 2) (aa 1)))
  (bR (aC (.int 0)))
  fN)
 (bR (ae aZ (ae aJ (aa 0) (aC (.int 2))) (ae bK (ae aJ (aa 0) (aC (.int 3))) (ae cv (aa 2) (aa 1))))))
theorem ZkO (T:Txt K mg):ACal (bm cn) P w K mg base "order_cost" 1 ["shop","stock","level"] i8:=bE T.ZjV Zf8 rfl λf cdv A outer sh H E hr=>by
 exact (aB (iu (er Zht fj (ac (pv 2)) (ac (pv 1)) (nomark _))
 (aQ (b6 av))
 iq)
 (aQ (b6 (ay bG bF (bd bc bb (ac (pv 0)) (eA rfl T.ZiR) (λ_ _=>rfl)) (ay b8 b7 (bd bc bb (ac (pv 0)) (eA rfl T.ZiS) (λ_ _=>rfl)) (ay cK cI (ac (pv 2)) (ac (pv 1))))))))
noncomputable def hU:List Sl->Tr Re:=bj 3 0
 (bR (a9 eY (af (ae cv (aa 1) (aa 2)) (af (eN (ae aJ (aa 0) (aC (.int 1)))) ap))))
theorem sS (T:Txt K mg):ACal (bm cn) P w K mg base "next_stock" 1 ["shop","level","fall"] hU:=bE T.ZjW Zf9 rfl λf cdv A outer sh H E hr=>by
 exact (aQ (b6 (bn (t:=aT) (bo (io rfl) rfl T.gY boot_max (ah (ay cK cI (ac (pv 1)) (ac (pv 2))) (ah (gv (bd bc bb (ac (pv 0)) (eA rfl T.Zdf) (λ_ _=>rfl))) aw))) gB)))
noncomputable def hW:List Sl->Tr Re:=bj 2 0
 (az (fP (c5 (ae (eh λi j=>decide (i > j)) (aa 1) (aC (.int 0))))
  (bR (ae bK (eN (ae aJ (aa 0) (aC (.int 7)))) (aa 1)))
  fN)
 (bR (ae bK (ae aJ (aa 0) (aC (.int 8))) (eN (aa 1)))))
theorem Zd9 (T:Txt K mg):ACal (bm cn) P w K mg base "end_cost" 1 ["shop","stock"] hW:=bE T.Zj1 Zgb rfl λf cdv A outer sh H E hr=>by
 exact (aB (iu (er gU fj (ac (pv 1)) av (nomark _))
 (aQ (b6 (ay b8 b7 (gv (bd bc bb (ac (pv 0)) (eA rfl T.ZiX) (λ_ _=>rfl))) (ac (pv 1)))))
 iq)
 (aQ (b6 (ay b8 b7 (bd bc bb (ac (pv 0)) (eA rfl T.ZiU) (λ_ _=>rfl)) (gv (ac (pv 1)))))))
noncomputable def nI:List Sl->Tr PyData :=
 (a9 cf (af (aa 0) ap))
noncomputable def kP:List Sl->Tr Re:=bj 1 0
 (bR (a9 cf (af (bW (cj (bJ (aa 0)) 1 [] (am 0) nI)) ap)))
theorem Zk0 (T:Txt K mg):ACal (bm cn) P w K mg base "day_scale" 1 ["day"] kP:=bE T.Zj2 Zgc rfl λf cdv A outer sh H E hr=>by
 exact (aQ (b6 (bn (t:=aT) (bo (fM rfl) rfl T.fA boot_sum (ah (cZ (ez (dS l9 ["line"] [] rfl (cr (ac (pv 0))) (λb=>(aM (aK (i:=0) (show ((bN l9 ["line"] [])).Nodup by decide +kernel) rfl (Or.inl rfl)))) (λb=>(bn (t:=aT) (bo (fM rfl) rfl T.fA boot_sum (ah (ac (pv 0)) aw)) fk)) rfl (show BlkOk l9 (aA mZ) _ [] from ⟨rfl,by decide +kernel,by decide +kernel,by decide +kernel,by decide +kernel⟩)) (bP (by decide)))) aw)) fk)))
noncomputable def j3:List Sl->Tr PyData :=
 (bM (af (aa 0) (af (aa 1) ap)))
noncomputable def lg:List Sl->Tr (List PyData) :=
 (jt (af (aa 2) (af (ae aZ (aa 3) (aC (.int 1))) ap)))
noncomputable def kD:List Sl->Tr Re:=bj 2 3
 (az (iF (bz (aH (am 2) (aH (am 3) bw))) (aa 1))
 (az (aW 4 (ae aJ (aa 0) (aC (.int 0))))
 (ju (iD (jt (af (aa 2) (af (ae aZ (aa 4) (aC (.int 1))) ap))) 2 [3,4] 0 lg 1 j3))))
theorem ZkM (T:Txt K mg):ACal (bm cn) P w K mg base "raises_from" 1 ["shop","stand"] kD:=bE T.ZjT jS rfl λf cdv A outer sh H E hr=>by
 exact (aB (lN (eU (ac (pv 1)) (cY rfl (bD (aM (aK (i:=2) jS.nd rfl (Or.inl rfl))) (bD (aM (aK (i:=3) jS.nd rfl (Or.inr rfl))) cX)) (bC (bC cT)))))
 (aB (ba (aU (i:=4) jS.nd rfl (Or.inr rfl) (bd bc bb (ac (pv 0)) (eA rfl T.Zde) (λ_ _=>rfl))))
 (aQ (sY (Zez (Zb9 jz ["first","second"] [3,4] rfl (ZeD (Zb6 rfl T.eD (ah (ac (pv 2)) (ah (ay bG bF (ac (pv 4)) av) aw)))) (λb=>(aM (aK (i:=0) (show ((bN jz ["first","second"] [3,4])).Nodup by decide +kernel) rfl (Or.inl rfl)))) (λb=>(ZeD (Zb6 rfl T.eD (ah (ac (pv 2)) (ah (ay bG bF (ac (pv 3)) av) aw))))) (λb=>(aM (aK (i:=1) (show ((bN jz ["first","second"] [3,4])).Nodup by decide +kernel) rfl (Or.inl rfl)))) (λb=>(ci (ah (ac (pv 0)) (ah (ac (pv 1)) aw)))) rfl (show BlkOk jz (aA mW) _ [3,4] from ⟨rfl,by decide +kernel,by decide +kernel,by decide +kernel,by decide +kernel⟩)) (by decide) (by decide) (by decide))))))
noncomputable abbrev cL:=kO
theorem dh (T:Txt K mg):ACal (bm cn) P w K mg base "_law_draw" 1 ["_law_pen_here","_law_many"] cL:=ZjH rfl (ZhB T)
noncomputable def i9:List Sl->Tr Re:=bj 1 0
 (ju (tB (af (ae cv (aC (.int 0)) (ae aJ (aa 0) (aC (.int 1)))) (af (ae aZ (ae aJ (aa 0) (aC (.int 0))) (aC (.int 1))) ap))))
theorem Zd6 (T:Txt K mg):ACal (bm cn) P w K mg base "_law_stocks" 1 ["_law_shop_here"] i9:=bE T.Zj7 Zgf rfl λf cdv A outer sh H E hr=>by
 exact (aQ (sY (Zlp (cP (ZkE hr.hd) rfl T.Zcu boot_list (bY (cP Zd3 rfl T.eD boot_range (ah (ay cK cI av (bd bc bb (ac (pv 0)) av (λ_ _=>rfl))) (ah (ay bG bF (bd bc bb (ac (pv 0)) av (λ_ _=>rfl)) av) aw))) cx)))))
noncomputable def jb:List Sl->Tr Re:=bj 3 2
 (az (aW 3 (a9 eY (af (ae cv (aa 1) (aa 2)) (af (ae cv (aC (.int 0)) (ae aJ (aa 0) (aC (.int 1)))) ap))))
 (az (aW 4 (ae aZ (ae cv (aa 3) (aa 1)) (aa 2)))
 (bR (bM (af (ae aZ (ae aZ (ae bK (ae aJ (aa 0) (aC (.int 4))) (a9 eY (af (aa 3) (af (aC (.int 0)) ap)))) (ae bK (ae aJ (aa 0) (aC (.int 5))) (a9 eY (af (ae cv (aC (.int 0)) (aa 3)) (af (aC (.int 0)) ap))))) (ae bK (ae aJ (aa 0) (aC (.int 6))) (aa 4))) (af (aa 3) ap))))))
theorem Zd7 (T:Txt K mg):ACal (bm cn) P w K mg base "_law_one_cost" 1 ["_law_shop_here","_law_level","_law_fall"] jb:=bE T.Zkc mU rfl λf cdv A outer sh H E hr=>by
 exact (aB (ba (aU (i:=3) mU.nd rfl (Or.inl rfl) (bn (t:=aT) (bo (io rfl) rfl T.gY boot_max (ah (ay cK cI (ac (pv 1)) (ac (pv 2))) (ah (ay cK cI av (bd bc bb (ac (pv 0)) av (λ_ _=>rfl))) aw))) gB)))
 (aB (ba (aU (i:=4) mU.nd rfl (Or.inl rfl) (ay bG bF (ay cK cI (ac (pv 3)) (ac (pv 1))) (ac (pv 2)))))
 (aQ (b6 (ci (ah (ay bG bF (ay bG bF (ay b8 b7 (bd bc bb (ac (pv 0)) av (λ_ _=>rfl)) (bn (t:=aT) (bo (io rfl) rfl T.gY boot_max (ah (ac (pv 3)) (ah av aw))) gB)) (ay b8 b7 (bd bc bb (ac (pv 0)) av (λ_ _=>rfl)) (bn (t:=aT) (bo (io rfl) rfl T.gY boot_max (ah (ay cK cI av (ac (pv 3))) (ah av aw))) gB))) (ay b8 b7 (bd bc bb (ac (pv 0)) av (λ_ _=>rfl)) (ac (pv 4)))) (ah (ac (pv 3)) aw)))))))
noncomputable def gi:List Sl->Tr Re:=bj 2 0
 (bR (ae cv (ae bK (ae aJ (aa 0) (aC (.int 8))) (a9 eY (af (ae cv (aC (.int 0)) (aa 1)) (af (aC (.int 0)) ap)))) (ae bK (ae aJ (aa 0) (aC (.int 7))) (a9 eY (af (aa 1) (af (aC (.int 0)) ap))))))
theorem Zd8 (T:Txt K mg):ACal (bm cn) P w K mg base "_law_end" 1 ["_law_shop_here","_law_stock"] gi:=bE T.Zkf Zgh rfl λf cdv A outer sh H E hr=>by
 exact (aQ (b6 (ay cK cI (ay b8 b7 (bd bc bb (ac (pv 0)) av (λ_ _=>rfl)) (bn (t:=aT) (bo (io rfl) rfl T.gY boot_max (ah (ay cK cI av (ac (pv 1))) (ah av aw))) gB)) (ay b8 b7 (bd bc bb (ac (pv 0)) av (λ_ _=>rfl)) (bn (t:=aT) (bo (io rfl) rfl T.gY boot_max (ah (ac (pv 1)) (ah av aw))) gB)))))
noncomputable def ja:List Sl->Tr Re:=bj 3 1
 (az (aW 3 (ae cv (ae aZ (ae cv (ae aJ (aa 2) (aC (.int 0))) (ae aJ (aa 1) (aC (.int 0)))) (ae aJ (aa 2) (aC (.int 1)))) (ae aJ (aa 1) (aC (.int 1)))))
 (bR (ae bK (ae aZ (ae aJ (aa 0) (aC (.int 2))) (ae bK (ae aJ (aa 0) (aC (.int 3))) (aa 3))) (a9 jh (af (ae (eh λi j=>decide (i > j)) (aa 3) (aC (.int 0))) ap)))))
theorem ZkS (T:Txt K mg):ACal (bm cn) P w K mg base "_law_order" 1 ["_law_shop_here","_law_stand","_law_goal"] ja:=bE T.Zkb ZaO rfl λf cdv A outer sh H E hr=>by
 exact (aB (ba (aU (i:=3) ZaO.nd rfl (Or.inl rfl) (ay cK cI (ay bG bF (ay cK cI (bd bc bb (ac (pv 2)) av (λ_ _=>rfl)) (bd bc bb (ac (pv 1)) av (λ_ _=>rfl))) (bd bc bb (ac (pv 2)) av (λ_ _=>rfl))) (bd bc bb (ac (pv 1)) av (λ_ _=>rfl)))))
 (aQ (b6 (ay b8 b7 (ay bG bF (bd bc bb (ac (pv 0)) av (λ_ _=>rfl)) (ay b8 b7 (bd bc bb (ac (pv 0)) av (λ_ _=>rfl)) (ac (pv 3)))) (bn (t:=aT) (cP ZkG rfl T.ZhO boot_int (ah (ZlA gU fj (ac (pv 3)) av (nomark _)) aw)) Ze9)))))
noncomputable def mn:List Sl->Tr Bool :=
 (c5 (ae (eh λi j=>decide (i > j)) (aa 3) (aC (.int 0))))
noncomputable def ou:List Sl->Tr Ou :=
 (gw 2 3 (af (aa 3) (af (ae g9 (aa 2) (aa 3)) ap)))
noncomputable def kH:List Sl->Tr Re:=bj 2 2
 (az (gw 2 3 (af (a9 iA (af (aa 0) ap)) (af (aa 1) ap)))
 (az (cM mn ou 100000)
 (bR (bM (af (ae fJ (aa 0) (aa 2)) (af (ae fJ (aa 1) (aa 2)) ap))))))
theorem ZkR (T:Txt K mg):ACal (bm cn) P w K mg base "_law_share" 1 ["_law_top","_law_bottom"] kH:=bE T.Zj9 mT rfl λf cdv A outer sh H E hr=>by
 exact (aB (lM (ka (i:=2) (j:=3) rfl mT.nd rfl rfl (by decide) rfl rfl (ah (bn (t:=aT) (bo ip rfl T.gZ boot_abs (ah (ac (pv 0)) aw)) mq) (ah (ac (pv 1)) aw)) rfl))
 (aB (Zep 100000 PassesOwn.never (er gU fj (ac (pv 3)) av (nomark _))
  (aQ (lM (ka (i:=2) (j:=3) rfl mT.nd rfl rfl (by decide) rfl rfl (ah (ac (pv 3)) (ah (ay Zch Zag (ac (pv 2)) (ac (pv 3))) aw)) rfl))))
 (aQ (b6 (ci (ah (ay ki jF (ac (pv 0)) (ac (pv 2))) (ah (ay ki jF (ac (pv 1)) (ac (pv 2))) aw)))))))
noncomputable def i7:List Sl->Tr Re:=bj 2 1
 (az (fP (c5 (ae gt (aa 1) (aC (.int 0))))
  ZeK
  fN)
 (az (aW 2 (aF (aE kQ (ag (aa 0) (ag (aa 1) aD)))))
 (az (fP (c5 (ae (eh λi j=>decide (i < j)) (aa 1) (aC (.int 0))))
  (aW 2 (eN (aa 2)))
  fN)
 (bR (bM (af (ae fJ (aa 0) (aa 2)) (af (ae fJ (aa 1) (aa 2)) ap)))))))
theorem ZkL (T:Txt K mg):ACal (bm cn) P w K mg base "share" 2 ["top","bottom"] i7:=bE T.ZjR mR rfl λf cdv A outer sh H E hr=>by
 exact (aB (iu (er (Zcj hr) Zah (ac (pv 1)) av (nomark _))
 (aQ Zlm)
 iq)
 (aB (ba (aU (i:=2) mR.nd rfl (Or.inl rfl) (aO (aL (Zk1 T) (hr.mono (by decide)) rfl (aj (ac (pv 0)) (aj (ac (pv 1)) aN))))))
 (aB (iu (er Zci fj (ac (pv 1)) av (nomark _))
  (aQ (ba (aU (i:=2) mR.nd rfl (Or.inl rfl) (gv (ac (pv 2))))))
  iq)
 (aQ (b6 (ci (ah (ay ki jF (ac (pv 0)) (ac (pv 2))) (ah (ay ki jF (ac (pv 1)) (ac (pv 2))) aw))))))))
noncomputable def hX:List Sl->Tr Re:=bj 3 3
 (az (aW 3 (aF (aE hU (ag (aa 0) (ag (aa 1) (ag (aa 2) aD))))))
 (az (aW 4 (ae cv (aa 3) (ae cv (aa 1) (aa 2))))
 (az (aW 5 (tE (c5 (ae (eh λi j=>decide (i > j)) (aa 3) (aC (.int 0)))) (ae bK (ae aJ (aa 0) (aC (.int 4))) (aa 3)) (ae bK (ae aJ (aa 0) (aC (.int 5))) (eN (aa 3)))))
 (bR (ae aZ (aa 5) (ae bK (ae aJ (aa 0) (aC (.int 6))) (aa 4)))))))
theorem Zea (T:Txt K mg):ACal (bm cn) P w K mg base "day_cost" 2 ["shop","level","fall"] hX:=bE T.Zj3 jT rfl λf cdv A outer sh H E hr=>by
 exact (aB (ba (aU (i:=3) jT.nd rfl (Or.inl rfl) (aO (aL (sS T) (hr.mono (by decide)) rfl (aj (ac (pv 0)) (aj (ac (pv 1)) (aj (ac (pv 2)) aN)))))))
 (aB (ba (aU (i:=4) jT.nd rfl (Or.inl rfl) (ay cK cI (ac (pv 3)) (ay cK cI (ac (pv 1)) (ac (pv 2))))))
 (aB (ba (aU (i:=5) jT.nd rfl (Or.inl rfl) (Zlz (er gU fj (ac (pv 3)) av (nomark _)) (ay b8 b7 (bd bc bb (ac (pv 0)) (eA rfl T.ZiW) (λ_ _=>rfl)) (ac (pv 3))) (ay b8 b7 (bd bc bb (ac (pv 0)) (eA rfl T.ZiV) (λ_ _=>rfl)) (gv (ac (pv 3)))))))
 (aQ (b6 (ay bG bF (ac (pv 5)) (ay b8 b7 (bd bc bb (ac (pv 0)) (eA rfl T.ZiT) (λ_ _=>rfl)) (ac (pv 4)))))))))
noncomputable def jZ:List Sl->Tr PyData :=
 (bM (af (aa 0) (af (aa 1) ap)))
noncomputable def lf:List Sl->Tr (List PyData) :=
 (bJ (aF (aE hI (ag (aa 2) aD))))
noncomputable def eE:List Sl->Tr Re:=bj 1 0
 (ju (iD (bJ (aF (aE hI (ag (aa 0) aD)))) 2 [0] 0 lf 1 jZ))
theorem lF (T:Txt K mg):ACal (bm cn) P w K mg base "stands" 2 ["shop"] eE:=bE T.ZjQ Zf6 rfl λf cdv A outer sh H E hr=>by
 exact (aQ (sY (Zez (Zb9 jx ["one","other"] [0] rfl (cr (aO (aL (Zd5 T) (hr.mono (by decide)) rfl (aj (ac (pv 0)) aN)))) (λb=>(aM (aK (i:=0) (show ((bN jx ["one","other"] [0])).Nodup by decide +kernel) rfl (Or.inl rfl)))) (λb=>(cr (aO (aL (Zd5 T) (hr.mono (by decide)) rfl (aj (ac (pv 2)) aN))))) (λb=>(aM (aK (i:=1) (show ((bN jx ["one","other"] [0])).Nodup by decide +kernel) rfl (Or.inl rfl)))) (λb=>(ci (ah (ac (pv 0)) (ah (ac (pv 1)) aw)))) rfl (show BlkOk jx (aA mV) _ [0] from ⟨rfl,by decide +kernel,by decide +kernel,by decide +kernel,by decide +kernel⟩)) (by decide) (by decide) (by decide))))
noncomputable def kE:List Sl->Tr Re:=bj 3 0
 (tw (aE i8 (ag (aa 0) (ag (a9 cf (af (aa 1) ap)) (ag (a9 cf (af (aa 2) ap)) aD)))))
theorem ZkN (T:Txt K mg):ACal (bm cn) P w K mg base "raise_cost" 2 ["shop","stand","raised"] kE:=bE T.ZjU Zf7 rfl λf cdv A outer sh H E hr=>by
 exact (aQ (Zll (aL (ZkO T) (hr.mono (by decide)) rfl (aj (ac (pv 0)) (aj (bn (t:=aT) (bo (fM rfl) rfl T.fA boot_sum (ah (ac (pv 1)) aw)) fk) (aj (bn (t:=aT) (bo (fM rfl) rfl T.fA boot_sum (ah (ac (pv 2)) aw)) fk) aN))))))
noncomputable def ZbU:List Sl->Tr PyData :=
 (aF (aE cL (cu 1 (ag (aa 2) aD))))
noncomputable def ZbT:List Sl->Tr (List PyData) :=
 (cj (fO (af (aa 3) ap)) 1 [1,2] (am 0) ZbU)
noncomputable def nF:List Sl->Tr PyData :=
 (a9 dO (af (aa 0) ap))
noncomputable def kK:List Sl->Tr Re:=bj 1 3
 (az (aW 1 (ae aJ (bW (iC (af (aC (.int 2)) (af (aC (.int 4)) (af (aC (.int 20)) (af (aC (.int 1001)) ap)))))) (aF (aE cL (cu 0 (ag (aC (.int 4)) aD))))))
 (az (aW 2 (ae aZ (aC (.int 1)) (aF (aE cL (cu 0 (ag (aC (.int 3)) aD))))))
 (tt 3 (jv (fO (af (ae aZ (aC (.int 1)) (aF (aE cL (cu 0 (ag (aC (.int 3)) aD))))) ap)) 1 [0,1,2] (am 0) ZbT) (ae aZ (aC (.int 1)) (aF (aE cL (cu 0 (ag (ae cv (aa 1) (aC (.int 1))) aD))))) (aF (aE cL (cu 0 (ag (a9 je (af (aa 3) ap)) aD)))) (aF (aE cL (cu 0 (ag (aa 2) aD))))
 (bR (a9 dO (af (bW (cj (bJ (aa 3)) 1 [] (am 0) nF)) ap))))))
theorem ZkX (T:Txt K mg):ACal (bm cn) P w K mg base "_law_double_day" 2 ["_law_pen_here"] kK:=bE T.Zkj jW rfl λf cdv A outer sh H E hr=>by
 exact (aB (ba (aU (i:=1) jW.nd rfl (Or.inr rfl) (bd bc bb (cZ (lP (ah av (ah av (ah av (ah av aw)))))) (aO (aL (dh T) (hr.mono (by decide)) rfl (cG (pv 0) (aj av aN)))) (λ_ _=>rfl))))
 (aB (ba (aU (i:=2) jW.nd rfl (Or.inr rfl) (ay bG bF av (aO (aL (dh T) (hr.mono (by decide)) rfl (cG (pv 0) (aj av aN)))))))
 (Zle ZgZ (Zln (nM (i:=3) fh ["_law_i"] [0,1,2] rfl jW.nd rfl rfl (iz (gS rfl T.eD (ah (ay bG bF av (aO (aL (dh T) (hr.mono (by decide)) rfl (cG (pv 0) (aj av aN))))) aw))) (λb=>(aM (aK (i:=0) (show ((bN fh ["_law_i"] [0,1,2])).Nodup by decide +kernel) rfl (Or.inl rfl)))) (λb=>(ez (dS (bN fh ["_law_i"] [0,1,2]) ["_law_j"] [1,2] rfl (iz (gS rfl T.eD (ah (ac (pv 3)) aw))) (λb=>(aM (aK (i:=0) (show ((bN (bN fh ["_law_i"] [0,1,2]) ["_law_j"] [1,2])).Nodup by decide +kernel) rfl (Or.inl rfl)))) (λb=>(aO (aL (dh T) (hr.mono (by decide)) rfl (cG (pv 1) (aj (ac (pv 2)) aN))))) rfl (BlkOk.nest ⟨rfl,by decide +kernel,by decide +kernel,by decide +kernel,by decide +kernel⟩)) (bP (by decide)))) rfl (show BlkOk fh (aA jX) _ [0,1,2] from ⟨rfl,by decide +kernel,by decide +kernel,by decide +kernel,by decide +kernel⟩) rfl) (bP (by decide))) (eU (ay bG bF av (aO (aL (dh T) (hr.mono (by decide)) rfl (cG (pv 0) (aj (ay cK cI (ac (pv 1)) av) aN))))) (iZ (dU dW (pv 3) (aO (aL (dh T) (hr.mono (by decide)) rfl (cG (pv 0) (aj (bn (t:=aT) (bo lE rfl T.kw boot_len (ah (ac (pv 3)) aw)) Ze8) aN)))) (λ_ _=>rfl)) (aO (aL (dh T) (hr.mono (by decide)) rfl (cG (pv 0) (aj (ac (pv 2)) aN)))) iO))
 (aQ (b6 (bn (t:=aT) (cP gu rfl T.fy boot_tuple (ah (cZ (ez (dS fh ["_law_row"] [] rfl (cr (ac (pv 3))) (λb=>(aM (aK (i:=0) (show ((bN fh ["_law_row"] [])).Nodup by decide +kernel) rfl (Or.inl rfl)))) (λb=>(bn (t:=aT) (cP gu rfl T.fy boot_tuple (ah (ac (pv 0)) aw)) fY)) rfl (show BlkOk fh (aA jX) _ [] from ⟨rfl,by decide +kernel,by decide +kernel,by decide +kernel,by decide +kernel⟩)) (bP (by decide)))) aw)) fY))))))
noncomputable def ZbS:List Sl->Tr PyData :=
 (aF (aE cL (cu 1 (ag (aa 2) aD))))
noncomputable def kG:List Sl->Tr Re:=bj 1 3
 (az (aW 1 (ae aJ (bW (iC (af (aC (.int 3)) (af (aC (.int 10)) (af (aC (.int 60)) (af (ae aZ (ae kc (aC (.int 10)) (aC (.int 6))) (aC (.int 1))) ap)))))) (aF (aE cL (cu 0 (ag (aC (.int 4)) aD))))))
 (az (aW 2 (aF (aE cL (cu 0 (ag (aC (.int 5)) aD)))))
 (az (iB 3 (cj (fO (af (aC (.int 7)) ap)) 1 [0,1] (am 0) ZbS))
 (az (fP (c5 (ae gt (aF (aE cL (cu 0 (ag (aC (.int 4)) aD)))) (aC (.int 0))))
  (lW 3 (aC (.int 0)) (aC (.int 0)))
  fN)
 (lZ 3 (bR (ae aZ (bM (af (aa 2) (af (aF (aE cL (cu 0 (ag (ae cv (aC (.int 5)) (aa 2)) aD)))) ap))) (a9 dO (af (aa 3) ap)))))))))
theorem ZkQ (T:Txt K mg):ACal (bm cn) P w K mg base "_law_shop" 2 ["_law_pen_here"] kG:=bE T.Zj8 jU rfl λf cdv A outer sh H E hr=>by
 exact (aB (ba (aU (i:=1) jU.nd rfl (Or.inr rfl) (bd bc bb (cZ (lP (ah av (ah av (ah av (ah (ay bG bF (ay nR Ze5 av av) av) aw)))))) (aO (aL (dh T) (hr.mono (by decide)) rfl (cG (pv 0) (aj av aN)))) (λ_ _=>rfl))))
 (aB (ba (aU (i:=2) jU.nd rfl (Or.inl rfl) (aO (aL (dh T) (hr.mono (by decide)) rfl (cG (pv 0) (aj av aN))))))
 (aB (Zlh (nM (i:=3) me ["_law_k"] [0,1] rfl jU.nd rfl rfl (iz (gS rfl T.eD (ah av aw))) (λb=>(aM (aK (i:=0) (show ((bN me ["_law_k"] [0,1])).Nodup by decide +kernel) rfl (Or.inl rfl)))) (λb=>(aO (aL (dh T) (hr.mono (by decide)) rfl (cG (pv 1) (aj (ac (pv 2)) aN))))) rfl (show BlkOk me (aA ng) _ [0,1] from ⟨rfl,by decide +kernel,by decide +kernel,by decide +kernel,by decide +kernel⟩) rfl) (bP (by decide)))
 (aB (iu (er (Zcj hr) Zah (aO (aL (dh T) (hr.mono (by decide)) rfl (cG (pv 0) (aj av aN)))) av (nomark _))
  (aQ (Zli (eU av (iZ (pv 3) av iO))))
  iq)
 (aQ (Zet (k:=3) (b6 (ay bG bF (ci (ah (ac (pv 2)) (ah (aO (aL (dh T) (hr.mono (by decide)) rfl (cG (pv 0) (aj (ay cK cI av (ac (pv 2))) aN)))) aw))) (bn (t:=aT) (cP gu rfl T.fy boot_tuple (ah (ac (pv 3)) aw)) fY)))))))))
noncomputable def ow:List Sl->Tr Ou :=
 (az (iF (bz (aH (am 12) (aH (am 13) bw))) (aF (aE jb (ag (aa 0) (ag (ae aJ (aa 4) (aC (.int 1))) (ag (aa 10) aD))))))
 (az (aW 14 (ae aZ (ae bK (ae aZ (aa 8) (aa 12)) (aa 3)) (ae fe (aa 2) (bM (af (aa 9) (af (aa 13) ap))))))
 (aW 5 (ae aZ (aa 5) (ae bK (aa 11) (aa 14))))))
noncomputable def ZcQ:List Sl->Tr Ou :=
 (az (iF (bz (aH (am 8) (aH (am 9) bw))) (aF (aE jb (ag (aa 0) (ag (ae aJ (aa 4) (aC (.int 0))) (ag (aa 6) aD))))))
 (c6 (iE (aa 7)) (bz (aH (am 10) (aH (am 11) bw))) ow))
noncomputable def hV:List Sl->Tr Re:=bj 5 10
 (az (aW 5 (aC (.int 0)))
 (az (c6 (iE (aa 1)) (bz (aH (am 6) (aH (am 7) bw))) ZcQ)
 (di 5)))
theorem ZkT (T:Txt K mg):ACal (bm cn) P w K mg base "_law_mean" 2 ["_law_shop_here","_law_one","_law_later","_law_bottom","_law_goal"] hV:=bE T.Zkd dr rfl λf cdv A outer sh H E hr=>by
 exact (aB (ba (aU (i:=5) dr.nd rfl (Or.inl rfl) av))
 (aB (dL PassesOwn.never rfl (lR (ke rfl rfl T.ky (ac (pv 1)))) (cY rfl (bD (aM (aK (i:=6) dr.nd rfl (Or.inl rfl))) (bD (aM (aK (i:=7) dr.nd rfl (Or.inl rfl))) cX)) (bC (bC cT)))
  (aB (lN (eU (aO (aL (Zd7 T) (hr.mono (by decide)) rfl (aj (ac (pv 0)) (aj (bd bc bb (ac (pv 4)) av (λ_ _=>rfl)) (aj (ac (pv 6)) aN))))) (cY rfl (bD (aM (aK (i:=8) dr.nd rfl (Or.inl rfl))) (bD (aM (aK (i:=9) dr.nd rfl (Or.inl rfl))) cX)) (bC (bC cT)))))
 (aQ (dL PassesOwn.never rfl (lR (ke rfl rfl T.ky (ac (pv 7)))) (cY rfl (bD (aM (aK (i:=10) dr.nd rfl (Or.inl rfl))) (bD (aM (aK (i:=11) dr.nd rfl (Or.inl rfl))) cX)) (bC (bC cT)))
  (aB (lN (eU (aO (aL (Zd7 T) (hr.mono (by decide)) rfl (aj (ac (pv 0)) (aj (bd bc bb (ac (pv 4)) av (λ_ _=>rfl)) (aj (ac (pv 10)) aN))))) (cY rfl (bD (aM (aK (i:=12) dr.nd rfl (Or.inl rfl))) (bD (aM (aK (i:=13) dr.nd rfl (Or.inl rfl))) cX)) (bC (bC cT)))))
 (aB (ba (aU (i:=14) dr.nd rfl (Or.inl rfl) (ay bG bF (ay b8 b7 (ay bG bF (ac (pv 8)) (ac (pv 12))) (ac (pv 3))) (lS (kg (e9 hr) (ac (pv 2)) (ci (ah (ac (pv 9)) (ah (ac (pv 13)) aw))) (λ_ _=>rfl))))))
 (aQ (ba (aU (i:=5) dr.nd rfl (Or.inl rfl) (ay bG bF (ac (pv 5)) (ay b8 b7 (ac (pv 11)) (ac (pv 14)))))))))))))
 (aQ (ir (pv 5)))))
noncomputable def ox:List Sl->Tr Ou :=
 (gx 1 (bM (af (aa 2) (af (aa 3) ap))) (ae aZ (aF (aE gi (ag (aa 0) (ag (aa 2) aD)))) (aF (aE gi (ag (aa 0) (ag (aa 3) aD))))))
noncomputable def ZcR:List Sl->Tr Ou :=
 (c6 (bJ (aF (aE i9 (ag (aa 0) aD)))) (am 3) ox)
noncomputable def kI:List Sl->Tr Re:=bj 1 3
 (az (lV 1)
 (az (c6 (bJ (aF (aE i9 (ag (aa 0) aD)))) (am 2) ZcR)
 (fQ 1 (di 1))))
theorem ZkU (T:Txt K mg):ACal (bm cn) P w K mg base "_law_ends" 2 ["_law_shop_here"] kI:=bE T.Zke jV rfl λf cdv A outer sh H E hr=>by
 exact (aB (Zeq (aU (i:=1) jV.nd rfl (Or.inl rfl) Zca))
 (aB (dL PassesOwn.never rfl (cr (aO (aL (Zd6 T) (hr.mono (by decide)) rfl (aj (ac (pv 0)) aN)))) (aM (aK (i:=2) jV.nd rfl (Or.inl rfl)))
  (aQ (dL PassesOwn.never rfl (cr (aO (aL (Zd6 T) (hr.mono (by decide)) rfl (aj (ac (pv 0)) aN)))) (aM (aK (i:=3) jV.nd rfl (Or.inl rfl)))
  (aQ (Zer (Zb0 (e9 hr) (pv 1) (ci (ah (ac (pv 2)) (ah (ac (pv 3)) aw))) (ay bG bF (aO (aL (Zd8 T) (hr.mono (by decide)) rfl (aj (ac (pv 0)) (aj (ac (pv 2)) aN)))) (aO (aL (Zd8 T) (hr.mono (by decide)) rfl (aj (ac (pv 0)) (aj (ac (pv 3)) aN))))) rfl))))))
 (aQ (Zes (k:=1) (ir (pv 1))))))
noncomputable def nH:List Sl->Tr PyData :=
 (bM (af (aa 0) (af (aa 1) ap)))
noncomputable def nG:List Sl->Tr PyData :=
 (ae aZ (aF (aE hW (ag (aa 2) (ag (aa 0) aD)))) (aF (aE hW (ag (aa 2) (ag (aa 1) aD)))))
noncomputable def kN:List Sl->Tr Re:=bj 1 0
 (bR (fR (bJ (aF (aE eE (ag (aa 0) aD)))) 2 [0] (bz (aH (am 0) (aH (am 1) bw))) nH nG))
theorem ZkZ (T:Txt K mg):ACal (bm cn) P w K mg base "end_of_both" 3 ["shop"] kN:=bE T.Zj0 Zga rfl λf cdv A outer sh H E hr=>by
 exact (aQ (b6 (ZeF (Zcb jA ["one","other"] [0] hr.units0 rfl (cr (aO (aL (lF T) (hr.mono (by decide)) rfl (aj (ac (pv 0)) aN)))) (λb=>(cY rfl (bD (aM (aK (i:=0) (show ((bN jA ["one","other"] [0])).Nodup by decide +kernel) rfl (Or.inl rfl))) (bD (aM (aK (i:=1) (show ((bN jA ["one","other"] [0])).Nodup by decide +kernel) rfl (Or.inl rfl))) cX)) (bC (bC cT)))) (λb=>(ci (ah (ac (pv 0)) (ah (ac (pv 1)) aw)))) (λb=>(ay bG bF (aO (aL (Zd9 T) (hr.mono (by decide)) rfl (aj (ac (pv 2)) (aj (ac (pv 0)) aN)))) (aO (aL (Zd9 T) (hr.mono (by decide)) rfl (aj (ac (pv 2)) (aj (ac (pv 1)) aN)))))) rfl (show BlkOk jA (aA mY) _ [0] from ⟨rfl,by decide +kernel,by decide +kernel,by decide +kernel,by decide +kernel⟩)) (gQ (dB (bP (by decide)) (dB (bP (by decide)) gR))))))
noncomputable def ot:List Sl->Tr Ou :=
 (az (aW 12 (ae aZ (aF (aE hX (ag (aa 0) (ag (aa 5) (ag (aa 8) aD))))) (aF (aE hX (ag (aa 0) (ag (aa 6) (ag (aa 10) aD)))))))
 (az (aW 13 (ae fe (aa 3) (bM (af (aF (aE hU (ag (aa 0) (ag (aa 5) (ag (aa 8) aD))))) (af (aF (aE hU (ag (aa 0) (ag (aa 6) (ag (aa 10) aD))))) ap)))))
 (jw le 7 (ae bK (aa 11) (ae aZ (ae bK (aa 4) (aa 12)) (aa 13))))))
noncomputable def ZcO:List Sl->Tr Ou :=
 (c6 (iE (aa 9)) (bz (aH (am 10) (aH (am 11) bw))) ot)
noncomputable def kC:List Sl->Tr Re:=bj 5 9
 (az (iF (bz (aH (am 5) (aH (am 6) bw))) (aa 2))
 (az (aW 7 (aC (.int 0)))
 (az (c6 (iE (aa 1)) (bz (aH (am 8) (aH (am 9) bw))) ZcO)
 (di 7))))
theorem ZkK (T:Txt K mg):ACal (bm cn) P w K mg base "weighed_both" 3 ["shop","day","raised","ahead","scale"] kC:=bE T.ZjO dR rfl λf cdv A outer sh H E hr=>by
 exact (aB (lN (eU (ac (pv 2)) (cY rfl (bD (aM (aK (i:=5) dR.nd rfl (Or.inl rfl))) (bD (aM (aK (i:=6) dR.nd rfl (Or.inl rfl))) cX)) (bC (bC cT)))))
 (aB (ba (aU (i:=7) dR.nd rfl (Or.inl rfl) av))
 (aB (dL PassesOwn.never rfl (lR (ke rfl rfl T.ky (ac (pv 1)))) (cY rfl (bD (aM (aK (i:=8) dR.nd rfl (Or.inl rfl))) (bD (aM (aK (i:=9) dR.nd rfl (Or.inl rfl))) cX)) (bC (bC cT)))
  (aQ (dL PassesOwn.never rfl (lR (ke rfl rfl T.ky (ac (pv 9)))) (cY rfl (bD (aM (aK (i:=10) dR.nd rfl (Or.inl rfl))) (bD (aM (aK (i:=11) dR.nd rfl (Or.inl rfl))) cX)) (bC (bC cT)))
  (aB (ba (aU (i:=12) dR.nd rfl (Or.inl rfl) (ay bG bF (aO (aL (Zea T) (hr.mono (by decide)) rfl (aj (ac (pv 0)) (aj (ac (pv 5)) (aj (ac (pv 8)) aN))))) (aO (aL (Zea T) (hr.mono (by decide)) rfl (aj (ac (pv 0)) (aj (ac (pv 6)) (aj (ac (pv 10)) aN))))))))
 (aB (ba (aU (i:=13) dR.nd rfl (Or.inl rfl) (lS (kg (e9 hr) (ac (pv 3)) (ci (ah (aO (aL (sS T) (hr.mono (by decide)) rfl (aj (ac (pv 0)) (aj (ac (pv 5)) (aj (ac (pv 8)) aN))))) (ah (aO (aL (sS T) (hr.mono (by decide)) rfl (aj (ac (pv 0)) (aj (ac (pv 6)) (aj (ac (pv 10)) aN))))) aw))) (λ_ _=>rfl)))))
 (aQ (Zeu Ze7 (Zb1 (i:=7) dR.nd rfl (Or.inl rfl) (ay b8 b7 (ac (pv 11)) (ay bG bF (ay b8 b7 (ac (pv 4)) (ac (pv 12))) (ac (pv 13)))) (pip ZiI)))))))))
 (aQ (ir (pv 7))))))
noncomputable def nJ:List Sl->Tr PyData :=
 (bM (af (ae aZ (ae bK (aa 1) (aF (aE kE (ag (aa 3) (ag (aa 4) (ag (aa 0) aD)))))) (ae fe (aa 2) (aa 0))) (af (aa 0) ap)))
noncomputable def kR:List Sl->Tr Re:=bj 4 0
 (bR (a9 gh (af (bW (cj (bJ (aF (aE kD (ag (aa 0) (ag (aa 1) aD))))) 1 [3,2,0,1] (am 0) nJ)) ap)))
theorem Zk2 (T:Txt K mg):ACal (bm cn) P w K mg base "cheapest_raise" 3 ["shop","stand","behind","scale"] kR:=bE T.Zj5 Zgd rfl λf cdv A outer sh H E hr=>by
 exact (aQ (b6 (bn (t:=aT) (bo (Zd4 hr rfl) rfl T.Zct boot_min (ah (cZ (ez (dS ma ["raised"] [3,2,0,1] rfl (cr (aO (aL (ZkM T) (hr.mono (by decide)) rfl (aj (ac (pv 0)) (aj (ac (pv 1)) aN))))) (λb=>(aM (aK (i:=0) (show ((bN ma ["raised"] [3,2,0,1])).Nodup by decide +kernel) rfl (Or.inl rfl)))) (λb=>(ci (ah (ay bG bF (ay b8 b7 (ac (pv 1)) (aO (aL (ZkN T) (hr.mono (by decide)) rfl (aj (ac (pv 3)) (aj (ac (pv 4)) (aj (ac (pv 0)) aN)))))) (lS (kg (e9 hr) (ac (pv 2)) (ac (pv 0)) (λ_ _=>rfl)))) (ah (ac (pv 0)) aw)))) rfl (show BlkOk ma (aA m8) _ [3,2,0,1] from ⟨rfl,by decide +kernel,by decide +kernel,by decide +kernel,by decide +kernel⟩)) (bP (by decide)))) aw)) Zaj)))
noncomputable def ZbV:List Sl->Tr PyData :=
 (aF (aE kK (cu 1 aD)))
noncomputable def kL:List Sl->Tr Re:=bj 1 0
 (bR (a9 dO (af (bW (cj (fO (af (ae aZ (aC (.int 1)) (aF (aE cL (cu 0 (ag (aC (.int 3)) aD))))) ap)) 1 [0] (am 0) ZbV)) ap)))
theorem ZkY (T:Txt K mg):ACal (bm cn) P w K mg base "_law_double" 3 ["_law_pen_here"] kL:=bE T.Zkk Zgi rfl λf cdv A outer sh H E hr=>by
 exact (aQ (b6 (bn (t:=aT) (cP gu rfl T.fy boot_tuple (ah (cZ (ez (dS mf ["_law_k"] [0] rfl (iz (gS rfl T.eD (ah (ay bG bF av (aO (aL (dh T) (hr.mono (by decide)) rfl (cG (pv 0) (aj av aN))))) aw))) (λb=>(aM (aK (i:=0) (show ((bN mf ["_law_k"] [0])).Nodup by decide +kernel) rfl (Or.inl rfl)))) (λb=>(aO (aL (ZkX T) (hr.mono (by decide)) rfl (cG (pv 1) aN)))) rfl (show BlkOk mf (aA nh) _ [0] from ⟨rfl,by decide +kernel,by decide +kernel,by decide +kernel,by decide +kernel⟩)) (bP (by decide)))) aw)) fY)))
noncomputable def nD:List Sl->Tr PyData :=
 (a9 cf (af (aa 0) ap))
noncomputable def ZcS:List Sl->Tr Ou :=
 (gx 5 (aa 6) (aF (aE hV (ag (aa 0) (ag (aa 1) (ag (aa 2) (ag (aa 3) (ag (aa 6) aD))))))))
noncomputable def iX:List Sl->Tr PyData :=
 (aa 0)
noncomputable def i5:List Sl->Tr Bool :=
 (tF (c5 (ae (eh λi j=>decide (i ≥ j)) (ae aJ (aa 0) (aC (.int 0))) (ae aJ (aa 1) (aC (.int 0))))) (c5 (ae (eh λi j=>decide (i ≥ j)) (ae aJ (aa 0) (aC (.int 1))) (ae aJ (aa 1) (aC (.int 1))))))
noncomputable def iW:List Sl->Tr PyData :=
 (bM (af (ae aZ (ae fe (aa 1) (aa 0)) (ae bK (aF (aE ja (ag (aa 3) (ag (aa 4) (ag (aa 0) aD))))) (aa 2))) (af (aa 0) ap)))
noncomputable def oy:List Sl->Tr Ou :=
 (az (aW 9 (bW (lY (bJ (bW (l0 f7 (af (aa 2) ap)))) 1 [8] (am 0) i5 iX)))
 (fQ 5 (gy 7 (bM (af (aa 8) (af (a9 gh (af (bW (cj (bJ (aa 9)) 1 [5,4,0,8] (am 0) iW)) ap)) ap))))))
noncomputable def jc:List Sl->Tr Re:=bj 4 6
 (az (aW 4 (ae bK (aa 3) (a9 cf (af (bW (cj (bJ (aa 1)) 1 [] (am 0) nD)) ap))))
 (az (lV 5)
 (az (c6 (tD (aa 2)) (am 6) ZcS)
 (az (iB 7 (iC ap))
 (az (c6 (bJ (bW (l0 f7 (af (aa 2) ap)))) (am 8) oy)
 (di 7))))))
theorem ZkV (T:Txt K mg):ACal (bm cn) P w K mg base "_law_due_row" 3 ["_law_shop_here","_law_one","_law_later","_law_bottom"] jc:=bE T.Zkg f9 rfl λf cdv A outer sh H E hr=>by
 exact (aB (ba (aU (i:=4) f9.nd rfl (Or.inr rfl) (ay b8 b7 (ac (pv 3)) (bn (t:=aT) (bo (fM rfl) rfl T.fA boot_sum (ah (cZ (ez (dS eO ["_law_line"] [] rfl (cr (ac (pv 1))) (λb=>(aM (aK (i:=0) (show ((bN eO ["_law_line"] [])).Nodup by decide +kernel) rfl (Or.inl rfl)))) (λb=>(bn (t:=aT) (bo (fM rfl) rfl T.fA boot_sum (ah (ac (pv 0)) aw)) fk)) rfl (show BlkOk eO (aA iR) _ [] from ⟨rfl,by decide +kernel,by decide +kernel,by decide +kernel,by decide +kernel⟩)) (bP (by decide)))) aw)) fk))))
 (aB (Zeq (aU (i:=5) f9.nd rfl (Or.inr rfl) Zca))
 (aB (dL PassesOwn.never rfl (Zlw notup (ac (pv 2))) (aM (aK (i:=6) f9.nd rfl (Or.inl rfl)))
  (aQ (Zer (Zb0 (e9 hr) (pv 5) (ac (pv 6)) (aO (aL (ZkT T) (hr.mono (by decide)) rfl (aj (ac (pv 0)) (aj (ac (pv 1)) (aj (ac (pv 2)) (aj (ac (pv 3)) (aj (ac (pv 6)) aN))))))) rfl))))
 (aB (sX (aU (i:=7) f9.nd rfl (Or.inl rfl) (lP aw)))
 (aB (dL PassesOwn.never rfl (cr (cZ (ZeA (t:=aT) (bo (Zd2 rfl) rfl T.Zcs boot_sorted (ah (ac (pv 2)) aw)) (Zai notup)))) (aM (aK (i:=8) f9.nd rfl (Or.inr rfl)))
  (aB (Zlf (ZgQ (i:=9) eO ["_law_goal"] [8] rfl f9.nd rfl rfl (cr (cZ (ZeA (t:=aT) (bo (Zd2 rfl) rfl T.Zcs boot_sorted (ah (ac (pv 2)) aw)) (Zai notup)))) (λb=>(aM (aK (i:=0) (show ((bN eO ["_law_goal"] [8])).Nodup by decide +kernel) rfl (Or.inl rfl)))) (λb=>(Zel (Zlb (er nT fj (bd bc bb (ac (pv 0)) av (λ_ _=>rfl)) (bd bc bb (ac (pv 1)) av (λ_ _=>rfl)) (nomark _)) (Zla (er nT fj (bd bc bb (ac (pv 0)) av (λ_ _=>rfl)) (bd bc bb (ac (pv 1)) av (λ_ _=>rfl)) (nomark _)))))) (λb=>(ac (pv 0))) rfl (show BlkOk eO (aA iR) _ [8] from ⟨rfl,by decide +kernel,by decide +kernel,by decide +kernel,by decide +kernel⟩) rfl) (bP (by decide)))
 (aQ (Zes (k:=5) (Zev (nN (Zcd PySem.F.plainAttrs_list PySem.F.slot_list_append PySem.F.type_list_append Zcv (pv 7) (bY (ci (ah (ac (pv 8)) (ah (bn (t:=aT) (bo (Zd4 hr rfl) rfl T.Zct boot_min (ah (cZ (ez (dS eO ["_law_goal"] [5,4,0,8] rfl (cr (ac (pv 9))) (λb=>(aM (aK (i:=0) (show ((bN eO ["_law_goal"] [5,4,0,8])).Nodup by decide +kernel) rfl (Or.inl rfl)))) (λb=>(ci (ah (ay bG bF (lS (kg (e9 hr) (ac (pv 1)) (ac (pv 0)) (λ_ _=>rfl))) (ay b8 b7 (aO (aL (ZkS T) (hr.mono (by decide)) rfl (aj (ac (pv 3)) (aj (ac (pv 4)) (aj (ac (pv 0)) aN))))) (ac (pv 2)))) (ah (ac (pv 0)) aw)))) rfl (show BlkOk eO (aA iR) _ [5,4,0,8] from ⟨rfl,by decide +kernel,by decide +kernel,by decide +kernel,by decide +kernel⟩)) (bP (by decide)))) aw)) Zaj) aw))) cx))))))))
 (aQ (ir (pv 7))))))))
noncomputable def nL:List Sl->Tr PyData :=
 (aa 0)
noncomputable def nK:List Sl->Tr PyData :=
 (aF (aE kC (ag (aa 1) (ag (aa 2) (ag (aa 0) (ag (aa 3) (ag (aa 4) aD)))))))
noncomputable def kT:List Sl->Tr Re:=bj 4 0
 (bR (fR (bJ (aF (aE eE (ag (aa 0) aD)))) 1 [0,1,2,3] (am 0) nL nK))
theorem Zk3 (T:Txt K mg):ACal (bm cn) P w K mg base "behind_raises" 4 ["shop","day","ahead","scale"] kT:=bE T.Zj6 Zge rfl λf cdv A outer sh H E hr=>by
 exact (aQ (b6 (ZeF (Zcb md ["raised"] [0,1,2,3] hr.units0 rfl (cr (aO (aL (lF T) (hr.mono (by decide)) rfl (aj (ac (pv 0)) aN)))) (λb=>(aM (aK (i:=0) (show ((bN md ["raised"] [0,1,2,3])).Nodup by decide +kernel) rfl (Or.inl rfl)))) (λb=>(ac (pv 0))) (λb=>(aO (aL (ZkK T) (hr.mono (by decide)) rfl (aj (ac (pv 1)) (aj (ac (pv 2)) (aj (ac (pv 0)) (aj (ac (pv 3)) (aj (ac (pv 4)) aN)))))))) rfl (show BlkOk md (aA nc) _ [0,1,2,3] from ⟨rfl,by decide +kernel,by decide +kernel,by decide +kernel,by decide +kernel⟩)) (bP (by decide)))))
noncomputable def nE:List Sl->Tr PyData :=
 (a9 cf (af (aa 0) ap))
noncomputable def j6:List Sl->Tr PyData :=
 (bM (af (aa 0) (af (ae aJ (aa 1) (aC (.int 0))) ap)))
noncomputable def j5:List Sl->Tr PyData :=
 (bM (af (aF (aE kH (ag (ae aJ (aa 1) (aC (.int 0))) (ag (aa 2) aD)))) (af (ae aJ (aa 1) (aC (.int 1))) ap)))
noncomputable def ZcT:List Sl->Tr Ou :=
 (az (aW 6 (aF (aE jc (ag (aa 0) (ag (aa 5) (ag (aa 3) (ag (aa 4) aD)))))))
 (az (aW 4 (ae bK (aa 4) (a9 cf (af (bW (cj (bJ (aa 5)) 1 [] (am 0) nE)) ap))))
 (az (aW 3 (a9 jm (af (bW (cj (bJ (aa 6)) 2 [] (bz (aH (am 0) (aH (am 1) bw))) j6)) ap)))
 (aW 2 (ae aZ (bM (af (a9 dO (af (bW (cj (bJ (aa 6)) 2 [4] (bz (aH (am 0) (aH (am 1) bw))) j5)) ap)) ap)) (aa 2))))))
noncomputable def kJ:List Sl->Tr Re:=bj 2 5
 (az (aW 2 (bM ap))
 (az (aW 3 (aF (aE kI (ag (aa 0) aD))))
 (az (aW 4 (aC (.int 1)))
 (az (c6 (bJ (ae gJ (aa 1) (eN (aC (.int 1))))) (am 5) ZcT)
 (di 2)))))
theorem ZkW (T:Txt K mg):ACal (bm cn) P w K mg base "_law_due" 4 ["_law_shop_here","_law_double_here"] kJ:=bE T.Zkh eS rfl λf cdv A outer sh H E hr=>by
 exact (aB (ba (aU (i:=2) eS.nd rfl (Or.inl rfl) (ci aw)))
 (aB (ba (aU (i:=3) eS.nd rfl (Or.inl rfl) (aO (aL (ZkU T) (hr.mono (by decide)) rfl (aj (ac (pv 0)) aN)))))
 (aB (ba (aU (i:=4) eS.nd rfl (Or.inr rfl) av))
 (aB (dL PassesOwn.never rfl (cr (Zly (ac (pv 1)) (gv av))) (aM (aK (i:=5) eS.nd rfl (Or.inl rfl)))
  (aB (ba (aU (i:=6) eS.nd rfl (Or.inl rfl) (aO (aL (ZkV T) (hr.mono (by decide)) rfl (aj (ac (pv 0)) (aj (ac (pv 5)) (aj (ac (pv 3)) (aj (ac (pv 4)) aN))))))))
 (aB (ba (aU (i:=4) eS.nd rfl (Or.inr rfl) (ay b8 b7 (ac (pv 4)) (bn (t:=aT) (bo (fM rfl) rfl T.fA boot_sum (ah (cZ (ez (dS dM ["_law_line"] [] rfl (cr (ac (pv 5))) (λb=>(aM (aK (i:=0) (show ((bN dM ["_law_line"] [])).Nodup by decide +kernel) rfl (Or.inl rfl)))) (λb=>(bn (t:=aT) (bo (fM rfl) rfl T.fA boot_sum (ah (ac (pv 0)) aw)) fk)) rfl (show BlkOk dM (aA iS) _ [] from ⟨rfl,by decide +kernel,by decide +kernel,by decide +kernel,by decide +kernel⟩)) (bP (by decide)))) aw)) fk))))
 (aB (ba (aU (i:=3) eS.nd rfl (Or.inl rfl) (bn (t:=aT) (cP (ZkJ hr.units rfl) rfl T.ZhP boot_dict (ah (cZ (ez (dS dM ["_law_stand","_law_told"] [] rfl (cr (ac (pv 6))) (λb=>(cY rfl (bD (aM (aK (i:=0) (show ((bN dM ["_law_stand","_law_told"] [])).Nodup by decide +kernel) rfl (Or.inl rfl))) (bD (aM (aK (i:=1) (show ((bN dM ["_law_stand","_law_told"] [])).Nodup by decide +kernel) rfl (Or.inl rfl))) cX)) (bC (bC cT)))) (λb=>(ci (ah (ac (pv 0)) (ah (bd bc bb (ac (pv 1)) av (λ_ _=>rfl)) aw)))) rfl (show BlkOk dM (aA iS) _ [] from ⟨rfl,by decide +kernel,by decide +kernel,by decide +kernel,by decide +kernel⟩)) (gQ (dB (bP (by decide)) (dB (bP (by decide)) gR))))) aw)) Zfa)))
 (aQ (ba (aU (i:=2) eS.nd rfl (Or.inl rfl) (ay bG bF (ci (ah (bn (t:=aT) (cP gu rfl T.fy boot_tuple (ah (cZ (ez (dS dM ["_law_stand","_law_told"] [4] rfl (cr (ac (pv 6))) (λb=>(cY rfl (bD (aM (aK (i:=0) (show ((bN dM ["_law_stand","_law_told"] [4])).Nodup by decide +kernel) rfl (Or.inl rfl))) (bD (aM (aK (i:=1) (show ((bN dM ["_law_stand","_law_told"] [4])).Nodup by decide +kernel) rfl (Or.inl rfl))) cX)) (bC (bC cT)))) (λb=>(ci (ah (aO (aL (ZkR T) (hr.mono (by decide)) rfl (aj (bd bc bb (ac (pv 1)) av (λ_ _=>rfl)) (aj (ac (pv 2)) aN)))) (ah (bd bc bb (ac (pv 1)) av (λ_ _=>rfl)) aw)))) rfl (show BlkOk dM (aA iS) _ [4] from ⟨rfl,by decide +kernel,by decide +kernel,by decide +kernel,by decide +kernel⟩)) (gQ (dB (bP (by decide)) (dB (bP (by decide)) gR))))) aw)) fY) aw)) (ac (pv 2))))))))))
 (aQ (ir (pv 2)))))))
noncomputable def nC:List Sl->Tr PyData :=
 (aF (aE kR (ag (aa 1) (ag (aa 0) (ag (aa 2) (ag (aa 3) aD))))))
noncomputable def j4:List Sl->Tr PyData :=
 (bM (af (aF (aE i7 (ag (aa 0) (ag (aa 2) aD)))) (af (aa 1) ap)))
noncomputable def nA:List Sl->Tr PyData :=
 (aa 0)
noncomputable def nz:List Sl->Tr PyData :=
 (aa 1)
noncomputable def ZcP:List Sl->Tr Ou :=
 (az (aW 6 (aF (aE kT (ag (aa 0) (ag (aa 5) (ag (aa 3) (ag (aa 4) aD)))))))
 (az (jw ji 4 (aF (aE kP (ag (aa 5) aD))))
 (az (aW 7 (bW (cj (bJ (aF (aE eE (ag (aa 0) aD)))) 1 [0,6,4] (am 0) nC)))
 (az (gy 2 (a9 dO (af (bW (cj (bJ (aa 7)) 2 [4] (bz (aH (am 0) (aH (am 1) bw))) j4)) ap)))
 (aW 3 (fR (lU (aF (aE eE (ag (aa 0) aD))) (aa 7)) 3 [] (bz (aH (am 0) (aH (bz (aH (am 1) (aH (am 2) bw))) bw))) nA nz))))))
noncomputable def kF:List Sl->Tr Re:=bj 2 6
 (az (iB 2 (iC ap))
 (az (aW 3 (aF (aE kN (ag (aa 0) aD))))
 (az (aW 4 (aC (.int 1)))
 (az (c6 (tu (aa 1)) (am 5) ZcP)
 (az (lX 2)
 (lZ 2 (bR (a9 dO (af (aa 2) ap)))))))))
theorem ZkP (T:Txt K mg):ACal (bm cn) P w K mg base "least_double" 5 ["shop","double"] kF:=bE T.ZjX eR rfl λf cdv A outer sh H E hr=>by
 exact (aB (sX (aU (i:=2) eR.nd rfl (Or.inl rfl) (lP aw)))
 (aB (ba (aU (i:=3) eR.nd rfl (Or.inl rfl) (aO (aL (ZkZ T) (hr.mono (by decide)) rfl (aj (ac (pv 0)) aN)))))
 (aB (ba (aU (i:=4) eR.nd rfl (Or.inr rfl) av))
 (aB (dL PassesOwn.never rfl (Zlv (Zg5 rfl T.ZhN (ac (pv 1)))) (aM (aK (i:=5) eR.nd rfl (Or.inl rfl)))
  (aB (ba (aU (i:=6) eR.nd rfl (Or.inr rfl) (aO (aL (Zk3 T) (hr.mono (by decide)) rfl (aj (ac (pv 0)) (aj (ac (pv 5)) (aj (ac (pv 3)) (aj (ac (pv 4)) aN))))))))
 (aB (Zeu Ze6 (Zb1 (i:=4) eR.nd rfl (Or.inr rfl) (aO (aL (Zk0 T) (hr.mono (by decide)) rfl (aj (ac (pv 5)) aN))) (pip ZiH)))
 (aB (Zlg (nM (i:=7) dm ["stand"] [0,6,4] rfl eR.nd rfl rfl (cr (aO (aL (lF T) (hr.mono (by decide)) rfl (aj (ac (pv 0)) aN)))) (λb=>(aM (aK (i:=0) (show ((bN dm ["stand"] [0,6,4])).Nodup by decide +kernel) rfl (Or.inl rfl)))) (λb=>(aO (aL (Zk2 T) (hr.mono (by decide)) rfl (aj (ac (pv 1)) (aj (ac (pv 0)) (aj (ac (pv 2)) (aj (ac (pv 3)) aN))))))) rfl (show BlkOk dm (aA iQ) _ [0,6,4] from ⟨rfl,by decide +kernel,by decide +kernel,by decide +kernel,by decide +kernel⟩) rfl) (bP (by decide)))
 (aB (Zev (nN (Zcd PySem.F.plainAttrs_list PySem.F.slot_list_append PySem.F.type_list_append Zcv (pv 2) (bY (bn (t:=aT) (cP gu rfl T.fy boot_tuple (ah (cZ (ez (dS dm ["cost","raised"] [4] rfl (cr (ac (pv 7))) (λb=>(cY rfl (bD (aM (aK (i:=0) (show ((bN dm ["cost","raised"] [4])).Nodup by decide +kernel) rfl (Or.inl rfl))) (bD (aM (aK (i:=1) (show ((bN dm ["cost","raised"] [4])).Nodup by decide +kernel) rfl (Or.inl rfl))) cX)) (bC (bC cT)))) (λb=>(ci (ah (aO (aL (ZkL T) (hr.mono (by decide)) rfl (aj (ac (pv 0)) (aj (ac (pv 2)) aN)))) (ah (ac (pv 1)) aw)))) rfl (show BlkOk dm (aA iQ) _ [4] from ⟨rfl,by decide +kernel,by decide +kernel,by decide +kernel,by decide +kernel⟩)) (gQ (dB (bP (by decide)) (dB (bP (by decide)) gR))))) aw)) fY) cx))))
 (aQ (Zlj (ZgR (i:=3) dm ["stand","cost","raised"] [] hr.units0 rfl eR.nd rfl rfl (Zlu (Zg3 rfl rfl T.ZhM (aO (aL (lF T) (hr.mono (by decide)) rfl (aj (ac (pv 0)) aN))) (ac (pv 7)))) (λb=>(cY rfl (bD (aM (aK (i:=0) (show ((bN dm ["stand","cost","raised"] [])).Nodup by decide +kernel) rfl (Or.inl rfl))) (bD (cY rfl (bD (aM (aK (i:=1) (show ((bN dm ["stand","cost","raised"] [])).Nodup by decide +kernel) rfl (Or.inl rfl))) (bD (aM (aK (i:=2) (show ((bN dm ["stand","cost","raised"] [])).Nodup by decide +kernel) rfl (Or.inl rfl))) cX)) (bC (bC cT))) cX)) (bC (bC cT)))) (λb=>(ac (pv 0))) (λb=>(ac (pv 1))) rfl (show BlkOk dm (aA iQ) _ [] from ⟨rfl,by decide +kernel,by decide +kernel,by decide +kernel,by decide +kernel⟩) rfl) (gQ (dB (bP (by decide)) (dB (gQ (dB (bP (by decide)) (dB (bP (by decide)) gR))) gR))))))))))
 (aB (Zlk (nN (Zhk PySem.F.plainAttrs_list PySem.F.slot_list_reverse PySem.F.type_list_reverse ZhR (pv 2))))
 (aQ (Zet (k:=2) (b6 (bn (t:=aT) (cP gu rfl T.fy boot_tuple (ah (ac (pv 2)) aw)) fY)))))))))
noncomputable def oz:List Sl->Tr Ou :=
 (fP (tz (c5 (ae gW (a9 ga (af (aF (aE kF (ag (aa 3) (ag (aa 4) aD)))) ap)) (aa 6))) (c5 (ae gW (a9 ga (af (bM (af (aa 3) (af (aa 4) ap))) ap)) (aa 5))))
  (bR (aC (.bool false)))
  fN)
noncomputable def ZcU:List Sl->Tr Ou :=
 (az (aW 3 (aF (aE kG (cu 1 aD))))
 (az (aW 4 (aF (aE kL (cu 1 aD))))
 (az (aW 5 (a9 ga (af (bM (af (aa 3) (af (aa 4) ap))) ap)))
 (az (aW 6 (a9 ga (af (aF (aE kJ (ag (aa 3) (ag (aa 4) aD)))) ap)))
 (c6 (fO (af (aC (.int 2)) ap)) (am 7) oz)))))
noncomputable def kM:List Sl->Tr Ou :=
 (az (c6 (fO (af (aC (.int 2)) ap)) (am 2) ZcU)
 (bR (aC (.bool true))))
noncomputable abbrev oq:List Sl:=.un::.pen::List.replicate 6 .un
theorem ZhA (T:Txt K mg) {f:Addr} {fd:FuncData} (F:Fun K "law" "law" mX f fd) (hl:(kM oq).ok 0 λ_ o=>o=.ret (.d (.bool true))):FnOk P w K mg base fV 6 f fd ["_law_script"] (ZaG K):=by
 refine F.ok fo (λvs H Q E h=>?_) (λcdv A outer s H vs Q E hr h=>?_)
 ·obtain ⟨a,ns,rfl,_⟩:=h
  rfl
 ·obtain ⟨a,ns,rfl,hS,hlen,k⟩:=h
  have hu:=e9 hr
  refine ⟨_,(cO (aU (i:=1) fo.nd rfl (Or.inl rfl) (Zcc (Zhz T) (hr.mono (by decide)) rfl (bY (pv 0) cx)))
 (ZgO (t:=λcn=>aV (bm cn) kM) λcn=>(aB (dL PassesOwn.never rfl (iz (gS rfl T.eD (ah av aw))) (aM (aK (i:=2) fo.nd rfl (Or.inl rfl)))
  (aB (ba (aU (i:=3) fo.nd rfl (Or.inl rfl) (aO (aL (ZkQ T) (hr.mono (by decide)) rfl (cG (pv 1) aN)))))
 (aB (ba (aU (i:=4) fo.nd rfl (Or.inl rfl) (aO (aL (ZkY T) (hr.mono (by decide)) rfl (cG (pv 1) aN)))))
 (aB (ba (aU (i:=5) fo.nd rfl (Or.inl rfl) (bn (t:=aT) (bo (lD hr) rfl T.ku boot_repr (ah (ci (ah (ac (pv 3)) (ah (ac (pv 4)) aw))) aw)) jG)))
 (aB (ba (aU (i:=6) fo.nd rfl (Or.inl rfl) (bn (t:=aT) (bo (lD hr) rfl T.ku boot_repr (ah (aO (aL (ZkW T) (hr.mono (by decide)) rfl (aj (ac (pv 3)) (aj (ac (pv 4)) aN)))) aw)) jG)))
 (aQ (dL PassesOwn.never rfl (iz (gS rfl T.eD (ah av aw))) (aM (aK (i:=7) fo.nd rfl (Or.inl rfl)))
  (aQ (iu (Zel (Zk9 (er (Zcg hr) Zaf (bn (t:=aT) (bo (lD hr) rfl T.ku boot_repr (ah (aO (aL (ZkP T) (hr.mono (by decide)) rfl (aj (ac (pv 3)) (aj (ac (pv 4)) aN)))) aw)) jG) (ac (pv 6)) (nomark _)) (Zk8 (er (Zcg hr) Zaf (bn (t:=aT) (bo (lD hr) rfl T.ku boot_repr (ah (ci (ah (ac (pv 3)) (ah (ac (pv 4)) aw))) aw)) jG) (ac (pv 5)) (nomark _)))))
  (aQ (b6 ZeG))
  iq)))))))))
 (aQ (b6 ZeG))))),?_⟩
  refine ⟨_,rfl,a,ns,rfl,hS,hlen,λp c H' hp hP hs=>?_⟩
  exact Zik (n:=6) hP rfl rfl (λH'=>k H') hl
end
end My
local macro_rules | `(tactic| simp_arith [$ls,*] $[$loc]?) => do let b : Lean.TSyntaxArray ``Lean.Parser.Tactic.simpLemma ← (("L2.pg L2.pf L2.sF L2.rY L2.rX L2.sw L2.lv L2.sv L2.pJ L2.rS L2.rJ L2.qI L2.rK L2.rH L2.qH L2.qY L2.dI L2.jr L2.jq L2.jp L2.lL L2.lK L2.lJ L2.lI L2.lH L2.lG L2.qG L2.qF L2.pI L2.pA L2.pH L2.pG L2.pF L2.pE L2.pB L2.pC L2.su L2.qA L2.qD L2.sn L2.sr L2.qy L2.qz L2.qC L2.rz L2.rp L2.rq L2.qE L2.rR L2.rQ L2.rP L2.pz L2.pw L2.qN L2.qM L2.qP L2.qO L2.bS L2.rV L2.rT L2.qR L2.qQ L2.sx L2.qK L2.ra L2.rb L2.pq L2.ph L2.ii L2.gr L2.pj L2.lq L2.qL L2.lu L2.sB L2.sC L2.sE L2.sD L2.qt L2.qr L2.sA L2.sy L2.rW L2.qq L2.qp L2.rO L2.rF L2.rE L2.pW L2.pT L2.pS L2.pV L2.pU L2.pK L2.rg L2.re L2.rf L2.qo L2.qm L2.ql L2.qj L2.qh L2.qg L2.qf L2.qd L2.qc L2.pR L2.pQ L2.pP L2.pO L2.oh L2.og L2.r8 L2.r6 L2.rZ L2.rA L2.qx L2.qw L2.sm L2.sj L2.si L2.qb L2.qa L2.rB L2.oY L2.oZ L2.oX L2.oW L2.o0 L2.sg L2.sa L2.qB L2.oS L2.oQ L2.oT L2.oU L2.oR L2.qv L2.qu L2.q9 L2.q5 L2.qZ L2.p6 L2.pZ L2.pe L2.pc L2.pb L2.o9 L2.o7 L2.rL L2.rN L2.rM L2.rD L2.rC L2.o3 L2.qX L2.qW L2.qV L2.nZ L2.n5 L2.n8 L2.n6 L2.qS L2.qU L2.qT L2.rh L2.rm L2.rn L2.rj L2.pN L2.pM L2.pL L2.p9 L2.pY L2.pX L2.p8 L2.p7 Tw.mQ Tw.mP Tw.mO Tw.mN Tw.mM Tw.mL Tw.mK Tw.mJ Tw.mI L2.qJ L2.rc L2.nv L2.Tr.of_some L2.Tr.bind_assoc L2.Tr.draw_bind List.cons_append List.nil_append List.replicate_succ List.replicate_zero List.length_cons List.length_nil L2.Re.val_d L2.Re.val_own L2.blk L2.jn List.map_cons List.map_nil List.getElem?_cons_zero List.getElem?_cons_succ Option.getD_some Nat.reduceAdd Nat.reduceLeDiff List.isEmpty_cons".splitOn " ").toArray.map fun s => Lean.mkIdent s.toName).mapM fun i => `(Lean.Parser.Tactic.simpLemma| $i:ident); `(tactic| simp only [$b,*, $ls,*] $[$loc]?)
namespace My
open PySem PySem.Spec PyProof.Rows L2 Tw
theorem ZdC {s:Shp} (h:s.Ok):hI [.d s.d]=.ret (.d (.tuple (br (-s.depth) (s.top+1)))):=by
 have:=h.t0
 have:=h.d0
 have:=h.td
 have hr:fr (-s.depth) (s.top+1)=true:=by
  unfold fr
  rw [eK (by omega) (by omega),eK (by omega) (by omega)]
  simp
  omega
 simp_arith [hI,lq hr]
theorem sH (s:Shp) (y f:Int):hU [.d s.d,.d (.int y),.d (.int f)]=.ret (.d (.int (s.nx y f))):=by
 simp_arith [hU,Shp.nx]
theorem ZdG {s:Shp} (h:s.Ok) {x:Int} (hx:nb 20 x):hW [.d s.d,.d (.int x)]=.ret (.d (.int (s.fin x))):=by
 have f1:=aS (eX h.back) (by decide)
 have f2:=aS h.late (by decide)
 have f3:=aS hx (by decide)
 have f4:=aS (eX hx) (by decide)
 by_cases hp:x > 0
 ·simp_arith [hW,decide_eq_true hp,f1,f3,Shp.fin,if_pos hp]
 ·simp_arith [hW,decide_eq_false hp,f2,f4,Shp.fin,if_neg hp]
theorem Zjs {s:Shp} (h:s.Ok) {x y:Int} (hx:nb 20 x) (hy:nb 20 y):i8 [.d s.d,.d (.int x),.d (.int y)]=.ret (.d (.int (s.ord x y))):=by
 have f1:=aS h.piece (by decide)
 have f2:=aS (fx hy hx) (by decide)
 by_cases hp:y<=x
 ·simp_arith [i8,decide_eq_true hp,Shp.ord,if_pos hp]
 ·simp_arith [i8,decide_eq_false hp,f1,f2,Shp.ord,if_neg hp]
theorem ZdH {s:Shp} (h:s.Ok) {y f:Int} (hy:nb 20 y) (hf:nb 40 f):hX [.d s.d,.d (.int y),.d (.int f)]=.ret (.d (.int (s.day y f))):=by
 have hd:nb 7 s.depth:=by have:=h.t0; have:=h.d0; have:=h.td; exact bH (by show -128 < _; omega) (by show _ < 128; omega)
 have hn:nb 50 (s.nx y f):=by
  unfold Shp.nx cD
  exact gX (bA (eX hd) (by decide)) (bA (fx hy hf) (by decide))
 have f1:=aS h.keep (by decide)
 have f2:=aS hn (by decide)
 have f3:=aS (eX hn) (by decide)
 have f4:=aS h.lack (by decide)
 have f5:=aS h.lost (by decide)
 have f6:=aS (fx hn (fx hy hf)) (by decide)
 have e:=sH s y f
 by_cases hp:s.nx y f > 0
 ·simp_arith [hX,e,decide_eq_true hp,f1,f2,f5,f6,Shp.day,if_pos hp]
 ·simp_arith [hX,e,decide_eq_false hp,f3,f4,f5,f6,Shp.day,if_neg hp]
theorem ZjA {a b:Int} (hb:nb 8000 b):kQ [.d (.int a),.d (.int b)]=.ret (.d (.int (Nat.gcd a.natAbs b.natAbs:Nat))):=by
 have key:=euclid (p:=mo) (s:=oA) (E:=λa b=>[.d (.int a),.d (.int b)]) (λa b=>by
  simp_arith [mo]
  by_cases h:b=0
  ·subst h; rfl
  ·rw [decide_eq_true h]
   congr 1
   simp [h]) (λa b h=>by
  have h':(b:Int)≠0:=by omega
  simp_arith [oA,Zdt h',Zdo]) 8000 83999 a.natAbs b.natAbs hb
 have e:2 * 8000+1+83999=100000:=rfl
 rw [e] at key
 simp_arith [kQ,ZeH,key]
theorem Zjo {t b:Int} (h0:b≠0) (hb:nb 7000 b):i7 [.d (.int t),.d (.int b)]=.ret (.d (gF t b)):=by
 have e:=ZjA (a:=t) (b:=b) (bA hb (by decide))
 have e0:(b == 0)=false:=beq_eq_false_iff_ne.mpr h0
 have hd:=Gc.sN (t:=t) h0
 have hf:=aS (ZdO (t:=t) hb h0) (by decide)
 unfold gF Gc.eZ Gc.eG
 by_cases hn:b < 0
 ·have ed:Gc.den t b=-((Nat.gcd t.natAbs b.natAbs:Nat):Int):=by unfold Gc.den Gc.fI; rw [if_pos hn]
  rw [ed] at hd hf ⊢
  simp_arith [i7,e0,e,decide_eq_true hn,rG hd hf]
 ·have ed:Gc.den t b=((Nat.gcd t.natAbs b.natAbs:Nat):Int):=by unfold Gc.den Gc.fI; rw [if_neg hn]
  rw [ed] at hd hf ⊢
  simp_arith [i7,e0,e,decide_eq_false hn,rG hd hf]
noncomputable def cy (ds:List (List (List Int))):PyData:=.tuple (ds.map fD)
theorem sml {n:Nat} {s:Shp} (h7:s.n<=7) (h:n<=s.n * s.n):n<=100:=by
 have:s.n * s.n<=7 * 7:=Nat.mul_le_mul h7 h7
 omega
theorem Zjp {day:List (List Int)} (hd:DdB day):kP [.d (fD day)]=.ret (.d (.int (aG day))):=by
 have hs:small (day.map tI).length=true:=bS (by rw [List.length_map]; have:=hd.len; omega)
 have e:bh (df (am 0) nI [.un]) (day.map tI)=.ret (day.map λl=>PyData.int l.sum):=de λl _=>by
  have e1:bQ cf [tI l]=.ret (.int l.sum):=gr l
  simp_arith [nI,e1]
 have e2:bQ cf [.list (day.map λl=>PyData.int l.sum)]=.ret (.int (aG day)):=by rw [o6]; exact ii _
 simp_arith [kP,jf,hs,e,e2]
theorem ly {s:Shp} (h:s.Ok) (h7:s.n<=7):eE [.d s.d]=.ret (.own (s.sts.map ao)):=by
 have e0:br (-s.depth) (s.top+1)=(aq (-s.depth) s.n).map PyData.int:=rfl
 have hit:bJ (aF (aE hI (ag (aa 0) aD))) [.d s.d]=.ret ((aq (-s.depth) s.n).map PyData.int):=by
  simp_arith [ZdC h,e0]
 have e:=ZcL (n:=2) (ix:=[0]) (a:=0) (b:=1) (is1:=lf) (el:=jZ) (f:=PyData.int) (g:=λx=>(aq (-s.depth) s.n).map λy=>ao (x,y)) hit (by rw [dA]; omega) λx _=>by
  refine ZcM (f:=PyData.int) ?_ (by rw [dA]; omega) λy _=>?_
  ·show lf [.d (.int x),.un,.d s.d]=_
   simp_arith [lf,ZdC h,e0]
  ·show jZ [.d (.int x),.d (.int y),.d s.d]=_
   simp_arith [jZ]
   rfl
 rw [ZfP] at e
 simp_arith [eE,e]
theorem Zjr {s:Shp} (h:s.Ok) {p q:Pt} (hp:nb 20 (p.1+p.2)) (hq:nb 20 (q.1+q.2)):kE [.d s.d,.d (ao p),.d (ao q)]=.ret (.d (.int (s.ord (p.1+p.2) (q.1+q.2)))):=by
 have e:=Zjs h hp hq
 simp_arith [kE,ZfM,e]
theorem Zjq {s:Shp} (h:s.Ok) (h7:s.n<=7) {p:Pt} (hp:p∈s.sts):kD [.d s.d,.d (ao p)]=.ret (.own ((s.rzs p).map ao)):=by
 have ht:=h.t0
 have hd0:=h.d0
 have htd:=h.td
 have hn:=h.n_eq
 obtain ⟨⟨a1,a2⟩,b1,b2⟩:=(cw h).mp hp
 have r1:dG p.1=true:=eK (by omega) (by omega)
 have r2:dG p.2=true:=eK (by omega) (by omega)
 have r3:dG (s.top+1)=true:=eK (by omega) (by omega)
 have e0:∀ x:Int,br x (s.top+1)=(aq x (s.top+1 - x).toNat).map PyData.int:=λ_=>rfl
 have hit:jt (af (aa 2) (af (ae aZ (aa 4) (aC (.int 1))) ap)) [.d s.d,.d (ao p),.d (.int p.1),.d (.int p.2),.d (.int s.top)]=.ret ((aq p.1 (s.top+1 - p.1).toNat).map PyData.int):=by
  simp_arith [Zds r1 r3,e0]
 have e:=ZcL (n:=2) (ix:=[3,4]) (a:=0) (b:=1) (is1:=lg) (el:=j3) (f:=PyData.int) (g:=λx=>(aq p.2 (s.top+1 - p.2).toNat).map λy=>ao (x,y)) hit (by rw [dA]; omega) λx _=>by
  refine ZcM (f:=PyData.int) ?_ (by rw [dA]; omega) λy _=>?_
  ·show lg [.d (.int x),.un,.d (.int p.2),.d (.int s.top)]=_
   simp_arith [lg,Zds r2 r3,e0]
  ·show j3 [.d (.int x),.d (.int y),.d (.int p.2),.d (.int s.top)]=_
   simp_arith [j3]
   rfl
 rw [Zgn] at e
 have eg:bz (aH (am 2) (aH (am 3) bw)) (ao p) [.d s.d,.d (ao p),.un,.un,.un]=some [.d s.d,.d (ao p),.d (.int p.1),.d (.int p.2),.un]:=rfl
 simp_arith [kD,eg,e]
theorem ZjB {s:Shp} (h:s.Ok) (h7:s.n<=7):kN [.d s.d]=.ret (.d (pD (s.tb λa b=>s.fin a+s.fin b))):=by
 have hit:bJ (aF (aE eE (ag (aa 0) aD))) [.d s.d]=.ret (s.sts.map ao):=by simp_arith [ly h h7]
 have e:=sP (n:=2) (ix:=[0]) (g:=bz (aH (am 0) (aH (am 1) bw))) (kx:=nH) (i:=nG) (f:=ao) (kv:=λp:Pt=>(kS p,PyData.int (s.fin p.1+s.fin p.2))) hit (Nat.le_trans (sml h7 (by rw [eQ]; exact Nat.le_refl _)) (by decide)) (gE h) (hZ (fZ s)) λp hp=>by
  obtain ⟨⟨a1,a2⟩,b1,b2⟩:=(cw h).mp hp
  show fc _ _ [.d (.int p.1),.d (.int p.2),.d s.d]=_
  refine sJ ?_ ?_
  ·simp_arith [nH]
   rfl
  ·simp_arith [nG,ZdG h (eF h a1 a2),ZdG h (eF h b1 b2)]
 simp_arith [kN,e]
 rfl
theorem Zjn {s:Shp} (h:s.Ok) {day:List (List Int)} (hd:DdB day) {F:Int->Int->Int} {b:Nat} (hF:fX s b F) {c:Int} (hc:nb b c) (hb:b<=3000) {q:Pt} (hq:q∈s.sts) :
  kC [.d s.d,.d (fD day),.d (ao q),.d (pD (s.tb F)),.d (.int c)]=.ret (.d (.int (s.w2 day F c q.1 q.2))):=by
 obtain ⟨⟨a1,a2⟩,b1,b2⟩:=(cw h).mp hq
 have hlen:=hd.len
 have eg:bz (aH (am 5) (aH (am 6) bw)) (ao q) [.d s.d,.d (fD day),.d (ao q),.d (pD (s.tb F)),.d (.int c),.un,.un,.un,.un,.un,.un,.un,.un,.un]=some [.d s.d,.d (fD day),.d (ao q),.d (pD (s.tb F)),.d (.int c),.d (.int q.1),.d (.int q.2),.un,.un,.un,.un,.un,.un,.un]:=rfl
 have hq1:=eF h a1 a2
 have hq2:=eF h b1 b2
 have gbs:∀ i j:Nat,i<=3->j<=3->nb (b+102) (s.c2 F c q.1 q.2 i j):=λi j hi hj=>sT h hF hc a1 a2 b1 b2 (by omega) (by omega)
 have inner:∀ (i:Nat) (line:List Int) (T:Int) (J10 J11 J12 J13:Sl),i<=3->line.length<=3->(∀ w∈line,0<=w/\w<=1000) ->
   Al (b9 (bz (aH (am 10) (aH (am 11) bw))) ot (cU (line.map PyData.int)) [.d s.d,.d (fD day),.d (ao q),.d (pD (s.tb F)),.d (.int c),.d (.int q.1),.d (.int q.2),.d (.int T),.d (.int i),.d (tI line),J10,J11,J12,J13]) 0
    λo=>∃ J10 J11 J12 J13:Sl,o=.next [.d s.d,.d (fD day),.d (ao q),.d (pD (s.tb F)),.d (.int c),.d (.int q.1),.d (.int q.2),.d (.int (T+ws (s.c2 F c q.1 q.2 i) 0 line)),.d (.int i),.d (tI line),J10,J11,J12,J13]:=by
  intro i line T J10 J11 J12 J13 hi hl hw
  refine eM (n:=0) (λpre ρ=>∃ J10 J11 J12 J13:Sl,ρ=[.d s.d,.d (fD day),.d (ao q),.d (pD (s.tb F)),.d (.int c),.d (.int q.1),.d (.int q.2),.d (.int (T+ws (s.c2 F c q.1 q.2 i) 0 line - ws (s.c2 F c q.1 q.2 i) pre.length (line.drop pre.length))),.d (.int i),.d (tI line),J10,J11,J12,J13]) ⟨J10,J11,J12,J13,?_⟩ (by simp) ?_ ?_
  ·have e:T+ws (s.c2 F c q.1 q.2 i) 0 line - ws (s.c2 F c q.1 q.2 i) 0 line=T:=by omega
   simp only [List.length_nil,List.drop_zero,e]
  ·rintro pre x post ρ e ⟨J10,J11,J12,J13,rfl⟩
   obtain ⟨w,hw',rfl⟩:=lw e
   rw [List.getElem?_map] at hw'
   obtain ⟨v,hv,rfl⟩:=Option.map_eq_some_iff.mp hw'
   refine ⟨_,rfl,?_⟩
   have hpl:pre.length < line.length:=(List.getElem?_eq_some_iff.mp hv).1
   have e1:=ZdH h hq1 (fH (k:=i) (by omega))
   have e2:=ZdH h hq2 (fH (k:=pre.length) (by omega))
   have e3:=sH s q.1 i
   have e4:=sH s q.2 pre.length
   have e5:=jL h (F:=F) (gg s q.1 i) (gf h a2 (show (0:Int)<=i by omega)) (gg s q.2 pre.length) (gf h b2 (show (0:Int)<=pre.length by omega))
   have f1:=aS hc (by omega)
   have f2:=aS (dD (il h hq1 (fH (k:=i) (by omega))) (il h hq2 (fH (k:=pre.length) (by omega)))) (by decide)
   have f3:=aS (jE (hw v (List.mem_of_getElem? hv))) (by decide)
   have f4:fit (c * (s.day q.1 i+s.day q.2 pre.length)+F (s.nx q.1 i) (s.nx q.2 pre.length))=true:=aS (gbs i pre.length (by omega) (by omega)) (by omega)
   simp_arith [ot,e1,e2,e3,e4,e5,f1,f2,f3,f4]
   have ed:line.drop pre.length=v::line.drop (pre.length+1):=by
    rw [List.drop_eq_getElem_cons hpl]
    congr 1
    exact (List.getElem?_eq_some_iff.mp hv).2
   have el:(pre++[PyData.tuple [PyData.int pre.length,PyData.int v]]).length=pre.length+1:=by simp
   have ee:T+ws (s.c2 F c q.1 q.2 i) 0 line - ws (s.c2 F c q.1 q.2 i) pre.length (line.drop pre.length)+v * (c * (s.day q.1 i+s.day q.2 pre.length)+F (s.nx q.1 i) (s.nx q.2 pre.length)) =
     T+ws (s.c2 F c q.1 q.2 i) 0 line - ws (s.c2 F c q.1 q.2 i) (pre++[PyData.tuple [PyData.int pre.length,PyData.int v]]).length (line.drop (pre++[PyData.tuple [PyData.int pre.length,PyData.int v]]).length):=by
    rw [el,ed,ws]
    show _=T+_ - _
    unfold Shp.c2
    omega
   rw [ee]
   exact bL ⟨_,rfl,_,_,_,_,rfl⟩
  ·rintro ρ ⟨J10,J11,J12,J13,rfl⟩
   refine ⟨J10,J11,J12,J13,?_⟩
   rw [lx,List.length_map,List.drop_length,ws,Int.sub_zero]
 apply iw
 simp_arith [kC,eg,jf]
 refine cF (n:=0) (n':=0) (P:=λo=>∃ J8 J9 J10 J11 J12 J13:Sl,o=.next [.d s.d,.d (fD day),.d (ao q),.d (pD (s.tb F)),.d (.int c),.d (.int q.1),.d (.int q.2),.d (.int (s.w2 day F c q.1 q.2)),J8,J9,J10,J11,J12,J13]) ?_ (by decide) ?_
 ·refine eM (n:=0) (λpre ρ=>∃ J8 J9 J10 J11 J12 J13:Sl,ρ=[.d s.d,.d (fD day),.d (ao q),.d (pD (s.tb F)),.d (.int c),.d (.int q.1),.d (.int q.2),.d (.int (s.w2 day F c q.1 q.2 - wss (s.c2 F c q.1 q.2) pre.length (day.drop pre.length))),J8,J9,J10,J11,J12,J13]) ⟨.un,.un,.un,.un,.un,.un,?_⟩ (by simp) ?_ ?_
  ·have e:s.w2 day F c q.1 q.2 - wss (s.c2 F c q.1 q.2) 0 day=0:=by unfold Shp.w2; omega
   simp only [List.length_nil,List.drop_zero,e]
  ·rintro pre x post ρ e ⟨J8,J9,J10,J11,J12,J13,rfl⟩
   obtain ⟨w,hw',rfl⟩:=lw e
   rw [List.getElem?_map] at hw'
   obtain ⟨line,hv,rfl⟩:=Option.map_eq_some_iff.mp hw'
   refine ⟨_,rfl,?_⟩
   have hpl:pre.length < day.length:=(List.getElem?_eq_some_iff.mp hv).1
   obtain ⟨l1,l2⟩:=hd.row line (List.mem_of_getElem? hv)
   have ed:day.drop pre.length=line::day.drop (pre.length+1):=by
    rw [List.drop_eq_getElem_cons hpl]
    congr 1
    exact (List.getElem?_eq_some_iff.mp hv).2
   have el:(pre++[PyData.tuple [PyData.int pre.length,tI line]]).length=pre.length+1:=by simp
   simp_arith [ZcO,Zc1]
   refine lQ (inner pre.length line _ _ _ _ _ (by omega) l1 l2) (Nat.le_refl _) ?_
   rintro _ ⟨J10,J11,J12,J13,rfl⟩
   have ee:s.w2 day F c q.1 q.2 - wss (s.c2 F c q.1 q.2) pre.length (day.drop pre.length)+ws (s.c2 F c q.1 q.2 pre.length) 0 line=s.w2 day F c q.1 q.2 - wss (s.c2 F c q.1 q.2) (pre++[PyData.tuple [PyData.int pre.length,tI line]]).length (day.drop (pre++[PyData.tuple [PyData.int pre.length,tI line]]).length):=by
    rw [el,ed,wss]
    omega
   rw [ee]
   exact ⟨_,rfl,_,_,J10,J11,J12,J13,rfl⟩
  ·rintro ρ ⟨J8,J9,J10,J11,J12,J13,rfl⟩
   refine ⟨J8,J9,J10,J11,J12,J13,?_⟩
   rw [lx,List.length_map,List.drop_length,wss,Int.sub_zero]
 ·rintro _ ⟨J8,J9,J10,J11,J12,J13,rfl⟩
  simp_arith [List.isEmpty_cons]
  exact bL rfl
theorem ZjD {s:Shp} (h:s.Ok) (h7:s.n<=7) {day:List (List Int)} (hd:DdB day) {F:Int->Int->Int} {b:Nat} (hF:fX s b F) {c:Int} (hc:nb b c) (hb:b<=3000) :
  kT [.d s.d,.d (fD day),.d (pD (s.tb F)),.d (.int c)]=.ret (.d (pD (s.tb (s.w2 day F c)))):=by
 have hit:bJ (aF (aE eE (ag (aa 0) aD))) [.d s.d,.d (fD day),.d (pD (s.tb F)),.d (.int c)]=.ret (s.sts.map ao):=by simp_arith [ly h h7]
 have e:=sP (n:=1) (ix:=[0,1,2,3]) (g:=am 0) (kx:=nL) (i:=nK) (f:=ao) (kv:=λp:Pt=>(kS p,PyData.int (s.w2 day F c p.1 p.2))) hit (Nat.le_trans (sml h7 (by rw [eQ]; exact Nat.le_refl _)) (by decide)) (gE h) (hZ (fZ s)) λp hp=>by
  show fc _ _ [.d (ao p),.d s.d,.d (fD day),.d (pD (s.tb F)),.d (.int c)]=_
  refine sJ ?_ ?_
  ·simp_arith [nL]
   rfl
  ·simp_arith [nK,Zjn h hd hF hc hb hp]
 simp_arith [kT,e]
 rfl
theorem ZjC {s:Shp} (h:s.Ok) (h7:s.n<=7) {W:Int->Int->Int} {c:Int} {b:Nat} (hc:nb b c) (hb:b<=3000) {p:Pt} (hp:p∈s.sts) :
  kR [.d s.d,.d (ao p),.d (pD (s.tb W)),.d (.int c)]=.ret (.d (bg (s.bp W c p))):=by
 obtain ⟨⟨a1,a2⟩,b1,b2⟩:=(cw h).mp hp
 have hsub:∀ q∈s.rzs p,q∈s.sts/\nb 20 (p.1+p.2)/\nb 20 (q.1+q.2):=λq hq=>by
  have ht:=h.t0
  have hd0:=h.d0
  have htd:=h.td
  obtain ⟨⟨q1,q2⟩,q3,q4⟩:=(gH a2 b2).mp hq
  exact ⟨(cw h).mpr ⟨⟨by omega,q2⟩,by omega,q4⟩,bH (by show -1048576 < _; omega) (by show _ < 1048576; omega),bH (by show -1048576 < _; omega) (by show _ < 1048576; omega)⟩
 have hsm:small ((s.rzs p).map ao).length=true:=bS (by
  rw [List.length_map,<- mD h hp]
  exact Nat.le_trans (List.length_filter_le _ _) (Nat.le_trans (sml h7 (by rw [eQ]; exact Nat.le_refl _)) (by decide)))
 have e:bh (df (am 0) nJ [.un,.d (.int c),.d (pD (s.tb W)),.d s.d,.d (ao p)]) ((s.rzs p).map ao)=.ret ((s.rzs p).map λq=>bg (c * s.ord (p.1+p.2) (q.1+q.2)+W q.1 q.2,kS q)):=de λq hq=>by
  obtain ⟨q0,q1,q2⟩:=hsub q hq
  obtain ⟨⟨c1,c2⟩,d1,d2⟩:=(cw h).mp q0
  have e1:=Zjr h q1 q2
  have e2:aP fe (pD (s.tb W)) (ao q)=.ret (.int (W q.1 q.2)):=jL h c1 c2 d1 d2
  have f1:=aS hc (by omega)
  have f2:=aS (nP h q1 q2) (by decide)
  simp_arith [nJ,e1,e2,f1,f2]
  rfl
 have e2:(s.rzs p).map (λq=>bg (c * s.ord (p.1+p.2) (q.1+q.2)+W q.1 q.2,kS q))=(s.cand W c p).map bg:=by unfold Shp.cand; rw [List.map_map]; rfl
 have hn:s.cand W c p≠[]:=λe=>ni h hp (List.map_eq_nil_iff.mp e)
 rw [e2] at e
 simp_arith [kR,Zjq h h7 hp,hsm,e,Zdu hn]
 rfl
theorem Zjx {s:Shp} (h:s.Ok) (h7:s.n<=7) {ds:List (List (List Int))} (hd:∀ d∈ds,DdB d) (hl:ds.length<=3):kF [.d s.d,.d (cy ds)]=.ret (.d (.tuple (s.dtab ds))):=by
 have hsub:∀ k,∀ d∈ds.drop k,DdB d:=λk d h=>hd d (List.mem_of_mem_drop h)
 have it_ddD:cm (cy ds)=.ret (ds.map fD):=rfl
 have dlen:∀ R:List (List (List Int)),(s.dtab R).length=R.length:=λR=>by
  induction R with
  | nil=>rfl
  | cons d R ih=>rw [Shp.dtab,List.length_cons,List.length_cons,ih]
 have hsm:small (s.sts.map ao).length=true:=bS (by rw [List.length_map]; exact Nat.le_trans (sml h7 (by rw [eQ]; exact Nat.le_refl _)) (by decide))
 have hst:s.sts.length<=100:=sml h7 (by rw [eQ]; exact Nat.le_refl _)
 apply iw
 simp_arith [kF,ZjB h h7,it_ddD]
 refine cF (n:=0) (n':=0) (P:=λo=>∃ J3 J4 J5 J6 J7:Sl,o=.next [.d s.d,.d (cy ds),.own (s.dtab ds).reverse,J3,J4,J5,J6,J7]) ?_ (by decide) ?_
 ·refine eM (n:=0) (λpre ρ=>∃ J5 J6 J7:Sl,ρ=[.d s.d,.d (cy ds),.own (s.dtab (ds.drop (ds.length - pre.length))).reverse,.d (pD (s.tb (s.dk (ds.drop (ds.length - pre.length))).1)),.d (.int (s.dk (ds.drop (ds.length - pre.length))).2),J5,J6,J7]) ⟨.un,.un,.un,?_⟩ (by simp) ?_ ?_
  ·rw [List.length_nil,Nat.sub_zero,List.drop_length]
   rfl
  ·rintro pre x post ρ e ⟨J5,J6,J7,rfl⟩
   obtain ⟨d,rfl,hpl,hdr⟩:=Zbm e
   refine ⟨_,rfl,?_⟩
   have hdd:DdB d:=hsub (ds.length - (pre.length+1)) d (by rw [hdr]; simp)
   obtain ⟨k1,k2,k3⟩:=lz h (hsub (ds.length - pre.length))
   have el:(pre++[fD d]).length=pre.length+1:=by simp
   rw [el,hdr]
   have hrl:(ds.drop (ds.length - pre.length)).length<=3:=by rw [List.length_drop]; omega
   generalize ds.drop (ds.length - pre.length)=R at *
   have hpos:=Int.mul_pos k3 hdd.pos
   have n2:nb 600 ((s.dk R).2 * aG d):=bA (cQ k2 (f8 hdd)) (by omega)
   have e1:=ZjD h h7 hdd k1 k2 (by omega)
   have e2:=Zjp hdd
   have f1:=aS k2 (by omega)
   have f2:=aS (f8 hdd) (by decide)
   have e3:bh (df (am 0) nC [.un,.d s.d,.d (pD (s.tb (s.w2 d (s.dk R).1 (s.dk R).2))),.d (.int ((s.dk R).2 * aG d))]) (s.sts.map ao)=.ret (s.sts.map λp=>bg (s.pick d R p)):=de λp hp=>by
    have e:=ZjC h h7 (W:=s.w2 d (s.dk R).1 (s.dk R).2) n2 (by decide) hp
    simp_arith [nC,e]
    rfl
   have hsm3:small (s.sts.map λp=>bg (s.pick d R p)).length=true:=bS (by rw [List.length_map]; omega)
   have e4:bh (df (bz (aH (am 0) (aH (am 1) bw))) j4 [.un,.un,.d (.int ((s.dk R).2 * aG d))]) (s.sts.map λp=>bg (s.pick d R p))=.ret (s.ddayL d R):=de λp _=>by
    have es:=Zjo (t:=(s.pick d R p).1) (b:=(s.dk R).2 * aG d) (Int.ne_of_gt hpos) (bA n2 (by decide))
    show j4 [.d (.int (s.pick d R p).1),.d (.tuple ((s.pick d R p).2.map PyData.int)),.d (.int ((s.dk R).2 * aG d))]=_
    simp_arith [j4,es]
   have hsm4:small ((s.dtab R).reverse.length+1)=true:=bS (by rw [List.length_reverse,dlen]; omega)
   have hit:∀ τ:List Sl,lU (aF (aE eE (ag (aa 0) aD))) (aa 7) [.d s.d,.d (cy ds),.own ((s.dtab R).reverse++[.tuple (s.ddayL d R)]),.d (pD (s.tb (s.dk R).1)),.d (.int ((s.dk R).2 * aG d)),.d (fD d),.d (pD (s.tb (s.w2 d (s.dk R).1 (s.dk R).2))),.d (.list (s.sts.map λp=>bg (s.pick d R p)))]=.ret (s.sts.map λp=>.tuple [ao p,bg (s.pick d R p)]):=λ_=>by
    simp_arith [ly h h7,Zab]
   have e5:=sP (n:=3) (ix:=[]) (g:=bz (aH (am 0) (aH (bz (aH (am 1) (aH (am 2) bw))) bw))) (kx:=nA) (i:=nz) (kv:=λp:Pt=>(kS p,PyData.int (s.pick d R p).1)) (hit []) (Nat.le_trans hst (by decide)) (gE h) (hZ (fZ s)) λp hp=>by
    show fc _ _ [.d (ao p),.d (.int (s.pick d R p).1),.d (.tuple ((s.pick d R p).2.map PyData.int))]=_
    refine sJ ?_ ?_
    ·simp_arith [nA]
     rfl
    ·simp_arith [nz]
   simp_arith [ZcP,e1,e2,f1,f2,ly h h7,hsm,e3,hsm3,e4,hsm4,e5]
   rw [Shp.dtab,List.reverse_cons]
   exact bL ⟨_,rfl,_,_,_,rfl⟩
  ·rintro ρ ⟨J5,J6,J7,rfl⟩
   rw [List.length_reverse,List.length_map,Nat.sub_self,List.drop_zero]
   exact Exists.intro _ (Exists.intro _ ⟨J5,J6,J7,rfl⟩)
 ·rintro _ ⟨J3,J4,J5,J6,J7,rfl⟩
  simp_arith [List.reverse_reverse]
  exact bL rfl
theorem kA {z:Int} {k:Nat} (h:nb k z):nb k (cD z 0):=by
 unfold cD
 exact gX (show (0:Int).natAbs < 2 ^ k from Nat.pos_of_ne_zero (by simp)) h
theorem ZjN (s:Shp) (y f:Int):s.keep * cD (s.nx y f) 0+s.lack * cD (0 - s.nx y f) 0+s.lost * (s.nx y f - y+f)=s.day y f:=by
 unfold Shp.day
 have e:s.nx y f - y+f=s.nx y f - (y - f):=by omega
 rw [e]
 generalize s.nx y f=z
 unfold cD
 by_cases hz:z > 0
 ·rw [if_neg (by omega),if_pos (by omega),if_pos hz,Int.mul_zero,Int.add_zero]
 ·rw [if_neg hz]
  by_cases h0:z=0
  ·subst h0; simp
  ·rw [if_pos (by omega),if_neg (by omega),Int.mul_zero,Int.zero_add]
   have e2:0 - z=-z:=by omega
   rw [e2]
theorem Zi3 (s:Shp) (x:Int):s.late * cD (0 - x) 0 - s.back * cD x 0=s.fin x:=by
 unfold Shp.fin cD
 by_cases hx:x > 0
 ·rw [if_pos (by omega),if_neg (by omega),if_pos hx,Int.mul_zero,Int.neg_mul]
  omega
 ·rw [if_neg hx]
  by_cases h0:x=0
  ·subst h0; simp
  ·rw [if_neg (by omega),if_pos (by omega),Int.mul_zero,Int.sub_zero]
   have e2:0 - x=-x:=by omega
   rw [e2]
theorem ZhE (s:Shp) (y f:Int):cD (y - f) (0 - s.depth)=s.nx y f:=by
 unfold Shp.nx
 have e:0 - s.depth=-s.depth:=by omega
 rw [e]
theorem ZdF {s:Shp} (h:s.Ok) {x:Int} (x1:-s.depth<=x) (x2:x<=s.top):gi [.d s.d,.d (.int x)]=.ret (.d (.int (s.fin x))):=by
 have:=h.t0
 have:=h.d0
 have:=h.td
 have n1:nb 20 (0 - x):=bH (by show -1048576 < _; omega) (by show _ < 1048576; omega)
 have n2:nb 20 x:=bH (by show -1048576 < _; omega) (by show _ < 1048576; omega)
 have g1:=aS h.late (by decide)
 have g2:=aS (kA n1) (by decide)
 have g3:=aS h.back (by decide)
 have g4:=aS (kA n2) (by decide)
 simp_arith [gi,g1,g2,g3,g4,Zi3]
theorem ZdD {s:Shp} (h:s.Ok):i9 [.d s.d]=.ret (.own (br (-s.depth) (s.top+1))):=by
 have:=h.t0
 have:=h.d0
 have:=h.td
 have e:0 - s.depth=-s.depth:=by omega
 have hr:fr (-s.depth) (s.top+1)=true:=by
  unfold fr
  rw [eK (by omega) (by omega),eK (by omega) (by omega)]
  simp
  omega
 simp_arith [i9,e,lu hr]
theorem Zjt {t b:Int} (hb:0 < b) (nB:nb 7000 b):kH [.d (.int t),.d (.int b)]=.ret (.d (gF t b)):=by
 obtain ⟨z,rfl⟩:∃ z:Nat,b=(z:Int):=⟨b.toNat,by omega⟩
 have key:=euclid (p:=mn) (s:=ou) (E:=λa b'=>[.d (.int t),.d (.int z),.d (.int a),.d (.int b')]) (λa b=>by
  simp_arith [mn]
  by_cases h:b=0
  ·subst h; rfl
  ·rw [decide_eq_true h]
   congr 1
   simp
   omega) (λa b h=>by
  have h':(b:Int)≠0:=by omega
  simp_arith [ou,Zdt h',Zdo]) 8000 83999 t.natAbs z (Nat.lt_of_lt_of_le (show z < 2 ^ 7000 from by unfold nb at nB; rwa [Int.natAbs_natCast] at nB) (Nat.pow_le_pow_right (by decide) (by decide)))
 have e:2 * 8000+1+83999=100000:=rfl
 rw [e] at key
 have hd:=Gc.sN (t:=t) (b:=(z:Int)) (by omega)
 have hf:=aS (ZdO (t:=t) nB (by omega)) (by decide)
 have ed:Gc.den t (z:Int)=((Nat.gcd t.natAbs z:Nat):Int):=by unfold Gc.den Gc.fI; rw [if_neg (by omega),Int.natAbs_natCast]
 unfold gF Gc.eZ Gc.eG
 rw [ed] at hd hf ⊢
 simp_arith [kH,ZeH,key,rG hd hf]
theorem gO (p:Pt):aP aJ (ao p) (.int 0)=.ret (.int p.1):=rfl
theorem gN (p:Pt):aP aJ (ao p) (.int 1)=.ret (.int p.2):=rfl
theorem Zb3 (p:Pr):aP aJ (bg p) (.int 0)=.ret (.int p.1):=rfl
theorem ZgW (p:Pr):aP aJ (bg p) (.int 1)=.ret (.tuple (p.2.map PyData.int)):=rfl
theorem ZdE {s:Shp} (h:s.Ok) {y:Int} {f:Nat} (y1:-s.depth<=y) (y2:y<=s.top) (f1:f<=16):jb [.d s.d,.d (.int y),.d (.int f)]=.ret (.d (.tuple [.int (s.day y f),.int (s.nx y f)])):=by
 have:=h.t0
 have:=h.d0
 have:=h.td
 have n1:=gg s y f
 have n2:=gf h y2 (show (0:Int)<=f by omega)
 have hn:nb 20 (s.nx y f):=bH (by show -1048576 < _; omega) (by show _ < 1048576; omega)
 have hn2:nb 20 (0 - s.nx y f):=bH (by show -1048576 < _; omega) (by show _ < 1048576; omega)
 have hn3:nb 20 (s.nx y f - y+f):=bH (by show -1048576 < _; omega) (by show _ < 1048576; omega)
 have g1:=aS h.keep (by decide)
 have g2:=aS (kA hn) (by decide)
 have g3:=aS h.lack (by decide)
 have g4:=aS (kA hn2) (by decide)
 have g5:=aS h.lost (by decide)
 have g6:=aS hn3 (by decide)
 simp_arith [jb,ZhE,g1,g2,g3,g4,g5,g6,ZjN]
theorem Zju {s:Shp} (h:s.Ok) {p q:Pt} (hp:p∈s.sts) (hq:q∈s.rzs p):ja [.d s.d,.d (ao p),.d (ao q)]=.ret (.d (.int (s.ord (p.1+p.2) (q.1+q.2)))):=by
 have:=h.t0
 have:=h.d0
 have:=h.td
 obtain ⟨⟨a1,a2⟩,b1,b2⟩:=(cw h).mp hp
 obtain ⟨⟨q1,q2⟩,q3,q4⟩:=(gH a2 b2).mp hq
 have em:q.1 - p.1+q.2 - p.2=q.1+q.2 - (p.1+p.2):=by omega
 have n1:nb 20 (q.1+q.2 - (p.1+p.2)):=bH (by show -1048576 < _; omega) (by show _ < 1048576; omega)
 have g2:=aS (show nb 20 (1:Int) from bH (by decide) (by decide)) (by decide)
 have g3:=aS (show nb 20 (0:Int) from bH (by decide) (by decide)) (by decide)
 have g4:=aS h.piece (by decide)
 have g5:=aS n1 (by decide)
 have g6:=aS (dD h.start (cQ h.piece n1)) (by decide)
 unfold Shp.ord
 by_cases hc:q.1+q.2 - (p.1+p.2) > 0
 ·rw [if_neg (by omega)]
  simp_arith [ja,gO,gN,em,decide_eq_true hc,if_true,g2,g4,g5,g6,Int.mul_one]
 ·rw [if_pos (by omega)]
  simp_arith [ja,gO,gN,em,decide_eq_false hc,g3,g4,g5,g6,Int.mul_zero,Bool.false_eq_true,if_false]
theorem Zjv {s:Shp} (h:s.Ok) {day:List (List Int)} (hd:DdB day) {F:Int->Int->Int} {b:Nat} (hF:fX s b F) {c:Int} (hc:nb b c) (hb:b<=3000) {q:Pt} (hq:q∈s.sts) :
  hV [.d s.d,.d (fD day),.d (pD (s.tb F)),.d (.int c),.d (ao q)]=.ret (.d (.int (s.w2 day F c q.1 q.2))):=by
 obtain ⟨⟨a1,a2⟩,b1,b2⟩:=(cw h).mp hq
 have hlen:=hd.len
 have hq1:=eF h a1 a2
 have hq2:=eF h b1 b2
 have gbs:∀ i j:Nat,i<=3->j<=3->nb (b+102) (s.c2 F c q.1 q.2 i j):=λi j hi hj=>sT h hF hc a1 a2 b1 b2 (by omega) (by omega)
 have inner:∀ (i:Nat) (line:List Int) (T:Int) (J10 J11 J12 J13 J14:Sl),i<=3->line.length<=3->(∀ w∈line,0<=w/\w<=1000) ->
   Al (b9 (bz (aH (am 10) (aH (am 11) bw))) ow (cU (line.map PyData.int)) [.d s.d,.d (fD day),.d (pD (s.tb F)),.d (.int c),.d (ao q),.d (.int T),.d (.int i),.d (tI line),.d (.int (s.day q.1 i)),.d (.int (s.nx q.1 i)),J10,J11,J12,J13,J14]) 0
    λo=>∃ J10 J11 J12 J13 J14:Sl,o=.next [.d s.d,.d (fD day),.d (pD (s.tb F)),.d (.int c),.d (ao q),.d (.int (T+ws (s.c2 F c q.1 q.2 i) 0 line)),.d (.int i),.d (tI line),.d (.int (s.day q.1 i)),.d (.int (s.nx q.1 i)),J10,J11,J12,J13,J14]:=by
  intro i line T J10 J11 J12 J13 J14 hi hl hw
  refine eM (n:=0) (λpre ρ=>∃ J10 J11 J12 J13 J14:Sl,ρ=[.d s.d,.d (fD day),.d (pD (s.tb F)),.d (.int c),.d (ao q),.d (.int (T+ws (s.c2 F c q.1 q.2 i) 0 line - ws (s.c2 F c q.1 q.2 i) pre.length (line.drop pre.length))),.d (.int i),.d (tI line),.d (.int (s.day q.1 i)),.d (.int (s.nx q.1 i)),J10,J11,J12,J13,J14]) ⟨J10,J11,J12,J13,J14,?_⟩ (by simp) ?_ ?_
  ·have e:T+ws (s.c2 F c q.1 q.2 i) 0 line - ws (s.c2 F c q.1 q.2 i) 0 line=T:=by omega
   simp only [List.length_nil,List.drop_zero,e]
  ·rintro pre x post ρ e ⟨J10,J11,J12,J13,J14,rfl⟩
   obtain ⟨w,hw',rfl⟩:=lw e
   rw [List.getElem?_map] at hw'
   obtain ⟨v,hv,rfl⟩:=Option.map_eq_some_iff.mp hw'
   refine ⟨_,rfl,?_⟩
   have hpl:pre.length < line.length:=(List.getElem?_eq_some_iff.mp hv).1
   have e1:=ZdE h b1 b2 (f:=pre.length) (by omega)
   have eg:∀ (a b:Int) (ρ:List Sl),bz (aH (am 12) (aH (am 13) bw)) (.tuple [.int a,.int b]) ρ=some ((ρ.set 12 (.d (.int a))).set 13 (.d (.int b))):=λ_ _ _=>rfl
   have e5:=jL h (F:=F) (gg s q.1 i) (gf h a2 (show (0:Int)<=i by omega)) (gg s q.2 pre.length) (gf h b2 (show (0:Int)<=pre.length by omega))
   have f1:=aS hc (by omega)
   have f2:=aS (dD (il h hq1 (fH (k:=i) (by omega))) (il h hq2 (fH (k:=pre.length) (by omega)))) (by decide)
   have f3:=aS (jE (hw v (List.mem_of_getElem? hv))) (by decide)
   have em:(s.day q.1 i+s.day q.2 pre.length) * c+F (s.nx q.1 i) (s.nx q.2 pre.length)=s.c2 F c q.1 q.2 i pre.length:=by unfold Shp.c2; rw [Int.mul_comm]
   have f4:fit (s.c2 F c q.1 q.2 i pre.length)=true:=aS (gbs i pre.length (by omega) (by omega)) (by omega)
   simp_arith [ow,gN,e1,eg,e5,f1,f2,f3,em,f4]
   have ed:line.drop pre.length=v::line.drop (pre.length+1):=by
    rw [List.drop_eq_getElem_cons hpl]
    congr 1
    exact (List.getElem?_eq_some_iff.mp hv).2
   have el:(pre++[PyData.tuple [PyData.int pre.length,PyData.int v]]).length=pre.length+1:=by simp
   have ee:T+ws (s.c2 F c q.1 q.2 i) 0 line - ws (s.c2 F c q.1 q.2 i) pre.length (line.drop pre.length)+v * s.c2 F c q.1 q.2 i pre.length =
     T+ws (s.c2 F c q.1 q.2 i) 0 line - ws (s.c2 F c q.1 q.2 i) (pre++[PyData.tuple [PyData.int pre.length,PyData.int v]]).length (line.drop (pre++[PyData.tuple [PyData.int pre.length,PyData.int v]]).length):=by
    rw [el,ed,ws]
    omega
   rw [ee]
   exact bL ⟨_,rfl,_,_,_,_,_,rfl⟩
  ·rintro ρ ⟨J10,J11,J12,J13,J14,rfl⟩
   refine ⟨J10,J11,J12,J13,J14,?_⟩
   rw [lx,List.length_map,List.drop_length,ws,Int.sub_zero]
 apply iw
 simp_arith [hV,jf]
 refine cF (n:=0) (n':=0) (P:=λo=>∃ J6 J7 J8 J9 J10 J11 J12 J13 J14:Sl,o=.next [.d s.d,.d (fD day),.d (pD (s.tb F)),.d (.int c),.d (ao q),.d (.int (s.w2 day F c q.1 q.2)),J6,J7,J8,J9,J10,J11,J12,J13,J14]) ?_ (by decide) ?_
 ·refine eM (n:=0) (λpre ρ=>∃ J6 J7 J8 J9 J10 J11 J12 J13 J14:Sl,ρ=[.d s.d,.d (fD day),.d (pD (s.tb F)),.d (.int c),.d (ao q),.d (.int (s.w2 day F c q.1 q.2 - wss (s.c2 F c q.1 q.2) pre.length (day.drop pre.length))),J6,J7,J8,J9,J10,J11,J12,J13,J14]) ⟨.un,.un,.un,.un,.un,.un,.un,.un,.un,?_⟩ (by simp) ?_ ?_
  ·have e:s.w2 day F c q.1 q.2 - wss (s.c2 F c q.1 q.2) 0 day=0:=by unfold Shp.w2; omega
   simp only [List.length_nil,List.drop_zero,e]
  ·rintro pre x post ρ e ⟨J6,J7,J8,J9,J10,J11,J12,J13,J14,rfl⟩
   obtain ⟨w,hw',rfl⟩:=lw e
   rw [List.getElem?_map] at hw'
   obtain ⟨line,hv,rfl⟩:=Option.map_eq_some_iff.mp hw'
   refine ⟨_,rfl,?_⟩
   have hpl:pre.length < day.length:=(List.getElem?_eq_some_iff.mp hv).1
   obtain ⟨l1,l2⟩:=hd.row line (List.mem_of_getElem? hv)
   have ed:day.drop pre.length=line::day.drop (pre.length+1):=by
    rw [List.drop_eq_getElem_cons hpl]
    congr 1
    exact (List.getElem?_eq_some_iff.mp hv).2
   have el:(pre++[PyData.tuple [PyData.int pre.length,tI line]]).length=pre.length+1:=by simp
   have e1:=ZdE h a1 a2 (f:=pre.length) (by omega)
   have eg:∀ (a b:Int) (ρ:List Sl),bz (aH (am 8) (aH (am 9) bw)) (.tuple [.int a,.int b]) ρ=some ((ρ.set 8 (.d (.int a))).set 9 (.d (.int b))):=λ_ _ _=>rfl
   simp_arith [ZcQ,gO,e1,eg,Zc1]
   refine lQ (inner pre.length line _ _ _ _ _ _ (by omega) l1 l2) (Nat.le_refl _) ?_
   rintro _ ⟨J10,J11,J12,J13,J14,rfl⟩
   have ee:s.w2 day F c q.1 q.2 - wss (s.c2 F c q.1 q.2) pre.length (day.drop pre.length)+ws (s.c2 F c q.1 q.2 pre.length) 0 line=s.w2 day F c q.1 q.2 - wss (s.c2 F c q.1 q.2) (pre++[PyData.tuple [PyData.int pre.length,tI line]]).length (day.drop (pre++[PyData.tuple [PyData.int pre.length,tI line]]).length):=by
    rw [el,ed,wss]
    omega
   rw [ee]
   exact ⟨_,rfl,_,_,_,_,J10,J11,J12,J13,J14,rfl⟩
  ·rintro ρ ⟨J6,J7,J8,J9,J10,J11,J12,J13,J14,rfl⟩
   refine ⟨J6,J7,J8,J9,J10,J11,J12,J13,J14,?_⟩
   rw [lx,List.length_map,List.drop_length,wss,Int.sub_zero]
 ·rintro _ ⟨J6,J7,J8,J9,J10,J11,J12,J13,J14,rfl⟩
  simp_arith [List.isEmpty_cons]
  exact bL rfl
theorem Zcp {a b c d:Sl} (ha:aY a=false) (hc:aY c=false) (hd:aY d=false):eW 1 [a,b,c,d]=true:=by
 show (!aY a && (!aY .un && (!aY c && (!aY d && true))))=true
 rw [ha,hc,hd]
 rfl
theorem Zjw {s:Shp} (h:s.Ok) (h7:s.n<=7):kI [.d s.d]=.ret (.d (pD (s.tb λa b=>s.fin a+s.fin b))):=by
 have ht:=h.t0
 have hd0:=h.d0
 have htd:=h.td
 have hn:=h.n_eq
 let kv:Pt->List Int×PyData:=λp=>(kS p,.int (s.fin p.1+s.fin p.2))
 have inner:∀ (k:Nat) (J3:Sl),aY J3=false->k < s.n->Al (b9 (am 3) ox (br (-s.depth) (s.top+1)) [.d s.d,.dip ((bO (aq (-s.depth) k) (aq (-s.depth) s.n)).map kv),.d (.int (-s.depth+k)),J3]) 0
   λo=>∃ J3:Sl,aY J3=false/\o=.next [.d s.d,.dip ((bO (aq (-s.depth) (k+1)) (aq (-s.depth) s.n)).map kv),.d (.int (-s.depth+k)),J3]:=by
  intro k J3 h3 hk
  refine eM (n:=0) (λpre ρ=>∃ J3:Sl,aY J3=false/\ρ=[.d s.d,.dip ((bO (aq (-s.depth) k) (aq (-s.depth) s.n)).map kv++((aq (-s.depth) pre.length).map λy=>kv (-s.depth+k,y))),.d (.int (-s.depth+k)),J3]) ⟨J3,h3,?_⟩ (by simp) ?_ ?_
  ·show _=[_,Sl.dip (_++[]),_,_]
   rw [List.append_nil]
  ·rintro pre x post ρ e ⟨J3,h3,rfl⟩
   obtain ⟨rfl,hpre⟩:=Zbi e
   refine ⟨_,rfl,?_⟩
   have e1:=ZdF h (x:=-s.depth+k) (by omega) (by omega)
   have e2:=ZdF h (x:=-s.depth+(pre.length:Int)) (by omega) (by omega)
   have el:(pre++[PyData.int (-s.depth+pre.length)]).length=pre.length+1:=by simp
   have hlen:((bO (aq (-s.depth) k) (aq (-s.depth) s.n)).map kv++((aq (-s.depth) pre.length).map λy=>kv (-s.depth+k,y))).length<=5000:=by
    have hp:(bO (aq (-s.depth) k) (aq (-s.depth) s.n)).length=k * s.n:=by
     unfold bO
     rw [List.length_flatMap]
     have:((aq (-s.depth) k).map λx=>((aq (-s.depth) s.n).map λy=>(x,y)).length)=(aq (-s.depth) k).map λ_=>s.n:=List.map_congr_left λx _=>by rw [List.length_map,dA]
     rw [this,List.map_const',List.sum_replicate_nat,dA]
    rw [List.length_append,List.length_map,List.length_map,dA,hp]
    have:k * s.n<=7 * 7:=Nat.mul_le_mul (by omega) h7
    omega
   have hni:kS (-s.depth+k,-s.depth+pre.length) ∉ ((bO (aq (-s.depth) k) (aq (-s.depth) s.n)).map kv++((aq (-s.depth) pre.length).map λy=>kv (-s.depth+k,y))).map (·.1):=by
    rw [List.map_append,List.map_map,List.map_map]
    intro z
    rcases List.mem_append.mp z with z | z
    ·obtain ⟨p,hp,e⟩:=List.mem_map.mp z
     have e:kS p=kS (-s.depth+k,-s.depth+pre.length):=e
     rw [ZcX e] at hp
     have:=gb (nO.mp hp).1
     omega
    ·obtain ⟨y,hy,e⟩:=List.mem_map.mp z
     have e:kS (-s.depth+k,y)=kS (-s.depth+k,-s.depth+pre.length):=e
     injection e with _ e
     injection e with e _
     have:=gb hy
     omega
   have ep:=Zb4 (k:=1) (ρ:=[.d s.d,.dip ((bO (aq (-s.depth) k) (aq (-s.depth) s.n)).map kv++((aq (-s.depth) pre.length).map λy=>kv (-s.depth+k,y))),.d (.int (-s.depth+k)),.d (.int (-s.depth+pre.length))])
    (i:=(ae aZ (aF (aE gi (ag (aa 0) (ag (aa 2) aD)))) (aF (aE gi (ag (aa 0) (ag (aa 3) aD)))))) (nn:=(bM (af (aa 2) (af (aa 3) ap)))) (x:=.int (s.fin (-s.depth+k)+s.fin (-s.depth+pre.length))) (ns:=kS (-s.depth+k,-s.depth+pre.length))
    (by simp_arith [e1,e2]) rfl (by simp only [pg,pf,sF,rY,rX,sw,lv,sv,pJ,rS,rJ,qI,rK,rH,qH,qY,dI,jr,jq,jp,lL,lK,lJ,lI,lH,lG,qG,qF,pI,pA,pH,pG,pF,pE,pB,pC,su,qA,qD,sn,sr,qy,qz,qC,rz,rp,rq,qE,rR,rQ,rP,pz,pw,qN,qM,qP,qO,bS,rV,rT,qR,qQ,sx,qK,ra,rb,pq,ph,ii,gr,pj,lq,qL,lu,sB,sC,sE,sD,qt,qr,sA,sy,rW,qq,qp,rO,rF,rE,pW,pT,pS,pV,pU,pK,rg,re,rf,qo,qm,ql,qj,qh,qg,qf,qd,qc,pR,pQ,pP,pO,oh,og,r8,r6,rZ,rA,qx,qw,sm,sj,si,qb,qa,rB,oY,oZ,oX,oW,o0,sg,sa,qB,oS,oQ,oT,oU,oR,qv,qu,q9,q5,qZ,p6,pZ,pe,pc,pb,o9,o7,rL,rN,rM,rD,rC,o3,qX,qW,qV,nZ,n5,n8,n6,qS,qU,qT,rh,rm,rn,rj,pN,pM,pL,p9,pY,pX,p8,p7,Tw.mQ,Tw.mP,Tw.mO,Tw.mN,Tw.mM,Tw.mL,Tw.mK,Tw.mJ,Tw.mI,qJ,rc,nv,Tr.of_some,Tr.bind_assoc,Tr.draw_bind,List.cons_append,List.nil_append,List.replicate_succ,List.replicate_zero,List.length_cons,List.length_nil,Re.val_d,Re.val_own,blk,jn,List.map_cons,List.map_nil,List.getElem?_cons_zero,List.getElem?_cons_succ,Option.getD_some,Nat.reduceAdd,Nat.reduceLeDiff,List.isEmpty_cons]; rfl) hlen (Zcp rfl rfl rfl) hni
   unfold ox
   show Al (gx 1 _ _ [.d s.d,.dip _,.d (.int (-s.depth+k)),.d (.int (-s.depth+pre.length))]) _ _
   rw [ep]
   refine bL ⟨_,rfl,.d (.int (-s.depth+pre.length)),rfl,?_⟩
   rw [el,Zbx,List.map_append,<- List.append_assoc]
   rfl
  ·rintro ρ ⟨J3,h3,rfl⟩
   rw [cC]
   refine ⟨J3,h3,?_⟩
   have en:(s.top+1 - -s.depth).toNat=s.n:=rfl
   rw [en,Zbx]
   have:bO (aq (-s.depth) k++[-s.depth+(k:Int)]) (aq (-s.depth) s.n)=bO (aq (-s.depth) k) (aq (-s.depth) s.n)++(aq (-s.depth) s.n).map λy=>(-s.depth+(k:Int),y):=by
    unfold bO
    rw [List.flatMap_append,List.flatMap_cons,List.flatMap_nil,List.append_nil]
   rw [this,List.map_append,List.map_map]
   rfl
 apply iw
 simp_arith [kI,Zdr,ZdD h]
 refine cF (n:=0) (n':=0) (P:=λo=>∃ J2 J3:Sl,aY J2=false/\aY J3=false/\o=.next [.d s.d,.dip (s.sts.map kv),J2,J3]) ?_ (by decide) ?_
 ·refine eM (n:=0) (λpre ρ=>∃ J2 J3:Sl,aY J2=false/\aY J3=false/\ρ=[.d s.d,.dip ((bO (aq (-s.depth) pre.length) (aq (-s.depth) s.n)).map kv),J2,J3]) ⟨.un,.un,rfl,rfl,rfl⟩ (by simp) ?_ ?_
  ·rintro pre x post ρ e ⟨J2,J3,h2,h3,rfl⟩
   obtain ⟨rfl,hpre⟩:=Zbi e
   refine ⟨_,rfl,?_⟩
   have el:(pre++[PyData.int (-s.depth+pre.length)]).length=pre.length+1:=by simp
   have hk:pre.length < s.n:=by unfold Shp.n; omega
   simp_arith [ZcR,ZdD h]
   refine lQ (inner pre.length J3 h3 hk) (Nat.le_refl _) ?_
   rintro _ ⟨J3',h3',rfl⟩
   rw [el]
   exact ⟨_,rfl,_,J3',rfl,h3',rfl⟩
  ·rintro ρ ⟨J2,J3,h2,h3,rfl⟩
   rw [cC]
   exact ⟨J2,J3,h2,h3,rfl⟩
 ·rintro _ ⟨J2,J3,h2,h3,rfl⟩
  have ef:=Zdv (s:=di 1) (k:=1) (ρ:=[.d s.d,.dip (s.sts.map kv),J2,J3]) (l:=s.sts.map kv) rfl (Zcp rfl h2 h3) (λe=>gE h (List.map_eq_nil_iff.mp e))
  simp_arith [ef]
  exact bL rfl
theorem Zcq {a b c d e x g h i j:Sl} (ha:aY a=false) (hb:aY b=false) (hc:aY c=false) (hd:aY d=false) (he:aY e=false) (hg:aY g=false) (hh:aY h=false) (hi:aY i=false) (hj:aY j=false):eW 5 [a,b,c,d,e,x,g,h,i,j]=true:=by
 show (!aY a && (!aY b && (!aY c && (!aY d && (!aY e && (!aY .un && (!aY g && (!aY h && (!aY i && (!aY j && true))))))))))=true
 rw [ha,hb,hc,hd,he,hg,hh,hi,hj]
 rfl
theorem Zcz {h:PyData->Tr (Option PyData)} {u:Pt->Bool}:∀ {l:List Pt},(∀ p∈l,h (ao p)=.ret (if u p=true then some (ao p) else none))->dE h (l.map ao)=.ret ((l.filter u).map ao)
 | [],_=>rfl
 | p::l,e=>by
  rw [List.map_cons,dE,e p (List.mem_cons_self ..),Tr.ret_bind,Zcz λq hq=>e q (List.mem_cons_of_mem _ hq),Tr.ret_bind,List.filter_cons]
  by_cases hu:u p=true
  ·rw [if_pos hu,if_pos hu]
   rfl
  ·rw [if_neg hu,if_neg hu]
   rfl
theorem Zjy {s:Shp} (h:s.Ok) (h7:s.n<=7) {day:List (List Int)} (hd:DdB day) {F:Int->Int->Int} {b:Nat} (hF:fX s b F) {c:Int} (hc:nb b c) (hb:b<=2000) :
  jc [.d s.d,.d (fD day),.d (pD (s.tb F)),.d (.int c)]=.ret (.own (s.sts.map λp=>.tuple [ao p,bg (s.bp (s.w2 day F c) (c * aG day) p)])):=by
 have hst:s.sts.length<=100:=sml h7 (by rw [eQ]; exact Nat.le_refl _)
 have hs:small (day.map tI).length=true:=bS (by rw [List.length_map]; have:=hd.len; omega)
 have e0:bh (df (am 0) nD [.un]) (day.map tI)=.ret (day.map λl=>PyData.int l.sum):=de λl _=>by
  have e1:bQ cf [tI l]=.ret (.int l.sum):=gr l
  simp_arith [nD,e1]
 have e1:bQ cf [.list (day.map λl=>PyData.int l.sum)]=.ret (.int (aG day)):=by rw [o6]; exact ii _
 have f1:=aS hc (by omega)
 have f2:=aS (f8 hd) (by decide)
 have nW:nb (b+20) (c * aG day):=cQ hc (f8 hd)
 have fW:=aS nW (by omega)
 have em:∀ p∈s.sts,hV [.d s.d,.d (fD day),.d (pD (s.tb F)),.d (.int c),.d (ao p)]=.ret (.d (.int (s.w2 day F c p.1 p.2))):=λp hp=>Zjv h hd hF hc (by omega) hp
 generalize s.w2 day F c=W at *
 let kv:Pt->List Int×PyData:=λp=>(kS p,.int (W p.1 p.2))
 have hsm:small (s.sts.map ao).length=true:=bS (by rw [List.length_map]; omega)
 apply iw
 simp_arith [jc,jf,hs,e0,e1,f1,f2,Zdr,Zjh,Zfr h]
 refine cF (n:=0) (n':=0) (P:=λo=>∃ J6 J7 J8 J9:Sl,aY J6=false/\aY J7=false/\aY J8=false/\aY J9=false/\o=.next [.d s.d,.d (fD day),.d (pD (s.tb F)),.d (.int c),.d (.int (c * aG day)),.dip (s.tb W),J6,J7,J8,J9]) ?_ (by decide) ?_
 ·refine eM (n:=0) (λpre ρ=>∃ J6:Sl,aY J6=false/\ρ=[.d s.d,.d (fD day),.d (pD (s.tb F)),.d (.int c),.d (.int (c * aG day)),.dip ((s.sts.take pre.length).map kv),J6,.un,.un,.un]) ⟨.un,rfl,rfl⟩ (by simp) ?_ ?_
  ·rintro pre x post ρ e ⟨J6,h6,rfl⟩
   have hx:(s.sts.map ao)[pre.length]?=some x:=by rw [e]; simp
   rw [List.getElem?_map] at hx
   obtain ⟨p,hp,rfl⟩:=Option.map_eq_some_iff.mp hx
   have hpm:p∈s.sts:=List.mem_of_getElem? hp
   refine ⟨_,rfl,?_⟩
   have em:=em p hpm
   have el:(pre++[ao p]).length=pre.length+1:=by simp
   have ht:s.sts.take (pre.length+1)=s.sts.take pre.length++[p]:=by rw [List.take_add_one,hp]; rfl
   have nd:=hZ (fZ s)
   have hni:kS p ∉ ((s.sts.take pre.length).map kv).map (·.1):=by
    rw [List.map_map]
    intro z
    have z:kS p∈(s.sts.take pre.length).map kS:=z
    have q:(s.sts.take (pre.length+1)).map kS=(s.sts.take pre.length).map kS++[kS p]:=by rw [ht,List.map_append]; rfl
    have nd2:((s.sts.take (pre.length+1)).map kS).Nodup:=by
     rw [List.map_take]
     exact List.Nodup.sublist (List.take_sublist _ _) nd
    rw [q,List.nodup_append] at nd2
    exact nd2.2.2 _ z _ (List.mem_cons_self ..) rfl
   have ep:=Zb4 (k:=5) (ρ:=[.d s.d,.d (fD day),.d (pD (s.tb F)),.d (.int c),.d (.int (c * aG day)),.dip ((s.sts.take pre.length).map kv),.d (ao p),.un,.un,.un])
    (i:=(aF (aE hV (ag (aa 0) (ag (aa 1) (ag (aa 2) (ag (aa 3) (ag (aa 6) aD)))))))) (nn:=aa 6) (x:=.int (W p.1 p.2)) (ns:=kS p)
    (by simp_arith [em]) rfl (by simp only [pg,pf,sF,rY,rX,sw,lv,sv,pJ,rS,rJ,qI,rK,rH,qH,qY,dI,jr,jq,jp,lL,lK,lJ,lI,lH,lG,qG,qF,pI,pA,pH,pG,pF,pE,pB,pC,su,qA,qD,sn,sr,qy,qz,qC,rz,rp,rq,qE,rR,rQ,rP,pz,pw,qN,qM,qP,qO,bS,rV,rT,qR,qQ,sx,qK,ra,rb,pq,ph,ii,gr,pj,lq,qL,lu,sB,sC,sE,sD,qt,qr,sA,sy,rW,qq,qp,rO,rF,rE,pW,pT,pS,pV,pU,pK,rg,re,rf,qo,qm,ql,qj,qh,qg,qf,qd,qc,pR,pQ,pP,pO,oh,og,r8,r6,rZ,rA,qx,qw,sm,sj,si,qb,qa,rB,oY,oZ,oX,oW,o0,sg,sa,qB,oS,oQ,oT,oU,oR,qv,qu,q9,q5,qZ,p6,pZ,pe,pc,pb,o9,o7,rL,rN,rM,rD,rC,o3,qX,qW,qV,nZ,n5,n8,n6,qS,qU,qT,rh,rm,rn,rj,pN,pM,pL,p9,pY,pX,p8,p7,Tw.mQ,Tw.mP,Tw.mO,Tw.mN,Tw.mM,Tw.mL,Tw.mK,Tw.mJ,Tw.mI,qJ,rc,nv,Tr.of_some,Tr.bind_assoc,Tr.draw_bind,List.cons_append,List.nil_append,List.replicate_succ,List.replicate_zero,List.length_cons,List.length_nil,Re.val_d,Re.val_own,blk,jn,List.map_cons,List.map_nil,List.getElem?_cons_zero,List.getElem?_cons_succ,Option.getD_some,Nat.reduceAdd,Nat.reduceLeDiff,List.isEmpty_cons]; rfl) (by rw [List.length_map,List.length_take]; omega) (Zcq rfl rfl rfl rfl rfl rfl rfl rfl rfl) hni
   unfold ZcS
   show Al (gx 5 _ _ [.d s.d,.d (fD day),.d (pD (s.tb F)),.d (.int c),.d (.int (c * aG day)),.dip _,.d (ao p),.un,.un,.un]) _ _
   rw [ep]
   refine bL ⟨_,rfl,.d (ao p),rfl,?_⟩
   rw [el,ht,List.map_append]
   rfl
  ·rintro ρ ⟨J6,h6,rfl⟩
   rw [List.length_map,List.take_length]
   exact ⟨J6,.un,.un,.un,h6,rfl,rfl,rfl,rfl⟩
 rintro _ ⟨J6,J7,J8,J9,h6,h7',h8,h9,rfl⟩
 simp_arith [mx h h7]
 refine cF (n:=0) (n':=0) (P:=λo=>∃ J5 J8 J9:Sl,o=.next [.d s.d,.d (fD day),.d (pD (s.tb F)),.d (.int c),.d (.int (c * aG day)),J5,J6,.own (s.sts.map λp=>.tuple [ao p,bg (s.bp W (c * aG day) p)]),J8,J9]) ?_ (by decide) ?_
 ·refine eM (n:=0) (λpre ρ=>∃ J5 J8 J9:Sl,(J5=.dip (s.tb W)\/J5=.d (pD (s.tb W)))/\ρ=[.d s.d,.d (fD day),.d (pD (s.tb F)),.d (.int c),.d (.int (c * aG day)),J5,J6,.own ((s.sts.take pre.length).map λp=>.tuple [ao p,bg (s.bp W (c * aG day) p)]),J8,J9]) ⟨_,J8,J9,.inl rfl,rfl⟩ (by simp) ?_ ?_
  ·rintro pre x post ρ e ⟨J5,J8,J9,h5,rfl⟩
   have hx:(s.sts.map ao)[pre.length]?=some x:=by rw [e]; simp
   rw [List.getElem?_map] at hx
   obtain ⟨p,hp,rfl⟩:=Option.map_eq_some_iff.mp hx
   have hpm:p∈s.sts:=List.mem_of_getElem? hp
   obtain ⟨⟨a1,a2⟩,b1,b2⟩:=(cw h).mp hpm
   refine ⟨_,rfl,?_⟩
   have el:(pre++[ao p]).length=pre.length+1:=by simp
   have ht:s.sts.take (pre.length+1)=s.sts.take pre.length++[p]:=by rw [List.take_add_one,hp]; rfl
   have e2:dE (kW (am 0) i5 iX [.un,.d (ao p)]) (s.sts.map ao)=.ret ((s.rzs p).map ao):=by
    rw [<- mD h hpm]
    refine Zcz λq _=>?_
    have c1:decide (q.1 ≥ p.1)=decide (p.1<=q.1):=rfl
    have c2:decide (q.2 ≥ p.2)=decide (p.2<=q.2):=rfl
    cases d1:decide (p.1<=q.1)
    ·simp_arith [i5,iX,gO,gN,c1,d1,Bool.false_and,Bool.false_eq_true,↓reduceIte]
    ·cases d2:decide (p.2<=q.2)
     ·simp_arith [i5,iX,gO,gN,c1,c2,d1,d2,Bool.true_and,Bool.false_eq_true,↓reduceIte]
     ·simp_arith [i5,iX,gO,gN,c1,c2,d1,d2,Bool.true_and,↓reduceIte]
   have hsm2:small ((s.rzs p).map ao).length=true:=bS (by
    rw [List.length_map,<- mD h hpm]
    exact Nat.le_trans (List.length_filter_le _ _) (by omega))
   have e3:bh (df (am 0) iW [.un,.d (pD (s.tb W)),.d (.int (c * aG day)),.d s.d,.d (ao p)]) ((s.rzs p).map ao)=.ret ((s.cand W (c * aG day) p).map bg):=by
    have e4:(s.cand W (c * aG day) p).map bg=(s.rzs p).map (λq=>bg (c * aG day * s.ord (p.1+p.2) (q.1+q.2)+W q.1 q.2,kS q)):=by unfold Shp.cand; rw [List.map_map]; rfl
    rw [e4]
    refine de λq hq=>?_
    obtain ⟨⟨q1,q2⟩,q3,q4⟩:=(gH a2 b2).mp hq
    have g1:=Zju h hpm hq
    have g2:aP fe (pD (s.tb W)) (ao q)=.ret (.int (W q.1 q.2)):=jL h (by omega) q2 (by omega) q4
    have ht0:=h.t0
    have hd0:=h.d0
    have htd:=h.td
    have g3:=aS (nP h (x:=p.1+p.2) (y:=q.1+q.2) (bH (by show -1048576 < _; omega) (by show _ < 1048576; omega)) (bH (by show -1048576 < _; omega) (by show _ < 1048576; omega))) (by decide)
    have em:W q.1 q.2+s.ord (p.1+p.2) (q.1+q.2) * (c * aG day)=c * aG day * s.ord (p.1+p.2) (q.1+q.2)+W q.1 q.2:=by rw [Int.add_comm,Int.mul_comm]
    simp_arith [iW,g1,g2,g3,fW,em]
    rfl
   have hn:s.cand W (c * aG day) p≠[]:=λe=>ni h hpm (List.map_eq_nil_iff.mp e)
   have e5:=Zdu hn
   have hsm3:small (((s.sts.take pre.length).map λp=>PyData.tuple [ao p,bg (s.bp W (c * aG day) p)]).length+1)=true:=bS (by rw [List.length_map,List.length_take]; omega)
   rcases h5 with rfl | rfl
   ·have ef:=Zdv (s:=gy 7 (bM (af (aa 8) (af (a9 gh (af (bW (cj (bJ (aa 9)) 1 [5,4,0,8] (am 0) iW)) ap)) ap)))) (k:=5) (ρ:=[.d s.d,.d (fD day),.d (pD (s.tb F)),.d (.int c),.d (.int (c * aG day)),.dip (s.tb W),J6,.own ((s.sts.take pre.length).map λp=>.tuple [ao p,bg (s.bp W (c * aG day) p)]),.d (ao p),.d (.list ((s.rzs p).map ao))]) (l:=s.tb W) rfl (Zcq rfl rfl rfl rfl rfl h6 rfl rfl rfl) (my h W)
    simp_arith [oy,mx h h7,hsm,e2,ef,List.set_cons_succ,List.set_cons_zero,hsm2,e3,e5,hsm3]
    rw [el,ht,List.map_append]
    exact bL ⟨_,rfl,_,_,_,.inr rfl,rfl⟩
   ·have ef:=Zji (s:=gy 7 (bM (af (aa 8) (af (a9 gh (af (bW (cj (bJ (aa 9)) 1 [5,4,0,8] (am 0) iW)) ap)) ap)))) (k:=5) (ρ:=[.d s.d,.d (fD day),.d (pD (s.tb F)),.d (.int c),.d (.int (c * aG day)),.d (pD (s.tb W)),J6,.own ((s.sts.take pre.length).map λp=>.tuple [ao p,bg (s.bp W (c * aG day) p)]),.d (ao p),.d (.list ((s.rzs p).map ao))]) rfl
    simp_arith [oy,mx h h7,hsm,e2,ef,hsm2,e3,e5,hsm3]
    rw [el,ht,List.map_append]
    exact bL ⟨_,rfl,_,_,_,.inr rfl,rfl⟩
  ·rintro ρ ⟨J5,J8,J9,h5,rfl⟩
   rw [List.length_map,List.take_length]
   exact ⟨J5,J8,J9,rfl⟩
 ·rintro _ ⟨J5,J8,J9,rfl⟩
  simp_arith [List.isEmpty_cons]
  exact bL rfl
theorem Zjz {s:Shp} (h:s.Ok) (h7:s.n<=7) {ds:List (List (List Int))} (hd:∀ d∈ds,DdB d) (hl:ds.length<=3):kJ [.d s.d,.d (cy ds)]=.ret (.d (.tuple (s.dtab ds))):=by
 have hsub:∀ k,∀ d∈ds.drop k,DdB d:=λk d h=>hd d (List.mem_of_mem_drop h)
 have e_rev:aP gJ (cy ds) (.int (-1))=.ret (.tuple (ds.map fD).reverse):=rfl
 have dlen:∀ R:List (List (List Int)),(s.dtab R).length=R.length:=λR=>by
  induction R with
  | nil=>rfl
  | cons d R ih=>rw [Shp.dtab,List.length_cons,List.length_cons,ih]
 have hst:s.sts.length<=100:=sml h7 (by rw [eQ]; exact Nat.le_refl _)
 apply iw
 simp_arith [kJ,Zjw h h7,e_rev]
 refine cF (n:=0) (n':=0) (P:=λo=>∃ J3 J4 J5 J6:Sl,o=.next [.d s.d,.d (cy ds),.d (.tuple (s.dtab ds)),J3,J4,J5,J6]) ?_ (by decide) ?_
 ·refine eM (n:=0) (λpre ρ=>∃ J5 J6:Sl,ρ=[.d s.d,.d (cy ds),.d (.tuple (s.dtab (ds.drop (ds.length - pre.length)))),.d (pD (s.tb (s.dk (ds.drop (ds.length - pre.length))).1)),.d (.int (s.dk (ds.drop (ds.length - pre.length))).2),J5,J6]) ⟨.un,.un,?_⟩ (by simp) ?_ ?_
  ·rw [List.length_nil,Nat.sub_zero,List.drop_length]
   rfl
  ·rintro pre x post ρ e ⟨J5,J6,rfl⟩
   obtain ⟨d,rfl,hpl,hdr⟩:=Zbm e
   refine ⟨_,rfl,?_⟩
   have hdd:DdB d:=hsub (ds.length - (pre.length+1)) d (by rw [hdr]; simp)
   obtain ⟨k1,k2,k3⟩:=lz h (hsub (ds.length - pre.length))
   have el:(pre++[fD d]).length=pre.length+1:=by simp
   rw [el,hdr]
   have hrl:(ds.drop (ds.length - pre.length)).length<=3:=by rw [List.length_drop]; omega
   generalize ds.drop (ds.length - pre.length)=R at *
   have hpos:=Int.mul_pos k3 hdd.pos
   have n2:nb 600 ((s.dk R).2 * aG d):=bA (cQ k2 (f8 hdd)) (by omega)
   have e1:jc [.d s.d,.d (fD d),.d (pD (s.tb (s.dk R).1)),.d (.int (s.dk R).2)]=.ret (.own (s.sts.map λp=>.tuple [ao p,bg (s.pick d R p)])):=Zjy h h7 hdd k1 k2 (by omega)
   have f1:=aS k2 (by omega)
   have f2:=aS (f8 hdd) (by decide)
   have hs:small (d.map tI).length=true:=bS (by rw [List.length_map]; have:=hdd.len; omega)
   have e2:bh (df (am 0) nE [.un]) (d.map tI)=.ret (d.map λl=>PyData.int l.sum):=de λl _=>by
    have e1:bQ cf [tI l]=.ret (.int l.sum):=gr l
    simp_arith [nE,e1]
   have e3:bQ cf [.list (d.map λl=>PyData.int l.sum)]=.ret (.int (aG d)):=by rw [o6]; exact ii _
   have hsm:small (s.sts.map λp=>PyData.tuple [ao p,bg (s.pick d R p)]).length=true:=bS (by rw [List.length_map]; omega)
   let kv:Pt->List Int×PyData:=λp=>(kS p,.int (s.pick d R p).1)
   have e4:bh (df (bz (aH (am 0) (aH (am 1) bw))) j6 [.un,.un]) (s.sts.map λp=>.tuple [ao p,bg (s.pick d R p)])=.ret (s.sts.map λp=>cV (kv p)):=de λp _=>by
    show j6 [.d (ao p),.d (bg (s.pick d R p))]=_
    simp_arith [j6,Zb3]
    rfl
   have e5:bQ jm [.list (s.sts.map λp=>cV (kv p))]=.ret (pD (s.sts.map kv)):=by
    have q:s.sts.map (λp=>cV (kv p))=(s.sts.map kv).map cV:=by rw [List.map_map]; rfl
    rw [q]
    exact Zjk (λe=>gE h (List.map_eq_nil_iff.mp e)) (by rw [List.map_map]; exact hZ (fZ s))
   have e6:bh (df (bz (aH (am 0) (aH (am 1) bw))) j5 [.un,.un,.d (.int ((s.dk R).2 * aG d))]) (s.sts.map λp=>.tuple [ao p,bg (s.pick d R p)])=.ret (s.ddayL d R):=de λp _=>by
    have es:=Zjt (t:=(s.pick d R p).1) (b:=(s.dk R).2 * aG d) hpos (bA n2 (by decide))
    show j5 [.d (ao p),.d (bg (s.pick d R p)),.d (.int ((s.dk R).2 * aG d))]=_
    simp_arith [j5,Zb3,ZgW,es]
   have e7:aP aZ (.tuple [.tuple (s.ddayL d R)]) (.tuple (s.dtab R))=.ret (.tuple (s.dtab (d::R))):=lv rfl (bS (by rw [dlen,List.length_cons,List.length_nil]; omega))
   simp_arith [ZcT,e1,jf,hs,e2,e3,f1,f2,hsm,e4,e5,e6,e7]
   exact bL ⟨_,rfl,_,_,rfl⟩
  ·rintro ρ ⟨J5,J6,rfl⟩
   rw [List.length_reverse,List.length_map,Nat.sub_self,List.drop_zero]
   exact Exists.intro _ (Exists.intro _ ⟨J5,J6,rfl⟩)
 ·rintro _ ⟨J3,J4,J5,J6,rfl⟩
  simp_arith [List.isEmpty_cons]
  exact bL rfl
theorem bq (n:Int):cL [.pen,.d (.int n)]=.draw n λr=>.ret (.d (.int r)):=rfl
noncomputable abbrev rl (rows:List (List PyData)):Sl:=.d (.list (rows.map PyData.list))
section
variable {A:List Sl->Tr (List (List PyData))} {v i j:List Sl->Tr PyData} {t:List Sl->Tr Ou} {a b c d:Sl} {rows:List (List PyData)} {x y z:PyData}
noncomputable def nj (t:List Sl->Tr Ou) (a b c:Sl) (rows:List (List PyData)):Tr Ou:=t [a,b,c,rl rows]
noncomputable def nk (t:List Sl->Tr Ou) (a b c:Sl) (rows:List (List PyData)) (x y z:PyData):Tr Ou:=(Tr.of (gc rows y z x)).bind (nj t a b c)
noncomputable def np (j:List Sl->Tr PyData) (t:List Sl->Tr Ou) (a b c:Sl) (rows:List (List PyData)) (x y:PyData):Tr Ou:=(j [a,b,c,rl rows]).bind (nk t a b c rows x y)
noncomputable def nq (i j:List Sl->Tr PyData) (t:List Sl->Tr Ou) (a b c:Sl) (rows:List (List PyData)) (x:PyData):Tr Ou:=(i [a,b,c,rl rows]).bind (np j t a b c rows x)
noncomputable def rw1 (v i j:List Sl->Tr PyData) (t:List Sl->Tr Ou) (a b c:Sl) (rows:List (List PyData)):Tr Ou:=(v [a,b,c,rl rows]).bind (nq i j t a b c rows)
theorem Zjc:tt 3 A v i j t [a,b,c,d]=(A [a,b,c,d]).bind (rw1 v i j t a b c):=rfl
theorem Zjb:rw1 v i j t a b c rows=(v [a,b,c,rl rows]).bind (nq i j t a b c rows):=rfl
theorem Zja:nq i j t a b c rows x=(i [a,b,c,rl rows]).bind (np j t a b c rows x):=rfl
theorem Zi9:np j t a b c rows x y=(j [a,b,c,rl rows]).bind (nk t a b c rows x y):=rfl
theorem Zi8:nk t a b c rows x y z=(Tr.of (gc rows y z x)).bind (nj t a b c):=rfl
theorem Zi7:nj t a b c rows=t [a,b,c,rl rows]:=rfl
end
noncomputable def oi (el:List Sl->Tr (List PyData)) (ρ:List Sl) (x:PyData):Tr (List PyData):=el (.d x::ρ)
noncomputable def lr0 (el:List Sl->Tr (List PyData)) (ρ:List Sl) (xs:List PyData):Tr (List (List PyData)):=if small xs.length=true then fE (oi el ρ) xs else .fail
theorem Zk4 {x y:PyData} {d:Sl}:blk 1 [0,1,2] [.pen,.d x,.d y,d]=[.un,.pen,.d x,.d y]:=rfl
theorem Zjf {is el:List Sl->Tr (List PyData)} {x y:PyData} {d:Sl}:jv is 1 [0,1,2] (am 0) el [.pen,.d x,.d y,d]=(is [.pen,.d x,.d y,d]).bind (lr0 el [.pen,.d x,.d y]):=by
 unfold jv
 rw [Zk4]
 rfl
theorem Zje {el:List Sl->Tr (List PyData)} {ρ:List Sl} {xs:List PyData} (h:small xs.length=true):lr0 el ρ xs=fE (oi el ρ) xs:=if_pos h
theorem Zjd {el:List Sl->Tr (List PyData)} {ρ:List Sl} {x:PyData}:oi el ρ x=el (.d x::ρ):=rfl
theorem ZeB {h:PyData->Tr (List PyData)} {P:List PyData->Prop} {n:Nat}:∀ {xs:List PyData},(∀ x∈xs,Al (h x) n P)->Al (fE h xs) (xs.length * n) λys=>ys.length=xs.length/\∀ y∈ys,P y
 | [],_=>bL ⟨rfl,λ_ h=>nomatch h⟩
 | x::xs,hx=>by
  unfold fE
  refine cF (n:=n) (n':=xs.length * n) (hx x List.mem_cons_self) (by rw [List.length_cons,Nat.succ_mul]; omega) λy hy=>?_
  refine cF (n:=xs.length * n) (n':=0) (ZeB λz hz=>hx z (List.mem_cons_of_mem _ hz)) (by omega) λys hys=>?_
  refine bL ⟨by rw [List.length_cons,List.length_cons,hys.1],λz hz=>?_⟩
  rcases List.mem_cons.mp hz with e | e
  ·subst e; exact hy
  ·exact hys.2 z e
structure Rowd (R:List (List PyData)) (w:Nat):Prop where
 l1:1<=R.length
 l3:R.length<=3
 w1:1<=w
 w3:w<=3
 row:∀ r∈R,r.length=w/\∀ y∈r,dY 0 1000 y
theorem Zc4:∀ {r:List PyData},(∀ y∈r,dY 0 1000 y)->∃ l:List Int,r=l.map PyData.int/\∀ w∈l,0<=w/\w<=1000
 | [],_=>⟨[],rfl,nofun⟩
 | y::r,h=>by
  obtain ⟨n,rfl,a,b⟩:=h y (List.mem_cons_self ..)
  obtain ⟨l,rfl,hl⟩:=Zc4 (r:=r) λz hz=>h z (List.mem_cons_of_mem _ hz)
  refine ⟨n::l,rfl,λw hw=>?_⟩
  rcases List.mem_cons.mp hw with rfl | hw
  ·exact ⟨a,b⟩
  ·exact hl w hw
theorem Zbg:∀ {R:List (List PyData)},(∀ r∈R,r.length<=3/\∀ y∈r,dY 0 1000 y)->∃ day:List (List Int),R=day.map (List.map PyData.int)/\∀ l∈day,l.length<=3/\∀ w∈l,0<=w/\w<=1000
 | [],_=>⟨[],rfl,nofun⟩
 | r::R,h=>by
  obtain ⟨h1,h2⟩:=h r (List.mem_cons_self ..)
  obtain ⟨l,rfl,hl⟩:=Zc4 h2
  obtain ⟨day,rfl,hd⟩:=Zbg (R:=R) λz hz=>h z (List.mem_cons_of_mem _ hz)
  refine ⟨l::day,rfl,λw hw=>?_⟩
  rcases List.mem_cons.mp hw with rfl | hw
  ·exact ⟨by rw [List.length_map] at h1; exact h1,hl⟩
  ·exact hd w hw
theorem ZaD:∀ {l:List Int},(∀ w∈l,0<=w/\w<=1000)->∀ n∈l,n<=l.sum
 | [],_,n,h=>by cases h
 | w::l,h,n,hn=>by
  have h1:=h w (List.mem_cons_self ..)
  have h2:=jO (l:=l) λv hv=>h v (List.mem_cons_of_mem _ hv)
  rw [List.sum_cons]
  rcases List.mem_cons.mp hn with rfl | hn
  ·omega
  ·have:=ZaD (l:=l) (λv hv=>h v (List.mem_cons_of_mem _ hv)) n hn
   omega
theorem ZaI:∀ {L:List (List Int)},(∀ l∈L,l.length<=3/\∀ w∈l,0<=w/\w<=1000)->∀ l∈L,∀ n∈l,n<=aG L
 | [],_,l,h,_,_=>by cases h
 | a::L,h,l,hl,n,hn=>by
  obtain ⟨l1,l2⟩:=h a (List.mem_cons_self ..)
  have h1:=jO l2
  have h2:=mE (L:=L) λv hv=>h v (List.mem_cons_of_mem _ hv)
  have e:aG (a::L)=a.sum+aG L:=by unfold aG; rw [List.map_cons,List.sum_cons]
  rw [e]
  rcases List.mem_cons.mp hl with rfl | hl
  ·have:=ZaD l2 n hn
   omega
  ·have:=ZaI (L:=L) (λv hv=>h v (List.mem_cons_of_mem _ hv)) l hl n hn
   omega
theorem Rowd.dd {R:List (List PyData)} {w:Nat} (h:Rowd R w) {r:List PyData} {n:Int} (hr:r∈R) (hn:.int n∈r) (h0:0 < n):∃ day,PyData.tuple (R.map PyData.tuple)=fD day/\DdB day:=by
 obtain ⟨day,rfl,hd⟩:=Zbg (R:=R) λr hr=>⟨by rw [(h.row r hr).1]; exact h.w3,(h.row r hr).2⟩
 refine ⟨day,?_,?_,hd,?_⟩
 ·unfold fD
  rw [List.map_map]
  rfl
 ·have:=h.l3
  rw [List.length_map] at this
  exact this
 ·obtain ⟨l,hl,rfl⟩:=List.mem_map.mp hr
  obtain ⟨m,hm,e⟩:=List.mem_map.mp hn
  have e:m=n:=by injection e
  have:=ZaI hd l hl m hm
  omega
theorem Zgl:Al (kK [.pen]) 15 λr=>∃ day,r=.d (fD day)/\DdB day:=by
 simp_arith [kK,bq]
 refine cW (n:=14) (by decide) (by decide) (by decide) λq q0 q1=>?_
 obtain ⟨b,hb,b0,b1⟩:=Zb5 (xs:=[PyData.int 2,.int 4,.int 20,.int 1001]) (lo:=2) (hi:=1001) (by simp [dY]) q0 q1
 simp_arith [bq,hb]
 refine cW (n:=13) (by decide) (by decide) (by decide) λw w0 w1=>?_
 simp_arith [bq,Zjc,Zjf]
 refine cW (n:=12) (by decide) (by decide) (by decide) λc c0 c1=>?_
 have rr:ft [.int (1+c)]=.ret (br 0 (1+c)):=jl (eK (by omega) (by omega))
 have hs:small (br 0 (1+c)).length=true:=bS (by rw [cC]; omega)
 have rw':ft [.int (1+w)]=.ret (br 0 (1+w)):=jl (eK (by omega) (by omega))
 have hw:small (br 0 (1+w)).length=true:=bS (by rw [cC]; omega)
 simp_arith [bq,rr,Zje hs]
 refine cF (n:=9) (n':=3) (P:=λR=>Rowd R (1+w).toNat) (lQ (ZeB (n:=3) (P:=λr=>r.length=(1+w).toNat/\∀ y∈r,dY 0 1000 y) λx hx=>?_) (by rw [cC]; omega) λR hR=>?_) (by decide) ?_
 ·rw [Zjd]
  simp_arith [ZbT,bq,rw',hw]
  refine tf (n:=1) (P:=dY 0 1000) (by rw [cC]; omega) (λy hy=>?_) λys hl hys=>⟨by rw [hl,cC]; omega,hys⟩
  simp_arith [ZbU,bq]
  refine cW (n:=0) (by omega) (by omega) (by decide) λv v0 v1=>?_
  try simp_arith [bq]
  exact bL ⟨v,rfl,v0,by omega⟩
 ·rw [cC] at hR
  exact ⟨by omega,by omega,by omega,by omega,hR.2⟩
 ·intro R hR
  simp_arith [bq,Zjb]
  refine cW (n:=2) (by omega) (by omega) (by decide) λv v0 v1=>?_
  simp_arith [bq,Zja,List.length_map]
  have l1:=hR.l1
  have l3:=hR.l3
  refine cW (n:=1) (by omega) (by omega) (by decide) λi i0 i1=>?_
  simp_arith [bq,Zi9]
  refine cW (n:=0) (by omega) (by omega) (by decide) λj j0 j1=>?_
  obtain ⟨i,rfl⟩:=Int.eq_ofNat_of_zero_le i0
  obtain ⟨j,rfl⟩:=Int.eq_ofNat_of_zero_le j0
  have hi:i < R.length:=by omega
  obtain ⟨el,ei⟩:=hR.row R[i] (List.getElem_mem hi)
  have hj:j < R[i].length:=by rw [el]; omega
  have n1:L2.bB R.length (i:Int)=some i:=by
   unfold L2.bB
   rw [if_pos (by omega),if_pos (by omega),Int.toNat_natCast]
  have n2:L2.bB R[i].length (j:Int)=some j:=by
   unfold L2.bB
   rw [if_pos (by omega),if_pos (by omega),Int.toNat_natCast]
  have ep:gc R (.int (i:Int)) (.int (j:Int)) (.int (1+v))=some (R.set i (R[i].set j (.int (1+v)))):=by
   show ((L2.bB R.length (i:Int)).bind λn=>(R[n]?).bind λr=>(L2.bB r.length (j:Int)).bind λl=>if dZ (.int (1+v))=true then some (R.set n (r.set l (.int (1+v)))) else none)=_
   rw [n1]
   show ((R[i]?).bind λr=>(L2.bB r.length (j:Int)).bind λl=>if dZ (.int (1+v))=true then some (R.set i (r.set l (.int (1+v)))) else none)=_
   rw [List.getElem?_eq_getElem hi]
   show ((L2.bB R[i].length (j:Int)).bind λl=>if dZ (.int (1+v))=true then some (R.set i (R[i].set l (.int (1+v)))) else none)=_
   rw [n2]
   rfl
  have hR2:Rowd (R.set i (R[i].set j (.int (1+v)))) (1+w).toNat:=by
   refine ⟨by rw [List.length_set]; exact l1,by rw [List.length_set]; exact l3,hR.w1,hR.w3,λr hr=>?_⟩
   rcases List.mem_or_eq_of_mem_set hr with q | q
   ·exact hR.row r q
   ·subst q
    refine ⟨by rw [List.length_set]; exact el,λy hy=>?_⟩
    rcases List.mem_or_eq_of_mem_set hy with q | q
    ·exact ei y q
    ·subst q; exact ⟨1+v,rfl,by omega,by omega⟩
  have hin:R[i].set j (.int (1+v))∈R.set i (R[i].set j (.int (1+v))):=List.mem_set hi _
  have hin2:PyData.int (1+v)∈R[i].set j (.int (1+v)):=List.mem_set hj _
  obtain ⟨day,ed,hdd⟩:=hR2.dd hin hin2 (by omega)
  have hlen:(R.set i (R[i].set j (.int (1+v)))).length=R.length:=List.length_set ..
  generalize R.set i (R[i].set j (.int (1+v)))=R' at ep hR2 ed hlen
  have hs2:small (R'.map PyData.list).length=true:=bS (by rw [List.length_map]; omega)
  have em:bh (df (am 0) nF [.un]) (R'.map PyData.list)=.ret (R'.map PyData.tuple):=de λr _=>by
   simp_arith [nF]
  simp_arith [bq,Zi8,ep,Zi7,hs2,em,ed]
  exact bL ⟨day,rfl,hdd⟩
theorem ZdV:∀ {ys:List PyData},(∀ y∈ys,∃ day,y=fD day/\DdB day)->∃ ds:List (List (List Int)),ys=ds.map fD/\∀ d∈ds,DdB d
 | [],_=>⟨[],rfl,nofun⟩
 | y::ys,h=>by
  obtain ⟨d,rfl,hd⟩:=h y (List.mem_cons_self ..)
  obtain ⟨ds,rfl,hds⟩:=ZdV (ys:=ys) λz hz=>h z (List.mem_cons_of_mem _ hz)
  refine ⟨d::ds,rfl,λz hz=>?_⟩
  rcases List.mem_cons.mp hz with rfl | hz
  ·exact hd
  ·exact hds z hz
theorem Zgk:Al (kL [.pen]) 46 λr=>∃ ds,r=.d (cy ds)/\1<=ds.length/\ds.length<=3/\∀ d∈ds,DdB d:=by
 simp_arith [kL,bq]
 refine cW (n:=45) (by decide) (by decide) (by decide) λc c0 c1=>?_
 have rr:ft [.int (1+c)]=.ret (br 0 (1+c)):=jl (eK (by omega) (by omega))
 have hs:small (br 0 (1+c)).length=true:=bS (by rw [cC]; omega)
 simp_arith [bq,rr,hs]
 refine cF (n:=45) (n':=0) (tf (n:=15) (P:=λy=>∃ day,y=fD day/\DdB day) (Q:=λys=>∃ ds:List (List (List Int)),ys=ds.map fD/\1<=ds.length/\ds.length<=3/\∀ d∈ds,DdB d) (by rw [cC]; omega) (λx hx=>?_) λys hl hys=>?_) (by decide) ?_
 ·simp_arith [ZbV,bq]
  refine cF (n:=15) (n':=0) Zgl (by decide) ?_
  rintro _ ⟨day,rfl,hy⟩
  simp_arith [bq]
  exact bL ⟨day,rfl,hy⟩
 ·obtain ⟨ds,rfl,hd⟩:=ZdV hys
  rw [List.length_map,cC] at hl
  exact ⟨ds,rfl,by omega,by omega,hd⟩
 ·rintro _ ⟨ds,rfl,h1,h3,hd⟩
  try simp_arith [bq]
  exact bL ⟨ds,rfl,h1,h3,hd⟩
theorem Zgj:Al (kG [.pen]) 11 λr=>∃ s:Shp,r=.d s.d/\s.Ok/\s.n<=5:=by
 have r7:ft [.int 7]=.ret (br 0 7):=jl rfl
 have h7:small (br 0 7).length=true:=bS (by rw [cC]; decide)
 have ep:aP kc (.int 10) (.int 6)=.ret (.int 1000000):=rfl
 have ea:aP aZ (.int 1000000) (.int 1)=.ret (.int 1000001):=rfl
 simp_arith [kG,bq,ep]
 refine cW (n:=10) (by decide) (by decide) (by decide) λq q0 q1=>?_
 obtain ⟨b,hb,b0,b1⟩:=Zb5 (xs:=[PyData.int 3,.int 10,.int 60,.int (1000000+1)]) (lo:=3) (hi:=1000001) (by simp [dY]) q0 q1
 simp_arith [bq,hb]
 refine cW (n:=9) (by decide) (by decide) (by decide) λt t0 t1=>?_
 simp_arith [bq,r7,h7]
 refine cF (n:=7) (n':=2) (tf (n:=1) (P:=dY 0 1000000) (Q:=λys=>ys.length=7/\∀ y∈ys,dY 0 1000000 y) (by rw [cC]; decide) (λx hx=>?_) λys hl hys=>⟨by rw [hl,cC]; rfl,hys⟩) (by decide) ?_
 ·simp_arith [ZbS,bq]
  refine cW (n:=0) (by omega) (by omega) (by decide) λv v0 v1=>?_
  try simp_arith [bq]
  exact bL ⟨v,rfl,v0,by omega⟩
 rintro ys ⟨hl,hys⟩
 obtain ⟨a,b',c,d,e,f,g,rfl⟩:=Zh8 hl
 have hm:∀ y∈[a,b',c,d,e,f,g],dY 0 1000000 y:=hys
 simp only [List.mem_cons,List.not_mem_nil,or_false,forall_eq_or_imp,forall_eq] at hm
 obtain ⟨⟨a,rfl,a0,a1⟩,⟨b',rfl,b0',b1'⟩,⟨c,rfl,c0,c1⟩,⟨d,rfl,d0,d1⟩,⟨e,rfl,e0,e1⟩,⟨f,rfl,f0,f1⟩,⟨g,rfl,g0,g1⟩⟩:=hm
 try simp_arith [bq]
 refine cW (n:=1) (by decide) (by decide) (by decide) λr r0 r1=>?_
 have fin:∀ a:Int,0<=a->a<=1000000->∀ u:Int,0<=u->u < 5 - t->(Shp.mk t u a b' c d e f g).Ok/\(Shp.mk t u a b' c d e f g).n<=5:=λa a0 a1 u u0 u1=>by
  have hd:(Shp.mk t u a b' c d e f g).Dr:=⟨t0,u0,by show t+u<=39; omega,λn hn=>by
   have hn:n∈[a,b',c,d,e,f,g]:=hn
   simp only [List.mem_cons,List.not_mem_nil,or_false] at hn
   omega⟩
  refine ⟨hd.ok,?_⟩
  show (t+1 - -u).toNat<=5
  omega
 have hs:small ([PyData.int t,.int 0].length+[PyData.int a,.int b',.int c,.int d,.int e,.int f,.int g].length)=true:=bS (by show 9<=10000; decide)
 cases hb:(r == 0)
 ·simp_arith [bq,hb]
  refine cW (n:=0) (by omega) (by omega) (by decide) λu u0 u1=>?_
  try simp_arith [bq]
  rw [ZaK]
  exact bL ⟨_,rfl,fin a a0 a1 u u0 u1⟩
 ·simp_arith [bq,hb,Zi6 (xs:=[PyData.int a,.int b',.int c,.int d,.int e,.int f,.int g]) (y:=0) (t:=0) rfl]
  refine cW (n:=0) (by omega) (by omega) (by decide) λu u0 u1=>?_
  try simp_arith [bq]
  rw [ZaK]
  exact bL ⟨_,rfl,fin 0 (by decide) (by decide) u u0 u1⟩
theorem kl {d:PyData} (h:gL d=true):gK d=true:=by
 unfold gL at h
 unfold gK
 simp only [Bool.and_eq_true] at h ⊢
 obtain ⟨⟨⟨h1,h2⟩,h3⟩,h4⟩:=h
 refine ⟨⟨⟨?_,h2⟩,h3⟩,h4⟩
 rw [h1]
 rfl
theorem Zgq {t b:Int} (h0:b≠0) (ht:nb 1900 t) (hb:nb 1900 b):Rp (gF t b) 1 4000:=by
 obtain ⟨n1,n2⟩:=Zh6 ht hb h0
 refine dt (jY (l:=[Gc.eZ t b,Gc.eG t b]) (m:=2) (λn hn=>?_) (Nat.le_refl _)) (Nat.le_refl _) (by decide)
 simp at hn
 rcases hn with rfl | rfl
 ·exact n1
 ·exact n2
theorem Zba {a b:PyData} {k n:Nat} (ha:Rp a k n) (hb:Rp b k n):Rp (.tuple [a,b]) (k+1) (2 * n+20):=dt (gI (k:=k) (n:=n) λx hx=>by
 simp at hx
 rcases hx with rfl | rfl
 ·exact ha
 ·exact hb) (Nat.le_refl _) (by show 2 * n+2 * 2+10<=_; omega)
theorem jJ {a k n:Nat} (h:a<=k):a * n+2 * a+10<=k * n+2 * k+10:=by
 have:=Nat.mul_le_mul_right n h
 omega
theorem Zgt {day:List (List Int)} (h:DdB day):Rp (fD day) 2 18000:=by
 refine dt (gI (k:=1) (n:=5800) λy hy=>?_) (Nat.le_refl _) (Nat.le_trans (jJ (by rw [List.length_map]; exact h.len)) (by decide))
 obtain ⟨l,hl,rfl⟩:=List.mem_map.mp hy
 obtain ⟨l1,l2⟩:=h.row l hl
 exact dt (jY (m:=3) (λn hn=>bA (jE (l2 n hn)) (by decide)) l1) (Nat.le_refl _) (by decide)
theorem Zgu {ds:List (List (List Int))} (h:∀ d∈ds,DdB d) (hl:ds.length<=3):Rp (cy ds) 3 60000:=by
 refine dt (gI (k:=2) (n:=18000) λy hy=>?_) (Nat.le_refl _) (Nat.le_trans (jJ (by rw [List.length_map]; exact hl)) (by decide))
 obtain ⟨d,hd,rfl⟩:=List.mem_map.mp hy
 exact Zgt (h d hd)
theorem Zbd {s:Shp} (h:s.Ok) {ds:List (List (List Int))} (hd:∀ d∈ds,DdB d) (hl:ds.length<=3):gL (.tuple [s.d,cy ds])=true :=
 Zbc (Zba (dt (Zgp h) (by decide) (by decide)) (Zgu hd hl)) (by decide) (by decide)
theorem Zg2 {s:Shp} (h:s.Ok) {day:List (List Int)} {r:List (List (List Int))} {p:Pt} (hp:p∈s.sts):∃ q∈s.sts,(s.pick day r p).2=kS q:=by
 obtain ⟨⟨a1,a2⟩,b1,b2⟩:=(cw h).mp hp
 obtain ⟨q,hq,e⟩:=Zeb h (W:=s.w2 day (s.dk r).1 (s.dk r).2) (c:=(s.dk r).2 * aG day) hp
 obtain ⟨⟨q1,q2⟩,q3,q4⟩:=(gH a2 b2).mp hq
 refine ⟨q,(cw h).mpr ⟨⟨by omega,q2⟩,by omega,q4⟩,?_⟩
 unfold Shp.pick
 rw [e]
theorem Zgs {s:Shp} (h:s.Ok) (h7:s.n<=7) {day:List (List Int)} {r:List (List (List Int))} (hd:∀ d∈day::r,DdB d) (hl:(day::r).length<=3):Rp (.tuple (s.ddayL day r)) 3 500000:=by
 rw [List.length_cons] at hl
 obtain ⟨k1,k2,k3⟩:=lz h (ds:=day::r) hd
 have hc:(s.dk (day::r)).2=(s.dk r).2 * aG day:=rfl
 rw [hc] at k2 k3
 refine dt (gI (k:=2) (n:=8100) λy hy=>?_) (Nat.le_refl _) ?_
 ·obtain ⟨p,hp,rfl⟩:=List.mem_map.mp hy
  obtain ⟨⟨a1,a2⟩,b1,b2⟩:=(cw h).mp hp
  obtain ⟨q,hq,e⟩:=Zg2 h (day:=day) (r:=r) hp
  obtain ⟨⟨c1,c2⟩,d1,d2⟩:=(cw h).mp hq
  have n1:nb 1900 (s.pick day r p).1:=bA (k1 p.1 p.2 a1 a2 b1 b2) (by rw [List.length_cons]; omega)
  refine dt (Zba (k:=1) (n:=4000) (Zgq (by omega) n1 (bA k2 (by rw [List.length_cons]; omega))) ?_) (Nat.le_refl _) (by decide)
  rw [e]
  refine dt (jY (l:=kS q) (m:=2) (λn hn=>?_) (Nat.le_refl _)) (Nat.le_refl _) (by decide)
  have hn:n∈[q.1,q.2]:=hn
  simp only [List.mem_cons,List.not_mem_nil,or_false] at hn
  rcases hn with rfl | rfl
  ·exact bA (eF h c1 c2) (by decide)
  ·exact bA (eF h d1 d2) (by decide)
 ·have hlen:(s.ddayL day r).length<=49:=by
   unfold Shp.ddayL
   rw [List.length_map,eQ]
   exact Nat.le_trans (Nat.mul_le_mul h7 h7) (by decide)
  exact Nat.le_trans (jJ hlen) (by decide)
theorem Zbe {s:Shp} (h:s.Ok) (h7:s.n<=7):∀ {ds:List (List (List Int))},(∀ d∈ds,DdB d)->ds.length<=3->∀ y∈s.dtab ds,Rp y 3 500000
 | [],_,_,y,hy=>by cases hy
 | day::r,hd,hl,y,hy=>by
  rw [Shp.dtab] at hy
  rcases List.mem_cons.mp hy with rfl | hy
  ·exact Zgs h h7 hd hl
  ·exact Zbe h h7 (λd hd'=>hd d (List.mem_cons_of_mem _ hd')) (by rw [List.length_cons] at hl; omega) y hy
theorem ZdI (s:Shp):∀ R:List (List (List Int)),(s.dtab R).length=R.length
 | []=>rfl
 | d::R=>by rw [Shp.dtab,List.length_cons,List.length_cons,ZdI s R]
theorem Zbb {s:Shp} (h:s.Ok) (h7:s.n<=7) {ds:List (List (List Int))} (hd:∀ d∈ds,DdB d) (hl:ds.length<=3):gL (.tuple (s.dtab ds))=true :=
 Zbc (dt (gI (k:=3) (n:=500000) (Zbe h h7 hd hl)) (Nat.le_refl _) (Nat.le_trans (jJ (by rw [ZdI]; exact hl)) (show 3 * 500000+2 * 3+10<=2000000 by decide))) (by decide) (by decide)
theorem la1 {s:Shp} (h:s.Ok) (h7:s.n<=7) {ds:List (List (List Int))} (hd:∀ d∈ds,DdB d) (hl:ds.length<=3) (a x:Sl):oz [.un,.pen,a,.d s.d,.d (cy ds),.d (.str (PyData.tuple [s.d,cy ds]).shown),.d (.str (PyData.tuple (s.dtab ds)).shown),x] =
  .ret (.next [.un,.pen,a,.d s.d,.d (cy ds),.d (.str (PyData.tuple [s.d,cy ds]).shown),.d (.str (PyData.tuple (s.dtab ds)).shown),x]):=by
 have e1:=Zjx h h7 hd hl
 have r1:=lr (kl (Zbb h h7 hd hl))
 have r2:=lr (kl (Zbd h hd hl))
 simp_arith [oz,bq,e1,r1,r2,ZfQ,Bool.not_true]
theorem law_true:Al (kM oq) 200 λo=>o=.ret (.d (.bool true)):=by
 have g2:ft [.int 2]=.ret (br 0 2):=jl rfl
 simp_arith [kM,oq,bq,g2]
 refine cF (n:=120) (n':=0) (P:=λo=>∃ ρ,o=.next ρ) ?_ (by decide) ?_
 ·refine ZeC (n:=60) (λρ=>∃ a b c d e f:Sl,ρ=[.un,.pen,a,b,c,d,e,f]) ⟨_,_,_,_,_,_,rfl⟩ (by rw [cC]; decide) ?_ (λρ _=>⟨ρ,rfl⟩)
  rintro x ρ hx ⟨a,b,c,d,e,f,rfl⟩
  refine ⟨_,rfl,?_⟩
  simp_arith [ZcU,bq]
  refine cF (n:=11) (n':=49) Zgj (by decide) ?_
  rintro _ ⟨s,rfl,h,h5⟩
  have h7:s.n<=7:=by omega
  simp_arith [bq]
  refine cF (n:=46) (n':=3) Zgk (by decide) ?_
  rintro _ ⟨ds,rfl,l1,l3,hd⟩
  have r2:=lr (kl (Zbd h hd l3))
  have e1:=Zjz h h7 hd l3
  have r1:=lr (kl (Zbb h h7 hd l3))
  simp_arith [bq,r2,e1,r1,g2]
  refine ZeC (n:=0) (λρ=>∃ f:Sl,ρ=[.un,.pen,.d x,.d s.d,.d (cy ds),.d (.str (PyData.tuple [s.d,cy ds]).shown),.d (.str (PyData.tuple (s.dtab ds)).shown),f]) ⟨_,rfl⟩ (by simp) ?_ ?_
  ·rintro y ρ hy ⟨f,rfl⟩
   exact ⟨_,rfl,Zls (la1 h h7 hd l3 (.d x) (.d y)) ⟨_,rfl,_,rfl⟩⟩
  ·rintro ρ ⟨f,rfl⟩
   exact ⟨_,rfl,_,_,_,_,_,_,rfl⟩
 ·rintro _ ⟨ρ,rfl⟩
  simp_arith [bq]
  exact bL rfl
end My
open PySem PySem.W PyProof.Rows L2
theorem My.g_mk {K:PySem.W.Frag} {mg:Str->Option Value} {h:Heap} (X:K.In h) (G:h.Ns mainGlobals mg) {n:Str} {v:Int} {t:Tok} (z:PySem.W.nsIn K mainGlobals n=some (some (.int v t))):∃ t,mg n=some (.int v t):=⟨_,PySem.W.mg_of X G z⟩
set_option maxRecDepth 100000 in
set_option maxHeartbeats 0 in
theorem PySem.Challenge.cw_twomarks_k47_double_tables_walked_holds : PySem.Challenge.rw_twomarks_k47_double_tables_walked.Holds := by
 refine My.hd ?_
 k_fill
 refine L2.Ze2 (l:=PySem.Challenge.rw_twomarks_k47_double_tables_walked) (n:=63) (k:=6) (x:="_law_script") (CX:=fV) (sp:=L2.ZaG) rfl (by decide) rfl ⟨rfl,by decide,by decide,rfl⟩ (λw h Y=>PySem.W.kIn_of Y) ?F ?S ?C
 case F =>
  intro w mg fa h KX G hmg
  have T:My.Txt (L2.KOf KX) mg:=by
   dsimp only [L2.KOf]
   constructor
   all_goals first
    | (refine PySem.W.mg_none_of KX G ?_; k_is)
    | (refine' My.g_mk KX G ?z; (case z=>k_is))
    | (refine' L2.ZjM KX G ?a ?l ?c ?k ?b; (case a=>k_is); (case l=>k_is); (case c=>k_is); (case k=>k_is); (case b=>intro _ _ _ _ _ _ us hl; first | (obtain ⟨_,rfl⟩:=L2.ZcJ hl; rfl) | (obtain ⟨_,_,rfl⟩:=L2.ZcI hl; rfl) | (obtain ⟨_,_,_,rfl⟩:=L2.ZcH hl; rfl) | (obtain ⟨_,_,_,_,rfl⟩:=L2.ZcG hl; rfl) | (obtain ⟨_,_,_,_,_,rfl⟩:=L2.Zie hl; rfl)))
  obtain ⟨f,fd,F,hm,_⟩:=T.ZjY.ex
  have e0:=hmg.symm.trans hm
  cases e0
  refine ⟨fd,?_,λbase _ _=>My.ZhA T F (L2.Tr.ok_mono (L2.Tr.all_ok My.law_true.out (by decide)) λ_ _ h=>h.2)⟩
  obtain ⟨oc,od,kV,doc,pm,an,cdv,ct,osl,rfl,lk,hcd⟩:=F.ex
  exact λs u=>.of_eq rfl
 case S=>exact λK H a ns hl _ hS=>⟨a,ns,rfl,hS,hl,λ_=>rfl⟩
 case C=>exact λ_ _ _ _ z=>z
