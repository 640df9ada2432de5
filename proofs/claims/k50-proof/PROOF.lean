import PyProof.Rows.All
import Wide.All
import OpenK.AllK
import Wide.FinOn
import Lean
import PyProof.EqAt
import PyProof.EqKinds
import PyProof.TupleCall
import PySem.Challenge.RW_twomarks_k50_shops_and_falls_as_texts
set_option Elab.async false
set_option linter.all false
set_option maxRecDepth 100000
set_option maxHeartbeats 0
noncomputable abbrev My.vw : PySem.Program := PySem.W.view
 PySem.Challenge.rw_twomarks_k50_shops_and_falls_as_texts.row.prog [1, 2, 3, 4, 5, 6, 7, 8, 9, 11, 12, 14, 15, 16, 17, 18, 19, 20, 21, 22, 23, 24, 26, 27, 28, 29, 30, 31, 32, 33, 35, 36, 37, 38, 39, 40, 42, 43, 44, 45, 46, 47, 48, 49, 50, 51, 52, 53, 54, 55, 56]
open PySem PySem.W in
theorem My.hd_s {p:Program} {N:Nat} {α β:Type} {S:Shared->α×β} {G:α×β} (a:∀ w,(openEnds treeTable p w N).map (λs=>(S s).1)=some G.1) (b:∀ w,(openEnds treeTable p w N).map (λs=>(S s).2)=some G.2):∀ w,(openEnds treeTable p w N).map S=some G:=λw=>by
 have h:=a w
 have g:=b w
 cases e:openEnds treeTable p w N with
 | none=>rw [e] at h;exact nomatch h
 | some s=>rw [e,Option.map_some] at h g;rw [Option.map_some];exact congrArg some (Prod.ext (Option.some.inj h) (Option.some.inj g))
open PySem PySem.W in
theorem My.hd_l {p q:Program} {loose:List Str} {Xt:Shared->Bool} {α:Type} {Yf:Shared->α} {Ya:World->α} {N:Nat} (a:∀ w,(openEnds treeTable p w N).map (λs=>openSeen q loose (importedModules p.main.body) Xt true s)=some (openGood q loose)) (b:∀ w,(openEnds treeTable p w N).map Yf=some (Ya w)):LeftO p q loose Xt Yf Ya N:=λw=>by
 have h:=a w
 have g:=b w
 cases e:openEnds treeTable p w N with
 | none=>rw [e] at h;exact nomatch h
 | some s=>rw [e,Option.map_some] at h g;rw [Option.map_some,Option.some.inj h,Option.some.inj g]
theorem My.hd_b {A B C H:Prop} (f:A->B->C->H) (p:A∧B∧C):H:=f p.1 p.2.1 p.2.2
local macro_rules
 | `(tactic| o_head $H:term) => `(tactic| (
  refine My.hd_b (λa b c => PySem.W.holds_open (q := My.vw) (loose := ["PART"])
   (Xt := λs => PySem.W.xlAt My.vw [("PART", .int 10000000000000000000000000000000000000000000000000000000000000000)] s && PySem.W.recOk
    (PySem.W.RowW.records PySem.Challenge.rw_twomarks_k50_shops_and_falls_as_texts.row.toRowW) s)
   (XP := PySem.W.XL My.vw [("PART", .int 10000000000000000000000000000000000000000000000000000000000000000)]) (Yf := ($H).obs)
   (Ya := ($H).val) (YP := ($H).says) (N := 20000) (My.hd_l a b)
   ($H).of ($H).keeps (λs e => PySem.W.xl_of s
    (Bool.and_eq_true_iff.mp e).1) PySem.W.XL.keeps
   (by rfl) (by rfl) (by rfl)
   (λs e => PySem.W.recFacts_of
    (Bool.and_eq_true_iff.mp e).2)
   (by rfl) ?k1 (by decide +kernel)
   ⟨rfl, rfl, rfl, rfl, rfl, by decide +kernel⟩ ?hw c) ?hc
  (case k1 => assumption)))
open_top My.hd_0 for PySem.Challenge.rw_twomarks_k50_shops_and_falls_as_texts
noncomputable def My.hd_n:=λx0 x1 x2 x3 b c=>My.hd_0 ⟨(My.hd_s x0 (My.hd_s x1 (My.hd_s x2 x3))),b,c⟩
noncomputable def My.hd_n0:=λx1 x2 x3 b c=>My.hd_n (λw=>by kernel_rfl) x1 x2 x3 b c
noncomputable def My.hd_n1:=λx2 x3 b c=>My.hd_n0 (λw=>by kernel_rfl) x2 x3 b c
noncomputable def My.hd_n2:=λx3 b c=>My.hd_n1 (λw=>by kernel_rfl) x3 b c
noncomputable def My.hd_n3:=λb c=>My.hd_n2 (λw=>by kernel_rfl) b c
noncomputable def My.hd_1:=My.hd_n3
noncomputable def My.hd:=λc=>My.hd_1 (λw=>by kernel_rfl) c
set_option maxHeartbeats 4000000
namespace L2
open PySem PySem.Spec PyProof.Rows
noncomputable abbrev ap:=Sum Int Str
noncomputable def iu:ap->Value->Bool
 | .inl k,v=>Value.isInt k v
 | .inr x,v=>Value.isStrOf x v
noncomputable def Zja (w:World):ap->Int
 | .inl k=>hashInt k
 | .inr x=>hashStr w x
theorem fH:∀ {k:ap} {v:Value},iu k v=true->(∃ i t,k=Sum.inl i/\v=Value.int i t)\/(∃ x t,k=Sum.inr x/\v=Value.str x t)
 | .inl i,v,h=>by
  obtain ⟨t,e⟩:=Value.isInt_shape (k:=i) (v:=v) h
  exact .inl ⟨i,t,rfl,e⟩
 | .inr x,v,h=>by
  obtain ⟨t,e⟩:=Value.isStrOf_shape (x:=x) (v:=v) h
  exact .inr ⟨x,t,rfl,e⟩
theorem Zi9 (i:Int) (t:Tok):iu (.inl i) (.int i t)=true:=by simp [iu,Value.isInt]
theorem Zi8 (x:Str) (t:Tok):iu (.inr x) (.str x t)=true:=by simp [iu,Value.isStrOf]
theorem Zi7 (a b:Int):decide ((Sum.inl a:ap)=Sum.inl b)=(a == b):=by
 by_cases e:a=b
 ·subst e; simp
 ·have h:¬ (Sum.inl a:ap)=Sum.inl b:=λq=>e (Sum.inl.inj q)
  rw [decide_eq_false h]
  exact (beq_eq_false_iff_ne.mpr e).symm
theorem Zi4 (a b:Str):decide ((Sum.inr a:ap)=Sum.inr b)=decide (a=b):=by
 by_cases e:a=b
 ·subst e; simp
 ·have h:¬ (Sum.inr a:ap)=Sum.inr b:=λq=>e (Sum.inr.inj q)
  rw [decide_eq_false h,decide_eq_false e]
theorem Zi6 (a:Int) (b:Str):decide ((Sum.inl a:ap)=Sum.inr b)=false:=decide_eq_false (λq=>nomatch q)
theorem Zi5 (a:Str) (b:Int):decide ((Sum.inr a:ap)=Sum.inl b)=false:=decide_eq_false (λq=>nomatch q)
noncomputable def cT (prog:Program) (w:World):PySem.KeyKind prog w ap where
 is:=iu
 hash:=Zja w
 inj:=λv a b ha hb=>by
  rcases fH ha with ⟨i,t,rfl,rfl⟩ | ⟨x,t,rfl,rfl⟩
  ·rcases fH hb with ⟨j,u,rfl,e⟩ | ⟨y,u,rfl,e⟩
   ·injection e with e1 _; rw [e1]
   ·exact nomatch e
  ·rcases fH hb with ⟨j,u,rfl,e⟩ | ⟨y,u,rfl,e⟩
   ·exact nomatch e
   ·injection e with e1 _; rw [e1]
 byValue:=λk v h=>by
  rcases fH h with ⟨i,t,rfl,rfl⟩ | ⟨x,t,rfl,rfl⟩ <;> rfl
 pyHash:=λhv h=>by
  rcases fH hv with ⟨i,t,rfl,rfl⟩ | ⟨x,t,rfl,rfl⟩
  ·exact wpAny_pyHash_int h
  ·exact wpAny_pyHash_str h
 eqBool:=λhu hv h=>by
  rcases fH hu with ⟨i,t,rfl,rfl⟩ | ⟨x,t,rfl,rfl⟩
  ·rcases fH hv with ⟨j,u,rfl,rfl⟩ | ⟨y,u,rfl,rfl⟩
   ·rw [Zi7] at h; exact wpAny_eqBool_int h
   ·rw [Zi6] at h; exact SeqAt.EqAt.int_str i t y u _ _ _ _ h
  ·rcases fH hv with ⟨j,u,rfl,rfl⟩ | ⟨y,u,rfl,rfl⟩
   ·rw [Zi5] at h; exact SeqAt.EqAt.str_int x t j u _ _ _ _ h
   ·rw [Zi4] at h; exact wpAny_eqBool_str h
 «strs»:=λk x t v h=>by
  rcases fH h with ⟨i,u,rfl,e⟩ | ⟨y,u,rfl,e⟩
  ·exact nomatch e
  ·injection e with e1 _
   subst e1
   cases v <;> rfl
theorem ZiF (prog:Program) (w:World) (i:Int) (t:Tok):(cT prog w).is (.inl i) (.int i t)=true:=Zi9 i t
theorem ZiE (prog:Program) (w:World) (x:Str) (t:Tok):(cT prog w).is (.inr x) (.str x t)=true:=Zi8 x t
inductive V where
 | non | bl (b:Bool) | int (i:Int) | str (x:Str) | byt (b:Array UInt8) | flt (b:UInt64) | ref (a:Addr) | ty (n:String)
 deriving DecidableEq
noncomputable def RelV:V->Value->Prop
 | .non,u=>u=Value.none
 | .bl b,u=>u=Value.bool b
 | .int i,u=>∃ t,u=Value.int i t
 | .str x,u=>∃ t,u=Value.str x t
 | .byt b,u=>∃ t,u=Value.bytes b t
 | .flt b,u=>∃ t,u=Value.float b t
 | .ref a,u=>u=Value.ref a
 | .ty n,u=>u=Value.type n
noncomputable abbrev Vals:List V->List Value->Prop:=Paired RelV
theorem Vals.length {xs:List V} {us:List Value} (r:Vals xs us):xs.length=us.length:=Paired.length r
theorem Vals.get {xs:List V} {us:List Value} {i:Nat} {x:V} (h:Vals xs us) (e:xs[i]?=some x):∃ u,us[i]?=some u/\RelV x u:=by
 induction h generalizing i with
 | nil=>cases e
 | cons r t ih=>cases i with | zero=>cases e; exact ⟨_,rfl,r⟩ | succ i=>exact ih (i:=i) e
theorem Vals.set {x:V} {u:Value} (r:RelV x u) {xs:List V} {us:List Value} (i:Nat) (h:Vals xs us):Vals (xs.set i x) (us.set i u):=by
 induction h generalizing i with
 | nil=>exact .nil
 | cons q t ih=>cases i with | zero=>exact .cons r t | succ i=>exact .cons q (ih i)
theorem Vals.append {xs ys:List V} {us ws:List Value} (h:Vals xs us) (s:Vals ys ws):Vals (xs++ys) (us++ws):=by
 induction h with
 | nil=>exact s
 | cons r t ih=>exact .cons r ih
theorem Vals.take {xs:List V} {us:List Value} (n:Nat) (h:Vals xs us):Vals (xs.take n) (us.take n):=by
 induction h generalizing n with
 | nil=>rw [List.take_nil,List.take_nil]; exact .nil
 | cons r t ih=>cases n with | zero=>exact .nil | succ n=>exact .cons r (ih n)
theorem Vals.drop {xs:List V} {us:List Value} (n:Nat) (h:Vals xs us):Vals (xs.drop n) (us.drop n):=by
 induction h generalizing n with
 | nil=>rw [List.drop_nil,List.drop_nil]; exact .nil
 | cons r t ih=>cases n with | zero=>exact .cons r t | succ n=>exact ih n
noncomputable def RelO:Option V->Option Value->Prop
 | some v,some u=>RelV v u
 | none,none=>True
 | _,_=>False
noncomputable def KV {κ:Type}:List (κ×V)->List (κ×Value)->Prop:=Paired λ(p:κ×V) (q:κ×Value)=>p.1=q.1/\RelV p.2 q.2
noncomputable def kV:ap->V
 | .inl i=>.int i
 | .inr x=>.str x
inductive HO where
 /-- a list -/
 | lst (xs:List V)
 /-- a tuple (never changes) -/
 | tup (xs:List V)
 /-- a dict whose keys are ints and texts; one whose keys are tuples of ints and texts (the empty one is both) -/
 | dK (kvs:List (ap×V)) | dT (kvs:List (List ap×V))
 /-- a set of ints: its members,its size -/
 | set (S:Int->Bool) (n:Nat)
 /-- an instance of the class at C,its dict at dx,its attributes -/
 | ins (C dx:Addr) (fs:List (Str×V))
 /-- the dict of the instance at x -/
 | own (x:Addr)
 /-- the dict of an exception -/
 | xd (fs:List (Str×V))
 /-- a bound method,f of x -/
 | met (f x:Addr)
 /-- a range object lo,lo+1,.. below hi -/
 | rng (lo hi:Int)
 /-- a thing that is known to the object (the script; a dict while a loop walks it): read,never written while it is so -/
 | frz (o:Obj) (u:HO)
 /-- a code object's table -/
 | tbl (ps:Array Value)
 /-- any other thing,by what is true of its one object (a def of one's own: SetO a S n:=HO.ext λh=>..) -/
 | ext (φ:Heap->Prop)
 | cod (ps:Array Value)
noncomputable abbrev Hp:=Addr->Option HO
noncomputable def upd (H:Hp) (a:Addr) (o:HO):Hp:=λb=>if b=a then some o else H b
theorem bP {H:Hp} {a:Addr} {o:HO}:upd H a o a=some o:=by unfold upd; rw [if_pos rfl]
theorem aJ {H:Hp} {a b:Addr} {o:HO} (h:b≠a):upd H a o b=H b:=by unfold upd; rw [if_neg h]
theorem qw {H:Hp} {a b:Addr} {o u:HO} (h:H a=some o) (h':H b=some u) (d:o≠u):a≠b:=by
 intro e; subst e; rw [h] at h'; exact d (Option.some.inj h')
theorem c7 {H:Hp} {a b:Addr} {o:HO} (h:H a=some o) (h':H b=none):a≠b:=by
 intro e; subst e; rw [h] at h'; cases h'
section
variable (P:Program) (w:World)
noncomputable def ObjOk (H:Hp) (h:Heap) (a:Addr):HO->Prop
 | .lst xs=>xs.length<=sizeLine/\∃ (its:List Value) (n:Nat),Vals xs its/\h.get? a=some { cls:=.type "list",data:=.seq its.toArray n }
 | .tup xs=>xs.length<=sizeLine/\∃ its:List Value,Vals xs its/\IsTup h a its.toArray
 | .dK kvs=>kvs.length<=sizeLine/\(a == sysModules)=false/\∃ vs,KV kvs vs/\h.DictOf (cT P w) a vs
 | .dT kvs=>kvs.length<=sizeLine/\(a == sysModules)=false/\∃ xs:List (List ap×Addr×Value),
   Paired (λ(p:List ap×V) (q:List ap×Addr×Value)=>p.1=q.1/\H q.2.1=some (.tup (p.1.map kV))/\RelV p.2 q.2.2) kvs xs /\
   ∃ o es ep,h.get? a=some o/\o.ExactDict/\o.data=.dict es ep/\es.toList=xs.map (entryOfKey (tupleKind (cT P w)))/\(xs.map (·.1)).Nodup
 | .set S n=>h.SetOf (intKind P w) a S n
 | .ins C dx fs=>H dx=some (.own a)/\fs.length<=1000/\dx≠a/\h.get? a=some (PySem.W.instObj C dx) /\
   ∃ mA,h.Ns1 dx mA/\(∀ f,RelO (fs.lookup f) (mA f))/\PySem.Within mA (fs.map (·.1))
 | .own _=>∃ o,h.get? a=some o
 | .xd fs=>∃ mA,h.Ns1 a mA/\∀ f,RelO (fs.lookup f) (mA f)
 | .rng lo hi=>∃ t u v,h.get? a=some { cls:=.type "range",data:=.fields #[.int lo t,.int hi u,.int 1 v] }
 | .frz o u=>h.get? a=some o/\ObjOk H h a u
 | .tbl ps=>h.get? a=some { cls:=.none,data:=.fields ps }
 | .met f x=>h.get? a=some (PySem.W.methodObj (.ref f) (.ref x))
 | .ext φ=>φ h/\(∃ o,h.get? a=some o)/\∀ h1 h2:Heap,φ h1->(∀ o,h1.get? a=some o->h2.get? a=some o)->φ h2
 | .cod ps=>∃ more:Array Value,h.get? a=some { cls:=.none,data:=.fields (ps++more) }/\PySem.TriplesOk (ps++more).toList/\∀ (po:Pos) (v:Value),codeAmong po (ps++more).toList=some v->∃ (c:Addr) (ob:Obj) (vs:Array Value) (q:Str) (t:Tok),v=.ref c/\H c=some (.frz ob (.own 0))/\ob.data=.fields vs/\vs[1]?=some (.str q t)
noncomputable def HOk (H:Hp) (h:Heap):Prop:=∀ a o,H a=some o->ObjOk P w H h a o
end
section
variable {P:Program} {w:World} {H H':Hp} {h h':Heap} {a:Addr} {o:HO}
theorem ObjOk.lt (x:ObjOk P w H h a o):a < h.objs.size:=by
 cases o with
 | lst xs=>obtain ⟨_,_,_,_,e⟩:=x; exact Heap.lt_size e
 | tup xs=>obtain ⟨_,_,_,p⟩:=x; exact p.lt
 | dK kvs=>obtain ⟨_,_,_,_,o,_,_,e,_⟩:=x; exact Heap.lt_size e
 | dT kvs=>obtain ⟨_,_,_,_,o,_,_,e,_⟩:=x; exact Heap.lt_size e
 | set S n=>obtain ⟨o,_,_,_,e,_⟩:=x; exact Heap.lt_size e
 | ins C dx fs=>obtain ⟨_,_,_,e,_⟩:=x; exact Heap.lt_size e
 | own y=>obtain ⟨_,e⟩:=x; exact Heap.lt_size e
 | xd fs=>obtain ⟨_,⟨_,_,_,e,_⟩,_⟩:=x; exact Heap.lt_size e
 | rng lo hi=>obtain ⟨_,_,_,e⟩:=x; exact Heap.lt_size e
 | frz ob u=>obtain ⟨e,_⟩:=x; exact Heap.lt_size e
 | tbl ps=>exact Heap.lt_size (show h.get? a=some _ from x)
 | met f y=>exact Heap.lt_size (show h.get? a=some _ from x)
 | ext φ=>obtain ⟨_,⟨_,e⟩,_⟩:=x; exact Heap.lt_size e
 | cod ps=>obtain ⟨_,e,_⟩:=x; exact Heap.lt_size e
theorem Paired.mapP {α β:Type} {F G:α->β->Prop} {l₁:List α} {l₂:List β} (h:Paired F l₁ l₂) (f:∀ a b,F a b->G a b):Paired G l₁ l₂:=by
 induction h with
 | nil=>exact .nil
 | cons r t ih=>exact .cons (f _ _ r) ih
theorem ObjOk.stay (x:ObjOk P w H h a o) (k:∀ b u,(b=a\/H b=some (.own a))->h.get? b=some u->h'.get? b=some u)
  (ho:∀ b,H b=some (.own a)->H' b=some (.own a)) (ht:∀ b xs,H b=some (.tup xs)->H' b=some (.tup xs)) (hf:∀ b ob u vs,H b=some (.frz ob u)->ob.data=.fields vs->H' b=some (.frz ob u)):ObjOk P w H' h' a o:=by
 induction o with
 | lst xs=>obtain ⟨z,its,n,r,e⟩:=x; exact ⟨z,its,n,r,k _ _ (.inl rfl) e⟩
 | tup xs=>obtain ⟨z,its,r,ob,e,c⟩:=x; exact ⟨z,its,r,ob,k _ _ (.inl rfl) e,c⟩
 | dK kvs=>obtain ⟨z,y,vs,r,ob,es,ep,e,c⟩:=x; exact ⟨z,y,vs,r,ob,es,ep,k _ _ (.inl rfl) e,c⟩
 | dT kvs =>
  obtain ⟨z,y,xs,r,ob,es,ep,e,c⟩:=x
  exact ⟨z,y,xs,Paired.mapP r λp q z=>⟨z.1,ht _ _ z.2.1,z.2.2⟩,ob,es,ep,k _ _ (.inl rfl) e,c⟩
 | set S n=>obtain ⟨ob,es,ep,t,e,c⟩:=x; exact ⟨ob,es,ep,t,k _ _ (.inl rfl) e,c⟩
 | ins C dx fs =>
  obtain ⟨d,z,ne,e,mA,⟨od,es,ep,e2,c⟩,r⟩:=x
  exact ⟨ho _ d,z,ne,k _ _ (.inl rfl) e,mA,⟨od,es,ep,k _ _ (.inr d) e2,c⟩,r⟩
 | own y=>obtain ⟨ob,e⟩:=x; exact ⟨ob,k _ _ (.inl rfl) e⟩
 | xd fs=>obtain ⟨mA,⟨od,es,ep,e,c⟩,r⟩:=x; exact ⟨mA,⟨od,es,ep,k _ _ (.inl rfl) e,c⟩,r⟩
 | rng lo hi=>obtain ⟨t,u,v,e⟩:=x; exact ⟨t,u,v,k _ _ (.inl rfl) e⟩
 | frz ob u ih=>obtain ⟨e,q⟩:=x; exact ⟨k _ _ (.inl rfl) e,ih q⟩
 | tbl ps =>
  have e:h.get? a=some { cls:=.none,data:=.fields ps }:=x
  show h'.get? a=some { cls:=.none,data:=.fields ps }
  exact k a _ (.inl rfl) e
 | met f y =>
  have e:h.get? a=some (PySem.W.methodObj (.ref f) (.ref y)):=x
  show h'.get? a=some (PySem.W.methodObj (.ref f) (.ref y))
  exact k a _ (.inl rfl) e
 | ext φ=>obtain ⟨p,⟨o,e⟩,st⟩:=x; exact ⟨st _ _ p λo q=>k _ _ (.inl rfl) q,⟨o,k _ _ (.inl rfl) e⟩,st⟩
 | cod ps =>
  obtain ⟨more,e,tr,al⟩:=x
  refine ⟨more,k _ _ (.inl rfl) e,tr,λpo v hv=>?_⟩
  obtain ⟨c,ob,vs,q,t,r1,r2,r3⟩:=al po v hv
  exact ⟨c,ob,vs,q,t,r1,hf _ _ _ _ r2 r3.1,r3⟩
theorem HOk.lt (x:HOk P w H h) (e:H a=some o):a < h.objs.size:=(x a o e).lt
theorem HOk.fresh (x:HOk P w H h) (e:h.objs.size<=a):H a=none:=by
 cases q:H a with
 | none=>rfl
 | some u=>exact absurd (Nat.lt_of_lt_of_le (x.lt q) e) (Nat.lt_irrefl _)
theorem HOk.kept (x:HOk P w H h) (k:∀ b u,h.get? b=some u->h'.get? b=some u):HOk P w H h':=λa o e =>
 (x a o e).stay (λb u _ q=>k b u q) (λ_ q=>q) (λ_ _ q=>q) λ_ _ _ _ q _=>q
theorem HOk.laid (x:HOk P w H h) (k:∀ b u,h.get? b=some u->h'.get? b=some u) (hp:h.objs.size<=a) (new:ObjOk P w (upd H a o) h' a o):HOk P w (upd H a o) h':=λb u e=>by
 have hn:=x.fresh hp
 by_cases hb:b=a
 ·subst hb; rw [bP] at e; cases e; exact new
 ·rw [aJ hb] at e
  exact (x b u e).stay (λc v _ q=>k c v q) (λc q=>by rw [aJ (c7 q hn)]; exact q) (λc xs q=>by rw [aJ (c7 q hn)]; exact q) λc ob xs _ q _=>by rw [aJ (c7 q hn)]; exact q
end
noncomputable def Rd (H:Hp) (a:Addr) (u:HO):Prop:=H a=some u\/∃ o,H a=some (.frz o u)
theorem Rd.ok {P:Program} {w:World} {H:Hp} {h:Heap} {a:Addr} {u:HO} (r:Rd H a u) (x:HOk P w H h):ObjOk P w H h a u:=by
 rcases r with r | ⟨o,r⟩
 ·exact x a u r
 ·obtain ⟨_,q⟩:=x a _ r
  exact q
noncomputable def lp:Option HO->Prop
 | some (.lst _)=>True
 | some (.dK _)=>True
 | some (.dT _)=>True
 | some (.set _ _)=>True
 | some (.ins _ _ _)=>True
 | some (.ext _)=>True
 | _=>False
section
variable {P:Program} {w:World} {H:Hp} {h h':Heap} {x e:Addr} {o':HO}
theorem HOk.write (ok:HOk P w H h) (mu:lp (H x)) (he:e=x\/H e=some (.own x)) (k:∀ b u,b≠e->h.get? b=some u->h'.get? b=some u) (heo:∃ u,h'.get? e=some u)
  (new:ObjOk P w (upd H x o') h' x o'):HOk P w (upd H x o') h':=λb u q=>by
 have nown:∀ c y,H c=some (.own y)->c≠x:=λc y r z=>by subst z; rw [r] at mu; exact mu
 have ntup:∀ c xs,H c=some (.tup xs)->c≠x:=λc xs r z=>by subst z; rw [r] at mu; exact mu
 have nfrz:∀ c ob u,H c=some (.frz ob u)->c≠x:=λc ob u r z=>by subst z; rw [r] at mu; exact mu
 by_cases hb:b=x
 ·subst hb; rw [bP] at q; cases q; exact new
 ·rw [aJ hb] at q
  by_cases hbe:b=e
  ·have q':H b=some (.own x):=by
    rcases he with z | z
    ·exact absurd (hbe.trans z) hb
    ·rw [hbe]; exact z
   rw [q] at q'; cases q'
   obtain ⟨v,hv⟩:=heo
   exact ⟨v,by rw [hbe]; exact hv⟩
  ·refine (ok b u q).stay (λc v hc r=>k c v ?_ r) (λc r=>by rw [aJ (nown c b r)]; exact r) (λc xs r=>by rw [aJ (ntup c xs r)]; exact r) λc ob xs _ r _=>by rw [aJ (nfrz c ob xs r)]; exact r
   rcases hc with rfl | hc
   ·exact hbe
   ·rintro rfl
    rcases he with z | z
    ·exact nown c b hc z
    ·rw [hc] at z; cases z; exact hb rfl
end
structure Un (fs ex:List Addr) (H H':Hp) (h h':Heap):Prop where
 keep:∀ b o,h.get? b=some o->H b=none->b ∉ fs->b ∉ ex->h'.get? b=some o
 slot:∀ b o,h.get? b=some o->H b=none->b∈fs->b ∉ ex->∃ sl,h'.get? b=some { o with slots:=sl }
 free:∀ b o,h.get? b=some o->H b=none->b ∉ ex->H' b=none
 there:∀ b o,h.get? b=some o->b ∉ ex->∃ o',h'.get? b=some o'
 tups:∀ b xs,H b=some (.tup xs)->H' b=some (.tup xs)
 frzs:∀ b o u,H b=some (.frz o u)->H' b=some (.frz o u)
 tbls:∀ b ps,H b=some (.tbl ps)->∃ more,H' b=some (.tbl (ps++more))
section
variable {fs fs' ex ex':List Addr} {H H1 H2:Hp} {h h1 h2 h':Heap} {a x e:Addr} {o:HO}
theorem Un.any (u:Un fs ex H H1 h h1) {b:Addr} {ob:Obj} (q:h.get? b=some ob) (n:H b=none) (hx:b ∉ ex):∃ sl,h1.get? b=some { ob with slots:=sl }:=by
 by_cases hb:b∈fs
 ·exact u.slot b ob q n hb hx
 ·exact ⟨ob.slots,u.keep b ob q n hb hx⟩
theorem Un.kept (k:∀ b u,h.get? b=some u->h'.get? b=some u):Un fs ex H H h h' :=
 ⟨λb ob q _ _ _=>k b ob q,λb ob q _ _ _=>⟨ob.slots,k b ob q⟩,λ_ _ _ n _=>n,λb ob q _=>⟨ob,k b ob q⟩,λ_ _ q=>q,λ_ _ _ q=>q,λ_ ps q=>⟨#[],by rw [q]; simp⟩⟩
theorem Un.refl:Un fs ex H H h h:=Un.kept λ_ _ q=>q
theorem Un.laid (k:∀ b u,h.get? b=some u->h'.get? b=some u) (hp:h.objs.size<=a) (hn:H a=none):Un fs ex H (upd H a o) h h' where
 keep:=λb u q _ _ _=>k b u q
 slot:=λb u q _ _ _=>⟨u.slots,k b u q⟩
 free:=λb u q n _=>by rw [aJ (Nat.ne_of_lt (Nat.lt_of_lt_of_le (Heap.lt_size q) hp))]; exact n
 there:=λb u q _=>⟨u,k b u q⟩
 tups:=λb xs q=>by rw [aJ (c7 q hn)]; exact q
 frzs:=λb u xs q=>by rw [aJ (c7 q hn)]; exact q
 tbls:=λb ps q=>⟨#[],by rw [aJ (c7 q hn),q]; simp⟩
theorem Un.write (mu:lp (H x)) (he:e=x\/H e=some (.own x)) (k:∀ b u,b≠e->h.get? b=some u->h'.get? b=some u) (heo:∃ u,h'.get? e=some u):Un fs ex H (upd H x o) h h':=by
 have hx:∀ b,H b=none->b≠x:=λb n z=>by subst z; rw [n] at mu; exact mu
 have hb:∀ b,H b=none->b≠e:=λb n z=>by
  subst z
  rcases he with r | r
  ·exact hx b n r
  ·rw [n] at r; cases r
 have hm:∀ b u,H b=some u->¬ lp (some u)->b≠x:=λb u q nm z=>by subst z; rw [q] at mu; exact nm mu
 refine ⟨λb u q n _ _=>k b u (hb b n) q,λb u q n _ _=>⟨u.slots,k b u (hb b n) q⟩,λb u q n _=>by rw [aJ (hx b n)]; exact n,λb u q _=>?_,
  λb xs q=>by rw [aJ (hm b _ q λz=>z)]; exact q,λb u xs q=>by rw [aJ (hm b _ q λz=>z)]; exact q,λb ps q=>⟨#[],by rw [aJ (hm b _ q λz=>z),q]; simp⟩⟩
 by_cases hbe:b=e
 ·subst hbe; exact heo
 ·exact ⟨u,k b u hbe q⟩
end
noncomputable def trk (h:Heap) (H:Hp):List Addr:=(List.range h.objs.size).filter λa=>(H a).isSome
noncomputable def gm (h:Heap) (H:Hp):Heap:=PySem.W.hideAll h (trk h H)
theorem Zjr (h:Heap) (H:Hp):(gm h H).objs.size=h.objs.size:=PySem.W.hideAll_size _ _
theorem Zjs {h:Heap} {H:Hp} {b:Addr} {o:Obj} (e:h.get? b=some o) (n:H b=none):(gm h H).get? b=some o :=
 PySem.W.hideAll_get _ e λhm=>by
  have q:(H b).isSome=true:=(List.mem_filter.mp hm).2
  rw [n] at q; simp at q
theorem Zh8 {h:Heap} {H:Hp} {b:Addr} {o:Obj} (e:(gm h H).get? b=some o):h.get? b=some o/\H b=none:=by
 have e':h.get? b=some o:=PySem.W.of_hideAll (trk h H) e
 refine ⟨e',?_⟩
 cases q:H b with
 | none=>rfl
 | some x =>
  have hm:b∈trk h H:=List.mem_filter.mpr ⟨List.mem_range.mpr (Heap.lt_size e'),by simp [q]⟩
  have z:(gm h H).get? b=none:=PySem.W.hideAll_none (trk h H) hm
  rw [z] at e; cases e
noncomputable def Zpw (g h:Heap) (L:Addr):List (Addr×Obj):=(List.range h.objs.size).filterMap λa=>if a=L\/(g.get? a).isSome=true then none else (h.get? a).map λo=>(a,o)
noncomputable def rest (g h:Heap) (L d:Addr):List (Addr×Obj):=(Zpw g h L).filter λp=>decide (p.1≠d)
structure Mod (K:PySem.W.Frag) (mg:Str->Option Value) (base:Heap):Prop where
 kin:K.In base
 glob:base.Ns mainGlobals mg
 blt:∃ mb,base.Ns builtinsNs mb/\∀ x:Str,x≠"__name__"->mb x=bootBuiltins x
 nolimit:base.NoLimit
 nodig:base.NoDigits
structure Cx where
 prog:Program
 w:World
 K:PySem.W.Frag
 mg:Str->Option Value
 base:Heap
 A:Around
 N:List Str
 s₀:Shared
 H₀:Hp
 env:Env
 outer:List Env
 stack:List Env
 ex:List Addr
 fn:Str->Bool
 calm:Bool
 pn:List (Addr×Obj)
 xe:Value->Shared->Prop
noncomputable def frs (l:List Env):List Addr:=l.filterMap (·.frame)
noncomputable abbrev Cx.fs (X:Cx):List Addr:=frs X.outer
noncomputable def jT (sc:Scope) (x:Str):Prop:=sc.names.lookup x=some .local\/sc.names.lookup x=some .cell\/sc.names.lookup x=some .free
noncomputable def jY (sc:Scope) (x:Str):Prop:=sc.names.lookup x=some .local\/sc.names.lookup x=some .cell
noncomputable def Zp1 (env:Env) (h:Heap) (m:Str->Option Value) (x:Str) (u:Value):Prop :=
 (env.kindOf x=some .local/\m x=some u)\/((env.kindOf x=some .cell\/env.kindOf x=some .free)/\∃ c,env.cells.lookup x=some c/\h.IsCell c (some u))
structure Cx.Ok (X:Cx):Prop where
 mod:Mod X.K X.mg X.base
 kind:X.env.scope.kind=.function
 glob:X.env.globals=mainGlobals
 blt:X.env.builtins=builtinsNs
 above:X.s₀.heap.objs.size<=X.env.locals
 inj:∀ x y c,X.env.cells.lookup x=some c->X.env.cells.lookup y=some c->x=y
 has:∀ x,(X.env.kindOf x=some .cell\/X.env.kindOf x=some .free)->∃ c,X.env.cells.lookup x=some c
 cab:∀ x c,X.fn x=true->X.env.cells.lookup x=some c->X.s₀.heap.objs.size<=c
 hd:X.calm=true->X.A.handled=none
 frames:X.A.frames=some X.stack
 stk:X.stack=X.outer\/(X.stack=X.env::X.outer/\X.env.frame=some X.env.locals)
 exf:∀ b∈X.ex,b≠X.env.locals/\∀ x c,X.env.cells.lookup x=some c->c≠b
 bs:∀ b o,X.base.get? b=some o->X.s₀.heap.get? b=some o/\X.H₀ b=none
 bsz:X.base.objs.size<=X.s₀.heap.objs.size
 noex:∀ b o,X.base.get? b=some o->b ∉ X.ex
 exfs:∀ b∈X.ex,b ∉ X.fs
 funs:X.s₀.heap.FunFrames X.base X.outer
 frf:∀ b∈X.fs,X.H₀ b=none
structure Inv (X:Cx) (pins:List (Addr×Obj)) (σ:List (Option V)) (H:Hp) (s:Shared):Prop where
 ok:X.Ok
 os:s.os=X.s₀.os
 bare:AllBare s.gens
 base:Un X.fs X.ex X.H₀ H X.s₀.heap s.heap
 loc:∃ m,s.heap.Ns X.env.locals m/\∀ (i:Nat) (x:Str) (v:V),X.N[i]?=some x->σ[i]?=some (some v)->jT X.env.scope x->∃ u,RelV v u/\Zp1 X.env s.heap m x u
 cell:∀ x c,X.env.cells.lookup x=some c->∃ v,s.heap.IsCell c v
 free:H X.env.locals=none
 freeC:∀ x c,X.env.cells.lookup x=some c->H c=none
 pin:∀ p∈X.pn++pins,s.heap.get? p.1=some p.2/\H p.1=none/\p.1≠X.env.locals/\p.1 ∉ X.fs/\∀ v,p.2.data≠.cell v
 hok:HOk X.prog X.w H s.heap
 len:σ.length=X.N.length
section
variable {X:Cx} {pins:List (Addr×Obj)} {σ:List (Option V)} {H H':Hp} {s:Shared} {h':Heap}
theorem Cx.Ok.nofr (ok:X.Ok) {b:Addr} {o:Obj} (e:X.base.get? b=some o):b ∉ X.fs:=λhb=>by
 have:=(ok.funs.mem hb).1
 rw [e] at this; cases this
theorem Inv.bs (I:Inv X pins σ H s):∀ b o,X.base.get? b=some o->s.heap.get? b=some o/\H b=none:=λb o e =>
 ⟨I.base.keep b o (I.ok.bs b o e).1 (I.ok.bs b o e).2 (I.ok.nofr e) (I.ok.noex b o e),I.base.free b o (I.ok.bs b o e).1 (I.ok.bs b o e).2 (I.ok.noex b o e)⟩
theorem Inv.bk (I:Inv X pins σ H s):∀ b o,X.base.get? b=some o->s.heap.get? b=some o:=λb o e=>(I.bs b o e).1
theorem Inv.mod (I:Inv X pins σ H s):Mod X.K X.mg X.base:=I.ok.mod
theorem Inv.kIn (I:Inv X pins σ H s):X.K.In s.heap:=I.ok.mod.kin.keeps I.bk
theorem Inv.lt (I:Inv X pins σ H s):X.env.locals < s.heap.objs.size:=let ⟨_,hn,_⟩:=I.loc; hn.lt
theorem Inv.sz (I:Inv X pins σ H s):X.s₀.heap.objs.size<=s.heap.objs.size:=Nat.le_trans I.ok.above (Nat.le_of_lt I.lt)
theorem Inv.nofs (I:Inv X pins σ H s) {a:Addr} (h:s.heap.objs.size<=a):a ∉ X.fs:=λhb=>by
 obtain ⟨_,o,ho,_⟩:=I.ok.funs.mem hb
 exact absurd (Nat.lt_of_lt_of_le (Heap.lt_size ho) (Nat.le_trans I.sz h)) (Nat.lt_irrefl _)
theorem Inv.cne (I:Inv X pins σ H s):∀ x c,X.env.cells.lookup x=some c->c≠X.env.locals:=λx c e z=>by
 obtain ⟨v,o,ho,hd⟩:=I.cell x c e
 obtain ⟨m,⟨o',es,ep,ho',hd',_⟩,_⟩:=I.loc
 rw [z,ho'] at ho; cases ho; rw [hd'] at hd; cases hd
theorem Inv.funs (I:Inv X pins σ H s):s.heap.FunFrames X.base X.outer:=by
 have all:∀ (l:List Env),(∀ b∈frs l,b∈X.fs)->X.s₀.heap.FunFrames X.base l->s.heap.FunFrames X.base l:=by
  intro l
  induction l with
  | nil=>intro _ _; trivial
  | cons env r ih =>
   intro hs hl
   obtain ⟨hk,⟨L,o,hf,hn,ho,hd⟩,hr⟩:=hl
   have hL:L∈X.fs:=hs L (by unfold frs; rw [List.filterMap_cons,hf]; exact List.mem_cons_self)
   obtain ⟨sl,e⟩:=I.base.slot L o ho (I.ok.frf L hL) hL λz=>I.ok.exfs L z hL
   exact ⟨hk,⟨L,_,hf,hn,e,hd⟩,ih (λb hb=>hs b (by unfold frs; rw [List.filterMap_cons,hf]; exact List.mem_cons_of_mem _ hb)) hr⟩
 exact all X.outer (λ_ hb=>hb) I.ok.funs
theorem Inv.stack (I:Inv X pins σ H s):s.heap.FunFrames X.base X.stack:=by
 rcases I.ok.stk with e | ⟨e,hf⟩
 ·rw [e]; exact I.funs
 ·rw [e]
  obtain ⟨m,hn,_⟩:=I.loc
  refine .cons (by rw [I.ok.kind]; decide) hf hn ?_ I.funs
  exact Heap.get?_none_of_le (Nat.le_trans I.ok.bsz I.ok.above)
theorem Inv.stkSub (I:Inv X pins σ H s):∀ b∈frs X.stack,b∈X.env.locals::X.fs:=λb hb=>by
 rcases I.ok.stk with e | ⟨e,hf⟩
 ·rw [e] at hb; exact List.mem_cons_of_mem _ hb
 ·rw [e] at hb
  unfold frs at hb
  rw [List.filterMap_cons,hf] at hb
  exact hb
theorem Inv.stkFree (I:Inv X pins σ H s):∀ b∈frs X.stack,H b=none:=λb hb=>by
 rcases List.mem_cons.mp (I.stkSub b hb) with e | hb
 ·rw [e]; exact I.free
 ·obtain ⟨_,o,ho,_⟩:=I.ok.funs.mem hb
  exact I.base.free b o ho (I.ok.frf b hb) λz=>I.ok.exfs b z hb
theorem Inv.step {g':Array GenState} {t':Nat} {d':Drawn} {ch:List Addr} (I:Inv X pins σ H s)
  (hch:∀ b∈ch,(b∈X.ex\/X.s₀.heap.objs.size<=b)/\b≠X.env.locals/\(∀ x c,X.env.cells.lookup x=some c->c≠b)/\∀ p∈X.pn++pins,p.1≠b)
  (keep:∀ b o,b≠X.env.locals->b ∉ X.fs->b ∉ ch->s.heap.get? b=some o->H b=none->h'.get? b=some o)
  (slot:∀ b o,b≠X.env.locals->b∈X.fs->b ∉ ch->s.heap.get? b=some o->H b=none->∃ sl,h'.get? b=some { o with slots:=sl }) (free:∀ b o,b ∉ ch->s.heap.get? b=some o->H b=none->H' b=none)
  (there:∀ b o,b ∉ ch->s.heap.get? b=some o->∃ o',h'.get? b=some o')
  (tups:∀ b xs,H b=some (.tup xs)->H' b=some (.tup xs)) (frzs:∀ b o u,H b=some (.frz o u)->H' b=some (.frz o u)) (tbls:∀ b ps,H b=some (.tbl ps)->∃ more,H' b=some (.tbl (ps++more)))
  (ns:∀ m,s.heap.Ns X.env.locals m->h'.Ns X.env.locals m) (hok:HOk X.prog X.w H' h') (hg:AllBare g') :
  Inv X pins σ H' { s with heap:=h',gens:=g',drawn:=d',toks:=t' }:=by
 have neL:∀ b o,X.s₀.heap.get? b=some o->b≠X.env.locals:=λb o e=>Nat.ne_of_lt (Nat.lt_of_lt_of_le (Heap.lt_size e) I.ok.above)
 have neC:∀ b o,X.s₀.heap.get? b=some o->b ∉ X.ex->b ∉ ch:=λb o e hx hb=>by
  rcases (hch b hb).1 with z | z
  ·exact hx z
  ·exact absurd (Nat.lt_of_lt_of_le (Heap.lt_size e) z) (Nat.lt_irrefl _)
 have cellK:∀ x c,X.env.cells.lookup x=some c->∀ v,s.heap.IsCell c v->h'.IsCell c v:=λx c e v hz0=>by
  obtain ⟨o,ho,hd⟩:=hz0
  have nch:c ∉ ch:=λz=>(hch c z).2.2.1 x c e rfl
  by_cases hc:c∈X.fs
  ·obtain ⟨sl,q⟩:=slot c o (I.cne x c e) hc nch ho (I.freeC x c e)
   exact ⟨_,q,hd⟩
  ·exact ⟨o,keep c o (I.cne x c e) hc nch ho (I.freeC x c e),hd⟩
 refine ⟨I.ok,I.os,hg,⟨λb o e n hb hx=>?_,λb o e n hb hx=>?_,λb o e n hx=>?_,λb o e hx=>?_,λb xs e=>tups b xs (I.base.tups b xs e),λb o xs e=>frzs b o xs (I.base.frzs b o xs e),λb ps e=>?_⟩,?_,λx c e=>?_,?_,λx c e=>?_,λp hp=>?_,hok,I.len⟩
 ·exact keep b o (neL b o e) hb (neC b o e hx) (I.base.keep b o e n hb hx) (I.base.free b o e n hx)
 ·obtain ⟨sl,e1⟩:=I.base.slot b o e n hb hx
  obtain ⟨sl',e2⟩:=slot b _ (neL b o e) hb (neC b o e hx) e1 (I.base.free b o e n hx)
  exact ⟨sl',e2⟩
 ·obtain ⟨o',e1⟩:=I.base.there b o e hx
  exact free b o' (neC b o e hx) e1 (I.base.free b o e n hx)
 ·obtain ⟨o',e1⟩:=I.base.there b o e hx
  exact there b o' (neC b o e hx) e1
 ·obtain ⟨m1,e1⟩:=I.base.tbls b ps e
  obtain ⟨m2,e2⟩:=tbls b _ e1
  exact ⟨m1++m2,by rw [e2,Array.append_assoc]⟩
 ·obtain ⟨m,hn,hl⟩:=I.loc
  refine ⟨m,ns m hn,λi x v e1 e2 e3=>?_⟩
  obtain ⟨u,r,l⟩:=hl i x v e1 e2 e3
  refine ⟨u,r,?_⟩
  rcases l with l | ⟨k,c,e,z⟩
  ·exact .inl l
  ·exact .inr ⟨k,c,e,cellK x c e _ z⟩
 ·obtain ⟨v,z⟩:=I.cell x c e
  exact ⟨v,cellK x c e v z⟩
 ·obtain ⟨m,⟨o,_,_,ho,_⟩,_⟩:=I.loc
  exact free _ o (λz=>(hch _ z).2.1 rfl) ho I.free
 ·obtain ⟨v,o,ho,hd⟩:=I.cell x c e
  exact free c o (λz=>(hch c z).2.2.1 x c e rfl) ho (I.freeC x c e)
 ·obtain ⟨e,n,ne,nf,d⟩:=I.pin p hp
  have nch:p.1 ∉ ch:=λz=>(hch p.1 z).2.2.2 p hp rfl
  exact ⟨keep p.1 p.2 ne nf nch e n,free p.1 p.2 nch e n,ne,nf,d⟩
theorem Inv.un {t':Nat} (I:Inv X pins σ H s) (u:Un X.fs [] H H' s.heap h') (hok:HOk X.prog X.w H' h'):Inv X pins σ H' { s with heap:=h',toks:=t' }:=by
 obtain ⟨m,⟨o,es,ep,ho,r⟩,_⟩:=id I.loc
 obtain ⟨sl,hL⟩:=u.any ho I.free (by simp)
 exact I.step (g':=s.gens) (d':=s.drawn) (ch:=[]) (λ_ z=>nomatch z) (λb o _ hb _ e n=>u.keep b o e n hb (by simp)) (λb o _ hb _ e n=>u.slot b o e n hb (by simp)) (λb o _ e n=>u.free b o e n (by simp)) (λb o _ e=>u.there b o e (by simp)) u.tups u.frzs u.tbls (λm' hm=>by
  obtain ⟨o',es',ep',ho',r'⟩:=hm
  rw [ho] at ho'; cases ho'
  exact ⟨_,es',ep',hL,r'⟩) hok I.bare
theorem Inv.call {g':Array GenState} {t':Nat} {d':Drawn} {ch:List Addr} (I:Inv X pins σ H s) (u:Un (frs X.stack) ch H H' s.heap h') (hok:HOk X.prog X.w H' h') (hg:AllBare g')
  (hch:∀ b∈ch,(b∈X.ex\/X.s₀.heap.objs.size<=b)/\b≠X.env.locals/\(∀ x c,X.env.cells.lookup x=some c->c≠b)/\∀ p∈X.pn++pins,p.1≠b) :
  Inv X pins σ H' { s with heap:=h',gens:=g',drawn:=d',toks:=t' }:=by
 obtain ⟨m,⟨o,es,ep,ho,r⟩,_⟩:=id I.loc
 obtain ⟨sl,hL⟩:=u.any ho I.free λz=>(hch _ z).2.1 rfl
 exact I.step (ch:=ch) hch (λb o hL hb hc e n=>u.keep b o e n (λz=>(List.mem_cons.mp (I.stkSub b z)).elim hL hb) hc) (λb o _ _ hc e n=>u.any e n hc) (λb o hc e n=>u.free b o e n hc) (λb o hc e=>u.there b o e hc) u.tups u.frzs u.tbls (λm' hm=>by
  obtain ⟨o',es',ep',ho',r'⟩:=hm
  rw [ho] at ho'; cases ho'
  exact ⟨_,es',ep',hL,r'⟩) hok hg
theorem Inv.turned {t':Nat} {it:Addr} (I:Inv X pins σ H s) (k:∀ b o,b≠it->s.heap.get? b=some o->h'.get? b=some o) (hn:H it=none) (hL:it≠X.env.locals)
  (h1:it∈X.ex\/X.s₀.heap.objs.size<=it) (h2:∀ x c,X.env.cells.lookup x=some c->c≠it) (h3:∀ p∈X.pn++pins,p.1≠it):Inv X pins σ H { s with heap:=h',toks:=t' }:=by
 have nit:∀ b u,H b=some u->b≠it:=λb u e z=>by rw [z,hn] at e; cases e
 refine I.step (g':=s.gens) (d':=s.drawn) (ch:=[it]) (λb hb=>?_) (λb o _ _ hc e _=>k b o (λz=>hc (by simp [z])) e) (λb o _ _ hc e _=>⟨o.slots,k b o (λz=>hc (by simp [z])) e⟩) (λ_ _ _ _ n=>n)
  (λb o hc e=>⟨o,k b o (λz=>hc (by simp [z])) e⟩) (λ_ _ e=>e) (λ_ _ _ e=>e) (λb ps e=>⟨#[],by rw [e]; simp⟩) (λm hm=>?_) (λb u e=>?_) I.bare
 ·have e:b=it:=by simpa using hb
  subst e
  exact ⟨h1,hL,h2,h3⟩
 ·obtain ⟨o,es,ep,ho,r⟩:=hm
  exact ⟨o,es,ep,k _ o (Ne.symm hL) ho,r⟩
 ·refine (I.hok b u e).stay (λc v hc q=>k c v ?_ q) (λ_ q=>q) (λ_ _ q=>q) λ_ _ _ _ q _=>q
  rcases hc with z | z
  ·rw [z]; exact nit b u e
  ·exact nit c _ z
theorem Inv.tok (I:Inv X pins σ H s) (t:Nat):Inv X pins σ H { s with toks:=t }:=I.un (h':=s.heap) (t':=t) Un.refl I.hok
theorem Inv.kept {t':Nat} (I:Inv X pins σ H s) (k:∀ b u,s.heap.get? b=some u->h'.get? b=some u):Inv X pins σ H { s with heap:=h',toks:=t' }:=I.un (Un.kept k) (I.hok.kept k)
theorem Inv.laid {a:Addr} {o:HO} {t':Nat} (I:Inv X pins σ H s) (k:∀ b u,s.heap.get? b=some u->h'.get? b=some u) (hp:s.heap.objs.size<=a) (new:ObjOk X.prog X.w (upd H a o) h' a o) :
  Inv X pins σ (upd H a o) { s with heap:=h',toks:=t' }:=I.un (Un.laid k hp (I.hok.fresh hp)) (I.hok.laid k hp new)
theorem Inv.write {x e:Addr} {o:HO} {t':Nat} (I:Inv X pins σ H s) (mu:lp (H x)) (he:e=x\/H e=some (.own x)) (k:∀ b u,b≠e->s.heap.get? b=some u->h'.get? b=some u) (heo:∃ u,h'.get? e=some u)
  (new:ObjOk X.prog X.w (upd H x o) h' x o):Inv X pins σ (upd H x o) { s with heap:=h',toks:=t' }:=I.un (Un.write mu he k heo) (I.hok.write mu he k heo new)
theorem Inv.pins_of {pins':List (Addr×Obj)} (I:Inv X pins σ H s) (h:∀ p∈pins',s.heap.get? p.1=some p.2/\H p.1=none/\p.1≠X.env.locals/\p.1 ∉ X.fs/\∀ v,p.2.data≠.cell v):Inv X pins' σ H s :=
 ⟨I.ok,I.os,I.bare,I.base,I.loc,I.cell,I.free,I.freeC,λp hp=>(List.mem_append.mp hp).elim (λz=>I.pin p (List.mem_append_left _ z)) (h p),I.hok,I.len⟩
theorem qv {N:List Str} (hN:N.Nodup) {i j:Nat} {x:Str} (a:N[i]?=some x) (b:N[j]?=some x):i=j:=by
 obtain ⟨h1,e1⟩:=List.getElem?_eq_some_iff.mp a
 obtain ⟨h2,e2⟩:=List.getElem?_eq_some_iff.mp b
 exact (List.getElem_inj hN).mp (e1.trans e2.symm)
theorem ZaF {M:Model} {A:Around} {E:Value->Shared->Prop} {i:Nat} {x:Str} {v:V} {u:Value} {Q:Unit->Shared->Prop} (I:Inv X pins σ H s) (hN:X.N.Nodup) (hi:X.N[i]?=some x) (hx:jY X.env.scope x) (r:RelV v u)
  (h:∀ s',Inv X pins (σ.set i (some v)) H s'->(∃ a,Heap.SameBut a s.heap s'.heap/\(a=X.env.locals\/X.env.cells.lookup x=some a))->Q () s') (hf:X.fn x=true\/X.env.scope.names.lookup x=some .local:=by first | exact .inl rfl | exact .inr rfl | assumption):wpAny M A (storeName X.env x u) Q E s:=by
 obtain ⟨m,hn,hl⟩:=id I.loc
 have hcls:(X.env.scope.kind == .class || (X.env.scope.kind == .module && X.env.locals != X.env.globals))=false:=by rw [I.ok.kind]; rfl
 have hiσ:i < σ.length:=by rw [I.len]; exact (List.getElem?_eq_some_iff.mp hi).1
 have cne:=I.cne
 have tracked:∀ {a:Addr} {h':Heap},(∃ o,s.heap.get? a=some o/\H a=none)->Heap.SameBut a s.heap h'->HOk X.prog X.w H h':=λ{a h'} ha hs b ob e=>by
  obtain ⟨_,_,hfree⟩:=ha
  refine (I.hok b ob e).stay (λc w' hc q=>(hs.2 c ?_).trans q) (λ_ q=>q) (λ_ _ q=>q) λ_ _ _ _ q _=>q
  rintro rfl
  rcases hc with rfl | hc
  ·rw [hfree] at e; cases e
  ·rw [hfree] at hc; cases hc
 rcases hx with hk | hk
 ·refine wpAny_storeName_local hk hn (λh' hn' hs=>?_) hcls
  obtain ⟨oL,_,_,hoL,_⟩:=id hn
  refine h _ ⟨I.ok,I.os,I.bare,⟨λb o e n hb hx=>?_,λb o e n hb hx=>?_,I.base.free,λb o e hx=>?_,I.base.tups,I.base.frzs,I.base.tbls⟩,⟨_,hn',λj y v' e1 e2 e3=>?_⟩,λy c e=>?_,I.free,I.freeC,λp hp=>?_,tracked ⟨oL,hoL,I.free⟩ hs,by simpa using I.len⟩ ⟨_,hs,.inl rfl⟩
  ·exact (hs.2 b (Nat.ne_of_lt (Nat.lt_of_lt_of_le (Heap.lt_size e) I.ok.above))).trans (I.base.keep b o e n hb hx)
  ·obtain ⟨sl,e1⟩:=I.base.slot b o e n hb hx
   exact ⟨sl,(hs.2 b (Nat.ne_of_lt (Nat.lt_of_lt_of_le (Heap.lt_size e) I.ok.above))).trans e1⟩
  ·obtain ⟨o',e1⟩:=I.base.there b o e hx
   exact ⟨o',(hs.2 b (Nat.ne_of_lt (Nat.lt_of_lt_of_le (Heap.lt_size e) I.ok.above))).trans e1⟩
  ·by_cases hj:j=i
   ·subst hj
    rw [hi] at e1; cases e1
    rw [List.getElem?_set_self hiσ] at e2
    cases e2
    exact ⟨u,r,.inl ⟨hk,by simp⟩⟩
   ·rw [List.getElem?_set_ne (Ne.symm hj)] at e2
    obtain ⟨u',r',q⟩:=hl j y v' e1 e2 e3
    refine ⟨u',r',?_⟩
    rcases q with ⟨k,e⟩ | ⟨k,c,e,z⟩
    ·refine .inl ⟨k,?_⟩
     have:y≠x:=λe=>hj (qv hN e1 (e ▸ hi))
     simp [this,e]
    ·exact .inr ⟨k,c,e,z.sameBut hs (cne y c e)⟩
  ·obtain ⟨w',z⟩:=I.cell y c e
   exact ⟨w',z.sameBut hs (cne y c e)⟩
  ·obtain ⟨e,n,ne,nf,d⟩:=I.pin p hp
   exact ⟨(hs.2 p.1 ne).trans e,n,ne,nf,d⟩
 ·have hfn:X.fn x=true:=by
   rcases hf with z | z
   ·exact z
   ·rw [z] at hk; cases hk
  obtain ⟨c,hc⟩:=I.ok.has x (.inl hk)
  obtain ⟨w',z⟩:=I.cell x c hc
  refine wpAny_storeName_cell I.ok.kind hk hc z (λh' hc' hs=>?_)
  obtain ⟨oc,hoc,hocd⟩:=id z
  refine h { s with heap:=h' } ⟨I.ok,I.os,I.bare,⟨λb o e n hb hx=>?_,λb o e n hb hx=>?_,I.base.free,λb o e hx=>?_,I.base.tups,I.base.frzs,I.base.tbls⟩,⟨m,hn.sameBut hs (Ne.symm (cne x c hc)),λj y v' e1 e2 e3=>?_⟩,λy c' e=>?_,I.free,I.freeC,λp hp=>?_,tracked ⟨oc,hoc,I.freeC x c hc⟩ hs,by simpa using I.len⟩ ⟨c,hs,.inr hc⟩
  ·exact (hs.2 b (Nat.ne_of_lt (Nat.lt_of_lt_of_le (Heap.lt_size e) (I.ok.cab x c hfn hc)))).trans (I.base.keep b o e n hb hx)
  ·obtain ⟨sl,e1⟩:=I.base.slot b o e n hb hx
   exact ⟨sl,(hs.2 b (Nat.ne_of_lt (Nat.lt_of_lt_of_le (Heap.lt_size e) (I.ok.cab x c hfn hc)))).trans e1⟩
  ·obtain ⟨o',e1⟩:=I.base.there b o e hx
   exact ⟨o',(hs.2 b (Nat.ne_of_lt (Nat.lt_of_lt_of_le (Heap.lt_size e) (I.ok.cab x c hfn hc)))).trans e1⟩
  ·by_cases hj:j=i
   ·subst hj
    rw [hi] at e1; cases e1
    rw [List.getElem?_set_self hiσ] at e2
    cases e2
    exact ⟨u,r,.inr ⟨.inl hk,c,hc,hc'⟩⟩
   ·rw [List.getElem?_set_ne (Ne.symm hj)] at e2
    obtain ⟨u',r',q⟩:=hl j y v' e1 e2 e3
    refine ⟨u',r',?_⟩
    rcases q with q | ⟨k,c',e,z'⟩
    ·exact .inl q
    ·refine .inr ⟨k,c',e,z'.sameBut hs ?_⟩
     rintro rfl
     exact hj (qv hN e1 (I.ok.inj _ _ _ e hc ▸ hi))
  ·by_cases hcc:c'=c
   ·subst hcc; exact ⟨_,hc'⟩
   ·obtain ⟨w2,z2⟩:=I.cell y c' e
    exact ⟨w2,z2.sameBut hs hcc⟩
  ·obtain ⟨e,n,ne,nf,d⟩:=I.pin p hp
   refine ⟨(hs.2 p.1 ?_).trans e,n,ne,nf,d⟩
   intro q
   rw [q,hoc] at e
   have q':oc=p.2:=Option.some.inj e
   exact d w' (by rw [<- q']; exact hocd)
theorem lG {M:Model} {A:Around} {E:Value->Shared->Prop} {i:Nat} {x:Str} {v:V} {u:Value} {Q:Unit->Shared->Prop} (I:Inv X pins σ H s) (hN:X.N.Nodup) (hi:X.N[i]?=some x) (hx:jY X.env.scope x) (r:RelV v u)
  (h:∀ s',Inv X pins (σ.set i (some v)) H s'->Q () s') (hf:X.fn x=true\/X.env.scope.names.lookup x=some .local:=by first | exact .inl rfl | exact .inr rfl | assumption):wpAny M A (storeName X.env x u) Q E s :=
 ZaF I hN hi hx r (λs' I' _=>h s' I') hf
theorem Inv.call' {s':Shared} {ch:List Addr} (I:Inv X pins σ H s) (ho:s'.os=s.os) (u:Un (frs X.stack) ch H H' s.heap s'.heap) (hok:HOk X.prog X.w H' s'.heap) (hg:AllBare s'.gens)
  (hch:∀ b∈ch,(b∈X.ex\/X.s₀.heap.objs.size<=b)/\b≠X.env.locals/\(∀ x c,X.env.cells.lookup x=some c->c≠b)/\∀ p∈X.pn++pins,p.1≠b):Inv X pins σ H' s':=by
 obtain ⟨h',g',d',t',o'⟩:=s'
 have e:o'=s.os:=ho
 subst e
 exact I.call (g':=g') (t':=t') (d':=d') u hok hg hch
end
noncomputable abbrev XK:=Value->Option Addr->Hp->Prop
noncomputable abbrev St:=List (Option V)
noncomputable abbrev VK:=V->Hp->Prop
noncomputable abbrev TE:=St->Hp->VK->Prop
noncomputable abbrev TT:=St->Hp->(Bool->Hp->Prop)->Prop
noncomputable abbrev TA:=St->Hp->(List V->Hp->Prop)->Prop
structure Ends where
 nx:St->Hp->Prop
 rt:VK
 bk:St->Hp->Prop:=λ_ _=>False
 ct:St->Hp->Prop:=λ_ _=>False
noncomputable abbrev TS:=Ends->St->Hp->Prop
noncomputable def EP (X:Cx) (pins:List (Addr×Obj)) (σ:St) (Q:VK) (u:Value) (s':Shared):Prop:=∃ v H',Inv X pins σ H' s'/\RelV v u/\Q v H'
noncomputable def TP (X:Cx) (pins:List (Addr×Obj)) (σ:St) (Q:Bool->Hp->Prop) (b:Bool) (s':Shared):Prop:=∃ H',Inv X pins σ H' s'/\Q b H'
noncomputable def AP (X:Cx) (pins:List (Addr×Obj)) (σ:St) (Q:List V->Hp->Prop) (us:List Value) (s':Shared):Prop:=∃ vs H',Inv X pins σ H' s'/\Vals vs us/\Q vs H'
noncomputable def SP (X:Cx) (pins:List (Addr×Obj)) (D:Ends) (f:Flow) (s':Shared):Prop :=
 match f with
 | .next=>∃ σ' H',Inv X pins σ' H' s'/\D.nx σ' H'
 | .brk=>∃ σ' H',Inv X pins σ' H' s'/\D.bk σ' H'
 | .cont=>∃ σ' H',Inv X pins σ' H' s'/\D.ct σ' H'
 | .ret u=>∃ v σ' H',Inv X pins σ' H' s'/\RelV v u/\D.rt v H'
noncomputable def PE (X:Cx) (e:Expr) (t:TE):Prop :=
 ∀ (pins:List (Addr×Obj)) (s:Shared) (σ:St) (H:Hp) (Q:VK),Inv X pins σ H s->t σ H Q->wpAny (model X.prog X.w) X.A (eval e X.env) (EP X pins σ Q) X.xe s
noncomputable def PT (X:Cx) (e:Expr) (t:TT):Prop :=
 ∀ (pins:List (Addr×Obj)) (s:Shared) (σ:St) (H:Hp) (Q:Bool->Hp->Prop),Inv X pins σ H s->t σ H Q->wpAny (model X.prog X.w) X.A (isTrue e X.env (eval e X.env)) (TP X pins σ Q) X.xe s
noncomputable def PW (X:Cx) (e:Expr) (t:TT):Prop :=
 ∀ (whole:Sem Value) (pins:List (Addr×Obj)) (s:Shared) (σ:St) (H:Hp) (Q:Bool->Hp->Prop),Inv X pins σ H s->t σ H Q->wpAny (model X.prog X.w) X.A (isTrue e X.env whole) (TP X pins σ Q) X.xe s
theorem PW.pt {X:Cx} {e:Expr} {t:TT} (h:PW X e t):PT X e t:=h _
noncomputable def PA (X:Cx) (es:List Expr) (t:TA):Prop :=
 ∀ (pos:Pos) (pins:List (Addr×Obj)) (s:Shared) (σ:St) (H:Hp) (Q:List V->Hp->Prop),Inv X pins σ H s->t σ H Q->wpAny (model X.prog X.w) X.A (spliced (backTo pos (starEach es X.env))) (AP X pins σ Q) X.xe s
noncomputable def PS (X:Cx) (st:Stmt) (t:TS):Prop :=
 ∀ (pins:List (Addr×Obj)) (s:Shared) (σ:St) (H:Hp) (D:Ends),Inv X pins σ H s->t D σ H->wpAny (model X.prog X.w) X.A (exec st X.env) (SP X pins D) X.xe s
noncomputable def PSs (X:Cx) (st:List Stmt) (t:TS):Prop :=
 ∀ (pins:List (Addr×Obj)) (s:Shared) (σ:St) (H:Hp) (D:Ends),Inv X pins σ H s->t D σ H->wpAny (model X.prog X.w) X.A (execs st X.env) (SP X pins D) X.xe s
theorem thn {α:Type} {t:Sem α} {Q Q':α->Shared->Prop} {M:Model} {A:Around} {E:Value->Shared->Prop} {s:Shared} (h:wpAny M A t Q E s) (hQ:∀ a s,Q a s->Q' a s):wpAny M A t Q' E s:=wpAny_mono h hQ λ_ _ x=>x
section
variable {X:Cx}
noncomputable def fy (i:Nat):TE:=λσ H Q=>∃ v,σ[i]?=some (some v)/\Q v H
noncomputable def tC (v:V):TE:=λ_ H Q=>Q v H
theorem Zhq {i:Nat} {x:Str} {pos:Pos} (hN:X.N[i]?=some x) (hv:jT X.env.scope x) (hd:(x == ("__debug__":Str))=false:=by decide) (hcd:(x == ("__classdict__":Str))=false:=by decide):PE X (.Name x pos) (fy i):=by
 intro pins s σ H Q I h
 obtain ⟨v,e,h⟩:=h
 obtain ⟨m,hn,hl⟩:=I.loc
 obtain ⟨u,r,l⟩:=hl i x v hN e hv
 have fin:EP X pins σ Q u s:=⟨v,H,I,r,h⟩
 rcases l with ⟨hk,hm⟩ | ⟨hk,c,hc,hcell⟩
 ·exact wpAny_Name (wpAny_loadName_local I.ok.kind hk hn hm fin) hd
 ·rcases hk with hk | hk
  ·exact wpAny_Name (wpAny_loadName_cell I.ok.kind hk hc hcell fin) hd
  ·exact wpAny_Name (wpAny_loadName_free I.ok.kind hk hc hcell fin hcd) hd
theorem bR {i j pos}:PE X (.Constant (.int i) j pos) (tC (.int i)):=λ_ _ _ H _ I h=>wpAny_Constant_int ⟨.int i,H,I.tok _,⟨_,rfl⟩,h⟩
theorem ZhB {b j pos}:PE X (.Constant (.bool b) j pos) (tC (.bl b)):=λ_ _ _ H _ I h=>Constant_bool ⟨.bl b,H,I,rfl,h⟩
theorem qf {j pos}:PE X (.Constant .none j pos) (tC .non):=λ_ _ _ H _ I h=>Constant_none ⟨.non,H,I,rfl,h⟩
theorem di {x j pos}:PE X (.Constant (.str x) j pos) (tC (.str x)):=λ_ _ _ H _ I h=>Calls.Constant_str ⟨.str x,H,I.tok _,⟨_,rfl⟩,h⟩
noncomputable def Gl (X:Cx) (x:Str):Prop:=X.env.kindOf x=some .globalImplicit
theorem qN {E:Value->Shared->Prop} {pins:List (Addr×Obj)} {s:Shared} {σ:St} {H:Hp} {x:Str} {u:Value} {pos:Pos} {Q:Value->Shared->Prop} (I:Inv X pins σ H s) (hg:Gl X x) (hm:X.mg x=some u) (h:Q u s)
  (hd:(x == ("__debug__":Str))=false:=by decide):wpAny (model X.prog X.w) X.A (eval (.Name x pos) X.env) Q E s :=
 Calls.Name_function_global I.ok.kind hg (Calls.loadGlobal_global (by rw [I.ok.glob]; exact I.mod.glob.keeps I.bk) hm h) hd
theorem nl {E:Value->Shared->Prop} {pins:List (Addr×Obj)} {s:Shared} {σ:St} {H:Hp} {x:Str} {u:Value} {pos:Pos} {Q:Value->Shared->Prop} (I:Inv X pins σ H s) (hg:Gl X x) (hm:X.mg x=none) (hv:bootBuiltins x=some u) (h:Q u s)
  (hn:x≠"__name__":=by decide) (hd:(x == ("__debug__":Str))=false:=by decide):wpAny (model X.prog X.w) X.A (eval (.Name x pos) X.env) Q E s:=by
 obtain ⟨mb,h1,h2⟩:=I.mod.blt
 exact Calls.Name_function_global I.ok.kind hg (Calls.loadGlobal_builtin (by rw [I.ok.glob]; exact I.mod.glob.keeps I.bk) hm (by rw [I.ok.blt]; exact h1.keeps I.bk) ((h2 x hn).trans hv) h) hd
theorem eW {x:Str} {v:V} {u:Value} {pos:Pos} (hg:Gl X x) (hm:X.mg x=some u) (r:RelV v u) (hd:(x == ("__debug__":Str))=false:=by decide):PE X (.Name x pos) (tC v) :=
 λ_ _ _ H _ I h=>qN I hg hm ⟨v,H,I,r,h⟩ hd
theorem gE {x:Str} {v:V} {u:Value} {pos:Pos} (hg:Gl X x) (hm:X.mg x=none) (hv:bootBuiltins x=some u) (r:RelV v u) (hn:x≠"__name__":=by decide) (hd:(x == ("__debug__":Str))=false:=by decide):PE X (.Name x pos) (tC v) :=
 λ_ _ _ H _ I h=>nl I hg hm hv ⟨v,H,I,r,h⟩ hn hd
variable {a b:Expr} {ta tb:TE} {pos:Pos}
noncomputable def PC (X:Cx) (op:CmpOp) (a b:Expr) (t:TE):Prop :=
 ∀ (pins:List (Addr×Obj)) (s:Shared) (σ:St) (H:Hp) (Q:VK),Inv X pins σ H s->t σ H Q ->
  wpAny (model X.prog X.w) X.A (eval a X.env) (λv s₁=>wpAny (model X.prog X.w) X.A (eval b X.env) (λu s₂=>wpAny (model X.prog X.w) X.A (compareOp op v u) (EP X pins σ Q) X.xe s₂) X.xe s₁) X.xe s
noncomputable def ZfA (ta:TE):TE:=λσ H Q=>ta σ H λx H1=>Q (.bl (decide (x=.non))) H1
theorem RelV.none_iff {x:V} {v:Value} (r:RelV x v):(v == Value.none)=decide (x=.non):=by
 cases x with
 | non=>cases r; rfl
 | bl _=>cases r; rfl
 | int _=>obtain ⟨t,rfl⟩:=r; rfl
 | str _=>obtain ⟨t,rfl⟩:=r; rfl
 | byt _=>obtain ⟨t,rfl⟩:=r; rfl
 | flt _=>obtain ⟨t,rfl⟩:=r; rfl
 | ref _=>cases r; rfl
 | ty _=>cases r; rfl
theorem ZhD {j pos'} (ha:PE X a ta):PC X .Is a (.Constant .none j pos') (ZfA ta):=by
 intro pins s σ H Q I h
 refine thn (ha pins s σ H _ I h) λv s1 hz0=>?_
 obtain ⟨x,H1,I1,r1,q1⟩:=hz0
 exact Constant_none (is_none_gen ⟨.bl _,H1,I1,by rw [r1.none_iff]; rfl,q1⟩)
noncomputable def tB (t:TE):TT:=λσ H Q=>t σ H λx H1=>∃ c,x=.bl c/\Q c H1
theorem Zg5 {op:CmpOp} {t:TE} (h:PC X op a b t) (h1:behindInMarks op b=false:=by first | exact nobehind _ (by decide) (by decide) | rfl):PT X (.Compare a [op] [b] pos) (tB t):=by
 intro pins s σ H Q I hw
 refine wpAny_isTrue_Compare1 (thn (h pins s σ H _ I hw) λv s1 h1=>thn h1 λu s2 h2=>thn h2 λc s3 hz0=>?_) h1
 obtain ⟨x,H1,I1,r1,q1⟩:=hz0
 obtain ⟨d,rfl,q⟩:=q1
 cases r1
 exact wpAny_truthy_bool ⟨H1,I1,q⟩
theorem p7 {e:Expr} {t:TE} (h:PE X e t) (he:∀ whole,isTrue e X.env whole=(do let v <- whole; standAt e.pos; holding [v] (truthy v)):=by intro _; rfl):PT X e (tB t):=by
 intro pins s σ H Q I hw
 refine isTrue_plain (thn (h pins s σ H _ I hw) λv s1 hz0=>?_) (he _)
 obtain ⟨x,H1,I1,r1,q1⟩:=hz0
 obtain ⟨d,rfl,q⟩:=q1
 cases r1
 exact wpAny_truthy_bool ⟨H1,I1,q⟩
variable {tA tB':TT} {rest:List Expr}
noncomputable def ZfI (t u:TT):TT:=λσ H Q=>t σ H λc H1=>if c=true then u σ H1 Q else Q false H1
noncomputable def tOr (t u:TT):TT:=λσ H Q=>t σ H λc H1=>if c=true then Q true H1 else u σ H1 Q
noncomputable def Zfu (t:TT):TT:=λσ H Q=>t σ H λc H1=>Q (!c) H1
theorem Zg2 (ha:PT X a tA):PW X (.BoolOp .And [a] pos) tA:=by
 intro wh pins s σ H Q I h
 refine isTrue_and (thn (ha pins s σ H Q I h) λc s1 e=>?_)
 cases c with
 | true=>exact isTrue_and_nil e
 | false=>exact e
theorem p5 (ha:PT X a tA):PW X (.BoolOp .Or [a] pos) tA:=by
 intro wh pins s σ H Q I h
 refine isTrue_or (thn (ha pins s σ H Q I h) λc s1 e=>?_)
 cases c with
 | false=>exact isTrue_or_nil e
 | true=>exact e
theorem Zg3 (ha:PT X a tA) (hb:PW X (.BoolOp .And (b::rest) pos) tB'):PW X (.BoolOp .And (a::b::rest) pos) (ZfI tA tB'):=by
 intro wh pins s σ H Q I h
 refine isTrue_and (thn (ha pins s σ H _ I h) λc s1 hz0=>?_)
 obtain ⟨H1,I1,q1⟩:=hz0
 cases c with
 | true=>exact hb wh pins s1 σ H1 Q I1 q1
 | false=>exact ⟨H1,I1,q1⟩
theorem p6 (ha:PT X a tA) (hb:PW X (.BoolOp .Or (b::rest) pos) tB'):PW X (.BoolOp .Or (a::b::rest) pos) (tOr tA tB'):=by
 intro wh pins s σ H Q I h
 refine isTrue_or (thn (ha pins s σ H _ I h) λc s1 hz0=>?_)
 obtain ⟨H1,I1,q1⟩:=hz0
 cases c with
 | true=>exact ⟨H1,I1,q1⟩
 | false=>exact hb wh pins s1 σ H1 Q I1 q1
theorem p9 (ha:PT X a tA):PT X (.UnaryOp .Not a pos) (Zfu tA):=by
 intro pins s σ H Q I h
 exact isTrue_not (ha pins s σ H (λc H1=>Q (!c) H1) I h)
noncomputable def ZfH (ta tb:TE):TE:=λσ H Q=>ta σ H λx H1=>∃ c,x=.bl c/\if c=true then tb σ H1 Q else Q (.bl false) H1
noncomputable def Zfr (ta tb:TE):TE:=λσ H Q=>ta σ H λx H1=>∃ c,x=.bl c/\if c=true then Q (.bl true) H1 else tb σ H1 Q
noncomputable def Zft (ta:TE):TE:=λσ H Q=>ta σ H λx H1=>∃ c,x=.bl c/\Q (.bl (!c)) H1
theorem Zhs {op} {t:TE} (h:PE X a t):PE X (.BoolOp op [a] pos) t:=λpins s σ H Q I hw=>BoolOp_one (h pins s σ H Q I hw)
theorem ZhC (ha:PE X a ta) (hb:PE X (.BoolOp .And (b::rest) pos) tb):PE X (.BoolOp .And (a::b::rest) pos) (ZfH ta tb):=by
 intro pins s σ H Q I h
 refine BoolOp_and (thn (ha pins s σ H _ I h) λv s1 hz0=>?_)
 obtain ⟨x,H1,I1,r1,q1⟩:=hz0
 obtain ⟨c,rfl,q1⟩:=q1
 cases r1
 refine wpAny_truthy_bool ?_
 cases c with
 | true=>exact hb pins s1 σ H1 Q I1 q1
 | false=>exact ⟨.bl false,H1,I1,rfl,q1⟩
theorem Zhr (ha:PE X a ta) (hb:PE X (.BoolOp .Or (b::rest) pos) tb):PE X (.BoolOp .Or (a::b::rest) pos) (Zfr ta tb):=by
 intro pins s σ H Q I h
 refine BoolOp_or (thn (ha pins s σ H _ I h) λv s1 hz0=>?_)
 obtain ⟨x,H1,I1,r1,q1⟩:=hz0
 obtain ⟨c,rfl,q1⟩:=q1
 cases r1
 refine wpAny_truthy_bool ?_
 cases c with
 | false=>exact hb pins s1 σ H1 Q I1 q1
 | true=>exact ⟨.bl true,H1,I1,rfl,q1⟩
theorem Zht (ha:PE X a ta):PE X (.UnaryOp .Not a pos) (Zft ta):=by
 intro pins s σ H Q I h
 refine UnaryOp_ (thn (ha pins s σ H _ I h) λv s1 hz0=>?_)
 obtain ⟨x,H1,I1,r1,q1⟩:=hz0
 obtain ⟨c,rfl,q1⟩:=q1
 cases r1
 exact not_of (wpAny_truthy_bool ⟨.bl (!c),H1,I1,rfl,q1⟩)
noncomputable def tIf (t:TT) (ta tb:TE):TE:=λσ H Q=>t σ H λc H1=>if c=true then ta σ H1 Q else tb σ H1 Q
theorem Zhu {c:Expr} (hc:PT X c tA) (ha:PE X a ta) (hb:PE X b tb):PE X (.IfExp c a b pos) (tIf tA ta tb):=by
 intro pins s σ H Q I h
 refine wpAny_IfExp (thn (hc pins s σ H _ I h) λd s1 hz0=>?_)
 obtain ⟨H1,I1,q1⟩:=hz0
 cases d with
 | true=>exact ha pins s1 σ H1 Q I1 q1
 | false=>exact hb pins s1 σ H1 Q I1 q1
end
noncomputable def SqL (K:PySem.W.Frag) (H:Hp) (a:Addr) (xs:List V):Prop :=
 Rd H a (.lst xs) \/
  ∃ (o:Obj) (its:Array Value) (n:Nat),K.lookup a=some o/\o.cls=.type "list"/\o.dict=none/\o.data=.seq its n/\its.size<=sizeLine/\Vals xs its.toList
noncomputable def SqT (K:PySem.W.Frag) (H:Hp) (a:Addr) (xs:List V):Prop :=
 Rd H a (.tup xs) \/
  ∃ (o:Obj) (its:Array Value) (n:Nat),K.lookup a=some o/\o.cls=.type "tuple"/\o.data=.seq its n/\its.size<=sizeLine/\Vals xs its.toList
noncomputable def ZpG:Value->Option V
 | .none=>some .non
 | .bool b=>some (.bl b)
 | .int i _=>some (.int i)
 | .str x _=>some (.str x)
 | .bytes b _=>some (.byt b)
 | .float b _=>some (.flt b)
 | .ref a=>some (.ref a)
 | .type n=>some (.ty n)
 | _=>none
theorem RelV.abs {x:V} {u:Value} (r:RelV x u):ZpG u=some x:=by
 cases x with
 | non=>cases r; rfl
 | bl _=>cases r; rfl
 | int _=>obtain ⟨t,rfl⟩:=r; rfl
 | str _=>obtain ⟨t,rfl⟩:=r; rfl
 | byt _=>obtain ⟨t,rfl⟩:=r; rfl
 | flt _=>obtain ⟨t,rfl⟩:=r; rfl
 | ref _=>cases r; rfl
 | ty _=>cases r; rfl
theorem RelV.inj {x y:V} {u:Value} (r:RelV x u) (q:RelV y u):x=y:=Option.some.inj (r.abs.symm.trans q.abs)
theorem Vals.inj {xs ys:List V} {us:List Value} (h:Vals xs us) (h':Vals ys us):xs=ys:=by
 induction h generalizing ys with
 | nil=>cases h'; rfl
 | cons r t ih=>cases h' with | cons r' t'=>rw [r.inj r',ih t']
section
variable {X:Cx} {pins:List (Addr×Obj)} {σ:St} {H:Hp} {s:Shared} {a:Addr} {xs ys:List V}
theorem SqL.of {K:PySem.W.Frag} (h:H a=some (.lst xs)):SqL K H a xs:=.inl (.inl h)
theorem SqT.of {K:PySem.W.Frag} (h:H a=some (.tup xs)):SqT K H a xs:=.inl (.inl h)
theorem Inv.list (I:Inv X pins σ H s) (h:SqL X.K H a xs):∃ its:List Value,Vals xs its/\PlainL s.heap a its.toArray/\xs.length<=sizeLine:=by
 rcases h with h | ⟨o,its,n,hk,hc,hd,hs,hz,r⟩
 ·obtain ⟨z,its,n,r,e⟩:=h.ok I.hok
  exact ⟨its,r,⟨_,n,e,rfl,rfl,rfl⟩,z⟩
 ·refine ⟨its.toList,r,⟨o,n,I.kIn a o hk,hc,hd,by simpa using hs⟩,?_⟩
  have e:=r.length
  simp only [Array.length_toList] at e
  omega
theorem Inv.tuple (I:Inv X pins σ H s) (h:SqT X.K H a xs):∃ its:List Value,Vals xs its/\IsTup s.heap a its.toArray/\xs.length<=sizeLine:=by
 rcases h with h | ⟨o,its,n,hk,hc,hs,hz,r⟩
 ·obtain ⟨z,its,r,p⟩:=h.ok I.hok
  exact ⟨its,r,p,z⟩
 ·refine ⟨its.toList,r,⟨o,I.kIn a o hk,hc,n,by simpa using hs⟩,?_⟩
  have e:=r.length
  simp only [Array.length_toList] at e
  omega
theorem Inv.list_inj (I:Inv X pins σ H s) (h:SqL X.K H a xs) (h':SqL X.K H a ys):xs=ys:=by
 obtain ⟨its,r,⟨o,n,e,_,_,d⟩,_⟩:=I.list h
 obtain ⟨its',r',⟨o',n',e',_,_,d'⟩,_⟩:=I.list h'
 rw [e] at e'; cases e'
 rw [d] at d'
 injection d' with d1 _
 have:its=its':=by simpa using congrArg Array.toList d1
 subst this
 exact r.inj r'
theorem Inv.tuple_inj (I:Inv X pins σ H s) (h:SqT X.K H a xs) (h':SqT X.K H a ys):xs=ys:=by
 obtain ⟨its,r,⟨o,e,_,n,d⟩,_⟩:=I.tuple h
 obtain ⟨its',r',⟨o',e',_,n',d'⟩,_⟩:=I.tuple h'
 rw [e] at e'; cases e'
 rw [d] at d'
 injection d' with d1 _
 have:its=its':=by simpa using congrArg Array.toList d1
 subst this
 exact r.inj r'
end
noncomputable abbrev Cx.wish (X:Cx) (E:Value->Shared->Prop):Cx:={ X with xe:=E }
noncomputable abbrev Cx.nox (X:Cx):Cx:=X.wish λ_ _=>False
theorem Cx.Ok.wish {X:Cx} (ok:X.Ok) (E:Value->Shared->Prop):(X.wish E).Ok :=
 ⟨ok.mod,ok.kind,ok.glob,ok.blt,ok.above,ok.inj,ok.has,ok.cab,ok.hd,ok.frames,ok.stk,ok.exf,ok.bs,ok.bsz,ok.noex,ok.exfs,ok.funs,ok.frf⟩
theorem Cx.Ok.unwish {X:Cx} {E:Value->Shared->Prop} (ok:(X.wish E).Ok):X.Ok :=
 ⟨ok.mod,ok.kind,ok.glob,ok.blt,ok.above,ok.inj,ok.has,ok.cab,ok.hd,ok.frames,ok.stk,ok.exf,ok.bs,ok.bsz,ok.noex,ok.exfs,ok.funs,ok.frf⟩
section
variable {X:Cx} {pins:List (Addr×Obj)} {σ:St} {H:Hp} {s:Shared} {E:Value->Shared->Prop}
theorem Inv.wish (I:Inv X pins σ H s) (E:Value->Shared->Prop):Inv (X.wish E) pins σ H s:=⟨I.ok.wish E,I.os,I.bare,I.base,I.loc,I.cell,I.free,I.freeC,I.pin,I.hok,I.len⟩
theorem Inv.unwish (I:Inv (X.wish E) pins σ H s):Inv X pins σ H s:=⟨I.ok.unwish,I.os,I.bare,I.base,I.loc,I.cell,I.free,I.freeC,I.pin,I.hok,I.len⟩
theorem SP.unwish {D:Ends} {f:Flow} {s':Shared} (h:SP (X.wish E) pins D f s'):SP X pins D f s':=by
 cases f with
 | next=>obtain ⟨σ',H',I,q⟩:=h; exact ⟨σ',H',I.unwish,q⟩
 | brk=>obtain ⟨σ',H',I,q⟩:=h; exact ⟨σ',H',I.unwish,q⟩
 | cont=>obtain ⟨σ',H',I,q⟩:=h; exact ⟨σ',H',I.unwish,q⟩
 | ret u=>obtain ⟨v,σ',H',I,r,q⟩:=h; exact ⟨v,σ',H',I.unwish,r,q⟩
theorem PSs.nox {st:List Stmt} {t:TS} (h:PSs X.nox st t):PSs X st t:=λpins s σ H D I hw =>
 wpAny_mono (h pins s σ H D (I.wish _) hw) (λ_ _ q=>q.unwish) λ_ _ z=>False.elim z
end
section
variable {X:Cx} {st:Stmt} {rest:List Stmt} {t u:TS} {e:Expr} {te:TE} {pos:Pos}
noncomputable def Zfw:TS:=λD σ H=>D.nx σ H
noncomputable def ph (t u:TS):TS:=λD σ H=>t { D with nx:=u D } σ H
theorem ij:PSs X [] Zfw:=λ_ _ σ H _ I h=>wpAny_execs_nil ⟨σ,H,I,h⟩
theorem cx (h1:PS X st t) (h2:PSs X rest u):PSs X (st::rest) (ph t u):=by
 intro pins s σ H D I h
 refine wpAny_execs_cons (thn (h1 pins s σ H { D with nx:=u D } I h) λf s1 q=>?_)
 cases f with
 | next =>
  obtain ⟨σ',H',I',q⟩:=q
  exact h2 pins s1 σ' H' D I' q
 | ret v=>exact q
 | brk=>exact q
 | cont=>exact q
theorem ek (h1:PS X st t):PSs X [st] t:=by
 intro pins s σ H D I h
 refine wpAny_execs_cons (thn (h1 pins s σ H D I h) λf s1 q=>?_)
 cases f with
 | next=>exact wpAny_execs_nil q
 | ret v=>exact q
 | brk=>exact q
 | cont=>exact q
theorem Inv.quiet {pins:List (Addr×Obj)} {σ:St} {H:Hp} {s:Shared} (I:Inv X pins σ H s):interactive X.env=false:=by simp [interactive,I.ok.kind]
noncomputable def pw (te:TE):TS:=λD σ H=>te σ H λ_ H1=>D.nx σ H1
theorem gD (he:PE X e te) (hs:swapsWith e none pos.line X.env=pure false:=by rfl):PS X (.Expr e pos) (pw te):=by
 intro pins s σ H D I h
 exact wpAny_Expr_any (thn (he pins s σ H _ I h) λv s1 ⟨x,H1,I1,r1,q1⟩=>⟨σ,H1,I1,q1⟩) I.quiet hs
noncomputable def Zfp (te:TE):TS:=λD σ H=>te σ H D.rt
theorem eV (he:PE X e te):PS X (.Return (some e) pos) (Zfp te):=by
 intro pins s σ H D I h
 exact wpAny_Return_some (thn (he pins s σ H _ I h) λv s1 ⟨x,H1,I1,r1,q1⟩=>⟨x,σ,H1,I1,r1,q1⟩)
noncomputable def ZfB (c:TT) (t u:TS):TS:=λD σ H=>c σ H λb H1=>if b=true then t D σ H1 else u D σ H1
theorem gC {c:Expr} {a b:List Stmt} {tc:TT} (hc:PT X c tc) (ha:PSs X a t) (hb:PSs X b u):PS X (.If c a b pos) (ZfB tc t u):=by
 intro pins s σ H D I h
 refine wpAny_If (thn (hc pins s σ H _ I h) λd s1 hz0=>?_)
 obtain ⟨H1,I1,q1⟩:=hz0
 cases d with
 | true=>exact ha pins s1 σ H1 D I1 q1
 | false=>exact hb pins s1 σ H1 D I1 q1
end
noncomputable abbrev TG:=V->St->Hp->(St->Hp->Prop)->Prop
noncomputable abbrev gu:=List V->St->Hp->(St->Hp->Prop)->Prop
noncomputable def PG (X:Cx) (target:Expr) (t:TG):Prop :=
 ∀ (pins:List (Addr×Obj)) (s:Shared) (σ:St) (H:Hp) (v:V) (u:Value) (Q:St->Hp->Prop),Inv X pins σ H s->RelV v u->t v σ H Q ->
  wpAny (model X.prog X.w) X.A (assign target X.env u) (λ_ s'=>∃ σ' H',Inv X pins σ' H' s'/\Q σ' H') X.xe s
noncomputable def PGs (X:Cx) (ts:List Expr) (t:gu):Prop :=
 ∀ (pins:List (Addr×Obj)) (s:Shared) (σ:St) (H:Hp) (vs:List V) (us:List Value) (Q:St->Hp->Prop),Inv X pins σ H s->Vals vs us->t vs σ H Q ->
  wpAny (model X.prog X.w) X.A (assignInOrder ((assignEach ts X.env).map (·.2)) us) (λ_ s'=>∃ σ' H',Inv X pins σ' H' s'/\Q σ' H') X.xe s
noncomputable abbrev sK:=V->V->V->Hp->(Hp->Prop)->Prop
noncomputable def ZeE (X:Cx) (t:sK):Prop :=
 ∀ (pins:List (Addr×Obj)) (s:Shared) (σ:St) (H:Hp) (o i v:V) (ov iv u:Value) (Q:Hp->Prop),Inv X pins σ H s->RelV o ov->RelV i iv->RelV v u->t o i v H Q ->
  wpAny (model X.prog X.w) X.A (setItem ov iv u) (λ_ s'=>∃ H',Inv X pins σ H' s'/\Q H') X.xe s
section
variable {X:Cx} {pos:Pos}
noncomputable def fK (i:Nat):TG:=λv σ H Q=>Q (σ.set i (some v)) H
theorem bo {i:Nat} {x:Str} (hN:X.N.Nodup) (hi:X.N[i]?=some x) (hx:jY X.env.scope x) (hf:X.fn x=true\/X.env.scope.names.lookup x=some .local:=by first | exact .inl rfl | exact .inr rfl | assumption):PG X (.Name x pos) (fK i):=by
 intro pins s σ H v u Q I r h
 exact wpAny_assign_Name (lG I hN hi hx r (λs' I'=>⟨_,H,I',h⟩) hf)
noncomputable def ZjN:gu:=λvs σ H Q=>vs=[]/\Q σ H
noncomputable def ZjO (t:TG) (u:gu):gu:=λvs σ H Q=>∃ v r,vs=v::r/\t v σ H λσ' H'=>u r σ' H' Q
theorem Zhi:PGs X [] ZjN:=by
 intro pins s σ H vs us Q I r h
 obtain ⟨e,h⟩:=h
 subst e
 cases r
 exact assignInOrder_nil ⟨σ,H,I,h⟩
theorem Zhj {e:Expr} {es:List Expr} {t:TG} {u:gu} (h1:PG X e t) (h2:PGs X es u)
  (hs:(assignEach (e::es) X.env).map (·.2)=assign e X.env::(assignEach es X.env).map (·.2):=by rfl):PGs X (e::es) (ZjO t u):=by
 intro pins s σ H vs us Q I r h
 obtain ⟨v,vr,e1,h⟩:=h
 subst e1
 cases r with
 | cons r rr =>
  rw [hs]
  refine assignInOrder_cons (thn (h1 pins s σ H _ _ _ I r h) λ_ s1 hz0=>?_)
  obtain ⟨σ1,H1,I1,q1⟩:=hz0
  exact h2 pins s1 σ1 H1 _ _ Q I1 rr q1
noncomputable def ZjM (K:PySem.W.Frag) (n:Nat) (t:gu):TG:=λv σ H Q=>∃ a xs,v=.ref a/\SqT K H a xs/\xs.length=n/\t xs σ H Q
theorem Zhk {es:List Expr} {k:Nat} {t:gu} {n:Nat} (hc:X.calm=true) (h:PGs X es t)
  (hn:(assignEach es X.env).length=n:=by rfl) (hst:(assignEach es X.env).findIdx? (·.1)=none:=by rfl):PG X (.Tuple es k pos) (ZjM X.K n t):=by
 intro pins s σ H v u Q I r hw
 obtain ⟨a,xs,e1,hq,hl,hw⟩:=hw
 subst e1
 cases r
 obtain ⟨its,rv,ht,hz⟩:=I.tuple hq
 refine assign_Tuple_tuple (I.ok.hd hc) ht (by simp [hn,<- hl,rv.length]) hst λh' hx=>?_
 have I1:Inv X pins σ H { s with heap:=h' }:=I.kept (t':=s.toks) λb o e=>hx b o (Nat.ne_of_lt (Heap.lt_size e)) e
 exact h pins _ σ H xs _ Q I1 (by simpa using rv) hw
noncomputable def ZcS (to ti:TE) (t:sK):TG:=λv σ H Q=>to σ H λo H1=>ti σ H1 λi H2=>t o i v H2 λH3=>Q σ H3
theorem Zhl {o i:Expr} {to ti:TE} {t:sK} (ho:PE X o to) (hi:PE X i ti) (hs:ZeE X t)
  (ha:∀ v,assign (.Subscript o i pos) X.env v=(do
   let ov <- holding [v] (eval o X.env)
   let iv <- holding [v,ov] (eval i X.env)
   standAt pos
   holding [v,ov,iv] (setItem ov iv v)
   release [v,ov,iv] []):=by intro _; rfl):PG X (.Subscript o i pos) (ZcS to ti t):=by
 intro pins s σ H v u Q I r h
 rw [ha]
 refine wpAny_bind (wpAny_holding (thn (ho pins s σ H _ I h) λov s1 hz0=>?_))
 obtain ⟨x,H1,I1,r1,q1⟩:=hz0
 refine wpAny_bind (wpAny_holding (thn (hi pins s1 σ H1 _ I1 q1) λiv s2 hz0=>?_))
 obtain ⟨y,H2,I2,r2,q2⟩:=hz0
 refine wpAny_bind (wpAny_standAt (wpAny_bind (wpAny_holding (thn (hs pins s2 σ H2 x y v ov iv u _ I2 r1 r2 r q2) λ_ s3 hz0=>?_))))
 obtain ⟨H3,I3,q3⟩:=hz0
 exact wpAny_release ⟨σ,H3,I3,q3⟩
noncomputable def d7 (te:TE) (g:TG):TS:=λD σ H=>te σ H λx H1=>g x σ H1 D.nx
theorem qb {tg e:Expr} {te:TE} {g:TG} (he:PE X e te) (hg:PG X tg g) (hs:swapsWithSole [tg] e pos.line X.env=pure false:=by rfl) (hw:swappedStores [tg] e X.env=pure none:=by rfl)
  (h1:(assignEach [tg] X.env).map (·.2)=[assign tg X.env]:=by rfl):PS X (.Assign [tg] e pos) (d7 te g):=by
 intro pins s σ H D I h
 refine wpAny_Assign_stores (thn (he pins s σ H _ I h) λv s1 hz0=>?_) hs hw
 obtain ⟨x,H1,I1,r1,q1⟩:=hz0
 rw [h1]
 exact thn (hg pins s1 σ H1 x v _ I1 r1 q1) λ_ s2 q=>q
theorem aW {i:Nat} {x:Str} {e:Expr} {te:TE} {pos':Pos} (hN:X.N.Nodup) (hi:X.N[i]?=some x) (hx:jY X.env.scope x) (he:PE X e te) (hs:swapsWith e (some (.Name x pos')) pos.line X.env=pure false:=by rfl) (hf:X.fn x=true\/X.env.scope.names.lookup x=some .local:=by first | exact .inl rfl | exact .inr rfl | assumption) :
  PS X (.Assign [.Name x pos'] e pos) (d7 te (fK i)):=by
 intro pins s σ H D I h
 refine wpAny_Assign_Name (thn (he pins s σ H _ I h) λv s1 hz0=>?_) hs
 obtain ⟨y,H1,I1,r1,q1⟩:=hz0
 exact lG I1 hN hi hx r1 (λs2 I2=>⟨_,H1,I2,q1⟩) hf
end
section
variable {X:Cx} {pos:Pos}
noncomputable def Zfl (c:TT) (tb:TS):TS:=λD σ H=>∃ W:Nat->St->Hp->Prop,(∃ m,W m σ H)/\∀ m σ H,W m σ H ->
 c σ H λb H1=>if b=true then ∃ N:St->Hp->Prop,(∀ σ' H',N σ' H'->∃ m',m' < m/\W m' σ' H')/\tb { D with nx:=N,ct:=N,bk:=D.nx } σ H1 else D.nx σ H1
theorem Zg8 {c:Expr} {body:List Stmt} {tc:TT} {tb:TS} (hp:PassesOwn (model X.prog X.w) X.A X.env X.xe) (hc:PT X c tc) (hb:PSs X body tb):PS X (.While c body [] pos) (Zfl tc tb):=by
 intro pins s σ H D I h
 obtain ⟨W,⟨m0,w0⟩,turn⟩:=h
 refine wpAny_While (codeAny_whileLoop (λn s'=>∃ σ' H',Inv X pins σ' H' s'/\W n σ' H') ?_ m0 ⟨σ,H,I,w0⟩)
 rintro n s1 ⟨σ1,H1,I1,w1⟩
 refine wpAny_passesOwn hp (thn (hc pins s1 σ1 H1 _ I1 (turn n σ1 H1 w1)) λb s2 hz0=>?_)
 obtain ⟨H2,I2,q2⟩:=hz0
 cases b with
 | true =>
  obtain ⟨N,hN,q2⟩:=q2
  rw [if_pos rfl]
  refine wpAny_passesOwn hp (thn (hb pins s2 σ1 H2 _ I2 q2) λf s3 q3=>?_)
  cases f with
  | next =>
   obtain ⟨σ3,H3,I3,n3⟩:=q3
   obtain ⟨m',hm,w3⟩:=hN σ3 H3 n3
   exact ⟨m',hm,σ3,H3,I3,w3⟩
  | cont =>
   obtain ⟨σ3,H3,I3,n3⟩:=q3
   obtain ⟨m',hm,w3⟩:=hN σ3 H3 n3
   exact ⟨m',hm,σ3,H3,I3,w3⟩
  | brk=>exact q3
  | ret v=>exact q3
 | false =>
  rw [if_neg Bool.false_ne_true]
  exact wpAny_execs_nil ⟨σ1,H2,I2,q2⟩
end
structure It where
 go:Nat->Hp->Prop
 yld:Nat->Hp->V->Hp->Prop
 stop:Nat->Hp->Prop
noncomputable def fR (X:Cx) (pins:List (Addr×Obj)) (H:Hp) (b:Addr):Prop :=
 H b=none/\b≠X.env.locals/\b ∉ X.fs/\(b∈X.ex\/X.s₀.heap.objs.size<=b)/\(∀ x c,X.env.cells.lookup x=some c->c≠b)/\∀ p∈X.pn++pins,p.1≠b
theorem Inv.fpOk {X:Cx} {pins:List (Addr×Obj)} {σ:St} {H H':Hp} {s:Shared} {b:Addr} (I:Inv X pins σ H s) (hb:s.heap.objs.size<=b) (hn:H' b=none):fR X pins H' b:=by
 refine ⟨hn,Nat.ne_of_gt (Nat.lt_of_lt_of_le I.lt hb),I.nofs hb,.inr (Nat.le_trans I.sz hb),λx c e z=>?_,λp hp z=>?_⟩
 ·obtain ⟨v,q⟩:=I.cell x c e
  exact absurd (Nat.lt_of_lt_of_le q.lt (by rw [z]; exact hb)) (Nat.lt_irrefl _)
 ·exact absurd (Nat.lt_of_lt_of_le (Heap.lt_size (I.pin p hp).1) (by rw [z]; exact hb)) (Nat.lt_irrefl _)
structure Turn (P:Program) (w:World) (K:PySem.W.Frag) (tg:Expr) (J:It) (fp:List Addr) (it:Addr) (tn:Nat->Heap->Prop):Prop where
 mem:it∈fp
 obj:∀ i h,tn i h->∀ b∈fp,∃ o,h.get? b=some o/\∀ v,o.data≠.cell v
 keep:∀ i h h',tn i h->(∀ b∈fp,∀ o,h.get? b=some o->h'.get? b=some o)->tn i h'
 item:∀ (X:Cx),X.prog=P->X.w=w->X.K=K->X.calm=true->∀ (i:Nat) (pins:List (Addr×Obj)) (s:Shared) (σ:St) (H:Hp) (E:Value->Shared->Prop),Inv X pins σ H s->(∀ b∈fp,fR X pins H b)->tn i s.heap->J.go i H ->
  wpAny (model P w) X.A (pyNext (.ref it)) (λr s1=>∃ u,r=some u /\
   wpAny (model P w) X.A (letOwnedTupleGo tg (.ref it) u) (λ_ s2=>∃ x H',Inv X pins σ H' s2/\RelV x u/\J.yld i H x H'/\tn (i+1) s2.heap/\∀ b∈fp,H' b=none) E s1) E s
 done:∀ (X:Cx),X.prog=P->X.w=w->X.K=K->X.calm=true->∀ (i:Nat) (pins:List (Addr×Obj)) (s:Shared) (σ:St) (H:Hp) (E:Value->Shared->Prop),Inv X pins σ H s->(∀ b∈fp,fR X pins H b)->tn i s.heap->J.stop i H ->
  wpAny (model P w) X.A (pyNext (.ref it)) (λr s1=>r=none/\Inv X pins σ H s1) E s
 self:∀ (A:Around) (i:Nat) (s:Shared) (Q:Value->Shared->Prop) (E:Value->Shared->Prop),tn i s.heap->Q (.ref it) s->wpAny (model P w) A (pyIter (.ref it)) Q E s
noncomputable abbrev TI:=St->Hp->(It->Hp->Prop)->Prop
noncomputable def jW (X:Cx) (pins:List (Addr×Obj)) (σ:St) (tg:Expr) (R:It->Hp->Prop) (itv:Value) (s2:Shared):Prop :=
 ∃ (it:Addr) (fp:List Addr) (tn:Nat->Heap->Prop) (J:It) (H':Hp),itv=.ref it/\Inv X pins σ H' s2/\Turn X.prog X.w X.K tg J fp it tn/\tn 0 s2.heap/\(∀ b∈fp,fR X pins H' b)/\R J H'
noncomputable def PI (X:Cx) (tg iter:Expr) (wi:TI):Prop :=
 ∀ (pins:List (Addr×Obj)) (s:Shared) (σ:St) (H:Hp) (R:It->Hp->Prop),Inv X pins σ H s->wi σ H R ->
  wpAny (model X.prog X.w) X.A (eval iter X.env) (λv s1=>wpAny (model X.prog X.w) X.A (pyIter v) (jW X pins σ tg R) X.xe s1) X.xe s
theorem nB {M:Model} {A:Around} {E:Value->Shared->Prop} {s:Shared} {tg:Expr} {it:Addr} {u:Value} {o:Obj} {n:String} {vs:Array Value} {Q:Unit->Shared->Prop} (ho:s.heap.get? it=some o) (hc:o.cls=.type n) (hd:o.data=.fields vs)
  (hn:["enumerate","zip","dict_itemiterator","dict_reverseitemiterator","odict_iterator","itertools.zip_longest","itertools.pairwise"].contains n=false) (hQ:Q () s):wpAny M A (letOwnedTupleGo tg (.ref it) u) Q E s:=by
 unfold letOwnedTupleGo
 cases tg <;> first
  | exact wpAny_pure hQ
  | (cases u <;> first
    | exact wpAny_pure hQ
    | (refine wpAny_bind (wpAny_load ho ?_)
       rw [hc,hd]
       show wpAny M A (if (["enumerate","zip","dict_itemiterator","dict_reverseitemiterator","odict_iterator","itertools.zip_longest","itertools.pairwise"].contains n && vs[0]? == some (rawInt _))=true then _ else _) Q E s
       rw [if_neg (by intro h; rw [hn,Bool.false_and] at h; cases h)]
       exact wpAny_pure hQ))
noncomputable def oQ (K:PySem.W.Frag) (a:Addr):It :=
 ⟨λi H=>∃ xs x,SqL K H a xs/\xs[i]?=some x,λi H x H'=>H'=H/\∀ xs,SqL K H a xs->xs[i]?=some x,λi H=>∃ xs,SqL K H a xs/\xs.length<=i⟩
noncomputable def oP (K:PySem.W.Frag) (a:Addr):It :=
 ⟨λi H=>∃ xs x,SqT K H a xs/\xs[i]?=some x,λi H x H'=>H'=H/\∀ xs,SqT K H a xs->xs[i]?=some x,λi H=>∃ xs,SqT K H a xs/\xs.length<=i⟩
noncomputable def lr (lo:Int) (n:Nat):It:=⟨λi _=>i < n,λi H x H'=>H'=H/\x=.int (lo+i),λi _=>n<=i⟩
theorem Zas {P:Program} {w:World} {K:PySem.W.Frag} {tg:Expr} (a it:Addr):Turn P w K tg (oQ K a) [it] it (λi h=>h.IsListIter it a i) where
 mem:=by simp
 obj:=λi h st b hb=>by
  have e:b=it:=by simpa using hb
  subst e
  obtain ⟨o,e,c,d⟩:=st
  exact ⟨o,e,λv z=>by rw [d] at z; cases z⟩
 keep:=λi h h' st k=>st.at λo e=>k it (by simp) o e
 item:=by
  intro X hP hw hK hc i pins s σ H E I hf st hg
  subst hP hw hK
  obtain ⟨xs,x,hq,hx⟩:=hg
  obtain ⟨its,rv,p,hz⟩:=I.list hq
  obtain ⟨u,hu,ru⟩:=rv.get hx
  obtain ⟨f0,f1,f2,f3,f4,f5⟩:=hf it (by simp)
  refine wpAny_pyNext_list_item st p.isList (x:=u) (by simpa using hu) λh' st' sb=>?_
  have I1:Inv X pins σ H { s with heap:=h' }:=I.turned (t':=s.toks) (λb o hb e=>(sb.2 b hb).trans e) f0 f1 f3 f4 f5
  obtain ⟨o,e,c,d⟩:=id st'
  exact ⟨u,rfl,nB (s:={ s with heap:=h' }) e c d (by decide) ⟨x,H,I1,ru,⟨rfl,λys hy=>by rw [I.list_inj hy hq]; exact hx⟩,st',λb hb=>(hf b hb).1⟩⟩
 done:=by
  intro X hP hw hK hc i pins s σ H E I hf st hg
  subst hP hw hK
  obtain ⟨xs,hq,hx⟩:=hg
  obtain ⟨its,rv,p,hz⟩:=I.list hq
  obtain ⟨f0,f1,f2,f3,f4,f5⟩:=hf it (by simp)
  have hl:=rv.length
  exact wpAny_pyNext_list_end (I.ok.hd hc) st p.isList (by simp; omega) λh' eb=>⟨rfl,I.turned (t':=s.toks) (λb o hb e=>eb b o hb e) f0 f1 f3 f4 f5⟩
 self:=λ_ _ _ _ _ st h=>wpAny_pyIter_listiter st h
theorem Zar {P:Program} {w:World} {K:PySem.W.Frag} {tg:Expr} (a it:Addr):Turn P w K tg (oP K a) [it] it (λi h=>h.IsTupleIter it a i) where
 mem:=by simp
 obj:=λi h st b hb=>by
  have e:b=it:=by simpa using hb
  subst e
  obtain ⟨o,e,c,d⟩:=st
  exact ⟨o,e,λv z=>by rw [d] at z; cases z⟩
 keep:=λi h h' st k=>st.at λo e=>k it (by simp) o e
 item:=by
  intro X hP hw hK hc i pins s σ H E I hf st hg
  subst hP hw hK
  obtain ⟨xs,x,hq,hx⟩:=hg
  obtain ⟨its,rv,p,hz⟩:=I.tuple hq
  obtain ⟨u,hu,ru⟩:=rv.get hx
  obtain ⟨f0,f1,f2,f3,f4,f5⟩:=hf it (by simp)
  refine wpAny_pyNext_tuple_item st (show s.heap.IsTuple a its.toArray from p) (x:=u) (by simpa using hu) λh' st' sb=>?_
  have I1:Inv X pins σ H { s with heap:=h' }:=I.turned (t':=s.toks) (λb o hb e=>(sb.2 b hb).trans e) f0 f1 f3 f4 f5
  obtain ⟨o,e,c,d⟩:=id st'
  exact ⟨u,rfl,nB (s:={ s with heap:=h' }) e c d (by decide) ⟨x,H,I1,ru,⟨rfl,λys hy=>by rw [I.tuple_inj hy hq]; exact hx⟩,st',λb hb=>(hf b hb).1⟩⟩
 done:=by
  intro X hP hw hK hc i pins s σ H E I hf st hg
  subst hP hw hK
  obtain ⟨xs,hq,hx⟩:=hg
  obtain ⟨its,rv,p,hz⟩:=I.tuple hq
  obtain ⟨f0,f1,f2,f3,f4,f5⟩:=hf it (by simp)
  have hl:=rv.length
  exact wpAny_pyNext_tuple_end (I.ok.hd hc) st (show s.heap.IsTuple a its.toArray from p) (by simp; omega) λh' eb=>⟨rfl,I.turned (t':=s.toks) (λb o hb e=>eb b o hb e) f0 f1 f3 f4 f5⟩
 self:=λ_ _ _ _ _ st h=>wpAny_pyIter_tupleiter st h
theorem Zfj {P:Program} {w:World} {K:PySem.W.Frag} {tg:Expr} (it:Addr) (lo:Int) (n:Nat):Turn P w K tg (lr lo n) [it] it (λi h=>IsRangeIter h it (lo+(i:Nat) * 1) ((n:Int) - (i:Nat)) 1) where
 mem:=by simp
 obj:=λi h st b hb=>by
  have e:b=it:=by simpa using hb
  subst e
  exact ⟨_,st,λv z=>by
   have z':Data.fields _=Data.cell v:=z
   cases z'⟩
 keep:=λi h h' st k=>k it (by simp) _ st
 item:=by
  intro X hP hw hK hc i pins s σ H E I hf st hg
  subst hP hw hK
  obtain ⟨f0,f1,f2,f3,f4,f5⟩:=hf it (by simp)
  have W:=Walks.range (prog:=X.prog) (w:=X.w) (I.ok.hd hc) it lo 1 n
  refine W.item i s _ _ hg st λv h' tk hv st' kk=>?_
  obtain ⟨t,rfl⟩:=hv
  have I1:Inv X pins σ H { s with heap:=h',toks:=tk }:=I.turned (λb o hb e=>kk b o (by simpa using hb) e) f0 f1 f3 f4 f5
  refine ⟨_,rfl,nB (s:={ s with heap:=h',toks:=tk }) (n:="range_iterator") st' rfl rfl (by decide) ⟨.int (lo+i),H,I1,⟨t,?_⟩,⟨rfl,rfl⟩,st',λb hb=>(hf b hb).1⟩⟩
  rw [Int.mul_one]
 done:=by
  intro X hP hw hK hc i pins s σ H E I hf st hg
  subst hP hw hK
  obtain ⟨f0,f1,f2,f3,f4,f5⟩:=hf it (by simp)
  exact wpAny_pyNext_range_end (I.ok.hd hc) st (by have:n<=i:=hg; omega) λh' eb=>⟨rfl,I.turned (t':=s.toks) (λb o hb e=>eb b o hb e) f0 f1 f3 f4 f5⟩
 self:=λ_ _ _ _ _ st h=>wpAny_pyIter_rangeiter st h
section
variable {X:Cx} {tg:Expr}
theorem ZgR {pins:List (Addr×Obj)} {σ:St} {H:Hp} {s:Shared} {R:It->Hp->Prop} {E:Value->Shared->Prop} {lo hi:Int} {t u v:Tok} {tk:Nat} (I:Inv X pins σ H s) (h1:-(2 ^ 62)<=lo) (h2:lo < 2 ^ 62) (h3:-(2 ^ 62)<=hi) (h4:hi < 2 ^ 62)
  (q:R (lr lo (hi - lo).toNat) H):wpAny (model X.prog X.w) X.A (pyIter (.ref s.heap.objs.size)) (jW X pins σ tg R) E { s with heap:=s.heap.push { cls:=.type "range",data:=.fields #[.int lo t,.int hi u,.int 1 v] },toks:=tk }:=by
 refine wpAny_pyIter_range (IsRange.new ..) (small_one h1 h2 h3 h4) ?_
 have I1:Inv X pins σ H { s with heap:=s.heap.push { cls:=.type "range",data:=.fields #[.int lo t,.int hi u,.int 1 v] },toks:=tk }:=I.kept λb o e=>Heap.get?_push_of_some _ e
 refine ⟨(s.heap.push { cls:=.type "range",data:=.fields #[.int lo t,.int hi u,.int 1 v] }).objs.size,[(s.heap.push { cls:=.type "range",data:=.fields #[.int lo t,.int hi u,.int 1 v] }).objs.size],_,_,H,rfl,
  I1.kept (t':=tk) λb o e=>Heap.get?_push_of_some _ e,Zfj _ lo (hi - lo).toNat,?_,λb hb=>?_,q⟩
 ·have e1:lo+((0:Nat):Int) * 1=lo:=by simp
  have e2:(((hi - lo).toNat:Nat):Int) - ((0:Nat):Int)=Builtin.Range.rangeSize lo hi 1:=by rw [rangeSize_one]; split <;> omega
  show IsRangeIter _ _ (lo+((0:Nat):Int) * 1) ((((hi - lo).toNat:Nat):Int) - ((0:Nat):Int)) 1
  rw [e1,e2]
  exact Heap.get?_push_size _ rfl
 ·have e:b=(s.heap.push { cls:=.type "range",data:=.fields #[.int lo t,.int hi u,.int 1 v] }).objs.size:=by simpa using hb
  subst e
  exact I1.fpOk (Nat.le_refl _) (I1.hok.fresh (Nat.le_refl _))
noncomputable def ZcN (ta:TA):TI:=λσ H R=>ta σ H λvs H1=>∃ j:Int,vs=[.int j]/\-(2 ^ 62)<=j/\j < 2 ^ 62/\R (lr 0 j.toNat) H1
theorem jj {a:Expr} {ta:TA} {p pos:Pos} (hg:Gl X "range") (hm:X.mg "range"=none) (ha:PA X [a] ta) (hs:starEach [a] X.env=[(false,eval a X.env)]:=by rfl):PI X tg (.Call (.Name "range" p) [a] [] pos) (ZcN ta):=by
 intro pins s σ H R I h
 refine Call_ (nl I hg hm boot_range (PyProof.Rows.callWith_type1 (thn (ha pos pins s σ H _ I h) λus s1 hz0=>?_) hs rfl))
 obtain ⟨vs,H1,I1,r1,q1⟩:=hz0
 obtain ⟨j,e,q1,q2,q⟩:=q1
 subst e
 cases r1 with
 | cons r rr =>
  cases rr
  obtain ⟨t,rfl⟩:=r
  exact call_range_1 (ZgR I1 (by omega) (by omega) q1 q2 (by simpa using q))
noncomputable def ZfD (wi:TI) (g:TG) (tb:TS):TS:=λD σ H=>wi σ H λJ H1=>∃ W:Nat->Nat->St->Hp->Prop,(∃ m,W 0 m σ H1)/\∀ i m σ H,W i m σ H ->
 (J.stop i H/\D.nx σ H)\/(J.go i H/\∃ N:St->Hp->Prop,(∀ σ' H',N σ' H'->∃ m',m' < m/\W (i+1) m' σ' H')/\∀ x H',J.yld i H x H'->g x σ H' λσ2 H2=>tb { D with nx:=N,ct:=N,bk:=D.nx } σ2 H2)
noncomputable def mE (fp:List Addr) (h:Heap):List (Addr×Obj):=fp.filterMap λb=>(h.get? b).map λo=>(b,o)
theorem fF {fp:List Addr} {h:Heap} {b:Addr} {o:Obj} (hb:b∈fp) (e:h.get? b=some o):(b,o)∈mE fp h:=List.mem_filterMap.mpr ⟨b,hb,by rw [e]; rfl⟩
theorem Zh7 {fp:List Addr} {h:Heap} {p:Addr×Obj} (hp:p∈mE fp h):p.1∈fp/\h.get? p.1=some p.2:=by
 obtain ⟨b,hb,e⟩:=List.mem_filterMap.mp hp
 cases q:h.get? b with
 | none=>rw [q] at e; cases e
 | some o =>
  rw [q] at e
  have e':(b,o)=p:=Option.some.inj e
  subst e'
  exact ⟨hb,q⟩
theorem Inv.pinned {pins:List (Addr×Obj)} {σ:St} {H:Hp} {s:Shared} {fp:List Addr} (I:Inv X pins σ H s) (hf:∀ b∈fp,fR X pins H b) (ho:∀ b∈fp,∃ o,s.heap.get? b=some o/\∀ v,o.data≠.cell v):Inv X (pins++mE fp s.heap) σ H s :=
 I.pins_of λp hp=>(List.mem_append.mp hp).elim (λz=>I.pin p (List.mem_append_right _ z)) λz=>by
  obtain ⟨hb,e⟩:=Zh7 z
  obtain ⟨f0,f1,f2,_⟩:=hf p.1 hb
  obtain ⟨o,e',d⟩:=ho p.1 hb
  rw [e] at e'; cases e'
  exact ⟨e,f0,f1,f2,d⟩
theorem Inv.unpinned {pins pl:List (Addr×Obj)} {σ:St} {H:Hp} {s:Shared} (I:Inv X (pins++pl) σ H s):Inv X pins σ H s:=I.pins_of λp hp=>I.pin p (List.mem_append_right _ (List.mem_append_left _ hp))
theorem Zha {iter:Expr} {body:List Stmt} {wi:TI} {g:TG} {tb:TS} {pos:Pos} (hp:PassesOwn (model X.prog X.w) X.A X.env X.xe) (hc:X.calm=true) (hi:PI X tg iter wi) (hg:PG X tg g) (hb:PSs X body tb)
  (hs:∀ x,foldedSetIterable iter X.env x=pure x:=by intro _; rfl):PS X (.For tg iter body [] pos) (ZfD wi g tb):=by
 intro pins s σ H D I h
 refine wpAny_For (thn (hi pins s σ H _ I h) λv s1 h1=>thn h1 λitv s2 h2=>?_) hs
 obtain ⟨it,fp,tn,J,H2,e,I2,T,st2,f2,W,⟨m0,w0⟩,turn⟩:=h2
 subst e
 -- what stays true of the iterator's objects through the loop
 have stat:∀ {H':Hp},(∀ b∈fp,H' b=none)->∀ b∈fp,fR X pins H' b:=λhn b hb=>⟨hn b hb,(f2 b hb).2⟩
 refine codeAny_forLoop_any (λn s'=>∃ i σ' H',Inv X pins σ' H' s'/\tn i s'.heap/\(∀ b∈fp,H' b=none)/\W i n σ' H') ?_ m0 ⟨0,σ,H2,I2,st2,λb hb=>(f2 b hb).1,w0⟩
 rintro n s3 ⟨i,σ3,H3,I3,st3,fr3,w3⟩
 rcases turn i n σ3 H3 w3 with ⟨stop,qn⟩ | ⟨go,N,hN,step⟩
 ·refine wpAny_passesOwn hp (thn (T.done X rfl rfl rfl hc i pins s3 σ3 H3 X.xe I3 (stat fr3) st3 stop) λr s4 hz0=>?_)
  obtain ⟨hr,I4⟩:=hz0
  subst hr
  exact wpAny_execs_nil ⟨σ3,H3,I4,qn⟩
 ·refine wpAny_passesOwn hp (thn (T.item X rfl rfl rfl hc i pins s3 σ3 H3 X.xe I3 (stat fr3) st3 go) λr s4 hz0=>?_)
  obtain ⟨u,hr,h4⟩:=hz0
  subst hr
  refine wpAny_passesOwn hp (thn h4 λ_ s5 hz0=>?_)
  obtain ⟨x,H5,I5,r5,y5,st5,fr5⟩:=hz0
  have I5':=I5.pinned (stat fr5) (T.obj _ _ st5)
  refine wpAny_passesOwn hp (thn (hg _ s5 σ3 H5 x u _ I5' r5 (step x H5 y5)) λ_ s6 hz0=>?_)
  obtain ⟨σ6,H6,I6,q6⟩:=hz0
  refine wpAny_passesOwn hp (thn (hb _ s6 σ6 H6 _ I6 q6) λf s7 q7=>?_)
  have again:∀ {σ7:St} {H7:Hp},Inv X (pins++mE fp s5.heap) σ7 H7 s7->N σ7 H7->∃ m,m < n/\∃ i σ' H',Inv X pins σ' H' s7/\tn i s7.heap/\(∀ b∈fp,H' b=none)/\W i m σ' H':=λ{σ7 H7} I7 n7=>by
   obtain ⟨m',hm,w7⟩:=hN σ7 H7 n7
   refine ⟨m',hm,i+1,σ7,H7,I7.unpinned,T.keep _ _ _ st5 λb hb o e=>(I7.pin (b,o) (List.mem_append_right _ (List.mem_append_right _ (fF hb e)))).1,λb hb=>?_,w7⟩
   obtain ⟨o,e,d⟩:=T.obj _ _ st5 b hb
   exact (I7.pin (b,o) (List.mem_append_right _ (List.mem_append_right _ (fF hb e)))).2.1
  cases f with
  | next=>obtain ⟨σ7,H7,I7,n7⟩:=q7; exact again I7 n7
  | cont=>obtain ⟨σ7,H7,I7,n7⟩:=q7; exact again I7 n7
  | brk=>obtain ⟨σ7,H7,I7,q7⟩:=q7; exact ⟨σ7,H7,I7.unpinned,q7⟩
  | ret v=>obtain ⟨x7,σ7,H7,I7,r7,q7⟩:=q7; exact ⟨x7,σ7,H7,I7.unpinned,r7,q7⟩
end
noncomputable abbrev R2:=V->V->Hp->VK->Prop
noncomputable def OpR (X:Cx) (f:Value->Value->Sem Value) (r:R2):Prop :=
 ∀ (pins:List (Addr×Obj)) (s:Shared) (σ:St) (H:Hp) (x y:V) (v u:Value) (Q:VK),Inv X pins σ H s->RelV x v->RelV y u->r x y H Q ->
  wpAny (model X.prog X.w) X.A (f v u) (EP X pins σ Q) X.xe s
noncomputable def CallR (X:Cx) (f:Value) (r:List V->Hp->VK->Prop):Prop :=
 ∀ (pins:List (Addr×Obj)) (s:Shared) (σ:St) (H:Hp) (xs:List V) (us:List Value) (Q:VK),Inv X pins σ H s->Vals xs us->r xs H Q ->
  wpAny (model X.prog X.w) X.A (call f us) (EP X pins σ Q) X.xe s
noncomputable def ZpM (X:Cx) (r:V->Hp->(Bool->Hp->Prop)->Prop):Prop :=
 ∀ (pins:List (Addr×Obj)) (s:Shared) (σ:St) (H:Hp) (x:V) (v:Value) (Q:Bool->Hp->Prop),Inv X pins σ H s->RelV x v->r x H Q ->
  wpAny (model X.prog X.w) X.A (truthy v) (TP X pins σ Q) X.xe s
noncomputable def ke (r:R2) (ta tb:TE):TE:=λσ H Q=>ta σ H λx H1=>tb σ H1 λy H2=>r x y H2 Q
noncomputable def rI (C:Int->Int->Prop) (g:Int->Int->V):R2:=λx y H Q=>∃ i j,x=.int i/\y=.int j/\C i j/\Q (g i j) H
noncomputable def eU (g:Int->Int->V):R2:=λx y H Q=>∃ i j,x=.int i/\y=.int j/\Q (g i j) H
section
variable {X:Cx} {a b c:Expr} {ta tb tc:TE} {pos:Pos}
theorem r6 (ha:PE X a ta) (hb:PE X b tb) {pins:List (Addr×Obj)} {s:Shared} {σ:St} {H:Hp} {R:V->V->Hp->Prop} (I:Inv X pins σ H s)
  (h:ta σ H λx H1=>tb σ H1 λy H2=>R x y H2) {Q:Value->Shared->Prop} {f:Value->Value->Sem Value}
  (hf:∀ v u s2 x y H2,Inv X pins σ H2 s2->RelV x v->RelV y u->R x y H2->wpAny (model X.prog X.w) X.A (f v u) Q X.xe s2) :
  wpAny (model X.prog X.w) X.A (eval a X.env) (λv s₁=>wpAny (model X.prog X.w) X.A (eval b X.env) (λu s₂=>wpAny (model X.prog X.w) X.A (f v u) Q X.xe s₂) X.xe s₁) X.xe s:=by
 refine thn (ha pins s σ H _ I h) λv s1 hz0=>?_
 obtain ⟨x,H1,I1,r1,q1⟩:=hz0
 refine thn (hb pins s1 σ H1 _ I1 q1) λu s2 hz0=>?_
 obtain ⟨y,H2,I2,r2,q2⟩:=hz0
 exact hf v u s2 x y H2 I2 r1 r2 q2
theorem b5 {op:Operator} {r:R2} (ho:OpR X (binaryOp op) r) (ha:PE X a ta) (hb:PE X b tb):PE X (.BinOp a op b pos) (ke r ta tb):=by
 intro pins s σ H Q I h
 exact wpAny_BinOp (r6 ha hb I h λv u s2 x y H2 I2 rx ry q=>ho pins s2 σ H2 x y v u Q I2 rx ry q)
theorem kP {f:Value->Value->Sem Value} {C:Int->Int->Prop} {g:Int->Int->Int}
  (rule:∀ (i j:Int) (t u:Tok) (s:Shared) (Q:Value->Shared->Prop) (E:Value->Shared->Prop),C i j->Q (.int (g i j) s.toks) { s with toks:=s.toks+1 }->wpAny (model X.prog X.w) X.A (f (.int i t) (.int j u)) Q E s) :
  OpR X f (rI C λi j=>.int (g i j)):=by
 intro pins s σ H x y v u Q I rx ry h
 obtain ⟨i,j,rfl,rfl,hc,q⟩:=h
 obtain ⟨t,rfl⟩:=rx
 obtain ⟨t',rfl⟩:=ry
 exact rule i j t t' s _ _ hc ⟨.int (g i j),H,I.tok _,⟨_,rfl⟩,q⟩
theorem Zcb {f:Value->Value->Sem Value} {g:Int->Int->Int}
  (rule:∀ (i j:Int) (t u:Tok) (s:Shared) (Q:Value->Shared->Prop) (E:Value->Shared->Prop),Q (.int (g i j) s.toks) { s with toks:=s.toks+1 }->wpAny (model X.prog X.w) X.A (f (.int i t) (.int j u)) Q E s) :
  OpR X f (eU λi j=>.int (g i j)):=by
 intro pins s σ H x y v u Q I rx ry h
 obtain ⟨i,j,rfl,rfl,q⟩:=h
 obtain ⟨t,rfl⟩:=rx
 obtain ⟨t',rfl⟩:=ry
 exact rule i j t t' s _ _ ⟨.int (g i j),H,I.tok _,⟨_,rfl⟩,q⟩
theorem mI {f:Value->Value->Sem Value} {g:Int->Int->Bool}
  (rule:∀ (i j:Int) (t u:Tok) (s:Shared) (Q:Value->Shared->Prop) (E:Value->Shared->Prop),Q (.bool (g i j)) s->wpAny (model X.prog X.w) X.A (f (.int i t) (.int j u)) Q E s) :
  OpR X f (eU λi j=>.bl (g i j)):=by
 intro pins s σ H x y v u Q I rx ry h
 obtain ⟨i,j,rfl,rfl,q⟩:=h
 obtain ⟨t,rfl⟩:=rx
 obtain ⟨t',rfl⟩:=ry
 exact rule i j t t' s _ _ ⟨.bl (g i j),H,I,rfl,q⟩
noncomputable def Zp5 (i j:Int):Prop:=0 < j/\j < 1073741824
noncomputable def Zp4 (i j:Int):Prop:=0<=j/\j<=1000000/\i.natAbs < 2 ^ 64
noncomputable def CMul (i j:Int):Prop:=(-(2 ^ 64) < i/\i < 2 ^ 64)\/(-(2 ^ 64) < j/\j < 2 ^ 64)
theorem CMul.ok {i j:Int} (h:CMul i j):IntMulOk i j:=by
 rcases h with ⟨h1,h2⟩ | ⟨h1,h2⟩
 ·exact .of_left (intBits_le_64 h1 h2)
 ·exact .of_right (intBits_le_64 h1 h2)
theorem gf:OpR X (binaryOp .Add) (eU λi j=>.int (i+j)):=Zcb λ_ _ _ _ _ _ _ q=>add_int q
theorem kM:OpR X (binaryOp .Sub) (eU λi j=>.int (i - j)):=Zcb λ_ _ _ _ _ _ _ q=>sub_int q
theorem kN:OpR X (binaryOp .Mult) (rI CMul λi j=>.int (i * j)):=kP λ_ _ _ _ _ _ _ hc q=>mul_int q hc.ok
theorem Zb9:OpR X (binaryOp .FloorDiv) (rI Zp5 λi j=>.int (i / j)):=kP λi j _ _ _ _ _ hc q=>by
 have h1:(0:Int) < j:=hc.1
 have h2:j < 1073741824:=hc.2
 exact floordiv_int (by omega) (by rw [Int.fdiv_eq_ediv_of_nonneg i (by omega)]; exact q) (.inl (PyProof.noPylong_small (by omega)))
theorem gF:OpR X (binaryOp .Mod) (rI (λ_ j=>0 < j) λi j=>.int (i % j)):=kP λi j _ _ _ _ _ hc q=>by
 have h1:(0:Int) < j:=hc
 exact mod_int' (by omega) (by rw [Int.fmod_eq_emod_of_nonneg i (by omega)]; exact q)
theorem Zb4:OpR X (binaryOp .Pow) (rI Zp4 λi j=>.int (i ^ j.toNat)):=kP λ_ _ _ _ _ _ _ hc q=>pow_int_small hc.1 hc.2.1 hc.2.2 q
end
noncomputable def scal:V->V->Bool
 | .non,.non=>true | .non,.int _=>true | .int _,.non=>true | .non,.bl _=>true | .bl _,.non=>true | .non,.str _=>true | .str _,.non=>true
 | .int _,.int _=>true | .bl _,.bl _=>true | .str _,.str _=>true | .byt _,.byt _=>true
 | .int _,.str _=>true | .str _,.int _=>true | .bl _,.str _=>true | .str _,.bl _=>true
 | _,_=>false
noncomputable def rEq:R2:=λx y H Q=>scal x y=true/\Q (.bl (decide (x=y))) H
noncomputable def rNe:R2:=λx y H Q=>scal x y=true/\Q (.bl (!decide (x=y))) H
theorem ZdC {i j:Int}:decide (V.int i=V.int j)=(i == j):=by
 rw [Bool.eq_iff_iff]
 simp
theorem ZdE {i j:Bool}:decide (V.bl i=V.bl j)=(i == j):=by
 rw [Bool.eq_iff_iff]
 simp
theorem nL {i j:Str}:decide (V.str i=V.str j)=(i == j):=by
 rw [Bool.eq_iff_iff]
 simp
theorem ZdD {i j:Array UInt8}:decide (V.byt i=V.byt j)=(i.toList == j.toList):=by
 rw [Bool.eq_iff_iff]
 cases i
 cases j
 simp
section
variable {X:Cx} {a b c:Expr} {ta tb tc:TE} {pos:Pos}
theorem bH {pins:List (Addr×Obj)} {σ:St} {H:Hp} {s:Shared} {Q:VK} {k k':Bool} (I:Inv X pins σ H s) (q:Q (.bl k) H) (e:k=k'):EP X pins σ Q (.bool k') s:=by
 subst e
 exact ⟨.bl k,H,I,rfl,q⟩
theorem Zca:OpR X (compareOp .Eq) rEq:=by
 intro pins s σ H x y v u Q I rx ry h
 obtain ⟨hs,q⟩:=h
 cases x with
 | non =>
  cases rx
  cases y with
  | non=>cases ry; exact PySem.EqNone.eq_none_none (bH I q (by simp))
  | bl j=>cases ry; exact PySem.EqNone.eq_none_bool (bH I q (by simp))
  | int j=>obtain ⟨t',rfl⟩:=ry; exact PySem.EqNone.eq_none_int (bH I q (by simp))
  | str j=>obtain ⟨t',rfl⟩:=ry; exact PySem.EqNone.eq_none_str (bH I q (by simp))
  | _=>exact absurd (show false=true from hs) Bool.false_ne_true
 | bl i =>
  cases rx
  cases y with
  | non=>cases ry; exact PySem.EqNone.eq_bool_none (bH I q (by simp))
  | bl j=>cases ry; exact eq_bool (bH I q ZdE)
  | str j=>obtain ⟨t',rfl⟩:=ry; exact PySem.EqMixed.eq_bool_str (bH I q (by simp))
  | _=>exact absurd (show false=true from hs) Bool.false_ne_true
 | int i =>
  obtain ⟨t,rfl⟩:=rx
  cases y with
  | non=>cases ry; exact PySem.EqNone.eq_int_none (bH I q (by simp))
  | int j=>obtain ⟨t',rfl⟩:=ry; exact eq_int (bH I q ZdC)
  | str j=>obtain ⟨t',rfl⟩:=ry; exact PySem.EqMixed.eq_int_str (bH I q (by simp))
  | _=>exact absurd (show false=true from hs) Bool.false_ne_true
 | str i =>
  obtain ⟨t,rfl⟩:=rx
  cases y with
  | non=>cases ry; exact PySem.EqNone.eq_str_none (bH I q (by simp))
  | bl j=>cases ry; exact PySem.EqMixed.eq_str_bool (bH I q (by simp))
  | int j=>obtain ⟨t',rfl⟩:=ry; exact PySem.EqMixed.eq_str_int (bH I q (by simp))
  | str j=>obtain ⟨t',rfl⟩:=ry; exact eq_str (bH I q nL)
  | _=>exact absurd (show false=true from hs) Bool.false_ne_true
 | byt i =>
  obtain ⟨t,rfl⟩:=rx
  cases y with
  | byt j=>obtain ⟨t',rfl⟩:=ry; exact PySem.W.eq_bytes (bH I q ZdD)
  | _=>exact absurd (show false=true from hs) Bool.false_ne_true
 | _=>cases y <;> exact absurd (show false=true from hs) Bool.false_ne_true
theorem ZhS:OpR X (compareOp .NotEq) rNe:=by
 intro pins s σ H x y v u Q I rx ry h
 obtain ⟨hs,q⟩:=h
 cases x with
 | non =>
  cases rx
  cases y with
  | non=>cases ry; exact PySem.EqNone.ne_none_none (bH I q (by simp))
  | bl j=>cases ry; exact PySem.EqNone.ne_none_bool (bH I q (by simp))
  | int j=>obtain ⟨t',rfl⟩:=ry; exact PySem.EqNone.ne_none_int (bH I q (by simp))
  | str j=>obtain ⟨t',rfl⟩:=ry; exact PySem.EqNone.ne_none_str (bH I q (by simp))
  | _=>exact absurd (show false=true from hs) Bool.false_ne_true
 | bl i =>
  cases rx
  cases y with
  | non=>cases ry; exact PySem.EqNone.ne_bool_none (bH I q (by simp))
  | bl j=>cases ry; exact ne_bool (bH I q (congrArg not ZdE))
  | str j=>obtain ⟨t',rfl⟩:=ry; exact PySem.EqMixed.ne_bool_str (bH I q (by simp))
  | _=>exact absurd (show false=true from hs) Bool.false_ne_true
 | int i =>
  obtain ⟨t,rfl⟩:=rx
  cases y with
  | non=>cases ry; exact PySem.EqNone.ne_int_none (bH I q (by simp))
  | int j=>obtain ⟨t',rfl⟩:=ry; exact ne_int (bH I q (congrArg not ZdC))
  | str j=>obtain ⟨t',rfl⟩:=ry; exact PySem.EqMixed.ne_int_str (bH I q (by simp))
  | _=>exact absurd (show false=true from hs) Bool.false_ne_true
 | str i =>
  obtain ⟨t,rfl⟩:=rx
  cases y with
  | non=>cases ry; exact PySem.EqNone.ne_str_none (bH I q (by simp))
  | bl j=>cases ry; exact PySem.EqMixed.ne_str_bool (bH I q (by simp))
  | int j=>obtain ⟨t',rfl⟩:=ry; exact PySem.EqMixed.ne_str_int (bH I q (by simp))
  | str j=>obtain ⟨t',rfl⟩:=ry; exact ne_str (bH I q (congrArg not nL))
  | _=>exact absurd (show false=true from hs) Bool.false_ne_true
 | byt i =>
  obtain ⟨t,rfl⟩:=rx
  cases y with
  | byt j=>obtain ⟨t',rfl⟩:=ry; exact PySem.W.ne_bytes (bH I q (congrArg not ZdD))
  | _=>exact absurd (show false=true from hs) Bool.false_ne_true
 | _=>cases y <;> exact absurd (show false=true from hs) Bool.false_ne_true
theorem jl:OpR X (compareOp .Lt) (eU λi j=>.bl (decide (i < j))):=mI λ_ _ _ _ _ _ _ q=>lt_int q
theorem gc:OpR X (compareOp .LtE) (eU λi j=>.bl (decide (i<=j))):=mI λ_ _ _ _ _ _ _ q=>le_int q
theorem ge:OpR X (compareOp .Gt) (eU λi j=>.bl (decide (j < i))):=mI λ_ _ _ _ _ _ _ q=>gt_int q
theorem Zb8:OpR X (compareOp .GtE) (eU λi j=>.bl (decide (j<=i))):=mI λ_ _ _ _ _ _ _ q=>ge_int q
theorem qo:OpR X (compareOp .Is) (λx y H Q=>y=.non/\Q (.bl (decide (x=.non))) H):=by
 intro pins s σ H x y v u Q I rx ry h
 obtain ⟨rfl,q⟩:=h
 cases ry
 refine is_none_gen (bH I q ?_)
 cases x <;> first
  | (cases rx; rfl)
  | (obtain ⟨t,rfl⟩:=rx; rfl)
theorem OpR.or {f:Value->Value->Sem Value} {r r':R2} (h:OpR X f r) (h':OpR X f r'):OpR X f (λx y H Q=>r x y H Q\/r' x y H Q):=by
 intro pins s σ H x y v u Q I rx ry q
 rcases q with q | q
 ·exact h pins s σ H x y v u Q I rx ry q
 ·exact h' pins s σ H x y v u Q I rx ry q
theorem nomark (b:Expr) {op:CmpOp} (h:op≠.In:=by decide) (h2:op≠.NotIn:=by decide):behindInMarks op b=false:=by
 have e1:(op == CmpOp.In)=false:=by cases op <;> first | rfl | exact absurd rfl h
 have e2:(op == CmpOp.NotIn)=false:=by cases op <;> first | rfl | exact absurd rfl h2
 cases b <;> first | rfl | (show (_ && (op == CmpOp.In || op == CmpOp.NotIn) && _)=false; rw [e1,e2,Bool.or_false,Bool.and_false,Bool.false_and])
theorem Zhy {op:CmpOp} {r:R2} (ho:OpR X (compareOp op) r) (ha:PE X a ta) (hb:PE X b tb) (hm:behindInMarks op b=false):PE X (.Compare a [op] [b] pos) (ke r ta tb):=by
 intro pins s σ H Q I h
 exact wpAny_Compare1 (r6 ha hb I h λv u s2 x y H2 I2 rx ry q=>ho pins s2 σ H2 x y v u Q I2 rx ry q) hm
noncomputable def kd (t:TE):TT:=λσ H Q=>t σ H λx H'=>∃ k,x=.bl k/\Q k H'
theorem kJ {op:CmpOp} {r:R2} (ho:OpR X (compareOp op) r) (ha:PE X a ta) (hb:PE X b tb) (hm:behindInMarks op b=false):PT X (.Compare a [op] [b] pos) (kd (ke r ta tb)):=by
 intro pins s σ H Q I h
 refine wpAny_isTrue_Compare1 (thn (ha pins s σ H _ I h) λv s1 ⟨x,H1,I1,r1,q1⟩=>thn (hb pins s1 σ H1 _ I1 q1) λu s2 ⟨y,H2,I2,r2,q2⟩ =>
  thn (ho pins s2 σ H2 x y v u _ I2 r1 r2 q2) λc s3 ⟨z,H3,I3,r3,k,e,q3⟩=>?_) hm
 subst e
 cases r3
 exact wpAny_truthy_bool ⟨H3,I3,q3⟩
noncomputable def px (r r':R2) (ta tb tc:TE):TE:=λσ H Q=>ta σ H λx H1=>tb σ H1 λy H2=>r x y H2 λz H3=>∃ k,z=.bl k /\
 (if k=true then tc σ H3 λw' H4=>r' y w' H4 Q else Q (.bl false) H3)
theorem Zhz {op op':CmpOp} {r r':R2} (ho:OpR X (compareOp op) r) (ho':OpR X (compareOp op') r') (ha:PE X a ta) (hb:PE X b tb) (hc:PE X c tc)
  (hm:lastMarks [op,op'] [b,c]=false:=by with_unfolding_all rfl):PE X (.Compare a [op,op'] [b,c] pos) (px r r' ta tb tc):=by
 intro pins s σ H Q I h
 refine Compare_chain (thn (ha pins s σ H _ I h) λv s1 ⟨x,H1,I1,r1,q1⟩=>chain_link (thn (hb pins s1 σ H1 _ I1 q1) λu s2 ⟨y,H2,I2,r2,q2⟩ =>
  thn (ho pins s2 σ H2 x y v u _ I2 r1 r2 q2) λd s3 ⟨z,H3,I3,r3,k,e,q3⟩=>?_)) hm
 subst e
 cases r3
 refine wpAny_truthy_bool ?_
 cases k with
 | false=>exact ite_ff ⟨.bl false,H3,I3,rfl,q3⟩
 | true=>exact ite_tt (chain_last (thn (hc pins s3 σ H3 _ I3 q3) λw' s4 ⟨z',H4,I4,r4,q4⟩=>ho' pins s4 σ H4 y z' u w' Q I4 r2 r4 q4))
theorem Zg6 {op op':CmpOp} {r r':R2} (ho:OpR X (compareOp op) r) (ho':OpR X (compareOp op') r') (ha:PE X a ta) (hb:PE X b tb) (hc:PE X c tc)
  (hm:lastMarks [op,op'] [b,c]=false:=by with_unfolding_all rfl):PT X (.Compare a [op,op'] [b,c] pos) (kd (px r r' ta tb tc)):=by
 intro pins s σ H Q I h
 refine isTrue_chain (thn (ha pins s σ H _ I h) λv s1 ⟨x,H1,I1,r1,q1⟩=>test_link (thn (hb pins s1 σ H1 _ I1 q1) λu s2 ⟨y,H2,I2,r2,q2⟩ =>
  thn (ho pins s2 σ H2 x y v u _ I2 r1 r2 q2) λd s3 ⟨z,H3,I3,r3,k,e,q3⟩=>?_)) hm
 subst e
 cases r3
 refine wpAny_truthy_bool ?_
 cases k with
 | false =>
  obtain ⟨k',e',q'⟩:=q3
  cases e'
  exact ite_ff ⟨H3,I3,q'⟩
 | true =>
  refine ite_tt (test_last (thn (hc pins s3 σ H3 _ I3 q3) λw' s4 ⟨z',H4,I4,r4,q4⟩=>thn (ho' pins s4 σ H4 y z' u w' _ I4 r2 r4 q4) λd' s5 hz0=>?_))
  obtain ⟨z2,H5,I5,r5,k2,e2,q5⟩:=hz0
  subst e2
  cases r5
  exact wpAny_truthy_bool ⟨H5,I5,q5⟩
noncomputable def ZeC (K:PySem.W.Frag) (x:V) (H:Hp) (k:Bool):Prop :=
 match x with
 | .non=>k=false
 | .bl b=>k=b
 | .int i=>k=(i != 0)
 | .str y=>y.length<=sizeLine/\k=((y.length:Int) != 0)
 | .byt y=>y.size<=sizeLine/\k=((y.size:Int) != 0)
 | .ref p=>(∃ xs,SqL K H p xs/\k=!xs.isEmpty)\/(∃ xs,SqT K H p xs/\k=!xs.isEmpty)\/∃ kvs,H p=some (.dK kvs)/\k=!kvs.isEmpty
 | _=>False
theorem Zjk {κ:Type} {kvs:List (κ×V)} {vs:List (κ×Value)} (r:KV kvs vs):(!vs.isEmpty)=!kvs.isEmpty:=by
 cases r <;> rfl
theorem ZcK {xs:List V} {its:List Value} (r:Vals xs its):(!its.toArray.isEmpty)=!xs.isEmpty:=by
 cases r <;> simp
theorem ip:(sizeLine:Nat) < 2 ^ 63:=by rw [sizeLine_eq]; decide
theorem Zfk:ZpM X (λx H Q=>∃ k,ZeC X.K x H k/\Q k H):=by
 intro pins s σ H x v Q I rx h
 obtain ⟨k,e,q⟩:=h
 have hl:=ip
 have hs:sizeLine=16777216:=sizeLine_eq
 cases x with
 | non =>
  cases rx
  have e':k=false:=e
  subst e'
  exact truthy_none ⟨H,I,q⟩
 | bl b =>
  cases rx
  have e':k=b:=e
  subst e'
  exact wpAny_truthy_bool ⟨H,I,q⟩
 | int i =>
  obtain ⟨t,rfl⟩:=rx
  have e':k=(i != 0):=e
  subst e'
  exact PySem.P.truthy_int ⟨H,I,q⟩
 | str y =>
  obtain ⟨t,rfl⟩:=rx
  obtain ⟨hy,e'⟩:y.length<=sizeLine/\k=((y.length:Int) != 0):=e
  subst e'
  exact PySem.P.truthy_str (by omega) ⟨H,I.tok _,q⟩
 | byt y =>
  obtain ⟨t,rfl⟩:=rx
  obtain ⟨hy,e'⟩:y.size<=sizeLine/\k=((y.size:Int) != 0):=e
  subst e'
  exact PySem.W.truthy_bytes (by omega) ⟨H,I.tok _,q⟩
 | ref p =>
  cases rx
  have e':(∃ xs,SqL X.K H p xs/\k=!xs.isEmpty)\/(∃ xs,SqT X.K H p xs/\k=!xs.isEmpty)\/∃ kvs,H p=some (.dK kvs)/\k=!kvs.isEmpty:=e
  rcases e' with ⟨xs,hx,e'⟩ | ⟨xs,hx,e'⟩ | ⟨kvs,hx,e'⟩
  ·subst e'
   obtain ⟨its,r,pl,hz⟩:=I.list hx
   have hlen:=r.length
   exact wpAny_truthy_list pl.isList (by simp only [List.size_toArray]; omega) ⟨H,I.tok _,by rw [ZcK r]; exact q⟩
  ·subst e'
   obtain ⟨its,r,pl,hz⟩:=I.tuple hx
   have hlen:=r.length
   exact truthy_tuple pl (by simp only [List.size_toArray]; omega) ⟨H,I.tok _,by rw [ZcK r]; exact q⟩
  ·subst e'
   obtain ⟨hz,hS,vs,r,m⟩:kvs.length<=sizeLine/\(p == sysModules)=false/\∃ vs,KV kvs vs/\s.heap.DictOf (cT X.prog X.w) p vs:=I.hok p _ hx
   have hlen:kvs.length=vs.length:=Paired.length r
   exact wpAny_truthy_dict hS m (by omega) ⟨H,I.tok _,by rw [Zjk r]; exact q⟩
 | _=>exact (show False from e).elim
theorem Zg4 (ha:PE X a ta) (he:∀ whole,isTrue a X.env whole=(do let v <- whole; standAt a.pos; holding [v] (truthy v))) :
  PT X a (λσ H Q=>ta σ H λx H'=>∃ k,ZeC X.K x H' k/\Q k H'):=by
 intro pins s σ H Q I h
 exact isTrue_plain (thn (ha pins s σ H _ I h) λv s1 ⟨x,H1,I1,r1,q1⟩=>Zfk pins s1 σ H1 x v Q I1 r1 q1) (he _)
theorem Zh2:OpR X (binaryOp .Add) (λx y H Q=>∃ i j,x=.str i/\y=.str j/\i.length+j.length<=sizeLine/\Q (.str (i++j)) H):=by
 intro pins s σ H x y v u Q I rx ry h
 obtain ⟨i,j,rfl,rfl,hz,q⟩:=h
 obtain ⟨t,rfl⟩:=rx
 obtain ⟨t',rfl⟩:=ry
 exact add_str (λt' tk=>⟨.str (i++j),H,I.tok _,⟨_,rfl⟩,q⟩) hz
theorem dE {x:V} {us:List Value} (r:Vals [x] us):∃ u,us=[u]/\RelV x u:=by
 cases r with
 | cons r1 r2=>cases r2; exact ⟨_,rfl,r1⟩
theorem kb {x y:V} {us:List Value} (r:Vals [x,y] us):∃ u w',us=[u,w']/\RelV x u/\RelV y w':=by
 cases r with
 | cons r1 r2 =>
  cases r2 with
  | cons r3 r4=>cases r4; exact ⟨_,_,rfl,r1,r3⟩
theorem rY:CallR X (.builtin "abs") (λxs H Q=>∃ i,xs=[.int i]/\Q (.int (if i < 0 then -i else i)) H):=by
 intro pins s σ H xs us Q I r h
 obtain ⟨i,rfl,q⟩:=h
 obtain ⟨u,rfl,t,rfl⟩:=dE r
 exact call_abs_int λu tk=>⟨.int (if i < 0 then -i else i),H,I.tok _,⟨_,rfl⟩,q⟩
theorem ZoT:CallR X (.type "int") (λxs H Q=>(∃ i,xs=[.int i]/\Q (.int i) H)\/∃ k,xs=[.bl k]/\Q (.int (if k then 1 else 0)) H):=by
 intro pins s σ H xs us Q I r h
 rcases h with ⟨i,rfl,q⟩ | ⟨k,rfl,q⟩
 ·obtain ⟨u,rfl,t,rfl⟩:=dE r
  exact call_int_int ⟨.int i,H,I,⟨_,rfl⟩,q⟩
 ·obtain ⟨u,rfl,r1⟩:=dE r
  cases r1
  exact call_int_bool ⟨.int (if k then 1 else 0),H,I.tok _,⟨_,rfl⟩,q⟩
theorem jK:CallR X (.type "str") (λxs H Q=>∃ i,xs=[.int i]/\i.natAbs.log2 < 1920/\Q (.str (toString i)) H):=by
 intro pins s σ H xs us Q I r h
 obtain ⟨i,rfl,hz,q⟩:=h
 obtain ⟨u,rfl,t,rfl⟩:=dE r
 exact PySem.P.str_of_int hz ⟨.str _,H,I.tok _,⟨_,rfl⟩,q⟩
end
structure ObjM (h:Heap) (x dx C:Addr) (mA:Str->Option Value):Prop where
 obj:h.get? x=some (PySem.W.instObj C dx)
 ns:h.Ns1 dx mA
 ne:dx≠x
theorem ZiM {h:Heap} {dx:Addr} {mA:Str->Option Value} (n:h.Ns1 dx mA):∃ od,h.get? dx=some od/\∀ name,PySem.W.lookIn name od=some (mA name):=by
 obtain ⟨o,es,ep,ho,hd,hk,_,hm⟩:=n
 refine ⟨o,ho,λname=>?_⟩
 have e:=hm name
 unfold nsFind findBy at e
 rw [<- Array.find?_toList] at e
 unfold PySem.W.lookIn
 rw [hd]
 dsimp only
 split
 ·rename_i y q
  rw [q] at e
  exact congrArg some e
 ·rename_i q
  rw [q] at e
  have a:es.toList.any (·.refKey)=false:=by
   rw [List.any_eq_false]
   intro y hy
   obtain ⟨z,t,hkey⟩:=hk y (Array.mem_toList_iff.mp hy)
   simp [DictEntry.refKey,hkey]
  have a':¬ es.toList.any (·.refKey)=true:=by rw [a]; exact Bool.false_ne_true
  rw [if_neg a']
  exact congrArg some e
theorem ObjM.look {h:Heap} {x dx C:Addr} {mA:Str->Option Value} (I:ObjM h x dx C mA):∃ od,PySem.W.InstAt h x (PySem.W.instObj C dx) C (some od)/\∀ name,PySem.W.lookIn name od=some (mA name) :=
 let ⟨od,ho,hl⟩:=ZiM I.ns
 ⟨od,⟨I.obj,rfl,rfl,ho⟩,hl⟩
section
variable {prog:Program} {w:World} {A:Around} {E:Value->Shared->Prop} {s:Shared} {K:PySem.W.Frag} {x dx C f:Addr} {mA:Str->Option Value} {name:Str} {v:Value}
end
theorem RelO.some_of {v:V} {o:Option Value} (r:RelO (some v) o):∃ u,o=some u/\RelV v u:=by
 cases o with
 | none=>exact (show False from r).elim
 | some u=>exact ⟨u,rfl,r⟩
section
variable {P:Program} {w:World} {H H':Hp} {h h':Heap} {a C dx:Addr} {fs fs':List (Str×V)}
theorem Zjo (hok:HOk P w H h) (e:H a=some (.ins C dx fs)):∃ mA,ObjM h a dx C mA/\(∀ f,RelO (fs.lookup f) (mA f))/\PySem.Within mA (fs.map (·.1))/\fs.length<=1000/\H dx=some (.own a):=by
 obtain ⟨d,z,ne,ob,mA,n,r,q⟩:=(show ObjOk P w H h a (.ins C dx fs) from hok a _ e)
 exact ⟨mA,⟨ob,n,ne⟩,r,q,z,d⟩
end
structure Cls (K:PySem.W.Frag) (C:Addr):Prop where
 pg:PySem.W.plainGet K C Str.empty=true
 hd:PySem.W.hasDictIn K C=true
 po:PySem.W.plainOver K C=true
 sa:PySem.W.findIn K (.ref C) "__setattr__"=some (some (.builtin "object.__setattr__"))
theorem Cls.get {K:PySem.W.Frag} {C:Addr} (c:Cls K C) (f:Str):PySem.W.plainGet K C f=true:=c.pg
section
variable {X:Cx} {pins:List (Addr×Obj)} {σ:St} {H:Hp} {s:Shared} {a C dx:Addr} {fs:List (Str×V)} {f:Str} {v:V} {A:Around} {E:Value->Shared->Prop}
end
section
variable {X:Cx} {o e value:Expr} {f:Str} {pos pos' tpos:Pos} {ta tv:TE}
end
section
variable {X:Cx} {pins:List (Addr×Obj)} {σ:St} {H:Hp} {s:Shared} {A:Around} {E:Value->Shared->Prop} {Q:Value->Shared->Prop} {c:Value} {b:Bool}
inductive TyOf (K:PySem.W.Frag) (H:Hp):V->Value->Prop where
 | non:TyOf K H .non (.type "NoneType")
 | bl (x:Bool):TyOf K H (.bl x) (.type "bool")
 | int (i:Int):TyOf K H (.int i) (.type "int")
 | str (x:Str):TyOf K H (.str x) (.type "str")
 | flt (x:UInt64):TyOf K H (.flt x) (.type "float")
 | lst {a:Addr} {xs:List V} (e:H a=some (.lst xs)):TyOf K H (.ref a) (.type "list")
 | frz {a:Addr} {o:Obj} {xs:List V} (e:H a=some (.frz o (.lst xs))):TyOf K H (.ref a) (.type "list")
 | tup {a:Addr} {xs:List V} (e:H a=some (.tup xs)):TyOf K H (.ref a) (.type "tuple")
 | dK {a:Addr} {kvs:List (ap×V)} (e:H a=some (.dK kvs)):TyOf K H (.ref a) (.type "dict")
 | dT {a:Addr} {kvs:List (List ap×V)} (e:H a=some (.dT kvs)):TyOf K H (.ref a) (.type "dict")
 | frzD {a:Addr} {o:Obj} {kvs:List (ap×V)} (e:H a=some (.frz o (.dK kvs))):TyOf K H (.ref a) (.type "dict")
 | ins {a C dx:Addr} {fs:List (Str×V)} (e:H a=some (.ins C dx fs)) (cl:Cls K C) (ha:PySem.W.findIn K (.ref C) "__class__"=some (some (.builtin "object.__class__")))
   (hn:PySem.W.specialIn K (.builtin "object.__class__") "__get__"=some (some (.builtin "getset_descriptor.__get__"))) (htk:PySem.W.takesIn K (.builtin "object.__class__")=some true)
   (hm:PySem.W.mroIn K C (.type "object")=some true):TyOf K H (.ref a) (.ref C)
theorem Zjf {x:V} {u t:Value} (I:Inv X pins σ H s) (rx:RelV x u) (ty:TyOf X.K H x t) (e:PySem.W.kitOne X.K t c=some b) (h:∀ tk,Q (.bool b) { s with toks:=tk }) :
  wpAny (model X.prog X.w) A (call (.builtin "isinstance") [u,c]) Q E s:=by
 cases ty with
 | non=>cases (show u=Value.none from rx); exact PySem.W.kia_one PySem.W.kitx_none I.kIn True.intro e (λz=>nomatch z) h
 | bl y=>cases (show u=Value.bool y from rx); exact PySem.W.kia_one PySem.W.kitx_bool I.kIn True.intro e (λz=>nomatch z) h
 | int i=>obtain ⟨t,q⟩:=(show ∃ t,u=Value.int i t from rx); cases q; exact PySem.W.kia_one PySem.W.kitx_int I.kIn True.intro e (λz=>nomatch z) h
 | str y=>obtain ⟨t,q⟩:=(show ∃ t,u=Value.str y t from rx); cases q; exact PySem.W.kia_one PySem.W.kitx_str I.kIn True.intro e (λz=>nomatch z) h
 | flt y=>obtain ⟨t,q⟩:=(show ∃ t,u=Value.float y t from rx); cases q; exact PySem.W.kia_one PySem.W.kitx_float I.kIn True.intro e (λz=>nomatch z) h
 | @lst a xs ea =>
  cases (show u=Value.ref a from rx)
  obtain ⟨_,_,n,_,h1⟩:=(show ObjOk X.prog X.w H s.heap a (.lst xs) from I.hok a _ ea)
  exact PySem.W.kia_one PySem.W.kitx_list I.kIn ⟨_,h1,rfl⟩ e (λz=>nomatch z) h
 | @frz a ob xs ea =>
  cases (show u=Value.ref a from rx)
  obtain ⟨_,_,_,n,_,h1⟩:=(show ObjOk X.prog X.w H s.heap a (.frz ob (.lst xs)) from I.hok a _ ea)
  exact PySem.W.kia_one PySem.W.kitx_list I.kIn ⟨_,h1,rfl⟩ e (λz=>nomatch z) h
 | @tup a xs ea =>
  cases (show u=Value.ref a from rx)
  obtain ⟨_,_,_,p⟩:=(show ObjOk X.prog X.w H s.heap a (.tup xs) from I.hok a _ ea)
  obtain ⟨o,h1,h2,_⟩:=p
  exact PySem.W.kia_one PySem.W.kitx_tuple I.kIn ⟨o,h1,h2⟩ e (λz=>nomatch z) h
 | @dK a kvs ea =>
  cases (show u=Value.ref a from rx)
  obtain ⟨_,_,vs,_,p⟩:=(show ObjOk X.prog X.w H s.heap a (.dK kvs) from I.hok a _ ea)
  obtain ⟨o,es,ep,h1,h2,_⟩:=p
  exact PySem.W.kia_one PySem.W.kitx_dict I.kIn ⟨o,h1,h2.1⟩ e (λz=>nomatch z) h
 | @frzD a ob kvs ea =>
  cases (show u=Value.ref a from rx)
  obtain ⟨_,_,_,vs,_,p⟩:=(show ObjOk X.prog X.w H s.heap a (.frz ob (.dK kvs)) from I.hok a _ ea)
  obtain ⟨o,es,ep,h1,h2,_⟩:=p
  exact PySem.W.kia_one PySem.W.kitx_dict I.kIn ⟨o,h1,h2.1⟩ e (λz=>nomatch z) h
 | @dT a kvs ea =>
  cases (show u=Value.ref a from rx)
  obtain ⟨_,_,xs,_,o,es,ep,h1,h2,_⟩:=(show ObjOk X.prog X.w H s.heap a (.dT kvs) from I.hok a _ ea)
  exact PySem.W.kia_one PySem.W.kitx_dict I.kIn ⟨o,h1,h2.1⟩ e (λz=>nomatch z) h
 | @ins a C dx fs ea cl ha hn htk hm =>
  cases (show u=Value.ref a from rx)
  obtain ⟨mA,O,_⟩:=Zjo I.hok ea
  obtain ⟨od,J,_⟩:=O.look
  exact PySem.W.kia_one (PySem.W.kitx_own (cl.get _) cl.hd ha hn htk hm) I.kIn J e (λz=>nomatch z) h
end
structure Room (k:Nat) (A:Around):Prop where
 hd:A.handled=none
 dp:A.depth+3 * k+5 < recursionLimit
 un:A.units+16 * k+200 < cLine
 gd:A.guards=some []
theorem Room.mono {j k:Nat} {A:Around} (r:Room k A) (h:j<=k):Room j A:=⟨r.hd,by have:=r.dp; omega,by have:=r.un; omega,r.gd⟩
theorem Room.deeper {k:Nat} {A:Around} (r:Room (k+1) A) (env:Env):Room k (A.deeper env) :=
 ⟨r.hd,by have:=r.dp; show A.depth+1+3 * k+5 < _; omega,by have:=r.un; show A.units+3+16 * k+200 < _; omega,r.gd⟩
theorem Room.depth {k:Nat} {A:Around} (r:Room k A):A.depth < recursionLimit:=by have:=r.dp; omega
theorem Room.units {k:Nat} {A:Around} (r:Room k A):A.units+64 < cLine:=by have:=r.un; omega
noncomputable def aT:TA:=λ_ H Q=>Q [] H
noncomputable def hU (ta:TE) (tr:TA):TA:=λσ H Q=>ta σ H λx H1=>tr σ H1 λxs H2=>Q (x::xs) H2
section
variable {X:Cx} {e:Expr} {es:List Expr} {te:TE} {t:TA} {pos:Pos}
theorem bC:PA X [] aT:=λ_ _ _ _ H Q I h=>Calls.spliced_nil ⟨[],H,I,.nil,h⟩
theorem aQ (ha:PE X e te) (hr:PA X es t) (hs:starEach (e::es) X.env=(false,eval e X.env)::starEach es X.env:=by rfl):PA X (e::es) (hU te t):=by
 intro pos pins s σ H Q I h
 rw [hs]
 show wpAny _ _ (spliced ((false,eval e X.env)::backTo pos (starEach es X.env))) _ _ s
 refine Calls.spliced_cons (thn (ha pins s σ H _ I h) λu s1 hz0=>?_)
 obtain ⟨x,H1,I1,r1,q1⟩:=hz0
 exact thn (hr pos pins s1 σ H1 _ I1 q1) λus s2 hz0=>by
  obtain ⟨xs,H2,I2,r2,q2⟩:=hz0
  exact ⟨x::xs,H2,I2,.cons r1 r2,q2⟩
noncomputable def Zfm (t:TA):TE:=λσ H Q=>t σ H λxs H1=>xs.length<=sizeLine/\∀ p,H1 p=none->Q (.ref p) (upd H1 p (.tup xs))
noncomputable def Zfx (t:TA):TE:=λσ H Q=>t σ H λxs H1=>xs.length<=sizeLine/\∀ p,H1 p=none->Q (.ref p) (upd H1 p (.lst xs))
theorem ZbU {x1} (h:PA X es t):PE X (.Tuple es x1 pos) (Zfm t):=by
 intro pins s σ H Q I hq
 refine wpAny_Tuple_spliced (thn (h pos pins s σ H _ I hq) λus s1 ⟨xs,H1,I1,r,z,q⟩=>⟨by rw [<- r.length]; exact z,?_⟩)
 have hf:H1 s1.heap.objs.size=none:=I1.hok.fresh (Nat.le_refl _)
 refine ⟨.ref s1.heap.objs.size,upd H1 s1.heap.objs.size (.tup xs),I1.laid (t':=s1.toks) (λb u e=>Heap.get?_push_of_some _ e) (Nat.le_refl _) ?_,rfl,q _ hf⟩
 exact ⟨z,us,r,⟨_,Heap.get?_push_size _ rfl,rfl,_,rfl⟩⟩
theorem mF (h:PA X es t):PE X (.List es pos) (Zfx t):=by
 intro pins s σ H Q I hq
 refine wpAny_List_spliced (thn (h pos pins s σ H _ I hq) λus s1 ⟨xs,H1,I1,r,z,q⟩=>⟨by rw [<- r.length]; exact z,?_⟩)
 have hf:H1 s1.heap.objs.size=none:=I1.hok.fresh (Nat.le_refl _)
 refine ⟨.ref s1.heap.objs.size,upd H1 s1.heap.objs.size (.lst xs),I1.laid (t':=s1.toks) (λb u e=>Heap.get?_push_of_some _ e) (Nat.le_refl _) ?_,rfl,q _ hf⟩
 exact ⟨z,us,0,r,Heap.get?_push_size _ rfl⟩
end
noncomputable abbrev Sp:=List V->Hp->VK->XK->Prop
noncomputable abbrev dq:=List Env->Hp->Shared->XK->Value->Shared->Prop
structure Env0 (P:Program) (w:World) (K:PySem.W.Frag) (mg:Str->Option Value) (base:Heap) (A:Around) (outer:List Env) (s:Shared) (H:Hp):Prop where
 frames:A.frames=some outer
 mod:Mod K mg base
 bs:∀ b o,base.get? b=some o->s.heap.get? b=some o/\H b=none
 bsz:base.objs.size<=s.heap.objs.size
 funs:s.heap.FunFrames base outer
 frf:∀ b∈frs outer,H b=none
 hok:HOk P w H s.heap
 bare:AllBare s.gens
noncomputable def CE (outer:List Env) (P:Program) (w:World) (H:Hp) (s:Shared) (Q:VK) (u:Value) (s':Shared):Prop :=
 ∃ v H',s'.os=s.os/\AllBare s'.gens/\Un (frs outer) [] H H' s.heap s'.heap/\HOk P w H' s'.heap/\RelV v u/\Q v H'
noncomputable def CR (CX:dq) (outer:List Env) (P:Program) (w:World) (H:Hp) (s:Shared) (Q:VK) (E:XK) (r:Result) (s':Shared):Prop :=
 match r with
 | .ok (.ret u)=>CE outer P w H s Q u s'
 | .ok _=>False
 | .error e=>CX outer H s E e s'
structure FnOk (P:Program) (w:World) (K:PySem.W.Frag) (mg:Str->Option Value) (base:Heap) (CX:dq) (k:Nat) (f:Addr) (fd:FuncData) (ps:List Str) (sp:Sp):Prop where
 len:∀ vs H Q E,sp vs H Q E->vs.length=ps.length
 run:∀ (A:Around) (outer:List Env) (s:Shared) (H:Hp) (args:Args) (us:List Value) (vs:List V) (Q:VK) (E:XK),Room k A->Env0 P w K mg base A outer s H->BindsTo s fd args (ps.zip us)->Vals vs us->sp vs H Q E ->
  codeAny (model P w) A (.call (.ref f) args) (CR CX outer P w H s Q E) s
theorem FnOk.mono {P:Program} {w:World} {K:PySem.W.Frag} {mg:Str->Option Value} {base:Heap} {CX:dq} {j k:Nat} {f:Addr} {fd:FuncData} {ps:List Str} {sp:Sp} (F:FnOk P w K mg base CX j f fd ps sp) (h:j<=k) :
  FnOk P w K mg base CX k f fd ps sp:=⟨F.len,λA outer s H args us vs Q E hr=>F.run A outer s H args us vs Q E (hr.mono h)⟩
theorem FnOk.imp {P:Program} {w:World} {K:PySem.W.Frag} {mg:Str->Option Value} {base:Heap} {CX:dq} {k:Nat} {f:Addr} {fd:FuncData} {ps:List Str} {sp sp':Sp} (F:FnOk P w K mg base CX k f fd ps sp)
  (h:∀ vs H Q E,sp' vs H Q E->sp vs H Q E):FnOk P w K mg base CX k f fd ps sp' :=
 ⟨λvs H Q E q=>F.len vs H Q E (h _ _ _ _ q),λA outer s H args us vs Q E hr he hb hv hs=>F.run A outer s H args us vs Q E hr he hb hv (h _ _ _ _ hs)⟩
section
variable {X:Cx} {pins:List (Addr×Obj)} {σ:St} {H:Hp} {s s':Shared}
theorem Inv.env0 (I:Inv X pins σ H s):Env0 X.prog X.w X.K X.mg X.base X.A X.stack s H :=
 ⟨I.ok.frames,I.ok.mod,I.bs,Nat.le_trans I.ok.bsz I.sz,I.stack,I.stkFree,I.hok,I.bare⟩
theorem Inv.after {Q:VK} {u:Value} (I:Inv X pins σ H s) (h:CE X.stack X.prog X.w H s Q u s'):EP X pins σ Q u s':=by
 obtain ⟨v,H',os,bare,un,hok,r,q⟩:=h
 obtain ⟨hh,g,d,t,os'⟩:=s'
 obtain rfl:os'=s.os:=os
 exact ⟨v,H',I.call (h':=hh) (g':=g) (d':=d) (t':=t) (ch:=[]) un hok bare (λb z=>absurd z (by simp)),r,q⟩
end
noncomputable def Zax (sp:Sp) (dvs:List V) (E:XK) (t:TA):TE:=λσ H Q=>t σ H λvs H1=>sp (vs++dvs) H1 Q E
noncomputable def Binds (K:PySem.W.Frag) (fd:FuncData) (ps:List Str) (ds:List Value):Prop :=
 ∀ (s:Shared) (us:List Value),K.In s.heap->(us++ds).length=ps.length->BindsTo s fd ⟨us,[]⟩ (ps.zip (us++ds))
theorem Binds.all {K:PySem.W.Frag} {fd:FuncData} {ps:List Str} (h:∀ us:List Value,us.length=ps.length->bindArgs fd ⟨us,[]⟩=pure (ps.zip us)):Binds K fd ps []:=λs us _ hl=>by
 rw [List.append_nil] at hl ⊢
 exact .of_eq (h us hl)
noncomputable def jV (CX:dq) (X:Cx) (E:XK):Prop:=∀ (pins:List (Addr×Obj)) (σ:St) (H:Hp) (s:Shared) (e:Value) (s':Shared),Inv X pins σ H s->CX X.stack H s E e s'->X.xe e s'
section
variable {X:Cx} {CX:dq} {k:Nat} {f C:Addr} {fd:FuncData} {ps:List Str} {sp:Sp} {dvs:List V} {ds:List Value} {E:XK} {x m:Str} {p pos apos:Pos} {e o:Expr} {es:List Expr} {ta:TE} {t:TA}
theorem Zgz {pins:List (Addr×Obj)} {σ:St} {H:Hp} {s:Shared} {Q:VK} {us:List Value} {vs:List V} (F:FnOk X.prog X.w X.K X.mg X.base CX k f fd ps sp) (hr:Room k X.A) (hb:Binds X.K fd ps ds) (hd:Vals dvs ds) (hx:jV CX X E)
  (I:Inv X pins σ H s) (r:Vals vs us) (h:sp (vs++dvs) H Q E):wpAny (model X.prog X.w) X.A (call (.ref f) us) (EP X pins σ Q) X.xe s:=by
 have r2:Vals (vs++dvs) (us++ds):=r.append hd
 have hl:(us++ds).length=ps.length:=by rw [<- r2.length]; exact F.len _ _ _ _ h
 refine wpAny_call (codeAny_mono (F.run X.A X.stack s H ⟨us,[]⟩ (us++ds) (vs++dvs) Q E hr I.env0 (hb s us I.kIn hl) r2 h) λr s' hq=>?_)
 cases r with
 | error e=>exact hx pins σ H s e s' I hq
 | ok fl =>
  cases fl with
  | ret u=>exact I.after hq
  | next=>exact False.elim hq
  | brk=>exact False.elim hq
  | cont=>exact False.elim hq
theorem ZbY (F:FnOk X.prog X.w X.K X.mg X.base CX k f fd ps sp) (hr:Room k X.A) (hg:Gl X x) (hm:X.mg x=some (.ref f)) (hk:PySem.W.keepIn X.K (.ref f)=true) (hb:Binds X.K fd ps ds) (hd:Vals dvs ds) (hx:jV CX X E)
  (ha:PA X (e::es) t) (hdb:(x == ("__debug__":Str))=false:=by decide) (he:starEach (e::es) X.env=(false,eval e X.env)::starEach es X.env:=by rfl) (hpl:(backTo pos (starEach es X.env)).any (·.1)=false:=by rfl) :
  PE X (.Call (.Name x p) (e::es) [] pos) (Zax sp dvs E t):=by
 intro pins s σ H Q I h
 refine wpAny_Call_Name_kw (qN I hg hm ?_ hdb)
 refine PySem.W.callWith_K (h₀:=X.base) I.ok.mod.kin hk (thn (ha pos pins s σ H _ I h) λus s1 ⟨vs,H1,I1,r,q⟩=>⟨I1.kIn,?_⟩) he hpl
 exact Zgz F hr hb hd hx I1 r q
end
noncomputable def PK (X:Cx) (kws:List Keyword) (t:TA):Prop :=
 ∀ (pos:Pos) (pins:List (Addr×Obj)) (s:Shared) (σ:St) (H:Hp) (Q:List V->Hp->Prop),Inv X pins σ H s->t σ H Q->wpAny (model X.prog X.w) X.A (evalAll ((backToKw pos (keywordEach kws X.env)).map (·.2))) (AP X pins σ Q) X.xe s
section
variable {X:Cx} {CX:dq} {k:Nat} {f C:Addr} {fd:FuncData} {ps ks:List Str} {sp:Sp} {E:XK} {x m:Str} {p pos apos kpos:Pos} {e o:Expr} {es:List Expr} {kws:List Keyword} {te ta:TE} {t tk:TA} {nm:Option Str}
variable {g:List Value->List Value->List Value} {gV:List V->List V->List V}
end
structure FnScope (N P:List Str) (sc:Scope):Prop where
 kind:sc.kind=.function
 co:sc.isCoroutine=false
 gen:sc.isGenerator=false
 nd:N.Nodup
 pre:N.take P.length=P
 par:∀ x∈P,sc.names.lookup x=some .local\/sc.names.lookup x=some .cell
 nofree:∀ y∈sc.names,y.2≠.free
theorem Zeh {kindOf:Str->Option NameKind} {x:Str}:∀ {binds:List (Str×Value)} {m:Str->Option Value},(∀ v,(x,v) ∉ binds)->bindL kindOf binds m x=m x
 | [],_,_=>rfl
 | (n,v)::r,m,h=>by
  unfold bindL
  rw [Zeh λw hw=>h w (List.mem_cons_of_mem _ hw)]
  split
  ·have:x≠n:=by rintro rfl; exact h v List.mem_cons_self
   simp [this]
  ·rfl
theorem Zej {kindOf:Str->Option NameKind} {x:Str}:∀ {binds:List (Str×Value)} {m:Str->Option Value},(∀ v,(x,v) ∉ binds)->bindC kindOf binds m x=m x
 | [],_,_=>rfl
 | (n,v)::r,m,h=>by
  unfold bindC
  rw [Zej λw hw=>h w (List.mem_cons_of_mem _ hw)]
  split
  ·rfl
  ·have:x≠n:=by rintro rfl; exact h v List.mem_cons_self
   simp [this]
theorem Zei {kindOf:Str->Option NameKind} {x:Str} {v:Value}:∀ {P:List Str} {vs:List Value} {i:Nat} {m:Str->Option Value},P.Nodup->P[i]?=some x->vs[i]?=some v->kindOf x=some .local ->
  bindL kindOf (P.zip vs) m x=some v
 | [],_,_,_,_,h,_,_=>by simp at h
 | _::_,[],_,_,_,_,h,_=>by simp at h
 | p::P,w::vs,0,m,nd,h1,h2,hk=>by
  simp at h1 h2; subst h1; subst h2
  show bindL kindOf ((p,w)::P.zip vs) m p=_
  unfold bindL
  rw [Zeh λv hv=>(List.nodup_cons.mp nd).1 (List.of_mem_zip hv).1,if_pos hk]
  simp
 | p::P,w::vs,i+1,m,nd,h1,h2,hk=>by
  show bindL kindOf ((p,w)::P.zip vs) m x=_
  unfold bindL
  exact Zei (i:=i) (List.nodup_cons.mp nd).2 (by simpa using h1) (by simpa using h2) hk
theorem Zek {kindOf:Str->Option NameKind} {x:Str} {v:Value}:∀ {P:List Str} {vs:List Value} {i:Nat} {m:Str->Option Value},P.Nodup->P[i]?=some x->vs[i]?=some v->kindOf x≠some .local ->
  bindC kindOf (P.zip vs) m x=some v
 | [],_,_,_,_,h,_,_=>by simp at h
 | _::_,[],_,_,_,_,h,_=>by simp at h
 | p::P,w::vs,0,m,nd,h1,h2,hk=>by
  simp at h1 h2; subst h1; subst h2
  show bindC kindOf ((p,w)::P.zip vs) m p=_
  unfold bindC
  rw [Zej λv hv=>(List.nodup_cons.mp nd).1 (List.of_mem_zip hv).1,if_neg hk]
  simp
 | p::P,w::vs,i+1,m,nd,h1,h2,hk=>by
  show bindC kindOf ((p,w)::P.zip vs) m x=_
  unfold bindC
  exact Zek (i:=i) (List.nodup_cons.mp nd).2 (by simpa using h1) (by simpa using h2) hk
noncomputable def start (N:List Str) (vs:List V):St:=vs.map some++List.replicate (N.length - vs.length) none
noncomputable def cE (CX:dq) (P:Program) (w:World) (K:PySem.W.Frag) (mg:Str->Option Value) (base:Heap) (N:List Str) (qual:Str) (scope:Scope) (f:Addr) (cd:Value) (A:Around) (outer:List Env) (s:Shared) (H:Hp) (E:XK):Cx where
 prog:=P
 w:=w
 K:=K
 mg:=mg
 base:=base
 A:=A.deeper (envOfC qual scope s.heap.objs.size f cd)
 N:=N
 s₀:=s
 H₀:=H
 env:=envOfC qual scope s.heap.objs.size f cd
 outer:=outer
 stack:=envOfC qual scope s.heap.objs.size f cd::outer
 ex:=[]
 calm:=true
 fn:=λ_=>true
 pn:=[]
 xe:=λe s'=>wpAny (model P w) (A.deeper (envOfC qual scope s.heap.objs.size f cd)) (leaving (envOfC qual scope s.heap.objs.size f cd) e) (λ_ s''=>CX outer H s E e s'') (λe' s''=>CX outer H s E e' s'') s'
theorem ZdY {sc:Scope} {n:Nat} {x:Str} (h:sc.names.lookup x=some .cell):∃ c,(cellsFrom n sc.names []).lookup x=some c:=by
 have q:=PySem.W.cellsFrom_some sc.names n [] (.inl h)
 exact Option.isSome_iff_exists.mp q
theorem Zjl {CX:dq} {P:Program} {w:World} {K:PySem.W.Frag} {mg:Str->Option Value} {base:Heap} {N ps:List Str} {qual:Str} {scope:Scope} {f:Addr} {cd:Value} {A:Around} {outer:List Env} {s s1:Shared} {H:Hp} {E:XK} {us:List Value} {vs:List V}
  (S:FnScope N ps scope) (hd:A.handled=none) (e0:Env0 P w K mg base A outer s H) (hl:vs.length=ps.length) (r:Vals vs us)
  (x:InCallC s s.heap.objs.size (bindL (envOfC qual scope s.heap.objs.size f cd).kindOf (ps.zip us) λ_=>none) (cellsFrom (s.heap.objs.size+1) scope.names []) (bindC (envOfC qual scope s.heap.objs.size f cd).kindOf (ps.zip us) λ_=>none) s1) :
  Inv (cE CX P w K mg base N qual scope f cd A outer s H E) [] (start N vs) H s1:=by
 have hpl:ps.length<=N.length:=by have:=congrArg List.length S.pre; rw [List.length_take] at this; omega
 obtain ⟨h1,tk,rfl,hk⟩:=x.done
 have noA:∀ b:Addr,b ∉ (cE CX P w K mg base N qual scope f cd A outer s H E).ex:=λb z=>absurd (show b∈([]:List Addr) from z) (by simp)
 refine ⟨⟨e0.mod,S.kind,rfl,rfl,Nat.le_refl _,λy z c h1 h2=>?_,λy hy=>?_,λy c _ h=>?_,λ_=>hd,Around.frames_deeper e0.frames,.inr ⟨rfl,rfl⟩,λb z=>absurd z (noA b),e0.bs,e0.bsz,λb _ _=>noA b,λb z=>absurd z (noA b),e0.funs,e0.frf⟩,
  rfl,e0.bare,Un.kept hk,⟨_,x.toInCall.ns,λi y v h1 h2 h3=>?_⟩,λy c h=>⟨_,x.cell y c h⟩,e0.hok.fresh (Nat.le_refl _),λy c h=>?_,λp hp=>absurd (show p∈([]:List (Addr×Obj)) from hp) (by simp),e0.hok.kept hk,?_⟩
 ·exact name_of_addr x.apart (PySem.mem_of_lookup h1) (PySem.mem_of_lookup h2)
 ·have hy:scope.names.lookup y=some .cell\/scope.names.lookup y=some .free:=hy
  rcases hy with hy | hy
  ·exact ZdY hy
  ·exact absurd rfl (S.nofree _ (PySem.mem_of_lookup hy))
 ·exact Nat.le_of_lt (x.above y c (PySem.mem_of_lookup h))
 ·have hi:i < vs.length:=by
   unfold start at h2
   by_cases hi:i < vs.length
   ·exact hi
   ·rw [List.getElem?_append_right (by simpa using hi)] at h2
    rw [List.getElem?_replicate] at h2
    split at h2 <;> cases h2
  have ha:vs[i]?=some v:=by
   unfold start at h2
   rw [List.getElem?_append_left (by simpa using hi),List.getElem?_map] at h2
   cases e:vs[i]? with
   | none=>rw [e] at h2; cases h2
   | some a=>rw [e] at h2; cases h2; rfl
  obtain ⟨u,hu,rv⟩:=r.get ha
  have hp:ps[i]?=some y:=by
   rw [<- S.pre,List.getElem?_take_of_lt (by omega)]; exact h1
  have ndP:ps.Nodup:=by rw [<- S.pre]; exact S.nd.sublist (List.take_sublist _ _)
  refine ⟨u,rv,?_⟩
  rcases S.par y (List.mem_of_getElem? hp) with k | k
  ·exact .inl ⟨k,Zei ndP hp hu k⟩
  ·obtain ⟨c,e⟩:=ZdY (n:=s.heap.objs.size+1) k
   refine .inr ⟨.inl k,c,e,?_⟩
   have q:=x.cell y c e
   rw [Zek ndP hp hu (by show scope.names.lookup y≠_; rw [k]; decide)] at q
   exact q
 ·exact e0.hok.fresh (Nat.le_of_lt (x.above y c (PySem.mem_of_lookup h)))
 ·unfold start
  show _=N.length
  rw [List.length_append,List.length_map,List.length_replicate]
  omega
theorem Zc0 {CX:dq} {P:Program} {w:World} {K:PySem.W.Frag} {mg:Str->Option Value} {base:Heap} {k:Nat} {f:Addr} {name qual:Str} {params:Arguments} {body:List Stmt} {scope:Scope} {dV kV doc pm cdv ct oc:Value} {an od:Option Addr}
  {osl:Array (Option Value)} {N ps:List Str} {sp:Sp} (lk:K.lookup f=some ⟨oc,od,.func (PySem.W.fnOf name qual params body scope dV kV doc pm an cdv ct),osl⟩) (hcd:PySem.W.codeIn K cdv qual=true) (S:FnScope N ps scope)
  (len:∀ vs H Q E,sp vs H Q E->vs.length=ps.length)
  (hbody:∀ (A:Around) (outer:List Env) (s:Shared) (H:Hp) (vs:List V) (Q:VK) (E:XK),Room k (A.deeper (envOfC qual scope s.heap.objs.size f cdv))->sp vs H Q E ->
   ∃ t,PSs (cE CX P w K mg base N qual scope f cdv A outer s H E) body t/\t { nx:=λ_ H'=>Q .non H',rt:=Q } (start N vs) H) :
  FnOk P w K mg base CX (k+1) f (PySem.W.fnOf name qual params body scope dV kV doc pm an cdv ct) ps sp:=by
 refine ⟨len,λA outer s H args us vs Q E hr e0 hb r hsp=>?_⟩
 have hl:=len _ _ _ _ hsp
 have KX:K.In s.heap:=e0.mod.kin.keeps λb o e=>(e0.bs b o e).1
 have lim:s.heap.NoLimit:=e0.mod.nolimit.keeps λb o e=>(e0.bs b o e).1
 have hkind:∀ y∈ps.zip us,scope.names.lookup y.1=some .local\/(scope.names.lookup y.1=some .cell/\((cellsFrom (s.heap.objs.size+1) scope.names []).lookup y.1).isSome=true):=λ⟨n,v⟩ hy=>by
  rcases S.par n (List.of_mem_zip hy).1 with q | q
  ·exact .inl q
  ·exact .inr ⟨q,PySem.W.cellsFrom_some _ _ _ (.inl q)⟩
 refine codeAny_call_function hr.depth (KX _ _ lk) rfl S.co S.gen rfl (PySem.W.codeRec_of KX hcd) (hb _ _ _ _ ?_)
 refine wpAny_newFunctionEnv_cells S.kind hkind λenv he s1 x=>?_
 subst he
 refine ⟨lim.keeps x.toInCall.keep,codeAny_func ?_⟩
 obtain ⟨t,ht,hq⟩:=hbody A outer s H vs Q E (hr.deeper _) hsp
 have I:Inv (cE CX P w K mg base N qual scope f cdv A outer s H E) [] (start N vs) H s1:=Zjl S hr.hd e0 hl r x
 refine wpAny_mono (ht [] s1 (start N vs) H _ I hq) (λfl s' hs=>?_) λe s' hs=>hs
 have fin:∀ {σ':St} {H':Hp} {v:V} {u:Value},Inv (cE CX P w K mg base N qual scope f cdv A outer s H E) [] σ' H' s'->RelV v u->Q v H'->CE outer P w H s Q u s' :=
  λ{σ' H' v u} J rv q=>⟨v,H',J.os,J.bare,J.base,J.hok,rv,q⟩
 cases fl with
 | ret u =>
  obtain ⟨v,σ',H',J,rv,q⟩:=hs
  exact fin J rv q
 | next =>
  obtain ⟨σ',H',J,q⟩:=hs
  exact fin (v:=V.non) (u:=Value.none) J rfl q
 | brk =>
  obtain ⟨_,_,_,q⟩:=hs
  exact False.elim q
 | cont =>
  obtain ⟨_,_,_,q⟩:=hs
  exact False.elim q
section
variable {X:Cx} {x:Str} {p pos:Pos} {e:Expr} {es:List Expr} {t:TA} {id T:String} {r:List V->Hp->VK->Prop}
noncomputable def fW (r:List V->Hp->VK->Prop) (t:TA):TE:=λσ H Q=>t σ H λvs H1=>r vs H1 Q
theorem ba (hc:CallR X (.builtin id) r) (hg:Gl X x) (hm:X.mg x=none) (hv:bootBuiltins x=some (.builtin id)) (ha:PA X (e::es) t) (hn:x≠"__name__":=by decide) (hdb:(x == ("__debug__":Str))=false:=by decide)
  (he:starEach (e::es) X.env=(false,eval e X.env)::starEach es X.env:=by rfl) (hpl:(backTo pos (starEach es X.env)).any (·.1)=false:=by rfl):PE X (.Call (.Name x p) (e::es) [] pos) (fW r t):=by
 intro pins s σ H Q I h
 refine wpAny_Call_Name_kw (nl I hg hm hv ?_ hn hdb)
 exact PyProof.Rows.callWith_builtin1 (thn (ha pos pins s σ H _ I h) λus s1 ⟨vs,H1,I1,r1,q1⟩=>hc pins s1 σ H1 vs us Q I1 r1 q1) he hpl
theorem cu (hc:CallR X (.type T) r) (hg:Gl X x) (hm:X.mg x=none) (hv:bootBuiltins x=some (.type T)) (ha:PA X (e::es) t) (hn:x≠"__name__":=by decide) (hdb:(x == ("__debug__":Str))=false:=by decide)
  (he:starEach (e::es) X.env=(false,eval e X.env)::starEach es X.env:=by rfl) (hpl:(backTo pos (starEach es X.env)).any (·.1)=false:=by rfl):PE X (.Call (.Name x p) (e::es) [] pos) (fW r t):=by
 intro pins s σ H Q I h
 refine wpAny_Call_Name_kw (nl I hg hm hv ?_ hn hdb)
 exact PyProof.Rows.callWith_type1 (thn (ha pos pins s σ H _ I h) λus s1 ⟨vs,H1,I1,r1,q1⟩=>hc pins s1 σ H1 vs us Q I1 r1 q1) he hpl
end
end L2
namespace HT
open PySem PyProof.Rows
section
open PySem.SeqAt
open PySem.AutoSeq1 (wpAny_loadPart')
open PySem.MeetsSeq PySem.MeetsSeq2 PySem.MeetsSeq3
end
section
variable {prog:Program} {w:World} {A:Around} {E:Value->Shared->Prop} {s:Shared}
theorem ZoM {t b:Addr} {vs ws:List Value} {Q:Value->Shared->Prop} (ht:IsTup s.heap t vs.toArray) (hb:IsTup s.heap b ws.toArray) (hv:vs≠[])
  (h1:ws=[]->Q (.ref t) s) (h2:ws≠[]->Q (.ref s.heap.objs.size) { s with heap:=s.heap.push { cls:=.type "tuple",data:=.seq (vs++ws).toArray } })
  (hsz:vs.length+ws.length<=sizeLine):wpAny (model prog w) A (binaryOp .Add (.ref t) (.ref b)) Q E s:=by
 obtain ⟨⟨cls,dd,data,sl⟩,ho,hc,n,hd⟩:=id ht
 obtain ⟨⟨cls2,dd2,data2,dO⟩,ho2,hc2,n2,hd2⟩:=id hb
 simp only at hc hd hc2 hd2
 subst hc hd hc2 hd2
 have e:vs.toArray++ws.toArray=(vs++ws).toArray:=by simp
 by_cases hw:ws=[]
 ·exact concat_meets ⟨_,ho,rfl⟩ ⟨_,ho2,rfl⟩ noFill_tuple_add seq_tuple_add PySem.F.slot_tuple_add PySem.F.entry_tuple_add (PySem.F.args_tuple_add_2 _ _)
   (tuple_addW1 t b vs.toArray ws.toArray n n2 dd dd2 sl dO (by simpa using hv) (by simp [hw])) ⟨ho,ho2,h1 hw⟩
 ·refine concat_meets ⟨_,ho,rfl⟩ ⟨_,ho2,rfl⟩ noFill_tuple_add seq_tuple_add PySem.F.slot_tuple_add PySem.F.entry_tuple_add (PySem.F.args_tuple_add_2 _ _)
   (tuple_addW2 t b vs.toArray ws.toArray n n2 dd dd2 sl dO (by simpa using hv) (by simpa using hw) (by rw [List.size_toArray,List.size_toArray]; exact hsz)) ⟨ho,ho2,?_⟩
  rw [e]
  exact h2 hw
noncomputable def aK (n d:Nat):Option Int->Nat
 | none=>d
 | some v=>if v < 0 then (v+(n:Int)).toNat else min v.toNat n
theorem Zgw (n d k:Nat):aK n d (some (k:Int))=min k n:=by
 show (if (k:Int) < 0 then ((k:Int)+(n:Int)).toNat else min (k:Int).toNat n)=min k n
 rw [if_neg (by omega),Int.toNat_natCast]
theorem Zgx (n d:Nat) (hd:d<=n) (o:Option Int):aK n d o<=n:=by
 cases o with
 | none=>exact hd
 | some v =>
  show (if v < 0 then (v+(n:Int)).toNat else min v.toNat n)<=n
  by_cases hv:v < 0
  ·rw [if_pos hv]; omega
  ·rw [if_neg hv]; exact Nat.min_le_right _ _
theorem ZdV (v:Int) (n d:Nat):(if v < 0 then max (v+(n:Int)) 0 else min v (n:Int))=((aK n d (some v):Nat):Int):=by
 show (if v < 0 then max (v+(n:Int)) 0 else min v (n:Int))=(((if v < 0 then (v+(n:Int)).toNat else min v.toNat n):Nat):Int)
 by_cases hv:v < 0
 ·rw [if_pos hv,if_pos hv,Int.ofNat_toNat]
 ·rw [if_neg hv,if_neg hv]
  obtain ⟨k,rfl⟩:=Int.eq_ofNat_of_zero_le (Int.not_lt.mp hv)
  rw [Int.toNat_natCast,<- Lean.Omega.Int.ofNat_min]
theorem ZpE (lo hi:Option Int) (n:Nat):Builtin.Slice.sliceAdjust lo hi 1 (n:Int)=(((aK n 0 lo:Nat):Int),((aK n n hi:Nat):Int)):=by
 have h1:¬ ((1:Int) < 0):=by omega
 unfold Builtin.Slice.sliceAdjust
 simp only [h1,if_false]
 refine Prod.ext ?_ ?_
 ·cases lo with
  | none=>rfl
  | some v=>exact ZdV v n 0
 ·cases hi with
  | none=>rfl
  | some v=>exact ZdV v n n
theorem Zhd (i j:Nat):Builtin.Slice.slicePlaces (i:Int) (j:Int) 1=j - i:=by
 unfold Builtin.Slice.slicePlaces
 have h1:(1:Int) > 0:=by omega
 simp only [h1,if_true,Int.ediv_one]
 split <;> omega
theorem ZaL {v:Value} {o:Option Int} {Q:Option Int->Shared->Prop} (p:IsPart v o) (h:Q o s):wpAny (model prog w) A (Builtin.Slice.slicePartIndex v) Q E s:=by
 cases p with
 | none=>exact slicePart_none h
 | int i t=>exact slicePart_int h
theorem ZaN {sl:Addr} {vl vu:Value} {lo hi:Option Int} {n:Nat} {Q:Int×Int×Nat->Shared->Prop} (hs:s.heap.IsSliceOf sl vl vu .none) (pl:IsPart vl lo) (pu:IsPart vu hi)
  (h:Q (((aK n 0 lo:Nat):Int),1,aK n n hi - aK n 0 lo) s):wpAny (model prog w) A (Builtin.Slice.sliceApplied (.ref sl) (pure (n:Int))) Q E s:=by
 obtain ⟨os,hos,hcs,hds⟩:=id hs
 unfold Builtin.Slice.sliceApplied Builtin.Slice.sliceFields
 refine wpAny_bind (wpAny_bind (wpAny_field hos hds (x:=vl) rfl (wpAny_bind (wpAny_field hos hds (x:=vu) rfl (wpAny_bind (wpAny_field hos hds (x:=.none) rfl (wpAny_pure ?_)))))))
 refine wpAny_bind (slicePart_none ?_)
 show wpAny _ _ (if ((1:Int) == 0)=true then _ else _) _ _ s
 rw [if_neg (by decide)]
 refine wpAny_bind (ZaL pl (wpAny_bind (ZaL pu (wpAny_bind (wpAny_pure ?_)))))
 show wpAny _ _ (match Builtin.Slice.sliceAdjust lo hi 1 (n:Int) with | (lo,hi)=>pure (lo,(1:Int),Builtin.Slice.slicePlaces lo hi 1)) _ _ s
 rw [ZpE lo hi n]
 show wpAny _ _ (pure (((aK n 0 lo:Nat):Int),(1:Int),Builtin.Slice.slicePlaces ((aK n 0 lo:Nat):Int) ((aK n n hi:Nat):Int) 1)) _ _ s
 rw [Zhd]
 exact wpAny_pure h
theorem Zhf (xs:Array Value) (i k:Nat):((List.range k).filterMap λ(m:Nat)=>xs[((i:Int)+(m:Int) * 1).toNat]?).toArray=((xs.toList.drop i).take k).toArray:=by
 have e:(λ(m:Nat)=>xs[((i:Int)+(m:Int) * 1).toNat]?)=λm=>xs[i+m]?:=by
  funext m
  have:((i:Int)+(m:Int) * 1).toNat=i+m:=by omega
  rw [this]
 rw [e]
 have:=pick_run xs i k
 rw [List.filterMap_map] at this
 have e2:((λx=>xs[x]?) ∘ λx=>i+x)=λm=>xs[i+m]?:=rfl
 rw [e2] at this
 rw [this]
theorem Zjv {t sl:Addr} {items:Array Value} {vl vu:Value} {lo hi:Option Int} {Q:Value->Shared->Prop} (ht:IsTup s.heap t items) (hs:s.heap.IsSliceOf sl vl vu .none) (pl:IsPart vl lo) (pu:IsPart vu hi)
  (hw:¬ (aK items.size 0 lo=0/\aK items.size items.size hi=items.size))
  (h:Q (.ref s.heap.objs.size) { s with heap:=s.heap.push { cls:=.type "tuple",data:=.seq ((items.toList.drop (aK items.size 0 lo)).take (aK items.size items.size hi - aK items.size 0 lo)).toArray } })
  (hsz:items.size<=sizeLine):wpAny (model prog w) A (getItem (.ref t) (.ref sl)) Q E s:=by
 have htake:sizeOk (.seq ((items.toList.drop (aK items.size 0 lo)).take (aK items.size items.size hi - aK items.size 0 lo)).toArray):=by
  show ((items.toList.drop (aK items.size 0 lo)).take (aK items.size items.size hi - aK items.size 0 lo)).toArray.size<=sizeLine
  rw [List.size_toArray,List.length_take,List.length_drop,Array.length_toList]
  exact Nat.le_trans (Nat.min_le_right _ _) (Nat.le_trans (Nat.sub_le _ _) hsz)
 have hj:aK items.size items.size hi<=items.size:=Zgx _ _ (Nat.le_refl _) hi
 obtain ⟨os,hos,hcs,hds⟩:=id hs
 have hTs:s.TypeIs (.ref sl) "slice":=⟨os,hos,hcs⟩
 unfold getItem
 try with_reducible refine wpAny_holding ?_
 first | refine wpAny_bind (wpAny_pure ?_) | skip
 refine wpAny_bind (wpAny_sequenceKey ht.typeIs (by decide) ?_)
 refine wpAny_bind (wpAny_callSpecial?_slot (name:=Str.ofString "__getitem__") ht.typeIs PyProof.Rows.slot_tuple_getitem
  (wpAny_call_entry PyProof.Rows.slot_tuple_getitem ht.typeIs entry_tuple_getitem ?_ (args_tuple_getitem _ _)))
 show wpAny _ _ (Builtin.Tuple.tupleItemsOf (.ref t) >>= _) _ _ s
 refine wpAny_bind (tupleItemsOf_ ht ?_)
 refine wpAny_bind (wpAny_typeOf hTs ?_)
 rw [if_pos (by decide)]
 refine wpAny_bind (ZaN hs pl pu ?_)
 have hno:¬ ((((aK items.size 0 lo:Nat):Int) == 0 && (1:Int) == 1 && (aK items.size items.size hi - aK items.size 0 lo) == items.size)=true):=by
  intro q
  rw [Bool.and_eq_true,Bool.and_eq_true] at q
  have q1:((aK items.size 0 lo:Nat):Int)=0:=eq_of_beq q.1.1
  have q2:aK items.size items.size hi - aK items.size 0 lo=items.size:=eq_of_beq q.2
  exact hw ⟨by omega,by omega⟩
 show wpAny _ _ (if (((aK items.size 0 lo:Nat):Int) == 0 && (1:Int) == 1 && (aK items.size items.size hi - aK items.size 0 lo) == items.size)=true then _ else _) _ _ s
 rw [if_neg hno,Zhf]
 first
  | exact wpAny_bind (m:=Builtin.Tuple.tupleExact _) (wpAny_newObj_type (wpAny_pure ⟨_,rfl,wpAny_pure h⟩) htake)
  | exact wpAny_bind (m:=Builtin.Tuple.tupleExact _) (wpAny_newObj_type (wpAny_bind (wpAny_pure (wpAny_pure ⟨_,rfl,wpAny_pure h⟩))) htake)
  | exact wpAny_bind (wpAny_bind (m:=Builtin.Tuple.tupleExact _) (wpAny_newObj_type (wpAny_pure (wpAny_pure ⟨_,rfl,wpAny_pure h⟩)) htake))
  | exact wpAny_bind (wpAny_bind (m:=Builtin.Tuple.tupleExact _) (wpAny_newObj_type (wpAny_pure ⟨_,rfl,wpAny_pure h⟩) htake))
end
end HT
namespace L2
open PySem PySem.Spec PyProof.Rows
noncomputable abbrev TO:=St->Hp->(Option Int->Hp->Prop)->Prop
noncomputable def PO (X:Cx) (e:Option Expr) (t:TO):Prop :=
 ∀ (pins:List (Addr×Obj)) (s:Shared) (σ:St) (H:Hp) (Q:Option Int->Hp->Prop),Inv X pins σ H s->t σ H Q ->
  wpAny (model X.prog X.w) X.A (evalPart e X.env) (λu s'=>∃ o H',Inv X pins σ H' s'/\IsPart u o/\Q o H') X.xe s
noncomputable def Zfv:TO:=λ_ H Q=>Q none H
noncomputable def Zfq (t:TE):TO:=λσ H Q=>t σ H λx H1=>∃ i,x=.int i/\Q (some i) H1
section
variable {X:Cx} {e:Expr} {te:TE} {lo hi:Option Expr} {tl th:TO} {pos p2:Pos}
theorem ZbQ:PO X none Zfv:=by
 intro pins s σ H Q I h
 rw [evalPart_none]
 exact wpAny_pure ⟨none,H,I,.none,h⟩
theorem ZbP (h:PE X e te):PO X (some e) (Zfq te):=by
 intro pins s σ H Q I hw
 rw [evalPart_some]
 refine thn (h pins s σ H _ I hw) λu s1 hz0=>?_
 obtain ⟨x,H1,I1,r1,q1⟩:=hz0
 obtain ⟨i,rfl,q⟩:=q1
 obtain ⟨t,rfl⟩:=r1
 exact ⟨some i,H1,I1,.int i t,q⟩
noncomputable def SlR (X:Cx) (r:V->Option Int->Option Int->Hp->VK->Prop):Prop :=
 ∀ (pins:List (Addr×Obj)) (s:Shared) (σ:St) (H:Hp) (x:V) (v vl vu:Value) (lo hi:Option Int) (sl:Addr) (Q:VK),Inv X pins σ H s->RelV x v->s.heap.IsSliceOf sl vl vu .none->IsPart vl lo->IsPart vu hi->r x lo hi H Q ->
  ∃ T id,typeLookup (.type T) "__getitem__"=pure (some (.builtin id))/\s.TypeIs v T/\wpAny (model X.prog X.w) X.A (getItem v (.ref sl)) (EP X pins σ Q) X.xe s
theorem SlR.or {r r':V->Option Int->Option Int->Hp->VK->Prop} (h:SlR X r) (h':SlR X r'):SlR X (λx lo hi H Q=>r x lo hi H Q\/r' x lo hi H Q):=by
 intro pins s σ H x v vl vu lo hi sl Q I rx hs pl pu q
 rcases q with q | q
 ·exact h pins s σ H x v vl vu lo hi sl Q I rx hs pl pu q
 ·exact h' pins s σ H x v vl vu lo hi sl Q I rx hs pl pu q
noncomputable def tSl (r:V->Option Int->Option Int->Hp->VK->Prop) (te:TE) (tl th:TO):TE:=λσ H Q=>te σ H λx H1=>tl σ H1 λl H2=>th σ H2 λu H3=>r x l u H3 Q
theorem ZbV {r:V->Option Int->Option Int->Hp->VK->Prop} (hr:SlR X r) (he:PE X e te) (hl:PO X lo tl) (hu:PO X hi th):PE X (.Subscript e (.Slice lo hi none p2) pos) (tSl r te tl th):=by
 intro pins s σ H Q I h
 refine Subscript_ (thn (he pins s σ H _ I h) λv s1 hz0=>?_)
 obtain ⟨x,H1,I1,r1,q1⟩:=hz0
 refine wpAny_Slice (thn (hl pins s1 σ H1 _ I1 q1) λvl s2 ⟨l,H2,I2,pl,q2⟩=>thn (hu pins s2 σ H2 _ I2 q2) λvu s3 hz0=>?_)
 obtain ⟨u,H3,I3,pu,q3⟩:=hz0
 rw [evalPart_none]
 refine wpAny_pure ?_
 have I4:Inv X pins σ H3 { s3 with heap:=s3.heap.push { cls:=.type "slice",data:=.fields #[vl,vu,.none] } }:=I3.kept (t':=s3.toks) λb ob q=>Heap.get?_push_of_some _ q
 obtain ⟨T,id,hT,ht,hg⟩:=hr pins { s3 with heap:=s3.heap.push { cls:=.type "slice",data:=.fields #[vl,vu,.none] } } σ H3 x v vl vu l u s3.heap.objs.size Q I4 r1 (Heap.IsSliceOf.new ..) pl pu q3
 show wpAny (model X.prog X.w) X.A (subscriptTail e (.Slice lo hi none p2) v (.ref s3.heap.objs.size)) (EP X pins σ Q) X.xe { s3 with heap:=s3.heap.push { cls:=.type "slice",data:=.fields #[vl,vu,.none] } }
 exact tail_any (ops:=[.ref s3.heap.objs.size,v]) ht hT hg (by with_unfolding_all rfl)
noncomputable def dS (xs:List V) (lo hi:Option Int):List V:=(xs.drop (HT.aK xs.length 0 lo)).take (HT.aK xs.length xs.length hi - HT.aK xs.length 0 lo)
theorem ZdR (xs:List V) (lo hi:Option Int):(dS xs lo hi).length<=xs.length:=by
 unfold dS
 rw [List.length_take,List.length_drop]
 exact Nat.le_trans (Nat.min_le_right _ _) (Nat.sub_le _ _)
noncomputable def Zbh (K:PySem.W.Frag):V->Option Int->Option Int->Hp->VK->Prop:=λx lo hi H Q=>∃ a xs,x=.ref a/\SqT K H a xs /\
 ¬ (HT.aK xs.length 0 lo=0/\HT.aK xs.length xs.length hi=xs.length)/\∀ p,H p=none->Q (.ref p) (upd H p (.tup (dS xs lo hi)))
theorem ZfZ:SlR X (Zbh X.K):=by
 intro pins s σ H x v vl vu lo hi sl Q I rx hs pl pu h
 obtain ⟨a,xs,rfl,hx,hw,q⟩:=h
 cases rx
 obtain ⟨its,r,ht,hz⟩:=I.tuple hx
 have hlen:its.toArray.size=xs.length:=by rw [List.size_toArray]; exact r.length.symm
 refine ⟨"tuple",_,PyProof.Rows.slot_tuple_getitem.lookup,ht.typeIs,?_⟩
 refine HT.Zjv ht hs pl pu (by rw [hlen]; exact hw) ?_ (by rw [hlen]; exact hz)
 rw [hlen]
 refine ⟨.ref s.heap.objs.size,_,I.laid (t':=s.toks) (o:=.tup (dS xs lo hi)) (λb ob q=>Heap.get?_push_of_some _ q) (Nat.le_refl _) ?_,rfl,q _ (I.hok.fresh (Nat.le_refl _))⟩
 exact ⟨Nat.le_trans (ZdR xs lo hi) hz,_,(r.drop (HT.aK xs.length 0 lo)).take (HT.aK xs.length xs.length hi - HT.aK xs.length 0 lo),IsTup.new _ _⟩
noncomputable def ZbG (K:PySem.W.Frag):R2:=λx y H Q=>∃ a b xs ys,x=.ref a/\y=.ref b/\SqT K H a xs/\SqT K H b ys/\xs≠[]/\xs.length+ys.length<=sizeLine /\
 (ys=[]->Q (.ref a) H)/\(ys≠[]->∀ p,H p=none->Q (.ref p) (upd H p (.tup (xs++ys))))
theorem Vals.nil_iff {xs:List V} {us:List Value} (r:Vals xs us):us=[] ↔ xs=[]:=by
 cases r with
 | nil=>simp
 | cons _ _=>simp
theorem ZhZ:OpR X (binaryOp .Add) (ZbG X.K):=by
 intro pins s σ H x y v u Q I rx ry h
 obtain ⟨a,b,xs,ys,rfl,rfl,ha,hb,hx,hz,q1,q2⟩:=h
 cases rx
 cases ry
 obtain ⟨its,r1,p1,_⟩:=I.tuple ha
 obtain ⟨its2,r2,p2,_⟩:=I.tuple hb
 refine HT.ZoM p1 p2 (λz=>hx (r1.nil_iff.mp z)) (λz=>⟨.ref a,H,I,rfl,q1 (r2.nil_iff.mp z)⟩) (λz=>?_) (by rw [<- r1.length,<- r2.length]; exact hz)
 refine ⟨.ref s.heap.objs.size,_,I.laid (t':=s.toks) (o:=.tup (xs++ys)) (λb ob q=>Heap.get?_push_of_some _ q) (Nat.le_refl _) ?_,rfl,q2 (λw=>z (r2.nil_iff.mpr w)) _ (I.hok.fresh (Nat.le_refl _))⟩
 exact ⟨by rw [List.length_append]; exact hz,_,r1.append r2,IsTup.new _ _⟩
end
noncomputable def dQ (n:Nat) (i:Int):Option Nat:=if 0<=i then (if i < n then some i.toNat else none) else if -(n:Int)<=i then some (i+n).toNat else none
noncomputable def bd {α:Type} (xs:List α) (i:Int):Option α:=(dQ xs.length i).bind λj=>xs[j]?
theorem ZcC {n:Nat} {i:Int} {j:Nat} (h:dQ n i=some j):seqIndex? i n=some j/\j < n/\-(n:Int)<=i/\i < n:=by
 unfold dQ at h
 by_cases h0:0<=i
 ·rw [if_pos h0] at h
  by_cases h1:i < n
  ·rw [if_pos h1] at h
   have e:i.toNat=j:=Option.some.inj h
   exact ⟨by rw [seqIndex_of h0 h1,e],by omega,by omega,h1⟩
  ·rw [if_neg h1] at h; cases h
 ·rw [if_neg h0] at h
  by_cases h1:-(n:Int)<=i
  ·rw [if_pos h1] at h
   have e:(i+n).toNat=j:=Option.some.inj h
   exact ⟨by rw [seqIndex_neg (by omega) h1,e],by omega,h1,by omega⟩
  ·rw [if_neg h1] at h; cases h
theorem sf {α:Type} {xs:List α} {i:Int} {v:α} (h:bd xs i=some v):∃ j,seqIndex? i xs.length=some j/\xs[j]?=some v/\j < xs.length/\-(xs.length:Int)<=i/\i < xs.length:=by
 unfold bd at h
 cases e:dQ xs.length i with
 | none=>rw [e] at h; cases h
 | some j =>
  rw [e] at h
  obtain ⟨h1,h2,h3,h4⟩:=ZcC e
  exact ⟨j,h1,h,h2,h3,h4⟩
theorem cX {α:Type} {xs:List α} {j:Nat} {v:α} (h:xs[j]?=some v):bd xs (j:Int)=some v:=by
 have hj:j < xs.length:=(List.getElem?_eq_some_iff.mp h).1
 have e:dQ xs.length (j:Int)=some j:=by
  unfold dQ
  rw [if_pos (by omega),if_pos (by omega)]; simp
 unfold bd; rw [e]; exact h
noncomputable def ZeD (b:Expr):Prop:=∀ o i,subscripted b false o i=operate [o,i] (getItem o i)
noncomputable def IxR (X:Cx) (r:R2):Prop :=
 ∀ (value slice:Expr) (pins:List (Addr×Obj)) (s:Shared) (σ:St) (H:Hp) (x y:V) (v u:Value) (Q:VK),Inv X pins σ H s->RelV x v->RelV y u->r x y H Q ->
  subscripted slice false v u=operate [v,u] (getItem v u)->wpAny (model X.prog X.w) X.A (subscriptTail value slice v u) (EP X pins σ Q) X.xe s
noncomputable def iR (X:Cx) (id:String) (r:V->List V->Hp->VK->Prop):Prop :=
 ∀ (pins:List (Addr×Obj)) (s:Shared) (σ:St) (H:Hp) (x:V) (xs:List V) (v:Value) (us:List Value) (Q:VK),Inv X pins σ H s->RelV x v->Vals xs us->r x xs H Q ->
  wpAny (model X.prog X.w) X.A (call (.builtin id) (v::us)) (EP X pins σ Q) X.xe s
section
variable {X:Cx} {a b:Expr} {ta tb:TE} {pos:Pos}
theorem IxR.or {r r':R2} (h:IxR X r) (h':IxR X r'):IxR X (λx y H Q=>r x y H Q\/r' x y H Q):=by
 intro value slice pins s σ H x y v u Q I rx ry q hs
 rcases q with q | q
 ·exact h value slice pins s σ H x y v u Q I rx ry q hs
 ·exact h' value slice pins s σ H x y v u Q I rx ry q hs
theorem qh {r:R2} (hr:IxR X r) (ha:PE X a ta) (hb:PE X b tb) (hs:ZeD b):PE X (.Subscript a b pos) (ke r ta tb):=by
 intro pins s σ H Q I h
 exact Subscript_ (r6 ha hb I h λv u s2 x y H2 I2 rx ry q=>hr a b pins s2 σ H2 x y v u Q I2 rx ry q (hs _ _))
noncomputable def ZbA (K:PySem.W.Frag):R2:=λx y H Q=>∃ p xs i v,x=.ref p/\y=.int i/\SqL K H p xs/\bd xs i=some v/\Q v H
noncomputable def Zby (K:PySem.W.Frag):R2:=λx y H Q=>∃ p xs i v,x=.ref p/\y=.int i/\SqT K H p xs/\bd xs i=some v/\Q v H
noncomputable def Zbz:R2:=λx y H Q=>∃ z i c,x=.str z/\y=.int i/\z.length<=sizeLine/\bd z.cps.toList i=some c/\Q (.str ⟨#[c]⟩) H
theorem re:IxR X (ZbA X.K):=by
 intro value slice pins s σ H x y v u Q I rx ry h hs
 obtain ⟨p,xs,i,z,rfl,rfl,hq,he,q⟩:=h
 cases rx
 obtain ⟨t,rfl⟩:=ry
 obtain ⟨its,r,pl,hz⟩:=I.list hq
 obtain ⟨j,h1,h2,h3,h4,h5⟩:=sf he
 obtain ⟨w,ew,rw'⟩:=r.get h2
 have hl:=r.length
 have hn:=ip
 have fin:EP X pins σ Q w s:=⟨z,H,I,rw',q⟩
 by_cases h0:0<=i
 ·have hj:i.toNat=j:=by
   rw [seqIndex_of h0 h5] at h1
   exact Option.some.inj h1
  exact item_listR pl.isList h0 (by omega) (by rw [hj]; simpa using ew) fin hs
 ·have hj:(i+(its.toArray.size:Int)).toNat=j:=by
   rw [seqIndex_neg (by omega) h4] at h1
   rw [List.size_toArray,<- hl]
   exact Option.some.inj h1
  exact subscriptTail_builtinR (x:=w) pl.isList.typeIs slot_list_getitem.lookup
   (wpAny_getItem_list_neg (Q:=λr s'=>r=w/\EP X pins σ Q r s') pl.isList (by omega) (by rw [List.size_toArray] <;> omega) (by omega) (by rw [hj]; simpa using ew) ⟨rfl,fin⟩) hs
theorem Zje:IxR X (Zby X.K):=by
 intro value slice pins s σ H x y v u Q I rx ry h hs
 obtain ⟨p,xs,i,z,rfl,rfl,hq,he,q⟩:=h
 cases rx
 obtain ⟨t,rfl⟩:=ry
 obtain ⟨its,r,pl,hz⟩:=I.tuple hq
 obtain ⟨j,h1,h2,h3,h4,h5⟩:=sf he
 obtain ⟨w,ew,rw'⟩:=r.get h2
 have hl:=r.length
 have hn:=ip
 have fin:EP X pins σ Q w s:=⟨z,H,I,rw',q⟩
 exact subscriptTail_builtinR (x:=w) pl.typeIs slot_tuple_getitem.lookup
  (getItem_tuple (j:=j) (Q:=λr s'=>r=w/\EP X pins σ Q r s') pl (by omega) (by omega) (by rw [List.size_toArray,<- hl]; exact h1) (by simpa using ew) ⟨rfl,fin⟩) hs
theorem nt:IxR X Zbz:=by
 intro value slice pins s σ H x y v u Q I rx ry h hs
 obtain ⟨z,i,c,rfl,rfl,hz,he,q⟩:=h
 obtain ⟨t,rfl⟩:=rx
 obtain ⟨t',rfl⟩:=ry
 obtain ⟨j,h1,h2,h3,h4,h5⟩:=sf he
 have hl:z.cps.toList.length=z.length:=by simp [Str.length]
 rw [hl] at h1 h4 h5
 have hn:=ip
 exact tail_any (typeIs_str s z t) slot_str_getitem.lookup (getItem_str (c:=c) (by
  have e1:decide (i < -(2 ^ 63:Int))=false:=decide_eq_false (by omega)
  have e2:decide (i ≥ 2 ^ 63)=false:=decide_eq_false (by omega)
  rw [e1,e2,Bool.or_false]) (by rw [h1]; simpa using h2) ⟨.str ⟨#[c]⟩,H,I.tok _,⟨_,rfl⟩,q⟩) hs
noncomputable def pP (K:PySem.W.Frag):R2:=λx y H Q=>ZbA K x y H Q\/Zby K x y H Q\/Zbz x y H Q
theorem cK:IxR X (pP X.K):=re.or (Zje.or nt)
theorem ZiG (its:List Value) (n j:Nat) (u:Value):Obj.mapSeq (·.setIfInBounds j u) { cls:=.type "list",data:=.seq its.toArray n }={ cls:=.type "list",data:=.seq (its.set j u).toArray n }:=by
 simp [Obj.mapSeq]
theorem Inv.lst {pins:List (Addr×Obj)} {σ:St} {H:Hp} {s:Shared} {p:Addr} {xs:List V} (I:Inv X pins σ H s) (h:H p=some (.lst xs)) :
  ∃ (its:List Value) (n:Nat),Vals xs its/\s.heap.get? p=some { cls:=.type "list",data:=.seq its.toArray n }/\xs.length<=sizeLine:=by
 obtain ⟨z,its,n,r,e⟩:=I.hok p _ h
 exact ⟨its,n,r,e,z⟩
theorem Inv.lstUpd {pins:List (Addr×Obj)} {σ:St} {H:Hp} {s:Shared} {p:Addr} {xs ys:List V} {its its':List Value} {n n':Nat} {f:Obj->Obj} (I:Inv X pins σ H s) (h:H p=some (.lst xs))
  (ho:s.heap.get? p=some { cls:=.type "list",data:=.seq its.toArray n }) (hf:f { cls:=.type "list",data:=.seq its.toArray n }={ cls:=.type "list",data:=.seq its'.toArray n' }) (r:Vals ys its') (hz:ys.length<=sizeLine) (t:Nat) :
  Inv X pins σ (upd H p (.lst ys)) { s with heap:=s.heap.update p f,toks:=t }:=by
 have e:(s.heap.update p f).get? p=some { cls:=.type "list",data:=.seq its'.toArray n' }:=by
  rw [Heap.get?_update_self f ho (by rw [hf] <;> rfl),hf]
 refine I.write (x:=p) (e:=p) (by rw [h]; trivial) (.inl rfl) (λb u hb q=>(Heap.get?_update_other _ _ (Ne.symm hb)).trans q) ⟨_,e⟩ ?_
 exact ⟨hz,its',n',r,e⟩
noncomputable def Zbl:V->V->V->Hp->(Hp->Prop)->Prop:=λo i v H Q=>∃ p xs k j,o=.ref p/\i=.int k/\H p=some (.lst xs)/\dQ xs.length k=some j/\Q (upd H p (.lst (xs.set j v)))
theorem Zgb:ZeE X Zbl:=by
 intro pins s σ H o i v ov iv u Q I ro ri rv h
 obtain ⟨p,xs,k,j,rfl,rfl,hp,hj,q⟩:=h
 cases ro
 obtain ⟨t,rfl⟩:=ri
 obtain ⟨its,n,r,ho,hz⟩:=I.lst hp
 obtain ⟨h1,h2,h3,h4⟩:=ZcC hj
 have hl:=r.length
 have hn:=ip
 have I':Inv X pins σ (upd H p (.lst (xs.set j v))) { s with heap:=s.heap.update p (Obj.mapSeq (·.setIfInBounds j u)) } :=
  I.lstUpd hp ho (ZiG its n j u) (r.set rv j) (by rw [List.length_set]; exact hz) s.toks
 by_cases h0:0<=k
 ·have hk:k.toNat=j:=by
   rw [seqIndex_of h0 h4] at h1
   exact Option.some.inj h1
  exact PySem.W.ki_setAt ho h0 (by omega) (by rw [List.size_toArray,<- hl]; exact h4) (by rw [hk]; exact ⟨_,I',q⟩)
 ·have hk:(k+(its.toArray.size:Int)).toNat=j:=by
   rw [seqIndex_neg (by omega) h3] at h1
   rw [List.size_toArray,<- hl]
   exact Option.some.inj h1
  exact PySem.W.ki_setBack ho (by omega) (by rw [List.size_toArray,<- hl]; exact h3) (by omega) (by rw [hk]; exact ⟨_,I',q⟩)
theorem ZdP {n:Nat} {i:Int} (h:i < 0):max 0 (min (i+(n:Int)) n)=(((i+n).toNat:Nat):Int):=by
 rw [Int.min_eq_left (by omega),Int.ofNat_toNat,Int.max_comm]
theorem ZdQ {n:Nat} {i:Int} (h:¬ i < 0):max 0 (min i (n:Int))=((min i.toNat n:Nat):Int):=by
 obtain ⟨k,rfl⟩:=Int.eq_ofNat_of_zero_le (Int.not_lt.mp h)
 rw [Int.toNat_natCast,<- Lean.Omega.Int.ofNat_min]
 exact Int.max_eq_right (Int.natCast_nonneg _)
theorem ZfU (lo hi:Option Int) (n:Nat):(sliceBounds lo hi none n).1=((HT.aK n 0 lo:Nat):Int)/\(sliceBounds lo hi none n).2.1=((HT.aK n n hi:Nat):Int)/\(sliceBounds lo hi none n).2.2=1:=by
 refine ⟨?_,?_,rfl⟩
 ·cases lo with
  | none=>simp [sliceBounds,HT.aK]
  | some i =>
   simp only [sliceBounds,HT.aK,Option.getD_none,show (1:Int) > 0 by decide,if_true]
   by_cases h:i < 0
   ·simp only [h,if_true]
    exact ZdP h
   ·simp only [h,if_false]
    exact ZdQ h
 ·cases hi with
  | none=>simp [sliceBounds,HT.aK]
  | some i =>
   simp only [sliceBounds,HT.aK,Option.getD_none,show (1:Int) > 0 by decide,if_true]
   by_cases h:i < 0
   ·simp only [h,if_true]
    exact ZdP h
   ·simp only [h,if_false]
    exact ZdQ h
theorem ZfW (its:List Value) (lo hi:Option Int):slicePick its.toArray lo hi none=((its.drop (HT.aK its.length 0 lo)).take (HT.aK its.length its.length hi - HT.aK its.length 0 lo)).toArray:=by
 obtain ⟨h1,h2,h3⟩:=ZfU lo hi its.toArray.size
 unfold slicePick
 rw [h1,h2,h3]
 simp only [sliceRange_one,pick_run,List.size_toArray] <;> rfl
noncomputable def Zbj (K:PySem.W.Frag):V->Option Int->Option Int->Hp->VK->Prop:=λx lo hi H Q=>∃ a xs,x=.ref a/\SqL K H a xs/\∀ p,H p=none->Q (.ref p) (upd H p (.lst (dS xs lo hi)))
theorem ZaO:SlR X (Zbj X.K):=by
 intro pins s σ H x v vl vu lo hi sl Q I rx hs pl pu h
 obtain ⟨a,xs,rfl,hx,q⟩:=h
 cases rx
 obtain ⟨its,r,ht,hz⟩:=I.list hx
 have hlen:=r.length
 refine ⟨"list",_,slot_list_getitem.lookup,ht.isList.typeIs,?_⟩
 refine wpAny_getItem_list_slice ht.isList hs pl pu .none (by simp) ?_ (by rw [List.size_toArray] <;> omega)
 rw [ZfW,<- hlen]
 refine ⟨.ref s.heap.objs.size,_,I.laid (t':=s.toks) (o:=.lst (dS xs lo hi)) (λb ob q=>Heap.get?_push_of_some _ q) (Nat.le_refl _) ?_,rfl,q _ (I.hok.fresh (Nat.le_refl _))⟩
 exact ⟨Nat.le_trans (ZdR xs lo hi) hz,_,0,(r.drop (HT.aK xs.length 0 lo)).take (HT.aK xs.length xs.length hi - HT.aK xs.length 0 lo),Heap.get?_push_size _ rfl⟩
theorem iI:CallR X (.builtin "len") (λxs H Q=>∃ p ys,xs=[.ref p]/\(SqL X.K H p ys\/SqT X.K H p ys)/\Q (.int ys.length) H):=by
 intro pins s σ H xs us Q I r h
 obtain ⟨p,ys,rfl,hq,q⟩:=h
 obtain ⟨u,rfl,rx⟩:=dE r
 cases rx
 have hn:=ip
 rcases hq with hq | hq
 ·obtain ⟨its,r',pl,hz⟩:=I.list hq
  have hlen:=r'.length
  exact Calls.call_len_list pl.isList (by simp only [List.size_toArray] <;> omega) ⟨.int ys.length,H,I.tok _,⟨s.toks+1,by rw [List.size_toArray,hlen]⟩,q⟩
 ·obtain ⟨its,r',pl,hz⟩:=I.tuple hq
  have hlen:=r'.length
  exact len_tuple pl (by simp only [List.size_toArray] <;> omega) ⟨.int ys.length,H,I.tok _,⟨s.toks+1,by rw [List.size_toArray,hlen]⟩,q⟩
theorem ZoO:CallR X (.builtin "len") (λxs H Q=>∃ z,xs=[.str z]/\z.length<=sizeLine/\Q (.int z.length) H):=by
 intro pins s σ H xs us Q I r h
 obtain ⟨z,rfl,hz,q⟩:=h
 obtain ⟨u,rfl,t,rfl⟩:=dE r
 have hn:=ip
 exact len_str (by omega) ⟨.int z.length,H,I.tok _,⟨_,rfl⟩,q⟩
theorem CallR.or {f:Value} {r r':List V->Hp->VK->Prop} (h:CallR X f r) (h':CallR X f r'):CallR X f (λxs H Q=>r xs H Q\/r' xs H Q):=by
 intro pins s σ H xs us Q I rs q
 rcases q with q | q
 ·exact h pins s σ H xs us Q I rs q
 ·exact h' pins s σ H xs us Q I rs q
theorem Zd3:CallR X (.type "list") (λxs H Q=>∃ p ys,xs=[.ref p]/\(SqL X.K H p ys\/SqT X.K H p ys)/\∀ l,H l=none->Q (.ref l) (upd H l (.lst ys))):=by
 intro pins s σ H xs us Q I r h
 obtain ⟨p,ys,rfl,hq,q⟩:=h
 obtain ⟨u,rfl,rx⟩:=dE r
 cases rx
 have fin:∀ (its:List Value),Vals ys its->ys.length<=sizeLine->∀ (h':Heap) (c':Nat),(∀ b o',s.heap.get? b=some o'->h'.get? b=some o') ->
   h'.get? s.heap.objs.size=some { cls:=.type "list",dict:=none,data:=.seq its.toArray c',slots:=#[] }->EP X pins σ Q (.ref s.heap.objs.size) { s with heap:=h' }:=λits r' hz h' c' kp e =>
  ⟨.ref s.heap.objs.size,_,I.laid (t':=s.toks) kp (Nat.le_refl _) (show ObjOk X.prog X.w _ h' _ (.lst ys) from ⟨hz,its,c',r',e⟩),rfl,q _ (I.hok.fresh (Nat.le_refl _))⟩
 rcases hq with hq | hq
 ·obtain ⟨its,r',pl,hz⟩:=I.list hq
  have hlen:=r'.length
  obtain ⟨o,ho,hc,n,hd⟩:=pl.isList
  exact call_list_seq p (.inl rfl) ho hc hd (λh' c' kp e=>fin its r' hz h' c' kp e) (by simp only [List.size_toArray] <;> omega)
 ·obtain ⟨its,r',pl,hz⟩:=I.tuple hq
  have hlen:=r'.length
  obtain ⟨o,ho,hc,n,hd⟩:=pl
  exact call_list_seq p (.inr rfl) ho hc hd (λh' c' kp e=>fin its r' hz h' c' kp e) (by simp only [List.size_toArray] <;> omega)
theorem fg:CallR X (.type "tuple") (λxs H Q=>∃ p ys,xs=[.ref p]/\((SqL X.K H p ys/\∀ l,H l=none->Q (.ref l) (upd H l (.tup ys)))\/(SqT X.K H p ys/\Q (.ref p) H))):=by
 intro pins s σ H xs us Q I r h
 obtain ⟨p,ys,rfl,h⟩:=h
 obtain ⟨u,rfl,rx⟩:=dE r
 cases rx
 rcases h with ⟨hq,q⟩ | ⟨hq,q⟩
 ·obtain ⟨its,r',pl,hz⟩:=I.list hq
  have hlen:=r'.length
  refine call_tuple_list pl.isList (λh' kp=>?_) (by simp only [List.size_toArray] <;> omega)
  have I1:Inv X pins σ H { s with heap:=h' }:=I.kept (t':=s.toks) kp
  have I2:Inv X pins σ (upd H h'.objs.size (.tup ys)) { s with heap:=h'.push { cls:=.type "tuple",data:=.seq its.toArray } } :=
   I1.laid (t':=s.toks) (λb o e=>Heap.get?_push_of_some _ e) (Nat.le_refl _) (show ObjOk X.prog X.w _ _ _ (.tup ys) from ⟨hz,its,r',IsTup.new _ _⟩)
  exact ⟨.ref h'.objs.size,_,I2,rfl,q _ (I1.hok.fresh (Nat.le_refl _))⟩
 ·obtain ⟨its,r',pl,hz⟩:=I.tuple hq
  exact call_tuple_same pl ⟨.ref p,H,I,rfl,q⟩
noncomputable def kc (K:PySem.W.Frag) (T:String) (x:V) (H:Hp):Prop:=match x with
 | .str _=>T="str"
 | .int _=>T="int"
 | .ref p=>(T="list"/\∃ xs,SqL K H p xs)\/(T="tuple"/\∃ o,K.lookup p=some o/\o.cls=.type "tuple"/\o.dict=none) \/
   (T="dict"/\((∃ kvs,H p=some (.dK kvs))\/∃ kvs,H p=some (.dT kvs)))\/(T="set"/\∃ S n,H p=some (.set S n))
 | _=>False
theorem pd {pins:List (Addr×Obj)} {σ:St} {H:Hp} {s:Shared} {T:String} {x:V} {v:Value} (I:Inv X pins σ H s) (r:RelV x v) (ty:kc X.K T x H) :
  s.TypeIs v T/\∀ a,v=.ref a->∃ ob,s.heap.get? a=some ob/\ob.dict=none:=by
 cases x with
 | str z =>
  obtain ⟨t,rfl⟩:=r
  cases (show T="str" from ty)
  exact ⟨typeIs_str s z t,λ_ e=>nomatch e⟩
 | int i =>
  obtain ⟨t,rfl⟩:=r
  cases (show T="int" from ty)
  exact ⟨typeIs_int s i t,λ_ e=>nomatch e⟩
 | ref p =>
  cases r
  rcases ty with ⟨rfl,xs,hq⟩ | ⟨rfl,o,hk,hc,hd⟩ | ⟨rfl,hk⟩ | ⟨rfl,S,n,hk⟩
  ·obtain ⟨its,_,pl,_⟩:=I.list hq
   refine ⟨pl.isList.typeIs,λa e=>?_⟩
   cases e
   obtain ⟨o,n,e,c,hd,_⟩:=pl
   exact ⟨o,e,hd⟩
  ·refine ⟨⟨o,I.kIn p o hk,hc⟩,λa e=>?_⟩
   cases e
   exact ⟨o,I.kIn _ o hk,hd⟩
  ·have z:∃ o,s.heap.get? p=some o/\o.ExactDict:=by
    rcases hk with ⟨kvs,hk⟩ | ⟨kvs,hk⟩
    ·obtain ⟨_,_,_,_,o,_,_,e,ex,_⟩:=I.hok p _ hk
     exact ⟨o,e,ex⟩
    ·obtain ⟨_,_,_,_,o,_,_,e,ex,_⟩:=I.hok p _ hk
     exact ⟨o,e,ex⟩
   obtain ⟨o,e,ex⟩:=z
   refine ⟨⟨o,e,ex.1⟩,λa e2=>?_⟩
   cases e2
   exact ⟨o,e,ex.2.1⟩
  ·obtain ⟨o,_,_,_,e,ex,_⟩:=I.hok p _ hk
   refine ⟨⟨o,e,ex.1⟩,λa e2=>?_⟩
   cases e2
   exact ⟨o,e,ex.2.1⟩
 | _=>exact False.elim ty
noncomputable def Zay (K:PySem.W.Frag) (T:String) (r:V->List V->Hp->VK->Prop) (to:TE):TE:=λσ H Q=>to σ H λx H1=>kc K T x H1/\r x [] H1 Q
noncomputable def tBM (K:PySem.W.Frag) (T:String) (r:V->List V->Hp->VK->Prop) (to:TE) (t:TA):TE:=λσ H Q=>to σ H λx H1=>kc K T x H1/\t σ H1 λxs H2=>r x xs H2 Q
variable {o e:Expr} {es:List Expr} {to:TE} {t:TA} {name:Str} {apos cpos:Pos} {T id:String} {r:V->List V->Hp->VK->Prop}
theorem ZhA (pa:PlainAttrs T) (slot:Slot T name id) (hty:typeOf (.builtin id)=pure (.type "method_descriptor")) (hm:iR X id r) (ho:PE X o to)
  (hbase:attributeBase o name X.env (eval o X.env)=eval o X.env:=by rfl) (hline:(apos.endLine == cpos.line)=true:=by rfl):PE X (.Call (.Attribute o name apos) [] [] cpos) (Zay X.K T r to):=by
 intro pins s σ H Q I h
 refine wpAny_Call_method0_late hbase hline (thn (ho pins s σ H _ I h) λv s1 hz0=>?_)
 obtain ⟨x,H1,I1,r1,ty,q1⟩:=hz0
 obtain ⟨h1,h2⟩:=pd I1 r1 ty
 exact ⟨T,id,pa,slot,hty,h1,h2,Calls.callWith_builtin rfl (PySem.evalArgs_none (hm pins s1 σ H1 x [] v [] Q I1 r1 .nil q1))⟩
theorem ik (pa:PlainAttrs T) (slot:Slot T name id) (hty:typeOf (.builtin id)=pure (.type "method_descriptor")) (hm:iR X id r) (ho:PE X o to) (ha:PA X (e::es) t)
  (hbase:attributeBase o name X.env (eval o X.env)=eval o X.env:=by rfl)
  (hfew:((backTo cpos (starEach (e::es) X.env)).all (λx=>!x.1) && (backToKw cpos (keywordEach [] X.env)).all (λx=>x.1.isSome)
   && decide ((e::es).length+([]:List Keyword).length+(if ([]:List Keyword).isEmpty then 0 else 1) < 30))=true:=by rfl)
  (hline:(apos.endLine == cpos.line)=true:=by rfl) (hs:starEach (e::es) X.env=(false,eval e X.env)::starEach es X.env:=by rfl) (hplain:(backTo cpos (starEach es X.env)).any (·.1)=false:=by rfl) :
  PE X (.Call (.Attribute o name apos) (e::es) [] cpos) (tBM X.K T r to t):=by
 intro pins s σ H Q I h
 refine wpAny_Call_method_late hbase hfew hline rfl (thn (ho pins s σ H _ I h) λv s1 hz0=>?_)
 obtain ⟨x,H1,I1,r1,ty,q1⟩:=hz0
 obtain ⟨h1,h2⟩:=pd I1 r1 ty
 refine ⟨T,id,pa,slot,hty,h1,h2,?_⟩
 have hA:=ha cpos pins s1 σ H1 _ I1 q1
 rw [hs] at hA ⊢
 refine Calls.callWith_builtin (by show (false || (backTo cpos (starEach es X.env)).any (·.1))=false; rw [hplain] <;> rfl) (Calls.evalArgs_plain ?_)
 exact thn hA λus s2 hz0=>by
  obtain ⟨vs,H2,I2,r2,q2⟩:=hz0
  exact hm pins s2 σ H2 x vs v us Q I2 r1 r2 q2
end
noncomputable def MtM (X:Cx) (id:String) (r:V->List V->Hp->VK->Prop):Prop :=
 ∀ (pins:List (Addr×Obj)) (s:Shared) (σ:St) (H:Hp) (x:V) (xs:List V) (v:Value) (us:List Value) (Q:VK),Inv X pins σ H s->RelV x v->Vals xs us->r x xs H Q ->
  wpAny (model X.prog X.w) X.A (call (.builtin id) (v::us)) (EP X pins σ Q) X.xe s
theorem Vals.one {x:V} {us:List Value} (h:Vals [x] us):∃ u,us=[u]/\RelV x u:=by
 cases h with
 | cons r t=>cases t; exact ⟨_,rfl,r⟩
theorem Vals.zero:∀ {us:List Value},Vals [] us->us=[]
 | _,.nil=>rfl
theorem Vals.reverse {xs:List V} {us:List Value} (h:Vals xs us):Vals xs.reverse us.reverse:=by
 induction h with
 | nil=>exact .nil
 | cons r t ih=>rw [List.reverse_cons,List.reverse_cons]; exact Vals.append ih (.cons r .nil)
theorem Vals.rep {xs:List V} {us:List Value} (h:Vals xs us):∀ k:Nat,Vals (List.replicate k xs).flatten (List.replicate k us).flatten
 | 0=>.nil
 | k+1=>by
  rw [List.replicate_succ,List.replicate_succ,List.flatten_cons,List.flatten_cons]
  exact Vals.append h (Vals.rep h k)
theorem ZcY (its:List Value):∀ (k:Nat) (acc:List Value),
  List.foldl (λx1 x2=>x1++x2) acc.toArray (List.replicate k its.toArray)=(acc++(List.replicate k its).flatten).toArray
 | 0,acc=>by simp
 | k+1,acc=>by
  have e:acc.toArray++its.toArray=(acc++its).toArray:=by simp
  have e2:(acc++its)++(List.replicate k its).flatten=acc++(List.replicate (k+1) its).flatten:=by
   rw [List.replicate_succ,List.flatten_cons,List.append_assoc]
  rw [<- e2,<- ZcY its k (acc++its),<- e,List.replicate_succ,List.foldl_cons]
section
variable {X:Cx} {pins:List (Addr×Obj)} {σ:St} {H:Hp} {s:Shared} {l b:Addr} {xs ys zs:List V}
theorem Inv.lset {its its':List Value} {n:Nat} {f:Array Value->Array Value} {t':Nat} (I:Inv X pins σ H s) (hH:H l=some (.lst xs))
  (e:s.heap.get? l=some { cls:=.type "list",data:=.seq its.toArray n }) (hf:f its.toArray=its'.toArray) (hv:Vals ys its') (hz:ys.length<=sizeLine) :
  Inv X pins σ (upd H l (.lst ys)) { s with heap:=s.heap.update l (Obj.mapSeq f),toks:=t' }:=by
 have q:=PySem.IsL.update e f
 rw [hf] at q
 refine I.write (x:=l) (e:=l) (by rw [hH]; exact trivial) (.inl rfl) (λb' u hb hu=>(Heap.get?_update_other s.heap (Obj.mapSeq f) (Ne.symm hb)).trans hu) ⟨_,q⟩ ?_
 exact ⟨hz,its',_,hv,q⟩
theorem Inv.lnew {its:List Value} {t':Nat} (I:Inv X pins σ H s) (hv:Vals ys its) (hz:ys.length<=sizeLine) :
  Inv X pins σ (upd H s.heap.objs.size (.lst ys)) { s with heap:=s.heap.push { cls:=.type "list",data:=.seq its.toArray },toks:=t' } :=
 I.laid (λ_ _ q=>Heap.get?_push_of_some _ q) (Nat.le_refl _) ⟨hz,its,0,hv,Heap.get?_push_size _ rfl⟩
theorem Inv.fresh (I:Inv X pins σ H s):H s.heap.objs.size=none:=I.hok.fresh (Nat.le_refl _)
theorem Inv.lstM (I:Inv X pins σ H s) (hH:H l=some (.lst xs)):xs.length<=sizeLine/\∃ (its:List Value) (n:Nat),Vals xs its/\xs.length=its.length/\s.heap.get? l=some { cls:=.type "list",data:=.seq its.toArray n }:=by
 obtain ⟨z,its,n,r,e⟩:=I.hok l _ hH
 exact ⟨z,its,n,r,r.length,e⟩
theorem Zij {n:Nat} (h:n<=sizeLine):Builtin.List.listTooLong n=false:=by
 unfold Builtin.List.listTooLong
 exact decide_eq_false (by omega)
end
section
variable {X:Cx}
noncomputable def ZbJ:V->List V->Hp->VK->Prop:=λx vs H Q=>∃ l xs y,x=.ref l/\vs=[y]/\H l=some (.lst xs)/\xs.length < sizeLine/\Q .non (upd H l (.lst (xs++[y])))
theorem kQ:MtM X "list.append" ZbJ:=by
 intro pins s σ H x vs v us Q I rx rv h
 obtain ⟨l,xs,y,rfl,rfl,hH,hz,q⟩:=h
 cases rx
 obtain ⟨u,rfl,ru⟩:=rv.one
 obtain ⟨z,its,n,r,hl,e⟩:=I.lstM hH
 refine call_meets F.slot_list_append ⟨_,e,rfl⟩ F.entry_list_append (F.args_list_append_2 _ _) (PySem.list_append l its.toArray n u (by rw [List.size_toArray]; omega)) ⟨e,?_⟩
 refine ⟨.non,_,I.lset (its':=its++[u]) hH e (by simp) (r.append (.cons ru .nil)) ?_,rfl,q⟩
 rw [List.length_append,List.length_singleton]
 omega
noncomputable def Zbn:V->List V->Hp->VK->Prop:=λx vs H Q=>∃ l xs,x=.ref l/\vs=[]/\H l=some (.lst xs)/\Q .non (upd H l (.lst xs.reverse))
theorem Ziz:MtM X "list.reverse" Zbn:=by
 intro pins s σ H x vs v us Q I rx rv h
 obtain ⟨l,xs,rfl,rfl,hH,q⟩:=h
 cases rx
 have hus:=rv.zero
 subst hus
 obtain ⟨z,its,n,r,hl,e⟩:=I.lstM hH
 refine call_meets F.slot_list_reverse ⟨_,e,rfl⟩ F.entry_list_reverse (F.args_list_reverse_1 _) (AutoSeq1.list_reverse_list_0 l its.toArray n (by rw [List.size_toArray]; omega)) ⟨e,?_⟩
 refine ⟨.non,_,I.lset (its':=its.reverse) hH e (by simp) r.reverse ?_,rfl,q⟩
 rw [List.length_reverse]
 omega
noncomputable def ZbI:R2:=λx y H Q=>∃ l b xs zs,x=.ref l/\y=.ref b/\H l=some (.lst xs)/\H b=some (.lst zs)/\xs.length+zs.length<=sizeLine/\∀ p,H p=none->Q (.ref p) (upd H p (.lst (xs++zs)))
theorem Zh1:OpR X (binaryOp .Add) ZbI:=by
 intro pins s σ H x y v u Q I rx ry h
 obtain ⟨l,b,xs,zs,rfl,rfl,hH,hB,hz,q⟩:=h
 cases rx
 cases ry
 obtain ⟨z,its,n,r,hl,e⟩:=I.lstM hH
 obtain ⟨z2,its2,n2,r2,hl2,e2⟩:=I.lstM hB
 refine PySem.P.add_list e e2 ?_ (by rw [List.size_toArray,List.size_toArray]; omega)
 have ea:its.toArray++its2.toArray=(its++its2).toArray:=by simp
 rw [ea]
 exact ⟨.ref _,_,I.lnew (t':=s.toks) (r.append r2) (by rw [List.length_append]; omega),rfl,q _ I.fresh⟩
noncomputable def Zbq:R2:=λx y H Q=>∃ l k xs,x=.ref l/\y=.int k/\H l=some (.lst xs)/\-(2 ^ 63)<=k/\k < 2 ^ 63/\xs.length * k.toNat<=sizeLine /\
 ∀ p,H p=none->Q (.ref p) (upd H p (.lst (List.replicate k.toNat xs).flatten))
theorem ZiO {α:Type} (xs:List α) (k:Nat):(List.replicate k xs).flatten.length=k * xs.length:=by
 induction k with
 | zero=>simp
 | succ k ih=>rw [List.replicate_succ,List.flatten_cons,List.length_append,ih,Nat.succ_mul,Nat.add_comm]
theorem ZhO:OpR X (binaryOp .Mult) Zbq:=by
 intro pins s σ H x y v u Q I rx ry h
 obtain ⟨l,k,xs,rfl,rfl,hH,h1,h2,hz,q⟩:=h
 cases rx
 obtain ⟨t,rfl⟩:=ry
 obtain ⟨z,its,n,r,hl,e⟩:=I.lstM hH
 have hlen:its.toArray.size * k.toNat<=sizeLine:=by rw [List.size_toArray,<- hl]; exact hz
 have hcap:¬ its.toArray.size * k.toNat > (2 ^ 63 - 1) / 8:=by
  have:(sizeLine:Nat)<=(2 ^ 63 - 1) / 8:=by decide
  omega
 have hfit:¬ (!Builtin.List.listFitsIndex k)=true:=by
  rw [fitsIndex_both h1 h2]
  exact Bool.false_ne_true
 have hlong:¬ Builtin.List.listTooLong (its.toArray.size * k.toNat)=true:=by
  rw [Zij hlen]
  exact Bool.false_ne_true
 have hnew:List.foldl (λx1 x2=>x1++x2) #[] (List.replicate (if its.toArray.isEmpty=true then 0 else k.toNat) its.toArray)=(List.replicate k.toNat its).flatten.toArray:=by
  have f0:∀ m:Nat,List.foldl (λx1 x2=>x1++x2) #[] (List.replicate m its.toArray)=(List.replicate m its).flatten.toArray:=λm=>by
   have:=ZcY its m []
   rw [List.nil_append] at this
   exact this
  rw [f0]
  cases its with
  | nil=>simp
  | cons a r'=>rw [if_neg (by simp)]
 refine wpAny_binaryOp_repeat_ref (T:="list") (U:="int") (by decide) ⟨_,e,rfl⟩ (λs'=>typeIs_int s' k t) noFill_list_mul F.fills_int_mul F.slot_int_rmul repeat_list F.slot_int_index.lookup
  (call_meets F.slot_int_rmul (typeIs_int s k t) F.entry_int_rmul (F.args_int_rmul_2 _ _) (int___rmul___int_list k t l its.toArray n)
   ⟨e,rfl,⟨_,e,rfl⟩,call_meets F.slot_list_mul ⟨_,e,rfl⟩ F.entry_list_mul (F.args_list_mul_2 _ _) (AutoListH.list___mul___list_int_3 l its.toArray n k t hfit hcap hlong) ⟨e,?_⟩⟩)
 rw [hnew]
 exact ⟨.ref _,_,I.lnew (t':=s.toks) (r.rep k.toNat) (by rw [ZiO,Nat.mul_comm]; exact hz),rfl,q _ I.fresh⟩
end
section
variable {prog:Program} {w:World} {A:Around} {E:Value->Shared->Prop} {s:Shared}
end
section
variable {X:Cx}
end
section
variable {κ:Type} [DecidableEq κ]
noncomputable def dF (kvs:List (κ×V)) (k:κ):Option V:=(kvs.find? λkv=>decide (kv.1=k)).map (·.2)
noncomputable def cI (kvs:List (κ×V)) (k:κ) (v:V):List (κ×V) :=
 if (kvs.any λkv=>decide (kv.1=k))=true then kvs.map (λkv=>if kv.1=k then (kv.1,v) else kv) else kvs++[(k,v)]
theorem i8 {p:κ×V} {r:List (κ×V)} {k:κ} (e:p.1=k):dF (p::r) k=some p.2:=by simp [dF,List.find?_cons,e]
theorem i9 {p:κ×V} {r:List (κ×V)} {k:κ} (e:¬ p.1=k):dF (p::r) k=dF r k:=by simp [dF,List.find?_cons,e]
theorem lD (k:κ):∀ kvs:List (κ×V),(kvs.any λkv=>decide (kv.1=k))=(dF kvs k).isSome
 | []=>rfl
 | p::r=>by
  rw [List.any_cons]
  by_cases e:p.1=k
  ·simp only [i8 e,decide_eq_true e,Bool.true_or,Option.isSome_some]
  ·rw [i9 e,decide_eq_false e,Bool.false_or]; exact lD k r
theorem qL (kvs:List (κ×V)) (k:κ) (v:V):(cI kvs k v).length<=kvs.length+1:=by
 unfold cI
 split
 ·rw [List.length_map]; omega
 ·rw [List.length_append,List.length_cons,List.length_nil]; omega
theorem RelO.isSome_eq {o:Option V} {u:Option Value} (r:RelO o u):o.isSome=u.isSome:=by
 cases o with
 | none=>cases u with
  | none=>rfl
  | some _=>exact (show False from r).elim
 | some _=>cases u with
  | none=>exact (show False from r).elim
  | some _=>rfl
theorem KV.val {kvs:List (κ×V)} {vs:List (κ×Value)} (r:KV kvs vs) (k:κ):RelO (dF kvs k) (valueAt vs k):=by
 unfold KV at r
 induction r with
 | nil=>exact True.intro
 | @cons p q ps qs h t ih =>
  obtain ⟨h1,h2⟩:=h
  by_cases e:p.1=k
  ·have e':q.1=k:=h1.symm.trans e
   have b:valueAt (q::qs) k=some q.2:=by simp [valueAt,List.find?_cons,e']
   rw [i8 e,b]; exact h2
  ·have e':¬ q.1=k:=λz=>e (h1.trans z)
   have b:valueAt (q::qs) k=valueAt qs k:=by simp [valueAt,List.find?_cons,e']
   rw [i9 e,b]; exact ih
theorem KV.any {kvs:List (κ×V)} {vs:List (κ×Value)} (r:KV kvs vs) (k:κ):(kvs.any λkv=>decide (kv.1=k))=vs.any λkv=>decide (kv.1=k):=by
 unfold KV at r
 induction r with
 | nil=>rfl
 | cons h t ih=>rw [List.any_cons,List.any_cons,ih,h.1]
theorem KV.repl {kvs:List (κ×V)} {vs:List (κ×Value)} (r:KV kvs vs) (k:κ) {y:V} {u:Value} (ry:RelV y u) :
  KV (kvs.map λkv=>if kv.1=k then (kv.1,y) else kv) (vs.map λkv=>if kv.1=k then (kv.1,u) else kv):=by
 unfold KV at r ⊢
 induction r with
 | nil=>exact .nil
 | @cons p q ps qs h t ih =>
  rw [List.map_cons,List.map_cons]
  refine .cons ?_ ih
  obtain ⟨h1,h2⟩:=h
  by_cases e:p.1=k
  ·rw [if_pos e,if_pos (h1.symm.trans e)]; exact ⟨h1,ry⟩
  ·rw [if_neg e,if_neg (λz=>e (h1.trans z))]; exact ⟨h1,h2⟩
theorem KV.put {kvs:List (κ×V)} {vs:List (κ×Value)} (r:KV kvs vs) (k:κ) {y:V} {u:Value} (ry:RelV y u):KV (cI kvs k y) (stored vs k u):=by
 unfold cI stored
 rw [r.any k]
 by_cases e:(vs.any λkv=>decide (kv.1=k))=true
 ·rw [if_pos e,if_pos e]; exact r.repl k ry
 ·rw [if_neg e,if_neg e]; exact Paired.snoc r ⟨rfl,ry⟩
theorem KV.length {kvs:List (κ×V)} {vs:List (κ×Value)} (r:KV kvs vs):kvs.length=vs.length:=Paired.length r
end
theorem nn {P:Program} {w:World} {k:ap} {u:Value} (r:RelV (kV k) u):(cT P w).is k u=true:=by
 cases k with
 | inl i=>obtain ⟨t,e⟩:=(show ∃ t,u=Value.int i t from r); subst e; exact ZiF P w i t
 | inr x=>obtain ⟨t,e⟩:=(show ∃ t,u=Value.str x t from r); subst e; exact ZiE P w x t
theorem ZcD {P:Program} {w:World}:∀ {ks:List ap} {us:List Value},Vals (ks.map kV) us->ItemsAre (cT P w) ks us
 | [],_,r=>by rw [List.map_nil] at r; cases r; exact .nil
 | k::ks,_,r=>by
  rw [List.map_cons] at r
  cases r with
  | cons h t=>exact .cons (nn h) (ZcD t)
noncomputable abbrev KT (H:Hp):List (List ap×V)->List (List ap×Addr×Value)->Prop:=Paired λp q=>p.1=q.1/\H q.2.1=some (.tup (p.1.map kV))/\RelV p.2 q.2.2
theorem KT.val {H:Hp} {kvs:List (List ap×V)} {xs:List (List ap×Addr×Value)} (r:KT H kvs xs) (k:List ap):RelO (dF kvs k) ((atKey xs k).map (·.2)):=by
 induction r with
 | nil=>exact True.intro
 | @cons p q ps qs h t ih =>
  obtain ⟨h1,_,h2⟩:=h
  by_cases e:p.1=k
  ·have e':q.1=k:=h1.symm.trans e
   have b:atKey (q::qs) k=some q.2:=by simp [atKey,List.find?_cons,e']
   rw [i8 e,b]; exact h2
  ·have e':¬ q.1=k:=λz=>e (h1.trans z)
   have b:atKey (q::qs) k=atKey qs k:=by simp [atKey,List.find?_cons,e']
   rw [i9 e,b]; exact ih
theorem KT.repl {H:Hp} {kvs:List (List ap×V)} {xs:List (List ap×Addr×Value)} (r:KT H kvs xs) (k:List ap) {y:V} {u:Value} (ry:RelV y u) :
  KT H (kvs.map λkv=>if kv.1=k then (kv.1,y) else kv) (xs.map (putAt k u)):=by
 induction r with
 | nil=>exact .nil
 | @cons p q ps qs h t ih =>
  rw [List.map_cons,List.map_cons]
  refine .cons ?_ ih
  obtain ⟨h1,h2,h3⟩:=h
  unfold putAt
  by_cases e:p.1=k
  ·rw [if_pos e,if_pos (h1.symm.trans e)]; exact ⟨h1,h2,ry⟩
  ·rw [if_neg e,if_neg (λz=>e (h1.trans z))]; exact ⟨h1,h2,h3⟩
theorem KT.put {H:Hp} {kvs:List (List ap×V)} {xs:List (List ap×Addr×Value)} (r:KT H kvs xs) (k:List ap) {b:Addr} {y:V} {u:Value} (hb:H b=some (.tup (k.map kV))) (ry:RelV y u) :
  KT H (cI kvs k y) (storedH xs k b u):=by
 have e:(kvs.any λkv=>decide (kv.1=k))=(atKey xs k).isSome:=by
  rw [lD,(r.val k).isSome_eq,Option.isSome_map]
 unfold cI storedH
 rw [e]
 by_cases q:(atKey xs k).isSome=true
 ·rw [if_pos q,if_pos q]; exact r.repl k ry
 ·rw [if_neg q,if_neg q]; exact Paired.snoc r ⟨rfl,hb,ry⟩
theorem KT.keeps {H H':Hp} {kvs:List (List ap×V)} {xs:List (List ap×Addr×Value)} (r:KT H kvs xs) (ht:∀ b ys,H b=some (.tup ys)->H' b=some (.tup ys)):KT H' kvs xs :=
 Paired.mapP r λ_ _ z=>⟨z.1,ht _ _ z.2.1,z.2.2⟩
section
variable {P:Program} {w:World} {H:Hp} {h:Heap} {a:Addr}
theorem Zbc {u:HO} (ok:HOk P w H h) (e:Rd H a u):ObjOk P w H h a u:=e.ok ok
theorem rL {kvs:List (ap×V)} (ok:HOk P w H h) (e:Rd H a (.dK kvs)):kvs.length<=sizeLine/\(a == sysModules)=false/\∃ vs,KV kvs vs/\h.DictOf (cT P w) a vs :=
 show ObjOk P w H h a (.dK kvs) from Zbc ok e
theorem Zds {kvs:List (ap×V)} (ok:HOk P w H h) (e:H a=some (.dK kvs)):kvs.length<=sizeLine/\(a == sysModules)=false/\∃ vs,KV kvs vs/\h.DictOf (cT P w) a vs:=rL ok (.inl e)
theorem q9 {ks:List ap} (ok:HOk P w H h) (e:H a=some (.tup (ks.map kV))):(tupleKind (cT P w)).is h ks a:=by
 obtain ⟨_,its,r,o,h1,h2,n,h3⟩:=(show ObjOk P w H h a (.tup (ks.map kV)) from ok a _ e)
 exact ⟨o,its.toArray,n,h1,h2,h3,by simpa using ZcD r⟩
theorem rK {kvs:List (List ap×V)} (ok:HOk P w H h) (e:Rd H a (.dT kvs)):kvs.length<=sizeLine/\(a == sysModules)=false /\
  ∃ xs,KT H kvs xs/\h.DictOfH (tupleKind (cT P w)) a xs:=by
 obtain ⟨z,y,xs,r,o,es,ep,h1,h2,h3,h4,h5⟩:=(show ObjOk P w H h a (.dT kvs) from Zbc ok e)
 refine ⟨z,y,xs,r,o,es,ep,h1,h2,h3,h4,λx hx=>?_,h5⟩
 have all:∀ {l:List (List ap×V)} {m:List (List ap×Addr×Value)},KT H l m->∀ x∈m,(tupleKind (cT P w)).is h x.1 x.2.1:=by
  intro l m q
  induction q with
  | nil=>intro x hx; exact nomatch hx
  | @cons p q ps qs hq t ih =>
   intro x hx
   rcases List.mem_cons.mp hx with e | hx
   ·subst e
    exact q9 ok (by rw [<- hq.1]; exact hq.2.1)
   ·exact ih x hx
 exact all r x hx
theorem ZnT {kvs:List (List ap×V)} (ok:HOk P w H h) (e:H a=some (.dT kvs)):kvs.length<=sizeLine/\(a == sysModules)=false /\
  ∃ xs,KT H kvs xs/\h.DictOfH (tupleKind (cT P w)) a xs:=rK ok (.inl e)
end
noncomputable def DGet (H:Hp) (a:Addr) (y:V) (r:Option V):Prop :=
 (∃ kvs k,Rd H a (.dK kvs)/\y=kV k/\r=dF kvs k)\/∃ kvs k b,Rd H a (.dT kvs)/\y=.ref b/\H b=some (.tup (k.map kV))/\r=dF kvs k
noncomputable def DPut (H:Hp) (a:Addr) (y v:V) (H':Hp):Prop :=
 (∃ kvs k,H a=some (.dK kvs)/\y=kV k/\kvs.length < sizeLine/\H'=upd H a (.dK (cI kvs k v))) \/
 ∃ kvs k b,H a=some (.dT kvs)/\y=.ref b/\H b=some (.tup (k.map kV))/\kvs.length < sizeLine/\H'=upd H a (.dT (cI kvs k v))
theorem DGet.k {H:Hp} {a:Addr} {kvs:List (ap×V)} {k:ap} (e:H a=some (.dK kvs)):DGet H a (kV k) (dF kvs k):=.inl ⟨kvs,k,.inl e,rfl,rfl⟩
theorem DPut.k {H:Hp} {a:Addr} {kvs:List (ap×V)} {k:ap} {v:V} (e:H a=some (.dK kvs)) (hl:kvs.length < sizeLine):DPut H a (kV k) v (upd H a (.dK (cI kvs k v))):=.inl ⟨kvs,k,e,rfl,hl,rfl⟩
section
variable {X:Cx} {pins:List (Addr×Obj)} {σ:St} {H:Hp} {s:Shared} {a:Addr} {y v:V} {u r:Value} {o:Option V} {A:Around} {E:Value->Shared->Prop}
theorem Inv.big (I:Inv X pins σ H s):sysModules < s.heap.objs.size:=by
 have h:mainGlobals < s.heap.objs.size:=(I.mod.glob.keeps I.bk).lt
 exact Nat.lt_trans (by decide) h
theorem Zop {Q:Value->Shared->Prop} (hu:A.units+1 < cLine) (I:Inv X pins σ H s) (g:DGet H a y (some v)) (ry:RelV y u) (h:∀ w' s',Inv X pins σ H s'->RelV v w'->Q w' s') :
  wpAny (model X.prog X.w) A (getItem (.ref a) u) Q E s:=by
 rcases g with ⟨kvs,k,e,ey,l⟩ | ⟨kvs,k,b,e,ey,eb,l⟩
 ·subst ey
  obtain ⟨z,hd,vs,rel,dd⟩:=rL I.hok e
  obtain ⟨w',hw,rw'⟩:=RelO.some_of (v:=v) (o:=valueAt vs k) (by rw [l]; exact rel.val k)
  exact wpAny_getItem_of (nn ry) dd.mapOf hw (h w' _ (I.tok _) rw')
 ·subst ey
  cases (show u=Value.ref b from ry)
  obtain ⟨z,hd,xs,rel,dd⟩:=rK I.hok e
  obtain ⟨w',hw,rw'⟩:=RelO.some_of (v:=v) (o:=(atKey xs k).map (·.2)) (by rw [l]; exact rel.val k)
  obtain ⟨p,hp,hp2⟩:=Option.map_eq_some_iff.mp hw
  refine wpAny_getItem_heap (tupleKind_room_in1 hu) (q9 I.hok eb) dd hp ?_
  rw [hp2]
  exact h w' _ (I.tok _) rw'
theorem rP {h':Heap} {t':Nat} {ob:HO} (I:Inv X pins σ H s) (mu:lp (H a)) (hs:Heap.SameBut a s.heap h') (he:∃ q,h'.get? a=some q) (new:ObjOk X.prog X.w (upd H a ob) h' a ob) :
  Inv X pins σ (upd H a ob) { s with heap:=h',toks:=t' } :=
 I.write (x:=a) (e:=a) mu (.inl rfl) (λb q hb z=>(hs.2 b hb).trans z) he new
theorem Zdt {P:Program} {w:World} {H':Hp} {h':Heap} {kvs:List (ap×V)} {vs:List (ap×Value)} (z:kvs.length<=sizeLine) (hd:(a == sysModules)=false) (rel:KV kvs vs) (dd:h'.DictOf (cT P w) a vs) :
  ObjOk P w H' h' a (.dK kvs):=⟨z,hd,vs,rel,dd⟩
theorem Zog {H':Hp} {Q:Unit->Shared->Prop} (hu:A.units+1 < cLine) (I:Inv X pins σ H s) (g:DPut H a y v H') (ry:RelV y u) (rv:RelV v r) (h:∀ s',Inv X pins σ H' s'->Q () s') :
  wpAny (model X.prog X.w) A (setItem (.ref a) u r) Q E s:=by
 rcases g with ⟨kvs,k,e,ey,l,eH⟩ | ⟨kvs,k,b,e,ey,eb,l,eH⟩
 ·subst ey eH
  obtain ⟨z,hd,vs,rel,dd⟩:=Zds I.hok e
  have hz:vs.length<=sizeLine:=by rw [<- rel.length]; exact z
  have hl:(cI kvs k v).length<=sizeLine:=by have:=qL kvs k v; omega
  refine wpAny_setItem_pairs (hsz:=hz) (nn ry) dd λh' dd' hs=>h _ ?_
  have he:∃ q,h'.get? a=some q:=let ⟨q,_,_,hq,_⟩:=dd'; ⟨q,hq⟩
  exact rP I (by rw [e]; exact True.intro) hs he (Zdt hl hd (rel.put k rv) dd')
 ·subst ey eH
  cases (show u=Value.ref b from ry)
  obtain ⟨z,hd,xs,rel,dd⟩:=ZnT I.hok e
  have hz:xs.length<=sizeLine:=by rw [<- Paired.length rel]; exact z
  have hl:(cI kvs k v).length<=sizeLine:=by have:=qL kvs k v; omega
  refine wpAny_setItem_heap (hsz:=hz) (tupleKind_room_in1 hu) (q9 I.hok eb) dd λh' dd' hs=>h _ ?_
  obtain ⟨q,es,ep,hq,h2,h3,h4,_,h5⟩:=dd'
  refine rP I (by rw [e]; exact True.intro) hs ⟨q,hq⟩ ⟨hl,hd,_,(rel.put k eb rv).keeps λc ys ec=>?_,q,es,ep,hq,h2,h3,h4,h5⟩
  rw [aJ (qw ec e (λz=>nomatch z))]
  exact ec
end
section
variable {X:Cx} {pins:List (Addr×Obj)} {σ:St} {H:Hp} {s:Shared} {a:Addr} {kvs:List (ap×V)} {k:ap} {u:Value} {A:Around} {E:Value->Shared->Prop}
end
noncomputable def ZeF (i:Expr):Prop:=∀ ov iv,subscripted i false ov iv=operate [ov,iv] (getItem ov iv)
theorem ZfJ {prog:Program} {w:World} {A:Around} {E:Value->Shared->Prop} {s:Shared} {env:Env} {value slice:Expr} {pos:Pos} {T id:String} {Q:Value->Shared->Prop}
  (hl:typeLookup (.type T) "__getitem__"=pure (some (.builtin id))) (hs:ZeF slice)
  (h:wpAny (model prog w) A (eval value env) (λo s₁=>wpAny (model prog w) A (eval slice env) (λi s₂=>s₂.TypeIs o T/\wpAny (model prog w) A (getItem o i) Q E s₂) E s₁) E s) :
  wpAny (model prog w) A (eval (.Subscript value slice pos) env) Q E s:=by
 refine Subscript_ (wpAny_mono h (λo s₁ h₁=>wpAny_mono h₁ (λi s₂ h₂=>?_) λ_ _ x=>x) λ_ _ x=>x)
 obtain ⟨hT,h₂⟩:=h₂
 unfold subscriptTail
 refine wpAny_bind ?_
 rw [getitemInPython_of_ne hT.not_modules]
 refine wpAny_bind (wpAny_specialOf hT hl ?_)
 have fin:wpAny (model prog w) A (subscripted slice false o i) (λr s₃=>wpAny (model prog w) A (letTemporaryGo value o r >>= λ_=>pure r) Q E s₃) E s₂:=by
  rw [hs o i]
  exact wpAny_operating (wpAny_mono h₂ (λr s₃ h₃=>wpAny_bind (wpAny_letTemporaryGo (wpAny_pure h₃))) λ_ _ x=>x)
 first
  | exact wpAny_pure (wpAny_bind fin)
  | exact wpAny_bind (wpAny_pure (wpAny_bind fin))
  | exact wpAny_bind fin
theorem Zn0 {X:Cx} {pins:List (Addr×Obj)} {σ:St} {H:Hp} {s:Shared} {a:Addr} {y:V} {o:Option V} (I:Inv X pins σ H s) (g:DGet H a y o):s.TypeIs (.ref a) "dict":=by
 rcases g with ⟨kvs,k,e,_,_⟩ | ⟨kvs,k,b,e,_,_,_⟩
 ·obtain ⟨_,_,vs,_,dd⟩:=rL I.hok e
  exact dd.typeIs
 ·obtain ⟨_,_,xs,_,dd⟩:=rK I.hok e
  exact dd.typeIs
noncomputable def ZfG (td ty:TE):TE:=λσ H Q=>td σ H λx H1=>ty σ H1 λy H2=>∃ a v,x=.ref a/\DGet H2 a y (some v)/\Q v H2
noncomputable def Zgy (td ty tv:TE):TS:=λD σ H=>tv σ H λv H1=>td σ H1 λx H2=>ty σ H2 λy H3=>∃ a H4,x=.ref a/\DPut H3 a y v H4/\D.nx σ H4
section
variable {X:Cx} {o i e value:Expr} {pos pos' tpos:Pos} {td ty tv:TE}
theorem kK (hu:X.A.units+1 < cLine) (ho:PE X o td) (hi:PE X i ty) (hs:ZeF i):PE X (.Subscript o i pos) (ZfG td ty):=by
 intro pins s σ H Q I h
 refine ZfJ PySem.F.slot_dict_getitem.lookup hs (thn (ho pins s σ H _ I h) λu s1 ⟨x,H1,I1,rx,q1⟩=>thn (hi pins s1 σ H1 _ I1 q1) λiv s2 hz0=>?_)
 obtain ⟨y,H2,I2,ry,a,v,ex,g,q2⟩:=hz0
 subst ex
 obtain rfl:u=Value.ref a:=rx
 exact ⟨Zn0 I2 g,Zop hu I2 g ry λw' s3 I3 rw'=>⟨v,H2,I3,rw',q2⟩⟩
theorem qa (hu:X.A.units+1 < cLine) (ho:PE X o td) (hi:PE X i ty) (hv:PE X value tv) (hs:swapsWith value (some (.Subscript o i pos')) pos.line X.env=pure false) :
  PS X (.Assign [.Subscript o i pos'] value pos) (Zgy td ty tv):=by
 intro pins s σ H D I h
 refine wpAny_Assign_Subscript (thn (hv pins s σ H _ I h) λr s1 ⟨v,H1,I1,rv,q1⟩=>thn (ho pins s1 σ H1 _ I1 q1) λu s2 ⟨x,H2,I2,rx,q2⟩=>thn (hi pins s2 σ H2 _ I2 q2) λiv s3 hz0=>?_) hs
 obtain ⟨y,H3,I3,ry,a,H4,ex,g,q3⟩:=hz0
 subst ex
 obtain rfl:u=Value.ref a:=rx
 exact Zog hu I3 g ry rv λs4 I4=>⟨σ,H4,I4,q3⟩
end
theorem Zdu {P:Program} {w:World} {H:Hp} (h:Heap) (hb:sysModules < h.objs.size):ObjOk P w H (h.push { cls:=.type "dict",data:=.dict #[] }) h.objs.size (.dK []) :=
 ⟨Nat.zero_le _,beq_eq_false_iff_ne.mpr (Ne.symm (Nat.ne_of_lt hb)),[],.nil,Heap.DictOf.new h⟩
noncomputable def ZfF:TE:=λ_ H Q=>∀ p,H p=none->Q (.ref p) (upd H p (.dK []))
section
variable {X:Cx} {pos:Pos}
theorem Zhw:PE X (.Dict [] [] pos) ZfF:=λpins s σ H Q I h =>
 wpAny_Dict_empty ⟨.ref s.heap.objs.size,_,I.laid (a:=s.heap.objs.size) (o:=.dK []) (t':=s.toks) (λ_ _ q=>Heap.get?_push_of_some _ q) (Nat.le_refl _) (Zdu s.heap I.big),rfl,h _ (I.hok.fresh (Nat.le_refl _))⟩
end
noncomputable def pj:List (TE×TE)->St->Hp->(List (V×V)->Hp->Prop)->Prop
 | [],_,H,Q=>Q [] H
 | (tk,tv)::r,σ,H,Q=>tk σ H λx H1=>tv σ H1 λy H2=>pj r σ H2 λps H3=>Q ((x,y)::ps) H3
noncomputable abbrev VV:List (V×V)->List (Value×Value)->Prop:=Paired λp q=>RelV p.1 q.1/\RelV p.2 q.2
noncomputable def oB (X:Cx) (pos:Pos) (keys:List (Option Expr)) (values:List Expr) (trs:List (TE×TE)):Prop :=
 ∀ (pins:List (Addr×Obj)) (s:Shared) (σ:St) (H:Hp) (Q:List (V×V)->Hp->Prop),Inv X pins σ H s->pj trs σ H Q ->
  wpAny (model X.prog X.w) X.A (evalPairs (pairTrees keys values X.env pos)) (λvs s'=>∃ ps H',Inv X pins σ H' s'/\VV ps vs/\Q ps H') X.xe s
theorem Zhc {X:Cx} {pos:Pos}:oB X pos [] [] []:=λpins s σ H Q I h=>pairTrees_nil_walk ⟨[],H,I,.nil,h⟩
theorem qc {X:Cx} {pos:Pos} {k v:Expr} {ks:List (Option Expr)} {vs:List Expr} {tk tv:TE} {trs:List (TE×TE)} (hk:PE X k tk) (hv:PE X v tv) (hr:oB X pos ks vs trs) :
  oB X pos (some k::ks) (v::vs) ((tk,tv)::trs):=λpins s σ H Q I h =>
 pairTrees_cons_walk (thn (hk pins s σ H _ I h) λu s1 ⟨x,H1,I1,rx,q1⟩=>thn (hv pins s1 σ H1 _ I1 q1) λw2 s2 ⟨y,H2,I2,ry,q2⟩ =>
  thn (hr pins s2 σ H2 _ I2 q2) λws s3 ⟨ps,H3,I3,rel,q3⟩=>⟨(x,y)::ps,H3,I3,.cons ⟨rx,ry⟩ rel,q3⟩)
noncomputable def kR (kvs more:List (ap×V)):List (ap×V):=more.foldl (λacc kv=>cI acc kv.1 kv.2) kvs
theorem KV.merge:∀ {more:List (ap×V)} {rs:List (ap×Value)} {kvs:List (ap×V)} {vs:List (ap×Value)},KV more rs->KV kvs vs->KV (kR kvs more) (merged vs rs):=by
 intro more rs kvs vs r
 unfold KV at r
 induction r generalizing kvs vs with
 | nil=>intro q; exact q
 | @cons p q ps qs h t ih =>
  intro r0
  have e:KV (cI kvs p.1 p.2) (stored vs q.1 q.2):=by
   have:=r0.put p.1 h.2
   rw [<- h.1]; exact this
  exact ih e
theorem Zcs:∀ (more kvs:List (ap×V)),(kR kvs more).length<=kvs.length+more.length
 | [],kvs=>by show kvs.length<=kvs.length+0; omega
 | p::r,kvs=>by
  have h1:=Zcs r (cI kvs p.1 p.2)
  have h2:=qL kvs p.1 p.2
  show (kR (cI kvs p.1 p.2) r).length<=_
  rw [List.length_cons]; omega
theorem Zd1 {P:Program} {w:World}:∀ {kvs:List (ap×V)} {ws:List (Value×Value)},VV (kvs.map λkv=>(kV kv.1,kv.2)) ws->∃ rs,Carries (cT P w) ws rs/\KV kvs rs
 | [],_,r=>by rw [List.map_nil] at r; cases r; exact ⟨[],True.intro,.nil⟩
 | p::kvs,_,r=>by
  rw [List.map_cons] at r
  cases r with
  | @cons a b as bs h t =>
   obtain ⟨rs,c,q⟩:=Zd1 (P:=P) (w:=w) t
   obtain ⟨b1,b2⟩:=b
   exact ⟨(p.1,b2)::rs,⟨nn h.1,rfl,c⟩,.cons ⟨rfl,h.2⟩ q⟩
noncomputable def ZfE (trs:List (TE×TE)):TE:=λσ H Q=>∀ p,H p=none->pj trs σ (upd H p (.dK [])) λps H2=>H2 p=some (.dK [])/\∃ kvs:List (ap×V),ps=kvs.map (λkv=>(kV kv.1,kv.2))/\kvs.length<=15/\Q (.ref p) (upd H2 p (.dK (kR [] kvs)))
theorem Zhx {X:Cx} {pos:Pos} {keys:List (Option Expr)} {values:List Expr} {trs:List (TE×TE)} (h:oB X pos keys values trs) (hall:keys.all (·.isSome)=true) (hl:keys.length=values.length) (h0:keys≠[])
  (h15:keys.length<=15):PE X (.Dict keys values pos) (ZfE trs):=by
 intro pins s σ H Q I q
 have hn:=I.hok.fresh (Nat.le_refl s.heap.objs.size)
 have I1:=I.laid (a:=s.heap.objs.size) (o:=.dK []) (h':=s.heap.push { cls:=.type "dict",data:=.dict #[] }) (t':=s.toks) (λ_ _ q=>Heap.get?_push_of_some _ q) (Nat.le_refl _) (Zdu s.heap I.big)
 refine wpAny_Dict_walk (knd:=cT X.prog X.w) hall hl h0 h15 (thn (h pins _ σ _ _ I1 (q _ hn)) λws s2 hz0=>?_)
 obtain ⟨ps,H2,I2,rel,e,kvs,ep,lk,q2⟩:=hz0
 subst ep
 obtain ⟨rs,c,rk⟩:=Zd1 (P:=X.prog) (w:=X.w) rel
 obtain ⟨z,hd,vs0,r0,dd⟩:=Zds I2.hok e
 cases r0
 refine ⟨rs,c,dd,λh' dd' hs=>⟨.ref s.heap.objs.size,_,?_,rfl,q2⟩⟩
 have hz:(kR [] kvs).length<=sizeLine:=by
  have h1:=Zcs kvs []
  rw [List.length_nil] at h1
  rw [sizeLine_eq]; omega
 have he:∃ q,h'.get? s.heap.objs.size=some q:=let ⟨q,_,_,hq,_⟩:=dd'; ⟨q,hq⟩
 exact rP I2 (by rw [e]; exact True.intro) hs he (Zdt hz hd (rk.merge .nil) dd')
section
variable {X:Cx} {pins:List (Addr×Obj)} {σ:St} {H:Hp} {s:Shared} {a:Addr} {y d:V} {u r:Value} {o:Option V} {A:Around} {E:Value->Shared->Prop}
end
section
variable {X:Cx} {o e f:Expr} {apos cpos:Pos} {td ty tx:TE}
end
section
variable {X:Cx} {pins:List (Addr×Obj)} {σ:St} {H:Hp} {s:Shared} {a:Addr} {kvs:List (ap×V)} {A:Around} {E:Value->Shared->Prop}
end
section
variable {X:Cx} {pins:List (Addr×Obj)} {σ:St} {H:Hp} {s:Shared} {a:Addr} {y:V} {u:Value} {A:Around} {E:Value->Shared->Prop}
end
end L2
namespace Att
open PySem PySem.W PySem.Calls PyProof.Rows
theorem ints_of_wellAll {P:Params} {h:Heap}:∀ (ns:List Int) (vs:List Value),WellAll P h vs (ns.map WData.int)->IntsAre vs ns:=by
 intro ns
 induction ns with
 | nil =>
  intro vs w
  rw [List.map_nil] at w
  cases w
  exact .nil
 | cons n ns ih =>
  intro vs w
  rw [List.map_cons] at w
  cases w with
  | cons a b =>
   cases a
   exact .cons _ _ (ih _ b)
theorem script_of {l:OpenLaw} {n:Nat} (hn:l.most=some n) {P:Params} {h:Heap} {args:List WData} {vals:List Value}
  (hpre:l.row.toRowW.claim.pre args=true) (hwl:WellAll P h vals args) :
  ∃ a vs ns,vals=[Value.ref a]/\args=[WData.list (ns.map WData.int)]/\h.get? a=some { cls:=.type "list",data:=.seq vs.toArray }/\IntsAre vs ns/\ns.length<=n:=by
 have hsh:WShape.hasAll [] args [.list .int]=true:=(pre_splitW hpre).1
 have hc:l.pre.holds [] { args:=args }=true:=(pre_splitW hpre).2
 obtain ⟨d,r,rfl,h1,h2⟩:=hasAllW_cons hsh
 obtain rfl:=hasAllW_nil h2
 obtain ⟨xs,rfl,h3⟩:=hasW_list h1
 obtain ⟨ns,rfl⟩:=items_int h3
 have hlen:ns.length<=n:=by
  unfold OpenLaw.pre at hc
  have h4:(WTm.not (.lt (.lit (.int (n:Int))) (.len (.arg 0)))).holds [] { args:=[.list (ns.map .int)] }=true:=by
   have h4:=(holds_andW hc).1
   rw [hn] at h4
   exact h4
  have h5:=condW_of h4 (w_not (w_lt w_lit (w_len_list (w_arg rfl))))
  rw [List.length_map] at h5
  refine Nat.le_of_not_lt λq=>?_
  have q':(n:Int) < ((ns.length:Nat):Int):=by omega
  first
   | (rw [decide_eq_true q'] at h5; exact absurd h5 (by decide))
   | (simp at h5; omega)
 cases hwl with
 | cons w1 w2 =>
  cases w2
  cases w1 with
  | list ho hall=>exact ⟨_,_,ns,rfl,rfl,ho,ints_of_wellAll ns _ hall,hlen⟩
theorem post_true (l:OpenLaw) (args:List WData):l.row.toRowW.claim.post args (.bool true) args=true :=
 postW_of (r:=l.row.toRowW) (X:=(true == true))
  (show WShape.has [] (.bool true) .bool=true by first | rfl | decide | simp [WShape.has,WShape.arms,WShape.armsAll])
  (show (WTm.eq .res (.lit (.bool true))).value [] { args:=args,res:=some (.bool true),after:=args }=some (.bool (true == true)) from w_eq_bool (w_res rfl) w_lit) rfl
theorem attach_call {l:OpenLaw} {n:Nat} {q:Program} {loose:List Str} {XP:(Str->Option Value)->Heap->Prop} {YP:World->Heap->Prop} {d:DefRec}
  (hn:l.most=some n) (hdf:d.params.defaults=[])
  (call:∀ (w:World) (s₀ s₁:Shared) (mg mb:Str->Option Value) (fa:Addr) (o:Obj) (pm cd doc:Value) (a:Addr) (vs:List Value) (ns:List Int),
   Ground q loose [] XP w s₀ mg mb s₁.heap->YP w s₁.heap ->
   s₁.heap.get? fa=some o->o.data=.func (docDef d.name d.params d.body d.scope pm cd doc)->s₁.heap.CodeRec cd d.name->mg d.name=some (.ref fa) ->
   s₁.heap.get? a=some { cls:=.type "list",data:=.seq vs.toArray }->IntsAre vs ns->ns.length<=n->s₁.gens=#[] ->
   codeAny (model l.prog w) callerA (.call (.ref fa) ⟨[.ref a],[]⟩) (λr s'=>r=.ok (.ret (.bool true))/\OldK s₁.heap s'.heap/\s'.os=s₁.os/\AllBare s'.gens) s₁) :
  WalkO q loose XP YP l.row.toRowW d [] (λf vs=>PySem.call f vs):=by
 intro w s₀ s₁ mg mb G Y fa o pm cd doc dV kV ho hd hcd hD hmg hg args vals as hpre hlay hrd hwl hlo
 obtain rfl:dV=.none:=Dflts.none hD hdf
 obtain rfl:kV=.none:=Dflts.noKw hD
 obtain ⟨a,vs,ns,rfl,rfl,hobj,hints,hlen⟩:=script_of hn hpre hwl
 refine enter_call (codeAny_mono (call w s₀ s₁ mg mb fa o pm cd doc a vs ns G Y ho (fd_plain hd) hcd hmg hobj hints hlen hg) λr s' hq=>?_)
 obtain ⟨rfl,h2,h3,h4⟩:=hq
 exact ⟨.inl ⟨.bool true,.bool true,[],rfl,λ_=>rfl,.bool true,post_true l _,λ_=>⟨List.Pairwise.nil,λ_ hm=>(nomatch hm)⟩⟩,h2,h3,h4⟩
section
variable {prog:Program} {w:World} {A:Around} {E:Value->Shared->Prop} {s:Shared} {K:Frag}
end
end Att
namespace L2
open PySem PySem.Spec PyProof.Rows
theorem Zfd {vs:List Value} {ns:List Int} (h:IntsAre vs ns):Vals (ns.map V.int) vs:=by
 induction h with
 | nil=>exact .nil
 | cons n t h ih=>exact .cons ⟨t,rfl⟩ ih
noncomputable def oD (H:Hp):Prop:=∀ b,H b=none\/∃ o xs,H b=some (.frz o (.lst xs))
theorem ZiX {P:Program} {w:World} {K:PySem.W.Frag} {mg mb:Str->Option Value} {CX:dq} {k:Nat} {fa a:Addr} {fd:FuncData} {x:Str} {sp:Sp} {s₁:Shared} {vs:List Value} {ns:List Int}
  (KX:K.In s₁.heap) (hns:s₁.heap.Ns mainGlobals mg) (hb:s₁.heap.Ns builtinsNs mb) (hbb:∀ x:Str,x≠"__name__"->mb x=bootBuiltins x) (hlim:s₁.heap.NoLimit) (hdig:s₁.heap.NoDigits) (hg:s₁.gens=#[])
  (ha:s₁.heap.get? a=some { cls:=.type "list",data:=.seq vs.toArray }) (hi:IntsAre vs ns) (hl:ns.length<=sizeLine) (hr:Room k callerA)
  (F:∀ base:Heap,K.In base->base.Ns mainGlobals mg->FnOk P w K mg base CX k fa fd [x] sp) (hbind:∀ (s:Shared) (u:Value),BindsTo s fd ⟨[u],[]⟩ [(x,u)])
  (hsp:∀ H:Hp,oD H->SqL K H a (ns.map V.int)->sp [.ref a] H (λv _=>v=.bl true) λ_ _ _=>False)
  (hCX:∀ H e s',CX [] H s₁ (λ_ _ _=>False) e s'->False) :
  codeAny (model P w) callerA (.call (.ref fa) ⟨[.ref a],[]⟩) (λr s'=>r=.ok (.ret (.bool true))/\OldK s₁.heap s'.heap/\s'.os=s₁.os/\AllBare s'.gens) s₁:=by
 have rv:=Zfd hi
 have lenV:=hi.length
 -- from an abstract heap in which nothing but the script may be tracked
 have core:∀ H:Hp,oD H->SqL K H a (ns.map V.int)->HOk P w H s₁.heap->(∀ b,H b≠none->b=a)->(H a≠none->K.lookup a=none) ->
   codeAny (model P w) callerA (.call (.ref fa) ⟨[.ref a],[]⟩) (λr s'=>r=.ok (.ret (.bool true))/\OldK s₁.heap s'.heap/\s'.os=s₁.os/\AllBare s'.gens) s₁:=by
  intro H hO hS hok hA hK
  have base_of:∀ {b:Addr} {o:Obj},s₁.heap.get? b=some o->H b=none->(gm s₁.heap H).get? b=some o:=λe n=>Zjs e n
  have noA:∀ {b:Addr} {o:Obj} {es:Array DictEntry} {ep:Nat},s₁.heap.get? b=some o->o.data=.dict es ep->H b=none:=λ{b o es ep} e d=>by
   cases q:H b with
   | none=>rfl
   | some u =>
    have e':b=a:=hA b (by rw [q]; simp)
    subst e'
    rw [ha] at e; cases e
    have d':Data.seq vs.toArray _=Data.dict es ep:=d
    cases d'
  have nsK:∀ {b:Addr} {m:Str->Option Value},s₁.heap.Ns b m->(gm s₁.heap H).Ns b m:=λ{b m} hz0=>by
   obtain ⟨o,es,ep,e,d,r⟩:=hz0
   exact ⟨o,es,ep,base_of e (noA e d),d,r⟩
  have hKb:K.In (gm s₁.heap H):=λb o e=>base_of (KX b o e) (by
   cases q:H b with
   | none=>rfl
   | some u =>
    have e':b=a:=hA b (by rw [q]; simp)
    subst e'
    rw [hK (by rw [q]; simp)] at e; cases e)
  have hM:Mod K mg (gm s₁.heap H):=⟨hKb,nsK hns,⟨mb,nsK hb,hbb⟩,let ⟨mc,h1,h2⟩:=hlim; ⟨mc,nsK h1,h2⟩,let ⟨mc,h1,h2⟩:=hdig; ⟨mc,nsK h1,h2⟩⟩
  have e0:Env0 P w K mg (gm s₁.heap H) callerA [] s₁ H:=⟨rfl,hM,λb o e=>Zh8 e,Nat.le_of_eq (Zjr _ _),trivial,λb hb=>absurd (show b∈([]:List Addr) from hb) (by simp),hok,.of_eq hg⟩
  refine codeAny_mono ((F _ hKb (nsK hns)).run callerA [] s₁ H ⟨[.ref a],[]⟩ [.ref a] [.ref a] _ _ hr e0 (hbind s₁ (.ref a)) (.cons rfl .nil) (hsp H hO hS)) λr s' h=>?_
  cases r with
  | error e=>exact (hCX H e s' h).elim
  | ok fl =>
   cases fl with
   | next=>exact False.elim h
   | brk=>exact False.elim h
   | cont=>exact False.elim h
   | ret u =>
    obtain ⟨v,H',os,bare,un,hok',r',q⟩:=h
    have q':v=.bl true:=q
    subst q'
    obtain rfl:u=Value.bool true:=r'
    refine ⟨rfl,OldK.of_keep λb o e=>?_,os,bare⟩
    cases q:H b with
    | none=>exact un.keep b o e q (by intro z; exact absurd (show b∈([]:List Addr) from z) (by simp)) (by simp)
    | some u =>
     rcases hO b with z | ⟨ob,xs,z⟩
     ·rw [q] at z; cases z
     ·have z2:=un.frzs b ob _ z
      obtain ⟨e1,_⟩:=hok b _ z
      obtain ⟨e2,_⟩:=hok' b _ z2
      rw [e] at e1; cases e1
      exact e2
 cases hk:K.lookup a with
 | some o =>
  -- the script is one of the module's own objects
  have e:=KX a o hk
  rw [ha] at e
  cases e
  refine core (λ_=>none) (λ_=>.inl rfl) (.inr ⟨_,vs.toArray,_,hk,rfl,rfl,rfl,by rw [List.size_toArray,lenV]; exact hl,by simpa using rv⟩) (λb u z=>by have z':(none:Option HO)=some u:=z; cases z') (λb z=>absurd rfl z) λz=>absurd rfl z
 | none =>
  refine core (λb=>if b=a then some (.frz { cls:=.type "list",data:=.seq vs.toArray } (.lst (ns.map V.int))) else none) (λb=>?_) (.inl (.inr ⟨{ cls:=.type "list",data:=.seq vs.toArray },if_pos rfl⟩)) (λb u z=>?_) (λb z=>?_) λ_=>hk
  ·by_cases hb:b=a
   ·exact .inr ⟨_,_,if_pos hb⟩
   ·exact .inl (if_neg hb)
  ·by_cases hb:b=a
   ·have z':=(if_pos hb).symm.trans z
    cases z'
    subst hb
    exact ⟨ha,by rw [List.length_map]; exact hl,vs,_,rv,ha⟩
   ·have z':=(if_neg hb).symm.trans z
    cases z'
  ·by_cases hb:b=a
   ·exact hb
   ·exact absurd (if_neg hb) z
noncomputable abbrev aO {K:PySem.W.Frag} {h:Heap} (_:K.In h):PySem.W.Frag:=K
theorem Ze2 {l:PySem.W.OpenLaw} {n k:Nat} {q:Program} {loose:List Str} {XP:(Str->Option Value)->Heap->Prop} {YP:World->Heap->Prop} {d:DefRec} {K:Params->PySem.W.Frag} {CX:World->dq} {sp:World->Sp} {x:Str}
  (hn:l.most=some n) (hn2:n<=sizeLine) (hdf:d.params.defaults=[]) (hr:Room k callerA)
  (hY:∀ (w:World) (h:Heap),YP w h->(K w.params).In h)
  (F:∀ (w:World) (mg:Str->Option Value) (fa:Addr) (h:Heap),(K w.params).In h->h.Ns mainGlobals mg->mg d.name=some (.ref fa) ->
   ∃ fd:FuncData,(∀ (s:Shared) (u:Value),BindsTo s fd ⟨[u],[]⟩ [(x,u)]) /\
    ∀ base:Heap,(K w.params).In base->base.Ns mainGlobals mg->FnOk l.prog w (K w.params) mg base (CX w) k fa fd [x] (sp w))
  (hsp:∀ (w:World) (H:Hp) (a:Addr) (ns:List Int),ns.length<=n->oD H->SqL (K w.params) H a (ns.map V.int)->sp w [.ref a] H (λv _=>v=.bl true) λ_ _ _=>False)
  (hCX:∀ (w:World) (H:Hp) (s:Shared) (e:Value) (s':Shared),CX w [] H s (λ_ _ _=>False) e s'->False) :
  PySem.W.WalkO q loose XP YP l.row.toRowW d [] (λf vs=>PySem.call f vs):=by
 refine Att.attach_call hn hdf λw s₀ s₁ mg mb fa o pm cd doc a vs ns G Y ho hd hcd hmg hobj hints hlen hg=>?_
 have KX:=hY w _ Y
 obtain ⟨fd,hb,hF⟩:=F w mg fa _ KX G.T.g hmg
 exact ZiX KX G.T.g G.T.b G.T.builtins G.T.nolimit G.T.nodigits hg hobj hints (Nat.le_trans hlen hn2) hr hF hb (λH hO hS=>hsp w H a ns hlen hO hS) λH e s'=>hCX w H s₁ e s'
theorem Ze1 {l:PySem.W.OpenLaw} {n k:Nat} {q:Program} {loose:List Str} {XP:(Str->Option Value)->Heap->Prop} {YP:World->Heap->Prop} {d:DefRec} {K:Params->PySem.W.Frag} {CX:dq} {sp:PySem.W.Frag->Sp} {x:Str}
  (hn:l.most=some n) (hn2:n<=sizeLine) (hdf:d.params.defaults=[]) (hr:Room k callerA)
  (hY:∀ (w:World) (h:Heap),YP w h->(K w.params).In h)
  (F:∀ (w:World) (mg:Str->Option Value) (fa:Addr) (h:Heap),(K w.params).In h->h.Ns mainGlobals mg->mg d.name=some (.ref fa) ->
   ∃ fd:FuncData,(∀ (s:Shared) (u:Value),BindsTo s fd ⟨[u],[]⟩ [(x,u)]) /\
    ∀ base:Heap,(K w.params).In base->base.Ns mainGlobals mg->FnOk l.prog w (K w.params) mg base CX k fa fd [x] (sp (K w.params)))
  (hsp:∀ (K:PySem.W.Frag) (H:Hp) (a:Addr) (ns:List Int),ns.length<=n->oD H->SqL K H a (ns.map V.int)->sp K [.ref a] H (λv _=>v=.bl true) λ_ _ _=>False)
  (hCX:∀ (H:Hp) (s:Shared) (e:Value) (s':Shared),CX [] H s (λ_ _ _=>False) e s'->False) :
  PySem.W.WalkO q loose XP YP l.row.toRowW d [] (λf vs=>PySem.call f vs) :=
 Ze2 (K:=K) (CX:=λ_=>CX) (sp:=λw=>sp (K w.params)) hn hn2 hdf hr hY F (λw H a ns h1 h2 h3=>hsp (K w.params) H a ns h1 h2 h3) λ_ H s e s'=>hCX H s e s'
noncomputable def jH (s:Stmt):Arguments:=match s with
 | .FunctionDef _ a _ _ _ _ _ _ _ _=>a
 | _=>{ posonlyargs:=[],args:=[],vararg:=none,kwonlyargs:=[],kw_defaults:=[],kwarg:=none,defaults:=[] }
noncomputable def fe (s:Stmt):List Stmt:=match s with
 | .FunctionDef _ _ b _ _ _ _ _ _ _=>b
 | _=>[]
noncomputable def aB (s:Stmt):Scope:=match s with
 | .FunctionDef _ _ _ _ _ _ sc _ _ _=>sc
 | _=>{ kind:=.function,names:=[],isGenerator:=false,isCoroutine:=false }
noncomputable abbrev g0:dq:=λ_ _ _ _ _ _=>False
noncomputable abbrev E0:XK:=λ_ _ _=>False
theorem ZhH {X:Cx}:jV g0 X E0:=λ_ _ _ _ _ _ _ h=>h.elim
structure Fun (K:PySem.W.Frag) (x qual:Str) (st:Stmt) (f:Addr) (fd:FuncData):Prop where
 ex:∃ (oc:Value) (od:Option Addr) (kV doc pm:Value) (an:Option Addr) (cdv ct:Value) (osl:Array (Option Value)),
  fd=PySem.W.fnOf x qual (jH st) (fe st) (aB st) .none kV doc pm an cdv ct/\K.lookup f=some ⟨oc,od,.func fd,osl⟩/\PySem.W.codeIn K cdv qual=true
 kp:PySem.W.keepIn K (.ref f)=true
section
variable {P:Program} {w:World} {K:PySem.W.Frag} {mg:Str->Option Value} {base:Heap}
theorem Fun.ok {x qual:Str} {st:Stmt} {f:Addr} {fd:FuncData} {N ps:List Str} {k:Nat} {sp:Sp} (F:Fun K x qual st f fd) (S:FnScope N ps (aB st)) (len:∀ vs H Q E,sp vs H Q E->vs.length=ps.length)
  (hbody:∀ (cdv:Value) (A:Around) (outer:List Env) (s:Shared) (H:Hp) (vs:List V) (Q:VK) (E:XK),Room k (A.deeper (envOfC qual (aB st) s.heap.objs.size f cdv))->sp vs H Q E ->
   ∃ t,PSs (cE g0 P w K mg base N qual (aB st) f cdv A outer s H E).nox (fe st) t/\t { nx:=λ_ H'=>Q .non H',rt:=Q } (start N vs) H):FnOk P w K mg base g0 (k+1) f fd ps sp:=by
 obtain ⟨oc,od,kV,doc,pm,an,cdv,ct,osl,rfl,lk,hcd⟩:=F.ex
 refine Zc0 lk hcd S len λA outer s H vs Q E hr hsp=>?_
 obtain ⟨t,h,q⟩:=hbody cdv A outer s H vs Q E hr hsp
 exact ⟨t,h.nox,q⟩
theorem Fun.binds {x qual:Str} {st:Stmt} {f:Addr} {fd:FuncData} {ps:List Str} (F:Fun K x qual st f fd)
  (h:∀ (kV doc pm:Value) (an:Option Addr) (cdv ct:Value) (us:List Value),us.length=ps.length->bindArgs (PySem.W.fnOf x qual (jH st) (fe st) (aB st) .none kV doc pm an cdv ct) ⟨us,[]⟩=pure (ps.zip us)):Binds K fd ps []:=by
 obtain ⟨oc,od,kV,doc,pm,an,cdv,ct,osl,rfl,lk,hcd⟩:=F.ex
 exact .all (h kV doc pm an cdv ct)
theorem ZjU {x qual:Str} {st:Stmt} {f:Addr} {oc:Value} {od an:Option Addr} {osl:Array (Option Value)} {kV doc pm cdv ct:Value} (l:K.lookup f=some ⟨oc,od,.func (PySem.W.fnOf x qual (jH st) (fe st) (aB st) .none kV doc pm an cdv ct),osl⟩)
  (c:PySem.W.codeIn K cdv qual=true) (k:PySem.W.keepIn K (.ref f)=true):Fun K x qual st f (PySem.W.fnOf x qual (jH st) (fe st) (aB st) .none kV doc pm an cdv ct):=⟨⟨oc,od,kV,doc,pm,an,cdv,ct,osl,rfl,l,c⟩,k⟩
end
theorem rD {A:Around} {k:Nat} (hr:Room k A):A.units+1 < cLine:=Nat.lt_of_le_of_lt (Nat.add_le_add_left (by decide:1<=64) _) hr.units
section
variable {X:Cx}
theorem pv (i:Nat) {x:Str} {pos:Pos} (hN:X.N[i]?=some x:=by rfl) (hv:jT X.env.scope x:=by first | exact Or.inl rfl | exact Or.inr (Or.inl rfl) | exact Or.inr (Or.inr rfl)) (hd:(x == ("__debug__":Str))=false:=by decide)
  (hcd:(x == ("__classdict__":Str))=false:=by decide):PE X (.Name x pos) (fy i):=Zhq hN hv hd hcd
end
theorem nu {c A B:Prop} [Decidable c] (h1:c->A) (h2:¬ c->B):if c then A else B:=by
 by_cases h:c
 ·rw [if_pos h]
  exact h1 h
 ·rw [if_neg h]
  exact h2 h
noncomputable def Same (H H':Hp):Prop:=∀ b o,H b=some o->H' b=some o
theorem Same.refl (H:Hp):Same H H:=λ_ _ h=>h
theorem Same.seq {K:PySem.W.Frag} {H H':Hp} {a:Addr} {xs:List V} (e:Same H H') (h:SqL K H a xs):SqL K H' a xs:=by
 rcases h with (h | ⟨o,h⟩) | h
 ·exact .inl (.inl (e _ _ h))
 ·exact .inl (.inr ⟨o,e _ _ h⟩)
 ·exact .inr h
structure Blk where
 cl:List (Str×Addr)
 C:Addr
 s:Shared
 H:Hp
 fp:List Addr
 pn:List (Addr×Obj)
noncomputable def aZ (X:Cx) (N:List Str) (scope:Scope) (b:Blk):Cx where
 prog:=X.prog
 w:=X.w
 K:=X.K
 mg:=X.mg
 base:=X.base
 A:=X.A
 N:=N
 s₀:=b.s
 H₀:=b.H
 env:=compEnvC scope b.cl b.C X.env
 outer:=X.stack
 stack:=X.stack
 ex:=b.fp
 fn:=λx=>scope.names.lookup x == some .cell
 calm:=X.calm
 pn:=b.pn
 xe:=λ_ _=>False
noncomputable def bN (Nx ts:List Str) (ix:List Nat):List Str:=ts++ix.map λj=>(Nx[j]?).getD Str.empty
noncomputable def cN (n:Nat) (ix:List Nat) (σ:St):St:=List.replicate n none++ix.map λj=>(σ[j]?).getD none
structure BlkOk (Nx:List Str) (sc scope:Scope) (ix:List Nat):Prop where
 kind:scope.kind=.function
 cells:∀ y∈scope.names,y.2=.cell->scope.names.lookup y.1=some .cell
 locs:∀ y∈scope.names,y.2=.local->scope.names.lookup y.1=some .local
 frees:∀ y∈scope.names,y.2=.free->sc.names.lookup y.1=some .cell\/sc.names.lookup y.1=some .free
 caps:∀ j∈ix,j < Nx.length/\scope.names.lookup ((Nx[j]?).getD Str.empty)=some .free
theorem rE {env:Env} {f:Str×NameKind->List (Str×Addr)->Sem (ForInStep (List (Str×Addr)))}
  (h1:∀ n k r,k≠NameKind.free->f (n,k) r=pure (.yield r)) (h2:∀ n r c,env.cells.lookup n=some c->f (n,NameKind.free) r=pure (.yield ((n,c)::r))) :
  ∀ (names:List (Str×NameKind)) (acc:List (Str×Addr)),(∀ y∈names,y.2=.free->∃ c,env.cells.lookup y.1=some c)->(∀ x c,acc.lookup x=some c->env.cells.lookup x=some c) ->
   ∃ cl,forIn names acc f=pure cl/\(∀ x c,cl.lookup x=some c->env.cells.lookup x=some c)/\(∀ y∈names,y.2=.free->∃ c,cl.lookup y.1=some c)/\∀ x c,acc.lookup x=some c->∃ c',cl.lookup x=some c'
 | [],acc,_,ha=>⟨acc,rfl,ha,(λ_ h=>nomatch h),λx c h=>⟨c,h⟩⟩
 | (n,k)::names,acc,hn,ha=>by
  have hn':∀ y∈names,y.2=.free->∃ c,env.cells.lookup y.1=some c:=λy hy=>hn y (List.mem_cons_of_mem _ hy)
  by_cases hk:k=.free
  ·subst hk
   obtain ⟨c,hc⟩:=hn (n,.free) List.mem_cons_self rfl
   have ha':∀ x d,((n,c)::acc).lookup x=some d->env.cells.lookup x=some d:=λx d e=>by
    rw [List.lookup_cons] at e
    cases hx:x == n with
    | true =>
     rw [hx] at e
     have hxn:x=n:=by simpa using hx
     subst hxn
     cases e
     exact hc
    | false =>
     rw [hx] at e
     exact ha x d e
   obtain ⟨cl,e,p1,p2,p3⟩:=rE h1 h2 names ((n,c)::acc) hn' ha'
   refine ⟨cl,?_,p1,λy hy hf=>?_,λx d hx=>?_⟩
   ·rw [List.forIn_cons,h2 n acc c hc,pure_bind]
    exact e
   ·rcases List.mem_cons.mp hy with rfl | hy
    ·exact p3 n c (by simp)
    ·exact p2 y hy hf
   ·by_cases e1:x=n
    ·subst e1
     exact p3 x c (by simp)
    ·exact p3 x d (by rw [List.lookup_cons,beq_false_of_ne e1]; exact hx)
  ·obtain ⟨cl,e,p1,p2,p3⟩:=rE h1 h2 names acc hn' ha
   refine ⟨cl,?_,p1,λy hy hf=>?_,p3⟩
   ·rw [List.forIn_cons,h1 n k acc hk,pure_bind]
    exact e
   ·rcases List.mem_cons.mp hy with rfl | hy
    ·exact absurd hf hk
    ·exact p2 y hy hf
theorem nP {scope:Scope} {env:Env} (hn:∀ y∈scope.names,y.2=.free->∃ c,env.cells.lookup y.1=some c) :
  ∃ cl,closureFor scope env=pure cl/\(∀ x c,cl.lookup x=some c->env.cells.lookup x=some c)/\∀ y∈scope.names,y.2=.free->∃ c,cl.lookup y.1=some c:=by
 unfold closureFor
 have key:=rE (env:=env) (f:=λ(x:Str×NameKind) (r:List (Str×Addr))=>match x with
  | (name,kind)=>if (kind == NameKind.free)=true then (do let a <- cellOf env name; pure (ForInStep.yield ((name,a)::r))) else pure (ForInStep.yield r))
  (λn k r hk=>by
   have hb:(k == NameKind.free)=false:=by simpa using hk
   show (if (k == NameKind.free)=true then _ else _)=_
   rw [hb]
   rfl)
  (λn r c hc=>by
   show (do let a <- cellOf env n; pure (ForInStep.yield ((n,a)::r)))=_
   unfold cellOf
   rw [hc]
   rfl) scope.names [] hn (λx c h=>by simp at h)
 obtain ⟨cl,e,p1,p2,_⟩:=key
 refine ⟨cl,?_,p1,p2⟩
 show (forIn scope.names [] _ >>= λr=>pure r)=pure cl
 exact (congrArg (λt=>t >>= λr=>pure r) e).trans (pure_bind _ _)
section
variable {X:Cx} {pins:List (Addr×Obj)} {σ:St} {H:Hp} {s:Shared}
theorem ZgN {scope:Scope} {env:Env} {x:Str} (h:scope.names.lookup x=some .free):(relabel scope env).names.lookup x=some .cell\/(relabel scope env).names.lookup x=some .free:=by
 unfold relabel
 show List.lookup x (scope.names.map _)=_\/List.lookup x (scope.names.map _)=_
 generalize scope.names=l at h
 induction l with
 | nil=>simp at h
 | cons p r ih =>
  obtain ⟨n,k⟩:=p
  rw [List.map_cons]
  cases hx:x == n with
  | true =>
   rw [List.lookup_cons,hx] at h
   have hk:k=.free:=by simpa using h
   subst hk
   by_cases hc:(NameKind.free == NameKind.free && env.scope.kind == .function && env.kindOf n == some .cell)=true
   ·refine .inl ?_
    show List.lookup x ((if (NameKind.free == NameKind.free && env.scope.kind == .function && env.kindOf n == some .cell)=true then (n,NameKind.cell) else (n,NameKind.free))::_)=_
    rw [if_pos hc,List.lookup_cons,hx]
   ·refine .inr ?_
    show List.lookup x ((if (NameKind.free == NameKind.free && env.scope.kind == .function && env.kindOf n == some .cell)=true then (n,NameKind.cell) else (n,NameKind.free))::_)=_
    rw [if_neg hc,List.lookup_cons,hx]
  | false =>
   rw [List.lookup_cons,hx] at h
   have key:∀ q:Str×NameKind,(q=(n,NameKind.cell)\/q=(n,k))->∀ l',List.lookup x (q::l')=List.lookup x l':=λq hq l'=>by
    rcases hq with rfl | rfl <;> rw [List.lookup_cons,hx]
   have hq:(if (k == NameKind.free && env.scope.kind == .function && env.kindOf n == some .cell)=true then (n,NameKind.cell) else (n,k))=(n,NameKind.cell)\/(if (k == NameKind.free && env.scope.kind == .function && env.kindOf n == some .cell)=true then (n,NameKind.cell) else (n,k))=(n,k):=by
    split
    ·exact .inl rfl
    ·exact .inr rfl
   rcases ih h with z | z
   ·exact .inl ((key _ hq _).trans z)
   ·exact .inr ((key _ hq _).trans z)
theorem ZgO {scope:Scope} {env:Env} {x:Str} (h:(relabel scope env).names.lookup x=some .cell\/(relabel scope env).names.lookup x=some .free):∃ y∈scope.names,y.1=x/\(y.2=.free\/y.2=.cell):=by
 unfold relabel at h
 have h':List.lookup x (scope.names.map λ(n,k)=>if (k == .free && env.scope.kind == .function && env.kindOf n == some .cell) then (n,NameKind.cell) else (n,k))=some .cell\/List.lookup x (scope.names.map λ(n,k)=>if (k == .free && env.scope.kind == .function && env.kindOf n == some .cell) then (n,NameKind.cell) else (n,k))=some .free:=h
 clear h
 generalize scope.names=l at h'
 induction l with
 | nil=>simp at h'
 | cons p r ih =>
  obtain ⟨n,k⟩:=p
  rw [List.map_cons] at h'
  cases hx:x == n with
  | true =>
   have hxn:x=n:=by simpa using hx
   by_cases hk:k=.free
   ·exact ⟨(n,k),List.mem_cons_self,hxn.symm,.inl hk⟩
   ·
    have hb:(k == NameKind.free)=false:=by simpa using hk
    have e:(if (k == NameKind.free && env.scope.kind == .function && env.kindOf n == some .cell)=true then (n,NameKind.cell) else (n,k))=(n,k):=by
     rw [hb]
     rfl
    have h2:List.lookup x ((n,k)::r.map λ(n,k)=>if (k == .free && env.scope.kind == .function && env.kindOf n == some .cell) then (n,NameKind.cell) else (n,k))=some .cell\/List.lookup x ((n,k)::r.map λ(n,k)=>if (k == .free && env.scope.kind == .function && env.kindOf n == some .cell) then (n,NameKind.cell) else (n,k))=some .free:=by
     rw [<- e]
     exact h'
    rw [List.lookup_cons,hx] at h2
    rcases h2 with z | z
    ·exact ⟨(n,k),List.mem_cons_self,hxn.symm,.inr (Option.some.inj z)⟩
    ·exact absurd (Option.some.inj z) hk
  | false =>
   have hq:∀ q:Str×NameKind,(q=(n,NameKind.cell)\/q=(n,k))->∀ l',List.lookup x (q::l')=List.lookup x l':=λq hq l'=>by
    rcases hq with rfl | rfl <;> rw [List.lookup_cons,hx]
   have hqq:(if (k == NameKind.free && env.scope.kind == .function && env.kindOf n == some .cell)=true then (n,NameKind.cell) else (n,k))=(n,NameKind.cell)\/(if (k == NameKind.free && env.scope.kind == .function && env.kindOf n == some .cell)=true then (n,NameKind.cell) else (n,k))=(n,k):=by
    split
    ·exact .inl rfl
    ·exact .inr rfl
   obtain ⟨y,hy,e⟩:=ih (by
    rcases h' with z | z
    ·exact .inl ((hq _ hqq _).symm.trans z)
    ·exact .inr ((hq _ hqq _).symm.trans z))
   exact ⟨y,List.mem_cons_of_mem _ hy,e⟩
theorem rV:∀ (names:List (Str×NameKind)) (h:Heap) (acc:List (Str×Addr)),
  (∀ x c,(cellsFrom h.objs.size names acc).lookup x=some c->acc.lookup x=some c\/(h.objs.size<=c/\(pushCells h names).IsCell c none/\(x,NameKind.cell)∈names)) /\
  (∀ x,((x,NameKind.cell)∈names\/∃ c,acc.lookup x=some c)->∃ c,(cellsFrom h.objs.size names acc).lookup x=some c) /\
  (∀ x c,(x,NameKind.cell)∈names->(cellsFrom h.objs.size names acc).lookup x=some c->h.objs.size<=c) /\
  ((∀ x c,acc.lookup x=some c->c < h.objs.size)->(∀ x y c,acc.lookup x=some c->acc.lookup y=some c->x=y)->∀ x y c,(cellsFrom h.objs.size names acc).lookup x=some c->(cellsFrom h.objs.size names acc).lookup y=some c->x=y):=by
 intro names
 induction names with
 | nil=>intro h acc; exact ⟨λx c e=>.inl e,λx e=>by rcases e with e | e; cases e; exact e,λx c e=>(by cases e),λ_ i=>i⟩
 | cons p r ih =>
  obtain ⟨name,kind⟩:=p
  intro h acc
  unfold cellsFrom pushCells
  by_cases hk:kind=.cell
  ·subst hk
   have hk':((NameKind.cell == NameKind.cell)=true):=rfl
   rw [if_pos hk',if_pos hk']
   have ih':=ih (h.push { cls:=.type "cell",data:=.cell none }) ((name,h.objs.size)::acc)
   rw [Heap.size_push] at ih'
   obtain ⟨i1,i2,i4,i3⟩:=ih'
   refine ⟨λx c e=>?_,λx e=>?_,λx c e1 e2=>?_,λhb hi=>i3 (λx c e=>?_) λx y c e1 e2=>?_⟩
   ·rcases i1 x c e with z | ⟨z1,z2,z3⟩
    ·rw [List.lookup_cons] at z
     cases hx:x == name with
     | true =>
      rw [hx] at z
      have hxn:x=name:=by simpa using hx
      cases z
      exact .inr ⟨Nat.le_refl _,⟨_,pushCells_keeps _ _ _ _ (Heap.get?_push_size _ rfl),rfl⟩,by rw [hxn]; exact List.mem_cons_self⟩
     | false=>rw [hx] at z; exact .inl z
    ·exact .inr ⟨by omega,z2,List.mem_cons_of_mem _ z3⟩
   ·refine i2 x ?_
    by_cases hx:x=name
    ·exact .inr ⟨h.objs.size,by rw [List.lookup_cons,hx]; simp⟩
    ·rcases e with e | ⟨c,e⟩
     ·rcases List.mem_cons.mp e with q | q
      ·exact absurd (congrArg Prod.fst q) hx
      ·exact .inl q
     ·exact .inr ⟨c,by rw [List.lookup_cons,beq_false_of_ne hx]; exact e⟩
   ·rcases i1 x c e2 with z | ⟨z,_,_⟩
    ·rw [List.lookup_cons] at z
     cases hx:x == name with
     | true=>rw [hx] at z; cases z; exact Nat.le_refl _
     | false =>
      have hxn:x≠name:=by simpa using hx
      rcases List.mem_cons.mp e1 with q | q
      ·exact absurd (congrArg Prod.fst q) hxn
      ·exact Nat.le_of_succ_le (i4 x c q e2)
    ·exact Nat.le_of_succ_le z
   ·rw [List.lookup_cons] at e
    cases hx:x == name with
    | true=>rw [hx] at e; cases e; exact Nat.lt_succ_self _
    | false=>rw [hx] at e; exact Nat.lt_succ_of_lt (hb x c e)
   ·rw [List.lookup_cons] at e1 e2
    cases hx:x == name with
    | true =>
     have hxn:x=name:=by simpa using hx
     rw [hx] at e1
     cases e1
     cases hy:y == name with
     | true =>
      have hyn:y=name:=by simpa using hy
      rw [hxn,hyn]
     | false=>rw [hy] at e2; exact absurd (hb y _ e2) (Nat.lt_irrefl _)
    | false =>
     rw [hx] at e1
     cases hy:y == name with
     | true=>rw [hy] at e2; cases e2; exact absurd (hb x _ e1) (Nat.lt_irrefl _)
     | false=>rw [hy] at e2; exact hi x y c e1 e2
  ·have hk':¬ ((kind == NameKind.cell)=true):=by simpa using hk
   rw [if_neg hk',if_neg hk']
   obtain ⟨i1,i2,i4,i3⟩:=ih h acc
   refine ⟨λx c e=>?_,λx e=>i2 x ?_,λx c e1 e2=>?_,i3⟩
   ·rcases i1 x c e with z | ⟨z1,z2,z3⟩
    ·exact .inl z
    ·exact .inr ⟨z1,z2,List.mem_cons_of_mem _ z3⟩
   ·rcases e with e | e
    ·rcases List.mem_cons.mp e with q | q
     ·exact absurd (congrArg Prod.snd q).symm hk
     ·exact .inl q
    ·exact .inr e
   ·rcases List.mem_cons.mp e1 with q | q
    ·exact absurd (congrArg Prod.snd q).symm hk
    ·exact i4 x c q e2
theorem o5 {M:Model} {A:Around} {E:Value->Shared->Prop} {s:Shared} {scope:Scope} {globals:Addr} {cl:List (Str×Addr)} {qual:Str} {outer:Env} {Q:Env->Shared->Prop}
  (h:Q { scope:=scope,locals:=s.heap.objs.size,globals:=globals,cells:=cellsFrom (s.heap.objs.size+1) scope.names cl,qual:=qual,func:=none,code:=outer.code,frame:=outer.frame,builtins:=outer.builtins } { s with heap:=pushCells (s.heap.push { cls:=.type "dict",data:=.dict #[] }) scope.names }) :
  wpAny M A (newFunctionEnv scope globals cl [] qual none .none (some outer)) Q E s:=by
 simp only [newFunctionEnv,Option.isSome_some,if_true]
 refine wpAny_bind (wpAny_alloc ?_)
 refine wpAny_bind (wpAny_layCells _ (λname kind cells=>by cases hkc:kind == NameKind.cell <;> simp [hkc]) _ _ _ _ ?_)
 rw [show ({ s with heap:=s.heap.push { cls:=.type "dict",data:=.dict #[] } }:Shared).heap.objs.size=s.heap.objs.size+1 from Heap.size_push ..]
 rw [List.forIn_nil]
 exact wpAny_bind (wpAny_pure (wpAny_pure h))
theorem Zpd {Nx ts:List Str} {ix:List Nat} {i:Nat} {x:Str} (h:(bN Nx ts ix)[i]?=some x) (hi:ts.length<=i):∃ j,ix[i - ts.length]?=some j/\x=(Nx[j]?).getD Str.empty:=by
 unfold bN at h
 rw [List.getElem?_append_right hi,List.getElem?_map] at h
 cases e:ix[i - ts.length]? with
 | none=>rw [e] at h; cases h
 | some j=>rw [e] at h; exact ⟨j,rfl,(Option.some.inj h).symm⟩
theorem rh {scope:Scope} {cl:List (Str×Addr)} {fp:List Addr} {C:Addr} {h3:Heap} {tk:Nat} {m:Str->Option Value} {Nx ts:List Str} {ix:List Nat}
  (I:Inv X pins σ H s) (hNx:X.N=Nx) (ok:BlkOk Nx X.env.scope scope ix) (cs1:∀ x c,cl.lookup x=some c->X.env.cells.lookup x=some c\/(C < c/\h3.IsCell c none/\(x,NameKind.cell)∈scope.names)) (csI:∀ x y c,cl.lookup x=some c->cl.lookup y=some c->x=y) (cl2:∀ y∈scope.names,(y.2=.free\/y.2=.cell)->∃ c,cl.lookup y.1=some c) (csA:∀ x c,(x,NameKind.cell)∈scope.names->cl.lookup x=some c->C<=c)
  (hf:∀ b∈fp,fR X pins H b) (hfs:∀ b∈fp,b < s.heap.objs.size) (hC:s.heap.objs.size<=C) (kp:∀ b o,s.heap.get? b=some o->h3.get? b=some o) (hns:h3.Ns C m) :
  Inv (aZ X (bN Nx ts ix) scope ⟨cl,C,s,H,fp,X.pn++pins⟩) [] (cN ts.length ix σ) H { s with heap:=h3,toks:=tk }:=by
 have below:∀ {b:Addr},b < s.heap.objs.size->b≠C:=λhb=>Nat.ne_of_lt (Nat.lt_of_lt_of_le hb hC)
 have nstk:∀ b,b≠X.env.locals->b ∉ X.fs->b ∉ frs X.stack:=λb h1 h2 hb=>by
  rcases List.mem_cons.mp (I.stkSub b hb) with z | z
  ·exact h1 z
  ·exact h2 z
 refine ⟨⟨I.ok.mod,?_,I.ok.glob,I.ok.blt,hC,csI,λx hx=>?_,λx c hfn e=>Nat.le_trans hC (csA x c (PySem.mem_of_lookup (eq_of_beq hfn)) e),I.ok.hd,I.ok.frames,.inl rfl,λb hb=>⟨below (hfs b hb),λx c e=>by
  rcases cs1 x c e with z | ⟨z,_,_⟩
  ·exact (hf b hb).2.2.2.2.1 x c z
  ·exact Nat.ne_of_gt (Nat.lt_of_lt_of_le (hfs b hb) (Nat.le_trans hC (Nat.le_of_lt z)))⟩,I.bs,Nat.le_trans I.ok.bsz I.sz,λb o e hb=>?_,λb hb=>nstk b (hf b hb).2.1 (hf b hb).2.2.1,I.stack,I.stkFree⟩,
  rfl,I.bare,Un.kept kp,⟨m,hns,λi x v h1 h2 h3'=>?_⟩,λx c e=>?_,I.hok.fresh hC,λx c e=>by
  rcases cs1 x c e with z | ⟨z,_,_⟩
  ·exact I.freeC x c z
  ·exact I.hok.fresh (Nat.le_trans hC (Nat.le_of_lt z)),λp hp=>?_,I.hok.kept kp,?_⟩
 ·exact ok.kind
 ·have hx':(relabel scope X.env).names.lookup x=some .cell\/(relabel scope X.env).names.lookup x=some .free:=hx
  obtain ⟨y,hy,e1,e2⟩:=ZgO hx'
  obtain ⟨c,hc⟩:=cl2 y hy e2
  exact ⟨c,by rw [<- e1]; exact hc⟩
 ·rcases (hf b hb).2.2.2.1 with z | z
  ·exact I.ok.noex b o e z
  ·exact absurd (Nat.lt_of_lt_of_le (Heap.lt_size e) (Nat.le_trans I.ok.bsz z)) (Nat.lt_irrefl _)
 ·have hi:ts.length<=i:=by
   rcases Nat.lt_or_ge i ts.length with z | z
   ·exfalso
    have h2':(cN ts.length ix σ)[i]?=some (some v):=h2
    unfold cN at h2'
    rw [List.getElem?_append_left (by simpa using z),List.getElem?_replicate] at h2'
    split at h2' <;> cases h2'
   ·exact z
  obtain ⟨j,hj,ex⟩:=Zpd h1 hi
  have h2':(cN ts.length ix σ)[i]?=some (some v):=h2
  unfold cN at h2'
  rw [List.getElem?_append_right (by simpa using hi),List.getElem?_map,List.length_replicate,hj] at h2'
  have hσ:σ[j]?=some (some v):=by
   have q:(σ[j]?).getD none=some v:=Option.some.inj h2'
   cases e:σ[j]? with
   | none=>rw [e] at q; cases q
   | some w=>rw [e] at q; exact congrArg some q
  obtain ⟨hjl,hfree⟩:=ok.caps j (List.mem_of_getElem? hj)
  have hNj:X.N[j]?=some x:=by
   rw [hNx,ex,List.getElem?_eq_getElem hjl]
   rfl
  rw [<- ex] at hfree
  obtain ⟨c,hc⟩:=cl2 (x,.free) (PySem.mem_of_lookup hfree) (.inl rfl)
  have cl1:X.env.cells.lookup x=some c:=by
   rcases cs1 x c hc with z | ⟨_,_,z⟩
   ·exact z
   ·have:=ok.cells _ z rfl
    rw [hfree] at this
    cases this
  have kx:=ok.frees (x,.free) (PySem.mem_of_lookup hfree) rfl
  obtain ⟨m0,hn0,hl0⟩:=I.loc
  obtain ⟨u,ru,look⟩:=hl0 j x v hNj hσ (by rcases kx with z | z; exact .inr (.inl z); exact .inr (.inr z))
  refine ⟨u,ru,.inr ⟨ZgN hfree,c,hc,?_⟩⟩
  rcases look with ⟨k1,_⟩ | ⟨_,c',hc',z⟩
  ·have k1':X.env.scope.names.lookup x=some .local:=k1
   rcases kx with z | z
   ·rw [k1'] at z; cases z
   ·rw [k1'] at z; cases z
  ·have e:=cl1
   rw [hc'] at e
   cases e
   obtain ⟨o,ho,hd⟩:=z
   exact ⟨o,kp _ _ ho,hd⟩
 ·rcases cs1 x c e with z | ⟨_,z,_⟩
  ·obtain ⟨v,o,ho,hd⟩:=I.cell x c z
   exact ⟨v,o,kp _ _ ho,hd⟩
  ·exact ⟨_,z⟩
 ·have hp':p∈X.pn++pins:=by simpa [aZ] using hp
  obtain ⟨e,n,ne,nf,d⟩:=I.pin p hp'
  exact ⟨kp _ _ e,n,below (Heap.lt_size e),nstk _ ne nf,d⟩
 ·show (cN ts.length ix σ).length=(bN Nx ts ix).length
  unfold cN bN
  simp
theorem Inv.track {D:Addr} {ys:List V} {its:List Value} {n:Nat} (I:Inv X pins σ H s) (hD:H D=none) (ho:s.heap.get? D=some { cls:=.type "list",data:=.seq its.toArray n }) (r:Vals ys its) (hz:ys.length<=sizeLine)
  (hL:D≠X.env.locals) (hs0:X.s₀.heap.objs.size<=D) (hc:∀ x c,X.env.cells.lookup x=some c->c≠D) (hp:∀ p∈X.pn++pins,p.1≠D):Inv X pins σ (upd H D (.lst ys)) s:=by
 have ne:∀ {b:Addr} {o:HO},H b=some o->b≠D:=λe=>c7 e hD
 refine I.step (g':=s.gens) (d':=s.drawn) (t':=s.toks) (h':=s.heap) (ch:=[D]) (λb hb=>?_) (λb o _ _ _ e _=>e) (λb o _ _ _ e _=>⟨o.slots,e⟩) (λb o hb e n=>?_) (λb o _ e=>⟨o,e⟩)
  (λb xs e=>by rw [aJ (ne e)]; exact e) (λb o u e=>by rw [aJ (ne e)]; exact e) (λb ps e=>⟨#[],by rw [aJ (ne e),e]; simp⟩) (λm hm=>hm) (λb u e=>?_) I.bare
 ·have e:b=D:=by simpa using hb
  subst e
  exact ⟨.inr hs0,hL,hc,hp⟩
 ·have hb':b≠D:=by simpa using hb
  rw [aJ hb']
  exact n
 ·by_cases hb:b=D
  ·subst hb
   rw [bP] at e
   cases e
   exact ⟨hz,its,n,r,ho⟩
  ·rw [aJ hb] at e
   exact (I.hok b u e).stay (λc v _ q=>q) (λc q=>by rw [aJ (ne q)]; exact q) (λc xs q=>by rw [aJ (ne q)]; exact q) λc ob xs _ q _=>by rw [aJ (ne q)]; exact q
end
theorem ZoK {prog:Program} {w:World} {A:Around} {R:Result->Shared->Prop} {s:Shared} {elt target iter:Expr} {scope:Scope} {pos:Pos} {it acc:Value} {env:Env} (J:Nat->Shared->Prop)
  (step:∀ k s0,J k s0->wpAny (model prog w) A (pyNext it) (λgot s1=>match got with
   | none=>R (.ok .next) s1
   | some v=>wpAny (model prog w) A (letOwnedTupleGo target it v) (λ_ s2=>wpAny (model prog w) A (assign target env v) (λ_ s3=>wpAny (model prog w) A (eval elt env) (λy s4 =>
     wpAny (model prog w) A (call (.builtin "list.append") [acc,y]) (λ_ s5=>∃ j,j < k/\J j s5) (λ_ _=>False) s4) (λ_ _=>False) s3) (λ_ _=>False) s2) (λ_ _=>False) s1) (λ_ _=>False) s0)
  (k:Nat) (h:J k s):codeAny (model prog w) A (.compLoop (.ListComp elt [⟨target,iter,[],0⟩] scope pos) 0 it acc env) R s:=by
 refine codeAny_loop rfl J (λk0 s0 hJ=>?_) k h
 show wpAny _ _ ((compTurn (.ListComp elt [⟨target,iter,[],0⟩] scope pos) 0 it acc env).onRaise (λx=>do noteFrame x env; theTreesLotGoes x)) _ _ s0
 apply wpAny_noted
 rw [compTurn_list1]
 refine wpAny_bind (wpAny_standAt (wpAny_bind (wpAny_mono (step k0 s0 hJ) (λgot s1 h1=>?_) λ_ _ z=>z.elim)))
 cases got with
 | none=>exact wpAny_pure h1
 | some v =>
  refine wpAny_bind (wpAny_mono h1 (λ_ s2 h2=>?_) λ_ _ z=>z.elim)
  refine wpAny_bind (wpAny_mono h2 (λ_ s3 h3=>?_) λ_ _ z=>z.elim)
  refine wpAny_bind (wpAny_bind (wpAny_mono h3 (λy s4 h4=>?_) λ_ _ z=>z.elim))
  exact wpAny_bind (wpAny_mono h4 (λ_ s5 h5=>wpAny_pure (wpAny_pure ⟨rfl,h5⟩)) λ_ _ z=>z.elim)
noncomputable def fV (wi:TI) (n:Nat) (ix:List Nat) (g:Blk->TG) (te:Blk->TE):TE:=λσ H Q=>wi σ H λJ H1=>∀ b:Blk,∃ W:Nat->Nat->St->List V->Hp->Prop,(∃ m,W 0 m (cN n ix σ) [] H1)/\∀ i m τ ys H2,W i m τ ys H2 ->
 (J.stop i H2/\∀ p v H',H2 p=none->v=V.ref p->H'=upd H2 p (.lst ys)->Q v H') \/
 (J.go i H2/\ys.length < sizeLine/\∀ x H3,J.yld i H2 x H3->g b x τ H3 λτ2 H4=>te b τ2 H4 λy H5=>∃ m',m' < m/\W (i+1) m' τ2 (ys++[y]) H5)
section
variable {X:Cx} {pins:List (Addr×Obj)} {σ:St} {H:Hp} {s:Shared}
theorem Zcv {elt target iter:Expr} {scope:Scope} {pos:Pos} {Nx ts:List Str} {ix:List Nat} {g:Blk->TG} {te:Blk->TE} {cl:List (Str×Addr)} {s2:Shared} {itv:Value} {R:Value->Addr->Result->Shared->Prop}
  {E:Value->Shared->Prop} {Q:VK}
  (hc:X.calm=true) (hg:∀ b,PG (aZ X (bN Nx ts ix) scope b) target (g b)) (he:∀ b,PE (aZ X (bN Nx ts ix) scope b) elt (te b))
  (hNx:X.N=Nx) (ok:BlkOk Nx X.env.scope scope ix) (cl1:∀ x c,cl.lookup x=some c->X.env.cells.lookup x=some c) (cl2:∀ y∈scope.names,y.2=.free->∃ c,cl.lookup y.1=some c)
  (h2:jW X pins σ target (λJ H1=>∀ b:Blk,∃ W:Nat->Nat->St->List V->Hp->Prop,(∃ m,W 0 m (cN ts.length ix σ) [] H1)/\∀ i m τ ys H2,W i m τ ys H2 ->
   (J.stop i H2/\∀ p v H',H2 p=none->v=V.ref p->H'=upd H2 p (.lst ys)->Q v H') \/
   (J.go i H2/\ys.length < sizeLine/\∀ x H3,J.yld i H2 x H3->g b x τ H3 λτ2 H4=>te b τ2 H4 λy H5=>∃ m',m' < m/\W (i+1) m' τ2 (ys++[y]) H5)) itv s2)
  (hR:∀ (D C:Addr) (H':Hp) (s':Shared) (v:V),Inv X pins σ H' s'->v=.ref D->Q v H'->(∃ m,s'.heap.Ns C m)->H' C=none->C≠X.env.locals->X.s₀.heap.objs.size<=C->(∀ x c,X.env.cells.lookup x=some c->c≠C)->(∀ p∈X.pn++pins,p.1≠C) ->
   R (.ref D) C (.ok .next) s') :
  wpAny (model X.prog X.w) X.A (newList []) (λacc s₃=>wpAny (model X.prog X.w) X.A (newFunctionEnv scope X.env.globals cl [] X.env.qual none .none (some X.env)) (λcenv s₄ =>
   codeAny (model X.prog X.w) X.A (.compStart (.ListComp elt [⟨target,iter,[],0⟩] scope pos) 0 itv acc { cenv with scope:=relabel scope X.env }) (R acc cenv.locals) s₄) E s₃) E s2:=by
 obtain ⟨it,fp,tn,J,H1,e,I2,T,st2,f2,q2⟩:=h2
 subst e
 refine wpAny_newObj_type (o5 ?_)
 dsimp only
 generalize hG:s2.heap.push { cls:=.type "list",dict:=none,data:=.seq ([]:List Value).toArray }=G
 have hGs:G.objs.size=s2.heap.objs.size+1:=by rw [<- hG,Heap.size_push]
 have hfs:∀ b∈fp,b < s2.heap.objs.size:=λb hb=>let ⟨o,e,_⟩:=T.obj _ _ st2 b hb; Heap.lt_size e
 have kpG:∀ b o,G.get? b=some o->(pushCells (G.push { cls:=.type "dict",data:=.dict #[] }) scope.names).get? b=some o:=λb o e=>pushCells_keeps _ _ _ _ (Heap.get?_push_of_some _ e)
 have hns3:(pushCells (G.push { cls:=.type "dict",data:=.dict #[] }) scope.names).Ns G.objs.size (λ_=>none):=(Heap.Ns.new G (.type "dict")).keeps (pushCells_keeps _ _)
 obtain ⟨sp1,sp2,sp4,sp3⟩:=rV scope.names (G.push { cls:=.type "dict",data:=.dict #[] }) cl
 rw [Heap.size_push] at sp1 sp2 sp3 sp4
 generalize hh3:pushCells (G.push { cls:=.type "dict",data:=.dict #[] }) scope.names=h3 at kpG hns3 sp1 ⊢
 have kp:∀ b o,s2.heap.get? b=some o->h3.get? b=some o:=λb o e=>kpG b o (by rw [<- hG]; exact Heap.get?_push_of_some _ e)
 have hD3:h3.get? s2.heap.objs.size=some { cls:=.type "list",data:=.seq ([]:List Value).toArray }:=kpG _ _ (by rw [<- hG]; exact Heap.get?_push_size _ rfl)
 have clB:∀ x c,cl.lookup x=some c->c < G.objs.size+1:=λx c e=>by
  obtain ⟨v,q⟩:=I2.cell x c (cl1 x c e)
  exact Nat.lt_succ_of_lt (Nat.lt_of_lt_of_le q.lt (by rw [hGs]; exact Nat.le_succ _))
 have csI:=sp3 clB λx y c e1 e2=>I2.ok.inj x y c (cl1 x c e1) (cl1 y c e2)
 have cs1:∀ x c,(cellsFrom (G.objs.size+1) scope.names cl).lookup x=some c->X.env.cells.lookup x=some c\/(G.objs.size < c/\h3.IsCell c none/\(x,NameKind.cell)∈scope.names):=λx c e=>by
  rcases sp1 x c e with z | ⟨z1,z2,z3⟩
  ·exact .inl (cl1 x c z)
  ·exact .inr ⟨by omega,z2,z3⟩
 have cs2:∀ y∈scope.names,(y.2=.free\/y.2=.cell)->∃ c,(cellsFrom (G.objs.size+1) scope.names cl).lookup y.1=some c:=λy hy hk=>by
  refine sp2 y.1 ?_
  rcases hk with z | z
  ·exact .inr (cl2 y hy z)
  ·exact .inl (by rw [<- z]; exact hy)
 have csA:∀ x c,(x,NameKind.cell)∈scope.names->(cellsFrom (G.objs.size+1) scope.names cl).lookup x=some c->G.objs.size<=c:=λx c e1 e2=>Nat.le_of_succ_le (sp4 x c e1 e2)
 generalize hcs:cellsFrom (G.objs.size+1) scope.names cl=cs at csI cs1 cs2 csA ⊢
 generalize hCe:G.objs.size=C at hns3 cs1 csA ⊢
 have hC:s2.heap.objs.size<=C:=by omega
 have hDC:s2.heap.objs.size≠C:=by omega
 let B:Blk:=⟨cs,C,s2,H1,fp,X.pn++pins⟩
 have I3:Inv (aZ X (bN Nx ts ix) scope B) [] (cN ts.length ix σ) H1 { s2 with heap:=h3 }:=rh I2 hNx ok cs1 csI cs2 csA f2 hfs hC kp hns3
 have fC:H1 s2.heap.objs.size=none:=I2.hok.fresh (Nat.le_refl _)
 have cellIn:∀ x c,cs.lookup x=some c->c≠s2.heap.objs.size:=λx c e=>by
  rcases cs1 x c e with z | ⟨z,_,_⟩
  ·obtain ⟨v,q⟩:=I2.cell x c z
   exact Nat.ne_of_lt q.lt
  ·exact Nat.ne_of_gt (Nat.lt_of_le_of_lt hC z)
 have pinIn:∀ p∈X.pn++pins,p.1 < s2.heap.objs.size:=λp hp=>Heap.lt_size (I2.pin p hp).1
 have nofrs:s2.heap.objs.size ∉ frs X.stack:=λhb=>by
  rcases List.mem_cons.mp (I2.stkSub _ hb) with z | z
  ·exact absurd I2.lt (by rw [<- z]; exact Nat.lt_irrefl _)
  ·exact I2.nofs (Nat.le_refl _) z
 -- a state with the list at its place,pinned
 have pinD:∀ {τ:St} {H':Hp} {s':Shared} {ob:Obj},Inv (aZ X (bN Nx ts ix) scope B) [] τ H' s'->s'.heap.get? s2.heap.objs.size=some ob->H' s2.heap.objs.size=none->(∀ v,ob.data≠.cell v)->Inv (aZ X (bN Nx ts ix) scope B) [(s2.heap.objs.size,ob)] τ H' s' :=
  λ{τ H' s' ob} I' ho hn hd=>I'.pins_of λp hp=>by
   have e:p=(s2.heap.objs.size,ob):=by simpa using hp
   subst e
   exact ⟨ho,hn,hDC,nofrs,hd⟩
 obtain ⟨W,⟨m0,w0⟩,turn⟩:=q2 B
 have stat:∀ {H':Hp} {ob:Obj},(∀ b∈fp,H' b=none)->∀ b∈fp,fR (aZ X (bN Nx ts ix) scope B) [(s2.heap.objs.size,ob)] H' b:=λ{H' ob} hn b hb=>by
  refine ⟨hn b hb,Nat.ne_of_lt (Nat.lt_of_lt_of_le (hfs b hb) hC),λz=>?_,.inl hb,λx c e=>by
   rcases cs1 x c e with z | ⟨z,_,_⟩
   ·exact (f2 b hb).2.2.2.2.1 x c z
   ·exact Nat.ne_of_gt (Nat.lt_of_lt_of_le (hfs b hb) (Nat.le_trans hC (Nat.le_of_lt z))),λp hp=>?_⟩
  ·rcases List.mem_cons.mp (I2.stkSub _ z) with q | q
   ·exact (f2 b hb).2.1 q
   ·exact (f2 b hb).2.2.1 q
  ·rcases List.mem_append.mp hp with z | z
   ·exact (f2 b hb).2.2.2.2.2 p z
   ·have e:p=(s2.heap.objs.size,ob):=by simpa using z
    subst e
    exact Nat.ne_of_gt (hfs b hb)
 have loop:∀ s4:Shared,s4={ s2 with heap:=h3 } ->
   codeAny (model X.prog X.w) X.A (.compLoop (.ListComp elt [⟨target,iter,[],0⟩] scope pos) 0 (.ref it) (.ref s2.heap.objs.size) (compEnvC scope cs C X.env)) (R (.ref s2.heap.objs.size) C) s4:=by
  rintro s4 rfl
  refine ZoK (λk s'=>∃ i τ ys its n H',Inv (aZ X (bN Nx ts ix) scope B) [(s2.heap.objs.size,({ cls:=.type "list",data:=.seq (List.toArray its) n }:Obj))] τ H' s'/\tn i s'.heap/\(∀ b∈fp,H' b=none)/\Vals ys its/\ys.length<=sizeLine/\W i k τ ys H') ?_ m0
   ⟨0,_,[],[],_,H1,pinD I3 hD3 fC (λv z=>by cases z),T.keep _ _ _ st2 λb hb o e=>kp b o e,λb hb=>(f2 b hb).1,.nil,Nat.zero_le _,w0⟩
  rintro k s5 ⟨i,τ,ys,its,n,H5,I5,st5,fr5,rv,hz,w5⟩
  rcases turn i k τ ys H5 w5 with ⟨stop,qn⟩ | ⟨go,hlt,step⟩
  ·refine thn (T.done (aZ X (bN Nx ts ix) scope B) rfl rfl rfl hc i _ s5 τ H5 _ I5 (stat fr5) st5 stop) λgot s6 hz0=>?_
   obtain ⟨hr,I6⟩:=hz0
   subst hr
   obtain ⟨ho,hn,_,_,_⟩:=I6.pin (s2.heap.objs.size,({ cls:=.type "list",data:=.seq (List.toArray its) n }:Obj)) (List.mem_append_right _ (by simp))
   have I7:Inv X pins σ H5 s6:=I2.call' (ch:=fp) (H':=H5) (by exact I6.os) I6.base I6.hok I6.bare λb hb=>⟨(f2 b hb).2.2.2.1,(f2 b hb).2.1,(f2 b hb).2.2.2.2.1,(f2 b hb).2.2.2.2.2⟩
   have hs0:X.s₀.heap.objs.size<=s2.heap.objs.size:=I2.sz
   have I8:=I7.track hn ho rv hz (Nat.ne_of_gt I2.lt) hs0 (λx c e z=>by
    obtain ⟨v,q⟩:=I2.cell x c e
    exact absurd q.lt (by rw [z]; exact Nat.lt_irrefl _)) (λp hp=>Nat.ne_of_lt (pinIn p hp))
   obtain ⟨m6,hm6,_⟩:=I6.loc
   refine hR _ C _ s6 _ I8 rfl (qn _ _ _ hn rfl rfl) ⟨m6,hm6⟩ ?_ (λz=>?_) (Nat.le_trans hs0 hC) (λx c e z=>?_) λp hp=>Nat.ne_of_lt (Nat.lt_of_lt_of_le (pinIn p hp) hC)
   ·rw [aJ (Ne.symm hDC)]
    exact I6.free
   ·exact absurd (Nat.lt_of_lt_of_le I2.lt hC) (by rw [z]; exact Nat.lt_irrefl _)
   ·obtain ⟨v,q⟩:=I2.cell x c e
    exact absurd (Nat.lt_of_lt_of_le q.lt hC) (by rw [z]; exact Nat.lt_irrefl _)
  ·refine thn (T.item (aZ X (bN Nx ts ix) scope B) rfl rfl rfl hc i _ s5 τ H5 _ I5 (stat fr5) st5 go) λgot s6 hz0=>?_
   obtain ⟨u,hr,h6⟩:=hz0
   subst hr
   refine thn h6 λ_ s7 hz0=>?_
   obtain ⟨x,H7,I7,r7,y7,st7,fr7⟩:=hz0
   have I7':=I7.pinned (stat fr7) (T.obj _ _ st7)
   refine thn (hg B _ s7 τ H7 x u _ I7' r7 (step x H7 y7)) λ_ s8 hz0=>?_
   obtain ⟨τ8,H8,I8,q8⟩:=hz0
   refine thn (he B _ s8 τ8 H8 _ I8 q8) λy s9 hz0=>?_
   obtain ⟨vy,H9,I9,r9,m',hm',w9⟩:=hz0
   obtain ⟨ho,hn,_,_,_⟩:=I9.pin (s2.heap.objs.size,({ cls:=.type "list",data:=.seq (List.toArray its) n }:Obj)) (List.mem_append_right _ (List.mem_append_left _ (by simp)))
   have lenv:=rv.length
   refine wpAny_list_append_plain (l:=s2.heap.objs.size) ⟨n,ho⟩ (λh' hpl hsb=>?_) (by rw [List.size_toArray]; omega)
   obtain ⟨n',ho'⟩:=hpl
   have eobj:(its.toArray.push y)=List.toArray (its++[y]):=by simp
   rw [eobj] at ho'
   have I9':Inv (aZ X (bN Nx ts ix) scope B) [] τ8 H9 s9:=I9.pins_of λp hp=>absurd hp (by simp)
   have I10:Inv (aZ X (bN Nx ts ix) scope B) [] τ8 H9 { s9 with heap:=h' }:=I9'.turned (it:=s2.heap.objs.size) (t':=s9.toks) (λb o hb e=>(hsb.2 b hb).trans e) hn hDC (.inr (Nat.le_refl _)) cellIn (λp hp=>by
    have hp':p∈(X.pn++pins)++[]:=hp
    rw [List.append_nil] at hp'
    exact Nat.ne_of_lt (pinIn p hp'))
   refine ⟨m',hm',i+1,τ8,ys++[vy],its++[y],n',H9,pinD I10 ho' hn (λv z=>by cases z),?_,λb hb=>?_,rv.append (.cons r9 .nil),by rw [List.length_append]; show ys.length+1<=_; omega,w9⟩
   ·refine T.keep _ _ _ st7 λb hb o e=>?_
    have q:=(I9.pin (b,o) (List.mem_append_right _ (List.mem_append_right _ (fF hb e)))).1
    exact (hsb.2 b (Nat.ne_of_lt (hfs b hb))).trans q
   ·obtain ⟨o,e,d⟩:=T.obj _ _ st7 b hb
    exact (I9.pin (b,o) (List.mem_append_right _ (List.mem_append_right _ (fF hb e)))).2.1
 exact codeAny_compStart_list (loop _ rfl) (T.self X.A 0 _ _ _ (T.keep _ _ _ st2 λb hb o e=>kp b o e) (loop _ rfl))
theorem cJ {elt target iter:Expr} {scope:Scope} {pos:Pos} {wi:TI} {g:Blk->TG} {te:Blk->TE} (Nx:List Str) (ts:List Str) (ix:List Nat)
  (hc:X.calm=true) (hi:PI X target iter wi) (hg:∀ b,PG (aZ X (bN Nx ts ix) scope b) target (g b)) (he:∀ b,PE (aZ X (bN Nx ts ix) scope b) elt (te b))
  (hNx:X.N=Nx) (ok:BlkOk Nx X.env.scope scope ix) (hs:∀ x,foldedSetIterable iter X.env x=pure x:=by intro _; rfl) :
  PE X (.ListComp elt [⟨target,iter,[],0⟩] scope pos) (fV wi ts.length ix g te):=by
 intro pins s σ H Q I h
 obtain ⟨cl,hcl,cl1,cl2⟩:=nP (scope:=scope) (env:=X.env) λy hy hf=>I.ok.has y.1 (ok.frees y hy hf)
 rw [eval_ListComp]
 refine wpAny_comprehension_free (use:=none) rfl hs hcl ok.kind ok.locs (thn (hi pins s σ H _ I h) λv s1 h1=>thn h1 λitv s2 h2=>?_)
 refine Zcv (R:=λacc C=>compPost (model X.prog X.w) X.A X.xe none (EP X pins σ Q) acc C) hc hg he hNx ok cl1 cl2 h2 ?_
 rintro D C H' s' v I' rfl q ⟨m,hm⟩ hn hL h0 hcl' hp
 exact ⟨m,hm,λh' hsb=>⟨.ref D,H',I'.turned (it:=C) (t':=s'.toks) (λb o hb e=>(hsb.2 b hb).trans e) hn hL (.inr h0) hcl' hp,rfl,q⟩⟩
theorem ZbO {elt target iter:Expr} {scope:Scope} {pos pos' spos:Pos} {wi:TI} {g:Blk->TG} {te:Blk->TE} {i:Nat} {x:Str} (Nx:List Str) (ts:List Str) (ix:List Nat)
  (hc:X.calm=true) (hN:X.N.Nodup) (hix:X.N[i]?=some x) (hx:X.env.scope.names.lookup x=some .local) (hi:PI X target iter wi) (hg:∀ b,PG (aZ X (bN Nx ts ix) scope b) target (g b)) (he:∀ b,PE (aZ X (bN Nx ts ix) scope b) elt (te b))
  (hNx:X.N=Nx) (ok:BlkOk Nx X.env.scope scope ix) (hsw:swapsWith (.ListComp elt [⟨target,iter,[],0⟩] scope pos) (some (.Name x pos')) spos.line X.env=pure true) (hs:∀ x,foldedSetIterable iter X.env x=pure x:=by intro _; rfl) :
  PS X (.Assign [.Name x pos'] (.ListComp elt [⟨target,iter,[],0⟩] scope pos) spos) (d7 (fV wi ts.length ix g te) (fK i)):=by
 intro pins s σ H D0 I h
 obtain ⟨cl,hcl,cl1,cl2⟩:=nP (scope:=scope) (env:=X.env) λy hy hf=>I.ok.has y.1 (ok.frees y hy hf)
 rw [exec_Assign_Name_used _ _ _ _ hsw]
 refine wpAny_bind (wpAny_standAt (wpAny_bind ?_))
 show wpAny _ X.A (do let _ <- comprehension (.ListComp elt [⟨target,iter,[],0⟩] scope pos) scope X.env _ (newList []) false (eval iter X.env) (some (assign (.Name x pos') X.env))) _ _ s
 refine wpAny_bind (thn (wpAny_comprehension_free (use:=some (assign (.Name x pos') X.env)) (Q:=λ_ s'=>SP X pins D0 .next s') rfl hs hcl ok.kind ok.locs (thn (hi pins s σ H _ I h) λv s1 h1=>thn h1 λitv s2 h2=>?_)) λ_ s' hq=>wpAny_pure (wpAny_pure hq))
 refine Zcv (R:=λacc C=>compPost (model X.prog X.w) X.A X.xe (some (assign (.Name x pos') X.env)) (λ_ s'=>SP X pins D0 .next s') acc C) (Q:=λx H1=>fK i x σ H1 D0.nx) hc hg he hNx ok cl1 cl2 h2 ?_
 rintro D C H' s' v I' rfl q ⟨m,hm⟩ hn hL h0 hcl' hp
 show wpAny _ X.A (assign (.Name x pos') X.env (.ref D)) _ _ _
 refine wpAny_assign_Name (ZaF I' hN hix (.inl hx) (show RelV (.ref D) (.ref D) from rfl) (λs'' I'' hch=>?_) (.inr hx))
 obtain ⟨a,hsb,ha⟩:=hch
 have haC:C≠a:=by
  rcases ha with z | z
  ·rw [z]; exact hL
  ·exact λe=>hcl' _ _ z e.symm
 exact ⟨m,hm.sameBut hsb haC,λh'' hs''=>⟨_,H',I''.turned (it:=C) (t':=s''.toks) (λb o hb e=>(hs''.2 b hb).trans e) hn hL (.inr h0) hcl' hp,q⟩⟩
end
mutual
/-- the value bears the datum -/
inductive Dn (H:Hp):V->PyData->Prop
 | non:Dn H .non .none
 | bl (b:Bool):Dn H (.bl b) (.bool b)
 | int (i:Int):Dn H (.int i) (.int i)
 | str (x:Str):Dn H (.str x) (.str x)
 | tup {a:Addr} {xs:List V} {ds:List PyData}:H a=some (.tup xs)->DnAll H xs ds->Dn H (.ref a) (.tuple ds)
 | lst {a:Addr} {xs:List V} {ds:List PyData}:H a=some (.lst xs)->DnAll H xs ds->Dn H (.ref a) (.list ds)
 | dct {a:Addr} {ks:List (ap×V)} {ds:List PyData}:Rd H a (.dK ks)->DnAll H (ks.map (·.2)) ds->Dn H (.ref a) (.dict ((ks.map λk=>match k.1 with | .inl i=>PyData.int i | .inr x=>PyData.str x).zip ds))
inductive DnAll (H:Hp):List V->List PyData->Prop
 | nil:DnAll H [] []
 | cons {v:V} {vs:List V} {d:PyData} {ds:List PyData}:Dn H v d->DnAll H vs ds->DnAll H (v::vs) (d::ds)
end
mutual
theorem Dn.mono {H H':Hp} (e:∀ b o,H b=some o->H' b=some o):∀ {v:V} {d:PyData},Dn H v d->Dn H' v d
 | _,_,.non=>.non
 | _,_,.bl b=>.bl b
 | _,_,.int i=>.int i
 | _,_,.str x=>.str x
 | _,_,.tup h r=>.tup (e _ _ h) (DnAll.mono e r)
 | _,_,.lst h r=>.lst (e _ _ h) (DnAll.mono e r)
 | _,_,.dct h r=>.dct (h.imp (e _ _) λ⟨o,h⟩=>⟨o,e _ _ h⟩) (DnAll.mono e r)
theorem DnAll.mono {H H':Hp} (e:∀ b o,H b=some o->H' b=some o):∀ {vs:List V} {ds:List PyData},DnAll H vs ds->DnAll H' vs ds
 | _,_,.nil=>.nil
 | _,_,.cons r t=>.cons (Dn.mono e r) (DnAll.mono e t)
end
theorem DnAll.ints {H:Hp}:∀ ns:List Int,DnAll H (ns.map V.int) (ns.map PyData.int)
 | []=>.nil
 | n::ns=>.cons (.int n) (DnAll.ints ns)
theorem DnAll.length {H:Hp} {vs:List V} {ds:List PyData} (h:DnAll H vs ds):vs.length=ds.length:=by
 induction vs generalizing ds with
 | nil=>cases h; rfl
 | cons v vs ih=>cases h with | cons r t=>exact congrArg (·+1) (ih t)
theorem DnAll.append {H:Hp} {vs ws:List V} {ds es:List PyData} (h:DnAll H vs ds) (s:DnAll H ws es):DnAll H (vs++ws) (ds++es):=by
 induction vs generalizing ds with
 | nil=>cases h; exact s
 | cons v vs ih=>cases h with | cons r t=>exact .cons r (ih t)
mutual
/-- data without dicts -/
theorem Dn.reads {P:Program} {w:World} {H:Hp} {h:Heap} (ok:HOk P w H h):∀ {v:V} {d:PyData} {u:Value},Dn H v d->d.hasDict=false->RelV v u->∃ as,Reads h u d as
 | _,_,_,.non,_,r=>by cases r; exact ⟨_,.none⟩
 | _,_,_,.bl b,_,r=>by cases r; exact ⟨_,.bool b⟩
 | _,_,_,.int i,_,r=>by obtain ⟨t,rfl⟩:=r; exact ⟨_,.int i t⟩
 | _,_,_,.str x,_,r=>by obtain ⟨t,rfl⟩:=r; exact ⟨_,.str x t⟩
 | _,_,_,.tup e rs,hd,r=>by
  cases r
  obtain ⟨z,its,rv,o,h1,h2,n,h3⟩:=ok _ _ e
  obtain ⟨as,q⟩:=DnAll.reads ok rs (by simpa [PyData.hasDict] using hd) rv
  exact ⟨_,.tuple h1 h2 h3 (by simpa using q)⟩
 | _,_,_,.lst e rs,hd,r=>by
  cases r
  obtain ⟨z,its,n,rv,h1⟩:=ok _ _ e
  obtain ⟨as,q⟩:=DnAll.reads ok rs (by simpa [PyData.hasDict] using hd) rv
  exact ⟨_,.list h1 rfl rfl (by simpa using q)⟩
 | _,_,_,.dct e rs,hd,r=>by simp [PyData.hasDict] at hd
theorem DnAll.reads {P:Program} {w:World} {H:Hp} {h:Heap} (ok:HOk P w H h):∀ {vs:List V} {ds:List PyData} {us:List Value},DnAll H vs ds->PyData.hasDictAll ds=false->Vals vs us->∃ as,ReadsAll h us ds as
 | _,_,_,.nil,_,r=>by cases r; exact ⟨_,.nil⟩
 | _,_,_,.cons p t,hd,r=>by
  cases r with
  | cons r1 r2 =>
   simp only [PyData.hasDictAll,Bool.or_eq_false_iff] at hd
   obtain ⟨as,q⟩:=Dn.reads ok p hd.1 r1
   obtain ⟨bs,q2⟩:=DnAll.reads ok t hd.2 r2
   exact ⟨_,.cons q q2⟩
end
section
variable {X:Cx}
theorem ZhY {k:Nat} (hr:Room k X.A):OpR X (compareOp .Eq) (λx y H Q=>∃ d e,Dn H x d/\Dn H y e/\SeqAt.shaped d=true/\SeqAt.shaped e=true/\Q (.bl (PyData.eqv d e)) H):=by
 intro pins s σ H x y v u Q I rx ry h
 obtain ⟨d,e,hd,he,sd,se,q⟩:=h
 obtain ⟨as,r1⟩:=Dn.reads I.hok hd (PyData.hasDict_of_canLay _ (SeqAt.canLay_of_shaped sd)) rx
 obtain ⟨bs,r2⟩:=Dn.reads I.hok he (PyData.hasDict_of_canLay _ (SeqAt.canLay_of_shaped se)) ry
 exact SeqAt.compareEq_shaped r1 r2 sd se hr.units ⟨.bl _,H,I,rfl,q⟩
theorem Zb6 {k:Nat} (hr:Room k X.A):OpR X (compareOp .NotEq) (λx y H Q=>∃ d e,Dn H x d/\Dn H y e/\SeqAt.shaped d=true/\SeqAt.shaped e=true/\Q (.bl (!PyData.eqv d e)) H):=by
 intro pins s σ H x y v u Q I rx ry h
 obtain ⟨d,e,hd,he,sd,se,q⟩:=h
 obtain ⟨as,r1⟩:=Dn.reads I.hok hd (PyData.hasDict_of_canLay _ (SeqAt.canLay_of_shaped sd)) rx
 obtain ⟨bs,r2⟩:=Dn.reads I.hok he (PyData.hasDict_of_canLay _ (SeqAt.canLay_of_shaped se)) ry
 exact SeqAt.compareNe_shaped r1 r2 sd se hr.units ⟨.bl _,H,I,rfl,q⟩
end
structure Def (K:PySem.W.Frag) (mg:Str->Option Value) (x:Str) (st:Stmt) (ps:List Str):Prop where
 ex:∃ f fd,Fun K x x st f fd/\mg x=some (.ref f)/\Binds K fd ps []
structure Callee (P:Program) (w:World) (K:PySem.W.Frag) (mg:Str->Option Value) (base:Heap) (x:Str) (k:Nat) (ps:List Str) (sp:Sp):Prop where
 ex:∃ f fd,FnOk P w K mg base g0 k f fd ps sp/\mg x=some (.ref f)/\PySem.W.keepIn K (.ref f)=true/\Binds K fd ps []
section
variable {P:Program} {w:World} {K:PySem.W.Frag} {mg:Str->Option Value} {base:Heap}
theorem Def.ok {x:Str} {st:Stmt} {N ps:List Str} {k:Nat} {sp:Sp} (D:Def K mg x st ps) (S:FnScope N ps (aB st)) (len:∀ vs H Q E,sp vs H Q E->vs.length=ps.length)
  (hbody:∀ (f:Addr) (cdv:Value) (A:Around) (outer:List Env) (s:Shared) (H:Hp) (vs:List V) (Q:VK) (E:XK),Room k (A.deeper (envOfC x (aB st) s.heap.objs.size f cdv))->sp vs H Q E ->
   ∃ t,PSs (cE g0 P w K mg base N x (aB st) f cdv A outer s H E).nox (fe st) t/\t { nx:=λ_ H'=>Q .non H',rt:=Q } (start N vs) H):Callee P w K mg base x (k+1) ps sp:=by
 obtain ⟨f,fd,F,hm,hb⟩:=D.ex
 exact ⟨f,fd,F.ok S len λcdv A outer s H vs Q E hr h=>hbody f cdv A outer s H vs Q E hr h,hm,F.kp,hb⟩
theorem bM {x:Str} {st:Stmt} {ps:List Str} {h:Heap} {f:Addr} {oc:Value} {od an:Option Addr} {osl:Array (Option Value)} {kV doc pm cdv ct:Value} (X:K.In h) (G:h.Ns mainGlobals mg)
  (a:PySem.W.nsIn K mainGlobals x=some (some (.ref f))) (l:K.lookup f=some ⟨oc,od,.func (PySem.W.fnOf x x (jH st) (fe st) (aB st) .none kV doc pm an cdv ct),osl⟩)
  (c:PySem.W.codeIn K cdv x=true) (k:PySem.W.keepIn K (.ref f)=true)
  (hb:∀ (kV doc pm:Value) (an:Option Addr) (cdv ct:Value) (us:List Value),us.length=ps.length->bindArgs (PySem.W.fnOf x x (jH st) (fe st) (aB st) .none kV doc pm an cdv ct) ⟨us,[]⟩=pure (ps.zip us)):Def K mg x st ps:=by
 have F:=ZjU (st:=st) l c k
 exact ⟨f,_,F,PySem.W.mg_of X G a,F.binds hb⟩
end
section
variable {X:Cx} {x:Str} {k:Nat} {ps:List Str} {sp:Sp} {e:Expr} {es:List Expr} {t:TA} {p pos:Pos}
theorem ZbX (C:Callee X.prog X.w X.K X.mg X.base x k ps sp) (hr:Room k X.A) (hg:Gl X x) (ha:PA X (e::es) t) (hdb:(x == ("__debug__":Str))=false:=by decide)
  (he:starEach (e::es) X.env=(false,eval e X.env)::starEach es X.env:=by rfl) (hpl:(backTo pos (starEach es X.env)).any (·.1)=false:=by rfl):PE X (.Call (.Name x p) (e::es) [] pos) (Zax sp [] E0 t):=by
 obtain ⟨f,fd,F,hm,hk,hb⟩:=C.ex
 exact ZbY F hr hg hm hk hb .nil ZhH ha hdb he hpl
theorem Zhv {i:Int} (hg:Gl X x) (h:∃ t,X.mg x=some (.int i t)) (hd:(x == ("__debug__":Str))=false:=by decide):PE X (.Name x pos) (tC (.int i)):=by
 obtain ⟨t,e⟩:=h
 exact eW hg e ⟨t,rfl⟩ hd
end
noncomputable def Zfz (t:TS):TS:=λD σ H=>∃ J:St->Hp->Prop,t { D with nx:=J } σ H/\∀ σ' H',J σ' H'->D.nx σ' H'
noncomputable def Zfy (t:TT):TT:=λσ H Q=>∃ J:Bool->Hp->Prop,t σ H J/\∀ b H',J b H'->Q b H'
section
variable {X:Cx} {st:Stmt} {e:Expr}
theorem PS.join {t:TS} (h:PS X st t):PS X st (Zfz t):=by
 rintro pins s σ H D I ⟨J,q,hJ⟩
 refine thn (h pins s σ H _ I q) λf s' z=>?_
 cases f with
 | next=>obtain ⟨σ',H',I',q'⟩:=z; exact ⟨σ',H',I',hJ _ _ q'⟩
 | brk=>exact z
 | cont=>exact z
 | ret u=>exact z
theorem PT.join {t:TT} (h:PT X e t):PT X e (Zfy t):=by
 rintro pins s σ H Q I ⟨J,q,hJ⟩
 refine thn (h pins s σ H _ I q) λb s' ⟨H',I',q'⟩=>⟨H',I',hJ _ _ q'⟩
end
noncomputable def bG (c:Addr) (at' left:Int):List (ap×V):=[(Sum.inr "script",.ref c),(Sum.inr "at",.int at'),(Sum.inr "left",.int left)]
structure Pen (H:Hp) (p c:Addr) (ns:List Int) (m:Nat):Prop where
 ex:∃ (k:Nat) (left:Int),H p=some (.dK (bG c k left))/\k<=m/\0<=left
 cells:H c=some (.lst (ns.map V.int))
 len:ns.length<=63
theorem ne1:¬ ((Sum.inr ("script":Str):ap)=(Sum.inr ("at":Str):ap)):=by decide +kernel
theorem ne2:¬ ((Sum.inr ("script":Str):ap)=(Sum.inr ("left":Str):ap)):=by decide +kernel
theorem qz:¬ ((Sum.inr ("at":Str):ap)=(Sum.inr ("left":Str):ap)):=by decide +kernel
theorem Zhn (c:Addr) (a l:Int):dF (bG c a l) (Sum.inr "script":ap)=some (.ref c):=i8 rfl
theorem ZbT (c:Addr) (a l:Int):dF (bG c a l) (Sum.inr "at":ap)=some (.int a):=by
 unfold bG
 rw [i9 ne1,i8 rfl]
theorem ZbS (c:Addr) (a l:Int):dF (bG c a l) (Sum.inr "left":ap)=some (.int l):=by
 unfold bG
 rw [i9 ne2,i9 qz,i8 rfl]
theorem Zhp (c:Addr) (a l b:Int):cI (bG c a l) (Sum.inr "at":ap) (.int b)=bG c b l:=by
 have h:((bG c a l).any λkv=>decide (kv.1=(Sum.inr "at":ap)))=true:=by rw [lD,ZbT]; rfl
 unfold cI
 rw [if_pos h]
 unfold bG
 simp only [List.map_cons,List.map_nil,if_neg ne1,if_neg (Ne.symm qz),if_true]
theorem Zho (c:Addr) (a l b:Int):cI (bG c a l) (Sum.inr "left":ap) (.int b)=bG c a b:=by
 have h:((bG c a l).any λkv=>decide (kv.1=(Sum.inr "left":ap)))=true:=by rw [lD,ZbS]; rfl
 unfold cI
 rw [if_pos h]
 unfold bG
 simp only [List.map_cons,List.map_nil,if_neg ne2,if_neg qz,if_true]
section
variable {H:Hp} {p c:Addr} {a l b:Int}
theorem Zn1 (h:H p=some (.dK (bG c a l))):DGet H p (.str "script") (some (.ref c)):=by
 have q:=DGet.k (k:=(Sum.inr "script":ap)) h
 rw [Zhn] at q
 exact q
theorem Zn2 (h:H p=some (.dK (bG c a l))):DGet H p (.str "at") (some (.int a)):=by
 have q:=DGet.k (k:=(Sum.inr "at":ap)) h
 rw [ZbT] at q
 exact q
theorem rN (h:H p=some (.dK (bG c a l))):DGet H p (.str "left") (some (.int l)):=by
 have q:=DGet.k (k:=(Sum.inr "left":ap)) h
 rw [ZbS] at q
 exact q
theorem ZnW (h:H p=some (.dK (bG c a l))):DPut H p (.str "at") (.int b) (upd H p (.dK (bG c b l))):=by
 have q:=DPut.k (k:=(Sum.inr "at":ap)) (v:=V.int b) h (by show 3 < sizeLine; decide)
 rw [Zhp] at q
 exact q
theorem Zdp (h:H p=some (.dK (bG c a l))):DPut H p (.str "left") (.int b) (upd H p (.dK (bG c a b))):=by
 have q:=DPut.k (k:=(Sum.inr "left":ap)) (v:=V.int b) h (by show 3 < sizeLine; decide)
 rw [Zho] at q
 exact q
end
noncomputable def Kept (p:Addr) (H H':Hp):Prop:=∀ b o,H b=some o->b≠p->H' b=some o
theorem Kept.refl {p:Addr} {H:Hp}:Kept p H H:=λ_ _ h _=>h
theorem Kept.new {p q:Addr} {H H':Hp} {o:HO} (a:Kept p H H') (hq:H' q=none):Kept p H (upd H' q o):=λc u h n=>by
 have e:=a c u h n
 rw [aJ (c7 e hq)]
 exact e
theorem Kept.pen {p:Addr} {H H':Hp} {o:HO} (a:Kept p H H'):Kept p H (upd H' p o):=λc u h n=>by
 rw [aJ n]
 exact a c u h n
theorem Same.new {q:Addr} {H H':Hp} {o:HO} (a:Same H H') (hq:H' q=none):Same H (upd H' q o):=λc u h=>by
 have e:=a c u h
 rw [aJ (c7 e hq)]
 exact e
noncomputable def ZaH:Sp:=λvs H Q _=>∃ (p c:Addr) (ns:List Int) (m:Nat) (most:Int),vs=[.ref p,.int most]/\Pen H p c ns m/\m<=500000/\0 < most/\most < 1073741824 /\
 ∀ (r:Int) (H':Hp),0<=r->r < most->Pen H' p c ns (m+1)->Kept p H H'->Q (.int r) H'
noncomputable def ZfQ (K:PySem.W.Frag):Sp:=λvs H Q _=>∃ (a:Addr) (ns:List Int),vs=[.ref a]/\SqL K H a (ns.map V.int)/\ns.length<=63 /\
 ∀ (p c:Addr) (H':Hp),H p=none->Pen H' p c ns 0->Same H H'->Q (.ref p) H'
theorem ZaS (ns:List Int):SeqAt.shaped (.list (ns.map PyData.int))=true:=by
 have h1:PyData.canLayAll0 (ns.map PyData.int)=true:=by
  induction ns with
  | nil=>rfl
  | cons n r ih=>simp [PyData.canLayAll0,PyData.canLay0,ih]
 have h2:PyData.depthAll (ns.map PyData.int)=0:=by
  induction ns with
  | nil=>rfl
  | cons n r ih=>simp [PyData.depthAll,PyData.depth]; exact ih (by
    have:=h1
    simp [PyData.canLayAll0] at this
    exact this.2)
 simp [SeqAt.shaped,PyData.canLay0,PyData.depth,h1,h2]
theorem Znw (ns:List Int):PyData.eqv (.list (ns.map PyData.int)) (.list [])=ns.isEmpty:=by
 cases ns with
 | nil=>rfl
 | cons n r=>rfl
section
variable {prog:Program} {w:World} {A:Around} {E:Value->Shared->Prop} {s:Shared} {r:Addr} {a b c:Int} {t u v:Tok} {n:Nat}
end
section
variable {X:Cx}
theorem Zik:fillsNumberSlot (.type "tuple") "mul"=pure false :=
 PySem.fillsNumberSlot_seq (id:="tuple.__mul__") (r:=some (.builtin "tuple.__rmul__")) PySem.F.slot_tuple_mul.lookup (by decide +kernel) PySem.F.slot_tuple_rmul.lookup (by decide +kernel)
theorem ZgK:seqRepeat? (.type "tuple")=pure (some (.builtin "tuple.__mul__")):=by
 unfold seqRepeat?
 rw [PySem.seqSlot_of (T:="tuple") (name:="__mul__") (id:="tuple.__mul__") PySem.F.slot_tuple_mul.lookup (by decide +kernel),PySem.seqSlot_of (T:="tuple") (name:="__rmul__") (id:="tuple.__rmul__") PySem.F.slot_tuple_rmul.lookup (by decide +kernel)]; rfl
theorem ZgH (x:Int) (t:Tok) (l:Addr) (items:Array Value) (n:Nat) (dd:Option Addr) (sl:Array (Option Value)) :
  Meets (Builtin.«int.__rmul__» ⟨[.int x t,.ref l],[]⟩) (λ_ R s=>s.heap.get? l=some { cls:=.type "tuple",dict:=dd,data:=.seq items n,slots:=sl }/\R (.ok (.ret Value.notImplemented)) s):=by
 refine .of_wp λprog w A R s h=>?_
 obtain ⟨hp,g,d,tk,os⟩:=s
 obtain ⟨hl,h⟩:=h
 wp_walk
 exact ⟨_,rfl,h⟩
theorem Ziw (x:Int) (t:Tok) (l:Addr) (items:Array Value) (n:Nat) (dd:Option Addr) (sl:Array (Option Value)) (h1:1 < x) (h2:x<=1000) (h3:items.isEmpty=false) (h4:items.size<=1000) :
  Meets (Builtin.«tuple.__mul__» ⟨[.ref l,.int x t],[]⟩) (λ_ R s=>s.heap.get? l=some { cls:=.type "tuple",dict:=dd,data:=.seq items n,slots:=sl } /\
   R (.ok (.ret (.ref s.heap.objs.size))) { s with heap:=s.heap.push { cls:=.type "tuple",data:=.seq ((List.replicate x.toNat items).foldl (·++·) #[]) } }):=by
 refine .of_wp λprog w A R s h=>?_
 obtain ⟨hp,g,d,tk,os⟩:=s
 obtain ⟨hl,h⟩:=h
 have hp0:0<=(items.size:Int) * x:=Int.mul_nonneg (by omega) (by omega)
 have hp1:(items.size:Int) * x<=1000 * 1000:=Int.mul_le_mul (by omega) h2 (by omega) (by omega)
 have hne:items.size≠0:=λe=>by simp [Array.isEmpty,e] at h3
 wp_walk
 refine wpAny_ite_split (λz=>absurd z (by simp; omega)) (λ_=>?_)
 refine wpAny_bind ?_
 unfold Builtin.Tuple.tupleItemsOf
 refine wpAny_bind (wpAny_seqItems hl rfl (wpAny_pure ?_))
 refine wpAny_ite_split (λz=>absurd z (by rw [h3]; simp; omega)) (λ_=>?_)
 refine wpAny_ite_split (λz=>absurd z (by rw [h3]; simp; omega)) (λ_=>?_)
 refine wpAny_ite_split (λz=>absurd z (by omega)) (λ_=>?_)
 refine wpAny_ite_split (λz=>absurd z (by unfold Builtin.Tuple.tupleTooMany; rw [sizeLine_eq]; simp; omega)) (λ_=>?_)
 unfold Builtin.Tuple.tupleExact
 have hlen:∀ k:Nat,((List.replicate k items).foldl (·++·) #[]).size=k * items.size:=λk=>by
  have key:∀ (k:Nat) (acc:Array Value),((List.replicate k items).foldl (·++·) acc).size=acc.size+k * items.size:=by
   intro k
   induction k with
   | zero=>intro acc; simp
   | succ k ih =>
    intro acc
    rw [List.replicate_succ,List.foldl_cons,ih,Array.size_append,Nat.succ_mul]
    omega
  simpa using key k #[]
 refine wpAny_bind (wpAny_newObj_type (wpAny_pure ⟨_,rfl,h⟩) ?_)
 show ((List.replicate x.toNat items).foldl (·++·) #[]).size<=sizeLine
 rw [hlen,sizeLine_eq]
 have hx:x.toNat<=1000:=by omega
 exact Nat.le_trans (Nat.mul_le_mul hx h4) (by decide)
noncomputable def Zbp (K:PySem.W.Frag):R2:=λx y H Q=>∃ a k xs,x=.ref a/\y=.int k/\SqT K H a xs/\1 < k/\k<=1000/\xs≠[]/\xs.length<=1000/\∀ p,H p=none->Q (.ref p) (upd H p (.tup (List.replicate k.toNat xs).flatten))
theorem Zao {xs:List V} {us:List Value} (r:Vals xs us):∀ k:Nat,Vals (List.replicate k xs).flatten (List.replicate k us).flatten
 | 0=>.nil
 | k+1=>by
  rw [List.replicate_succ,List.replicate_succ,List.flatten_cons,List.flatten_cons]
  exact r.append (Zao r k)
theorem ZhN:OpR X (binaryOp .Mult) (Zbp X.K):=by
 intro pins s σ H x y v u Q I rx ry h
 obtain ⟨a,k,xs,rfl,rfl,hq,h1,h2,hne,hl,q⟩:=h
 cases rx
 obtain ⟨t,rfl⟩:=ry
 obtain ⟨its,rv,p,hz⟩:=I.tuple hq
 obtain ⟨o,ho,hc,n,hd⟩:=p
 obtain ⟨oc,od,odd,osl⟩:=o
 have hc':oc=.type "tuple":=hc
 have hd':odd=.seq its.toArray n:=hd
 subst hc' hd'
 have hlen:=rv.length
 have hemp:its.toArray.isEmpty=false:=by
  cases its with
  | nil=>cases rv; exact absurd rfl hne
  | cons i r=>rfl
 have efl:(List.replicate k.toNat its.toArray).foldl (·++·) #[]=(List.replicate k.toNat its).flatten.toArray:=by
  have key:∀ (k:Nat) (acc:Array Value),(List.replicate k its.toArray).foldl (·++·) acc=acc++(List.replicate k its).flatten.toArray:=by
   intro k
   induction k with
   | zero=>intro acc; simp
   | succ k ih =>
    intro acc
    rw [List.replicate_succ,List.foldl_cons,ih,List.replicate_succ,List.flatten_cons]
    simp
  simpa using key k.toNat #[]
 refine wpAny_binaryOp_repeat_ref (T:="tuple") (U:="int") (by decide) ⟨_,ho,rfl⟩ (λs'=>typeIs_int s' k t) Zik PySem.F.fills_int_mul PySem.F.slot_int_rmul ZgK PySem.F.slot_int_index.lookup ?_
 refine call_meets PySem.F.slot_int_rmul (typeIs_int s k t) PySem.F.entry_int_rmul (PySem.F.args_int_rmul_2 _ _) (ZgH k t a its.toArray n od osl) ⟨ho,rfl,⟨_,ho,rfl⟩,?_⟩
 refine call_meets PySem.F.slot_tuple_mul ⟨_,ho,rfl⟩ PySem.F.entry_tuple_mul (PySem.F.args_tuple_mul_2 _ _) (Ziw k t a its.toArray n od osl h1 h2 hemp (by rw [List.size_toArray]; omega)) ⟨ho,?_⟩
 rw [efl]
 have hzz:(List.replicate k.toNat xs).flatten.length<=sizeLine:=by
  have hx:k.toNat<=1000:=by omega
  have e:(List.replicate k.toNat xs).flatten.length=k.toNat * xs.length:=by simp
  rw [e,sizeLine_eq]
  exact Nat.le_trans (Nat.mul_le_mul hx hl) (by decide)
 exact ⟨.ref s.heap.objs.size,_,I.laid (t':=s.toks) (λb o e=>Heap.get?_push_of_some _ e) (Nat.le_refl _) (show ObjOk X.prog X.w _ _ _ (.tup (List.replicate k.toNat xs).flatten) from ⟨hzz,_,Zao rv k.toNat,IsTup.new _ _⟩),rfl,q _ (I.hok.fresh (Nat.le_refl _))⟩
end
theorem Zcr {n:Nat} (h:n < 2 ^ 1900):n.log2 < 1900:=by
 by_cases h0:n=0
 ·rw [h0]; decide
 ·exact (Nat.log2_lt h0).mpr h
theorem Zf4 {i:Int} (h:i.natAbs < 2 ^ 1900):(PyData.int i).shown.length<=1901:=by
 have e:=int_text_length_le (k:=1900) (by decide) (Zcr h)
 have q:(Str.ofString (toString i)).length<=1901:=by rw [PySem.ofString_length]; exact e
 simpa [PyData.shown] using q
theorem ZaQ:∀ (ns:List Int),(∀ n∈ns,n.natAbs < 2 ^ 1900)->((PyData.shownAll (ns.map PyData.int)).map (·.length)).sum<=ns.length * 1901/\(PyData.shownAll (ns.map PyData.int)).length=ns.length
 | [],_=>⟨by simp [PyData.shownAll],rfl⟩
 | n::r,h=>by
  obtain ⟨h1,h2⟩:=ZaQ r λx hx=>h x (List.mem_cons_of_mem _ hx)
  have h3:=Zf4 (h n List.mem_cons_self)
  rw [List.map_cons,PyData.shownAll,List.map_cons,List.sum_cons,List.length_cons,List.length_cons,h2,Nat.succ_mul]
  exact ⟨by omega,rfl⟩
theorem ZaR:∀ (ns:List Int),(∀ n∈ns,n.natAbs < 2 ^ 1900)->PyData.showableAll (ns.map PyData.int)=true
 | [],_=>rfl
 | n::r,h=>by
  rw [List.map_cons,PyData.showableAll,ZaR r λx hx=>h x (List.mem_cons_of_mem _ hx),Bool.and_true]
  have q:=Zcr (h n List.mem_cons_self)
  simp only [PyData.showable,decide_eq_true_eq]
  omega
noncomputable def ii (lo:Int) (n:Nat):List Int:=(List.range n).map λ(k:Nat)=>lo+(k:Int)
theorem pN (lo:Int) (n:Nat):(ii lo n).length=n:=by
 unfold ii
 rw [List.length_map,List.length_range]
noncomputable def CMulG (i j:Int):Prop:=i.natAbs < 2 ^ 8000/\j.natAbs < 2 ^ 8000
theorem Zeg {x:Int} (h:x.natAbs < 2 ^ 8000):Builtin.Int.intBits x<=8000:=by
 unfold Builtin.Int.intBits
 split
 ·exact Nat.zero_le _
 ·rename_i hx
  have h0:x.natAbs≠0:=by
   intro z
   have e:x=0:=Int.natAbs_eq_zero.mp z
   rw [e] at hx
   exact hx rfl
  exact (Nat.log2_lt h0).mpr h
theorem CMulG.ok {i j:Int} (h:CMulG i j):IntMulOk i j:=by
 have h1:=Zeg h.1
 have h2:=Zeg h.2
 unfold IntMulOk
 have e:Builtin.Int.intTooBig ((Builtin.Int.intBits i+Builtin.Int.intBits j:Nat):Int)=false:=by
  unfold Builtin.Int.intTooBig
  refine decide_eq_false ?_
  have hb:((16000:Nat):Int)<=(bitsLine:Int):=by decide
  omega
 intro z
 rw [Bool.and_eq_true] at z
 have z2:Builtin.Int.intTooBig ((Builtin.Int.intBits i+Builtin.Int.intBits j:Nat):Int)=true:=z.2
 rw [e] at z2
 cases z2
section
variable {X:Cx}
theorem ZhU:OpR X (binaryOp .Mult) (rI CMulG λi j=>.int (i * j)):=kP λ_ _ _ _ _ _ _ hc q=>mul_int q hc.ok
theorem iJ:CallR X (.builtin "isinstance") (λxs H Q=>∃ x T t b,xs=[x,.ty T]/\TyOf X.K H x t/\PySem.W.kitOne X.K t (.type T)=some b/\Q (.bl b) H):=by
 intro pins s σ H xs us Q I r h
 obtain ⟨x,T,t,b,rfl,ty,e,q⟩:=h
 obtain ⟨u,c,rfl,ru,rc⟩:=kb r
 cases rc
 exact Zjf I ru ty e λtk=>⟨.bl b,H,I.tok tk,rfl,q⟩
end
end L2
namespace Gc
end Gc
namespace L2
open PySem PySem.Spec PyProof.Rows
inductive Tr (α:Type) where
 | ret (a:α)
 | draw (n:Int) (k:Int->Tr α)
 | fail
namespace Tr
variable {α β γ:Type}
noncomputable def bind:Tr α->(α->Tr β)->Tr β
 | .ret a,f=>f a
 | .draw n k,f=>.draw n λr=>(k r).bind f
 | .fail,_=>.fail
@[simp] theorem ret_bind (a:α) (f:α->Tr β):(Tr.ret a).bind f=f a:=rfl
@[simp] theorem draw_bind (n:Int) (k:Int->Tr α) (f:α->Tr β):(Tr.draw n k).bind f=.draw n λr=>(k r).bind f:=rfl
@[simp] theorem fail_bind (f:α->Tr β):(Tr.fail:Tr α).bind f=.fail:=rfl
@[simp] theorem bind_assoc:∀ (t:Tr α) (f:α->Tr β) (g:β->Tr γ),(t.bind f).bind g=t.bind λa=>(f a).bind g
 | .ret a,f,g=>rfl
 | .draw n k,f,g=>by simp only [draw_bind]; congr 1; funext r; exact bind_assoc (k r) f g
 | .fail,f,g=>rfl
noncomputable def of:Option α->Tr α
 | some a=>.ret a
 | none=>.fail
@[simp] theorem of_some (a:α):Tr.of (some a)=.ret a:=rfl
@[simp] theorem of_none:Tr.of (none:Option α)=.fail:=rfl
noncomputable def ok:Tr α->Nat->(Nat->α->Prop)->Prop
 | .ret a,m,Q=>Q m a
 | .draw n k,m,Q=>m < 400000/\0 < n/\n < 1073741824/\∀ r,0<=r->r < n->(k r).ok (m+1) Q
 | .fail,_,_=>False
theorem ok_mono:∀ {t:Tr α} {m:Nat} {Q Q':Nat->α->Prop},t.ok m Q->(∀ m a,Q m a->Q' m a)->t.ok m Q'
 | .ret a,m,_,_,h,hq=>hq m a h
 | .draw n k,m,_,_,⟨h1,h2,h3,h⟩,hq=>⟨h1,h2,h3,λr h0 h1=>ok_mono (h r h0 h1) hq⟩
theorem ok_bind:∀ {t:Tr α} {f:α->Tr β} {m:Nat} {Q:Nat->β->Prop},(t.bind f).ok m Q ↔ t.ok m λm' a=>(f a).ok m' Q
 | .ret a,f,m,Q=>Iff.rfl
 | .draw n k,f,m,Q=>by
  show (_/\_/\_/\∀ r,_) ↔ (_/\_/\_/\∀ r,_)
  refine and_congr_right λ_=>and_congr_right λ_=>and_congr_right λ_=>forall_congr' λr=>forall_congr' λ_=>forall_congr' λ_=>ok_bind
 | .fail,f,m,Q=>Iff.rfl
theorem ok_of {o:Option α} {m:Nat} {Q:Nat->α->Prop} (h:(Tr.of o).ok m Q):∃ a,o=some a/\Q m a:=by
 cases o with
 | none=>exact h.elim
 | some a=>exact ⟨a,rfl,h⟩
noncomputable def all:Tr α->Nat->(α->Prop)->Prop
 | .ret a,_,P=>P a
 | .draw w k,n+1,P=>0 < w/\w < 1073741824/\∀ r,0<=r->r < w->(k r).all n P
 | .draw _ _,0,_=>False
 | .fail,_,_=>False
theorem all_ok:∀ {t:Tr α} {n m:Nat} {P:α->Prop},t.all n P->m+n<=400000->t.ok m λm' a=>m'<=m+n/\P a
 | .ret a,n,m,P,h,hm=>⟨by omega,h⟩
 | .draw w k,n+1,m,P,⟨h1,h2,h⟩,hm=>⟨by omega,h1,h2,λr a b=>ok_mono (all_ok (h r a b) (by omega)) λm' x hz0=>by
  obtain ⟨p,q⟩:=hz0
  exact ⟨by omega,q⟩⟩
theorem all_mono:∀ {t:Tr α} {n n':Nat} {P P':α->Prop},t.all n P->n<=n'->(∀ a,P a->P' a)->t.all n' P'
 | .ret a,n,n',P,P',h,hn,hp=>hp a h
 | .draw w k,n+1,n'+1,P,P',⟨h1,h2,h⟩,hn,hp=>⟨h1,h2,λr a b=>all_mono (h r a b) (by omega) hp⟩
 | .draw w k,n+1,0,P,P',h,hn,hp=>by omega
theorem all_bind:∀ {t:Tr α} {f:α->Tr β} {n n':Nat} {P:α->Prop} {P':β->Prop},t.all n P->(∀ a,P a->(f a).all n' P')->(t.bind f).all (n+n') P'
 | .ret a,f,n,n',P,P',h,hf=>all_mono (hf a h) (by omega) λ_ x=>x
 | .draw w k,f,n+1,n',P,P',⟨h1,h2,h⟩,hf=>by
  have e:n+1+n'=(n+n')+1:=by omega
  rw [e]
  exact ⟨h1,h2,λr a b=>all_bind (h r a b) hf⟩
end Tr
noncomputable abbrev Sub (G H:Hp):Prop:=∀ b o,G b=some o->H b=some o
structure Pk where
 is:HO->Hp->Nat->Prop
 mono:∀ {o:HO} {G G':Hp} {m:Nat},Sub G G'->is o G m->is o G' m
structure Wd (PK:Pk) (pa:Addr) (m:Nat) (G H:Hp):Prop where
 sub:Sub G H
 gpa:G pa=none
 pen:∃ o,H pa=some o/\PK.is o G m
structure Stp (pa:Addr) (G H G' H':Hp):Prop where
 gs:Sub G G'
 gn:∀ b o,G' b=some o->G b=some o\/H b=none
 hk:∀ b o,H b=some o->b≠pa->H' b=some o
theorem Stp.refl {pa:Addr} {G H:Hp}:Stp pa G H G H:=⟨λ_ _ h=>h,λ_ _ h=>.inl h,λ_ _ h _=>h⟩
theorem Stp.trans {pa:Addr} {G H G1 H1 G2 H2:Hp} (a:Stp pa G H G1 H1) (b:Stp pa G1 H1 G2 H2) (hp:∃ o,H1 pa=some o):Stp pa G H G2 H2:=by
 refine ⟨λc o h=>b.gs c o (a.gs c o h),λc o h=>?_,λc o h n=>b.hk c o (a.hk c o h n) n⟩
 rcases b.gn c o h with z | z
 ·exact a.gn c o z
 ·refine .inr ?_
  cases e:H c with
  | none=>rfl
  | some u =>
   by_cases hc:c=pa
   ·subst hc
    obtain ⟨o',z'⟩:=hp
    rw [z'] at z; cases z
   ·rw [a.hk c u e hc] at z; cases z
section
variable {PK:Pk} {pa:Addr} {m:Nat} {G H:Hp}
theorem Wd.some (w:Wd PK pa m G H):∃ o,H pa=some o:=let ⟨o,h,_⟩:=w.pen; ⟨o,h⟩
theorem Wd.ne (w:Wd PK pa m G H) {p:Addr} (hp:H p=none):pa≠p:=λe=>by
 obtain ⟨o,h⟩:=w.some
 rw [e,hp] at h; cases h
theorem Sub.new {p:Addr} {o:HO} (hp:G p=none):Sub G (upd G p o):=λb u h=>by rw [aJ (c7 h hp)]; exact h
theorem Wd.gnone (w:Wd PK pa m G H) {p:Addr} (hp:H p=none):G p=none:=by
 cases e:G p with
 | none=>rfl
 | some o=>rw [w.sub p o e] at hp; cases hp
theorem Sub.upd2 {p:Addr} {o:HO} (s:Sub G H):Sub (upd G p o) (upd H p o):=λb u h=>by
 by_cases e:b=p
 ·subst e; rw [bP] at h ⊢; exact h
 ·rw [aJ e] at h ⊢; exact s b u h
theorem Wd.new (w:Wd PK pa m G H) {p:Addr} {o:HO} (hp:H p=none):Wd PK pa m (upd G p o) (upd H p o)/\Stp pa G H (upd G p o) (upd H p o):=by
 have hg:=w.gnone hp
 have hne:=w.ne hp
 refine ⟨⟨w.sub.upd2,by rw [aJ hne]; exact w.gpa,?_⟩,⟨Sub.new hg,λb u h=>?_,λb u h _=>by rw [aJ (c7 h hp)]; exact h⟩⟩
 ·obtain ⟨u,h,q⟩:=w.pen
  exact ⟨u,by rw [aJ hne]; exact h,PK.mono (Sub.new hg) q⟩
 ·by_cases e:b=p
  ·subst e; exact .inr hp
  ·rw [aJ e] at h; exact .inl h
theorem Wd.own (w:Wd PK pa m G H) {p:Addr} {o:HO} (hp:H p=none):Wd PK pa m G (upd H p o)/\Stp pa G H G (upd H p o):=by
 have hne:=w.ne hp
 refine ⟨⟨λb u h=>by rw [aJ (c7 (w.sub b u h) hp)]; exact w.sub b u h,w.gpa,?_⟩,⟨λ_ _ h=>h,λ_ _ h=>.inl h,λb u h _=>by rw [aJ (c7 h hp)]; exact h⟩⟩
 obtain ⟨u,h,q⟩:=w.pen
 exact ⟨u,by rw [aJ hne]; exact h,q⟩
theorem Wd.freeze (w:Wd PK pa m G H) {p:Addr} {o:HO} (hp:H p=Option.some o) (hg:G p=none) (hne:pa≠p):Wd PK pa m (upd G p o) H:=by
 refine ⟨λb u h=>?_,by rw [aJ hne]; exact w.gpa,?_⟩
 ·by_cases e:b=p
  ·subst e; rw [bP] at h; rw [hp]; exact h
  ·rw [aJ e] at h; exact w.sub b u h
 ·obtain ⟨u,h,q⟩:=w.pen
  exact ⟨u,h,PK.mono (Sub.new hg) q⟩
noncomputable def Kn (PK:Pk) (pa:Addr) (m:Nat) (G H:Hp) (x:PyData) (Q:VK):Prop:=∀ v G' H',Stp pa G H G' H'->Wd PK pa m G' H'->Dn G' v x->Q v H'
variable {x:PyData} {Q:VK} {v:V} {vs:List V} {ds:List PyData} {p:Addr}
theorem Kn.here (k:Kn PK pa m G H x Q) (w:Wd PK pa m G H) (d:Dn G v x):Q v H:=k v G H .refl w d
theorem Kn.tup (k:Kn PK pa m G H (.tuple ds) Q) (w:Wd PK pa m G H) (d:DnAll G vs ds) (hp:H p=none):Q (.ref p) (upd H p (.tup vs)):=by
 obtain ⟨w1,s1⟩:=w.new (o:=.tup vs) hp
 exact k _ _ _ s1 w1 (.tup bP (DnAll.mono s1.gs d))
theorem Kn.lst (k:Kn PK pa m G H (.list ds) Q) (w:Wd PK pa m G H) (d:DnAll G vs ds) (hp:H p=none):Q (.ref p) (upd H p (.lst vs)):=by
 obtain ⟨w1,s1⟩:=w.new (o:=.lst vs) hp
 exact k _ _ _ s1 w1 (.lst bP (DnAll.mono s1.gs d))
theorem Kn.later {G1 H1:Hp} (k:Kn PK pa m G H x Q) (s:Stp pa G H G1 H1) (hp:∃ o,H1 pa=Option.some o):Kn PK pa m G1 H1 x Q:=λv G' H' s' w d=>k v G' H' (s.trans s' hp) w d
end
inductive Sl where
 | un | d (x:PyData) | own (xs:List PyData) | pen | dic (kvs:List (Int×PyData)) | fn (a:Addr)
inductive KD (G:Hp):List (ap×V)->List (Int×PyData)->Prop
 | nil:KD G [] []
 | cons {i:Int} {v:V} {d:PyData} {ks:List (ap×V)} {kvs:List (Int×PyData)}:Dn G v d->KD G ks kvs->KD G ((.inl i,v)::ks) ((i,d)::kvs)
theorem KD.mono {G G':Hp} (s:Sub G G') {ks:List (ap×V)} {kvs:List (Int×PyData)} (h:KD G ks kvs):KD G' ks kvs:=by
 induction h with
 | nil=>exact .nil
 | cons h _ ih=>exact .cons (h.mono s) ih
inductive SlOk (pa:Addr) (H₀ G H:Hp):Option V->Sl->Prop
 | un {o:Option V}:SlOk pa H₀ G H o .un
 | d {v:V} {x:PyData}:Dn G v x->SlOk pa H₀ G H (some v) (.d x)
 | own {p:Addr} {vs:List V} {xs:List PyData}:H p=some (.lst vs)->G p=none->H₀ p=none->DnAll G vs xs->SlOk pa H₀ G H (some (.ref p)) (.own xs)
 | pen:SlOk pa H₀ G H (some (.ref pa)) .pen
 | fn {a:Addr}:SlOk pa H₀ G H (some (.ref a)) (.fn a)
 | dic {p:Addr} {ks:List (ap×V)} {kvs:List (Int×PyData)}:H p=some (.dK ks)->G p=none->H₀ p=none->KD G ks kvs->SlOk pa H₀ G H (some (.ref p)) (.dic kvs)
structure Rl (PK:Pk) (pa:Addr) (G₀ H₀:Hp) (m:Nat) (σ:St) (ρ:List Sl) (G H:Hp):Prop where
 wd:Wd PK pa m G H
 st:Stp pa G₀ H₀ G H
 p0:∃ o,H₀ pa=some o
 sl:∀ (i:Nat) (s:Sl),ρ[i]?=some s->∃ o,σ[i]?=some o/\SlOk pa H₀ G H o s
 len:ρ.length=σ.length
 dj:∀ (i j:Nat) (xs ys:List PyData),i≠j->ρ[i]?=some (.own xs)->ρ[j]?=some (.own ys)->σ[i]?≠σ[j]?
 dj2:∀ (i j:Nat) (xs ys:List (Int×PyData)),i≠j->ρ[i]?=some (.dic xs)->ρ[j]?=some (.dic ys)->σ[i]?≠σ[j]?
section
variable {PK:Pk} {pa:Addr} {G₀ H₀ G H:Hp} {m:Nat} {σ:St} {ρ:List Sl}
theorem lJ {α:Type} {l:List α} {k i:Nat} {x y:α} (h:(l.set k x)[i]?=some y) (hn:x≠y):k≠i/\l[i]?=some y:=by
 have hi:k≠i:=λe=>by
  subst e
  have hl:k < l.length:=by
   have:=(List.getElem?_eq_some_iff.mp h).1
   rwa [List.length_set] at this
  rw [List.getElem?_set_self hl] at h
  exact hn (Option.some.inj h)
 rw [List.getElem?_set_ne hi] at h
 exact ⟨hi,h⟩
theorem Zdw {α:Type} {T:α->Sl} {k:Nat} {x:Sl} {v:Option V} (dj:∀ (i j:Nat) (a b:α),i≠j->ρ[i]?=some (T a)->ρ[j]?=some (T b)->σ[i]?≠σ[j]?) (hn:∀ a,x≠T a) :
  ∀ (i j:Nat) (a b:α),i≠j->(ρ.set k x)[i]?=some (T a)->(ρ.set k x)[j]?=some (T b)->(σ.set k v)[i]?≠(σ.set k v)[j]?:=λi j a b hij h1 h2=>by
 obtain ⟨hi,h1⟩:=lJ h1 (hn a)
 obtain ⟨hj,h2⟩:=lJ h2 (hn b)
 rw [List.getElem?_set_ne hi,List.getElem?_set_ne hj]
 exact dj i j a b hij h1 h2
theorem Zdv {α:Type} {T:α->Sl} {k:Nat} {x:Sl} (dj:∀ (i j:Nat) (a b:α),i≠j->ρ[i]?=some (T a)->ρ[j]?=some (T b)->σ[i]?≠σ[j]?) (hn:∀ a,x≠T a) :
  ∀ (i j:Nat) (a b:α),i≠j->(ρ.set k x)[i]?=some (T a)->(ρ.set k x)[j]?=some (T b)->σ[i]?≠σ[j]?:=λi j a b hij h1 h2 =>
 dj i j a b hij (lJ h1 (hn a)).2 (lJ h2 (hn b)).2
theorem SlOk.step {G' H':Hp} {o:Option V} {s:Sl} (k:SlOk pa H₀ G H o s) (hp0:∃ o,H₀ pa=some o) (st:Stp pa G H G' H'):SlOk pa H₀ G' H' o s:=by
 cases k with
 | un=>exact .un
 | d h=>exact .d (h.mono st.gs)
 | pen=>exact .pen
 | fn=>exact .fn
 | @own p vs xs h1 h2 h3 h4 =>
  have hne:p≠pa:=λe=>by
   obtain ⟨u,hu⟩:=hp0
   rw [<- e,h3] at hu; cases hu
  refine .own (st.hk _ _ h1 hne) ?_ h3 (DnAll.mono st.gs h4)
  cases e:G' p with
  | none=>rfl
  | some u =>
   rcases st.gn p u e with z | z
   ·rw [h2] at z; cases z
   ·rw [h1] at z; cases z
 | @dic p ks kvs h1 h2 h3 h4 =>
  have hne:p≠pa:=λe=>by
   obtain ⟨u,hu⟩:=hp0
   rw [<- e,h3] at hu; cases hu
  refine .dic (st.hk _ _ h1 hne) ?_ h3 (h4.mono st.gs)
  cases e:G' p with
  | none=>rfl
  | some u =>
   rcases st.gn p u e with z | z
   ·rw [h2] at z; cases z
   ·rw [h1] at z; cases z
theorem Rl.step {G' H':Hp} {m':Nat} (r:Rl PK pa G₀ H₀ m σ ρ G H) (s:Stp pa G H G' H') (w:Wd PK pa m' G' H'):Rl PK pa G₀ H₀ m' σ ρ G' H' :=
 ⟨w,r.st.trans s r.wd.some,r.p0,λi sl h=>let ⟨o,h1,h2⟩:=r.sl i sl h; ⟨o,h1,h2.step r.p0 s⟩,r.len,r.dj,r.dj2⟩
theorem Rl.set (r:Rl PK pa G₀ H₀ m σ ρ G H) {v:V} {x:PyData} (d:Dn G v x) (k:Nat):Rl PK pa G₀ H₀ m (σ.set k (some v)) (ρ.set k (.d x)) G H:=by
 refine ⟨r.wd,r.st,r.p0,λi s h=>?_,by rw [List.length_set,List.length_set]; exact r.len,λi j xs ys hij h1 h2=>?_,Zdw r.dj2 λa h=>by cases h⟩
 ·by_cases e:k=i
  ·subst e
   have hl:k < ρ.length:=by
    have:=(List.getElem?_eq_some_iff.mp h).1
    rwa [List.length_set] at this
   rw [List.getElem?_set_self hl] at h
   cases h
   exact ⟨_,List.getElem?_set_self (by rw [<- r.len]; exact hl),.d d⟩
  ·rw [List.getElem?_set_ne e] at h ⊢
   exact r.sl i s h
 ·have hi:k≠i:=λe=>by
   subst e
   have hl:k < ρ.length:=by
    have:=(List.getElem?_eq_some_iff.mp h1).1
    rwa [List.length_set] at this
   rw [List.getElem?_set_self hl] at h1; cases h1
  have hj:k≠j:=λe=>by
   subst e
   have hl:k < ρ.length:=by
    have:=(List.getElem?_eq_some_iff.mp h2).1
    rwa [List.length_set] at this
   rw [List.getElem?_set_self hl] at h2; cases h2
  rw [List.getElem?_set_ne hi] at h1 ⊢
  rw [List.getElem?_set_ne hj] at h2 ⊢
  exact r.dj i j xs ys hij h1 h2
theorem Rl.setO (r:Rl PK pa G₀ H₀ m σ ρ G H) {p:Addr} {vs:List V} {xs:List PyData} (h1:H p=some (.lst vs)) (h2:G p=none) (h3:H₀ p=none) (h4:DnAll G vs xs)
  (hd:∀ (i:Nat) (ys:List PyData),ρ[i]?=some (.own ys)->σ[i]?≠some (some (.ref p))) (k:Nat):Rl PK pa G₀ H₀ m (σ.set k (some (.ref p))) (ρ.set k (.own xs)) G H:=by
 have up:∀ {i:Nat} {s:Sl},(ρ.set k (.own xs))[i]?=some s->i=k->s=.own xs/\(σ.set k (some (V.ref p)))[i]?=some (some (.ref p)):=λ{i s} h e=>by
  subst e
  have hl:i < ρ.length:=by
   have:=(List.getElem?_eq_some_iff.mp h).1
   rwa [List.length_set] at this
  rw [List.getElem?_set_self hl] at h
  cases h
  exact ⟨rfl,List.getElem?_set_self (by rw [<- r.len]; exact hl)⟩
 refine ⟨r.wd,r.st,r.p0,λi s h=>?_,by rw [List.length_set,List.length_set]; exact r.len,λi j ys zs hij e1 e2=>?_,Zdw r.dj2 λa h=>by cases h⟩
 ·by_cases e:i=k
  ·obtain ⟨e1,e2⟩:=up h e
   subst e1
   exact ⟨_,e2,.own h1 h2 h3 h4⟩
  ·rw [List.getElem?_set_ne (Ne.symm e)] at h ⊢
   exact r.sl i s h
 ·by_cases ei:i=k
  ·have q:=(up e1 ei).2
   have hj:k≠j:=λe=>hij (ei.trans e)
   rw [q]
   rw [List.getElem?_set_ne hj] at e2 ⊢
   exact λz=>hd j zs e2 z.symm
  ·rw [List.getElem?_set_ne (Ne.symm ei)] at e1 ⊢
   by_cases ej:j=k
   ·rw [(up e2 ej).2]
    exact hd i ys e1
   ·rw [List.getElem?_set_ne (Ne.symm ej)] at e2 ⊢
    exact r.dj i j ys zs hij e1 e2
theorem Rl.h0 (r:Rl PK pa G₀ H₀ m σ ρ G H) {p:Addr} (hp:H p=none):H₀ p=none:=by
 cases e:H₀ p with
 | none=>rfl
 | some u =>
  by_cases hc:p=pa
  ·subst hc
   obtain ⟨o,h⟩:=r.wd.some
   rw [hp] at h; cases h
  ·rw [r.st.hk p u e hc] at hp; cases hp
theorem Rl.apart (r:Rl PK pa G₀ H₀ m σ ρ G H) {p:Addr} (hp:H p=none) (i:Nat) (ys:List PyData) (h:ρ[i]?=some (.own ys)):σ[i]?≠some (some (.ref p)):=λe=>by
 obtain ⟨o,h1,h2⟩:=r.sl i _ h
 rw [e] at h1
 cases h1
 cases h2 with
 | own a _ _ _=>rw [hp] at a; cases a
theorem Rl.change (r:Rl PK pa G₀ H₀ m σ ρ G H) {k:Nat} {xs ys:List PyData} {p:Addr} {ws:List V} (hk:ρ[k]?=some (.own xs)) (hσ:σ[k]?=some (some (.ref p))) (d:DnAll G ws ys) :
  Rl PK pa G₀ H₀ m σ (ρ.set k (.own ys)) G (upd H p (.lst ws)):=by
 obtain ⟨o,h1,h2⟩:=r.sl k _ hk
 rw [hσ] at h1
 cases h1
 cases h2 with
 | @own _ vs _ a1 a2 a3 a4 =>
  have hne:pa≠p:=λe=>by
   obtain ⟨u,hu⟩:=r.p0
   rw [e,a3] at hu; cases hu
  have hl:k < ρ.length:=(List.getElem?_eq_some_iff.mp hk).1
  refine ⟨⟨λb o h=>?_,r.wd.gpa,?_⟩,⟨r.st.gs,r.st.gn,λb o h hb=>?_⟩,r.p0,λi s h=>?_,by rw [List.length_set]; exact r.len,λi j us ws hij e1 e2=>?_,Zdv r.dj2 λa h=>by cases h⟩
  ·rw [aJ (λe=>by subst e; rw [a2] at h; cases h)]
   exact r.wd.sub b o h
  ·obtain ⟨u,h,q⟩:=r.wd.pen
   exact ⟨u,by rw [aJ hne]; exact h,q⟩
  ·rw [aJ (λe=>by subst e; rw [a3] at h; cases h)]
   exact r.st.hk b o h hb
  ·by_cases e:k=i
   ·subst e
    rw [List.getElem?_set_self hl] at h
    cases h
    exact ⟨_,hσ,.own bP a2 a3 d⟩
   ·rw [List.getElem?_set_ne e] at h
    obtain ⟨o,q1,q2⟩:=r.sl i s h
    refine ⟨o,q1,?_⟩
    cases q2 with
    | un=>exact .un
    | d z=>exact .d z
    | pen=>exact .pen
    | fn=>exact .fn
    | dic b1 b2 b3 b4=>exact .dic (by rw [aJ (λe2=>by subst e2; rw [a1] at b1; cases b1)]; exact b1) b2 b3 b4
    | own b1 b2 b3 b4 =>
     refine .own ?_ b2 b3 b4
     rw [aJ]
     ·exact b1
     ·intro e2
      subst e2
      exact r.dj k i _ _ e hk h (by rw [hσ,q1])
  ·by_cases ei:k=i
   ·subst ei
    rw [List.getElem?_set_ne hij] at e2
    exact r.dj k j _ _ hij hk e2
   ·rw [List.getElem?_set_ne ei] at e1
    by_cases ej:k=j
    ·subst ej
     exact r.dj i k _ _ hij e1 hk
    ·rw [List.getElem?_set_ne ej] at e2
     exact r.dj i j _ _ hij e1 e2
noncomputable def fz (k:Nat) (ρ:List Sl):List Sl:=match ρ[k]? with
 | some (.own xs)=>ρ.set k (.d (.list xs))
 | _=>ρ
theorem Rl.freeze (r:Rl PK pa G₀ H₀ m σ ρ G H) (k:Nat):∃ G',Sub G G'/\Rl PK pa G₀ H₀ m σ (fz k ρ) G' H:=by
 unfold fz
 split
 ·rename_i xs hk
  obtain ⟨o,h1,h2⟩:=r.sl k _ hk
  cases h2 with
  | @own p vs _ a1 a2 a3 a4 =>
   have hne:pa≠p:=λe=>by
    obtain ⟨u,hu⟩:=r.p0
    rw [e,a3] at hu; cases hu
   have hl:k < ρ.length:=(List.getElem?_eq_some_iff.mp hk).1
   have sb:Sub G (upd G p (.lst vs)):=Sub.new a2
   refine ⟨upd G p (.lst vs),sb,r.wd.freeze a1 a2 hne,⟨λb o h=>sb b o (r.st.gs b o h),λb o h=>?_,r.st.hk⟩,r.p0,λi s h=>?_,by rw [List.length_set]; exact r.len,λi j us ws hij e1 e2=>?_,Zdv r.dj2 λa h=>by cases h⟩
   ·by_cases e:b=p
    ·subst e; exact .inr a3
    ·rw [aJ e] at h; exact r.st.gn b o h
   ·by_cases e:k=i
    ·subst e
     rw [List.getElem?_set_self hl] at h
     cases h
     exact ⟨_,h1,.d (.lst bP (DnAll.mono sb a4))⟩
    ·rw [List.getElem?_set_ne e] at h
     obtain ⟨o,q1,q2⟩:=r.sl i s h
     refine ⟨o,q1,?_⟩
     cases q2 with
     | un=>exact .un
     | d z=>exact .d (z.mono sb)
     | pen=>exact .pen
     | fn=>exact .fn
     | dic b1 b2 b3 b4=>exact .dic b1 (by rw [aJ (λe2=>by subst e2; rw [a1] at b1; cases b1)]; exact b2) b3 (b4.mono sb)
     | own b1 b2 b3 b4 =>
      refine .own b1 ?_ b3 (DnAll.mono sb b4)
      rw [aJ]
      ·exact b2
      ·intro e2
       subst e2
       exact r.dj k i _ _ e hk h (by rw [h1,q1])
   ·have hi:k≠i:=λe=>by subst e; rw [List.getElem?_set_self hl] at e1; cases e1
    have hj:k≠j:=λe=>by subst e; rw [List.getElem?_set_self hl] at e2; cases e2
    rw [List.getElem?_set_ne hi] at e1
    rw [List.getElem?_set_ne hj] at e2
    exact r.dj i j _ _ hij e1 e2
 ·exact ⟨G,λ_ _ h=>h,r⟩
end
noncomputable def TAe (PK:Pk) (i:List Sl->Tr PyData):TE:=λσ H Q=>∃ pa G₀ H₀ m ρ G,Rl PK pa G₀ H₀ m σ ρ G H/\(i ρ).ok m λm' x=>Kn PK pa m' G H x Q
noncomputable def TAt (PK:Pk) (i:List Sl->Tr Bool):TT:=λσ H Q=>∃ pa G₀ H₀ m ρ G,Rl PK pa G₀ H₀ m σ ρ G H/\(i ρ).ok m λm' b=>∀ G' H',Stp pa G H G' H'->Wd PK pa m' G' H'->Q b H'
noncomputable def TAd (PK:Pk) (i:List Sl->Tr (List PyData)):TA:=λσ H Q=>∃ pa G₀ H₀ m ρ G,Rl PK pa G₀ H₀ m σ ρ G H/\(i ρ).ok m λm' xs=>∀ vs G' H',Stp pa G H G' H'->Wd PK pa m' G' H'->DnAll G' vs xs->Q vs H'
noncomputable def Ko1 (PK:Pk) (pa:Addr) (m:Nat) (G H:Hp) (xs:List PyData) (Q:VK):Prop:=∀ p vs G' H',Stp pa G H G' H'->Wd PK pa m G' H'->H p=none->G' p=none->H' p=some (.lst vs)->DnAll G' vs xs->Q (.ref p) H'
noncomputable def fP (PK:Pk) (i:List Sl->Tr (List PyData)):TE:=λσ H Q=>∃ pa G₀ H₀ m ρ G,Rl PK pa G₀ H₀ m σ ρ G H/\(i ρ).ok m λm' xs=>Ko1 PK pa m' G H xs Q
inductive ArOk (pa:Addr) (G:Hp):V->Sl->Prop
 | d {v:V} {x:PyData}:Dn G v x->ArOk pa G v (.d x)
 | pen:ArOk pa G (.ref pa) .pen
 | fn {a:Addr}:ArOk pa G (.ref a) (.fn a)
inductive ArsOk (pa:Addr) (G:Hp):List V->List Sl->Prop
 | nil:ArsOk pa G [] []
 | cons {v:V} {vs:List V} {s:Sl} {ss:List Sl}:ArOk pa G v s->ArsOk pa G vs ss->ArsOk pa G (v::vs) (s::ss)
theorem ArOk.mono {pa:Addr} {G G':Hp} {v:V} {s:Sl} (h:ArOk pa G v s) (e:Sub G G'):ArOk pa G' v s:=by
 cases h with
 | d z=>exact .d (z.mono e)
 | pen=>exact .pen
 | fn=>exact .fn
theorem ArsOk.mono {pa:Addr} {G G':Hp} (e:Sub G G') {vs:List V} {ss:List Sl} (h:ArsOk pa G vs ss):ArsOk pa G' vs ss:=by
 induction h with
 | nil=>exact .nil
 | cons h t ih=>exact .cons (h.mono e) ih
theorem ArsOk.length {pa:Addr} {G:Hp} {vs:List V} {ss:List Sl} (h:ArsOk pa G vs ss):vs.length=ss.length:=by
 induction h with
 | nil=>rfl
 | cons h t ih=>exact congrArg (·+1) ih
noncomputable def TAa (PK:Pk) (i:List Sl->Tr (List Sl)):TA:=λσ H Q=>∃ pa G₀ H₀ m ρ G,Rl PK pa G₀ H₀ m σ ρ G H/\(i ρ).ok m λm' as=>∀ vs G' H',Stp pa G H G' H'->Wd PK pa m' G' H'->ArsOk pa G' vs as->Q vs H'
inductive Re where
 | d (x:PyData) | own (xs:List PyData)
noncomputable def Re.val:Re->PyData
 | .d x=>x
 | .own xs=>.list xs
@[simp] theorem Re.val_d (x:PyData):(Re.d x).val=x:=rfl
@[simp] theorem Re.val_own (xs:List PyData):(Re.own xs).val=.list xs:=rfl
inductive Ou where
 | next (ρ:List Sl) | ret (r:Re) | brk (ρ:List Sl) | cont (ρ:List Sl)
noncomputable def ZpN (H₀ G H:Hp) (v:V):Re->Prop
 | .d x=>Dn G v x
 | .own xs=>∃ p vs,v=.ref p/\H p=some (.lst vs)/\G p=none/\H₀ p=none/\DnAll G vs xs
noncomputable def Kr (PK:Pk) (pa:Addr) (m:Nat) (G₀ H₀:Hp) (r:Re) (Q:VK):Prop:=∀ v G H,Stp pa G₀ H₀ G H->Wd PK pa m G H->ZpN H₀ G H v r->Q v H
noncomputable def Ko (PK:Pk) (pa:Addr) (G₀ H₀ Gs:Hp) (D:Ends) (m:Nat):Ou->Prop
 | .next ρ=>∀ σ G H,Sub Gs G->Rl PK pa G₀ H₀ m σ ρ G H->D.nx σ H
 | .ret r=>Kr PK pa m G₀ H₀ r D.rt
 | .brk ρ=>∀ σ G H,Sub Gs G->Rl PK pa G₀ H₀ m σ ρ G H->D.bk σ H
 | .cont ρ=>∀ σ G H,Sub Gs G->Rl PK pa G₀ H₀ m σ ρ G H->D.ct σ H
noncomputable def bz (PK:Pk) (i:List Sl->Tr Ou):TS:=λD σ H=>∃ pa G₀ H₀ m ρ G,Rl PK pa G₀ H₀ m σ ρ G H/\(i ρ).ok m (Ko PK pa G₀ H₀ G D)
theorem PE.imp {X:Cx} {e:Expr} {t t':TE} (h:PE X e t) (q:∀ σ H Q,t' σ H Q->t σ H Q):PE X e t':=λpins s σ H Q I z=>h pins s σ H Q I (q σ H Q z)
theorem PT.imp {X:Cx} {e:Expr} {t t':TT} (h:PT X e t) (q:∀ σ H Q,t' σ H Q->t σ H Q):PT X e t':=λpins s σ H Q I z=>h pins s σ H Q I (q σ H Q z)
theorem PW.imp {X:Cx} {e:Expr} {t t':TT} (h:PW X e t) (q:∀ σ H Q,t' σ H Q->t σ H Q):PW X e t':=λwh pins s σ H Q I z=>h wh pins s σ H Q I (q σ H Q z)
theorem PA.imp {X:Cx} {e:List Expr} {t t':TA} (h:PA X e t) (q:∀ σ H Q,t' σ H Q->t σ H Q):PA X e t':=λpos pins s σ H Q I z=>h pos pins s σ H Q I (q σ H Q z)
theorem PS.imp {X:Cx} {e:Stmt} {t t':TS} (h:PS X e t) (q:∀ D σ H,t' D σ H->t D σ H):PS X e t':=λpins s σ H D I z=>h pins s σ H D I (q D σ H z)
theorem PSs.imp {X:Cx} {e:List Stmt} {t t':TS} (h:PSs X e t) (q:∀ D σ H,t' D σ H->t D σ H):PSs X e t':=λpins s σ H D I z=>h pins s σ H D I (q D σ H z)
variable {PK:Pk} {X:Cx} {a b c e:Expr} {es:List Expr} {pos:Pos} {i j l:List Sl->Tr PyData}
theorem TAe.then {σ:St} {H:Hp} {β:Type} {k:PyData->Tr β} {Z:Nat->β->Prop} {Q:VK} {pa:Addr} {G₀ H₀ G:Hp} {m:Nat} {ρ:List Sl} (R:Rl PK pa G₀ H₀ m σ ρ G H) (h:((i ρ).bind k).ok m Z)
  (hq:∀ m1 x v G1 H1,Stp pa G H G1 H1->Wd PK pa m1 G1 H1->Rl PK pa G₀ H₀ m1 σ ρ G1 H1->Dn G1 v x->(k x).ok m1 Z->Q v H1):TAe PK i σ H Q:=by
 refine ⟨pa,G₀,H₀,m,ρ,G,R,Tr.ok_mono (Tr.ok_bind.mp h) λm1 x hx v G1 H1 s1 w1 d1=>?_⟩
 exact hq m1 x v G1 H1 s1 w1 (R.step s1 w1) d1 hx
noncomputable def aa (k:Nat):List Sl->Tr PyData:=λρ=>match ρ[k]? with
 | some (.d x)=>.ret x
 | _=>.fail
noncomputable def aC (d:PyData):List Sl->Tr PyData:=λ_=>.ret d
theorem ac {k:Nat} (h:PE X e (fy k)):PE X e (TAe PK (aa k)):=h.imp λσ H Q hz0=>by
 obtain ⟨pa,G₀,H₀,m,ρ,G,R,q⟩:=hz0
 unfold aa at q
 split at q
 ·rename_i x hx
  obtain ⟨o,h1,h2⟩:=R.sl k _ hx
  cases h2 with
  | d z=>exact ⟨_,h1,Kn.here q R.wd z⟩
 ·exact q.elim
theorem jP {v:V} {d:PyData} (h:PE X e (tC v)) (hd:∀ G,Dn G v d):PE X e (TAe PK (aC d)):=h.imp λσ H Q hz0=>by
 obtain ⟨pa,G₀,H₀,m,ρ,G,R,q⟩:=hz0
 exact Kn.here q R.wd (hd G)
theorem ak {n:Int} {k pos}:PE X (.Constant (.int n) k pos) (TAe PK (aC (.int n))):=jP bR λ_=>.int n
theorem dN {n:Bool} {k pos}:PE X (.Constant (.bool n) k pos) (TAe PK (aC (.bool n))):=jP ZhB λ_=>.bl n
theorem eK {k pos}:PE X (.Constant .none k pos) (TAe PK (aC .none)):=jP qf λ_=>.non
theorem aE {x:Str} {k pos}:PE X (.Constant (.str x) k pos) (TAe PK (aC (.str x))):=jP di λ_=>.str x
theorem eL {x:Str} {n:Int} (hg:Gl X x) (h:∃ t,X.mg x=some (.int n t)) (hd:(x == ("__debug__":Str))=false:=by decide):PE X (.Name x pos) (TAe PK (aC (.int n))):=jP (Zhv hg h hd) λ_=>.int n
noncomputable def b8 (r:R2) (f:PyData->PyData->Option PyData):Prop:=∀ (PK:Pk) (pa:Addr) (m:Nat) (G H:Hp) (x y:V) (dx dy dz:PyData) (Q:VK),Wd PK pa m G H->Dn G x dx->Dn G y dy->f dx dy=some dz->Kn PK pa m G H dz Q->r x y H Q
noncomputable def ah (f:PyData->PyData->Option PyData) (i j:List Sl->Tr PyData):List Sl->Tr PyData:=λρ=>(i ρ).bind λx=>(j ρ).bind λy=>Tr.of (f x y)
theorem ou {r:R2} {f:PyData->PyData->Option PyData} (hv:b8 r f):∀ σ H Q,TAe PK (ah f i j) σ H Q->ke r (TAe PK i) (TAe PK j) σ H Q:=by
 rintro σ H Q ⟨pa,G₀,H₀,m,ρ,G,R,q⟩
 refine TAe.then R q λm1 x v G1 H1 s1 w1 R1 d1 q1=>?_
 refine TAe.then R1 q1 λm2 y u G2 H2 s2 w2 R2 d2 q2=>?_
 obtain ⟨z,hz,k⟩:=Tr.ok_of q2
 exact hv PK pa m2 G2 H2 v u x y z Q w2 (d1.mono s2.gs) d2 hz (Kn.later k (s1.trans s2 w1.some) w2.some)
theorem aX {op:Operator} {r:R2} {f:PyData->PyData->Option PyData} (ho:OpR X (binaryOp op) r) (hv:b8 r f) (ha:PE X a (TAe PK i)) (hb:PE X b (TAe PK j)):PE X (.BinOp a op b pos) (TAe PK (ah f i j)) :=
 (b5 ho ha hb).imp (ou hv)
theorem iN {op:CmpOp} {r:R2} {f:PyData->PyData->Option PyData} (ho:OpR X (compareOp op) r) (hv:b8 r f) (ha:PE X a (TAe PK i)) (hb:PE X b (TAe PK j)) (hm:behindInMarks op b=false):PE X (.Compare a [op] [b] pos) (TAe PK (ah f i j)) :=
 (Zhy ho ha hb hm).imp (ou hv)
theorem cQ {r:R2} {f:PyData->PyData->Option PyData} (hr:IxR X r) (hv:b8 r f) (ha:PE X a (TAe PK i)) (hb:PE X b (TAe PK j)) (hs:ZeD b):PE X (.Subscript a b pos) (TAe PK (ah f i j)) :=
 (qh hr ha hb hs).imp (ou hv)
noncomputable def hI:PyData->Option Bool
 | .bool b=>some b
 | _=>none
@[simp] theorem Zp6 (b:Bool):hI (.bool b)=some b:=rfl
noncomputable def aP (i:List Sl->Tr PyData):List Sl->Tr Bool:=λρ=>(i ρ).bind λx=>Tr.of (hI x)
theorem ZeA:∀ σ H Q,TAt PK (aP i) σ H Q->kd (TAe PK i) σ H Q:=by
 rintro σ H Q ⟨pa,G₀,H₀,m,ρ,G,R,q⟩
 refine TAe.then R q λm1 x v G1 H1 s1 w1 R1 d1 q1=>?_
 obtain ⟨b,hb,k⟩:=Tr.ok_of q1
 cases d1 <;> simp only [hI] at hb <;> cases hb
 exact ⟨_,rfl,k G1 H1 s1 w1⟩
theorem Zav {t t':TE} (h:∀ σ H Q,t' σ H Q->t σ H Q):∀ σ H Q,kd t' σ H Q->kd t σ H Q:=λσ H Q z=>h σ H _ z
theorem bh {op:CmpOp} {r:R2} {f:PyData->PyData->Option PyData} (ho:OpR X (compareOp op) r) (hv:b8 r f) (ha:PE X a (TAe PK i)) (hb:PE X b (TAe PK j)) (hm:behindInMarks op b=false):PT X (.Compare a [op] [b] pos) (TAt PK (aP (ah f i j))) :=
 (kJ ho ha hb hm).imp λσ H Q z=>Zav (ou hv) σ H Q (ZeA σ H Q z)
noncomputable def Zat:PyData->Option Bool
 | .bool b=>some b
 | .int n=>some (n != 0)
 | .none=>some false
 | .list xs=>some (!xs.isEmpty)
 | .tuple xs=>some (!xs.isEmpty)
 | _=>none
noncomputable def de (i:List Sl->Tr PyData):List Sl->Tr Bool:=λρ=>(i ρ).bind λx=>Tr.of (Zat x)
theorem DnAll.isEmpty {H:Hp} {vs:List V} {ds:List PyData} (h:DnAll H vs ds):vs.isEmpty=ds.isEmpty:=by
 cases h <;> rfl
theorem dC (h:PE X e (TAe PK i)) (he:∀ whole,isTrue e X.env whole=(do let v <- whole; standAt e.pos; holding [v] (truthy v)):=by intro _; rfl):PT X e (TAt PK (de i)):=(Zg4 h he).imp λσ H Q hz0=>by
 obtain ⟨pa,G₀,H₀,m,ρ,G,R,q⟩:=hz0
 refine TAe.then R q λm1 x v G1 H1 s1 w1 R1 d1 q1=>?_
 obtain ⟨b,hb,k⟩:=Tr.ok_of q1
 have fin:=k G1 H1 s1 w1
 cases d1 with
 | non=>cases hb; exact ⟨_,rfl,fin⟩
 | bl b=>cases hb; exact ⟨_,rfl,fin⟩
 | int n=>cases hb; exact ⟨_,rfl,fin⟩
 | str _=>cases hb
 | tup h1 h2=>cases hb; exact ⟨_,.inr (.inl ⟨_,SqT.of (w1.sub _ _ h1),rfl⟩),by rw [h2.isEmpty]; exact fin⟩
 | lst h1 h2=>cases hb; exact ⟨_,.inl ⟨_,SqL.of (w1.sub _ _ h1),rfl⟩,by rw [h2.isEmpty]; exact fin⟩
 | dct _ _=>cases hb
noncomputable def sH (i j:List Sl->Tr Bool):List Sl->Tr Bool:=λρ=>(i ρ).bind λx=>if x=true then j ρ else .ret false
noncomputable def cq (i j:List Sl->Tr Bool):List Sl->Tr Bool:=λρ=>(i ρ).bind λx=>if x=true then .ret true else j ρ
noncomputable def cH (i:List Sl->Tr Bool):List Sl->Tr Bool:=λρ=>(i ρ).bind λx=>.ret (!x)
variable {p q:List Sl->Tr Bool} {rest:List Expr}
theorem TAt.then {σ:St} {H:Hp} {β:Type} {k:Bool->Tr β} {Z:Nat->β->Prop} {Q:Bool->Hp->Prop} {pa:Addr} {G₀ H₀ G:Hp} {m:Nat} {ρ:List Sl} (R:Rl PK pa G₀ H₀ m σ ρ G H) (h:((p ρ).bind k).ok m Z)
  (hq:∀ m1 x G1 H1,Stp pa G H G1 H1->Wd PK pa m1 G1 H1->Rl PK pa G₀ H₀ m1 σ ρ G1 H1->(k x).ok m1 Z->Q x H1):TAt PK p σ H Q:=by
 refine ⟨pa,G₀,H₀,m,ρ,G,R,Tr.ok_mono (Tr.ok_bind.mp h) λm1 x hx G1 H1 s1 w1=>?_⟩
 exact hq m1 x G1 H1 s1 w1 (R.step s1 w1) hx
theorem Zeo {G₀ H₀ G H G1 H1:Hp} {m:Nat} {σ:St} {ρ:List Sl} {pa:Addr} {Q:Bool->Hp->Prop} (R1:Rl PK pa G₀ H₀ m σ ρ G1 H1) (s1:Stp pa G H G1 H1) (h:(q ρ).ok m λm' b=>∀ G' H',Stp pa G H G' H'->Wd PK pa m' G' H'->Q b H'):TAt PK q σ H1 Q :=
 ⟨pa,G₀,H₀,m,ρ,G1,R1,Tr.ok_mono h λm2 b k G2 H2 s2 w2=>k G2 H2 (s1.trans s2 R1.wd.some) w2⟩
theorem n9 {G₀ H₀ G H G1 H1:Hp} {m:Nat} {σ:St} {ρ:List Sl} {pa:Addr} {Q:VK} (R1:Rl PK pa G₀ H₀ m σ ρ G1 H1) (s1:Stp pa G H G1 H1) (h:(i ρ).ok m λm' x=>Kn PK pa m' G H x Q):TAe PK i σ H1 Q :=
 ⟨pa,G₀,H₀,m,ρ,G1,R1,Tr.ok_mono h λm2 b k=>Kn.later k s1 R1.wd.some⟩
theorem Zpe (ha:PT X a (TAt PK p)):PW X (.BoolOp .And [a] pos) (TAt PK p):=Zg2 ha
theorem eJ (ha:PT X a (TAt PK p)):PW X (.BoolOp .Or [a] pos) (TAt PK p):=p5 ha
theorem Zpf (ha:PT X a (TAt PK p)) (hb:PW X (.BoolOp .And (b::rest) pos) (TAt PK q)):PW X (.BoolOp .And (a::b::rest) pos) (TAt PK (sH p q)):=(Zg3 ha hb).imp λσ H Q hz0=>by
 obtain ⟨pa,G₀,H₀,m,ρ,G,R,z⟩:=hz0
 refine TAt.then R z λm1 x G1 H1 s1 w1 R1 q1=>?_
 cases x with
 | true=>rw [if_pos rfl] at q1 ⊢; exact Zeo R1 s1 q1
 | false=>rw [if_neg Bool.false_ne_true] at q1 ⊢; exact q1 G1 H1 s1 w1
theorem dc (ha:PT X a (TAt PK p)) (hb:PW X (.BoolOp .Or (b::rest) pos) (TAt PK q)):PW X (.BoolOp .Or (a::b::rest) pos) (TAt PK (cq p q)):=(p6 ha hb).imp λσ H Q hz0=>by
 obtain ⟨pa,G₀,H₀,m,ρ,G,R,z⟩:=hz0
 refine TAt.then R z λm1 x G1 H1 s1 w1 R1 q1=>?_
 cases x with
 | true=>rw [if_pos rfl] at q1 ⊢; exact q1 G1 H1 s1 w1
 | false=>rw [if_neg Bool.false_ne_true] at q1 ⊢; exact Zeo R1 s1 q1
theorem dU (h:PW X e (TAt PK p)):PT X e (TAt PK p):=h.pt
theorem cW (ha:PT X a (TAt PK p)):PT X (.UnaryOp .Not a pos) (TAt PK (cH p)):=(p9 ha).imp λσ H Q hz0=>by
 obtain ⟨pa,G₀,H₀,m,ρ,G,R,z⟩:=hz0
 refine TAt.then R z λm1 x G1 H1 s1 w1 R1 q1=>?_
 exact q1 G1 H1 s1 w1
noncomputable def ox (i j:List Sl->Tr PyData):List Sl->Tr PyData:=λρ=>(aP i ρ).bind λx=>if x=true then j ρ else .ret (.bool false)
noncomputable def sB (i j:List Sl->Tr PyData):List Sl->Tr PyData:=λρ=>(aP i ρ).bind λx=>if x=true then .ret (.bool true) else j ρ
noncomputable def sC (i:List Sl->Tr PyData):List Sl->Tr PyData:=λρ=>(aP i ρ).bind λx=>.ret (.bool (!x))
theorem TAe.thenB {σ:St} {H:Hp} {β:Type} {k:Bool->Tr β} {Z:Nat->β->Prop} {Q:VK} {pa:Addr} {G₀ H₀ G:Hp} {m:Nat} {ρ:List Sl} (R:Rl PK pa G₀ H₀ m σ ρ G H) (h:((aP i ρ).bind k).ok m Z)
  (hq:∀ m1 c G1 H1,Stp pa G H G1 H1->Wd PK pa m1 G1 H1->Rl PK pa G₀ H₀ m1 σ ρ G1 H1->(k c).ok m1 Z->Q (.bl c) H1):TAe PK i σ H Q:=by
 unfold aP at h
 rw [Tr.bind_assoc] at h
 refine TAe.then R h λm1 x v G1 H1 s1 w1 R1 d1 q1=>?_
 rw [Tr.ok_bind] at q1
 obtain ⟨c,hb,q1⟩:=Tr.ok_of q1
 cases d1 <;> simp only [hI] at hb <;> cases hb
 exact hq m1 _ G1 H1 s1 w1 R1 q1
theorem sw {op} (h:PE X a (TAe PK i)):PE X (.BoolOp op [a] pos) (TAe PK i):=Zhs h
theorem Zey (ha:PE X a (TAe PK i)) (hb:PE X (.BoolOp .And (b::rest) pos) (TAe PK j)):PE X (.BoolOp .And (a::b::rest) pos) (TAe PK (ox i j)):=(ZhC ha hb).imp λσ H Q hz0=>by
 obtain ⟨pa,G₀,H₀,m,ρ,G,R,z⟩:=hz0
 refine TAe.thenB R z λm1 x G1 H1 s1 w1 R1 q1=>⟨x,rfl,?_⟩
 cases x with
 | true=>rw [if_pos rfl] at q1 ⊢; exact n9 R1 s1 q1
 | false=>rw [if_neg Bool.false_ne_true] at q1 ⊢; exact (Kn.later q1 s1 w1.some).here w1 (.bl false)
theorem Zpx (ha:PE X a (TAe PK i)) (hb:PE X (.BoolOp .Or (b::rest) pos) (TAe PK j)):PE X (.BoolOp .Or (a::b::rest) pos) (TAe PK (sB i j)):=(Zhr ha hb).imp λσ H Q hz0=>by
 obtain ⟨pa,G₀,H₀,m,ρ,G,R,z⟩:=hz0
 refine TAe.thenB R z λm1 x G1 H1 s1 w1 R1 q1=>⟨x,rfl,?_⟩
 cases x with
 | true=>rw [if_pos rfl] at q1 ⊢; exact (Kn.later q1 s1 w1.some).here w1 (.bl true)
 | false=>rw [if_neg Bool.false_ne_true] at q1 ⊢; exact n9 R1 s1 q1
theorem Zpy (ha:PE X a (TAe PK i)):PE X (.UnaryOp .Not a pos) (TAe PK (sC i)):=(Zht ha).imp λσ H Q hz0=>by
 obtain ⟨pa,G₀,H₀,m,ρ,G,R,z⟩:=hz0
 refine TAe.thenB R z λm1 x G1 H1 s1 w1 R1 q1=>⟨x,rfl,?_⟩
 exact (Kn.later q1 s1 w1.some).here w1 (.bl _)
noncomputable def sE (p:List Sl->Tr Bool) (i j:List Sl->Tr PyData):List Sl->Tr PyData:=λρ=>(p ρ).bind λx=>if x=true then i ρ else j ρ
theorem Zpz (hc:PT X c (TAt PK p)) (ha:PE X a (TAe PK i)) (hb:PE X b (TAe PK j)):PE X (.IfExp c a b pos) (TAe PK (sE p i j)):=(Zhu hc ha hb).imp λσ H Q hz0=>by
 obtain ⟨pa,G₀,H₀,m,ρ,G,R,z⟩:=hz0
 refine TAt.then R z λm1 x G1 H1 s1 w1 R1 q1=>?_
 cases x with
 | true=>rw [if_pos rfl] at q1 ⊢; exact n9 R1 s1 q1
 | false=>rw [if_neg Bool.false_ne_true] at q1 ⊢; exact n9 R1 s1 q1
variable {is:List Sl->Tr (List PyData)}
noncomputable def aj:List Sl->Tr (List PyData):=λ_=>.ret []
noncomputable def ai (i:List Sl->Tr PyData) (is:List Sl->Tr (List PyData)):List Sl->Tr (List PyData):=λρ=>(i ρ).bind λx=>(is ρ).bind λxs=>.ret (x::xs)
theorem aq:PA X [] (TAd PK aj):=bC.imp λσ H Q hz0=>by
 obtain ⟨pa,G₀,H₀,m,ρ,G,R,z⟩:=hz0
 exact z [] G H .refl R.wd .nil
theorem TAd.then {σ:St} {H:Hp} {β:Type} {k:List PyData->Tr β} {Z:Nat->β->Prop} {Q:List V->Hp->Prop} {pa:Addr} {G₀ H₀ G:Hp} {m:Nat} {ρ:List Sl} (R:Rl PK pa G₀ H₀ m σ ρ G H) (h:((is ρ).bind k).ok m Z)
  (hq:∀ m1 xs vs G1 H1,Stp pa G H G1 H1->Wd PK pa m1 G1 H1->Rl PK pa G₀ H₀ m1 σ ρ G1 H1->DnAll G1 vs xs->(k xs).ok m1 Z->Q vs H1):TAd PK is σ H Q:=by
 refine ⟨pa,G₀,H₀,m,ρ,G,R,Tr.ok_mono (Tr.ok_bind.mp h) λm1 x hx v G1 H1 s1 w1 d1=>?_⟩
 exact hq m1 x v G1 H1 s1 w1 (R.step s1 w1) d1 hx
theorem ao (ha:PE X e (TAe PK i)) (hr:PA X es (TAd PK is)) (hs:starEach (e::es) X.env=(false,eval e X.env)::starEach es X.env:=by rfl):PA X (e::es) (TAd PK (ai i is)):=(aQ ha hr hs).imp λσ H Q hz0=>by
 obtain ⟨pa,G₀,H₀,m,ρ,G,R,z⟩:=hz0
 refine TAe.then R z λm1 x v G1 H1 s1 w1 R1 d1 q1=>?_
 refine TAd.then R1 q1 λm2 xs vs G2 H2 s2 w2 R2 d2 q2=>?_
 exact q2 _ _ _ (s1.trans s2 w1.some) w2 (.cons (d1.mono s2.gs) d2)
noncomputable def small (n:Nat):Bool:=decide (n<=sizeLine)
noncomputable def gr (is:List Sl->Tr (List PyData)):List Sl->Tr PyData:=λρ=>(is ρ).bind λxs=>if small xs.length=true then .ret (.tuple xs) else .fail
noncomputable def aY (is:List Sl->Tr (List PyData)):List Sl->Tr PyData:=λρ=>(is ρ).bind λxs=>.ret (.list xs)
noncomputable def bW (is:List Sl->Tr (List PyData)):List Sl->Tr (List PyData):=λρ=>(is ρ).bind λxs=>if small xs.length=true then .ret xs else .fail
theorem eY {α:Type} {c:Bool} {t:Tr α} {m:Nat} {Q:Nat->α->Prop} (h:(if c=true then t else .fail).ok m Q):c=true/\t.ok m Q:=by
 cases c with
 | true=>exact ⟨rfl,h⟩
 | false=>exact h.elim
theorem iL {x1} (h:PA X es (TAd PK is)):PE X (.Tuple es x1 pos) (TAe PK (gr is)):=(ZbU h).imp λσ H Q hz0=>by
 obtain ⟨pa,G₀,H₀,m,ρ,G,R,z⟩:=hz0
 refine TAd.then R z λm1 xs vs G1 H1 s1 w1 R1 d1 q1=>?_
 obtain ⟨hs,k⟩:=eY q1
 exact ⟨by rw [d1.length]; exact of_decide_eq_true hs,λp hp=>(Kn.later k s1 w1.some).tup w1 d1 hp⟩
theorem Ko1.new {pa:Addr} {m:Nat} {G H:Hp} {xs:List PyData} {vs:List V} {Q:VK} {p:Addr} (k:Ko1 PK pa m G H xs Q) (w:Wd PK pa m G H) (d:DnAll G vs xs) (hp:H p=none):Q (.ref p) (upd H p (.lst vs)):=by
 obtain ⟨w1,s1⟩:=w.own (o:=.lst vs) hp
 exact k p vs G _ s1 w1 hp (w.gnone hp) bP d
theorem Ko1.later {pa:Addr} {m:Nat} {G H G1 H1:Hp} {xs:List PyData} {Q:VK} (k:Ko1 PK pa m G H xs Q) (s:Stp pa G H G1 H1) (hp:∃ o,H1 pa=some o):Ko1 PK pa m G1 H1 xs Q:=λp vs G' H' s' w' h1 h2 h3 h4=>by
 refine k p vs G' H' (s.trans s' hp) w' ?_ h2 h3 h4
 cases e:H p with
 | none=>rfl
 | some u =>
  by_cases hc:p=pa
  ·subst hc
   obtain ⟨o,z⟩:=hp
   rw [h1] at z; cases z
  ·rw [s.hk p u e hc] at h1; cases h1
theorem cg (h:PA X es (TAd PK is)):PE X (.List es pos) (fP PK (bW is)):=(mF h).imp λσ H Q hz0=>by
 obtain ⟨pa,G₀,H₀,m,ρ,G,R,z⟩:=hz0
 refine TAd.then R z λm1 xs vs G1 H1 s1 w1 R1 d1 q1=>?_
 obtain ⟨hs,k⟩:=eY q1
 exact ⟨by rw [d1.length]; exact of_decide_eq_true hs,λp hp=>(Ko1.later k s1 w1.some).new w1 d1 hp⟩
theorem Ko1.of {pa:Addr} {m:Nat} {G H:Hp} {xs:List PyData} {Q:VK} (k:Kn PK pa m G H (.list xs) Q) (hp:∃ o,H pa=some o):Ko1 PK pa m G H xs Q:=λp vs G' H' s w h1 h2 h3 h4=>by
 have hne:pa≠p:=λe=>by
  obtain ⟨o,z⟩:=hp
  rw [e,h1] at z; cases z
 have sb:Sub G' (upd G' p (.lst vs)):=Sub.new h2
 refine k _ (upd G' p (.lst vs)) H' ⟨λb o h=>sb b o (s.gs b o h),λb o h=>?_,s.hk⟩ (w.freeze h3 h2 hne) (.lst bP (DnAll.mono sb h4))
 by_cases e:b=p
 ·subst e; exact .inr h1
 ·rw [aJ e] at h; exact s.gn b o h
theorem bg (h:PE X e (fP PK is)):PE X e (TAe PK (aY is)):=h.imp λσ H Q hz0=>by
 obtain ⟨pa,G₀,H₀,m,ρ,G,R,z⟩:=hz0
 refine ⟨pa,G₀,H₀,m,ρ,G,R,Tr.ok_mono (Tr.ok_bind.mp z) λm1 xs k=>Ko1.of k R.wd.some⟩
noncomputable def df (r:List V->Hp->VK->Prop) (f:List PyData->Option PyData):Prop:=∀ (PK:Pk) (pa:Addr) (m:Nat) (G H:Hp) (vs:List V) (ds:List PyData) (d:PyData) (Q:VK),Wd PK pa m G H->DnAll G vs ds->f ds=some d->Kn PK pa m G H d Q->r vs H Q
noncomputable def sI (r:List V->Hp->VK->Prop) (f:List PyData->Option (List PyData)):Prop:=∀ (PK:Pk) (pa:Addr) (m:Nat) (G H:Hp) (vs:List V) (ds:List PyData) (d:List PyData) (Q:VK),Wd PK pa m G H->DnAll G vs ds->f ds=some d->Ko1 PK pa m G H d Q->r vs H Q
noncomputable def aR (f:List PyData->Option PyData) (is:List Sl->Tr (List PyData)):List Sl->Tr PyData:=λρ=>(is ρ).bind λxs=>Tr.of (f xs)
noncomputable def ot (f:List PyData->Option (List PyData)) (is:List Sl->Tr (List PyData)):List Sl->Tr (List PyData):=λρ=>(is ρ).bind λxs=>Tr.of (f xs)
theorem ZpL {r:List V->Hp->VK->Prop} {f:List PyData->Option PyData} (hv:df r f):∀ σ H Q,TAe PK (aR f is) σ H Q->fW r (TAd PK is) σ H Q:=by
 rintro σ H Q ⟨pa,G₀,H₀,m,ρ,G,R,z⟩
 refine TAd.then R z λm1 xs vs G1 H1 s1 w1 R1 d1 q1=>?_
 obtain ⟨d,hd,k⟩:=Tr.ok_of q1
 exact hv PK pa m1 G1 H1 vs xs d Q w1 d1 hd (Kn.later k s1 w1.some)
theorem ZpK {r:List V->Hp->VK->Prop} {f:List PyData->Option (List PyData)} (hv:sI r f):∀ σ H Q,fP PK (ot f is) σ H Q->fW r (TAd PK is) σ H Q:=by
 rintro σ H Q ⟨pa,G₀,H₀,m,ρ,G,R,z⟩
 refine TAd.then R z λm1 xs vs G1 H1 s1 w1 R1 d1 q1=>?_
 obtain ⟨d,hd,k⟩:=Tr.ok_of q1
 exact hv PK pa m1 G1 H1 vs xs d Q w1 d1 hd (Ko1.later k s1 w1.some)
theorem a9 {t:TA} {r:List V->Hp->VK->Prop} {f:List PyData->Option PyData} (h:PE X e (fW r (TAd PK is))) (hv:df r f):PE X e (TAe PK (aR f is)):=h.imp (ZpL hv)
theorem Zpu {t:TA} {r:List V->Hp->VK->Prop} {f:List PyData->Option (List PyData)} (h:PE X e (fW r (TAd PK is))) (hv:sI r f):PE X e (fP PK (ot f is)):=h.imp (ZpK hv)
variable {as:List Sl->Tr (List Sl)}
noncomputable def ay:List Sl->Tr (List Sl):=λ_=>.ret []
noncomputable def aw (i:List Sl->Tr PyData) (as:List Sl->Tr (List Sl)):List Sl->Tr (List Sl):=λρ=>(i ρ).bind λx=>(as ρ).bind λxs=>.ret (.d x::xs)
noncomputable def bj (k:Nat) (as:List Sl->Tr (List Sl)):List Sl->Tr (List Sl):=λρ=>match ρ[k]? with
 | some .pen=>(as ρ).bind λxs=>.ret (.pen::xs)
 | _=>.fail
theorem aD:PA X [] (TAa PK ay):=bC.imp λσ H Q hz0=>by
 obtain ⟨pa,G₀,H₀,m,ρ,G,R,z⟩:=hz0
 exact z [] G H .refl R.wd .nil
theorem TAa.then {σ:St} {H:Hp} {β:Type} {k:List Sl->Tr β} {Z:Nat->β->Prop} {Q:List V->Hp->Prop} {pa:Addr} {G₀ H₀ G:Hp} {m:Nat} {ρ:List Sl} (R:Rl PK pa G₀ H₀ m σ ρ G H) (h:((as ρ).bind k).ok m Z)
  (hq:∀ m1 xs vs G1 H1,Stp pa G H G1 H1->Wd PK pa m1 G1 H1->Rl PK pa G₀ H₀ m1 σ ρ G1 H1->ArsOk pa G1 vs xs->(k xs).ok m1 Z->Q vs H1):TAa PK as σ H Q:=by
 refine ⟨pa,G₀,H₀,m,ρ,G,R,Tr.ok_mono (Tr.ok_bind.mp h) λm1 x hx v G1 H1 s1 w1 d1=>?_⟩
 exact hq m1 x v G1 H1 s1 w1 (R.step s1 w1) d1 hx
theorem az (ha:PE X e (TAe PK i)) (hr:PA X es (TAa PK as)) (hs:starEach (e::es) X.env=(false,eval e X.env)::starEach es X.env:=by rfl):PA X (e::es) (TAa PK (aw i as)):=(aQ ha hr hs).imp λσ H Q hz0=>by
 obtain ⟨pa,G₀,H₀,m,ρ,G,R,z⟩:=hz0
 refine TAe.then R z λm1 x v G1 H1 s1 w1 R1 d1 q1=>?_
 refine TAa.then R1 q1 λm2 xs vs G2 H2 s2 w2 R2 d2 q2=>?_
 exact q2 _ _ _ (s1.trans s2 w1.some) w2 (.cons (.d (d1.mono s2.gs)) d2)
theorem bx {k:Nat} (ha:PE X e (fy k)) (hr:PA X es (TAa PK as)) (hs:starEach (e::es) X.env=(false,eval e X.env)::starEach es X.env:=by rfl):PA X (e::es) (TAa PK (bj k as)):=(aQ ha hr hs).imp λσ H Q hz0=>by
 obtain ⟨pa,G₀,H₀,m,ρ,G,R,z⟩:=hz0
 unfold bj at z
 split at z
 ·rename_i hk
  obtain ⟨o,h1,h2⟩:=R.sl k _ hk
  cases h2
  refine ⟨_,h1,?_⟩
  refine TAa.then R z λm2 xs vs G2 H2 s2 w2 R2 d2 q2=>?_
  exact q2 _ _ _ s2 w2 (.cons .pen d2)
 ·exact z.elim
noncomputable def aSp (PK:Pk) (n:Nat) (f:List Sl->Tr Re):Sp:=λvs H Q _=>vs.length=n/\∃ pa m G as,Wd PK pa m G H/\ArsOk pa G vs as/\(f as).ok m λm' r=>Kr PK pa m' G H r Q
noncomputable def aF (f:List Sl->Tr Re) (as:List Sl->Tr (List Sl)):List Sl->Tr Re:=λρ=>(as ρ).bind f
noncomputable def aI (f:List Sl->Tr Re):List Sl->Tr PyData:=λρ=>(f ρ).bind λr=>.ret r.val
noncomputable def sL (PK:Pk) (i:List Sl->Tr Re):TE:=λσ H Q=>∃ pa G₀ H₀ m ρ G,Rl PK pa G₀ H₀ m σ ρ G H/\(i ρ).ok m λm' r=>Kr PK pa m' G H r Q
theorem Kr.later {pa:Addr} {m:Nat} {G H G1 H1:Hp} {r:Re} {Q:VK} (k:Kr PK pa m G H r Q) (s:Stp pa G H G1 H1) (hp:∃ o,H1 pa=some o):Kr PK pa m G1 H1 r Q:=λv G' H' s' w' d=>by
 refine k v G' H' (s.trans s' hp) w' ?_
 cases r with
 | d x=>exact d
 | own xs =>
  obtain ⟨p,vs,e,h1,h2,h3,h4⟩:=d
  refine ⟨p,vs,e,h1,h2,?_,h4⟩
  cases e:H p with
  | none=>rfl
  | some u =>
   by_cases hc:p=pa
   ·subst hc
    obtain ⟨o,z⟩:=hp
    rw [h3] at z; cases z
   ·rw [s.hk p u e hc] at h3; cases h3
theorem Kr.of {pa:Addr} {m:Nat} {G H:Hp} {r:Re} {Q:VK} (k:Kn PK pa m G H r.val Q) (hp:∃ o,H pa=some o):Kr PK pa m G H r Q:=λv G' H' s w d=>by
 cases r with
 | d x=>exact k v G' H' s w d
 | own xs =>
  obtain ⟨p,vs,rfl,h1,h2,h3,h4⟩:=d
  exact Ko1.of k hp p vs G' H' s w h3 h2 h1 h4
theorem aN {f:List Sl->Tr Re} (h:PE X e (sL PK f)):PE X e (TAe PK (aI f)):=h.imp (by
 intro σ H Q z
 obtain ⟨pa,G₀,H₀,m,ρ,G,R,z⟩:=z
 exact ⟨pa,G₀,H₀,m,ρ,G,R,Tr.ok_mono (Tr.ok_bind.mp z) λm1 r k=>Kr.of k R.wd.some⟩)
structure ACal (PK:Pk) (P:Program) (w:World) (K:PySem.W.Frag) (mg:Str->Option Value) (base:Heap) (x:Str) (k:Nat) (ps:List Str) (f:List Sl->Tr Re):Prop where
 cal:Callee P w K mg base x k ps (aSp PK ps.length f)
 len:∀ as m Z,(f as).ok m Z->as.length=ps.length
theorem aM {x:Str} {k:Nat} {ps:List Str} {f:List Sl->Tr Re} {pp:Pos} (C:ACal PK X.prog X.w X.K X.mg X.base x k ps f) (hr:Room k X.A) (hg:Gl X x) (ha:PA X (e::es) (TAa PK as))
  (hdb:(x == ("__debug__":Str))=false:=by decide)
  (he:starEach (e::es) X.env=(false,eval e X.env)::starEach es X.env:=by rfl) (hpl:(backTo pos (starEach es X.env)).any (·.1)=false:=by rfl):PE X (.Call (.Name x pp) (e::es) [] pos) (sL PK (aF f as)) :=
 (ZbX C.cal hr hg ha hdb he hpl).imp λσ H Q hz0=>by
  obtain ⟨pa,G₀,H₀,m,ρ,G,R,z⟩:=hz0
  refine TAa.then R z λm1 xs vs G1 H1 s1 w1 R1 d1 q1=>?_
  show aSp PK ps.length f (vs++[]) H1 Q E0
  rw [List.append_nil]
  exact ⟨by rw [d1.length]; exact C.len _ _ _ q1,pa,m1,G1,xs,w1,d1,Tr.ok_mono q1 λm2 r k=>Kr.later k s1 w1.some⟩
variable {PK:Pk} {X:Cx} {a b c e:Expr} {es:List Expr} {pos:Pos} {i j l:List Sl->Tr PyData} {is:List Sl->Tr (List PyData)} {as:List Sl->Tr (List Sl)} {f:List Sl->Tr Re} {p q:List Sl->Tr Bool} {st:Stmt} {sts:List Stmt} {s t u:List Sl->Tr Ou}
noncomputable def au (s t:List Sl->Tr Ou):List Sl->Tr Ou:=λρ=>(s ρ).bind λo=>match o with
 | .next ρ'=>t ρ'
 | o=>.ret o
noncomputable def bi:List Sl->Tr Ou:=λρ=>.ret (.next ρ)
theorem Ko.later {pa:Addr} {G₀ H₀ Gs G:Hp} {D:Ends} {m:Nat} {o:Ou} (k:Ko PK pa G₀ H₀ Gs D m o) (sb:Sub Gs G):Ko PK pa G₀ H₀ G D m o:=by
 cases o with
 | next ρ=>exact λσ G' H s R=>k σ G' H (λb o h=>s b o (sb b o h)) R
 | ret r=>exact k
 | brk ρ=>exact λσ G' H s R=>k σ G' H (λb o h=>s b o (sb b o h)) R
 | cont ρ=>exact λσ G' H s R=>k σ G' H (λb o h=>s b o (sb b o h)) R
theorem Sub.refl {G:Hp}:Sub G G:=λ_ _ h=>h
theorem Sub.trans {G G1 G2:Hp} (a:Sub G G1) (b:Sub G1 G2):Sub G G2:=λc o h=>b c o (a c o h)
theorem bu:PSs X [] (bz PK bi):=ij.imp λD σ H hz0=>by
 obtain ⟨pa,G₀,H₀,m,ρ,G,R,z⟩:=hz0
 exact z σ G H .refl R
theorem ZpJ:∀ D σ H,bz PK (au s t) D σ H->ph (bz PK s) (bz PK t) D σ H:=by
 rintro D σ H ⟨pa,G₀,H₀,m,ρ,G,R,z⟩
 refine ⟨pa,G₀,H₀,m,ρ,G,R,Tr.ok_mono (Tr.ok_bind.mp z) λm1 o k=>?_⟩
 cases o with
 | next ρ'=>exact λσ' G' H' sb R'=>⟨pa,G₀,H₀,m1,ρ',G',R',Tr.ok_mono k λ_ _ k'=>Ko.later k' sb⟩
 | ret r=>exact k
 | brk ρ'=>exact k
 | cont ρ'=>exact k
theorem aA (h1:PS X st (bz PK s)) (h2:PSs X sts (bz PK t)):PSs X (st::sts) (bz PK (au s t)):=(cx h1 h2).imp ZpJ
theorem aH (h1:PS X st (bz PK s)):PSs X [st] (bz PK s):=ek h1
noncomputable def oq:List Sl->Tr Ou:=λ_=>.fail
theorem sj:PS X st (bz PK oq):=λ_ _ _ _ _ _ h=>by
 obtain ⟨pa,G₀,H₀,m,ρ,G,R,z⟩:=h
 exact z.elim
noncomputable def sF (i:List Sl->Tr PyData):List Sl->Tr Ou:=λρ=>(i ρ).bind λ_=>.ret (.next ρ)
theorem Zpt (he:PE X e (TAe PK i)) (hs:swapsWith e none pos.line X.env=pure false:=by rfl):PS X (.Expr e pos) (bz PK (sF i)):=(gD he hs).imp λD σ H hz0=>by
 obtain ⟨pa,G₀,H₀,m,ρ,G,R,z⟩:=hz0
 refine TAe.then R z λm1 x v G1 H1 s1 w1 R1 d1 q1=>?_
 exact q1 σ G1 H1 s1.gs R1
noncomputable def aV (i:List Sl->Tr PyData):List Sl->Tr Ou:=λρ=>(i ρ).bind λx=>.ret (.ret (.d x))
theorem bb (he:PE X e (TAe PK i)):PS X (.Return (some e) pos) (bz PK (aV i)):=(eV he).imp λD σ H hz0=>by
 obtain ⟨pa,G₀,H₀,m,ρ,G,R,z⟩:=hz0
 refine TAe.then R z λm1 x v G1 H1 s1 w1 R1 d1 q1=>?_
 exact q1 v G1 H1 R1.st w1 d1
noncomputable def sA (f:List Sl->Tr Re):List Sl->Tr Ou:=λρ=>(f ρ).bind λr=>.ret (.ret r)
theorem Zps (he:PE X e (sL PK f)):PS X (.Return (some e) pos) (bz PK (sA f)):=(eV he).imp (by
 intro D σ H z
 obtain ⟨pa,G₀,H₀,m,ρ,G,R,z⟩:=z
 exact ⟨pa,G₀,H₀,m,ρ,G,R,Tr.ok_mono (Tr.ok_bind.mp z) λm1 r k=>Kr.later k R.st R.wd.some⟩)
noncomputable def eM (k:Nat):List Sl->Tr Ou:=λρ=>match ρ[k]? with
 | some (.d x)=>.ret (.ret (.d x))
 | some (.own xs)=>.ret (.ret (.own xs))
 | _=>.fail
theorem lh {k:Nat} (he:PE X e (fy k)):PS X (.Return (some e) pos) (bz PK (eM k)):=(eV he).imp λD σ H hz0=>by
 obtain ⟨pa,G₀,H₀,m,ρ,G,R,z⟩:=hz0
 unfold eM at z
 split at z
 ·rename_i x hx
  obtain ⟨o,h1,h2⟩:=R.sl k _ hx
  cases h2 with
  | d d1=>exact ⟨_,h1,z _ G H R.st R.wd d1⟩
 ·rename_i xs hx
  obtain ⟨o,h1,h2⟩:=R.sl k _ hx
  cases h2 with
  | own a1 a2 a3 a4=>exact ⟨_,h1,z _ G H R.st R.wd ⟨_,_,rfl,a1,a2,a3,a4⟩⟩
 ·exact z.elim
noncomputable def bv (p:List Sl->Tr Bool) (s t:List Sl->Tr Ou):List Sl->Tr Ou:=λρ=>(p ρ).bind λx=>if x=true then s ρ else t ρ
theorem bF {xs ys:List Stmt} (hc:PT X c (TAt PK p)) (ha:PSs X xs (bz PK s)) (hb:PSs X ys (bz PK t)):PS X (.If c xs ys pos) (bz PK (bv p s t)):=(gC hc ha hb).imp λD σ H hz0=>by
 obtain ⟨pa,G₀,H₀,m,ρ,G,R,z⟩:=hz0
 refine TAt.then R z λm1 x G1 H1 s1 w1 R1 q1=>?_
 cases x with
 | true=>rw [if_pos rfl] at q1 ⊢; exact ⟨pa,G₀,H₀,m1,ρ,G1,R1,Tr.ok_mono q1 λ_ _ k'=>Ko.later k' s1.gs⟩
 | false=>rw [if_neg Bool.false_ne_true] at q1 ⊢; exact ⟨pa,G₀,H₀,m1,ρ,G1,R1,Tr.ok_mono q1 λ_ _ k'=>Ko.later k' s1.gs⟩
noncomputable def bt (k:Nat) (i:List Sl->Tr PyData):List Sl->Tr Ou:=λρ=>(i ρ).bind λx=>.ret (.next (ρ.set k (.d x)))
theorem bE {k:Nat} (h:PS X st (d7 (TAe PK i) (fK k))):PS X st (bz PK (bt k i)):=h.imp λD σ H hz0=>by
 obtain ⟨pa,G₀,H₀,m,ρ,G,R,z⟩:=hz0
 refine TAe.then R z λm1 x v G1 H1 s1 w1 R1 d1 q1=>?_
 exact q1 _ G1 H1 s1.gs (R1.set d1 k)
noncomputable def gW (k:Nat) (is:List Sl->Tr (List PyData)):List Sl->Tr Ou:=λρ=>(is ρ).bind λx=>.ret (.next (ρ.set k (.own x)))
theorem lg {k:Nat} (h:PS X st (d7 (fP PK is) (fK k))):PS X st (bz PK (gW k is)):=h.imp λD σ H hz0=>by
 obtain ⟨pa,G₀,H₀,m,ρ,G,R,z⟩:=hz0
 refine ⟨pa,G₀,H₀,m,ρ,G,R,Tr.ok_mono (Tr.ok_bind.mp z) λm1 xs k' p vs G1 H1 s1 w1 h1 h2 h3 h4=>?_⟩
 exact k' _ G1 H1 s1.gs ((R.step s1 w1).setO h3 h2 (R.h0 h1) h4 (λn ys e=>R.apart h1 n ys e) k)
noncomputable def gZ (k:Nat) (i:List Sl->Tr PyData):List Sl->Tr Ou:=λρ=>match ρ[k]? with
 | some (.own xs)=>(i ρ).bind λx=>if small (xs.length+1)=true then .ret (.next (ρ.set k (.own (xs++[x])))) else .fail
 | _=>.fail
theorem DnAll.snoc {H:Hp} {vs:List V} {ds:List PyData} {v:V} {d:PyData} (h:DnAll H vs ds) (h1:Dn H v d):DnAll H (vs++[v]) (ds++[d]):=h.append (.cons h1 .nil)
theorem lj {k:Nat} {K:PySem.W.Frag} {st:Stmt} (h:PS X st (pw (tBM K "list" ZbJ (fy k) (hU (TAe PK i) aT)))):PS X st (bz PK (gZ k i)):=h.imp λD σ H hz0=>by
 obtain ⟨pa,G₀,H₀,m,ρ,G,R,z⟩:=hz0
 unfold gZ at z
 split at z
 ·rename_i xs hx
  obtain ⟨o,h1,h2⟩:=R.sl k _ hx
  cases h2 with
  | @own p vs _ a1 a2 a3 a4 =>
   refine ⟨_,h1,.inl ⟨rfl,_,SqL.of a1⟩,?_⟩
   refine TAe.then R z λm1 x v G1 H1 s1 w1 R1 d1 q1=>?_
   obtain ⟨hs,q1⟩:=eY q1
   obtain ⟨o,h1',h2⟩:=R1.sl k _ hx
   rw [h1] at h1'
   cases h1'
   cases h2 with
   | @own _ vs1 _ b1 b2 b3 b4 =>
    have hs':xs.length+1<=sizeLine:=of_decide_eq_true hs
    refine ⟨p,vs1,v,rfl,rfl,b1,by rw [b4.length]; omega,?_⟩
    exact q1 σ G1 _ s1.gs (R1.change hx h1 (b4.snoc d1))
 ·exact z.elim
theorem DnAll.set {H:Hp}:∀ {vs:List V} {ds:List PyData} {v:V} {d:PyData} (n:Nat),DnAll H vs ds->Dn H v d->DnAll H (vs.set n v) (ds.set n d)
 | _,_,_,_,_,.nil,_=>.nil
 | _,_,_,_,0,.cons _ t,h=>.cons h t
 | _,_,_,_,n+1,.cons g t,h=>.cons g (DnAll.set n t h)
noncomputable def on (k:Nat) (n i:List Sl->Tr PyData):List Sl->Tr Ou:=λρ=>(i ρ).bind λx=>match ρ[k]? with
 | some (.own xs)=>(n ρ).bind λy=>match y with
  | .int y=>(Tr.of (dQ xs.length y)).bind λt=>.ret (.next (ρ.set k (.own (xs.set t x))))
  | _=>.fail
 | _=>.fail
theorem Zpq {k:Nat} {n:List Sl->Tr PyData} (h:PS X st (d7 (TAe PK i) (ZcS (fy k) (TAe PK n) Zbl))):PS X st (bz PK (on k n i)):=h.imp λD σ H hz0=>by
 obtain ⟨pa,G₀,H₀,m,ρ,G,R,z⟩:=hz0
 refine TAe.then R z λm1 x v G1 H1 s1 w1 R1 d1 q1=>?_
 split at q1
 ·rename_i xs hx
  obtain ⟨o,h1,h2⟩:=R1.sl k _ hx
  cases h2 with
  | @own p vs _ a1 a2 a3 a4 =>
   refine ⟨_,h1,?_⟩
   refine TAe.then R1 q1 λm2 y u G2 H2 s2 w2 R2 d2 q2=>?_
   obtain ⟨o,h1',h2⟩:=R2.sl k _ hx
   rw [h1] at h1'
   cases h1'
   cases h2 with
   | @own _ vs2 _ b1 b2 b3 b4 =>
    cases d2 with
    | int y =>
     rw [Tr.ok_bind] at q2
     obtain ⟨n',hn,q2⟩:=Tr.ok_of q2
     refine ⟨p,vs2,y,n',rfl,rfl,b1,by rw [b4.length]; exact hn,?_⟩
     exact q2 σ G2 _ (s1.gs.trans s2.gs) (R2.change hx h1 (b4.set n' (d1.mono s2.gs)))
    | _=>exact q2.elim
 ·exact q1.elim
theorem DnAll.reverse {H:Hp} {vs:List V} {ds:List PyData} (h:DnAll H vs ds):DnAll H vs.reverse ds.reverse:=by
 induction vs generalizing ds with
 | nil=>cases h; exact .nil
 | cons v vs ih=>cases h with | cons r t=>rw [List.reverse_cons,List.reverse_cons]; exact DnAll.append (ih t) (.cons r .nil)
noncomputable def oo (k:Nat):List Sl->Tr Ou:=λρ=>match ρ[k]? with
 | some (.own xs)=>.ret (.next (ρ.set k (.own xs.reverse)))
 | _=>.fail
theorem Zpr {k:Nat} {K:PySem.W.Frag} (h:PS X st (pw (Zay K "list" Zbn (fy k)))):PS X st (bz PK (oo k)):=h.imp λD σ H hz0=>by
 obtain ⟨pa,G₀,H₀,m,ρ,G,R,z⟩:=hz0
 unfold oo at z
 split at z
 ·rename_i xs hx
  obtain ⟨o,h1,h2⟩:=R.sl k _ hx
  cases h2 with
  | @own p vs _ a1 a2 a3 a4 =>
   refine ⟨_,h1,.inl ⟨rfl,_,SqL.of a1⟩,p,vs,rfl,rfl,a1,?_⟩
   exact z σ G _ .refl (R.change hx h1 a4.reverse)
 ·exact z.elim
noncomputable def iO (k:Nat) (s:List Sl->Tr Ou):List Sl->Tr Ou:=λρ=>s (fz k ρ)
theorem li {k:Nat} (h:PS X st (bz PK s)):PS X st (bz PK (iO k s)):=h.imp λD σ H hz0=>by
 obtain ⟨pa,G₀,H₀,m,ρ,G,R,z⟩:=hz0
 obtain ⟨G',sb,R'⟩:=R.freeze k
 exact ⟨pa,G₀,H₀,m,_,G',R',Tr.ok_mono z λ_ _ k'=>Ko.later k' sb⟩
noncomputable def dY (PK:Pk) (g:PyData->List Sl->Option (List Sl)):TG:=λv σ H Q=>∃ pa G₀ H₀ m ρ G x ρ',Rl PK pa G₀ H₀ m σ ρ G H/\Dn G v x/\g x ρ=some ρ'/\∀ σ',Rl PK pa G₀ H₀ m σ' ρ' G H->Q σ' H
noncomputable def oy (PK:Pk) (g:List PyData->List Sl->Option (List Sl)):gu:=λvs σ H Q=>∃ pa G₀ H₀ m ρ G xs ρ',Rl PK pa G₀ H₀ m σ ρ G H/\DnAll G vs xs/\g xs ρ=some ρ'/\∀ σ',Rl PK pa G₀ H₀ m σ' ρ' G H->Q σ' H
theorem PG.imp {tg:Expr} {t t':TG} (h:PG X tg t) (q:∀ v σ H Q,t' v σ H Q->t v σ H Q):PG X tg t':=λpins s σ H v u Q I r z=>h pins s σ H v u Q I r (q v σ H Q z)
theorem PGs.imp {tg:List Expr} {t t':gu} (h:PGs X tg t) (q:∀ v σ H Q,t' v σ H Q->t v σ H Q):PGs X tg t':=λpins s σ H v u Q I r z=>h pins s σ H v u Q I r (q v σ H Q z)
noncomputable def am (k:Nat):PyData->List Sl->Option (List Sl):=λx ρ=>some (ρ.set k (.d x))
theorem br {k:Nat} (h:PG X e (fK k)):PG X e (dY PK (am k)):=h.imp λv σ H Q hz0=>by
 obtain ⟨pa,G₀,H₀,m,ρ,G,x,ρ',R,d,e,q⟩:=hz0
 cases e
 exact q _ (R.set d k)
noncomputable def k9:List PyData->List Sl->Option (List Sl):=λxs ρ=>match xs with
 | []=>some ρ
 | _=>none
noncomputable def iE (g:PyData->List Sl->Option (List Sl)) (gs:List PyData->List Sl->Option (List Sl)):List PyData->List Sl->Option (List Sl):=λxs ρ=>match xs with
 | x::xs=>(g x ρ).bind λρ'=>gs xs ρ'
 | []=>none
theorem Zew:PGs X [] (oy PK k9):=Zhi.imp λvs σ H Q hz0=>by
 obtain ⟨pa,G₀,H₀,m,ρ,G,xs,ρ',R,d,e,q⟩:=hz0
 cases d with
 | nil=>cases e; exact ⟨rfl,q _ R⟩
 | cons _ _=>cases e
theorem n8 {g:PyData->List Sl->Option (List Sl)} {gs:List PyData->List Sl->Option (List Sl)} (h1:PG X e (dY PK g)) (h2:PGs X es (oy PK gs))
  (hs:(assignEach (e::es) X.env).map (·.2)=assign e X.env::(assignEach es X.env).map (·.2):=by rfl):PGs X (e::es) (oy PK (iE g gs)):=(Zhj h1 h2 hs).imp λvs σ H Q hz0=>by
 obtain ⟨pa,G₀,H₀,m,ρ,G,xs,ρ',R,d,e,q⟩:=hz0
 cases d with
 | nil=>cases e
 | cons d1 d2 =>
  have e':(g _ ρ).bind (λρ'=>gs _ ρ')=some ρ':=e
  cases h:g _ ρ with
  | none=>rw [h] at e'; cases e'
  | some ρ1 =>
   rw [h] at e'
   exact ⟨_,_,rfl,pa,G₀,H₀,m,ρ,G,_,ρ1,R,d1,h,λσ1 R1=>⟨pa,G₀,H₀,m,ρ1,G,_,ρ',R1,d2,e',q⟩⟩
noncomputable def nD (gs:List PyData->List Sl->Option (List Sl)):PyData->List Sl->Option (List Sl):=λx ρ=>match x with
 | .tuple xs=>gs xs ρ
 | _=>none
noncomputable def nA (n:Nat) (gs:List PyData->List Sl->Option (List Sl)):Prop:=∀ xs ρ ρ',gs xs ρ=some ρ'->xs.length=n
theorem ZcQ:nA 0 k9:=λxs ρ ρ' h=>by cases xs with | nil=>rfl | cons _ _=>cases h
theorem nz {n:Nat} {g:PyData->List Sl->Option (List Sl)} {gs:List PyData->List Sl->Option (List Sl)} (h:nA n gs):nA (n+1) (iE g gs):=λxs ρ ρ' e=>by
 cases xs with
 | nil=>cases e
 | cons x xs =>
  have e':(g x ρ).bind (λρ'=>gs xs ρ')=some ρ':=e
  cases h1:g x ρ with
  | none=>rw [h1] at e'; cases e'
  | some ρ1 =>
   rw [h1] at e'
   exact congrArg (·+1) (h xs ρ1 ρ' e')
theorem Zex {k:Nat} {gs:List PyData->List Sl->Option (List Sl)} {n:Nat} (hc:X.calm=true) (h:PGs X es (oy PK gs)) (hl:nA n gs)
  (hn:(assignEach es X.env).length=n:=by rfl) (hst:(assignEach es X.env).findIdx? (·.1)=none:=by rfl):PG X (.Tuple es k pos) (dY PK (nD gs)):=(Zhk hc h hn hst).imp λv σ H Q hz0=>by
 obtain ⟨pa,G₀,H₀,m,ρ,G,x,ρ',R,d,e,q⟩:=hz0
 cases d with
 | tup h1 h2=>exact ⟨_,_,rfl,SqT.of (R.wd.sub _ _ h1),by rw [h2.length]; exact hl _ _ _ e,pa,G₀,H₀,m,ρ,G,_,ρ',R,h2,e,q⟩
 | _=>cases e
noncomputable def ow (g:PyData->List Sl->Option (List Sl)) (i:List Sl->Tr PyData):List Sl->Tr Ou:=λρ=>(i ρ).bind λx=>(Tr.of (g x ρ)).bind λρ'=>.ret (.next ρ')
theorem Zeq {g:PyData->List Sl->Option (List Sl)} (h:PS X st (d7 (TAe PK i) (dY PK g))):PS X st (bz PK (ow g i)):=h.imp λD σ H hz0=>by
 obtain ⟨pa,G₀,H₀,m,ρ,G,R,z⟩:=hz0
 refine TAe.then R z λm1 x v G1 H1 s1 w1 R1 d1 q1=>?_
 rw [Tr.ok_bind] at q1
 obtain ⟨ρ',hg,q1⟩:=Tr.ok_of q1
 exact ⟨pa,G₀,H₀,m1,ρ,G1,x,ρ',R1,d1,hg,λσ' R'=>q1 σ' G1 H1 s1.gs R'⟩
noncomputable def lq (PK:Pk) (pa:Addr) (J:It) (G:Hp) (xs:List PyData):Prop:=∀ m G2 H2,Sub G G2->Wd PK pa m G2 H2 ->
 (∀ (n:Nat) (d:PyData),xs[n]?=some d->J.go n H2/\∀ x H3,J.yld n H2 x H3->∃ G3,Stp pa G2 H2 G3 H3/\Wd PK pa m G3 H3/\Dn G3 x d)/\J.stop xs.length H2
noncomputable def eN (PK:Pk) (is:List Sl->Tr (List PyData)):TI:=λσ H R=>∃ pa G₀ H₀ m ρ G,Rl PK pa G₀ H₀ m σ ρ G H/\(is ρ).ok m λm' xs=>∀ J G' H',Stp pa G H G' H'->Wd PK pa m' G' H'->lq PK pa J G' xs->R J H'
theorem PI.imp {tg iter:Expr} {t t':TI} (h:PI X tg iter t) (q:∀ σ H R,t' σ H R->t σ H R):PI X tg iter t':=λpins s σ H R I z=>h pins s σ H R I (q σ H R z)
noncomputable def bS (g:PyData->List Sl->Option (List Sl)) (s:List Sl->Tr Ou):List PyData->List Sl->Tr Ou
 | [],ρ=>.ret (.next ρ)
 | x::xs,ρ=>(Tr.of (g x ρ)).bind λρ1=>(s ρ1).bind λo=>match o with
  | .next ρ2=>bS g s xs ρ2
  | .cont ρ2=>bS g s xs ρ2
  | .brk ρ2=>.ret (.next ρ2)
  | .ret r=>.ret (.ret r)
noncomputable def fO (is:List Sl->Tr (List PyData)) (g:PyData->List Sl->Option (List Sl)) (s:List Sl->Tr Ou):List Sl->Tr Ou:=λρ=>(is ρ).bind λxs=>bS g s xs ρ
theorem gS {tg iter:Expr} {body:List Stmt} {g:PyData->List Sl->Option (List Sl)} (hp:PassesOwn (model X.prog X.w) X.A X.env X.xe) (hc:X.calm=true) (hi:PI X tg iter (eN PK is)) (hg:PG X tg (dY PK g)) (hb:PSs X body (bz PK s))
  (hs:∀ x,foldedSetIterable iter X.env x=pure x:=by intro _; rfl):PS X (.For tg iter body [] pos) (bz PK (fO is g s)):=(Zha hp hc hi hg hb hs).imp λD σ H hz0=>by
 obtain ⟨pa,G₀,H₀,m,ρ,G,R,z⟩:=hz0
 refine ⟨pa,G₀,H₀,m,ρ,G,R,Tr.ok_mono (Tr.ok_bind.mp z) λm1 xs k J G1 H1 s1 w1 jo=>?_⟩
 let W:Nat->Nat->St->Hp->Prop:=λn mm σ H=>mm=xs.length - n/\n<=xs.length/\∃ m ρ G,Sub G1 G/\Rl PK pa G₀ H₀ m σ ρ G H/\(bS g s (xs.drop n) ρ).ok m (Ko PK pa G₀ H₀ G1 D)
 refine ⟨W,⟨xs.length,rfl,Nat.zero_le _,m1,ρ,G1,λ_ _ h=>h,R.step s1 w1,Tr.ok_mono k λ_ _ k'=>Ko.later k' s1.gs⟩,?_⟩
 rintro n mm σ2 H2 ⟨rfl,hn,m2,ρ2,G2,sb,R2,k2⟩
 obtain ⟨j1,j2⟩:=jo m2 G2 H2 sb R2.wd
 by_cases hlt:n < xs.length
 ·have hx:xs[n]?=some xs[n]:=by simp [hlt]
  obtain ⟨jg,jy⟩:=j1 n _ hx
  refine .inr ⟨jg,W (n+1) (xs.length - (n+1)),λσ' H' h'=>⟨_,by omega,h'⟩,λx H3 y=>?_⟩
  obtain ⟨G3,s3,w3,d3⟩:=jy x H3 y
  rw [List.drop_eq_getElem_cons hlt] at k2
  unfold bS at k2
  rw [Tr.ok_bind] at k2
  obtain ⟨ρ3,hg3,k3⟩:=Tr.ok_of k2
  refine ⟨pa,G₀,H₀,m2,ρ2,G3,_,ρ3,R2.step s3 w3,d3,hg3,λσ4 R4=>?_⟩
  refine ⟨pa,G₀,H₀,m2,ρ3,G3,R4,Tr.ok_mono (Tr.ok_bind.mp k3) λm5 o ko=>?_⟩
  have again:∀ ρ5,(bS g s (xs.drop (n+1)) ρ5).ok m5 (Ko PK pa G₀ H₀ G1 D)->∀ σ5 G5 H5,Sub G3 G5->Rl PK pa G₀ H₀ m5 σ5 ρ5 G5 H5->W (n+1) (xs.length - (n+1)) σ5 H5:=λρ5 k5 σ5 G5 H5 sb5 R5 =>
   ⟨rfl,hlt,m5,ρ5,G5,(sb.trans s3.gs).trans sb5,R5,k5⟩
  cases o with
  | next ρ5=>exact again ρ5 ko
  | cont ρ5=>exact again ρ5 ko
  | brk ρ5=>exact λσ5 G5 H5 sb5 R5=>ko σ5 G5 H5 ((sb.trans s3.gs).trans sb5) R5
  | ret r=>exact ko
 ·have e:n=xs.length:=by omega
  subst e
  refine .inl ⟨j2,?_⟩
  rw [List.drop_length] at k2
  exact k2 σ2 G2 H2 sb R2
variable {PK:Pk} {X:Cx} {a b c e:Expr} {es:List Expr} {pos:Pos} {i j l:List Sl->Tr PyData} {is:List Sl->Tr (List PyData)} {as:List Sl->Tr (List Sl)} {f:List Sl->Tr Re} {p q:List Sl->Tr Bool} {st:Stmt} {sts:List Stmt} {s t u:List Sl->Tr Ou}
noncomputable def eP (p:List Sl->Tr Bool) (s:List Sl->Tr Ou):Nat->List Sl->Tr Ou
 | 0,_=>.fail
 | n+1,ρ=>(p ρ).bind λb=>if b=true then (s ρ).bind λo=>match o with
   | .next ρ2=>eP p s n ρ2
   | .cont ρ2=>eP p s n ρ2
   | .brk ρ2=>.ret (.next ρ2)
   | .ret r=>.ret (.ret r)
  else .ret (.next ρ)
theorem Zpn {body:List Stmt} (n:Nat) (hp:PassesOwn (model X.prog X.w) X.A X.env X.xe) (hc:PT X c (TAt PK p)) (hb:PSs X body (bz PK s)):PS X (.While c body [] pos) (bz PK (eP p s n)):=(Zg8 hp hc hb).imp λD σ H hz0=>by
 obtain ⟨pa,G₀,H₀,m,ρ,G,R,z⟩:=hz0
 let W:Nat->St->Hp->Prop:=λn σ H=>∃ m ρ G1,Sub G G1/\Rl PK pa G₀ H₀ m σ ρ G1 H/\(eP p s n ρ).ok m (Ko PK pa G₀ H₀ G D)
 refine ⟨W,⟨n,m,ρ,G,.refl,R,z⟩,?_⟩
 rintro n σ2 H2 ⟨m2,ρ2,G2,sb,R2,k2⟩
 cases n with
 | zero=>exact k2.elim
 | succ n =>
  unfold eP at k2
  refine TAt.then R2 k2 λm3 x G3 H3 s3 w3 R3 k3=>?_
  cases x with
  | false =>
   rw [if_neg Bool.false_ne_true] at k3 ⊢
   exact k3 σ2 G3 H3 (sb.trans s3.gs) R3
  | true =>
   rw [if_pos rfl] at k3 ⊢
   refine ⟨W n,λσ' H' h=>⟨n,by omega,h⟩,pa,G₀,H₀,m3,ρ2,G3,R3,Tr.ok_mono (Tr.ok_bind.mp k3) λm4 o ko=>?_⟩
   have again:∀ ρ5,(eP p s n ρ5).ok m4 (Ko PK pa G₀ H₀ G D)->∀ σ5 G5 H5,Sub G3 G5->Rl PK pa G₀ H₀ m4 σ5 ρ5 G5 H5->W n σ5 H5:=λρ5 k5 σ5 G5 H5 sb5 R5 =>
    ⟨m4,ρ5,G5,(sb.trans s3.gs).trans sb5,R5,k5⟩
   cases o with
   | next ρ5=>exact again ρ5 ko
   | cont ρ5=>exact again ρ5 ko
   | brk ρ5=>exact λσ5 G5 H5 sb5 R5=>ko σ5 G5 H5 ((sb.trans s3.gs).trans sb5) R5
   | ret r=>exact ko
noncomputable def rZ:Sl->Sl
 | .own _=>.un
 | .dic _=>.un
 | s=>s
noncomputable def blk (n:Nat) (ix:List Nat) (ρ:List Sl):List Sl:=List.replicate n .un++ix.map λj=>rZ ((ρ[j]?).getD .un)
theorem Rl.blk {pa:Addr} {G₀ H₀ G H:Hp} {m:Nat} {σ:St} {ρ:List Sl} (R:Rl PK pa G₀ H₀ m σ ρ G H) (n:Nat) (ix:List Nat):Rl PK pa G₀ H₀ m (cN n ix σ) (blk n ix ρ) G H:=by
 have key:∀ (k:Nat) (s:Sl),(L2.blk n ix ρ)[k]?=some s->(∃ o,(cN n ix σ)[k]?=some o/\SlOk pa H₀ G H o s)/\(∀ xs,s≠.own xs)/\∀ xs,s≠.dic xs:=λk s h=>by
  unfold L2.blk at h
  unfold cN
  by_cases hk:k < n
  ·rw [List.getElem?_append_left (by simpa using hk),List.getElem?_replicate,if_pos hk] at h
   rw [List.getElem?_append_left (by simpa using hk),List.getElem?_replicate,if_pos hk]
   cases h
   exact ⟨⟨_,rfl,.un⟩,(λxs h=>by cases h),λxs h=>by cases h⟩
  ·rw [List.getElem?_append_right (by simpa using Nat.le_of_not_lt hk),List.length_replicate,List.getElem?_map] at h
   rw [List.getElem?_append_right (by simpa using Nat.le_of_not_lt hk),List.length_replicate,List.getElem?_map]
   cases hj:ix[k - n]? with
   | none=>rw [hj] at h; cases h
   | some j =>
    rw [hj] at h
    have h':rZ ((ρ[j]?).getD .un)=s:=Option.some.inj h
    subst h'
    show (∃ o,some ((σ[j]?).getD none)=some o/\_)/\_
    cases hr:ρ[j]? with
    | none=>exact ⟨⟨_,rfl,.un⟩,(λxs h=>by cases h),λxs h=>by cases h⟩
    | some s' =>
     obtain ⟨o,h1,h2⟩:=R.sl j s' hr
     rw [h1]
     cases h2 with
     | un=>exact ⟨⟨_,rfl,.un⟩,(λxs h=>by cases h),λxs h=>by cases h⟩
     | d z=>exact ⟨⟨_,rfl,.d z⟩,(λxs h=>by cases h),λxs h=>by cases h⟩
     | own _ _ _ _=>exact ⟨⟨_,rfl,.un⟩,(λxs h=>by cases h),λxs h=>by cases h⟩
     | dic _ _ _ _=>exact ⟨⟨_,rfl,.un⟩,(λxs h=>by cases h),λxs h=>by cases h⟩
     | pen=>exact ⟨⟨_,rfl,.pen⟩,(λxs h=>by cases h),λxs h=>by cases h⟩
     | fn=>exact ⟨⟨_,rfl,.fn⟩,(λxs h=>by cases h),λxs h=>by cases h⟩
 refine ⟨R.wd,R.st,R.p0,λk s h=>(key k s h).1,?_,λk n' xs ys _ h1 _=>absurd rfl ((key k _ h1).2.1 xs),λk n' xs ys _ h1 _=>absurd rfl ((key k _ h1).2.2 xs)⟩
 unfold L2.blk cN
 simp
noncomputable def gv (n:Nat) (g:PyData->List Sl->Option (List Sl)):Prop:=∀ x ρ ρ',g x ρ=some ρ'->ρ'.length=ρ.length/\∀ k,n<=k->ρ'[k]?=ρ[k]?
theorem bZ {n k:Nat} (h:k < n):gv n (am k):=λx ρ ρ' e=>by
 cases e
 exact ⟨List.length_set,λj hj=>List.getElem?_set_ne (by omega)⟩
noncomputable def bJ (h:PyData->Tr PyData):List PyData->Tr (List PyData)
 | []=>.ret []
 | x::xs=>(h x).bind λy=>(bJ h xs).bind λys=>.ret (y::ys)
noncomputable def bX (is:List Sl->Tr (List PyData)) (n:Nat) (ix:List Nat) (g:PyData->List Sl->Option (List Sl)) (el:List Sl->Tr PyData):List Sl->Tr (List PyData):=λρ =>
 (is ρ).bind λxs=>if small xs.length=true then bJ (λx=>(Tr.of (g x (blk n ix ρ))).bind el) xs else .fail
theorem Rl.weak {pa:Addr} {G₀ H₀ G H:Hp} {m:Nat} {σ:St} {ρ ρ':List Sl} (R:Rl PK pa G₀ H₀ m σ ρ' G H) (hl:ρ'.length=ρ.length) (h:∀ (k:Nat) (s:Sl),ρ[k]?=some s->s=.un\/ρ'[k]?=some s):Rl PK pa G₀ H₀ m σ ρ G H:=by
 refine ⟨R.wd,R.st,R.p0,λk s hk=>?_,hl.symm.trans R.len,λk n xs ys hkn h1 h2=>?_,λk n xs ys hkn h1 h2=>?_⟩
 ·rcases h k s hk with e | e
  ·subst e
   have hlt:k < σ.length:=by
    rw [<- R.len,hl]
    exact (List.getElem?_eq_some_iff.mp hk).1
   exact ⟨σ[k],by simp [hlt],.un⟩
  ·exact R.sl k s e
 ·rcases h k _ h1 with e | e
  ·cases e
  ·rcases h n _ h2 with e' | e'
   ·cases e'
   ·exact R.dj k n xs ys hkn e e'
 ·rcases h k _ h1 with e | e
  ·cases e
  ·rcases h n _ h2 with e' | e'
   ·cases e'
   ·exact R.dj2 k n xs ys hkn e e'
theorem qP {n:Nat} {ix:List Nat} {g:PyData->List Sl->Option (List Sl)} (hn:gv n g):∀ σ H Q,fP PK (bX is n ix g i) σ H Q->fV (eN PK is) n ix (λ_=>dY PK g) (λ_=>TAe PK i) σ H Q:=by
 rintro σ H Q ⟨pa,G₀,H₀,m,ρ,G,R,z⟩
 refine ⟨pa,G₀,H₀,m,ρ,G,R,Tr.ok_mono (Tr.ok_bind.mp z) λm1 xs k J G1 H1 s1 w1 jo=>λB=>?_⟩
 obtain ⟨hs,k⟩:=eY k
 have hs:xs.length<=sizeLine:=of_decide_eq_true hs
 let el:PyData->Tr PyData:=λx=>(Tr.of (g x (blk n ix ρ))).bind i
 let W:Nat->Nat->St->List V->Hp->Prop:=λk mm τ ys H2=>mm=xs.length - k/\k<=xs.length/\ys.length=k/\∃ m G2 ds,Sub G1 G2/\Stp pa G H G2 H2/\Rl PK pa G₀ H₀ m τ (blk n ix ρ) G2 H2 /\
  DnAll G2 ys ds/\(bJ el (xs.drop k)).ok m λm' zs=>Ko1 PK pa m' G H (ds++zs) Q
 refine ⟨W,⟨xs.length,rfl,Nat.zero_le _,rfl,m1,G1,[],.refl,s1,(R.step s1 w1).blk n ix,.nil,k⟩,?_⟩
 rintro k mm τ ys H2 ⟨rfl,hk,hy,m2,G2,ds,sb,st2,R2,dn,k2⟩
 obtain ⟨j1,j2⟩:=jo m2 G2 H2 sb R2.wd
 by_cases hlt:k < xs.length
 ·have hx:xs[k]?=some xs[k]:=by simp [hlt]
  obtain ⟨jg,jy⟩:=j1 k _ hx
  refine .inr ⟨jg,by omega,λx H3 y=>?_⟩
  obtain ⟨G3,s3,w3,d3⟩:=jy x H3 y
  rw [List.drop_eq_getElem_cons hlt] at k2
  unfold bJ at k2
  rw [Tr.ok_bind,Tr.ok_bind] at k2
  obtain ⟨ρ3,hg3,k3⟩:=Tr.ok_of k2
  refine ⟨pa,G₀,H₀,m2,_,G3,_,ρ3,R2.step s3 w3,d3,hg3,λτ4 R4=>?_⟩
  refine ⟨pa,G₀,H₀,m2,ρ3,G3,R4,Tr.ok_mono k3 λm5 yd k5=>?_⟩
  intro v G5 H5 s5 w5 d5
  have s35:=s3.trans s5 w3.some
  obtain ⟨pl,pk⟩:=hn _ _ _ hg3
  refine ⟨xs.length - (k+1),by omega,rfl,hlt,by rw [List.length_append,hy]; rfl,m5,G5,ds++[yd],sb.trans s35.gs,st2.trans s35 R2.wd.some,?_,(DnAll.mono s35.gs dn).snoc d5,?_⟩
  ·refine (R4.step s5 w5).weak pl λq sl hq=>?_
   by_cases hqn:q < n
   ·left
    unfold blk at hq
    rw [List.getElem?_append_left (by simpa using hqn),List.getElem?_replicate,if_pos hqn] at hq
    cases hq
    rfl
   ·right
    rw [pk q (Nat.le_of_not_lt hqn)]
    exact hq
  ·refine Tr.ok_mono (Tr.ok_bind.mp k5) λm6 zs k6=>?_
   rw [List.append_assoc]
   exact k6
 ·have e:k=xs.length:=by omega
  subst e
  refine .inl ⟨j2,λp v H' hp ev eH=>?_⟩
  subst ev eH
  rw [List.drop_length] at k2
  have k2':Ko1 PK pa m2 G H (ds++[]) Q:=k2
  rw [List.append_nil] at k2'
  exact (Ko1.later k2' st2 R2.wd.some).new R2.wd dn hp
theorem cO {n:Nat} {ix:List Nat} {g:PyData->List Sl->Option (List Sl)} (h:PE X e (fV (eN PK is) n ix (λ_=>dY PK g) (λ_=>TAe PK i))) (hn:gv n g):PE X e (fP PK (bX is n ix g i)):=h.imp (qP hn)
theorem ZaA {te te':TE} {g:TG} (h:∀ σ H Q,te' σ H Q->te σ H Q):∀ D σ H,d7 te' g D σ H->d7 te g D σ H:=λD σ H z=>h σ H _ z
theorem Zpp {n k:Nat} {ix:List Nat} {g:PyData->List Sl->Option (List Sl)} (h:PS X st (d7 (fV (eN PK is) n ix (λ_=>dY PK g) (λ_=>TAe PK i)) (fK k))) (hn:gv n g):PS X st (bz PK (gW k (bX is n ix g i))) :=
 lg (h.imp (ZaA (qP hn)))
noncomputable def jD:Ou->Tr Re
 | .next _=>.ret (.d .none)
 | .ret r=>.ret r
 | _=>.fail
noncomputable def bI (n k:Nat) (s:List Sl->Tr Ou):List Sl->Tr Re:=λas=>if decide (as.length=n)=true then (s (as++List.replicate k .un)).bind jD else .fail
theorem Rl.start {pa:Addr} {G H:Hp} {m:Nat} {N:List Str} {vs:List V} {as:List Sl} {k:Nat} (w:Wd PK pa m G H) (ar:ArsOk pa G vs as) (hk:N.length - vs.length=k):Rl PK pa G H m (L2.start N vs) (as++List.replicate k .un) G H:=by
 have key:∀ {vs:List V} {as:List Sl},ArsOk pa G vs as->∀ (q:Nat) (s:Sl),as[q]?=some s->(∃ o,(vs.map some)[q]?=some o/\SlOk pa H G H o s)/\(∀ xs,s≠.own xs)/\∀ xs,s≠.dic xs:=by
  intro vs as h
  induction h with
  | nil=>intro q s h; simp at h
  | cons h1 h2 ih =>
   intro q s h
   cases q with
   | zero =>
    simp at h
    subst h
    cases h1 with
    | d z=>exact ⟨⟨_,rfl,.d z⟩,(λxs h=>by cases h),λxs h=>by cases h⟩
    | pen=>exact ⟨⟨_,rfl,.pen⟩,(λxs h=>by cases h),λxs h=>by cases h⟩
    | fn=>exact ⟨⟨_,rfl,.fn⟩,(λxs h=>by cases h),λxs h=>by cases h⟩
   | succ q =>
    obtain ⟨⟨o,p1,p2⟩,p3⟩:=ih q s (by simpa using h)
    exact ⟨⟨o,by simpa using p1,p2⟩,p3⟩
 have hl:=ar.length
 have key2:∀ (q:Nat) (s:Sl),(as++List.replicate k .un)[q]?=some s->(∃ o,(L2.start N vs)[q]?=some o/\SlOk pa H G H o s)/\(∀ xs,s≠.own xs)/\∀ xs,s≠.dic xs:=λq s h=>by
  unfold L2.start
  by_cases hq:q < as.length
  ·rw [List.getElem?_append_left hq] at h
   rw [List.getElem?_append_left (by rw [List.length_map,hl]; exact hq)]
   exact key ar q s h
  ·rw [List.getElem?_append_right (by omega),List.getElem?_replicate] at h
   rw [List.getElem?_append_right (by rw [List.length_map]; omega),List.getElem?_replicate,List.length_map,hl]
   split at h
   ·rename_i hq2
    cases h
    rw [if_pos (by omega)]
    exact ⟨⟨_,rfl,.un⟩,(λxs h=>by cases h),λxs h=>by cases h⟩
   ·cases h
 refine ⟨w,.refl,w.some,λq s h=>(key2 q s h).1,?_,λq n xs ys _ h1 _=>absurd rfl ((key2 q _ h1).2.1 xs),λq n xs ys _ h1 _=>absurd rfl ((key2 q _ h1).2.2 xs)⟩
 unfold L2.start
 simp [hl,hk]
 omega
theorem cb {P:Program} {w:World} {K:PySem.W.Frag} {mg:Str->Option Value} {base:Heap} {x:Str} {N ps:List Str} {kk k:Nat} (D:Def K mg x st ps) (S:FnScope N ps (aB st)) (hk:N.length - ps.length=k)
  (hbody:∀ (f:Addr) (cdv:Value) (A:Around) (outer:List Env) (sh:Shared) (H:Hp) (E:XK),Room kk (A.deeper (envOfC x (aB st) sh.heap.objs.size f cdv)) ->
   PSs (cE g0 P w K mg base N x (aB st) f cdv A outer sh H E).nox (fe st) (bz PK s)):ACal PK P w K mg base x (kk+1) ps (bI ps.length k s):=by
 have len:∀ as m Z,(bI ps.length k s as).ok m Z->as.length=ps.length:=λas m Z h=>by
  unfold bI at h
  exact of_decide_eq_true (eY h).1
 refine ⟨D.ok S (λvs H Q E h=>h.1) λf cdv A outer sh H vs Q E hr hsp=>?_,len⟩
 obtain ⟨hv,pa,m,G,as,wd,ar,z⟩:=hsp
 refine ⟨_,hbody f cdv A outer sh H E hr,?_⟩
 unfold bI at z
 obtain ⟨_,z⟩:=eY z
 refine ⟨pa,G,H,m,_,G,Rl.start wd ar (by rw [hv]; exact hk),Tr.ok_mono (Tr.ok_bind.mp z) λm1 o ko=>?_⟩
 cases o with
 | next ρ=>exact λσ G1 H1 sb R1=>ko .non G1 H1 R1.st R1.wd .non
 | ret r=>exact ko
 | brk ρ=>exact ko.elim
 | cont ρ=>exact ko.elim
theorem Zhg {tg l:Expr} {tl:TE} (hl:PE X l tl):PI X tg l (λσ H R=>tl σ H λx H1=>∃ a,x=.ref a/\((∃ xs,SqL X.K H1 a xs/\R (oQ X.K a) H1)\/(∃ xs,SqT X.K H1 a xs/\R (oP X.K a) H1))):=by
 intro pins s σ H R I h
 refine thn (hl pins s σ H _ I h) λv s1 hz0=>?_
 obtain ⟨x,H1,I1,r1,q1⟩:=hz0
 obtain ⟨a,e,q⟩:=q1
 subst e
 cases r1
 rcases q with ⟨xs,hq,q⟩ | ⟨xs,hq,q⟩
 ·obtain ⟨its,rv,p,hz⟩:=I1.list hq
  refine wpAny_pyIter_list p.isList ?_
  refine ⟨s1.heap.objs.size,[s1.heap.objs.size],_,_,H1,rfl,I1.kept (t':=s1.toks) λb o e=>Heap.get?_push_of_some _ e,Zas a _,⟨_,Heap.get?_push_size _ rfl,rfl,rfl⟩,λb hb=>?_,q⟩
  have e:b=s1.heap.objs.size:=by simpa using hb
  subst e
  exact I1.fpOk (Nat.le_refl _) (I1.hok.fresh (Nat.le_refl _))
 ·obtain ⟨its,rv,p,hz⟩:=I1.tuple hq
  refine wpAny_pyIter_tuple (show s1.heap.IsTuple a its.toArray from p) ?_
  refine ⟨s1.heap.objs.size,[s1.heap.objs.size],_,_,H1,rfl,I1.kept (t':=s1.toks) λb o e=>Heap.get?_push_of_some _ e,Zar a _,⟨_,Heap.get?_push_size _ rfl,rfl,rfl⟩,λb hb=>?_,q⟩
  have e:b=s1.heap.objs.size:=by simpa using hb
  subst e
  exact I1.fpOk (Nat.le_refl _) (I1.hok.fresh (Nat.le_refl _))
theorem DnAll.get {H:Hp}:∀ {vs:List V} {ds:List PyData} (n:Nat) {d:PyData},DnAll H vs ds->ds[n]?=some d->∃ v,vs[n]?=some v/\Dn H v d
 | _,_,_,_,.nil,e=>by simp at e
 | _,_,0,_,.cons g t,e=>by simp at e; subst e; exact ⟨_,rfl,g⟩
 | _,_,n+1,_,.cons g t,e=>by
  obtain ⟨v,h1,h2⟩:=DnAll.get n t (by simpa using e)
  exact ⟨v,by simpa using h1,h2⟩
theorem Zcz {K:PySem.W.Frag} {pa a:Addr} {G:Hp} {vs:List V} {xs:List PyData} (h:G a=some (.lst vs)) (d:DnAll G vs xs):lq PK pa (oQ K a) G xs:=λm G2 H2 sb w=>by
 have hq:SqL K H2 a vs:=SqL.of (w.sub _ _ (sb _ _ h))
 refine ⟨λn x hx=>?_,vs,hq,by rw [d.length]; exact Nat.le_refl _⟩
 obtain ⟨v,hv,dv⟩:=d.get n hx
 refine ⟨⟨vs,v,hq,hv⟩,λy H3 hz0=>?_⟩
 obtain ⟨e,hy⟩:=hz0
 subst e
 have:=hy vs hq
 rw [hv] at this
 cases this
 exact ⟨G2,.refl,w,dv.mono sb⟩
theorem Zcy {K:PySem.W.Frag} {pa a:Addr} {G:Hp} {vs:List V} {xs:List PyData} (h:G a=some (.tup vs)) (d:DnAll G vs xs):lq PK pa (oP K a) G xs:=λm G2 H2 sb w=>by
 have hq:SqT K H2 a vs:=SqT.of (w.sub _ _ (sb _ _ h))
 refine ⟨λn x hx=>?_,vs,hq,by rw [d.length]; exact Nat.le_refl _⟩
 obtain ⟨v,hv,dv⟩:=d.get n hx
 refine ⟨⟨vs,v,hq,hv⟩,λy H3 hz0=>?_⟩
 obtain ⟨e,hy⟩:=hz0
 subst e
 have:=hy vs hq
 rw [hv] at this
 cases this
 exact ⟨G2,.refl,w,dv.mono sb⟩
noncomputable def fI:PyData->Option (List PyData)
 | .list xs=>some xs
 | .tuple xs=>some xs
 | _=>none
@[simp] theorem Zqa (xs:List PyData):fI (.list xs)=some xs:=rfl
@[simp] theorem Zp9 (xs:List PyData):fI (.tuple xs)=some xs:=rfl
noncomputable def jS (i:List Sl->Tr PyData):List Sl->Tr (List PyData):=λρ=>(i ρ).bind λx=>Tr.of (fI x)
theorem n6 {tg l:Expr} (hl:PE X l (TAe PK i)):PI X tg l (eN PK (jS i)):=(Zhg hl).imp λσ H R0 hz0=>by
 obtain ⟨pa,G₀,H₀,m,ρ,G,R,z⟩:=hz0
 refine TAe.then R z λm1 x v G1 H1 s1 w1 R1 d1 q1=>?_
 obtain ⟨xs,hx,q1⟩:=Tr.ok_of q1
 cases d1 with
 | lst h1 h2=>cases hx; exact ⟨_,rfl,.inl ⟨_,SqL.of (w1.sub _ _ h1),q1 _ G1 H1 s1 w1 (Zcz h1 h2)⟩⟩
 | tup h1 h2=>cases hx; exact ⟨_,rfl,.inr ⟨_,SqT.of (w1.sub _ _ h1),q1 _ G1 H1 s1 w1 (Zcy h1 h2)⟩⟩
 | _=>cases hx
noncomputable def cw (lo hi:Int):List PyData:=(ii lo (hi - lo).toNat).map PyData.int
theorem Zjc {pa:Addr} {G:Hp} {lo:Int} {n:Nat}:lq PK pa (lr lo n) G ((ii lo n).map PyData.int):=λm G2 H2 sb w=>by
 refine ⟨λk x hx=>?_,by show n<=_; rw [List.length_map,pN]; exact Nat.le_refl _⟩
 have hk:k < n:=by
  have:=(List.getElem?_eq_some_iff.mp hx).1
  rwa [List.length_map,pN] at this
 refine ⟨hk,λy H3 hz0=>?_⟩
 obtain ⟨e1,e2⟩:=hz0
 subst e1 e2
 have:x=.int (lo+k):=by
  unfold ii at hx
  simp [hk] at hx
  exact hx.symm
 subst this
 exact ⟨G2,.refl,w,.int _⟩
noncomputable def rq (n:Int):Bool:=decide (-(2 ^ 62)<=n/\n < 2 ^ 62)
noncomputable def kG:List PyData->Option (List PyData)
 | [.int n]=>if rq n=true then some (cw 0 n) else none
 | _=>none
noncomputable def gX (is:List Sl->Tr (List PyData)):List Sl->Tr (List PyData):=λρ=>(is ρ).bind λxs=>Tr.of (kG xs)
theorem ZgG {G:Hp} {vs:List V} {xs ys:List PyData} (d:DnAll G vs xs) (h:kG xs=some ys):∃ n:Int,vs=[.int n]/\-(2 ^ 62)<=n/\n < 2 ^ 62/\ys=cw 0 n:=by
 unfold kG at h
 split at h
 ·rename_i n
  split at h
  ·rename_i hn
   cases h
   cases d with
   | cons d1 d2 =>
    cases d2
    cases d1
    have:=of_decide_eq_true hn
    exact ⟨n,rfl,this.1,this.2,rfl⟩
  ·cases h
 ·cases h
theorem jO {tg e:Expr} (h:PI X tg e (ZcN (TAd PK is))):PI X tg e (eN PK (gX is)):=h.imp λσ H R0 hz0=>by
 obtain ⟨pa,G₀,H₀,m,ρ,G,R,z⟩:=hz0
 refine TAd.then R z λm1 xs vs G1 H1 s1 w1 R1 d1 q1=>?_
 obtain ⟨ys,hy,q1⟩:=Tr.ok_of q1
 obtain ⟨n,e,h1,h2,rfl⟩:=ZgG d1 hy
 refine ⟨n,e,h1,h2,?_⟩
 have q:=q1 (lr 0 n.toNat) G1 H1 s1 w1
 unfold cw at q
 rw [Int.sub_zero] at q
 exact q Zjc
variable {PK:Pk} {X:Cx} {a b c e:Expr} {es:List Expr} {pos:Pos} {i j l:List Sl->Tr PyData} {is:List Sl->Tr (List PyData)}
noncomputable def fit (n:Int):Bool:=decide (n.natAbs < 2 ^ 8000)
noncomputable def dm:PyData->PyData->Option PyData
 | .int m,.int n=>some (.int (m+n))
 | .tuple xs,.tuple ys=>if (!xs.isEmpty && small (xs.length+ys.length))=true then some (.tuple (xs++ys)) else none
 | .list xs,.list ys=>if small (xs.length+ys.length)=true then some (.list (xs++ys)) else none
 | _,_=>none
noncomputable def pT (K:PySem.W.Frag):R2:=λx y H Q=>eU (λi j=>.int (i+j)) x y H Q\/ZbG K x y H Q\/ZbI x y H Q
theorem kO:OpR X (binaryOp .Add) (pT X.K):=gf.or (ZhZ.or Zh1)
theorem j9 {K:PySem.W.Frag}:b8 (pT K) dm:=λPK pa m G H x y dx dy dz Q w hx hy hz k=>by
 unfold dm at hz
 split at hz
 ·cases hz; cases hx; cases hy
  exact .inl ⟨_,_,rfl,rfl,k.here w (.int _)⟩
 ·rename_i xs ys
  split at hz
  ·rename_i hc
   rw [Bool.and_eq_true] at hc
   have h1:xs.isEmpty=false:=by simpa using hc.1
   have h2:xs.length+ys.length<=sizeLine:=of_decide_eq_true hc.2
   cases hz
   cases hx with
   | tup a1 a2 =>
    cases hy with
    | tup b1 b2 =>
     refine .inr (.inl ⟨_,_,_,_,rfl,rfl,SqT.of (w.sub _ _ a1),SqT.of (w.sub _ _ b1),?_,by rw [a2.length,b2.length]; exact h2,λe=>?_,λe p hp=>k.tup w (a2.append b2) hp⟩)
     ·intro e
      rw [<- a2.isEmpty,e] at h1
      cases h1
     ·subst e
      cases b2
      refine k.here w ?_
      rw [List.append_nil]
      exact .tup a1 a2
  ·cases hz
 ·rename_i xs ys
  split at hz
  ·rename_i hc
   have h2:xs.length+ys.length<=sizeLine:=of_decide_eq_true hc
   cases hz
   cases hx with
   | lst a1 a2 =>
    cases hy with
    | lst b1 b2=>exact .inr (.inr ⟨_,_,_,_,rfl,rfl,w.sub _ _ a1,w.sub _ _ b1,by rw [a2.length,b2.length]; exact h2,λp hp=>k.lst w (a2.append b2) hp⟩)
  ·cases hz
 ·cases hz
noncomputable def gz:PyData->PyData->Option PyData
 | .int m,.int n=>some (.int (m - n))
 | _,_=>none
theorem j8:b8 (eU λi j=>.int (i - j)) gz:=λPK pa m G H x y dx dy dz Q w hx hy hz k=>by
 unfold gz at hz
 split at hz
 ·cases hz; cases hx; cases hy
  exact ⟨_,_,rfl,rfl,k.here w (.int _)⟩
 ·cases hz
theorem DnAll.rep {H:Hp} {vs:List V} {ds:List PyData} (h:DnAll H vs ds):∀ k:Nat,DnAll H (List.replicate k vs).flatten (List.replicate k ds).flatten
 | 0=>.nil
 | k+1=>by
  rw [List.replicate_succ,List.replicate_succ,List.flatten_cons,List.flatten_cons]
  exact h.append (h.rep k)
noncomputable def pO (K:PySem.W.Frag):R2:=λx y H Q=>rI CMulG (λi j=>.int (i * j)) x y H Q\/Zbp K x y H Q\/Zbq x y H Q
theorem ZhV:OpR X (binaryOp .Mult) (pO X.K):=ZhU.or (ZhN.or ZhO)
noncomputable def jq:PyData->PyData->Option PyData
 | .int m,.int n=>if (fit m && fit n)=true then some (.int (m * n)) else none
 | .tuple xs,.int n=>if (decide (1 < n) && decide (n<=1000) && !xs.isEmpty && decide (xs.length<=1000))=true then some (.tuple (List.replicate n.toNat xs).flatten) else none
 | .list xs,.int n=>if (decide (-(2 ^ 63)<=n) && decide (n < 2 ^ 63) && small (xs.length * n.toNat))=true then some (.list (List.replicate n.toNat xs).flatten) else none
 | _,_=>none
theorem Ze3 {K:PySem.W.Frag}:b8 (pO K) jq:=λPK pa m G H x y dx dy dz Q w hx hy hz k=>by
 unfold jq at hz
 split at hz
 ·split at hz
  ·rename_i hc
   rw [Bool.and_eq_true] at hc
   cases hz; cases hx; cases hy
   exact .inl ⟨_,_,rfl,rfl,⟨of_decide_eq_true hc.1,of_decide_eq_true hc.2⟩,k.here w (.int _)⟩
  ·cases hz
 ·split at hz
  ·rename_i hc
   simp only [Bool.and_eq_true,decide_eq_true_eq,Bool.not_eq_true'] at hc
   cases hz; cases hy
   cases hx with
   | tup a1 a2 =>
    refine .inr (.inl ⟨_,_,_,rfl,rfl,SqT.of (w.sub _ _ a1),hc.1.1.1,hc.1.1.2,?_,by rw [a2.length]; exact hc.2,λp hp=>k.tup w (a2.rep _) hp⟩)
    intro e
    have:=hc.1.2
    rw [<- a2.isEmpty,e] at this
    cases this
  ·cases hz
 ·split at hz
  ·rename_i hc
   simp only [Bool.and_eq_true,decide_eq_true_eq] at hc
   cases hz; cases hy
   cases hx with
   | lst a1 a2=>exact .inr (.inr ⟨_,_,_,rfl,rfl,w.sub _ _ a1,hc.1.1,hc.1.2,by rw [a2.length]; exact of_decide_eq_true hc.2,λp hp=>k.lst w (a2.rep _) hp⟩)
  ·cases hz
 ·cases hz
noncomputable def bO (f:Int->Int->Bool):PyData->PyData->Option PyData
 | .int m,.int n=>some (.bool (f m n))
 | _,_=>none
theorem ce {f:Int->Int->Bool}:b8 (eU λi j=>.bl (f i j)) (bO f):=λPK pa m G H x y dx dy dz Q w hx hy hz k=>by
 unfold bO at hz
 split at hz
 ·cases hz; cases hx; cases hy
  exact ⟨_,_,rfl,rfl,k.here w (.bl _)⟩
 ·cases hz
noncomputable def cM:PyData->PyData->Option PyData
 | .str m,.str n=>some (.bool (m == n))
 | x,y=>if (SeqAt.shaped x && SeqAt.shaped y)=true then some (.bool (PyData.eqv x y)) else none
noncomputable def c8:PyData->PyData->Option PyData
 | .str m,.str n=>some (.bool (!(m == n)))
 | x,y=>if (SeqAt.shaped x && SeqAt.shaped y)=true then some (.bool (!PyData.eqv x y)) else none
noncomputable def ZbD:R2:=λx y H Q=>rEq x y H Q\/∃ d e,Dn H x d/\Dn H y e/\SeqAt.shaped d=true/\SeqAt.shaped e=true/\Q (.bl (PyData.eqv d e)) H
noncomputable def Zbs:R2:=λx y H Q=>rNe x y H Q\/∃ d e,Dn H x d/\Dn H y e/\SeqAt.shaped d=true/\SeqAt.shaped e=true/\Q (.bl (!PyData.eqv d e)) H
theorem dH {k:Nat} (hr:Room k X.A):OpR X (compareOp .Eq) ZbD:=Zca.or (ZhY hr)
theorem gb {k:Nat} (hr:Room k X.A):OpR X (compareOp .NotEq) Zbs:=ZhS.or (Zb6 hr)
theorem dD:b8 ZbD cM:=λPK pa m G H x y dx dy dz Q w hx hy hz k=>by
 unfold cM at hz
 split at hz
 ·cases hz; cases hx; cases hy
  exact .inl ⟨rfl,by rw [nL]; exact k.here w (.bl _)⟩
 ·split at hz
  ·rename_i hc
   rw [Bool.and_eq_true] at hc
   cases hz
   exact .inr ⟨_,_,hx.mono w.sub,hy.mono w.sub,hc.1,hc.2,k.here w (.bl _)⟩
  ·cases hz
theorem fU:b8 Zbs c8:=λPK pa m G H x y dx dy dz Q w hx hy hz k=>by
 unfold c8 at hz
 split at hz
 ·cases hz; cases hx; cases hy
  exact .inl ⟨rfl,by rw [nL]; exact k.here w (.bl _)⟩
 ·split at hz
  ·rename_i hc
   rw [Bool.and_eq_true] at hc
   cases hz
   exact .inr ⟨_,_,hx.mono w.sub,hy.mono w.sub,hc.1,hc.2,k.here w (.bl _)⟩
  ·cases hz
noncomputable def eE:PyData->Bool
 | .none=>true
 | _=>false
noncomputable def iA:PyData->PyData->Option PyData:=λx y=>if eE y=true then some (.bool (eE x)) else none
theorem Dn.no {G:Hp} {v:V} {x:PyData} (h:Dn G v x):decide (v=.non)=eE x:=by
 cases h <;> simp [eE]
theorem o7:b8 (λx y H Q=>y=.non/\Q (.bl (decide (x=.non))) H) iA:=λPK pa m G H x y dx dy dz Q w hx hy hz k=>by
 unfold iA at hz
 split at hz
 ·rename_i hc
  cases hz
  refine ⟨?_,by rw [hx.no]; exact k.here w (.bl _)⟩
  rw [<- hy.no] at hc
  exact of_decide_eq_true hc
 ·cases hz
noncomputable def eD:PyData->PyData->Option PyData
 | .list xs,.int n=>bd xs n
 | .tuple xs,.int n=>bd xs n
 | _,_=>none
theorem DnAll.at {H:Hp} {vs:List V} {ds:List PyData} {n:Int} {d:PyData} (h:DnAll H vs ds) (e:bd ds n=some d):∃ v,bd vs n=some v/\Dn H v d:=by
 unfold bd at e ⊢
 rw [<- h.length] at e
 cases hn:dQ vs.length n with
 | none=>rw [hn] at e; cases e
 | some j =>
  rw [hn] at e
  exact h.get j e
theorem gx {K:PySem.W.Frag}:b8 (pP K) eD:=λPK pa m G H x y dx dy dz Q w hx hy hz k=>by
 unfold eD at hz
 split at hz
 ·cases hy
  cases hx with
  | lst a1 a2 =>
   obtain ⟨v,h1,h2⟩:=a2.at hz
   exact .inl ⟨_,_,_,v,rfl,rfl,SqL.of (w.sub _ _ a1),h1,k.here w h2⟩
 ·cases hy
  cases hx with
  | tup a1 a2 =>
   obtain ⟨v,h1,h2⟩:=a2.at hz
   exact .inr (.inl ⟨_,_,_,v,rfl,rfl,SqT.of (w.sub _ _ a1),h1,k.here w h2⟩)
 ·cases hz
noncomputable def gk:List PyData->Option PyData
 | [.list xs]=>some (.int xs.length)
 | [.tuple xs]=>some (.int xs.length)
 | _=>none
theorem ka {K:PySem.W.Frag}:df (λxs H Q=>∃ p ys,xs=[.ref p]/\(SqL K H p ys\/SqT K H p ys)/\Q (.int ys.length) H) gk:=λPK pa m G H vs ds d Q w hv hd k=>by
 unfold gk at hd
 split at hd
 ·cases hd
  cases hv with
  | cons h1 h2 =>
   cases h2
   cases h1 with
   | lst a1 a2=>exact ⟨_,_,rfl,.inl (SqL.of (w.sub _ _ a1)),by rw [a2.length]; exact k.here w (.int _)⟩
 ·cases hd
  cases hv with
  | cons h1 h2 =>
   cases h2
   cases h1 with
   | tup a1 a2=>exact ⟨_,_,rfl,.inr (SqT.of (w.sub _ _ a1)),by rw [a2.length]; exact k.here w (.int _)⟩
 ·cases hd
noncomputable def og (n:Int):Int:=if n < 0 then -n else n
noncomputable def oh:List PyData->Option PyData
 | [.int n]=>some (.int (og n))
 | _=>none
theorem Zfc:df (λxs H Q=>∃ i,xs=[.int i]/\Q (.int (if i < 0 then -i else i)) H) oh:=λPK pa m G H vs ds d Q w hv hd k=>by
 unfold oh at hd
 split at hd
 ·cases hd
  cases hv with
  | cons h1 h2=>cases h2; cases h1; exact ⟨_,rfl,k.here w (.int _)⟩
 ·cases hd
noncomputable def Zcm (m n:Int):Int:=if n > m then n else m
noncomputable def Zck (m n:Int):Int:=if n < m then n else m
noncomputable def rn:List PyData->Option PyData
 | [.int n]=>some (.int n)
 | [.bool n]=>some (.int (if n then 1 else 0))
 | _=>none
theorem Ze9:df (λxs H Q=>(∃ i,xs=[.int i]/\Q (.int i) H)\/∃ k,xs=[.bl k]/\Q (.int (if k then 1 else 0)) H) rn:=λPK pa m G H vs ds d Q w hv hd k=>by
 unfold rn at hd
 split at hd
 ·cases hd
  cases hv with
  | cons h1 h2=>cases h2; cases h1; exact .inl ⟨_,rfl,k.here w (.int _)⟩
 ·cases hd
  cases hv with
  | cons h1 h2=>cases h2; cases h1; exact .inr ⟨_,rfl,k.here w (.int _)⟩
 ·cases hd
noncomputable def c6:List PyData->Option PyData
 | [.list xs]=>some (.tuple xs)
 | [.tuple xs]=>some (.tuple xs)
 | _=>none
theorem eQ {K:PySem.W.Frag}:df (λxs H Q=>∃ p ys,xs=[.ref p]/\((SqL K H p ys/\∀ l,H l=none->Q (.ref l) (upd H l (.tup ys)))\/(SqT K H p ys/\Q (.ref p) H))) c6:=λPK pa m G H vs ds d Q w hv hd k=>by
 unfold c6 at hd
 split at hd
 ·cases hd
  cases hv with
  | cons h1 h2 =>
   cases h2
   cases h1 with
   | lst a1 a2=>exact ⟨_,_,rfl,.inl ⟨SqL.of (w.sub _ _ a1),λp hp=>k.tup w a2 hp⟩⟩
 ·cases hd
  cases hv with
  | cons h1 h2 =>
   cases h2
   cases h1 with
   | tup a1 a2=>exact ⟨_,_,rfl,.inr ⟨SqT.of (w.sub _ _ a1),k.here w (.tup a1 a2)⟩⟩
 ·cases hd
noncomputable def jw:List PyData->Option (List PyData)
 | [.list xs]=>some xs
 | [.tuple xs]=>some xs
 | _=>none
theorem Ze8 {K:PySem.W.Frag}:sI (λxs H Q=>∃ p ys,xs=[.ref p]/\(SqL K H p ys\/SqT K H p ys)/\∀ l,H l=none->Q (.ref l) (upd H l (.lst ys))) jw:=λPK pa m G H vs ds d Q w hv hd k=>by
 unfold jw at hd
 split at hd
 ·cases hd
  cases hv with
  | cons h1 h2 =>
   cases h2
   cases h1 with
   | lst a1 a2=>exact ⟨_,_,rfl,.inl (SqL.of (w.sub _ _ a1)),λp hp=>k.new w a2 hp⟩
 ·cases hd
  cases hv with
  | cons h1 h2 =>
   cases h2
   cases h1 with
   | tup a1 a2=>exact ⟨_,_,rfl,.inr (SqT.of (w.sub _ _ a1)),λp hp=>k.new w a2 hp⟩
 ·cases hd
noncomputable def fw:PyData->String
 | .none=>"NoneType"
 | .bool _=>"bool"
 | .int _=>"int"
 | .str _=>"str"
 | .list _=>"list"
 | .tuple _=>"tuple"
 | .dict _=>"dict"
theorem Dn.ty {K:PySem.W.Frag} {G H:Hp} (sb:Sub G H) {v:V} {d:PyData} (h:Dn G v d):TyOf K H v (.type (fw d)):=by
 cases h with
 | non=>exact .non
 | bl b=>exact .bl b
 | int i=>exact .int i
 | str x=>exact .str x
 | tup h _=>exact .tup (sb _ _ h)
 | lst h _=>exact .lst (sb _ _ h)
 | dct h _=>exact h.elim (λh=>.dK (sb _ _ h)) λ⟨o,h⟩=>.frzD (sb _ _ h)
noncomputable def gL (T:String) (t:String):Bool:=decide (t=T) || (decide (T="int") && decide (t="bool"))
noncomputable def gt (T:String) (i:List Sl->Tr PyData):List Sl->Tr PyData:=λρ=>(i ρ).bind λx=>.ret (.bool (gL T (fw x)))
noncomputable def ZcG (T:String):Prop:=T="int"\/T="bool"\/T="str"\/T="list"\/T="tuple"\/T="dict"
theorem Zi1 {K:PySem.W.Frag} {T:String} (h:ZcG T) (d:PyData):PySem.W.kitOne K (.type (fw d)) (.type T)=some (gL T (fw d)):=by
 rcases h with rfl | rfl | rfl | rfl | rfl | rfl <;> cases d <;> rfl
theorem iM {T:String} {tc:TE} (hT:ZcG T) (htc:tc=tC (.ty T)) (h:PE X e (fW (λxs H Q=>∃ x T t b,xs=[x,.ty T]/\TyOf X.K H x t/\PySem.W.kitOne X.K t (.type T)=some b/\Q (.bl b) H) (hU (TAe PK i) (hU tc aT)))):PE X e (TAe PK (gt T i)):=h.imp λσ H Q hz0=>by
 obtain ⟨pa,G₀,H₀,m,ρ,G,R,z⟩:=hz0
 subst htc
 refine TAe.then R z λm1 x v G1 H1 s1 w1 R1 d1 q1=>?_
 exact ⟨v,T,_,_,rfl,d1.ty w1.sub,Zi1 hT x,(Kn.later q1 s1 w1.some).here w1 (.bl _)⟩
noncomputable def eI (xs:List PyData) (lo hi:Option Int):List PyData:=(xs.drop (HT.aK xs.length 0 lo)).take (HT.aK xs.length xs.length hi - HT.aK xs.length 0 lo)
theorem DnAll.take {H:Hp}:∀ {vs:List V} {ds:List PyData} (n:Nat),DnAll H vs ds->DnAll H (vs.take n) (ds.take n)
 | _,_,0,_=>.nil
 | _,_,_+1,.nil=>.nil
 | _,_,n+1,.cons r t=>.cons r (DnAll.take n t)
theorem DnAll.drop {H:Hp}:∀ {vs:List V} {ds:List PyData} (n:Nat),DnAll H vs ds->DnAll H (vs.drop n) (ds.drop n)
 | _,_,0,r=>r
 | _,_,_+1,.nil=>.nil
 | _,_,n+1,.cons r t=>DnAll.drop n t
theorem DnAll.cut {H:Hp} {vs:List V} {ds:List PyData} (h:DnAll H vs ds) (lo hi:Option Int):DnAll H (dS vs lo hi) (eI ds lo hi):=by
 unfold dS eI
 rw [h.length]
 exact (h.drop _).take _
noncomputable abbrev dX:=List Sl->Tr (Option Int)
noncomputable def cG:dX:=λ_=>.ret none
noncomputable def cz (i:List Sl->Tr PyData):dX:=λρ=>(i ρ).bind λx=>match x with
 | .int n=>.ret (some n)
 | _=>.fail
noncomputable def TAp (PK:Pk) (i:dX):TO:=λσ H Q=>∃ pa G₀ H₀ m ρ G,Rl PK pa G₀ H₀ m σ ρ G H/\(i ρ).ok m λm' x=>∀ G' H',Stp pa G H G' H'->Wd PK pa m' G' H'->Q x H'
theorem PO.imp {e:Option Expr} {t t':TO} (h:PO X e t) (q:∀ σ H Q,t' σ H Q->t σ H Q):PO X e t':=λpins s σ H Q I z=>h pins s σ H Q I (q σ H Q z)
theorem cZ:PO X none (TAp PK cG):=ZbQ.imp λσ H Q hz0=>by
 obtain ⟨pa,G₀,H₀,m,ρ,G,R,z⟩:=hz0
 exact z G H .refl R.wd
theorem cY (h:PE X e (TAe PK i)):PO X (some e) (TAp PK (cz i)):=(ZbP h).imp λσ H Q hz0=>by
 obtain ⟨pa,G₀,H₀,m,ρ,G,R,z⟩:=hz0
 refine TAe.then R z λm1 x v G1 H1 s1 w1 R1 d1 q1=>?_
 cases d1 with
 | int n=>exact ⟨n,rfl,q1 G1 H1 s1 w1⟩
 | _=>exact q1.elim
theorem Zju {prog:Program} {w:World} {A:Around} {E:Value->Shared->Prop} {s:Shared} {t sl:Addr} {items:Array Value} {vl vu:Value} {lo hi:Option Int} {Q:Value->Shared->Prop} (ht:IsTup s.heap t items) (hs:s.heap.IsSliceOf sl vl vu .none) (pl:IsPart vl lo) (pu:IsPart vu hi)
  (hw:HT.aK items.size 0 lo=0/\HT.aK items.size items.size hi=items.size) (h:Q (.ref t) s):wpAny (model prog w) A (getItem (.ref t) (.ref sl)) Q E s:=by
 obtain ⟨os,hos,hcs,hds⟩:=id hs
 have hTs:s.TypeIs (.ref sl) "slice":=⟨os,hos,hcs⟩
 unfold getItem
 try with_reducible refine wpAny_holding ?_
 first | refine wpAny_bind (wpAny_pure ?_) | skip
 refine wpAny_bind (wpAny_sequenceKey ht.typeIs (by decide) ?_)
 refine wpAny_bind (wpAny_callSpecial?_slot (name:=Str.ofString "__getitem__") ht.typeIs PyProof.Rows.slot_tuple_getitem
  (wpAny_call_entry PyProof.Rows.slot_tuple_getitem ht.typeIs entry_tuple_getitem ?_ (args_tuple_getitem _ _)))
 show wpAny _ _ (Builtin.Tuple.tupleItemsOf (.ref t) >>= _) _ _ s
 refine wpAny_bind (tupleItemsOf_ ht ?_)
 refine wpAny_bind (wpAny_typeOf hTs ?_)
 rw [if_pos (by decide)]
 refine wpAny_bind (HT.ZaN hs pl pu ?_)
 have hyes:(((HT.aK items.size 0 lo:Nat):Int) == 0 && (1:Int) == 1 && (HT.aK items.size items.size hi - HT.aK items.size 0 lo) == items.size)=true:=by
  rw [hw.1,hw.2]
  simp
 show wpAny _ _ (if (((HT.aK items.size 0 lo:Nat):Int) == 0 && (1:Int) == 1 && (HT.aK items.size items.size hi - HT.aK items.size 0 lo) == items.size)=true then _ else _) _ _ s
 rw [if_pos hyes]
 refine wpAny_bind (m:=Builtin.Tuple.tupleIsExact (.ref t)) ?_
 unfold Builtin.Tuple.tupleIsExact
 refine wpAny_bind (wpAny_typeOf ht.typeIs ?_)
 refine wpAny_pure ?_
 rw [if_pos (by decide)]
 refine wpAny_bind (wpAny_rule ?_)
 exact wpAny_pure ⟨_,rfl,wpAny_pure h⟩
noncomputable def Zbg (K:PySem.W.Frag):V->Option Int->Option Int->Hp->VK->Prop:=λx lo hi H Q=>∃ a xs,x=.ref a/\SqT K H a xs/\(HT.aK xs.length 0 lo=0/\HT.aK xs.length xs.length hi=xs.length)/\Q (.ref a) H
theorem ZfY:SlR X (Zbg X.K):=by
 intro pins s σ H x v vl vu lo hi sl Q I rx hs pl pu h
 obtain ⟨a,xs,rfl,hx,hw,q⟩:=h
 cases rx
 obtain ⟨its,r,ht,hz⟩:=I.tuple hx
 have hlen:its.toArray.size=xs.length:=by rw [List.size_toArray]; exact r.length.symm
 refine ⟨"tuple",_,PyProof.Rows.slot_tuple_getitem.lookup,ht.typeIs,?_⟩
 exact Zju ht hs pl pu (by rw [hlen]; exact hw) ⟨.ref a,H,I,rfl,q⟩
noncomputable def Zbk (K:PySem.W.Frag):V->Option Int->Option Int->Hp->VK->Prop:=λx lo hi H Q=>Zbj K x lo hi H Q\/Zbh K x lo hi H Q\/Zbg K x lo hi H Q
theorem Zf2:SlR X (Zbk X.K):=ZaO.or (ZfZ.or ZfY)
noncomputable def ZaM (x:PyData) (lo hi:Option Int):Option PyData:=match x with
 | .list xs=>some (.list (eI xs lo hi))
 | .tuple xs=>some (.tuple (eI xs lo hi))
 | _=>none
theorem TAp.then {p:dX} {σ:St} {H:Hp} {β:Type} {k:Option Int->Tr β} {Z:Nat->β->Prop} {Q:Option Int->Hp->Prop} {pa:Addr} {G₀ H₀ G:Hp} {m:Nat} {ρ:List Sl} (R:Rl PK pa G₀ H₀ m σ ρ G H) (h:((p ρ).bind k).ok m Z)
  (hq:∀ m1 x G1 H1,Stp pa G H G1 H1->Wd PK pa m1 G1 H1->Rl PK pa G₀ H₀ m1 σ ρ G1 H1->(k x).ok m1 Z->Q x H1):TAp PK p σ H Q:=by
 refine ⟨pa,G₀,H₀,m,ρ,G,R,Tr.ok_mono (Tr.ok_bind.mp h) λm1 x hx G1 H1 s1 w1=>?_⟩
 exact hq m1 x G1 H1 s1 w1 (R.step s1 w1) hx
noncomputable def ints?:List PyData->Option (List Int)
 | []=>some []
 | .int n::xs=>(ints? xs).bind λns=>some (n::ns)
 | _=>none
@[simp] theorem ints?_map:∀ ns:List Int,ints? (ns.map PyData.int)=some ns
 | []=>rfl
 | n::ns=>by rw [List.map_cons,ints?,ints?_map ns]; rfl
theorem DnAll.ints_inv {H:Hp} {vs:List V} {ds:List PyData} {ns:List Int} (a:DnAll H vs ds) (h:ints? ds=some ns):vs=ns.map V.int/\ds=ns.map PyData.int:=by
 induction vs generalizing ds ns with
 | nil=>cases a; cases h; exact ⟨rfl,rfl⟩
 | cons v vs ih =>
  cases a with
  | cons g t =>
   cases g with
   | int n =>
    unfold ints? at h
    rename_i ds
    cases e:ints? ds with
    | none=>rw [e] at h; cases h
    | some ms =>
     rw [e] at h
     cases h
     obtain ⟨h1,h2⟩:=ih t e
     exact ⟨by rw [h1]; rfl,by rw [h2]; rfl⟩
   | _=>unfold ints? at h; cases h
section
variable {prog:Program} {w:World} {A:Around} {E:Value->Shared->Prop} {s:Shared}
noncomputable def ZeJ (b:Bool) (h:Heap) (it a:Addr) (k:Nat):Prop:=match b with
 | true=>h.IsListIter it a k
 | false=>h.IsTupleIter it a k
noncomputable def SqAt (b:Bool) (h:Heap) (a:Addr) (items:Array Value):Prop:=match b with
 | true=>h.IsList a items
 | false=>h.IsTuple a items
theorem SqAt.at {b:Bool} {h h':Heap} {a:Addr} {items:Array Value} (x:SqAt b h a items) (e:∀ o,h.get? a=some o->h'.get? a=some o):SqAt b h' a items:=by
 cases b with
 | true=>exact Heap.IsList.at x e
 | false=>exact Heap.IsTuple.at x e
noncomputable def ZcE (b:Bool) (l:Addr):Obj:=match b with
 | true=>{ cls:=.type "list_iterator",data:=.fields #[.ref l,.int 0 0] }
 | false=>{ cls:=.type "tuple_iterator",data:=.fields #[.ref l,.int 0 0] }
theorem mC {b:Bool} {l:Addr} {items:Array Value} {Q:Value->Shared->Prop} (hl:SqAt b s.heap l items) (hQ:Q (.ref s.heap.objs.size) { s with heap:=s.heap.push (ZcE b l) }):wpAny (model prog w) A (pyIter (.ref l)) Q E s:=by
 cases b with
 | true=>exact wpAny_pyIter_list hl hQ
 | false=>exact wpAny_pyIter_tuple hl hQ
theorem SqAt.push {b:Bool} {h:Heap} {l:Addr} {items:Array Value} (x:SqAt b h l items) (o:Obj):SqAt b (h.push o) l items:=x.at λ_ q=>Heap.get?_push_of_some _ q
theorem nv {b:Bool} {h:Heap} {it l:Addr} (e:h.get? it=some (ZcE b l)):ZeJ b h it l 0:=by
 cases b with
 | true=>exact ⟨_,e,rfl,rfl⟩
 | false=>exact ⟨_,e,rfl,rfl⟩
end
section
variable {X:Cx} {pins:List (Addr×Obj)} {σ:St} {H:Hp} {s:Shared} {h':Heap}
end
noncomputable def fc (b:Bool) (xs:List V):HO:=match b with
 | true=>.lst xs
 | false=>.tup xs
theorem lH {P:Program} {w:World} {H:Hp} {h:Heap} (ok:HOk P w H h) {b:Bool} {a:Addr} {xs:List V} (e:H a=some (fc b xs)):∃ its:List Value,Vals xs its/\SqAt b h a its.toArray:=by
 cases b with
 | true=>obtain ⟨_,its,n,r,q⟩:=ok a _ e; exact ⟨its,r,⟨_,q,rfl,n,rfl⟩⟩
 | false=>obtain ⟨_,its,r,q⟩:=ok a _ e; exact ⟨its,r,q⟩
end L2
namespace L2
open PySem PySem.Spec PyProof.Rows
open AutoSeq1 (wpAny_loadPart')
section
variable {X:Cx} {tg:Expr} {PK:Pk} {a b:Expr} {i j:List Sl->Tr PyData} {p pos:Pos}
theorem Zjq {G:Hp} {v:V} {x:PyData} {xs:List PyData} (d:Dn G v x) (h:fI x=some xs):∃ b a vs,v=.ref a/\G a=some (fc b vs)/\DnAll G vs xs:=by
 cases d with
 | lst h1 h2=>cases h; exact ⟨true,_,_,rfl,h1,h2⟩
 | tup h1 h2=>cases h; exact ⟨false,_,_,rfl,h1,h2⟩
 | _=>cases h
end
section
variable {prog:Program} {w:World} {A:Around} {E:Value->Shared->Prop} {s:Shared}
end
section
variable {X:Cx} {tg:Expr} {PK:Pk} {a b:Expr} {i j:List Sl->Tr PyData} {p pos:Pos}
end
end L2
namespace L2
open PySem PySem.Spec PyProof.Rows
section
variable {prog:Program} {w:World} {A:Around}
theorem lB (hh:A.handled=none) (b:Bool) (I ax:Addr) (hne:ax≠I) (items:Array Value):Walks prog w A I [I,ax] [I] items.size (λi v=>items[i]?=some v) (λi h=>ZeJ b h I ax i/\SqAt b h ax items):=by
 cases b with
 | true=>exact Walks.list hh I ax hne items
 | false=>exact Walks.tuple hh I ax hne items
end
theorem ny {ns:List Int} {us:List Value} (r:Vals (ns.map V.int) us) {i:Nat} {v:Value} (h:us[i]?=some v):∃ t,v=.int ((ns[i]?).getD 0) t:=by
 have hi:i < us.length:=(List.getElem?_eq_some_iff.mp h).1
 have hl:us.length=ns.length:=by rw [<- r.length,List.length_map]
 obtain ⟨u,e1,e2⟩:=r.get (i:=i) (x:=V.int ns[i]) (by simp [show i < ns.length by omega])
 rw [h] at e1
 cases e1
 obtain ⟨t,e2⟩:=e2
 exact ⟨t,by simp [show i < ns.length by omega,e2]⟩
section
variable {X:Cx} {PK:Pk}
theorem ZgT (bs:List Bool):((List.range bs.length).all λi=>(bs[i]?).getD true)=bs.all id:=by
 rw [Bool.eq_iff_iff,List.all_eq_true,List.all_eq_true]
 constructor
 ·intro h x hx
  obtain ⟨i,hi,rfl⟩:=List.getElem_of_mem hx
  have:=h i (List.mem_range.mpr hi)
  simpa [hi] using this
 ·intro h i hi
  have hi':=List.mem_range.mp hi
  simpa [hi'] using h _ (List.getElem_mem hi')
theorem ZgS (bs:List Bool):((List.range bs.length).any λi=>(bs[i]?).getD true)=bs.any id:=by
 rw [Bool.eq_iff_iff,List.any_eq_true,List.any_eq_true]
 constructor
 ·rintro ⟨i,hi,h⟩
  have hi':=List.mem_range.mp hi
  exact ⟨_,List.getElem_mem hi',by simpa [hi'] using h⟩
 ·rintro ⟨x,hx,h⟩
  obtain ⟨i,hi,rfl⟩:=List.getElem_of_mem hx
  exact ⟨i,List.mem_range.mpr hi,by simpa [hi] using h⟩
theorem Zef {bs:List Bool} {us:List Value} (r:Vals (bs.map V.bl) us) {i:Nat} {v:Value} (h:us[i]?=some v):v=.bool ((bs[i]?).getD true):=by
 have hi:i < us.length:=(List.getElem?_eq_some_iff.mp h).1
 have hl:us.length=bs.length:=by rw [<- r.length,List.length_map]
 obtain ⟨u,e1,e2⟩:=r.get (i:=i) (x:=V.bl bs[i]) (by simp [show i < bs.length by omega])
 rw [h] at e1
 cases e1
 cases e2
 simp [show i < bs.length by omega]
theorem nS (hc:X.calm=true):CallR X (.builtin "all") (λxs H Q=>∃ (b:Bool) (l:Addr) (bs:List Bool),xs=[.ref l]/\H l=some (fc b (bs.map V.bl))/\Q (.bl (bs.all id)) H):=by
 intro pins s σ H xs us Q I r h
 obtain ⟨b,l,bs,rfl,e1,q⟩:=h
 obtain ⟨u,rfl,ru⟩:=dE r
 cases ru
 obtain ⟨vs,rv,sq⟩:=lH I.hok e1
 have hlt:l < s.heap.objs.size:=I.hok.lt e1
 refine call_all_walk (mC sq ?_)
 refine ⟨s.heap.objs.size,[s.heap.objs.size,l],[s.heap.objs.size],vs.toArray.size,_,_,λi=>(bs[i]?).getD true,rfl,lB (A:=X.A.in1) (I.ok.hd hc) b _ l (Nat.ne_of_lt hlt) vs.toArray,
  ⟨nv (Heap.get?_push_size _ (by cases b <;> rfl)),sq.push _⟩,λi v s' Q' E' hP hQ=>?_,λh' tk hk=>?_⟩
 ·have e:=Zef rv (i:=i) (v:=v) (by simpa using hP)
  subst e
  exact wpAny_truthy_bool hQ
 ·have e:vs.toArray.size=bs.length:=by rw [List.size_toArray,<- rv.length,List.length_map]
  rw [e,ZgT]
  refine ⟨.bl _,H,I.kept (t':=tk) λc o e=>hk c o (λz=>?_) (Heap.get?_push_of_some _ e),rfl,q⟩
  have:c=s.heap.objs.size:=by simpa using z
  subst this
  exact Nat.lt_irrefl _ (Heap.lt_size e)
theorem ZoV (hc:X.calm=true):CallR X (.builtin "any") (λxs H Q=>∃ (b:Bool) (l:Addr) (bs:List Bool),xs=[.ref l]/\H l=some (fc b (bs.map V.bl))/\Q (.bl (bs.any id)) H):=by
 intro pins s σ H xs us Q I r h
 obtain ⟨b,l,bs,rfl,e1,q⟩:=h
 obtain ⟨u,rfl,ru⟩:=dE r
 cases ru
 obtain ⟨vs,rv,sq⟩:=lH I.hok e1
 have hlt:l < s.heap.objs.size:=I.hok.lt e1
 refine call_any_walk (mC sq ?_)
 refine ⟨s.heap.objs.size,[s.heap.objs.size,l],[s.heap.objs.size],vs.toArray.size,_,_,λi=>(bs[i]?).getD true,rfl,lB (A:=X.A.in1) (I.ok.hd hc) b _ l (Nat.ne_of_lt hlt) vs.toArray,
  ⟨nv (Heap.get?_push_size _ (by cases b <;> rfl)),sq.push _⟩,λi v s' Q' E' hP hQ=>?_,λh' tk hk=>?_⟩
 ·have e:=Zef rv (i:=i) (v:=v) (by simpa using hP)
  subst e
  exact wpAny_truthy_bool hQ
 ·have e:vs.toArray.size=bs.length:=by rw [List.size_toArray,<- rv.length,List.length_map]
  rw [e,ZgS]
  refine ⟨.bl _,H,I.kept (t':=tk) λc o e=>hk c o (λz=>?_) (Heap.get?_push_of_some _ e),rfl,q⟩
  have:c=s.heap.objs.size:=by simpa using z
  subst this
  exact Nat.lt_irrefl _ (Heap.lt_size e)
noncomputable def ck:List Int->Int
 | []=>0
 | [n]=>n
 | n::m::r=>Zcm (ck (m::r)) n
noncomputable def da:List Int->Int
 | []=>0
 | [n]=>n
 | n::m::r=>Zck (da (m::r)) n
theorem mS:∀ {ns:List Int},ns≠[]->ck ns∈ns/\∀ m∈ns,m<=ck ns
 | [],h=>absurd rfl h
 | [n],_=>⟨by simp [ck],by simp [ck]⟩
 | n::m::r,_=>by
  obtain ⟨h1,h2⟩:=mS (ns:=m::r) (by simp)
  unfold ck Zcm
  split
  ·refine ⟨by simp,λk hk=>?_⟩
   rcases List.mem_cons.mp hk with rfl | hk
   ·exact Int.le_refl _
   ·have:=h2 k hk; omega
  ·refine ⟨List.mem_cons_of_mem _ h1,λk hk=>?_⟩
   rcases List.mem_cons.mp hk with rfl | hk
   ·omega
   ·exact h2 k hk
theorem mR:∀ {ns:List Int},ns≠[]->da ns∈ns/\∀ m∈ns,da ns<=m
 | [],h=>absurd rfl h
 | [n],_=>⟨by simp [da],by simp [da]⟩
 | n::m::r,_=>by
  obtain ⟨h1,h2⟩:=mR (ns:=m::r) (by simp)
  unfold da Zck
  split
  ·refine ⟨by simp,λk hk=>?_⟩
   rcases List.mem_cons.mp hk with rfl | hk
   ·exact Int.le_refl _
   ·have:=h2 k hk; omega
  ·refine ⟨List.mem_cons_of_mem _ h1,λk hk=>?_⟩
   rcases List.mem_cons.mp hk with rfl | hk
   ·omega
   ·exact h2 k hk
theorem Zen (f:Nat->Int):∀ k,argBest (λi j=>decide (f i > f j)) k<=k/\∀ j,j<=k->f j<=f (argBest (λi j=>decide (f i > f j)) k)
 | 0=>⟨Nat.le_refl _,λj hj=>by
  have:j=0:=by omega
  subst this
  exact Int.le_refl _⟩
 | k+1=>by
  obtain ⟨h1,h2⟩:=Zen f k
  unfold argBest
  by_cases hc:f (k+1) > f (argBest (λi j=>decide (f i > f j)) k)
  ·rw [if_pos (by simpa using hc)]
   refine ⟨Nat.le_refl _,λj hj=>?_⟩
   rcases Nat.lt_or_eq_of_le hj with h | h
   ·have:=h2 j (by omega); omega
   ·subst h; exact Int.le_refl _
  ·rw [if_neg (by simpa using hc)]
   refine ⟨by omega,λj hj=>?_⟩
   rcases Nat.lt_or_eq_of_le hj with h | h
   ·exact h2 j (by omega)
   ·subst h; omega
theorem Zem (f:Nat->Int):∀ k,argBest (λi j=>decide (f i < f j)) k<=k/\∀ j,j<=k->f (argBest (λi j=>decide (f i < f j)) k)<=f j
 | 0=>⟨Nat.le_refl _,λj hj=>by
  have:j=0:=by omega
  subst this
  exact Int.le_refl _⟩
 | k+1=>by
  obtain ⟨h1,h2⟩:=Zem f k
  unfold argBest
  by_cases hc:f (k+1) < f (argBest (λi j=>decide (f i < f j)) k)
  ·rw [if_pos (by simpa using hc)]
   refine ⟨Nat.le_refl _,λj hj=>?_⟩
   rcases Nat.lt_or_eq_of_le hj with h | h
   ·have:=h2 j (by omega); omega
   ·subst h; exact Int.le_refl _
  ·rw [if_neg (by simpa using hc)]
   refine ⟨by omega,λj hj=>?_⟩
   rcases Nat.lt_or_eq_of_le hj with h | h
   ·exact h2 j (by omega)
   ·subst h; omega
theorem rW (hc:X.calm=true):CallR X (.builtin "max") (λxs H Q=>∃ (b:Bool) (l:Addr) (ns:List Int),xs=[.ref l]/\H l=some (fc b (ns.map V.int))/\ns≠[]/\Q (.int (ck ns)) H):=by
 intro pins s σ H xs us Q I r h
 obtain ⟨b,l,ns,rfl,e1,hne,q⟩:=h
 obtain ⟨u,rfl,ru⟩:=dE r
 cases ru
 obtain ⟨vs,rv,sq⟩:=lH I.hok e1
 have hlt:l < s.heap.objs.size:=I.hok.lt e1
 have hsz:vs.toArray.size=ns.length:=by rw [List.size_toArray,<- rv.length,List.length_map]
 have hpos:0 < ns.length:=List.length_pos_iff.mpr hne
 refine call_max_walk (mC sq ?_)
 refine ⟨s.heap.objs.size,[s.heap.objs.size,l],[s.heap.objs.size],vs.toArray.size,_,_,λi j=>decide ((ns[i]?).getD 0 > (ns[j]?).getD 0),rfl,lB (A:=X.A.in1) (I.ok.hd hc) b _ l (Nat.ne_of_lt hlt) vs.toArray,
  ⟨nv (Heap.get?_push_size _ (by cases b <;> rfl)),sq.push _⟩,λc hc=>?_,by omega,CmpOf.ints_gt (λi=>(ns[i]?).getD 0) (λi v hv=>ny rv (by simpa using hv)),λv h' tk hv hk=>?_⟩
 ·rw [Heap.size_push]
  simp at hc
  rcases hc with rfl | rfl
  ·exact Nat.lt_succ_self _
  ·exact Nat.lt_succ_of_lt hlt
 ·obtain ⟨t,rfl⟩:=ny rv (by rw [<- List.getElem?_toArray]; exact hv)
  obtain ⟨b1,b2⟩:=Zen (λi=>(ns[i]?).getD 0) (vs.toArray.size - 1)
  obtain ⟨m1,m2⟩:=mS hne
  refine ⟨.int (ck ns),H,I.kept (t':=tk) λc o e=>hk c o (λz=>?_) (Heap.get?_push_of_some _ e),⟨t,?_⟩,q⟩
  ·have:c=s.heap.objs.size:=by simpa using z
   subst this
   exact Nat.lt_irrefl _ (Heap.lt_size e)
  ·congr 1
   obtain ⟨i,hi,ei⟩:=List.getElem_of_mem m1
   have h1:=b2 i (by omega)
   simp only [hi,List.getElem?_eq_getElem,Option.getD_some,ei] at h1
   have hb:argBest (λi j=>decide ((ns[i]?).getD 0 > (ns[j]?).getD 0)) (vs.toArray.size - 1) < ns.length:=by omega
   have h2:=m2 _ (List.getElem_mem hb)
   simp only [hb,List.getElem?_eq_getElem,Option.getD_some] at h1 ⊢
   omega
theorem Zd2 (hc:X.calm=true):CallR X (.builtin "min") (λxs H Q=>∃ (b:Bool) (l:Addr) (ns:List Int),xs=[.ref l]/\H l=some (fc b (ns.map V.int))/\ns≠[]/\Q (.int (da ns)) H):=by
 intro pins s σ H xs us Q I r h
 obtain ⟨b,l,ns,rfl,e1,hne,q⟩:=h
 obtain ⟨u,rfl,ru⟩:=dE r
 cases ru
 obtain ⟨vs,rv,sq⟩:=lH I.hok e1
 have hlt:l < s.heap.objs.size:=I.hok.lt e1
 have hsz:vs.toArray.size=ns.length:=by rw [List.size_toArray,<- rv.length,List.length_map]
 have hpos:0 < ns.length:=List.length_pos_iff.mpr hne
 refine call_min_walk (mC sq ?_)
 refine ⟨s.heap.objs.size,[s.heap.objs.size,l],[s.heap.objs.size],vs.toArray.size,_,_,λi j=>decide ((ns[i]?).getD 0 < (ns[j]?).getD 0),rfl,lB (A:=X.A.in1) (I.ok.hd hc) b _ l (Nat.ne_of_lt hlt) vs.toArray,
  ⟨nv (Heap.get?_push_size _ (by cases b <;> rfl)),sq.push _⟩,λc hc=>?_,by omega,CmpOf.ints_lt (λi=>(ns[i]?).getD 0) (λi v hv=>ny rv (by simpa using hv)),λv h' tk hv hk=>?_⟩
 ·rw [Heap.size_push]
  simp at hc
  rcases hc with rfl | rfl
  ·exact Nat.lt_succ_self _
  ·exact Nat.lt_succ_of_lt hlt
 ·obtain ⟨t,rfl⟩:=ny rv (by rw [<- List.getElem?_toArray]; exact hv)
  obtain ⟨b1,b2⟩:=Zem (λi=>(ns[i]?).getD 0) (vs.toArray.size - 1)
  obtain ⟨m1,m2⟩:=mR hne
  refine ⟨.int (da ns),H,I.kept (t':=tk) λc o e=>hk c o (λz=>?_) (Heap.get?_push_of_some _ e),⟨t,?_⟩,q⟩
  ·have:c=s.heap.objs.size:=by simpa using z
   subst this
   exact Nat.lt_irrefl _ (Heap.lt_size e)
  ·congr 1
   obtain ⟨i,hi,ei⟩:=List.getElem_of_mem m1
   have h1:=b2 i (by omega)
   simp only [hi,List.getElem?_eq_getElem,Option.getD_some,ei] at h1
   have hb:argBest (λi j=>decide ((ns[i]?).getD 0 < (ns[j]?).getD 0)) (vs.toArray.size - 1) < ns.length:=by omega
   have h2:=m2 _ (List.getElem_mem hb)
   simp only [hb,List.getElem?_eq_getElem,Option.getD_some] at h1 ⊢
   omega
noncomputable def bools?:List PyData->Option (List Bool)
 | []=>some []
 | .bool n::xs=>(bools? xs).bind λns=>some (n::ns)
 | _=>none
@[simp] theorem bools?_map:∀ ns:List Bool,bools? (ns.map PyData.bool)=some ns
 | []=>rfl
 | n::ns=>by rw [List.map_cons,bools?,bools?_map ns]; rfl
theorem DnAll.bools_inv {H:Hp} {vs:List V} {ds:List PyData} {ns:List Bool} (a:DnAll H vs ds) (h:bools? ds=some ns):vs=ns.map V.bl/\ds=ns.map PyData.bool:=by
 induction vs generalizing ds ns with
 | nil=>cases a; cases h; exact ⟨rfl,rfl⟩
 | cons v vs ih =>
  cases a with
  | cons g t =>
   cases g with
   | bl n =>
    unfold bools? at h
    rename_i ds
    cases e:bools? ds with
    | none=>rw [e] at h; cases h
    | some ms =>
     rw [e] at h
     cases h
     obtain ⟨h1,h2⟩:=ih t e
     exact ⟨by rw [h1]; rfl,by rw [h2]; rfl⟩
   | _=>unfold bools? at h; cases h
noncomputable def eX {α:Type} (p:List PyData->Option α) (f:α->Option PyData):List PyData->Option PyData
 | [x]=>(fI x).bind λxs=>(p xs).bind f
 | _=>none
noncomputable def gg:List PyData->Option PyData:=eX ints? λns=>if (!ns.isEmpty)=true then some (.int (ck ns)) else none
noncomputable def jr:List PyData->Option PyData:=eX ints? λns=>if (!ns.isEmpty)=true then some (.int (da ns)) else none
noncomputable def iK:List PyData->Option PyData:=eX bools? λns=>some (.bool (ns.all id))
noncomputable def nW:List PyData->Option PyData:=eX bools? λns=>some (.bool (ns.any id))
theorem mJ {α:Type} {p:List PyData->Option α} {f:α->Option PyData} {G:Hp} {vs:List V} {ds:List PyData} {d:PyData} (hv:DnAll G vs ds) (h:eX p f ds=some d):∃ b l us xs y,vs=[.ref l]/\G l=some (fc b us)/\DnAll G us xs/\p xs=some y/\f y=some d:=by
 unfold eX at h
 split at h
 ·rename_i x
  cases hx:fI x with
  | none=>rw [hx] at h; cases h
  | some xs =>
   rw [hx] at h
   have h':(p xs).bind f=some d:=h
   cases hp:p xs with
   | none=>rw [hp] at h'; cases h'
   | some y =>
    rw [hp] at h'
    cases hv with
    | cons h1 h2 =>
     cases h2
     obtain ⟨b,l,us,rfl,e1,e2⟩:=Zjq h1 hx
     exact ⟨b,l,us,xs,y,rfl,e1,e2,hp,h'⟩
 ·cases h
theorem pb:df (λxs H Q=>∃ (b:Bool) (l:Addr) (ns:List Int),xs=[.ref l]/\H l=some (fc b (ns.map V.int))/\ns≠[]/\Q (.int (ck ns)) H) gg:=λPK pa m G H vs ds d Q w hv hd k=>by
 obtain ⟨b,l,us,xs,ns,rfl,e1,e2,hp,hf⟩:=mJ hv hd
 obtain ⟨rfl,rfl⟩:=e2.ints_inv hp
 split at hf
 ·rename_i hc
  cases hf
  exact ⟨b,l,ns,rfl,w.sub _ _ e1,(λz=>by subst z; cases hc),k.here w (.int _)⟩
 ·cases hf
theorem Zam:df (λxs H Q=>∃ (b:Bool) (l:Addr) (ns:List Int),xs=[.ref l]/\H l=some (fc b (ns.map V.int))/\ns≠[]/\Q (.int (da ns)) H) jr:=λPK pa m G H vs ds d Q w hv hd k=>by
 obtain ⟨b,l,us,xs,ns,rfl,e1,e2,hp,hf⟩:=mJ hv hd
 obtain ⟨rfl,rfl⟩:=e2.ints_inv hp
 split at hf
 ·rename_i hc
  cases hf
  exact ⟨b,l,ns,rfl,w.sub _ _ e1,(λz=>by subst z; cases hc),k.here w (.int _)⟩
 ·cases hf
theorem lC:df (λxs H Q=>∃ (b:Bool) (l:Addr) (bs:List Bool),xs=[.ref l]/\H l=some (fc b (bs.map V.bl))/\Q (.bl (bs.all id)) H) iK:=λPK pa m G H vs ds d Q w hv hd k=>by
 obtain ⟨b,l,us,xs,ns,rfl,e1,e2,hp,hf⟩:=mJ hv hd
 obtain ⟨rfl,rfl⟩:=e2.bools_inv hp
 cases hf
 exact ⟨b,l,ns,rfl,w.sub _ _ e1,k.here w (.bl _)⟩
theorem Zfb:df (λxs H Q=>∃ (b:Bool) (l:Addr) (bs:List Bool),xs=[.ref l]/\H l=some (fc b (bs.map V.bl))/\Q (.bl (bs.any id)) H) nW:=λPK pa m G H vs ds d Q w hv hd k=>by
 obtain ⟨b,l,us,xs,ns,rfl,e1,e2,hp,hf⟩:=mJ hv hd
 obtain ⟨rfl,rfl⟩:=e2.bools_inv hp
 cases hf
 exact ⟨b,l,ns,rfl,w.sub _ _ e1,k.here w (.bl _)⟩
variable {a b c e:Expr} {pos:Pos} {i j l:List Sl->Tr PyData}
noncomputable def gY (f g:PyData->PyData->Option PyData) (i j l:List Sl->Tr PyData):List Sl->Tr PyData:=λρ=>(i ρ).bind λx=>(j ρ).bind λy=>(Tr.of (f x y)).bind λz=>(Tr.of (hI z)).bind λk =>
 if k=true then (l ρ).bind λu=>Tr.of (g y u) else .ret (.bool false)
theorem ZdW {r r':R2} {f g:PyData->PyData->Option PyData} (hv:b8 r f) (hv':b8 r' g):∀ σ H Q,TAe PK (gY f g i j l) σ H Q->px r r' (TAe PK i) (TAe PK j) (TAe PK l) σ H Q:=by
 rintro σ H Q ⟨pa,G₀,H₀,m,ρ,G,R,q⟩
 refine TAe.then R q λm1 x v G1 H1 s1 w1 R1 d1 q1=>?_
 refine TAe.then R1 q1 λm2 y u G2 H2 s2 w2 R2 d2 q2=>?_
 rw [Tr.ok_bind] at q2
 obtain ⟨z,hz,q3⟩:=Tr.ok_of q2
 rw [Tr.ok_bind] at q3
 obtain ⟨k,hk,q5⟩:=Tr.ok_of q3
 have s12:=s1.trans s2 w1.some
 refine hv PK pa m2 G2 H2 v u x y z _ w2 (d1.mono s2.gs) d2 hz λzz G3 H3 s3 w3 d3=>?_
 cases d3 <;> simp only [hI] at hk <;> cases hk
 refine ⟨_,rfl,?_⟩
 have s13:=s12.trans s3 w2.some
 cases k with
 | true =>
  rw [if_pos rfl] at q5 ⊢
  refine TAe.then (R2.step s3 w3) q5 λm4 t vt G4 H4 s4 w4 R4 d4 q4=>?_
  obtain ⟨zz,hzz,q4⟩:=Tr.ok_of q4
  exact hv' PK pa m4 G4 H4 u vt y t zz Q w4 (d2.mono (s3.gs.trans s4.gs)) d4 hzz (Kn.later q4 (s13.trans s4 w3.some) w4.some)
 | false =>
  rw [if_neg Bool.false_ne_true] at q5 ⊢
  exact (Kn.later q5 s13 w3.some).here w3 (.bl false)
theorem ZpC {op op':CmpOp} {r r':R2} {f g:PyData->PyData->Option PyData} (ho:OpR X (compareOp op) r) (hv:b8 r f) (ho':OpR X (compareOp op') r') (hv':b8 r' g) (ha:PE X a (TAe PK i)) (hb:PE X b (TAe PK j)) (hc:PE X c (TAe PK l))
  (hm:lastMarks [op,op'] [b,c]=false:=by with_unfolding_all rfl):PE X (.Compare a [op,op'] [b,c] pos) (TAe PK (gY f g i j l)):=(Zhz ho ho' ha hb hc hm).imp (ZdW hv hv')
theorem r8 {op op':CmpOp} {r r':R2} {f g:PyData->PyData->Option PyData} (ho:OpR X (compareOp op) r) (hv:b8 r f) (ho':OpR X (compareOp op') r') (hv':b8 r' g) (ha:PE X a (TAe PK i)) (hb:PE X b (TAe PK j)) (hc:PE X c (TAe PK l))
  (hm:lastMarks [op,op'] [b,c]=false:=by with_unfolding_all rfl):PT X (.Compare a [op,op'] [b,c] pos) (TAt PK (aP (gY f g i j l))) :=
 (Zg6 ho ho' ha hb hc hm).imp λσ H Q z=>Zav (ZdW hv hv') σ H Q (ZeA σ H Q z)
end
theorem Zia {PK:Pk} {is:List Sl->Tr (List PyData)}:∀ σ H Q,TAe PK (aY is) σ H Q->fP PK is σ H Q:=by
 intro σ H Q z
 obtain ⟨pa,G₀,H₀,m,ρ,G,R,z⟩:=z
 exact ⟨pa,G₀,H₀,m,ρ,G,R,Tr.ok_mono (Tr.ok_bind.mp z) λm1 xs k=>Ko1.of k R.wd.some⟩
theorem Zpo {PK:Pk} {X:Cx} {st:Stmt} {is:List Sl->Tr (List PyData)} {i:List Sl->Tr PyData} {n k:Nat} {ix:List Nat} {g:PyData->List Sl->Option (List Sl)} (h:PS X st (d7 (fV (eN PK is) n ix (λ_=>dY PK g) (λ_=>TAe PK i)) (fK k))) (hn:gv n g):PS X st (bz PK (bt k (aY (bX is n ix g i)))) :=
 bE (h.imp (ZaA λσ H Q z=>qP hn σ H Q (Zia σ H Q z)))
variable {ρ:List Sl} {s t:List Sl->Tr Ou} {i j l:List Sl->Tr PyData} {is:List Sl->Tr (List PyData)} {as:List Sl->Tr (List Sl)} {f:List Sl->Tr Re} {p q:List Sl->Tr Bool} {k n:Nat} {x y d:PyData} {xs ys:List PyData} {sl:Sl}
theorem ZkA:aa 0 (.d x::ρ)=.ret x:=rfl
theorem Zkz:aa (k+1) (sl::ρ)=aa k ρ:=rfl
theorem Znt:aC d ρ=.ret d:=rfl
noncomputable def av (g:PyData->PyData->Option PyData) (x y:PyData):Tr PyData:=Tr.of (g x y)
noncomputable def Zel (g:PyData->PyData->Option PyData) (j:List Sl->Tr PyData) (ρ:List Sl) (x:PyData):Tr PyData:=(j ρ).bind (av g x)
theorem Zm5 {g:PyData->PyData->Option PyData}:ah g i j ρ=(i ρ).bind (Zel g j ρ):=rfl
theorem Zm4 {g:PyData->PyData->Option PyData}:Zel g j ρ x=(j ρ).bind (av g x):=rfl
theorem Zni (m n:Int):av dm (.int m) (.int n)=.ret (.int (m+n)):=rfl
theorem Zdd (h1:xs.isEmpty=false) (h2:small (xs.length+ys.length)=true):av dm (.tuple xs) (.tuple ys)=.ret (.tuple (xs++ys)):=by
 simp [av,dm,h1,h2]
theorem Zde (h2:small (xs.length+ys.length)=true):av dm (.list xs) (.list ys)=.ret (.list (xs++ys)):=by
 simp [av,dm,h2]
theorem ZkN (m n:Int):av gz (.int m) (.int n)=.ret (.int (m - n)):=rfl
theorem ZlM {m n:Int} (h1:fit m=true) (h2:fit n=true):av jq (.int m) (.int n)=.ret (.int (m * n)):=by
 simp [av,jq,h1,h2]
theorem ZmS {g:Int->Int->Bool} (m n:Int):av (bO g) (.int m) (.int n)=.ret (.bool (g m n)):=rfl
theorem ZmK (m n:Int):av cM (.int m) (.int n)=.ret (.bool (m == n)):=rfl
theorem ZlL (m n:Int):av c8 (.int m) (.int n)=.ret (.bool (!(m == n))):=rfl
theorem ZmL (m n:Bool):av cM (.bool m) (.bool n)=.ret (.bool (m == n)):=rfl
theorem ZmJ (m n:Str):av cM (.str m) (.str n)=.ret (.bool (m == n)):=rfl
theorem ZlK (m n:Str):av c8 (.str m) (.str n)=.ret (.bool (!(m == n))):=rfl
theorem Zin (h1:SeqAt.shaped x=true) (h2:SeqAt.shaped y=true) (h3:∀ a b,¬ (x=.str a/\y=.str b)):av c8 x y=.ret (.bool (!PyData.eqv x y)):=by
 unfold av c8
 split
 ·exact absurd ⟨rfl,rfl⟩ (h3 _ _)
 ·rw [h1,h2]; rfl
theorem Zmj:av iA x .none=.ret (.bool (eE x)):=rfl
theorem Zl9 (n:Int):av eD (.list xs) (.int n)=Tr.of (bd xs n):=rfl
theorem Zl8 (n:Int):av eD (.tuple xs) (.int n)=Tr.of (bd xs n):=rfl
theorem si {α:Type} {xs:List α} {n:Int} {v:α} (h0:0<=n) (h:xs[n.toNat]?=some v):bd xs n=some v:=by
 have e:(n.toNat:Int)=n:=Int.toNat_of_nonneg h0
 rw [<- e]
 exact cX h
section
variable {α:Type} {a0 a1 a2 a3 a4 a5 a6 a7 a8:α} {r:List α}
theorem gR:bd (a0::r) 0=some a0:=cX (j:=0) rfl
theorem jN:bd (a0::a1::r) 1=some a1:=cX (j:=1) rfl
theorem Zpm:bd (a0::a1::a2::r) 2=some a2:=cX (j:=2) rfl
theorem Zpl:bd (a0::a1::a2::a3::r) 3=some a3:=cX (j:=3) rfl
theorem Zpk:bd (a0::a1::a2::a3::a4::r) 4=some a4:=cX (j:=4) rfl
theorem Zpj:bd (a0::a1::a2::a3::a4::a5::r) 5=some a5:=cX (j:=5) rfl
theorem Zpi:bd (a0::a1::a2::a3::a4::a5::a6::r) 6=some a6:=cX (j:=6) rfl
theorem Zph:bd (a0::a1::a2::a3::a4::a5::a6::a7::r) 7=some a7:=cX (j:=7) rfl
theorem Zpg:bd (a0::a1::a2::a3::a4::a5::a6::a7::a8::r) 8=some a8:=cX (j:=8) rfl
end
noncomputable def Zp8:PyData->Tr PyData
 | .int n=>.ret (.int (-n))
 | _=>.fail
noncomputable def pf (x:PyData):Tr Bool:=Tr.of (hI x)
theorem ZkM:aP i ρ=(i ρ).bind pf:=rfl
theorem ZkF (b:Bool):pf (.bool b)=.ret b:=rfl
noncomputable def ja (x:PyData):Tr Bool:=Tr.of (Zat x)
theorem ZkL:de i ρ=(i ρ).bind ja:=rfl
theorem ZkK (b:Bool):ja (.bool b)=.ret b:=rfl
theorem ZkJ (n:Int):ja (.int n)=.ret (n != 0):=rfl
theorem ZkI:ja (.list xs)=.ret (!xs.isEmpty):=rfl
theorem ZkG:ja (.tuple xs)=.ret (!xs.isEmpty):=rfl
theorem ZkH:ja .none=.ret false:=rfl
noncomputable def sr (q:List Sl->Tr Bool) (ρ:List Sl) (b:Bool):Tr Bool:=if b=true then q ρ else .ret false
noncomputable def ql (q:List Sl->Tr Bool) (ρ:List Sl) (b:Bool):Tr Bool:=if b=true then .ret true else q ρ
noncomputable def Zce (b:Bool):Tr Bool:=.ret (!b)
theorem Zng:sH p q ρ=(p ρ).bind (sr q ρ):=rfl
theorem ZlD:cq p q ρ=(p ρ).bind (ql q ρ):=rfl
theorem ZlI:cH p ρ=(p ρ).bind Zce:=rfl
theorem Zne:sr q ρ true=q ρ:=rfl
theorem Znf:sr q ρ false=.ret false:=rfl
theorem ZlB:ql q ρ true=.ret true:=rfl
theorem ZlC:ql q ρ false=q ρ:=rfl
theorem ZlH (b:Bool):Zce b=.ret (!b):=rfl
noncomputable def sm (j:List Sl->Tr PyData) (ρ:List Sl) (b:Bool):Tr PyData:=if b=true then j ρ else .ret (.bool false)
noncomputable def qk (j:List Sl->Tr PyData) (ρ:List Sl) (b:Bool):Tr PyData:=if b=true then .ret (.bool true) else j ρ
noncomputable def Zcd (b:Bool):Tr PyData:=.ret (.bool (!b))
theorem Znd:ox i j ρ=(aP i ρ).bind (sm j ρ):=rfl
theorem ZlA:sB i j ρ=(aP i ρ).bind (qk j ρ):=rfl
theorem ZlG:sC i ρ=(aP i ρ).bind Zcd:=rfl
theorem Znb:sm j ρ true=j ρ:=rfl
theorem Znc:sm j ρ false=.ret (.bool false):=rfl
theorem Zly:qk j ρ true=.ret (.bool true):=rfl
theorem Zlz:qk j ρ false=j ρ:=rfl
theorem ZlF (b:Bool):Zcd b=.ret (.bool (!b)):=rfl
noncomputable def rC (i j:List Sl->Tr PyData) (ρ:List Sl) (b:Bool):Tr PyData:=if b=true then i ρ else j ρ
theorem Zmt:sE p i j ρ=(p ρ).bind (rC i j ρ):=rfl
theorem Zmr:rC i j ρ true=i ρ:=rfl
theorem Zms:rC i j ρ false=j ρ:=rfl
noncomputable def nQ (g:PyData->PyData->Option PyData) (l:List Sl->Tr PyData) (ρ:List Sl) (y:PyData) (k:Bool):Tr PyData:=if k=true then (l ρ).bind (av g y) else .ret (.bool false)
noncomputable def rT (g:PyData->PyData->Option PyData) (l:List Sl->Tr PyData) (ρ:List Sl) (y z:PyData):Tr PyData:=(pf z).bind (nQ g l ρ y)
noncomputable def rU (f g:PyData->PyData->Option PyData) (l:List Sl->Tr PyData) (ρ:List Sl) (x y:PyData):Tr PyData:=(av f x y).bind (rT g l ρ y)
noncomputable def ch1 (f g:PyData->PyData->Option PyData) (j l:List Sl->Tr PyData) (ρ:List Sl) (x:PyData):Tr PyData:=(j ρ).bind (rU f g l ρ x)
theorem ZmT {f g:PyData->PyData->Option PyData}:gY f g i j l ρ=(i ρ).bind (ch1 f g j l ρ):=rfl
theorem ZmY {f g:PyData->PyData->Option PyData}:ch1 f g j l ρ x=(j ρ).bind (rU f g l ρ x):=rfl
theorem ZmX {f g:PyData->PyData->Option PyData}:rU f g l ρ x y=(av f x y).bind (rT g l ρ y):=rfl
theorem ZmW {g:PyData->PyData->Option PyData} (b:Bool):rT g l ρ y (.bool b)=nQ g l ρ y b:=rfl
theorem ZmU {g:PyData->PyData->Option PyData}:nQ g l ρ y true=(l ρ).bind (av g y):=rfl
theorem ZmV {g:PyData->PyData->Option PyData}:nQ g l ρ y false=.ret (.bool false):=rfl
noncomputable def rS (x:PyData) (xs:List PyData):Tr (List PyData):=.ret (x::xs)
noncomputable def ZdS (is:List Sl->Tr (List PyData)) (ρ:List Sl) (x:PyData):Tr (List PyData):=(is ρ).bind (rS x)
theorem ZlJ:aj ρ=.ret []:=rfl
theorem ZmR:ai i is ρ=(i ρ).bind (ZdS is ρ):=rfl
theorem ZmQ:ZdS is ρ x=(is ρ).bind (rS x):=rfl
theorem ZmP:rS x xs=.ret (x::xs):=rfl
noncomputable def pe (xs:List PyData):Tr PyData:=if small xs.length=true then .ret (.tuple xs) else .fail
theorem ZkE:gr is ρ=(is ρ).bind pe:=rfl
theorem ZkD (h:small xs.length=true):pe xs=.ret (.tuple xs):=by unfold pe; rw [if_pos h]
noncomputable def Zcq (xs:List PyData):Tr PyData:=.ret (.list xs)
theorem ZlR:aY is ρ=(is ρ).bind Zcq:=rfl
theorem ZlQ:Zcq xs=.ret (.list xs):=rfl
noncomputable def qJ (xs:List PyData):Tr (List PyData):=if small xs.length=true then .ret xs else .fail
theorem ZlU:bW is ρ=(is ρ).bind qJ:=rfl
theorem ZlT (h:small xs.length=true):qJ xs=.ret xs:=by unfold qJ; rw [if_pos h]
theorem bY {n:Nat} (h:n<=10000):small n=true:=decide_eq_true (Nat.le_trans h (by decide))
noncomputable def bw (g:List PyData->Option PyData) (xs:List PyData):Tr PyData:=Tr.of (g xs)
noncomputable def nR (g:List PyData->Option (List PyData)) (xs:List PyData):Tr (List PyData):=Tr.of (g xs)
theorem Zm2 {g:List PyData->Option PyData}:aR g is ρ=(is ρ).bind (bw g):=rfl
theorem ZmZ {g:List PyData->Option (List PyData)}:ot g is ρ=(is ρ).bind (nR g):=rfl
theorem ZlZ:bw gk [.list xs]=.ret (.int xs.length):=rfl
theorem ZlX:bw gk [.tuple xs]=.ret (.int xs.length):=rfl
theorem Znj (n:Int):bw oh [.int n]=.ret (.int (og n)):=rfl
theorem ZkC:bw c6 [.list xs]=.ret (.tuple xs):=rfl
theorem ZkB:bw c6 [.tuple xs]=.ret (.tuple xs):=rfl
theorem ZlP:nR jw [.list xs]=.ret xs:=rfl
theorem ZlO:nR jw [.tuple xs]=.ret xs:=rfl
theorem ZlN (ns:List Int) (h:ns.isEmpty=false):bw gg [.list (ns.map .int)]=.ret (.int (ck ns)):=by
 have h':ns≠[]:=λz=>by subst z; cases h
 unfold bw gg eX
 simp [h']
theorem le (ns:List Bool):bw iK [.list (ns.map .bool)]=.ret (.bool (ns.all id)):=by
 unfold bw iK eX
 simp
theorem Zdc (ns:List Bool):bw nW [.list (ns.map .bool)]=.ret (.bool (ns.any id)):=by
 unfold bw nW eX
 simp
noncomputable def ZcH (T:String) (x:PyData):Tr PyData:=.ret (.bool (gL T (fw x)))
theorem Zmi {T:String}:gt T i ρ=(i ρ).bind (ZcH T):=rfl
theorem Zmh {T:String}:ZcH T x=.ret (.bool (gL T (fw x))):=rfl
noncomputable def sl3 (x:PyData) (lo:Option Int) (hi:Option Int):Tr PyData:=Tr.of (ZaM x lo hi)
noncomputable def dO (q:dX) (ρ:List Sl) (x:PyData) (lo:Option Int):Tr PyData:=(q ρ).bind (sl3 x lo)
theorem Zlv:cG ρ=.ret none:=rfl
noncomputable def pa1:PyData->Tr (Option Int)
 | .int n=>.ret (some n)
 | _=>.fail
theorem Zlu:cz i ρ=(i ρ).bind pa1:=by
 unfold cz
 refine congrArg (Tr.bind (i ρ)) (funext λx=>?_)
 cases x <;> rfl
theorem Zlt (n:Int):pa1 (.int n)=.ret (some n):=rfl
theorem Zno:ay ρ=.ret []:=rfl
noncomputable def gU (x:Sl) (xs:List Sl):Tr (List Sl):=.ret (x::xs)
noncomputable def ol (as:List Sl->Tr (List Sl)) (ρ:List Sl) (x:PyData):Tr (List Sl):=(as ρ).bind (gU (.d x))
theorem Znq:aw i as ρ=(i ρ).bind (ol as ρ):=rfl
theorem Zns:ol as ρ x=(as ρ).bind (gU (.d x)):=rfl
theorem Znr {xs:List Sl}:gU sl xs=.ret (sl::xs):=rfl
noncomputable def jk:Nat->List Sl->Tr Unit
 | 0,.pen::_=>.ret ()
 | k+1,_::ρ=>jk k ρ
 | _,_=>.fail
theorem Zls:jk 0 (.pen::ρ)=.ret ():=rfl
theorem Zlr:jk (k+1) (sl::ρ)=jk k ρ:=rfl
noncomputable def aap (as:List Sl->Tr (List Sl)) (ρ:List Sl) (_:Unit):Tr (List Sl):=(as ρ).bind (gU .pen)
theorem Znn:bj k as ρ=(jk k ρ).bind (aap as ρ):=by
 have key:∀ (k:Nat) (σ:List Sl) (as:List Sl->Tr (List Sl)) (ρ:List Sl),(match σ[k]? with | some Sl.pen=>(as ρ).bind λxs=>Tr.ret (Sl.pen::xs) | _=>Tr.fail)=(jk k σ).bind (aap as ρ):=by
  intro k
  induction k with
  | zero =>
   intro σ as ρ
   cases σ with
   | nil=>rfl
   | cons s r=>cases s <;> rfl
  | succ k ih =>
   intro σ as ρ
   cases σ with
   | nil=>rfl
   | cons s r=>exact ih r as ρ
 exact key k ρ as ρ
theorem Znk (u:Unit):aap as ρ u=(as ρ).bind (gU .pen):=rfl
theorem Zm3:aF f as ρ=(as ρ).bind f:=rfl
noncomputable def re1 (r:Re):Tr PyData:=.ret r.val
theorem Zlq:aI f ρ=(f ρ).bind re1:=rfl
theorem Zlp (r:Re):re1 r=.ret r.val:=rfl
theorem Zdb {as:List Sl} (h:as.length=n):bI n k s as=(s (as++List.replicate k .un)).bind jD:=by
 unfold bI
 rw [if_pos (decide_eq_true h)]
theorem ZmI:jD (.next ρ)=.ret (.d .none):=rfl
theorem ZmH (r:Re):jD (.ret r)=.ret r:=rfl
noncomputable def ki (t:List Sl->Tr Ou):Ou->Tr Ou
 | .next ρ=>t ρ
 | o=>.ret o
theorem Zc9:au s t ρ=(s ρ).bind (ki t):=by
 unfold au
 refine congrArg (Tr.bind (s ρ)) (funext λo=>?_)
 cases o <;> rfl
theorem Zc8:ki t (.next ρ)=t ρ:=rfl
theorem Zk2 (r:Re):ki t (.ret r)=.ret (.ret r):=rfl
theorem Zk4:ki t (.brk ρ)=.ret (.brk ρ):=rfl
theorem Zk3:ki t (.cont ρ)=.ret (.cont ρ):=rfl
theorem ZkT:bi ρ=.ret (.next ρ):=rfl
noncomputable def rz (s t:List Sl->Tr Ou) (ρ:List Sl) (b:Bool):Tr Ou:=if b=true then s ρ else t ρ
theorem Zmm:bv p s t ρ=(p ρ).bind (rz s t ρ):=rfl
theorem Zmk:rz s t ρ true=s ρ:=rfl
theorem Zml:rz s t ρ false=t ρ:=rfl
noncomputable def Zba (x:PyData):Tr Ou:=.ret (.ret (.d x))
theorem Zlo:aV i ρ=(i ρ).bind Zba:=rfl
theorem Zln:Zba x=.ret (.ret (.d x)):=rfl
noncomputable def Za9 (r:Re):Tr Ou:=.ret (.ret r)
theorem Zlm:sA f ρ=(f ρ).bind Za9:=rfl
theorem Zll (r:Re):Za9 r=.ret (.ret r):=rfl
theorem Zlk:eM 0 (.d x::ρ)=.ret (.ret (.d x)):=rfl
theorem Zlj:eM 0 (.own xs::ρ)=.ret (.ret (.own xs)):=rfl
theorem Zli:eM (k+1) (sl::ρ)=eM k ρ:=rfl
noncomputable def ZaU (k:Nat) (ρ:List Sl) (x:PyData):Tr Ou:=.ret (.next (ρ.set k (.d x)))
theorem Zk1:bt k i ρ=(i ρ).bind (ZaU k ρ):=rfl
theorem Zk0:ZaU k ρ x=.ret (.next (ρ.set k (.d x))):=rfl
noncomputable def ZaT (k:Nat) (ρ:List Sl) (x:List PyData):Tr Ou:=.ret (.next (ρ.set k (.own x)))
theorem ZkZ:gW k is ρ=(is ρ).bind (ZaT k ρ):=rfl
theorem ZkY:ZaT k ρ xs=.ret (.next (ρ.set k (.own xs))):=rfl
theorem ZiJ {α:Type} {a b:α} {r:List α}:(a::r).set 0 b=b::r:=rfl
theorem ZiI {α:Type} {a b:α} {r:List α}:(a::r).set (k+1) b=a::r.set k b:=rfl
noncomputable def f9:Nat->List Sl->Tr (List PyData)
 | 0,.own xs::_=>.ret xs
 | k+1,_::ρ=>f9 k ρ
 | _,_=>.fail
theorem Zlx:f9 0 (.own xs::ρ)=.ret xs:=rfl
theorem Zlw:f9 (k+1) (sl::ρ)=f9 k ρ:=rfl
theorem mH {β:Type} {g:List PyData->Tr β}:∀ (k:Nat) (σ:List Sl),(match σ[k]? with | some (Sl.own xs)=>g xs | _=>Tr.fail)=(f9 k σ).bind g
 | 0,[]=>rfl
 | 0,s::r=>by cases s <;> rfl
 | k+1,[]=>rfl
 | k+1,s::r=>mH k r
noncomputable def nV (k:Nat) (ρ:List Sl) (xs:List PyData) (x:PyData):Tr Ou:=if small (xs.length+1)=true then .ret (.next (ρ.set k (.own (xs++[x])))) else .fail
noncomputable def Zer (k:Nat) (i:List Sl->Tr PyData) (ρ:List Sl) (xs:List PyData):Tr Ou:=(i ρ).bind (nV k ρ xs)
theorem Zna:gZ k i ρ=(f9 k ρ).bind (Zer k i ρ):=mH k ρ
theorem Zm9:Zer k i ρ xs=(i ρ).bind (nV k ρ xs):=rfl
theorem Zm8 (h:small (xs.length+1)=true):nV k ρ xs x=.ret (.next (ρ.set k (.own (xs++[x])))):=by unfold nV; rw [if_pos h]
noncomputable def Za8 (k:Nat) (ρ:List Sl) (xs:List PyData):Tr Ou:=.ret (.next (ρ.set k (.own xs.reverse)))
theorem Zlh:oo k ρ=(f9 k ρ).bind (Za8 k ρ):=mH k ρ
theorem Zlg:Za8 k ρ xs=.ret (.next (ρ.set k (.own xs.reverse))):=rfl
theorem Zmu:iO k s ρ=s (fz k ρ):=rfl
theorem ZjR:fz 0 (.own xs::ρ)=.d (.list xs)::ρ:=rfl
theorem ZjS:fz 0 (.d x::ρ)=.d x::ρ:=rfl
theorem ZjQ:fz 0 (.pen::ρ)=.pen::ρ:=rfl
theorem ZjP:fz 0 (.un::ρ)=.un::ρ:=rfl
theorem ZjT:fz (k+1) (sl::ρ)=sl::fz k ρ:=by
 unfold fz
 rw [List.getElem?_cons_succ]
 cases h:ρ[k]? with
 | none=>rfl
 | some s=>cases s <;> rfl
noncomputable def qp (ρ:List Sl):Tr Ou:=.ret (.next ρ)
noncomputable def Zep (g:PyData->List Sl->Option (List Sl)) (ρ:List Sl) (x:PyData):Tr Ou:=(Tr.of (g x ρ)).bind qp
theorem Zm7 {g:PyData->List Sl->Option (List Sl)}:ow g i ρ=(i ρ).bind (Zep g ρ):=rfl
theorem Zm6 {g:PyData->List Sl->Option (List Sl)}:Zep g ρ x=(Tr.of (g x ρ)).bind qp:=rfl
theorem ZlE:qp ρ=.ret (.next ρ):=rfl
theorem Zjy:am k x ρ=some (ρ.set k (.d x)):=rfl
theorem Zjw {gs:List PyData->List Sl->Option (List Sl)}:nD gs (.tuple xs) ρ=gs xs ρ:=rfl
theorem Zjz:k9 [] ρ=some ρ:=rfl
theorem ZjA {g:PyData->List Sl->Option (List Sl)} {gs:List PyData->List Sl->Option (List Sl)}:iE g gs (x::xs) ρ=(g x ρ).bind (gs xs):=rfl
theorem Zjx {α β:Type} {a:α} {g:α->Option β}:(some a).bind g=g a:=rfl
noncomputable def rf (x:PyData):Tr (List PyData):=Tr.of (fI x)
theorem Zmg:jS i ρ=(i ρ).bind rf:=rfl
theorem Zmf:rf (.list xs)=.ret xs:=rfl
theorem Zme:rf (.tuple xs)=.ret xs:=rfl
noncomputable def fZ (xs:List PyData):Tr (List PyData):=Tr.of (kG xs)
theorem Zlf:gX is ρ=(is ρ).bind fZ:=rfl
theorem rp {n:Int} (h1:-1000000000000<=n) (h2:n<=1000000000000):rq n=true:=decide_eq_true (by omega)
theorem jF {n:Int} (h:rq n=true):fZ [.int n]=.ret (cw 0 n):=by
 simp [fZ,kG,h]
noncomputable def ZcX (g:PyData->List Sl->Option (List Sl)) (s:List Sl->Tr Ou) (ρ:List Sl) (xs:List PyData):Tr Ou:=bS g s xs ρ
theorem ZmA {g:PyData->List Sl->Option (List Sl)}:fO is g s ρ=(is ρ).bind (ZcX g s ρ):=rfl
theorem Zmz {g:PyData->List Sl->Option (List Sl)}:ZcX g s ρ xs=bS g s xs ρ:=rfl
noncomputable def gP (g:PyData->List Sl->Option (List Sl)) (s:List Sl->Tr Ou) (xs:List PyData):Ou->Tr Ou
 | .next ρ=>bS g s xs ρ
 | .cont ρ=>bS g s xs ρ
 | .brk ρ=>.ret (.next ρ)
 | .ret r=>.ret (.ret r)
noncomputable def la (g:PyData->List Sl->Option (List Sl)) (s:List Sl->Tr Ou) (xs:List PyData) (ρ:List Sl):Tr Ou:=(s ρ).bind (gP g s xs)
theorem ZjY {g:PyData->List Sl->Option (List Sl)}:bS g s [] ρ=.ret (.next ρ):=rfl
theorem nF {g:PyData->List Sl->Option (List Sl)}:bS g s (x::xs) ρ=(Tr.of (g x ρ)).bind (la g s xs):=by
 rw [bS]
 refine congrArg (Tr.bind (Tr.of (g x ρ))) (funext λρ1=>?_)
 unfold la
 refine congrArg (Tr.bind (s ρ1)) (funext λo=>?_)
 cases o <;> rfl
theorem Zmy {g:PyData->List Sl->Option (List Sl)}:la g s xs ρ=(s ρ).bind (gP g s xs):=rfl
theorem nK {g:PyData->List Sl->Option (List Sl)}:gP g s xs (.next ρ)=bS g s xs ρ:=rfl
theorem Zmw {g:PyData->List Sl->Option (List Sl)}:gP g s xs (.cont ρ)=bS g s xs ρ:=rfl
theorem Zmx {g:PyData->List Sl->Option (List Sl)}:gP g s xs (.brk ρ)=.ret (.next ρ):=rfl
theorem Zmv {g:PyData->List Sl->Option (List Sl)} (r:Re):gP g s xs (.ret r)=.ret (.ret r):=rfl
noncomputable def bA (g:PyData->List Sl->Option (List Sl)) (el:List Sl->Tr PyData) (τ:List Sl) (x:PyData):Tr PyData:=(Tr.of (g x τ)).bind el
noncomputable def qQ (n:Nat) (ix:List Nat) (g:PyData->List Sl->Option (List Sl)) (el:List Sl->Tr PyData) (ρ:List Sl) (xs:List PyData):Tr (List PyData):=if small xs.length=true then bJ (bA g el (blk n ix ρ)) xs else .fail
theorem Zl7 {ix:List Nat} {g:PyData->List Sl->Option (List Sl)}:bX is n ix g i ρ=(is ρ).bind (qQ n ix g i ρ):=rfl
theorem Zl6 {ix:List Nat} {g:PyData->List Sl->Option (List Sl)} (h:small xs.length=true):qQ n ix g i ρ xs=bJ (bA g i (blk n ix ρ)) xs:=by unfold qQ; rw [if_pos h]
theorem Zl5 {τ:List Sl} {g:PyData->List Sl->Option (List Sl)}:bA g i τ x=(Tr.of (g x τ)).bind i:=rfl
theorem Zcp {h:PyData->Tr PyData} {n:Nat} {P:PyData->Prop}:∀ {xs:List PyData},(∀ x∈xs,(h x).all n P)->(bJ h xs).all (xs.length * n) λys=>ys.length=xs.length/\∀ y∈ys,P y
 | [],_=>⟨rfl,λy hy=>by cases hy⟩
 | x::xs,hx=>by
  have e:(x::xs).length * n=n+(xs.length * n+0):=by rw [List.length_cons,Nat.succ_mul]; omega
  rw [e,bJ]
  refine Tr.all_bind (hx x (by simp)) λy hy=>Tr.all_bind (Zcp λz hz=>hx z (List.mem_cons_of_mem _ hz)) λys hys=>?_
  exact ⟨by simp [hys.1],λz hz=>by
   rcases List.mem_cons.mp hz with rfl | hz
   ·exact hy
   ·exact hys.2 z hz⟩
theorem ZcW {g:PyData->List Sl->Option (List Sl)} {n:Nat} (I:List PyData->List Sl->Prop) {Q:Ou->Prop} :
  ∀ {xs pre:List PyData} {ρ:List Sl},I pre ρ->(∀ pre x post ρ,pre++x::post=pre++x::post->I pre ρ->x∈xs->∃ ρ1,g x ρ=some ρ1/\(s ρ1).all n λo=>∃ ρ2,o=.next ρ2/\I (pre++[x]) ρ2)->(∀ ρ,I (pre++xs) ρ->Q (.next ρ))->(bS g s xs ρ).all (xs.length * n) Q
 | [],pre,ρ,h0,_,hq=>hq ρ (by rw [List.append_nil]; exact h0)
 | x::xs,pre,ρ,h0,ht,hq=>by
  obtain ⟨ρ1,e,ha⟩:=ht pre x xs ρ rfl h0 (by simp)
  have en:(x::xs).length * n=n+xs.length * n:=by rw [List.length_cons,Nat.succ_mul]; omega
  rw [en,nF,e,Tr.of_some,Tr.ret_bind]
  unfold la
  refine Tr.all_bind ha λo ⟨ρ2,eo,h2⟩=>?_
  subst eo
  rw [nK]
  exact ZcW I h2 (λpre y post ρ e h hy=>ht pre y post ρ e h (List.mem_cons_of_mem _ hy)) (λρ h=>hq ρ (by rw [List.append_assoc] at h; exact h))
theorem ZnU {α:Type} {w:Int} {k:Int->Tr α} {n:Nat} {P:α->Prop} (h1:0 < w) (h2:w < 1073741824) (h:∀ r,0<=r->r < w->(k r).all n P):(Tr.draw w k).all (n+1) P:=⟨h1,h2,h⟩
noncomputable def qC (y:PyData) (ys:List PyData):Tr (List PyData):=.ret (y::ys)
noncomputable def mt1 (h:PyData->Tr PyData) (xs:List PyData) (y:PyData):Tr (List PyData):=(bJ h xs).bind (qC y)
theorem ZiA {h:PyData->Tr PyData}:bJ h []=.ret []:=rfl
theorem ZiB {h:PyData->Tr PyData} {x:PyData} {xs:List PyData}:bJ h (x::xs)=(h x).bind (mt1 h xs):=rfl
theorem ZiD {h:PyData->Tr PyData} {y:PyData} {xs:List PyData}:mt1 h xs y=(bJ h xs).bind (qC y):=rfl
theorem ZiC {y:PyData} {ys:List PyData}:qC y ys=.ret (y::ys):=rfl
theorem pick {α:Type} {xs:List α} {r:Int} (h0:0<=r) (h1:r < xs.length):∃ v,bd xs r=some v/\v∈xs:=by
 have h:r.toNat < xs.length:=by omega
 exact ⟨xs[r.toNat],si h0 (by simp [h]),List.getElem_mem h⟩
end L2
namespace L2
open PySem
@[irreducible] noncomputable def Al {α:Type} (t:Tr α) (n:Nat) (P:α->Prop):Prop:=t.all n P
section
variable {α β:Type} {t:Tr α} {n n' N:Nat} {P:α->Prop} {P':β->Prop}
theorem Al.of (h:t.all n P):Al t n P:=by unfold Al; exact h
theorem Al.out (h:Al t n P):t.all n P:=by unfold Al at h; exact h
theorem cy {a:α} (h:P a):Al (.ret a) n P:=.of h
theorem bU {w:Int} {k:Int->Tr α} (h1:0 < w) (h2:w < 1073741824) (hN:n+1<=N) (h:∀ r,0<=r->r < w->Al (k r) n P):Al (.draw w k) N P:=.of (Tr.all_mono (ZnU h1 h2 λr a b=>(h r a b).out) hN λ_ h=>h)
theorem cP {f:α->Tr β} (h:Al t n P) (hN:n+n'<=N) (hf:∀ a,P a->Al (f a) n' P'):Al (t.bind f) N P':=.of (Tr.all_mono (Tr.all_bind h.out λa ha=>(hf a ha).out) hN λ_ h=>h)
theorem nY {Q:α->Prop} (h:Al t n P) (hN:n<=N) (hq:∀ a,P a->Q a):Al t N Q:=.of (Tr.all_mono h.out hN hq)
theorem n5 {g:PyData->List Sl->Option (List Sl)} {s:List Sl->Tr Ou} {xs:List PyData} {ρ:List Sl} {Q:Ou->Prop} (I:List Sl->Prop) (h0:I ρ) (hN:xs.length * n<=N) (ht:∀ x ρ,x∈xs->I ρ->∃ ρ1,g x ρ=some ρ1/\Al (s ρ1) n λo=>∃ ρ2,o=.next ρ2/\I ρ2) (hq:∀ ρ,I ρ->Q (.next ρ)):Al (bS g s xs ρ) N Q :=
 .of (Tr.all_mono (ZcW (λ_ ρ=>I ρ) (pre:=[]) h0 (λpre x post ρ _ h hx=>let ⟨ρ1,e,a⟩:=ht x ρ hx h; ⟨ρ1,e,a.out⟩) λρ h=>hq ρ h) hN λ_ h=>h)
theorem nZ {h:PyData->Tr PyData} {P:PyData->Prop} {xs:List PyData} {Q:List PyData->Prop} (hN:xs.length * n<=N) (hx:∀ x∈xs,Al (h x) n P) (hq:∀ ys,ys.length=xs.length->(∀ y∈ys,P y)->Q ys):Al (bJ h xs) N Q :=
 .of (Tr.all_mono (Zcp λx m=>(hx x m).out) hN λys ⟨a,b⟩=>hq ys a b)
end
noncomputable def gM (lo hi:Int) (x:PyData):Prop:=∃ z:Int,x=.int z/\lo<=z/\z<=hi
theorem rj {lo hi:Int}:∀ {xs:List PyData},(∀ x∈xs,gM lo hi x)->∃ ns:List Int,xs=ns.map PyData.int/\∀ n∈ns,lo<=n/\n<=hi
 | [],_=>⟨[],rfl,λn hn=>by cases hn⟩
 | x::xs,h=>by
  obtain ⟨ns,e,hn⟩:=rj (xs:=xs) λy hy=>h y (List.mem_cons_of_mem _ hy)
  obtain ⟨z,rfl,h1,h2⟩:=h x (by simp)
  exact ⟨z::ns,by rw [e]; rfl,λn hn'=>by
   rcases List.mem_cons.mp hn' with rfl | hn'
   ·exact ⟨h1,h2⟩
   ·exact hn n hn'⟩
theorem cS {lo hi:Int}:(cw lo hi).length=(hi - lo).toNat:=by unfold cw; rw [List.length_map,pN]
theorem qe {xs:List PyData} {lo hi r:Int} (h:∀ x∈xs,gM lo hi x) (h0:0<=r) (h1:r < xs.length):∃ z:Int,bd xs r=some (.int z)/\lo<=z/\z<=hi:=by
 obtain ⟨v,e,m⟩:=pick h0 h1
 obtain ⟨z,rfl,a,b⟩:=h v m
 exact ⟨z,e,a,b⟩
end L2
namespace L2
open PySem PySem.Spec PyProof.Rows
variable {PK:Pk} {X:Cx} {a b c e:Expr} {es:List Expr} {pos:Pos} {i j l:List Sl->Tr PyData} {is:List Sl->Tr (List PyData)} {p q:List Sl->Tr Bool} {st:Stmt}
noncomputable def rG:PyData->Bool
 | .none=>true
 | .bool _=>true
 | .int _=>true
 | .str _=>true
 | _=>false
variable {PK:Pk} {X:Cx} {a b c e:Expr} {es:List Expr} {pos:Pos} {i j l:List Sl->Tr PyData} {as:List Sl->Tr (List Sl)}
structure PkLow (PK:Pk):Prop where
 low:∀ {o o':HO} {G G':Hp} {m m':Nat},PK.is o G m->Sub G G'->PK.is o' G' m'->PK.is o' G m'
inductive ArB (pa:Addr) (G H:Hp):V->Sl->Prop
 | ok {v:V} {s:Sl}:ArOk pa G v s->ArB pa G H v s
 | own {p:Addr} {vs:List V} {xs:List PyData}:H p=some (.lst vs)->G p=none->pa≠p->DnAll G vs xs->ArB pa G H (.ref p) (.d (.list xs))
inductive ArsB (pa:Addr) (G H:Hp):List V->List Sl->Prop
 | nil:ArsB pa G H [] []
 | cons {v:V} {vs:List V} {s:Sl} {ss:List Sl}:ArB pa G H v s->ArsB pa G H vs ss->ArsB pa G H (v::vs) (s::ss)
theorem ArB.step {pa:Addr} {G H G' H':Hp} {v:V} {s:Sl} (h:ArB pa G H v s) (st:Stp pa G H G' H'):ArB pa G' H' v s:=by
 cases h with
 | ok h=>exact .ok (h.mono st.gs)
 | @own p vs xs h1 h2 h3 h4 =>
  refine .own (st.hk _ _ h1 (Ne.symm h3)) ?_ h3 (DnAll.mono st.gs h4)
  cases e:G' p with
  | none=>rfl
  | some u =>
   rcases st.gn p u e with z | z
   ·rw [h2] at z; cases z
   ·rw [h1] at z; cases z
theorem ArsB.ok {pa:Addr} {m:Nat} {G H:Hp}:∀ {vs:List V} {ss:List Sl} {G1:Hp},Sub G G1->Wd PK pa m G1 H->ArsB pa G H vs ss->∃ G2,Sub G1 G2/\Wd PK pa m G2 H/\ArsOk pa G2 vs ss
 | _,_,G1,_,w,.nil=>⟨G1,λ_ _ h=>h,w,.nil⟩
 | _,_,G1,sb,w,.cons h t=>by
  obtain ⟨G2,s2,w2,t2⟩:=ArsB.ok sb w t
  cases h with
  | ok h=>exact ⟨G2,s2,w2,.cons (h.mono (sb.trans s2)) t2⟩
  | @own p vs xs h1 h2 h3 h4 =>
   cases e:G2 p with
   | none =>
    have s3:Sub G2 (upd G2 p (.lst vs)):=Sub.new e
    exact ⟨upd G2 p (.lst vs),s2.trans s3,w2.freeze h1 e h3,.cons (.d (.lst bP (DnAll.mono ((sb.trans s2).trans s3) h4))) (ArsOk.mono s3 t2)⟩
   | some u =>
    have:=w2.sub p u e
    rw [h1] at this
    cases this
    exact ⟨G2,s2,w2,.cons (.d (.lst e (DnAll.mono (sb.trans s2) h4))) t2⟩
noncomputable def TAb (PK:Pk) (i:List Sl->Tr (List Sl)):TA:=λσ H Q=>∃ pa G₀ H₀ m ρ G,Rl PK pa G₀ H₀ m σ ρ G H/\(i ρ).ok m λm' as=>∀ vs G' H',Stp pa G H G' H'->Wd PK pa m' G' H'->ArsB pa G' H' vs as->Q vs H'
theorem TAb.then {σ:St} {H:Hp} {β:Type} {k:List Sl->Tr β} {Z:Nat->β->Prop} {Q:List V->Hp->Prop} {pa:Addr} {G₀ H₀ G:Hp} {m:Nat} {ρ:List Sl} (R:Rl PK pa G₀ H₀ m σ ρ G H) (h:((as ρ).bind k).ok m Z)
  (hq:∀ m1 xs vs G1 H1,Stp pa G H G1 H1->Wd PK pa m1 G1 H1->Rl PK pa G₀ H₀ m1 σ ρ G1 H1->ArsB pa G1 H1 vs xs->(k xs).ok m1 Z->Q vs H1):TAb PK as σ H Q:=by
 refine ⟨pa,G₀,H₀,m,ρ,G,R,Tr.ok_mono (Tr.ok_bind.mp h) λm1 x hx v G1 H1 s1 w1 d1=>?_⟩
 exact hq m1 x v G1 H1 s1 w1 (R.step s1 w1) d1 hx
theorem ZpH:PA X [] (TAb PK ay):=bC.imp λσ H Q hz0=>by
 obtain ⟨pa,G₀,H₀,m,ρ,G,R,z⟩:=hz0
 exact z [] G H .refl R.wd .nil
noncomputable def oj (k:Nat) (as:List Sl->Tr (List Sl)):List Sl->Tr (List Sl):=λρ=>match ρ[k]? with
 | some (.own xs)=>(as ρ).bind λys=>.ret (.d (.list xs)::ys)
 | some (.d x)=>(as ρ).bind λys=>.ret (.d x::ys)
 | _=>.fail
theorem ZpI {k:Nat} (ha:PE X e (fy k)) (hr:PA X es (TAb PK as)) (hs:starEach (e::es) X.env=(false,eval e X.env)::starEach es X.env:=by rfl):PA X (e::es) (TAb PK (oj k as)):=(aQ ha hr hs).imp λσ H Q hz0=>by
 obtain ⟨pa,G₀,H₀,m,ρ,G,R,z⟩:=hz0
 unfold oj at z
 split at z
 ·rename_i xs hk
  obtain ⟨o,h1,h2⟩:=R.sl k _ hk
  cases h2 with
  | @own p vs _ a1 a2 a3 a4 =>
   have hne:pa≠p:=λe=>by
    obtain ⟨u,hu⟩:=R.p0
    rw [e,a3] at hu; cases hu
   refine ⟨_,h1,?_⟩
   refine TAb.then R z λm2 ys ws G2 H2 s2 w2 R2 d2 q2=>?_
   exact q2 _ _ _ s2 w2 (.cons ((ArB.own a1 a2 hne a4).step s2) d2)
 ·rename_i x hk
  obtain ⟨o,h1,h2⟩:=R.sl k _ hk
  cases h2 with
  | d d1 =>
   refine ⟨_,h1,?_⟩
   refine TAb.then R z λm2 ys ws G2 H2 s2 w2 R2 d2 q2=>?_
   exact q2 _ _ _ s2 w2 (.cons (.ok (.d (d1.mono s2.gs))) d2)
 ·exact z.elim
theorem Dn.flat_any {G G':Hp} {v:V} {x:PyData} (h:Dn G v x) (f:rG x=true):Dn G' v x:=by
 cases h with
 | non=>exact .non
 | bl b=>exact .bl b
 | int i=>exact .int i
 | str s=>exact .str s
 | _=>cases f
variable {ρ:List Sl} {k:Nat} {xs:List PyData} {x:PyData} {sl:Sl} {f:List Sl->Tr Re}
noncomputable def iq:Nat->List Sl->Tr PyData
 | 0,.own xs::_=>.ret (.list xs)
 | 0,.d x::_=>.ret x
 | k+1,_::ρ=>iq k ρ
 | _,_=>.fail
theorem Zl0:iq 0 (.own xs::ρ)=.ret (.list xs):=rfl
theorem Zl1:iq 0 (.d x::ρ)=.ret x:=rfl
theorem ZlY:iq (k+1) (sl::ρ)=iq k ρ:=rfl
theorem ZlW:oj k as ρ=(iq k ρ).bind (ol as ρ):=by
 have key:∀ (k:Nat) (σ:List Sl) (as:List Sl->Tr (List Sl)) (ρ:List Sl),(match σ[k]? with | some (.own xs)=>(as ρ).bind λys=>Tr.ret (Sl.d (.list xs)::ys) | some (.d x)=>(as ρ).bind λys=>Tr.ret (Sl.d x::ys) | _=>Tr.fail)=(iq k σ).bind (ol as ρ):=by
  intro k
  induction k with
  | zero =>
   intro σ as ρ
   cases σ with
   | nil=>rfl
   | cons s r=>cases s <;> rfl
  | succ k ih =>
   intro σ as ρ
   cases σ with
   | nil=>rfl
   | cons s r=>exact ih r as ρ
 exact key k ρ as ρ
theorem ZoJ {prog:Program} {w:World} {A:Around} {R:Result->Shared->Prop} {s:Shared} {elt target iter cnd:Expr} {scope:Scope} {pos:Pos} {it acc:Value} {env:Env} (J:Nat->Shared->Prop)
  (step:∀ k s0,J k s0->wpAny (model prog w) A (pyNext it) (λgot s1=>match got with
   | none=>R (.ok .next) s1
   | some v=>wpAny (model prog w) A (letOwnedTupleGo target it v) (λ_ s2=>wpAny (model prog w) A (assign target env v) (λ_ s3=>wpAny (model prog w) A (isTrue cnd env (eval cnd env)) (λok s3'=>if ok=true then wpAny (model prog w) A (eval elt env) (λy s4 =>
     wpAny (model prog w) A (call (.builtin "list.append") [acc,y]) (λ_ s5=>∃ j,j < k/\J j s5) (λ_ _=>False) s4) (λ_ _=>False) s3' else ∃ j,j < k/\J j s3') (λ_ _=>False) s3) (λ_ _=>False) s2) (λ_ _=>False) s1) (λ_ _=>False) s0)
  (k:Nat) (h:J k s):codeAny (model prog w) A (.compLoop (.ListComp elt [⟨target,iter,[cnd],0⟩] scope pos) 0 it acc env) R s:=by
 refine codeAny_loop rfl J (λk0 s0 hJ=>?_) k h
 show wpAny _ _ ((compTurn (.ListComp elt [⟨target,iter,[cnd],0⟩] scope pos) 0 it acc env).onRaise (λx=>do noteFrame x env; theTreesLotGoes x)) _ _ s0
 apply wpAny_noted
 rw [compTurn_list]
 refine wpAny_bind (wpAny_standAt (wpAny_bind (wpAny_mono (step k0 s0 hJ) (λgot s1 h1=>?_) λ_ _ z=>z.elim)))
 cases got with
 | none=>exact wpAny_pure h1
 | some v =>
  refine wpAny_bind (wpAny_mono h1 (λ_ s2 h2=>?_) λ_ _ z=>z.elim)
  refine wpAny_bind (wpAny_mono h2 (λ_ s3 h3=>?_) λ_ _ z=>z.elim)
  refine wpAny_bind (wpAny_mono (wpAny_tests_one h3) (λok s3' h3'=>?_) λ_ _ z=>z.elim)
  cases ok with
  | false=>exact wpAny_pure ⟨rfl,h3'⟩
  | true =>
   refine wpAny_bind (wpAny_bind (wpAny_mono h3' (λy s4 h4=>?_) λ_ _ z=>z.elim))
   exact wpAny_bind (wpAny_mono h4 (λ_ s5 h5=>wpAny_pure (wpAny_pure ⟨rfl,h5⟩)) λ_ _ z=>z.elim)
noncomputable def pq (wi:TI) (n:Nat) (ix:List Nat) (g:Blk->TG) (tc:Blk->TT) (te:Blk->TE):TE:=λσ H Q=>wi σ H λJ H1=>∀ b:Blk,∃ W:Nat->Nat->St->List V->Hp->Prop,(∃ m,W 0 m (cN n ix σ) [] H1)/\∀ i m τ ys H2,W i m τ ys H2 ->
 (J.stop i H2/\∀ p v H',H2 p=none->v=V.ref p->H'=upd H2 p (.lst ys)->Q v H') \/
 (J.go i H2/\ys.length < sizeLine/\∀ x H3,J.yld i H2 x H3->g b x τ H3 λτ2 H4=>tc b τ2 H4 λok H4'=>if ok=true then te b τ2 H4' λy H5=>∃ m',m' < m/\W (i+1) m' τ2 (ys++[y]) H5 else ∃ m',m' < m/\W (i+1) m' τ2 ys H4')
section
variable {X:Cx} {pins:List (Addr×Obj)} {σ:St} {H:Hp} {s:Shared}
theorem ZiS {elt target iter cnd:Expr} {scope:Scope} {pos:Pos} {Nx ts:List Str} {ix:List Nat} {g:Blk->TG} {tc:Blk->TT} {te:Blk->TE} {cl:List (Str×Addr)} {s2:Shared} {itv:Value} {R:Value->Addr->Result->Shared->Prop}
  {E:Value->Shared->Prop} {Q:VK}
  (hc:X.calm=true) (hg:∀ b,PG (aZ X (bN Nx ts ix) scope b) target (g b)) (hcn:∀ b,PT (aZ X (bN Nx ts ix) scope b) cnd (tc b)) (he:∀ b,PE (aZ X (bN Nx ts ix) scope b) elt (te b))
  (hNx:X.N=Nx) (ok:BlkOk Nx X.env.scope scope ix) (cl1:∀ x c,cl.lookup x=some c->X.env.cells.lookup x=some c) (cl2:∀ y∈scope.names,y.2=.free->∃ c,cl.lookup y.1=some c)
  (h2:jW X pins σ target (λJ H1=>∀ b:Blk,∃ W:Nat->Nat->St->List V->Hp->Prop,(∃ m,W 0 m (cN ts.length ix σ) [] H1)/\∀ i m τ ys H2,W i m τ ys H2 ->
   (J.stop i H2/\∀ p v H',H2 p=none->v=V.ref p->H'=upd H2 p (.lst ys)->Q v H') \/
   (J.go i H2/\ys.length < sizeLine/\∀ x H3,J.yld i H2 x H3->g b x τ H3 λτ2 H4=>tc b τ2 H4 λok H4'=>if ok=true then te b τ2 H4' λy H5=>∃ m',m' < m/\W (i+1) m' τ2 (ys++[y]) H5 else ∃ m',m' < m/\W (i+1) m' τ2 ys H4')) itv s2)
  (hR:∀ (D C:Addr) (H':Hp) (s':Shared) (v:V),Inv X pins σ H' s'->v=.ref D->Q v H'->(∃ m,s'.heap.Ns C m)->H' C=none->C≠X.env.locals->X.s₀.heap.objs.size<=C->(∀ x c,X.env.cells.lookup x=some c->c≠C)->(∀ p∈X.pn++pins,p.1≠C) ->
   R (.ref D) C (.ok .next) s') :
  wpAny (model X.prog X.w) X.A (newList []) (λacc s₃=>wpAny (model X.prog X.w) X.A (newFunctionEnv scope X.env.globals cl [] X.env.qual none .none (some X.env)) (λcenv s₄ =>
   codeAny (model X.prog X.w) X.A (.compStart (.ListComp elt [⟨target,iter,[cnd],0⟩] scope pos) 0 itv acc { cenv with scope:=relabel scope X.env }) (R acc cenv.locals) s₄) E s₃) E s2:=by
 obtain ⟨it,fp,tn,J,H1,e,I2,T,st2,f2,q2⟩:=h2
 subst e
 refine wpAny_newObj_type (o5 ?_)
 dsimp only
 generalize hG:s2.heap.push { cls:=.type "list",dict:=none,data:=.seq ([]:List Value).toArray }=G
 have hGs:G.objs.size=s2.heap.objs.size+1:=by rw [<- hG,Heap.size_push]
 have hfs:∀ b∈fp,b < s2.heap.objs.size:=λb hb=>let ⟨o,e,_⟩:=T.obj _ _ st2 b hb; Heap.lt_size e
 have kpG:∀ b o,G.get? b=some o->(pushCells (G.push { cls:=.type "dict",data:=.dict #[] }) scope.names).get? b=some o:=λb o e=>pushCells_keeps _ _ _ _ (Heap.get?_push_of_some _ e)
 have hns3:(pushCells (G.push { cls:=.type "dict",data:=.dict #[] }) scope.names).Ns G.objs.size (λ_=>none):=(Heap.Ns.new G (.type "dict")).keeps (pushCells_keeps _ _)
 obtain ⟨sp1,sp2,sp4,sp3⟩:=rV scope.names (G.push { cls:=.type "dict",data:=.dict #[] }) cl
 rw [Heap.size_push] at sp1 sp2 sp3 sp4
 generalize hh3:pushCells (G.push { cls:=.type "dict",data:=.dict #[] }) scope.names=h3 at kpG hns3 sp1 ⊢
 have kp:∀ b o,s2.heap.get? b=some o->h3.get? b=some o:=λb o e=>kpG b o (by rw [<- hG]; exact Heap.get?_push_of_some _ e)
 have hD3:h3.get? s2.heap.objs.size=some { cls:=.type "list",data:=.seq ([]:List Value).toArray }:=kpG _ _ (by rw [<- hG]; exact Heap.get?_push_size _ rfl)
 have clB:∀ x c,cl.lookup x=some c->c < G.objs.size+1:=λx c e=>by
  obtain ⟨v,q⟩:=I2.cell x c (cl1 x c e)
  exact Nat.lt_succ_of_lt (Nat.lt_of_lt_of_le q.lt (by rw [hGs]; exact Nat.le_succ _))
 have csI:=sp3 clB λx y c e1 e2=>I2.ok.inj x y c (cl1 x c e1) (cl1 y c e2)
 have cs1:∀ x c,(cellsFrom (G.objs.size+1) scope.names cl).lookup x=some c->X.env.cells.lookup x=some c\/(G.objs.size < c/\h3.IsCell c none/\(x,NameKind.cell)∈scope.names):=λx c e=>by
  rcases sp1 x c e with z | ⟨z1,z2,z3⟩
  ·exact .inl (cl1 x c z)
  ·exact .inr ⟨by omega,z2,z3⟩
 have cs2:∀ y∈scope.names,(y.2=.free\/y.2=.cell)->∃ c,(cellsFrom (G.objs.size+1) scope.names cl).lookup y.1=some c:=λy hy hk=>by
  refine sp2 y.1 ?_
  rcases hk with z | z
  ·exact .inr (cl2 y hy z)
  ·exact .inl (by rw [<- z]; exact hy)
 have csA:∀ x c,(x,NameKind.cell)∈scope.names->(cellsFrom (G.objs.size+1) scope.names cl).lookup x=some c->G.objs.size<=c:=λx c e1 e2=>Nat.le_of_succ_le (sp4 x c e1 e2)
 generalize hcs:cellsFrom (G.objs.size+1) scope.names cl=cs at csI cs1 cs2 csA ⊢
 generalize hCe:G.objs.size=C at hns3 cs1 csA ⊢
 have hC:s2.heap.objs.size<=C:=by omega
 have hDC:s2.heap.objs.size≠C:=by omega
 let B:Blk:=⟨cs,C,s2,H1,fp,X.pn++pins⟩
 have I3:Inv (aZ X (bN Nx ts ix) scope B) [] (cN ts.length ix σ) H1 { s2 with heap:=h3 }:=rh I2 hNx ok cs1 csI cs2 csA f2 hfs hC kp hns3
 have fC:H1 s2.heap.objs.size=none:=I2.hok.fresh (Nat.le_refl _)
 have cellIn:∀ x c,cs.lookup x=some c->c≠s2.heap.objs.size:=λx c e=>by
  rcases cs1 x c e with z | ⟨z,_,_⟩
  ·obtain ⟨v,q⟩:=I2.cell x c z
   exact Nat.ne_of_lt q.lt
  ·exact Nat.ne_of_gt (Nat.lt_of_le_of_lt hC z)
 have pinIn:∀ p∈X.pn++pins,p.1 < s2.heap.objs.size:=λp hp=>Heap.lt_size (I2.pin p hp).1
 have nofrs:s2.heap.objs.size ∉ frs X.stack:=λhb=>by
  rcases List.mem_cons.mp (I2.stkSub _ hb) with z | z
  ·exact absurd I2.lt (by rw [<- z]; exact Nat.lt_irrefl _)
  ·exact I2.nofs (Nat.le_refl _) z
 -- a state with the list at its place,pinned
 have pinD:∀ {τ:St} {H':Hp} {s':Shared} {ob:Obj},Inv (aZ X (bN Nx ts ix) scope B) [] τ H' s'->s'.heap.get? s2.heap.objs.size=some ob->H' s2.heap.objs.size=none->(∀ v,ob.data≠.cell v)->Inv (aZ X (bN Nx ts ix) scope B) [(s2.heap.objs.size,ob)] τ H' s' :=
  λ{τ H' s' ob} I' ho hn hd=>I'.pins_of λp hp=>by
   have e:p=(s2.heap.objs.size,ob):=by simpa using hp
   subst e
   exact ⟨ho,hn,hDC,nofrs,hd⟩
 obtain ⟨W,⟨m0,w0⟩,turn⟩:=q2 B
 have stat:∀ {H':Hp} {ob:Obj},(∀ b∈fp,H' b=none)->∀ b∈fp,fR (aZ X (bN Nx ts ix) scope B) [(s2.heap.objs.size,ob)] H' b:=λ{H' ob} hn b hb=>by
  refine ⟨hn b hb,Nat.ne_of_lt (Nat.lt_of_lt_of_le (hfs b hb) hC),λz=>?_,.inl hb,λx c e=>by
   rcases cs1 x c e with z | ⟨z,_,_⟩
   ·exact (f2 b hb).2.2.2.2.1 x c z
   ·exact Nat.ne_of_gt (Nat.lt_of_lt_of_le (hfs b hb) (Nat.le_trans hC (Nat.le_of_lt z))),λp hp=>?_⟩
  ·rcases List.mem_cons.mp (I2.stkSub _ z) with q | q
   ·exact (f2 b hb).2.1 q
   ·exact (f2 b hb).2.2.1 q
  ·rcases List.mem_append.mp hp with z | z
   ·exact (f2 b hb).2.2.2.2.2 p z
   ·have e:p=(s2.heap.objs.size,ob):=by simpa using z
    subst e
    exact Nat.ne_of_gt (hfs b hb)
 have loop:∀ s4:Shared,s4={ s2 with heap:=h3 } ->
   codeAny (model X.prog X.w) X.A (.compLoop (.ListComp elt [⟨target,iter,[cnd],0⟩] scope pos) 0 (.ref it) (.ref s2.heap.objs.size) (compEnvC scope cs C X.env)) (R (.ref s2.heap.objs.size) C) s4:=by
  rintro s4 rfl
  refine ZoJ (λk s'=>∃ i τ ys its n H',Inv (aZ X (bN Nx ts ix) scope B) [(s2.heap.objs.size,({ cls:=.type "list",data:=.seq (List.toArray its) n }:Obj))] τ H' s'/\tn i s'.heap/\(∀ b∈fp,H' b=none)/\Vals ys its/\ys.length<=sizeLine/\W i k τ ys H') ?_ m0
   ⟨0,_,[],[],_,H1,pinD I3 hD3 fC (λv z=>by cases z),T.keep _ _ _ st2 λb hb o e=>kp b o e,λb hb=>(f2 b hb).1,.nil,Nat.zero_le _,w0⟩
  rintro k s5 ⟨i,τ,ys,its,n,H5,I5,st5,fr5,rv,hz,w5⟩
  rcases turn i k τ ys H5 w5 with ⟨stop,qn⟩ | ⟨go,hlt,step⟩
  ·refine thn (T.done (aZ X (bN Nx ts ix) scope B) rfl rfl rfl hc i _ s5 τ H5 _ I5 (stat fr5) st5 stop) λgot s6 hz0=>?_
   obtain ⟨hr,I6⟩:=hz0
   subst hr
   obtain ⟨ho,hn,_,_,_⟩:=I6.pin (s2.heap.objs.size,({ cls:=.type "list",data:=.seq (List.toArray its) n }:Obj)) (List.mem_append_right _ (by simp))
   have I7:Inv X pins σ H5 s6:=I2.call' (ch:=fp) (H':=H5) (by exact I6.os) I6.base I6.hok I6.bare λb hb=>⟨(f2 b hb).2.2.2.1,(f2 b hb).2.1,(f2 b hb).2.2.2.2.1,(f2 b hb).2.2.2.2.2⟩
   have hs0:X.s₀.heap.objs.size<=s2.heap.objs.size:=I2.sz
   have I8:=I7.track hn ho rv hz (Nat.ne_of_gt I2.lt) hs0 (λx c e z=>by
    obtain ⟨v,q⟩:=I2.cell x c e
    exact absurd q.lt (by rw [z]; exact Nat.lt_irrefl _)) (λp hp=>Nat.ne_of_lt (pinIn p hp))
   obtain ⟨m6,hm6,_⟩:=I6.loc
   refine hR _ C _ s6 _ I8 rfl (qn _ _ _ hn rfl rfl) ⟨m6,hm6⟩ ?_ (λz=>?_) (Nat.le_trans hs0 hC) (λx c e z=>?_) λp hp=>Nat.ne_of_lt (Nat.lt_of_lt_of_le (pinIn p hp) hC)
   ·rw [aJ (Ne.symm hDC)]
    exact I6.free
   ·exact absurd (Nat.lt_of_lt_of_le I2.lt hC) (by rw [z]; exact Nat.lt_irrefl _)
   ·obtain ⟨v,q⟩:=I2.cell x c e
    exact absurd (Nat.lt_of_lt_of_le q.lt hC) (by rw [z]; exact Nat.lt_irrefl _)
  ·refine thn (T.item (aZ X (bN Nx ts ix) scope B) rfl rfl rfl hc i _ s5 τ H5 _ I5 (stat fr5) st5 go) λgot s6 hz0=>?_
   obtain ⟨u,hr,h6⟩:=hz0
   subst hr
   refine thn h6 λ_ s7 hz0=>?_
   obtain ⟨x,H7,I7,r7,y7,st7,fr7⟩:=hz0
   have I7':=I7.pinned (stat fr7) (T.obj _ _ st7)
   refine thn (hg B _ s7 τ H7 x u _ I7' r7 (step x H7 y7)) λ_ s8 hz0=>?_
   obtain ⟨τ8,H8,I8,q8⟩:=hz0
   refine thn (hcn B _ s8 τ8 H8 _ I8 q8) λokk s8' hz0=>?_
   obtain ⟨H8',I8',q8'⟩:=hz0
   cases okk with
   | false =>
    obtain ⟨m',hm',w9⟩:=q8'
    obtain ⟨ho,hn,_,_,_⟩:=I8'.pin (s2.heap.objs.size,({ cls:=.type "list",data:=.seq (List.toArray its) n }:Obj)) (List.mem_append_right _ (List.mem_append_left _ (by simp)))
    have I9':Inv (aZ X (bN Nx ts ix) scope B) [] τ8 H8' s8':=I8'.pins_of λp hp=>absurd hp (by simp)
    refine ⟨m',hm',i+1,τ8,ys,its,n,H8',pinD I9' ho hn (λv z=>by cases z),?_,λb hb=>?_,rv,hz,w9⟩
    ·refine T.keep _ _ _ st7 λb hb o e=>?_
     exact (I8'.pin (b,o) (List.mem_append_right _ (List.mem_append_right _ (fF hb e)))).1
    ·obtain ⟨o,e,d⟩:=T.obj _ _ st7 b hb
     exact (I8'.pin (b,o) (List.mem_append_right _ (List.mem_append_right _ (fF hb e)))).2.1
   | true =>
   refine thn (he B _ s8' τ8 H8' _ I8' q8') λy s9 hz0=>?_
   obtain ⟨vy,H9,I9,r9,m',hm',w9⟩:=hz0
   obtain ⟨ho,hn,_,_,_⟩:=I9.pin (s2.heap.objs.size,({ cls:=.type "list",data:=.seq (List.toArray its) n }:Obj)) (List.mem_append_right _ (List.mem_append_left _ (by simp)))
   have lenv:=rv.length
   refine wpAny_list_append_plain (l:=s2.heap.objs.size) ⟨n,ho⟩ (λh' hpl hsb=>?_) (by rw [List.size_toArray]; omega)
   obtain ⟨n',ho'⟩:=hpl
   have eobj:(its.toArray.push y)=List.toArray (its++[y]):=by simp
   rw [eobj] at ho'
   have I9':Inv (aZ X (bN Nx ts ix) scope B) [] τ8 H9 s9:=I9.pins_of λp hp=>absurd hp (by simp)
   have I10:Inv (aZ X (bN Nx ts ix) scope B) [] τ8 H9 { s9 with heap:=h' }:=I9'.turned (it:=s2.heap.objs.size) (t':=s9.toks) (λb o hb e=>(hsb.2 b hb).trans e) hn hDC (.inr (Nat.le_refl _)) cellIn (λp hp=>by
    have hp':p∈(X.pn++pins)++[]:=hp
    rw [List.append_nil] at hp'
    exact Nat.ne_of_lt (pinIn p hp'))
   refine ⟨m',hm',i+1,τ8,ys++[vy],its++[y],n',H9,pinD I10 ho' hn (λv z=>by cases z),?_,λb hb=>?_,rv.append (.cons r9 .nil),by rw [List.length_append]; show ys.length+1<=_; omega,w9⟩
   ·refine T.keep _ _ _ st7 λb hb o e=>?_
    have q:=(I9.pin (b,o) (List.mem_append_right _ (List.mem_append_right _ (fF hb e)))).1
    exact (hsb.2 b (Nat.ne_of_lt (hfs b hb))).trans q
   ·obtain ⟨o,e,d⟩:=T.obj _ _ st7 b hb
    exact (I9.pin (b,o) (List.mem_append_right _ (List.mem_append_right _ (fF hb e)))).2.1
 exact codeAny_compStart_list (loop _ rfl) (T.self X.A 0 _ _ _ (T.keep _ _ _ st2 λb hb o e=>kp b o e) (loop _ rfl))
theorem ZbW {elt target iter cnd:Expr} {scope:Scope} {pos:Pos} {wi:TI} {g:Blk->TG} {tc:Blk->TT} {te:Blk->TE} (Nx:List Str) (ts:List Str) (ix:List Nat)
  (hc:X.calm=true) (hi:PI X target iter wi) (hg:∀ b,PG (aZ X (bN Nx ts ix) scope b) target (g b)) (hcn:∀ b,PT (aZ X (bN Nx ts ix) scope b) cnd (tc b)) (he:∀ b,PE (aZ X (bN Nx ts ix) scope b) elt (te b))
  (hNx:X.N=Nx) (ok:BlkOk Nx X.env.scope scope ix) (hs:∀ x,foldedSetIterable iter X.env x=pure x:=by intro _; rfl) :
  PE X (.ListComp elt [⟨target,iter,[cnd],0⟩] scope pos) (pq wi ts.length ix g tc te):=by
 intro pins s σ H Q I h
 obtain ⟨cl,hcl,cl1,cl2⟩:=nP (scope:=scope) (env:=X.env) λy hy hf=>I.ok.has y.1 (ok.frees y hy hf)
 rw [eval_ListComp]
 refine wpAny_comprehension_free (use:=none) rfl hs hcl ok.kind ok.locs (thn (hi pins s σ H _ I h) λv s1 h1=>thn h1 λitv s2 h2=>?_)
 refine ZiS (R:=λacc C=>compPost (model X.prog X.w) X.A X.xe none (EP X pins σ Q) acc C) hc hg hcn he hNx ok cl1 cl2 h2 ?_
 rintro D C H' s' v I' rfl q ⟨m,hm⟩ hn hL h0 hcl' hp
 exact ⟨m,hm,λh' hsb=>⟨.ref D,H',I'.turned (it:=C) (t':=s'.toks) (λb o hb e=>(hsb.2 b hb).trans e) hn hL (.inr h0) hcl' hp,rfl,q⟩⟩
end
section
variable {PK:Pk} {X:Cx} {e:Expr} {st:Stmt} {i:List Sl->Tr PyData} {is:List Sl->Tr (List PyData)} {p:List Sl->Tr Bool}
noncomputable def mV (y:Option PyData) (ys:List PyData):Tr (List PyData):=.ret (match y with
 | some y=>y::ys
 | none=>ys)
noncomputable def dP (h:PyData->Tr (Option PyData)):List PyData->Tr (List PyData)
 | []=>.ret []
 | x::xs=>(h x).bind λy=>(dP h xs).bind (mV y)
noncomputable def jA (p:List Sl->Tr Bool) (i:List Sl->Tr PyData) (τ:List Sl):Tr (Option PyData):=(p τ).bind λok=>if ok=true then (i τ).bind λy=>.ret (some y) else .ret none
noncomputable def jR (is:List Sl->Tr (List PyData)) (n:Nat) (ix:List Nat) (g:PyData->List Sl->Option (List Sl)) (p:List Sl->Tr Bool) (el:List Sl->Tr PyData):List Sl->Tr (List PyData):=λρ =>
 (is ρ).bind λxs=>if small xs.length=true then dP (λx=>(Tr.of (g x (blk n ix ρ))).bind (jA p el)) xs else .fail
theorem ZiR {n:Nat} {ix:List Nat} {g:PyData->List Sl->Option (List Sl)} (hn:gv n g):∀ σ H Q,fP PK (jR is n ix g p i) σ H Q->pq (eN PK is) n ix (λ_=>dY PK g) (λ_=>TAt PK p) (λ_=>TAe PK i) σ H Q:=by
 rintro σ H Q ⟨pa,G₀,H₀,m,ρ,G,R,z⟩
 refine ⟨pa,G₀,H₀,m,ρ,G,R,Tr.ok_mono (Tr.ok_bind.mp z) λm1 xs k J G1 H1 s1 w1 jo=>λB=>?_⟩
 obtain ⟨hs,k⟩:=eY k
 have hs:xs.length<=sizeLine:=of_decide_eq_true hs
 let el:PyData->Tr (Option PyData):=λx=>(Tr.of (g x (blk n ix ρ))).bind (jA p i)
 let W:Nat->Nat->St->List V->Hp->Prop:=λk mm τ ys H2=>mm=xs.length - k/\k<=xs.length/\ys.length<=k/\∃ m G2 ds,Sub G1 G2/\Stp pa G H G2 H2/\Rl PK pa G₀ H₀ m τ (blk n ix ρ) G2 H2 /\
  DnAll G2 ys ds/\(dP el (xs.drop k)).ok m λm' zs=>Ko1 PK pa m' G H (ds++zs) Q
 refine ⟨W,⟨xs.length,rfl,Nat.zero_le _,Nat.le_refl _,m1,G1,[],.refl,s1,(R.step s1 w1).blk n ix,.nil,k⟩,?_⟩
 rintro k mm τ ys H2 ⟨rfl,hk,hy,m2,G2,ds,sb,st2,R2,dn,k2⟩
 obtain ⟨j1,j2⟩:=jo m2 G2 H2 sb R2.wd
 by_cases hlt:k < xs.length
 ·have hx:xs[k]?=some xs[k]:=by simp [hlt]
  obtain ⟨jg,jy⟩:=j1 k _ hx
  refine .inr ⟨jg,by omega,λx H3 y=>?_⟩
  obtain ⟨G3,s3,w3,d3⟩:=jy x H3 y
  rw [List.drop_eq_getElem_cons hlt] at k2
  unfold dP at k2
  rw [Tr.ok_bind,Tr.ok_bind] at k2
  obtain ⟨ρ3,hg3,k3⟩:=Tr.ok_of k2
  refine ⟨pa,G₀,H₀,m2,_,G3,_,ρ3,R2.step s3 w3,d3,hg3,λτ4 R4=>?_⟩
  obtain ⟨pl,pk⟩:=hn _ _ _ hg3
  have hback:∀ (q:Nat) (sl:Sl),(blk n ix ρ)[q]?=some sl->sl=.un\/ρ3[q]?=some sl:=λq sl hq=>by
   by_cases hqn:q < n
   ·left
    unfold blk at hq
    rw [List.getElem?_append_left (by simpa using hqn),List.getElem?_replicate,if_pos hqn] at hq
    cases hq
    rfl
   ·right
    rw [pk q (Nat.le_of_not_lt hqn)]
    exact hq
  unfold jA at k3
  rw [Tr.ok_bind] at k3
  refine ⟨pa,G₀,H₀,m2,ρ3,G3,R4,Tr.ok_mono k3 λm4 ok k4 G4 H4 s4 w4=>?_⟩
  have R4':=R4.step s4 w4
  have s34:=s3.trans s4 w3.some
  cases ok with
  | false =>
   have k4':((dP el (xs.drop (k+1))).bind (mV none)).ok m4 λm' zs=>Ko1 PK pa m' G H (ds++zs) Q:=k4
   refine ⟨xs.length - (k+1),by omega,rfl,hlt,by omega,m4,G4,ds,sb.trans s34.gs,st2.trans s34 R2.wd.some,R4'.weak pl hback,DnAll.mono s34.gs dn,?_⟩
   exact Tr.ok_mono (Tr.ok_bind.mp k4') λm6 zs k6=>k6
  | true =>
   have k4':((i ρ3).bind λy=>.ret (some y)).ok m4 λm' y=>((dP el (xs.drop (k+1))).bind (mV y)).ok m' λm' zs=>Ko1 PK pa m' G H (ds++zs) Q:=k4
   rw [Tr.ok_bind] at k4'
   refine ⟨pa,G₀,H₀,m4,ρ3,G4,R4',Tr.ok_mono k4' λm5 yd k5=>?_⟩
   intro v G5 H5 s5 w5 d5
   have s35:=s34.trans s5 w4.some
   refine ⟨xs.length - (k+1),by omega,rfl,hlt,by rw [List.length_append]; show ys.length+1<=_; omega,m5,G5,ds++[yd],sb.trans s35.gs,st2.trans s35 R2.wd.some,(R4'.step s5 w5).weak pl hback,(DnAll.mono s35.gs dn).snoc d5,?_⟩
   have k5':((dP el (xs.drop (k+1))).bind (mV (some yd))).ok m5 λm' zs=>Ko1 PK pa m' G H (ds++zs) Q:=k5
   refine Tr.ok_mono (Tr.ok_bind.mp k5') λm6 zs k6=>?_
   rw [List.append_assoc]
   exact k6
 ·have e:k=xs.length:=by omega
  subst e
  refine .inl ⟨j2,λp v H' hp ev eH=>?_⟩
  subst ev eH
  rw [List.drop_length] at k2
  have k2':Ko1 PK pa m2 G H (ds++[]) Q:=k2
  rw [List.append_nil] at k2'
  exact (Ko1.later k2' st2 R2.wd.some).new R2.wd dn hp
theorem Zes {n:Nat} {ix:List Nat} {g:PyData->List Sl->Option (List Sl)} (h:PE X e (pq (eN PK is) n ix (λ_=>dY PK g) (λ_=>TAt PK p) (λ_=>TAe PK i))) (hn:gv n g):PE X e (fP PK (jR is n ix g p i)):=h.imp (ZiR hn)
end
theorem BlkOk.leaf {Nx:List Str} {sc scope:Scope} (h1:scope.kind=.function) (h2:∀ y∈scope.names,y.2≠.cell/\y.2≠.free) (h3:∀ y∈scope.names,y.2=.local->scope.names.lookup y.1=some .local):BlkOk Nx sc scope [] :=
 ⟨h1,λy hy z=>absurd z (h2 y hy).1,h3,λy hy z=>absurd z (h2 y hy).2,λj hj=>by cases hj⟩
section
variable {X:Cx}
section
variable {ρ:List Sl} {is:List Sl->Tr (List PyData)} {n:Nat} {i:List Sl->Tr PyData} {p:List Sl->Tr Bool} {xs:List PyData} {x:PyData}
noncomputable def ir (g:PyData->List Sl->Option (List Sl)) (p:List Sl->Tr Bool) (el:List Sl->Tr PyData) (τ:List Sl) (x:PyData):Tr (Option PyData):=(Tr.of (g x τ)).bind (jA p el)
noncomputable def qO (n:Nat) (ix:List Nat) (g:PyData->List Sl->Option (List Sl)) (p:List Sl->Tr Bool) (el:List Sl->Tr PyData) (ρ:List Sl) (xs:List PyData):Tr (List PyData):=if small xs.length=true then dP (ir g p el (blk n ix ρ)) xs else .fail
theorem Zl2 {ix:List Nat} {g:PyData->List Sl->Option (List Sl)}:jR is n ix g p i ρ=(is ρ).bind (qO n ix g p i ρ):=rfl
theorem Zl4 {ix:List Nat} {g:PyData->List Sl->Option (List Sl)} (h:small xs.length=true):qO n ix g p i ρ xs=dP (ir g p i (blk n ix ρ)) xs:=by unfold qO; rw [if_pos h]
theorem Zl3 {τ:List Sl} {g:PyData->List Sl->Option (List Sl)}:ir g p i τ x=(Tr.of (g x τ)).bind (jA p i):=rfl
noncomputable def rA (y:PyData):Tr (Option PyData):=.ret (some y)
noncomputable def rB (i:List Sl->Tr PyData) (τ:List Sl) (b:Bool):Tr (Option PyData):=if b=true then (i τ).bind rA else .ret none
theorem Zmn {τ:List Sl}:jA p i τ=(p τ).bind (rB i τ):=rfl
theorem Zmp {τ:List Sl}:rB i τ true=(i τ).bind rA:=rfl
theorem Zmq {τ:List Sl}:rB i τ false=.ret none:=rfl
theorem Zmo:rA x=.ret (some x):=rfl
end
end
section
variable {PK:Pk} {X:Cx} {e:Expr} {as:List Sl->Tr (List Sl)}
noncomputable def slD:List Sl->Option (List PyData)
 | []=>some []
 | .d x::r=>(slD r).bind λxs=>some (x::xs)
 | _=>none
theorem ArsOk.slD {pa:Addr} {G:Hp} {vs:List V} {ss:List Sl} {ds:List PyData} (a:ArsOk pa G vs ss) (h:L2.slD ss=some ds):DnAll G vs ds:=by
 induction a generalizing ds with
 | nil=>cases h; exact .nil
 | cons h0 t ih =>
  cases h0 with
  | d h1 =>
   unfold L2.slD at h
   cases e:L2.slD _ with
   | none=>rw [e] at h; cases h
   | some xs =>
    rw [e] at h
    cases h
    exact .cons h1 (ih e)
  | pen=>cases h
  | fn=>cases h
noncomputable def iF (d:PyData):Tr PyData:=if rG d=true then .ret d else .fail
noncomputable def sG (f:List PyData->Option PyData) (as:List Sl->Tr (List Sl)):List Sl->Tr PyData:=λρ=>(as ρ).bind λss=>(Tr.of ((slD ss).bind f)).bind iF
theorem ZpD {r:List V->Hp->VK->Prop} {f:List PyData->Option PyData} (L:PkLow PK) (h:PE X e (fW r (TAb PK as))) (hv:df r f):PE X e (TAe PK (sG f as)):=h.imp λσ H Q hz0=>by
 obtain ⟨pa,G₀,H₀,m,ρ,G,R,z⟩:=hz0
 refine TAb.then R z λm1 ss vs G1 H1 s1 w1 R1 d1 q1=>?_
 obtain ⟨d,hd,q1⟩:=Tr.ok_of (Tr.ok_bind.mp q1)
 obtain ⟨G2,s2,w2,d2⟩:=ArsB.ok (λ_ _ h=>h) w1 d1
 cases e:slD ss with
 | none=>rw [e] at hd; cases hd
 | some ds =>
  rw [e] at hd
  unfold iF at q1
  obtain ⟨hf,k⟩:=eY (c:=rG d) q1
  refine hv PK pa m1 G2 H1 vs ds d Q w2 (ArsOk.slD d2 e) hd ?_
  intro v G3 H3 s3 w3 d3
  have s13:Stp pa G1 H1 G1 H3:=⟨λ_ _ h=>h,λ_ _ h=>.inl h,s3.hk⟩
  obtain ⟨o1,e1,p1⟩:=w1.pen
  obtain ⟨o3,e3,p3⟩:=w3.pen
  have w13:Wd PK pa m1 G1 H3:=⟨λb o h=>s3.hk b o (w1.sub b o h) (λz=>by subst z; rw [w1.gpa] at h; cases h),w1.gpa,o3,e3,L.low p1 (s2.trans s3.gs) p3⟩
  exact k v G1 H3 (s1.trans s13 w1.some) w13 (Dn.flat_any d3 hf)
end
section
variable {ρ:List Sl} {as:List Sl->Tr (List Sl)} {f:List PyData->Option PyData} {x:PyData} {xs:List PyData} {i j:List Sl->Tr PyData} {k:Nat} {p:List Sl->Tr Bool} {s:List Sl->Tr Ou}
noncomputable def ZdZ (f:List PyData->Option PyData) (ss:List Sl):Tr PyData:=(Tr.of ((slD ss).bind f)).bind iF
theorem Zm1:sG f as ρ=(as ρ).bind (ZdZ f):=rfl
theorem Zm0:ZdZ f [.d x]=(bw f [x]).bind iF:=rfl
theorem ZmD (n:Int):iF (.int n)=.ret (.int n):=rfl
noncomputable def kh (k:Nat) (ρ:List Sl) (x:PyData) (xs:List PyData):PyData->Tr Ou
 | .int y=>(Tr.of (dQ xs.length y)).bind λt=>.ret (.next (ρ.set k (.own (xs.set t x))))
 | _=>.fail
noncomputable def pF (k:Nat) (n:List Sl->Tr PyData) (ρ:List Sl) (x:PyData) (xs:List PyData):Tr Ou:=(n ρ).bind (kh k ρ x xs)
noncomputable def pG (k:Nat) (n:List Sl->Tr PyData) (ρ:List Sl) (x:PyData):Tr Ou:=(f9 k ρ).bind (pF k n ρ x)
theorem ZkX:on k j i ρ=(i ρ).bind (pG k j ρ):=by
 unfold on
 refine congrArg (Tr.bind (i ρ)) (funext λx=>?_)
 rw [pG,<- mH k ρ]
 cases ρ[k]? with
 | none=>rfl
 | some sl =>
  cases sl with
  | own xs =>
   show ((j ρ).bind _:Tr Ou)=(j ρ).bind (kh k ρ x xs)
   refine congrArg (Tr.bind (j ρ)) (funext λy=>?_)
   cases y <;> rfl
  | _=>rfl
theorem ZkW {n:List Sl->Tr PyData}:pG k n ρ x=(f9 k ρ).bind (pF k n ρ x):=rfl
theorem ZkV {n:List Sl->Tr PyData}:pF k n ρ x xs=(n ρ).bind (kh k ρ x xs):=rfl
theorem ZkU {y:Int} {t:Nat} (h:dQ xs.length y=some t):kh k ρ x xs (.int y)=.ret (.next (ρ.set k (.own (xs.set t x)))):=by
 simp only [kh,h]
 rfl
end
end L2
namespace L2
open PySem PySem.Spec PyProof.Rows
open AutoSeq1 (wpAny_loadPart')
section
variable {prog:Program} {w:World} {A:Around} {E:Value->Shared->Prop} {s:Shared}
end
section
variable {prog:Program} {w:World} {A:Around} {E:Value->Shared->Prop} {s:Shared}
end
section
variable {X:Cx} {tg:Expr} {PK:Pk} {a b:Expr} {i j:List Sl->Tr PyData} {p pos:Pos}
end
end L2
namespace L2
open PySem PySem.Spec PyProof.Rows
section
variable {X:Cx} {tg:Expr} {PK:Pk} {e:Expr} {i j:List Sl->Tr PyData} {is:List Sl->Tr (List PyData)} {p pos:Pos}
end
section
variable {X:Cx} {PK:Pk} {i n:List Sl->Tr PyData}
end
section
variable {prog:Program} {w:World} {A:Around} {E:Value->Shared->Prop} {s:Shared}
end
section
variable {X:Cx} {PK:Pk} {e st:Expr} {te ts:TE} {i j:List Sl->Tr PyData} {p2 pos:Pos}
end
section
variable {prog:Program} {w:World} {A:Around} {R:Result->Shared->Prop} {I S:Addr} {fp wr:List Addr} {n:Nat} {P:Nat->Value->Prop} {St:Nat->Heap->Prop} {h0:Heap}
end
section
variable {prog:Program} {w:World} {A:Around} {E:Value->Shared->Prop} {s:Shared}
end
section
variable {X:Cx}
end
section
variable {X:Cx} {PK:Pk} {e:Expr} {is:List Sl->Tr (List PyData)}
end
section
variable {prog:Program} {w:World} {A:Around} {E:Value->Shared->Prop} {s:Shared}
end
section
variable {X:Cx}
end
section
variable {X:Cx} {PK:Pk} {a b:Expr} {pos:Pos} {j:List Sl->Tr PyData}
theorem Zc4 {α β:Type}:∀ {t:Tr α} {m:Nat} {Z:Nat->β->Prop},(t.bind λ_=>(Tr.fail:Tr β)).ok m Z->False
 | .ret a,m,Z,h=>h
 | .draw n k,m,Z,h=>Zc4 (t:=k 0) (h.2.2.2 0 (Int.le_refl _) h.2.1)
 | .fail,m,Z,h=>h
end
section
variable {prog:Program} {w:World} {A:Around} {E:Value->Shared->Prop} {s:Shared}
theorem ZoN {t b:Addr} {ws:List Value} {Q:Value->Shared->Prop} (ht:IsTup s.heap t ([]:List Value).toArray) (hb:IsTup s.heap b ws.toArray) (h1:Q (.ref b) s):wpAny (model prog w) A (binaryOp .Add (.ref t) (.ref b)) Q E s:=by
 obtain ⟨⟨cls,dd,data,sl⟩,ho,hc,n,hd⟩:=id ht
 obtain ⟨⟨cls2,dd2,data2,dO⟩,ho2,hc2,n2,hd2⟩:=id hb
 simp only at hc hd hc2 hd2
 subst hc hd hc2 hd2
 exact concat_meets ⟨_,ho,rfl⟩ ⟨_,ho2,rfl⟩ noFill_tuple_add seq_tuple_add PySem.F.slot_tuple_add PySem.F.entry_tuple_add (PySem.F.args_tuple_add_2 _ _) (tuple_addW0 t b _ ws.toArray n n2 dd dd2 sl dO rfl) ⟨ho,ho2,h1⟩
end
section
variable {X:Cx}
noncomputable def ZbH (K:PySem.W.Frag):R2:=λx y H Q=>∃ a b ys,x=.ref a/\y=.ref b/\SqT K H a []/\SqT K H b ys/\Q (.ref b) H
theorem Zh0:OpR X (binaryOp .Add) (ZbH X.K):=by
 intro pins s σ H x y v u Q I rx ry h
 obtain ⟨a,b,ys,rfl,rfl,ha,hb,q⟩:=h
 cases rx
 cases ry
 obtain ⟨its,r1,p1,_⟩:=I.tuple ha
 obtain ⟨its2,r2,p2,_⟩:=I.tuple hb
 cases r1
 exact ZoN p1 p2 ⟨.ref b,H,I,rfl,q⟩
noncomputable def fk:PyData->PyData->Option PyData
 | .tuple [],.tuple ys=>some (.tuple ys)
 | x,y=>dm x y
noncomputable def pS (K:PySem.W.Frag):R2:=λx y H Q=>pT K x y H Q\/ZbH K x y H Q
theorem Zh3:OpR X (binaryOp .Add) (pS X.K):=kO.or Zh0
theorem Ze5 {K:PySem.W.Frag}:b8 (pS K) fk:=λPK pa m G H x y dx dy dz Q w hx hy hz k=>by
 unfold fk at hz
 split at hz
 ·cases hz
  cases hx with
  | tup a1 a2 =>
   cases a2
   cases hy with
   | tup b1 b2=>exact .inr ⟨_,_,_,rfl,rfl,SqT.of (w.sub _ _ a1),SqT.of (w.sub _ _ b1),k.here w (.tup b1 b2)⟩
 ·exact .inl (j9 PK pa m G H x y _ _ dz Q w hx hy hz k)
theorem Znh {ys:List PyData}:av fk (.tuple []) (.tuple ys)=.ret (.tuple ys):=rfl
theorem Zdf {x:PyData} {xs ys:List PyData} (h:small ((x::xs).length+ys.length)=true):av fk (.tuple (x::xs)) (.tuple ys)=.ret (.tuple (x::xs++ys)):=by
 show Tr.of (dm (.tuple (x::xs)) (.tuple ys))=_
 unfold dm
 simp only [List.isEmpty_cons,Bool.not_false,Bool.true_and,h,if_true]
 rfl
end
section
variable {PK:Pk} {X:Cx} {a b:Expr} {pos:Pos} {i j:List Sl->Tr PyData}
end
theorem qM {α:Type} {n:Nat}:∀ {us:List α},us.length=n+1->∃ (a:α) (t:List α),us=a::t/\t.length=n
 | a::t,h=>⟨a,t,rfl,Nat.succ.inj h⟩
theorem ZiN {α:Type} {us:List α} (h:us.length=0):us=[]:=List.eq_nil_of_length_eq_zero h
theorem cf {α:Type} {us:List α} (h:us.length=1):∃ a,us=[a]:=by
 obtain ⟨a,t,rfl,h2⟩:=qM h
 exact ⟨a,by rw [ZiN h2]⟩
theorem jx {α:Type} {us:List α} (h:us.length=2):∃ a0 a1,us=[a0,a1]:=by
 obtain ⟨a0,t,rfl,h2⟩:=qM h
 obtain ⟨a1,rfl⟩:=cf h2
 exact ⟨a0,a1,rfl⟩
theorem Zct {α:Type} {us:List α} (h:us.length=3):∃ a0 a1 a2,us=[a0,a1,a2]:=by
 obtain ⟨a0,t,rfl,h2⟩:=qM h
 obtain ⟨a1,a2,rfl⟩:=jx h2
 exact ⟨a0,a1,a2,rfl⟩
section
variable {PK:Pk} {X:Cx} {pos:Pos} {n:Nat} {is:List Sl->Tr (List PyData)} {s t:List Sl->Tr Ou}
end
section
variable {PK:Pk} {X:Cx} {a b c d e:Expr} {pos:Pos} {i j l n:List Sl->Tr PyData}
open Classical in
noncomputable def fL (h:Heap) (dx:PyData) (u:Value):Bool:=decide (∃ y as,Reads h u y as/\y.canLay0=true/\PyData.eqv y dx=true)
open Classical in
theorem Zdg {h:Heap} {dx y:PyData} {u:Value} {as:List Addr} (r:Reads h u y as) (hy:y.canLay0=true):fL h dx u=PyData.eqv y dx:=by
 unfold fL
 cases he:PyData.eqv y dx with
 | true=>exact decide_eq_true ⟨y,as,r,hy,he⟩
 | false =>
  refine decide_eq_false λz=>?_
  obtain ⟨y',as',r',hy',e'⟩:=z
  have:=SeqAt.Reads.unique y y' u as as' hy r r'
  subst this
  rw [he] at e'; cases e'
theorem sk {P:Program} {w:World} {H:Hp} {h:Heap} (ok:HOk P w H h) {dx:PyData}:∀ {vs:List V} {ds:List PyData} {us:List Value},DnAll H vs ds->ds.all SeqAt.shaped=true->Vals vs us->us.any (fL h dx)=ds.any λy=>PyData.eqv y dx
 | _,_,_,.nil,_,.nil=>rfl
 | _,_,_,.cons a t,f,.cons r rs=>by
  rw [List.all_cons,Bool.and_eq_true] at f
  obtain ⟨as,r1⟩:=Dn.reads ok a (PyData.hasDict_of_canLay _ (SeqAt.canLay_of_shaped f.1)) r
  rw [List.any_cons,List.any_cons,Zdg r1 (SeqAt.canLay_of_shaped f.1),sk ok t f.2 rs]
theorem qE {P:Program} {w:World} {H:Hp} {s:Shared} (ok:HOk P w H s.heap) {A:Around} (hu:A.units+64 < cLine) {dx:PyData} {v:Value} {bs:List Addr} (rv:Reads s.heap v dx bs) (hx:SeqAt.shaped dx=true):∀ {vs:List V} {ds:List PyData} {us:List Value},DnAll H vs ds->ds.all SeqAt.shaped=true->Vals vs us->∀ u∈us,SeqAt.EqAt A s u v (fL s.heap dx u)
 | _,_,_,.nil,_,.nil=>λu hu=>by cases hu
 | _,_,_,.cons a t,f,.cons r rs=>λu hm=>by
  rw [List.all_cons,Bool.and_eq_true] at f
  rcases List.mem_cons.mp hm with rfl | hm
  ·obtain ⟨as,r1⟩:=Dn.reads ok a (PyData.hasDict_of_canLay _ (SeqAt.canLay_of_shaped f.1)) r
   rw [Zdg r1 (SeqAt.canLay_of_shaped f.1)]
   exact SeqAt.eqAt_reads _ _ A s _ _ _ _ r1 rv (SeqAt.canLay_of_shaped f.1) (SeqAt.canLay_of_shaped hx) (SeqAt.room_of_shaped f.1 hu)
  ·exact qE ok hu rv hx t f.2 rs u hm
noncomputable def mh (neg:Bool):R2:=λx y H Q=>∃ dx ds,Dn H x dx/\Dn H y (.list ds)/\SeqAt.shaped dx=true/\ds.all SeqAt.shaped=true/\Q (.bl (if neg then !(ds.any λz=>PyData.eqv z dx) else ds.any λz=>PyData.eqv z dx)) H
theorem ZhX {k:Nat} (hr:Room k X.A):OpR X (compareOp .In) (mh false):=by
 intro pins s σ H x y v u Q I rx ry h
 obtain ⟨dx,ds,hx,hy,sx,sd,q⟩:=h
 cases hy with
 | lst e1 e2 =>
  cases ry
  obtain ⟨its,r,pl,hz⟩:=I.list (SqL.of e1)
  obtain ⟨as,rv⟩:=Dn.reads I.hok hx (PyData.hasDict_of_canLay _ (SeqAt.canLay_of_shaped sx)) rx
  have hu:X.A.in1.units+64 < cLine:=by have:=hr.un; show X.A.units+_+64 < _; omega
  refine SeqAt.in_listAt (fL s.heap dx) pl.isList (λw hw=>qE I.hok hu rv sx e2 sd r w (by simpa using hw)) ⟨.bl _,H,I,rfl,?_⟩
  rw [show its.toArray.any (fL s.heap dx)=its.any (fL s.heap dx) by simp,sk I.hok e2 sd r]
  exact q
theorem ZhR {k:Nat} (hr:Room k X.A):OpR X (compareOp .NotIn) (mh true):=by
 intro pins s σ H x y v u Q I rx ry h
 obtain ⟨dx,ds,hx,hy,sx,sd,q⟩:=h
 cases hy with
 | lst e1 e2 =>
  cases ry
  obtain ⟨its,r,pl,hz⟩:=I.list (SqL.of e1)
  obtain ⟨as,rv⟩:=Dn.reads I.hok hx (PyData.hasDict_of_canLay _ (SeqAt.canLay_of_shaped sx)) rx
  have hu:X.A.in1.units+64 < cLine:=by have:=hr.un; show X.A.units+_+64 < _; omega
  refine SeqAt.notIn_listAt (fL s.heap dx) pl.isList (λw hw=>qE I.hok hu rv sx e2 sd r w (by simpa using hw)) ⟨.bl _,H,I,rfl,?_⟩
  rw [show its.toArray.any (fL s.heap dx)=its.any (fL s.heap dx) by simp,sk I.hok e2 sd r]
  exact q
noncomputable def k7 (neg:Bool):PyData->PyData->Option PyData
 | x,.list ds=>if (SeqAt.shaped x && ds.all SeqAt.shaped)=true then some (.bool (if neg then !(ds.any λz=>PyData.eqv z x) else ds.any λz=>PyData.eqv z x)) else none
 | _,_=>none
theorem Ze4 {neg:Bool}:b8 (mh neg) (k7 neg):=λPK pa m G H x y dx dy dz Q w hx hy hz k=>by
 unfold k7 at hz
 split at hz
 ·split at hz
  ·rename_i hc
   rw [Bool.and_eq_true] at hc
   cases hz
   exact ⟨_,_,hx.mono w.sub,hy.mono w.sub,hc.1,hc.2,k.here w (.bl _)⟩
  ·cases hz
 ·cases hz
end
end L2
set_option exponentiation.threshold 9000
namespace Tw
open PySem L2
noncomputable def nb (k:Nat) (n:Int):Prop:=n.natAbs < 2 ^ k
theorem Zip {k l:Nat} {n:Int} (h:nb k n) (hk:k<=l):nb l n:=Nat.lt_of_lt_of_le h (Nat.pow_le_pow_right (by decide) hk)
theorem Zio {k:Nat} {n:Int} (h1:-(2 ^ k:Nat) < n) (h2:n < (2 ^ k:Nat)):nb k n:=by
 unfold nb
 omega
theorem Ziq {k:Nat} {n b:Int} (h:-b<=n/\n<=b) (hb:b < (2 ^ k:Nat)):nb k n:=Zio (by omega) (by omega)
noncomputable def ws (f:Int->Int):Nat->List Int->Int
 | _,[]=>0
 | k,w::l=>w * f k+ws f (k+1) l
section
variable (s:Shp)
end
noncomputable def tI (l:List Int):PyData:=.tuple (l.map PyData.int)
noncomputable def fD (fs:List (List Int)):PyData:=.tuple (fs.map tI)
end Tw
namespace L2
open PySem PySem.Spec PyProof.Rows
variable {ρ:List Sl} {s t:List Sl->Tr Ou} {i j l:List Sl->Tr PyData} {is:List Sl->Tr (List PyData)} {k n:Nat} {x y d:PyData} {xs ys:List PyData} {sl:Sl}
theorem rb2 {α β:Type} {a:α} {f:α->Tr β}:(Tr.ret a).bind f=f a:=Eq.trans (Tr.ret_bind a f) (Eq.refl _)
theorem nX {α:Type} {t:Tr α} {a:α} {P:α->Prop} {N:Nat} (h:t=.ret a) (hp:P a):Al t N P:=by rw [h]; exact cy hp
theorem ZcV {s:List Sl->Tr Ou} {g:PyData->List Sl->Option (List Sl)} {n:Nat} {full:List PyData} (I:List PyData->List Sl->Prop) {Q:Ou->Prop} (ht:∀ pre x post ρ,full=pre++x::post->I pre ρ->∃ ρ1,g x ρ=some ρ1/\(s ρ1).all n λo=>∃ ρ2,o=.next ρ2/\I (pre++[x]) ρ2) (hq:∀ ρ,I full ρ->Q (.next ρ)) :
  ∀ {xs pre:List PyData} {ρ:List Sl},full=pre++xs->I pre ρ->(bS g s xs ρ).all (xs.length * n) Q
 | [],pre,ρ,e,h0=>hq ρ (by rw [e,List.append_nil]; exact h0)
 | x::xs,pre,ρ,e0,h0=>by
  obtain ⟨ρ1,e,ha⟩:=ht pre x xs ρ e0 h0
  have en:(x::xs).length * n=n+xs.length * n:=by rw [List.length_cons,Nat.succ_mul]; omega
  rw [en,nF,e,Tr.of_some,Tr.ret_bind]
  unfold la
  refine Tr.all_bind ha λo ⟨ρ2,eo,h2⟩=>?_
  subst eo
  rw [nK]
  exact ZcV I ht hq (by rw [e0,List.append_assoc]; rfl) h2
theorem Zev {n N:Nat} {g:PyData->List Sl->Option (List Sl)} {s:List Sl->Tr Ou} {xs:List PyData} {ρ:List Sl} {Q:Ou->Prop} (I:List PyData->List Sl->Prop) (h0:I [] ρ) (hN:xs.length * n<=N) (ht:∀ pre x post ρ,xs=pre++x::post->I pre ρ->∃ ρ1,g x ρ=some ρ1/\Al (s ρ1) n λo=>∃ ρ2,o=.next ρ2/\I (pre++[x]) ρ2) (hq:∀ ρ,I xs ρ->Q (.next ρ)):Al (bS g s xs ρ) N Q :=
 .of (Tr.all_mono (ZcV (full:=xs) I (λpre x post ρ e h=>let ⟨ρ1,e,a⟩:=ht pre x post ρ e h; ⟨ρ1,e,a.out⟩) hq (pre:=[]) rfl h0) hN λ_ h=>h)
theorem ZgF {lo hi:Int} {pre post:List PyData} {x:PyData} (h:cw lo hi=pre++x::post):x=.int (lo+pre.length)/\(pre.length:Int) < hi - lo:=by
 have h1:(cw lo hi)[pre.length]?=some x:=by rw [h]; simp
 have hl:pre.length < (cw lo hi).length:=(List.getElem?_eq_some_iff.mp h1).1
 rw [cS] at hl
 unfold cw ii at h1
 rw [List.map_map,List.getElem?_map,List.getElem?_range (by omega)] at h1
 refine ⟨?_,by omega⟩
 cases h1
 rfl
end L2
namespace Tw
open PySem L2
noncomputable abbrev rng (lo hi:Int):List Int:=ii lo (hi - lo).toNat
variable {α:Type}
noncomputable def f3 (lo a b c:Int) (t:Int->Int->Int->Option α):Option α:=(rng lo a).findSome? λu=>(rng (u+1) b).findSome? λv=>(rng (v+1) c).findSome? λw=>t u v w
structure Rp (d:PyData) (k n:Nat):Prop where
 hd:d.hasDict=false
 sh:d.showable=true
 dp:d.depth<=k
 ln:d.shown.length<=n
theorem me {d:PyData} {k n k' n':Nat} (h:Rp d k n) (hk:k<=k') (hn:n<=n'):Rp d k' n':=⟨h.hd,h.sh,Nat.le_trans h.dp hk,Nat.le_trans h.ln hn⟩
theorem Za6 {i:Int} (h:nb 1900 i):Rp (.int i) 0 1901:=by
 have h1:=ZaR [i] λn hn=>by simp at hn; subst hn; exact h
 have h2:=(ZaQ [i] λn hn=>by simp at hn; subst hn; exact h).1
 refine ⟨rfl,?_,Nat.zero_le _,?_⟩
 ·simp only [List.map_cons,List.map_nil,PyData.showableAll,Bool.and_true] at h1
  exact h1
 ·simp only [List.map_cons,List.map_nil,PyData.shownAll,List.sum_cons,List.sum_nil,List.length_cons,List.length_nil] at h2
  omega
theorem pM {k n:Nat}:∀ {xs:List PyData},(∀ x∈xs,Rp x k n)->PyData.hasDictAll xs=false/\PyData.showableAll xs=true/\PyData.depthAll xs<=k/\((PyData.shownAll xs).map (·.length)).sum<=xs.length * n/\(PyData.shownAll xs).length=xs.length
 | [],_=>⟨rfl,rfl,Nat.zero_le _,by simp [PyData.shownAll],rfl⟩
 | x::xs,h=>by
  obtain ⟨h1,h2,h3,h4,h5⟩:=pM (xs:=xs) λy hy=>h y (List.mem_cons_of_mem _ hy)
  have hx:=h x (by simp)
  refine ⟨?_,?_,?_,?_,?_⟩
  ·rw [PyData.hasDictAll,hx.hd,h1]; rfl
  ·rw [PyData.showableAll,hx.sh,h2]; rfl
  ·rw [PyData.depthAll]; have:=hx.dp; omega
  ·rw [PyData.shownAll,List.map_cons,List.sum_cons,List.length_cons,Nat.succ_mul]; have:=hx.ln; omega
  ·rw [PyData.shownAll,List.length_cons,List.length_cons,h5]
theorem Za2 {xs:List PyData} {k n:Nat} (h:∀ x∈xs,Rp x k n):Rp (.tuple xs) (k+1) (xs.length * n+2 * xs.length+10):=by
 obtain ⟨h1,h2,h3,h4,h5⟩:=pM h
 have c3:=tupleText_len_le (PyData.shownAll xs)
 refine ⟨?_,?_,?_,?_⟩
 ·rw [PyData.hasDict,h1]
 ·rw [PyData.showable,h2]
 ·rw [PyData.depth]; omega
 ·rw [PyData.shown]; omega
theorem Za5 {xs:List PyData} {k n:Nat} (h:∀ x∈xs,Rp x k n):Rp (.list xs) (k+1) (xs.length * n+2 * xs.length+10):=by
 obtain ⟨h1,h2,h3,h4,h5⟩:=pM h
 have c3:=listText_len_le (PyData.shownAll xs)
 refine ⟨?_,?_,?_,?_⟩
 ·rw [PyData.hasDict,h1]
 ·rw [PyData.showable,h2]
 ·rw [PyData.depth]; omega
 ·rw [PyData.shown]; omega
theorem Za3 {l:List Int} {m:Nat} (h:∀ n∈l,nb 1900 n) (hl:l.length<=m):Rp (tI l) 1 (m * 1903+10):=by
 refine me (Za2 (k:=0) (n:=1901) λx hx=>?_) (Nat.le_refl _) ?_
 ·obtain ⟨i,hi,rfl⟩:=List.mem_map.mp hx
  exact Za6 (h i hi)
 ·rw [List.length_map]
  have:l.length * 1903<=m * 1903:=Nat.mul_le_mul_right _ hl
  omega
noncomputable def pr (p:Int×Int):List Int:=[p.1,p.2]
end Tw
namespace L2
open PySem PySem.Spec PyProof.Rows
noncomputable def eZ (h:Heap) (fs:List Addr):Heap:=⟨h.objs.mapIdx λi o=>if i∈fs then { o with data:=.freed } else o,h.life⟩
theorem gG {h:Heap} {fs:List Addr} {b:Addr} (hb:b∈fs):(eZ h fs).get? b=none:=by
 unfold eZ Heap.get?
 simp only [Array.getElem?_mapIdx]
 cases h.objs[b]? with
 | none=>rfl
 | some o=>simp [hb]
theorem dk {h:Heap} {fs:List Addr} {b:Addr} (hb:b ∉ fs):(eZ h fs).get? b=h.get? b:=by
 unfold eZ Heap.get?
 simp only [Array.getElem?_mapIdx]
 cases h.objs[b]? with
 | none=>rfl
 | some o=>simp [hb]
theorem mL (h:Heap) (fs:List Addr):(eZ h fs).StaysIn h:=λb o e=>by
 by_cases hb:b∈fs
 ·rw [gG hb] at e; cases e
 ·rw [dk hb] at e; exact e
theorem ffr {h base:Heap} {l:List Env} (hl:h.FunFrames base l) (fs:List Addr) (hf:∀ b∈frs l,b∈fs):h.FunFrames (eZ h fs) l:=by
 induction l with
 | nil=>trivial
 | cons env rest ih =>
  obtain ⟨hk,⟨L,o,he,hn,ho,hd⟩,hr⟩:=hl
  have hm:∀ b∈frs rest,b∈frs (env::rest):=λb hb=>by
   unfold frs at hb ⊢
   rw [List.filterMap_cons,he]
   exact List.mem_cons_of_mem _ hb
  refine ⟨hk,⟨L,o,he,gG (hf L ?_),ho,hd⟩,ih hr λb hb=>hf b (hm b hb)⟩
  unfold frs
  rw [List.filterMap_cons,he]
  exact List.mem_cons_self
theorem HOk.tracked {P:Program} {w:World} {H:Hp} {h h':Heap} (x:HOk P w H h) (k:∀ b u,H b≠none->h.get? b=some u->h'.get? b=some u):HOk P w H h':=λa o e =>
 (x a o e).stay (λb u hb q=>k b u (λz=>by rcases hb with r | r <;> (first | (subst r; rw [z] at e; cases e) | (rw [z] at r; cases r))) q) (λ_ q=>q) (λ_ _ q=>q) λ_ _ _ _ q _=>q
theorem ObjOk.get {P:Program} {w:World} {H:Hp} {h:Heap} {a:Addr} {o:HO} (x:ObjOk P w H h a o):∃ u,h.get? a=some u:=by
 cases o with
 | lst xs=>obtain ⟨_,_,_,_,e⟩:=x; exact ⟨_,e⟩
 | tup xs=>obtain ⟨_,_,_,ob,e,_⟩:=x; exact ⟨_,e⟩
 | dK kvs=>obtain ⟨_,_,_,_,o,_,_,e,_⟩:=x; exact ⟨_,e⟩
 | dT kvs=>obtain ⟨_,_,_,_,o,_,_,e,_⟩:=x; exact ⟨_,e⟩
 | set S n=>obtain ⟨o,_,_,_,e,_⟩:=x; exact ⟨_,e⟩
 | ins C dx fs=>obtain ⟨_,_,_,e,_⟩:=x; exact ⟨_,e⟩
 | own y=>obtain ⟨_,e⟩:=x; exact ⟨_,e⟩
 | xd fs=>obtain ⟨_,⟨_,_,_,e,_⟩,_⟩:=x; exact ⟨_,e⟩
 | rng lo hi=>obtain ⟨_,_,_,e⟩:=x; exact ⟨_,e⟩
 | frz ob u=>obtain ⟨e,_⟩:=x; exact ⟨_,e⟩
 | tbl ps=>exact ⟨_,(show h.get? a=some _ from x)⟩
 | met f y=>exact ⟨_,(show h.get? a=some _ from x)⟩
 | ext φ=>obtain ⟨_,⟨_,e⟩,_⟩:=x; exact ⟨_,e⟩
 | cod ps=>obtain ⟨_,e,_⟩:=x; exact ⟨_,e⟩
noncomputable def bQ (P:Program) (w:World):dq:=λouter H s E e s'=>∃ (ea t:Addr) (cls:Value) (b':Heap) (H':Hp),e=.ref ea/\s'.os=s.os/\AllBare s'.gens/\Un (frs outer) [] H H' s.heap s'.heap/\HOk P w H' s'.heap /\
 Heap.FlyingW b' outer ea cls (.ref t) s'.heap/\(∀ b o,s.heap.get? b=some o->b ∉ frs outer->∃ o',b'.get? b=some o')/\(∀ b,H' b≠none->∃ o',b'.get? b=some o')/\E cls none H'
theorem ZgV {P:Program} {w:World} {K:PySem.W.Frag} {mg:Str->Option Value} {base:Heap} {N:List Str} {qual:Str} {scope:Scope} {f:Addr} {cd:Value} {A:Around} {outer:List Env} {s₀:Shared} {H₀:Hp} {E:XK}
  {pins:List (Addr×Obj)} {σ:St} {H:Hp} {s:Shared} {h':Heap} {e:Addr} {cls:Value} {args:List Value}
  (I:Inv (cE (bQ P w) P w K mg base N qual scope f cd A outer s₀ H₀ E) pins σ H s) (hx:Heap.MadeExcOf s.heap h' e cls args) (hE:E cls none H) :
  (cE (bQ P w) P w K mg base N qual scope f cd A outer s₀ H₀ E).xe (.ref e) { s with heap:=h' }:=by
 let X:=cE (bQ P w) P w K mg base N qual scope f cd A outer s₀ H₀ E
 have hst:s.heap.FunFrames base (envOfC qual scope s₀.heap.objs.size f cd::outer):=I.stack
 have hfree:∀ b∈frs (envOfC qual scope s₀.heap.objs.size f cd::outer),H b=none:=I.stkFree
 have hfr:(A.deeper (envOfC qual scope s₀.heap.objs.size f cd)).frames=some (envOfC qual scope s₀.heap.objs.size f cd::outer):=I.ok.frames
 have hbase:Un (frs outer) [] H₀ H s₀.heap s.heap:=I.base
 obtain ⟨_,⟨L,oL,hL,_,hoL,_⟩,_⟩:=id hst
 have hLe:L=s₀.heap.objs.size:=(Option.some.inj hL).symm
 have hfs:∀ b,b∈frs (envOfC qual scope s₀.heap.objs.size f cd::outer) ↔ b=L\/b∈frs outer:=λb=>by
  unfold frs
  rw [List.filterMap_cons,hL]
  exact List.mem_cons
 show wpAny (model P w) (A.deeper (envOfC qual scope s₀.heap.objs.size f cd)) (leaving (envOfC qual scope s₀.heap.objs.size f cd) (.ref e)) (λ_ s''=>bQ P w outer H₀ s₀ E (.ref e) s'') (λe' s''=>bQ P w outer H₀ s₀ E e' s'') { s with heap:=h' }
 refine wpAny_leaves_madeW (s:={ s with heap:=h' }) (base:=eZ s.heap (frs (envOfC qual scope s₀.heap.objs.size f cd::outer))) hfr hL (mL _ _) (ffr hst _ λb hb=>hb) hx λh'' t fl tup tn ups=>?_
 have stay:∀ b o,s.heap.get? b=some o->b ∉ frs (envOfC qual scope s₀.heap.objs.size f cd::outer)->h''.get? b=some o:=λb o hb hn=>fl.1 b o (by rw [dk hn]; exact hb)
 have slot:∀ b o,s.heap.get? b=some o->b∈frs (envOfC qual scope s₀.heap.objs.size f cd::outer)->∃ sl,h''.get? b=some { o with slots:=sl }:=λb o hb hn=>by
  obtain ⟨_,o',ho',hd⟩:=hst.mem hn
  rw [hb] at ho'
  cases ho'
  exact ups b o (hx.keeps b o hb) hd
 have old:∀ b o,s₀.heap.get? b=some o->b≠L:=λb o hb z=>by
  have:=Heap.lt_size hb
  rw [z,hLe] at this
  exact absurd this (Nat.lt_irrefl _)
 have un:Un (frs outer) [] H₀ H s₀.heap h'':=by
  refine ⟨λb o hb hn hf hx=>?_,λb o hb hn hf hx=>?_,hbase.free,λb o hb hx=>?_,hbase.tups,hbase.frzs,hbase.tbls⟩
  ·exact stay b o (hbase.keep b o hb hn hf hx) λz=>((hfs b).mp z).elim (old b o hb) hf
  ·obtain ⟨sl,e1⟩:=hbase.slot b o hb hn hf hx
   obtain ⟨dO,e2⟩:=slot b _ e1 ((hfs b).mpr (.inr hf))
   exact ⟨dO,e2⟩
  ·obtain ⟨o',e1⟩:=hbase.there b o hb hx
   by_cases hq:b∈frs (envOfC qual scope s₀.heap.objs.size f cd::outer)
   ·obtain ⟨dO,e2⟩:=slot b _ e1 hq
    exact ⟨_,e2⟩
   ·exact ⟨o',stay b o' e1 hq⟩
 refine ⟨e,t,cls,_,H,rfl,I.os,I.bare,un,HOk.tracked I.hok λb u hb q=>stay b u q λz=>hb (hfree b z),fl,λb o hb hf=>?_,λb hb=>?_,hE⟩
 ·obtain ⟨o',e1⟩:=hbase.there b o hb (by simp)
  exact ⟨o',by rw [dk λz=>((hfs b).mp z).elim (old b o hb) hf]; exact e1⟩
 ·cases e1:H b with
  | none=>exact absurd e1 hb
  | some u =>
   obtain ⟨o',e2⟩:=(I.hok b u e1).get
   exact ⟨o',by rw [dk λz=>hb (hfree b z)]; exact e2⟩
theorem rebase {b' h:Heap} {l:List Env} {e:Addr} {cls a0:Value} (x:Heap.FlyingW b' l e cls a0 h):∃ T,b'.get? T=none/\(∃ oT ts,h.get? T=some oT/\oT.data=.fields ts)/\(∃ oe vs,h.get? e=some oe/\oe.cls=cls/\oe.data=.fields vs)/\Heap.FlyingW (eZ h (e::T::frs l)) l e cls a0 h:=by
 obtain ⟨f1,f2,f3,oe,vs,T,oT,ts,he,hc,hd,h1,hT,hTe,hoT,hdT,h3⟩:=x
 refine ⟨T,hT,⟨oT,ts,hoT,hdT⟩,⟨oe,vs,he,hc.1,hd⟩,mL _ _,gG (by simp),ffr f3 _ λb hb=>List.mem_cons_of_mem _ (List.mem_cons_of_mem _ hb),oe,vs,T,oT,ts,he,hc,hd,h1,gG (by simp),hTe,hoT,hdT,h3⟩
theorem lands {P:Program} {w:World} {A:Around} {env:Env} {outer:List Env} {L:Addr} {H:Hp} {s:Shared} {b':Heap} {e:Addr} {cls a0:Value} {Q:Unit->Shared->Prop} {E:Value->Shared->Prop}
  (hfr:A.frames=some (env::outer)) (hf:env.frame=some L) (hfl:Heap.FlyingW b' (env::outer) e cls a0 s.heap) (hok:HOk P w H s.heap) (hst:∀ b∈frs (env::outer),H b=none) (ht:∀ b,H b≠none->∃ o',b'.get? b=some o')
  (k:∀ h' T,b'.get? T=none->T ∉ frs (env::outer)->Un (frs (env::outer)) [e,T] H H s.heap h'->HOk P w H h'->Heap.FlyingW (eZ s.heap (e::T::frs (env::outer))) (env::outer) e cls a0 h'->Q () { s with heap:=h' }) :
  wpAny (model P w) A (noteFrame (.ref e) env) (λ_ s₂=>wpAny (model P w) A (setFlight (.ref e) none) Q E s₂) E s:=by
 obtain ⟨T,hT,⟨oT,ts,hoT,hdT⟩,⟨oe,vs,hoe,hoc,hod⟩,fl⟩:=rebase hfl
 have nof:∀ {b:Addr} {o:Obj} {us:Array Value},s.heap.get? b=some o->o.data=.fields us->b ∉ frs (env::outer):=λ{b o us} h1 h2 z=>by
  obtain ⟨_,o',ho',hd⟩:=hfl.2.2.1.mem z
  rw [h1] at ho'
  cases ho'
  exact hd us h2
 refine wpAny_looks_onW hfr hf fl λh₄ held ups₄=>?_
 refine wpAny_landsW held λh₅ fl₅ ups₅=>?_
 have ups:=ups₄.trans ups₅
 have stay:∀ b o,s.heap.get? b=some o->b ∉ frs (env::outer)->b ∉ [e,T]->h₅.get? b=some o:=λb o hb hn hx=>fl₅.1 b o (by
  rw [dk]
  ·exact hb
  ·intro z
   rcases List.mem_cons.mp z with z | z
   ·exact hx (by simp [z])
   ·rcases List.mem_cons.mp z with z | z
    ·exact hx (by simp [z])
    ·exact hn z)
 have slot:∀ b o,s.heap.get? b=some o->b∈frs (env::outer)->∃ sl,h₅.get? b=some { o with slots:=sl }:=λb o hb hn=>by
  obtain ⟨_,o',ho',hd⟩:=hfl.2.2.1.mem hn
  rw [hb] at ho'
  cases ho'
  exact ups b o hb hd
 have non:∀ b,b'.get? b=none->H b=none:=λb hb=>by
  cases e1:H b with
  | none=>rfl
  | some u =>
   obtain ⟨o',e2⟩:=ht b (by rw [e1]; simp)
   rw [hb] at e2; cases e2
 have he:H e=none:=non e hfl.2.1
 have hTn:H T=none:=non T hT
 refine k h₅ T hT (nof hoT hdT) ⟨λb o hb hn hf hx=>stay b o hb hf hx,λb o hb hn hf hx=>slot b o hb hf,λb o hb hn hx=>hn,λb o hb hx=>?_,λ_ _ z=>z,λ_ _ _ z=>z,λb ps z=>⟨#[],by rw [z,Array.append_empty]⟩⟩
  (HOk.tracked hok λb u hb q=>stay b u q (λz=>hb (hst b z)) λz=>?_) fl₅
 ·by_cases hq:b∈frs (env::outer)
  ·obtain ⟨sl,e1⟩:=slot b o hb hq
   exact ⟨_,e1⟩
  ·exact ⟨o,stay b o hb hq hx⟩
 ·rcases List.mem_cons.mp z with z | z
  ·subst z; exact hb he
  ·rcases List.mem_cons.mp z with z | z
   ·subst z; exact hb hTn
   ·cases z
structure Xcl (K:PySem.W.Frag) (C:Addr) (bmB:List Value) (newId:String):Prop where
 ex:∃ (nm q:Str) (N:Addr) (bs bm:List Value) (hdct:Bool) (sn:List Str) (sub:List Value) (ab:Bool) (col:Option Bool) (dd:Option Addr) (k0 k1 k2 k3 k5:Option Value) (mN:Str->Option Value),
  K.lookup C=some (excClassObj nm q C N bs bm hdct sn sub ab col dd k0 k1 k2 k3 k5 newId)/\(∀ h:Heap,K.In h->h.Ns N mN/\OwnTail h bmB bm)/\mN "__init__"=none/\bm.contains (.type "BaseException")=true
theorem ZgU {X:Cx} {pins:List (Addr×Obj)} {σ:St} {H:Hp} {s:Shared} {x:Str} {np cpos pos:Pos} {arg:Expr} {C:Addr} {B newId initId:String} {bmB:List Value} {t:TE} {Q:Flow->Shared->Prop}
  (F:ExcBaseFacts B newId initId bmB) (c:Xcl X.K C bmB newId) (hg:Gl X x) (hm:X.mg x=some (.ref C)) (hc:X.calm=true) (ha:PE X arg t) (I:Inv X pins σ H s)
  (h:t σ H λv H1=>∀ s1 h' e args,Inv X pins σ H1 s1->Heap.MadeExcOf s1.heap h' e (.ref C) args->X.xe (.ref e) { s1 with heap:=h' })
  (hs:starEach [arg] X.env=[(false,eval arg X.env)]:=by rfl) (hdb:(x == ("__debug__":Str))=false:=by decide) :
  wpAny (model X.prog X.w) X.A (exec (.Raise (some (.Call (.Name x np) [arg] [] cpos)) none pos) X.env) Q X.xe s:=by
 obtain ⟨nm,q,N,bs,bm,hdct,sn,sub,ab,col,dd,k0,k1,k2,k3,k5,mN,lk,hn,hni,hb⟩:=c.ex
 refine wpAny_Raise_call_subT (C:=C) (nm:=nm) (q:=q) (N:=N) (bs:=bs) (bm:=bm) (hdct:=hdct) (sn:=sn) (sub:=sub) (ab:=ab) (col:=col) (dd:=dd) (k0:=k0) (k1:=k1) (k2:=k2) (k3:=k3) (k5:=k5) (mN:=mN) F hb (I.ok.hd hc) (by rw [hs]; rfl) hni ?_
 refine qN I hg hm ⟨rfl,?_⟩ (hd:=hdb)
 rw [hs]
 refine Calls.evalArgs_plain (Calls.spliced_cons (thn (ha pins s σ H _ I h) λu s1 hz0=>Calls.spliced_nil ?_))
 obtain ⟨v,H1,I1,r1,z⟩:=hz0
 have KX:X.K.In s1.heap:=I1.kIn
 exact ⟨rfl,by show 1<=sizeLine; decide,KX _ _ lk,(hn _ KX).1,(hn _ KX).2,λh' e hx=>z s1 h' e _ I1 hx⟩
theorem mD {P:Program} {w:World} {K:PySem.W.Frag} {mg:Str->Option Value} {base:Heap} {N:List Str} {qual:Str} {scope:Scope} {f:Addr} {cd:Value} {A:Around} {outer:List Env} {s₀:Shared} {H₀:Hp} {E:XK}
  {x msg:Str} {np cpos pos mp:Pos} {mk:Nat} {C:Addr} {B newId initId:String} {bmB:List Value}
  (F:ExcBaseFacts B newId initId bmB) (c:Xcl K C bmB newId) (hg:Gl (cE (bQ P w) P w K mg base N qual scope f cd A outer s₀ H₀ E) x) (hm:mg x=some (.ref C)) (hdb:(x == ("__debug__":Str))=false:=by decide) :
  PS (cE (bQ P w) P w K mg base N qual scope f cd A outer s₀ H₀ E) (.Raise (some (.Call (.Name x np) [.Constant (.str msg) mk mp] [] cpos)) none pos) (λ_ _ H=>E (.ref C) none H):=by
 intro pins s σ H D I h
 exact ZgU F c hg hm rfl di I (λs1 h' e args I1 hx=>ZgV I1 hx h) rfl hdb
theorem Un.skip {fs ex:List Addr} {H H1 H2:Hp} {h h1 h2:Heap} (a:Un fs [] H H1 h h1) (b:Un fs ex H1 H2 h1 h2) (hx:∀ c∈ex,h.get? c=none):Un fs [] H H2 h h2:=by
 have no:∀ {c:Addr} {o:Obj},h.get? c=some o->c ∉ ex:=λ{c o} e z=>by rw [hx c z] at e; cases e
 refine ⟨λc o e n f _=>?_,λc o e n f _=>?_,λc o e n _=>?_,λc o e _=>?_,λc xs e=>b.tups c xs (a.tups c xs e),λc o u e=>b.frzs c o u (a.frzs c o u e),λc ps e=>?_⟩
 ·exact b.keep c o (a.keep c o e n f (by simp)) (a.free c o e n (by simp)) f (no e)
 ·obtain ⟨sl,e1⟩:=a.slot c o e n f (by simp)
  obtain ⟨dO,e2⟩:=b.slot c _ e1 (a.free c o e n (by simp)) f (no e)
  exact ⟨dO,e2⟩
 ·obtain ⟨o',e1⟩:=a.there c o e (by simp)
  exact b.free c o' e1 (a.free c o e n (by simp)) (no e)
 ·obtain ⟨o',e1⟩:=a.there c o e (by simp)
  exact b.there c o' e1 (no e)
 ·obtain ⟨m1,e1⟩:=a.tbls c ps e
  obtain ⟨m2,e2⟩:=b.tbls c _ e1
  exact ⟨m1++m2,by rw [e2,Array.append_assoc]⟩
theorem Zd0 {X:Cx} {pins:List (Addr×Obj)} {σ:St} {H:Hp} {s s':Shared} {E:XK} {e:Value} {outer:List Env} {L:Addr} {Q:Unit->Shared->Prop} {EE:Value->Shared->Prop}
  (I:Inv X pins σ H s) (hstk:X.stack=X.env::outer) (hL:X.env.frame=some L) (hq:bQ X.prog X.w X.stack H s E e s')
  (k:∀ (ea:Addr) (cls:Value) (H':Hp) (h':Heap),e=.ref ea->Inv X pins σ H' { s' with heap:=h' }->H' ea=none->(∃ oe,h'.get? ea=some oe/\oe.cls=cls)->(∃ b'' t,Heap.FlyingW b'' X.stack ea cls (.ref t) h'/\(∀ c,b''.get? c=none->c ∉ frs X.stack->s.heap.get? c=none)/\∀ b,H' b≠none->∃ o',b''.get? b=some o')->Un (frs X.stack) [] H H' s.heap h'->E cls none H'->Q () { s' with heap:=h' }) :
  wpAny (model X.prog X.w) X.A (noteFrame e X.env) (λ_ s₂=>wpAny (model X.prog X.w) X.A (setFlight e none) Q EE s₂) EE s':=by
 obtain ⟨ea,t,cls,b',H',rfl,os,bare,un,hok,fl,hb',ht,hE⟩:=hq
 have hst:∀ b∈frs X.stack,H b=none:=I.stkFree
 have funs:s.heap.FunFrames X.base X.stack:=I.stack
 have hst':∀ b∈frs X.stack,H' b=none:=λb hb=>by
  obtain ⟨_,o,ho,_⟩:=funs.mem hb
  exact un.free b o ho (hst b hb) (by simp)
 have hfr:X.A.frames=some X.stack:=I.ok.frames
 have notin:∀ c:Addr,b'.get? c=none->c ∉ frs X.stack->s.heap.get? c=none:=λc hc hf=>by
  cases e1:s.heap.get? c with
  | none=>rfl
  | some o =>
   obtain ⟨o',e2⟩:=hb' c o e1 hf
   rw [hc] at e2; cases e2
 have hea:ea ∉ frs X.stack:=λz=>by
  obtain ⟨_,o',ho',hd⟩:=fl.2.2.1.mem z
  obtain ⟨oe,vs,e1,_,e2,_⟩:=fl.first
  rw [e1] at ho'
  cases ho'
  exact hd vs e2
 rw [hstk] at hfr fl hst' un hea notin
 refine lands hfr hL fl hok hst' ht λh₅ T hT hTf un5 hok5 fl5=>?_
 have un':=un.skip un5 λc hc=>by
  rcases List.mem_cons.mp hc with z | z
  ·subst z; exact notin c fl.2.1 hea
  ·rcases List.mem_cons.mp z with z | z
   ·subst z; exact notin c hT hTf
   ·cases z
 rw [<- hstk] at un'
 have I5:Inv X pins σ H' { s' with heap:=h₅ }:=I.call' (s':={ s' with heap:=h₅ }) os un' hok5 bare λb hb=>absurd hb (by simp)
 have he:H' ea=none:=by
  cases e1:H' ea with
  | none=>rfl
  | some u =>
   obtain ⟨o',e2⟩:=ht ea (by rw [e1]; simp)
   rw [fl.2.1] at e2; cases e2
 refine k ea cls H' h₅ rfl I5 he fl5.there ⟨_,t,by rw [hstk]; exact fl5,λc hc hf=>?_,λb hb=>?_⟩ un' hE
 rotate_left
 ·cases e1:H' b with
  | none=>exact absurd e1 hb
  | some u =>
   obtain ⟨o',e2⟩:=(hok b u e1).get
   refine ⟨o',?_⟩
   rw [dk]
   ·exact e2
   ·intro z
    rcases List.mem_cons.mp z with z | z
    ·subst z; exact hb he
    ·rcases List.mem_cons.mp z with z | z
     ·subst z
      obtain ⟨o3,e3⟩:=ht b hb
      rw [hT] at e3; cases e3
     ·exact hb (hst' b z)
 by_cases h1:c=ea
 ·subst h1; exact notin c fl.2.1 hea
 ·by_cases h2:c=T
  ·subst h2; exact notin c hT hTf
  ·rw [dk (λz=>by
    rcases List.mem_cons.mp z with z | z
    ·exact h1 z
    ·rcases List.mem_cons.mp z with z | z
     ·exact h2 z
     ·rw [hstk] at hf; exact hf z)] at hc
   cases e1:s.heap.get? c with
   | none=>rfl
   | some o =>
    obtain ⟨o',e2⟩:=un.there c o e1 (by simp)
    rw [hc] at e2; cases e2
end L2
namespace L2
open PySem PySem.Spec PySem.Calls PyProof.Rows
section
variable {M:Model} {A:Around} {E:Value->Shared->Prop}
variable {nm q:Str} {C N:Addr} {bs bm:List Value} {hdct:Bool} {sn:List Str} {sub:List Value} {ab:Bool} {col:Option Bool} {dd:Option Addr} {k0 k1 k2 k3 k5:Option Value} {newId:String}
variable {nm' q':Str} {D N':Addr} {bs' bm':List Value} {hdct':Bool} {sn':List Str} {sub':List Value} {ab':Bool} {col':Option Bool} {dd':Option Addr} {j0 j1 j2 j3 j5:Option Value} {newId':String}
theorem Zj6 {h:Heap} {g:Array GenState} {d:Drawn} {t:Nat} {os:OsState} {e:Addr} {oe:Obj} {Q:Bool->Shared->Prop}
  (hC:h.get? C=some (excClassObj nm q C N bs bm hdct sn sub ab col dd k0 k1 k2 k3 k5 newId)) (hD:h.get? D=some (excClassObj nm' q' D N' bs' bm' hdct' sn' sub' ab' col' dd' j0 j1 j2 j3 j5 newId')) (he:h.get? e=some oe) (hcls:oe.cls=.ref C)
  (hbase:bm'.contains (.type "BaseException")=true) (hin:bm.contains (.ref D)=true)
  (hq:Q true ⟨h,g,d,t,os⟩):wpAny M A (excMatches (.ref e) (.ref D)) Q E ⟨h,g,d,t,os⟩:=by
 have hcB:(Value.ref D::bm').contains (.type "BaseException")=true:=by rw [List.contains_cons,hbase,Bool.or_true]
 have hcC:(Value.ref C::bm).contains (.ref D)=true:=by rw [List.contains_cons,hin,Bool.or_true]
 have f:=tc_notTuple
 unfold excMatches
 repeat (first | (with_reducible refine wpAny_loadPart_at he ?_; rw [hcls]) | with_reducible refine wpAny_loadPart_at hD ?_ | (with_reducible refine wpAny_isSubtype_exc hD ?_; rw [hcB]) | (with_reducible refine wpAny_isSubtype_exc hC ?_; rw [hcC]) | wp_step)
 exact hq
end
section
variable {prog:Program} {w:World} {A:Around} {E:Value->Shared->Prop} {s:Shared} {env:Env}
theorem Zjt {e C D:Addr} {t:Expr} {n:Str} {b₀:Stmt} {suite:List Stmt} {pos:Pos} {rest:List ExceptHandler} {Q:Flow->Shared->Prop}
  {nm q:Str} {N:Addr} {bs bm:List Value} {hdct:Bool} {sn:List Str} {sub:List Value} {ab:Bool} {col:Option Bool} {dd:Option Addr} {k0 k1 k2 k3 k5:Option Value} {newId:String}
  {nm' q':Str} {N':Addr} {bs' bm':List Value} {hdct':Bool} {sn':List Str} {sub':List Value} {ab':Bool} {col':Option Bool} {dd':Option Addr} {j0 j1 j2 j3 j5:Option Value} {newId':String}
  (hbase:bm'.contains (.type "BaseException")=true) (hin:bm.contains (.ref D)=true)
  (h:wpAny (model prog w) (A.mark (some (.ref e))) (eval t env) (λc s₁=>c=.ref D/\s₁.heap.get? C=some (excClassObj nm q C N bs bm hdct sn sub ab col dd k0 k1 k2 k3 k5 newId)/\s₁.heap.get? D=some (excClassObj nm' q' D N' bs' bm' hdct' sn' sub' ab' col' dd' j0 j1 j2 j3 j5 newId')/\(∃ oe,s₁.heap.get? e=some oe/\oe.cls=.ref C) /\
   wpAny (model prog w) (A.mark (some (.ref e))) (setFlight (.ref e) none) (λ_ s₂ =>
     wpAny (model prog w) (A.mark (some (.ref e))) (storeName env n (.ref e)) (λ_ s₃ =>
      wpAny (model prog w) (A.mark (some (.ref e))) (execs (b₀::suite) env)
       (λf s₄=>wpAny (model prog w) A (do bindName env n .none; unbindBehindTheSuite env n pos) (λ_ s₅=>Q f s₅) E s₄)
       (AsSuiteRaised (model prog w) (A.mark (some (.ref e))) env n pos (notedBy (model prog w) (A.mark (some (.ref e))) env (cameBackBy (model prog w) A env E))) s₃) (notedBy (model prog w) (A.mark (some (.ref e))) env (cameBackBy (model prog w) A env E)) s₂) (notedBy (model prog w) (A.mark (some (.ref e))) env (cameBackBy (model prog w) A env E)) s₁) (notedBy (model prog w) (A.mark (some (.ref e))) env (cameBackBy (model prog w) A env E)) s) :
  wpAny (model prog w) A (handleBy (.ref e) env (.ExceptHandler (some t) (some n) (b₀::suite) pos::rest)) Q E s:=by
 refine wpAny_handleBy_cons (codeAny_handlers_test (wpAny_mono h (λc s₁ h₁=>?_) λ_ _ y=>y)) (by intro q; cases q)
 obtain ⟨rfl,hC,hD,⟨oe,he,hcls⟩,hk⟩:=h₁
 obtain ⟨hh,g,d,tk,os⟩:=s₁
 exact Zj6 hC hD he hcls hbase hin (codeAny_handlers_suite_as hk)
end
end L2
namespace L2
open PySem PySem.Spec PyProof.Rows
section
variable {X:Cx} {pins:List (Addr×Obj)} {σ:St} {H:Hp} {s:Shared}
theorem ZiQ {A:Around} {E:Value->Shared->Prop} {x:Str} {u:Value} {pos:Pos} {Q:Value->Shared->Prop} (I:Inv X pins σ H s) (hg:Gl X x) (hm:X.mg x=some u) (h:Q u s)
  (hd:(x == ("__debug__":Str))=false:=by decide):wpAny (model X.prog X.w) A (eval (.Name x pos) X.env) Q E s :=
 Calls.Name_function_global I.ok.kind hg (Calls.loadGlobal_global (by rw [I.ok.glob]; exact I.mod.glob.keeps I.bk) hm h) hd
theorem Zir {M:Model} {A:Around} {E:Value->Shared->Prop} {i:Nat} {x:Str} {pos:Pos} {Q:Unit->Shared->Prop} (I:Inv X pins σ H s) (hN:X.N.Nodup) (hi:X.N[i]?=some x) (hk:X.env.kindOf x=some .local)
  (h:∀ s',Inv X pins (σ.set i none) H s'->Q () s'):wpAny M A (do bindName X.env x .none; unbindBehindTheSuite X.env x pos) Q E s:=by
 obtain ⟨m,hn,hl⟩:=id I.loc
 have hcls:(X.env.scope.kind == .class || (X.env.scope.kind == .module && X.env.locals != X.env.globals))=false:=by rw [I.ok.kind]; rfl
 have hiσ:i < σ.length:=by rw [I.len]; exact (List.getElem?_eq_some_iff.mp hi).1
 have cne:=I.cne
 have tracked:∀ {a:Addr} {h':Heap},(∃ o,s.heap.get? a=some o/\H a=none)->Heap.SameBut a s.heap h'->HOk X.prog X.w H h':=λ{a h'} ha hs b ob e=>by
  obtain ⟨_,_,hfree⟩:=ha
  refine (I.hok b ob e).stay (λc w' hc q=>(hs.2 c ?_).trans q) (λ_ q=>q) (λ_ _ q=>q) λ_ _ _ _ q _=>q
  rintro rfl
  rcases hc with rfl | hc
  ·rw [hfree] at e; cases e
  ·rw [hfree] at hc; cases hc
 refine wpAny_nameGoes_keeps hk hn hcls λh' v hn' hs=>?_
 obtain ⟨oL,_,_,hoL,_⟩:=id hn
 refine h _ ⟨I.ok,I.os,I.bare,⟨λb o e n hb hx=>?_,λb o e n hb hx=>?_,I.base.free,λb o e hx=>?_,I.base.tups,I.base.frzs,I.base.tbls⟩,⟨_,hn',λj y v' e1 e2 e3=>?_⟩,λy c e=>?_,I.free,I.freeC,λp hp=>?_,tracked ⟨oL,hoL,I.free⟩ hs,by simpa using I.len⟩
 ·exact (hs.2 b (Nat.ne_of_lt (Nat.lt_of_lt_of_le (Heap.lt_size e) I.ok.above))).trans (I.base.keep b o e n hb hx)
 ·obtain ⟨sl,e1⟩:=I.base.slot b o e n hb hx
  exact ⟨sl,(hs.2 b (Nat.ne_of_lt (Nat.lt_of_lt_of_le (Heap.lt_size e) I.ok.above))).trans e1⟩
 ·obtain ⟨o',e1⟩:=I.base.there b o e hx
  exact ⟨o',(hs.2 b (Nat.ne_of_lt (Nat.lt_of_lt_of_le (Heap.lt_size e) I.ok.above))).trans e1⟩
 ·by_cases hj:j=i
  ·subst hj
   rw [List.getElem?_set_self hiσ] at e2
   cases e2
  ·rw [List.getElem?_set_ne (Ne.symm hj)] at e2
   obtain ⟨u',r',q⟩:=hl j y v' e1 e2 e3
   refine ⟨u',r',?_⟩
   rcases q with ⟨k,e⟩ | ⟨k,c,e,z⟩
   ·refine .inl ⟨k,?_⟩
    have:y≠x:=λe=>hj (qv hN e1 (e ▸ hi))
    simp [this,e]
   ·exact .inr ⟨k,c,e,z.sameBut hs (cne y c e)⟩
 ·obtain ⟨w',z⟩:=I.cell y c e
  exact ⟨w',z.sameBut hs (cne y c e)⟩
 ·obtain ⟨e,n,ne,nf,d⟩:=I.pin p hp
  exact ⟨(hs.2 p.1 ne).trans e,n,ne,nf,d⟩
noncomputable def dr (e:Addr) (cls:Value) (h:Heap):Prop:=∃ oe,h.get? e=some oe/\oe.cls=cls
theorem ZiY {A:Around} {H0:Hp} {s0:Shared} {b':Heap} {e t:Addr} {cls:Value} {Q:Unit->Shared->Prop} {E:Value->Shared->Prop}
  (I0:Inv X pins σ H0 s0) (I:Inv X pins σ H s) (un:Un (frs X.stack) [] H0 H s0.heap s.heap) (he:H e=none) (fl:Heap.FlyingW b' X.stack e cls (.ref t) s.heap) (hf:∀ c,b'.get? c=none->c ∉ frs X.stack->s0.heap.get? c=none)
  (hb:∀ b,H b≠none->∃ o',b'.get? b=some o') (hos:s.os=s0.os)
  (k:∀ h',Inv X pins σ (upd H e (.ext (dr e cls))) { s with heap:=h' }->Q () { s with heap:=h' }):wpAny (model X.prog X.w) A (setFlight (.ref e) none) Q E s:=by
 obtain ⟨T,hT,⟨oT,ts,hoT,hdT⟩,⟨oe,vs,hoe,hoc,hod⟩,fl'⟩:=rebase fl
 have hst:∀ b∈frs X.stack,H b=none:=I.stkFree
 have nof:∀ {b:Addr} {o:Obj} {us:Array Value},s.heap.get? b=some o->o.data=.fields us->b ∉ frs X.stack:=λ{b o us} h1 h2 z=>by
  obtain ⟨_,o',ho',hd⟩:=fl.2.2.1.mem z
  rw [h1] at ho'
  cases ho'
  exact hd us h2
 refine lands_againW fl' λh₅ fl₅ ups=>?_
 have stay:∀ b o,s.heap.get? b=some o->b ∉ frs X.stack->b ∉ [e,T]->h₅.get? b=some o:=λb o hb hn hx=>fl₅.1 b o (by
  rw [dk]
  ·exact hb
  ·intro z
   rcases List.mem_cons.mp z with z | z
   ·exact hx (by simp [z])
   ·rcases List.mem_cons.mp z with z | z
    ·exact hx (by simp [z])
    ·exact hn z)
 have slot:∀ b o,s.heap.get? b=some o->b∈frs X.stack->∃ sl,h₅.get? b=some { o with slots:=sl }:=λb o hb hn=>by
  obtain ⟨_,o',ho',hd⟩:=fl.2.2.1.mem hn
  rw [hb] at ho'
  cases ho'
  exact ups b o hb hd
 have hTn:H T=none:=by
  cases e1:H T with
  | none=>rfl
  | some u =>
   obtain ⟨o',e2⟩:=hb T (by rw [e1]; simp)
   rw [hT] at e2; cases e2
 have un5:Un (frs X.stack) [e,T] H H s.heap h₅:=⟨λb o hb hn hf hx=>stay b o hb hf hx,λb o hb hn hf hx=>slot b o hb hf,λb o hb hn hx=>hn,λb o hb hx=>by
  by_cases hq:b∈frs X.stack
  ·obtain ⟨sl,e1⟩:=slot b o hb hq
   exact ⟨_,e1⟩
  ·exact ⟨o,stay b o hb hq hx⟩,λ_ _ z=>z,λ_ _ _ z=>z,λb ps z=>⟨#[],by rw [z,Array.append_empty]⟩⟩
 have hok5:HOk X.prog X.w H h₅:=HOk.tracked I.hok λb u hb q=>stay b u q (λz=>hb (hst b z)) λz=>by
  rcases List.mem_cons.mp z with z | z
  ·subst z; exact hb he
  ·rcases List.mem_cons.mp z with z | z
   ·subst z; exact hb hTn
   ·cases z
 have un':=un.skip un5 λc hc=>by
  rcases List.mem_cons.mp hc with z | z
  ·subst z; exact hf c fl.2.1 (nof hoe hod)
  ·rcases List.mem_cons.mp z with z | z
   ·subst z; exact hf c hT (nof hoT hdT)
   ·cases z
 obtain ⟨oe5,hoe5,hoc5⟩:=fl₅.there
 have hs0:s0.heap.get? e=none:=hf e fl.2.1 (nof hoe hod)
 have ne0:∀ {b:Addr} {o:Obj},s0.heap.get? b=some o->b≠e:=λ{b o} h1 z=>by rw [z,hs0] at h1; cases h1
 have nH:∀ {b:Addr} {o:HO},H b=some o->b≠e:=λ{b o} h1 z=>by rw [z,he] at h1; cases h1
 have un2:Un (frs X.stack) [] H0 (upd H e (.ext (dr e cls))) s0.heap h₅:=⟨un'.keep,un'.slot,λb o hb hn hx=>by rw [aJ (ne0 hb)]; exact un'.free b o hb hn hx,un'.there,
  λb xs z=>by rw [aJ (nH (un'.tups b xs z))]; exact un'.tups b xs z,λb o u z=>by rw [aJ (nH (un'.frzs b o u z))]; exact un'.frzs b o u z,λb ps z=>by
   obtain ⟨m,z⟩:=un'.tbls b ps z
   exact ⟨m,by rw [aJ (nH z)]; exact z⟩⟩
 have hok2:HOk X.prog X.w (upd H e (.ext (dr e cls))) h₅:=λb o hb=>by
  by_cases hbe:b=e
  ·subst hbe
   rw [bP] at hb
   cases hb
   exact ⟨⟨oe5,hoe5,hoc5⟩,⟨oe5,hoe5⟩,λh1 h2 ⟨o1,e1,c1⟩ kk=>⟨o1,kk o1 e1,c1⟩⟩
  ·rw [aJ hbe] at hb
   exact (hok5 b o hb).stay (λ_ _ _ q=>q) (λc z=>by rw [aJ (nH z)]; exact z) (λc xs z=>by rw [aJ (nH z)]; exact z) λc ob xs _ z _=>by rw [aJ (nH z)]; exact z
 exact k h₅ (I0.call' (s':={ s with heap:=h₅ }) hos un2 hok2 I.bare λb hb=>absurd hb (by simp))
end
noncomputable abbrev Cx.marked (X:Cx) (ea:Addr):Cx:={ X with A:=X.A.mark (some (.ref ea)),calm:=false,xe:=λ_ _=>False }
theorem Inv.marked {X:Cx} {pins:List (Addr×Obj)} {σ:St} {H:Hp} {s:Shared} (I:Inv X pins σ H s) (ea:Addr):Inv (X.marked ea) pins σ H s :=
 ⟨⟨I.ok.mod,I.ok.kind,I.ok.glob,I.ok.blt,I.ok.above,I.ok.inj,I.ok.has,I.ok.cab,λz=>(by cases z),I.ok.frames,I.ok.stk,I.ok.exf,I.ok.bs,I.ok.bsz,I.ok.noex,I.ok.exfs,I.ok.funs,I.ok.frf⟩,I.os,I.bare,I.base,I.loc,I.cell,I.free,I.freeC,I.pin,I.hok,I.len⟩
theorem Inv.unmarked {X:Cx} {pins:List (Addr×Obj)} {σ:St} {H:Hp} {s:Shared} {ea:Addr} (I:Inv (X.marked ea) pins σ H s) (I0:X.Ok):Inv X pins σ H s :=
 ⟨I0,I.os,I.bare,I.base,I.loc,I.cell,I.free,I.freeC,I.pin,I.hok,I.len⟩
structure Under (K:PySem.W.Frag) (C D:Addr):Prop where
 ex:∃ (nm q:Str) (N:Addr) (bs bm:List Value) (hdct:Bool) (sn:List Str) (sub:List Value) (ab:Bool) (col:Option Bool) (dd:Option Addr) (k0 k1 k2 k3 k5:Option Value) (newId:String),K.lookup C=some (excClassObj nm q C N bs bm hdct sn sub ab col dd k0 k1 k2 k3 k5 newId)/\bm.contains (.ref D)=true
 top:∃ (nm q:Str) (N:Addr) (bs bm:List Value) (hdct:Bool) (sn:List Str) (sub:List Value) (ab:Bool) (col:Option Bool) (dd:Option Addr) (k0 k1 k2 k3 k5:Option Value) (newId:String),K.lookup D=some (excClassObj nm q D N bs bm hdct sn sub ab col dd k0 k1 k2 k3 k5 newId)/\bm.contains (.type "BaseException")=true
end L2
namespace PySem
noncomputable def clsNames:List Str:=["__getattribute__","__getattr__","__class__"]
inductive OwnTailN (h:Heap) (bmB:List Value):List Value->Prop
 | base:OwnTailN h bmB bmB
 | own {A:Addr} {c0:Value} {dd:Option Addr} {cd:ClassData} {sl:Array (Option Value)} {mA:Str->Option Value} {tl:List Value} :
   h.get? A=some { cls:=c0,dict:=dd,data:=.cls cd,slots:=sl }->h.Ns cd.ns mA->(∀ n∈clsNames,mA n=none)->OwnTailN h bmB tl->OwnTailN h bmB (.ref A::tl)
theorem OwnTailN.hasType {h:Heap} {bmB tl:List Value} (T:OwnTailN h bmB tl) {X:String} {b:Bool} (hb:bmB.contains (.type X)=b):tl.contains (.type X)=b:=by
 induction T with
 | base=>exact hb
 | own _ _ _ _ ih=>rw [List.contains_cons,ih]; rfl
section
variable {M:Model} {A:Around} {E:Value->Shared->Prop} {h:Heap} {g:Array GenState} {d:Drawn} {t:Nat} {os:OsState}
theorem wpAny_lookupAlong_tailN {bmB tl:List Value} {n:Str} {y:Option Value} {Q:Option Value->Shared->Prop} (hn:n∈clsNames) (T:OwnTailN h bmB tl) (hrest:lookupAlong bmB n=pure y) (hq:Q y ⟨h,g,d,t,os⟩) :
  wpAny M A (lookupAlong tl n) Q E ⟨h,g,d,t,os⟩:=by
 induction T with
 | base=>rw [hrest]; exact wpAny_pure hq
 | own hA hN hni _ ih =>
  rw [lookupAlong_cons]
  refine wpAny_bind (wpAny_classOwn_cls hA hN ?_)
  rw [hni n hn]
  exact ih
variable {nm q:Str} {C N:Addr} {bs bm bmB:List Value} {hdct:Bool} {sn:List Str} {sub:List Value} {ab:Bool} {col:Option Bool} {dd:Option Addr} {k0 k1 k2 k3 k5:Option Value} {B newId:String}
theorem wpAny_typeLookup_tailN {mN:Str->Option Value} {n:Str} {y:Option Value} {Q:Option Value->Shared->Prop} (hn:n∈clsNames)
  (hC:h.get? C=some (excClassObj nm q C N bs bm hdct sn sub ab col dd k0 k1 k2 k3 k5 newId)) (hN:h.Ns N mN) (hmN:∀ n∈clsNames,mN n=none) (T:OwnTailN h bmB bm) (hbm:mroOf (.type B)=pure bmB)
  (hB:typeLookup (.type B) n=pure y) (hq:Q y ⟨h,g,d,t,os⟩):wpAny M A (typeLookup (.ref C) n) Q E ⟨h,g,d,t,os⟩:=by
 have hrest:lookupAlong bmB n=pure y:=by rw [typeLookup_eq,hbm] at hB; exact hB
 rw [typeLookup_eq]
 refine wpAny_bind (wpAny_mroOf_exc hC ?_)
 rw [lookupAlong_cons]
 refine wpAny_bind (wpAny_classOwn_exc hC hN ?_)
 rw [hmN n hn]
 exact wpAny_lookupAlong_tailN hn T hrest hq
end
section
variable {prog:Program} {w:World} {A:Around} {E:Value->Shared->Prop} {h:Heap} {g:Array GenState} {d:Drawn} {t:Nat} {os:OsState} {a:Addr} {o:Obj}
 {nm q:Str} {C N:Addr} {bs bm bmB:List Value} {hdct:Bool} {sn:List Str} {sub:List Value} {ab:Bool} {col:Option Bool} {dd:Option Addr} {k0 k1 k2 k3 k5:Option Value} {B newId:String} {mN:Str->Option Value}
theorem class_get_exc {R:Result->Shared->Prop} (hC:h.get? C=some (excClassObj nm q C N bs bm hdct sn sub ab col dd k0 k1 k2 k3 k5 newId)) (hob:bm.contains (.type "object")=true)
  (hx:h.get? a=some o) (hc:o.cls=.ref C) (hq:R (.ok (.ret (.ref C))) ⟨h,g,d,t,os⟩) :
  codeAny (model prog w) A (.call (.builtin "getset_descriptor.__get__") ⟨[.builtin "object.__class__",.ref a,.ref C],[]⟩) R ⟨h,g,d,t,os⟩:=by
 have hT5:(⟨h,g,d,t,os⟩:Shared).TypeIs (.builtin "object.__class__") "getset_descriptor":=F.typeOf_object_class
 have hcB:(Value.ref C::bm).contains (.type (".".intercalate ("object.__class__".cutAt '.').dropLast))=true:=by
  rw [F.owner_object_class,List.contains_cons,hob]; rfl
 refine codeAny_call_builtin F.slot_gs_get.plain F.entry_gs_get (F.slot_gs_get.check _ _ _ _ _ _ _ _ hT5 (F.args_gs_get _ _ _) ?_)
 repeat (any_goals (first | assumption | (with_reducible refine wpAny_loadPart_at hx ?_; rw [hc]) | (with_reducible refine wpAny_isSubtype_exc hC ?_; rw [hcB]) | wp_step))
 refine ⟨Code.quiet_builtin _ (by decide +kernel),codeAny_builtin F.entry_object_class ?_⟩
 repeat (any_goals (first | assumption | (with_reducible refine wpAny_loadPart_at hx ?_; rw [hc]) | wp_step))
theorem class_entry_exc {tk:Tok} {Q:Fin->Shared->Prop} (hC:h.get? C=some (excClassObj nm q C N bs bm hdct sn sub ab col dd k0 k1 k2 k3 k5 newId)) (hob:bm.contains (.type "object")=true) (hN:h.Ns N mN)
  (hmN:∀ n∈clsNames,mN n=none) (T:OwnTailN h bmB bm) (hmro:mroOf (.type B)=pure bmB) (hlk:typeLookup (.type B) "__class__"=pure (some (.builtin "object.__class__"))) (hx:h.get? a=some o) (hc:o.cls=.ref C) (hq:Q (.done (.ret (.ref C))) ⟨h,g,d,t,os⟩) :
  wpAny (model prog w) A (Builtin.«object.__getattribute__» ⟨[.ref a,.str "__class__" tk],[]⟩) Q E ⟨h,g,d,t,os⟩:=by
 have hT5:(⟨h,g,d,t,os⟩:Shared).TypeIs (.builtin "object.__class__") "getset_descriptor":=F.typeOf_object_class
 have f5:=F.typeOf_object_class
 have f6:=F.slot_gs_get.lookup
 have f7:=F.slot_gs_set.lookup
 have hmA:("__class__":Str)∈clsNames:=.tail _ (.tail _ (.head _))
 repeat (any_goals (first | assumption | (with_reducible refine wpAny_loadPart_at hx ?_; rw [hc]) | with_reducible refine wpAny_typeLookup_tailN hmA hC hN hmN T hmro hlk ?_ | wp_step))
 refine class_get_exc hC hob hx hc ?_
 repeat (any_goals (first | assumption | wp_step))
theorem check_ga_exc {M:Model} {nameV:Value} {Q:Unit->Shared->Prop} (hC:h.get? C=some (excClassObj nm q C N bs bm hdct sn sub ab col dd k0 k1 k2 k3 k5 newId)) (hbase:bm.contains (.type "BaseException")=true)
  (hx:h.get? a=some o) (hc:o.cls=.ref C) (hq:Q () ⟨h,g,d,t,os⟩):wpAny M A (checkBuiltinCall "BaseException.__getattribute__" ⟨[.ref a,nameV],[]⟩) Q E ⟨h,g,d,t,os⟩:=by
 have hk:builtinKind "BaseException.__getattribute__"=some .slot:=by decide +kernel
 have hsplit:splitId "BaseException.__getattribute__"=some ("BaseException","__getattribute__"):=by decide +kernel
 have hcB:(Value.ref C::bm).contains (.type "BaseException")=true:=by rw [List.contains_cons,hbase]; rfl
 have ha:=F.args_bexc_ga (.ref a) nameV
 simp only [checkBuiltinCall,hk,hsplit]
 refine wpAny_bind ?_
 ·unfold isInstance
  repeat (first | (with_reducible refine wpAny_loadPart_at hx ?_; rw [hc]) | (with_reducible refine wpAny_isSubtype_exc hC ?_; rw [hcB]) | wp_step)
  exact hq
theorem class_by_exc {tk:Tok} {Q:Value->Shared->Prop} (FB:ExcAttrBase B bmB) (hC:h.get? C=some (excClassObj nm q C N bs bm hdct sn sub ab col dd k0 k1 k2 k3 k5 newId)) (hob:bmB.contains (.type "object")=true) (hN:h.Ns N mN)
  (hmN:∀ n∈clsNames,mN n=none) (T:OwnTailN h bmB bm) (hlk:typeLookup (.type B) "__class__"=pure (some (.builtin "object.__class__"))) (hx:h.get? a=some o) (hc:o.cls=.ref C) (hq:Q (.ref C) ⟨h,g,d,t,os⟩) :
  wpAny (model prog w) A (getAttrBy (.ref a) (.str "__class__" tk) false) Q E ⟨h,g,d,t,os⟩:=by
 have f3:=FB.ga.bind (.ref a)
 have hx2:(Value.builtin "BaseException.__getattribute__" == Value.builtin "object.__getattribute__")=false:=by decide +kernel
 have hx1:(onTheHeap (Value.ref C) && Value.builtin "BaseException.__getattribute__" == Value.builtin "object.__getattribute__")=false:=by rw [hx2]; rfl
 have hm1:("__getattribute__":Str)∈clsNames:=.head _
 have hm2:("__getattr__":Str)∈clsNames:=.tail _ (.head _)
 repeat (any_goals (first | assumption | (with_reducible refine wpAny_loadPart_at hx ?_; rw [hc]) | with_reducible refine wpAny_typeLookup_tailN hm1 hC hN hmN T FB.mro FB.ga.lookup ?_ | with_reducible refine wpAny_typeLookup_tailN hm2 hC hN hmN T FB.mro FB.noGetattr ?_ | wp_step))
 refine codeAny_call_builtin FB.ga.plain F.entry_bexc_ga (check_ga_exc hC (T.hasType FB.hasBase) hx hc (class_entry_exc hC (T.hasType hob) hN hmN T FB.mro hlk hx hc ?_))
 repeat (any_goals (first | assumption | wp_step))
theorem class_attr_exc {Q:Option Value->Shared->Prop} (FB:ExcAttrBase B bmB) (hC:h.get? C=some (excClassObj nm q C N bs bm hdct sn sub ab col dd k0 k1 k2 k3 k5 newId)) (hob:bmB.contains (.type "object")=true) (hN:h.Ns N mN)
  (hmN:∀ n∈clsNames,mN n=none) (T:OwnTailN h bmB bm) (hlk:typeLookup (.type B) "__class__"=pure (some (.builtin "object.__class__"))) (hx:h.get? a=some o) (hc:o.cls=.ref C) (hq:Q (some (.ref C)) ⟨h,g,d,t+1,os⟩) :
  wpAny (model prog w) A (getAttr? (.ref a) "__class__") Q E ⟨h,g,d,t,os⟩:=by
 unfold getAttr? getAttrBy?
 repeat (any_goals (first | assumption | with_reducible apply class_by_exc FB hC hob hN hmN T hlk hx hc | wp_step))
end
end PySem
namespace L2
open PySem PySem.Spec PyProof.Rows
structure Xci (K:PySem.W.Frag) (C:Addr) (bmB:List Value):Prop where
 ex:∃ (nm q:Str) (N:Addr) (bs bm:List Value) (hdct:Bool) (sn:List Str) (sub:List Value) (ab:Bool) (col:Option Bool) (dd:Option Addr) (k0 k1 k2 k3 k5:Option Value) (newId:String) (mN:Str->Option Value),
  K.lookup C=some (excClassObj nm q C N bs bm hdct sn sub ab col dd k0 k1 k2 k3 k5 newId)/\(∀ h:Heap,K.In h->h.Ns N mN/\OwnTailN h bmB bm)/\∀ n∈clsNames,mN n=none
theorem qK:typeLookup (.type "ValueError") "__class__"=pure (some (.builtin "object.__class__")):=by rw [typeLookup_type,builtinLookup_eq_fast]; kernel_rfl
theorem qZ {K:PySem.W.Frag} {ea C:Addr} {B:String} {bmB:List Value} (c:Xci K C bmB) (FB:ExcAttrBase B bmB) (hob:bmB.contains (.type "object")=true) (hlk:typeLookup (.type B) "__class__"=pure (some (.builtin "object.__class__"))) :
  PySem.W.KitX K (.ref ea) (.ref C) (dr ea (.ref C)) where
 ty:=λM h _ p=>by
  obtain ⟨o,h1,h2⟩:=p
  exact h2 ▸ (PySem.W.Looks.ld h1).andThen .now
 it:=λ_ _ X _=>by
  obtain ⟨nm,q,N,bs,bm,hdct,sn,sub,ab,col,dd,k0,k1,k2,k3,k5,newId,mN,lk,_⟩:=c.ex
  intro A' Q' E' s' k q
  unfold isType loadHead
  exact wpAny_bind (wpAny_loadPart (k _ _ (X _ _ lk)) (wpAny_pure q))
 ne:=λh tp dd its n sl X htp=>by
  obtain ⟨nm,q,N,bs,bm,hdct,sn,sub,ab,col,dd',k0,k1,k2,k3,k5,newId,mN,lk,_⟩:=c.ex
  refine Bool.eq_false_iff.mpr λq=>?_
  have e:C=tp:=Value.ref.inj (beq_iff_eq.mp q)
  subst e
  have z:=(X _ _ lk).symm.trans htp
  have z2:=congrArg (λo=>(o.getD default).cls) z
  exact absurd z2 (by simp)
 ca:=λ{prog w A E Q s} X p k=>by
  obtain ⟨nm,q,N,bs,bm,hdct,sn,sub,ab,col,dd',k0,k1,k2,k3,k5,newId,mN,lk,hn,hmN⟩:=c.ex
  obtain ⟨h,g,d,t,os⟩:=s
  obtain ⟨o,h1,h2⟩:=p
  exact class_attr_exc FB (X _ _ lk) hob (hn _ X).1 hmN (hn _ X).2 hlk h1 h2 k
section
variable {X:Cx} {C:Addr} {B:String} {bmB:List Value}
theorem ZoR (c:Xci X.K C bmB) (FB:ExcAttrBase B bmB) (hob:bmB.contains (.type "object")=true) (hlk:typeLookup (.type B) "__class__"=pure (some (.builtin "object.__class__"))) :
  CallR X (.builtin "isinstance") (λxs H Q=>∃ ea D b,xs=[.ref ea,.ref D]/\H ea=some (.ext (dr ea (.ref C)))/\PySem.W.kitOne X.K (.ref C) (.ref D)=some b/\Q (.bl b) H):=by
 intro pins s σ H xs us Q I r h
 obtain ⟨ea,D,b,rfl,he,e,q⟩:=h
 obtain ⟨u,v,rfl,ru,rv⟩:=kb r
 cases ru
 cases rv
 have p:dr ea (.ref C) s.heap:=(I.hok ea _ he).1
 exact PySem.W.kia_one (qZ c FB hob hlk) I.kIn p e (λz=>nomatch z) λtk=>⟨.bl b,H,I.tok tk,rfl,q⟩
theorem ZoQ (c:Xci X.K C bmB) (FB:ExcAttrBase B bmB) (hob:bmB.contains (.type "object")=true) (hlk:typeLookup (.type B) "__class__"=pure (some (.builtin "object.__class__"))) :
  CallR X (.builtin "isinstance") (λxs H Q=>∃ ea T b,xs=[.ref ea,.ty T]/\H ea=some (.ext (dr ea (.ref C)))/\PySem.W.kitOne X.K (.ref C) (.type T)=some b/\Q (.bl b) H):=by
 intro pins s σ H xs us Q I r h
 obtain ⟨ea,T,b,rfl,he,e,q⟩:=h
 obtain ⟨u,v,rfl,ru,rv⟩:=kb r
 cases ru
 cases rv
 have p:dr ea (.ref C) s.heap:=(I.hok ea _ he).1
 exact PySem.W.kia_one (qZ c FB hob hlk) I.kIn p e (λz=>nomatch z) λtk=>⟨.bl b,H,I.tok tk,rfl,q⟩
theorem Zap:∀ {ds:List Addr} {us:List Value},Vals (ds.map V.ref) us->us=ds.map Value.ref
 | [],_,r=>by cases r; rfl
 | d::ds,_,r=>by
  cases r with
  | cons r1 rr =>
   cases r1
   rw [Zap rr]
   rfl
theorem ZoP (c:Xci X.K C bmB) (FB:ExcAttrBase B bmB) (hob:bmB.contains (.type "object")=true) (hlk:typeLookup (.type B) "__class__"=pure (some (.builtin "object.__class__"))) :
  CallR X (.builtin "isinstance") (λxs H Q=>∃ (ea tp:Addr) (ds:List Addr) (b:Bool),xs=[.ref ea,.ref tp]/\H ea=some (.ext (dr ea (.ref C)))/\H tp=some (.tup (ds.map V.ref))/\PySem.W.kitAny X.K (.ref C) (ds.map Value.ref)=some b/\Q (.bl b) H):=by
 intro pins s σ H xs us Q I r h
 obtain ⟨ea,tp,ds,b,rfl,he,ht,e,q⟩:=h
 obtain ⟨u,v,rfl,ru,rv⟩:=kb r
 cases ru
 cases rv
 have p:dr ea (.ref C) s.heap:=(I.hok ea _ he).1
 obtain ⟨_,its,rr,o,ho,hoc,n,hod⟩:=(show ObjOk X.prog X.w H s.heap tp (.tup (ds.map V.ref)) from I.hok tp _ ht)
 have hits:=Zap rr
 subst hits
 obtain ⟨oc,od,odt,osl⟩:=o
 cases hoc
 cases hod
 exact PySem.W.kia_tup (qZ c FB hob hlk) I.kIn p ho e (λz=>nomatch z) λtk=>⟨.bl b,H,I.tok tk,rfl,q⟩
end
structure CalleeX (P:Program) (w:World) (K:PySem.W.Frag) (mg:Str->Option Value) (base:Heap) (x:Str) (k:Nat) (ps:List Str) (sp:Sp):Prop where
 ex:∃ f fd,FnOk P w K mg base (bQ P w) k f fd ps sp/\mg x=some (.ref f)/\PySem.W.keepIn K (.ref f)=true/\Binds K fd ps []
theorem Def.okX {P:Program} {w:World} {K:PySem.W.Frag} {mg:Str->Option Value} {base:Heap} {x:Str} {st:Stmt} {N ps:List Str} {k:Nat} {sp:Sp} (D:Def K mg x st ps) (S:FnScope N ps (aB st)) (len:∀ vs H Q E,sp vs H Q E->vs.length=ps.length)
  (hbody:∀ (f:Addr) (cdv:Value) (A:Around) (outer:List Env) (s:Shared) (H:Hp) (vs:List V) (Q:VK) (E:XK),Room k (A.deeper (envOfC x (aB st) s.heap.objs.size f cdv))->sp vs H Q E ->
   ∃ t,PSs (cE (bQ P w) P w K mg base N x (aB st) f cdv A outer s H E) (fe st) t/\t { nx:=λ_ H'=>Q .non H',rt:=Q } (start N vs) H):CalleeX P w K mg base x (k+1) ps sp:=by
 obtain ⟨f,fd,F,hm,hb⟩:=D.ex
 obtain ⟨oc,od,kV,doc,pm,an,cdv,ct,osl,rfl,lk,hcd⟩:=F.ex
 exact ⟨f,_,Zc0 lk hcd S len λA outer s H vs Q E hr hsp=>hbody f cdv A outer s H vs Q E hr hsp,hm,F.kp,hb⟩
end L2
namespace L2
open PySem PySem.Spec PyProof.Rows PySem.W
theorem Zpb:bootBuiltins "ValueError"=some (.type "ValueError"):=by decide +kernel
noncomputable def fi:List Value:=[.type "ValueError",.type "Exception",.type "BaseException",.type "object"]
noncomputable def lE (K:Frag) (bmB:List Value):List Value->Bool
 | []=>bmB == []
 | v::r=>(v::r) == bmB || match v with
  | .ref A=>(match K.lookup A with
   | some ⟨_,_,.cls cd,_⟩=>nsOkIn K cd.ns && (nsIn K cd.ns "__getattribute__" == some none && nsIn K cd.ns "__getattr__" == some none && nsIn K cd.ns "__class__" == some none) && lE K bmB r
   | _=>false)
  | _=>false
theorem ZdU {m:Str->Option Value} (a:m "__getattribute__"=none) (b:m "__getattr__"=none) (c:m "__class__"=none):∀ n∈clsNames,m n=none:=by
 intro n hn
 unfold clsNames at hn
 simp only [List.mem_cons,List.not_mem_nil,or_false] at hn
 rcases hn with rfl | rfl | rfl
 ·exact a
 ·exact b
 ·exact c
theorem Zau {K:Frag} {h:Heap} {bmB:List Value} (X:K.In h):∀ {l:List Value},lE K bmB l=true->OwnTailN h bmB l
 | [],e=>by rw [<- beq_iff_eq.mp e]; exact .base
 | v::r,e=>by
  unfold lE at e
  rcases Bool.or_eq_true_iff.mp e with q | q
  ·rw [beq_iff_eq.mp q]; exact .base
  ·split at q
   ·split at q
    ·rename_i ho
     simp only [Bool.and_eq_true,beq_iff_eq] at q
     exact .own (X _ _ ho) (.of_isNs (isNs_of_in X q.1.1)) (ZdU (nsMap_none_of_in X q.1.1 q.1.2.1.1) (nsMap_none_of_in X q.1.1 q.1.2.1.2) (nsMap_none_of_in X q.1.1 q.1.2.2)) (Zau X q.2)
    ·cases q
   ·cases q
noncomputable def ft (K:Frag) (C:Addr) (bmB:List Value) (newId:String):Bool:=match K.lookup C with
 | some ⟨.type "type",_,.cls cd,sl⟩=>(match cd.mro,sl.toList with
  | .ref C'::bm,[_,_,_,_,some (.builtin n),_]=>C' == C && n == newId && !cd.hasDel && tailIn K bmB bm && lE K bmB bm && nsOkIn K cd.ns && nsIn K cd.ns "__init__" == some none
    && nsIn K cd.ns "__getattribute__" == some none && nsIn K cd.ns "__getattr__" == some none && nsIn K cd.ns "__class__" == some none && bm.contains (.type "BaseException")
  | _,_=>false)
 | _=>false
noncomputable def mQ (K:Frag) (C D:Addr):Bool:=match K.lookup C with
 | some ⟨_,_,.cls cd,_⟩=>cd.mro.tail.contains (.ref D)
 | _=>false
theorem Zig {K:Frag} {N:Addr} {h h':Heap} {m:Str->Option Value} (X:K.In h) (X':K.In h') (e:nsOkIn K N=true) (n:h.Ns N m):h'.Ns N m:=by
 obtain ⟨o,es,ep,ho,r⟩:=n
 refine ⟨o,es,ep,?_,r⟩
 unfold nsOkIn at e
 cases hl:K.lookup N with
 | none=>rw [hl] at e; cases e
 | some u =>
  have h1:=X _ _ hl
  rw [ho] at h1
  cases h1
  exact X' _ _ hl
theorem lx {K:Frag} {h:Heap} {C:Addr} {bmB:List Value} {newId:String} (X:K.In h) (q:ft K C bmB newId=true) :
  ∃ (nm q:Str) (N:Addr) (bs bm:List Value) (hdct:Bool) (sn:List Str) (sub:List Value) (ab:Bool) (col:Option Bool) (dd:Option Addr) (k0 k1 k2 k3 k5:Option Value) (mN:Str->Option Value),
  K.lookup C=some (excClassObj nm q C N bs bm hdct sn sub ab col dd k0 k1 k2 k3 k5 newId)/\(∀ h:Heap,K.In h->h.Ns N mN/\OwnTail h bmB bm/\OwnTailN h bmB bm)/\mN "__init__"=none/\(∀ n∈clsNames,mN n=none)/\bm.contains (.type "BaseException")=true:=by
 unfold ft at q
 split at q
 ·rename_i dd cd sl ho
  split at q
  ·rename_i C' bm k0 k1 k2 k3 n k5 hm hs
   simp only [Bool.and_eq_true,beq_iff_eq,Bool.not_eq_true'] at q
   obtain ⟨⟨⟨⟨⟨⟨⟨⟨⟨⟨rfl,rfl⟩,hdel⟩,ht⟩,htn⟩,hok⟩,hni⟩,n1⟩,n2⟩,n3⟩,hb⟩:=q
   obtain ⟨nm,bs,mro,ns,qn,hd,sn,sub,ab,col,del⟩:=cd
   dsimp only at hm hdel hok hni n1 n2 n3
   subst hm hdel
   have hsl:sl=#[k0,k1,k2,k3,some (.builtin n),k5]:=by
    obtain ⟨l⟩:=sl
    simp only at hs
    rw [hs]
   subst hsl
   exact ⟨nm,qn,ns,bs,bm,hd,sn,sub,ab,col,dd,k0,k1,k2,k3,k5,_,ho,λh' X'=>⟨Zig X X' hok (.of_isNs (isNs_of_in X hok)),tail_of_in X' ht,Zau X' htn⟩,nsMap_none_of_in X hok hni,ZdU (nsMap_none_of_in X hok n1) (nsMap_none_of_in X hok n2) (nsMap_none_of_in X hok n3),hb⟩
  ·cases q
 ·cases q
theorem ZeN {K:Frag} {h:Heap} {C:Addr} {bmB:List Value} {newId:String} (X:K.In h) (q:ft K C bmB newId=true):Xcl K C bmB newId:=by
 obtain ⟨nm,q,N,bs,bm,hdct,sn,sub,ab,col,dd,k0,k1,k2,k3,k5,mN,lk,hn,hi,hc,hb⟩:=lx X q
 exact ⟨nm,q,N,bs,bm,hdct,sn,sub,ab,col,dd,k0,k1,k2,k3,k5,mN,lk,λh X=>⟨(hn h X).1,(hn h X).2.1⟩,hi,hb⟩
theorem ZeO {K:Frag} {h:Heap} {C:Addr} {bmB:List Value} {newId:String} (X:K.In h) (q:ft K C bmB newId=true):Xci K C bmB:=by
 obtain ⟨nm,q,N,bs,bm,hdct,sn,sub,ab,col,dd,k0,k1,k2,k3,k5,mN,lk,hn,hi,hc,hb⟩:=lx X q
 exact ⟨nm,q,N,bs,bm,hdct,sn,sub,ab,col,dd,k0,k1,k2,k3,k5,newId,mN,lk,λh X=>⟨(hn h X).1,(hn h X).2.2⟩,hc⟩
theorem Zfg {K:Frag} {h:Heap} {C D:Addr} {bmB:List Value} {newId:String} (X:K.In h) (q:ft K C bmB newId=true) (q':ft K D bmB newId=true) (u:mQ K C D=true):Under K C D:=by
 obtain ⟨nm,qq,N,bs,bm,hdct,sn,sub,ab,col,dd,k0,k1,k2,k3,k5,mN,lk,hn,hi,hc,hb⟩:=lx X q
 obtain ⟨nm',qq',N',bs',bm',hdct',sn',sub',ab',col',dd',j0,j1,j2,j3,j5,mN',lk',hn',hi',hc',hb'⟩:=lx X q'
 refine ⟨⟨nm,qq,N,bs,bm,hdct,sn,sub,ab,col,dd,k0,k1,k2,k3,k5,newId,lk,?_⟩,⟨nm',qq',N',bs',bm',hdct',sn',sub',ab',col',dd',j0,j1,j2,j3,j5,newId,lk',hb'⟩⟩
 unfold mQ at u
 rw [lk] at u
 exact u
structure Exc (K:Frag) (C D:Addr) (ds:List Addr):Prop where
 cl:Xcl K C fi "ValueError.__new__"
 ci:Xci K C fi
 un:Under K C D
 vt:kitOne K (.ref C) (.type "ValueError")=some true
 any:kitAny K (.ref C) (ds.map Value.ref)=some false
theorem Zj5 {K:Frag} {h:Heap} {C D:Addr} {ds:List Addr} (X:K.In h) (q:ft K C fi "ValueError.__new__"=true) (q':ft K D fi "ValueError.__new__"=true) (u:mQ K C D=true) (vt:kitOne K (.ref C) (.type "ValueError")=some true)
  (any:kitAny K (.ref C) (ds.map Value.ref)=some false):Exc K C D ds:=⟨ZeN X q,ZeO X q,Zfg X q q' u,vt,any⟩
theorem Zi2 {K:Frag} {C:Addr}:kitOne K (.ref C) (.ref C)=some true:=by
 unfold kitOne
 rw [if_pos (beq_self_eq_true _)]
end L2
namespace L2
open PySem PySem.Spec PyProof.Rows
mutual
noncomputable def gO:PyData->Bool
 | .none=>false
 | .bool _=>false
 | .int _=>false
 | .str _=>false
 | .list _=>true
 | .tuple xs=>iD xs
 | .dict kvs=>jB kvs
noncomputable def iD:List PyData->Bool
 | []=>false
 | x::xs=>gO x || iD xs
noncomputable def jB:List (PyData×PyData)->Bool
 | []=>false
 | (_,v)::r=>gO v || jB r
end
noncomputable def iw:ap->PyData
 | .inl i=>.int i
 | .inr x=>.str x
theorem ZcP:∀ {ks ds:List PyData},ks.length=ds.length->jB (ks.zip ds)=iD ds
 | [],[],_=>by simp only [List.zip_nil_left,jB,iD]
 | k::ks,d::ds,h=>by
  rw [List.zip_cons_cons,jB,iD,ZcP (Nat.succ.inj h)]
 | [],_::_,h=>by cases h
 | _::_,[],h=>by cases h
theorem Zi3 {P:Program} {w:World} {h:Heap}:∀ {es:List DictEntry} {vs:List (ap×Value)},Pairs (cT P w) es vs->ReadsAll h (es.map (·.key)) (vs.map λq=>iw q.1) []:=by
 intro es vs hp
 induction hp with
 | nil=>exact .nil
 | @cons e kv es kvs h1 h2 _ ih =>
  have h1':iu kv.1 e.key=true:=h1
  rcases fH h1' with ⟨i,t,e1,e2⟩ | ⟨x,t,e1,e2⟩
  ·rw [List.map_cons,List.map_cons,e1,e2]
   exact ReadsAll.cons (as:=[]) (bs:=[]) (.int i t) ih
  ·rw [List.map_cons,List.map_cons,e1,e2]
   exact ReadsAll.cons (as:=[]) (bs:=[]) (.str x t) ih
theorem ZhI {P:Program} {w:World} {es:List DictEntry} {vs:List (ap×Value)} (hp:Pairs (cT P w) es vs):es.map (·.val)=vs.map (·.2):=by
 induction hp with
 | nil=>rfl
 | @cons e kv es kvs h1 h2 _ ih=>rw [List.map_cons,List.map_cons,h2,ih]
theorem Zi0:∀ {ks:List (ap×V)} {vs:List (ap×Value)},KV ks vs->Vals (ks.map (·.2)) (vs.map (·.2))/\(ks.map (·.1))=vs.map (·.1):=by
 intro ks vs kv
 unfold KV at kv
 induction kv with
 | nil=>exact ⟨.nil,rfl⟩
 | cons h _ ih=>exact ⟨.cons h.2 ih.1,by rw [List.map_cons,List.map_cons,h.1,ih.2]⟩
theorem Zaa:∀ {ks ds:List PyData},ks.length=ds.length->(ks.zip ds).map (·.1)=ks/\(ks.zip ds).map (·.2)=ds
 | [],[],_=>⟨rfl,rfl⟩
 | k::ks,d::ds,h=>by
  obtain ⟨h1,h2⟩:=Zaa (Nat.succ.inj h)
  rw [List.zip_cons_cons,List.map_cons,List.map_cons,h1,h2]
  exact ⟨rfl,rfl⟩
 | [],_::_,h=>by cases h
 | _::_,[],h=>by cases h
mutual
/-- data without lists -/
theorem Dn.readsD {P:Program} {w:World} {H:Hp} {h:Heap} (ok:HOk P w H h):∀ {v:V} {d:PyData} {u:Value},Dn H v d->gO d=false->RelV v u->∃ as,Reads h u d as/\∀ b∈as,b≠sysModules
 | _,_,_,.non,_,r=>by cases r; exact ⟨_,.none,λb hb=>nomatch hb⟩
 | _,_,_,.bl b,_,r=>by cases r; exact ⟨_,.bool b,λb hb=>nomatch hb⟩
 | _,_,_,.int i,_,r=>by obtain ⟨t,rfl⟩:=r; exact ⟨_,.int i t,λb hb=>nomatch hb⟩
 | _,_,_,.str x,_,r=>by obtain ⟨t,rfl⟩:=r; exact ⟨_,.str x t,λb hb=>nomatch hb⟩
 | _,_,_,.tup e rs,hd,r=>by
  cases r
  obtain ⟨z,its,rv,o,h1,h2,n,h3⟩:=ok _ _ e
  obtain ⟨as,q,hq⟩:=DnAll.readsD ok rs (by rw [gO] at hd; exact hd) rv
  exact ⟨_,.tuple h1 h2 h3 (by simpa using q),hq⟩
 | _,_,_,.lst e rs,hd,r=>by rw [gO] at hd; cases hd
 | _,_,_,.dct (ks:=ks) (ds:=ds) e rs,hd,r=>by
  cases r
  obtain ⟨z,hsys,vs,kv,o,es,ep,h1,⟨h2,_⟩,h3,_,hp,_⟩:=e.ok ok
  obtain ⟨k1,k2⟩:=Zi0 kv
  have hl:(ks.map λk=>iw k.1).length=ds.length:=by
   have:=rs.length
   rw [List.length_map] at this ⊢
   exact this
  have hd2:jB ((ks.map λk=>iw k.1).zip ds)=false:=by rw [gO] at hd; exact hd
  rw [ZcP hl] at hd2
  obtain ⟨as,q,hq⟩:=DnAll.readsD ok rs hd2 k1
  obtain ⟨z1,z2⟩:=Zaa hl
  have k3:(ks.map λk=>iw k.1)=vs.map λq=>iw q.1:=by
   have:=congrArg (List.map iw) k2
   rw [List.map_map,List.map_map] at this
   exact this
  show ∃ as,Reads h _ (.dict ((ks.map λk=>iw k.1).zip ds)) as/\_
  refine ⟨_,.dict (as:=[]) (bs:=as) h1 h2 h3 ?_ ?_,λb hb=>?_⟩
  ·rw [z1,k3]
   exact Zi3 hp
  ·rw [z2,ZhI hp]
   exact q
  ·rcases List.mem_append.mp hb with hb | hb
   ·rw [List.mem_singleton] at hb
    rw [hb]
    exact beq_eq_false_iff_ne.mp hsys
   ·exact hq b hb
theorem DnAll.readsD {P:Program} {w:World} {H:Hp} {h:Heap} (ok:HOk P w H h):∀ {vs:List V} {ds:List PyData} {us:List Value},DnAll H vs ds->iD ds=false->Vals vs us->∃ as,ReadsAll h us ds as/\∀ b∈as,b≠sysModules
 | _,_,_,.nil,_,r=>by cases r; exact ⟨_,.nil,λb hb=>nomatch hb⟩
 | _,_,_,.cons p t,hd,r=>by
  cases r with
  | cons r1 r2 =>
   rw [iD,Bool.or_eq_false_iff] at hd
   obtain ⟨as,q,hq⟩:=Dn.readsD ok p hd.1 r1
   obtain ⟨bs,q2,hq2⟩:=DnAll.readsD ok t hd.2 r2
   refine ⟨_,.cons q q2,λb hb=>?_⟩
   rcases List.mem_append.mp hb with hb | hb
   ·exact hq b hb
   ·exact hq2 b hb
end
noncomputable def Zbo (xs:List V) (H:Hp) (Q:VK):Prop:=∃ v d,xs=[v]/\Dn H v d/\(d.hasDict=false\/gO d=false)/\d.showable=true/\d.depth<=32/\d.shown.length<=sizeLine/\Q (.str d.shown) H
theorem jL {X:Cx} {k:Nat} (hr:Room k X.A):CallR X (.builtin "repr") Zbo:=by
 intro pins s σ H xs us Q I r h
 obtain ⟨v,d,rfl,hd,hor,hs,hdp,hz,q⟩:=h
 obtain ⟨u,rfl,ru⟩:=dE r
 have hun:=hr.units
 have key:∀ (as:List Addr),Reads s.heap u d as->(d.hasDict=true->sysModules ∉ as)->wpAny (model X.prog X.w) X.A (call (.builtin "repr") [u]) (EP X pins σ Q) X.xe s:=by
  intro as rd hsm
  have viaRef:∀ {a:Addr},u=.ref a->wpAny (model X.prog X.w) X.A (call (.builtin "repr") [u]) (EP X pins σ Q) X.xe s:=λ{a} e=>by
   subst e
   exact repr_of_reads' rd hs hsm hr.gd (by omega) (λ_ _ e=>e) (λh' u' tk hk=>⟨.str d.shown,H,I.kept hk,⟨_,rfl⟩,q⟩) hz
  cases rd with
  | none=>exact PySem.P.repr_of_none ⟨.str "None",H,I.tok _,⟨_,rfl⟩,q⟩
  | bool b=>exact PySem.P.repr_of_bool ⟨.str (if b then "True" else "False"),H,I.tok _,⟨_,rfl⟩,q⟩
  | int i t=>exact PySem.P.repr_of_int (by simpa [PyData.showable] using hs) ⟨.str (toString i),H,I.tok _,⟨_,rfl⟩,q⟩
  | str x t=>exact PySem.P.repr_of_str ⟨.str (reprText x),H,I.tok _,⟨_,rfl⟩,q⟩ hz
  | list h1 h2 h3 h4=>exact viaRef rfl
  | tuple h1 h2 h3 h4=>exact viaRef rfl
  | dict h1 h2 h3 h4 h5=>exact viaRef rfl
 rcases hor with hn | hn
 ·obtain ⟨as,rd⟩:=Dn.reads I.hok hd hn ru
  exact key as rd (PyData.noDict_hsm hn)
 ·obtain ⟨as,rd,hsys⟩:=Dn.readsD I.hok hd hn ru
  exact key as rd λ_ hm=>hsys _ hm rfl
noncomputable def mf (d:PyData):Bool:=(!d.hasDict || !gO d) && d.showable && decide (d.depth<=32) && decide (d.shown.length<=sizeLine)
noncomputable def fA:List PyData->Option PyData
 | [d]=>if mf d=true then some (.str d.shown) else none
 | _=>none
theorem i7:df Zbo fA:=λPK pa m G H vs ds d Q w hv hd k=>by
 unfold fA at hd
 split at hd
 ·split at hd
  ·rename_i hc
   unfold mf at hc
   simp only [Bool.and_eq_true,Bool.or_eq_true,decide_eq_true_eq,Bool.not_eq_true'] at hc
   cases hd
   cases hv with
   | cons h1 h2=>cases h2; exact ⟨_,_,rfl,h1.mono w.sub,hc.1.1.1,hc.1.1.2,hc.1.2,hc.2,k.here w (.str _)⟩
  ·cases hd
 ·cases hd
section
variable {PK:Pk} {X:Cx} {pos:Pos} {i j:List Sl->Tr PyData}
theorem Kn.dct {pa:Addr} {m:Nat} {G H:Hp} {ks:List (ap×V)} {ds:List PyData} {Q:VK} {p:Addr} (k:Kn PK pa m G H (.dict ((ks.map λk=>match k.1 with | .inl i=>PyData.int i | .inr x=>PyData.str x).zip ds)) Q) (w:Wd PK pa m G H) (d:DnAll G (ks.map (·.2)) ds) (hp:H p=none):Q (.ref p) (upd H p (.dK ks)):=by
 obtain ⟨w1,s1⟩:=w.new (o:=.dK ks) hp
 exact k _ _ _ s1 w1 (.dct (.inl bP) (DnAll.mono s1.gs d))
theorem ZpB:PE X (.Dict [] [] pos) (TAe PK (aC (.dict []))):=Zhw.imp λσ H Q hz0=>by
 obtain ⟨pa,G₀,H₀,m,ρ,G,R,q⟩:=hz0
 exact λp hp=>Kn.dct (ks:=[]) (ds:=[]) q R.wd .nil hp
noncomputable def Zqb:PyData->PyData->Option PyData
 | .int k,v=>some (.dict [(.int k,v)])
 | _,_=>none
end
noncomputable def d9:List PyData->Option PyData
 | [.int i]=>if i.natAbs.log2 < 1920 then some (.str (toString i)) else none
 | _=>none
theorem i6:df (λxs H Q=>∃ i,xs=[.int i]/\i.natAbs.log2 < 1920/\Q (.str (toString i)) H) d9:=λPK pa m G H vs ds d Q w hv hd k=>by
 unfold d9 at hd
 split at hd
 ·split at hd
  ·rename_i hc
   cases hd
   cases hv with
   | cons h1 h2=>cases h2; cases h1; exact ⟨_,rfl,hc,k.here w (.str _)⟩
  ·cases hd
 ·cases hd
theorem Zc7 {i:Int} (h:i.natAbs.log2 < 1920):bw d9 [.int i]=.ret (.str (toString i)):=by
 show Tr.of (if i.natAbs.log2 < 1920 then some (PyData.str (toString i)) else none)=_
 rw [if_pos h]
 rfl
end L2
namespace PySem
section
variable {prog:Program} {w:World} {A:Around} {E:Value->Shared->Prop} {s:Shared} {a:Addr} {o:Obj} {xs:Array Value} {k:Nat}
end
section
variable {prog:Program} {w:World} {A:Around} {E:Value->Shared->Prop} {s:Shared}
end
section
variable {prog:Program} {w:World} {A:Around} {E:Value->Shared->Prop} {s:Shared}
end
section
variable {K:Type} [DecidableEq K]
end
end PySem
namespace L2
open PySem PySem.Spec PyProof.Rows
section
variable {prog:Program} {w:World} {A:Around} {R:Result->Shared->Prop} {K:Type} [DecidableEq K] {knd:KeyKind prog w K} {kf:Nat->K}
end
section
variable {prog:Program} {w:World} {A:Around} {E:Value->Shared->Prop} {s:Shared} {K:Type} [DecidableEq K] {knd:KeyKind prog w K} {kf:Nat->K}
end
section
variable {PK:Pk} {X:Cx} {a:Expr} {p p2 pos pos2:Pos} {i:List Sl->Tr PyData}
end
noncomputable def plE:Expr->Bool
 | .Starred ..=>false
 | _=>true
theorem ZfM {e:Expr} {es:List Expr} {env:Env} (h:plE e=true):starEach (e::es) env=(false,eval e env)::starEach es env:=by
 cases e <;> first | rfl | cases h
section
variable {X:Cx} {PK:Pk} {e:Expr} {es:List Expr} {i:List Sl->Tr PyData} {is:List Sl->Tr (List PyData)}
theorem aU (ha:PE X e (TAe PK i)) (hr:PA X es (TAd PK is)) (hs:plE e=true:=by rfl):PA X (e::es) (TAd PK (ai i is)):=ao ha hr (ZfM hs)
end
noncomputable def hZ:List PyData->Option (List Str)
 | []=>some []
 | .str x::r=>(hZ r).map (x::·)
 | _::_=>none
noncomputable def iz (sep:Str) (ts:List Str):Bool:=decide (sep.length<=16/\(ts.map (·.length)).sum+ts.length<=1048576)
noncomputable def bL:PyData->PyData->Option PyData
 | .str sep,.list ds=>(hZ ds).bind λts=>if iz sep ts=true then some (.str (Txt.join sep ts)) else none
 | _,_=>none
noncomputable def Zbx:V->List V->Hp->VK->Prop:=λx vs H Q=>∃ sep l ts,x=.str sep/\vs=[.ref l]/\H l=some (.lst (ts.map V.str))/\iz sep ts=true/\Q (.str (Txt.join sep ts)) H
theorem ZaE:∀ {ts:List Str} {us:List Value},Vals (ts.map V.str) us->StrsAre us ts
 | [],_,.nil=>.nil
 | t::ts,_,.cons r h=>by
  obtain ⟨k,rfl⟩:=r
  exact .cons t k (ZaE h)
section
variable {X:Cx}
theorem mP:iR X "str.join" Zbx:=by
 intro pins s σ H x vs v us Q I rx rv h
 obtain ⟨sep,l,ts,rfl,rfl,hH,hz,q⟩:=h
 obtain ⟨t,rfl⟩:=rx
 obtain ⟨u,rfl,ru⟩:=rv.one
 cases ru
 obtain ⟨z,its,n,r,hl,e⟩:=I.lstM hH
 have hz:=of_decide_eq_true hz
 refine join_listW (D:=l) (items:=its.toArray) ⟨_,e,rfl,n,rfl⟩ (ZaE r) hz.1 hz.2 λt' k=>?_
 exact ⟨.str _,H,I.tok _,⟨_,rfl⟩,q⟩
end
theorem Zdq {G:Hp}:∀ {vs:List V} {ds:List PyData} {ts:List Str},DnAll G vs ds->hZ ds=some ts->vs=ts.map V.str:=by
 intro vs ds
 induction ds generalizing vs with
 | nil=>intro ts h e; cases h; cases e; rfl
 | cons d ds ih =>
  intro ts h e
  cases h with
  | cons h1 h2 =>
   cases d with
   | str x =>
    cases h1
    unfold hZ at e
    obtain ⟨ts',e1,rfl⟩:=Option.map_eq_some_iff.mp e
    rw [ih h2 e1]; rfl
   | _=>cases e
section
variable {X:Cx} {PK:Pk} {o e:Expr} {i j:List Sl->Tr PyData} {apos cpos:Pos} {sep:Str}
theorem fj (ho:PE X o (TAe PK (aC (.str sep)))) (he:PE X e (TAe PK j))
  (hbase:attributeBase o "join" X.env (eval o X.env)=eval o X.env:=by rfl)
  (hfew:((backTo cpos (starEach [e] X.env)).all (λx=>!x.1) && (backToKw cpos (keywordEach [] X.env)).all (λx=>x.1.isSome)
   && decide (([e]:List Expr).length+([]:List Keyword).length+(if ([]:List Keyword).isEmpty then 0 else 1) < 30))=true:=by rfl)
  (hline:(apos.endLine == cpos.line)=true:=by rfl) (hs:starEach [e] X.env=(false,eval e X.env)::starEach [] X.env:=by rfl) (hplain:(backTo cpos (starEach [] X.env)).any (·.1)=false:=by rfl) :
  PE X (.Call (.Attribute o "join" apos) [e] [] cpos) (TAe PK (ah bL (aC (.str sep)) j)) :=
 (ik PySem.F.plainAttrs_str PySem.F.slot_str_join PySem.F.type_str_join mP ho (aQ he bC hs) hbase hfew hline hs hplain).imp λσ H Q hz0=>by
  obtain ⟨pa,G₀,H₀,m,ρ,G,R,q⟩:=hz0
  have R0:=R
  refine ⟨pa,G₀,H₀,m,ρ,G,R,?_⟩
  show Kn PK pa m G H (.str sep) _
  intro v G1 H1 s1 w1 d1
  cases d1
  refine ⟨rfl,?_⟩
  have q':((j ρ).bind λy=>Tr.of (bL (.str sep) y)).ok m λm' d=>Kn PK pa m' G H d Q:=q
  refine TAe.then (R.step s1 w1) q' λm2 y u G2 H2 s2 w2 R2 d2 q2=>?_
  obtain ⟨z,hz,k⟩:=Tr.ok_of q2
  cases y with
  | list ds =>
   obtain ⟨ts,e1,e2⟩:=Option.bind_eq_some_iff.mp (show (hZ ds).bind (λts=>if iz sep ts=true then some (PyData.str (Txt.join sep ts)) else none)=some z from hz)
   cases hc:iz sep ts with
   | false=>rw [hc] at e2; cases e2
   | true =>
    rw [hc] at e2
    cases e2
    cases d2 with
    | lst h1 h2 =>
     have:=Zdq h2 e1
     subst this
     exact ⟨sep,_,ts,rfl,rfl,w2.sub _ _ h1,hc,(Kn.later k (s1.trans s2 w1.some) w2.some).here w2 (.str _)⟩
  | _=>cases hz
end
open PySem.Builtin PySem.Builtin.Str in
theorem ZfN {prog:Program} {w:World} {A:Around} {E:Value->Shared->Prop} {s:Shared} {x y:Str} {t u:Tok} {Q:Value->Shared->Prop} (hy:(y.length == 0)=false)
  (hq:∀ (l:List (Str×Tok)) (tk:Nat),l.map (·.1)=Txt.split x y->Q (.ref s.heap.objs.size) { s with toks:=tk,heap:=s.heap.push { cls:=.type "list",data:=.seq (strValues l).toArray } })
  (hsz:x.length<=sizeLine) (hsz2:(partsBetween x (occurrences x y 0 x.length (x.length+1)) y.length).length<=sizeLine) :
  wpAny (model prog w) A (call (.builtin "str.split") [.str x t,.str y u]) Q E s:=by
 cases h1:(decide (x.length < y.length) || decide (strKind x < strKind y))
 ·cases hf:(occurrences x y 0 x.length (x.length+1)).isEmpty
  ·refine call_meets F.slot_str_split (typeIs_str _ _ _) F.entry_str_split (F.args_str_split_2 _ _) (meets_str_split_sep x y t u h1 hy hf hsz hsz2) ?_
   show wants Q E _ { s with toks:=_,heap:=s.heap.push { cls:=.type "list",data:=.seq (strsFrom s.toks (partsBetween x (occurrences x y 0 x.length (x.length+1)) y.length)).toArray } }
   rw [strsFrom_eq]
   exact hq (numbered s.toks _) _ ((numbered_texts _ _).trans ((if_neg (ne_true_of_eq_false h1)).trans (if_neg (ne_true_of_eq_false hf))).symm)
  ·exact call_meets F.slot_str_split (typeIs_str _ _ _) F.entry_str_split (F.args_str_split_2 _ _) (meets_str_split_not_found x y t u h1 hy hf)
    (hq [(x,t)] s.toks ((if_neg (ne_true_of_eq_false h1)).trans (if_pos hf)).symm)
 ·exact call_meets F.slot_str_split (typeIs_str _ _ _) F.entry_str_split (F.args_str_split_2 _ _) (meets_str_split_cannot_occur x y t u h1)
   (hq [(x,t)] s.toks (if_pos h1).symm)
theorem Zan:∀ l:List (Str×Tok),Vals ((l.map (·.1)).map V.str) (strValues l)
 | []=>.nil
 | (x,t)::l=>.cons ⟨t,rfl⟩ (Zan l)
noncomputable def lm (r:V->List V->Hp->VK->Prop) (f:PyData->PyData->Option PyData):Prop:=∀ (PK:Pk) (pa:Addr) (m:Nat) (G H:Hp) (x y:V) (dx dy dz:PyData) (Q:VK),Wd PK pa m G H->Dn G x dx->Dn G y dy->f dx dy=some dz->Kn PK pa m G H dz Q->r x [y] H Q
section
variable {X:Cx} {PK:Pk} {o e:Expr} {i j:List Sl->Tr PyData} {apos cpos:Pos} {name:Str} {id:String} {r:V->List V->Hp->VK->Prop} {f:PyData->PyData->Option PyData}
theorem dW (slot:Slot "str" name id) (hty:typeOf (.builtin id)=pure (.type "method_descriptor")) (hm:iR X id r) (hv:lm r f) (hS:∀ dx dy dz,f dx dy=some dz->∃ x,dx=.str x) (ho:PE X o (TAe PK i)) (he:PE X e (TAe PK j))
  (hbase:attributeBase o name X.env (eval o X.env)=eval o X.env:=by rfl)
  (hfew:((backTo cpos (starEach [e] X.env)).all (λx=>!x.1) && (backToKw cpos (keywordEach [] X.env)).all (λx=>x.1.isSome)
   && decide (([e]:List Expr).length+([]:List Keyword).length+(if ([]:List Keyword).isEmpty then 0 else 1) < 30))=true:=by rfl)
  (hline:(apos.endLine == cpos.line)=true:=by rfl) (hs:starEach [e] X.env=(false,eval e X.env)::starEach [] X.env:=by rfl) (hplain:(backTo cpos (starEach [] X.env)).any (·.1)=false:=by rfl) :
  PE X (.Call (.Attribute o name apos) [e] [] cpos) (TAe PK (ah f i j)) :=
 (ik PySem.F.plainAttrs_str slot hty hm ho (aQ he bC hs) hbase hfew hline hs hplain).imp λσ H Q hz0=>by
  obtain ⟨pa,G₀,H₀,m,ρ,G,R,q⟩:=hz0
  have q':((i ρ).bind λx=>(j ρ).bind λy=>Tr.of (f x y)).ok m λm' d=>Kn PK pa m' G H d Q:=q
  refine ⟨pa,G₀,H₀,m,ρ,G,R,Tr.ok_mono (Tr.ok_bind.mp q') λm1 dx q1 v G1 H1 s1 w1 d1=>?_⟩
  have R1:=R.step s1 w1
  have ty:∀ {dy dz},f dx dy=some dz->kc X.K "str" v H1:=λ{dy dz} e=>by
   obtain ⟨x,rfl⟩:=hS dx dy dz e
   cases d1
   rfl
  have two:(∃ dy,(∃ dz,f dx dy=some dz))\/∀ dy,f dx dy=none:=by
   by_cases h:∃ dy,∃ dz,f dx dy=some dz
   ·exact .inl h
   ·refine .inr λdy=>?_
    cases e:f dx dy with
    | none=>rfl
    | some dz=>exact absurd ⟨dy,dz,e⟩ h
  rcases two with ⟨dy,dz,e⟩ | hn
  ·refine ⟨ty e,?_⟩
   refine TAe.then R1 q1 λm2 y u G2 H2 s2 w2 R2 d2 q2=>?_
   obtain ⟨z,hz,k⟩:=Tr.ok_of q2
   exact hv PK pa m2 G2 H2 v u dx y z Q w2 (d1.mono s2.gs) d2 hz (Kn.later k (s1.trans s2 w1.some) w2.some)
  ·have:((j ρ).bind λy=>(Tr.fail:Tr PyData)).ok m1 λm' d=>Kn PK pa m' G H d Q:=by
    have e:(λy=>Tr.of (f dx y))=λ_=>(Tr.fail:Tr PyData):=funext λy=>by rw [hn y]; rfl
    rw [e] at q1
    exact q1
   exact (Zc4 this).elim
end
open PySem.Builtin.Str in
noncomputable def pC (x y:Str):Bool:=decide (y.length≠0/\x.length<=1048576/\(partsBetween x (occurrences x y 0 x.length (x.length+1)) y.length).length<=1048576/\(Txt.split x y).length<=1048576)
noncomputable def dG:PyData->PyData->Option PyData
 | .str x,.str y=>if pC x y=true then some (.list ((Txt.split x y).map PyData.str)) else none
 | _,_=>none
noncomputable def Zbf:V->List V->Hp->VK->Prop:=λx vs H Q=>∃ a b,x=.str a/\vs=[.str b]/\pC a b=true/\∀ p,H p=none->Q (.ref p) (upd H p (.lst ((Txt.split a b).map V.str)))
theorem fb {n:Nat} (h:n<=1048576):n<=sizeLine:=Nat.le_trans h (by rw [sizeLine_eq]; decide)
section
variable {X:Cx}
theorem gI:iR X "str.split" Zbf:=by
 intro pins s σ H x vs v us Q I rx rv h
 obtain ⟨a,b,rfl,rfl,hok,q⟩:=h
 obtain ⟨t,rfl⟩:=rx
 obtain ⟨u,rfl,ru⟩:=rv.one
 obtain ⟨k,rfl⟩:=ru
 obtain ⟨h1,h2,h3,h4⟩:=of_decide_eq_true hok
 refine ZfN (by simpa using h1) (λl tk e=>?_) (fb h2) (fb h3)
 have hf:H s.heap.objs.size=none:=I.hok.fresh (Nat.le_refl _)
 refine ⟨.ref s.heap.objs.size,_,I.laid (t':=tk) (λb u e=>Heap.get?_push_of_some _ e) (Nat.le_refl _) ?_,rfl,q _ hf⟩
 refine ⟨by rw [List.length_map]; exact fb h4,strValues l,0,?_,Heap.get?_push_size _ rfl⟩
 rw [<- e]
 exact Zan l
end
theorem Zdr {G:Hp}:∀ l:List Str,DnAll G (l.map V.str) (l.map PyData.str)
 | []=>.nil
 | x::l=>.cons (.str x) (Zdr l)
theorem gy:lm Zbf dG:=λPK pa m G H x y dx dy dz Q w hx hy hz k=>by
 unfold dG at hz
 split at hz
 ·rename_i a b
  split at hz
  ·rename_i hc
   cases hz
   cases hx
   cases hy
   exact ⟨a,b,rfl,rfl,hc,λp hp=>k.lst w (Zdr _) hp⟩
  ·cases hz
 ·cases hz
theorem gA:∀ dx dy dz,dG dx dy=some dz->∃ x,dx=.str x:=λdx dy dz h=>by
 unfold dG at h
 split at h
 ·exact ⟨_,rfl⟩
 ·cases h
noncomputable def ig:PyData->PyData->Option PyData
 | .str x,.str y=>if decide (x.length<=1048576)=true then some (.str (Txt.removeprefix x y)) else none
 | _,_=>none
noncomputable def g5:PyData->PyData->Option PyData
 | .str x,.int n=>if PadOk n=true then some (.str (Txt.zfill x n)) else none
 | _,_=>none
noncomputable def Zbm:V->List V->Hp->VK->Prop:=λx vs H Q=>∃ a b,x=.str a/\vs=[.str b]/\a.length<=1048576/\Q (.str (Txt.removeprefix a b)) H
noncomputable def Zbe:V->List V->Hp->VK->Prop:=λx vs H Q=>∃ a n,x=.str a/\vs=[.int n]/\PadOk n=true/\Q (.str (Txt.zfill a n)) H
section
variable {X:Cx}
theorem Ziy:iR X "str.removeprefix" Zbm:=by
 intro pins s σ H x vs v us Q I rx rv h
 obtain ⟨a,b,rfl,rfl,hok,q⟩:=h
 obtain ⟨t,rfl⟩:=rx
 obtain ⟨u,rfl,ru⟩:=rv.one
 obtain ⟨k,rfl⟩:=ru
 exact PySem.SC.removeprefix (λt' k=>⟨.str _,H,I.tok _,⟨_,rfl⟩,q⟩) (fb hok)
theorem Zix:iR X "str.zfill" Zbe:=by
 intro pins s σ H x vs v us Q I rx rv h
 obtain ⟨a,n,rfl,rfl,hok,q⟩:=h
 obtain ⟨t,rfl⟩:=rx
 obtain ⟨u,rfl,ru⟩:=rv.one
 obtain ⟨k,rfl⟩:=ru
 exact PySem.SC.zfill hok λt' k=>⟨.str _,H,I.tok _,⟨_,rfl⟩,q⟩
end
theorem Ze7:lm Zbm ig:=λPK pa m G H x y dx dy dz Q w hx hy hz k=>by
 unfold ig at hz
 split at hz
 ·split at hz
  ·rename_i hc
   cases hz
   cases hx
   cases hy
   exact ⟨_,_,rfl,rfl,of_decide_eq_true hc,k.here w (.str _)⟩
  ·cases hz
 ·cases hz
theorem ZgJ:∀ dx dy dz,ig dx dy=some dz->∃ x,dx=.str x:=λdx dy dz h=>by
 unfold ig at h
 split at h
 ·exact ⟨_,rfl⟩
 ·cases h
theorem Ze6:lm Zbe g5:=λPK pa m G H x y dx dy dz Q w hx hy hz k=>by
 unfold g5 at hz
 split at hz
 ·split at hz
  ·rename_i hc
   cases hz
   cases hx
   cases hy
   exact ⟨_,_,rfl,rfl,hc,k.here w (.str _)⟩
  ·cases hz
 ·cases hz
theorem ZeK:∀ dx dy dz,g5 dx dy=some dz->∃ x,dx=.str x:=λdx dy dz h=>by
 unfold g5 at h
 split at h
 ·exact ⟨_,rfl⟩
 ·cases h
theorem o9:lm Zbx bL:=λPK pa m G H x y dx dy dz Q w hx hy hz k=>by
 unfold bL at hz
 split at hz
 ·rename_i sep ds
  obtain ⟨ts,e1,e2⟩:=Option.bind_eq_some_iff.mp hz
  cases hc:iz sep ts with
  | false=>rw [hc] at e2; cases e2
  | true =>
   rw [hc] at e2
   cases e2
   cases hx
   cases hy with
   | lst h1 h2 =>
    have:=Zdq h2 e1
    subst this
    exact ⟨sep,_,ts,rfl,rfl,w.sub _ _ h1,hc,k.here w (.str _)⟩
 ·cases hz
theorem rb:∀ dx dy dz,bL dx dy=some dz->∃ x,dx=.str x:=λdx dy dz h=>by
 unfold bL at h
 split at h
 ·exact ⟨_,rfl⟩
 ·cases h
noncomputable def ZgY:R2:=λx y H Q=>∃ i j,x=.str i/\y=.str j/\i.length+j.length<=sizeLine/\Q (.str (i++j)) H
noncomputable def aS:PyData->PyData->Option PyData
 | .str x,.str y=>if decide (x.length+y.length<=1048576)=true then some (.str (x++y)) else none
 | x,y=>fk x y
noncomputable def ZbK (K:PySem.W.Frag):R2:=λx y H Q=>ZgY x y H Q\/pS K x y H Q
theorem bp {X:Cx}:OpR X (binaryOp .Add) (ZbK X.K):=Zh2.or Zh3
theorem bn {K:PySem.W.Frag}:b8 (ZbK K) aS:=λPK pa m G H x y dx dy dz Q w hx hy hz k=>by
 unfold aS at hz
 split at hz
 ·split at hz
  ·rename_i hc
   cases hz
   cases hx
   cases hy
   exact .inl ⟨_,_,rfl,rfl,fb (of_decide_eq_true hc),k.here w (.str _)⟩
  ·cases hz
 ·exact .inr (Ze5 PK pa m G H x y _ _ dz Q w hx hy hz k)
noncomputable def cU:List PyData->Option PyData
 | [.str x]=>if decide (x.length<=1048576)=true then some (.int x.length) else none
 | xs=>gk xs
noncomputable def Zbw (K:PySem.W.Frag):List V->Hp->VK->Prop:=λxs H Q=>(∃ z,xs=[.str z]/\z.length<=sizeLine/\Q (.int z.length) H)\/(∃ p ys,xs=[.ref p]/\(SqL K H p ys\/SqT K H p ys)/\Q (.int ys.length) H)
theorem fh {X:Cx}:CallR X (.builtin "len") (Zbw X.K):=ZoO.or iI
theorem eR {K:PySem.W.Frag}:df (Zbw K) cU:=λPK pa m G H vs ds d Q w hv hd k=>by
 unfold cU at hd
 split at hd
 ·split at hd
  ·rename_i hc
   cases hd
   cases hv with
   | cons h1 h2=>cases h2; cases h1; exact .inl ⟨_,rfl,fb (of_decide_eq_true hc),k.here w (.int _)⟩
  ·cases hd
 ·exact .inr (ka PK pa m G H vs _ d Q w hv hd k)
noncomputable def cm:PyData->PyData->Option PyData
 | .str z,.int n=>if decide (z.length<=1048576)=true then (bd z.cps.toList n).map λc=>.str ⟨#[c]⟩ else none
 | x,y=>eD x y
theorem d6 {K:PySem.W.Frag}:b8 (pP K) cm:=λPK pa m G H x y dx dy dz Q w hx hy hz k=>by
 unfold cm at hz
 split at hz
 ·split at hz
  ·rename_i hc
   obtain ⟨c,e,rfl⟩:=Option.map_eq_some_iff.mp hz
   cases hx
   cases hy
   exact .inr (.inr ⟨_,_,c,rfl,rfl,fb (of_decide_eq_true hc),e,k.here w (.str _)⟩)
  ·cases hz
 ·exact gx PK pa m G H x y _ _ dz Q w hx hy hz k
open PySem.Builtin.Str in
noncomputable def gN (x y:Str):Bool:=!(occurrences x y 0 x.length 1).isEmpty
noncomputable def pQ (neg:Bool):R2:=λy x H Q=>∃ i j,y=.str i/\x=.str j/\Q (.bl (if neg then !gN j i else gN j i)) H
theorem ZhW {X:Cx}:OpR X (compareOp .In) (pQ false):=by
 intro pins s σ H x y v u Q I rx ry h
 obtain ⟨i,j,rfl,rfl,q⟩:=h
 obtain ⟨t,rfl⟩:=rx
 obtain ⟨t',rfl⟩:=ry
 exact PySem.P.in_str ⟨.bl _,H,I,rfl,q⟩
theorem ZhP {X:Cx}:OpR X (compareOp .NotIn) (pQ true):=by
 intro pins s σ H x y v u Q I rx ry h
 obtain ⟨i,j,rfl,rfl,q⟩:=h
 obtain ⟨t,rfl⟩:=rx
 obtain ⟨t',rfl⟩:=ry
 exact PySem.P.notIn_str ⟨.bl _,H,I,rfl,q⟩
noncomputable def iB (neg:Bool):PyData->PyData->Option PyData
 | .str y,.str x=>some (.bool (if neg then !gN x y else gN x y))
 | x,y=>k7 neg x y
noncomputable def pR (neg:Bool):R2:=λx y H Q=>pQ neg x y H Q\/mh neg x y H Q
theorem Zb7 {X:Cx} {k:Nat} (hr:Room k X.A):OpR X (compareOp .In) (pR false):=ZhW.or (ZhX hr)
theorem ZhQ {X:Cx} {k:Nat} (hr:Room k X.A):OpR X (compareOp .NotIn) (pR true):=ZhP.or (ZhR hr)
theorem o8 {neg:Bool}:b8 (pR neg) (iB neg):=λPK pa m G H x y dx dy dz Q w hx hy hz k=>by
 unfold iB at hz
 split at hz
 ·cases hz
  cases hx
  cases hy
  exact .inl ⟨_,_,rfl,rfl,k.here w (.bl _)⟩
 ·exact .inr (Ze4 PK pa m G H x y _ _ dz Q w hx hy hz k)
theorem Zb0 {v:Value} {lo:Option Int} (p:IsPart v lo):∃ l:Option (Int×Tok),v=partValue l/\l.map (·.1)=lo:=by
 cases p with
 | none=>exact ⟨none,rfl,rfl⟩
 | int i t=>exact ⟨some (i,t),rfl,rfl⟩
noncomputable def Zbi:V->Option Int->Option Int->Hp->VK->Prop:=λx lo hi H Q=>∃ z,x=.str z/\z.length<=sizeLine/\Q (.str (Txt.slice z lo hi)) H
theorem Zf0 {X:Cx}:SlR X Zbi:=by
 intro pins s σ H x v vl vu lo hi sl Q I rx hs pl pu h
 obtain ⟨z,rfl,hz,q⟩:=h
 obtain ⟨t,rfl⟩:=rx
 obtain ⟨l,rfl,rfl⟩:=Zb0 pl
 obtain ⟨u,rfl,rfl⟩:=Zb0 pu
 refine ⟨"str",_,F.slot_str_getitem.lookup,typeIs_str _ _ _,wpAny_getItem_str_slice (l:=l) (u:=u) (st:=none) ?_ rfl ?_⟩
 ·exact hs
 ·exact post_val_or_str ⟨Nat.le_trans (Txt.slice_le z _ _) hz,λt' k=>⟨.str _,H,I.tok _,⟨_,rfl⟩,q⟩⟩
noncomputable def Zp7 (x:PyData) (lo hi:Option Int):Option PyData:=match x with
 | .str z=>if decide (z.length<=1048576)=true then some (.str (Txt.slice z lo hi)) else none
 | _=>none
section
variable {X:Cx} {PK:Pk} {e:Expr} {i:List Sl->Tr PyData} {p q:dX} {lo hi:Option Expr} {p2 pos:Pos}
end
noncomputable def gB (x:Str) (n:Int):Str:=if (n == 1 || x.length == 0)=true then x else ⟨(List.replicate n.toNat x.cps).foldl (·++·) #[]⟩
theorem rF:∀ (l:List (Array Nat)) (a:Array Nat),(l.foldl (·++·) a).size=a.size+(l.map (·.size)).sum
 | [],a=>by simp
 | x::l,a=>by
  rw [List.foldl_cons,rF l,Array.size_append,List.map_cons,List.sum_cons]
  omega
noncomputable def fE:PyData->PyData->Option PyData
 | .str x,.int n=>if decide (0 < n/\n<=1048576/\x.length * n.toNat<=1048576)=true then some (.str (gB x n)) else none
 | x,y=>jq x y
noncomputable def Zbu:R2:=λx y H Q=>∃ z n,x=.str z/\y=.int n/\0 < n/\n<=1048576/\z.length * n.toNat<=1048576/\Q (.str (gB z n)) H
theorem ZhT {X:Cx}:OpR X (binaryOp .Mult) Zbu:=by
 intro pins s σ H x y v u Q I rx ry h
 obtain ⟨z,n,rfl,rfl,h0,h1,h2,q⟩:=h
 obtain ⟨t,rfl⟩:=rx
 obtain ⟨t',rfl⟩:=ry
 refine PySem.P.mul_str ?_ ?_ ?_ ?_
 ·rw [decide_eq_false (by omega),decide_eq_false (by omega)]; rfl
 ·intro _ _ hh
  have:(z.length:Int) * n<=1048576:=by
   have e:(n.toNat:Int)=n:=Int.toNat_of_nonneg (by omega)
   have:((z.length * n.toNat:Nat):Int)<=1048576:=by omega
   rw [Int.natCast_mul,e] at this
   exact this
  have h3:(z.length:Int)<=(2 ^ 63 - 1) / n:=Int.le_ediv_of_mul_le h0 (by omega)
  omega
 ·intro _ _
  exact decide_eq_false (λhh=>absurd (fb h2) (Nat.not_le.mpr hh))
 ·rw [if_neg (by omega)]
  unfold gB at q
  by_cases hc:(n == 1 || z.length == 0)=true
  ·rw [if_pos hc] at q ⊢
   exact ⟨.str z,H,I,⟨_,rfl⟩,q⟩
  ·rw [if_neg hc] at q ⊢
   refine ⟨?_,⟨.str _,H,I.tok _,⟨_,rfl⟩,q⟩⟩
   refine fb (Nat.le_trans (Nat.le_of_eq ?_) h2)
   show (Array.size _)=_
   rw [rF]
   simp [Str.length,Nat.mul_comm]
noncomputable def Zbv (K:PySem.W.Frag):R2:=λx y H Q=>Zbu x y H Q\/pO K x y H Q
theorem qm {X:Cx}:OpR X (binaryOp .Mult) (Zbv X.K):=ZhT.or ZhV
theorem o6 {K:PySem.W.Frag}:b8 (Zbv K) fE:=λPK pa m G H x y dx dy dz Q w hx hy hz k=>by
 unfold fE at hz
 split at hz
 ·split at hz
  ·rename_i hc
   obtain ⟨h0,h1,h2⟩:=of_decide_eq_true hc
   cases hz
   cases hx
   cases hy
   exact .inl ⟨_,_,rfl,rfl,h0,h1,h2,k.here w (.str _)⟩
  ·cases hz
 ·exact .inr (Ze3 PK pa m G H x y _ _ dz Q w hx hy hz k)
noncomputable def gl:List PyData->Option PyData
 | [.str x]=>if decide (x.length<=640)=true then (intText? x).map .int else none
 | xs=>rn xs
noncomputable def ZbB:List V->Hp->VK->Prop:=λxs H Q=>∃ x n,xs=[.str x]/\x.length<=640/\intText? x=some n/\Q (.int n) H
theorem ZoS {X:Cx}:CallR X (.type "int") ZbB:=by
 intro pins s σ H xs us Q I r h
 obtain ⟨x,n,rfl,hl,hn,q⟩:=h
 obtain ⟨u,rfl,t,rfl⟩:=dE r
 exact PySem.W.KIN.call_text hn hl ⟨.int n,H,I.tok _,⟨_,rfl⟩,q⟩
noncomputable def ZbC:List V->Hp->VK->Prop:=λxs H Q=>ZbB xs H Q\/((∃ i,xs=[.int i]/\Q (.int i) H)\/∃ k,xs=[.bl k]/\Q (.int (if k then 1 else 0)) H)
theorem rX {X:Cx}:CallR X (.type "int") ZbC:=ZoS.or ZoT
theorem pc:df ZbC gl:=λPK pa m G H vs ds d Q w hv hd k=>by
 unfold gl at hd
 split at hd
 ·split at hd
  ·rename_i hc
   obtain ⟨n,e,rfl⟩:=Option.map_eq_some_iff.mp hd
   cases hv with
   | cons h1 h2=>cases h2; cases h1; exact .inl ⟨_,_,rfl,of_decide_eq_true hc,e,k.here w (.int _)⟩
  ·cases hd
 ·exact .inr (Ze9 PK pa m G H vs _ d Q w hv hd k)
noncomputable def sO (x:Str):It :=
 ⟨λi H=>i < x.cps.size,λi H v H'=>H'=H/\∃ c,x.cps[i]?=some c/\v=.str ⟨#[c]⟩,λi H=>i=x.cps.size⟩
theorem Zfi {P:Program} {w:World} {K:PySem.W.Frag} {tg:Expr} {x:Str} {t:Tok} (ty:String) (it:Addr) (hty:ty="str_ascii_iterator"\/ty="str_iterator") :
  Turn P w K tg (sO x) [it] it (λi h=>h.IsStrIter it ty x t i) where
 mem:=by simp
 obj:=λi h st b hb=>by
  obtain ⟨o,ho,hc,hd⟩:=st
  have e:b=it:=by simpa using hb
  subst e
  exact ⟨o,ho,λv z=>by rw [hd] at z; cases z⟩
 keep:=λi h h' st k=>by
  obtain ⟨o,ho,hc,hd⟩:=st
  exact ⟨o,k it (by simp) _ ho,hc,hd⟩
 item:=by
  intro X hP hw hK hc i pins s σ H E I hf st hg
  subst hP hw hK
  obtain ⟨f0,f1,f2,f3,f4,f5⟩:=hf it (by simp)
  have hg:i < x.cps.size:=hg
  have W:Walks X.prog X.w X.A it [it] [it] x.cps.size (SignAt x) (λi h=>h.IsStrIter it ty x t i):=by
   rcases hty with rfl | rfl
   ·exact Walks.strAscii (I.ok.hd hc) it x t
   ·exact Walks.strWide (I.ok.hd hc) it x t
  refine W.item i s _ _ hg st λv h' tk hv st' kk=>?_
  obtain ⟨c,u,hx,rfl⟩:=hv
  have I1:Inv X pins σ H { s with heap:=h',toks:=tk }:=I.turned (λb o hb e=>kk b o (by simpa using hb) e) f0 f1 f3 f4 f5
  obtain ⟨o,ho,hcl,hd⟩:=id st'
  exact ⟨_,rfl,nB (s:={ s with heap:=h',toks:=tk }) (n:=ty) ho hcl hd (by rcases hty with rfl | rfl <;> decide) ⟨.str ⟨#[c]⟩,H,I1,⟨u,rfl⟩,⟨rfl,c,hx,rfl⟩,st',λb hb=>(hf b hb).1⟩⟩
 done:=by
  intro X hP hw hK hc i pins s σ H E I hf st hg
  subst hP hw hK
  obtain ⟨f0,f1,f2,f3,f4,f5⟩:=hf it (by simp)
  have hg:i=x.cps.size:=hg
  subst hg
  have W:Walks X.prog X.w X.A it [it] [it] x.cps.size (SignAt x) (λi h=>h.IsStrIter it ty x t i):=by
   rcases hty with rfl | rfl
   ·exact Walks.strAscii (I.ok.hd hc) it x t
   ·exact Walks.strWide (I.ok.hd hc) it x t
  exact W.done s _ _ st λh' tk kk=>⟨rfl,I.turned (t':=tk) (λb o hb e=>kk b o (by simpa using hb) e) f0 f1 f3 f4 f5⟩
 self:=λ_ _ _ _ _ st h=>by
  rcases hty with rfl | rfl
  ·exact wpAny_pyIter_striter_ascii st h
  ·exact wpAny_pyIter_striter_wide st h
section
variable {X:Cx} {tg:Expr} {PK:Pk} {i:List Sl->Tr PyData}
noncomputable def cB (x:Str):List PyData:=x.cps.toList.map λc=>.str ⟨#[c]⟩
theorem Zjb {pa:Addr} {G:Hp} {z:Str}:lq PK pa (sO z) G (cB z):=λm G2 H2 sb w=>by
 refine ⟨λn x hx=>?_,by show _=_; unfold cB; rw [List.length_map,Array.length_toList]⟩
 unfold cB at hx
 rw [List.getElem?_map] at hx
 obtain ⟨c,hc,rfl⟩:=Option.map_eq_some_iff.mp hx
 rw [Array.getElem?_toList] at hc
 refine ⟨(Array.getElem?_eq_some_iff.mp hc).1,λy H3 hz0=>?_⟩
 obtain ⟨e,c',hc',rfl⟩:=hz0
 subst e
 rw [hc] at hc'
 cases hc'
 exact ⟨G2,.refl,w,.str _⟩
end
noncomputable def pD (x:PyData) (lo hi:Option Int):Option PyData:=match x with
 | .str z=>if decide (z.length<=1048576)=true then some (.str (Txt.slice z lo hi)) else none
 | x=>ZaM x lo hi
noncomputable def cF (i:List Sl->Tr PyData) (p q:dX):List Sl->Tr PyData:=λρ=>(i ρ).bind λx=>(p ρ).bind λlo=>(q ρ).bind λhi=>Tr.of (pD x lo hi)
section
variable {X:Cx} {PK:Pk} {e:Expr} {i:List Sl->Tr PyData} {p q:dX} {lo hi:Option Expr} {p2 pos:Pos} {tg:Expr}
theorem Zf1:SlR X (λx lo hi H Q=>Zbi x lo hi H Q\/Zbk X.K x lo hi H Q):=Zf0.or Zf2
theorem c4 (he:PE X e (TAe PK i)) (hl:PO X lo (TAp PK p)) (hu:PO X hi (TAp PK q)):PE X (.Subscript e (.Slice lo hi none p2) pos) (TAe PK (cF i p q)):=(ZbV Zf1 he hl hu).imp λσ H Q hz0=>by
 obtain ⟨pa,G₀,H₀,m,ρ,G,R,z⟩:=hz0
 refine TAe.then R z λm1 x v G1 H1 s1 w1 R1 d1 q1=>?_
 refine TAp.then R1 q1 λm2 lo G2 H2 s2 w2 R2 q2=>?_
 refine TAp.then R2 q2 λm3 hi G3 H3 s3 w3 R3 q3=>?_
 obtain ⟨d,hd,k⟩:=Tr.ok_of q3
 have s13:=(s1.trans s2 w1.some).trans s3 w2.some
 have k':=Kn.later k s13 w3.some
 have d3:=d1.mono (s2.gs.trans s3.gs)
 cases d3 with
 | str z =>
  have hd':(if decide (z.length<=1048576)=true then some (PyData.str (Txt.slice z lo hi)) else none)=some d:=hd
  split at hd'
  ·rename_i hc
   cases hd'
   exact .inl ⟨_,rfl,fb (of_decide_eq_true hc),k'.here w3 (.str _)⟩
  ·cases hd'
 | lst a1 a2=>cases hd; exact .inr (.inl ⟨_,_,rfl,SqL.of (w3.sub _ _ a1),λp hp=>k'.lst w3 (a2.cut lo hi) hp⟩)
 | @tup a xs ds a1 a2 =>
  cases hd
  by_cases hw:HT.aK xs.length 0 lo=0/\HT.aK xs.length xs.length hi=xs.length
  ·refine .inr (.inr (.inr ⟨_,_,rfl,SqT.of (w3.sub _ _ a1),hw,k'.here w3 ?_⟩))
   have e:eI ds lo hi=ds:=by
    unfold eI
    rw [<- a2.length,hw.1,hw.2]
    simp
    rw [a2.length]
    simp
   rw [e]
   exact .tup a1 a2
  ·exact .inr (.inr (.inl ⟨_,_,rfl,SqT.of (w3.sub _ _ a1),hw,λp hp=>k'.tup w3 (a2.cut lo hi) hp⟩))
 | _=>cases hd
theorem Zhh {l:Expr} {tl:TE} (hl:PE X l tl):PI X tg l (λσ H R=>tl σ H λx H1=>(∃ z,x=.str z/\R (sO z) H1)\/∃ a,x=.ref a/\((∃ xs,SqL X.K H1 a xs/\R (oQ X.K a) H1)\/(∃ xs,SqT X.K H1 a xs/\R (oP X.K a) H1))):=by
 intro pins s σ H R I h
 refine thn (hl pins s σ H _ I h) λv s1 hz0=>?_
 obtain ⟨x,H1,I1,r1,q1⟩:=hz0
 rcases q1 with ⟨z,e,q⟩ | ⟨a,e,q⟩
 ·subst e
  obtain ⟨t,rfl⟩:=r1
  have fin:∀ ty,ty="str_ascii_iterator"\/ty="str_iterator"->jW X pins σ tg R (.ref s1.heap.objs.size) { s1 with heap:=s1.heap.push { cls:=.type ty,data:=.fields #[.str z t,.int 0 0] } }:=λty hty=>by
   refine ⟨s1.heap.objs.size,[s1.heap.objs.size],_,_,H1,rfl,I1.kept (t':=s1.toks) λb o e=>Heap.get?_push_of_some _ e,Zfi (t:=t) ty _ hty,⟨_,Heap.get?_push_size _ (by rcases hty with rfl | rfl <;> rfl),rfl,rfl⟩,λb hb=>?_,q⟩
   have e:b=s1.heap.objs.size:=by simpa using hb
   subst e
   exact I1.fpOk (Nat.le_refl _) (I1.hok.fresh (Nat.le_refl _))
  cases ha:z.cps.all (· < 128)
  ·exact wpAny_pyIter_wide ha (fin _ (.inr rfl))
  ·exact wpAny_pyIter_ascii ha (fin _ (.inl rfl))
 ·subst e
  cases r1
  rcases q with ⟨xs,hq,q⟩ | ⟨xs,hq,q⟩
  ·obtain ⟨its,rv,p,hz⟩:=I1.list hq
   refine wpAny_pyIter_list p.isList ?_
   refine ⟨s1.heap.objs.size,[s1.heap.objs.size],_,_,H1,rfl,I1.kept (t':=s1.toks) λb o e=>Heap.get?_push_of_some _ e,Zas a _,⟨_,Heap.get?_push_size _ rfl,rfl,rfl⟩,λb hb=>?_,q⟩
   have e:b=s1.heap.objs.size:=by simpa using hb
   subst e
   exact I1.fpOk (Nat.le_refl _) (I1.hok.fresh (Nat.le_refl _))
  ·obtain ⟨its,rv,p,hz⟩:=I1.tuple hq
   refine wpAny_pyIter_tuple (show s1.heap.IsTuple a its.toArray from p) ?_
   refine ⟨s1.heap.objs.size,[s1.heap.objs.size],_,_,H1,rfl,I1.kept (t':=s1.toks) λb o e=>Heap.get?_push_of_some _ e,Zar a _,⟨_,Heap.get?_push_size _ rfl,rfl,rfl⟩,λb hb=>?_,q⟩
   have e:b=s1.heap.objs.size:=by simpa using hb
   subst e
   exact I1.fpOk (Nat.le_refl _) (I1.hok.fresh (Nat.le_refl _))
noncomputable def itA:PyData->Option (List PyData)
 | .str x=>some (cB x)
 | x=>fI x
noncomputable def bV (i:List Sl->Tr PyData):List Sl->Tr (List PyData):=λρ=>(i ρ).bind λx=>Tr.of (itA x)
theorem cj {l:Expr} (hl:PE X l (TAe PK i)):PI X tg l (eN PK (bV i)):=(Zhh hl).imp λσ H R0 hz0=>by
 obtain ⟨pa,G₀,H₀,m,ρ,G,R,z⟩:=hz0
 refine TAe.then R z λm1 x v G1 H1 s1 w1 R1 d1 q1=>?_
 obtain ⟨xs,hx,q1⟩:=Tr.ok_of q1
 cases d1 with
 | str z=>cases hx; exact .inl ⟨_,rfl,q1 _ G1 H1 s1 w1 Zjb⟩
 | lst h1 h2=>cases hx; exact .inr ⟨_,rfl,.inl ⟨_,SqL.of (w1.sub _ _ h1),q1 _ G1 H1 s1 w1 (Zcz h1 h2)⟩⟩
 | tup h1 h2=>cases hx; exact .inr ⟨_,rfl,.inr ⟨_,SqT.of (w1.sub _ _ h1),q1 _ G1 H1 s1 w1 (Zcy h1 h2)⟩⟩
 | _=>cases hx
end
section
variable {X:Cx} {PK:Pk} {a b:Expr} {ta tb:TE} {i j:List Sl->Tr PyData} {sep:Str} {k:Nat} {p1 p2 p3 pos:Pos}
noncomputable def lF:PyData->Option Str
 | .str x=>if decide (x.length<=262144)=true then some x else none
 | _=>none
end
section
variable {prog:Program} {w:World} {A:Around} {R:Result->Shared->Prop} {s:Shared}
end
section
variable {CX:dq} {P:Program} {w:World} {K:PySem.W.Frag} {mg:Str->Option Value} {base:Heap} {N:List Str} {scope:Scope} {cl:List (Str×Addr)} {q:Str} {f:Addr} {cd:Value} {A:Around} {outer:List Env} {s:Shared} {H:Hp} {E:XK} {σ:St}
end
section
variable {X:Cx} {pins:List (Addr×Obj)} {σ:St} {H:Hp} {s:Shared}
end
section
variable {X:Cx}
end
section
variable {P:Program} {w:World} {K:PySem.W.Frag} {mg:Str->Option Value} {base:Heap} {A:Around} {outer:List Env} {s s':Shared} {H H':Hp} {cs:List Addr} {h h':Heap}
end
section
variable {P:Program} {w:World} {K:PySem.W.Frag} {mg:Str->Option Value} {base:Heap}
end
section
variable {X:Cx} {pins:List (Addr×Obj)} {σ:St} {H:Hp} {s:Shared}
theorem Zcu {A:Around} {E:Value->Shared->Prop} {i:Nat} {x:Str} {v:V} {pos:Pos} {Q:Value->Shared->Prop} (I:Inv X pins σ H s) (hN:X.N[i]?=some x) (hv:jT X.env.scope x) (e:σ[i]?=some (some v)) (h:∀ u,RelV v u->Q u s)
  (hd:(x == ("__debug__":Str))=false:=by decide) (hcd:(x == ("__classdict__":Str))=false:=by decide):wpAny (model X.prog X.w) A (eval (.Name x pos) X.env) Q E s:=by
 obtain ⟨m,hn,hl⟩:=I.loc
 obtain ⟨u,r,l⟩:=hl i x v hN e hv
 rcases l with ⟨hk,hm⟩ | ⟨hk,c,hc,hcell⟩
 ·exact wpAny_Name (wpAny_loadName_local I.ok.kind hk hn hm (h u r)) hd
 ·rcases hk with hk | hk
  ·exact wpAny_Name (wpAny_loadName_cell I.ok.kind hk hc hcell (h u r)) hd
  ·exact wpAny_Name (wpAny_loadName_free I.ok.kind hk hc hcell (h u r) hcd) hd
end
variable {X:Cx} {PK:Pk}
noncomputable def sM (X:Cx) (e:Expr) (t:TE):Prop :=
 ∀ (pins:List (Addr×Obj)) (s:Shared) (σ:St) (H:Hp) (Q:VK),0 < s.toks->Inv X pins σ H s->t σ H Q->wpAny (model X.prog X.w) X.A (eval e X.env) (EP X pins σ Q) X.xe s
noncomputable def Zaw (i:Nat) (y z:Str):TE:=λσ H Q=>∃ a,σ[i]?=some (some (.str a))/\a.length<=1048576/\Q (.str (Txt.replace a y z)) H
theorem Zhm {i ky kz:Nat} {x y z:Str} {p apos cpos py pz:Pos} (hN:X.N[i]?=some x:=by rfl) (hv:jT X.env.scope x:=by first | exact Or.inl rfl | exact Or.inr (Or.inl rfl) | exact Or.inr (Or.inr rfl)) (hd:(x == ("__debug__":Str))=false:=by decide)
  (hcd:(x == ("__classdict__":Str))=false:=by decide) (hyz:(y == z)=false:=by decide) (hz:z.length<=14:=by decide)
  (hline:(apos.endLine == cpos.line)=true:=by rfl):sM X (.Call (.Attribute (.Name x p) "replace" apos) [.Constant (.str y) ky py,.Constant (.str z) kz pz] [] cpos) (Zaw i y z):=by
 intro pins s σ H Q ht I h
 obtain ⟨a,e,hl,q⟩:=h
 refine wpAny_Call_method_late rfl rfl hline rfl (Zcu I hN hv e (λu r=>?_) hd hcd)
 obtain ⟨h1,h2⟩:=pd (T:="str") I r (show kc X.K "str" (.str a) H from rfl)
 obtain ⟨t,rfl⟩:=r
 refine ⟨"str","str.replace",PySem.F.plainAttrs_str,PySem.F.slot_str_replace,PySem.F.type_str_replace,h1,h2,?_⟩
 refine Calls.callWith_builtin rfl (Calls.evalArgs_plain ?_)
 show wpAny _ _ (spliced [(false,eval (.Constant (.str y) ky py) X.env),(false,eval (.Constant (.str z) kz pz) X.env)]) _ _ s
 refine Calls.spliced_cons (Calls.Constant_str ?_)
 refine Calls.spliced_cons (Calls.Constant_str ?_)
 refine Calls.spliced_nil ?_
 exact PySem.SC.replaceW (by show s.toks≠0; omega) (by show s.toks+1≠0; omega) (by show s.toks≠s.toks+1; omega) hyz hl hz λt' k=>⟨.str _,H,I.tok _,⟨_,rfl⟩,q⟩
theorem ZhK {w:Str} {j:Nat} {p:Pos} {e:Expr} {es:List Expr} {te:TE} {t:TA} (ha:sM X e te) (hr:PA X es t) (hs:starEach (.Constant (.str w) j p::e::es) X.env=(false,eval (.Constant (.str w) j p) X.env)::(false,eval e X.env)::starEach es X.env:=by rfl):PA X (.Constant (.str w) j p::e::es) (hU (tC (.str w)) (hU te t)):=by
 intro pos pins s σ H Q I h
 rw [hs]
 show wpAny _ _ (spliced ((false,eval (.Constant (.str w) j p) X.env)::(false,eval e X.env)::backTo pos (starEach es X.env))) _ _ s
 refine Calls.spliced_cons (Calls.Constant_str ?_)
 refine Calls.spliced_cons (thn (ha pins _ σ H _ (by show 0 < s.toks+1; omega) (I.tok _) h) λu s1 hz0=>?_)
 obtain ⟨x,H1,I1,r1,q1⟩:=hz0
 exact thn (hr pos pins s1 σ H1 _ I1 q1) λus s2 hz0=>by
  obtain ⟨xs,H2,I2,r2,q2⟩:=hz0
  exact ⟨.str w::x::xs,H2,I2,.cons ⟨_,rfl⟩ (.cons r1 r2),q2⟩
noncomputable def kF (y z:Str):PyData->Option PyData
 | .str a=>if decide (a.length<=1048576)=true then some (.str (Txt.replace a y z)) else none
 | _=>none
noncomputable def sD (w:Str) (k:Nat) (y z:Str) (is:List Sl->Tr (List PyData)):List Sl->Tr (List PyData):=λρ=>(aa k ρ).bind λx=>(Tr.of (kF y z x)).bind λd=>(is ρ).bind λxs=>.ret (.str w::d::xs)
theorem ZpF {w y z:Str} {j k:Nat} {p:Pos} {e:Expr} {es:List Expr} {is:List Sl->Tr (List PyData)} (ha:sM X e (Zaw k y z)) (hr:PA X es (TAd PK is)) (hs:starEach (.Constant (.str w) j p::e::es) X.env=(false,eval (.Constant (.str w) j p) X.env)::(false,eval e X.env)::starEach es X.env:=by rfl) :
  PA X (.Constant (.str w) j p::e::es) (TAd PK (sD w k y z is)):=(ZhK ha hr hs).imp λσ H Q hz0=>by
 obtain ⟨pa,G₀,H₀,m,ρ,G,R,q⟩:=hz0
 have q':((aa k ρ).bind λx=>(Tr.of (kF y z x)).bind λd=>(is ρ).bind λxs=>.ret (.str w::d::xs)).ok m _:=q
 unfold aa at q'
 split at q'
 ·rename_i x hx
  obtain ⟨o,h1,h2⟩:=R.sl k _ hx
  cases h2 with
  | @d v x dn =>
   rw [Tr.ret_bind] at q'
   obtain ⟨d,hd,q2⟩:=Tr.ok_of (Tr.ok_bind.mp q')
   unfold kF at hd
   split at hd
   ·rename_i a
    split at hd
    ·rename_i hc
     cases hd
     cases dn
     refine ⟨a,h1,of_decide_eq_true hc,?_⟩
     refine TAd.then R q2 λm2 xs vs G2 H2 s2 w2 R2 d2 q3=>?_
     exact q3 _ _ _ s2 w2 (.cons (.str _) (.cons (.str _) d2))
    ·cases hd
   ·cases hd
 ·exact q'.elim
noncomputable def qG (w:Str) (d:PyData) (xs:List PyData):Tr (List PyData):=.ret (.str w::d::xs)
noncomputable def ZiK (w:Str) (is:List Sl->Tr (List PyData)) (ρ:List Sl) (d:PyData):Tr (List PyData):=(is ρ).bind (qG w d)
noncomputable def qH (w:Str) (y z:Str) (is:List Sl->Tr (List PyData)) (ρ:List Sl) (x:PyData):Tr (List PyData):=(Tr.of (kF y z x)).bind (ZiK w is ρ)
theorem ZlV {w y z:Str} {k:Nat} {is:List Sl->Tr (List PyData)} {ρ:List Sl}:sD w k y z is ρ=(aa k ρ).bind (qH w y z is ρ):=rfl
theorem ZiL {w y z a:Str} {is:List Sl->Tr (List PyData)} {ρ:List Sl} (h:a.length<=1048576):qH w y z is ρ (.str a)=(is ρ).bind (qG w (.str (Txt.replace a y z))):=by
 unfold qH kF
 dsimp only
 rw [decide_eq_true h]; rfl
theorem ZlS {w:Str} {d:PyData} {xs:List PyData}:qG w d xs=.ret (.str w::d::xs):=rfl
theorem ZhG {P:Program} {w:World} {K:PySem.W.Frag} {mg:Str->Option Value} {base:Heap} {N:List Str} {qual:Str} {scope:Scope} {f:Addr} {cd:Value} {A:Around} {outer:List Env} {s₀:Shared} {H₀:Hp} {E E1:XK}
  {pins:List (Addr×Obj)} {σ:St} {H:Hp} {s s':Shared} {e:Value}
  (I:Inv (cE (bQ P w) P w K mg base N qual scope f cd A outer s₀ H₀ E) pins σ H s) (hq:bQ P w (envOfC qual scope s₀.heap.objs.size f cd::outer) H s E1 e s') (hE:∀ cls H',E1 cls none H'->E cls none H') :
  (cE (bQ P w) P w K mg base N qual scope f cd A outer s₀ H₀ E).xe e s':=by
 have hst:s.heap.FunFrames base (envOfC qual scope s₀.heap.objs.size f cd::outer):=I.stack
 have hbase:Un (frs outer) [] H₀ H s₀.heap s.heap:=I.base
 obtain ⟨_,⟨L,oL,hL,_,hoL,_⟩,_⟩:=id hst
 have hLe:L=s₀.heap.objs.size:=(Option.some.inj hL).symm
 have hfs:∀ b,b∈frs (envOfC qual scope s₀.heap.objs.size f cd::outer) ↔ b=L\/b∈frs outer:=λb=>by
  unfold frs
  rw [List.filterMap_cons,hL]
  exact List.mem_cons
 have old:∀ b o,s₀.heap.get? b=some o->b≠L:=λb o hb z=>by
  have:=Heap.lt_size hb
  rw [z,hLe] at this
  exact absurd this (Nat.lt_irrefl _)
 show wpAny (model P w) (A.deeper (envOfC qual scope s₀.heap.objs.size f cd)) (leaving (envOfC qual scope s₀.heap.objs.size f cd) e) (λ_ s''=>bQ P w outer H₀ s₀ E e s'') (λe' s''=>bQ P w outer H₀ s₀ E e' s'') s'
 unfold leaving
 refine wpAny_bind (Zd0 (X:=cE (bQ P w) P w K mg base N qual scope f cd A outer s₀ H₀ E) (outer:=outer) (L:=L) I rfl hL hq λea cls H' h' eq I5 hea hcl fly un hE1=>?_)
 obtain ⟨b'',t,fl,hf,hbt⟩:=fly
 obtain ⟨f1,f2,⟨_,_,f3⟩,f4⟩:=fl
 refine ⟨ea,t,cls,b'',H',eq,I5.os,I5.bare,I5.base,I5.hok,⟨f1,f2,f3,f4⟩,λb o hb hn=>?_,hbt,hE cls H' hE1⟩
 cases e1:b''.get? b with
 | some o'=>exact ⟨o',rfl⟩
 | none =>
  obtain ⟨o',e2⟩:=hbase.there b o hb (by simp)
  have:=hf b e1 λz=>((hfs b).mp z).elim (old b o hb) hn
  rw [e2] at this
  cases this
theorem Zii {e:Value} {a b:Env} (h:a.frame=b.frame):noteFrame e a=noteFrame e b:=by
 unfold noteFrame PySem.frameOf
 rw [h]
theorem ZgP {b' h:Heap} {l:List Env} {e L:Addr} {cls a0:Value} (x:Heap.HeldW b' l e cls a0 L h):∃ T,b'.get? T=none/\(∃ oT ts,h.get? T=some oT/\oT.data=.fields ts)/\(∃ oe vs,h.get? e=some oe/\oe.cls=cls/\oe.data=.fields vs)/\Heap.HeldW (eZ h (e::T::frs l)) l e cls a0 L h:=by
 obtain ⟨f1,f2,f3,oe,vs,T,oT,ts,he,hc,hd,h1,hT,hTe,hoT,hdT,h3⟩:=x
 refine ⟨T,hT,⟨oT,ts,hoT,hdT⟩,⟨oe,vs,he,hc.1,hd⟩,mL _ _,gG (by simp),ffr f3 _ λb hb=>List.mem_cons_of_mem _ (List.mem_cons_of_mem _ hb),oe,vs,T,oT,ts,he,hc,hd,h1,gG (by simp),hTe,hoT,hdT,h3⟩
noncomputable def oR (X:Cx) (E:XK) (L:Addr) (e:Value) (s':Shared):Prop:=∃ (pins:List (Addr×Obj)) (σ:St) (H':Hp) (ea t:Addr) (cls:Value) (b':Heap),e=.ref ea/\Inv X pins σ H' s'/\Heap.HeldW b' X.stack ea cls (.ref t) L s'.heap /\
 (∀ b o,X.s₀.heap.get? b=some o->b ∉ frs X.stack->b ∉ X.ex->∃ o',b'.get? b=some o')/\(∀ b,H' b≠none->∃ o',b'.get? b=some o')/\E cls none H'
noncomputable def oA (X:Cx) (E:XK) (L:Addr):Prop:=∀ (e:Value) (s':Shared),oR X E L e s'->X.xe e s'
theorem Zc1 {h base:Heap} {l:List Env} (f:h.FunFrames base l) {b:Addr} {o:Obj} {us:Array Value} (h1:h.get? b=some o) (h2:o.data=.fields us):b ∉ frs l:=λz=>by
 obtain ⟨_,o',ho',hd⟩:=f.mem z
 rw [h1] at ho'
 cases ho'
 exact hd us h2
theorem Zih {X:Cx} {pins:List (Addr×Obj)} {σ:St} {H:Hp} {s s':Shared} {E:XK} {e:Value} {outer:List Env} {env0:Env} {L:Addr} {Q:Unit->Shared->Prop} {EE:Value->Shared->Prop}
  (I:Inv X pins σ H s) (hstk:X.stack=env0::outer) (hL0:env0.frame=some L) (hL:X.env.frame=some L) (hq:bQ X.prog X.w X.stack H s E e s')
  (k:∀ h',oR X E L e { s' with heap:=h' }->Q () { s' with heap:=h' }):wpAny (model X.prog X.w) X.A (noteFrame e X.env) Q EE s':=by
 obtain ⟨ea,t,cls,b',H',rfl,os,bare,un,hok,fl,hb',ht,hE⟩:=hq
 rw [Zii (hL.trans hL0.symm)]
 have hst:∀ b∈frs X.stack,H b=none:=I.stkFree
 have funs:s.heap.FunFrames X.base X.stack:=I.stack
 have hst':∀ b∈frs X.stack,H' b=none:=λb hb=>by
  obtain ⟨_,o,ho,_⟩:=funs.mem hb
  exact un.free b o ho (hst b hb) (by simp)
 have hfr:X.A.frames=some (env0::outer):=by rw [<- hstk]; exact I.ok.frames
 obtain ⟨T,hT,⟨oT,ts,hoT,hdT⟩,⟨oe,vs,hoe,hoc,hod⟩,fl'⟩:=rebase fl
 have nea:ea ∉ frs X.stack:=Zc1 fl.2.2.1 hoe hod
 have nT:T ∉ frs X.stack:=Zc1 fl.2.2.1 hoT hdT
 have notin:∀ c:Addr,b'.get? c=none->c ∉ frs X.stack->s.heap.get? c=none:=λc hc hf=>by
  cases e1:s.heap.get? c with
  | none=>rfl
  | some o =>
   obtain ⟨o',e2⟩:=hb' c o e1 hf
   rw [hc] at e2; cases e2
 have nob:∀ {c:Addr} {o:Obj},b'.get? c=some o->c≠ea/\c≠T:=λ{c o} hc=>⟨(λz=>by rw [z,fl.2.1] at hc; exact nomatch hc),(λz=>by rw [z,hT] at hc; exact nomatch hc)⟩
 refine wpAny_looks_onW hfr hL0 (by rw [<- hstk]; exact fl') λh₄ held ups=>?_
 rw [<- hstk] at held
 have stay:∀ b o,s'.heap.get? b=some o->b ∉ frs X.stack->b ∉ [ea,T]->h₄.get? b=some o:=λb o hb hn hx=>held.1 b o (by
  rw [dk]
  ·exact hb
  ·intro z
   rcases List.mem_cons.mp z with z | z
   ·exact hx (by simp [z])
   ·rcases List.mem_cons.mp z with z | z
    ·exact hx (by simp [z])
    ·exact hn z)
 have slot:∀ b o,s'.heap.get? b=some o->b∈frs X.stack->∃ sl,h₄.get? b=some { o with slots:=sl }:=λb o hb hn=>by
  obtain ⟨_,o',ho',hd⟩:=fl.2.2.1.mem hn
  rw [hb] at ho'
  cases ho'
  exact ups b o hb hd
 have un4:Un (frs X.stack) [ea,T] H' H' s'.heap h₄:=⟨λb o hb hn hf hx=>stay b o hb hf hx,λb o hb hn hf hx=>slot b o hb hf,λb o hb hn hx=>hn,λb o hb hx=>by
  by_cases hq:b∈frs X.stack
  ·obtain ⟨sl,e1⟩:=slot b o hb hq
   exact ⟨_,e1⟩
  ·exact ⟨o,stay b o hb hq hx⟩,λ_ _ z=>z,λ_ _ _ z=>z,λb ps z=>⟨#[],by rw [z,Array.append_empty]⟩⟩
 have hok4:HOk X.prog X.w H' h₄:=HOk.tracked hok λb u hb q=>stay b u q (λz=>hb (hst' b z)) λz=>by
  obtain ⟨o',e2⟩:=ht b hb
  rcases List.mem_cons.mp z with z | z
  ·exact (nob e2).1 z
  ·exact (nob e2).2 (by simpa using z)
 have un':=un.skip un4 λc hc=>by
  rcases List.mem_cons.mp hc with z | z
  ·subst z; exact notin c fl.2.1 nea
  ·have z:c=T:=by simpa using z
   subst z; exact notin c hT nT
 have I4:Inv X pins σ H' { s' with heap:=h₄ }:=I.call' (s':={ s' with heap:=h₄ }) os un' hok4 bare λb hb=>absurd hb (by simp)
 have out:∀ {b:Addr} {o2:Obj},b'.get? b=some o2->b ∉ frs X.stack->b ∉ ea::T::frs X.stack:=λ{b o2} e2 hf z=>by
  rcases List.mem_cons.mp z with z | z
  ·exact (nob e2).1 z
  ·rcases List.mem_cons.mp z with z | z
   ·exact (nob e2).2 z
   ·exact hf z
 refine k h₄ ⟨pins,σ,H',ea,t,cls,_,rfl,I4,held,λb o hb hf hx=>?_,λb hb=>?_,hE⟩
 ·obtain ⟨o1,e1⟩:=I.base.there b o hb hx
  obtain ⟨o2,e2⟩:=hb' b o1 e1 hf
  obtain ⟨o3,e3⟩:=un.there b o1 e1 (by simp)
  exact ⟨o3,by rw [dk (out e2 hf)]; exact e3⟩
 ·obtain ⟨o2,e2⟩:=ht b hb
  cases e1:H' b with
  | none=>exact absurd e1 hb
  | some u =>
   obtain ⟨o3,e3⟩:=(hok b u e1).get
   exact ⟨o3,by rw [dk (out e2 λz=>hb (hst' b z))]; exact e3⟩
theorem ZcO {P:Program} {w:World} {K:PySem.W.Frag} {mg:Str->Option Value} {base:Heap} {N:List Str} {qual:Str} {scope:Scope} {f:Addr} {cd:Value} {A:Around} {outer:List Env} {s₀:Shared} {H₀:Hp} {E:XK} :
  oA (cE (bQ P w) P w K mg base N qual scope f cd A outer s₀ H₀ E) E s₀.heap.objs.size:=by
 rintro e s' ⟨pins,σ,H',ea,t,cls,b',rfl,I,held,c1,c2,hE⟩
 obtain ⟨T,hT,⟨oT,ts,hoT,hdT⟩,⟨oe,vs,hoe,hoc,hod⟩,held'⟩:=ZgP held
 have hbase:Un (frs outer) [] H₀ H' s₀.heap s'.heap:=I.base
 have hL:(envOfC qual scope s₀.heap.objs.size f cd).frame=some s₀.heap.objs.size:=rfl
 have hfs:∀ b,b∈frs (envOfC qual scope s₀.heap.objs.size f cd::outer) ↔ b=s₀.heap.objs.size\/b∈frs outer:=λb=>by
  unfold frs
  rw [List.filterMap_cons,hL]
  exact List.mem_cons
 have old:∀ b o,s₀.heap.get? b=some o->b≠s₀.heap.objs.size:=λb o hb z=>absurd (Heap.lt_size hb) (by rw [z]; exact Nat.lt_irrefl _)
 have hfree:∀ b∈frs (envOfC qual scope s₀.heap.objs.size f cd::outer),H' b=none:=I.stkFree
 have nob:∀ {c:Addr} {o:Obj},b'.get? c=some o->c≠ea/\c≠T:=λ{c o} hc=>⟨(λz=>by rw [z,held.2.1] at hc; exact nomatch hc),(λz=>by rw [z,hT] at hc; exact nomatch hc)⟩
 have c1':∀ b o,s₀.heap.get? b=some o->b ∉ frs outer->b≠ea/\b≠T:=λb o hb hf=>by
  obtain ⟨o',e⟩:=c1 b o hb (λz=>((hfs b).mp z).elim (old b o hb) hf) (by show b ∉ ([]:List Addr); simp)
  exact nob e
 show wpAny (model P w) (A.deeper (envOfC qual scope s₀.heap.objs.size f cd)) (leaving (envOfC qual scope s₀.heap.objs.size f cd) (.ref ea)) (λ_ s''=>bQ P w outer H₀ s₀ E (.ref ea) s'') (λe' s''=>bQ P w outer H₀ s₀ E e' s'') s'
 unfold leaving
 refine wpAny_bind (wpAny_noteFrame_againW hL held'.2.2.2 (wpAny_landsW held' λh5 fl ups=>?_))
 have stay:∀ b o,s'.heap.get? b=some o->b ∉ frs (envOfC qual scope s₀.heap.objs.size f cd::outer)->b≠ea/\b≠T->h5.get? b=some o:=λb o hb hn hx=>fl.1 b o (by
  rw [dk]
  ·exact hb
  ·intro z
   rcases List.mem_cons.mp z with z | z
   ·exact hx.1 z
   ·rcases List.mem_cons.mp z with z | z
    ·exact hx.2 z
    ·exact hn z)
 have slot:∀ b o,s'.heap.get? b=some o->b∈frs (envOfC qual scope s₀.heap.objs.size f cd::outer)->∃ sl,h5.get? b=some { o with slots:=sl }:=λb o hb hn=>by
  obtain ⟨_,o',ho',hd⟩:=held.2.2.1.mem hn
  rw [hb] at ho'
  cases ho'
  exact ups b o hb hd
 have notf:∀ {b:Addr} {o:Obj},s₀.heap.get? b=some o->b ∉ frs outer->b ∉ frs (envOfC qual scope s₀.heap.objs.size f cd::outer):=λ{b o} hb hf z=>((hfs b).mp z).elim (old b o hb) hf
 obtain ⟨f1,f2,⟨_,_,f3⟩,f4⟩:=fl
 refine ⟨ea,t,cls,_,H',rfl,I.os,I.bare,⟨λb o hb hn hf hx=>?_,λb o hb hn hf hx=>?_,hbase.free,λb o hb hx=>?_,hbase.tups,hbase.frzs,hbase.tbls⟩,HOk.tracked I.hok λb u hb q=>?_,⟨f1,f2,f3,f4⟩,λb o hb hf=>?_,λb hb=>?_,hE⟩
 ·exact stay b o (hbase.keep b o hb hn hf hx) (notf hb hf) (c1' b o hb hf)
 ·obtain ⟨sl,e1⟩:=hbase.slot b o hb hn hf hx
  obtain ⟨dO,e2⟩:=slot b _ e1 ((hfs b).mpr (.inr hf))
  exact ⟨dO,e2⟩
 ·obtain ⟨o',e1⟩:=hbase.there b o hb hx
  by_cases hq:b∈frs outer
  ·obtain ⟨dO,e2⟩:=slot b _ e1 ((hfs b).mpr (.inr hq))
   exact ⟨_,e2⟩
  ·exact ⟨o',stay b o' e1 (notf hb hq) (c1' b o hb hq)⟩
 ·obtain ⟨o',e2⟩:=c2 b hb
  exact stay b u q (λz=>hb (hfree b z)) (nob e2)
 ·obtain ⟨o',e1⟩:=hbase.there b o hb (by simp)
  refine ⟨o',?_⟩
  rw [dk]
  ·exact e1
  ·intro z
   rcases List.mem_cons.mp z with z | z
   ·exact (c1' b o hb hf).1 z
   ·rcases List.mem_cons.mp z with z | z
    ·exact (c1' b o hb hf).2 z
    ·exact notf hb hf z
 ·obtain ⟨o2,e2⟩:=c2 b hb
  cases e1:H' b with
  | none=>exact absurd e1 hb
  | some u =>
   obtain ⟨o3,e3⟩:=(I.hok b u e1).get
   refine ⟨o3,?_⟩
   rw [dk]
   ·exact e3
   ·intro z
    rcases List.mem_cons.mp z with z | z
    ·exact (nob e2).1 z
    ·rcases List.mem_cons.mp z with z | z
     ·exact (nob e2).2 z
     ·exact hb (hfree b z)
theorem Zc2 {h h' base:Heap}:∀ {l:List Env},h.FunFrames base l->(∀ b∈frs l,∀ o,h.get? b=some o->h'.get? b=some o)->h'.FunFrames base l
 | [],_,_=>trivial
 | env::l,⟨a,⟨L,o,hL,hb,ho,hd⟩,r⟩,k=>by
  have e:frs (env::l)=L::frs l:=by unfold frs; rw [List.filterMap_cons,hL]
  exact ⟨a,⟨L,o,hL,hb,k L (by rw [e]; simp) o ho,hd⟩,Zc2 r λb hb=>k b (by rw [e]; exact List.mem_cons_of_mem _ hb)⟩
theorem Zff {h:Heap} {a:Addr} {o:Obj} {f:Obj->Obj} (ho:h.get? a=some o) (hf:f o=o):h.update a f=h:=by
 obtain ⟨objs,l⟩:=h
 show Heap.mk (objs.modify a f) l=Heap.mk objs l
 congr 1
 apply Array.ext
 ·simp
 ·intro i h1 h2
  rw [Array.getElem_modify]
  split
  ·rename_i e
   subst e
   have:objs[a]?=some o:=by
    unfold Heap.get? at ho
    split at ho
    ·cases ho
    ·exact ho
   rw [Array.getElem?_eq_getElem h2] at this
   cases this
   exact hf
  ·rfl
theorem ZhF {X:Cx} {pins:List (Addr×Obj)} {σ:St} {H':Hp} {s':Shared} {E:XK} {L C ea t:Addr} {cls:Value} {b' h':Heap} {cenv:Env} {what:String} {α:Type} (hX:oA X E L) (hcf:cenv.frame=some L)
  (I:Inv X pins σ H' s') (held:Heap.HeldW b' X.stack ea cls (.ref t) L s'.heap) (c1:∀ b o,X.s₀.heap.get? b=some o->b ∉ frs X.stack->b ∉ X.ex->∃ o',b'.get? b=some o') (c2:∀ b,H' b≠none->∃ o',b'.get? b=some o') (hE:E cls none H')
  (hC:∃ m,s'.heap.Ns C m) (hn:H' C=none) (hCL:C≠X.env.locals) (h0:X.s₀.heap.objs.size<=C) (hcl:∀ x c,X.env.cells.lookup x=some c->c≠C) (hp:∀ p∈X.pn++pins,p.1≠C) (hCf:C ∉ frs X.stack) (hsb:Heap.SameBut C s'.heap h') :
  wpAny (model X.prog X.w) X.A (PySem.passOn what (.ref ea) cenv:Sem α) (λ_ _=>False) X.xe { s' with heap:=h' }:=by
 obtain ⟨m,oC,es,ep,hoC,hdC,_⟩:=hC
 have I':Inv X pins σ H' { s' with heap:=h' }:=I.turned (it:=C) (t':=s'.toks) (λb o hb e=>(hsb.2 b hb).trans e) hn hCL (.inr h0) hcl hp
 obtain ⟨f1,f2,f3,oe,vs,T,oT,ts,he,hc,hd,h1,hT,hTe,hoT,hdT,h3⟩:=held
 have nC:∀ {b:Addr} {o:Obj} {us:Array Value},s'.heap.get? b=some o->o.data=.fields us->b≠C:=λ{b o us} e1 e2 z=>by
  rw [z,hoC] at e1
  cases e1
  rw [hdC] at e2
  cases e2
 have he':h'.get? ea=some oe:=(hsb.2 ea (nC he hd)).trans he
 have hT':h'.get? T=some oT:=(hsb.2 T (nC hoT hdT)).trans hoT
 have hsz3:3 < ts.size:=(Array.getElem?_eq_some_iff.mp h3).1
 have same:h'.update T (Obj.mapFields (·.setIfInBounds 3 ((some L).elim Value.none λf=>rawInt f)))=h':=Zff hT' (by
  obtain ⟨c,d,dt,sl⟩:=oT
  have hdT:dt=.fields ts:=hdT
  subst hdT
  show Obj.mk c d (.fields (ts.setIfInBounds 3 (rawInt L))) sl=_
  congr 2
  apply Array.ext
  ·simp
  ·intro i q1 q2
   rw [Array.getElem_setIfInBounds]
   split
   ·rename_i e
    subst e
    rw [Array.getElem?_eq_getElem q2] at h3
    exact (Option.some.inj h3).symm
   ·rfl)
 unfold PySem.passOn
 refine wpAny_bind (wpAny_field he' hd h1 ?_)
 rw [if_neg (show ¬ ((Value.ref T == Value.none)=true) from by simp)]
 unfold setFlight
 refine wpAny_bind (wpAny_bind (wpAny_field he' hd h1 ?_))
 rw [if_pos (show (Value.ref T != Value.none)=true from by simp),hcf]
 refine wpAny_setField hT' hdT hsz3 ?_
 rw [same]
 have fr':h'.FunFrames b' X.stack:=Zc2 f3 λb hb o ho=>(hsb.2 b λz=>hCf (by rw [<- z]; exact hb)).trans ho
 have nob:∀ {c:Addr} {o:Obj},b'.get? c=some o->c≠ea/\c≠T:=λ{c o} hc=>⟨(λz=>by rw [z,f2] at hc; exact nomatch hc),(λz=>by rw [z,hT] at hc; exact nomatch hc)⟩
 refine wpAny_throw (hX _ _ ⟨pins,σ,H',ea,t,cls,eZ h' (ea::T::frs X.stack),rfl,I',⟨mL _ _,gG (by simp),ffr fr' _ λb hb=>List.mem_cons_of_mem _ (List.mem_cons_of_mem _ hb),oe,vs,T,oT,ts,he',hc,hd,h1,gG (by simp),hTe,hT',hdT,h3⟩,λb o hb hf hx=>?_,λb hb=>?_,hE⟩)
 ·obtain ⟨o2,e2⟩:=c1 b o hb hf hx
  obtain ⟨o3,e3⟩:=I'.base.there b o hb hx
  refine ⟨o3,?_⟩
  rw [dk]
  ·exact e3
  ·intro z
   rcases List.mem_cons.mp z with z | z
   ·exact (nob e2).1 z
   ·rcases List.mem_cons.mp z with z | z
    ·exact (nob e2).2 z
    ·exact hf z
 ·obtain ⟨o2,e2⟩:=c2 b hb
  cases e1:H' b with
  | none=>exact absurd e1 hb
  | some u =>
   obtain ⟨o3,e3⟩:=(I'.hok b u e1).get
   refine ⟨o3,?_⟩
   rw [dk]
   ·exact e3
   ·intro z
    rcases List.mem_cons.mp z with z | z
    ·exact (nob e2).1 z
    ·rcases List.mem_cons.mp z with z | z
     ·exact (nob e2).2 z
     ·exact hb (I'.stkFree b z)
noncomputable def jJ (X:Cx) (N:List Str) (scope:Scope) (E:XK) (L:Addr) (b:Blk):Cx :=
 (aZ X N scope b).wish λe s'=>(∃ (pins:List (Addr×Obj)) (σ:St) (H:Hp) (s:Shared),Inv (aZ X N scope b) pins σ H s/\bQ X.prog X.w X.stack H s E e s')\/oR (aZ X N scope b) E L e s'
theorem ZbZ {X:Cx} {N:List Str} {scope:Scope} {E:XK} {L:Addr} {b:Blk}:jV (bQ X.prog X.w) (jJ X N scope E L b) E:=λpins σ H s e s' I h=>.inl ⟨pins,σ,H,s,I.unwish,h⟩
theorem ZhE {X:Cx} {N:List Str} {scope:Scope} {E:XK} {L:Addr} {b:Blk}:oA (jJ X N scope E L b) E L:=by
 rintro e s' ⟨pins,σ,H',ea,t,cls,b',h1,I,h2,h3,h4,h5⟩
 exact .inr ⟨pins,σ,H',ea,t,cls,b',h1,I.unwish,h2,h3,h4,h5⟩
theorem ZoI {prog:Program} {w:World} {A:Around} {R:Result->Shared->Prop} {s:Shared} {elt target iter:Expr} {scope:Scope} {pos:Pos} {it acc:Value} {env:Env} {EE:Value->Shared->Prop}
  (hE:∀ e s',EE e s'->notedBy (model prog w) A env (λx s''=>R (.error x) s'') e s') (J:Nat->Shared->Prop)
  (step:∀ k s0,J k s0->wpAny (model prog w) A (pyNext it) (λgot s1=>match got with
   | none=>R (.ok .next) s1
   | some v=>wpAny (model prog w) A (letOwnedTupleGo target it v) (λ_ s2=>wpAny (model prog w) A (assign target env v) (λ_ s3=>wpAny (model prog w) A (eval elt env) (λy s4 =>
     wpAny (model prog w) A (call (.builtin "list.append") [acc,y]) (λ_ s5=>∃ j,j < k/\J j s5) (λ_ _=>False) s4) EE s3) (λ_ _=>False) s2) (λ_ _=>False) s1) (λ_ _=>False) s0)
  (k:Nat) (h:J k s):codeAny (model prog w) A (.compLoop (.ListComp elt [⟨target,iter,[],0⟩] scope pos) 0 it acc env) R s:=by
 refine codeAny_loop rfl J (λk0 s0 hJ=>?_) k h
 show wpAny _ _ ((compTurn (.ListComp elt [⟨target,iter,[],0⟩] scope pos) 0 it acc env).onRaise (λx=>do noteFrame x env; theTreesLotGoes x)) _ _ s0
 apply wpAny_noted
 rw [compTurn_list1]
 refine wpAny_bind (wpAny_standAt (wpAny_bind (wpAny_mono (step k0 s0 hJ) (λgot s1 h1=>?_) λ_ _ z=>z.elim)))
 cases got with
 | none=>exact wpAny_pure h1
 | some v =>
  refine wpAny_bind (wpAny_mono h1 (λ_ s2 h2=>?_) λ_ _ z=>z.elim)
  refine wpAny_bind (wpAny_mono h2 (λ_ s3 h3=>?_) λ_ _ z=>z.elim)
  refine wpAny_bind (wpAny_bind (wpAny_mono h3 (λy s4 h4=>?_) λe s' z=>hE e s' z))
  exact wpAny_bind (wpAny_mono h4 (λ_ s5 h5=>wpAny_pure (wpAny_pure ⟨rfl,h5⟩)) λ_ _ z=>z.elim)
section
variable {X:Cx} {pins:List (Addr×Obj)} {σ:St} {H:Hp} {s:Shared}
theorem ZiT {E0:XK} {L:Addr} {env0:Env} {outer:List Env} {elt target iter:Expr} {scope:Scope} {pos:Pos} {Nx ts:List Str} {ix:List Nat} {g:Blk->TG} {te:Blk->TE} {cl:List (Str×Addr)} {s2:Shared} {itv:Value} {R:Value->Env->Result->Shared->Prop}
  {E:Value->Shared->Prop} {Q:VK}
  (hc:X.calm=true) (hg:∀ b,PG (aZ X (bN Nx ts ix) scope b) target (g b)) (he:∀ b,PE (jJ X (bN Nx ts ix) scope E0 L b) elt (te b)) (hstk:X.stack=env0::outer) (hL0:env0.frame=some L) (hL:X.env.frame=some L)
  (hNx:X.N=Nx) (ok:BlkOk Nx X.env.scope scope ix) (cl1:∀ x c,cl.lookup x=some c->X.env.cells.lookup x=some c) (cl2:∀ y∈scope.names,y.2=.free->∃ c,cl.lookup y.1=some c)
  (h2:jW X pins σ target (λJ H1=>∀ b:Blk,∃ W:Nat->Nat->St->List V->Hp->Prop,(∃ m,W 0 m (cN ts.length ix σ) [] H1)/\∀ i m τ ys H2,W i m τ ys H2 ->
   (J.stop i H2/\∀ p v H',H2 p=none->v=V.ref p->H'=upd H2 p (.lst ys)->Q v H') \/
   (J.go i H2/\ys.length < sizeLine/\∀ x H3,J.yld i H2 x H3->g b x τ H3 λτ2 H4=>te b τ2 H4 λy H5=>∃ m',m' < m/\W (i+1) m' τ2 (ys++[y]) H5)) itv s2)
  (hR:∀ (D C:Addr) (cenv:Env) (H':Hp) (s':Shared) (v:V),cenv.locals=C->Inv X pins σ H' s'->v=.ref D->Q v H'->(∃ m,s'.heap.Ns C m)->H' C=none->C≠X.env.locals->X.s₀.heap.objs.size<=C->(∀ x c,X.env.cells.lookup x=some c->c≠C)->(∀ p∈X.pn++pins,p.1≠C) ->
   R (.ref D) cenv (.ok .next) s')
  (hRe:∀ (D C ea t:Addr) (cls:Value) (b':Heap) (cenv:Env) (H':Hp) (s':Shared),cenv.locals=C->cenv.frame=X.env.frame->Inv X pins σ H' s'->Heap.HeldW b' X.stack ea cls (.ref t) L s'.heap->(∀ b o,X.s₀.heap.get? b=some o->b ∉ frs X.stack->b ∉ X.ex->∃ o',b'.get? b=some o')->(∀ b,H' b≠none->∃ o',b'.get? b=some o')->E0 cls none H' ->
   (∃ m,s'.heap.Ns C m)->H' C=none->C≠X.env.locals->X.s₀.heap.objs.size<=C->(∀ x c,X.env.cells.lookup x=some c->c≠C)->(∀ p∈X.pn++pins,p.1≠C)->C ∉ frs X.stack->R (.ref D) cenv (.error (.ref ea)) s') :
  wpAny (model X.prog X.w) X.A (newList []) (λacc s₃=>wpAny (model X.prog X.w) X.A (newFunctionEnv scope X.env.globals cl [] X.env.qual none .none (some X.env)) (λcenv s₄ =>
   codeAny (model X.prog X.w) X.A (.compStart (.ListComp elt [⟨target,iter,[],0⟩] scope pos) 0 itv acc { cenv with scope:=relabel scope X.env }) (R acc cenv) s₄) E s₃) E s2:=by
 obtain ⟨it,fp,tn,J,H1,e,I2,T,st2,f2,q2⟩:=h2
 subst e
 refine wpAny_newObj_type (o5 ?_)
 dsimp only
 generalize hG:s2.heap.push { cls:=.type "list",dict:=none,data:=.seq ([]:List Value).toArray }=G
 have hGs:G.objs.size=s2.heap.objs.size+1:=by rw [<- hG,Heap.size_push]
 have hfs:∀ b∈fp,b < s2.heap.objs.size:=λb hb=>let ⟨o,e,_⟩:=T.obj _ _ st2 b hb; Heap.lt_size e
 have kpG:∀ b o,G.get? b=some o->(pushCells (G.push { cls:=.type "dict",data:=.dict #[] }) scope.names).get? b=some o:=λb o e=>pushCells_keeps _ _ _ _ (Heap.get?_push_of_some _ e)
 have hns3:(pushCells (G.push { cls:=.type "dict",data:=.dict #[] }) scope.names).Ns G.objs.size (λ_=>none):=(Heap.Ns.new G (.type "dict")).keeps (pushCells_keeps _ _)
 obtain ⟨sp1,sp2,sp4,sp3⟩:=rV scope.names (G.push { cls:=.type "dict",data:=.dict #[] }) cl
 rw [Heap.size_push] at sp1 sp2 sp3 sp4
 generalize hh3:pushCells (G.push { cls:=.type "dict",data:=.dict #[] }) scope.names=h3 at kpG hns3 sp1 ⊢
 have kp:∀ b o,s2.heap.get? b=some o->h3.get? b=some o:=λb o e=>kpG b o (by rw [<- hG]; exact Heap.get?_push_of_some _ e)
 have hD3:h3.get? s2.heap.objs.size=some { cls:=.type "list",data:=.seq ([]:List Value).toArray }:=kpG _ _ (by rw [<- hG]; exact Heap.get?_push_size _ rfl)
 have clB:∀ x c,cl.lookup x=some c->c < G.objs.size+1:=λx c e=>by
  obtain ⟨v,q⟩:=I2.cell x c (cl1 x c e)
  exact Nat.lt_succ_of_lt (Nat.lt_of_lt_of_le q.lt (by rw [hGs]; exact Nat.le_succ _))
 have csI:=sp3 clB λx y c e1 e2=>I2.ok.inj x y c (cl1 x c e1) (cl1 y c e2)
 have cs1:∀ x c,(cellsFrom (G.objs.size+1) scope.names cl).lookup x=some c->X.env.cells.lookup x=some c\/(G.objs.size < c/\h3.IsCell c none/\(x,NameKind.cell)∈scope.names):=λx c e=>by
  rcases sp1 x c e with z | ⟨z1,z2,z3⟩
  ·exact .inl (cl1 x c z)
  ·exact .inr ⟨by omega,z2,z3⟩
 have cs2:∀ y∈scope.names,(y.2=.free\/y.2=.cell)->∃ c,(cellsFrom (G.objs.size+1) scope.names cl).lookup y.1=some c:=λy hy hk=>by
  refine sp2 y.1 ?_
  rcases hk with z | z
  ·exact .inr (cl2 y hy z)
  ·exact .inl (by rw [<- z]; exact hy)
 have csA:∀ x c,(x,NameKind.cell)∈scope.names->(cellsFrom (G.objs.size+1) scope.names cl).lookup x=some c->G.objs.size<=c:=λx c e1 e2=>Nat.le_of_succ_le (sp4 x c e1 e2)
 generalize hcs:cellsFrom (G.objs.size+1) scope.names cl=cs at csI cs1 cs2 csA ⊢
 generalize hCe:G.objs.size=C at hns3 cs1 csA ⊢
 have hC:s2.heap.objs.size<=C:=by omega
 have hDC:s2.heap.objs.size≠C:=by omega
 let B:Blk:=⟨cs,C,s2,H1,fp,X.pn++pins⟩
 have I3:Inv (aZ X (bN Nx ts ix) scope B) [] (cN ts.length ix σ) H1 { s2 with heap:=h3 }:=rh I2 hNx ok cs1 csI cs2 csA f2 hfs hC kp hns3
 have fC:H1 s2.heap.objs.size=none:=I2.hok.fresh (Nat.le_refl _)
 have cellIn:∀ x c,cs.lookup x=some c->c≠s2.heap.objs.size:=λx c e=>by
  rcases cs1 x c e with z | ⟨z,_,_⟩
  ·obtain ⟨v,q⟩:=I2.cell x c z
   exact Nat.ne_of_lt q.lt
  ·exact Nat.ne_of_gt (Nat.lt_of_le_of_lt hC z)
 have pinIn:∀ p∈X.pn++pins,p.1 < s2.heap.objs.size:=λp hp=>Heap.lt_size (I2.pin p hp).1
 have nofrs:s2.heap.objs.size ∉ frs X.stack:=λhb=>by
  rcases List.mem_cons.mp (I2.stkSub _ hb) with z | z
  ·exact absurd I2.lt (by rw [<- z]; exact Nat.lt_irrefl _)
  ·exact I2.nofs (Nat.le_refl _) z
 -- a state with the list at its place,pinned
 have pinD:∀ {τ:St} {H':Hp} {s':Shared} {ob:Obj},Inv (aZ X (bN Nx ts ix) scope B) [] τ H' s'->s'.heap.get? s2.heap.objs.size=some ob->H' s2.heap.objs.size=none->(∀ v,ob.data≠.cell v)->Inv (aZ X (bN Nx ts ix) scope B) [(s2.heap.objs.size,ob)] τ H' s' :=
  λ{τ H' s' ob} I' ho hn hd=>I'.pins_of λp hp=>by
   have e:p=(s2.heap.objs.size,ob):=by simpa using hp
   subst e
   exact ⟨ho,hn,hDC,nofrs,hd⟩
 obtain ⟨W,⟨m0,w0⟩,turn⟩:=q2 B
 have stat:∀ {H':Hp} {ob:Obj},(∀ b∈fp,H' b=none)->∀ b∈fp,fR (aZ X (bN Nx ts ix) scope B) [(s2.heap.objs.size,ob)] H' b:=λ{H' ob} hn b hb=>by
  refine ⟨hn b hb,Nat.ne_of_lt (Nat.lt_of_lt_of_le (hfs b hb) hC),λz=>?_,.inl hb,λx c e=>by
   rcases cs1 x c e with z | ⟨z,_,_⟩
   ·exact (f2 b hb).2.2.2.2.1 x c z
   ·exact Nat.ne_of_gt (Nat.lt_of_lt_of_le (hfs b hb) (Nat.le_trans hC (Nat.le_of_lt z))),λp hp=>?_⟩
  ·rcases List.mem_cons.mp (I2.stkSub _ z) with q | q
   ·exact (f2 b hb).2.1 q
   ·exact (f2 b hb).2.2.1 q
  ·rcases List.mem_append.mp hp with z | z
   ·exact (f2 b hb).2.2.2.2.2 p z
   ·have e:p=(s2.heap.objs.size,ob):=by simpa using z
    subst e
    exact Nat.ne_of_gt (hfs b hb)
 have hCloc:C≠X.env.locals:=λz=>absurd (Nat.lt_of_lt_of_le I2.lt hC) (by rw [z]; exact Nat.lt_irrefl _)
 have hCf:C ∉ frs X.stack:=λz=>by
  obtain ⟨_,o,ho,_⟩:=I2.stack.mem z
  exact absurd (Nat.lt_of_lt_of_le (Heap.lt_size ho) hC) (Nat.lt_irrefl _)
 have fin:∀ (e:Value) (s':Shared),oR (aZ X (bN Nx ts ix) scope B) E0 L e s'->R (.ref s2.heap.objs.size) { scope:=scope,locals:=C,globals:=X.env.globals,cells:=cs,qual:=X.env.qual,func:=none,code:=X.env.code,frame:=X.env.frame,builtins:=X.env.builtins } (.error e) s':=by
  rintro e s' ⟨pins',τ,H5,ea,t,cls,b',rfl,I6,held,c1,c2,hE⟩
  have I7:Inv X pins σ H5 s':=I2.call' (ch:=fp) (H':=H5) (by exact I6.os) I6.base I6.hok I6.bare λb hb=>⟨(f2 b hb).2.2.2.1,(f2 b hb).2.1,(f2 b hb).2.2.2.2.1,(f2 b hb).2.2.2.2.2⟩
  obtain ⟨m6,hm6,_⟩:=I6.loc
  refine hRe _ C ea t cls b' _ H5 s' rfl rfl I7 held (λb o hb hf hx=>?_) c2 hE ⟨m6,hm6⟩ I6.free hCloc (Nat.le_trans I2.sz hC) (λx c e z=>?_) (λp hp=>Nat.ne_of_lt (Nat.lt_of_lt_of_le (pinIn p hp) hC)) hCf
  ·obtain ⟨o1,e1⟩:=I2.base.there b o hb hx
   refine c1 b o1 e1 hf λz=>?_
   rcases (f2 b z).2.2.2.1 with q | q
   ·exact hx q
   ·exact absurd (Nat.lt_of_lt_of_le (Heap.lt_size hb) q) (Nat.lt_irrefl _)
  ·obtain ⟨v,q⟩:=I2.cell x c e
   exact absurd (Nat.lt_of_lt_of_le q.lt hC) (by rw [z]; exact Nat.lt_irrefl _)
 have errs:∀ (e:Value) (s':Shared),(jJ X (bN Nx ts ix) scope E0 L B).xe e s'->notedBy (model X.prog X.w) X.A (compEnvC scope cs C X.env) (λx s''=>R (.ref s2.heap.objs.size) { scope:=scope,locals:=C,globals:=X.env.globals,cells:=cs,qual:=X.env.qual,func:=none,code:=X.env.code,frame:=X.env.frame,builtins:=X.env.builtins } (.error x) s'') e s':=by
  rintro e s' (⟨pins',τ,H5,s5,I5,hq⟩ | hh)
  ·exact Zih (X:=aZ X (bN Nx ts ix) scope B) I5 hstk hL0 hL hq λh' hh=>fin _ _ hh
  ·obtain ⟨pins',τ,H5,ea,t,cls,b',rfl,I6,held,c1,c2,hE⟩:=id hh
   exact wpAny_noteFrame_againW hL held.2.2.2 (fin _ _ hh)
 have loop:∀ s4:Shared,s4={ s2 with heap:=h3 } ->
   codeAny (model X.prog X.w) X.A (.compLoop (.ListComp elt [⟨target,iter,[],0⟩] scope pos) 0 (.ref it) (.ref s2.heap.objs.size) (compEnvC scope cs C X.env)) (R (.ref s2.heap.objs.size) { scope:=scope,locals:=C,globals:=X.env.globals,cells:=cs,qual:=X.env.qual,func:=none,code:=X.env.code,frame:=X.env.frame,builtins:=X.env.builtins }) s4:=by
  rintro s4 rfl
  refine ZoI (EE:=(jJ X (bN Nx ts ix) scope E0 L B).xe) errs (λk s'=>∃ i τ ys its n H',Inv (aZ X (bN Nx ts ix) scope B) [(s2.heap.objs.size,({ cls:=.type "list",data:=.seq (List.toArray its) n }:Obj))] τ H' s'/\tn i s'.heap/\(∀ b∈fp,H' b=none)/\Vals ys its/\ys.length<=sizeLine/\W i k τ ys H') ?_ m0
   ⟨0,_,[],[],_,H1,pinD I3 hD3 fC (λv z=>by cases z),T.keep _ _ _ st2 λb hb o e=>kp b o e,λb hb=>(f2 b hb).1,.nil,Nat.zero_le _,w0⟩
  rintro k s5 ⟨i,τ,ys,its,n,H5,I5,st5,fr5,rv,hz,w5⟩
  rcases turn i k τ ys H5 w5 with ⟨stop,qn⟩ | ⟨go,hlt,step⟩
  ·refine thn (T.done (aZ X (bN Nx ts ix) scope B) rfl rfl rfl hc i _ s5 τ H5 _ I5 (stat fr5) st5 stop) λgot s6 hz0=>?_
   obtain ⟨hr,I6⟩:=hz0
   subst hr
   obtain ⟨ho,hn,_,_,_⟩:=I6.pin (s2.heap.objs.size,({ cls:=.type "list",data:=.seq (List.toArray its) n }:Obj)) (List.mem_append_right _ (by simp))
   have I7:Inv X pins σ H5 s6:=I2.call' (ch:=fp) (H':=H5) (by exact I6.os) I6.base I6.hok I6.bare λb hb=>⟨(f2 b hb).2.2.2.1,(f2 b hb).2.1,(f2 b hb).2.2.2.2.1,(f2 b hb).2.2.2.2.2⟩
   have hs0:X.s₀.heap.objs.size<=s2.heap.objs.size:=I2.sz
   have I8:=I7.track hn ho rv hz (Nat.ne_of_gt I2.lt) hs0 (λx c e z=>by
    obtain ⟨v,q⟩:=I2.cell x c e
    exact absurd q.lt (by rw [z]; exact Nat.lt_irrefl _)) (λp hp=>Nat.ne_of_lt (pinIn p hp))
   obtain ⟨m6,hm6,_⟩:=I6.loc
   refine hR _ C _ _ s6 _ rfl I8 rfl (qn _ _ _ hn rfl rfl) ⟨m6,hm6⟩ ?_ (λz=>?_) (Nat.le_trans hs0 hC) (λx c e z=>?_) λp hp=>Nat.ne_of_lt (Nat.lt_of_lt_of_le (pinIn p hp) hC)
   ·rw [aJ (Ne.symm hDC)]
    exact I6.free
   ·exact absurd (Nat.lt_of_lt_of_le I2.lt hC) (by rw [z]; exact Nat.lt_irrefl _)
   ·obtain ⟨v,q⟩:=I2.cell x c e
    exact absurd (Nat.lt_of_lt_of_le q.lt hC) (by rw [z]; exact Nat.lt_irrefl _)
  ·refine thn (T.item (aZ X (bN Nx ts ix) scope B) rfl rfl rfl hc i _ s5 τ H5 _ I5 (stat fr5) st5 go) λgot s6 hz0=>?_
   obtain ⟨u,hr,h6⟩:=hz0
   subst hr
   refine thn h6 λ_ s7 hz0=>?_
   obtain ⟨x,H7,I7,r7,y7,st7,fr7⟩:=hz0
   have I7':=I7.pinned (stat fr7) (T.obj _ _ st7)
   refine thn (hg B _ s7 τ H7 x u _ I7' r7 (step x H7 y7)) λ_ s8 hz0=>?_
   obtain ⟨τ8,H8,I8,q8⟩:=hz0
   refine thn (he B _ s8 τ8 H8 _ (I8.wish _) q8) λy s9 hz0=>?_
   obtain ⟨vy,H9,I9x,r9,m',hm',w9⟩:=hz0
   have I9:=I9x.unwish
   obtain ⟨ho,hn,_,_,_⟩:=I9.pin (s2.heap.objs.size,({ cls:=.type "list",data:=.seq (List.toArray its) n }:Obj)) (List.mem_append_right _ (List.mem_append_left _ (by simp)))
   have lenv:=rv.length
   refine wpAny_list_append_plain (l:=s2.heap.objs.size) ⟨n,ho⟩ (λh' hpl hsb=>?_) (by rw [List.size_toArray]; omega)
   obtain ⟨n',ho'⟩:=hpl
   have eobj:(its.toArray.push y)=List.toArray (its++[y]):=by simp
   rw [eobj] at ho'
   have I9':Inv (aZ X (bN Nx ts ix) scope B) [] τ8 H9 s9:=I9.pins_of λp hp=>absurd hp (by simp)
   have I10:Inv (aZ X (bN Nx ts ix) scope B) [] τ8 H9 { s9 with heap:=h' }:=I9'.turned (it:=s2.heap.objs.size) (t':=s9.toks) (λb o hb e=>(hsb.2 b hb).trans e) hn hDC (.inr (Nat.le_refl _)) cellIn (λp hp=>by
    have hp':p∈(X.pn++pins)++[]:=hp
    rw [List.append_nil] at hp'
    exact Nat.ne_of_lt (pinIn p hp'))
   refine ⟨m',hm',i+1,τ8,ys++[vy],its++[y],n',H9,pinD I10 ho' hn (λv z=>by cases z),?_,λb hb=>?_,rv.append (.cons r9 .nil),by rw [List.length_append]; show ys.length+1<=_; omega,w9⟩
   ·refine T.keep _ _ _ st7 λb hb o e=>?_
    have q:=(I9.pin (b,o) (List.mem_append_right _ (List.mem_append_right _ (fF hb e)))).1
    exact (hsb.2 b (Nat.ne_of_lt (hfs b hb))).trans q
   ·obtain ⟨o,e,d⟩:=T.obj _ _ st7 b hb
    exact (I9.pin (b,o) (List.mem_append_right _ (List.mem_append_right _ (fF hb e)))).2.1
 exact codeAny_compStart_list (loop _ rfl) (T.self X.A 0 _ _ _ (T.keep _ _ _ st2 λb hb o e=>kp b o e) (loop _ rfl))
noncomputable def ZdT (M:Model) (A:Around) (E:Value->Shared->Prop) (env:Env) (scope:Scope) (Q:Value->Shared->Prop) (acc:Value) (cenv:Env) (r:Result) (s':Shared):Prop :=
 match r with
 | .ok _=>∃ m,s'.heap.Ns cenv.locals m/\∀ h',Heap.SameBut cenv.locals s'.heap h'->Q acc { s' with heap:=h' }
 | .error x=>∃ m,s'.heap.Ns cenv.locals m/\∀ h',Heap.SameBut cenv.locals s'.heap h'->wpAny M A (PySem.passOn "comprehension.variables-let-go" x { cenv with scope:=relabel scope env }:Sem Value) (λ_ _=>False) E { s' with heap:=h' }
theorem ZoH {M:Model} {A:Around} {E:Value->Shared->Prop} {env:Env} {e:Expr} {scope:Scope} {pos:Pos} {newAcc first:Sem Value} {g:Comprehension} {gs:List Comprehension} {cl:List (Str×Addr)} {Q:Value->Shared->Prop}
  (hcl:clausesOf e=g::gs) (hs:∀ x,foldedSetIterable g.iter env x=pure x) (hclos:closureFor scope env=pure cl)
  (hkind:scope.kind=.function) (hnames:∀ x∈scope.names,x.2=.local->scope.names.lookup x.1=some .local)
  (h:wpAny M A first (λx s₁=>wpAny M A (pyIter x) (λit s₂=>wpAny M A newAcc (λacc s₃ =>
   wpAny M A (newFunctionEnv scope env.globals cl [] env.qual none .none (some env)) (λcenv s₄ =>
    codeAny M A (.compStart e 0 it acc { cenv with scope:=relabel scope env }) (ZdT M A E env scope Q acc cenv) s₄) E s₃) E s₂) E s₁) E s) :
  wpAny M A (comprehension e scope env pos newAcc false first none) Q E s:=by
 unfold comprehension
 rw [hclos,hcl]
 refine wpAny_bind (wpAny_mono h (λx s₁ h₁=>wpAny_bind (wpAny_standAt (wpAny_bind (wpAny_of_eq (hs x) (wpAny_bind (wpAny_holding (wpAny_mono h₁ (λit s₂ h₂ =>
  wpAny_standIf (wpAny_bind (wpAny_mono h₂ (λacc s₃ h₃=>wpAny_bind (wpAny_pure (wpAny_bind (wpAny_mono h₃ (λcenv s₄ h₄=>?_) λ_ _ h'=>h')))) λ_ _ h'=>h')))
   λ_ _ h'=>h'))))))) λ_ _ h'=>h')
 dsimp only
 have hv:∀ x∈(scope.names.filter λx=>(x.2 == .local || x.2 == .cell) && x.1 != (".0":Str)).reverse,x.2=.local ->
   Env.kindOf { cenv with scope:=relabel scope env } x.1=some .local:=λx hx hl=>lookup_relabel_local (hnames x (List.mem_filter.mp (List.mem_reverse.mp hx)).1 hl)
 refine wpAny_holding (wpAny_bind (wpAny_attempt (wpAny_holding (wpAny_run (codeAny_mono h₄ λr s' hr=>?_)))))
 cases r with
 | ok f =>
  obtain ⟨m,hn,hr⟩:=hr
  exact wpAny_bind (wpAny_holding (wpAny_comp_letGo (cenv:={ cenv with scope:=relabel scope env }) hkind _ s' m hv hn λh' m' _ hs'=>wpAny_pure (hr h' hs')))
 | error x =>
  obtain ⟨m,hn,hr⟩:=hr
  exact wpAny_bind (wpAny_holding (wpAny_comp_letGo (cenv:={ cenv with scope:=relabel scope env }) hkind _ s' m hv hn λh' m' _ hs'=>wpAny_mono (hr h' hs') (λ_ _ f=>f.elim) λ_ _ y=>y))
theorem qg {E0:XK} {L:Addr} {env0:Env} {outer:List Env} {elt target iter:Expr} {scope:Scope} {pos:Pos} {wi:TI} {g:Blk->TG} {te:Blk->TE} (Nx:List Str) (ts:List Str) (ix:List Nat)
  (hc:X.calm=true) (hX:oA X E0 L) (hstk:X.stack=env0::outer) (hL0:env0.frame=some L) (hL:X.env.frame=some L) (hi:PI X target iter wi) (hg:∀ b,PG (aZ X (bN Nx ts ix) scope b) target (g b)) (he:∀ b,PE (jJ X (bN Nx ts ix) scope E0 L b) elt (te b))
  (hNx:X.N=Nx) (ok:BlkOk Nx X.env.scope scope ix) (hs:∀ x,foldedSetIterable iter X.env x=pure x:=by intro _; rfl) :
  PE X (.ListComp elt [⟨target,iter,[],0⟩] scope pos) (fV wi ts.length ix g te):=by
 intro pins s σ H Q I h
 obtain ⟨cl,hcl,cl1,cl2⟩:=nP (scope:=scope) (env:=X.env) λy hy hf=>I.ok.has y.1 (ok.frees y hy hf)
 rw [eval_ListComp]
 refine ZoH rfl hs hcl ok.kind ok.locs (thn (hi pins s σ H _ I h) λv s1 h1=>thn h1 λitv s2 h2=>?_)
 refine ZiT (R:=λacc cenv=>ZdT (model X.prog X.w) X.A X.xe X.env scope (EP X pins σ Q) acc cenv) hc hg he hstk hL0 hL hNx ok cl1 cl2 h2 ?_ ?_
 ·rintro D C cenv H' s' v rfl I' rfl q ⟨m,hm⟩ hn hL h0 hcl' hp
  exact ⟨m,hm,λh' hsb=>⟨.ref D,H',I'.turned (it:=cenv.locals) (t':=s'.toks) (λb o hb e=>(hsb.2 b hb).trans e) hn hL (.inr h0) hcl' hp,rfl,q⟩⟩
 ·rintro D C ea t cls b' cenv H' s' rfl hfr I' held c1 c2 hE ⟨m,hm⟩ hn hCL h0 hcl' hp hCf
  exact ⟨m,hm,λh' hsb=>ZhF hX (hfr.trans hL) I' held c1 c2 hE ⟨m,hm⟩ hn hCL h0 hcl' hp hCf hsb⟩
end
noncomputable def KxE (PK:Pk) (pa:Addr) (m:Nat) (G H:Hp) (C:Addr) (E:XK):Prop:=∀ G' H',Stp pa G H G' H'->Wd PK pa m G' H'->E (.ref C) none H'
theorem KxE.later {PK:Pk} {pa:Addr} {m:Nat} {G H G1 H1:Hp} {C:Addr} {E:XK} (k:KxE PK pa m G H C E) (s:Stp pa G H G1 H1) (hp:∃ o,H1 pa=some o):KxE PK pa m G1 H1 C E:=λG' H' s' w'=>k G' H' (s.trans s' hp) w'
noncomputable def KnX (PK:Pk) (pa:Addr) (m:Nat) (G H:Hp) (C:Addr) (E:XK) (Q:VK):Option PyData->Prop
 | some x=>Kn PK pa m G H x Q
 | none=>KxE PK pa m G H C E
noncomputable def ZeI (PK:Pk) (pa:Addr) (m:Nat) (G H:Hp) (C:Addr) (E:XK) (Q:VK):Option (List PyData)->Prop
 | some x=>Ko1 PK pa m G H x Q
 | none=>KxE PK pa m G H C E
noncomputable def KrX (PK:Pk) (pa:Addr) (m:Nat) (G H:Hp) (C:Addr) (E:XK) (Q:VK):Option Re->Prop
 | some x=>Kr PK pa m G H x Q
 | none=>KxE PK pa m G H C E
noncomputable def KoX (PK:Pk) (pa:Addr) (G₀ H₀ Gs:Hp) (D:Ends) (C:Addr) (E:XK) (m:Nat):Option Ou->Prop
 | some o=>Ko PK pa G₀ H₀ Gs D m o
 | none=>KxE PK pa m G₀ H₀ C E
noncomputable def TXe (PK:Pk) (C:Addr) (E:XK) (i:List Sl->Tr (Option PyData)):TE:=λσ H Q=>∃ pa G₀ H₀ m ρ G,Rl PK pa G₀ H₀ m σ ρ G H/\(i ρ).ok m λm' o=>KnX PK pa m' G H C E Q o
noncomputable def sJ (PK:Pk) (C:Addr) (E:XK) (i:List Sl->Tr (Option (List PyData))):TE:=λσ H Q=>∃ pa G₀ H₀ m ρ G,Rl PK pa G₀ H₀ m σ ρ G H/\(i ρ).ok m λm' o=>ZeI PK pa m' G H C E Q o
noncomputable def dg (PK:Pk) (C:Addr) (E:XK) (i:List Sl->Tr (Option Ou)):TS:=λD σ H=>∃ pa G₀ H₀ m ρ G,Rl PK pa G₀ H₀ m σ ρ G H/\(i ρ).ok m λm' o=>KoX PK pa G₀ H₀ G D C E m' o
noncomputable def om (PK:Pk) (n:Nat) (C:Addr) (f:List Sl->Tr (Option Re)):Sp:=λvs H Q E=>vs.length=n/\∃ pa m G as,Wd PK pa m G H/\ArsOk pa G vs as/\(f as).ok m λm' o=>KrX PK pa m' G H C E Q o
structure XCal (PK:Pk) (P:Program) (w:World) (K:PySem.W.Frag) (mg:Str->Option Value) (base:Heap) (x:Str) (k:Nat) (ps:List Str) (C:Addr) (f:List Sl->Tr (Option Re)):Prop where
 cal:CalleeX P w K mg base x k ps (om PK ps.length C f)
 len:∀ as m Z,(f as).ok m Z->as.length=ps.length
noncomputable def c5 {α β:Type} (t:Tr (Option α)) (k:α->Tr (Option β)):Tr (Option β):=t.bind λo=>match o with
 | none=>.ret none
 | some x=>k x
section
variable {PK:Pk} {X:Cx} {C:Addr} {E:XK} {e:Expr} {es:List Expr} {pos:Pos} {i:List Sl->Tr PyData} {j:List Sl->Tr (Option PyData)} {as:List Sl->Tr (List Sl)} {st:Stmt} {sts:List Stmt} {s:List Sl->Tr Ou} {u v:List Sl->Tr (Option Ou)}
theorem TXe.then {σ:St} {H:Hp} {β:Type} {k:PyData->Tr (Option β)} {Z:Nat->Option β->Prop} {Q:VK} {pa:Addr} {G₀ H₀ G:Hp} {m:Nat} {ρ:List Sl} (R:Rl PK pa G₀ H₀ m σ ρ G H) (h:(c5 (j ρ) k).ok m Z) (hz:∀ m',Z m' none->KxE PK pa m' G H C E)
  (hq:∀ m1 x v G1 H1,Stp pa G H G1 H1->Wd PK pa m1 G1 H1->Rl PK pa G₀ H₀ m1 σ ρ G1 H1->Dn G1 v x->(k x).ok m1 Z->Q v H1):TXe PK C E j σ H Q:=by
 refine ⟨pa,G₀,H₀,m,ρ,G,R,Tr.ok_mono (Tr.ok_bind.mp h) λm1 o ho=>?_⟩
 cases o with
 | none=>exact hz m1 ho
 | some x=>exact λv G1 H1 s1 w1 d1=>hq m1 x v G1 H1 s1 w1 (R.step s1 w1) d1 ho
noncomputable def g8 (f:List Sl->Tr (Option Re)) (as:List Sl->Tr (List Sl)):List Sl->Tr (Option PyData):=λρ=>(as ρ).bind λa=>(f a).bind λo=>.ret (o.map Re.val)
theorem jZ {x:Str} {k:Nat} {ps:List Str} {f:List Sl->Tr (Option Re)} {pp:Pos} (F:XCal PK X.prog X.w X.K X.mg X.base x k ps C f) (hr:Room k X.A) (hg:Gl X x) (hx:jV (bQ X.prog X.w) X E) (ha:PA X (e::es) (TAa PK as))
  (hdb:(x == ("__debug__":Str))=false:=by decide)
  (he:starEach (e::es) X.env=(false,eval e X.env)::starEach es X.env:=by rfl) (hpl:(backTo pos (starEach es X.env)).any (·.1)=false:=by rfl):PE X (.Call (.Name x pp) (e::es) [] pos) (TXe PK C E (g8 f as)):=by
 obtain ⟨fa,fd,Fk,hm,hk,hb⟩:=F.cal.ex
 refine (ZbY Fk hr hg hm hk hb .nil hx ha hdb he hpl).imp λσ H Q hz0=>?_
 obtain ⟨pa,G₀,H₀,m,ρ,G,R,z⟩:=hz0
 refine TAa.then R z λm1 xs vs G1 H1 s1 w1 R1 d1 q1=>?_
 show om PK ps.length C f (vs++[]) H1 Q E
 rw [List.append_nil]
 have q1':=Tr.ok_bind.mp q1
 refine ⟨by rw [d1.length]; exact F.len _ _ _ q1',pa,m1,G1,xs,w1,d1,Tr.ok_mono q1' λm2 o k=>?_⟩
 cases o with
 | none=>exact KxE.later k s1 w1.some
 | some r=>exact Kr.of (Kn.later k s1 w1.some) w1.some
noncomputable def fT (s:List Sl->Tr Ou):List Sl->Tr (Option Ou):=λρ=>(s ρ).bind λx=>.ret (some x)
theorem g6 (h:PSs X sts (bz PK s)):PSs X sts (dg PK C E (fT s)):=h.imp λD σ H ⟨pa,G₀,H₀,m,ρ,G,R,z⟩=>⟨pa,G₀,H₀,m,ρ,G,R,Tr.ok_mono (Tr.ok_bind.mp z) λ_ _ k=>k⟩
noncomputable def ly (k:Nat) (j:List Sl->Tr (Option PyData)):List Sl->Tr (Option Ou):=λρ=>c5 (j ρ) λx=>.ret (some (.next (ρ.set k (.d x))))
theorem Zad {k:Nat} (h:PS X st (d7 (TXe PK C E j) (fK k))):PS X st (dg PK C E (ly k j)):=h.imp λD σ H hz0=>by
 obtain ⟨pa,G₀,H₀,m,ρ,G,R,z⟩:=hz0
 refine TXe.then R z (λm' h=>KxE.later h R.st R.wd.some) λm1 x v G1 H1 s1 w1 R1 d1 q1=>?_
 exact q1 _ G1 H1 s1.gs (R1.set d1 k)
noncomputable def o4 (j:List Sl->Tr (Option PyData)):List Sl->Tr (Option Ou):=λρ=>c5 (j ρ) λx=>.ret (some (.ret (.d x)))
theorem ZeM (he:PE X e (TXe PK C E j)):PS X (.Return (some e) pos) (dg PK C E (o4 j)):=(eV he).imp λD σ H hz0=>by
 obtain ⟨pa,G₀,H₀,m,ρ,G,R,z⟩:=hz0
 refine TXe.then R z (λm' h=>KxE.later h R.st R.wd.some) λm1 x v G1 H1 s1 w1 R1 d1 q1=>?_
 exact q1 v G1 H1 R1.st w1 d1
noncomputable def lz (j:List Sl->Tr (Option PyData)):List Sl->Tr (Option Ou):=λρ=>c5 (j ρ) λ_=>.ret (some (.next ρ))
theorem Zae (he:PE X e (TXe PK C E j)) (hs:swapsWith e none pos.line X.env=pure false:=by rfl):PS X (.Expr e pos) (dg PK C E (lz j)):=(gD he hs).imp λD σ H hz0=>by
 obtain ⟨pa,G₀,H₀,m,ρ,G,R,z⟩:=hz0
 refine TXe.then R z (λm' h=>KxE.later h R.st R.wd.some) λm1 x v G1 H1 s1 w1 R1 d1 q1=>?_
 exact q1 σ G1 H1 s1.gs R1
noncomputable def iZ (p:List Sl->Tr Bool) (u v:List Sl->Tr (Option Ou)):List Sl->Tr (Option Ou):=λρ=>(p ρ).bind λb=>if b=true then u ρ else v ρ
theorem KoX.later {pa:Addr} {G₀ H₀ G G1:Hp} {D:Ends} {m:Nat} {o:Option Ou} (k:KoX PK pa G₀ H₀ G D C E m o) (sb:Sub G G1):KoX PK pa G₀ H₀ G1 D C E m o:=by
 cases o with
 | none=>exact k
 | some o=>exact Ko.later k sb
theorem lw {c:Expr} {p:List Sl->Tr Bool} {xs ys:List Stmt} (hc:PT X c (TAt PK p)) (ha:PSs X xs (dg PK C E u)) (hb:PSs X ys (dg PK C E v)):PS X (.If c xs ys pos) (dg PK C E (iZ p u v)):=(gC hc ha hb).imp λD σ H hz0=>by
 obtain ⟨pa,G₀,H₀,m,ρ,G,R,z⟩:=hz0
 refine TAt.then R z λm1 x G1 H1 s1 w1 R1 q1=>?_
 cases x with
 | true=>rw [if_pos rfl] at q1 ⊢; exact ⟨pa,G₀,H₀,m1,ρ,G1,R1,Tr.ok_mono q1 λ_ _ k'=>KoX.later k' s1.gs⟩
 | false=>rw [if_neg Bool.false_ne_true] at q1 ⊢; exact ⟨pa,G₀,H₀,m1,ρ,G1,R1,Tr.ok_mono q1 λ_ _ k'=>KoX.later k' s1.gs⟩
noncomputable def iX:List Sl->Tr (Option Ou):=λ_=>.ret none
theorem lv (h:PS X st (λ_ _ H=>E (.ref C) none H)):PS X st (dg PK C E iX):=h.imp λD σ H ⟨pa,G₀,H₀,m,ρ,G,R,z⟩=>(show KxE PK pa m G₀ H₀ C E from z) G H R.st R.wd
noncomputable def eO (u v:List Sl->Tr (Option Ou)):List Sl->Tr (Option Ou):=λρ=>(u ρ).bind λo=>match o with
 | some (.next ρ')=>v ρ'
 | o=>.ret o
theorem ZeZ:∀ D σ H,dg PK C E (eO u v) D σ H->ph (dg PK C E u) (dg PK C E v) D σ H:=by
 rintro D σ H ⟨pa,G₀,H₀,m,ρ,G,R,z⟩
 refine ⟨pa,G₀,H₀,m,ρ,G,R,Tr.ok_mono (Tr.ok_bind.mp z) λm1 o k=>?_⟩
 cases o with
 | none=>exact k
 | some o =>
  cases o with
  | next ρ'=>exact λσ' G' H' sb R'=>⟨pa,G₀,H₀,m1,ρ',G',R',Tr.ok_mono k λ_ _ k'=>KoX.later k' sb⟩
  | ret r=>exact k
  | brk ρ'=>exact k
  | cont ρ'=>exact k
theorem g7 (h1:PS X st (dg PK C E u)) (h2:PSs X sts (dg PK C E v)):PSs X (st::sts) (dg PK C E (eO u v)):=(cx h1 h2).imp ZeZ
theorem iS (h1:PS X st (dg PK C E u)):PSs X [st] (dg PK C E u):=ek h1
noncomputable def lb:Option Ou->Tr (Option Re)
 | none=>.ret none
 | some o=>(jD o).bind λr=>.ret (some r)
noncomputable def fm (n k:Nat) (u:List Sl->Tr (Option Ou)):List Sl->Tr (Option Re):=λas=>if decide (as.length=n)=true then (u (as++List.replicate k .un)).bind lb else .fail
theorem j4 {P:Program} {w:World} {K:PySem.W.Frag} {mg:Str->Option Value} {base:Heap} {x:Str} {N ps:List Str} {kk k:Nat} (D:Def K mg x st ps) (S:FnScope N ps (aB st)) (hk:N.length - ps.length=k)
  (hbody:∀ (f:Addr) (cdv:Value) (A:Around) (outer:List Env) (sh:Shared) (H:Hp) (E:XK),Room kk (A.deeper (envOfC x (aB st) sh.heap.objs.size f cdv)) ->
   PSs (cE (bQ P w) P w K mg base N x (aB st) f cdv A outer sh H E) (fe st) (dg PK C E u)):XCal PK P w K mg base x (kk+1) ps C (fm ps.length k u):=by
 have len:∀ as m Z,(fm ps.length k u as).ok m Z->as.length=ps.length:=λas m Z h=>by
  unfold fm at h
  exact of_decide_eq_true (eY h).1
 refine ⟨D.okX S (λvs H Q E h=>h.1) λf cdv A outer sh H vs Q E hr hsp=>?_,len⟩
 obtain ⟨hv,pa,m,G,as,wd,ar,z⟩:=hsp
 refine ⟨_,hbody f cdv A outer sh H E hr,?_⟩
 unfold fm at z
 obtain ⟨_,z⟩:=eY z
 refine ⟨pa,G,H,m,_,G,Rl.start wd ar (by rw [hv]; exact hk),Tr.ok_mono (Tr.ok_bind.mp z) λm1 o ko=>?_⟩
 cases o with
 | none=>exact ko
 | some o =>
  cases o with
  | next ρ=>exact λσ G1 H1 sb R1=>(show Kr PK pa m1 G H (.d .none) Q from ko) .non G1 H1 R1.st R1.wd .non
  | ret r=>exact ko
  | brk ρ=>exact (show False from ko).elim
  | cont ρ=>exact (show False from ko).elim
end
noncomputable def gJ (h:PyData->Tr (Option PyData)):List PyData->Tr (Option (List PyData))
 | []=>.ret (some [])
 | x::xs=>c5 (h x) λy=>c5 (gJ h xs) λys=>.ret (some (y::ys))
noncomputable def iY (is:List Sl->Tr (List PyData)) (n:Nat) (ix:List Nat) (g:PyData->List Sl->Option (List Sl)) (el:List Sl->Tr (Option PyData)):List Sl->Tr (Option (List PyData)):=λρ =>
 (is ρ).bind λxs=>if small xs.length=true then gJ (λx=>(Tr.of (g x (blk n ix ρ))).bind el) xs else .fail
section
variable {PK:Pk} {X:Cx} {C:Addr} {E:XK} {e:Expr} {es:List Expr} {pos:Pos} {is:List Sl->Tr (List PyData)} {i j:List Sl->Tr (Option PyData)} {os:List Sl->Tr (Option (List PyData))}
theorem ZiU {n:Nat} {ix:List Nat} {g:PyData->List Sl->Option (List Sl)} (hn:gv n g):∀ σ H Q,sJ PK C E (iY is n ix g i) σ H Q->fV (eN PK is) n ix (λ_=>dY PK g) (λ_=>TXe PK C E i) σ H Q:=by
 rintro σ H Q ⟨pa,G₀,H₀,m,ρ,G,R,z⟩
 refine ⟨pa,G₀,H₀,m,ρ,G,R,Tr.ok_mono (Tr.ok_bind.mp z) λm1 xs k J G1 H1 s1 w1 jo=>λB=>?_⟩
 obtain ⟨hs,k⟩:=eY k
 have hs:xs.length<=sizeLine:=of_decide_eq_true hs
 let el:PyData->Tr (Option PyData):=λx=>(Tr.of (g x (blk n ix ρ))).bind i
 let W:Nat->Nat->St->List V->Hp->Prop:=λk mm τ ys H2=>mm=xs.length - k/\k<=xs.length/\ys.length=k/\∃ m G2 ds,Sub G1 G2/\Stp pa G H G2 H2/\Rl PK pa G₀ H₀ m τ (blk n ix ρ) G2 H2 /\
  DnAll G2 ys ds/\(gJ el (xs.drop k)).ok m λm' zs=>ZeI PK pa m' G H C E Q (zs.map (ds++·))
 refine ⟨W,⟨xs.length,rfl,Nat.zero_le _,rfl,m1,G1,[],.refl,s1,(R.step s1 w1).blk n ix,.nil,Tr.ok_mono k λm' o ko=>?_⟩,?_⟩
 ·cases o with
  | none=>exact ko
  | some zs=>exact ko
 rintro k mm τ ys H2 ⟨rfl,hk,hy,m2,G2,ds,sb,st2,R2,dn,k2⟩
 obtain ⟨j1,j2⟩:=jo m2 G2 H2 sb R2.wd
 by_cases hlt:k < xs.length
 ·have hx:xs[k]?=some xs[k]:=by simp [hlt]
  obtain ⟨jg,jy⟩:=j1 k _ hx
  refine .inr ⟨jg,by omega,λx H3 y=>?_⟩
  obtain ⟨G3,s3,w3,d3⟩:=jy x H3 y
  rw [List.drop_eq_getElem_cons hlt] at k2
  unfold gJ c5 at k2
  rw [Tr.ok_bind,Tr.ok_bind] at k2
  obtain ⟨ρ3,hg3,k3⟩:=Tr.ok_of k2
  refine ⟨pa,G₀,H₀,m2,_,G3,_,ρ3,R2.step s3 w3,d3,hg3,λτ4 R4=>?_⟩
  refine ⟨pa,G₀,H₀,m2,ρ3,G3,R4,Tr.ok_mono k3 λm5 yd k5=>?_⟩
  cases yd with
  | none=>exact KxE.later (show KxE PK pa m5 G H C E from k5) (st2.trans s3 R2.wd.some) w3.some
  | some yd =>
   intro v G5 H5 s5 w5 d5
   have s35:=s3.trans s5 w3.some
   obtain ⟨pl,pk⟩:=hn _ _ _ hg3
   refine ⟨xs.length - (k+1),by omega,rfl,hlt,by rw [List.length_append,hy]; rfl,m5,G5,ds++[yd],sb.trans s35.gs,st2.trans s35 R2.wd.some,?_,(DnAll.mono s35.gs dn).snoc d5,?_⟩
   ·refine (R4.step s5 w5).weak pl λq sl hq=>?_
    by_cases hqn:q < n
    ·left
     unfold blk at hq
     rw [List.getElem?_append_left (by simpa using hqn),List.getElem?_replicate,if_pos hqn] at hq
     cases hq
     rfl
    ·right
     rw [pk q (Nat.le_of_not_lt hqn)]
     exact hq
   ·refine Tr.ok_mono (Tr.ok_bind.mp k5) λm6 zs k6=>?_
    cases zs with
    | none=>exact k6
    | some zs =>
     show Ko1 PK pa m6 G H ((ds++[yd])++zs) Q
     rw [List.append_assoc]
     exact k6
 ·have e:k=xs.length:=by omega
  subst e
  refine .inl ⟨j2,λp v H' hp ev eH=>?_⟩
  subst ev eH
  rw [List.drop_length] at k2
  have k2':Ko1 PK pa m2 G H (ds++[]) Q:=k2
  rw [List.append_nil] at k2'
  exact (Ko1.later k2' st2 R2.wd.some).new R2.wd dn hp
theorem oU {n:Nat} {ix:List Nat} {g:PyData->List Sl->Option (List Sl)} (h:PE X e (fV (eN PK is) n ix (λ_=>dY PK g) (λ_=>TXe PK C E i))) (hn:gv n g):PE X e (sJ PK C E (iY is n ix g i)):=h.imp (ZiU hn)
noncomputable def j7 (os:List Sl->Tr (Option (List PyData))):List Sl->Tr (Option PyData):=λρ=>c5 (os ρ) λxs=>.ret (some (.list xs))
theorem oY (h:PE X e (sJ PK C E os)):PE X e (TXe PK C E (j7 os)):=h.imp λσ H Q hz0=>by
 obtain ⟨pa,G₀,H₀,m,ρ,G,R,z⟩:=hz0
 refine ⟨pa,G₀,H₀,m,ρ,G,R,Tr.ok_mono (Tr.ok_bind.mp z) λm1 xs k=>?_⟩
 cases xs with
 | none=>exact k
 | some xs=>exact Ko1.of k R.wd.some
noncomputable def j6 (f:List PyData->Option PyData) (j:List Sl->Tr (Option PyData)):List Sl->Tr (Option PyData):=λρ=>c5 (j ρ) λx=>(Tr.of (f [x])).bind λz=>.ret (some z)
theorem oX {r:List V->Hp->VK->Prop} {f:List PyData->Option PyData} {call:Expr} (hv:df r f) (h:PE X call (fW r (hU (TXe PK C E j) aT))):PE X call (TXe PK C E (j6 f j)):=h.imp λσ H Q hz0=>by
 obtain ⟨pa,G₀,H₀,m,ρ,G,R,z⟩:=hz0
 refine TXe.then R z (λm' h=>h) λm1 x v G1 H1 s1 w1 R1 d1 q1=>?_
 have q1':=Tr.ok_bind.mp q1
 obtain ⟨d,hd,k⟩:=Tr.ok_of q1'
 exact hv PK pa m1 G1 H1 [v] [x] d Q w1 (.cons d1 .nil) hd (Kn.later k s1 w1.some)
end
theorem qi {P:Program} {w:World} {K:PySem.W.Frag} {mg:Str->Option Value} {base:Heap} {N:List Str} {qual:Str} {scope:Scope} {f:Addr} {cd:Value} {A:Around} {outer:List Env} {s₀:Shared} {H₀:Hp} {E:XK} :
  jV (bQ P w) (cE (bQ P w) P w K mg base N qual scope f cd A outer s₀ H₀ E) E:=λpins σ H s e s' I h=>ZhG I h λ_ _ z=>z
theorem ZpA {X:Cx} {PK:Pk} {pos:Pos} {x y:Str} (hg:Gl X x) (h:∃ t,X.mg x=some (.str y t)) (hd:(x == ("__debug__":Str))=false:=by decide):PE X (.Name x pos) (TAe PK (aC (.str y))):=by
 obtain ⟨t,e⟩:=h
 exact jP (eW (v:=.str y) hg e ⟨t,rfl⟩ hd) λ_=>.str y
section
variable {PK:Pk} {X:Cx} {C:Addr} {E:XK} {a b:Expr} {i j:List Sl->Tr (Option PyData)} {k:Nat} {pos:Pos}
end
variable {X:Cx} {i j:List Sl->Tr PyData} {ρ:List Sl}
variable {X:Cx} {i j:List Sl->Tr PyData} {ρ:List Sl}
noncomputable def Zbr:R2:=λx y H Q=>∃ p q xs,x=.ref p/\y=.ref q/\H p=some (.lst xs)/\H q=some (.lst [])/\Q (.bl (!xs.isEmpty)) H
theorem Zb5 {k:Nat} (hr:Room k X.A):OpR X (compareOp .NotEq) Zbr:=by
 intro pins s σ H x y v u Q I rx ry h
 obtain ⟨p,q,xs,rfl,rfl,h1,h2,z⟩:=h
 cases rx
 cases ry
 obtain ⟨its,r,pl,hz⟩:=I.list (SqL.of h1)
 obtain ⟨its2,r2,pl2,hz2⟩:=I.list (SqL.of h2)
 have hu:X.A.units < cLine:=by have:=hr.un; omega
 cases r2
 cases r with
 | nil =>
  exact SeqAt.RcNeAt.lists (e:=λ_=>true) pl.isList pl2.isList rfl hu (λj h1=>absurd h1 (by simp)) X.prog X.w X.xe _ ⟨.bl _,H,I,rfl,z⟩
 | cons a b =>
  exact SeqAt.RcNeAt.lists_lengths pl.isList pl2.isList (by simp) hu X.prog X.w X.xe _ ⟨.bl _,H,I,rfl,z⟩
noncomputable def jm:PyData->PyData->Option PyData
 | .list xs,.list []=>some (.bool (!xs.isEmpty))
 | _,_=>none
theorem Zal:b8 Zbr jm:=λPK pa m G H x y dx dy dz Q w hx hy hz k=>by
 unfold jm at hz
 split at hz
 ·cases hz
  cases hx with
  | lst a1 a2 =>
   cases hy with
   | lst b1 b2 =>
    cases b2
    exact ⟨_,_,_,rfl,rfl,w.sub _ _ a1,w.sub _ _ b1,by rw [a2.isEmpty]; exact k.here w (.bl _)⟩
 ·cases hz
theorem dA (xs:List PyData):av jm (.list xs) (.list [])=.ret (.bool (!xs.isEmpty)):=rfl
noncomputable def ZbF:List V->Hp->VK->Prop:=λxs H Q=>∃ a b:Int,xs=[.int a,.int b]/\0 < b/\Builtin.divisionGoesByPylong a b=false/\∀ p,H p=none->Q (.ref p) (upd H p (.tup [.int (a.fdiv b),.int (a.fmod b)]))
theorem ZoU {X:Cx}:CallR X (.builtin "divmod") ZbF:=by
 intro pins s σ H xs us Q I r h
 obtain ⟨a,b,rfl,hb,hp,q⟩:=h
 obtain ⟨u1,u2,rfl,r1,r2⟩:=kb r
 obtain ⟨t,rfl⟩:=r1
 obtain ⟨t2,rfl⟩:=r2
 refine divmod_int (by omega) ?_ (.inl hp)
 refine ⟨.ref s.heap.objs.size,_,I.laid (t':=s.toks+1+1) (o:=.tup [.int (a.fdiv b),.int (a.fmod b)]) (λb o e=>Heap.get?_push_of_some _ e) (Nat.le_refl _) ?_,rfl,q _ (I.hok.fresh (Nat.le_refl _))⟩
 exact ⟨by show 2<=sizeLine; decide,[.int (a.fdiv b) s.toks,.int (a.fmod b) (s.toks+1)],.cons ⟨_,rfl⟩ (.cons ⟨_,rfl⟩ .nil),IsTup.new _ _⟩
noncomputable def lf:List PyData->Option PyData
 | [.int a,.int b]=>if (decide (0 < b) && !(Builtin.divisionGoesByPylong a b))=true then some (.tuple [.int (a.fdiv b),.int (a.fmod b)]) else none
 | _=>none
theorem Zfa:df ZbF lf:=λPK pa m G H vs ds d Q w hv hd k=>by
 unfold lf at hd
 split at hd
 ·split at hd
  ·rename_i hc
   rw [Bool.and_eq_true] at hc
   cases hd
   cases hv with
   | cons h1 h2 =>
    cases h2 with
    | cons h2 h3 =>
     cases h3
     cases h1
     cases h2
     exact ⟨_,_,rfl,of_decide_eq_true hc.1,by simpa using hc.2,λp hp=>k.tup w (.cons (.int _) (.cons (.int _) .nil)) hp⟩
  ·cases hd
 ·cases hd
section
variable {PK:Pk} {X:Cx} {e:Expr} {es:List Expr} {as:List Sl->Tr (List Sl)} {pos:Pos}
noncomputable def jQ (f:Addr) (as:List Sl->Tr (List Sl)):List Sl->Tr (List Sl):=λρ=>(as ρ).bind λxs=>.ret (.fn f::xs)
theorem oi {x:Str} {f:Addr} {p:Pos} (hg:Gl X x) (hm:X.mg x=some (.ref f)) (hr:PA X es (TAa PK as)) (hd:(x == ("__debug__":Str))=false:=by decide) (hs:starEach (.Name x p::es) X.env=(false,eval (.Name x p) X.env)::starEach es X.env:=by rfl):PA X (.Name x p::es) (TAa PK (jQ f as)) :=
 (aQ (eW (v:=.ref f) hg hm rfl hd) hr hs).imp λσ H Q hz0=>by
  obtain ⟨pa,G₀,H₀,m,ρ,G,R,z⟩:=hz0
  show TAa PK as σ H λxs H2=>Q (.ref f::xs) H2
  refine TAa.then R z λm2 xs vs G2 H2 s2 w2 R2 d2 q2=>?_
  exact q2 _ G2 H2 s2 w2 (.cons .fn d2)
noncomputable def ll (k:Nat) (as:List Sl->Tr (List Sl)):List Sl->Tr (List Sl):=λρ=>match ρ[k]? with
 | some (.fn f)=>(as ρ).bind λxs=>.ret (.fn f::xs)
 | _=>.fail
theorem Zez {k:Nat} (ha:PE X e (fy k)) (hr:PA X es (TAa PK as)) (hs:starEach (e::es) X.env=(false,eval e X.env)::starEach es X.env:=by rfl):PA X (e::es) (TAa PK (ll k as)):=(aQ ha hr hs).imp λσ H Q hz0=>by
 obtain ⟨pa,G₀,H₀,m,ρ,G,R,z⟩:=hz0
 unfold ll at z
 split at z
 ·rename_i f hk
  obtain ⟨o,h1,h2⟩:=R.sl k _ hk
  cases h2
  refine ⟨_,h1,?_⟩
  refine TAa.then R z λm2 xs vs G2 H2 s2 w2 R2 d2 q2=>?_
  exact q2 _ G2 H2 s2 w2 (.cons .fn d2)
 ·exact z.elim
end
section
variable {X:Cx}
noncomputable def Zfn (P:Program) (w:World) (K:PySem.W.Frag) (mg:Str->Option Value) (base:Heap) (k j:Nat) (t:TA) (C:Addr) (l i:Nat) (tb:Addr->TS):TS:=λD σ H=>∃ f fd ps sp,σ[j]?=some (some (.ref f))/\FnOk P w K mg base (bQ P w) k f fd ps sp/\PySem.W.keepIn K (.ref f)=true/\Binds K fd ps [] /\
 t σ H λvs H1=>sp vs H1 (λv H'=>D.nx (σ.set l (some v)) H') λcls _ H'=>cls=.ref C/\∀ ea,H' ea=none ->
  tb ea { nx:=λσ' H2=>D.nx (σ'.set i none) H2,rt:=λ_ _=>False } (σ.set i (some (.ref ea))) (upd H' ea (.ext (dr ea (.ref C))))
theorem Zg9 {k j l:Nat} {x y c n:Str} {C D' L:Addr} {outer:List Env} {i:Nat} {e:Expr} {es:List Expr} {t:TA} {tb:Addr->TS} {p cpos apos yp cp hpos pos:Pos} {b₀:Stmt} {suite:List Stmt}
  (hstk:X.stack=X.env::outer) (hL:X.env.frame=some L) (hN:X.N.Nodup) (hr:Room k X.A) (hj:X.N[j]?=some x) (hv:jT X.env.scope x) (hl:X.N[l]?=some y) (hly:jY X.env.scope y) (hfy:X.fn y=true\/X.env.scope.names.lookup y=some .local)
  (ha:PA X.nox (e::es) t)
  (U:Under X.K C D') (hgc:Gl X c) (hmc:X.mg c=some (.ref D')) (hi:X.N[i]?=some n) (hn:X.env.kindOf n=some .local) (hln:jY X.env.scope n) (hfn:X.fn n=true\/X.env.scope.names.lookup n=some .local) (hsu:∀ ea,PSs (X.marked ea) (b₀::suite) (tb ea))
  (hdb:(x == ("__debug__":Str))=false:=by decide) (hcd:(x == ("__classdict__":Str))=false:=by decide) (hdc:(c == ("__debug__":Str))=false:=by decide)
  (he:starEach (e::es) X.env=(false,eval e X.env)::starEach es X.env:=by rfl) (hpl:(backTo cpos (starEach es X.env)).any (·.1)=false:=by rfl) (hs:swapsWith (.Call (.Name x p) (e::es) [] cpos) (some (.Name y yp)) apos.line X.env=pure false:=by rfl) :
  PS X (.Try [.Assign [.Name y yp] (.Call (.Name x p) (e::es) [] cpos) apos] [.ExceptHandler (some (.Name c cp)) (some n) (b₀::suite) hpos] [] [] pos) (Zfn X.prog X.w X.K X.mg X.base k j t C l i tb):=by
 intro pins s σ H D I h
 obtain ⟨f,fd,ps,sp,hf,F,hk,hb,h⟩:=h
 refine wpAny_Try_except (wpAny_execs_cons (wpAny_Assign_Name (wpAny_Call_Name_kw (Zcu I hj hv hf (λu r=>?_) hdb hcd)) hs))
 obtain rfl:u=.ref f:=r
 refine PySem.W.callWith_K (h₀:=X.base) I.ok.mod.kin hk (wpAny_mono (ha cpos pins s σ H _ (I.wish _) h) (λus s1 ⟨vs,H1,I1',r,q⟩=>⟨I1'.unwish.kIn,?_⟩) λ_ _ z=>z.elim) he hpl
 have I1:Inv X pins σ H1 s1:=I1'.unwish
 have hlen:us.length=ps.length:=by rw [<- r.length]; exact F.len _ _ _ _ q
 have hbb:=hb s1 us I1.kIn (by rw [List.append_nil]; exact hlen)
 rw [List.append_nil] at hbb
 refine wpAny_call (codeAny_mono (F.run X.A X.stack s1 H1 ⟨us,[]⟩ us vs _ _ hr I1.env0 hbb r q) λrr s' hq=>?_)
 cases rr with
 | ok fl =>
  cases fl with
  | ret u =>
   obtain ⟨v,H',I',r',q'⟩:=I1.after hq
   exact lG I' hN hl hly r' (λs2 I2=>wpAny_execs_nil (wpAny_execs_nil ⟨_,H',I2,q'⟩)) hfy
  | next=>exact False.elim hq
  | brk=>exact False.elim hq
  | cont=>exact False.elim hq
 | error ex =>
  have hq':bQ X.prog X.w X.stack H1 s1 (λcls _ H'=>cls=.ref C/\∀ ea,H' ea=none ->
   tb ea { nx:=λσ' H2=>D.nx (σ'.set i none) H2,rt:=λ_ _=>False } (σ.set i (some (.ref ea))) (upd H' ea (.ext (dr ea (.ref C))))) ex s':=hq
  refine Zd0 I1 hstk hL hq' λea cls H' h' eq I5 hea hcl fly un hE=>?_
  subst eq
  obtain ⟨hcls,hE⟩:=hE
  subst hcls
  obtain ⟨b'',tt,fl,hf,hbt⟩:=fly
  obtain ⟨nm,q0,N0,bs,bm,hdct,sn,sub,ab,col,dd,k0,k1,k2,k3,k5,newId,lkC,hin⟩:=U.ex
  obtain ⟨nm',q',N',bs',bm',hdct',sn',sub',ab',col',dd',j0,j1,j2,j3,j5,newId',lkD,hbase⟩:=U.top
  have KX:=I5.kIn
  refine Zjt hbase hin (ZiQ I5 hgc hmc ⟨rfl,KX _ _ lkC,KX _ _ lkD,hcl,?_⟩ hdc)
  refine ZiY I1 I5 un hea fl hf hbt (I5.os.trans I1.os.symm) λh6 I6=>?_
  refine lG I6 hN hi hln (show RelV (.ref ea) (.ref ea) from rfl) (λs7 I7=>?_) hfn
  refine wpAny_mono (hsu ea pins s7 _ _ _ (I7.marked ea) (hE ea hea)) (λfl8 s8 h8=>?_) λ_ _ z=>z.elim
  cases fl8 with
  | next =>
   obtain ⟨σ8,H8,I8,q8⟩:=h8
   exact Zir (I8.unmarked I5.ok) hN hi hn λs9 I9=>⟨_,_,I9,q8⟩
  | ret u=>obtain ⟨_,_,_,_,_,z⟩:=h8; exact z.elim
  | brk=>obtain ⟨_,_,_,z⟩:=h8; exact z.elim
  | cont=>obtain ⟨_,_,_,z⟩:=h8; exact z.elim
end
end L2
namespace L2
open PySem PySem.Spec PyProof.Rows PySem.NumText PySem.W.KIN
noncomputable def digs (m:Nat):List Nat:=(Nat.toDigits 10 m).map Char.toNat
theorem fM {m:Nat} (h:m < 10):digs m=[m+48]:=by
 unfold digs
 rw [Nat.toDigits_of_lt_base h]
 have:∀ d:Nat,d < 10->(Nat.digitChar d).toNat=d+48:=by decide
 rw [List.map_cons,this m h]
 rfl
theorem iG {q d:Nat} (hq:0 < q) (hd:d < 10):digs (10 * q+d)=digs q++[d+48]:=by
 have t:Nat.toDigits 10 q++Nat.toDigits 10 d=Nat.toDigits 10 (10 * q+d):=Nat.toDigits_append_toDigits (by decide) hq hd
 rw [<- fM hd]
 unfold digs
 rw [<- t,List.map_append]
theorem iH (m:Nat):AllDigits (digs m):=by
 intro c hc
 obtain ⟨ch,hch,e⟩:=List.mem_map.mp hc
 have r:=digit_range (Nat.isDigit_of_mem_toDigits (by decide) (by decide) hch)
 rw [<- e]
 exact r
theorem Zdx (m:Nat):digitsVal (digs m)=m:=val_back m
theorem rM (m:Nat):digs m≠[]:=by
 by_cases h:m < 10
 ·rw [fM h]; simp
 ·have:m=10 * (m / 10)+m % 10:=by omega
  rw [this,iG (by omega) (by omega)]
  simp
theorem ZnY (m:Nat):0 < m->(digs m).head?≠some 48:=by
 induction m using Nat.strongRecOn with
 | _ m ih =>
  intro h0
  by_cases h:m < 10
  ·rw [fM h]
   show some (m+48)≠some 48
   intro e
   have:=Option.some.inj e
   omega
  ·have e:m=10 * (m / 10)+m % 10:=by omega
   have:=ih (m / 10) (by omega) (by omega)
   rw [e,iG (by omega) (by omega)]
   cases hd:digs (m / 10) with
   | nil=>exact absurd hd (rM _)
   | cons c r=>rw [hd] at this; exact this
theorem jG (k:Nat):∀ m,m < 10 ^ (k+1)->(digs m).length<=k+1:=by
 induction k with
 | zero=>intro m h; rw [fM (by simpa using h)]; exact Nat.le_refl _
 | succ k ih =>
  intro m h
  by_cases hm:m < 10
  ·rw [fM hm]; exact Nat.succ_le_succ (Nat.zero_le _)
  ·have e:m=10 * (m / 10)+m % 10:=by omega
   have hp:10 ^ (k+1+1)=10 ^ (k+1) * 10:=Nat.pow_succ ..
   have:=ih (m / 10) (by rw [hp] at h; omega)
   rw [e,iG (by omega) (by omega),List.length_append]
   show _+1<=_
   omega
theorem ZnZ (l:List Nat) (c:Nat):digitsVal (l++[c])=digitsVal l * 10+(c - 48):=by
 unfold digitsVal
 rw [List.foldl_append]
 rfl
theorem Zaq {l:List Nat}:AllDigits l->l≠[]->l.head?≠some 48->0 < digitsVal l:=by
 intro ha hne hh
 have key:∀ (r:List Nat) (a:Nat),0 < a->0 < r.foldl (λacc c=>acc * 10+(c - 48)) a:=by
  intro r
  induction r with
  | nil=>intro a h; exact h
  | cons c r ih=>intro a h; exact ih (a * 10+(c - 48)) (by omega)
 cases l with
 | nil=>exact absurd rfl hne
 | cons c r =>
  have hc:=ha.head
  have:c≠48:=λe=>hh (by rw [e]; rfl)
  exact key r (0 * 10+(c - 48)) (by omega)
theorem Zdy (l:List Nat):AllDigits l->l≠[]->(l.head?≠some 48\/l=[48])->digs (digitsVal l)=l:=by
 have key:∀ n (l:List Nat),l.length=n->AllDigits l->l≠[]->l.head?≠some 48->digs (digitsVal l)=l:=by
  intro n
  induction n with
  | zero=>intro l hl _ hne; exact absurd (List.length_eq_zero_iff.mp hl) hne
  | succ n ih =>
   intro l hl ha hne hh
   have e:=(List.dropLast_concat_getLast hne).symm
   generalize l.dropLast=r at e
   generalize l.getLast hne=c at e
   subst e
   have hc:48<=c/\c<=57:=ha c (by simp)
   rw [ZnZ]
   cases r with
   | nil =>
    show digs (0 * 10+(c - 48))=[c]
    rw [Nat.zero_mul,Nat.zero_add,fM (by omega)]
    congr 1
    omega
   | cons d r =>
    have ha':AllDigits (d::r):=λx hx=>ha x (List.mem_append_left _ hx)
    have hh':(d::r).head?≠some 48:=hh
    have hp:=Zaq ha' (by simp) hh'
    have:=ih (d::r) (by simp at hl ⊢; omega) ha' (by simp) hh'
    rw [Nat.mul_comm,iG hp (by omega),this]
    congr 2
    omega
 intro ha hne h
 rcases h with h | h
 ·exact key _ l rfl ha hne h
 ·subst h
  exact fM (by decide)
noncomputable def b7 (i:Int):List Nat:=if i < 0 then 45::digs i.natAbs else digs i.natAbs
noncomputable def aG (i:Int):Str:=⟨(b7 i).toArray⟩
noncomputable def figs (l:List Nat):List Nat:=if l.head?=some 45 then l.tail else l
noncomputable def b6 (l:List Nat):Bool:=decide (1<=(figs l).length/\(figs l).length<=400) && (figs l).all (λc=>decide (48<=c/\c<=57)) && (decide ((figs l).head?≠some 48) || decide (l=[48]))
noncomputable def dI (l:List Nat):Int:=if l.head?=some 45 then -(digitsVal l.tail:Int) else (digitsVal l:Int)
theorem nw {l:List Nat} (h:b6 l=true):figs l≠[]/\(figs l).length<=400/\AllDigits (figs l)/\((figs l).head?≠some 48\/l=[48]):=by
 unfold b6 at h
 simp only [Bool.and_eq_true,Bool.or_eq_true,decide_eq_true_eq,List.all_eq_true] at h
 obtain ⟨⟨⟨h1,h2⟩,h3⟩,h4⟩:=h
 exact ⟨λe=>by rw [e] at h1; simp at h1,h2,λc hc=>h3 c hc,h4⟩
theorem Zn6 {l:List Nat} (h:b6 l=true):b7 (dI l)=l:=by
 obtain ⟨h1,h2,h3,h4⟩:=nw h
 unfold figs at h1 h2 h3 h4
 unfold b7 dI
 by_cases hm:l.head?=some 45
 ·rw [if_pos hm] at *
  cases l with
  | nil=>cases hm
  | cons c r =>
   have:c=45:=Option.some.inj hm
   subst this
   have h4':r.head?≠some 48:=h4.elim id λe=>by cases e
   have hp:=Zaq (l:=r) h3 h1 h4'
   show (if (-(digitsVal r:Int)) < 0 then 45::digs (-(digitsVal r:Int)).natAbs else digs (-(digitsVal r:Int)).natAbs)=45::r
   rw [if_pos (by omega)]
   have e:(-(digitsVal r:Int)).natAbs=digitsVal r:=by omega
   rw [e,Zdy r h3 h1 (.inl h4')]
 ·rw [if_neg hm] at *
  rw [if_neg (by omega)]
  have e:((digitsVal l:Int)).natAbs=digitsVal l:=by omega
  rw [e,Zdy l h3 h1 h4]
theorem ZdG (i:Int):figs (b7 i)=digs i.natAbs:=by
 unfold b7 figs
 by_cases hi:i < 0
 ·rw [if_pos hi]; rfl
 ·rw [if_neg hi]
  rw [if_neg]
  cases hd:digs i.natAbs with
  | nil=>simp
  | cons c r =>
   have:=iH i.natAbs c (by rw [hd]; simp)
   intro e
   have:c=45:=Option.some.inj e
   omega
theorem Zn4 (i:Int):dI (b7 i)=i:=by
 have e:=ZdG i
 unfold dI
 by_cases hi:i < 0
 ·have:b7 i=45::digs i.natAbs:=if_pos hi
  rw [this]
  show -(digitsVal (digs i.natAbs):Int)=i
  rw [Zdx]
  omega
 ·have h:b7 i=digs i.natAbs:=if_neg hi
  unfold figs at e
  by_cases hm:(b7 i).head?=some 45
  ·rw [if_pos hm] at e
   rw [<- h] at e
   have:(b7 i).length=(b7 i).length - 1:=by
    have:=congrArg List.length e
    rw [List.length_tail] at this
    exact this.symm
   cases hd:b7 i with
   | nil=>rw [hd] at hm; cases hm
   | cons c r=>rw [hd] at this; simp at this
  ·rw [if_neg hm,h,Zdx]
   omega
theorem Zn5 {i:Int} (h:i.natAbs < 10 ^ 400):b6 (b7 i)=true:=by
 unfold b6
 rw [ZdG]
 simp only [Bool.and_eq_true,Bool.or_eq_true,decide_eq_true_eq,List.all_eq_true]
 refine ⟨⟨⟨?_,jG 399 _ h⟩,λc hc=>iH _ c hc⟩,?_⟩
 ·have:=rM i.natAbs
  cases hd:digs i.natAbs with
  | nil=>exact absurd hd this
  | cons c r=>simp
 ·by_cases h0:i.natAbs=0
  ·right
   have:i=0:=by omega
   subst this
   rfl
  ·exact .inl (ZnY _ (by omega))
theorem ZdF (i:Int):(Str.ofString (toString i))=aG i:=by
 unfold aG
 apply Str.ext'
 apply Array.toList_inj.mp
 rw [signs_ofString]
 show _=b7 i
 cases i with
 | ofNat n =>
  show (Nat.repr n).toList.map Char.toNat=_
  rw [Nat.toList_repr]
  rfl
 | negSucc n =>
  show ("-"++Nat.repr (n+1)).toList.map Char.toNat=_
  rw [String.toList_append,List.map_append,Nat.toList_repr]
  have e:"-".toList.map Char.toNat=[45]:=by decide
  rw [e]
  unfold b7
  rw [if_pos (by omega)]
  rfl
theorem Zjn {w:Str} (h:b6 w.cps.toList=true):intText? w=some (dI w.cps.toList):=by
 obtain ⟨h1,h2,h3,h4⟩:=nw h
 have hl:w.length=w.cps.toList.length:=by simp [Str.length]
 unfold figs at h1 h2 h3
 unfold dI
 by_cases hm:w.cps.toList.head?=some 45
 ·rw [if_pos hm] at h1 h2 h3 ⊢
  have e:w.cps.toList=45::w.cps.toList.tail:=by
   cases hc:w.cps.toList with
   | nil=>rw [hc] at hm; cases hm
   | cons c r=>rw [hc] at hm; rw [Option.some.inj hm]; rfl
  refine intText_neg e h3 h1 ?_
  rw [hl,e]
  simp only [List.length_cons]
  omega
 ·rw [if_neg hm] at h1 h2 h3 ⊢
  exact intText_digits h3 h1 (by omega)
theorem Zib {l:List Nat} (h:b6 l=true):l.length<=401:=by
 obtain ⟨h1,h2,h3,h4⟩:=nw h
 unfold figs at h2
 split at h2
 ·rw [List.length_tail] at h2; omega
 ·omega
noncomputable def padk (k:Nat) (r:Nat):List Nat:=List.replicate (k - (digs r).length) 48++digs r
theorem ZhJ {k r:Nat} (hk:0 < k) (h:r < 10 ^ (k+1)):padk (k+1) r=padk k (r / 10)++[r % 10+48]:=by
 unfold padk
 by_cases hr:r < 10
 ·have e0:r / 10=0:=by omega
  have e1:r % 10=r:=by omega
  rw [e0,e1,fM hr,fM (by decide)]
  show List.replicate (k+1 - 1) 48++[r+48]=List.replicate (k - 1) 48++[48]++[r+48]
  congr 1
  obtain ⟨j,rfl⟩:∃ j,k=j+1:=⟨k - 1,by omega⟩
  show List.replicate (j+1) 48=List.replicate j 48++[48]
  rw [List.replicate_succ']
 ·have e:r=10 * (r / 10)+r % 10:=by omega
  have e2:digs r=digs (r / 10)++[r % 10+48]:=by
   rw [e,iG (by omega) (by omega)]
   congr 2
   ·omega
   ·omega
  rw [e2,List.length_append]
  show List.replicate (k+1 - ((digs (r / 10)).length+1)) 48++_=_
  rw [Nat.add_sub_add_right,List.append_assoc]
theorem ZnX (k:Nat):∀ q r,0 < q->r < 10 ^ (k+1)->digs (q * 10 ^ (k+1)+r)=digs q++padk (k+1) r:=by
 induction k with
 | zero =>
  intro q r hq hr
  have hr':r < 10:=by simpa using hr
  have e:q * 10 ^ (0+1)+r=10 * q+r:=by rw [Nat.zero_add,Nat.pow_one,Nat.mul_comm]
  rw [e,iG hq hr']
  congr 1
  unfold padk
  rw [fM hr']
  rfl
 | succ k ih =>
  intro q r hq hr
  have hp:10 ^ (k+1+1)=10 ^ (k+1) * 10:=Nat.pow_succ ..
  have hr2:r / 10 < 10 ^ (k+1):=by rw [hp] at hr; omega
  have e:q * 10 ^ (k+1+1)+r=10 * (q * 10 ^ (k+1)+r / 10)+r % 10:=by
   rw [hp,<- Nat.mul_assoc]
   generalize q * 10 ^ (k+1)=z
   omega
  have hpos:0 < q * 10 ^ (k+1)+r / 10:=Nat.add_pos_left (Nat.mul_pos hq (Nat.pow_pos (by decide))) _
  rw [e,iG hpos (by omega),ih q (r / 10) hq hr2,ZhJ (by omega) hr,List.append_assoc]
theorem jz (c:Nat):∀ (p:Str) (ps:List Str),(Str.join ⟨#[c]⟩ (p::ps)).cps.toList=p.cps.toList++(ps.map λq=>c::q.cps.toList).flatten
 | p,[]=>by simp [Str.join]
 | p,q::ps=>by
  have ih:=jz c q ps
  have e:Str.join ⟨#[c]⟩ (p::q::ps)=p++⟨#[c]⟩++Str.join ⟨#[c]⟩ (q::ps):=rfl
  rw [e,Str.cps_append,Str.cps_append,Array.toList_append,Array.toList_append,ih]
  simp
theorem ZcU {c:Nat}:∀ {a b x y:List Nat},c ∉ a->c ∉ b->a++c::x=b++c::y->a=b/\x=y
 | [],[],x,y,_,_,h=>⟨rfl,List.tail_eq_of_cons_eq h⟩
 | [],d::b,x,y,_,hb,h=>absurd (List.mem_cons.mpr (.inl (List.head_eq_of_cons_eq h))) hb
 | d::a,[],x,y,ha,_,h=>absurd (List.mem_cons.mpr (.inl (List.head_eq_of_cons_eq h).symm)) ha
 | d::a,e::b,x,y,ha,hb,h=>by
  have h1:=List.head_eq_of_cons_eq h
  have h2:=List.tail_eq_of_cons_eq h
  obtain ⟨r1,r2⟩:=ZcU (λm=>ha (List.mem_cons_of_mem _ m)) (λm=>hb (List.mem_cons_of_mem _ m)) h2
  exact ⟨by rw [h1,r1],r2⟩
theorem ia {a b:Str} (h:a.cps.toList=b.cps.toList):a=b:=Str.ext' (Array.toList_inj.mp h)
theorem ZcA {c:Nat}:∀ {ps qs:List Str},ps≠[]->qs≠[]->(∀ p∈ps,c ∉ p.cps.toList)->(∀ p∈qs,c ∉ p.cps.toList)->Str.join ⟨#[c]⟩ ps=Str.join ⟨#[c]⟩ qs->ps=qs
 | [],_,h,_,_,_,_=>absurd rfl h
 | _,[],_,h,_,_,_=>absurd rfl h
 | [p],[q],_,_,_,_,h=>by
  have h:p=q:=h
  rw [h]
 | [p],q::q'::qs,_,_,hp,hq,h=>by
  have h':=congrArg (λs:Str=>s.cps.toList) h
  simp only [jz] at h'
  exact absurd (by
   have:c∈p.cps.toList:=by
    have e:p.cps.toList=q.cps.toList++(List.map (λq=>c::q.cps.toList) (q'::qs)).flatten:=by simpa using h'
    rw [e]; simp
   exact this) (hp p (by simp))
 | p::p'::ps,[q],_,_,hp,hq,h=>by
  have h':=congrArg (λs:Str=>s.cps.toList) h
  simp only [jz] at h'
  exact absurd (by
   have:c∈q.cps.toList:=by
    have e:p.cps.toList++(List.map (λq=>c::q.cps.toList) (p'::ps)).flatten=q.cps.toList:=by simpa using h'
    rw [<- e]; simp
   exact this) (hq q (by simp))
 | p::p'::ps,q::q'::qs,_,_,hp,hq,h=>by
  have h':=congrArg (λs:Str=>s.cps.toList) h
  simp only [jz,List.map_cons,List.flatten_cons,List.cons_append] at h'
  obtain ⟨r1,r2⟩:=ZcU (hp p (by simp)) (hq q (by simp)) h'
  have e:Str.join ⟨#[c]⟩ (p'::ps)=Str.join ⟨#[c]⟩ (q'::qs):=ia (by rw [jz,jz]; exact r2)
  have:=ZcA (by simp) (by simp) (λx hx=>hp x (List.mem_cons_of_mem _ hx)) (λx hx=>hq x (List.mem_cons_of_mem _ hx)) e
  rw [ia r1,this]
theorem ZfP (x y:Str):Txt.split x y≠[]:=λe=>by
 have:=split_pos x y
 rw [e] at this
 exact absurd this (by decide)
theorem pB {c:Nat} {ps:List Str} (h0:ps≠[]) (h:∀ p∈ps,c ∉ p.cps.toList):Txt.split (Str.join ⟨#[c]⟩ ps) ⟨#[c]⟩=ps :=
 ZcA (ZfP _ _) h0 (StrLaws.split_free _ c) h (StrLaws.join_split _ _)
end L2
namespace L2
open PySem PySem.Spec PyProof.Rows
variable {ρ:List Sl} {s t:List Sl->Tr Ou} {i j l:List Sl->Tr PyData} {is:List Sl->Tr (List PyData)} {as:List Sl->Tr (List Sl)} {k n:Nat} {x y d:PyData} {xs ys:List PyData} {sl:Sl} {a b:Str}
theorem cA {n:Nat} (h:n<=1048576):small n=true:=decide_eq_true (fb h)
theorem Zle (m n:Int):av aS (.int m) (.int n)=.ret (.int (m+n)):=rfl
theorem gQ (h:a.length+b.length<=1048576):av aS (.str a) (.str b)=.ret (.str (a++b)):=by
 unfold av aS
 dsimp only
 rw [decide_eq_true h]; rfl
theorem jE (h2:small (xs.length+ys.length)=true):av aS (.list xs) (.list ys)=.ret (.list (xs++ys)):=by
 show av dm (.list xs) (.list ys)=_
 exact Zde h2
theorem Zld:av aS (.tuple xs) (.tuple ys)=av fk (.tuple xs) (.tuple ys):=rfl
theorem Zk5 (m n:Int):av fE (.int m) (.int n)=av jq (.int m) (.int n):=rfl
theorem Zda {n:Int} (h:0 < n/\n<=1048576/\a.length * n.toNat<=1048576):av fE (.str a) (.int n)=.ret (.str (gB a n)):=by
 unfold av fE
 dsimp only
 rw [decide_eq_true h]; rfl
theorem cD (h:a.length<=1048576):bw cU [.str a]=.ret (.int a.length):=by
 unfold bw cU
 dsimp only
 rw [decide_eq_true h]; rfl
theorem Zk7:bw cU [.list xs]=.ret (.int xs.length):=rfl
theorem Zk6:bw cU [.tuple xs]=.ret (.int xs.length):=rfl
theorem rH {n:Int} (h:a.length<=1048576):av cm (.str a) (.int n)=Tr.of ((bd a.cps.toList n).map λc=>.str ⟨#[c]⟩):=by
 unfold av cm
 dsimp only
 rw [decide_eq_true h]; rfl
theorem Zk9 (n:Int):av cm (.list xs) (.int n)=Tr.of (bd xs n):=rfl
theorem Zk8 (n:Int):av cm (.tuple xs) (.int n)=Tr.of (bd xs n):=rfl
theorem Zlc {neg:Bool}:av (iB neg) (.str a) (.str b)=.ret (.bool (if neg then !gN b a else gN b a)):=rfl
theorem Zla (n:Int):bw gl [.int n]=.ret (.int n):=rfl
theorem Zlb (b:Bool):bw gl [.bool b]=.ret (.int (if b then 1 else 0)):=rfl
noncomputable def jc (x:PyData) (lo:Option Int) (hi:Option Int):Tr PyData:=Tr.of (pD x lo hi)
noncomputable def pE (q:dX) (ρ:List Sl) (x:PyData) (lo:Option Int):Tr PyData:=(q ρ).bind (jc x lo)
noncomputable def ZaP (p q:dX) (ρ:List Sl) (x:PyData):Tr PyData:=(p ρ).bind (pE q ρ x)
theorem ZkS {p q:dX}:cF i p q ρ=(i ρ).bind (ZaP p q ρ):=rfl
theorem ZkR {p q:dX}:ZaP p q ρ x=(p ρ).bind (pE q ρ x):=rfl
theorem ZkQ {q:dX} {lo:Option Int}:pE q ρ x lo=(q ρ).bind (jc x lo):=rfl
theorem ZkP {lo hi:Option Int}:jc (.list xs) lo hi=.ret (.list (eI xs lo hi)):=rfl
theorem ZkO {lo hi:Option Int}:jc (.tuple xs) lo hi=.ret (.tuple (eI xs lo hi)):=rfl
theorem cV {lo hi:Option Int} (h:a.length<=1048576):jc (.str a) lo hi=.ret (.str (Txt.slice a lo hi)):=by
 unfold jc pD
 dsimp only
 rw [decide_eq_true h]; rfl
noncomputable def kY (x:PyData):Tr (List PyData):=Tr.of (itA x)
theorem Zmd:bV i ρ=(i ρ).bind kY:=rfl
theorem Zmc:kY (.list xs)=.ret xs:=rfl
theorem Zma:kY (.tuple xs)=.ret xs:=rfl
theorem Zmb:kY (.str a)=.ret (cB a):=rfl
theorem ZfO {c:Nat} (h:a.length<=500000):pC a ⟨#[c]⟩=true:=by
 have h2:(Txt.split a ⟨#[c]⟩).length<=a.length+2:=(fact_split a ⟨#[c]⟩).2
 have h3:(Builtin.Str.partsBetween a (Builtin.Str.occurrences a ⟨#[c]⟩ 0 a.length (a.length+1)) (⟨#[c]⟩:Str).length).length<=a.length+2:=by
  rw [len_partsBetween]
  have:=StrLaws.occ_length_le a ⟨#[c]⟩ 0 a.length (a.length+1)
  omega
 exact decide_eq_true ⟨by show (1:Nat)≠0; decide,by omega,by omega,by omega⟩
theorem dR {c:Nat} (h:a.length<=500000):av dG (.str a) (.str ⟨#[c]⟩)=.ret (.list ((Txt.split a ⟨#[c]⟩).map PyData.str)):=by
 unfold av dG
 dsimp only
 rw [ZfO h]; rfl
theorem lc (h:a.length<=1048576):av ig (.str a) (.str b)=.ret (.str (Txt.removeprefix a b)):=by
 unfold av ig
 dsimp only
 rw [decide_eq_true h]; rfl
theorem ZaD:∀ l:List Str,hZ (l.map PyData.str)=some l
 | []=>rfl
 | x::l=>by
  have ih:=ZaD l
  rw [List.map_cons]
  unfold hZ
  rw [ih]
  rfl
theorem ae {l:List Str} (h:a.length<=16/\(l.map (·.length)).sum+l.length<=1048576):av bL (.str a) (.list (l.map PyData.str))=.ret (.str (Txt.join a l)):=by
 unfold av bL
 dsimp only
 rw [ZaD]
 show Tr.of (if iz a l=true then _ else _)=_
 rw [show iz a l=true from decide_eq_true h]
 rfl
noncomputable def ZjW (sep u v:Str):Tr PyData:=.ret (.str (((Str.empty++u)++sep)++v))
noncomputable def nE (sep u:Str) (y:PyData):Tr PyData:=(Tr.of (lF y)).bind (ZjW sep u)
noncomputable def ZjX (sep:Str) (j:List Sl->Tr PyData) (ρ:List Sl) (u:Str):Tr PyData:=(j ρ).bind (nE sep u)
noncomputable def ZcT (sep:Str) (j:List Sl->Tr PyData) (ρ:List Sl) (x:PyData):Tr PyData:=(Tr.of (lF x)).bind (ZjX sep j ρ)
theorem ZfL:Str.empty++a=a:=by
 apply ia
 rw [Str.cps_append]
 simp [Str.empty]
theorem ag (h:b.length<=262144):ZcT a j ρ (.str b)=(j ρ).bind (nE a b):=by
 unfold ZcT lF
 dsimp only
 rw [decide_eq_true h]; rfl
theorem af {c:Str} (h:c.length<=262144):nE a b (.str c)=.ret (.str (b++a++c)):=by
 unfold nE lF
 dsimp only
 rw [decide_eq_true h,if_pos rfl]
 show Tr.ret _=_
 rw [ZfL]
variable {X Y:Type} {u v:List Sl->Tr (Option Ou)} {xe:List Sl->Tr (Option PyData)} {xo:List Sl->Tr (Option (List PyData))} {fx:List Sl->Tr (Option Re)}
theorem Zj7 {k:X->Tr (Option Y)}:c5 (.ret none) k=.ret none:=rfl
theorem Zc6 {k:X->Tr (Option Y)} {z:X}:c5 (.ret (some z)) k=k z:=rfl
noncomputable def oZ (o:Option Re):Tr (Option PyData):=.ret (o.map Re.val)
noncomputable def Zaj (fx:List Sl->Tr (Option Re)) (as:List Sl):Tr (Option PyData):=(fx as).bind oZ
theorem Zky:g8 fx as ρ=(as ρ).bind (Zaj fx):=rfl
theorem Zkn {sls:List Sl}:Zaj fx sls=(fx sls).bind oZ:=rfl
theorem Zkm {o:Option Re}:oZ o=.ret (o.map Re.val):=rfl
noncomputable def Zab (o:Ou):Tr (Option Ou):=.ret (some o)
theorem Zko:fT s ρ=(s ρ).bind Zab:=rfl
theorem Zkb {o:Ou}:Zab o=.ret (some o):=rfl
noncomputable def Zac (k:Nat) (ρ:List Sl) (x:PyData):Tr (Option Ou):=.ret (some (.next (ρ.set k (.d x))))
theorem Zkp:ly k xe ρ=c5 (xe ρ) (Zac k ρ):=rfl
theorem Zkd:Zac k ρ x=.ret (some (.next (ρ.set k (.d x)))):=rfl
noncomputable def Zaf (x:PyData):Tr (Option Ou):=.ret (some (.ret (.d x)))
theorem Zkr:o4 xe ρ=c5 (xe ρ) Zaf:=rfl
theorem Zke:Zaf x=.ret (some (.ret (.d x))):=rfl
noncomputable def Zai (ρ:List Sl) (x:PyData):Tr (Option Ou):=.ret (some (.next ρ))
theorem Zkx:lz xe ρ=c5 (xe ρ) (Zai ρ):=rfl
theorem Zkl:Zai ρ x=.ret (some (.next ρ)):=rfl
noncomputable def oW (u v:List Sl->Tr (Option Ou)) (ρ:List Sl) (b:Bool):Tr (Option Ou):=if b=true then u ρ else v ρ
theorem Zkw {p:List Sl->Tr Bool}:iZ p u v ρ=(p ρ).bind (oW u v ρ):=rfl
theorem Zkj:oW u v ρ true=u ρ:=rfl
theorem Zkk:oW u v ρ false=v ρ:=rfl
theorem Zks:iX ρ=.ret none:=rfl
noncomputable def lu (v:List Sl->Tr (Option Ou)):Option Ou->Tr (Option Ou)
 | some (.next ρ')=>v ρ'
 | o=>.ret o
theorem Zkq:eO u v ρ=(u ρ).bind (lu v):=by
 unfold eO
 refine congrArg (Tr.bind (u ρ)) (funext λo=>?_)
 cases o with
 | none=>rfl
 | some o=>cases o <;> rfl
theorem Zj9:lu v (some (.next ρ))=v ρ:=rfl
theorem Zj8 {r:Re}:lu v (some (.ret r))=.ret (some (.ret r)):=rfl
theorem Zka:lu v none=.ret none:=rfl
theorem ZmO {sls:List Sl} (h:sls.length=n):fm n k u sls=(u (sls++List.replicate k .un)).bind lb:=by
 unfold fm
 rw [if_pos (decide_eq_true h)]
theorem ZmG:lb none=.ret none:=rfl
theorem ZmF:lb (some (.next ρ))=.ret (some (.d .none)):=rfl
theorem ZmE {r:Re}:lb (some (.ret r))=.ret (some r):=rfl
noncomputable def Zah (xs:List PyData):Tr (Option PyData):=.ret (some (.list xs))
theorem Zku:j7 xo ρ=c5 (xo ρ) Zah:=rfl
theorem Zkg:Zah xs=.ret (some (.list xs)):=rfl
noncomputable def xsm (z:PyData):Tr (Option PyData):=.ret (some z)
noncomputable def Zag (f:List PyData->Option PyData) (x:PyData):Tr (Option PyData):=(bw f [x]).bind xsm
theorem Zkt {f:List PyData->Option PyData}:j6 f xe ρ=c5 (xe ρ) (Zag f):=rfl
theorem Zkf {f:List PyData->Option PyData}:Zag f x=(bw f [x]).bind xsm:=rfl
theorem Zkc:xsm x=.ret (some x):=rfl
noncomputable def fS (g:PyData->List Sl->Option (List Sl)) (el:List Sl->Tr (Option PyData)) (τ:List Sl) (x:PyData):Tr (Option PyData):=(Tr.of (g x τ)).bind el
noncomputable def oV (n:Nat) (ix:List Nat) (g:PyData->List Sl->Option (List Sl)) (el:List Sl->Tr (Option PyData)) (ρ:List Sl) (xs:List PyData):Tr (Option (List PyData)):=if small xs.length=true then gJ (fS g el (blk n ix ρ)) xs else .fail
theorem Zkv {ix:List Nat} {g:PyData->List Sl->Option (List Sl)}:iY is n ix g xe ρ=(is ρ).bind (oV n ix g xe ρ):=rfl
theorem Zki {ix:List Nat} {g:PyData->List Sl->Option (List Sl)} (h:small xs.length=true):oV n ix g xe ρ xs=gJ (fS g xe (blk n ix ρ)) xs:=by unfold oV; rw [if_pos h]
theorem Zkh {τ:List Sl} {g:PyData->List Sl->Option (List Sl)}:fS g xe τ x=(Tr.of (g x τ)).bind xe:=rfl
theorem Znp {f:Addr}:jQ f as ρ=(as ρ).bind (gU (.fn f)):=rfl
noncomputable def jC:Nat->List Sl->Tr Addr
 | 0,.fn a::_=>.ret a
 | k+1,_::ρ=>jC k ρ
 | _,_=>.fail
theorem ZmC {f:Addr}:jC 0 (.fn f::ρ)=.ret f:=rfl
theorem ZmB:jC (k+1) (sl::ρ)=jC k ρ:=rfl
noncomputable def sy (as:List Sl->Tr (List Sl)) (ρ:List Sl) (f:Addr):Tr (List Sl):=(as ρ).bind (gU (.fn f))
theorem Znm:ll k as ρ=(jC k ρ).bind (sy as ρ):=by
 have key:∀ (k:Nat) (σ:List Sl),(match σ[k]? with | some (Sl.fn f)=>(as ρ).bind λxs=>Tr.ret (Sl.fn f::xs) | _=>Tr.fail)=(jC k σ).bind (sy as ρ):=by
  intro k
  induction k with
  | zero =>
   intro σ
   cases σ with
   | nil=>rfl
   | cons s r=>cases s <;> rfl
  | succ k ih =>
   intro σ
   cases σ with
   | nil=>rfl
   | cons s r=>exact ih r
 exact key k ρ
theorem Znl {f:Addr}:sy as ρ f=(as ρ).bind (gU (.fn f)):=rfl
noncomputable def Zdn (ρ:List Sl) (x:PyData):Tr Ou:=.ret (.next ρ)
theorem ZmN:sF i ρ=(i ρ).bind (Zdn ρ):=rfl
theorem ZmM:Zdn ρ x=.ret (.next ρ):=rfl
end L2
namespace L2
open PySem PySem.Spec PyProof.Rows PySem.NumText PySem.W.KIN
theorem qD:("-":Str)=⟨#[45]⟩:=by decide +kernel
theorem qu:("":Str)=⟨#[]⟩:=by decide +kernel
theorem oS:("0":Str)=⟨#[48]⟩:=by decide +kernel
theorem ZiH:("-0":Str)=⟨#[45,48]⟩:=by decide +kernel
theorem Zj3:("0123456789":Str)=⟨#[48,49,50,51,52,53,54,55,56,57]⟩:=by decide +kernel
theorem dh:(" ":Str)=⟨#[32]⟩:=by decide +kernel
theorem gp:(",":Str)=⟨#[44]⟩:=by decide +kernel
theorem ZfX:("/":Str)=⟨#[47]⟩:=by decide +kernel
theorem Zil:("\n":Str)=⟨#[10]⟩:=by decide +kernel
theorem ZgI (w:Str):(Txt.removeprefix w "-").cps.toList=figs w.cps.toList:=by
 rw [qD,StrLaws.removeprefix_eq]
 have h1:=StrLaws.subAt_one w 45 0
 have e:(⟨#[45]⟩:Str).length=1:=rfl
 have hl:w.length=w.cps.toList.length:=by simp [Str.length]
 unfold figs
 by_cases hm:w.cps.toList.head?=some 45
 ·have hm':w.cps.toList[0]?=some 45:=by rw [<- List.head?_eq_getElem?]; exact hm
  obtain ⟨h2,h3⟩:=h1.mpr hm'
  rw [decide_eq_true h2,h3,Bool.and_true,if_pos rfl,if_pos hm]
  show (w.cps.toList.drop 1).take (w.length - 1)=_
  rw [hl,List.take_of_length_le (by simp)]
  exact List.drop_one
 ·rw [if_neg hm,if_neg]
  intro hz
  rw [Bool.and_eq_true] at hz
  exact hm (by rw [List.head?_eq_getElem?]; exact h1.mp ⟨of_decide_eq_true hz.1,hz.2⟩)
theorem ZcM (c:Nat):gN "0123456789" ⟨#[c]⟩=decide (48<=c/\c<=57):=by
 unfold gN
 rw [StrLaws.found_one,Zj3]
 by_cases h:48<=c/\c<=57
 ·rw [decide_eq_true h]
  obtain ⟨h1,h2⟩:=h
  refine decide_eq_true ?_
  show c∈[48,49,50,51,52,53,54,55,56,57]
  simp only [List.mem_cons,List.not_mem_nil,or_false]
  omega
 ·rw [decide_eq_false h]
  refine decide_eq_false ?_
  show ¬ c∈[48,49,50,51,52,53,54,55,56,57]
  simp only [List.mem_cons,List.not_mem_nil,or_false]
  omega
theorem Zbd (L:List Nat) (a:Nat):∀ n,a+n<=L.length->((List.range n).map (a+·)).filterMap (L[·]?)=(L.drop a).take n
 | 0,_=>by simp
 | n+1,h=>by
  rw [List.range_succ,List.map_append,List.filterMap_append,Zbd L a n (by omega),List.take_add_one]
  congr 1
  rw [List.getElem?_drop]
  have:L[a+n]?=some L[a+n]:=by simp
  simp only [List.map_cons,List.map_nil,this]
  simp [this]
theorem ZaK {x:Str} {l u:Option Int} {a b:Nat} (h:Builtin.Str.strSliceIndices l u 1 x.length=sliceRange a b 1) (hb:b<=x.length) (hab:a<=b):(Txt.slice x l u).cps.toList=(x.cps.toList.drop a).take (b - a):=by
 have hl:x.length=x.cps.toList.length:=by simp [Str.length]
 unfold Txt.slice
 rw [h,sliceRange_one]
 have e:=Zbd x.cps.toList a (b - a) (by omega)
 have e2:((List.range (b - a)).map (a+·)).filterMap (x.cps[·]?)=(x.cps.toList.drop a).take (b - a):=by
  rw [<- e]
  simp
 by_cases hc:((1:Int) == 1 && ((List.range (b - a)).map (a+·)).length == x.length)=true
 ·rw [if_pos hc]
  have:b - a=x.length:=by simpa using hc
  have ha:a=0:=by omega
  subst ha
  rw [List.drop_zero,List.take_of_length_le (by omega)]
 ·rw [if_neg hc]
  exact e2
theorem ZfV (w:Str):(Txt.slice w (some 1) none).cps.toList=w.cps.toList.tail:=by
 have hl:w.length=w.cps.toList.length:=by simp [Str.length]
 by_cases h0:w.length=0
 ·have:w.cps.toList=[]:=List.length_eq_zero_iff.mp (by omega)
  have h:=Txt.slice_le w (some 1) none
  have:(Txt.slice w (some 1) none).cps.toList=[]:=List.length_eq_zero_iff.mp (by unfold Str.length at h h0; rw [Array.length_toList]; omega)
  rw [this]
  simp [*]
 ·have e:Builtin.Str.strSliceIndices (some 1) none 1 w.length=sliceRange (1:Nat) (w.length:Nat) 1:=by
   unfold Builtin.Str.strSliceIndices
   simp only [show ¬ ((1:Int) < 0) by decide,if_false,show (1:Int) > 0 by decide,if_true]
   congr 1
   omega
  rw [ZaK e (Nat.le_refl _) (by omega),List.take_of_length_le (by rw [List.length_drop,<- hl]; omega),List.drop_one]
theorem ZfT (w:Str):(Txt.slice w none (some 1)).cps.toList=w.cps.toList.take 1:=by
 have hl:w.length=w.cps.toList.length:=by simp [Str.length]
 by_cases h0:w.length=0
 ·have:w.cps.toList=[]:=List.length_eq_zero_iff.mp (by omega)
  have h:=Txt.slice_le w none (some 1)
  have:(Txt.slice w none (some 1)).cps.toList=[]:=List.length_eq_zero_iff.mp (by unfold Str.length at h h0; rw [Array.length_toList]; omega)
  rw [this]
  simp [*]
 ·have e:Builtin.Str.strSliceIndices none (some 1) 1 w.length=sliceRange (0:Nat) (1:Nat) 1:=by
   unfold Builtin.Str.strSliceIndices
   simp only [show ¬ ((1:Int) < 0) by decide,if_false,show (1:Int) > 0 by decide,if_true]
   congr 1
   omega
  rw [ZaK e (by omega) (by decide)]
  rfl
theorem rO (i:Int):(aG i).length=(b7 i).length:=by unfold aG; simp [Str.length]
theorem eG (i:Int):(aG i).cps.toList=b7 i:=by unfold aG; simp
theorem jI (r:Nat):b7 (r:Int)=digs r:=by
 unfold b7
 rw [if_neg (by omega)]
 rfl
theorem ZeL (r:Nat) (h:r < 10 ^ 64):(Txt.zfill (aG r) 64).cps.toList=padk 64 r:=by
 have hl:(aG (r:Int)).length=(digs r).length:=by rw [rO,jI]
 have hd:(digs r).length<=64:=jG 63 r h
 unfold Txt.zfill padk
 by_cases hc:(64:Int)<=((aG (r:Int)).length:Int)
 ·rw [if_pos hc,eG,jI]
  rw [hl] at hc
  have:64 - (digs r).length=0:=by omega
  rw [this]
  rfl
 ·rw [if_neg hc,hl]
  have e:∀ n,zfilled (aG (r:Int)) n=Builtin.Str.padded (aG (r:Int)) n 0 48:=by
   intro n
   unfold zfilled
   have h0:∃ c,(aG (r:Int)).cps[0]?=some c/\48<=c:=by
    rw [<- Array.getElem?_toList,eG,jI]
    have hne:=rM r
    have ha:=iH r
    cases hd:digs r with
    | nil=>exact absurd hd hne
    | cons c l=>exact ⟨c,rfl,(ha c (by rw [hd]; simp)).1⟩
   obtain ⟨c,h1,h2⟩:=h0
   rw [h1]
   split
   ·rename_i hz; have:=Option.some.inj hz; omega
   ·rename_i hz; have:=Option.some.inj hz; omega
   ·rfl
  rw [e]
  unfold Builtin.Str.padded
  simp only [Array.toList_append,Array.toList_replicate,eG,jI,List.replicate_zero,List.append_nil]
  rfl
end L2
namespace L2
open PySem PySem.Spec PyProof.Rows PySem.NumText PySem.W.KIN Tw
theorem tjoin (a:Str) (ps:List Str):Txt.join a ps=Str.join a ps:=StrLaws.glued_eq_join a ps
theorem gj (l:List Str):(l.map λw=>w.length+1).sum=(l.map (·.length)).sum+l.length:=by
 induction l with
 | nil=>rfl
 | cons w l ih=>rw [List.map_cons,List.sum_cons,ih,List.map_cons,List.sum_cons,List.length_cons]; omega
theorem kg (c:Nat) (t:Str):((Txt.split t ⟨#[c]⟩).map λw=>w.length+1).sum=t.length+1:=by
 have h1:=StrLaws.join_split t ⟨#[c]⟩
 have h2:=size_glued ⟨#[c]⟩ (Txt.split t ⟨#[c]⟩)
 rw [StrLaws.glued_eq_join,h1] at h2
 have h3:=split_pos t ⟨#[c]⟩
 rw [gj]
 have e:(⟨#[c]⟩:Str).length=1:=rfl
 rw [e,Nat.mul_one] at h2
 omega
theorem ZiP {l:List Str} {w:Str} (h:w∈l):w.length+1<=(l.map λw=>w.length+1).sum:=by
 induction l with
 | nil=>cases h
 | cons v l ih =>
  rw [List.map_cons,List.sum_cons]
  rcases List.mem_cons.mp h with rfl | h
  ·omega
  ·have:=ih h; omega
theorem f8 {c:Nat} {t w:Str} (h:w∈Txt.split t ⟨#[c]⟩):w.length<=t.length:=by
 have:=ZiP h
 rw [kg] at this
 omega
theorem du (c:Nat) (t:Str):(Txt.split t ⟨#[c]⟩).length<=t.length+1:=by
 have h:=kg c t
 rw [gj] at h
 omega
theorem pA {c:Nat} {t:Str} (h:t.length<=500000):(⟨#[c]⟩:Str).length<=16/\((Txt.split t ⟨#[c]⟩).map (·.length)).sum+(Txt.split t ⟨#[c]⟩).length<=1048576:=by
 have h:=kg c t
 rw [gj] at h
 exact ⟨by show 1<=16; decide,by omega⟩
noncomputable def bf {α:Type} (f:Str->Option α):List Str->Option (List α)
 | []=>some []
 | x::xs=>(f x).bind λy=>(bf f xs).map (y::·)
theorem gq {α:Type} {f:Str->Option α} {x:Str} {l:List Str}:bf f (x::l)=(f x).bind λy=>(bf f l).map (y::·):=rfl
section
variable {α:Type} {f:Str->Option α} {g:α->PyData} {l:List Str}
theorem gT {x:Str} {as:List α}:bf f (x::l)=some as ↔ ∃ a as',f x=some a/\bf f l=some as'/\as=a::as':=by
 rw [gq]
 cases f x with
 | none=>simp
 | some a =>
  cases bf f l with
  | none=>simp
  | some as'=>simp [eq_comm]
theorem mT {h:PyData->Tr (Option PyData)}:∀ {l:List Str},(∀ x∈l,h (.str x)=.ret ((f x).map g))->gJ h (l.map PyData.str)=.ret ((bf f l).map λas=>as.map g)
 | [],_=>rfl
 | x::l,hx=>by
  have ih:=mT (l:=l) λy hy=>hx y (List.mem_cons_of_mem _ hy)
  rw [List.map_cons]
  rw [gq]
  unfold gJ
  rw [hx x (by simp),ih]
  cases f x with
  | none=>rfl
  | some y =>
   show c5 (.ret (some (g y))) _=_
   rw [Zc6]
   cases bf f l with
   | none=>rfl
   | some ys=>rfl
theorem qF {h:PyData->Tr PyData}:∀ {l:List Str} {as:List α},(∀ x∈l,∀ a,f x=some a->h (.str x)=.ret (g a))->bf f l=some as->bJ h (l.map PyData.str)=.ret (as.map g)
 | [],as,_,e=>by
  cases (show some ([]:List α)=some as from e)
  rfl
 | x::l,as,hx,e=>by
  obtain ⟨a,as',h1,h2,rfl⟩:=gT.mp e
  rw [List.map_cons]
  unfold bJ
  rw [hx x (by simp) a h1,qF (λz hz=>hx z (List.mem_cons_of_mem _ hz)) h2]
  rfl
theorem mU {h:PyData->Tr PyData}:∀ {l:List Str} {as:List α},(∀ x∈l,∀ a,f x=some a->h (g a)=.ret (.str x))->bf f l=some as->bJ h (as.map g)=.ret (l.map PyData.str)
 | [],as,_,e=>by
  cases (show some ([]:List α)=some as from e)
  rfl
 | x::l,as,hx,e=>by
  obtain ⟨a,as',h1,h2,rfl⟩:=gT.mp e
  rw [List.map_cons]
  unfold bJ
  rw [hx x (by simp) a h1,mU (λz hz=>hx z (List.mem_cons_of_mem _ hz)) h2]
  rfl
theorem Zco {h:PyData->Tr PyData} {F:Str->PyData}:∀ {l:List Str},(∀ x∈l,h (.str x)=.ret (F x))->bJ h (l.map PyData.str)=.ret (l.map F)
 | [],_=>rfl
 | x::l,hx=>by
  rw [List.map_cons]
  unfold bJ
  rw [hx x (by simp),Zco λz hz=>hx z (List.mem_cons_of_mem _ hz)]
  rfl
theorem fN:∀ {l:List Str} {as:List α},bf f l=some as->as.length=l.length
 | [],as,e=>by
  cases (show some ([]:List α)=some as from e)
  rfl
 | x::l,as,e=>by
  obtain ⟨a,as',h1,h2,rfl⟩:=gT.mp e
  rw [List.length_cons,List.length_cons,fN h2]
noncomputable def cv (g:α->PyData) (o:Option α):PyData:=match o with
 | some a=>g a
 | none=>.none
theorem Zb3:∀ {l:List Str} {as:List α},bf f l=some as->l.map (λx=>cv g (f x))=as.map g
 | [],as,e=>by
  cases (show some ([]:List α)=some as from e)
  rfl
 | x::l,as,e=>by
  obtain ⟨a,as',h1,h2,rfl⟩:=gT.mp e
  rw [List.map_cons,List.map_cons,Zb3 h2,h1]
  rfl
theorem ZhM {p:PyData->Bool} (hp:p .none=true) (hg:∀ x∈l,∀ a,f x=some a->p (g a)=false):(l.map (λx=>cv g (f x))).any p=(bf f l).isNone:=by
 induction l with
 | nil=>rfl
 | cons x l ih =>
  have ih:=ih λy hy=>hg y (List.mem_cons_of_mem _ hy)
  rw [List.map_cons,List.any_cons,ih]
  rw [gq]
  cases hx:f x with
  | none=>show (p .none || _)=true; rw [hp]; rfl
  | some a =>
   show (p (g a) || _)=_
   rw [hg x (by simp) a hx]
   cases bf f l <;> rfl
end
theorem Za7 {α:Type} {f:Str->Option α} {g:α->PyData} {k m:Nat} (hf:∀ w a,f w=some a->Rp (g a) k (m * (w.length+1))):∀ {l:List Str} {as:List α},bf f l=some as->PyData.hasDictAll (as.map g)=false/\PyData.showableAll (as.map g)=true/\PyData.depthAll (as.map g)<=k/\((PyData.shownAll (as.map g)).map (·.length)).sum<=m * (l.map λw=>w.length+1).sum/\(PyData.shownAll (as.map g)).length=l.length
 | [],as,e=>by
  cases (show some ([]:List α)=some as from e)
  exact ⟨rfl,rfl,Nat.zero_le _,by simp [PyData.shownAll],rfl⟩
 | x::l,as,e=>by
  obtain ⟨a,as',h1,h2,rfl⟩:=gT.mp e
  obtain ⟨i1,i2,i3,i4,i5⟩:=Za7 hf h2
  have hx:=hf x a h1
  rw [List.map_cons]
  refine ⟨?_,?_,?_,?_,?_⟩
  ·rw [PyData.hasDictAll,hx.hd,i1]; rfl
  ·rw [PyData.showableAll,hx.sh,i2]; rfl
  ·rw [PyData.depthAll]; have:=hx.dp; omega
  ·rw [PyData.shownAll,List.map_cons,List.sum_cons,List.map_cons,List.sum_cons,Nat.mul_add]; have:=hx.ln; omega
  ·rw [PyData.shownAll,List.length_cons,List.length_cons,i5]
theorem pL {α:Type} {f:Str->Option α} {g:α->PyData} {k m c:Nat} {t:Str} {as:List α} (hf:∀ w a,f w=some a->Rp (g a) k (m * (w.length+1))) (h:bf f (Txt.split t ⟨#[c]⟩)=some as):Rp (.tuple (as.map g)) (k+1) ((m+12) * (t.length+1)):=by
 obtain ⟨h1,h2,h3,h4,h5⟩:=Za7 hf h
 rw [kg] at h4
 have h6:=du c t
 have c3:=tupleText_len_le (PyData.shownAll (as.map g))
 refine ⟨?_,?_,?_,?_⟩
 ·rw [PyData.hasDict,h1]
 ·rw [PyData.showable,h2]
 ·rw [PyData.depth]; omega
 ·rw [PyData.shown,Nat.add_mul]; omega
theorem Za4 {d:PyData} {k n:Nat} (h:Rp d k n):Rp (.list [d]) (k+1) (n+20):=by
 refine me (Za5 (n:=n) (k:=k) (xs:=[d]) λx hx=>by rw [List.mem_singleton.mp hx]; exact h) (Nat.le_refl _) ?_
 show 1 * n+2 * 1+10<=n+20
 omega
theorem ZgE {d:PyData} {k n:Nat} (h:Rp d k n) (hk:k<=32) (hn:n<=10000000):mf d=true:=by
 unfold mf
 rw [h.hd,h.sh,decide_eq_true (Nat.le_trans h.dp hk),decide_eq_true (Nat.le_trans h.ln (Nat.le_trans hn (by rw [sizeLine_eq]; decide)))]
 rfl
theorem nJ {d:PyData} {k n:Nat} (h:Rp d k n) (hk:k<=32) (hn:n<=10000000):bw fA [d]=.ret (.str d.shown):=by
 unfold bw fA
 dsimp only
 rw [ZgE h hk hn]
 rfl
noncomputable def bq (w:Str):Option Int:=if b6 w.cps.toList=true then some (dI w.cps.toList) else none
theorem qt {w:Str} {i:Int} (h:bq w=some i):b6 w.cps.toList=true/\i=dI w.cps.toList:=by
 unfold bq at h
 split at h
 ·rename_i hc; exact ⟨hc,(Option.some.inj h).symm⟩
 ·cases h
theorem mK {w:Str} {i:Int} (h:bq w=some i):aG i=w:=by
 obtain ⟨h1,rfl⟩:=qt h
 apply ia
 rw [eG,Zn6 h1]
theorem Zfe:∀ l:List Nat,AllDigits l->digitsVal l < 10 ^ l.length:=by
 have key:∀ (l:List Nat) (a:Nat),AllDigits l->l.foldl (λacc c=>acc * 10+(c - 48)) a < (a+1) * 10 ^ l.length:=by
  intro l
  induction l with
  | nil=>intro a _; show a < (a+1) * 1; omega
  | cons c l ih =>
   intro a h
   have hc:=h.head
   have h1:=ih (a * 10+(c - 48)) h.tail
   rw [List.foldl_cons,List.length_cons,Nat.pow_succ,Nat.mul_comm (10 ^ l.length) 10,<- Nat.mul_assoc]
   refine Nat.lt_of_lt_of_le h1 (Nat.mul_le_mul_right _ (by omega))
 intro l h
 have:=key l 0 h
 rw [Nat.zero_add,Nat.one_mul] at this
 exact this
theorem qr {w:Str} {i:Int} (h:bq w=some i):i.natAbs < 10 ^ 400:=by
 obtain ⟨h1,rfl⟩:=qt h
 obtain ⟨h2,h3,h4,h5⟩:=nw h1
 have h6:=Zfe _ h4
 have h7:(dI w.cps.toList).natAbs=digitsVal (figs w.cps.toList):=by
  unfold dI figs
  split <;> omega
 rw [h7]
 exact Nat.lt_of_lt_of_le h6 (Nat.pow_le_pow_right (by decide) h3)
theorem ZhL:10 ^ 400 < 2 ^ 1900:=by decide +kernel
theorem Zie {w:Str} {i:Int} (h:bq w=some i):nb 1900 i:=Nat.lt_trans (qr h) ZhL
theorem Zif {i:Int} (h:i.natAbs < 10 ^ 400):bq (aG i)=some i:=by
 unfold bq
 rw [eG,if_pos (Zn5 h),Zn4]
theorem Zcc {w:Str} {i:Int} (h:bq w=some i):Rp (.int i) 0 (1 * (w.length+1)):=by
 have h0:=Za6 (Zie h)
 refine ⟨h0.hd,h0.sh,h0.dp,?_⟩
 have e:(PyData.int i).shown=Str.ofString (toString i):=by rw [PyData.shown]
 rw [e,ZdF,mK h]
 omega
end L2
namespace L2
open PySem PySem.Spec PyProof.Rows
theorem Zj0 {K:PySem.W.Frag} {x y qx qy:Str} {st st':Stmt} {f g:Addr} {fd gd:FuncData} (F:Fun K x qx st f fd) (G:Fun K y qy st' g gd) (h:x≠y):f≠g:=λe=>by
 subst e
 obtain ⟨oc,od,kV,doc,pm,an,cdv,ct,osl,h1,lk,hcd⟩:=F.ex
 obtain ⟨oc',od',kV',doc',pm',an',cdv',ct',osl',h1',lk',hcd'⟩:=G.ex
 rw [lk] at lk'
 have e:=Option.some.inj lk'
 injection e with _ _ e3 _
 injection e3 with e4
 rw [h1,h1'] at e4
 exact h (congrArg FuncData.name e4)
noncomputable def bc (cn:Addr×List Int):Pk where
 is:=λo G m=>∃ (k:Nat) (left:Int),o=.dK (bG cn.1 k left)/\k<=m/\0<=left/\G cn.1=some (.lst (cn.2.map V.int))/\cn.2.length<=63
 mono:=λs ⟨k,left,e,h1,h2,h3,h4⟩=>⟨k,left,e,h1,h2,s _ _ h3,h4⟩
theorem Zhe {cn:Addr×List Int}:PkLow (bc cn):=⟨λ⟨_,_,_,_,_,h3,_⟩ _ ⟨k,left,e,h1,h2,_,h4⟩=>⟨k,left,e,h1,h2,h3,h4⟩⟩
theorem Zg7 {ι:Type} {X:Cx} {e:List Stmt} {t:ι->TS} (h:∀ i,PSs X e (t i)):PSs X e (λD σ H=>∃ i,t i D σ H):=λpins s σ H D I z=>by
 obtain ⟨i,z⟩:=z
 exact h i pins s σ H D I z
noncomputable def nj:List Sl->Tr Re:=λas=>match as with
 | [.pen,.d (.int most)]=>.draw most λr=>.ret (.d (.int r))
 | _=>.fail
theorem Zdo {as:List Sl} {m:Nat} {Z:Nat->Re->Prop} (h:(nj as).ok m Z):∃ most,as=[.pen,.d (.int most)]:=by
 unfold nj at h
 split at h
 ·exact ⟨_,rfl⟩
 ·exact h.elim
theorem ZnV {cn:Addr×List Int} {P:Program} {w:World} {K:PySem.W.Frag} {mg:Str->Option Value} {base:Heap} {x:Str} {k:Nat} {ps:List Str} (hp:ps.length=2) (C:Callee P w K mg base x k ps ZaH):ACal (bc cn) P w K mg base x k ps nj:=by
 refine ⟨?_,λas m Z h=>by obtain ⟨most,rfl⟩:=Zdo h; exact hp.symm⟩
 obtain ⟨f,fd,F,hm,hk,hb⟩:=C.ex
 refine ⟨f,fd,F.imp λvs H Q E h=>?_,hm,hk,hb⟩
 obtain ⟨hv,pa,m,G,as,wd,ar,z⟩:=h
 obtain ⟨most,rfl⟩:=Zdo z
 obtain ⟨h1,h2,h3,h4⟩:=z
 cases ar with
 | cons a1 ar =>
  cases ar with
  | cons a2 ar =>
   cases ar
   cases a1
   cases a2 with
   | d d2 =>
    cases d2
    obtain ⟨c,ns⟩:=cn
    obtain ⟨o,ho,kk,left,rfl,q1,q2,q3,q4⟩:=wd.pen
    replace q3:G c=some (.lst (ns.map V.int)):=q3
    refine ⟨pa,c,ns,m,most,rfl,⟨⟨kk,left,ho,q1,q2⟩,wd.sub _ _ q3,q4⟩,by omega,h2,h3,λr H' r0 r1 P' K'=>?_⟩
    refine h4 r r0 r1 (.int r) G H' ⟨λ_ _ q=>q,λ_ _ q=>.inl q,λb o e n=>K' b o e n⟩ ⟨λb o e=>K' b o (wd.sub b o e) (λz=>by subst z; rw [wd.gpa] at e; cases e),wd.gpa,?_⟩ (.int r)
    obtain ⟨⟨k2,l2,e2,g1,g2⟩,_,_⟩:=P'
    exact ⟨_,e2,k2,l2,rfl,g1,g2,q3,q4⟩
noncomputable def ZaG:PySem.W.Frag->Sp:=λK vs H Q _=>∃ (a:Addr) (ns:List Int),vs=[.ref a]/\SqL K H a (ns.map V.int)/\ns.length<=63/\∀ H',Q (.bl true) H'
theorem ZiW {D:Ends} {p c:Addr} {ns:List Int} {H:Hp} {σ:St} {s:List Sl->Tr Ou} {n:Nat} (P:Pen H p c ns 0) (hσ:σ.length=n+2) (h1:σ[1]?=some (some (.ref p))) (hrt:∀ H',D.rt (.bl true) H')
  (h:(s (.un::.pen::List.replicate n .un)).ok 0 λ_ o=>o=.ret (.d (.bool true))):∃ cn,bz (bc cn) s D σ H:=by
 obtain ⟨⟨k,l,e,hk,hl⟩,hc,hn⟩:=P
 have npc:p≠c:=qw e hc (by intro z; cases z)
 have key:∀ (i:Nat) (sl:Sl),(Sl.un::.pen::List.replicate n .un)[i]?=some sl->sl=.un\/(i=1/\sl=.pen):=λi sl hi=>by
  match i with
  | 0=>simp at hi; exact .inl hi.symm
  | 1=>simp at hi; exact .inr ⟨rfl,hi.symm⟩
  | i+2 =>
   simp [List.getElem?_replicate] at hi
   exact .inl hi.2.symm
 refine ⟨(c,ns),p,λb=>if b=c then H c else none,H,0,_,λb=>if b=c then H c else none,⟨⟨λb o hb=>?_,if_neg npc,?_⟩,.refl,⟨_,e⟩,λi sl hi=>?_,by simp [hσ],λi j xs ys _ hi _=>?_,λi j xs ys _ hi _=>by rcases key i _ hi with z | ⟨_,z⟩ <;> cases z⟩,Tr.ok_mono h λm o ho=>?_⟩
 ·by_cases hbc:b=c
  ·subst hbc; simpa using hb
  ·simp [hbc] at hb
 ·exact ⟨_,e,k,l,rfl,hk,hl,by simp [hc],hn⟩
 ·have hlt:i < σ.length:=by
   have:=(List.getElem?_eq_some_iff.mp hi).1
   simp at this
   omega
  rcases key i sl hi with rfl | ⟨rfl,rfl⟩
  ·exact ⟨σ[i],by simp [hlt],.un⟩
  ·exact ⟨_,h1,.pen⟩
 ·rcases key i _ hi with z | ⟨_,z⟩ <;> cases z
 ·subst ho
  intro v G H' s' w' d
  cases (show Dn G v (.bool true) from d)
  exact hrt H'
end L2
namespace My
open PySem PySem.Spec PyProof.Rows L2
noncomputable def top (i:Nat):Stmt:=PySem.Challenge.pw_twomarks_k50_shops_and_falls_as_texts.main.body.getD i (.Pass ⟨0,0,0,0⟩)
noncomputable abbrev lT:Stmt:=top 11
noncomputable abbrev ZpT:List Str:=["thing"]
theorem Zgh:FnScope ZpT ["thing"] (aB lT):=⟨rfl,rfl,rfl,by decide +kernel,rfl,by decide +kernel,by decide +kernel⟩
noncomputable abbrev lS:Stmt:=top 12
noncomputable abbrev ZpS:List Str:=["thing","lowest","highest"]
theorem Zgg:FnScope ZpS ["thing","lowest","highest"] (aB lS):=⟨rfl,rfl,rfl,by decide +kernel,rfl,by decide +kernel,by decide +kernel⟩
noncomputable abbrev ku:Stmt:=top 22
noncomputable abbrev oH:List Str:=["thing"]
theorem Zgi:FnScope oH ["thing"] (aB ku):=⟨rfl,rfl,rfl,by decide +kernel,rfl,by decide +kernel,by decide +kernel⟩
noncomputable abbrev jf:Stmt:=top 23
noncomputable abbrev iP:List Str:=["thing"]
theorem Zgk:FnScope iP ["thing"] (aB jf):=⟨rfl,rfl,rfl,by decide +kernel,rfl,by decide +kernel,by decide +kernel⟩
noncomputable abbrev kA:Stmt:=top 24
noncomputable abbrev oJ:List Str:=["thing"]
theorem Zgj:FnScope oJ ["thing"] (aB kA):=⟨rfl,rfl,rfl,by decide +kernel,rfl,by decide +kernel,by decide +kernel⟩
noncomputable abbrev lU:Stmt:=top 28
noncomputable abbrev ZpU:List Str:=["thing"]
theorem ZaZ:FnScope ZpU ["thing"] (aB lU):=⟨rfl,rfl,rfl,by decide +kernel,rfl,by decide +kernel,by decide +kernel⟩
noncomputable abbrev kw:Stmt:=top 29
noncomputable abbrev oI:List Str:=["word","figures"]
theorem ZaY:FnScope oI ["word"] (aB kw):=⟨rfl,rfl,rfl,by decide +kernel,rfl,by decide +kernel,by decide +kernel⟩
noncomputable abbrev lP:Stmt:=top 30
noncomputable abbrev ZpQ:List Str:=["word"]
theorem ZaX:FnScope ZpQ ["word"] (aB lP):=⟨rfl,rfl,rfl,by decide +kernel,rfl,by decide +kernel,by decide +kernel⟩
noncomputable abbrev kt:Stmt:=top 31
noncomputable abbrev oF:List Str:=["text","shop"]
theorem ZaV:FnScope oF ["text"] (aB kt):=⟨rfl,rfl,rfl,by decide +kernel,rfl,by decide +kernel,by decide +kernel⟩
noncomputable abbrev jd:Stmt:=top 32
noncomputable abbrev fo:List Str:=["text"]
theorem ZaW:FnScope fo ["text"] (aB jd):=⟨rfl,rfl,rfl,by decide +kernel,rfl,by decide +kernel,by decide +kernel⟩
noncomputable abbrev lQ:Stmt:=top 33
noncomputable abbrev ZpR:List Str:=["text","falls"]
theorem lK:FnScope ZpR ["text"] (aB lQ):=⟨rfl,rfl,rfl,by decide +kernel,rfl,by decide +kernel,by decide +kernel⟩
noncomputable abbrev lN:Stmt:=top 37
noncomputable abbrev ZpO:List Str:=["number","parts","rest","part"]
theorem kj:FnScope ZpO ["number"] (aB lN):=⟨rfl,rfl,rfl,by decide +kernel,rfl,by decide +kernel,by decide +kernel⟩
noncomputable abbrev kq:Stmt:=top 38
noncomputable abbrev oE:List Str:=["shop"]
theorem Zgd:FnScope oE ["shop"] (aB kq):=⟨rfl,rfl,rfl,by decide +kernel,rfl,by decide +kernel,by decide +kernel⟩
noncomputable abbrev kr:Stmt:=top 39
noncomputable abbrev jX:List Str:=["rule"]
theorem Zge:FnScope jX ["rule"] (aB kr):=⟨rfl,rfl,rfl,by decide +kernel,rfl,by decide +kernel,by decide +kernel⟩
noncomputable abbrev lO:Stmt:=top 40
noncomputable abbrev ZpP:List Str:=["falls"]
theorem Zgf:FnScope ZpP ["falls"] (aB lO):=⟨rfl,rfl,rfl,by decide +kernel,rfl,by decide +kernel,by decide +kernel⟩
noncomputable abbrev lX:Stmt:=top 42
noncomputable abbrev ZpX:List Str:=["_law_script"]
theorem Zgm:FnScope ZpX ["_law_script"] (aB lX):=⟨rfl,rfl,rfl,by decide +kernel,rfl,by decide +kernel,by decide +kernel⟩
noncomputable abbrev l0:Stmt:=top 43
noncomputable abbrev ZpZ:List Str:=["_law_pen_here","_law_most","_law_cells","_law_at","_law_cell","_law_prime","_law_mixed","_law_found"]
theorem fY:FnScope ZpZ ["_law_pen_here","_law_most"] (aB l0):=⟨rfl,rfl,rfl,by decide +kernel,rfl,by decide +kernel,by decide +kernel⟩
noncomputable abbrev lW:Stmt:=top 44
noncomputable abbrev ZpW:List Str:=["_law_pen_here","_law_way"]
theorem Za0:FnScope ZpW ["_law_pen_here"] (aB lW):=⟨rfl,rfl,rfl,by decide +kernel,rfl,by decide +kernel,by decide +kernel⟩
noncomputable abbrev kB:Stmt:=top 45
noncomputable abbrev oK:List Str:=["_law_pen_here","_law_top","_law_depth","_law_way"]
theorem ic:FnScope oK ["_law_pen_here"] (aB kB):=⟨rfl,rfl,rfl,by decide +kernel,rfl,by decide +kernel,by decide +kernel⟩
noncomputable abbrev kD:Stmt:=top 46
noncomputable abbrev oN:List Str:=["_law_pen_here","_law_found","_law_k","_law_most","_law_one"]
theorem kn:FnScope oN ["_law_pen_here"] (aB kD):=⟨rfl,rfl,rfl,by decide +kernel,rfl,by decide +kernel,by decide +kernel⟩
noncomputable abbrev kC:Stmt:=top 47
noncomputable abbrev oM:List Str:=["_law_word","_law_figures"]
theorem pJ:FnScope oM ["_law_word"] (aB kC):=⟨rfl,rfl,rfl,by decide +kernel,rfl,by decide +kernel,by decide +kernel⟩
noncomputable abbrev kE:Stmt:=top 48
noncomputable abbrev oO:List Str:=["_law_text","_law_found","_law_word","_law_numbers"]
theorem lM:FnScope oO ["_law_text"] (aB kE):=⟨rfl,rfl,rfl,by decide +kernel,rfl,by decide +kernel,by decide +kernel⟩
noncomputable abbrev lY:Stmt:=top 49
noncomputable abbrev ZeG:List Str:=["_law_read","_law_text","_law_caught","_law_found","e"]
theorem km:FnScope ZeG ["_law_read","_law_text"] (aB lY):=⟨rfl,rfl,rfl,by decide +kernel,rfl,by decide +kernel,by decide +kernel⟩
noncomputable abbrev lV:Stmt:=top 50
noncomputable abbrev ZpV:List Str:=["_law_read","_law_text","_law_due"]
theorem Zgl:FnScope ZpV ["_law_read","_law_text","_law_due"] (aB lV):=⟨rfl,rfl,rfl,by decide +kernel,rfl,by decide +kernel,by decide +kernel⟩
noncomputable abbrev ma:Stmt:=top 51
noncomputable abbrev Zp0:List Str:=["_law_pen_here","_law_text","_law_way","_law_at","_law_signs","_law_own","_law_sign","_law_between","_law_words","_law_one","_law_odd"]
theorem eT:FnScope Zp0 ["_law_pen_here","_law_text"] (aB ma):=⟨rfl,rfl,rfl,by decide +kernel,rfl,by decide +kernel,by decide +kernel⟩
noncomputable abbrev jh:Stmt:=top 52
noncomputable abbrev iQ:List Str:=["_law_text","_law_days","_law_found"]
theorem pI:FnScope iQ ["_law_text"] (aB jh):=⟨rfl,rfl,rfl,by decide +kernel,rfl,by decide +kernel,by decide +kernel⟩
noncomputable abbrev lZ:Stmt:=top 53
noncomputable abbrev ZpY:List Str:=["_law_text","_law_days","_law_one"]
theorem pK:FnScope ZpY ["_law_text"] (aB lZ):=⟨rfl,rfl,rfl,by decide +kernel,rfl,by decide +kernel,by decide +kernel⟩
noncomputable abbrev ie:Stmt:=top 54
noncomputable abbrev fQ:List Str:=["_law_pen_here","_law_shop_here","_law_text","_law_at","_law_some","_law_one"]
theorem kl:FnScope fQ ["_law_pen_here","_law_shop_here"] (aB ie):=⟨rfl,rfl,rfl,by decide +kernel,rfl,by decide +kernel,by decide +kernel⟩
noncomputable abbrev ji:Stmt:=top 55
noncomputable abbrev gw:List Str:=["_law_pen_here","_law_falls_here","_law_text","_law_some"]
theorem lL:FnScope gw ["_law_pen_here","_law_falls_here"] (aB ji):=⟨rfl,rfl,rfl,by decide +kernel,rfl,by decide +kernel,by decide +kernel⟩
noncomputable abbrev je:Stmt:=top 56
noncomputable abbrev oG:List Str:=["_law_script","_law_pen_here","_law_turn","_law_shop_here","_law_falls_here","_law_kept","_law_text","_law_odd"]
theorem fX:FnScope oG ["_law_script"] (aB je):=⟨rfl,rfl,rfl,by decide +kernel,rfl,by decide +kernel,by decide +kernel⟩
structure Txt (K:PySem.W.Frag) (mg:Str->Option Value):Prop where
 c9:mg "len"=none
 qB:mg "abs"=none
 qA:mg "max"=none
 Zch:mg "min"=none
 jn:mg "repr"=none
 mM:mg "int"=none
 Zci:mg "list"=none
 dJ:mg "tuple"=none
 gH:mg "str"=none
 Zit:mg "bool"=none
 jp:mg "range"=none
 fB:mg "isinstance"=none
 mO:mg "all"=none
 Ziu:mg "any"=none
 Ziv:mg "ValueError"=none
 Zis:mg "divmod"=none
 ZjB:∃ t,mg "TOP"=some (.int 0 t)
 ZjL:∃ t,mg "DEPTH"=some (.int 1 t)
 ZjC:∃ t,mg "SHOP_NUMBERS"=some (.int 9 t)
 ZjG:∃ t,mg "MOST_REACH"=some (.int 39 t)
 ZjH:∃ t,mg "MOST_PRICE"=some (.int 1000000 t)
 ZjE:∃ t,mg "MOST_WEIGHTS"=some (.int 8 t)
 ZjF:∃ t,mg "MOST_WEIGHT"=some (.int 1000 t)
 ZjJ:∃ t,mg "MOST_DAYS"=some (.int 6 t)
 ZjI:∃ t,mg "MOST_FIGURES"=some (.int 400 t)
 ZjD:∃ t,mg "PART_FIGURES"=some (.int 64 t)
 ZjK:∃ t,mg "FIGURES"=some (.str "0123456789" t)
 ZcR:∃ t,mg "PART"=some (.int 10000000000000000000000000000000000000000000000000000000000000000 t)
 Zok:Def K mg "is_whole" lT ["thing"]
 Zoj:Def K mg "is_whole_within" lS ["thing","lowest","highest"]
 Zol:Def K mg "is_shop" ku ["thing"]
 Zoo:Def K mg "is_day" jf ["thing"]
 Zon:Def K mg "is_falls" kA ["thing"]
 ZdM:Def K mg "ask_text" lU ["thing"]
 Zom:Def K mg "is_number" kw ["word"]
 ZdL:Def K mg "read_number" lP ["word"]
 ZdJ:Def K mg "read_shop" kt ["text"]
 ZdK:Def K mg "read_rule" jd ["text"]
 rQ:Def K mg "read_falls" lQ ["text"]
 Zoe:Def K mg "show_number" lN ["number"]
 Zoc:Def K mg "show_shop" kq ["shop"]
 Zod:Def K mg "show_rule" kr ["rule"]
 Zof:Def K mg "show_falls" lO ["falls"]
 Zov:Def K mg "_law_pen" lX ["_law_script"]
 ZoB:Def K mg "_law_draw" l0 ["_law_pen_here","_law_most"]
 Zou:Def K mg "_law_price" lW ["_law_pen_here"]
 Zos:Def K mg "_law_shop" kB ["_law_pen_here"]
 ZoA:Def K mg "_law_falls" kD ["_law_pen_here"]
 Zow:Def K mg "_law_number_of" kC ["_law_word"]
 ZoC:Def K mg "_law_days_of" kE ["_law_text"]
 Zox:Def K mg "_law_heard" lY ["_law_read","_law_text"]
 Zot:Def K mg "_law_right" lV ["_law_read","_law_text","_law_due"]
 ZoD:Def K mg "_law_bent_text" ma ["_law_pen_here","_law_text"]
 Zor:Def K mg "_law_shop_of" jh ["_law_text"]
 Zoz:Def K mg "_law_falls_of" lZ ["_law_text"]
 Zoq:Def K mg "_law_shop_texts" ie ["_law_pen_here","_law_shop_here"]
 Zoy:Def K mg "_law_falls_texts" ji ["_law_pen_here","_law_falls_here"]
 Zoi:Def K mg "law" je ["_law_script"]
 ZeY:∃ C D a0 a1 a2 a3 a4 a5 a6:Addr,mg "NoText"=some (.ref C)/\mg "ShopError"=some (.ref D)/\mg "NoBack"=some (.ref a0)/\mg "NoFall"=some (.ref a1)/\mg "NoLevel"=some (.ref a2)/\mg "NoMean"=some (.ref a3)/\mg "NoRow"=some (.ref a4)/\mg "NoShare"=some (.ref a5)/\mg "NoStand"=some (.ref a6)/\Exc K C D [a0,a1,a2,a3,a4,a5,a6]
theorem Znu {K:PySem.W.Frag} {mg:Str->Option Value} {h:Heap} {C D a0 a1 a2 a3 a4 a5 a6:Addr} (X:K.In h) (G:h.Ns mainGlobals mg)
  (c:PySem.W.nsIn K mainGlobals "NoText"=some (some (.ref C))) (d:PySem.W.nsIn K mainGlobals "ShopError"=some (some (.ref D)))
  (z0:PySem.W.nsIn K mainGlobals "NoBack"=some (some (.ref a0))) (z1:PySem.W.nsIn K mainGlobals "NoFall"=some (some (.ref a1))) (z2:PySem.W.nsIn K mainGlobals "NoLevel"=some (some (.ref a2))) (z3:PySem.W.nsIn K mainGlobals "NoMean"=some (some (.ref a3))) (z4:PySem.W.nsIn K mainGlobals "NoRow"=some (some (.ref a4))) (z5:PySem.W.nsIn K mainGlobals "NoShare"=some (some (.ref a5))) (z6:PySem.W.nsIn K mainGlobals "NoStand"=some (some (.ref a6)))
  (q:ft K C fi "ValueError.__new__"=true) (q2:ft K D fi "ValueError.__new__"=true) (u:mQ K C D=true) (v:PySem.W.kitOne K (.ref C) (.type "ValueError")=some true) (y:PySem.W.kitAny K (.ref C) [.ref a0,.ref a1,.ref a2,.ref a3,.ref a4,.ref a5,.ref a6]=some false) :
  ∃ C D a0 a1 a2 a3 a4 a5 a6:Addr,mg "NoText"=some (.ref C)/\mg "ShopError"=some (.ref D)/\mg "NoBack"=some (.ref a0)/\mg "NoFall"=some (.ref a1)/\mg "NoLevel"=some (.ref a2)/\mg "NoMean"=some (.ref a3)/\mg "NoRow"=some (.ref a4)/\mg "NoShare"=some (.ref a5)/\mg "NoStand"=some (.ref a6)/\Exc K C D [a0,a1,a2,a3,a4,a5,a6] :=
 ⟨C,D,a0,a1,a2,a3,a4,a5,a6,PySem.W.mg_of X G c,PySem.W.mg_of X G d,PySem.W.mg_of X G z0,PySem.W.mg_of X G z1,PySem.W.mg_of X G z2,PySem.W.mg_of X G z3,PySem.W.mg_of X G z4,PySem.W.mg_of X G z5,PySem.W.mg_of X G z6,Zj5 X q q2 u v y⟩
theorem Zfh {K:PySem.W.Frag} {mg:Str->Option Value} {h:Heap} (X:K.In h) (G:h.Ns mainGlobals mg)
  (z_len:PySem.W.nsIn K mainGlobals "len"=some none)
  (z_abs:PySem.W.nsIn K mainGlobals "abs"=some none)
  (z_max:PySem.W.nsIn K mainGlobals "max"=some none)
  (z_min:PySem.W.nsIn K mainGlobals "min"=some none)
  (z_repr:PySem.W.nsIn K mainGlobals "repr"=some none)
  (z_int:PySem.W.nsIn K mainGlobals "int"=some none)
  (z_list:PySem.W.nsIn K mainGlobals "list"=some none)
  (z_tuple:PySem.W.nsIn K mainGlobals "tuple"=some none)
  (z_str:PySem.W.nsIn K mainGlobals "str"=some none)
  (z_bool:PySem.W.nsIn K mainGlobals "bool"=some none)
  (z_range:PySem.W.nsIn K mainGlobals "range"=some none)
  (z_isinstance:PySem.W.nsIn K mainGlobals "isinstance"=some none)
  (z_all:PySem.W.nsIn K mainGlobals "all"=some none)
  (z_any:PySem.W.nsIn K mainGlobals "any"=some none)
  (z_ValueError:PySem.W.nsIn K mainGlobals "ValueError"=some none)
  (z_divmod:PySem.W.nsIn K mainGlobals "divmod"=some none)
  {t_TOP:Tok} (z_TOP:PySem.W.nsIn K mainGlobals "TOP"=some (some (.int 0 t_TOP)))
  {t_DEPTH:Tok} (z_DEPTH:PySem.W.nsIn K mainGlobals "DEPTH"=some (some (.int 1 t_DEPTH)))
  {t_SHOP_NUMBERS:Tok} (z_SHOP_NUMBERS:PySem.W.nsIn K mainGlobals "SHOP_NUMBERS"=some (some (.int 9 t_SHOP_NUMBERS)))
  {t_MOST_REACH:Tok} (z_MOST_REACH:PySem.W.nsIn K mainGlobals "MOST_REACH"=some (some (.int 39 t_MOST_REACH)))
  {t_MOST_PRICE:Tok} (z_MOST_PRICE:PySem.W.nsIn K mainGlobals "MOST_PRICE"=some (some (.int 1000000 t_MOST_PRICE)))
  {t_MOST_WEIGHTS:Tok} (z_MOST_WEIGHTS:PySem.W.nsIn K mainGlobals "MOST_WEIGHTS"=some (some (.int 8 t_MOST_WEIGHTS)))
  {t_MOST_WEIGHT:Tok} (z_MOST_WEIGHT:PySem.W.nsIn K mainGlobals "MOST_WEIGHT"=some (some (.int 1000 t_MOST_WEIGHT)))
  {t_MOST_DAYS:Tok} (z_MOST_DAYS:PySem.W.nsIn K mainGlobals "MOST_DAYS"=some (some (.int 6 t_MOST_DAYS)))
  {t_MOST_FIGURES:Tok} (z_MOST_FIGURES:PySem.W.nsIn K mainGlobals "MOST_FIGURES"=some (some (.int 400 t_MOST_FIGURES)))
  {t_PART_FIGURES:Tok} (z_PART_FIGURES:PySem.W.nsIn K mainGlobals "PART_FIGURES"=some (some (.int 64 t_PART_FIGURES)))
  {t_FIGURES:Tok} (z_FIGURES:PySem.W.nsIn K mainGlobals "FIGURES"=some (some (.str "0123456789" t_FIGURES)))
  {t_PART:Tok} (z_PART:PySem.W.nsIn K mainGlobals "PART"=some (some (.int 10000000000000000000000000000000000000000000000000000000000000000 t_PART)))
  (z_is_whole:Def K mg "is_whole" lT ["thing"])
  (z_is_whole_within:Def K mg "is_whole_within" lS ["thing","lowest","highest"])
  (z_is_shop:Def K mg "is_shop" ku ["thing"])
  (z_is_day:Def K mg "is_day" jf ["thing"])
  (z_is_falls:Def K mg "is_falls" kA ["thing"])
  (z_ask_text:Def K mg "ask_text" lU ["thing"])
  (z_is_number:Def K mg "is_number" kw ["word"])
  (z_read_number:Def K mg "read_number" lP ["word"])
  (z_read_shop:Def K mg "read_shop" kt ["text"])
  (z_read_rule:Def K mg "read_rule" jd ["text"])
  (z_read_falls:Def K mg "read_falls" lQ ["text"])
  (z_show_number:Def K mg "show_number" lN ["number"])
  (z_show_shop:Def K mg "show_shop" kq ["shop"])
  (z_show_rule:Def K mg "show_rule" kr ["rule"])
  (z_show_falls:Def K mg "show_falls" lO ["falls"])
  (z__law_pen:Def K mg "_law_pen" lX ["_law_script"])
  (z__law_draw:Def K mg "_law_draw" l0 ["_law_pen_here","_law_most"])
  (z__law_price:Def K mg "_law_price" lW ["_law_pen_here"])
  (z__law_shop:Def K mg "_law_shop" kB ["_law_pen_here"])
  (z__law_falls:Def K mg "_law_falls" kD ["_law_pen_here"])
  (z__law_number_of:Def K mg "_law_number_of" kC ["_law_word"])
  (z__law_days_of:Def K mg "_law_days_of" kE ["_law_text"])
  (z__law_heard:Def K mg "_law_heard" lY ["_law_read","_law_text"])
  (z__law_right:Def K mg "_law_right" lV ["_law_read","_law_text","_law_due"])
  (z__law_bent_text:Def K mg "_law_bent_text" ma ["_law_pen_here","_law_text"])
  (z__law_shop_of:Def K mg "_law_shop_of" jh ["_law_text"])
  (z__law_falls_of:Def K mg "_law_falls_of" lZ ["_law_text"])
  (z__law_shop_texts:Def K mg "_law_shop_texts" ie ["_law_pen_here","_law_shop_here"])
  (z__law_falls_texts:Def K mg "_law_falls_texts" ji ["_law_pen_here","_law_falls_here"])
  (z_law:Def K mg "law" je ["_law_script"])
  (z_err:∃ C D a0 a1 a2 a3 a4 a5 a6:Addr,mg "NoText"=some (.ref C)/\mg "ShopError"=some (.ref D)/\mg "NoBack"=some (.ref a0)/\mg "NoFall"=some (.ref a1)/\mg "NoLevel"=some (.ref a2)/\mg "NoMean"=some (.ref a3)/\mg "NoRow"=some (.ref a4)/\mg "NoShare"=some (.ref a5)/\mg "NoStand"=some (.ref a6)/\Exc K C D [a0,a1,a2,a3,a4,a5,a6])
  : Txt K mg:=⟨PySem.W.mg_none_of X G z_len,PySem.W.mg_none_of X G z_abs,PySem.W.mg_none_of X G z_max,PySem.W.mg_none_of X G z_min,PySem.W.mg_none_of X G z_repr,PySem.W.mg_none_of X G z_int,PySem.W.mg_none_of X G z_list,PySem.W.mg_none_of X G z_tuple,PySem.W.mg_none_of X G z_str,PySem.W.mg_none_of X G z_bool,PySem.W.mg_none_of X G z_range,PySem.W.mg_none_of X G z_isinstance,PySem.W.mg_none_of X G z_all,PySem.W.mg_none_of X G z_any,PySem.W.mg_none_of X G z_ValueError,PySem.W.mg_none_of X G z_divmod,⟨_,PySem.W.mg_of X G z_TOP⟩,⟨_,PySem.W.mg_of X G z_DEPTH⟩,⟨_,PySem.W.mg_of X G z_SHOP_NUMBERS⟩,⟨_,PySem.W.mg_of X G z_MOST_REACH⟩,⟨_,PySem.W.mg_of X G z_MOST_PRICE⟩,⟨_,PySem.W.mg_of X G z_MOST_WEIGHTS⟩,⟨_,PySem.W.mg_of X G z_MOST_WEIGHT⟩,⟨_,PySem.W.mg_of X G z_MOST_DAYS⟩,⟨_,PySem.W.mg_of X G z_MOST_FIGURES⟩,⟨_,PySem.W.mg_of X G z_PART_FIGURES⟩,⟨_,PySem.W.mg_of X G z_FIGURES⟩,⟨_,PySem.W.mg_of X G z_PART⟩,z_is_whole,z_is_whole_within,z_is_shop,z_is_day,z_is_falls,z_ask_text,z_is_number,z_read_number,z_read_shop,z_read_rule,z_read_falls,z_show_number,z_show_shop,z_show_rule,z_show_falls,z__law_pen,z__law_draw,z__law_price,z__law_shop,z__law_falls,z__law_number_of,z__law_days_of,z__law_heard,z__law_right,z__law_bent_text,z__law_shop_of,z__law_falls_of,z__law_shop_texts,z__law_falls_texts,z_law,z_err⟩
theorem Zhb (a:Nat):∃ pr:Int,bd [V.int 2147483647,V.int 2147483629,V.int 2147483587,V.int 2147483579,V.int 2147483563,V.int 2147483549,V.int 2147483543] ((a:Int) % 7)=some (.int pr)/\2147483542 < pr/\pr<=2147483647:=by
 have e:(a:Int) % 7=((a % 7:Nat):Int):=by omega
 rw [e]
 have h:a % 7 < 7:=Nat.mod_lt _ (by decide)
 generalize a % 7=b at h
 match b,h with
 | 0,_=>exact ⟨_,cX rfl,by decide,by decide⟩
 | 1,_=>exact ⟨_,cX rfl,by decide,by decide⟩
 | 2,_=>exact ⟨_,cX rfl,by decide,by decide⟩
 | 3,_=>exact ⟨_,cX rfl,by decide,by decide⟩
 | 4,_=>exact ⟨_,cX rfl,by decide,by decide⟩
 | 5,_=>exact ⟨_,cX rfl,by decide,by decide⟩
 | 6,_=>exact ⟨_,cX rfl,by decide,by decide⟩
theorem ZoL (ns:List Int) (a:Nat) (h:ns≠[]):∃ z:Int,bd (ns.map V.int) ((a:Int) % ((ns.map V.int).length:Nat))=some (.int z):=by
 have hl:0 < ns.length:=List.length_pos_iff.mpr h
 have hl':(ns.map V.int).length=ns.length:=List.length_map ..
 have e:(a:Int) % ((ns.map V.int).length:Nat)=((a % ns.length:Nat):Int):=by rw [hl']; omega
 have hlt:a % ns.length < ns.length:=Nat.mod_lt _ hl
 rw [e]
 exact ⟨ns[a % ns.length],cX (by rw [List.getElem?_map,List.getElem?_eq_getElem hlt]; rfl)⟩
theorem Zpc {r pr a:Int} (h0:0<=r) (h1:r < pr) (h2:pr<=2147483647) (h3:0<=a) (h4:a<=500000):((r+7919) * (2 * a+3)+104729 * a+5).natAbs < 2 ^ 64:=by
 have p0:0<=(r+7919) * (2 * a+3):=Int.mul_nonneg (by omega) (by omega)
 have p1:(r+7919) * (2 * a+3)<=2147491566 * 1000003:=Int.mul_le_mul (by omega) (by omega) (by omega) (by omega)
 omega
section
variable {P:Program} {w:World} {K:PySem.W.Frag} {mg:Str->Option Value} {base:Heap}
theorem Zh4 (T:Txt K mg):Callee P w K mg base "_law_pen" 1 ["_law_script"] (ZfQ K):=by
 refine T.Zov.ok Zgm (λvs H Q E h=>?_) (λf cdv A outer s H vs Q E hr h=>?_)
 ·obtain ⟨a,ns,rfl,_⟩:=h
  rfl
 ·obtain ⟨a,ns,rfl,hS,hlen,k⟩:=h
  have hu:=rD hr
  refine ⟨_,(ek (eV (Zhx (qc di (cu (Zd3) rfl T.Zci boot_list (aQ (ZbV ZaO (pv 0) ZbQ (ZbP bR)) bC)) (qc di bR (qc di bR Zhc))) rfl rfl (by simp) (by decide)))),?_⟩
  intro p hp
  have s0:Same H (upd H p (.dK [])):=(Same.refl H).new hp
  refine ⟨_,rfl,63,rfl,a,_,rfl,s0.seq hS,λq hq=>⟨q,_,rfl,Or.inl (SqL.of bP),λc hc=>?_⟩⟩
  have s1:Same (upd H p (.dK [])) (upd (upd H p (.dK [])) q (.lst (dS (ns.map V.int) none (some 63)))):=(Same.refl _).new hq
  have s2:Same (upd H p (.dK [])) (upd (upd (upd H p (.dK [])) q (.lst (dS (ns.map V.int) none (some 63)))) c (.lst (dS (ns.map V.int) none (some 63)))):=s1.new hc
  have hcut:dS (ns.map V.int) none (some 63)=ns.map V.int:=by
   unfold dS
   have e:HT.aK (ns.map V.int).length (ns.map V.int).length (some 63)=(ns.map V.int).length:=by
    have q:=HT.Zgw (ns.map V.int).length (ns.map V.int).length 63
    rw [List.length_map] at q ⊢
    exact q.trans (Nat.min_eq_right hlen)
   rw [e]
   show ((ns.map V.int).drop 0).take ((ns.map V.int).length - 0)=_
   rw [List.drop_zero,Nat.sub_zero,List.take_length]
  have hpc:c≠p:=λz=>by
   have q:=s1 p _ bP
   rw [z,q] at hc
   cases hc
  refine ⟨s2 _ _ bP,bG c 0 0,rfl,(by show 3<=15; decide),?_⟩
  refine k p c _ hp ⟨⟨0,0,?_,Nat.le_refl _,Int.le_refl _⟩,?_,hlen⟩ λb o e=>?_
  ·rw [bP]
   rfl
  ·rw [aJ hpc,bP,hcut]
  ·rw [aJ (c7 e hp)]
   exact s2 b o (s0 b o e)
theorem Zh6 (T:Txt K mg):Callee P w K mg base "_law_draw" 1 ["_law_pen_here","_law_most"] ZaH:=by
 refine T.ZoB.ok fY (λvs H Q E h=>?_) (λf cdv A outer s H vs Q E hr h=>?_)
 ·obtain ⟨p,c,ns,m,most,rfl,_⟩:=h
  rfl
 ·obtain ⟨p,c,ns,m,most,rfl,hP,hm,h0,h1,k⟩:=h
  have hu:=rD hr
  refine ⟨_,(cx (aW (i:=2) fY.nd rfl (Or.inl rfl) (kK hu (pv 0) di (λ_ _=>rfl)))
 (cx (aW (i:=3) fY.nd rfl (Or.inl rfl) (kK hu (pv 0) di (λ_ _=>rfl)))
 (cx (PS.join (gC (kJ Zca (kK hu (pv 0) di (λ_ _=>rfl)) bR (nomark _)) (cx (qa hu (pv 0) di (b5 gf (pv 3) bR) rfl)
 (cx (aW (i:=4) fY.nd rfl (Or.inl rfl) bR)
 (cx (PS.join (gC (kJ (Zb6 hr) (pv 2) (mF bC) (nomark _)) (ek (aW (i:=4) fY.nd rfl (Or.inl rfl) (qh re (pv 2) (b5 gF (pv 3) (ba (iI) rfl T.c9 boot_len (aQ (pv 2) bC))) (λ_ _=>rfl)))) ij))
 (cx (gC (PT.join (PW.pt (p6 (kJ Zb8 (pv 3) (ba (iI) rfl T.c9 boot_len (aQ (pv 2) bC)) (nomark _)) (p5 (kJ jl (ba (rY) rfl T.qB boot_abs (aQ (pv 4) bC)) (b5 Zb4 bR bR) (nomark _)))))) (cx (aW (i:=5) fY.nd rfl (Or.inl rfl) (qh re (mF (aQ bR (aQ bR (aQ bR (aQ bR (aQ bR (aQ bR (aQ bR bC)))))))) (b5 gF (pv 3) bR) (λ_ _=>rfl)))
 (cx (aW (i:=6) fY.nd rfl (Or.inl rfl) (b5 gF (b5 Zb4 (b5 gf (b5 gf (b5 kN (b5 gf (b5 gF (pv 4) (pv 5)) bR) (b5 gf (b5 kN bR (pv 3)) bR)) (b5 kN bR (pv 3))) bR) bR) (pv 5)))
 (cx (aW (i:=6) fY.nd rfl (Or.inl rfl) (b5 gF (b5 gf (b5 kN (pv 6) (b5 gf (b5 gf (b5 gF (pv 6) bR) (pv 3)) bR)) (b5 kN bR (pv 3))) bR))
 (ek (eV (b5 gF (b5 Zb9 (pv 6) bR) (pv 1))))))) ij)
 (ek (qa hu (pv 0) di (ba (rY) rfl T.qB boot_abs (aQ (pv 4) bC)) rfl)))))) ij))
 (cx (aW (i:=7) fY.nd rfl (Or.inl rfl) (b5 gF (kK hu (pv 0) di (λ_ _=>rfl)) (pv 1)))
 (cx (qa hu (pv 0) di (b5 Zb9 (kK hu (pv 0) di (λ_ _=>rfl)) (pv 1)) rfl)
 (ek (eV (pv 7)))))))),?_⟩
  obtain ⟨⟨a,l,hd,ha,hl⟩,hc,hn⟩:=hP
  have npc:c≠p:=qw hc hd (by intro z; cases z)
  refine ⟨_,rfl,p,_,rfl,Zn1 hd,?_⟩
  refine ⟨_,rfl,p,_,rfl,Zn2 hd,?_⟩
  refine ⟨λσ' H'=>∃ (v4:Option V) (a':Nat) (l':Int),σ'=[some (.ref p),some (.int most),some (.ref c),some (.int a),v4,none,none,none]/\H' p=some (.dK (bG c a' l'))/\a'<=m+1/\0<=l'/\H' c=some (.lst (ns.map V.int))/\Kept p H H',?_,?_⟩
  ·refine ⟨_,rfl,p,_,rfl,rN hd,rfl,_,rfl,?_⟩
   refine nu (λhz=>?_) (λhz=>?_)
   ·refine ⟨_,rfl,_,_,rfl,rfl,_,rfl,p,_,rfl,ZnW hd,?_⟩
    have hd1:(upd H p (.dK (bG c ((a:Int)+1) l))) p=some (.dK (bG c ((a+1:Nat):Int) l)):=by
     rw [bP]
     rfl
    have hc1:(upd H p (.dK (bG c ((a:Int)+1) l))) c=some (.lst (ns.map V.int)):=by
     rw [aJ npc]
     exact hc
    have k1:Kept p H (upd H p (.dK (bG c ((a:Int)+1) l))):=Kept.refl.pen
    refine ⟨λσ' H'=>∃ (z:Int),σ'=[some (.ref p),some (.int most),some (.ref c),some (.int a),some (.int z),none,none,none]/\H' p=some (.dK (bG c ((a+1:Nat):Int) l))/\H' c=some (.lst (ns.map V.int))/\Kept p H H',?_,?_⟩
    ·refine ⟨_,rfl,Nat.zero_le _,λq hq=>?_⟩
     have hc2:=hc1
     have nq:∀ {b:Addr} {o:HO},(upd H p (.dK (bG c ((a:Int)+1) l))) b=some o->(upd (upd H p (.dK (bG c ((a:Int)+1) l))) q (.lst [])) b=some o:=λe=>by
      rw [aJ (c7 e hq)]
      exact e
     refine ⟨_,_,.lst (nq hc1) (DnAll.ints ns),.lst bP .nil,ZaS ns,ZaS [],_,rfl,?_⟩
     rw [Znw]
     refine nu (λhne=>?_) (λ_=>?_)
     ·have hne':ns≠[]:=by
       rintro rfl
       cases hne
      obtain ⟨z,hz2⟩:=ZoL ns a hne'
      have hpos:0 < (((ns.map V.int).length:Nat):Int):=by
       rw [List.length_map]
       have:=List.length_pos_iff.mpr hne'
       omega
      refine ⟨_,rfl,_,rfl,_,rfl,c,_,rfl,.inl (SqL.of (nq hc1)),_,_,rfl,rfl,hpos,c,_,_,_,rfl,rfl,SqL.of (nq hc1),hz2,?_⟩
      exact ⟨z,rfl,nq hd1,nq hc1,k1.new hq⟩
     ·exact ⟨17,rfl,nq hd1,nq hc1,k1.new hq⟩
    ·rintro σ2 H2 ⟨z,rfl,hd2,hc2,k2⟩
     refine ⟨λ_ H'=>H'=H2,?_,?_⟩
     ·refine ⟨_,rfl,_,rfl,c,_,rfl,.inl (SqL.of hc2),_,_,rfl,rfl,_,rfl,?_⟩
      refine nu (λ_=>rfl) (λ_=>?_)
      refine ⟨_,rfl,z,rfl,_,_,rfl,rfl,⟨by decide,by decide,by decide⟩,_,_,rfl,rfl,_,rfl,rfl⟩
     ·rintro b H3 rfl
      refine nu (λ_=>?_) (λ_=>?_)
      ·refine ⟨by show 7<=sizeLine; decide,λq hq=>?_⟩
       obtain ⟨pr,hpr,g1,g2⟩:=Zhb a
       refine ⟨_,rfl,_,_,rfl,rfl,(by show (0:Int) < 7; decide),q,_,_,_,rfl,rfl,SqL.of bP,hpr,?_⟩
       have r0:0<=z % pr:=Int.emod_nonneg _ (by omega)
       have r1:z % pr < pr:=Int.emod_lt_of_pos _ (by omega)
       refine ⟨_,rfl,_,rfl,_,_,rfl,rfl,(by show (0:Int) < pr; omega),_,_,rfl,rfl,_,rfl,_,_,rfl,rfl,.inl ⟨by decide,by decide⟩,_,_,rfl,rfl,_,_,rfl,rfl,.inr ⟨by omega,by omega⟩,_,rfl,_,_,rfl,rfl,.inl ⟨by decide,by decide⟩,_,_,rfl,rfl,_,_,rfl,rfl,_,_,rfl,rfl,⟨by decide,by decide,Zpc r0 r1 g2 (by omega) (by omega)⟩,_,rfl,_,_,rfl,rfl,(by show (0:Int) < pr; omega),?_⟩
       generalize hM:(((z % pr+7919) * (2 * (a:Int)+3)+104729 * (a:Int)+5) ^ (5:Int).toNat) % pr=M
       have m0:0<=M:=by rw [<- hM]; exact Int.emod_nonneg _ (by omega)
       have m1:M < pr:=by rw [<- hM]; exact Int.emod_lt_of_pos _ (by omega)
       refine ⟨_,rfl,_,rfl,_,_,rfl,rfl,(by show (0:Int) < 65521; decide),_,rfl,_,_,rfl,rfl,_,_,rfl,rfl,_,_,rfl,rfl,.inl ⟨by omega,by omega⟩,_,rfl,_,_,rfl,rfl,.inl ⟨by decide,by decide⟩,_,_,rfl,rfl,_,_,rfl,rfl,(by show (0:Int) < 2147483497; decide),?_⟩
       refine ⟨_,rfl,_,_,rfl,rfl,⟨by decide,by decide⟩,_,rfl,_,_,rfl,rfl,h0,?_⟩
       refine k _ _ (Int.emod_nonneg _ (by omega)) (Int.emod_lt_of_pos _ h0) ⟨⟨a+1,l,?_,by omega,hl⟩,?_,hn⟩ (k2.new hq)
       ·rw [aJ (c7 hd2 hq)]
        exact hd2
       ·rw [aJ (c7 hc2 hq)]
        exact hc2
      ·refine ⟨_,rfl,z,rfl,_,rfl,p,_,rfl,Zdp hd2,?_⟩
       refine ⟨_,a+1,_,rfl,bP,by omega,?_,by rw [aJ npc]; exact hc2,k2.pen⟩
       split <;> omega
   ·exact ⟨none,a,l,rfl,hd,by omega,hl,hc,Kept.refl⟩
  ·rintro σ2 H2 ⟨v4,a',l',rfl,hd2,ha2,hl2,hc2,k2⟩
   refine ⟨_,rfl,p,_,rfl,rN hd2,_,rfl,_,_,rfl,rfl,h0,?_⟩
   refine ⟨_,rfl,p,_,rfl,rN hd2,_,rfl,_,_,rfl,rfl,⟨h0,h1⟩,_,rfl,p,_,rfl,Zdp hd2,?_⟩
   refine ⟨_,rfl,?_⟩
   refine k _ _ (Int.emod_nonneg _ (by omega)) (Int.emod_lt_of_pos _ h0) ⟨⟨a',_,bP,ha2,Int.ediv_nonneg hl2 (by omega)⟩,?_,hn⟩ k2.pen
   rw [aJ npc]
   exact hc2
end
section
variable {cn:Addr×List Int} {P:Program} {w:World} {K:PySem.W.Frag} {mg:Str->Option Value} {base:Heap}
noncomputable def ni:List Sl->Tr Re:=bI 1 0
 (aV (ox (gt "int" (aa 0)) (sC (gt "bool" (aa 0)))))
theorem Zo7 (T:Txt K mg):ACal (bc cn) P w K mg base "is_whole" 1 ["thing"] ni:=cb T.Zok Zgh rfl λf cdv A outer sh H E hr=>by
 exact (aH (bb (Zey (iM (T:="int") (Or.inl rfl) rfl (ba iJ rfl T.fB boot_isinstance (aQ (ac (pv 0)) (aQ (gE (v:=.ty "int") rfl T.mM boot_int rfl) bC)))) (sw (Zpy (iM (T:="bool") (Or.inr (Or.inl rfl)) rfl (ba iJ rfl T.fB boot_isinstance (aQ (ac (pv 0)) (aQ (gE (v:=.ty "bool") rfl T.Zit boot_bool rfl) bC)))))))))
noncomputable def nk:List Sl->Tr Re:=bI 1 0
 (bv (cH (de (gt "str" (aa 0))))
  oq
  bi)
theorem Zpa (T:Txt K mg):ACal (bc cn) P w K mg base "ask_text" 1 ["thing"] nk:=cb T.ZdM ZaZ rfl λf cdv A outer sh H E hr=>by
 exact (aH (bF (cW (dC (iM (T:="str") (Or.inr (Or.inr (Or.inl rfl))) rfl (ba iJ rfl T.fB boot_isinstance (aQ (ac (pv 0)) (aQ (gE (v:=.ty "str") rfl T.gH boot_str rfl) bC))))))
 (aH sj)
 bu))
noncomputable def iV:List Sl->Tr (Option Re):=fm 1 0
 (iZ (cH (de (gt "str" (aa 0)))) iX (fT bi))
theorem ZdO (T:Txt K mg) {C:Addr} (hC:mg "NoText"=some (.ref C)) (xc:Xcl K C fi "ValueError.__new__"):XCal (bc cn) P w K mg base "ask_text" 1 ["thing"] C iV:=j4 T.ZdM ZaZ rfl λf cdv A outer sh H E hr=>by
 exact (iS (lw (cW (dC (iM (T:="str") (Or.inr (Or.inr (Or.inl rfl))) rfl (ba iJ rfl T.fB boot_isinstance (aQ (ac (pv 0)) (aQ (gE (v:=.ty "str") rfl T.gH boot_str rfl) bC)))))) (iS (lv (mD F.excBase_ValueError xc rfl hC))) (g6 bu)))
noncomputable def mB:List Sl->Tr PyData :=
 (ah (iB false) (aa 0) (aC (.str "0123456789")))
noncomputable def gK:List Sl->Tr Re:=bI 1 1
 (au (bt 1 (ah ig (aa 0) (aC (.str "-"))))
 (au (bv (cq (cH (aP (gY (bO λi j=>decide (i<=j)) (bO λi j=>decide (i<=j)) (aC (.int 1)) (aR cU (ai (aa 1) aj)) (aC (.int 400))))) (cH (de (aR iK (ai (aY (bX (bV (aa 1)) 1 [] (am 0) mB)) aj)))))
  (aV (aC (.bool false)))
  bi)
 (aV (sB (ah c8 (ah cm (aa 1) (aC (.int 0))) (aC (.str "0"))) (ah cM (aa 0) (aC (.str "0")))))))
theorem Zec (T:Txt K mg):ACal (bc cn) P w K mg base "is_number" 1 ["word"] gK:=cb T.Zom ZaY rfl λf cdv A outer sh H E hr=>by
 exact (aA (bE (aW (i:=1) ZaY.nd rfl (Or.inl rfl) (dW PySem.F.slot_str_removeprefix PySem.F.type_str_removeprefix Ziy Ze7 ZgJ (ac (pv 0)) aE)))
 (aA (bF (dU (dc (cW (r8 gc ce gc ce ak (a9 (t:=aT) (ba fh rfl T.c9 boot_len (ao (ac (pv 1)) aq)) eR) (eL rfl T.ZjI))) (eJ (cW (dC (a9 (t:=aT) (ba (nS rfl) rfl T.mO boot_all (ao (bg (cO (cJ oI ["sign"] [] rfl (cj (ac (pv 1))) (λb=>(br (bo (i:=0) (show ((bN oI ["sign"] [])).Nodup by decide +kernel) rfl (Or.inl rfl)))) (λb=>(iN (Zb7 hr) o8 (ac (pv 0)) (ZpA rfl T.ZjK) (by with_unfolding_all rfl))) rfl (show BlkOk oI (aB kw) _ [] from ⟨rfl,by decide +kernel,by decide +kernel,by decide +kernel,by decide +kernel⟩)) (bZ (by decide)))) aq)) lC))))))
  (aH (bb dN))
  bu)
 (aH (bb (Zpx (iN (gb hr) fU (cQ cK d6 (ac (pv 1)) ak (λ_ _=>rfl)) aE (nomark _)) (sw (iN (dH hr) dD (ac (pv 0)) aE (nomark _))))))))
noncomputable def g9:List Sl->Tr Bool :=
 (aP (ah (bO λi j=>decide (i ≥ j)) (aa 2) (aC (.int 10000000000000000000000000000000000000000000000000000000000000000))))
noncomputable def kX:List Sl->Tr Ou :=
 (au (ow (nD (iE (am 2) (iE (am 3) k9))) (aR lf (ai (aa 2) (ai (aC (.int 10000000000000000000000000000000000000000000000000000000000000000)) aj))))
 (gZ 1 (ah g5 (aR d9 (ai (aa 3) aj)) (aC (.int 64)))))
noncomputable def js:List Sl->Tr Re:=bI 1 3
 (au (gW 1 (bW aj))
 (au (bt 2 (aR oh (ai (aa 0) aj)))
 (au (eP g9 kX 100000)
 (au (gZ 1 (aR d9 (ai (aa 2) aj)))
 (au (oo 1)
 (iO 1 (aV (ah aS (sE (aP (ah (bO λi j=>decide (i < j)) (aa 0) (aC (.int 0)))) (aC (.str "-")) (aC (.str ""))) (ah bL (aC (.str "")) (aa 1))))))))))
theorem Zd5 (T:Txt K mg):ACal (bc cn) P w K mg base "show_number" 1 ["number"] js:=cb T.Zoe kj rfl λf cdv A outer sh H E hr=>by
 exact (aA (lg (aW (i:=1) kj.nd rfl (Or.inl rfl) (cg aq)))
 (aA (bE (aW (i:=2) kj.nd rfl (Or.inl rfl) (a9 (t:=aT) (ba rY rfl T.qB boot_abs (ao (ac (pv 0)) aq)) Zfc)))
 (aA (Zpn 100000 PassesOwn.never (bh Zb8 ce (ac (pv 2)) (eL rfl T.ZcR) (nomark _))
  (aA (Zeq (qb (a9 (t:=aT) (ba ZoU rfl T.Zis boot_divmod (ao (ac (pv 2)) (ao (eL rfl T.ZcR) aq))) Zfa) (Zex rfl (n8 (br (bo (i:=2) kj.nd rfl (Or.inl rfl))) (n8 (br (bo (i:=3) kj.nd rfl (Or.inl rfl))) Zew)) (nz (nz ZcQ)))))
 (aH (lj (gD (ik PySem.F.plainAttrs_list PySem.F.slot_list_append PySem.F.type_list_append kQ (pv 1) (aQ (dW PySem.F.slot_str_zfill PySem.F.type_str_zfill Zix Ze6 ZeK (a9 (t:=aT) (cu jK rfl T.gH boot_str (ao (ac (pv 3)) aq)) i6) (eL rfl T.ZjD)) bC)))))))
 (aA (lj (gD (ik PySem.F.plainAttrs_list PySem.F.slot_list_append PySem.F.type_list_append kQ (pv 1) (aQ (a9 (t:=aT) (cu jK rfl T.gH boot_str (ao (ac (pv 2)) aq)) i6) bC))))
 (aA (Zpr (gD (ZhA PySem.F.plainAttrs_list PySem.F.slot_list_reverse PySem.F.type_list_reverse Ziz (pv 1))))
 (aH (li (k:=1) (bb (aX bp bn (Zpz (bh jl ce (ac (pv 0)) ak (nomark _)) aE aE) (fj aE (ac (pv 1))))))))))))
noncomputable abbrev bK:=nj
theorem bT (T:Txt K mg):ACal (bc cn) P w K mg base "_law_draw" 1 ["_law_pen_here","_law_most"] bK:=ZnV rfl (Zh6 T)
noncomputable def mx:List Sl->Tr PyData :=
 (aa 0)
noncomputable def mG:List Sl->Tr Bool :=
 (aP (ah (iB true) (aa 0) (aC (.str "0123456789"))))
noncomputable def db:List Sl->Tr Re:=bI 1 1
 (au (bt 1 (aa 0))
 (au (bv (aP (ah cM (cF (aa 0) cG (cz (aC (.int 1)))) (aC (.str "-"))))
  (bt 1 (cF (aa 0) (cz (aC (.int 1))) cG))
  bi)
 (au (bv (cq (aP (ah cM (aa 1) (aC (.str "")))) (cq (aP (ah (bO λi j=>decide (i > j)) (aR cU (ai (aa 1) aj)) (aC (.int 400)))) (aP (ah jm (aY (jR (bV (aa 1)) 1 [] (am 0) mG mx)) (aY (bW aj))))))
  (aV (aC .none))
  bi)
 (au (bv (cq (aP (ah cM (aa 0) (aC (.str "-0")))) (sH (aP (ah (bO λi j=>decide (i > j)) (aR cU (ai (aa 1) aj)) (aC (.int 1)))) (aP (ah cM (ah cm (aa 1) (aC (.int 0))) (aC (.str "0"))))))
  (aV (aC .none))
  bi)
 (aV (aR gl (ai (aa 0) aj)))))))
theorem Zo4 (T:Txt K mg):ACal (bc cn) P w K mg base "_law_number_of" 1 ["_law_word"] db:=cb T.Zow pJ rfl λf cdv A outer sh H E hr=>by
 exact (aA (bE (aW (i:=1) pJ.nd rfl (Or.inl rfl) (ac (pv 0))))
 (aA (bF (bh (dH hr) dD (c4 (ac (pv 0)) cZ (cY ak)) aE (nomark _))
  (aH (bE (aW (i:=1) pJ.nd rfl (Or.inl rfl) (c4 (ac (pv 0)) (cY ak) cZ))))
  bu)
 (aA (bF (dU (dc (bh (dH hr) dD (ac (pv 1)) aE (nomark _)) (dc (bh ge ce (a9 (t:=aT) (ba fh rfl T.c9 boot_len (ao (ac (pv 1)) aq)) eR) ak (nomark _)) (eJ (bh (Zb5 hr) Zal (bg (Zes (ZbW oM ["_law_sign"] [] rfl (cj (ac (pv 1))) (λb=>(br (bo (i:=0) (show ((bN oM ["_law_sign"] [])).Nodup by decide +kernel) rfl (Or.inl rfl)))) (λb=>(bh (ZhQ hr) o8 (ac (pv 0)) aE (by with_unfolding_all rfl))) (λb=>(ac (pv 0))) rfl (show BlkOk oM (aB kC) _ [] from ⟨rfl,by decide +kernel,by decide +kernel,by decide +kernel,by decide +kernel⟩)) (bZ (by decide)))) (bg (cg aq)) (nomark _))))))
  (aH (bb eK))
  bu)
 (aA (bF (dU (dc (bh (dH hr) dD (ac (pv 0)) aE (nomark _)) (eJ (dU (Zpf (bh ge ce (a9 (t:=aT) (ba fh rfl T.c9 boot_len (ao (ac (pv 1)) aq)) eR) ak (nomark _)) (Zpe (bh (dH hr) dD (cQ cK d6 (ac (pv 1)) ak (λ_ _=>rfl)) aE (nomark _))))))))
  (aH (bb eK))
  bu)
 (aH (bb (a9 (t:=aT) (cu rX rfl T.mM boot_int (ao (ac (pv 0)) aq)) pc)))))))
noncomputable def ju:List Sl->Tr Re:=bI 3 0
 (aV (ox (aI (aF ni (aw (aa 0) ay))) (gY (bO λi j=>decide (i<=j)) (bO λi j=>decide (i<=j)) (aa 1) (aa 0) (aa 2))))
theorem Zeb (T:Txt K mg):ACal (bc cn) P w K mg base "is_whole_within" 2 ["thing","lowest","highest"] ju:=cb T.Zoj Zgg rfl λf cdv A outer sh H E hr=>by
 exact (aH (bb (Zey (aN (aM (Zo7 T) (hr.mono (by decide)) rfl (az (ac (pv 0)) aD))) (sw (ZpC gc ce gc ce (ac (pv 1)) (ac (pv 0)) (ac (pv 2)))))))
noncomputable def mY:List Sl->Tr Re:=bI 1 0
 (au (bv (cH (de (aI (aF gK (aw (aa 0) ay)))))
  oq
  bi)
 (aV (aR gl (ai (aa 0) aj))))
theorem ZoY (T:Txt K mg):ACal (bc cn) P w K mg base "read_number" 2 ["word"] mY:=cb T.ZdL ZaX rfl λf cdv A outer sh H E hr=>by
 exact (aA (bF (cW (dC (aN (aM (Zec T) (hr.mono (by decide)) rfl (az (ac (pv 0)) aD)))))
 (aH sj)
 bu)
 (aH (bb (a9 (t:=aT) (cu rX rfl T.mM boot_int (ao (ac (pv 0)) aq)) pc))))
noncomputable def iU:List Sl->Tr (Option Re):=fm 1 0
 (eO (iZ (cH (de (aI (aF gK (aw (aa 0) ay))))) iX (fT bi))
 (fT (aV (aR gl (ai (aa 0) aj)))))
theorem ZdN (T:Txt K mg) {C:Addr} (hC:mg "NoText"=some (.ref C)) (xc:Xcl K C fi "ValueError.__new__"):XCal (bc cn) P w K mg base "read_number" 2 ["word"] C iU:=j4 T.ZdL ZaX rfl λf cdv A outer sh H E hr=>by
 exact (g7 (lw (cW (dC (aN (aM (Zec T) (hr.mono (by decide)) rfl (az (ac (pv 0)) aD))))) (iS (lv (mD F.excBase_ValueError xc rfl hC))) (g6 bu))
 (g6 (aH (bb (a9 (t:=aT) (cu rX rfl T.mM boot_int (ao (ac (pv 0)) aq)) pc)))))
noncomputable def mo:List Sl->Tr PyData :=
 (aI (aF js (aw (aa 0) ay)))
noncomputable def kU:List Sl->Tr Re:=bI 1 0
 (aV (ah bL (aC (.str " ")) (aY (bX (bV (aa 0)) 1 [] (am 0) mo))))
theorem Zd4 (T:Txt K mg):ACal (bc cn) P w K mg base "show_shop" 2 ["shop"] kU:=cb T.Zoc Zgd rfl λf cdv A outer sh H E hr=>by
 exact (aH (bb (fj aE (bg (cO (cJ oE ["number"] [] rfl (cj (ac (pv 0))) (λb=>(br (bo (i:=0) (show ((bN oE ["number"] [])).Nodup by decide +kernel) rfl (Or.inl rfl)))) (λb=>(aN (aM (Zd5 T) (hr.mono (by decide)) rfl (az (ac (pv 0)) aD)))) rfl (show BlkOk oE (aB kq) _ [] from ⟨rfl,by decide +kernel,by decide +kernel,by decide +kernel,by decide +kernel⟩)) (bZ (by decide)))))))
noncomputable def mr:List Sl->Tr PyData :=
 (aI (aF js (aw (aa 0) ay)))
noncomputable def mq:List Sl->Tr PyData :=
 (ah bL (aC (.str ",")) (aY (bX (bV (aa 0)) 1 [] (am 0) mr)))
noncomputable def mW:List Sl->Tr Re:=bI 1 0
 (aV (ah bL (aC (.str " ")) (aY (bX (bV (aa 0)) 1 [] (am 0) mq))))
theorem ZoW (T:Txt K mg):ACal (bc cn) P w K mg base "show_rule" 2 ["rule"] mW:=cb T.Zod Zge rfl λf cdv A outer sh H E hr=>by
 exact (aH (bb (fj aE (bg (cO (cJ jX ["levels"] [] rfl (cj (ac (pv 0))) (λb=>(br (bo (i:=0) (show ((bN jX ["levels"] [])).Nodup by decide +kernel) rfl (Or.inl rfl)))) (λb=>(fj aE (bg (cO (cJ (bN jX ["levels"] []) ["level"] [] rfl (cj (ac (pv 0))) (λb=>(br (bo (i:=0) (show ((bN (bN jX ["levels"] []) ["level"] [])).Nodup by decide +kernel) rfl (Or.inl rfl)))) (λb=>(aN (aM (Zd5 T) (hr.mono (by decide)) rfl (az (ac (pv 0)) aD)))) rfl (BlkOk.leaf rfl (by decide +kernel) (by decide +kernel))) (bZ (by decide)))))) rfl (show BlkOk jX (aB kr) _ [] from ⟨rfl,by decide +kernel,by decide +kernel,by decide +kernel,by decide +kernel⟩)) (bZ (by decide)))))))
noncomputable def na:List Sl->Tr Re:=bI 1 1
 (au (bt 1 (aI (aF bK (bj 0 (aw (aC (.int 6)) ay)))))
 (aV (ah eD (aY (bW (ai (aC (.int 0)) (ai (aC (.int 1)) (ai (aI (aF bK (bj 0 (aw (aC (.int 12)) ay)))) (ai (aI (aF bK (bj 0 (aw (aC (.int 100)) ay)))) (ai (aC (.int 1000000)) (ai (aI (aF bK (bj 0 (aw (aC (.int 1000001)) ay)))) aj)))))))) (aa 1))))
theorem Zo3 (T:Txt K mg):ACal (bc cn) P w K mg base "_law_price" 2 ["_law_pen_here"] na:=cb T.Zou Za0 rfl λf cdv A outer sh H E hr=>by
 exact (aA (bE (aW (i:=1) Za0.nd rfl (Or.inl rfl) (aN (aM (bT T) (hr.mono (by decide)) rfl (bx (pv 0) (az ak aD))))))
 (aH (bb (cQ cK gx (by refine bg ?_; refine cg ?_; refine aU ?_ ?_; exact ak; refine aU ?_ ?_; exact ak; refine aU ?_ ?_; exact (aN (aM (bT T) (hr.mono (by decide)) rfl (bx (pv 0) (az ak aD)))); refine aU ?_ ?_; exact (aN (aM (bT T) (hr.mono (by decide)) rfl (bx (pv 0) (az ak aD)))); refine aU ?_ ?_; exact ak; refine aU ?_ ?_; exact (aN (aM (bT T) (hr.mono (by decide)) rfl (bx (pv 0) (az ak aD)))); exact aq) (ac (pv 1)) (λ_ _=>rfl)))))
noncomputable def pV:List Sl->Tr PyData :=
 (aI (aF bK (bj 1 (aw (aa 2) ay))))
noncomputable def qU:List Sl->Tr Ou :=
 (au (bt 3 (ah eD (aY (bW (ai (aC (.int 2)) (ai (aC (.int 4)) (ai (aC (.int 11)) (ai (aC (.int 1001)) aj)))))) (aI (aF bK (bj 0 (aw (aC (.int 4)) ay))))))
 (au (gW 4 (bX (gX (ai (ah dm (aC (.int 1)) (aI (aF bK (bj 0 (aw (aC (.int 8)) ay))))) aj)) 1 [0,3] (am 0) pV))
 (au (on 4 (aI (aF bK (bj 0 (aw (sG gk (oj 4 ay)) ay)))) (ah eD (aY (bW (ai (aC (.int 1)) (ai (ah gz (aa 3) (aC (.int 1))) aj)))) (aI (aF bK (bj 0 (aw (aC (.int 2)) ay))))))
 (iO 4 (gZ 1 (aR c6 (ai (aa 4) aj)))))))
noncomputable def ng:List Sl->Tr Re:=bI 1 4
 (au (gW 1 (bW aj))
 (au (fO (gX (ai (ah dm (aC (.int 1)) (aI (aF bK (bj 0 (aw (aC (.int 6)) ay))))) aj)) (am 2) qU)
 (iO 1 (aV (aR c6 (ai (aa 1) aj))))))
theorem Zo6 (T:Txt K mg):ACal (bc cn) P w K mg base "_law_falls" 2 ["_law_pen_here"] ng:=cb T.ZoA kn rfl λf cdv A outer sh H E hr=>by
 exact (aA (lg (aW (i:=1) kn.nd rfl (Or.inl rfl) (cg aq)))
 (aA (gS PassesOwn.never rfl (jO (jj rfl T.jp (ao (aX kO j9 ak (aN (aM (bT T) (hr.mono (by decide)) rfl (bx (pv 0) (az ak aD))))) aq))) (br (bo (i:=2) kn.nd rfl (Or.inl rfl)))
  (aA (bE (aW (i:=3) kn.nd rfl (Or.inr rfl) (cQ cK gx (by refine bg ?_; refine cg ?_; refine aU ?_ ?_; exact ak; refine aU ?_ ?_; exact ak; refine aU ?_ ?_; exact ak; refine aU ?_ ?_; exact ak; exact aq) (aN (aM (bT T) (hr.mono (by decide)) rfl (bx (pv 0) (az ak aD)))) (λ_ _=>rfl))))
 (aA (Zpp (ZbO (i:=4) oN ["_law_j"] [0,3] rfl kn.nd rfl rfl (jO (jj rfl T.jp (ao (aX kO j9 ak (aN (aM (bT T) (hr.mono (by decide)) rfl (bx (pv 0) (az ak aD))))) aq))) (λb=>(br (bo (i:=0) (show ((bN oN ["_law_j"] [0,3])).Nodup by decide +kernel) rfl (Or.inl rfl)))) (λb=>(aN (aM (bT T) (hr.mono (by decide)) rfl (bx (pv 1) (az (ac (pv 2)) aD))))) rfl (show BlkOk oN (aB kD) _ [0,3] from ⟨rfl,by decide +kernel,by decide +kernel,by decide +kernel,by decide +kernel⟩) rfl) (bZ (by decide)))
 (aA (Zpq (qb (cQ cK gx (bg (cg (ao ak (ao (aX kM j8 (ac (pv 3)) ak) aq)))) (aN (aM (bT T) (hr.mono (by decide)) rfl (bx (pv 0) (az ak aD)))) (λ_ _=>rfl)) (Zhl (pv 4) (aN (aM (bT T) (hr.mono (by decide)) rfl (bx (pv 0) (az (ZpD Zhe (ba iI rfl T.c9 boot_len (ZpI (pv 4) ZpH)) ka) aD)))) Zgb)))
 (aH (li (k:=4) (lj (gD (ik PySem.F.plainAttrs_list PySem.F.slot_list_append PySem.F.type_list_append kQ (pv 1) (aQ (a9 (t:=aT) (cu fg rfl T.dJ boot_tuple (ao (ac (pv 4)) aq)) eQ) bC))))))))))
 (aH (li (k:=1) (bb (a9 (t:=aT) (cu fg rfl T.dJ boot_tuple (ao (ac (pv 1)) aq)) eQ))))))
noncomputable def mz:List Sl->Tr PyData :=
 (aI (aF db (aw (aa 0) ay)))
noncomputable def fG:List Sl->Tr Ou :=
 (au (bt 3 (aY (bX (bV (ah dG (aa 2) (aC (.str ",")))) 1 [] (am 0) mz)))
 (au (bv (aP (ah (iB false) (aC .none) (aa 3)))
  (aV (aC .none))
  bi)
 (gZ 1 (aR c6 (ai (aa 3) aj)))))
noncomputable def il:List Sl->Tr Re:=bI 1 3
 (au (gW 1 (bW aj))
 (au (fO (bV (ah dG (aa 0) (aC (.str " ")))) (am 2) fG)
 (iO 1 (aV (aR c6 (ai (aa 1) aj))))))
theorem Zd9 (T:Txt K mg):ACal (bc cn) P w K mg base "_law_days_of" 2 ["_law_text"] il:=cb T.ZoC lM rfl λf cdv A outer sh H E hr=>by
 exact (aA (lg (aW (i:=1) lM.nd rfl (Or.inl rfl) (cg aq)))
 (aA (gS PassesOwn.never rfl (cj (dW PySem.F.slot_str_split PySem.F.type_str_split gI gy gA (ac (pv 0)) aE)) (br (bo (i:=2) lM.nd rfl (Or.inl rfl)))
  (aA (Zpo (ZbO (i:=3) oO ["_law_one"] [] rfl lM.nd rfl rfl (cj (dW PySem.F.slot_str_split PySem.F.type_str_split gI gy gA (ac (pv 2)) aE)) (λb=>(br (bo (i:=0) (show ((bN oO ["_law_one"] [])).Nodup by decide +kernel) rfl (Or.inl rfl)))) (λb=>(aN (aM (Zo4 T) (hr.mono (by decide)) rfl (az (ac (pv 0)) aD)))) rfl (show BlkOk oO (aB kE) _ [] from ⟨rfl,by decide +kernel,by decide +kernel,by decide +kernel,by decide +kernel⟩) rfl) (bZ (by decide)))
 (aA (bF (bh (Zb7 hr) o8 eK (ac (pv 3)) (by with_unfolding_all rfl))
  (aH (bb eK))
  bu)
 (aH (lj (gD (ik PySem.F.plainAttrs_list PySem.F.slot_list_append PySem.F.type_list_append kQ (pv 1) (aQ (a9 (t:=aT) (cu fg rfl T.dJ boot_tuple (ao (ac (pv 3)) aq)) eQ) bC))))))))
 (aH (li (k:=1) (bb (a9 (t:=aT) (cu fg rfl T.dJ boot_tuple (ao (ac (pv 1)) aq)) eQ))))))
noncomputable def jt:List Sl->Tr Re:=bI 2 9
 (au (bt 2 (aI (aF bK (bj 0 (aw (aC (.int 8)) ay)))))
 (au (bt 3 (aI (aF bK (bj 0 (aw (ah aS (aR cU (ai (aa 1) aj)) (aC (.int 1))) ay)))))
 (au (bt 4 (aC (.str " !\"#$&'()*+,-./0123456789:;<=>?@ABCDEFGHIJKLMNOPQRSTUVWXYZ[\\]^_`")))
 (au (bt 4 (ah aS (aa 4) (aC (.str "abcdefghijklmnopqrstuvwxyz{|}~\n"))))
 (au (bt 5 (aC (.str " ,-/@0123456789\n")))
 (au (bt 6 (ah cm (aY (bW (ai (ah cm (aa 4) (aI (aF bK (bj 0 (aw (aR cU (ai (aa 4) aj)) ay))))) (ai (ah cm (aa 5) (aI (aF bK (bj 0 (aw (aR cU (ai (aa 5) aj)) ay))))) aj)))) (aI (aF bK (bj 0 (aw (aC (.int 2)) ay))))))
 (au (bv (aP (ah (bO λi j=>decide (i < j)) (aa 2) (aC (.int 2))))
  (aV (ah aS (ah aS (cF (aa 1) cG (cz (aa 3))) (aa 6)) (cF (aa 1) (cz (aa 3)) cG)))
  bi)
 (au (bv (aP (ah cM (aa 2) (aC (.int 2))))
  (aV (ah aS (cF (aa 1) cG (cz (aa 3))) (cF (aa 1) (cz (ah aS (aa 3) (aC (.int 1)))) cG)))
  bi)
 (au (bv (aP (ah (bO λi j=>decide (i < j)) (aa 2) (aC (.int 5))))
  (aV (ah aS (ah aS (cF (aa 1) cG (cz (aa 3))) (aa 6)) (cF (aa 1) (cz (ah aS (aa 3) (aC (.int 1)))) cG)))
  bi)
 (au (bt 7 (ah cm (aY (bW (ai (aC (.str " ")) (ai (aC (.str ",")) (ai (aC (.str "\n")) (ai (aC (.str "/")) aj)))))) (aI (aF bK (bj 0 (aw (aC (.int 4)) ay))))))
 (au (bt 8 (ah dG (aa 1) (aa 7)))
 (au (bt 9 (aI (aF bK (bj 0 (aw (aR cU (ai (aa 8) aj)) ay)))))
 (au (bv (aP (ah cM (aa 2) (aC (.int 5))))
  (au (bt 10 (aY (bW (ai (aC (.str "")) (ai (aC (.str "00")) (ai (aC (.str "01")) (ai (aC (.str "-0")) (ai (aC (.str "--1")) (ai (aC (.str "+1")) (ai (aC (.str "1_0")) (ai (aC (.str "x")) (ai (aC (.str "0x1")) (ai (aC (.str "1.0")) (ai (aC (.str "1e3")) (ai (aC (.str "1/2")) (ai (aC (.str "1@2")) (ai (aC (.str "-")) (ai (aC (.str "1,")) (ai (ah fE (aC (.str "7")) (aC (.int 4400))) aj)))))))))))))))))))
 (aV (ah bL (aa 7) (ah aS (ah aS (cF (aa 8) cG (cz (aa 9))) (aY (bW (ai (ah cm (aa 10) (aI (aF bK (bj 0 (aw (aC (.int 16)) ay))))) aj)))) (cF (aa 8) (cz (ah aS (aa 9) (aC (.int 1)))) cG)))))
  bi)
 (au (bv (aP (ah cM (aa 2) (aC (.int 6))))
  (aV (ah bL (aa 7) (ah aS (cF (aa 8) cG (cz (aa 9))) (cF (aa 8) (cz (ah aS (aa 9) (aC (.int 1)))) cG))))
  bi)
 (aV (ah bL (aa 7) (ah aS (cF (aa 8) cG (cz (ah aS (aa 9) (aC (.int 1))))) (cF (aa 8) (cz (aa 9)) cG))))))))))))))))))
theorem Zea (T:Txt K mg):ACal (bc cn) P w K mg base "_law_bent_text" 2 ["_law_pen_here","_law_text"] jt:=cb T.ZoD eT rfl λf cdv A outer sh H E hr=>by
 refine @L2.aA _ _ _ _ _ _ ?_ ?_; (refine @L2.bE _ _ _ _ _ ?_; (refine @L2.aW _ _ (2) _ _ _ _ eT.nd rfl (Or.inl rfl) ?_ (by rfl) (by first   | exact .inl rfl   | exact .inr rfl   | assumption); (refine @L2.aN _ _ _ _ ?_; (refine @L2.aM _ _ _ _ _ _ _ _ _ _ _ (bT T) (hr.mono (by decide)) rfl ?_ (by decide) (by rfl) (by rfl); (refine @L2.bx _ _ _ _ _ _ (pv 0) ?_ (by rfl); (exact @L2.az _ _ _ _ _ _ ak aD (by rfl))))))); (refine @L2.aA _ _ _ _ _ _ ?_ ?_; (refine @L2.bE _ _ _ _ _ ?_; (refine @L2.aW _ _ (3) _ _ _ _ eT.nd rfl (Or.inl rfl) ?_ (by rfl) (by first   | exact .inl rfl   | exact .inr rfl   | assumption); (refine @L2.aN _ _ _ _ ?_; (refine @L2.aM _ _ _ _ _ _ _ _ _ _ _ (bT T) (hr.mono (by decide)) rfl ?_ (by decide) (by rfl) (by rfl); (refine @L2.bx _ _ _ _ _ _ (pv 0) ?_ (by rfl); (refine @L2.az _ _ _ _ _ _ ?_ aD (by rfl); (refine @L2.aX _ _ _ _ _ _ _ _ _ _ bp bn ?_ ak; (refine @L2.a9 _ _ _ _ (aT) _ _ (by refine @L2.ba _ _ _ _ _ _ _ _ _ fh rfl T.c9 boot_len ?_ (by decide) (by decide) (by rfl) (by rfl); (refine @L2.ao _ _ _ _ _ _ ?_ aq (by rfl); (exact (ac (pv 1))))) eR)))))))); (refine @L2.aA _ _ _ _ _ _ ?_ ?_; (refine @L2.bE _ _ _ _ _ ?_; (exact @L2.aW _ _ (4) _ _ _ _ eT.nd rfl (Or.inl rfl) aE (by rfl) (by first   | exact .inl rfl   | exact .inr rfl   | assumption))); (refine @L2.aA _ _ _ _ _ _ ?_ ?_; (refine @L2.bE _ _ _ _ _ ?_; (refine @L2.aW _ _ (4) _ _ _ _ eT.nd rfl (Or.inl rfl) ?_ (by rfl) (by first   | exact .inl rfl   | exact .inr rfl   | assumption); (refine @L2.aX _ _ _ _ _ _ _ _ _ _ bp bn ?_ aE; (exact (ac (pv 4)))))); (refine @L2.aA _ _ _ _ _ _ ?_ ?_; (refine @L2.bE _ _ _ _ _ ?_; (exact @L2.aW _ _ (5) _ _ _ _ eT.nd rfl (Or.inl rfl) aE (by rfl) (by first   | exact .inl rfl   | exact .inr rfl   | assumption))); (refine @L2.aA _ _ _ _ _ _ ?_ ?_; (refine @L2.bE _ _ _ _ _ ?_; (refine @L2.aW _ _ (6) _ _ _ _ eT.nd rfl (Or.inl rfl) ?_ (by rfl) (by first   | exact .inl rfl   | exact .inr rfl   | assumption); (refine @L2.cQ _ _ _ _ _ _ _ _ _ cK d6 ?_ ?_ (λ_ _=>rfl); (refine @L2.bg _ _ _ _ ?_; (refine @L2.cg _ _ _ _ _ ?_; (refine @L2.aU _ _ _ _ _ _ ?_ ?_ (by rfl); (refine @L2.cQ _ _ _ _ _ _ _ _ _ cK d6 ?_ ?_ (λ_ _=>rfl); (exact (ac (pv 4))); (refine @L2.aN _ _ _ _ ?_; (refine @L2.aM _ _ _ _ _ _ _ _ _ _ _ (bT T) (hr.mono (by decide)) rfl ?_ (by decide) (by rfl) (by rfl); (refine @L2.bx _ _ _ _ _ _ (pv 0) ?_ (by rfl); (refine @L2.az _ _ _ _ _ _ ?_ aD (by rfl); (refine @L2.a9 _ _ _ _ (aT) _ _ (by refine @L2.ba _ _ _ _ _ _ _ _ _ fh rfl T.c9 boot_len ?_ (by decide) (by decide) (by rfl) (by rfl); (refine @L2.ao _ _ _ _ _ _ ?_ aq (by rfl); (exact (ac (pv 4))))) eR)))))); (refine @L2.ao _ _ _ _ _ _ ?_ aq (by rfl); (refine @L2.cQ _ _ _ _ _ _ _ _ _ cK d6 ?_ ?_ (λ_ _=>rfl); (exact (ac (pv 5))); (refine @L2.aN _ _ _ _ ?_; (refine @L2.aM _ _ _ _ _ _ _ _ _ _ _ (bT T) (hr.mono (by decide)) rfl ?_ (by decide) (by rfl) (by rfl); (refine @L2.bx _ _ _ _ _ _ (pv 0) ?_ (by rfl); (refine @L2.az _ _ _ _ _ _ ?_ aD (by rfl); (refine @L2.a9 _ _ _ _ (aT) _ _ (by refine @L2.ba _ _ _ _ _ _ _ _ _ fh rfl T.c9 boot_len ?_ (by decide) (by decide) (by rfl) (by rfl); (refine @L2.ao _ _ _ _ _ _ ?_ aq (by rfl); (exact (ac (pv 5))))) eR)))))))))); (refine @L2.aN _ _ _ _ ?_; (refine @L2.aM _ _ _ _ _ _ _ _ _ _ _ (bT T) (hr.mono (by decide)) rfl ?_ (by decide) (by rfl) (by rfl); (refine @L2.bx _ _ _ _ _ _ (pv 0) ?_ (by rfl); (exact @L2.az _ _ _ _ _ _ ak aD (by rfl)))))))); (refine @L2.aA _ _ _ _ _ _ ?_ ?_; (refine @L2.bF _ _ _ _ _ _ _ _ _ ?_ ?_ bu; (refine @L2.bh _ _ _ _ _ _ _ _ _ _ jl ce ?_ ak (nomark _); (exact (ac (pv 2)))); (refine @L2.aH _ _ _ _ ?_; (refine @L2.bb _ _ _ _ _ ?_; (refine @L2.aX _ _ _ _ _ _ _ _ _ _ bp bn ?_ ?_; (refine @L2.aX _ _ _ _ _ _ _ _ _ _ bp bn ?_ ?_; (refine @L2.c4 _ _ _ _ _ _ _ _ _ _ ?_ cZ ?_; (exact (ac (pv 1))); (refine @L2.cY _ _ _ _ ?_; (exact (ac (pv 3))))); (exact (ac (pv 6)))); (refine @L2.c4 _ _ _ _ _ _ _ _ _ _ ?_ ?_ cZ; (exact (ac (pv 1))); (refine @L2.cY _ _ _ _ ?_; (exact (ac (pv 3))))))))); (refine @L2.aA _ _ _ _ _ _ ?_ ?_; (refine @L2.bF _ _ _ _ _ _ _ _ _ ?_ ?_ bu; (refine @L2.bh _ _ _ _ _ _ _ _ _ _ ?_ dD ?_ ak (nomark _); (exact (dH hr)); (exact (ac (pv 2)))); (refine @L2.aH _ _ _ _ ?_; (refine @L2.bb _ _ _ _ _ ?_; (refine @L2.aX _ _ _ _ _ _ _ _ _ _ bp bn ?_ ?_; (refine @L2.c4 _ _ _ _ _ _ _ _ _ _ ?_ cZ ?_; (exact (ac (pv 1))); (refine @L2.cY _ _ _ _ ?_; (exact (ac (pv 3))))); (refine @L2.c4 _ _ _ _ _ _ _ _ _ _ ?_ ?_ cZ; (exact (ac (pv 1))); (refine @L2.cY _ _ _ _ ?_; (refine @L2.aX _ _ _ _ _ _ _ _ _ _ bp bn ?_ ak; (exact (ac (pv 3)))))))))); (refine @L2.aA _ _ _ _ _ _ ?_ ?_; (refine @L2.bF _ _ _ _ _ _ _ _ _ ?_ ?_ bu; (refine @L2.bh _ _ _ _ _ _ _ _ _ _ jl ce ?_ ak (nomark _); (exact (ac (pv 2)))); (refine @L2.aH _ _ _ _ ?_; (refine @L2.bb _ _ _ _ _ ?_; (refine @L2.aX _ _ _ _ _ _ _ _ _ _ bp bn ?_ ?_; (refine @L2.aX _ _ _ _ _ _ _ _ _ _ bp bn ?_ ?_; (refine @L2.c4 _ _ _ _ _ _ _ _ _ _ ?_ cZ ?_; (exact (ac (pv 1))); (refine @L2.cY _ _ _ _ ?_; (exact (ac (pv 3))))); (exact (ac (pv 6)))); (refine @L2.c4 _ _ _ _ _ _ _ _ _ _ ?_ ?_ cZ; (exact (ac (pv 1))); (refine @L2.cY _ _ _ _ ?_; (refine @L2.aX _ _ _ _ _ _ _ _ _ _ bp bn ?_ ak; (exact (ac (pv 3)))))))))); (refine @L2.aA _ _ _ _ _ _ ?_ ?_; (refine @L2.bE _ _ _ _ _ ?_; (refine @L2.aW _ _ (7) _ _ _ _ eT.nd rfl (Or.inl rfl) ?_ (by rfl) (by first   | exact .inl rfl   | exact .inr rfl   | assumption); (refine @L2.cQ _ _ _ _ _ _ _ _ _ cK d6 ?_ ?_ (λ_ _=>rfl); (refine @L2.bg _ _ _ _ ?_; (refine @L2.cg _ _ _ _ _ ?_; (refine @L2.aU _ _ _ _ _ _ aE ?_ (by rfl); (refine @L2.aU _ _ _ _ _ _ aE ?_ (by rfl); (refine @L2.ao _ _ _ _ _ _ aE ?_ (by rfl); (exact @L2.ao _ _ _ _ _ _ aE aq (by rfl))))))); (refine @L2.aN _ _ _ _ ?_; (refine @L2.aM _ _ _ _ _ _ _ _ _ _ _ (bT T) (hr.mono (by decide)) rfl ?_ (by decide) (by rfl) (by rfl); (refine @L2.bx _ _ _ _ _ _ (pv 0) ?_ (by rfl); (exact @L2.az _ _ _ _ _ _ ak aD (by rfl)))))))); (refine @L2.aA _ _ _ _ _ _ ?_ ?_; (refine @L2.bE _ _ _ _ _ ?_; (refine @L2.aW _ _ (8) _ _ _ _ eT.nd rfl (Or.inl rfl) ?_ (by rfl) (by first   | exact .inl rfl   | exact .inr rfl   | assumption); (refine @L2.dW _ _ _ _ _ _ _ _ _ _ _ _ PySem.F.slot_str_split PySem.F.type_str_split gI gy gA ?_ ?_ (by rfl) (by rfl) (by rfl) (by rfl) (by rfl); (exact (ac (pv 1))); (exact (ac (pv 7)))))); (refine @L2.aA _ _ _ _ _ _ ?_ ?_; (refine @L2.bE _ _ _ _ _ ?_; (refine @L2.aW _ _ (9) _ _ _ _ eT.nd rfl (Or.inl rfl) ?_ (by rfl) (by first   | exact .inl rfl   | exact .inr rfl   | assumption); (refine @L2.aN _ _ _ _ ?_; (refine @L2.aM _ _ _ _ _ _ _ _ _ _ _ (bT T) (hr.mono (by decide)) rfl ?_ (by decide) (by rfl) (by rfl); (refine @L2.bx _ _ _ _ _ _ (pv 0) ?_ (by rfl); (refine @L2.az _ _ _ _ _ _ ?_ aD (by rfl); (refine @L2.a9 _ _ _ _ (aT) _ _ (by refine @L2.ba _ _ _ _ _ _ _ _ _ fh rfl T.c9 boot_len ?_ (by decide) (by decide) (by rfl) (by rfl); (refine @L2.ao _ _ _ _ _ _ ?_ aq (by rfl); (exact (ac (pv 8))))) eR))))))); (refine @L2.aA _ _ _ _ _ _ ?_ ?_; (refine @L2.bF _ _ _ _ _ _ _ _ _ ?_ ?_ bu; (refine @L2.bh _ _ _ _ _ _ _ _ _ _ ?_ dD ?_ ak (nomark _); (exact (dH hr)); (exact (ac (pv 2)))); (refine @L2.aA _ _ _ _ _ _ ?_ ?_; (refine @L2.bE _ _ _ _ _ ?_; (refine @L2.aW _ _ (10) _ _ _ _ eT.nd rfl (Or.inl rfl) ?_ (by rfl) (by first   | exact .inl rfl   | exact .inr rfl   | assumption); (refine @L2.bg _ _ _ _ ?_; (refine @L2.cg _ _ _ _ _ ?_; (refine @L2.aU _ _ _ _ _ _ aE ?_ (by rfl); (refine @L2.aU _ _ _ _ _ _ aE ?_ (by rfl); (refine @L2.aU _ _ _ _ _ _ aE ?_ (by rfl); (refine @L2.aU _ _ _ _ _ _ aE ?_ (by rfl); (refine @L2.aU _ _ _ _ _ _ aE ?_ (by rfl); (refine @L2.aU _ _ _ _ _ _ aE ?_ (by rfl); (refine @L2.aU _ _ _ _ _ _ aE ?_ (by rfl); (refine @L2.aU _ _ _ _ _ _ aE ?_ (by rfl); (refine @L2.aU _ _ _ _ _ _ aE ?_ (by rfl); (refine @L2.aU _ _ _ _ _ _ aE ?_ (by rfl); (refine @L2.aU _ _ _ _ _ _ aE ?_ (by rfl); (refine @L2.aU _ _ _ _ _ _ aE ?_ (by rfl); (refine @L2.aU _ _ _ _ _ _ aE ?_ (by rfl); (refine @L2.aU _ _ _ _ _ _ aE ?_ (by rfl); (refine @L2.ao _ _ _ _ _ _ aE ?_ (by rfl); (refine @L2.ao _ _ _ _ _ _ ?_ aq (by rfl); (exact (aX qm o6 aE ak)))))))))))))))))))))); (refine @L2.aH _ _ _ _ ?_; (refine @L2.bb _ _ _ _ _ ?_; (refine @L2.dW _ _ _ _ _ _ _ _ _ _ _ _ PySem.F.slot_str_join PySem.F.type_str_join mP o9 rb ?_ ?_ (by rfl) (by rfl) (by rfl) (by rfl) (by rfl); (exact (ac (pv 7))); (refine @L2.aX _ _ _ _ _ _ _ _ _ _ bp bn ?_ ?_; (refine @L2.aX _ _ _ _ _ _ _ _ _ _ bp bn ?_ ?_; (refine @L2.c4 _ _ _ _ _ _ _ _ _ _ ?_ cZ ?_; (exact (ac (pv 8))); (refine @L2.cY _ _ _ _ ?_; (exact (ac (pv 9))))); (refine @L2.bg _ _ _ _ ?_; (refine @L2.cg _ _ _ _ _ ?_; (refine @L2.ao _ _ _ _ _ _ ?_ aq (by rfl); (refine @L2.cQ _ _ _ _ _ _ _ _ _ cK d6 ?_ ?_ (λ_ _=>rfl); (exact (ac (pv 10))); (refine @L2.aN _ _ _ _ ?_; (refine @L2.aM _ _ _ _ _ _ _ _ _ _ _ (bT T) (hr.mono (by decide)) rfl ?_ (by decide) (by rfl) (by rfl); (refine @L2.bx _ _ _ _ _ _ (pv 0) ?_ (by rfl); (exact @L2.az _ _ _ _ _ _ ak aD (by rfl)))))))))); (refine @L2.c4 _ _ _ _ _ _ _ _ _ _ ?_ ?_ cZ; (exact (ac (pv 8))); (refine @L2.cY _ _ _ _ ?_; (refine @L2.aX _ _ _ _ _ _ _ _ _ _ bp bn ?_ ak; (exact (ac (pv 9)))))))))))); (refine @L2.aA _ _ _ _ _ _ ?_ ?_; (refine @L2.bF _ _ _ _ _ _ _ _ _ ?_ ?_ bu; (refine @L2.bh _ _ _ _ _ _ _ _ _ _ ?_ dD ?_ ak (nomark _); (exact (dH hr)); (exact (ac (pv 2)))); (refine @L2.aH _ _ _ _ ?_; (refine @L2.bb _ _ _ _ _ ?_; (refine @L2.dW _ _ _ _ _ _ _ _ _ _ _ _ PySem.F.slot_str_join PySem.F.type_str_join mP o9 rb ?_ ?_ (by rfl) (by rfl) (by rfl) (by rfl) (by rfl); (exact (ac (pv 7))); (refine @L2.aX _ _ _ _ _ _ _ _ _ _ bp bn ?_ ?_; (refine @L2.c4 _ _ _ _ _ _ _ _ _ _ ?_ cZ ?_; (exact (ac (pv 8))); (refine @L2.cY _ _ _ _ ?_; (exact (ac (pv 9))))); (refine @L2.c4 _ _ _ _ _ _ _ _ _ _ ?_ ?_ cZ; (exact (ac (pv 8))); (refine @L2.cY _ _ _ _ ?_; (refine @L2.aX _ _ _ _ _ _ _ _ _ _ bp bn ?_ ak; (exact (ac (pv 9))))))))))); (refine @L2.aH _ _ _ _ ?_; (refine @L2.bb _ _ _ _ _ ?_; (refine @L2.dW _ _ _ _ _ _ _ _ _ _ _ _ PySem.F.slot_str_join PySem.F.type_str_join mP o9 rb ?_ ?_ (by rfl) (by rfl) (by rfl) (by rfl) (by rfl); (exact (ac (pv 7))); (refine @L2.aX _ _ _ _ _ _ _ _ _ _ bp bn ?_ ?_; (refine @L2.c4 _ _ _ _ _ _ _ _ _ _ ?_ cZ ?_; (exact (ac (pv 8))); (refine @L2.cY _ _ _ _ ?_; (refine @L2.aX _ _ _ _ _ _ _ _ _ _ bp bn ?_ ak; (exact (ac (pv 9)))))); (refine @L2.c4 _ _ _ _ _ _ _ _ _ _ ?_ ?_ cZ; (exact (ac (pv 8))); (refine @L2.cY _ _ _ _ ?_; (exact (ac (pv 9))))))))))))))))))))))
noncomputable def pX:List Sl->Tr PyData :=
 (aI (aF ju (aw (aa 0) (aw (aC (.int 0)) (aw (aC (.int 1000000)) ay)))))
noncomputable def jv:List Sl->Tr Re:=bI 1 0
 (au (bv (cq (cH (de (gt "tuple" (aa 0)))) (aP (ah c8 (aR gk (ai (aa 0) aj)) (aC (.int 9)))))
  (aV (aC (.bool false)))
  bi)
 (au (bv (cH (de (aR iK (ai (aY (bX (jS (aa 0)) 1 [] (am 0) pX)) aj))))
  (aV (aC (.bool false)))
  bi)
 (aV (ah (bO λi j=>decide (i<=j)) (ah dm (ah eD (aa 0) (aC (.int 0))) (ah eD (aa 0) (aC (.int 1)))) (aC (.int 39))))))
theorem Zo8 (T:Txt K mg):ACal (bc cn) P w K mg base "is_shop" 3 ["thing"] jv:=cb T.Zol Zgi rfl λf cdv A outer sh H E hr=>by
 exact (aA (bF (dU (dc (cW (dC (iM (T:="tuple") (Or.inr (Or.inr (Or.inr (Or.inr (Or.inl rfl))))) rfl (ba iJ rfl T.fB boot_isinstance (aQ (ac (pv 0)) (aQ (gE (v:=.ty "tuple") rfl T.dJ boot_tuple rfl) bC)))))) (eJ (bh (gb hr) fU (a9 (t:=aT) (ba iI rfl T.c9 boot_len (ao (ac (pv 0)) aq)) ka) (eL rfl T.ZjC) (nomark _)))))
 (aH (bb dN))
 bu)
 (aA (bF (cW (dC (a9 (t:=aT) (ba (nS rfl) rfl T.mO boot_all (ao (bg (cO (cJ oH ["number"] [] rfl (n6 (ac (pv 0))) (λb=>(br (bo (i:=0) (show ((bN oH ["number"] [])).Nodup by decide +kernel) rfl (Or.inl rfl)))) (λb=>(aN (aM (Zeb T) (hr.mono (by decide)) rfl (az (ac (pv 0)) (az ak (az (eL rfl T.ZjH) aD)))))) rfl (show BlkOk oH (aB ku) _ [] from ⟨rfl,by decide +kernel,by decide +kernel,by decide +kernel,by decide +kernel⟩)) (bZ (by decide)))) aq)) lC)))
  (aH (bb dN))
  bu)
 (aH (bb (iN gc ce (aX kO j9 (cQ cK gx (ac (pv 0)) (eL rfl T.ZjB) (λ_ _=>rfl)) (cQ cK gx (ac (pv 0)) (eL rfl T.ZjL) (λ_ _=>rfl))) (eL rfl T.ZjG) (nomark _))))))
noncomputable def p4:List Sl->Tr PyData :=
 (aI (aF ju (aw (aa 0) (aw (aC (.int 0)) (aw (aC (.int 1000)) ay)))))
noncomputable def pZ:List Sl->Tr PyData :=
 (ah (bO λi j=>decide (i > j)) (aa 0) (aC (.int 0)))
noncomputable def io:List Sl->Tr Re:=bI 1 0
 (au (bv (cq (cH (de (gt "tuple" (aa 0)))) (cH (aP (gY (bO λi j=>decide (i<=j)) (bO λi j=>decide (i<=j)) (aC (.int 1)) (aR gk (ai (aa 0) aj)) (aC (.int 8))))))
  (aV (aC (.bool false)))
  bi)
 (au (bv (cH (de (aR iK (ai (aY (bX (jS (aa 0)) 1 [] (am 0) p4)) aj))))
  (aV (aC (.bool false)))
  bi)
 (aV (aR nW (ai (aY (bX (jS (aa 0)) 1 [] (am 0) pZ)) aj)))))
theorem Zo9 (T:Txt K mg):ACal (bc cn) P w K mg base "is_day" 3 ["thing"] io:=cb T.Zoo Zgk rfl λf cdv A outer sh H E hr=>by
 exact (aA (bF (dU (dc (cW (dC (iM (T:="tuple") (Or.inr (Or.inr (Or.inr (Or.inr (Or.inl rfl))))) rfl (ba iJ rfl T.fB boot_isinstance (aQ (ac (pv 0)) (aQ (gE (v:=.ty "tuple") rfl T.dJ boot_tuple rfl) bC)))))) (eJ (cW (r8 gc ce gc ce ak (a9 (t:=aT) (ba iI rfl T.c9 boot_len (ao (ac (pv 0)) aq)) ka) (eL rfl T.ZjE))))))
 (aH (bb dN))
 bu)
 (aA (bF (cW (dC (a9 (t:=aT) (ba (nS rfl) rfl T.mO boot_all (ao (bg (cO (cJ iP ["weight"] [] rfl (n6 (ac (pv 0))) (λb=>(br (bo (i:=0) (show ((bN iP ["weight"] [])).Nodup by decide +kernel) rfl (Or.inl rfl)))) (λb=>(aN (aM (Zeb T) (hr.mono (by decide)) rfl (az (ac (pv 0)) (az ak (az (eL rfl T.ZjF) aD)))))) rfl (show BlkOk iP (aB jf) _ [] from ⟨rfl,by decide +kernel,by decide +kernel,by decide +kernel,by decide +kernel⟩)) (bZ (by decide)))) aq)) lC)))
  (aH (bb dN))
  bu)
 (aH (bb (a9 (t:=aT) (ba (ZoV rfl) rfl T.Ziu boot_any (ao (bg (cO (cJ iP ["weight"] [] rfl (n6 (ac (pv 0))) (λb=>(br (bo (i:=0) (show ((bN iP ["weight"] [])).Nodup by decide +kernel) rfl (Or.inl rfl)))) (λb=>(iN ge ce (ac (pv 0)) ak (nomark _))) rfl (show BlkOk iP (aB jf) _ [] from ⟨rfl,by decide +kernel,by decide +kernel,by decide +kernel,by decide +kernel⟩)) (bZ (by decide)))) aq)) Zfb)))))
noncomputable def mw:List Sl->Tr PyData :=
 (aI (aF mY (aw (aa 0) ay)))
noncomputable def mv:List Sl->Tr PyData :=
 (aR c6 (ai (aY (bX (bV (ah dG (aa 0) (aC (.str ",")))) 1 [] (am 0) mw)) aj))
noncomputable def mX:List Sl->Tr Re:=bI 1 0
 (au (sF (aI (aF nk (aw (aa 0) ay))))
 (aV (aR c6 (ai (aY (bX (bV (ah dG (aa 0) (aC (.str " ")))) 1 [] (am 0) mv)) aj))))
theorem ZoX (T:Txt K mg):ACal (bc cn) P w K mg base "read_rule" 3 ["text"] mX:=cb T.ZdK ZaW rfl λf cdv A outer sh H E hr=>by
 exact (aA (Zpt (aN (aM (Zpa T) (hr.mono (by decide)) rfl (az (ac (pv 0)) aD))))
 (aH (bb (a9 (t:=aT) (cu fg rfl T.dJ boot_tuple (ao (bg (cO (cJ fo ["day"] [] rfl (cj (dW PySem.F.slot_str_split PySem.F.type_str_split gI gy gA (ac (pv 0)) aE)) (λb=>(br (bo (i:=0) (show ((bN fo ["day"] [])).Nodup by decide +kernel) rfl (Or.inl rfl)))) (λb=>(a9 (t:=aT) (cu fg rfl T.dJ boot_tuple (ao (bg (cO (cJ (bN fo ["day"] []) ["word"] [] rfl (cj (dW PySem.F.slot_str_split PySem.F.type_str_split gI gy gA (ac (pv 0)) aE)) (λb=>(br (bo (i:=0) (show ((bN (bN fo ["day"] []) ["word"] [])).Nodup by decide +kernel) rfl (Or.inl rfl)))) (λb=>(aN (aM (ZoY T) (hr.mono (by decide)) rfl (az (ac (pv 0)) aD)))) rfl (BlkOk.leaf rfl (by decide +kernel) (by decide +kernel))) (bZ (by decide)))) aq)) eQ)) rfl (show BlkOk fo (aB jd) _ [] from ⟨rfl,by decide +kernel,by decide +kernel,by decide +kernel,by decide +kernel⟩)) (bZ (by decide)))) aq)) eQ))))
noncomputable def ml:List Sl->Tr (Option PyData) :=
 (g8 iU (aw (aa 0) ay))
noncomputable def mj:List Sl->Tr (Option PyData) :=
 (j6 c6 (j7 (iY (bV (ah dG (aa 0) (aC (.str ",")))) 1 [] (am 0) ml)))
noncomputable def iT:List Sl->Tr (Option Re):=fm 1 0
 (eO (lz (g8 iV (aw (aa 0) ay)))
 (o4 (j6 c6 (j7 (iY (bV (ah dG (aa 0) (aC (.str " ")))) 1 [] (am 0) mj)))))
theorem ZoF (T:Txt K mg) {C:Addr} (hC:mg "NoText"=some (.ref C)) (xc:Xcl K C fi "ValueError.__new__"):XCal (bc cn) P w K mg base "read_rule" 3 ["text"] C iT:=j4 T.ZdK ZaW rfl λf cdv A outer sh H E hr=>by
 exact (g7 (Zae (jZ (ZdO (cn:=cn) T hC xc) (hr.mono (by decide)) rfl qi (az (ac (pv 0)) aD)))
 (iS (ZeM (oX eQ (cu fg rfl T.dJ boot_tuple (aQ (oY (oU (qg fo ["day"] [] rfl (ZcO) rfl rfl rfl (cj (dW PySem.F.slot_str_split PySem.F.type_str_split gI gy gA (ac (pv 0)) aE)) (λb=>(br (bo (i:=0) (show ((bN fo ["day"] [])).Nodup by decide +kernel) rfl (Or.inl rfl)))) (λb=>(oX eQ (cu fg rfl T.dJ boot_tuple (aQ (oY (oU (qg (bN fo ["day"] []) ["word"] [] rfl (ZhE) rfl rfl rfl (cj (dW PySem.F.slot_str_split PySem.F.type_str_split gI gy gA (ac (pv 0)) aE)) (λb=>(br (bo (i:=0) (show ((bN (bN fo ["day"] []) ["word"] [])).Nodup by decide +kernel) rfl (Or.inl rfl)))) (λb=>(jZ (ZdN (cn:=cn) T hC xc) (hr.mono (by decide)) rfl ZbZ (az (ac (pv 0)) aD))) rfl (BlkOk.leaf rfl (by decide +kernel) (by decide +kernel))) (bZ (by decide)))) bC)))) rfl (show BlkOk fo (aB jd) _ [] from ⟨rfl,by decide +kernel,by decide +kernel,by decide +kernel,by decide +kernel⟩)) (bZ (by decide)))) bC))))))
noncomputable def kW:List Sl->Tr Re:=bI 1 0
 (sA (aF mW (aw (aa 0) ay)))
theorem Zd6 (T:Txt K mg):ACal (bc cn) P w K mg base "show_falls" 3 ["falls"] kW:=cb T.Zof Zgf rfl λf cdv A outer sh H E hr=>by
 exact (aH (Zps (aM (ZoW T) (hr.mono (by decide)) rfl (az (ac (pv 0)) aD))))
noncomputable def pU:List Sl->Tr PyData :=
 (aI (aF na (bj 1 ay)))
noncomputable def m9:List Sl->Tr Re:=bI 1 3
 (au (ow (nD (iE (am 1) (iE (am 2) k9))) (ah eD (aY (bW (ai (gr (ai (aI (aF bK (bj 0 (aw (aC (.int 6)) ay)))) (ai (aI (aF bK (bj 0 (aw (aC (.int 6)) ay)))) aj))) (ai (gr (ai (aI (aF bK (bj 0 (aw (aC (.int 20)) ay)))) (ai (aI (aF bK (bj 0 (aw (aC (.int 20)) ay)))) aj))) aj)))) (aI (aF bK (bj 0 (aw (aC (.int 2)) ay))))))
 (au (bt 3 (aI (aF bK (bj 0 (aw (aC (.int 6)) ay)))))
 (au (bv (aP (ah cM (aa 3) (aC (.int 0))))
  (bt 2 (ah gz (aC (.int 39)) (aa 1)))
  bi)
 (au (bv (aP (ah cM (aa 3) (aC (.int 1))))
  (bt 1 (ah eD (aY (bW (ai (aC (.int 0)) (ai (ah gz (aC (.int 39)) (aa 2)) aj)))) (aI (aF bK (bj 0 (aw (aC (.int 2)) ay))))))
  bi)
 (au (bv (aP (ah cM (aa 3) (aC (.int 2))))
  (bt 2 (aC (.int 0)))
  bi)
 (aV (ah dm (gr (ai (aa 1) (ai (aa 2) aj))) (aR c6 (ai (aY (bX (gX (ai (aC (.int 7)) aj)) 1 [0] (am 0) pU)) aj)))))))))
theorem Zo2 (T:Txt K mg):ACal (bc cn) P w K mg base "_law_shop" 3 ["_law_pen_here"] m9:=cb T.Zos ic rfl λf cdv A outer sh H E hr=>by
 exact (aA (Zeq (qb (cQ cK gx (by refine bg ?_; refine cg ?_; refine aU ?_ ?_; exact (iL (ao (aN (aM (bT T) (hr.mono (by decide)) rfl (bx (pv 0) (az ak aD)))) (ao (aN (aM (bT T) (hr.mono (by decide)) rfl (bx (pv 0) (az ak aD)))) aq))); refine aU ?_ ?_; exact (iL (ao (aN (aM (bT T) (hr.mono (by decide)) rfl (bx (pv 0) (az ak aD)))) (ao (aN (aM (bT T) (hr.mono (by decide)) rfl (bx (pv 0) (az ak aD)))) aq))); exact aq) (aN (aM (bT T) (hr.mono (by decide)) rfl (bx (pv 0) (az ak aD)))) (λ_ _=>rfl)) (Zex rfl (n8 (br (bo (i:=1) ic.nd rfl (Or.inl rfl))) (n8 (br (bo (i:=2) ic.nd rfl (Or.inl rfl))) Zew)) (nz (nz ZcQ)))))
 (aA (bE (aW (i:=3) ic.nd rfl (Or.inl rfl) (aN (aM (bT T) (hr.mono (by decide)) rfl (bx (pv 0) (az ak aD))))))
 (aA (bF (bh (dH hr) dD (ac (pv 3)) ak (nomark _))
  (aH (bE (aW (i:=2) ic.nd rfl (Or.inl rfl) (aX kM j8 ak (ac (pv 1))))))
  bu)
 (aA (bF (bh (dH hr) dD (ac (pv 3)) ak (nomark _))
  (aH (bE (aW (i:=1) ic.nd rfl (Or.inl rfl) (cQ cK gx (bg (cg (ao ak (ao (aX kM j8 ak (ac (pv 2))) aq)))) (aN (aM (bT T) (hr.mono (by decide)) rfl (bx (pv 0) (az ak aD)))) (λ_ _=>rfl)))))
  bu)
 (aA (bF (bh (dH hr) dD (ac (pv 3)) ak (nomark _))
  (aH (bE (aW (i:=2) ic.nd rfl (Or.inl rfl) ak)))
  bu)
 (aH (bb (aX kO j9 (iL (ao (ac (pv 1)) (ao (ac (pv 2)) aq))) (a9 (t:=aT) (cu fg rfl T.dJ boot_tuple (ao (bg (cO (cJ oK ["_law_k"] [0] rfl (jO (jj rfl T.jp (ao ak aq))) (λb=>(br (bo (i:=0) (show ((bN oK ["_law_k"] [0])).Nodup by decide +kernel) rfl (Or.inl rfl)))) (λb=>(aN (aM (Zo3 T) (hr.mono (by decide)) rfl (bx (pv 1) aD)))) rfl (show BlkOk oK (aB kB) _ [0] from ⟨rfl,by decide +kernel,by decide +kernel,by decide +kernel,by decide +kernel⟩)) (bZ (by decide)))) aq)) eQ)))))))))
noncomputable def kI:List Sl->Tr PyData :=
 (aa 0)
noncomputable def kL:List Sl->Tr Bool :=
 (aP (ah (bO λi j=>decide (i > j)) (aR cU (ai (aa 0) aj)) (aC (.int 1))))
noncomputable def kH:List Sl->Tr PyData :=
 (ah cm (aa 0) (aC (.int 0)))
noncomputable def m8:List Sl->Tr Re:=bI 1 2
 (au (bt 1 (aI (aF il (aw (aa 0) ay))))
 (au (bv (cq (aP (ah iA (aa 1) (aC .none))) (cq (aP (ah c8 (aR cU (ai (aa 1) aj)) (aC (.int 9)))) (aP (ah jm (aY (jR (bV (aa 1)) 1 [] (am 0) kL kI)) (aY (bW aj))))))
  (aV (aC .none))
  bi)
 (au (bt 2 (aR c6 (ai (aY (bX (bV (aa 1)) 1 [] (am 0) kH)) aj)))
 (au (bv (cq (aP (ah (bO λi j=>decide (i < j)) (aR jr (ai (aa 2) aj)) (aC (.int 0)))) (cq (aP (ah (bO λi j=>decide (i > j)) (aR gg (ai (aa 2) aj)) (aC (.int 1000000)))) (aP (ah (bO λi j=>decide (i > j)) (ah aS (ah cm (aa 2) (aC (.int 0))) (ah cm (aa 2) (aC (.int 1)))) (aC (.int 39))))))
  (aV (aC .none))
  bi)
 (eM 2)))))
theorem Zo1 (T:Txt K mg):ACal (bc cn) P w K mg base "_law_shop_of" 3 ["_law_text"] m8:=cb T.Zor pI rfl λf cdv A outer sh H E hr=>by
 exact (aA (bE (aW (i:=1) pI.nd rfl (Or.inl rfl) (aN (aM (Zd9 T) (hr.mono (by decide)) rfl (az (ac (pv 0)) aD)))))
 (aA (bF (dU (dc (bh qo o7 (ac (pv 1)) eK (nomark _)) (dc (bh (gb hr) fU (a9 (t:=aT) (ba fh rfl T.c9 boot_len (ao (ac (pv 1)) aq)) eR) ak (nomark _)) (eJ (bh (Zb5 hr) Zal (bg (Zes (ZbW iQ ["_law_one"] [] rfl (cj (ac (pv 1))) (λb=>(br (bo (i:=0) (show ((bN iQ ["_law_one"] [])).Nodup by decide +kernel) rfl (Or.inl rfl)))) (λb=>(bh ge ce (a9 (t:=aT) (ba fh rfl T.c9 boot_len (ao (ac (pv 0)) aq)) eR) ak (nomark _))) (λb=>(ac (pv 0))) rfl (show BlkOk iQ (aB jh) _ [] from ⟨rfl,by decide +kernel,by decide +kernel,by decide +kernel,by decide +kernel⟩)) (bZ (by decide)))) (bg (cg aq)) (nomark _))))))
  (aH (bb eK))
  bu)
 (aA (bE (aW (i:=2) pI.nd rfl (Or.inl rfl) (a9 (t:=aT) (cu fg rfl T.dJ boot_tuple (ao (bg (cO (cJ iQ ["_law_one"] [] rfl (cj (ac (pv 1))) (λb=>(br (bo (i:=0) (show ((bN iQ ["_law_one"] [])).Nodup by decide +kernel) rfl (Or.inl rfl)))) (λb=>(cQ cK d6 (ac (pv 0)) ak (λ_ _=>rfl))) rfl (show BlkOk iQ (aB jh) _ [] from ⟨rfl,by decide +kernel,by decide +kernel,by decide +kernel,by decide +kernel⟩)) (bZ (by decide)))) aq)) eQ)))
 (aA (bF (dU (dc (bh jl ce (a9 (t:=aT) (ba (Zd2 rfl) rfl T.Zch boot_min (ao (ac (pv 2)) aq)) Zam) ak (nomark _)) (dc (bh ge ce (a9 (t:=aT) (ba (rW rfl) rfl T.qA boot_max (ao (ac (pv 2)) aq)) pb) ak (nomark _)) (eJ (bh ge ce (aX bp bn (cQ cK d6 (ac (pv 2)) ak (λ_ _=>rfl)) (cQ cK d6 (ac (pv 2)) ak (λ_ _=>rfl))) ak (nomark _))))))
  (aH (bb eK))
  bu)
 (aH (lh (pv 2)))))))
noncomputable def eC:List Sl->Tr Ou :=
 (bv (cq (aP (ah (bO λi j=>decide (i > j)) (aR cU (ai (aa 2) aj)) (aC (.int 8)))) (cq (aP (ah (bO λi j=>decide (i < j)) (aR jr (ai (aa 2) aj)) (aC (.int 0)))) (cq (aP (ah (bO λi j=>decide (i > j)) (aR gg (ai (aa 2) aj)) (aC (.int 1000)))) (aP (ah cM (aR gg (ai (aa 2) aj)) (aC (.int 0)))))))
  (aV (aC .none))
  bi)
noncomputable def gi:List Sl->Tr Re:=bI 1 2
 (au (bt 1 (aI (aF il (aw (aa 0) ay))))
 (au (bv (cq (aP (ah iA (aa 1) (aC .none))) (aP (ah (bO λi j=>decide (i > j)) (aR cU (ai (aa 1) aj)) (aC (.int 6)))))
  (aV (aC .none))
  bi)
 (au (fO (bV (aa 1)) (am 2) eC)
 (eM 1))))
theorem Zd8 (T:Txt K mg):ACal (bc cn) P w K mg base "_law_falls_of" 3 ["_law_text"] gi:=cb T.Zoz pK rfl λf cdv A outer sh H E hr=>by
 exact (aA (bE (aW (i:=1) pK.nd rfl (Or.inl rfl) (aN (aM (Zd9 T) (hr.mono (by decide)) rfl (az (ac (pv 0)) aD)))))
 (aA (bF (dU (dc (bh qo o7 (ac (pv 1)) eK (nomark _)) (eJ (bh ge ce (a9 (t:=aT) (ba fh rfl T.c9 boot_len (ao (ac (pv 1)) aq)) eR) ak (nomark _)))))
  (aH (bb eK))
  bu)
 (aA (gS PassesOwn.never rfl (cj (ac (pv 1))) (br (bo (i:=2) pK.nd rfl (Or.inl rfl)))
  (aH (bF (dU (dc (bh ge ce (a9 (t:=aT) (ba fh rfl T.c9 boot_len (ao (ac (pv 2)) aq)) eR) ak (nomark _)) (dc (bh jl ce (a9 (t:=aT) (ba (Zd2 rfl) rfl T.Zch boot_min (ao (ac (pv 2)) aq)) Zam) ak (nomark _)) (dc (bh ge ce (a9 (t:=aT) (ba (rW rfl) rfl T.qA boot_max (ao (ac (pv 2)) aq)) pb) ak (nomark _)) (eJ (bh (dH hr) dD (a9 (t:=aT) (ba (rW rfl) rfl T.qA boot_max (ao (ac (pv 2)) aq)) pb) ak (nomark _)))))))
  (aH (bb eK))
  bu)))
 (aH (lh (pv 1))))))
noncomputable def ZbM:List Sl->Tr PyData :=
 (aR d9 (ai (aa 0) aj))
noncomputable def ZbL:List Sl->Tr PyData :=
 (aR d9 (ai (aa 0) aj))
noncomputable def qT:List Sl->Tr Ou :=
 (gZ 4 (ah bL (aC (.str " ")) (aY (bX (bV (aa 5)) 1 [] (am 0) ZbL))))
noncomputable def ZgZ:List Sl->Tr PyData :=
 (aI (aF jt (bj 1 (aw (aa 2) ay))))
noncomputable def m7:List Sl->Tr Re:=bI 2 4
 (au (bt 2 (ah bL (aC (.str " ")) (aY (bX (bV (aa 1)) 1 [] (am 0) ZbM))))
 (au (bt 3 (ah aS (aC (.int 2)) (aI (aF bK (bj 0 (aw (aC (.int 7)) ay))))))
 (au (gW 4 (bW (ai (aa 2) (ai (ah aS (aa 2) (aC (.str " 0"))) (ai (ah aS (aa 2) (aC (.str " "))) (ai (ah aS (aC (.str " ")) (aa 2)) (ai (ah aS (aa 2) (aC (.str "\n"))) (ai (aC (.str "")) (sD "0" 2 " " "," aj)))))))))
 (au (fO (bV (gr (ai (ah aS (ah aS (cF (aa 1) cG (cz (aa 3))) (gr (ai (aC (.int 1000001)) aj))) (cF (aa 1) (cz (ah aS (aa 3) (aC (.int 1)))) cG)) (ai (ah aS (gr (ai (ah gz (aC (.int 40)) (ah cm (aa 1) (aC (.int 1)))) aj)) (cF (aa 1) (cz (aC (.int 1))) cG)) (ai (ah aS (gr (ai (ah gz (aC (.int 39)) (ah cm (aa 1) (aC (.int 1)))) aj)) (cF (aa 1) (cz (aC (.int 1))) cG)) aj))))) (am 5) qT)
 (iO 4 (aV (ah aS (aa 4) (aY (bX (gX (ai (aC (.int 10)) aj)) 1 [0,2] (am 0) ZgZ)))))))))
theorem Zo0 (T:Txt K mg):ACal (bc cn) P w K mg base "_law_shop_texts" 3 ["_law_pen_here","_law_shop_here"] m7:=cb T.Zoq kl rfl λf cdv A outer sh H E hr=>by
 exact (aA (bE (aW (i:=2) kl.nd rfl (Or.inr rfl) (fj aE (bg (cO (cJ fQ ["_law_one"] [] rfl (cj (ac (pv 1))) (λb=>(br (bo (i:=0) (show ((bN fQ ["_law_one"] [])).Nodup by decide +kernel) rfl (Or.inl rfl)))) (λb=>(a9 (t:=aT) (cu jK rfl T.gH boot_str (ao (ac (pv 0)) aq)) i6)) rfl (show BlkOk fQ (aB ie) _ [] from ⟨rfl,by decide +kernel,by decide +kernel,by decide +kernel,by decide +kernel⟩)) (bZ (by decide)))))))
 (aA (bE (aW (i:=3) kl.nd rfl (Or.inl rfl) (aX bp bn ak (aN (aM (bT T) (hr.mono (by decide)) rfl (bx (pv 0) (az ak aD)))))))
 (aA (lg (aW (i:=4) kl.nd rfl (Or.inl rfl) (cg (ao (ac (pv 2)) (ao (aX bp bn (ac (pv 2)) aE) (ao (aX bp bn (ac (pv 2)) aE) (ao (aX bp bn aE (ac (pv 2))) (ao (aX bp bn (ac (pv 2)) aE) (ao aE (ZpF (Zhm (i:=2)) aq))))))))))
 (aA (gS PassesOwn.never rfl (cj (iL (ao (aX bp bn (aX bp bn (c4 (ac (pv 1)) cZ (cY (ac (pv 3)))) (iL (ao ak aq))) (c4 (ac (pv 1)) (cY (aX bp bn (ac (pv 3)) ak)) cZ)) (ao (aX bp bn (iL (ao (aX kM j8 ak (cQ cK d6 (ac (pv 1)) ak (λ_ _=>rfl))) aq)) (c4 (ac (pv 1)) (cY ak) cZ)) (ao (aX bp bn (iL (ao (aX kM j8 ak (cQ cK d6 (ac (pv 1)) ak (λ_ _=>rfl))) aq)) (c4 (ac (pv 1)) (cY ak) cZ)) aq))))) (br (bo (i:=5) kl.nd rfl (Or.inl rfl)))
  (aH (lj (gD (ik PySem.F.plainAttrs_list PySem.F.slot_list_append PySem.F.type_list_append kQ (pv 4) (aQ (fj aE (bg (cO (cJ fQ ["_law_number"] [] rfl (cj (ac (pv 5))) (λb=>(br (bo (i:=0) (show ((bN fQ ["_law_number"] [])).Nodup by decide +kernel) rfl (Or.inl rfl)))) (λb=>(a9 (t:=aT) (cu jK rfl T.gH boot_str (ao (ac (pv 0)) aq)) i6)) rfl (show BlkOk fQ (aB ie) _ [] from ⟨rfl,by decide +kernel,by decide +kernel,by decide +kernel,by decide +kernel⟩)) (bZ (by decide))))) bC))))))
 (aH (li (k:=4) (bb (aX bp bn (ac (pv 4)) (bg (cO (cJ fQ ["_law_k"] [0,2] rfl (jO (jj rfl T.jp (ao ak aq))) (λb=>(br (bo (i:=0) (show ((bN fQ ["_law_k"] [0,2])).Nodup by decide +kernel) rfl (Or.inl rfl)))) (λb=>(aN (aM (Zea T) (hr.mono (by decide)) rfl (bx (pv 1) (az (ac (pv 2)) aD))))) rfl (show BlkOk fQ (aB ie) _ [0,2] from ⟨rfl,by decide +kernel,by decide +kernel,by decide +kernel,by decide +kernel⟩)) (bZ (by decide))))))))))))
noncomputable def ZbN:List Sl->Tr PyData :=
 (aR d9 (ai (aa 0) aj))
noncomputable def my:List Sl->Tr PyData :=
 (ah bL (aC (.str ",")) (aY (bX (bV (aa 0)) 1 [] (am 0) ZbN)))
noncomputable def Zg0:List Sl->Tr PyData :=
 (aI (aF jt (bj 1 (aw (aa 2) ay))))
noncomputable def nc:List Sl->Tr Re:=bI 2 2
 (au (bt 2 (ah bL (aC (.str " ")) (aY (bX (bV (aa 1)) 1 [] (am 0) my))))
 (au (bt 3 (aY (bW (ai (aa 2) (ai (ah aS (aa 2) (aC (.str " 1"))) (ai (ah aS (aa 2) (aC (.str ",1"))) (ai (ah aS (aa 2) (aC (.str " "))) (ai (ah aS (aC (.str " ")) (aa 2)) (ai (ah aS (aa 2) (aC (.str "\n"))) (ai (aC (.str "")) (ai (aC (.str "0")) (ai (aC (.str "0,0 1")) (ai (aC (.str "1,1001")) (ai (aC (.str "1000")) aj))))))))))))))
 (au (bt 3 (ah aS (aa 3) (aY (bW (ai (ah bL (aC (.str " ")) (ah fE (aY (bW (ai (aC (.str "1")) aj))) (ah aS (aC (.int 6)) (aI (aF bK (bj 0 (aw (aC (.int 2)) ay))))))) (ai (ah bL (aC (.str ",")) (ah fE (aY (bW (ai (aC (.str "1")) aj))) (ah aS (aC (.int 8)) (aI (aF bK (bj 0 (aw (aC (.int 2)) ay))))))) aj))))))
 (aV (ah aS (aa 3) (aY (bX (gX (ai (aC (.int 10)) aj)) 1 [0,2] (am 0) Zg0)))))))
theorem Zo5 (T:Txt K mg):ACal (bc cn) P w K mg base "_law_falls_texts" 3 ["_law_pen_here","_law_falls_here"] nc:=cb T.Zoy lL rfl λf cdv A outer sh H E hr=>by
 exact (aA (bE (aW (i:=2) lL.nd rfl (Or.inr rfl) (fj aE (bg (cO (cJ gw ["_law_one"] [] rfl (cj (ac (pv 1))) (λb=>(br (bo (i:=0) (show ((bN gw ["_law_one"] [])).Nodup by decide +kernel) rfl (Or.inl rfl)))) (λb=>(fj aE (bg (cO (cJ (bN gw ["_law_one"] []) ["_law_weight"] [] rfl (cj (ac (pv 0))) (λb=>(br (bo (i:=0) (show ((bN (bN gw ["_law_one"] []) ["_law_weight"] [])).Nodup by decide +kernel) rfl (Or.inl rfl)))) (λb=>(a9 (t:=aT) (cu jK rfl T.gH boot_str (ao (ac (pv 0)) aq)) i6)) rfl (BlkOk.leaf rfl (by decide +kernel) (by decide +kernel))) (bZ (by decide)))))) rfl (show BlkOk gw (aB ji) _ [] from ⟨rfl,by decide +kernel,by decide +kernel,by decide +kernel,by decide +kernel⟩)) (bZ (by decide)))))))
 (aA (bE (aW (i:=3) lL.nd rfl (Or.inl rfl) (by refine bg ?_; refine cg ?_; refine aU ?_ ?_; exact (ac (pv 2)); refine aU ?_ ?_; exact (aX bp bn (ac (pv 2)) aE); refine aU ?_ ?_; exact (aX bp bn (ac (pv 2)) aE); refine aU ?_ ?_; exact (aX bp bn (ac (pv 2)) aE); refine aU ?_ ?_; exact (aX bp bn aE (ac (pv 2))); refine aU ?_ ?_; exact (aX bp bn (ac (pv 2)) aE); refine aU ?_ ?_; exact aE; refine aU ?_ ?_; exact aE; refine aU ?_ ?_; exact aE; refine aU ?_ ?_; exact aE; refine aU ?_ ?_; exact aE; exact aq)))
 (aA (bE (aW (i:=3) lL.nd rfl (Or.inl rfl) (aX bp bn (ac (pv 3)) (by refine bg ?_; refine cg ?_; refine aU ?_ ?_; exact (fj aE (aX qm o6 (bg (cg (ao aE aq))) (aX bp bn ak (aN (aM (bT T) (hr.mono (by decide)) rfl (bx (pv 0) (az ak aD))))))); refine aU ?_ ?_; exact (fj aE (aX qm o6 (bg (cg (ao aE aq))) (aX bp bn ak (aN (aM (bT T) (hr.mono (by decide)) rfl (bx (pv 0) (az ak aD))))))); exact aq))))
 (aH (bb (aX bp bn (ac (pv 3)) (bg (cO (cJ gw ["_law_k"] [0,2] rfl (jO (jj rfl T.jp (ao ak aq))) (λb=>(br (bo (i:=0) (show ((bN gw ["_law_k"] [0,2])).Nodup by decide +kernel) rfl (Or.inl rfl)))) (λb=>(aN (aM (Zea T) (hr.mono (by decide)) rfl (bx (pv 1) (az (ac (pv 2)) aD))))) rfl (show BlkOk gw (aB ji) _ [0,2] from ⟨rfl,by decide +kernel,by decide +kernel,by decide +kernel,by decide +kernel⟩)) (bZ (by decide))))))))))
noncomputable def pY:List Sl->Tr PyData :=
 (aI (aF io (aw (aa 0) ay)))
noncomputable def im:List Sl->Tr Re:=bI 1 0
 (au (bv (cq (cH (de (gt "tuple" (aa 0)))) (cH (aP (gY (bO λi j=>decide (i<=j)) (bO λi j=>decide (i<=j)) (aC (.int 1)) (aR gk (ai (aa 0) aj)) (aC (.int 6))))))
  (aV (aC (.bool false)))
  bi)
 (aV (aR iK (ai (aY (bX (jS (aa 0)) 1 [] (am 0) pY)) aj))))
theorem Zed (T:Txt K mg):ACal (bc cn) P w K mg base "is_falls" 4 ["thing"] im:=cb T.Zon Zgj rfl λf cdv A outer sh H E hr=>by
 exact (aA (bF (dU (dc (cW (dC (iM (T:="tuple") (Or.inr (Or.inr (Or.inr (Or.inr (Or.inl rfl))))) rfl (ba iJ rfl T.fB boot_isinstance (aQ (ac (pv 0)) (aQ (gE (v:=.ty "tuple") rfl T.dJ boot_tuple rfl) bC)))))) (eJ (cW (r8 gc ce gc ce ak (a9 (t:=aT) (ba iI rfl T.c9 boot_len (ao (ac (pv 0)) aq)) ka) (eL rfl T.ZjJ))))))
 (aH (bb dN))
 bu)
 (aH (bb (a9 (t:=aT) (ba (nS rfl) rfl T.mO boot_all (ao (bg (cO (cJ oJ ["day"] [] rfl (n6 (ac (pv 0))) (λb=>(br (bo (i:=0) (show ((bN oJ ["day"] [])).Nodup by decide +kernel) rfl (Or.inl rfl)))) (λb=>(aN (aM (Zo9 T) (hr.mono (by decide)) rfl (az (ac (pv 0)) aD)))) rfl (show BlkOk oJ (aB kA) _ [] from ⟨rfl,by decide +kernel,by decide +kernel,by decide +kernel,by decide +kernel⟩)) (bZ (by decide)))) aq)) lC))))
noncomputable def mi:List Sl->Tr (Option PyData) :=
 (g8 iU (aw (aa 0) ay))
noncomputable def dZ:List Sl->Tr (Option Re):=fm 1 1
 (eO (lz (g8 iV (aw (aa 0) ay)))
 (eO (ly 1 (j6 c6 (j7 (iY (bV (ah dG (aa 0) (aC (.str " ")))) 1 [] (am 0) mi))))
 (eO (iZ (cH (de (aI (aF jv (aw (aa 1) ay))))) iX (fT bi))
 (fT (eM 1)))))
theorem ZoE (T:Txt K mg) {C:Addr} (hC:mg "NoText"=some (.ref C)) (xc:Xcl K C fi "ValueError.__new__"):XCal (bc cn) P w K mg base "read_shop" 4 ["text"] C dZ:=j4 T.ZdJ ZaV rfl λf cdv A outer sh H E hr=>by
 exact (g7 (Zae (jZ (ZdO (cn:=cn) T hC xc) (hr.mono (by decide)) rfl qi (az (ac (pv 0)) aD)))
 (g7 (Zad (aW (i:=1) ZaV.nd rfl (Or.inl rfl) (oX eQ (cu fg rfl T.dJ boot_tuple (aQ (oY (oU (qg oF ["word"] [] rfl (ZcO) rfl rfl rfl (cj (dW PySem.F.slot_str_split PySem.F.type_str_split gI gy gA (ac (pv 0)) aE)) (λb=>(br (bo (i:=0) (show ((bN oF ["word"] [])).Nodup by decide +kernel) rfl (Or.inl rfl)))) (λb=>(jZ (ZdN (cn:=cn) T hC xc) (hr.mono (by decide)) rfl ZbZ (az (ac (pv 0)) aD))) rfl (show BlkOk oF (aB kt) _ [] from ⟨rfl,by decide +kernel,by decide +kernel,by decide +kernel,by decide +kernel⟩)) (bZ (by decide)))) bC)))))
 (g7 (lw (cW (dC (aN (aM (Zo8 T) (hr.mono (by decide)) rfl (az (ac (pv 1)) aD))))) (iS (lv (mD F.excBase_ValueError xc rfl hC))) (g6 bu))
 (g6 (aH (lh (pv 1)))))))
noncomputable def mZ:List Sl->Tr Re:=bI 1 1
 (au (bt 1 (aI (aF mX (aw (aa 0) ay))))
 (au (bv (cH (de (aI (aF im (aw (aa 1) ay)))))
  oq
  bi)
 (eM 1)))
theorem ZoZ (T:Txt K mg):ACal (bc cn) P w K mg base "read_falls" 5 ["text"] mZ:=cb T.rQ lK rfl λf cdv A outer sh H E hr=>by
 exact (aA (bE (aW (i:=1) lK.nd rfl (Or.inl rfl) (aN (aM (ZoX T) (hr.mono (by decide)) rfl (az (ac (pv 0)) aD)))))
 (aA (bF (cW (dC (aN (aM (Zed T) (hr.mono (by decide)) rfl (az (ac (pv 1)) aD)))))
  (aH sj)
  bu)
 (aH (lh (pv 1)))))
noncomputable def fv:List Sl->Tr (Option Re):=fm 1 1
 (eO (ly 1 (g8 iT (aw (aa 0) ay)))
 (eO (iZ (cH (de (aI (aF im (aw (aa 1) ay))))) iX (fT bi))
 (fT (eM 1))))
theorem ZoG (T:Txt K mg) {C:Addr} (hC:mg "NoText"=some (.ref C)) (xc:Xcl K C fi "ValueError.__new__"):XCal (bc cn) P w K mg base "read_falls" 5 ["text"] C fv:=j4 T.rQ lK rfl λf cdv A outer sh H E hr=>by
 exact (g7 (Zad (aW (i:=1) lK.nd rfl (Or.inl rfl) (jZ (ZoF (cn:=cn) T hC xc) (hr.mono (by decide)) rfl qi (az (ac (pv 0)) aD))))
 (g7 (lw (cW (dC (aN (aM (Zed T) (hr.mono (by decide)) rfl (az (ac (pv 1)) aD))))) (iS (lv (mD F.excBase_ValueError xc rfl hC))) (g6 bu))
 (g6 (aH (lh (pv 1))))))
noncomputable def iC (t:Tr (Option Re)):Tr Re:=t.bind λo=>match o with
 | none=>.ret (.d (.str "no text"))
 | some r=>.ret (.d (.list [r.val]))
noncomputable def eA (f_read_shop f_read_falls:Addr):List Sl->Tr Re:=λas=>match as with
 | [.fn a,.d x]=>iC (if a=f_read_shop then dZ [.d x] else if a=f_read_falls then fv [.d x] else .fail)
 | _=>.fail
theorem nU (T:Txt K mg) {f_read_shop f_read_falls:Addr} (h_read_shop:mg "read_shop"=some (.ref f_read_shop)) (h_read_falls:mg "read_falls"=some (.ref f_read_falls)):ACal (bc cn) P w K mg base "_law_heard" 7 ["_law_read","_law_text"] (eA f_read_shop f_read_falls):=by
 have len:∀ as m Z,(eA f_read_shop f_read_falls as).ok m Z->as.length=2:=λas m Z h=>by
  unfold eA at h
  split at h
  ·rfl
  ·exact h.elim
 refine ⟨T.Zox.ok km (λvs H Q E h=>h.1) λf cdv A outer sh H vs Q E hr hsp=>?_,len⟩
 obtain ⟨hv,pa,m,G,as,wd,ar,z⟩:=hsp
 obtain ⟨C,D,a0,a1,a2,a3,a4,a5,a6,hC,hD,h0,h1,h2,h3,h4,h5,h6,xc⟩:=T.ZeY
 refine ⟨_,cx (aW (i:=2) km.nd rfl (Or.inl rfl) qf)
  (cx (aW (i:=3) km.nd rfl (Or.inl rfl) qf)
  (cx (Zg9 (i:=4) (j:=0) (l:=3) (k:=7 - 1) rfl rfl km.nd (hr.mono (by decide)) rfl (Or.inl rfl) rfl (Or.inl rfl) (Or.inl rfl) (az (PK:=(bc cn)) (ac (pv 1)) aD) xc.un rfl hD rfl rfl (Or.inl rfl) (Or.inl rfl) (λea=>ek (aW (i:=2) km.nd rfl (Or.inl rfl) (pv 4))))
  (cx (gC (Zg5 (ZhD (pv 2)) (nomark _)) (ek (eV (mF (aQ (pv 3) bC)))) ij)
  (cx (gC (PW.pt (p6 (p9 (p7 (ba (ZoR xc.ci F.attrBase_ValueError (by decide +kernel) qK) rfl T.fB rfl (aQ (pv 2) (aQ (eW (v:=.ref C) rfl hC rfl) bC))))) (p5 (p9 (p7 (ba (ZoQ xc.ci F.attrBase_ValueError (by decide +kernel) qK) rfl T.fB rfl (aQ (pv 2) (aQ (gE (v:=.ty "ValueError") rfl T.Ziv Zpb rfl) bC)))))))) (ek (eV di)) ij)
  (cx (gC (p7 (ba (ZoP xc.ci F.attrBase_ValueError (by decide +kernel) qK) rfl T.fB rfl (aQ (pv 2) (aQ (ZbU (aQ (eW (v:=.ref a0) rfl h0 rfl) (aQ (eW (v:=.ref a1) rfl h1 rfl) (aQ (eW (v:=.ref a2) rfl h2 rfl) (aQ (eW (v:=.ref a3) rfl h3 rfl) (aQ (eW (v:=.ref a4) rfl h4 rfl) (aQ (eW (v:=.ref a5) rfl h5 rfl) (aQ (eW (v:=.ref a6) rfl h6 rfl) bC)))))))) bC)))) (ek (eV di)) ij)
  (ek (eV di))))))),?_⟩
 unfold eA at z
 split at z
 rotate_left
 ·exact z.elim
 rename_i a x
 cases ar with
 | @cons v0 vs0 _ _ r0 ar =>
 cases ar with
 | @cons v vs1 _ _ r1 ar =>
 cases ar
 cases r0
 cases r1 with
 | d dx =>
 have ar1:ArsOk pa G [v] [.d x]:=.cons (.d dx) .nil
 have R0:Rl (bc cn) pa G H m (L2.start ZeG [.ref a,v]) ([.fn a,.d x]++List.replicate 3 .un) G H:=Rl.start wd (.cons .fn ar1) rfl
 have go:∀ (fx:List Sl->Tr (Option Re)) (ps:List Str),ps.length=1->(iC (fx [.d x])).ok m (λm' r=>Kr (bc cn) pa m' G H r Q)->∀ (vs1:List V) (G1 H1:Hp),Stp pa G H G1 H1->Wd (bc cn) pa m G1 H1->ArsOk pa G1 vs1 [.d x]->∀ (Qn:VK) (En:XK),
   (∀ m2 r,Kr (bc cn) pa m2 G H (.d (.list [r])) Q->∀ v2 G2 H2,Stp pa G1 H1 G2 H2->Wd (bc cn) pa m2 G2 H2->Dn G2 v2 r->Qn v2 H2) ->
   (∀ m2,Kr (bc cn) pa m2 G H (.d (.str "no text")) Q->∀ G2 H2,Stp pa G1 H1 G2 H2->Wd (bc cn) pa m2 G2 H2->En (.ref C) none H2)->om (bc cn) ps.length C fx vs1 H1 Qn En:=by
  intro fx ps hps z1 vs1 G1 H1 s1 w1 ar2 Qn En hn he
  refine ⟨by rw [ar2.length,hps]; rfl,pa,m,G1,[.d x],w1,ar2,Tr.ok_mono (Tr.ok_bind.mp z1) λm2 o ko=>?_⟩
  cases o with
  | none=>exact λG2 H2 s2 w2=>he m2 ko G2 H2 s2 w2
  | some r=>exact Kr.of (λv2 G2 H2 s2 w2 d2=>hn m2 r.val ko v2 G2 H2 s2 w2 d2) w1.some
 obtain ⟨fx,fd,ps,hps,FK,hk,hb,z1⟩:∃ (fx:List Sl->Tr (Option Re)) (fd:FuncData) (ps:List Str),ps.length=1/\FnOk P w K mg base (bQ P w) (7 - 1) a fd ps (om (bc cn) ps.length C fx)/\PySem.W.keepIn K (.ref a)=true/\Binds K fd ps []/\(iC (fx [.d x])).ok m (λm' r=>Kr (bc cn) pa m' G H r Q):=by
  by_cases e0:a=f_read_shop
  ·rw [if_pos e0] at z
   obtain ⟨f1,fd,FK,hm,hk,hb⟩:=(ZoE (P:=P) (w:=w) (base:=base) (cn:=cn) T hC xc.cl).cal.ex
   obtain rfl:f1=a:=by
    rw [e0]
    rw [h_read_shop] at hm
    cases hm
    rfl
   exact ⟨_,fd,_,rfl,FK.mono (by decide),hk,hb,z⟩
  ·rw [if_neg e0] at z
   by_cases e1:a=f_read_falls
   ·rw [if_pos e1] at z
    obtain ⟨f1,fd,FK,hm,hk,hb⟩:=(ZoG (P:=P) (w:=w) (base:=base) (cn:=cn) T hC xc.cl).cal.ex
    obtain rfl:f1=a:=by
     rw [e1]
     rw [h_read_falls] at hm
     cases hm
     rfl
    exact ⟨_,fd,_,rfl,FK.mono (by decide),hk,hb,z⟩
   ·rw [if_neg e1] at z
    exact (show False from z).elim
 refine ⟨a,fd,ps,_,rfl,FK,hk,hb,pa,G,H,m,_,G,(R0.set .non 2).set .non 3,λvs1 G1 H1 s1 w1 ar2=>?_⟩
 refine go fx ps hps z1 vs1 G1 H1 s1 w1 ar2 _ _ (λm2 r ko v2 G2 H2 s2 w2 d2=>?_) (λm2 ko G2 H2 s2 w2=>⟨rfl,λea hea=>?_⟩)
 ·refine ⟨.non,rfl,true,congrArg V.bl (decide_eq_true rfl),v2,rfl,?_⟩
  refine ⟨by show 1<=sizeLine; decide,λq hq=>?_⟩
  exact Kn.lst (Kn.later ko (s1.trans s2 w1.some) w2.some) w2 (.cons d2 .nil) hq
 ·refine ⟨.ref ea,rfl,.ref ea,rfl,false,congrArg V.bl (decide_eq_false nofun),?_⟩
  refine ⟨.ref ea,rfl,ea,C,true,rfl,bP,Zi2,true,rfl,?_⟩
  refine ⟨.ref ea,rfl,ea,"ValueError",true,rfl,bP,xc.vt,true,rfl,?_⟩
  refine ⟨.ref ea,rfl,by show 7<=sizeLine; decide,λp hp=>?_⟩
  have hne:ea≠p:=λe=>by rw [e,bP] at hp; cases hp
  obtain ⟨w3,s3⟩:=w2.own (o:=.ext (dr ea (.ref C))) hea
  obtain ⟨w4,s4⟩:=w3.own (o:=.tup [.ref a0,.ref a1,.ref a2,.ref a3,.ref a4,.ref a5,.ref a6]) hp
  have hat:upd (upd H2 ea (.ext (dr ea (.ref C)))) p (.tup [.ref a0,.ref a1,.ref a2,.ref a3,.ref a4,.ref a5,.ref a6]) ea=some (.ext (dr ea (.ref C))):=by rw [aJ hne,bP]
  refine ⟨ea,p,[a0,a1,a2,a3,a4,a5,a6],false,rfl,hat,bP,xc.any,false,rfl,?_⟩
  exact ko (.str "no text") G2 _ ((s1.trans s2 w1.some).trans (s3.trans s4 w3.some) w2.some) w4 (.str _)
noncomputable def gh (f_read_shop f_read_falls:Addr):List Sl->Tr Re:=bI 3 0
 (au (bv (aP (ah iA (aa 2) (aC .none)))
  (aV (ah cM (aI (aF (eA f_read_shop f_read_falls) (ll 0 (aw (aa 1) ay)))) (aC (.str "no text"))))
  bi)
 (aV (ah cM (aR fA (ai (aI (aF (eA f_read_shop f_read_falls) (ll 0 (aw (aa 1) ay)))) aj)) (aR fA (ai (aY (bW (ai (aa 2) aj))) aj)))))
theorem Zd7 (T:Txt K mg) {f_read_shop f_read_falls:Addr} (h_read_shop:mg "read_shop"=some (.ref f_read_shop)) (h_read_falls:mg "read_falls"=some (.ref f_read_falls)):ACal (bc cn) P w K mg base "_law_right" 8 ["_law_read","_law_text","_law_due"] (gh f_read_shop f_read_falls):=cb T.Zot Zgl rfl λf cdv A outer sh H E hr=>by
 exact (aA (bF (bh qo o7 (ac (pv 2)) eK (nomark _))
 (aH (bb (iN (dH hr) dD (aN (aM (nU T h_read_shop h_read_falls) (hr.mono (by decide)) rfl (Zez (pv 0) (az (ac (pv 1)) aD)))) aE (nomark _))))
 bu)
 (aH (bb (iN (dH hr) dD (a9 (t:=aT) (ba (jL hr) rfl T.jn boot_repr (ao (aN (aM (nU T h_read_shop h_read_falls) (hr.mono (by decide)) rfl (Zez (pv 0) (az (ac (pv 1)) aD)))) aq)) i7) (a9 (t:=aT) (ba (jL hr) rfl T.jn boot_repr (ao (bg (cg (ao (ac (pv 2)) aq))) aq)) i7) (nomark _)))))
noncomputable def qY (f_read_shop f_read_falls:Addr):List Sl->Tr Ou :=
 (bv (cH (de (aI (aF (gh f_read_shop f_read_falls) (jQ f_read_shop (aw (aa 6) (aw (aI (aF m8 (aw (aa 6) ay))) ay)))))))
  (aV (aC (.bool false)))
  bi)
noncomputable def qX (f_read_shop f_read_falls:Addr):List Sl->Tr Ou :=
 (bv (cH (de (aI (aF (gh f_read_shop f_read_falls) (jQ f_read_falls (aw (aa 6) (aw (aI (aF gi (aw (aa 6) ay))) ay)))))))
  (aV (aC (.bool false)))
  bi)
noncomputable def pW (f_read_shop f_read_falls:Addr):List Sl->Tr PyData :=
 (aR d9 (ai (aa 0) aj))
noncomputable def qW (f_read_shop f_read_falls:Addr):List Sl->Tr Ou :=
 (bv (cq (aP (ah c8 (aI (aF (eA f_read_shop f_read_falls) (jQ f_read_shop (aw (aa 7) ay)))) (aC (.str "no text")))) (aP (ah c8 (aI (aF (eA f_read_shop f_read_falls) (jQ f_read_falls (aw (aa 7) ay)))) (aC (.str "no text")))))
  (aV (aC (.bool false)))
  bi)
noncomputable def qV (f_read_shop f_read_falls:Addr):List Sl->Tr Ou :=
 (au (bt 3 (aI (aF m9 (bj 1 ay))))
 (au (bt 4 (aI (aF ng (bj 1 ay))))
 (au (bt 5 (aR fA (ai (aY (bW (ai (aa 3) (ai (aa 4) aj)))) aj)))
 (au (fO (bV (aI (aF m7 (bj 1 (aw (aa 3) ay))))) (am 6) (qY f_read_shop f_read_falls))
 (au (fO (bV (aI (aF nc (bj 1 (aw (aa 4) ay))))) (am 6) (qX f_read_shop f_read_falls))
 (au (bv (aP (ah c8 (aR fA (ai (aI (aF kU (aw (aa 3) ay))) aj)) (aR fA (ai (ah bL (aC (.str " ")) (aY (bX (bV (aa 3)) 1 [] (am 0) (pW f_read_shop f_read_falls)))) aj))))
  (aV (aC (.bool false)))
  bi)
 (au (bv (cq (aP (ah c8 (aI (aF mZ (aw (aI (aF kW (aw (aa 4) ay))) ay))) (aa 4))) (aP (ah c8 (aI (aF gi (aw (aI (aF kW (aw (aa 4) ay))) ay))) (aa 4))))
  (aV (aC (.bool false)))
  bi)
 (au (fO (bV (aY (bW (ai (aC .none) (ai (aC (.int 0)) (ai (aC (.bool true)) (ai (aa 3) (ai (aa 4) (ai (aY (ot jw (ai (aa 3) aj))) (ai (aY (bW (ai (aI (aF kU (aw (aa 3) ay))) aj))) (ai (aC (.dict [])) aj))))))))))) (am 7) (qW f_read_shop f_read_falls))
 (bv (aP (ah c8 (aR fA (ai (aY (bW (ai (aa 3) (ai (aa 4) aj)))) aj)) (aa 5)))
  (aV (aC (.bool false)))
  bi)))))))))
noncomputable def nh (f_read_shop f_read_falls:Addr):List Sl->Tr Ou :=
 (au (fO (gX (ai (aC (.int 3)) aj)) (am 2) (qV f_read_shop f_read_falls))
 (aV (aC (.bool true))))
noncomputable abbrev qS:List Sl:=.un::.pen::List.replicate 6 .un
theorem Zh5 (T:Txt K mg) {f_read_shop f_read_falls:Addr} (h_read_shop:mg "read_shop"=some (.ref f_read_shop)) (h_read_falls:mg "read_falls"=some (.ref f_read_falls)) {f:Addr} {fd:FuncData} (F:Fun K "law" "law" je f fd) (hl:(nh f_read_shop f_read_falls qS).ok 0 λ_ o=>o=.ret (.d (.bool true))):FnOk P w K mg base g0 9 f fd ["_law_script"] (ZaG K):=by
 refine F.ok fX (λvs H Q E h=>?_) (λcdv A outer s H vs Q E hr h=>?_)
 ·obtain ⟨a,ns,rfl,_⟩:=h
  rfl
 ·obtain ⟨a,ns,rfl,hS,hlen,k⟩:=h
  have hu:=rD hr
  refine ⟨_,(cx (aW (i:=1) fX.nd rfl (Or.inl rfl) (ZbX (Zh4 T) (hr.mono (by decide)) rfl (aQ (pv 0) bC)))
 (Zg7 (t:=λcn=>bz (bc cn) (nh f_read_shop f_read_falls)) λcn=>(by refine @L2.aA _ _ _ _ _ _ ?_ ?_; (refine @L2.gS _ _ _ _ _ _ _ _ _ PassesOwn.never rfl ?_ ?_ ?_ (by intro _; rfl); (refine @L2.jO _ _ _ _ _ ?_; (refine @L2.jj _ _ _ _ _ _ rfl T.jp ?_ (by rfl); (exact @L2.ao _ _ _ _ _ _ ak aq (by rfl)))); (refine @L2.br _ _ _ _ ?_; (exact @L2.bo _ _ (2) _ fX.nd rfl (Or.inl rfl) (by first   | exact .inl rfl   | exact .inr rfl   | assumption))); (refine @L2.aA _ _ _ _ _ _ ?_ ?_; (refine @L2.bE _ _ _ _ _ ?_; (refine @L2.aW _ _ (3) _ _ _ _ fX.nd rfl (Or.inl rfl) ?_ (by rfl) (by first   | exact .inl rfl   | exact .inr rfl   | assumption); (refine @L2.aN _ _ _ _ ?_; (refine @L2.aM _ _ _ _ _ _ _ _ _ _ _ (Zo2 T) (hr.mono (by decide)) rfl ?_ (by decide) (by rfl) (by rfl); (exact @L2.bx _ _ _ _ _ _ (pv 1) aD (by rfl)))))); (refine @L2.aA _ _ _ _ _ _ ?_ ?_; (refine @L2.bE _ _ _ _ _ ?_; (refine @L2.aW _ _ (4) _ _ _ _ fX.nd rfl (Or.inl rfl) ?_ (by rfl) (by first   | exact .inl rfl   | exact .inr rfl   | assumption); (refine @L2.aN _ _ _ _ ?_; (refine @L2.aM _ _ _ _ _ _ _ _ _ _ _ (Zo6 T) (hr.mono (by decide)) rfl ?_ (by decide) (by rfl) (by rfl); (exact @L2.bx _ _ _ _ _ _ (pv 1) aD (by rfl)))))); (refine @L2.aA _ _ _ _ _ _ ?_ ?_; (refine @L2.bE _ _ _ _ _ ?_; (refine @L2.aW _ _ (5) _ _ _ _ fX.nd rfl (Or.inl rfl) ?_ (by rfl) (by first   | exact .inl rfl   | exact .inr rfl   | assumption); (refine @L2.a9 _ _ _ _ (aT) _ _ (by refine @L2.ba _ _ _ _ _ _ _ _ _ ?_ rfl T.jn boot_repr ?_ (by decide) (by decide) (by rfl) (by rfl); (exact (jL hr)); (refine @L2.aU _ _ _ _ _ _ ?_ aq (by rfl); (refine @L2.bg _ _ _ _ ?_; (refine @L2.cg _ _ _ _ _ ?_; (refine @L2.ao _ _ _ _ _ _ ?_ ?_ (by rfl); (exact (ac (pv 3))); (refine @L2.ao _ _ _ _ _ _ ?_ aq (by rfl); (exact (ac (pv 4))))))))) i7))); (refine @L2.aA _ _ _ _ _ _ ?_ ?_; (refine @L2.gS _ _ _ _ _ _ _ _ _ PassesOwn.never rfl ?_ ?_ ?_ (by intro _; rfl); (refine @L2.cj _ _ _ _ _ ?_; (refine @L2.aN _ _ _ _ ?_; (refine @L2.aM _ _ _ _ _ _ _ _ _ _ _ (Zo0 T) (hr.mono (by decide)) rfl ?_ (by decide) (by rfl) (by rfl); (refine @L2.bx _ _ _ _ _ _ (pv 1) ?_ (by rfl); (refine @L2.az _ _ _ _ _ _ ?_ aD (by rfl); (exact (ac (pv 3)))))))); (refine @L2.br _ _ _ _ ?_; (exact @L2.bo _ _ (6) _ fX.nd rfl (Or.inl rfl) (by first   | exact .inl rfl   | exact .inr rfl   | assumption))); (refine @L2.aH _ _ _ _ ?_; (refine @L2.bF _ _ _ _ _ _ _ _ _ ?_ ?_ bu; (refine @L2.cW _ _ _ _ _ ?_; (refine @L2.dC _ _ _ _ ?_ (by intro _; rfl); (refine @L2.aN _ _ _ _ ?_; (refine @L2.aM _ _ _ _ _ _ _ _ _ _ _ (Zd7 T h_read_shop h_read_falls) (hr.mono (by decide)) rfl ?_ (by decide) (by rfl) (by rfl); (refine @L2.oi _ _ _ _ _ _ _ rfl h_read_shop ?_ (by decide) (by rfl); (refine @L2.az _ _ _ _ _ _ ?_ ?_ (by rfl); (exact (ac (pv 6))); (refine @L2.az _ _ _ _ _ _ ?_ aD (by rfl); (refine @L2.aN _ _ _ _ ?_; (refine @L2.aM _ _ _ _ _ _ _ _ _ _ _ (Zo1 T) (hr.mono (by decide)) rfl ?_ (by decide) (by rfl) (by rfl); (refine @L2.az _ _ _ _ _ _ ?_ aD (by rfl); (exact (ac (pv 6))))))))))))); (refine @L2.aH _ _ _ _ ?_; (exact (bb dN)))))); (refine @L2.aA _ _ _ _ _ _ ?_ ?_; (refine @L2.gS _ _ _ _ _ _ _ _ _ PassesOwn.never rfl ?_ ?_ ?_ (by intro _; rfl); (refine @L2.cj _ _ _ _ _ ?_; (refine @L2.aN _ _ _ _ ?_; (refine @L2.aM _ _ _ _ _ _ _ _ _ _ _ (Zo5 T) (hr.mono (by decide)) rfl ?_ (by decide) (by rfl) (by rfl); (refine @L2.bx _ _ _ _ _ _ (pv 1) ?_ (by rfl); (refine @L2.az _ _ _ _ _ _ ?_ aD (by rfl); (exact (ac (pv 4)))))))); (refine @L2.br _ _ _ _ ?_; (exact @L2.bo _ _ (6) _ fX.nd rfl (Or.inl rfl) (by first   | exact .inl rfl   | exact .inr rfl   | assumption))); (refine @L2.aH _ _ _ _ ?_; (refine @L2.bF _ _ _ _ _ _ _ _ _ ?_ ?_ bu; (refine @L2.cW _ _ _ _ _ ?_; (refine @L2.dC _ _ _ _ ?_ (by intro _; rfl); (refine @L2.aN _ _ _ _ ?_; (refine @L2.aM _ _ _ _ _ _ _ _ _ _ _ (Zd7 T h_read_shop h_read_falls) (hr.mono (by decide)) rfl ?_ (by decide) (by rfl) (by rfl); (refine @L2.oi _ _ _ _ _ _ _ rfl h_read_falls ?_ (by decide) (by rfl); (refine @L2.az _ _ _ _ _ _ ?_ ?_ (by rfl); (exact (ac (pv 6))); (refine @L2.az _ _ _ _ _ _ ?_ aD (by rfl); (refine @L2.aN _ _ _ _ ?_; (refine @L2.aM _ _ _ _ _ _ _ _ _ _ _ (Zd8 T) (hr.mono (by decide)) rfl ?_ (by decide) (by rfl) (by rfl); (refine @L2.az _ _ _ _ _ _ ?_ aD (by rfl); (exact (ac (pv 6))))))))))))); (refine @L2.aH _ _ _ _ ?_; (exact (bb dN)))))); (refine @L2.aA _ _ _ _ _ _ ?_ ?_; (refine @L2.bF _ _ _ _ _ _ _ _ _ ?_ ?_ bu; (refine @L2.bh _ _ _ _ _ _ _ _ _ _ ?_ fU ?_ ?_ (nomark _); (exact (gb hr)); (refine @L2.a9 _ _ _ _ (aT) _ _ (by refine @L2.ba _ _ _ _ _ _ _ _ _ ?_ rfl T.jn boot_repr ?_ (by decide) (by decide) (by rfl) (by rfl); (exact (jL hr)); (refine @L2.ao _ _ _ _ _ _ ?_ aq (by rfl); (refine @L2.aN _ _ _ _ ?_; (refine @L2.aM _ _ _ _ _ _ _ _ _ _ _ (Zd4 T) (hr.mono (by decide)) rfl ?_ (by decide) (by rfl) (by rfl); (refine @L2.az _ _ _ _ _ _ ?_ aD (by rfl); (exact (ac (pv 3)))))))) i7); (refine @L2.a9 _ _ _ _ (aT) _ _ (by refine @L2.ba _ _ _ _ _ _ _ _ _ ?_ rfl T.jn boot_repr ?_ (by decide) (by decide) (by rfl) (by rfl); (exact (jL hr)); (refine @L2.ao _ _ _ _ _ _ ?_ aq (by rfl); (refine @L2.fj _ _ _ _ _ _ _ _ aE ?_ (by rfl) (by rfl) (by rfl) (by rfl) (by rfl); (refine @L2.bg _ _ _ _ ?_; (refine @L2.cO _ _ _ _ _ _ _ _ ?_ ?_; (refine @L2.cJ _ _ _ _ _ _ _ _ _ oG ["_law_one"] [] rfl ?_ (λb=>(br (bo (i:=0) (show ((bN oG ["_law_one"] [])).Nodup by decide +kernel) rfl (Or.inl rfl)))) (λb=>(a9 (t:=aT) (cu jK rfl T.gH boot_str (ao (ac (pv 0)) aq)) i6)) rfl (show BlkOk oG (aB je) _ [] from ⟨rfl,by decide +kernel,by decide +kernel,by decide +kernel,by decide +kernel⟩) (by intro _; rfl); (refine @L2.cj _ _ _ _ _ ?_; (exact (ac (pv 3))))); (exact (bZ (by decide)))))))) i7)); (refine @L2.aH _ _ _ _ ?_; (exact (bb dN)))); (refine @L2.aA _ _ _ _ _ _ ?_ ?_; (refine @L2.bF _ _ _ _ _ _ _ _ _ ?_ ?_ bu; (refine @L2.dU _ _ _ _ ?_; (refine @L2.dc _ _ _ _ _ _ _ _ ?_ ?_; (refine @L2.bh _ _ _ _ _ _ _ _ _ _ ?_ fU ?_ ?_ (nomark _); (exact (gb hr)); (refine @L2.aN _ _ _ _ ?_; (refine @L2.aM _ _ _ _ _ _ _ _ _ _ _ (ZoZ T) (hr.mono (by decide)) rfl ?_ (by decide) (by rfl) (by rfl); (refine @L2.az _ _ _ _ _ _ ?_ aD (by rfl); (refine @L2.aN _ _ _ _ ?_; (refine @L2.aM _ _ _ _ _ _ _ _ _ _ _ (Zd6 T) (hr.mono (by decide)) rfl ?_ (by decide) (by rfl) (by rfl); (refine @L2.az _ _ _ _ _ _ ?_ aD (by rfl); (exact (ac (pv 4))))))))); (exact (ac (pv 4)))); (refine @L2.eJ _ _ _ _ _ ?_; (refine @L2.bh _ _ _ _ _ _ _ _ _ _ ?_ fU ?_ ?_ (nomark _); (exact (gb hr)); (refine @L2.aN _ _ _ _ ?_; (refine @L2.aM _ _ _ _ _ _ _ _ _ _ _ (Zd8 T) (hr.mono (by decide)) rfl ?_ (by decide) (by rfl) (by rfl); (refine @L2.az _ _ _ _ _ _ ?_ aD (by rfl); (refine @L2.aN _ _ _ _ ?_; (refine @L2.aM _ _ _ _ _ _ _ _ _ _ _ (Zd6 T) (hr.mono (by decide)) rfl ?_ (by decide) (by rfl) (by rfl); (refine @L2.az _ _ _ _ _ _ ?_ aD (by rfl); (exact (ac (pv 4))))))))); (exact (ac (pv 4))))))); (refine @L2.aH _ _ _ _ ?_; (exact (bb dN)))); (refine @L2.aA _ _ _ _ _ _ ?_ ?_; (refine @L2.gS _ _ _ _ _ _ _ _ _ PassesOwn.never rfl ?_ ?_ ?_ (by intro _; rfl); (refine @L2.cj _ _ _ _ _ ?_; (refine @L2.bg _ _ _ _ ?_; (refine @L2.cg _ _ _ _ _ ?_; (refine @L2.aU _ _ _ _ _ _ eK ?_ (by rfl); (refine @L2.aU _ _ _ _ _ _ ak ?_ (by rfl); (refine @L2.aU _ _ _ _ _ _ dN ?_ (by rfl); (refine @L2.aU _ _ _ _ _ _ ?_ ?_ (by rfl); (exact (ac (pv 3))); (refine @L2.aU _ _ _ _ _ _ ?_ ?_ (by rfl); (exact (ac (pv 4))); (refine @L2.aU _ _ _ _ _ _ ?_ ?_ (by rfl); (refine @L2.bg _ _ _ _ ?_; (refine @L2.Zpu _ _ _ _ (aT) _ _ (by refine @L2.cu _ _ _ _ _ _ _ _ _ Zd3 rfl T.Zci boot_list ?_ (by decide) (by decide) (by rfl) (by rfl); (refine @L2.ao _ _ _ _ _ _ ?_ aq (by rfl); (exact (ac (pv 3))))) Ze8)); (refine @L2.aU _ _ _ _ _ _ ?_ ?_ (by rfl); (refine @L2.bg _ _ _ _ ?_; (refine @L2.cg _ _ _ _ _ ?_; (refine @L2.ao _ _ _ _ _ _ ?_ aq (by rfl); (refine @L2.aN _ _ _ _ ?_; (refine @L2.aM _ _ _ _ _ _ _ _ _ _ _ (Zd4 T) (hr.mono (by decide)) rfl ?_ (by decide) (by rfl) (by rfl); (refine @L2.az _ _ _ _ _ _ ?_ aD (by rfl); (exact (ac (pv 3))))))))); (exact @L2.ao _ _ _ _ _ _ ZpB aq (by rfl)))))))))))); (refine @L2.br _ _ _ _ ?_; (exact @L2.bo _ _ (7) _ fX.nd rfl (Or.inl rfl) (by first   | exact .inl rfl   | exact .inr rfl   | assumption))); (refine @L2.aH _ _ _ _ ?_; (refine @L2.bF _ _ _ _ _ _ _ _ _ ?_ ?_ bu; (refine @L2.dU _ _ _ _ ?_; (refine @L2.dc _ _ _ _ _ _ _ _ ?_ ?_; (refine @L2.bh _ _ _ _ _ _ _ _ _ _ ?_ fU ?_ aE (nomark _); (exact (gb hr)); (refine @L2.aN _ _ _ _ ?_; (refine @L2.aM _ _ _ _ _ _ _ _ _ _ _ (nU T h_read_shop h_read_falls) (hr.mono (by decide)) rfl ?_ (by decide) (by rfl) (by rfl); (refine @L2.oi _ _ _ _ _ _ _ rfl h_read_shop ?_ (by decide) (by rfl); (refine @L2.az _ _ _ _ _ _ ?_ aD (by rfl); (exact (ac (pv 7)))))))); (refine @L2.eJ _ _ _ _ _ ?_; (refine @L2.bh _ _ _ _ _ _ _ _ _ _ ?_ fU ?_ aE (nomark _); (exact (gb hr)); (refine @L2.aN _ _ _ _ ?_; (refine @L2.aM _ _ _ _ _ _ _ _ _ _ _ (nU T h_read_shop h_read_falls) (hr.mono (by decide)) rfl ?_ (by decide) (by rfl) (by rfl); (refine @L2.oi _ _ _ _ _ _ _ rfl h_read_falls ?_ (by decide) (by rfl); (refine @L2.az _ _ _ _ _ _ ?_ aD (by rfl); (exact (ac (pv 7))))))))))); (refine @L2.aH _ _ _ _ ?_; (exact (bb dN)))))); (refine @L2.aH _ _ _ _ ?_; (refine @L2.bF _ _ _ _ _ _ _ _ _ ?_ ?_ bu; (refine @L2.bh _ _ _ _ _ _ _ _ _ _ ?_ fU ?_ ?_ (nomark _); (exact (gb hr)); (refine @L2.a9 _ _ _ _ (aT) _ _ (by refine @L2.ba _ _ _ _ _ _ _ _ _ ?_ rfl T.jn boot_repr ?_ (by decide) (by decide) (by rfl) (by rfl); (exact (jL hr)); (refine @L2.aU _ _ _ _ _ _ ?_ aq (by rfl); (refine @L2.bg _ _ _ _ ?_; (refine @L2.cg _ _ _ _ _ ?_; (refine @L2.ao _ _ _ _ _ _ ?_ ?_ (by rfl); (exact (ac (pv 3))); (refine @L2.ao _ _ _ _ _ _ ?_ aq (by rfl); (exact (ac (pv 4))))))))) i7); (exact (ac (pv 5)))); (refine @L2.aH _ _ _ _ ?_; (exact (bb dN)))))))))))))); (refine @L2.aH _ _ _ _ ?_; (exact (bb dN)))))),?_⟩
  refine ⟨_,rfl,a,ns,rfl,hS,hlen,λp c H' hp hP hs=>?_⟩
  exact ZiW (n:=6) hP rfl rfl (λH'=>k H') hl
end
end My
local macro_rules | `(tactic| simp_arith [$ls,*] $[$loc]?) => do let b : Lean.TSyntaxArray ``Lean.Parser.Tactic.simpLemma ← (("L2.ZkA L2.Zkz L2.Znt L2.Zm5 L2.Zm4 L2.Zni L2.Zdd L2.Zde L2.ZkN L2.ZmS L2.ZmK L2.ZlL L2.ZmL L2.ZmJ L2.ZlK L2.Zmj L2.Zl9 L2.Zl8 L2.gR L2.jN L2.Zpm L2.Zpl L2.Zpk L2.Zpj L2.Zpi L2.Zph L2.Zpg L2.ZkM L2.ZkF L2.ZkL L2.ZkK L2.ZkJ L2.ZkI L2.ZkG L2.ZkH L2.Zng L2.ZlD L2.ZlI L2.Zne L2.Znf L2.ZlB L2.ZlC L2.ZlH L2.Znd L2.ZlA L2.ZlG L2.Znb L2.Znc L2.Zly L2.Zlz L2.ZlF L2.Zmt L2.Zmr L2.Zms L2.ZmT L2.ZmY L2.ZmX L2.ZmW L2.ZmU L2.ZmV L2.ZlJ L2.ZmR L2.ZmQ L2.ZmP L2.ZkE L2.ZkD L2.ZlR L2.ZlQ L2.ZlU L2.ZlT L2.bY L2.Zm2 L2.ZmZ L2.ZlZ L2.ZlX L2.Znj L2.ZkC L2.ZkB L2.ZlP L2.ZlO L2.ZlN L2.le L2.Zdc L2.Zmi L2.Zmh L2.Zlv L2.Zlu L2.Zlt L2.Zno L2.Znq L2.Zns L2.Znr L2.Zls L2.Zlr L2.Znn L2.Znk L2.Zm3 L2.Zlq L2.Zlp L2.Zdb L2.ZmI L2.ZmH L2.Zc9 L2.Zc8 L2.Zk2 L2.Zk4 L2.Zk3 L2.ZkT L2.Zmm L2.Zmk L2.Zml L2.Zlo L2.Zln L2.Zlm L2.Zll L2.Zlk L2.Zlj L2.Zli L2.Zk1 L2.Zk0 L2.ZkZ L2.ZkY L2.ZiJ L2.ZiI L2.Zlx L2.Zlw L2.Zna L2.Zm9 L2.Zm8 L2.Zlh L2.Zlg L2.Zmu L2.ZjR L2.ZjS L2.ZjQ L2.ZjP L2.ZjT L2.Zm7 L2.Zm6 L2.ZlE L2.Zjy L2.Zjw L2.Zjz L2.ZjA L2.Zjx L2.Zmg L2.Zmf L2.Zme L2.Zlf L2.ZmA L2.Zmz L2.ZjY L2.Zmy L2.nK L2.Zmw L2.Zmx L2.Zmv L2.Zl7 L2.Zl6 L2.Zl5 L2.ZiA L2.ZiB L2.ZiD L2.ZiC L2.Zl0 L2.Zl1 L2.ZlY L2.ZlW L2.Zl2 L2.Zl4 L2.Zl3 L2.Zmn L2.Zmp L2.Zmq L2.Zmo L2.Zm1 L2.Zm0 L2.ZmD L2.ZkX L2.ZkW L2.ZkV L2.Znh L2.Zdf L2.Zle L2.gQ L2.jE L2.Zld L2.Zk5 L2.Zda L2.cD L2.Zk7 L2.Zk6 L2.Zk9 L2.Zk8 L2.Zlc L2.Zla L2.Zlb L2.ZkS L2.ZkR L2.ZkQ L2.ZkP L2.ZkO L2.cV L2.Zmd L2.Zmc L2.Zma L2.Zmb L2.dR L2.lc L2.Zj7 L2.Zc6 L2.Zky L2.Zkn L2.Zkm L2.Zko L2.Zkb L2.Zkp L2.Zkd L2.Zkr L2.Zke L2.Zkx L2.Zkl L2.Zkw L2.Zkj L2.Zkk L2.Zks L2.Zkq L2.Zj9 L2.Zj8 L2.Zka L2.ZmO L2.ZmG L2.ZmF L2.ZmE L2.Zku L2.Zkg L2.Zkt L2.Zkf L2.Zkc L2.Zkv L2.Zki L2.Zkh L2.Znp L2.ZmC L2.ZmB L2.Znm L2.Znl L2.ZmN L2.ZmM L2.Zc7 L2.ZlM L2.rb2 L2.Tr.of_some L2.Tr.bind_assoc L2.Tr.draw_bind List.cons_append List.nil_append List.replicate_succ List.replicate_zero List.length_cons List.length_nil L2.Re.val_d L2.Re.val_own L2.blk L2.rZ List.map_cons List.map_nil List.getElem?_cons_zero List.getElem?_cons_succ Option.getD_some Nat.reduceAdd Nat.reduceLeDiff List.isEmpty_cons".splitOn " ").toArray.map fun s => Lean.mkIdent s.toName).mapM fun i => `(Lean.Parser.Tactic.simpLemma| $i:ident); `(tactic| simp only [$b,*, $ls,*] $[$loc]?)
namespace My
open PySem PySem.Spec PyProof.Rows L2
theorem jM {a b:Str}:(a == b)=decide (a.cps.toList=b.cps.toList):=by
 by_cases h:a=b
 ·subst h; simp
 ·rw [beq_eq_false_iff_ne.mpr h,decide_eq_false λe=>h (ia e)]
theorem all_map {f:Nat->Bool} (l:List Nat):(l.map f).all id=l.all f:=by simp [List.all_map]
theorem Zga (l:List Nat):bJ (bA (am 0) mB [.un]) (l.map λc=>.str ⟨#[c]⟩)=.ret ((l.map λc=>decide (48<=c/\c<=57)).map PyData.bool):=by
 induction l with
 | nil=>rfl
 | cons c l ih =>
  have e0:bA (am 0) mB [.un] (.str ⟨#[c]⟩)=.ret (.bool (decide (48<=c/\c<=57))):=by
   simp_arith [mB,ae,ag,af,ZcM]
   rfl
  rw [List.map_cons,bJ,e0,Tr.ret_bind,ih]
  rfl
theorem rJ {w:Str} (h:w.length<=500000):gK [.d (.str w)]=.ret (.d (.bool (b6 w.cps.toList))):=by
 have hr:=ZgI w
 have hle:=len_removeprefix w "-"
 generalize hf:Txt.removeprefix w "-"=f at *
 have h1:w.length<=1048576:=by omega
 have h2:f.length<=1048576:=by omega
 have hfl:f.length=(figs w.cps.toList).length:=by rw [<- hr]; simp [Str.length]
 have hs:small (cB f).length=true:=cA (by unfold cB; rw [List.length_map,Array.length_toList]; exact h2)
 have em:=Zga f.cps.toList
 have ea:=le (f.cps.toList.map λc=>decide (48<=c/\c<=57))
 rw [all_map] at ea
 unfold cB at hs
 by_cases hA:1<=f.length/\f.length<=400
 ·have hA1:decide ((1:Int)<=(f.length:Int))=true:=decide_eq_true (by omega)
  have hA2:decide ((f.length:Int)<=400)=true:=decide_eq_true (by omega)
  cases hB:f.cps.toList.all (λc=>decide (48<=c/\c<=57)) with
  | false =>
   rw [hB] at ea
   simp_arith [gK,ae,ag,af,lc h1,hf,cD h2,hA1,hA2,cB,hs,em,ea,Bool.not_true,Bool.not_false]
   unfold b6
   rw [<- hr,hB]
   simp
  | true =>
   rw [hB] at ea
   cases hc:f.cps.toList with
   | nil=>rw [hfl,<- hr,hc] at hA; simp at hA
   | cons c r =>
    have e3:bd f.cps.toList 0=some c:=by rw [hc]; exact gR
    have e4:av cm (.str f) (.int 0)=.ret (.str ⟨#[c]⟩):=by rw [rH h2,e3]; rfl
    have e5:((⟨#[c]⟩:Str) == "0")=decide (c=48):=by
     rw [jM,oS]
     simp
    have e6:(w == "0")=decide (w.cps.toList=[48]):=by rw [jM,oS]
    have e7:b6 w.cps.toList=(decide (c≠48) || decide (w.cps.toList=[48])):=by
     unfold b6
     rw [<- hr,hB,hc]
     rw [decide_eq_true (by rw [hfl,<- hr,hc] at hA; exact hA)]
     simp
    simp_arith [gK,ae,ag,af,lc h1,hf,cD h2,hA1,hA2,cB,hs,em,ea,Bool.not_true,Bool.not_false,e4,e5]
    rw [e7]
    by_cases hz:c=48
    ·rw [decide_eq_true hz,decide_eq_false (λh=>h hz)]
     simp_arith [ae,ag,af,Bool.not_true,e6,Bool.false_or]
    ·rw [decide_eq_false hz,decide_eq_true hz]
     simp_arith [ae,ag,af,Bool.not_false,Bool.true_or]
 ·have hn:b6 w.cps.toList=false:=by
   unfold b6
   rw [<- hfl,decide_eq_false hA]
   rfl
  rw [hn]
  by_cases h3:1<=f.length
  ·have hA1:decide ((1:Int)<=(f.length:Int))=true:=decide_eq_true (by omega)
   have hA2:decide ((f.length:Int)<=400)=false:=decide_eq_false (by omega)
   simp_arith [gK,ae,ag,af,lc h1,hf,cD h2,hA1,hA2,Bool.not_false]
  ·have hA1:decide ((1:Int)<=(f.length:Int))=false:=decide_eq_false (by omega)
   simp_arith [gK,ae,ag,af,lc h1,hf,cD h2,hA1,Bool.not_false]
theorem rm {w:Str} (h:b6 w.cps.toList=true):bw gl [.str w]=.ret (.int (dI w.cps.toList)):=by
 have hl:=Zib h
 have hl2:w.length<=640:=by unfold Str.length; rw [<- Array.length_toList]; omega
 unfold bw gl
 dsimp only
 rw [decide_eq_true hl2,if_pos rfl,Zjn h]
 rfl
theorem Zak {w:Str} (h:w.length<=500000):iU [.d (.str w)]=.ret (if b6 w.cps.toList then some (.d (.int (dI w.cps.toList))) else none):=by
 cases hn:b6 w.cps.toList with
 | false =>
  simp_arith [iU,ae,ag,af,rJ h,hn,Bool.not_false]
  rfl
 | true =>
  simp_arith [iU,ae,ag,af,rJ h,hn,Bool.not_true,rm hn]
  rfl
theorem ZnG {w:Str} (h:w.length<=500000) (hn:b6 w.cps.toList=true):mY [.d (.str w)]=.ret (.d (.int (dI w.cps.toList))):=by
 simp_arith [mY,ae,ag,af,rJ h,hn,Bool.not_true,rm hn]
theorem Zf9 (l:List Nat):dP (ir (am 0) mG mx [.un]) (l.map λc=>.str ⟨#[c]⟩)=.ret ((l.filter λc=>!decide (48<=c/\c<=57)).map λc=>.str ⟨#[c]⟩):=by
 induction l with
 | nil=>rfl
 | cons c l ih =>
  have e0:ir (am 0) mG mx [.un] (.str ⟨#[c]⟩)=.ret (if (!decide (48<=c/\c<=57))=true then some (.str ⟨#[c]⟩) else none):=by
   simp_arith [mG,mx,ae,ag,af,ZcM,if_true]
   cases hd:(!decide (48<=c/\c<=57)) with
   | false=>rfl
   | true=>rfl
  rw [List.map_cons,dP,e0,Tr.ret_bind,ih,Tr.ret_bind,List.filter_cons]
  cases hd:(!decide (48<=c/\c<=57)) with
  | false=>rfl
  | true=>rfl
theorem Zj2 (l:List Nat):((l.filter λc=>!decide (48<=c/\c<=57)).map λc=>PyData.str ⟨#[c]⟩).isEmpty=l.all λc=>decide (48<=c/\c<=57):=by
 induction l with
 | nil=>rfl
 | cons c l ih =>
  rw [List.filter_cons,List.all_cons]
  cases hd:decide (48<=c/\c<=57) with
  | false=>rfl
  | true=>exact ih
theorem ZnI {w:Str} (h:w.length<=500000):db [.d (.str w)]=.ret (.d (if b6 w.cps.toList then .int (dI w.cps.toList) else .none)):=by
 have h1:w.length<=1048576:=by omega
 have hb0:((Txt.slice w none (some 1)) == "-")=decide (w.cps.toList.head?=some 45):=by
  rw [jM,ZfT,qD]
  cases w.cps.toList with
  | nil=>rfl
  | cons c r=>simp
 obtain ⟨F,hF,hl,hbr⟩:∃ F:Str,F.cps.toList=figs w.cps.toList/\F.length<=1048576/\((((Txt.slice w none (some 1)) == "-")=true/\Txt.slice w (some 1) none=F)\/((((Txt.slice w none (some 1)) == "-")=false)/\w=F)):=by
  by_cases hm:w.cps.toList.head?=some 45
  ·refine ⟨Txt.slice w (some 1) none,?_,Nat.le_trans (Txt.slice_le _ _ _) h1,.inl ⟨by rw [hb0,decide_eq_true hm],rfl⟩⟩
   rw [ZfV]; unfold figs; rw [if_pos hm]
  ·refine ⟨w,?_,h1,.inr ⟨by rw [hb0,decide_eq_false hm],rfl⟩⟩
   unfold figs; rw [if_neg hm]
 have hFl:F.length=F.cps.toList.length:=by simp [Str.length]
 have hs:small (F.cps.toList.map λc=>PyData.str ⟨#[c]⟩).length=true:=cA (by rw [List.length_map,<- hFl]; exact hl)
 have em:=Zf9 F.cps.toList
 have ef:=Zj2 F.cps.toList
 have en:(F == "")=decide (F.cps.toList=[]):=by rw [jM,qu]
 have ew:(w == "-0")=decide (w.cps.toList=[45,48]):=by rw [jM,ZiH]
 have hi:=λhn=>rm (w:=w) hn
 generalize hL:w.cps.toList=L at *
 -- what is told,by F's signs
 have key:b6 L=(!(decide (F.cps.toList=[])) && !decide (400 < F.cps.toList.length) && (F.cps.toList.all λc=>decide (48<=c/\c<=57)) && !(decide (L=[45,48])) && !(decide (1 < F.cps.toList.length) && decide (F.cps.toList.head?=some 48))):=by
  rw [hF]
  unfold b6
  cases hc:figs L with
  | nil=>simp
  | cons c r =>
   have e1:decide (1<=(c::r).length/\(c::r).length<=400)=!decide (400 < (c::r).length):=by
    rw [List.length_cons]
    by_cases h4:r.length+1<=400
    ·rw [decide_eq_true ⟨by omega,h4⟩,decide_eq_false (by omega)]; rfl
    ·rw [decide_eq_false (λz=>h4 z.2),decide_eq_true (by omega)]; rfl
   have e0:decide (c::r=([]:List Nat))=false:=decide_eq_false (by simp)
   rw [e1,e0]
   have e2:(decide ((c::r).head?≠some 48) || decide (L=[48]))=(!decide (L=[45,48]) && !(decide (1 < (c::r).length) && decide ((c::r).head?=some 48))):=by
    have hL2:(L=c::r/\c≠45)\/L=45::c::r:=by
     unfold figs at hc
     by_cases hm:L.head?=some 45
     ·rw [if_pos hm] at hc
      cases L with
      | nil=>cases hm
      | cons a l =>
       have ha:a=45:=Option.some.inj hm
       rw [ha]
       exact .inr (by rw [show l=c::r from hc])
     ·rw [if_neg hm] at hc
      exact .inl ⟨hc,λe=>hm (by rw [hc,e]; rfl)⟩
    by_cases h48:c=48
    ·subst h48
     rcases hL2 with ⟨e,_⟩ | e <;> subst e <;> cases r <;> simp
    ·rcases hL2 with ⟨e,h45⟩ | e <;> subst e <;> simp [h48]
     exact .inl h45
   rw [e2]
   cases decide (400 < (c::r).length) <;> cases (c::r).all (λc=>decide (48<=c/\c<=57)) <;> simp
 have h400:decide ((F.length:Int) > 400)=decide (400 < F.cps.toList.length):=by
  rw [hFl]
  by_cases h4:400 < F.cps.toList.length
  ·rw [decide_eq_true h4,decide_eq_true (by omega)]
  ·rw [decide_eq_false h4,decide_eq_false (by omega)]
 have h1l:decide ((F.length:Int) > 1)=decide (1 < F.cps.toList.length):=by
  rw [hFl]
  by_cases h4:1 < F.cps.toList.length
  ·rw [decide_eq_true h4,decide_eq_true (by omega)]
  ·rw [decide_eq_false h4,decide_eq_false (by omega)]
 have e4:F.cps.toList≠[]->∃ c,F.cps.toList.head?=some c/\av cm (.str F) (.int 0)=.ret (.str ⟨#[c]⟩)/\((⟨#[c]⟩:Str) == "0")=decide (c=48):=by
  intro hne
  cases hc:F.cps.toList with
  | nil=>exact absurd hc hne
  | cons c r =>
   refine ⟨c,rfl,?_,?_⟩
   ·rw [rH hl,hc,gR]; rfl
   ·rw [jM,oS]; simp
 cases hc:b6 L with
 | true =>
  have hi':=hi hc
  rw [hc] at key
  have key':=key.symm
  simp only [Bool.and_eq_true,Bool.not_eq_true'] at key'
  obtain ⟨⟨⟨⟨k1,k2⟩,k3⟩,k4⟩,k5⟩:=key'
  obtain ⟨c,hc1,hc2,hc3⟩:=e4 (of_decide_eq_false k1)
  rw [hc1] at k5
  have k6:decide (some c=some 48)=decide (c=48):=by simp
  rw [k6] at k5
  rw [k3] at ef
  rcases hbr with ⟨hb,hsl⟩ | ⟨hb,hsl⟩
  ·by_cases hz:1 < F.cps.toList.length
   ·rw [decide_eq_true hz,Bool.true_and] at k5
    simp_arith [db,ae,ag,af,cV h1,hb,hsl,en,k1,cD hl,h400,k2,cB,hs,em,dA,ef,Bool.not_true,Bool.not_false,ew,k4,h1l,decide_eq_true hz,hc2,hc3,k5,hi',if_true]
   ·simp_arith [db,ae,ag,af,cV h1,hb,hsl,en,k1,cD hl,h400,k2,cB,hs,em,dA,ef,Bool.not_true,Bool.not_false,ew,k4,h1l,decide_eq_false hz,hi',if_true]
  ·subst hsl
   by_cases hz:1 < w.cps.toList.length
   ·rw [decide_eq_true hz,Bool.true_and] at k5
    simp_arith [db,ae,ag,af,cV h1,hb,en,k1,cD hl,h400,k2,cB,hs,em,dA,ef,Bool.not_true,Bool.not_false,ew,k4,h1l,decide_eq_true hz,hc2,hc3,k5,hi',if_true]
   ·simp_arith [db,ae,ag,af,cV h1,hb,en,k1,cD hl,h400,k2,cB,hs,em,dA,ef,Bool.not_true,Bool.not_false,ew,k4,h1l,decide_eq_false hz,hi',if_true]
 | false =>
  rw [hc] at key
  cases k1:decide (F.cps.toList=[]) with
  | true =>
   rcases hbr with ⟨hb,hsl⟩ | ⟨hb,hsl⟩
   ·simp_arith [db,ae,ag,af,cV h1,hb,hsl,en,k1,if_false,Bool.false_eq_true]
   ·subst hsl
    simp_arith [db,ae,ag,af,cV h1,hb,en,k1,if_false,Bool.false_eq_true]
  | false =>
   cases k2:decide (400 < F.cps.toList.length) with
   | true =>
    rcases hbr with ⟨hb,hsl⟩ | ⟨hb,hsl⟩
    ·simp_arith [db,ae,ag,af,cV h1,hb,hsl,en,k1,cD hl,h400,k2,if_false,Bool.false_eq_true]
    ·subst hsl
     simp_arith [db,ae,ag,af,cV h1,hb,en,k1,cD hl,h400,k2,if_false,Bool.false_eq_true]
   | false =>
    cases k3:F.cps.toList.all (λc=>decide (48<=c/\c<=57)) with
    | false =>
     rw [k3] at ef
     rcases hbr with ⟨hb,hsl⟩ | ⟨hb,hsl⟩
     ·simp_arith [db,ae,ag,af,cV h1,hb,hsl,en,k1,cD hl,h400,k2,cB,hs,em,dA,ef,Bool.not_false,if_false,Bool.false_eq_true]
     ·subst hsl
      simp_arith [db,ae,ag,af,cV h1,hb,en,k1,cD hl,h400,k2,cB,hs,em,dA,ef,Bool.not_false,if_false,Bool.false_eq_true]
    | true =>
     rw [k3] at ef
     cases k4:decide (L=[45,48]) with
     | true =>
      rcases hbr with ⟨hb,hsl⟩ | ⟨hb,hsl⟩
      ·simp_arith [db,ae,ag,af,cV h1,hb,hsl,en,k1,cD hl,h400,k2,cB,hs,em,dA,ef,Bool.not_true,ew,k4,if_false,Bool.false_eq_true]
      ·subst hsl
       simp_arith [db,ae,ag,af,cV h1,hb,en,k1,cD hl,h400,k2,cB,hs,em,dA,ef,Bool.not_true,ew,k4,if_false,Bool.false_eq_true]
     | false =>
      obtain ⟨c,hc1,hc2,hc3⟩:=e4 (of_decide_eq_false k1)
      rw [k1,k2,k3,k4,hc1] at key
      have k6:decide (some c=some 48)=decide (c=48):=by simp
      rw [k6] at key
      have k5:decide (1 < F.cps.toList.length)=true/\decide (c=48)=true:=by simpa using key
      rcases hbr with ⟨hb,hsl⟩ | ⟨hb,hsl⟩
      ·simp_arith [db,ae,ag,af,cV h1,hb,hsl,en,k1,cD hl,h400,k2,cB,hs,em,dA,ef,Bool.not_true,ew,k4,h1l,k5.1,hc2,hc3,k5.2,if_false,Bool.false_eq_true]
      ·subst hsl
       simp_arith [db,ae,ag,af,cV h1,hb,en,k1,cD hl,h400,k2,cB,hs,em,dA,ef,Bool.not_true,ew,k4,h1l,k5.1,hc2,hc3,k5.2,if_false,Bool.false_eq_true]
end My
namespace My
open PySem PySem.Spec PyProof.Rows L2 Tw
theorem nI {i:Int} (h:i.natAbs.log2 < 1920):bw d9 [.int i]=.ret (.str (aG i)):=by
 rw [Zc7 h]
 exact congrArg (λs=>Tr.ret (PyData.str s)) (ZdF i)
theorem qI {n k:Nat} (h:n < 2 ^ k) (hk:0 < k):n.log2 < k:=by
 by_cases h0:n=0
 ·subst h0; simpa using hk
 ·exact (Nat.log2_lt h0).mpr h
theorem Zjd (ps:List Str):(Str.join ⟨#[]⟩ ps).cps.toList=(ps.map λp=>p.cps.toList).flatten:=by
 induction ps with
 | nil=>rfl
 | cons p ps ih =>
  cases ps with
  | nil=>simp [Str.join]
  | cons q ps =>
   have e:Str.join ⟨#[]⟩ (p::q::ps)=p++⟨#[]⟩++Str.join ⟨#[]⟩ (q::ps):=rfl
   rw [e,Str.cps_append,Str.cps_append,Array.toList_append,Array.toList_append,ih]
   simp
theorem sN:(10000000000000000000000000000000000000000000000000000000000000000:Int)=((10 ^ 64:Nat):Int):=by decide
noncomputable def flt (ps:List Str):List Nat:=(ps.reverse.map λp=>p.cps.toList).flatten
theorem Ze0 {i:Int}:∀ (n m:Nat) (ps:List Str) (J:Sl),m < 10 ^ (64 * (n+1))->ps.length+n<=100->(∀ p∈ps,p.length<=64)->∃ (m':Nat) (ps':List Str) (J':Sl),m' < 10 ^ 64/\digs m'++flt ps'=digs m++flt ps/\ps'.length<=ps.length+n/\(∀ p∈ps',p.length<=64)/\∀ fu,n < fu ->
  eP g9 kX fu [.d (.int i),.own (ps.map PyData.str),.d (.int m),J]=.ret (.next [.d (.int i),.own (ps'.map PyData.str),.d (.int m'),J']):=by
 have stop:∀ (m:Nat) (ps:List Str) (J:Sl) (fu:Nat),m < 10 ^ 64->0 < fu->eP g9 kX fu [.d (.int i),.own (ps.map PyData.str),.d (.int m),J]=.ret (.next [.d (.int i),.own (ps.map PyData.str),.d (.int m),J]):=by
  intro m ps J fu hm hf
  obtain ⟨f,rfl⟩:∃ f,fu=f+1:=⟨fu - 1,by omega⟩
  have e:g9 [.d (.int i),.own (ps.map PyData.str),.d (.int m),J]=.ret false:=by
   have hd:decide ((m:Int) ≥ ((10 ^ 64:Nat):Int))=false:=decide_eq_false (by omega)
   simp_arith [g9,sN,ae,ag,af,hd]
  rw [eP,e]
  rfl
 intro n
 induction n with
 | zero =>
  intro m ps J hm hl hp
  exact ⟨m,ps,J,hm,rfl,by omega,hp,λfu hf=>stop m ps J fu hm hf⟩
 | succ n ih =>
  intro m ps J hm hl hp
  by_cases hs:m < 10 ^ 64
  ·exact ⟨m,ps,J,hs,rfl,by omega,hp,λfu hf=>stop m ps J fu hs (by omega)⟩
  ·have hq0:0 < m / 10 ^ 64:=Nat.div_pos (by omega) (Nat.pow_pos (by decide))
   have hr:m % 10 ^ 64 < 10 ^ 64:=Nat.mod_lt _ (Nat.pow_pos (by decide))
   have hq:m / 10 ^ 64 < 10 ^ (64 * (n+1)):=by
    refine Nat.div_lt_of_lt_mul ?_
    rw [<- Nat.pow_add]
    have:64+64 * (n+1)=64 * (n+1+1):=by omega
    rw [this]
    exact hm
   have hz:=ZeL (m % 10 ^ 64) hr
   have hzl:(Txt.zfill (aG ((m % 10 ^ 64:Nat):Int)) 64).length<=64:=by
    unfold Str.length
    rw [<- Array.length_toList,hz]
    unfold padk
    rw [List.length_append,List.length_replicate]
    have:=jG 63 _ hr
    omega
   obtain ⟨m',ps',J',h1,h2,h3,h4,h5⟩:=ih (m / 10 ^ 64) (ps++[Txt.zfill (aG ((m % 10 ^ 64:Nat):Int)) 64]) (.d (.int (m % 10 ^ 64:Nat))) hq (by simp; omega) (λp hp'=>by
    rcases List.mem_append.mp hp' with hp' | hp'
    ·exact hp p hp'
    ·rw [List.mem_singleton.mp hp']; exact hzl)
   refine ⟨m',ps',J',h1,?_,by simp at h3; omega,h4,λfu hf=>?_⟩
   ·rw [h2]
    have e:=ZnX 63 (m / 10 ^ 64) (m % 10 ^ 64) hq0 hr
    have e2:m / 10 ^ 64 * 10 ^ (63+1)+m % 10 ^ 64=m:=Nat.div_add_mod' m (10 ^ 64)
    rw [e2] at e
    rw [e,List.append_assoc]
    congr 1
    unfold flt
    rw [List.reverse_append,List.map_append,List.flatten_append]
    show (Txt.zfill (aG ((m % 10 ^ 64:Nat):Int)) 64).cps.toList++[]++_=_
    rw [hz,List.append_nil]
   ·obtain ⟨f,rfl⟩:∃ f,fu=f+1:=⟨fu - 1,by omega⟩
    have e:g9 [.d (.int i),.own (ps.map PyData.str),.d (.int m),J]=.ret true:=by
     have hd:decide ((m:Int) ≥ ((10 ^ 64:Nat):Int))=true:=decide_eq_true (by omega)
     simp_arith [g9,sN,ae,ag,af,hd]
    have ed:bw lf [.int m,.int ((10 ^ 64:Nat):Int)]=.ret (.tuple [.int ((m / 10 ^ 64:Nat):Int),.int ((m % 10 ^ 64:Nat):Int)]):=by
     have hp:Builtin.divisionGoesByPylong (m:Int) ((10 ^ 64:Nat):Int)=false:=PyProof.noPylong_of_log2 (by decide +kernel)
     unfold bw lf
     dsimp only
     rw [hp,if_pos (by decide +kernel)]
     show Tr.ret _=_
     rw [show ((m:Int).fdiv ((10 ^ 64:Nat):Int))=((m / 10 ^ 64:Nat):Int) from (Int.ofNat_fdiv m (10 ^ 64)).symm,show ((m:Int).fmod ((10 ^ 64:Nat):Int))=((m % 10 ^ 64:Nat):Int) from (Int.ofNat_fmod m (10 ^ 64)).symm]
    have hr2:((m % 10 ^ 64:Nat):Int).natAbs.log2 < 1920:=by
     refine qI (Nat.lt_of_lt_of_le (show ((m % 10 ^ 64:Nat):Int).natAbs < 10 ^ 64 by omega) ?_) (by decide)
     decide +kernel
    have ez:av g5 (.str (aG ((m % 10 ^ 64:Nat):Int))) (.int 64)=.ret (.str (Txt.zfill (aG ((m % 10 ^ 64:Nat):Int)) 64)):=by
     unfold av g5
     dsimp only
     rw [if_pos (by decide +kernel)]
     rfl
    have hsm:small ((ps.map PyData.str).length+1)=true:=bY (by rw [List.length_map]; omega)
    have eb:kX [.d (.int i),.own (ps.map PyData.str),.d (.int m),J]=.ret (.next [.d (.int i),.own ((ps++[Txt.zfill (aG ((m % 10 ^ 64:Nat):Int)) 64]).map PyData.str),.d (.int (m / 10 ^ 64:Nat)),.d (.int (m % 10 ^ 64:Nat))]):=by
     simp_arith [kX,sN,ae,ag,af,ed,nI hr2,ez,hsm,List.map_append]
    rw [eP,e,Tr.ret_bind,if_pos rfl,eb]
    exact h5 f (by omega)
theorem Zdj {i:Int} (h:i.natAbs < 10 ^ 448):js [.d (.int i)]=.ret (.d (.str (aG i))):=by
 obtain ⟨m',ps',J',h1,h2,h3,h4,h5⟩:=Ze0 (i:=i) 6 i.natAbs [] .un h (by decide) (λp hp=>by cases hp)
 have hw:=h5 100000 (by decide)
 rw [List.map_nil] at hw
 have hl2:((m':Nat):Int).natAbs.log2 < 1920:=by
  refine qI (Nat.lt_of_lt_of_le (show ((m':Nat):Int).natAbs < 10 ^ 64 by omega) ?_) (by decide)
  decide +kernel
 have h3':ps'.length<=6:=by simpa using h3
 have hsm:small ((ps'.map PyData.str).length+1)=true:=bY (by rw [List.length_map]; omega)
 have hrev:((ps'.map PyData.str)++[PyData.str (aG m')]).reverse=((aG m')::ps'.reverse).map PyData.str:=by simp
 have hlen:∀ l:List Str,(∀ p∈l,p.length<=64)->(l.map (·.length)).sum<=64 * l.length:=by
  intro l
  induction l with
  | nil=>intro _; exact Nat.le_refl _
  | cons p l ih =>
   intro hp
   have:=ih λq hq=>hp q (List.mem_cons_of_mem _ hq)
   have:=hp p (by simp)
   rw [List.map_cons,List.sum_cons,List.length_cons]
   omega
 have hd64:(aG (m':Int)).length<=64:=by
  rw [rO,jI]
  exact jG 63 m' h1
 have hj:("":Str).length<=16/\((aG (m':Int)::ps'.reverse).map (·.length)).sum+(aG (m':Int)::ps'.reverse).length<=1048576:=by
  refine ⟨by decide,?_⟩
  have:=hlen (aG (m':Int)::ps'.reverse) (λp hp=>by
   rcases List.mem_cons.mp hp with rfl | hp
   ·exact hd64
   ·exact h4 p (List.mem_reverse.mp hp))
  have e:(aG (m':Int)::ps'.reverse).length<=7:=by simp; omega
  omega
 have ejl:(Txt.join "" (aG (m':Int)::ps'.reverse)).cps.toList=digs i.natAbs:=by
  rw [tjoin,qu,Zjd,List.map_cons,List.flatten_cons,eG,jI]
  have h2':digs m'++flt ps'=digs i.natAbs++flt []:=h2
  have e0:flt []=[]:=rfl
  rw [e0,List.append_nil] at h2'
  exact h2'
 have ejlen:(Txt.join "" (aG (m':Int)::ps'.reverse)).length<=1000:=by
  unfold Str.length
  rw [<- Array.length_toList,ejl]
  have:=jG 447 i.natAbs h
  omega
 have ha:og i=((i.natAbs:Nat):Int):=by unfold og; split <;> omega
 have ejn:av bL (.str "") (.list (PyData.str (aG (m':Int))::ps'.reverse.map PyData.str))=.ret (.str (Txt.join "" (aG (m':Int)::ps'.reverse))):=ae hj
 by_cases hn:i < 0
 ·have hadd:("-":Str).length+(Txt.join "" (aG (m':Int)::ps'.reverse)).length<=1048576:=by
   have:("-":Str).length=1:=by decide
   omega
  have er:("-":Str)++Txt.join "" (aG (m':Int)::ps'.reverse)=aG i:=by
   apply ia
   rw [Str.cps_append,Array.toList_append,ejl,eG,qD]
   unfold b7
   rw [if_pos hn]
   rfl
  simp_arith [js,ae,ag,af,ha,hw,nI hl2,hsm,hrev,ejn,decide_eq_true hn,gQ hadd,er]
 ·have hadd:("":Str).length+(Txt.join "" (aG (m':Int)::ps'.reverse)).length<=1048576:=by
   have:("":Str).length=0:=by decide
   omega
  have er:("":Str)++Txt.join "" (aG (m':Int)::ps'.reverse)=aG i:=by
   apply ia
   rw [Str.cps_append,Array.toList_append,ejl,eG,qu]
   unfold b7
   rw [if_neg hn]
   rfl
  simp_arith [js,ae,ag,af,ha,hw,nI hl2,hsm,hrev,ejn,decide_eq_false hn,gQ hadd,er]
noncomputable def dw:PyData->Bool
 | .str _=>true
 | _=>false
theorem rg (d:PyData):gL "str" (fw d)=dw d:=by cases d <;> rfl
theorem iW (d:PyData):iV [.d d]=.ret (if dw d=true then some (.d .none) else none):=by
 cases h:dw d with
 | false =>
  simp_arith [iV,ae,ag,af,rg,h,Bool.not_false]
  rfl
 | true =>
  simp_arith [iV,ae,ag,af,rg,h,Bool.not_true]
  rfl
theorem ZnS (t:Str):nk [.d (.str t)]=.ret (.d .none):=by
 have h:dw (.str t)=true:=rfl
 simp_arith [nk,ae,ag,af,rg,h,Bool.not_true]
noncomputable def bB (w:Str):Option (List Int):=bf bq (Txt.split w ⟨#[44]⟩)
noncomputable def cC (t:Str):Option (List (List Int)):=bf bB (Txt.split t ⟨#[32]⟩)
theorem Zn7 {w:Str} {ns:List Int} (h:bB w=some ns):Rp (tI ns) 1 (13 * (w.length+1)):=pL (λw a h=>Zcc h) h
theorem ZgA {t:Str} {ds:List (List Int)} (h:cC t=some ds):Rp (fD ds) 2 (25 * (t.length+1)):=pL (λw a h=>Zn7 h) h
theorem ZeT {w:Str} (h:w.length<=500000):fS (am 0) ml [.un] (.str w)=.ret ((bq w).map PyData.int):=by
 simp_arith [ml,ae,ag,af,Zak h]
 unfold bq
 cases b6 w.cps.toList <;> rfl
theorem ZeS {w:Str} (h:w.length<=500000):fS (am 0) mj [.un] (.str w)=.ret ((bB w).map tI):=by
 have hs:small ((Txt.split w ⟨#[44]⟩).map PyData.str).length=true:=cA (by rw [List.length_map]; have:=du 44 w; omega)
 have e:=mT (f:=bq) (g:=PyData.int) (h:=fS (am 0) ml [.un]) (l:=Txt.split w ⟨#[44]⟩) λx hx=>ZeT (by have:=f8 hx; omega)
 simp_arith [mj,gp,ae,ag,af,dR h,hs,e]
 unfold bB
 cases bf bq (Txt.split w ⟨#[44]⟩) <;> rfl
theorem ZeV {t:Str} (h:t.length<=500000):iT [.d (.str t)]=.ret ((cC t).map λds=>.d (fD ds)):=by
 have hs:small ((Txt.split t ⟨#[32]⟩).map PyData.str).length=true:=cA (by rw [List.length_map]; have:=du 32 t; omega)
 have e:=mT (f:=bB) (g:=tI) (h:=fS (am 0) mj [.un]) (l:=Txt.split t ⟨#[32]⟩) λx hx=>ZeS (by have:=f8 hx; omega)
 simp_arith [iT,dh,ae,ag,af,iW,dw,if_true,Option.map_some,dR h,hs,e]
 unfold cC
 cases bf bB (Txt.split t ⟨#[32]⟩) <;> rfl
theorem ZeU {d:PyData} (h:dw d=false):iT [.d d]=.ret none:=by
 simp_arith [iT,ae,ag,af,iW,h,if_false,Bool.false_eq_true,Option.map_none]
theorem ZgX {w:Str} {i:Int} (h:w.length<=500000) (hn:bq w=some i):bA (am 0) mw [.un] (.str w)=.ret (.int i):=by
 obtain ⟨h1,rfl⟩:=qt hn
 simp_arith [mw,ae,ag,af,ZnG h h1]
theorem ZgW {w:Str} {ns:List Int} (h:w.length<=500000) (hn:bB w=some ns):bA (am 0) mv [.un] (.str w)=.ret (tI ns):=by
 have hs:small ((Txt.split w ⟨#[44]⟩).map PyData.str).length=true:=cA (by rw [List.length_map]; have:=du 44 w; omega)
 have e:=qF (f:=bq) (g:=PyData.int) (h:=bA (am 0) mw [.un]) (l:=Txt.split w ⟨#[44]⟩) (λx hx a ha=>ZgX (by have:=f8 hx; omega) ha) hn
 simp_arith [mv,gp,ae,ag,af,dR h,hs,e]
 rfl
theorem ZnF {t:Str} {ds:List (List Int)} (h:t.length<=500000) (hn:cC t=some ds):mX [.d (.str t)]=.ret (.d (fD ds)):=by
 have hs:small ((Txt.split t ⟨#[32]⟩).map PyData.str).length=true:=cA (by rw [List.length_map]; have:=du 32 t; omega)
 have e:=qF (f:=bB) (g:=tI) (h:=bA (am 0) mv [.un]) (l:=Txt.split t ⟨#[32]⟩) (λx hx a ha=>ZgW (by have:=f8 hx; omega) ha) hn
 simp_arith [mX,dh,ae,ag,af,ZnS,dR h,hs,e]
 rfl
theorem Zb2 {i:Int} (h:i.natAbs < 10 ^ 400):i.natAbs < 10 ^ 448:=Nat.lt_trans h (Nat.pow_lt_pow_right (by decide) (by decide))
theorem Zgs {w:Str} {i:Int} (hn:bq w=some i):bA (am 0) mr [.un] (.int i)=.ret (.str w):=by
 simp_arith [mr,ae,ag,af,Zdj (Zb2 (qr hn)),mK hn]
theorem Zgr {w:Str} {ns:List Int} (h:w.length<=500000) (hn:bB w=some ns):bA (am 0) mq [.un] (tI ns)=.ret (.str w):=by
 have hl:=fN hn
 have hs:small (ns.map PyData.int).length=true:=cA (by rw [List.length_map,hl]; have:=du 44 w; omega)
 have e:=mU (f:=bq) (g:=PyData.int) (h:=bA (am 0) mr [.un]) (l:=Txt.split w ⟨#[44]⟩) (λx hx a ha=>Zgs ha) hn
 have ej:av bL (.str ⟨#[44]⟩) (.list ((Txt.split w ⟨#[44]⟩).map PyData.str))=.ret (.str w):=by
  rw [ae (pA h),tjoin,StrLaws.join_split]
 unfold tI
 simp_arith [mq,gp,ae,ag,af,hs,e,ej]
theorem Znz {t:Str} {ds:List (List Int)} (h:t.length<=500000) (hn:cC t=some ds):mW [.d (fD ds)]=.ret (.d (.str t)):=by
 have hl:=fN hn
 have hs:small (ds.map tI).length=true:=cA (by rw [List.length_map,hl]; have:=du 32 t; omega)
 have e:=mU (f:=bB) (g:=tI) (h:=bA (am 0) mq [.un]) (l:=Txt.split t ⟨#[32]⟩) (λx hx a ha=>Zgr (by have:=f8 hx; omega) ha) hn
 have ej:av bL (.str ⟨#[32]⟩) (.list ((Txt.split t ⟨#[32]⟩).map PyData.str))=.ret (.str t):=by
  rw [ae (pA h),tjoin,StrLaws.join_split]
 unfold fD
 simp_arith [mW,dh,ae,ag,af,hs,e,ej]
theorem Zoh {w:Str} (h:w.length<=500000):bA (am 0) mz [.un] (.str w)=.ret (cv PyData.int (bq w)):=by
 simp_arith [mz,ae,ag,af,ZnI h]
 unfold bq
 cases b6 w.cps.toList <;> rfl
theorem ZcI:SeqAt.shaped .none=true:=by decide
theorem Zjm (i:Int):SeqAt.shaped (.int i)=true:=rfl
theorem Znv:PyData.eqv .none .none=true:=by simp [PyData.eqv]
theorem Znx (i:Int):PyData.eqv (.int i) .none=false:=by simp [PyData.eqv]
theorem Zjp {l:List Str} {α:Type} {f:Str->Option α} {g:α->PyData} (hsh:∀ x∈l,∀ a,f x=some a->SeqAt.shaped (g a)=true) (hg:∀ x∈l,∀ a,f x=some a->PyData.eqv (g a) .none=false) :
  av (iB false) .none (.list (l.map λx=>cv g (f x)))=.ret (.bool (bf f l).isNone):=by
 have hall:(l.map λx=>cv g (f x)).all SeqAt.shaped=true:=by
  rw [List.all_eq_true]
  intro y hy
  obtain ⟨x,hx,rfl⟩:=List.mem_map.mp hy
  cases hfx:f x with
  | none=>exact ZcI
  | some a=>exact hsh x hx a hfx
 have he:=ZhM (f:=f) (g:=g) (l:=l) (p:=λz=>PyData.eqv z .none) Znv hg
 show Tr.of (k7 false .none (.list _))=_
 unfold k7
 dsimp only
 rw [ZcI,hall,Bool.and_self,if_pos rfl]
 show Tr.ret (PyData.bool (List.any _ _))=_
 rw [he]
theorem Zdm {t:Str} (h:t.length<=500000):il [.d (.str t)]=.ret (.d (cv fD (cC t))):=by
 have key:∀ (l:List Str),(∀ w∈l,w.length<=500000)->∀ (pre:List (List Int)) (J2 J3:Sl),pre.length+l.length<=1000000 ->
   bS (am 2) fG (l.map PyData.str) [.d (.str t),.own (pre.map tI),J2,J3]=match bf bB l with
    | none=>.ret (.ret (.d .none))
    | some ds=>bS (am 2) fG [] [.d (.str t),.own ((pre++ds).map tI),(match l.getLast? with | none=>J2 | some w=>.d (.str w)),(match ds.getLast? with | none=>J3 | some n=>.d (.list (n.map PyData.int)))]:=by
  intro l
  induction l with
  | nil =>
   intro _ pre J2 J3 _
   show _=bS (am 2) fG [] [.d (.str t),.own ((pre++[]).map tI),J2,J3]
   rw [List.append_nil]
   rfl
  | cons w l ih =>
   intro hl pre J2 J3 hp
   have hw:=hl w (by simp)
   have hs:small ((Txt.split w ⟨#[44]⟩).map PyData.str).length=true:=cA (by rw [List.length_map]; have:=du 44 w; omega)
   have e1:=Zco (h:=bA (am 0) mz [.un]) (F:=λx=>cv PyData.int (bq x)) (l:=Txt.split w ⟨#[44]⟩) λx hx=>Zoh (by have:=f8 hx; omega)
   have e2:=Zjp (l:=Txt.split w ⟨#[44]⟩) (f:=bq) (g:=PyData.int) (λ_ _ a _=>Zjm a) (λ_ _ a _=>Znx a)
   have eb:bS (am 2) fG ((w::l).map PyData.str) [.d (.str t),.own (pre.map tI),J2,J3]=(fG [.d (.str t),.own (pre.map tI),.d (.str w),J3]).bind (gP (am 2) fG (l.map PyData.str)):=by
    rw [List.map_cons,nF]
    rfl
   rw [eb,gq]
   cases hd:bB w with
   | none =>
    have hd':(bf bq (Txt.split w ⟨#[44]⟩)).isNone=true:=by unfold bB at hd; rw [hd]; rfl
    rw [hd'] at e2
    simp_arith [fG,gp,ae,ag,af,dR hw,hs,e1,e2]
    rfl
   | some ns =>
    have hd':(bf bq (Txt.split w ⟨#[44]⟩)).isNone=false:=by unfold bB at hd; rw [hd]; rfl
    rw [hd'] at e2
    have e3:=Zb3 (f:=bq) (g:=PyData.int) (l:=Txt.split w ⟨#[44]⟩) hd
    have hs2:small ((pre.map tI).length+1)=true:=cA (by rw [List.length_map]; simp at hp; omega)
    rw [e3] at e1 e2
    have es:fG [.d (.str t),.own (pre.map tI),.d (.str w),J3]=.ret (.next [.d (.str t),.own ((pre++[ns]).map tI),.d (.str w),.d (.list (ns.map PyData.int))]):=by
     simp_arith [fG,gp,ae,ag,af,dR hw,hs,e1,e2,hs2,List.map_append]
     rfl
    rw [es,Tr.ret_bind,nK,ih (λv hv=>hl v (List.mem_cons_of_mem _ hv)) (pre++[ns]) _ _ (by simp at hp ⊢; omega)]
    cases ha:bf bB l with
    | none=>rfl
    | some ds =>
     show bS _ _ [] _=bS _ _ [] _
     rw [List.append_assoc]
     congr 1
     have e5:(match l.getLast? with | none=>Sl.d (.str w) | some v=>.d (.str v))=(match (w::l).getLast? with | none=>J2 | some v=>.d (.str v)):=by
      rw [List.getLast?_cons]
      cases l.getLast? <;> rfl
     have e6:(match ds.getLast? with | none=>Sl.d (.list (ns.map PyData.int)) | some n=>.d (.list (n.map PyData.int)))=(match (ns::ds).getLast? with | none=>J3 | some n=>.d (.list (n.map PyData.int))):=by
      rw [List.getLast?_cons]
      cases ds.getLast? <;> rfl
     rw [e5,e6]
     rfl
 have hk:=key (Txt.split t ⟨#[32]⟩) (λw hw=>by have:=f8 hw; omega) [] .un .un (by have:=du 32 t; simp; omega)
 rw [List.map_nil] at hk
 unfold cC
 cases ha:bf bB (Txt.split t ⟨#[32]⟩) with
 | none =>
  rw [ha] at hk
  simp_arith [il,dh,ae,ag,af,dR h,hk]
  rfl
 | some ds =>
  rw [ha] at hk
  simp_arith [il,dh,ae,ag,af,dR h,hk]
  rfl
theorem Zjg (n:Int):gL "int" (fw (.int n))=true:=rfl
theorem Zjh (n:Int):gL "bool" (fw (.int n))=false:=rfl
theorem fJ (xs:List PyData):gL "tuple" (fw (.tuple xs))=true:=rfl
theorem Zdi (n:Int):ni [.d (.int n)]=.ret (.d (.bool true)):=by
 simp_arith [ni,ae,ag,af,Zjg,Zjh,Bool.not_false]
noncomputable def wI (a b n:Int):Bool:=decide (a<=n) && decide (n<=b)
theorem Zdh (n a b:Int):ju [.d (.int n),.d (.int a),.d (.int b)]=.ret (.d (.bool (wI a b n))):=by
 unfold wI
 by_cases h:a<=n
 ·simp_arith [ju,ae,ag,af,Zdi,decide_eq_true h,Bool.true_and]
 ·simp_arith [ju,ae,ag,af,Zdi,decide_eq_false h,Bool.false_and]
theorem kT {h:PyData->Tr PyData} {α:Type} {g:α->PyData} {f:α->Bool}:∀ {xs:List α},(∀ x∈xs,h (g x)=.ret (.bool (f x)))->bJ h (xs.map g)=.ret ((xs.map f).map PyData.bool)
 | [],_=>rfl
 | x::xs,hx=>by
  rw [List.map_cons,bJ,hx x (by simp),Tr.ret_bind,kT λy hy=>hx y (List.mem_cons_of_mem _ hy)]
  rfl
theorem su {α:Type} {f:α->Bool} (l:List α):(l.map f).all id=l.all f:=by simp [List.all_map]
theorem Zpv {α:Type} {f:α->Bool} (l:List α):(l.map f).any id=l.any f:=by simp [List.any_map]
noncomputable def cr (ns:List Int):Bool:=decide (ns.length=9) && ns.all (wI 0 1000000) && decide (ns.getD 0 0+ns.getD 1 0<=39)
theorem ZnM {ns:List Int} (hl:ns.length<=1000000):jv [.d (tI ns)]=.ret (.d (.bool (cr ns))):=by
 have em:=kT (h:=bA (am 0) pX [.un]) (g:=PyData.int) (f:=wI 0 1000000) (xs:=ns) λn _=>by
  simp_arith [pX,ae,ag,af,Zdh]
 have ea:=le (ns.map (wI 0 1000000))
 rw [su] at ea
 have hs:small (ns.map PyData.int).length=true:=cA (by rw [List.length_map]; omega)
 unfold tI
 by_cases h9:ns.length=9
 ·have e9:(((ns.map PyData.int).length:Int) == 9)=true:=by rw [List.length_map,h9]; rfl
  cases ha:ns.all (wI 0 1000000) with
  | false =>
   rw [ha] at ea
   have e:cr ns=false:=by unfold cr; rw [ha]; simp
   rw [e]
   simp_arith [jv,ae,ag,af,fJ,e9,Bool.not_true,hs,em,ea,Bool.not_false]
  | true =>
   rw [ha] at ea
   have e:cr ns=decide (ns.getD 0 0+ns.getD 1 0<=39):=by unfold cr; rw [ha,decide_eq_true h9]; simp
   rw [e]
   have x0:bd (ns.map PyData.int) 0=some (.int (ns.getD 0 0)):=by
    match ns,h9 with
    | a::b::r,_=>exact gR
   have x1:bd (ns.map PyData.int) 1=some (.int (ns.getD 1 0)):=by
    match ns,h9 with
    | a::b::r,_=>exact jN
   simp_arith [jv,ae,ag,af,fJ,e9,Bool.not_true,hs,em,ea,x0,x1]
 ·have e9:(((ns.map PyData.int).length:Int) == 9)=false:=beq_eq_false_iff_ne.mpr (by rw [List.length_map]; omega)
  have e:cr ns=false:=by unfold cr; rw [decide_eq_false h9]; rfl
  rw [e]
  simp_arith [jv,ae,ag,af,fJ,e9,Bool.not_true,Bool.not_false]
noncomputable def bD (ns:List Int):Bool:=decide (1<=ns.length/\ns.length<=8) && ns.all (wI 0 1000) && ns.any (λn=>decide (n > 0))
theorem ZnN {ns:List Int} (hl:ns.length<=1000000):io [.d (tI ns)]=.ret (.d (.bool (bD ns))):=by
 have em:=kT (h:=bA (am 0) p4 [.un]) (g:=PyData.int) (f:=wI 0 1000) (xs:=ns) λn _=>by
  simp_arith [p4,ae,ag,af,Zdh]
 have em2:=kT (h:=bA (am 0) pZ [.un]) (g:=PyData.int) (f:=λn=>decide (n > 0)) (xs:=ns) λn _=>by
  simp_arith [pZ,ae,ag,af]
 have ea:=le (ns.map (wI 0 1000))
 have eb:=Zdc (ns.map λn=>decide (n > 0))
 rw [su] at ea
 rw [Zpv] at eb
 have hs:small (ns.map PyData.int).length=true:=cA (by rw [List.length_map]; omega)
 unfold tI
 by_cases h1:1<=ns.length
 ·have d1:decide ((1:Int)<=((ns.map PyData.int).length:Int))=true:=decide_eq_true (by rw [List.length_map]; omega)
  by_cases h8:ns.length<=8
  ·have d8:decide (((ns.map PyData.int).length:Int)<=8)=true:=decide_eq_true (by rw [List.length_map]; omega)
   cases ha:ns.all (wI 0 1000) with
   | false =>
    rw [ha] at ea
    have e:bD ns=false:=by unfold bD; rw [ha]; simp
    rw [e]
    simp_arith [io,ae,ag,af,fJ,d1,d8,Bool.not_true,hs,em,ea,Bool.not_false]
   | true =>
    rw [ha] at ea
    have e:bD ns=ns.any (λn=>decide (n > 0)):=by unfold bD; rw [ha,decide_eq_true ⟨h1,h8⟩]; simp
    rw [e]
    simp_arith [io,ae,ag,af,fJ,d1,d8,Bool.not_true,hs,em,ea,em2,eb]
  ·have d8:decide (((ns.map PyData.int).length:Int)<=8)=false:=decide_eq_false (by rw [List.length_map]; omega)
   have e:bD ns=false:=by unfold bD; rw [decide_eq_false λz=>h8 z.2]; rfl
   rw [e]
   simp_arith [io,ae,ag,af,fJ,d1,d8,Bool.not_true,Bool.not_false]
 ·have d1:decide ((1:Int)<=((ns.map PyData.int).length:Int))=false:=decide_eq_false (by rw [List.length_map]; omega)
  have e:bD ns=false:=by unfold bD; rw [decide_eq_false λz=>h1 z.1]; rfl
  rw [e]
  simp_arith [io,ae,ag,af,fJ,d1,Bool.not_true,Bool.not_false]
noncomputable def b9 (ds:List (List Int)):Bool:=decide (1<=ds.length/\ds.length<=6) && ds.all bD
theorem Zdk {ds:List (List Int)} (hl:ds.length<=1000000) (hd:∀ d∈ds,d.length<=1000000):im [.d (fD ds)]=.ret (.d (.bool (b9 ds))):=by
 have em:=kT (h:=bA (am 0) pY [.un]) (g:=tI) (f:=bD) (xs:=ds) λn hn=>by
  simp_arith [pY,ae,ag,af,ZnN (hd n hn)]
 have ea:=le (ds.map bD)
 rw [su] at ea
 have hs:small (ds.map tI).length=true:=cA (by rw [List.length_map]; omega)
 unfold fD
 by_cases h1:1<=ds.length
 ·have d1:decide ((1:Int)<=((ds.map tI).length:Int))=true:=decide_eq_true (by rw [List.length_map]; omega)
  by_cases h8:ds.length<=6
  ·have d8:decide (((ds.map tI).length:Int)<=6)=true:=decide_eq_true (by rw [List.length_map]; omega)
   have e:b9 ds=ds.all bD:=by unfold b9; rw [decide_eq_true ⟨h1,h8⟩]; rfl
   rw [e]
   simp_arith [im,ae,ag,af,fJ,d1,d8,Bool.not_true,hs,em,ea]
  ·have d8:decide (((ds.map tI).length:Int)<=6)=false:=decide_eq_false (by rw [List.length_map]; omega)
   have e:b9 ds=false:=by unfold b9; rw [decide_eq_false λz=>h8 z.2]; rfl
   rw [e]
   simp_arith [im,ae,ag,af,fJ,d1,d8,Bool.not_true,Bool.not_false]
 ·have d1:decide ((1:Int)<=((ds.map tI).length:Int))=false:=decide_eq_false (by rw [List.length_map]; omega)
  have e:b9 ds=false:=by unfold b9; rw [decide_eq_false λz=>h1 z.1]; rfl
  rw [e]
  simp_arith [im,ae,ag,af,fJ,d1,Bool.not_true,Bool.not_false]
noncomputable def eg (t:Str):Option (List Int):=(bf bq (Txt.split t ⟨#[32]⟩)).bind λns=>if cr ns=true then some ns else none
theorem Zf6 {t:Str} {ns:List Int} (h:eg t=some ns):bf bq (Txt.split t ⟨#[32]⟩)=some ns/\cr ns=true:=by
 unfold eg at h
 obtain ⟨ms,h1,h2⟩:=Option.bind_eq_some_iff.mp h
 split at h2
 ·rename_i hc
  cases h2
  exact ⟨h1,hc⟩
 ·cases h2
theorem Zf5 {t:Str} {ns:List Int} (h:eg t=some ns):Rp (tI ns) 1 (13 * (t.length+1)):=pL (λw a h=>Zcc h) (Zf6 h).1
theorem ZeP {w:Str} (h:w.length<=500000):fS (am 0) mi [.un] (.str w)=.ret ((bq w).map PyData.int):=by
 simp_arith [mi,ae,ag,af,Zak h]
 unfold bq
 cases b6 w.cps.toList <;> rfl
theorem ZeR {t:Str} (h:t.length<=500000):dZ [.d (.str t)]=.ret ((eg t).map λns=>.d (tI ns)):=by
 have hs:small ((Txt.split t ⟨#[32]⟩).map PyData.str).length=true:=cA (by rw [List.length_map]; have:=du 32 t; omega)
 have e:=mT (f:=bq) (g:=PyData.int) (h:=fS (am 0) mi [.un]) (l:=Txt.split t ⟨#[32]⟩) λx hx=>ZeP (by have:=f8 hx; omega)
 unfold eg
 cases ha:bf bq (Txt.split t ⟨#[32]⟩) with
 | none =>
  rw [ha] at e
  simp_arith [dZ,dh,ae,ag,af,iW,dw,if_true,Option.map_some,dR h,hs,e,Option.map_none]
  rfl
 | some ns =>
  rw [ha] at e
  have hl:=fN ha
  have es:=ZnM (ns:=ns) (by rw [hl]; have:=du 32 t; omega)
  unfold tI at es
  show _=Tr.ret (Option.map _ (if cr ns=true then some ns else none))
  cases hb:cr ns with
  | false =>
   rw [hb] at es
   simp_arith [dZ,dh,ae,ag,af,iW,dw,if_true,Option.map_some,dR h,hs,e,es,Bool.not_false]
   rfl
  | true =>
   rw [hb] at es
   simp_arith [dZ,dh,ae,ag,af,iW,dw,if_true,Option.map_some,dR h,hs,e,es,Bool.not_true]
   rfl
theorem ZeQ {d:PyData} (h:dw d=false):dZ [.d d]=.ret none:=by
 simp_arith [dZ,ae,ag,af,iW,h,if_false,Bool.false_eq_true,Option.map_none]
theorem md {t:Str} {ds:List (List Int)} (h:cC t=some ds):ds.length<=t.length+1/\∀ d∈ds,d.length<=t.length+1:=by
 have hl:=fN h
 refine ⟨by rw [hl]; exact du 32 t,?_⟩
 have key:∀ {l:List Str} {as:List (List Int)},bf bB l=some as->(∀ w∈l,w.length<=t.length)->∀ d∈as,d.length<=t.length+1:=by
  intro l
  induction l with
  | nil=>intro as e _ d hd; cases (show some ([]:List (List Int))=some as from e); cases hd
  | cons w l ih =>
   intro as e hw d hd
   obtain ⟨a,as',h1,h2,rfl⟩:=gT.mp e
   rcases List.mem_cons.mp hd with rfl | hd
   ·have:=fN h1
    have:=du 44 w
    have:=hw w (by simp)
    omega
   ·exact ih h2 (λv hv=>hw v (List.mem_cons_of_mem _ hv)) d hd
 exact key h λw hw=>f8 hw
noncomputable def dM (t:Str):Option (List (List Int)):=(cC t).bind λds=>if b9 ds=true then some ds else none
theorem Zc3 {t:Str} {ds:List (List Int)} (h:dM t=some ds):cC t=some ds/\b9 ds=true:=by
 unfold dM at h
 obtain ⟨ms,h1,h2⟩:=Option.bind_eq_some_iff.mp h
 split at h2
 ·rename_i hc
  cases h2
  exact ⟨h1,hc⟩
 ·cases h2
theorem Zj4 {t:Str} {ds:List (List Int)} (h:dM t=some ds):Rp (fD ds) 2 (25 * (t.length+1)):=ZgA (Zc3 h).1
theorem ZeX {t:Str} (h:t.length<=500000):fv [.d (.str t)]=.ret ((dM t).map λds=>.d (fD ds)):=by
 have e:=ZeV h
 unfold dM
 cases ha:cC t with
 | none =>
  rw [ha] at e
  simp_arith [fv,ae,ag,af,e,Option.map_none]
  rfl
 | some ds =>
  rw [ha] at e
  obtain ⟨k1,k2⟩:=md ha
  have es:=Zdk (ds:=ds) (by omega) (λd hd=>by have:=k2 d hd; omega)
  show _=Tr.ret (Option.map _ (if b9 ds=true then some ds else none))
  cases hb:b9 ds with
  | false =>
   rw [hb] at es
   simp_arith [fv,ae,ag,af,e,Option.map_some,es,Bool.not_false]
   rfl
  | true =>
   rw [hb] at es
   simp_arith [fv,ae,ag,af,e,Option.map_some,es,Bool.not_true]
   rfl
theorem ZeW {d:PyData} (h:dw d=false):fv [.d d]=.ret none:=by
 simp_arith [fv,ae,ag,af,ZeU h,Option.map_none]
theorem ZnH {t:Str} {ds:List (List Int)} (h:t.length<=500000) (hn:dM t=some ds):mZ [.d (.str t)]=.ret (.d (fD ds)):=by
 obtain ⟨h1,h2⟩:=Zc3 hn
 obtain ⟨k1,k2⟩:=md h1
 have es:=Zdk (ds:=ds) (by omega) (λd hd=>by have:=k2 d hd; omega)
 rw [h2] at es
 simp_arith [mZ,ae,ag,af,ZnF h h1,es,Bool.not_true]
theorem ZnA {t:Str} {ds:List (List Int)} (h:t.length<=500000) (hn:cC t=some ds):kW [.d (fD ds)]=.ret (.d (.str t)):=by
 simp_arith [kW,ae,ag,af,Znz h hn]
theorem Zgp {w:Str} {i:Int} (hn:bq w=some i):bA (am 0) mo [.un] (.int i)=.ret (.str w):=by
 simp_arith [mo,ae,ag,af,Zdj (Zb2 (qr hn)),mK hn]
theorem Zny {t:Str} {ns:List Int} (h:t.length<=500000) (hn:bf bq (Txt.split t ⟨#[32]⟩)=some ns):kU [.d (tI ns)]=.ret (.d (.str t)):=by
 have hl:=fN hn
 have hs:small (ns.map PyData.int).length=true:=cA (by rw [List.length_map,hl]; have:=du 32 t; omega)
 have e:=mU (f:=bq) (g:=PyData.int) (h:=bA (am 0) mo [.un]) (l:=Txt.split t ⟨#[32]⟩) (λx hx a ha=>Zgp ha) hn
 have ej:av bL (.str ⟨#[32]⟩) (.list ((Txt.split t ⟨#[32]⟩).map PyData.str))=.ret (.str t):=by
  rw [ae (pA h),tjoin,StrLaws.join_split]
 unfold tI
 simp_arith [kU,dh,ae,ag,af,hs,e,ej]
theorem Zic {w:Str} {n:Int} (h:bq w=some n) {c:Nat} (h1:c≠45) (h2:¬ (48<=c/\c<=57)):c ∉ w.cps.toList:=by
 rw [<- mK h,eG]
 unfold b7
 have h:=iH n.natAbs
 split
 ·intro hm
  rcases List.mem_cons.mp hm with e | hm
  ·exact h1 e
  ·exact h2 (h c hm)
 ·intro hm
  exact h2 (h c hm)
noncomputable def one? (ns:List Int):Option Int:=match ns with
 | [n]=>some n
 | _=>none
theorem Zid (w:Str):bq w=(bB w).bind one?:=by
 cases hn:bq w with
 | some n =>
  have hs:Txt.split w ⟨#[44]⟩=[w]:=by
   have:=pB (c:=44) (ps:=[w]) (by simp) (λp hp=>by rw [List.mem_singleton.mp hp]; exact Zic hn (by decide) (by decide))
   exact this
  unfold bB
  rw [hs,gq,hn]
  rfl
 | none =>
  cases hd:bB w with
  | none=>rfl
  | some ns =>
   show none=one? ns
   unfold one?
   split
   ·rename_i n
    have hl:=fN hd
    have hj:=StrLaws.join_split w ⟨#[44]⟩
    unfold bB at hd
    cases hs:Txt.split w ⟨#[44]⟩ with
    | nil=>rw [hs] at hl; cases hl
    | cons v r =>
     cases r with
     | cons v2 r=>rw [hs] at hl; simp at hl
     | nil =>
      rw [hs] at hj hd
      have e:v=w:=hj
      obtain ⟨a,as,k1,_,_⟩:=gT.mp hd
      rw [e,hn] at k1
      cases k1
   ·rfl
theorem ZdI {w:Str} {ns:List Int} (h:bB w=some ns):ns≠[]:=by
 intro e
 have hl:=fN h
 have:=split_pos w ⟨#[44]⟩
 rw [e] at hl
 simp at hl
 rw [<- hl] at this
 exact absurd this (by decide)
noncomputable def ones (ds:List (List Int)):Bool:=ds.all λd=>decide (d.length=1)
noncomputable def dL (d:List Int):Int:=d.getD 0 0
theorem Zeu:∀ ws:List Str,bf bq ws=(bf bB ws).bind λds=>if ones ds=true then some (ds.map dL) else none
 | []=>rfl
 | w::ws=>by
  rw [gq,gq,Zid,Zeu ws]
  cases hd:bB w with
  | none=>rfl
  | some ns =>
   have hne:=ZdI hd
   match ns,hne with
   | [n],_ =>
    show ((bf bB ws).bind _).map _=((bf bB ws).map _).bind _
    cases bf bB ws with
    | none=>rfl
    | some ds =>
     show (if ones ds=true then some (ds.map dL) else none).map _=if ones ([n]::ds)=true then some (([n]::ds).map dL) else none
     have e:ones ([n]::ds)=ones ds:=by unfold ones; rw [List.all_cons]; rfl
     rw [e]
     cases ones ds <;> rfl
   | a::b::r,_ =>
    show none=((bf bB ws).map _).bind _
    cases bf bB ws with
    | none=>rfl
    | some ds =>
     show none=if ones ((a::b::r)::ds)=true then some (((a::b::r)::ds).map dL) else none
     have e:ones ((a::b::r)::ds)=false:=by
      unfold ones
      rw [List.all_cons,decide_eq_false (by simp)]
      rfl
     rw [e]
     rfl
theorem Zcl {ns:List Int} (h:ns≠[]):bw jr [.tuple (ns.map PyData.int)]=.ret (.int (da ns)):=by
 unfold bw jr eX
 simp [h,fI]
theorem Zcn {ns:List Int} (h:ns≠[]):bw gg [.tuple (ns.map PyData.int)]=.ret (.int (ck ns)):=by
 unfold bw gg eX
 simp [h,fI]
theorem Zet {ns:List Int} (h:ns≠[]) (b:Int):ns.all (wI 0 b)=(!decide (da ns < 0) && !decide (ck ns > b)):=by
 obtain ⟨m1,m2⟩:=mR h
 obtain ⟨m3,m4⟩:=mS h
 rw [Bool.eq_iff_iff,List.all_eq_true]
 simp only [Bool.and_eq_true,Bool.not_eq_true',decide_eq_false_iff_not]
 unfold wI
 constructor
 ·intro hh
  have a1:=hh _ m1
  have a2:=hh _ m3
  simp only [Bool.and_eq_true,decide_eq_true_eq] at a1 a2
  exact ⟨by omega,by omega⟩
 ·rintro ⟨a1,a2⟩ n hn
  have:=m2 n hn
  have:=m4 n hn
  simp only [Bool.and_eq_true,decide_eq_true_eq]
  exact ⟨by omega,by omega⟩
theorem so1 {d:List Int}:ir (am 0) kL kI [.un] (tI d)=.ret (if decide (d.length > 1)=true then some (tI d) else none):=by
 unfold tI
 have e:decide (((d.map PyData.int).length:Int) > 1)=decide (d.length > 1):=by
  rw [List.length_map]
  by_cases h:d.length > 1
  ·rw [decide_eq_true h,decide_eq_true (by omega)]
  ·rw [decide_eq_false h,decide_eq_false (by omega)]
 simp_arith [kL,kI,ae,ag,af,e]
 cases decide (d.length > 1) <;> rfl
theorem so2:∀ ds:List (List Int),dP (ir (am 0) kL kI [.un]) (ds.map tI)=.ret ((ds.filter λd=>decide (d.length > 1)).map tI)
 | []=>rfl
 | d::ds=>by
  rw [List.map_cons,dP,so1,Tr.ret_bind,so2 ds,Tr.ret_bind,List.filter_cons]
  cases decide (d.length > 1) <;> rfl
theorem so3 {d:List Int} (h:d≠[]):bA (am 0) kH [.un] (tI d)=.ret (.int (dL d)):=by
 unfold tI
 have e:bd (d.map PyData.int) 0=some (.int (dL d)):=by
  match d,h with
  | a::r,_=>exact gR
 simp_arith [kH,ae,ag,af,e]
theorem so4:∀ {ds:List (List Int)},(∀ d∈ds,d≠[])->bJ (bA (am 0) kH [.un]) (ds.map tI)=.ret ((ds.map dL).map PyData.int)
 | [],_=>rfl
 | d::ds,h=>by
  rw [List.map_cons,bJ,so3 (h d (by simp)),Tr.ret_bind,so4 λe he=>h e (List.mem_cons_of_mem _ he)]
  rfl
theorem Za1 {t:Str} {ds:List (List Int)} (h:cC t=some ds):∀ d∈ds,d≠[]:=by
 have key:∀ {l:List Str} {as:List (List Int)},bf bB l=some as->∀ d∈as,d≠[]:=by
  intro l
  induction l with
  | nil=>intro as e d hd; cases (show some ([]:List (List Int))=some as from e); cases hd
  | cons w l ih =>
   intro as e d hd
   obtain ⟨a,as',h1,h2,rfl⟩:=gT.mp e
   rcases List.mem_cons.mp hd with rfl | hd
   ·exact ZdI h1
   ·exact ih h2 d hd
 exact key h
theorem Zj1 {ds:List (List Int)} (h:∀ d∈ds,d≠[]):((ds.filter λd=>decide (d.length > 1)).map tI).isEmpty=ones ds:=by
 induction ds with
 | nil=>rfl
 | cons d ds ih =>
  have ih:=ih λe he=>h e (List.mem_cons_of_mem _ he)
  have hd:=h d (by simp)
  have:0 < d.length:=List.length_pos_iff.mpr hd
  unfold ones at ih ⊢
  rw [List.filter_cons,List.all_cons]
  by_cases h1:d.length > 1
  ·rw [decide_eq_true h1,decide_eq_false (by omega)]
   rfl
  ·rw [decide_eq_false h1,decide_eq_true (by omega)]
   exact ih
noncomputable def ib (ds:List (List Int)):Option (List Int):=if ones ds=true then (if cr (ds.map dL)=true then some (ds.map dL) else none) else none
theorem Zf7 (t:Str):eg t=(cC t).bind ib:=by
 unfold eg cC
 rw [Zeu]
 cases bf bB (Txt.split t ⟨#[32]⟩) with
 | none=>rfl
 | some ds =>
  show (if ones ds=true then some (ds.map dL) else none).bind _=ib ds
  unfold ib
  cases ones ds <;> rfl
theorem Zgc {ds:List (List Int)} (h:∀ d∈ds,d≠[]) (hl:ds.length<=1000000) (A:Sl):(au (bv (cq (aP (ah iA (aa 1) (aC .none))) (cq (aP (ah c8 (aR cU (ai (aa 1) aj)) (aC (.int 9)))) (aP (ah jm (aY (jR (bV (aa 1)) 1 [] (am 0) kL kI)) (aY (bW aj)))))) (aV (aC .none)) bi) (au (bt 2 (aR c6 (ai (aY (bX (bV (aa 1)) 1 [] (am 0) kH)) aj))) (au (bv (cq (aP (ah (bO λi j=>decide (i < j)) (aR jr (ai (aa 2) aj)) (aC (.int 0)))) (cq (aP (ah (bO λi j=>decide (i > j)) (aR gg (ai (aa 2) aj)) (aC (.int 1000000)))) (aP (ah (bO λi j=>decide (i > j)) (ah aS (ah cm (aa 2) (aC (.int 0))) (ah cm (aa 2) (aC (.int 1)))) (aC (.int 39)))))) (aV (aC .none)) bi) (eM 2)))) [A,.d (fD ds),.un]=.ret (.ret (.d (cv tI (ib ds)))):=by
 have hN:eE (.tuple (ds.map tI))=false:=rfl
 have hs:small (ds.map tI).length=true:=cA (by rw [List.length_map]; omega)
 have ef:=so2 ds
 have ee:=Zj1 h
 unfold fD
 by_cases h9:ds.length=9
 ·have e9:(((ds.map tI).length:Int) == 9)=true:=by rw [List.length_map,h9]; rfl
  unfold ib
  cases ho:ones ds with
  | false =>
   rw [ho] at ee
   simp_arith [ae,ag,af,hN,e9,Bool.not_true,Bool.not_false,hs,ef,dA,ee]
   rfl
  | true =>
   rw [ho] at ee
   have em:=so4 h
   have hne:ds.map dL≠[]:=by intro e; have:=congrArg List.length e; rw [List.length_map,h9] at this; cases this
   have hl9:(ds.map dL).length=9:=by rw [List.length_map,h9]
   generalize ds.map dL=ns at *
   have emin:=Zcl hne
   have emax:=Zcn hne
   have hall:=Zet hne 1000000
   have x0:bd (ns.map PyData.int) 0=some (.int (ns.getD 0 0)):=by
    match ns,hl9 with
    | a::b::r,_=>exact gR
   have x1:bd (ns.map PyData.int) 1=some (.int (ns.getD 1 0)):=by
    match ns,hl9 with
    | a::b::r,_=>exact jN
   have eS:cr ns=(!decide (da ns < 0) && !decide (ck ns > 1000000) && decide (ns.getD 0 0+ns.getD 1 0<=39)):=by
    unfold cr
    rw [hall,decide_eq_true hl9,Bool.true_and]
   rw [eS]
   have e39:decide (ns.getD 0 0+ns.getD 1 0 > 39)=!decide (ns.getD 0 0+ns.getD 1 0<=39):=by
    by_cases hq:ns.getD 0 0+ns.getD 1 0<=39
    ·rw [decide_eq_true hq,decide_eq_false (by omega)]; rfl
    ·rw [decide_eq_false hq,decide_eq_true (by omega)]; rfl
   cases k1:decide (da ns < 0) with
   | true =>
    simp_arith [ae,ag,af,hN,e9,Bool.not_true,hs,ef,dA,ee,em,emin,k1]
    rfl
   | false =>
    cases k2:decide (ck ns > 1000000) with
    | true =>
     simp_arith [ae,ag,af,hN,e9,Bool.not_true,hs,ef,dA,ee,em,emin,emax,k1,k2]
     rfl
    | false =>
     cases k3:decide (ns.getD 0 0+ns.getD 1 0<=39) with
     | true =>
      rw [k3] at e39
      simp_arith [ae,ag,af,hN,e9,Bool.not_true,hs,ef,dA,ee,em,emin,emax,k1,k2,x0,x1,e39]
      rfl
     | false =>
      rw [k3] at e39
      simp_arith [ae,ag,af,hN,e9,Bool.not_true,Bool.not_false,hs,ef,dA,ee,em,emin,emax,k1,k2,x0,x1,e39]
      rfl
 ·have e9:(((ds.map tI).length:Int) == 9)=false:=beq_eq_false_iff_ne.mpr (by rw [List.length_map]; omega)
  have e:ib ds=none:=by
   unfold ib
   cases ones ds with
   | false=>rfl
   | true =>
    have:cr (ds.map dL)=false:=by unfold cr; rw [List.length_map,decide_eq_false h9]; rfl
    rw [this]
    rfl
  rw [e]
  simp_arith [ae,ag,af,hN,e9,Bool.not_false]
  rfl
theorem fo1 {d:List Int} (h:d≠[]) (A B:Sl):eC [A,B,.d (tI d)]=.ret (if bD d=true then .next [A,B,.d (tI d)] else .ret (.d .none)):=by
 have hp:0 < d.length:=List.length_pos_iff.mpr h
 have emin:=Zcl h
 have emax:=Zcn h
 have hall:=Zet h 1000
 obtain ⟨m3,m4⟩:=mS h
 have e8:decide (((d.map PyData.int).length:Int) > 8)=!decide (1<=d.length/\d.length<=8):=by
  rw [List.length_map]
  by_cases hq:d.length<=8
  ·have a1:decide (1<=d.length/\d.length<=8)=true:=decide_eq_true ⟨by omega,hq⟩
   have a2:decide ((d.length:Int) > 8)=false:=decide_eq_false (by omega)
   rw [a1,a2]; rfl
  ·have a1:decide (1<=d.length/\d.length<=8)=false:=decide_eq_false λz=>hq z.2
   have a2:decide ((d.length:Int) > 8)=true:=decide_eq_true (by omega)
   rw [a1,a2]; rfl
 have eany:d.any (λn=>decide (n > 0))=decide (ck d > 0):=by
  rw [Bool.eq_iff_iff,List.any_eq_true,decide_eq_true_eq]
  constructor
  ·rintro ⟨n,hn,hz⟩
   have:=m4 n hn
   have:=of_decide_eq_true hz
   omega
  ·intro hz
   exact ⟨_,m3,decide_eq_true hz⟩
 have eB:bD d=(decide (1<=d.length/\d.length<=8) && (!decide (da d < 0) && !decide (ck d > 1000)) && decide (ck d > 0)):=by
  unfold bD
  rw [hall,eany]
 rw [eB]
 unfold tI
 cases k0:decide (1<=d.length/\d.length<=8) with
 | false =>
  rw [k0] at e8
  simp_arith [eC,ae,ag,af,e8,Bool.not_false]
  rfl
 | true =>
  rw [k0] at e8
  cases k1:decide (da d < 0) with
  | true =>
   simp_arith [eC,ae,ag,af,e8,Bool.not_true,emin,k1]
   rfl
  | false =>
   have hmin:=of_decide_eq_false k1
   have hle:da d<=ck d:=(mR h).2 _ m3
   cases k2:decide (ck d > 1000) with
   | true =>
    simp_arith [eC,ae,ag,af,e8,Bool.not_true,emin,emax,k1,k2]
    rfl
   | false =>
    by_cases k3:ck d > 0
    ·have k3':(ck d == 0)=false:=beq_eq_false_iff_ne.mpr (by omega)
     rw [decide_eq_true k3]
     simp_arith [eC,ae,ag,af,e8,Bool.not_true,emin,emax,k1,k2,k3']
     rfl
    ·have k3':(ck d == 0)=true:=beq_iff_eq.mpr (by omega)
     rw [decide_eq_false k3]
     simp_arith [eC,ae,ag,af,e8,Bool.not_true,emin,emax,k1,k2,k3']
     rfl
theorem fo2 {A B:Sl}:∀ {ds:List (List Int)} {J:Sl},(∀ d∈ds,d≠[])->(ds.all bD=false/\bS (am 2) eC (ds.map tI) [A,B,J]=.ret (.ret (.d .none)))\/(ds.all bD=true/\∃ J',bS (am 2) eC (ds.map tI) [A,B,J]=.ret (.next [A,B,J']))
 | [],J,_=>.inr ⟨rfl,J,rfl⟩
 | d::ds,J,h=>by
  have e1:=fo1 (h d (by simp)) A B
  have ef:bS (am 2) eC ((d::ds).map tI) [A,B,J]=(eC [A,B,.d (tI d)]).bind (gP (am 2) eC (ds.map tI)):=by
   rw [List.map_cons,nF]
   rfl
  rw [ef,e1,List.all_cons]
  cases hd:bD d with
  | false=>exact .inl ⟨rfl,rfl⟩
  | true =>
   have:=fo2 (A:=A) (B:=B) (ds:=ds) (J:=.d (tI d)) λe he=>h e (List.mem_cons_of_mem _ he)
   exact this
theorem aL (n:Int):bK [.pen,.d (.int n)]=.draw n λr=>.ret (.d (.int r)):=rfl
theorem Zgt:Al (na [.pen]) 4 λr=>∃ n:Int,r=.d (.int n)/\0<=n/\n<=1000000:=by
 simp_arith [na,ae,ag,af,aL]
 refine bU (n:=3) (by decide) (by decide) (by decide) λw w0 w1=>?_
 try simp_arith [ae,ag,af,aL]
 refine bU (n:=2) (by decide) (by decide) (by decide) λx x0 x1=>?_
 try simp_arith [ae,ag,af,aL]
 refine bU (n:=1) (by decide) (by decide) (by decide) λy y0 y1=>?_
 try simp_arith [ae,ag,af,aL]
 refine bU (n:=0) (by decide) (by decide) (by decide) λz z0 z1=>?_
 obtain ⟨m,hm,m0,m1⟩:=qe (xs:=[PyData.int 0,.int 1,.int x,.int y,.int 1000000,.int z]) (lo:=0) (hi:=1000000) (by simp [gM]; omega) w0 w1
 simp_arith [ae,ag,af,aL,hm]
 exact cy ⟨m,rfl,m0,m1⟩
theorem lR:Al (bJ (bA (am 0) pU [.un,.pen]) (cw 0 7)) 28 λys=>∃ ps:List Int,ys=ps.map PyData.int/\ps.length=7/\∀ p∈ps,0<=p/\p<=1000000:=by
 refine nZ (n:=4) (P:=gM 0 1000000) (by rw [cS]; decide) (λx hx=>?_) λys hl hys=>?_
 ·simp_arith [pU,ae,ag,af,aL]
  refine cP (n:=4) (n':=0) Zgt (by decide) ?_
  rintro _ ⟨n,rfl,h0,h1⟩
  simp_arith [ae,ag,af,aL]
  exact cy ⟨_,rfl,h0,h1⟩
 ·obtain ⟨ns,e,hn⟩:=rj hys
  refine ⟨ns,e,?_,hn⟩
  rw [e,List.length_map,cS] at hl
  exact hl
theorem lI {t d:Int} {ps:List Int} (h0:0<=t) (h1:0<=d) (h2:t+d<=39) (hl:ps.length=7) (hb:∀ p∈ps,0<=p/\p<=1000000):cr (t::d::ps)=true:=by
 unfold cr
 rw [Bool.and_eq_true,Bool.and_eq_true,List.all_eq_true]
 refine ⟨⟨decide_eq_true (by rw [List.length_cons,List.length_cons,hl]),λn hn=>?_⟩,decide_eq_true h2⟩
 unfold wI
 rw [Bool.and_eq_true]
 have:0<=n/\n<=1000000:=by
  rcases List.mem_cons.mp hn with q | q
  ·subst q; omega
  ·rcases List.mem_cons.mp q with q | q
   ·subst q; omega
   ·exact hb n q
 exact ⟨decide_eq_true this.1,decide_eq_true this.2⟩
theorem Zgq:Al (m9 [.pen]) 60 λr=>∃ l:List Int,r=.d (tI l)/\cr l=true:=by
 simp_arith [m9,ae,ag,af,aL]
 refine bU (n:=59) (by decide) (by decide) (by decide) λa a0 a1=>?_
 try simp_arith [ae,ag,af,aL]
 refine bU (n:=58) (by decide) (by decide) (by decide) λb b0 b1=>?_
 try simp_arith [ae,ag,af,aL]
 refine bU (n:=57) (by decide) (by decide) (by decide) λc c0 c1=>?_
 try simp_arith [ae,ag,af,aL]
 refine bU (n:=56) (by decide) (by decide) (by decide) λd d0 d1=>?_
 try simp_arith [ae,ag,af,aL]
 refine bU (n:=55) (by decide) (by decide) (by decide) λe e0 e1=>?_
 have hp:∃ t u:Int,bd [PyData.tuple [.int a,.int b],.tuple [.int c,.int d]] e=some (.tuple [.int t,.int u])/\0<=t/\t<=19/\0<=u/\u<=19:=by
  rcases (show e=0\/e=1 by omega) with rfl | rfl
  ·exact ⟨a,b,gR,by omega,by omega,by omega,by omega⟩
  ·exact ⟨c,d,jN,by omega,by omega,by omega,by omega⟩
 obtain ⟨t,u,et,t0,t1,u0,u1⟩:=hp
 simp_arith [ae,ag,af,aL,et]
 refine bU (n:=54) (by decide) (by decide) (by decide) λw w0 w1=>?_
 have rr:fZ [.int 7]=.ret (cw 0 7):=jF (rp (by decide) (by decide))
 have hs:small (cw 0 7).length=true:=bY (by rw [cS]; decide)
 have z00:((0:Int) == 0)=true:=rfl
 have z01:((0:Int) == 1)=false:=rfl
 have z02:((0:Int) == 2)=false:=rfl
 have z10:((1:Int) == 0)=false:=rfl
 have z11:((1:Int) == 1)=true:=rfl
 have z12:((1:Int) == 2)=false:=rfl
 have z20:((2:Int) == 0)=false:=rfl
 have z21:((2:Int) == 1)=false:=rfl
 have z22:((2:Int) == 2)=true:=rfl
 have fin:∀ (x y:Int),0<=x->0<=y->x+y<=39->∀ ps:List Int,ps.length=7->av dm (.tuple [.int x,.int y]) (.tuple (ps.map PyData.int))=.ret (tI (x::y::ps)):=λx y _ _ _ ps hl=>by
  rw [Zdd rfl (bY (by rw [List.length_map,hl]; show 2+7<=10000; decide))]
  rfl
 have tp:∀ ps:List Int,bw c6 [.list (ps.map PyData.int)]=.ret (.tuple (ps.map PyData.int)):=λ_=>rfl
 rcases (show w=0\/w=1\/w=2\/2 < w by omega) with rfl | rfl | rfl | hw
 ·simp_arith [ae,ag,af,aL,z00,z01,z02,rr,hs]
  refine cP (n:=28) (n':=0) lR (by decide) ?_
  rintro _ ⟨ps,rfl,hl,hb⟩
  simp_arith [ae,ag,af,aL,tp,fin t (39 - t) (by omega) (by omega) (by omega) ps hl]
  exact cy ⟨_,rfl,lI (by omega) (by omega) (by omega) hl hb⟩
 ·simp_arith [ae,ag,af,aL,z10,z11,z12,rr,hs]
  refine bU (n:=53) (by decide) (by decide) (by decide) λx x0 x1=>?_
  obtain ⟨y,hy,y0,y1⟩:∃ y:Int,bd [PyData.int 0,.int (39 - u)] x=some (.int y)/\0<=y/\y+u<=39:=by
   rcases (show x=0\/x=1 by omega) with rfl | rfl
   ·exact ⟨0,gR,by omega,by omega⟩
   ·exact ⟨39 - u,jN,by omega,by omega⟩
  simp_arith [ae,ag,af,aL,hy,z12,rr,hs]
  refine cP (n:=28) (n':=0) lR (by decide) ?_
  rintro _ ⟨ps,rfl,hl,hb⟩
  simp_arith [ae,ag,af,aL,tp,fin y u (by omega) (by omega) (by omega) ps hl]
  exact cy ⟨_,rfl,lI (by omega) (by omega) (by omega) hl hb⟩
 ·simp_arith [ae,ag,af,aL,z20,z21,z22,rr,hs]
  refine cP (n:=28) (n':=0) lR (by decide) ?_
  rintro _ ⟨ps,rfl,hl,hb⟩
  simp_arith [ae,ag,af,aL,tp,fin t 0 (by omega) (by omega) (by omega) ps hl]
  exact cy ⟨_,rfl,lI (by omega) (by omega) (by omega) hl hb⟩
 ·have n0:(w == 0)=false:=beq_eq_false_iff_ne.mpr (by omega)
  have n1:(w == 1)=false:=beq_eq_false_iff_ne.mpr (by omega)
  have n2:(w == 2)=false:=beq_eq_false_iff_ne.mpr (by omega)
  simp_arith [ae,ag,af,aL,n0,n1,n2,rr,hs]
  refine cP (n:=28) (n':=0) lR (by decide) ?_
  rintro _ ⟨ps,rfl,hl,hb⟩
  simp_arith [ae,ag,af,aL,tp,fin t u (by omega) (by omega) (by omega) ps hl]
  exact cy ⟨_,rfl,lI (by omega) (by omega) (by omega) hl hb⟩
theorem fq {s:Int} (s0:0 < s) (s1:s<=1001) (w:PyData):Al (bA (am 0) pV [.un,.pen,.d (.int s)] w) 1 (gM 0 1000):=by
 simp_arith [pV,ae,ag,af,aL]
 refine bU (n:=0) (by omega) (by omega) (by decide) λr r0 r1=>?_
 try simp_arith [ae,ag,af,aL]
 exact cy ⟨r,rfl,by omega,by omega⟩
theorem Zn8 {ns:List Int} {i:Nat} {v:Int} (h0:1<=ns.length) (h8:ns.length<=8) (hn:∀ n∈ns,0<=n/\n<=1000) (hi:i < ns.length) (v0:1<=v) (v1:v<=1000):bD (ns.set i v)=true:=by
 unfold bD
 rw [Bool.and_eq_true,Bool.and_eq_true,List.all_eq_true,List.any_eq_true]
 refine ⟨⟨decide_eq_true (by rw [List.length_set]; omega),λn hm=>?_⟩,v,List.mem_set hi v,decide_eq_true (by omega)⟩
 have:0<=n/\n<=1000:=by
  rcases List.mem_or_eq_of_mem_set hm with q | q
  ·exact hn n q
  ·subst q; omega
 unfold wI
 rw [Bool.and_eq_true]
 exact ⟨decide_eq_true this.1,decide_eq_true this.2⟩
theorem iF {ds:List (List Int)} (hd:ds.length<=10) (J2 J3 J4:Sl):Al (qU [.pen,.own (ds.map tI),J2,J3,J4]) 20 λo=>∃ (d:List Int) (J3' J4':Sl),o=.next [.pen,.own ((ds++[d]).map tI),J2,J3',J4']/\bD d=true:=by
 have hs:small ((ds.map tI).length+1)=true:=bY (by rw [List.length_map]; omega)
 simp_arith [qU,ae,ag,af,aL]
 refine bU (n:=19) (by decide) (by decide) (by decide) λk k0 k1=>?_
 obtain ⟨s,es,s0,s1⟩:=qe (xs:=[PyData.int 2,.int 4,.int 11,.int 1001]) (lo:=2) (hi:=1001) (by simp [gM]) k0 k1
 simp_arith [ae,ag,af,aL,es]
 refine bU (n:=18) (by decide) (by decide) (by decide) λm m0 m1=>?_
 have r1:fZ [.int (1+m)]=.ret (cw 0 (1+m)):=jF (rp (by omega) (by omega))
 have hsm:small (cw 0 (1+m)).length=true:=bY (by rw [cS]; omega)
 simp_arith [ae,ag,af,aL,r1,hsm]
 refine cP (n:=8) (n':=10) (nZ (n:=1) (P:=gM 0 1000) (Q:=λys=>∃ ps:List Int,ys=ps.map PyData.int/\1<=ps.length/\ps.length<=8/\∀ p∈ps,0<=p/\p<=1000) (by rw [cS]; omega) (λx hx=>fq (by omega) s1 x) λys hl hys=>?_) (by decide) ?_
 ·obtain ⟨ns,e,hn⟩:=rj hys
  refine ⟨ns,e,?_,?_,hn⟩
  ·rw [e,List.length_map,cS] at hl; omega
  ·rw [e,List.length_map,cS] at hl; omega
 ·rintro _ ⟨ps,rfl,p1,p8,hp⟩
  try simp_arith [ae,ag,af,aL]
  refine bU (n:=9) (by decide) (by decide) (by decide) λc c0 c1=>?_
  obtain ⟨v,ev,v0,v1⟩:=qe (xs:=[PyData.int 1,.int (s - 1)]) (lo:=1) (hi:=1000) (by simp [gM]; omega) c0 c1
  simp_arith [ae,ag,af,aL,ev,List.length_map]
  refine bU (n:=8) (by omega) (by omega) (by decide) λi i0 i1=>?_
  have hi:L2.dQ (ps.map PyData.int).length i=some i.toNat:=by
   rw [List.length_map]
   unfold L2.dQ
   rw [if_pos (by omega),if_pos (by omega)]
  have hse:(ps.map PyData.int).set i.toNat (.int v)=(ps.set i.toNat v).map PyData.int:=by rw [List.map_set]
  simp_arith [ae,ag,af,aL,ZkU hi,hse,hs]
  refine cy ⟨ps.set i.toNat v,.d (.int s),.d (.list ((ps.set i.toNat v).map PyData.int)),?_,Zn8 p1 p8 hp (by omega) v0 v1⟩
  rw [List.map_append]
  rfl
theorem Zgu:Al (ng [.pen]) 130 λr=>∃ ds:List (List Int),r=.d (fD ds)/\b9 ds=true:=by
 simp_arith [ng,ae,ag,af,aL]
 refine bU (n:=129) (by decide) (by decide) (by decide) λd d0 d1=>?_
 have r1:fZ [.int (1+d)]=.ret (cw 0 (1+d)):=jF (rp (by omega) (by omega))
 simp_arith [ae,ag,af,aL,r1]
 refine cP (n:=120) (n':=0) (P:=λo=>∃ (ds:List (List Int)) (J2 J3 J4:Sl),o=.next [.pen,.own (ds.map tI),J2,J3,J4]/\1<=ds.length/\ds.length<=6/\∀ d∈ds,bD d=true) ?_ (by decide) ?_
 ·refine Zev (n:=20) (λpre ρ=>∃ (ds:List (List Int)) (J2 J3 J4:Sl),ρ=[.pen,.own (ds.map tI),J2,J3,J4]/\ds.length=pre.length/\∀ d∈ds,bD d=true) ⟨[],_,_,_,rfl,rfl,λ_ q=>by cases q⟩ (by rw [cS]; omega) ?_ ?_
  ·rintro pre x post ρ e ⟨ds,J2,J3,J4,rfl,hl,hn⟩
   obtain ⟨rfl,hpre⟩:=ZgF e
   refine ⟨_,rfl,nY (iF (by omega) _ _ _) (Nat.le_refl _) ?_⟩
   rintro _ ⟨u,J3',J4',rfl,hu⟩
   refine ⟨_,rfl,ds++[u],_,_,_,rfl,by simp [hl],λv hv=>?_⟩
   rcases List.mem_append.mp hv with hq | hq
   ·exact hn v hq
   ·rw [List.mem_singleton.mp hq]; exact hu
  ·rintro ρ ⟨ds,J2,J3,J4,rfl,hl,hn⟩
   exact ⟨ds,_,_,_,rfl,by rw [hl,cS]; omega,by rw [hl,cS]; omega,hn⟩
 ·rintro _ ⟨ds,J2,J3,J4,rfl,h1,h6,hd⟩
  simp_arith [ae,ag,af,aL]
  refine cy ⟨ds,rfl,?_⟩
  unfold b9
  rw [Bool.and_eq_true,List.all_eq_true]
  exact ⟨decide_eq_true ⟨h1,h6⟩,hd⟩
theorem qd {P:PyData->Prop} {xs:List PyData} (h:∀ x∈xs,P x) {w:Int} (h0:0<=w) (h1:w < xs.length):∃ x,bd xs w=some x/\P x:=by
 have hl:w.toNat < xs.length:=by omega
 have e:xs[w.toNat]?=some xs[w.toNat]:=by simp [hl]
 exact ⟨_,si h0 e,h _ (List.getElem_mem hl)⟩
theorem nt {a:Str} {w:Int} (h0:0<=w) (h1:w < a.length) (hl:a.length<=1048576):∃ c,av cm (.str a) (.int w)=.ret (.str ⟨#[c]⟩):=by
 have hw:w.toNat < a.cps.toList.length:=by rw [Array.length_toList]; show _ < a.length; omega
 have e:a.cps.toList[w.toNat]?=some a.cps.toList[w.toNat]:=by simp [hw]
 refine ⟨a.cps.toList[w.toNat],?_⟩
 rw [rH hl,si h0 e]
 rfl
noncomputable def jU (n:Nat) (d:PyData):Prop:=∃ u:Str,d=.str u/\u.length<=n
theorem nN (l:List Str) (lo hi:Option Int):∃ l':List Str,L2.eI (l.map PyData.str) lo hi=l'.map PyData.str/\(l'.map λw=>w.length+1).sum<=(l.map λw=>w.length+1).sum:=by
 have tk:∀ (l:List Str) (n:Nat),((l.take n).map λw=>w.length+1).sum<=(l.map λw=>w.length+1).sum:=by
  intro l
  induction l with
  | nil=>intro n; simp
  | cons w l ih =>
   intro n
   cases n with
   | zero=>simp
   | succ n=>rw [List.take_succ_cons,List.map_cons,List.sum_cons,List.map_cons,List.sum_cons]; have:=ih n; omega
 have dp:∀ (l:List Str) (n:Nat),((l.drop n).map λw=>w.length+1).sum<=(l.map λw=>w.length+1).sum:=by
  intro l
  induction l with
  | nil=>intro n; simp
  | cons w l ih =>
   intro n
   cases n with
   | zero=>simp
   | succ n=>rw [List.drop_succ_cons,List.map_cons,List.sum_cons]; have:=ih n; omega
 unfold L2.eI
 refine ⟨_,by rw [<- List.map_drop,<- List.map_take],Nat.le_trans (tk _ _) (dp _ _)⟩
theorem nr {sep:Str} (hs:sep.length=1) (l:List Str):(Txt.join sep l).length<=(l.map λw=>w.length+1).sum:=by
 have h2:=size_glued sep l
 rw [hs,Nat.mul_one] at h2
 have e:Txt.join sep l=PySem.Builtin.Str.glued sep l:=rfl
 rw [e,h2,gj]
 omega
theorem iy {sep:Str} (hs:sep.length=1) {l:List Str} (h:(l.map λw=>w.length+1).sum<=1048576):∃ u:Str,av bL (.str sep) (.list (l.map PyData.str))=.ret (.str u)/\u.length<=(l.map λw=>w.length+1).sum:=by
 refine ⟨Txt.join sep l,ae ⟨by omega,?_⟩,nr hs l⟩
 rw [<- gj]
 exact h
theorem nO (l:List Str):l.length<=(l.map λw=>w.length+1).sum:=by
 rw [gj]; omega
noncomputable def oz:Str:=" !\"#$&'()*+,-./0123456789:;<=>?@ABCDEFGHIJKLMNOPQRSTUVWXYZ[\\]^_`"++"abcdefghijklmnopqrstuvwxyz{|}~\n"
theorem pH:oz.length=95:=by decide +kernel
theorem qj:(" ,-/@0123456789\n":Str).length=16:=by decide +kernel
theorem ZnC:av aS (.str " !\"#$&'()*+,-./0123456789:;<=>?@ABCDEFGHIJKLMNOPQRSTUVWXYZ[\\]^_`") (.str "abcdefghijklmnopqrstuvwxyz{|}~\n")=.ret (.str oz):=gQ (by decide +kernel)
theorem ZgM:av fE (.str "7") (.int 4400)=.ret (.str (gB "7" 4400)):=Zda (by decide +kernel)
theorem ZgL:(gB "7" 4400).length=4400:=by
 unfold gB
 rw [if_neg (by decide +kernel)]
 show Array.size _=_
 rw [rF]
 have e:(List.replicate (4400:Int).toNat ("7":Str).cps).map (·.size)=List.replicate 4400 1:=by
  rw [List.map_replicate]
  congr 1
 rw [e]
 simp
theorem Zh9:∀ x∈[PyData.str "",.str "00",.str "01",.str "-0",.str "--1",.str "+1",.str "1_0",.str "x",.str "0x1",.str "1.0",.str "1e3",.str "1/2",.str "1@2",.str "-",.str "1,",.str (gB "7" 4400)],jU 4400 x:=by
 intro x hx
 simp only [List.mem_cons,List.not_mem_nil,or_false] at hx
 rcases hx with rfl | rfl | rfl | rfl | rfl | rfl | rfl | rfl | rfl | rfl | rfl | rfl | rfl | rfl | rfl | rfl
 all_goals first
  | exact ⟨_,rfl,by decide +kernel⟩
  | exact ⟨_,rfl,by rw [ZgL]; exact Nat.le_refl _⟩
theorem Zgv {t:Str} (h:t.length<=100000):Al (jt [.pen,.d (.str t)]) 8 λr=>∃ u,r=.d (.str u)/\u.length<=2 * t.length+5000:=by
 have ht:t.length<=1048576:=by omega
 have h95:oz.length<=1048576:=by rw [pH]; decide
 have h16:(" ,-/@0123456789\n":Str).length<=1048576:=by rw [qj]; decide
 simp_arith [jt,ae,ag,af,aL]
 refine bU (n:=7) (by decide) (by decide) (by decide) λw w0 w1=>?_
 simp_arith [ae,ag,af,aL,cD ht]
 refine bU (n:=6) (by omega) (by omega) (by decide) λp p0 p1=>?_
 simp_arith [ae,ag,af,aL,ZnC,cD h95,pH]
 refine bU (n:=5) (by decide) (by decide) (by decide) λq q0 q1=>?_
 obtain ⟨c1,e1⟩:=nt (a:=oz) q0 (by rw [pH]; exact q1) h95
 simp_arith [ae,ag,af,aL,e1,cD h16,qj]
 refine bU (n:=4) (by decide) (by decide) (by decide) λr r0 r1=>?_
 obtain ⟨c2,e2⟩:=nt (a:=" ,-/@0123456789\n") r0 (by rw [qj]; exact r1) h16
 simp_arith [ae,ag,af,aL,e2]
 refine bU (n:=3) (by decide) (by decide) (by decide) λk k0 k1=>?_
 obtain ⟨_,e3,sg,rfl,hsg⟩:=qd (P:=jU 1) (xs:=[PyData.str ⟨#[c1]⟩,.str ⟨#[c2]⟩]) (λx hx=>by
  simp only [List.mem_cons,List.not_mem_nil,or_false] at hx
  rcases hx with rfl | rfl
  ·exact ⟨_,rfl,Nat.le_refl _⟩
  ·exact ⟨_,rfl,Nat.le_refl _⟩) k0 k1
 have a1:∀ lo hi,(Txt.slice t lo hi).length<=t.length:=λlo hi=>Txt.slice_le t lo hi
 have cat3:∀ lo hi lo' hi',∃ u,av aS (.str (Txt.slice t lo hi++sg)) (.str (Txt.slice t lo' hi'))=.ret (.str u)/\u.length<=2 * t.length+5000:=λlo hi lo' hi'=>by
  refine ⟨_,gQ ?_,?_⟩ <;> (simp only [strLen_append]; have:=a1 lo hi; have:=a1 lo' hi'; omega)
 have cat2:∀ lo hi lo' hi',∃ u,av aS (.str (Txt.slice t lo hi)) (.str (Txt.slice t lo' hi'))=.ret (.str u)/\u.length<=2 * t.length+5000:=λlo hi lo' hi'=>by
  refine ⟨_,gQ ?_,?_⟩ <;> (try simp only [strLen_append]) <;> (have:=a1 lo hi; have:=a1 lo' hi'; omega)
 have cat1:∀ lo hi,av aS (.str (Txt.slice t lo hi)) (.str sg)=.ret (.str (Txt.slice t lo hi++sg)):=λlo hi=>gQ (by have:=a1 lo hi; omega)
 by_cases w2:w < 2
 ·obtain ⟨u,hu,hul⟩:=cat3 none (some p) (some p) none
  simp_arith [ae,ag,af,aL,e3,decide_eq_true w2,cV ht,cat1,hu]
  exact cy ⟨u,rfl,hul⟩
 by_cases w3:w=2
 ·have w3':(w == 2)=true:=beq_iff_eq.mpr w3
  obtain ⟨u,hu,hul⟩:=cat2 none (some p) (some (p+1)) none
  simp_arith [ae,ag,af,aL,e3,decide_eq_false w2,w3',cV ht,hu]
  exact cy ⟨u,rfl,hul⟩
 have w3':(w == 2)=false:=beq_eq_false_iff_ne.mpr w3
 by_cases w5:w < 5
 ·obtain ⟨u,hu,hul⟩:=cat3 none (some p) (some (p+1)) none
  simp_arith [ae,ag,af,aL,e3,decide_eq_false w2,w3',decide_eq_true w5,cV ht,cat1,hu]
  exact cy ⟨u,rfl,hul⟩
 simp_arith [ae,ag,af,aL,e3,decide_eq_false w2,w3',decide_eq_false w5]
 refine bU (n:=2) (by decide) (by decide) (by decide) λb b0 b1=>?_
 obtain ⟨_,e4,sep,⟨rfl,cc,hsep⟩⟩:=qd (P:=λd=>∃ u:Str,d=.str u/\∃ c,u=⟨#[c]⟩) (xs:=[PyData.str " ",.str ",",.str "\n", .str "/"]) (λx hx=>by
  simp only [List.mem_cons,List.not_mem_nil,or_false] at hx
  rcases hx with rfl | rfl | rfl | rfl
  ·exact ⟨_,rfl,_,dh⟩
  ·exact ⟨_,rfl,_,gp⟩
  ·exact ⟨_,rfl,_,Zil⟩
  ·exact ⟨_,rfl,_,ZfX⟩) b0 b1
 subst hsep
 have hsum:=kg cc t
 have hpos:=split_pos t ⟨#[cc]⟩
 have hcnt:=du cc t
 simp_arith [ae,ag,af,aL,e4,dR (a:=t) (c:=cc) (by omega),List.length_map]
 generalize Txt.split t ⟨#[cc]⟩=ws at *
 refine bU (n:=1) (by omega) (by omega) (by decide) λo o0 o1=>?_
 obtain ⟨l1,g1,n1⟩:=nN ws none (some o)
 obtain ⟨l2,g2,n2⟩:=nN ws (some (o+1)) none
 obtain ⟨l3,g3,n3⟩:=nN ws none (some (o+1))
 obtain ⟨l4,g4,n4⟩:=nN ws (some o) none
 have m1:=nO l1
 have m2:=nO l2
 have m3:=nO l3
 have m4:=nO l4
 by_cases w55:w=5
 ·have w5':(w == 5)=true:=beq_iff_eq.mpr w55
  simp_arith [ae,ag,af,aL,w5',g1,ZgM]
  refine bU (n:=0) (by decide) (by decide) (by decide) λz z0 z1=>?_
  obtain ⟨_,e5,od,rfl,hod⟩:=qd Zh9 z0 z1
  have s1:small ((l1.map PyData.str).length+[PyData.str od].length)=true:=cA (by rw [List.length_map]; show _+1<=_; omega)
  have s2:small ((l1.map PyData.str++[PyData.str od]).length+(l2.map PyData.str).length)=true:=cA (by rw [List.length_append,List.length_map,List.length_map]; show _+1+_<=_; omega)
  have em:l1.map PyData.str++[PyData.str od]++l2.map PyData.str=(l1++[od]++l2).map PyData.str:=by simp
  have es:((l1++[od]++l2).map λw=>w.length+1).sum<=2 * (t.length+1)+4401:=by
   rw [List.map_append,List.map_append,List.sum_append,List.sum_append]
   show _+(od.length+1+0)+_<=_
   omega
  obtain ⟨u,hu,hul⟩:=iy (sep:=⟨#[cc]⟩) rfl (l:=l1++[od]++l2) (by omega)
  rw [<- em] at hu
  simp_arith [ae,ag,af,aL,e5,jE s1,jE s2,g1,g2,hu]
  exact cy ⟨u,rfl,by omega⟩
 have w5':(w == 5)=false:=beq_eq_false_iff_ne.mpr w55
 by_cases w66:w=6
 ·have w6':(w == 6)=true:=beq_iff_eq.mpr w66
  have s1:small ((l1.map PyData.str).length+(l2.map PyData.str).length)=true:=cA (by rw [List.length_map,List.length_map]; omega)
  have em:l1.map PyData.str++l2.map PyData.str=(l1++l2).map PyData.str:=by simp
  have es:((l1++l2).map λw=>w.length+1).sum<=2 * (t.length+1):=by
   rw [List.map_append,List.sum_append]
   omega
  obtain ⟨u,hu,hul⟩:=iy (sep:=⟨#[cc]⟩) rfl (l:=l1++l2) (by omega)
  rw [<- em] at hu
  simp_arith [ae,ag,af,aL,w5',w6',g1,g2,jE s1,hu]
  exact cy ⟨u,rfl,by omega⟩
 ·have w6':(w == 6)=false:=beq_eq_false_iff_ne.mpr w66
  have s1:small ((l3.map PyData.str).length+(l4.map PyData.str).length)=true:=cA (by rw [List.length_map,List.length_map]; omega)
  have em:l3.map PyData.str++l4.map PyData.str=(l3++l4).map PyData.str:=by simp
  have es:((l3++l4).map λw=>w.length+1).sum<=2 * (t.length+1):=by
   rw [List.map_append,List.sum_append]
   omega
  obtain ⟨u,hu,hul⟩:=iy (sep:=⟨#[cc]⟩) rfl (l:=l3++l4) (by omega)
  rw [<- em] at hu
  simp_arith [ae,ag,af,aL,w5',w6',g3,g4,jE s1,hu]
  exact cy ⟨u,rfl,by omega⟩
theorem ZdB {k:Nat} {i:Int} (h:i.natAbs < 10 ^ (k+1)):(aG i).length<=k+2:=by
 rw [rO]
 unfold b7
 have:=jG k _ h
 split
 ·rw [List.length_cons]; omega
 ·omega
theorem ZfK {k:Nat} {i:Int} (h:i.natAbs < 10 ^ (k+1)) (hk:k<=500):bw d9 [.int i]=.ret (.str (aG i))/\(aG i).length<=k+2:=by
 refine ⟨nI (qI (Nat.lt_of_lt_of_le h (Nat.le_trans (Nat.pow_le_pow_right (by decide) (show k+1<=501 by omega)) ?_)) (by decide)),ZdB h⟩
 decide +kernel
theorem cat {a b:Str} (ha:a.length<=400000) (hb:b.length<=400000):av aS (.str a) (.str b)=.ret (.str (a++b)):=gQ (by omega)
theorem ZaC {n:Nat} {ys:List PyData} (h:∀ y∈ys,jU n y):∃ us:List Str,ys=us.map PyData.str/\∀ u∈us,u.length<=n:=by
 induction ys with
 | nil=>exact ⟨[],rfl,λu hu=>by cases hu⟩
 | cons y ys ih =>
  obtain ⟨us,rfl,hus⟩:=ih λz hz=>h z (List.mem_cons_of_mem _ hz)
  obtain ⟨u,rfl,hu⟩:=h y (by simp)
  refine ⟨u::us,rfl,λv hv=>?_⟩
  rcases List.mem_cons.mp hv with rfl | hv
  ·exact hu
  ·exact hus v hv
theorem jb {n:Nat} {us:List Str} (h:∀ u∈us,u.length<=n):(us.map λw=>w.length+1).sum<=us.length * (n+1):=by
 induction us with
 | nil=>simp
 | cons u us ih =>
  rw [List.map_cons,List.sum_cons,List.length_cons,Nat.succ_mul]
  have:=ih λv hv=>h v (List.mem_cons_of_mem _ hv)
  have:=h u (by simp)
  omega
theorem ZnB {t:Str} (h:t.length<=500000):m8 [.d (.str t)]=.ret (.d (cv tI (eg t))):=by
 have e0:(bt 1 (aI (aF il (aw (aa 0) ay)))) [.d (.str t),.un,.un]=.ret (.next [.d (.str t),.d (cv fD (cC t)),.un]):=by
  simp_arith [ae,ag,af,Zdm h]
 unfold m8
 rw [Zdb (n:=1) (as:=[Sl.d (.str t)]) rfl,Zc9,show ([Sl.d (.str t)]++List.replicate 2 .un)=[.d (.str t),.un,.un] from rfl,e0,Tr.ret_bind,Zc8,Zf7]
 cases hr:cC t with
 | none =>
  have hN:eE .none=true:=rfl
  simp_arith [cv,ae,ag,af,hN,Option.bind_none]
 | some ds =>
  obtain ⟨k1,k2⟩:=md hr
  have e1:=Zgc (Za1 hr) (by omega) (.d (.str t))
  show ((au _ _) [.d (.str t),.d (fD ds),.un]).bind jD=_
  rw [e1]
  rfl
theorem Zdl {t:Str} (h:t.length<=500000):gi [.d (.str t)]=.ret (.d (cv fD (dM t))):=by
 have ed:=Zdm h
 unfold dM
 cases hr:cC t with
 | none =>
  rw [hr] at ed
  have hN:eE .none=true:=rfl
  simp only [cv] at ed
  simp_arith [gi,cv,ae,ag,af,ed,hN,Option.bind_none]
 | some ds =>
  rw [hr] at ed
  obtain ⟨k1,k2⟩:=md hr
  have hN:eE (.tuple (ds.map tI))=false:=rfl
  have hne:=Za1 hr
  have hp:1<=ds.length:=by rw [fN hr]; exact split_pos t ⟨#[32]⟩
  simp only [cv] at ed
  unfold fD at ed
  show _=Tr.ret (Re.d (cv fD (if b9 ds=true then some ds else none)))
  by_cases h6:ds.length<=6
  ·have e6:decide (((ds.map tI).length:Int) > 6)=false:=decide_eq_false (by rw [List.length_map]; omega)
   have eF:b9 ds=ds.all bD:=by unfold b9; rw [decide_eq_true ⟨hp,h6⟩]; rfl
   rw [eF]
   rcases fo2 (A:=.d (.str t)) (B:=.d (.tuple (ds.map tI))) (ds:=ds) (J:=.un) hne with ⟨b1,b2⟩ | ⟨b1,J',b2⟩
   ·rw [b1]
    simp_arith [gi,ae,ag,af,ed,hN,e6,b2]
    rfl
   ·rw [b1]
    simp_arith [gi,ae,ag,af,ed,hN,e6,b2]
    rfl
  ·have e6:decide (((ds.map tI).length:Int) > 6)=true:=decide_eq_true (by rw [List.length_map]; omega)
   have eF:b9 ds=false:=by unfold b9; rw [decide_eq_false λz=>h6 z.2]; rfl
   rw [eF]
   simp_arith [gi,ae,ag,af,ed,hN,e6]
   rfl
theorem kZ {n:Nat}:∀ {l:List Int},(∀ i∈l,i.natAbs < 10 ^ (n+1))->n<=300->∀ u∈l.map aG,u.length<=n+2:=by
 intro l h hn u hu
 obtain ⟨i,hi,rfl⟩:=List.mem_map.mp hu
 exact ZdB (h i hi)
theorem kS {h:PyData->Tr PyData} {k:Nat}:∀ {l:List Int},(∀ i∈l,i.natAbs < 10 ^ (k+1))->(∀ i:Int,i.natAbs < 10 ^ (k+1)->h (.int i)=.ret (.str (aG i)))->bJ h (l.map PyData.int)=.ret ((l.map aG).map PyData.str)
 | [],_,_=>rfl
 | i::l,hi,hh=>by
  rw [List.map_cons,bJ,hh i (hi i (by simp)),Tr.ret_bind,kS (λj hj=>hi j (List.mem_cons_of_mem _ hj)) hh]
  rfl
theorem sv:∀ {l:List Int},(∀ i∈l,i.natAbs < 10 ^ 400)->bf bq (l.map aG)=some l
 | [],_=>rfl
 | i::l,h=>by
  rw [List.map_cons,gq,Zif (h i (by simp)),sv λj hj=>h j (List.mem_cons_of_mem _ hj)]
  rfl
theorem ZcL {c:Nat} (h1:c≠45) (h2:¬ (48<=c/\c<=57)) {l:List Int} (h0:l≠[]):Txt.split (Str.join ⟨#[c]⟩ (l.map aG)) ⟨#[c]⟩=l.map aG :=
 pB (by simpa using h0) λp hp=>by
  obtain ⟨i,_,rfl⟩:=List.mem_map.mp hp
  rw [eG]
  unfold b7
  have h:=iH i.natAbs
  split
  ·intro hm
   rcases List.mem_cons.mp hm with e | hm
   ·exact h1 e
   ·exact h2 (h c hm)
  ·intro hm
   exact h2 (h c hm)
theorem ZgC {a:Str} {b c:Nat}:(Txt.replace a ⟨#[b]⟩ ⟨#[c]⟩).length<=2 * a.length+3:=by
 unfold Txt.replace
 split
 ·omega
 ·have h1:=congrArg Str.length (StrLaws.glued_between_self a ⟨#[b]⟩ (a.length+1))
  have e1:(⟨#[b]⟩:Str).length=1:=rfl
  have e2:(⟨#[c]⟩:Str).length=1:=rfl
  rw [size_glued,e1] at h1
  rw [size_glued,e1,e2]
  omega
theorem oa {xs ys:List PyData} (h:small (xs.length+ys.length)=true):av fk (.tuple xs) (.tuple ys)=.ret (.tuple (xs++ys)):=by
 cases xs with
 | nil=>rfl
 | cons x xs=>exact Zdf h
theorem rR (l:List Int) (lo hi:Option Int):∃ l':List Int,L2.eI (l.map PyData.int) lo hi=l'.map PyData.int/\l'.length<=l.length/\∀ i∈l',i∈l:=by
 unfold L2.eI
 refine ⟨_,by rw [<- List.map_drop,<- List.map_take],?_,λi hi=>List.mem_of_mem_drop (List.mem_of_mem_take hi)⟩
 rw [List.length_take,List.length_drop]
 omega
theorem mn {h:List Sl->Tr PyData} (hh:h=aR d9 (ai (aa 0) aj)) {i:Int} (hi:i.natAbs < 10 ^ (40+1)):bA (am 0) h [.un] (.int i)=.ret (.str (aG i)):=by
 obtain ⟨e1,_⟩:=ZfK (k:=40) (i:=i) hi (by decide)
 subst hh
 simp_arith [ae,ag,af,e1]
theorem sh1 {us:List Str} (hu:us.length<=100) {l:List Int} (hl:l.length<=30) (hb:∀ i∈l,-2000000<=i/\i<=2000000) (A B C:Sl):∃ u:Str,u.length<=1500/\qT [.pen,A,B,C,.own (us.map PyData.str),.d (.tuple (l.map PyData.int))]=.ret (.next [.pen,A,B,C,.own ((us++[u]).map PyData.str),.d (.tuple (l.map PyData.int))]):=by
 have hs:small ((us.map PyData.str).length+1)=true:=bY (by rw [List.length_map]; omega)
 have hsl:small (l.map PyData.int).length=true:=bY (by rw [List.length_map]; omega)
 have hb41:∀ i∈l,i.natAbs < 10 ^ (40+1):=λi hi=>by
  have:=hb i hi
  have k:(2000000:Nat) < 10 ^ (40+1):=by decide +kernel
  omega
 have e1:=kS (h:=bA (am 0) ZbL [.un]) (k:=40) hb41 λi hi=>mn rfl hi
 have hj:=jb (us:=l.map aG) (n:=42) (kZ (n:=40) hb41 (by decide))
 rw [List.length_map] at hj
 obtain ⟨T,hT,hT2⟩:=iy (sep:=⟨#[32]⟩) rfl (l:=l.map aG) (by omega)
 rw [<- dh] at hT
 refine ⟨T,by omega,?_⟩
 simp_arith [qT,ae,ag,af,hsl,e1,hT,hs]
 rw [List.map_append]
 rfl
theorem bt1 {h:List Sl->Tr PyData} (hh:h=aI (aF jt (bj 1 (aw (aa 2) ay)))) {T:Str} (hT:T.length<=100000) (w:PyData):Al (bA (am 0) h [.un,.pen,.d (.str T)] w) 8 (jU (2 * T.length+5000)):=by
 subst hh
 simp_arith [ae,ag,af,aL]
 refine cP (n:=8) (n':=0) (Zgv hT) (by decide) ?_
 rintro _ ⟨u,rfl,hu⟩
 simp_arith [ae,ag,af,aL]
 exact cy ⟨u,rfl,hu⟩
theorem Zgn {l:List Int} (h:cr l=true):Al (m7 [.pen,.d (tI l)]) 100 λr=>∃ us:List Str,r=.d (.list (us.map PyData.str))/\us.length<=40/\∀ u∈us,u.length<=20000:=by
 have l1:(" 0":Str).length=2:=by decide +kernel
 have l2:(" ":Str).length=1:=by decide +kernel
 have l3:("\n":Str).length=1:=by decide +kernel
 have l4:("":Str).length=0:=by decide +kernel
 have l5:("0":Str).length=1:=by decide +kernel
 have cL:∀ (a:Str) (b:String),a.length<=400000->(b:Str).length<=4->av aS (.str a) (.str b)=.ret (.str (a++(b:Str))):=λa b h1 h2=>cat h1 (by omega)
 have cR:∀ (a:String) (b:Str),(a:Str).length<=4->b.length<=400000->av aS (.str a) (.str b)=.ret (.str ((a:Str)++b)):=λa b h1 h2=>cat (by omega) h2
 unfold cr at h
 rw [Bool.and_eq_true,Bool.and_eq_true,List.all_eq_true] at h
 obtain ⟨⟨h9,hall⟩,h39⟩:=h
 have h9:=of_decide_eq_true h9
 have hb:∀ i∈l,0<=i/\i<=1000000:=λi hi=>by
  have:=hall i hi
  unfold wI at this
  rw [Bool.and_eq_true] at this
  exact ⟨of_decide_eq_true this.1,of_decide_eq_true this.2⟩
 have hb40:∀ {l:List Int},(∀ i∈l,-2000000<=i/\i<=2000000)->∀ i∈l,i.natAbs < 10 ^ (40+1):=λ{l} hb i hi=>by
  have:=hb i hi
  have k:(2000000:Nat) < 10 ^ (40+1):=by decide +kernel
  omega
 have hb41:∀ i∈l,i.natAbs < 10 ^ (40+1):=hb40 λi hi=>by have:=hb i hi; omega
 have e1:=kS (h:=bA (am 0) ZbM [.un]) (k:=40) hb41 λi hi=>mn rfl hi
 have hsl:small (l.map PyData.int).length=true:=bY (by rw [List.length_map]; omega)
 have hj:=jb (us:=l.map aG) (n:=42) (kZ (n:=40) hb41 (by decide))
 rw [List.length_map,h9] at hj
 obtain ⟨T,hT,hT2⟩:=iy (sep:=⟨#[32]⟩) rfl (l:=l.map aG) (by omega)
 rw [<- dh] at hT
 have hTl:T.length<=400:=by omega
 unfold tI
 simp_arith [m7,ae,ag,af,aL,hsl,e1,hT]
 refine bU (n:=99) (by decide) (by decide) (by decide) λk k0 k1=>?_
 have d1:=cL T " 0" (by omega) (by omega)
 have d2:=cL T " " (by omega) (by omega)
 have d3:=cR " " T (by omega) (by omega)
 have d4:=cL T "\n" (by omega) (by omega)
 have hx1:∃ a1:Int,bd (l.map PyData.int) 1=some (.int a1)/\0<=a1/\a1<=1000000:=by
  match l,h9,hb with
  | a::b::r,_,hb=>exact ⟨b,jN,(hb b (by simp)).1,(hb b (by simp)).2⟩
 obtain ⟨a1,hx1,x0,x1⟩:=hx1
 obtain ⟨m1,g1,n1,b1⟩:=rR l none (some (2+k))
 obtain ⟨m2,g2,n2,b2⟩:=rR l (some (2+k+1)) none
 obtain ⟨m3,g3,n3,b3⟩:=rR l (some 1) none
 have f1:av fk (.tuple (m1.map PyData.int)) (.tuple [.int 1000001])=.ret (.tuple (m1.map PyData.int++[.int 1000001])):=oa (bY (by rw [List.length_map]; show _+1<=_; omega))
 have f2:av fk (.tuple (m1.map PyData.int++[.int 1000001])) (.tuple (m2.map PyData.int))=.ret (.tuple ((m1++[1000001]++m2).map PyData.int)):=by
  rw [oa (bY (by rw [List.length_append,List.length_map,List.length_map]; show _+1+_<=_; omega))]
  simp
 have f3:av fk (.tuple [.int (40 - a1)]) (.tuple (m3.map PyData.int))=.ret (.tuple (((40 - a1)::m3).map PyData.int)):=by
  rw [oa (bY (by rw [List.length_map]; show 1+_<=_; omega))]
  rfl
 have f4:av fk (.tuple [.int (39 - a1)]) (.tuple (m3.map PyData.int))=.ret (.tuple (((39 - a1)::m3).map PyData.int)):=by
  rw [oa (bY (by rw [List.length_map]; show 1+_<=_; omega))]
  rfl
 have hs3:small 3=true:=bY (by decide)
 have k8:small 1=true:=bY (by decide)
 have hrp:=ZiL (w:="0") (y:=" ") (z:=",") (is:=aj) (ρ:=[.pen,.d (.tuple (l.map PyData.int)),.d (.str T),.d (.int (2+k)),.un,.un]) (a:=T) (by omega)
 have hrl:(Txt.replace T " " ",").length<=803:=by
  rw [dh,gp]
  have:=ZgC (a:=T) (b:=32) (c:=44)
  omega
 simp_arith [ae,ag,af,aL,d1,d2,d3,d4,ZlV,hrp,ZlS,hs3,k8,g1,g2,g3,hx1,f1,f2,f3,f4]
 have hm3:∀ i∈m3,-2000000<=i/\i<=2000000:=λi hi=>by have:=hb i (b3 i hi); omega
 have hxs:∀ x∈[PyData.tuple ((m1++[1000001]++m2).map PyData.int),.tuple (PyData.int (40 - a1)::m3.map PyData.int),.tuple (PyData.int (39 - a1)::m3.map PyData.int)],∃ m:List Int,x=.tuple (m.map PyData.int)/\m.length<=30/\∀ i∈m,-2000000<=i/\i<=2000000:=by
  intro x hx
  simp only [List.mem_cons,List.not_mem_nil,or_false] at hx
  rcases hx with rfl | rfl | rfl
  ·refine ⟨_,rfl,by simp; omega,λi hi=>?_⟩
   rcases List.mem_append.mp hi with hi | hi
   ·rcases List.mem_append.mp hi with hi | hi
    ·have:=hb i (b1 i hi); omega
    ·rw [List.mem_singleton.mp hi]; omega
   ·have:=hb i (b2 i hi); omega
  ·refine ⟨(40 - a1)::m3,rfl,by rw [List.length_cons]; omega,λi hi=>?_⟩
   rcases List.mem_cons.mp hi with rfl | hi
   ·omega
   ·exact hm3 i hi
  ·refine ⟨(39 - a1)::m3,rfl,by rw [List.length_cons]; omega,λi hi=>?_⟩
   rcases List.mem_cons.mp hi with rfl | hi
   ·omega
   ·exact hm3 i hi
 refine cP (n:=0) (n':=80) (P:=λo=>∃ (us:List Str) (J:Sl),o=.next [.pen,.d (.tuple (l.map PyData.int)),.d (.str T),.d (.int (2+k)),.own (us.map PyData.str),J]/\us.length<=20/\∀ u∈us,u.length<=2000) ?_ (by decide) ?_
 ·refine Zev (n:=0) (λpre ρ=>∃ (us:List Str) (J:Sl),ρ=[.pen,.d (.tuple (l.map PyData.int)),.d (.str T),.d (.int (2+k)),.own (us.map PyData.str),J]/\us.length=8+pre.length/\∀ u∈us,u.length<=2000) ⟨[T,T++(" 0":Str),T++(" ":Str),(" ":Str)++T,T++("\n" : Str), "", "0", Txt.replace T " " ","],_,rfl,rfl,?_⟩ (by simp) ?_ ?_
  ·intro u hu
   simp only [List.mem_cons,List.not_mem_nil,or_false] at hu
   rcases hu with rfl | rfl | rfl | rfl | rfl | rfl | rfl | rfl <;> (try simp only [strLen_append]) <;> omega
  ·rintro pre x post ρ e ⟨us,J,rfl,hul,hus⟩
   have hp3:pre.length+1<=3:=by
    have:=congrArg List.length e
    rw [List.length_append,List.length_cons] at this
    simp at this
    omega
   obtain ⟨m,rfl,hml,hmb⟩:=hxs x (by rw [e]; simp)
   obtain ⟨u,hu,eu⟩:=sh1 (us:=us) (by omega) hml hmb (.d (.tuple (l.map PyData.int))) (.d (.str T)) (.d (.int (2+k)))
   refine ⟨_,rfl,nX eu ⟨_,rfl,us++[u],_,rfl,by rw [List.length_append,List.length_append,hul]; rfl,λv hv=>?_⟩⟩
   rcases List.mem_append.mp hv with hv | hv
   ·exact hus v hv
   ·rw [List.mem_singleton.mp hv]; omega
  ·rintro ρ ⟨us,J,rfl,hul,hus⟩
   exact ⟨us,J,rfl,by rw [hul]; show 8+3<=20; decide,hus⟩
 ·rintro _ ⟨us,J,rfl,hul,hus⟩
  have r10:fZ [.int 10]=.ret (cw 0 10):=jF rfl
  have hs10:small (cw 0 10).length=true:=bY (by rw [cS]; decide)
  simp_arith [ae,ag,af,aL,r10,hs10]
  refine cP (n:=80) (n':=0) (nZ (n:=8) (P:=jU 8000) (Q:=λys=>∃ us:List Str,ys=us.map PyData.str/\us.length<=10/\∀ u∈us,u.length<=8000) (by rw [cS]; decide) (λx hx=>?_) λys hl hys=>?_) (by decide) ?_
  ·refine nY (bt1 rfl (by omega) x) (Nat.le_refl _) ?_
   rintro _ ⟨u,rfl,hu⟩
   exact ⟨u,rfl,by omega⟩
  ·obtain ⟨bs,rfl,hbs⟩:=ZaC hys
   rw [List.length_map,cS] at hl
   exact ⟨bs,rfl,by omega,hbs⟩
  ·rintro _ ⟨bs,rfl,hbl,hbs⟩
   have hm2:small ((us.map PyData.str).length+(bs.map PyData.str).length)=true:=bY (by rw [List.length_map,List.length_map]; omega)
   simp_arith [ae,ag,af,aL,jE hm2]
   refine cy ⟨us++bs,by rw [List.map_append],by rw [List.length_append]; omega,λu hu=>?_⟩
   rcases List.mem_append.mp hu with hu | hu
   ·have:=hus u hu; omega
   ·have:=hbs u hu; omega
noncomputable def dB (d:List Int):Str:=Str.join ⟨#[44]⟩ (d.map aG)
noncomputable def ff (ds:List (List Int)):Str:=Str.join ⟨#[32]⟩ (ds.map dB)
theorem nM {d:List Int} (h:bD d=true):1<=d.length/\d.length<=8/\∀ i∈d,0<=i/\i<=1000:=by
 unfold bD at h
 rw [Bool.and_eq_true,Bool.and_eq_true,List.all_eq_true] at h
 have h1:=of_decide_eq_true h.1.1
 refine ⟨h1.1,h1.2,λi hi=>?_⟩
 have:=h.1.2 i hi
 unfold wI at this
 rw [Bool.and_eq_true] at this
 exact ⟨of_decide_eq_true this.1,of_decide_eq_true this.2⟩
theorem nG {ds:List (List Int)} (h:b9 ds=true):1<=ds.length/\ds.length<=6/\∀ d∈ds,bD d=true:=by
 unfold b9 at h
 rw [Bool.and_eq_true,List.all_eq_true] at h
 have h1:=of_decide_eq_true h.1
 exact ⟨h1.1,h1.2,h.2⟩
theorem ra {i:Int} (h:0<=i/\i<=1000):i.natAbs < 10 ^ (40+1):=by
 have k:(2000000:Nat) < 10 ^ (40+1):=by decide +kernel
 omega
theorem Zcx {i:Int} (h:0<=i/\i<=1000000):i.natAbs < 10 ^ 400:=by
 have k:(2000000:Nat) < 10 ^ 400:=by decide +kernel
 omega
theorem Zn9 {d:List Int} (h:bD d=true):bB (dB d)=some d:=by
 obtain ⟨h1,h2,h3⟩:=nM h
 unfold bB dB
 rw [ZcL (by decide) (by decide) (by intro e; rw [e] at h1; simp at h1)]
 exact sv λi hi=>Zcx (by have:=h3 i hi; omega)
theorem Zob (d:List Int):32 ∉ (dB d).cps.toList:=by
 unfold dB
 have key:∀ l:List Int,32 ∉ (Str.join ⟨#[44]⟩ (l.map aG)).cps.toList:=by
  intro l
  have k:∀ i,32 ∉ (aG i).cps.toList:=λi=>by
   rw [eG]
   unfold b7
   have h:=iH i.natAbs
   split
   ·intro hm
    rcases List.mem_cons.mp hm with e | hm
    ·exact absurd e (by decide)
    ·have:=h 32 hm; omega
   ·intro hm
    have:=h 32 hm
    omega
  induction l with
  | nil=>intro hm; cases hm
  | cons i l ih =>
   cases l with
   | nil=>exact k i
   | cons j l =>
    have e:Str.join ⟨#[44]⟩ ((i::j::l).map aG)=aG i++⟨#[44]⟩++Str.join ⟨#[44]⟩ ((j::l).map aG):=rfl
    rw [e,Str.cps_append,Str.cps_append,Array.toList_append,Array.toList_append]
    intro hm
    rcases List.mem_append.mp hm with hm | hm
    ·rcases List.mem_append.mp hm with hm | hm
     ·exact k i hm
     ·have:32=44:=List.mem_singleton.mp hm
      cases this
    ·exact ih hm
 exact key d
theorem ZgB {ds:List (List Int)} (h:b9 ds=true):cC (ff ds)=some ds:=by
 obtain ⟨h1,h2,h3⟩:=nG h
 unfold cC ff
 have e:Txt.split (Str.join ⟨#[32]⟩ (ds.map dB)) ⟨#[32]⟩=ds.map dB:=pB (by intro e; have:=congrArg List.length e; rw [List.length_map] at this; simp at this; rw [this] at h1; simp at h1) λp hp=>by
  obtain ⟨d,_,rfl⟩:=List.mem_map.mp hp
  exact Zob d
 rw [e]
 have key:∀ {l:List (List Int)},(∀ d∈l,bD d=true)->bf bB (l.map dB)=some l:=by
  intro l
  induction l with
  | nil=>intro _; rfl
  | cons d l ih =>
   intro hd
   rw [List.map_cons,gq,Zn9 (hd d (by simp)),ih λe he=>hd e (List.mem_cons_of_mem _ he)]
   rfl
 exact key h3
theorem Zoa {d:List Int} (h:bD d=true):(dB d).length<=344:=by
 obtain ⟨h1,h2,h3⟩:=nM h
 unfold dB
 rw [<- tjoin]
 refine Nat.le_trans (nr rfl _) (Nat.le_trans (jb (n:=42) (kZ (n:=40) (λi hi=>ra (h3 i hi)) (by decide))) ?_)
 rw [List.length_map]
 omega
theorem ZaB {ds:List (List Int)} (h:b9 ds=true):((ds.map dB).map λw=>w.length+1).sum<=2070:=by
 obtain ⟨h1,h2,h3⟩:=nG h
 refine Nat.le_trans (jb (n:=344) λu hu=>?_) ?_
 ·obtain ⟨d,hd,rfl⟩:=List.mem_map.mp hu
  exact Zoa (h3 d hd)
 ·rw [List.length_map]; omega
theorem ZdH {ds:List (List Int)} (h:b9 ds=true):(ff ds).length<=2070:=by
 unfold ff
 rw [<- tjoin]
 exact Nat.le_trans (nr rfl _) (ZaB h)
theorem ft1 {d:List Int} (h:bD d=true):bA (am 0) my [.un] (tI d)=.ret (.str (dB d)):=by
 obtain ⟨h1,h2,h3⟩:=nM h
 have hsl:small (d.map PyData.int).length=true:=bY (by rw [List.length_map]; omega)
 have e1:=kS (h:=bA (am 0) ZbN [.un]) (k:=40) (λi hi=>ra (h3 i hi)) λi hi=>mn rfl hi
 have hj:=jb (us:=d.map aG) (n:=42) (kZ (n:=40) (λi hi=>ra (h3 i hi)) (by decide))
 rw [List.length_map] at hj
 have ej:av bL (.str ⟨#[44]⟩) (.list ((d.map aG).map PyData.str))=.ret (.str (dB d)):=by
  rw [ae ⟨by show 1<=16; decide,by rw [<- gj]; omega⟩,tjoin]
  rfl
 unfold tI
 simp_arith [my,gp,ae,ag,af,hsl,e1,ej]
theorem Zgo {ds:List (List Int)} (h:b9 ds=true):Al (nc [.pen,.d (fD ds)]) 100 λr=>∃ us:List Str,r=.d (.list (us.map PyData.str))/\us.length<=40/\∀ u∈us,u.length<=20000:=by
 obtain ⟨h1,h2,h3⟩:=nG h
 have l1:(" 1":Str).length=2:=by decide +kernel
 have l2:(",1":Str).length=2:=by decide +kernel
 have l3:(" ":Str).length=1:=by decide +kernel
 have l4:("\n":Str).length=1:=by decide +kernel
 have l5:("":Str).length=0:=by decide +kernel
 have l6:("0":Str).length=1:=by decide +kernel
 have l7:("0,0 1":Str).length=5:=by decide +kernel
 have l8:("1,1001":Str).length=6:=by decide +kernel
 have l9:("1000":Str).length=4:=by decide +kernel
 have lA:("1":Str).length=1:=by decide +kernel
 have cL:∀ (a:Str) (b:String),a.length<=400000->(b:Str).length<=4->av aS (.str a) (.str b)=.ret (.str (a++(b:Str))):=λa b h1 h2=>cat h1 (by omega)
 have cR:∀ (a:String) (b:Str),(a:Str).length<=4->b.length<=400000->av aS (.str a) (.str b)=.ret (.str ((a:Str)++b)):=λa b h1 h2=>cat (by omega) h2
 have hsl:small (ds.map tI).length=true:=bY (by rw [List.length_map]; omega)
 have e1:∀ {l:List (List Int)},(∀ d∈l,bD d=true)->bJ (bA (am 0) my [.un]) (l.map tI)=.ret ((l.map dB).map PyData.str):=by
  intro l
  induction l with
  | nil=>intro _; rfl
  | cons d l ih =>
   intro hd
   rw [List.map_cons,bJ,ft1 (hd d (by simp)),Tr.ret_bind,ih λe he=>hd e (List.mem_cons_of_mem _ he)]
   rfl
 have e1:=e1 h3
 have hj:=ZaB h
 have ej:av bL (.str " ") (.list ((ds.map dB).map PyData.str))=.ret (.str (ff ds)):=by
  rw [dh,ae ⟨by show 1<=16; decide,by rw [<- gj]; omega⟩,tjoin]
  rfl
 have hT:=ZdH h
 generalize ff ds=T at *
 have d1:=cL T " 1" (by omega) (by omega)
 have d2:=cL T ",1" (by omega) (by omega)
 have d3:=cL T " " (by omega) (by omega)
 have d4:=cR " " T (by omega) (by omega)
 have d5:=cL T "\n" (by omega) (by omega)
 have hrep:∀ n:Int,6<=n->n<=9->av fE (.list [PyData.str "1"]) (.int n)=.ret (.list ((List.replicate n.toNat ("1":Str)).map PyData.str)):=by
  intro n n0 n1
  rcases (show n=6\/n=7\/n=8\/n=9 by omega) with rfl | rfl | rfl | rfl <;> rfl
 have hrl:∀ n:Int,6<=n->n<=9->((List.replicate n.toNat ("1":Str)).map λw=>w.length+1).sum<=20:=by
  intro n n0 n1
  rcases (show n=6\/n=7\/n=8\/n=9 by omega) with rfl | rfl | rfl | rfl <;> decide +kernel
 unfold fD
 simp_arith [nc,ae,ag,af,aL,hsl,e1,ej,d1,d2,d3,d4,d5]
 refine bU (n:=99) (by decide) (by decide) (by decide) λa a0 a1=>?_
 obtain ⟨V,hV,hV2⟩:=iy (sep:=⟨#[32]⟩) rfl (l:=List.replicate (6+a).toNat ("1":Str)) (by have:=hrl (6+a) (by omega) (by omega); omega)
 have:=hrl (6+a) (by omega) (by omega)
 rw [<- dh] at hV
 simp_arith [ae,ag,af,aL,hrep (6+a) (by omega) (by omega),hV]
 refine bU (n:=98) (by decide) (by decide) (by decide) λb b0 b1=>?_
 obtain ⟨W,hW,hW2⟩:=iy (sep:=⟨#[44]⟩) rfl (l:=List.replicate (8+b).toNat ("1":Str)) (by have:=hrl (8+b) (by omega) (by omega); omega)
 have:=hrl (8+b) (by omega) (by omega)
 rw [<- gp] at hW
 have r10:fZ [.int 10]=.ret (cw 0 10):=jF rfl
 have hs10:small (cw 0 10).length=true:=bY (by rw [cS]; decide)
 simp_arith [ae,ag,af,aL,hrep (8+b) (by omega) (by omega),hW,r10,hs10]
 refine cP (n:=80) (n':=0) (nZ (n:=8) (P:=jU 10000) (Q:=λys=>∃ us:List Str,ys=us.map PyData.str/\us.length<=10/\∀ u∈us,u.length<=10000) (by rw [cS]; decide) (λx hx=>?_) λys hl hys=>?_) (by decide) ?_
 ·refine nY (bt1 rfl (by omega) x) (Nat.le_refl _) ?_
  rintro _ ⟨u,rfl,hu⟩
  exact ⟨u,rfl,by omega⟩
 ·obtain ⟨bs,rfl,hbs⟩:=ZaC hys
  rw [List.length_map,cS] at hl
  exact ⟨bs,rfl,by omega,hbs⟩
 ·rintro _ ⟨bs,rfl,hbl,hbs⟩
  have hm2:∀ n,n<=30->small (n+(bs.map PyData.str).length)=true:=λn hn=>bY (by rw [List.length_map]; omega)
  simp_arith [ae,ag,af,aL,hm2]
  refine cy ⟨[T,T++(" 1":Str),T++(",1":Str),T++(" ":Str),(" ":Str)++T,T++("\n" : Str), "", "0", "0,0 1", "1,1001", "1000",V,W]++bs,?_,by simp; omega,?_⟩
  ·rw [List.map_append]
   rfl
  ·intro u hu
   rcases List.mem_append.mp hu with hu | hu
   ·simp only [List.mem_cons,List.not_mem_nil,or_false] at hu
    rcases hu with rfl | rfl | rfl | rfl | rfl | rfl | rfl | rfl | rfl | rfl | rfl | rfl | rfl <;> (try simp only [strLen_append]) <;> omega
   ·have:=hbs u hu; omega
section
variable {fr fs:Addr}
theorem ZnO {t:Str} (h:t.length<=500000):eA fr fs [.fn fr,.d (.str t)]=.ret (.d (match eg t with | none=>.str "no text" | some ds=>.list [tI ds])):=by
 show iC (if fr=fr then dZ [.d (.str t)] else _)=_
 rw [if_pos rfl,ZeR h]
 cases eg t <;> rfl
theorem ZnP (hne:fs≠fr) {t:Str} (h:t.length<=500000):eA fr fs [.fn fs,.d (.str t)]=.ret (.d (match dM t with | none=>.str "no text" | some ds=>.list [fD ds])):=by
 show iC (if fs=fr then dZ [.d (.str t)] else if fs=fs then fv [.d (.str t)] else _)=_
 rw [if_neg hne,if_pos rfl,ZeX h]
 cases dM t <;> rfl
theorem ZnR {d:PyData} (h:dw d=false):eA fr fs [.fn fr,.d d]=.ret (.d (.str "no text")):=by
 show iC (if fr=fr then dZ [.d d] else _)=_
 rw [if_pos rfl,ZeQ h]
 rfl
theorem ZnQ (hne:fs≠fr) {d:PyData} (h:dw d=false):eA fr fs [.fn fs,.d d]=.ret (.d (.str "no text")):=by
 show iC (if fs=fr then dZ [.d d] else if fs=fs then fv [.d d] else _)=_
 rw [if_neg hne,if_pos rfl,ZeW h]
 rfl
theorem k8:small 1=true:=bY (by decide)
theorem Zjj (ds:List (List Int)):eE (fD ds)=false:=rfl
theorem Zji (ds:List Int):eE (tI ds)=false:=rfl
theorem ZcJ:eE .none=true:=rfl
theorem ZnD {t:Str} (h:t.length<=20000):gh fr fs [.fn fr,.d (.str t),.d (cv tI (eg t))]=.ret (.d (.bool true)):=by
 have eh:=ZnO (fr:=fr) (fs:=fs) (t:=t) (by omega)
 cases hr:eg t with
 | none =>
  rw [hr] at eh
  simp_arith [gh,cv,ae,ag,af,ZcJ,eh,beq_self_eq_true]
 | some ds =>
  rw [hr] at eh
  have hq:=nJ (Za4 (Zf5 hr)) (by decide) (by omega)
  simp_arith [gh,cv,ae,ag,af,Zji,eh,hq,beq_self_eq_true,k8]
theorem ZnE (hne:fs≠fr) {t:Str} (h:t.length<=20000):gh fr fs [.fn fs,.d (.str t),.d (cv fD (dM t))]=.ret (.d (.bool true)):=by
 have eh:=ZnP hne (t:=t) (by omega)
 cases hr:dM t with
 | none =>
  rw [hr] at eh
  simp_arith [gh,cv,ae,ag,af,ZcJ,eh,beq_self_eq_true]
 | some ds =>
  rw [hr] at eh
  have hq:=nJ (Za4 (Zj4 hr)) (by decide) (by omega)
  simp_arith [gh,cv,ae,ag,af,Zjj,eh,hq,beq_self_eq_true,k8]
theorem ZnL {t:Str} (h:t.length<=20000) (A B C D E J L:Sl):qY fr fs [A,B,C,D,E,J,.d (.str t),L]=.ret (.next [A,B,C,D,E,J,.d (.str t),L]):=by
 simp_arith [qY,ae,ag,af,ZnB (t:=t) (by omega),ZnD h,Bool.not_true]
theorem ZnK (hne:fs≠fr) {t:Str} (h:t.length<=20000) (A B C D E J L:Sl):qX fr fs [A,B,C,D,E,J,.d (.str t),L]=.ret (.next [A,B,C,D,E,J,.d (.str t),L]):=by
 simp_arith [qX,ae,ag,af,Zdl (t:=t) (by omega),ZnE hne h,Bool.not_true]
theorem ZnJ (hne:fs≠fr) {d:PyData} (h:dw d=false) (A B C D E J L:Sl):qW fr fs [A,B,C,D,E,J,L,.d d]=.ret (.next [A,B,C,D,E,J,L,.d d]):=by
 have e1:=ZnR (fr:=fr) (fs:=fs) h
 have e2:=ZnQ hne h
 simp_arith [qW,ae,ag,af,e1,e2,beq_self_eq_true,Bool.not_true]
theorem Zcw:∀ l:List Int,PyData.canLayAll0 (l.map PyData.int)=true
 | []=>rfl
 | i::l=>by rw [List.map_cons,PyData.canLayAll0,Zcw l]; rfl
theorem qR:∀ ds:List (List Int),PyData.canLayAll0 (ds.map tI)=true
 | []=>rfl
 | d::ds=>by
  have e:PyData.canLay0 (tI d)=true:=by unfold tI; rw [PyData.canLay0]; exact Zcw d
  rw [List.map_cons,PyData.canLayAll0,e,qR ds]; rfl
theorem Zdz:∀ l:List Int,PyData.depthAll (l.map PyData.int)=0
 | []=>rfl
 | i::l=>by rw [List.map_cons,PyData.depthAll,Zdz l]; rfl
theorem ZdA:∀ ds:List (List Int),PyData.depthAll (ds.map tI)<=1
 | []=>Nat.zero_le _
 | d::ds=>by
  have e:PyData.depth (tI d)=1:=by unfold tI; rw [PyData.depth,Zdz]
  rw [List.map_cons,PyData.depthAll,e]
  have:=ZdA ds
  omega
theorem Zc5 (ds:List (List Int)):SeqAt.shaped (fD ds)=true:=by
 unfold SeqAt.shaped fD
 rw [PyData.canLay0,qR,PyData.depth]
 rw [Bool.true_and]
 exact decide_eq_true (by have:=ZdA ds; omega)
theorem Zim (ds:List (List Int)):av c8 (fD ds) (fD ds)=.ret (.bool false):=by
 rw [Zin (Zc5 ds) (Zc5 ds) (λa b h=>by cases h.1)]
 have e:PyData.eqv (fD ds) (fD ds)=true:=SeqAt.eqv_refl _ (by unfold fD; rw [PyData.canLay0]; exact qR ds)
 rw [e]
 rfl
theorem ZcB {c d:Nat}:∀ {ps:List Str},c∈(Str.join ⟨#[d]⟩ ps).cps.toList->c=d\/∃ p∈ps,c∈p.cps.toList
 | [],h=>by cases h
 | [p],h=>.inr ⟨p,by simp,h⟩
 | p::q::ps,h=>by
  have e:Str.join ⟨#[d]⟩ (p::q::ps)=p++⟨#[d]⟩++Str.join ⟨#[d]⟩ (q::ps):=rfl
  rw [e,Str.cps_append,Str.cps_append,Array.toList_append,Array.toList_append] at h
  rcases List.mem_append.mp h with h | h
  ·rcases List.mem_append.mp h with h | h
   ·exact .inr ⟨p,by simp,h⟩
   ·exact .inl (List.mem_singleton.mp h)
  ·rcases ZcB h with h | ⟨r,hr,h⟩
   ·exact .inl h
   ·exact .inr ⟨r,List.mem_cons_of_mem _ hr,h⟩
theorem Zn3 (i:Int) {c:Nat} (h:c∈(aG i).cps.toList):c<=57:=by
 rw [eG] at h
 unfold b7 at h
 have hd:=iH i.natAbs
 split at h
 ·rcases List.mem_cons.mp h with e | hm
  ·omega
  ·exact (hd c hm).2
 ·exact (hd c h).2
theorem ZgD {T:Str} (h1:∀ c∈T.cps.toList,c<=57) (h2:T.length<=100000):Rp (.str T) 0 (10 * T.length+2):=by
 refine ⟨rfl,?_,Nat.zero_le _,?_⟩
 ·rw [PyData.showable]
 ·rw [PyData.shown]
  exact StrLaws.reprText_len T λc hc=>Nat.lt_of_le_of_lt (h1 c hc) (by decide)
theorem Zg1 {i:Int} (hi:i.natAbs < 10 ^ (40+1)):bA (am 0) (pW fr fs) [.un] (.int i)=.ret (.str (aG i)):=mn rfl hi
theorem ZiZ (hne:fs≠fr) (J2 J3 J4 J5 J6 J7:Sl):Al (qV fr fs [.un,.pen,J2,J3,J4,J5,J6,J7]) 400 λo=>∃ J2 J3 J4 J5 J6 J7:Sl,o=.next [.un,.pen,J2,J3,J4,J5,J6,J7]:=by
 simp_arith [qV,ae,ag,af,aL]
 refine cP (n:=60) (n':=340) Zgq (by decide) ?_
 rintro _ ⟨l,rfl,hl⟩
 simp_arith [ae,ag,af,aL]
 refine cP (n:=130) (n':=210) Zgu (by decide) ?_
 rintro _ ⟨ds,rfl,hd⟩
 obtain ⟨f1,f2,f3⟩:=nG hd
 have hl':=hl
 unfold cr at hl'
 rw [Bool.and_eq_true,Bool.and_eq_true,List.all_eq_true] at hl'
 have h9:=of_decide_eq_true hl'.1.1
 have hb:∀ i∈l,0<=i/\i<=1000000:=λi hi=>by
  have:=hl'.1.2 i hi
  unfold wI at this
  rw [Bool.and_eq_true] at this
  exact ⟨of_decide_eq_true this.1,of_decide_eq_true this.2⟩
 have hnb:∀ {i:Int},0<=i/\i<=1000000->nb 1900 i:=λ{i} hi=>Zip (Ziq (k:=20) (b:=1000000) ⟨by omega,hi.2⟩ (by decide)) (by decide)
 have rl:Rp (tI l) 1 17137:=Za3 (m:=9) (λi hi=>hnb (hb i hi)) (by omega)
 have rd:Rp (fD ds) 2 92000:=by
  refine me (Za2 (k:=1) (n:=15234) (xs:=ds.map tI) λx hx=>?_) (Nat.le_refl _) ?_
  ·obtain ⟨d,hd',rfl⟩:=List.mem_map.mp hx
   obtain ⟨_,g2,g3⟩:=nM (f3 d hd')
   exact Za3 (m:=8) (λi hi=>hnb (by have:=g3 i hi; omega)) g2
  ·rw [List.length_map]; omega
 have rk:=nJ (Za5 (k:=2) (n:=92000) (xs:=[tI l,fD ds]) λx hx=>by
  simp only [List.mem_cons,List.not_mem_nil,or_false] at hx
  rcases hx with rfl | rfl
  ·exact me rl (by decide) (by decide)
  ·exact rd) (by decide) (by show 2 * 92000+2 * 2+10<=10000000; decide)
 have hs2:small 2=true:=bY (by decide)
 simp_arith [ae,ag,af,aL,hs2,rk]
 generalize (PyData.list [tI l,fD ds]).shown=KP at *
 refine cP (n:=100) (n':=100) (Zgn hl) (by decide) ?_
 rintro _ ⟨us,rfl,hul,hus⟩
 simp_arith [ae,ag,af,aL]
 refine cP (n:=0) (n':=100) (P:=λo=>∃ J6:Sl,o=.next [.un,.pen,J2,.d (tI l),.d (fD ds),.d (.str KP),J6,J7]) ?_ (by decide) ?_
 ·refine n5 (n:=0) (λρ=>∃ J6:Sl,ρ=[.un,.pen,J2,.d (tI l),.d (fD ds),.d (.str KP),J6,J7]) ⟨_,rfl⟩ (by simp) ?_ ?_
  ·rintro x ρ hx ⟨K6,rfl⟩
   obtain ⟨u,hu,rfl⟩:=List.mem_map.mp hx
   have e:=ZnL (fr:=fr) (fs:=fs) (hus u hu) .un .pen J2 (.d (tI l)) (.d (fD ds)) (.d (.str KP)) J7
   exact ⟨_,rfl,nX e ⟨_,rfl,_,rfl⟩⟩
  ·rintro ρ ⟨K6,rfl⟩
   exact ⟨_,rfl⟩
 rintro _ ⟨K6,rfl⟩
 simp_arith [ae,ag,af,aL]
 refine cP (n:=100) (n':=0) (Zgo hd) (by decide) ?_
 rintro _ ⟨vs,rfl,hvl,hvs⟩
 simp_arith [ae,ag,af,aL]
 refine cP (n:=0) (n':=0) (P:=λo=>∃ J6:Sl,o=.next [.un,.pen,J2,.d (tI l),.d (fD ds),.d (.str KP),J6,J7]) ?_ (by decide) ?_
 ·refine n5 (n:=0) (λρ=>∃ J6:Sl,ρ=[.un,.pen,J2,.d (tI l),.d (fD ds),.d (.str KP),J6,J7]) ⟨_,rfl⟩ (by simp) ?_ ?_
  ·rintro x ρ hx ⟨K6,rfl⟩
   obtain ⟨u,hu,rfl⟩:=List.mem_map.mp hx
   have e:=ZnK hne (hvs u hu) .un .pen J2 (.d (tI l)) (.d (fD ds)) (.d (.str KP)) J7
   exact ⟨_,rfl,nX e ⟨_,rfl,_,rfl⟩⟩
  ·rintro ρ ⟨K6,rfl⟩
   exact ⟨_,rfl⟩
 rintro _ ⟨L6,rfl⟩
 have hne0:l≠[]:=by intro e; rw [e] at h9; cases h9
 have hsp:=ZcL (c:=32) (by decide) (by decide) hne0
 have hal:=sv (l:=l) λi hi=>Zcx (hb i hi)
 have hk41:∀ i∈l,i.natAbs < 10 ^ (40+1):=λi hi=>by
  have:=hb i hi
  have k:(2000000:Nat) < 10 ^ (40+1):=by decide +kernel
  omega
 have hsum:=jb (us:=l.map aG) (n:=42) (kZ (n:=40) hk41 (by decide))
 rw [List.length_map,h9] at hsum
 have hTl:(Str.join ⟨#[32]⟩ (l.map aG)).length<=400:=by
  rw [<- tjoin]
  exact Nat.le_trans (nr rfl _) (by omega)
 have hT57:∀ c∈(Str.join ⟨#[32]⟩ (l.map aG)).cps.toList,c<=57:=λc hc=>by
  rcases ZcB hc with e | ⟨p,hp,e⟩
  ·omega
  ·obtain ⟨i,_,rfl⟩:=List.mem_map.mp hp
   exact Zn3 i e
 have hq1:=kS (h:=bA (am 0) (pW fr fs) [.un]) (k:=40) hk41 λi hi=>Zg1 hi
 have hsl:small (l.map PyData.int).length=true:=bY (by rw [List.length_map]; omega)
 have ej:av bL (.str " ") (.list ((l.map aG).map PyData.str))=.ret (.str (Str.join ⟨#[32]⟩ (l.map aG))):=by
  rw [dh,ae ⟨by show 1<=16; decide,by rw [<- gj]; omega⟩,tjoin]
 rw [<- hsp] at hal
 have es:=Zny (t:=Str.join ⟨#[32]⟩ (l.map aG)) (by omega) hal
 have er:=nJ (ZgD hT57 (by omega)) (by decide) (by omega)
 have hru:=ZgB hd
 have hdl:=ZdH hd
 have e1:=ZnA (t:=ff ds) (by omega) hru
 have hfa:dM (ff ds)=some ds:=by unfold dM; rw [hru]; show (if b9 ds=true then some ds else none)=_; rw [hd]; rfl
 have e2:=ZnH (t:=ff ds) (by omega) hfa
 have e3:=Zdl (t:=ff ds) (by omega)
 rw [hfa] at e3
 have e3':gi [.d (.str (ff ds))]=.ret (.d (fD ds)):=e3
 generalize Str.join ⟨#[32]⟩ (l.map aG)=T at *
 have eit:kY (tI l)=.ret (l.map PyData.int):=rfl
 have elst:nR jw [tI l]=.ret (l.map PyData.int):=rfl
 have hs8:small 8=true:=bY (by decide)
 simp_arith [ae,ag,af,aL,es,er,eit,hsl,hq1,ej,beq_self_eq_true,Bool.not_true,e1,e2,e3',Zim,elst,k8,hs8]
 refine cP (n:=0) (n':=0) (P:=λo=>∃ J7:Sl,o=.next [.un,.pen,J2,.d (tI l),.d (fD ds),.d (.str KP),L6,J7]) ?_ (by decide) ?_
 ·refine n5 (n:=0) (λρ=>∃ J7:Sl,ρ=[.un,.pen,J2,.d (tI l),.d (fD ds),.d (.str KP),L6,J7]) ⟨_,rfl⟩ (by simp) ?_ ?_
  ·rintro x ρ hx ⟨K7,rfl⟩
   have hS:dw x=false:=by
    simp only [List.mem_cons,List.not_mem_nil,or_false] at hx
    rcases hx with rfl | rfl | rfl | rfl | rfl | rfl | rfl | rfl <;> rfl
   have e:=ZnJ hne hS .un .pen J2 (.d (tI l)) (.d (fD ds)) (.d (.str KP)) L6
   exact ⟨_,rfl,nX e ⟨_,rfl,_,rfl⟩⟩
  ·rintro ρ ⟨K7,rfl⟩
   exact ⟨_,rfl⟩
 rintro _ ⟨L7,rfl⟩
 simp_arith [ae,ag,af,aL,hs2,rk,beq_self_eq_true,Bool.not_true]
 exact cy ⟨_,_,_,_,_,_,rfl⟩
theorem ZiV (hne:fs≠fr):Al (nh fr fs qS) 1300 λo=>o=.ret (.d (.bool true)):=by
 have r3:fZ [.int 3]=.ret (cw 0 3):=jF rfl
 simp_arith [nh,qS,ae,ag,af,aL,r3]
 refine cP (n:=1200) (n':=0) (P:=λo=>∃ J2 J3 J4 J5 J6 J7:Sl,o=.next [.un,.pen,J2,J3,J4,J5,J6,J7]) ?_ (by decide) ?_
 ·refine n5 (n:=400) (λρ=>∃ J2 J3 J4 J5 J6 J7:Sl,ρ=[.un,.pen,J2,J3,J4,J5,J6,J7]) ⟨_,_,_,_,_,_,rfl⟩ (by rw [cS]; decide) ?_ ?_
  ·rintro x ρ hx ⟨J2,J3,J4,J5,J6,J7,rfl⟩
   refine ⟨_,rfl,nY (ZiZ hne _ _ _ _ _ _) (Nat.le_refl _) ?_⟩
   rintro _ ⟨K2,K3,K4,K5,K6,K7,rfl⟩
   exact ⟨_,rfl,_,_,_,_,_,_,rfl⟩
  ·rintro ρ ⟨J2,J3,J4,J5,J6,J7,rfl⟩
   exact ⟨_,_,_,_,_,_,rfl⟩
 ·rintro _ ⟨J2,J3,J4,J5,J6,J7,rfl⟩
  simp_arith [ae,ag,af,aL]
  exact cy rfl
end
end My
open PySem PySem.W PyProof.Rows L2
set_option maxRecDepth 100000 in
set_option maxHeartbeats 0 in
theorem PySem.Challenge.cw_twomarks_k50_shops_and_falls_as_texts_holds : PySem.Challenge.rw_twomarks_k50_shops_and_falls_as_texts.Holds := by
 refine My.hd ?_
 k_fill
 refine L2.Ze1 (l:=PySem.Challenge.rw_twomarks_k50_shops_and_falls_as_texts) (n:=63) (k:=9) (x:="_law_script") (CX:=g0) (sp:=L2.ZaG) rfl (by decide) rfl ⟨rfl,by decide,by decide,rfl⟩ (λw h Y=>PySem.W.kIn_of Y) ?F ?S ?C
 case F =>
  intro w mg fa h KX G hmg
  have d_is_whole:Def (L2.aO KX) mg "is_whole" My.lT ["thing"]:=by
   dsimp only [L2.aO]
   refine' L2.bM KX G ?a ?l ?c ?k ?b
   (case a=>k_is); (case l=>k_is); (case c=>k_is); (case k=>k_is)
   (case b=>intro _ _ _ _ _ _ us hl; obtain ⟨_,rfl⟩:=L2.cf hl; rfl)
  have d_is_whole_within:Def (L2.aO KX) mg "is_whole_within" My.lS ["thing","lowest","highest"]:=by
   dsimp only [L2.aO]
   refine' L2.bM KX G ?a ?l ?c ?k ?b
   (case a=>k_is); (case l=>k_is); (case c=>k_is); (case k=>k_is)
   (case b=>intro _ _ _ _ _ _ us hl; obtain ⟨_,_,_,rfl⟩:=L2.Zct hl; rfl)
  have d_is_shop:Def (L2.aO KX) mg "is_shop" My.ku ["thing"]:=by
   dsimp only [L2.aO]
   refine' L2.bM KX G ?a ?l ?c ?k ?b
   (case a=>k_is); (case l=>k_is); (case c=>k_is); (case k=>k_is)
   (case b=>intro _ _ _ _ _ _ us hl; obtain ⟨_,rfl⟩:=L2.cf hl; rfl)
  have d_is_day:Def (L2.aO KX) mg "is_day" My.jf ["thing"]:=by
   dsimp only [L2.aO]
   refine' L2.bM KX G ?a ?l ?c ?k ?b
   (case a=>k_is); (case l=>k_is); (case c=>k_is); (case k=>k_is)
   (case b=>intro _ _ _ _ _ _ us hl; obtain ⟨_,rfl⟩:=L2.cf hl; rfl)
  have d_is_falls:Def (L2.aO KX) mg "is_falls" My.kA ["thing"]:=by
   dsimp only [L2.aO]
   refine' L2.bM KX G ?a ?l ?c ?k ?b
   (case a=>k_is); (case l=>k_is); (case c=>k_is); (case k=>k_is)
   (case b=>intro _ _ _ _ _ _ us hl; obtain ⟨_,rfl⟩:=L2.cf hl; rfl)
  have d_ask_text:Def (L2.aO KX) mg "ask_text" My.lU ["thing"]:=by
   dsimp only [L2.aO]
   refine' L2.bM KX G ?a ?l ?c ?k ?b
   (case a=>k_is); (case l=>k_is); (case c=>k_is); (case k=>k_is)
   (case b=>intro _ _ _ _ _ _ us hl; obtain ⟨_,rfl⟩:=L2.cf hl; rfl)
  have d_is_number:Def (L2.aO KX) mg "is_number" My.kw ["word"]:=by
   dsimp only [L2.aO]
   refine' L2.bM KX G ?a ?l ?c ?k ?b
   (case a=>k_is); (case l=>k_is); (case c=>k_is); (case k=>k_is)
   (case b=>intro _ _ _ _ _ _ us hl; obtain ⟨_,rfl⟩:=L2.cf hl; rfl)
  have d_read_number:Def (L2.aO KX) mg "read_number" My.lP ["word"]:=by
   dsimp only [L2.aO]
   refine' L2.bM KX G ?a ?l ?c ?k ?b
   (case a=>k_is); (case l=>k_is); (case c=>k_is); (case k=>k_is)
   (case b=>intro _ _ _ _ _ _ us hl; obtain ⟨_,rfl⟩:=L2.cf hl; rfl)
  have d_read_shop:Def (L2.aO KX) mg "read_shop" My.kt ["text"]:=by
   dsimp only [L2.aO]
   refine' L2.bM KX G ?a ?l ?c ?k ?b
   (case a=>k_is); (case l=>k_is); (case c=>k_is); (case k=>k_is)
   (case b=>intro _ _ _ _ _ _ us hl; obtain ⟨_,rfl⟩:=L2.cf hl; rfl)
  have d_read_rule:Def (L2.aO KX) mg "read_rule" My.jd ["text"]:=by
   dsimp only [L2.aO]
   refine' L2.bM KX G ?a ?l ?c ?k ?b
   (case a=>k_is); (case l=>k_is); (case c=>k_is); (case k=>k_is)
   (case b=>intro _ _ _ _ _ _ us hl; obtain ⟨_,rfl⟩:=L2.cf hl; rfl)
  have d_read_falls:Def (L2.aO KX) mg "read_falls" My.lQ ["text"]:=by
   dsimp only [L2.aO]
   refine' L2.bM KX G ?a ?l ?c ?k ?b
   (case a=>k_is); (case l=>k_is); (case c=>k_is); (case k=>k_is)
   (case b=>intro _ _ _ _ _ _ us hl; obtain ⟨_,rfl⟩:=L2.cf hl; rfl)
  have d_show_number:Def (L2.aO KX) mg "show_number" My.lN ["number"]:=by
   dsimp only [L2.aO]
   refine' L2.bM KX G ?a ?l ?c ?k ?b
   (case a=>k_is); (case l=>k_is); (case c=>k_is); (case k=>k_is)
   (case b=>intro _ _ _ _ _ _ us hl; obtain ⟨_,rfl⟩:=L2.cf hl; rfl)
  have d_show_shop:Def (L2.aO KX) mg "show_shop" My.kq ["shop"]:=by
   dsimp only [L2.aO]
   refine' L2.bM KX G ?a ?l ?c ?k ?b
   (case a=>k_is); (case l=>k_is); (case c=>k_is); (case k=>k_is)
   (case b=>intro _ _ _ _ _ _ us hl; obtain ⟨_,rfl⟩:=L2.cf hl; rfl)
  have d_show_rule:Def (L2.aO KX) mg "show_rule" My.kr ["rule"]:=by
   dsimp only [L2.aO]
   refine' L2.bM KX G ?a ?l ?c ?k ?b
   (case a=>k_is); (case l=>k_is); (case c=>k_is); (case k=>k_is)
   (case b=>intro _ _ _ _ _ _ us hl; obtain ⟨_,rfl⟩:=L2.cf hl; rfl)
  have d_show_falls:Def (L2.aO KX) mg "show_falls" My.lO ["falls"]:=by
   dsimp only [L2.aO]
   refine' L2.bM KX G ?a ?l ?c ?k ?b
   (case a=>k_is); (case l=>k_is); (case c=>k_is); (case k=>k_is)
   (case b=>intro _ _ _ _ _ _ us hl; obtain ⟨_,rfl⟩:=L2.cf hl; rfl)
  have d__law_pen:Def (L2.aO KX) mg "_law_pen" My.lX ["_law_script"]:=by
   dsimp only [L2.aO]
   refine' L2.bM KX G ?a ?l ?c ?k ?b
   (case a=>k_is); (case l=>k_is); (case c=>k_is); (case k=>k_is)
   (case b=>intro _ _ _ _ _ _ us hl; obtain ⟨_,rfl⟩:=L2.cf hl; rfl)
  have d__law_draw:Def (L2.aO KX) mg "_law_draw" My.l0 ["_law_pen_here","_law_most"]:=by
   dsimp only [L2.aO]
   refine' L2.bM KX G ?a ?l ?c ?k ?b
   (case a=>k_is); (case l=>k_is); (case c=>k_is); (case k=>k_is)
   (case b=>intro _ _ _ _ _ _ us hl; obtain ⟨_,_,rfl⟩:=L2.jx hl; rfl)
  have d__law_price:Def (L2.aO KX) mg "_law_price" My.lW ["_law_pen_here"]:=by
   dsimp only [L2.aO]
   refine' L2.bM KX G ?a ?l ?c ?k ?b
   (case a=>k_is); (case l=>k_is); (case c=>k_is); (case k=>k_is)
   (case b=>intro _ _ _ _ _ _ us hl; obtain ⟨_,rfl⟩:=L2.cf hl; rfl)
  have d__law_shop:Def (L2.aO KX) mg "_law_shop" My.kB ["_law_pen_here"]:=by
   dsimp only [L2.aO]
   refine' L2.bM KX G ?a ?l ?c ?k ?b
   (case a=>k_is); (case l=>k_is); (case c=>k_is); (case k=>k_is)
   (case b=>intro _ _ _ _ _ _ us hl; obtain ⟨_,rfl⟩:=L2.cf hl; rfl)
  have d__law_falls:Def (L2.aO KX) mg "_law_falls" My.kD ["_law_pen_here"]:=by
   dsimp only [L2.aO]
   refine' L2.bM KX G ?a ?l ?c ?k ?b
   (case a=>k_is); (case l=>k_is); (case c=>k_is); (case k=>k_is)
   (case b=>intro _ _ _ _ _ _ us hl; obtain ⟨_,rfl⟩:=L2.cf hl; rfl)
  have d__law_number_of:Def (L2.aO KX) mg "_law_number_of" My.kC ["_law_word"]:=by
   dsimp only [L2.aO]
   refine' L2.bM KX G ?a ?l ?c ?k ?b
   (case a=>k_is); (case l=>k_is); (case c=>k_is); (case k=>k_is)
   (case b=>intro _ _ _ _ _ _ us hl; obtain ⟨_,rfl⟩:=L2.cf hl; rfl)
  have d__law_days_of:Def (L2.aO KX) mg "_law_days_of" My.kE ["_law_text"]:=by
   dsimp only [L2.aO]
   refine' L2.bM KX G ?a ?l ?c ?k ?b
   (case a=>k_is); (case l=>k_is); (case c=>k_is); (case k=>k_is)
   (case b=>intro _ _ _ _ _ _ us hl; obtain ⟨_,rfl⟩:=L2.cf hl; rfl)
  have d__law_heard:Def (L2.aO KX) mg "_law_heard" My.lY ["_law_read","_law_text"]:=by
   dsimp only [L2.aO]
   refine' L2.bM KX G ?a ?l ?c ?k ?b
   (case a=>k_is); (case l=>k_is); (case c=>k_is); (case k=>k_is)
   (case b=>intro _ _ _ _ _ _ us hl; obtain ⟨_,_,rfl⟩:=L2.jx hl; rfl)
  have d__law_right:Def (L2.aO KX) mg "_law_right" My.lV ["_law_read","_law_text","_law_due"]:=by
   dsimp only [L2.aO]
   refine' L2.bM KX G ?a ?l ?c ?k ?b
   (case a=>k_is); (case l=>k_is); (case c=>k_is); (case k=>k_is)
   (case b=>intro _ _ _ _ _ _ us hl; obtain ⟨_,_,_,rfl⟩:=L2.Zct hl; rfl)
  have d__law_bent_text:Def (L2.aO KX) mg "_law_bent_text" My.ma ["_law_pen_here","_law_text"]:=by
   dsimp only [L2.aO]
   refine' L2.bM KX G ?a ?l ?c ?k ?b
   (case a=>k_is); (case l=>k_is); (case c=>k_is); (case k=>k_is)
   (case b=>intro _ _ _ _ _ _ us hl; obtain ⟨_,_,rfl⟩:=L2.jx hl; rfl)
  have d__law_shop_of:Def (L2.aO KX) mg "_law_shop_of" My.jh ["_law_text"]:=by
   dsimp only [L2.aO]
   refine' L2.bM KX G ?a ?l ?c ?k ?b
   (case a=>k_is); (case l=>k_is); (case c=>k_is); (case k=>k_is)
   (case b=>intro _ _ _ _ _ _ us hl; obtain ⟨_,rfl⟩:=L2.cf hl; rfl)
  have d__law_falls_of:Def (L2.aO KX) mg "_law_falls_of" My.lZ ["_law_text"]:=by
   dsimp only [L2.aO]
   refine' L2.bM KX G ?a ?l ?c ?k ?b
   (case a=>k_is); (case l=>k_is); (case c=>k_is); (case k=>k_is)
   (case b=>intro _ _ _ _ _ _ us hl; obtain ⟨_,rfl⟩:=L2.cf hl; rfl)
  have d__law_shop_texts:Def (L2.aO KX) mg "_law_shop_texts" My.ie ["_law_pen_here","_law_shop_here"]:=by
   dsimp only [L2.aO]
   refine' L2.bM KX G ?a ?l ?c ?k ?b
   (case a=>k_is); (case l=>k_is); (case c=>k_is); (case k=>k_is)
   (case b=>intro _ _ _ _ _ _ us hl; obtain ⟨_,_,rfl⟩:=L2.jx hl; rfl)
  have d__law_falls_texts:Def (L2.aO KX) mg "_law_falls_texts" My.ji ["_law_pen_here","_law_falls_here"]:=by
   dsimp only [L2.aO]
   refine' L2.bM KX G ?a ?l ?c ?k ?b
   (case a=>k_is); (case l=>k_is); (case c=>k_is); (case k=>k_is)
   (case b=>intro _ _ _ _ _ _ us hl; obtain ⟨_,_,rfl⟩:=L2.jx hl; rfl)
  have d_law:Def (L2.aO KX) mg "law" My.je ["_law_script"]:=by
   dsimp only [L2.aO]
   refine' L2.bM KX G ?a ?l ?c ?k ?b
   (case a=>k_is); (case l=>k_is); (case c=>k_is); (case k=>k_is)
   (case b=>intro _ _ _ _ _ _ us hl; obtain ⟨_,rfl⟩:=L2.cf hl; rfl)
  have x_err:∃ C D a0 a1 a2 a3 a4 a5 a6:Addr,mg "NoText"=some (.ref C)/\mg "ShopError"=some (.ref D)/\mg "NoBack"=some (.ref a0)/\mg "NoFall"=some (.ref a1)/\mg "NoLevel"=some (.ref a2)/\mg "NoMean"=some (.ref a3)/\mg "NoRow"=some (.ref a4)/\mg "NoShare"=some (.ref a5)/\mg "NoStand"=some (.ref a6)/\L2.Exc (L2.aO KX) C D [a0,a1,a2,a3,a4,a5,a6]:=by
   dsimp only [L2.aO]
   refine' My.Znu KX G ?c ?d ?z0 ?z1 ?z2 ?z3 ?z4 ?z5 ?z6 ?q ?q2 ?u ?v ?y
   (case c=>k_is); (case d=>k_is); (case z0=>k_is); (case z1=>k_is); (case z2=>k_is); (case z3=>k_is); (case z4=>k_is); (case z5=>k_is); (case z6=>k_is)
   (case q=>kernel_rfl!); (case q2=>kernel_rfl!); (case u=>kernel_rfl!); (case v=>kit_is); (case y=>kit_is)
  have T:My.Txt (L2.aO KX) mg:=by
   dsimp only [L2.aO] at *
   refine' My.Zfh KX G ?z_len ?z_abs ?z_max ?z_min ?z_repr ?z_int ?z_list ?z_tuple ?z_str ?z_bool ?z_range ?z_isinstance ?z_all ?z_any ?z_ValueError ?z_divmod ?z_TOP ?z_DEPTH ?z_SHOP_NUMBERS ?z_MOST_REACH ?z_MOST_PRICE ?z_MOST_WEIGHTS ?z_MOST_WEIGHT ?z_MOST_DAYS ?z_MOST_FIGURES ?z_PART_FIGURES ?z_FIGURES ?z_PART d_is_whole d_is_whole_within d_is_shop d_is_day d_is_falls d_ask_text d_is_number d_read_number d_read_shop d_read_rule d_read_falls d_show_number d_show_shop d_show_rule d_show_falls d__law_pen d__law_draw d__law_price d__law_shop d__law_falls d__law_number_of d__law_days_of d__law_heard d__law_right d__law_bent_text d__law_shop_of d__law_falls_of d__law_shop_texts d__law_falls_texts d_law x_err
   (case z_len=>k_is)
   (case z_abs=>k_is)
   (case z_max=>k_is)
   (case z_min=>k_is)
   (case z_repr=>k_is)
   (case z_int=>k_is)
   (case z_list=>k_is)
   (case z_tuple=>k_is)
   (case z_str=>k_is)
   (case z_bool=>k_is)
   (case z_range=>k_is)
   (case z_isinstance=>k_is)
   (case z_all=>k_is)
   (case z_any=>k_is)
   (case z_ValueError=>k_is)
   (case z_divmod=>k_is)
   (case z_TOP=>k_is)
   (case z_DEPTH=>k_is)
   (case z_SHOP_NUMBERS=>k_is)
   (case z_MOST_REACH=>k_is)
   (case z_MOST_PRICE=>k_is)
   (case z_MOST_WEIGHTS=>k_is)
   (case z_MOST_WEIGHT=>k_is)
   (case z_MOST_DAYS=>k_is)
   (case z_MOST_FIGURES=>k_is)
   (case z_PART_FIGURES=>k_is)
   (case z_FIGURES=>k_is)
   (case z_PART=>k_is)
  obtain ⟨f_read_shop,fd_read_shop,F_read_shop,hm_read_shop,_⟩:=T.ZdJ.ex
  obtain ⟨f_read_falls,fd_read_falls,F_read_falls,hm_read_falls,_⟩:=T.rQ.ex
  obtain ⟨f,fd,F,hm,_⟩:=T.Zoi.ex
  have e0:=hmg.symm.trans hm
  cases e0
  refine ⟨fd,?_,λbase _ _=>My.Zh5 T hm_read_shop hm_read_falls F (L2.Tr.ok_mono (L2.Tr.all_ok (My.ZiV (L2.Zj0 F_read_falls F_read_shop (by decide +kernel))).out (by decide)) λ_ _ h=>h.2)⟩
  obtain ⟨oc,od,kV,doc,pm,an,cdv,ct,osl,rfl,lk,hcd⟩:=F.ex
  exact λs u=>.of_eq rfl
 case S=>exact λK H a ns hl _ hS=>⟨a,ns,rfl,hS,hl,λ_=>rfl⟩
 case C=>exact λ_ _ _ _ z=>z
