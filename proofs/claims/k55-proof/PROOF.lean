import PyProof.Rows.All
import Wide.All
import OpenK.AllK
import Wide.FinOn
import Lean
import PyProof.EqAt
import PyProof.EqKinds
import PyProof.TupleCall
import PySem.Challenge.RW_twomarks_k55_books_refuse
set_option Elab.async false
set_option linter.all false
set_option maxRecDepth 100000
set_option maxHeartbeats 0
noncomputable abbrev My.vw : PySem.Program := PySem.W.view
 PySem.Challenge.rw_twomarks_k55_books_refuse.row.prog [1, 2, 3, 4, 5, 6, 7, 8, 9, 11, 12, 14, 15, 16, 17, 18, 19, 20, 21, 22, 23, 24, 26, 28, 29, 30, 31, 32, 33, 34, 35, 36, 37, 38, 39, 40, 41, 42, 43, 44, 45]
open PySem PySem.W in
theorem My.hd_l {p q:Program} {loose:List Str} {Xt:Shared->Bool} {α:Type} {Yf:Shared->α} {Ya:World->α} {N:Nat} (a:∀ w,(openEnds treeTable p w N).map (λs=>openSeen q loose (importedModules p.main.body) Xt true s)=some (openGood q loose)) (b:∀ w,(openEnds treeTable p w N).map Yf=some (Ya w)):LeftO p q loose Xt Yf Ya N:=λw=>by
 have h:=a w
 have g:=b w
 cases e:openEnds treeTable p w N with
 | none=>rw [e] at h;exact nomatch h
 | some s=>rw [e,Option.map_some] at h g;rw [Option.map_some,Option.some.inj h,Option.some.inj g]
theorem My.hd_b {A B C H:Prop} (f:A->B->C->H) (p:A∧B∧C):H:=f p.1 p.2.1 p.2.2
local macro_rules
 | `(tactic| o_head $H:term) => `(tactic| (
  refine My.hd_b (λa b c => PySem.W.holds_open (q := My.vw) (loose := [])
   (Xt := λs => PySem.W.xlAt My.vw [] s && PySem.W.recOk
    (PySem.W.RowW.records PySem.Challenge.rw_twomarks_k55_books_refuse.row.toRowW) s)
   (XP := PySem.W.XL My.vw []) (Yf := ($H).obs)
   (Ya := ($H).val) (YP := ($H).says) (N := 20000) (My.hd_l a b)
   ($H).of ($H).keeps (λs e => PySem.W.xl_of s
    (Bool.and_eq_true_iff.mp e).1) PySem.W.XL.keeps
   (by rfl) (by rfl) (by rfl)
   (λs e => PySem.W.recFacts_of
    (Bool.and_eq_true_iff.mp e).2)
   (by rfl) ?k1 (by decide +kernel)
   ⟨rfl, rfl, rfl, rfl, rfl, by decide +kernel⟩ ?hw c) ?hc
  (case k1 => assumption)))
open_top My.hd_0 for PySem.Challenge.rw_twomarks_k55_books_refuse
noncomputable def My.hd_1:=λb c=>My.hd_0 ⟨λw=>by kernel_rfl,b,c⟩
noncomputable def My.hd:=λc=>My.hd_1 (λw=>by kernel_rfl) c
set_option maxHeartbeats 4000000
namespace L2
open PySem PySem.Spec PyProof.Rows
noncomputable abbrev b8:=Sum Int Str
noncomputable def la:b8->Value->Bool
 | .inl k,v=>Value.isInt k v
 | .inr x,v=>Value.isStrOf x v
noncomputable def ZiA (w:World):b8->Int
 | .inl k=>hashInt k
 | .inr x=>hashStr w x
theorem iP:∀ {k:b8} {v:Value},la k v=true->(∃ i t,k=Sum.inl i/\v=Value.int i t)\/(∃ x t,k=Sum.inr x/\v=Value.str x t)
 | .inl i,v,h=>by
  obtain ⟨t,e⟩:=Value.isInt_shape (k:=i) (v:=v) h
  exact .inl ⟨i,t,rfl,e⟩
 | .inr x,v,h=>by
  obtain ⟨t,e⟩:=Value.isStrOf_shape (x:=x) (v:=v) h
  exact .inr ⟨x,t,rfl,e⟩
theorem Ziz (i:Int) (t:Tok):la (.inl i) (.int i t)=true:=by simp [la,Value.isInt]
theorem Ziy (x:Str) (t:Tok):la (.inr x) (.str x t)=true:=by simp [la,Value.isStrOf]
theorem Zix (a b:Int):decide ((Sum.inl a:b8)=Sum.inl b)=(a == b):=by
 by_cases e:a=b
 ·subst e; simp
 ·have h:¬ (Sum.inl a:b8)=Sum.inl b:=λq=>e (Sum.inl.inj q)
  rw [decide_eq_false h]
  exact (beq_eq_false_iff_ne.mpr e).symm
theorem Ziu (a b:Str):decide ((Sum.inr a:b8)=Sum.inr b)=decide (a=b):=by
 by_cases e:a=b
 ·subst e; simp
 ·have h:¬ (Sum.inr a:b8)=Sum.inr b:=λq=>e (Sum.inr.inj q)
  rw [decide_eq_false h,decide_eq_false e]
theorem Ziw (a:Int) (b:Str):decide ((Sum.inl a:b8)=Sum.inr b)=false:=decide_eq_false (λq=>nomatch q)
theorem Ziv (a:Str) (b:Int):decide ((Sum.inr a:b8)=Sum.inl b)=false:=decide_eq_false (λq=>nomatch q)
noncomputable def fO (prog:Program) (w:World):PySem.KeyKind prog w b8 where
 is:=la
 hash:=ZiA w
 inj:=λv a b ha hb=>by
  rcases iP ha with ⟨i,t,rfl,rfl⟩ | ⟨x,t,rfl,rfl⟩
  ·rcases iP hb with ⟨j,u,rfl,e⟩ | ⟨y,u,rfl,e⟩
   ·injection e with e1 _; rw [e1]
   ·exact nomatch e
  ·rcases iP hb with ⟨j,u,rfl,e⟩ | ⟨y,u,rfl,e⟩
   ·exact nomatch e
   ·injection e with e1 _; rw [e1]
 byValue:=λk v h=>by
  rcases iP h with ⟨i,t,rfl,rfl⟩ | ⟨x,t,rfl,rfl⟩ <;> rfl
 pyHash:=λhv h=>by
  rcases iP hv with ⟨i,t,rfl,rfl⟩ | ⟨x,t,rfl,rfl⟩
  ·exact wpAny_pyHash_int h
  ·exact wpAny_pyHash_str h
 eqBool:=λhu hv h=>by
  rcases iP hu with ⟨i,t,rfl,rfl⟩ | ⟨x,t,rfl,rfl⟩
  ·rcases iP hv with ⟨j,u,rfl,rfl⟩ | ⟨y,u,rfl,rfl⟩
   ·rw [Zix] at h; exact wpAny_eqBool_int h
   ·rw [Ziw] at h; exact SeqAt.EqAt.int_str i t y u _ _ _ _ h
  ·rcases iP hv with ⟨j,u,rfl,rfl⟩ | ⟨y,u,rfl,rfl⟩
   ·rw [Ziv] at h; exact SeqAt.EqAt.str_int x t j u _ _ _ _ h
   ·rw [Ziu] at h; exact wpAny_eqBool_str h
 «strs»:=λk x t v h=>by
  rcases iP h with ⟨i,u,rfl,e⟩ | ⟨y,u,rfl,e⟩
  ·exact nomatch e
  ·injection e with e1 _
   subst e1
   cases v <;> rfl
theorem Zh2 (prog:Program) (w:World) (i:Int) (t:Tok):(fO prog w).is (.inl i) (.int i t)=true:=Ziz i t
theorem Zh1 (prog:Program) (w:World) (x:Str) (t:Tok):(fO prog w).is (.inr x) (.str x t)=true:=Ziy x t
inductive V where
 | non | bl (b:Bool) | int (i:Int) | str (x:Str) | byt (b:Array UInt8) | flt (b:UInt64) | ref (a:Addr) | ty (n:String)
 deriving DecidableEq
noncomputable def RelV:V->Value->Prop
 | .non,u=>u=Value.none
 | .bl b,u=>u=Value.bool b
 | .int i,u=>∃ t,u=Value.int i t
 | .str x,u=>∃ t,u=Value.str x t
 | .byt b,u=>∃ t,u=Value.bytes b t
 | .flt b,u=>∃ t,u=Value.float b t
 | .ref a,u=>u=Value.ref a
 | .ty n,u=>u=Value.type n
noncomputable abbrev Vals:List V->List Value->Prop:=Paired RelV
theorem Vals.length {xs:List V} {us:List Value} (r:Vals xs us):xs.length=us.length:=Paired.length r
theorem Vals.get {xs:List V} {us:List Value} {i:Nat} {x:V} (h:Vals xs us) (e:xs[i]?=some x):∃ u,us[i]?=some u/\RelV x u:=by
 induction h generalizing i with
 | nil=>cases e
 | cons r t ih=>cases i with | zero=>cases e; exact ⟨_,rfl,r⟩ | succ i=>exact ih (i:=i) e
theorem Vals.set {x:V} {u:Value} (r:RelV x u) {xs:List V} {us:List Value} (i:Nat) (h:Vals xs us):Vals (xs.set i x) (us.set i u):=by
 induction h generalizing i with
 | nil=>exact .nil
 | cons q t ih=>cases i with | zero=>exact .cons r t | succ i=>exact .cons q (ih i)
theorem Vals.append {xs ys:List V} {us ws:List Value} (h:Vals xs us) (s:Vals ys ws):Vals (xs++ys) (us++ws):=by
 induction h with
 | nil=>exact s
 | cons r t ih=>exact .cons r ih
theorem Vals.take {xs:List V} {us:List Value} (n:Nat) (h:Vals xs us):Vals (xs.take n) (us.take n):=by
 induction h generalizing n with
 | nil=>rw [List.take_nil,List.take_nil]; exact .nil
 | cons r t ih=>cases n with | zero=>exact .nil | succ n=>exact .cons r (ih n)
theorem Vals.drop {xs:List V} {us:List Value} (n:Nat) (h:Vals xs us):Vals (xs.drop n) (us.drop n):=by
 induction h generalizing n with
 | nil=>rw [List.drop_nil,List.drop_nil]; exact .nil
 | cons r t ih=>cases n with | zero=>exact .cons r t | succ n=>exact ih n
noncomputable def RelO:Option V->Option Value->Prop
 | some v,some u=>RelV v u
 | none,none=>True
 | _,_=>False
noncomputable def KV {κ:Type}:List (κ×V)->List (κ×Value)->Prop:=Paired λ(p:κ×V) (q:κ×Value)=>p.1=q.1/\RelV p.2 q.2
noncomputable def kV:b8->V
 | .inl i=>.int i
 | .inr x=>.str x
inductive HO where
 /-- a list -/
 | lst (xs:List V)
 /-- a tuple (never changes) -/
 | tup (xs:List V)
 /-- a dict whose keys are ints and texts; one whose keys are tuples of ints and texts (the empty one is both) -/
 | dK (kvs:List (b8×V)) | dT (kvs:List (List b8×V))
 /-- a set of ints: its members,its size -/
 | set (S:Int->Bool) (n:Nat)
 /-- an instance of the class at C,its dict at dx,its attributes -/
 | ins (C dx:Addr) (fs:List (Str×V))
 /-- the dict of the instance at x -/
 | own (x:Addr)
 /-- the dict of an exception -/
 | xd (fs:List (Str×V))
 /-- a bound method,f of x -/
 | met (f x:Addr)
 /-- a range object lo,lo+1,.. below hi -/
 | rng (lo hi:Int)
 /-- a thing that is known to the object (the script; a dict while a loop walks it): read,never written while it is so -/
 | frz (o:Obj) (u:HO)
 /-- a code object's table -/
 | tbl (ps:Array Value)
 /-- any other thing,by what is true of its one object (a def of one's own: SetO a S n:=HO.ext λh=>..) -/
 | ext (φ:Heap->Prop)
 | cod (ps:Array Value)
 /-- a thing of the law's own that changes by many hands -/
 | chg (u:HO)
noncomputable abbrev Hp:=Addr->Option HO
noncomputable def upd (H:Hp) (a:Addr) (o:HO):Hp:=λb=>if b=a then some o else H b
theorem cr {H:Hp} {a:Addr} {o:HO}:upd H a o a=some o:=by unfold upd; rw [if_pos rfl]
theorem ak {H:Hp} {a b:Addr} {o:HO} (h:b≠a):upd H a o b=H b:=by unfold upd; rw [if_neg h]
theorem jc {H:Hp} {a:Addr} {o u:HO}:upd (upd H a o) a u=upd H a u:=by
 funext b; unfold upd; split <;> rfl
theorem ZhP {H:Hp} {a b:Addr} {o u:HO} (h:H a=some o) (h':H b=some u) (d:o≠u):a≠b:=by
 intro e; subst e; rw [h] at h'; exact d (Option.some.inj h')
theorem eT {H:Hp} {a b:Addr} {o:HO} (h:H a=some o) (h':H b=none):a≠b:=by
 intro e; subst e; rw [h] at h'; cases h'
section
variable (P:Program) (w:World)
noncomputable def ObjOk (H:Hp) (h:Heap) (a:Addr):HO->Prop
 | .lst xs=>xs.length<=sizeLine/\∃ (its:List Value) (n:Nat),Vals xs its/\h.get? a=some { cls:=.type "list",data:=.seq its.toArray n }
 | .tup xs=>xs.length<=sizeLine/\∃ its:List Value,Vals xs its/\IsTup h a its.toArray
 | .dK kvs=>kvs.length<=sizeLine/\(a == sysModules)=false/\∃ vs,KV kvs vs/\h.DictOf (fO P w) a vs
 | .dT kvs=>kvs.length<=sizeLine/\(a == sysModules)=false/\∃ xs:List (List b8×Addr×Value),
   Paired (λ(p:List b8×V) (q:List b8×Addr×Value)=>p.1=q.1/\H q.2.1=some (.tup (p.1.map kV))/\RelV p.2 q.2.2) kvs xs /\
   ∃ o es ep,h.get? a=some o/\o.ExactDict/\o.data=.dict es ep/\es.toList=xs.map (entryOfKey (tupleKind (fO P w)))/\(xs.map (·.1)).Nodup
 | .set S n=>h.SetOf (intKind P w) a S n
 | .ins C dx fs=>H dx=some (.own a)/\fs.length<=1000/\dx≠a/\h.get? a=some (PySem.W.instObj C dx) /\
   ∃ mA,h.Ns1 dx mA/\(∀ f,RelO (fs.lookup f) (mA f))/\PySem.Within mA (fs.map (·.1))
 | .own _=>∃ o,h.get? a=some o
 | .xd fs=>∃ mA,h.Ns1 a mA/\∀ f,RelO (fs.lookup f) (mA f)
 | .rng lo hi=>∃ t u v,h.get? a=some { cls:=.type "range",data:=.fields #[.int lo t,.int hi u,.int 1 v] }
 | .frz o u=>h.get? a=some o/\ObjOk H h a u
 | .tbl ps=>h.get? a=some { cls:=.none,data:=.fields ps }
 | .met f x=>h.get? a=some (PySem.W.methodObj (.ref f) (.ref x))
 | .ext φ=>φ h/\(∃ o,h.get? a=some o)/\∀ h1 h2:Heap,φ h1->(∀ o,h1.get? a=some o->h2.get? a=some o)->φ h2
 | .cod ps=>∃ more:Array Value,h.get? a=some { cls:=.none,data:=.fields (ps++more) }/\PySem.TriplesOk (ps++more).toList/\∀ (po:Pos) (v:Value),codeAmong po (ps++more).toList=some v->∃ (c:Addr) (ob:Obj) (vs:Array Value) (q:Str) (t:Tok),v=.ref c/\H c=some (.frz ob (.own 0))/\ob.data=.fields vs/\vs[1]?=some (.str q t)
 | .chg u=>ObjOk H h a u
noncomputable def HOk (H:Hp) (h:Heap):Prop:=∀ a o,H a=some o->ObjOk P w H h a o
end
section
variable {P:Program} {w:World} {H H':Hp} {h h':Heap} {a:Addr} {o:HO}
theorem ObjOk.lt (x:ObjOk P w H h a o):a < h.objs.size:=by
 induction o with
 | lst xs=>obtain ⟨_,_,_,_,e⟩:=x; exact Heap.lt_size e
 | tup xs=>obtain ⟨_,_,_,p⟩:=x; exact p.lt
 | dK kvs=>obtain ⟨_,_,_,_,o,_,_,e,_⟩:=x; exact Heap.lt_size e
 | dT kvs=>obtain ⟨_,_,_,_,o,_,_,e,_⟩:=x; exact Heap.lt_size e
 | set S n=>obtain ⟨o,_,_,_,e,_⟩:=x; exact Heap.lt_size e
 | ins C dx fs=>obtain ⟨_,_,_,e,_⟩:=x; exact Heap.lt_size e
 | own y=>obtain ⟨_,e⟩:=x; exact Heap.lt_size e
 | xd fs=>obtain ⟨_,⟨_,_,_,e,_⟩,_⟩:=x; exact Heap.lt_size e
 | rng lo hi=>obtain ⟨_,_,_,e⟩:=x; exact Heap.lt_size e
 | frz ob u _=>obtain ⟨e,_⟩:=x; exact Heap.lt_size e
 | tbl ps=>exact Heap.lt_size (show h.get? a=some _ from x)
 | met f y=>exact Heap.lt_size (show h.get? a=some _ from x)
 | ext φ=>obtain ⟨_,⟨_,e⟩,_⟩:=x; exact Heap.lt_size e
 | cod ps=>obtain ⟨_,e,_⟩:=x; exact Heap.lt_size e
 | chg u ih=>exact ih x
theorem Paired.mapP {α β:Type} {F G:α->β->Prop} {l₁:List α} {l₂:List β} (h:Paired F l₁ l₂) (f:∀ a b,F a b->G a b):Paired G l₁ l₂:=by
 induction h with
 | nil=>exact .nil
 | cons r t ih=>exact .cons (f _ _ r) ih
theorem ObjOk.stay (x:ObjOk P w H h a o) (k:∀ b u,(b=a\/H b=some (.own a))->h.get? b=some u->h'.get? b=some u)
  (ho:∀ b,H b=some (.own a)->H' b=some (.own a)) (ht:∀ b xs,H b=some (.tup xs)->H' b=some (.tup xs)) (hf:∀ b ob u vs,H b=some (.frz ob u)->ob.data=.fields vs->H' b=some (.frz ob u)):ObjOk P w H' h' a o:=by
 induction o with
 | lst xs=>obtain ⟨z,its,n,r,e⟩:=x; exact ⟨z,its,n,r,k _ _ (.inl rfl) e⟩
 | tup xs=>obtain ⟨z,its,r,ob,e,c⟩:=x; exact ⟨z,its,r,ob,k _ _ (.inl rfl) e,c⟩
 | dK kvs=>obtain ⟨z,y,vs,r,ob,es,ep,e,c⟩:=x; exact ⟨z,y,vs,r,ob,es,ep,k _ _ (.inl rfl) e,c⟩
 | dT kvs =>
  obtain ⟨z,y,xs,r,ob,es,ep,e,c⟩:=x
  exact ⟨z,y,xs,Paired.mapP r λp q z=>⟨z.1,ht _ _ z.2.1,z.2.2⟩,ob,es,ep,k _ _ (.inl rfl) e,c⟩
 | set S n=>obtain ⟨ob,es,ep,t,e,c⟩:=x; exact ⟨ob,es,ep,t,k _ _ (.inl rfl) e,c⟩
 | ins C dx fs =>
  obtain ⟨d,z,ne,e,mA,⟨od,es,ep,e2,c⟩,r⟩:=x
  exact ⟨ho _ d,z,ne,k _ _ (.inl rfl) e,mA,⟨od,es,ep,k _ _ (.inr d) e2,c⟩,r⟩
 | own y=>obtain ⟨ob,e⟩:=x; exact ⟨ob,k _ _ (.inl rfl) e⟩
 | xd fs=>obtain ⟨mA,⟨od,es,ep,e,c⟩,r⟩:=x; exact ⟨mA,⟨od,es,ep,k _ _ (.inl rfl) e,c⟩,r⟩
 | rng lo hi=>obtain ⟨t,u,v,e⟩:=x; exact ⟨t,u,v,k _ _ (.inl rfl) e⟩
 | frz ob u ih=>obtain ⟨e,q⟩:=x; exact ⟨k _ _ (.inl rfl) e,ih q⟩
 | tbl ps =>
  have e:h.get? a=some { cls:=.none,data:=.fields ps }:=x
  show h'.get? a=some { cls:=.none,data:=.fields ps }
  exact k a _ (.inl rfl) e
 | met f y =>
  have e:h.get? a=some (PySem.W.methodObj (.ref f) (.ref y)):=x
  show h'.get? a=some (PySem.W.methodObj (.ref f) (.ref y))
  exact k a _ (.inl rfl) e
 | ext φ=>obtain ⟨p,⟨o,e⟩,st⟩:=x; exact ⟨st _ _ p λo q=>k _ _ (.inl rfl) q,⟨o,k _ _ (.inl rfl) e⟩,st⟩
 | cod ps =>
  obtain ⟨more,e,tr,al⟩:=x
  refine ⟨more,k _ _ (.inl rfl) e,tr,λpo v hv=>?_⟩
  obtain ⟨c,ob,vs,q,t,r1,r2,r3⟩:=al po v hv
  exact ⟨c,ob,vs,q,t,r1,hf _ _ _ _ r2 r3.1,r3⟩
 | chg u ih=>exact ih x
theorem HOk.lt (x:HOk P w H h) (e:H a=some o):a < h.objs.size:=(x a o e).lt
theorem HOk.fresh (x:HOk P w H h) (e:h.objs.size<=a):H a=none:=by
 cases q:H a with
 | none=>rfl
 | some u=>exact absurd (Nat.lt_of_lt_of_le (x.lt q) e) (Nat.lt_irrefl _)
theorem HOk.kept (x:HOk P w H h) (k:∀ b u,h.get? b=some u->h'.get? b=some u):HOk P w H h':=λa o e =>
 (x a o e).stay (λb u _ q=>k b u q) (λ_ q=>q) (λ_ _ q=>q) λ_ _ _ _ q _=>q
theorem HOk.laid (x:HOk P w H h) (k:∀ b u,h.get? b=some u->h'.get? b=some u) (hp:h.objs.size<=a) (new:ObjOk P w (upd H a o) h' a o):HOk P w (upd H a o) h':=λb u e=>by
 have hn:=x.fresh hp
 by_cases hb:b=a
 ·subst hb; rw [cr] at e; cases e; exact new
 ·rw [ak hb] at e
  exact (x b u e).stay (λc v _ q=>k c v q) (λc q=>by rw [ak (eT q hn)]; exact q) (λc xs q=>by rw [ak (eT q hn)]; exact q) λc ob xs _ q _=>by rw [ak (eT q hn)]; exact q
end
noncomputable def Rd (H:Hp) (a:Addr) (u:HO):Prop:=H a=some u\/(∃ o,H a=some (.frz o u))\/H a=some (.chg u)
noncomputable def Rd0 (H:Hp) (a:Addr) (u:HO):Prop:=H a=some u\/∃ o,H a=some (.frz o u)
theorem Rd.ok {P:Program} {w:World} {H:Hp} {h:Heap} {a:Addr} {u:HO} (r:Rd H a u) (x:HOk P w H h):ObjOk P w H h a u:=by
 rcases r with r | ⟨o,r⟩ | r
 ·exact x a u r
 ·obtain ⟨_,q⟩:=x a _ r
  exact q
 ·exact (show ObjOk P w H h a (.chg u) from x a _ r)
noncomputable def mz:Option HO->Prop
 | some (.lst _)=>True
 | some (.dK _)=>True
 | some (.dT _)=>True
 | some (.set _ _)=>True
 | some (.ins _ _ _)=>True
 | some (.ext _)=>True
 | _=>False
section
variable {P:Program} {w:World} {H:Hp} {h h':Heap} {x e:Addr} {o':HO}
theorem HOk.write (ok:HOk P w H h) (mu:mz (H x)) (he:e=x\/H e=some (.own x)) (k:∀ b u,b≠e->h.get? b=some u->h'.get? b=some u) (heo:∃ u,h'.get? e=some u)
  (new:ObjOk P w (upd H x o') h' x o'):HOk P w (upd H x o') h':=λb u q=>by
 have nown:∀ c y,H c=some (.own y)->c≠x:=λc y r z=>by subst z; rw [r] at mu; exact mu
 have ntup:∀ c xs,H c=some (.tup xs)->c≠x:=λc xs r z=>by subst z; rw [r] at mu; exact mu
 have nfrz:∀ c ob u,H c=some (.frz ob u)->c≠x:=λc ob u r z=>by subst z; rw [r] at mu; exact mu
 by_cases hb:b=x
 ·subst hb; rw [cr] at q; cases q; exact new
 ·rw [ak hb] at q
  by_cases hbe:b=e
  ·have q':H b=some (.own x):=by
    rcases he with z | z
    ·exact absurd (hbe.trans z) hb
    ·rw [hbe]; exact z
   rw [q] at q'; cases q'
   obtain ⟨v,hv⟩:=heo
   exact ⟨v,by rw [hbe]; exact hv⟩
  ·refine (ok b u q).stay (λc v hc r=>k c v ?_ r) (λc r=>by rw [ak (nown c b r)]; exact r) (λc xs r=>by rw [ak (ntup c xs r)]; exact r) λc ob xs _ r _=>by rw [ak (nfrz c ob xs r)]; exact r
   rcases hc with rfl | hc
   ·exact hbe
   ·rintro rfl
    rcases he with z | z
    ·exact nown c b hc z
    ·rw [hc] at z; cases z; exact hb rfl
end
structure Un (fs ex:List Addr) (H H':Hp) (h h':Heap):Prop where
 keep:∀ b o,h.get? b=some o->H b=none->b ∉ fs->b ∉ ex->h'.get? b=some o
 slot:∀ b o,h.get? b=some o->H b=none->b∈fs->b ∉ ex->∃ sl,h'.get? b=some { o with slots:=sl }
 free:∀ b o,h.get? b=some o->H b=none->b ∉ ex->H' b=none
 there:∀ b o,h.get? b=some o->b ∉ ex->∃ o',h'.get? b=some o'
 tups:∀ b xs,H b=some (.tup xs)->H' b=some (.tup xs)
 frzs:∀ b o u,H b=some (.frz o u)->H' b=some (.frz o u)
 tbls:∀ b ps,H b=some (.tbl ps)->∃ more,H' b=some (.tbl (ps++more))
section
variable {fs fs' ex ex':List Addr} {H H1 H2:Hp} {h h1 h2 h':Heap} {a x e:Addr} {o:HO}
theorem Un.any (u:Un fs ex H H1 h h1) {b:Addr} {ob:Obj} (q:h.get? b=some ob) (n:H b=none) (hx:b ∉ ex):∃ sl,h1.get? b=some { ob with slots:=sl }:=by
 by_cases hb:b∈fs
 ·exact u.slot b ob q n hb hx
 ·exact ⟨ob.slots,u.keep b ob q n hb hx⟩
theorem Un.kept (k:∀ b u,h.get? b=some u->h'.get? b=some u):Un fs ex H H h h' :=
 ⟨λb ob q _ _ _=>k b ob q,λb ob q _ _ _=>⟨ob.slots,k b ob q⟩,λ_ _ _ n _=>n,λb ob q _=>⟨ob,k b ob q⟩,λ_ _ q=>q,λ_ _ _ q=>q,λ_ ps q=>⟨#[],by rw [q]; simp⟩⟩
theorem Un.refl:Un fs ex H H h h:=Un.kept λ_ _ q=>q
theorem Un.laid (k:∀ b u,h.get? b=some u->h'.get? b=some u) (hp:h.objs.size<=a) (hn:H a=none):Un fs ex H (upd H a o) h h' where
 keep:=λb u q _ _ _=>k b u q
 slot:=λb u q _ _ _=>⟨u.slots,k b u q⟩
 free:=λb u q n _=>by rw [ak (Nat.ne_of_lt (Nat.lt_of_lt_of_le (Heap.lt_size q) hp))]; exact n
 there:=λb u q _=>⟨u,k b u q⟩
 tups:=λb xs q=>by rw [ak (eT q hn)]; exact q
 frzs:=λb u xs q=>by rw [ak (eT q hn)]; exact q
 tbls:=λb ps q=>⟨#[],by rw [ak (eT q hn),q]; simp⟩
theorem Un.write (mu:mz (H x)) (he:e=x\/H e=some (.own x)) (k:∀ b u,b≠e->h.get? b=some u->h'.get? b=some u) (heo:∃ u,h'.get? e=some u):Un fs ex H (upd H x o) h h':=by
 have hx:∀ b,H b=none->b≠x:=λb n z=>by subst z; rw [n] at mu; exact mu
 have hb:∀ b,H b=none->b≠e:=λb n z=>by
  subst z
  rcases he with r | r
  ·exact hx b n r
  ·rw [n] at r; cases r
 have hm:∀ b u,H b=some u->¬ mz (some u)->b≠x:=λb u q nm z=>by subst z; rw [q] at mu; exact nm mu
 refine ⟨λb u q n _ _=>k b u (hb b n) q,λb u q n _ _=>⟨u.slots,k b u (hb b n) q⟩,λb u q n _=>by rw [ak (hx b n)]; exact n,λb u q _=>?_,
  λb xs q=>by rw [ak (hm b _ q λz=>z)]; exact q,λb u xs q=>by rw [ak (hm b _ q λz=>z)]; exact q,λb ps q=>⟨#[],by rw [ak (hm b _ q λz=>z),q]; simp⟩⟩
 by_cases hbe:b=e
 ·subst hbe; exact heo
 ·exact ⟨u,k b u hbe q⟩
end
noncomputable def trk (h:Heap) (H:Hp):List Addr:=(List.range h.objs.size).filter λa=>(H a).isSome
noncomputable def im (h:Heap) (H:Hp):Heap:=PySem.W.hideAll h (trk h H)
theorem ZiV (h:Heap) (H:Hp):(im h H).objs.size=h.objs.size:=PySem.W.hideAll_size _ _
theorem ZiW {h:Heap} {H:Hp} {b:Addr} {o:Obj} (e:h.get? b=some o) (n:H b=none):(im h H).get? b=some o :=
 PySem.W.hideAll_get _ e λhm=>by
  have q:(H b).isSome=true:=(List.mem_filter.mp hm).2
  rw [n] at q; simp at q
theorem ZhJ {h:Heap} {H:Hp} {b:Addr} {o:Obj} (e:(im h H).get? b=some o):h.get? b=some o/\H b=none:=by
 have e':h.get? b=some o:=PySem.W.of_hideAll (trk h H) e
 refine ⟨e',?_⟩
 cases q:H b with
 | none=>rfl
 | some x =>
  have hm:b∈trk h H:=List.mem_filter.mpr ⟨List.mem_range.mpr (Heap.lt_size e'),by simp [q]⟩
  have z:(im h H).get? b=none:=PySem.W.hideAll_none (trk h H) hm
  rw [z] at e; cases e
noncomputable def Zm4 (g h:Heap) (L:Addr):List (Addr×Obj):=(List.range h.objs.size).filterMap λa=>if a=L\/(g.get? a).isSome=true then none else (h.get? a).map λo=>(a,o)
noncomputable def rest (g h:Heap) (L d:Addr):List (Addr×Obj):=(Zm4 g h L).filter λp=>decide (p.1≠d)
structure Mod (K:PySem.W.Frag) (mg:Str->Option Value) (base:Heap):Prop where
 kin:K.In base
 glob:base.Ns mainGlobals mg
 blt:∃ mb,base.Ns builtinsNs mb/\∀ x:Str,x≠"__name__"->mb x=bootBuiltins x
 nolimit:base.NoLimit
 nodig:base.NoDigits
structure Cx where
 prog:Program
 w:World
 K:PySem.W.Frag
 mg:Str->Option Value
 base:Heap
 A:Around
 N:List Str
 s₀:Shared
 H₀:Hp
 env:Env
 outer:List Env
 stack:List Env
 ex:List Addr
 fn:Str->Bool
 calm:Bool
 pn:List (Addr×Obj)
 xe:Value->Shared->Prop
noncomputable def frs (l:List Env):List Addr:=l.filterMap (·.frame)
noncomputable abbrev Cx.fs (X:Cx):List Addr:=frs X.outer
noncomputable def mv (sc:Scope) (x:Str):Prop:=sc.names.lookup x=some .local\/sc.names.lookup x=some .cell\/sc.names.lookup x=some .free
noncomputable def mC (sc:Scope) (x:Str):Prop:=sc.names.lookup x=some .local\/sc.names.lookup x=some .cell
noncomputable def ZnI (env:Env) (h:Heap) (m:Str->Option Value) (x:Str) (u:Value):Prop :=
 (env.kindOf x=some .local/\m x=some u)\/((env.kindOf x=some .cell\/env.kindOf x=some .free)/\∃ c,env.cells.lookup x=some c/\h.IsCell c (some u))
structure Cx.Ok (X:Cx):Prop where
 mod:Mod X.K X.mg X.base
 kind:X.env.scope.kind=.function
 glob:X.env.globals=mainGlobals
 blt:X.env.builtins=builtinsNs
 above:X.s₀.heap.objs.size<=X.env.locals
 inj:∀ x y c,X.env.cells.lookup x=some c->X.env.cells.lookup y=some c->x=y
 has:∀ x,(X.env.kindOf x=some .cell\/X.env.kindOf x=some .free)->∃ c,X.env.cells.lookup x=some c
 cab:∀ x c,X.fn x=true->X.env.cells.lookup x=some c->X.s₀.heap.objs.size<=c
 hd:X.calm=true->X.A.handled=none
 frames:X.A.frames=some X.stack
 stk:X.stack=X.outer\/(X.stack=X.env::X.outer/\X.env.frame=some X.env.locals)
 exf:∀ b∈X.ex,b≠X.env.locals/\∀ x c,X.env.cells.lookup x=some c->c≠b
 bs:∀ b o,X.base.get? b=some o->X.s₀.heap.get? b=some o/\X.H₀ b=none
 bsz:X.base.objs.size<=X.s₀.heap.objs.size
 noex:∀ b o,X.base.get? b=some o->b ∉ X.ex
 exfs:∀ b∈X.ex,b ∉ X.fs
 funs:X.s₀.heap.FunFrames X.base X.outer
 frf:∀ b∈X.fs,X.H₀ b=none
structure Inv (X:Cx) (pins:List (Addr×Obj)) (σ:List (Option V)) (H:Hp) (s:Shared):Prop where
 ok:X.Ok
 os:s.os=X.s₀.os
 bare:AllBare s.gens
 base:Un X.fs X.ex X.H₀ H X.s₀.heap s.heap
 loc:∃ m,s.heap.Ns X.env.locals m/\∀ (i:Nat) (x:Str) (v:V),X.N[i]?=some x->σ[i]?=some (some v)->mv X.env.scope x->∃ u,RelV v u/\ZnI X.env s.heap m x u
 cell:∀ x c,X.env.cells.lookup x=some c->∃ v,s.heap.IsCell c v
 free:H X.env.locals=none
 freeC:∀ x c,X.env.cells.lookup x=some c->H c=none
 pin:∀ p∈X.pn++pins,s.heap.get? p.1=some p.2/\H p.1=none/\p.1≠X.env.locals/\p.1 ∉ X.fs/\∀ v,p.2.data≠.cell v
 hok:HOk X.prog X.w H s.heap
 len:σ.length=X.N.length
section
variable {X:Cx} {pins:List (Addr×Obj)} {σ:List (Option V)} {H H':Hp} {s:Shared} {h':Heap}
theorem Cx.Ok.nofr (ok:X.Ok) {b:Addr} {o:Obj} (e:X.base.get? b=some o):b ∉ X.fs:=λhb=>by
 have:=(ok.funs.mem hb).1
 rw [e] at this; cases this
theorem Inv.bs (I:Inv X pins σ H s):∀ b o,X.base.get? b=some o->s.heap.get? b=some o/\H b=none:=λb o e =>
 ⟨I.base.keep b o (I.ok.bs b o e).1 (I.ok.bs b o e).2 (I.ok.nofr e) (I.ok.noex b o e),I.base.free b o (I.ok.bs b o e).1 (I.ok.bs b o e).2 (I.ok.noex b o e)⟩
theorem Inv.bk (I:Inv X pins σ H s):∀ b o,X.base.get? b=some o->s.heap.get? b=some o:=λb o e=>(I.bs b o e).1
theorem Inv.mod (I:Inv X pins σ H s):Mod X.K X.mg X.base:=I.ok.mod
theorem Inv.kIn (I:Inv X pins σ H s):X.K.In s.heap:=I.ok.mod.kin.keeps I.bk
theorem Inv.lt (I:Inv X pins σ H s):X.env.locals < s.heap.objs.size:=let ⟨_,hn,_⟩:=I.loc; hn.lt
theorem Inv.sz (I:Inv X pins σ H s):X.s₀.heap.objs.size<=s.heap.objs.size:=Nat.le_trans I.ok.above (Nat.le_of_lt I.lt)
theorem Inv.nofs (I:Inv X pins σ H s) {a:Addr} (h:s.heap.objs.size<=a):a ∉ X.fs:=λhb=>by
 obtain ⟨_,o,ho,_⟩:=I.ok.funs.mem hb
 exact absurd (Nat.lt_of_lt_of_le (Heap.lt_size ho) (Nat.le_trans I.sz h)) (Nat.lt_irrefl _)
theorem Inv.cne (I:Inv X pins σ H s):∀ x c,X.env.cells.lookup x=some c->c≠X.env.locals:=λx c e z=>by
 obtain ⟨v,o,ho,hd⟩:=I.cell x c e
 obtain ⟨m,⟨o',es,ep,ho',hd',_⟩,_⟩:=I.loc
 rw [z,ho'] at ho; cases ho; rw [hd'] at hd; cases hd
theorem Inv.funs (I:Inv X pins σ H s):s.heap.FunFrames X.base X.outer:=by
 have all:∀ (l:List Env),(∀ b∈frs l,b∈X.fs)->X.s₀.heap.FunFrames X.base l->s.heap.FunFrames X.base l:=by
  intro l
  induction l with
  | nil=>intro _ _; trivial
  | cons env r ih =>
   intro hs hl
   obtain ⟨hk,⟨L,o,hf,hn,ho,hd⟩,hr⟩:=hl
   have hL:L∈X.fs:=hs L (by unfold frs; rw [List.filterMap_cons,hf]; exact List.mem_cons_self)
   obtain ⟨sl,e⟩:=I.base.slot L o ho (I.ok.frf L hL) hL λz=>I.ok.exfs L z hL
   exact ⟨hk,⟨L,_,hf,hn,e,hd⟩,ih (λb hb=>hs b (by unfold frs; rw [List.filterMap_cons,hf]; exact List.mem_cons_of_mem _ hb)) hr⟩
 exact all X.outer (λ_ hb=>hb) I.ok.funs
theorem Inv.stack (I:Inv X pins σ H s):s.heap.FunFrames X.base X.stack:=by
 rcases I.ok.stk with e | ⟨e,hf⟩
 ·rw [e]; exact I.funs
 ·rw [e]
  obtain ⟨m,hn,_⟩:=I.loc
  refine .cons (by rw [I.ok.kind]; decide) hf hn ?_ I.funs
  exact Heap.get?_none_of_le (Nat.le_trans I.ok.bsz I.ok.above)
theorem Inv.stkSub (I:Inv X pins σ H s):∀ b∈frs X.stack,b∈X.env.locals::X.fs:=λb hb=>by
 rcases I.ok.stk with e | ⟨e,hf⟩
 ·rw [e] at hb; exact List.mem_cons_of_mem _ hb
 ·rw [e] at hb
  unfold frs at hb
  rw [List.filterMap_cons,hf] at hb
  exact hb
theorem Inv.stkFree (I:Inv X pins σ H s):∀ b∈frs X.stack,H b=none:=λb hb=>by
 rcases List.mem_cons.mp (I.stkSub b hb) with e | hb
 ·rw [e]; exact I.free
 ·obtain ⟨_,o,ho,_⟩:=I.ok.funs.mem hb
  exact I.base.free b o ho (I.ok.frf b hb) λz=>I.ok.exfs b z hb
theorem Inv.step {g':Array GenState} {t':Nat} {d':Drawn} {ch:List Addr} (I:Inv X pins σ H s)
  (hch:∀ b∈ch,(b∈X.ex\/X.s₀.heap.objs.size<=b)/\b≠X.env.locals/\(∀ x c,X.env.cells.lookup x=some c->c≠b)/\∀ p∈X.pn++pins,p.1≠b)
  (keep:∀ b o,b≠X.env.locals->b ∉ X.fs->b ∉ ch->s.heap.get? b=some o->H b=none->h'.get? b=some o)
  (slot:∀ b o,b≠X.env.locals->b∈X.fs->b ∉ ch->s.heap.get? b=some o->H b=none->∃ sl,h'.get? b=some { o with slots:=sl }) (free:∀ b o,b ∉ ch->s.heap.get? b=some o->H b=none->H' b=none)
  (there:∀ b o,b ∉ ch->s.heap.get? b=some o->∃ o',h'.get? b=some o')
  (tups:∀ b xs,H b=some (.tup xs)->H' b=some (.tup xs)) (frzs:∀ b o u,H b=some (.frz o u)->H' b=some (.frz o u)) (tbls:∀ b ps,H b=some (.tbl ps)->∃ more,H' b=some (.tbl (ps++more)))
  (ns:∀ m,s.heap.Ns X.env.locals m->h'.Ns X.env.locals m) (hok:HOk X.prog X.w H' h') (hg:AllBare g') :
  Inv X pins σ H' { s with heap:=h',gens:=g',drawn:=d',toks:=t' }:=by
 have neL:∀ b o,X.s₀.heap.get? b=some o->b≠X.env.locals:=λb o e=>Nat.ne_of_lt (Nat.lt_of_lt_of_le (Heap.lt_size e) I.ok.above)
 have neC:∀ b o,X.s₀.heap.get? b=some o->b ∉ X.ex->b ∉ ch:=λb o e hx hb=>by
  rcases (hch b hb).1 with z | z
  ·exact hx z
  ·exact absurd (Nat.lt_of_lt_of_le (Heap.lt_size e) z) (Nat.lt_irrefl _)
 have cellK:∀ x c,X.env.cells.lookup x=some c->∀ v,s.heap.IsCell c v->h'.IsCell c v:=λx c e v hz0=>by
  obtain ⟨o,ho,hd⟩:=hz0
  have nch:c ∉ ch:=λz=>(hch c z).2.2.1 x c e rfl
  by_cases hc:c∈X.fs
  ·obtain ⟨sl,q⟩:=slot c o (I.cne x c e) hc nch ho (I.freeC x c e)
   exact ⟨_,q,hd⟩
  ·exact ⟨o,keep c o (I.cne x c e) hc nch ho (I.freeC x c e),hd⟩
 refine ⟨I.ok,I.os,hg,⟨λb o e n hb hx=>?_,λb o e n hb hx=>?_,λb o e n hx=>?_,λb o e hx=>?_,λb xs e=>tups b xs (I.base.tups b xs e),λb o xs e=>frzs b o xs (I.base.frzs b o xs e),λb ps e=>?_⟩,?_,λx c e=>?_,?_,λx c e=>?_,λp hp=>?_,hok,I.len⟩
 ·exact keep b o (neL b o e) hb (neC b o e hx) (I.base.keep b o e n hb hx) (I.base.free b o e n hx)
 ·obtain ⟨sl,e1⟩:=I.base.slot b o e n hb hx
  obtain ⟨sl',e2⟩:=slot b _ (neL b o e) hb (neC b o e hx) e1 (I.base.free b o e n hx)
  exact ⟨sl',e2⟩
 ·obtain ⟨o',e1⟩:=I.base.there b o e hx
  exact free b o' (neC b o e hx) e1 (I.base.free b o e n hx)
 ·obtain ⟨o',e1⟩:=I.base.there b o e hx
  exact there b o' (neC b o e hx) e1
 ·obtain ⟨m1,e1⟩:=I.base.tbls b ps e
  obtain ⟨m2,e2⟩:=tbls b _ e1
  exact ⟨m1++m2,by rw [e2,Array.append_assoc]⟩
 ·obtain ⟨m,hn,hl⟩:=I.loc
  refine ⟨m,ns m hn,λi x v e1 e2 e3=>?_⟩
  obtain ⟨u,r,l⟩:=hl i x v e1 e2 e3
  refine ⟨u,r,?_⟩
  rcases l with l | ⟨k,c,e,z⟩
  ·exact .inl l
  ·exact .inr ⟨k,c,e,cellK x c e _ z⟩
 ·obtain ⟨v,z⟩:=I.cell x c e
  exact ⟨v,cellK x c e v z⟩
 ·obtain ⟨m,⟨o,_,_,ho,_⟩,_⟩:=I.loc
  exact free _ o (λz=>(hch _ z).2.1 rfl) ho I.free
 ·obtain ⟨v,o,ho,hd⟩:=I.cell x c e
  exact free c o (λz=>(hch c z).2.2.1 x c e rfl) ho (I.freeC x c e)
 ·obtain ⟨e,n,ne,nf,d⟩:=I.pin p hp
  have nch:p.1 ∉ ch:=λz=>(hch p.1 z).2.2.2 p hp rfl
  exact ⟨keep p.1 p.2 ne nf nch e n,free p.1 p.2 nch e n,ne,nf,d⟩
theorem Inv.un {t':Nat} (I:Inv X pins σ H s) (u:Un X.fs [] H H' s.heap h') (hok:HOk X.prog X.w H' h'):Inv X pins σ H' { s with heap:=h',toks:=t' }:=by
 obtain ⟨m,⟨o,es,ep,ho,r⟩,_⟩:=id I.loc
 obtain ⟨sl,hL⟩:=u.any ho I.free (by simp)
 exact I.step (g':=s.gens) (d':=s.drawn) (ch:=[]) (λ_ z=>nomatch z) (λb o _ hb _ e n=>u.keep b o e n hb (by simp)) (λb o _ hb _ e n=>u.slot b o e n hb (by simp)) (λb o _ e n=>u.free b o e n (by simp)) (λb o _ e=>u.there b o e (by simp)) u.tups u.frzs u.tbls (λm' hm=>by
  obtain ⟨o',es',ep',ho',r'⟩:=hm
  rw [ho] at ho'; cases ho'
  exact ⟨_,es',ep',hL,r'⟩) hok I.bare
theorem Inv.call {g':Array GenState} {t':Nat} {d':Drawn} {ch:List Addr} (I:Inv X pins σ H s) (u:Un (frs X.stack) ch H H' s.heap h') (hok:HOk X.prog X.w H' h') (hg:AllBare g')
  (hch:∀ b∈ch,(b∈X.ex\/X.s₀.heap.objs.size<=b)/\b≠X.env.locals/\(∀ x c,X.env.cells.lookup x=some c->c≠b)/\∀ p∈X.pn++pins,p.1≠b) :
  Inv X pins σ H' { s with heap:=h',gens:=g',drawn:=d',toks:=t' }:=by
 obtain ⟨m,⟨o,es,ep,ho,r⟩,_⟩:=id I.loc
 obtain ⟨sl,hL⟩:=u.any ho I.free λz=>(hch _ z).2.1 rfl
 exact I.step (ch:=ch) hch (λb o hL hb hc e n=>u.keep b o e n (λz=>(List.mem_cons.mp (I.stkSub b z)).elim hL hb) hc) (λb o _ _ hc e n=>u.any e n hc) (λb o hc e n=>u.free b o e n hc) (λb o hc e=>u.there b o e hc) u.tups u.frzs u.tbls (λm' hm=>by
  obtain ⟨o',es',ep',ho',r'⟩:=hm
  rw [ho] at ho'; cases ho'
  exact ⟨_,es',ep',hL,r'⟩) hok hg
theorem Inv.turned {t':Nat} {it:Addr} (I:Inv X pins σ H s) (k:∀ b o,b≠it->s.heap.get? b=some o->h'.get? b=some o) (hn:H it=none) (hL:it≠X.env.locals)
  (h1:it∈X.ex\/X.s₀.heap.objs.size<=it) (h2:∀ x c,X.env.cells.lookup x=some c->c≠it) (h3:∀ p∈X.pn++pins,p.1≠it):Inv X pins σ H { s with heap:=h',toks:=t' }:=by
 have nit:∀ b u,H b=some u->b≠it:=λb u e z=>by rw [z,hn] at e; cases e
 refine I.step (g':=s.gens) (d':=s.drawn) (ch:=[it]) (λb hb=>?_) (λb o _ _ hc e _=>k b o (λz=>hc (by simp [z])) e) (λb o _ _ hc e _=>⟨o.slots,k b o (λz=>hc (by simp [z])) e⟩) (λ_ _ _ _ n=>n)
  (λb o hc e=>⟨o,k b o (λz=>hc (by simp [z])) e⟩) (λ_ _ e=>e) (λ_ _ _ e=>e) (λb ps e=>⟨#[],by rw [e]; simp⟩) (λm hm=>?_) (λb u e=>?_) I.bare
 ·have e:b=it:=by simpa using hb
  subst e
  exact ⟨h1,hL,h2,h3⟩
 ·obtain ⟨o,es,ep,ho,r⟩:=hm
  exact ⟨o,es,ep,k _ o (Ne.symm hL) ho,r⟩
 ·refine (I.hok b u e).stay (λc v hc q=>k c v ?_ q) (λ_ q=>q) (λ_ _ q=>q) λ_ _ _ _ q _=>q
  rcases hc with z | z
  ·rw [z]; exact nit b u e
  ·exact nit c _ z
theorem Inv.tok (I:Inv X pins σ H s) (t:Nat):Inv X pins σ H { s with toks:=t }:=I.un (h':=s.heap) (t':=t) Un.refl I.hok
theorem Inv.kept {t':Nat} (I:Inv X pins σ H s) (k:∀ b u,s.heap.get? b=some u->h'.get? b=some u):Inv X pins σ H { s with heap:=h',toks:=t' }:=I.un (Un.kept k) (I.hok.kept k)
theorem Inv.laid {a:Addr} {o:HO} {t':Nat} (I:Inv X pins σ H s) (k:∀ b u,s.heap.get? b=some u->h'.get? b=some u) (hp:s.heap.objs.size<=a) (new:ObjOk X.prog X.w (upd H a o) h' a o) :
  Inv X pins σ (upd H a o) { s with heap:=h',toks:=t' }:=I.un (Un.laid k hp (I.hok.fresh hp)) (I.hok.laid k hp new)
theorem Inv.write {x e:Addr} {o:HO} {t':Nat} (I:Inv X pins σ H s) (mu:mz (H x)) (he:e=x\/H e=some (.own x)) (k:∀ b u,b≠e->s.heap.get? b=some u->h'.get? b=some u) (heo:∃ u,h'.get? e=some u)
  (new:ObjOk X.prog X.w (upd H x o) h' x o):Inv X pins σ (upd H x o) { s with heap:=h',toks:=t' }:=I.un (Un.write mu he k heo) (I.hok.write mu he k heo new)
theorem Inv.pins_of {pins':List (Addr×Obj)} (I:Inv X pins σ H s) (h:∀ p∈pins',s.heap.get? p.1=some p.2/\H p.1=none/\p.1≠X.env.locals/\p.1 ∉ X.fs/\∀ v,p.2.data≠.cell v):Inv X pins' σ H s :=
 ⟨I.ok,I.os,I.bare,I.base,I.loc,I.cell,I.free,I.freeC,λp hp=>(List.mem_append.mp hp).elim (λz=>I.pin p (List.mem_append_left _ z)) (h p),I.hok,I.len⟩
theorem qJ {N:List Str} (hN:N.Nodup) {i j:Nat} {x:Str} (a:N[i]?=some x) (b:N[j]?=some x):i=j:=by
 obtain ⟨h1,e1⟩:=List.getElem?_eq_some_iff.mp a
 obtain ⟨h2,e2⟩:=List.getElem?_eq_some_iff.mp b
 exact (List.getElem_inj hN).mp (e1.trans e2.symm)
theorem ZaA {M:Model} {A:Around} {E:Value->Shared->Prop} {i:Nat} {x:Str} {v:V} {u:Value} {Q:Unit->Shared->Prop} (I:Inv X pins σ H s) (hN:X.N.Nodup) (hi:X.N[i]?=some x) (hx:mC X.env.scope x) (r:RelV v u)
  (h:∀ s',Inv X pins (σ.set i (some v)) H s'->(∃ a,Heap.SameBut a s.heap s'.heap/\(a=X.env.locals\/X.env.cells.lookup x=some a))->Q () s') (hf:X.fn x=true\/X.env.scope.names.lookup x=some .local:=by first | exact .inl rfl | exact .inr rfl | assumption):wpAny M A (storeName X.env x u) Q E s:=by
 obtain ⟨m,hn,hl⟩:=id I.loc
 have hcls:(X.env.scope.kind == .class || (X.env.scope.kind == .module && X.env.locals != X.env.globals))=false:=by rw [I.ok.kind]; rfl
 have hiσ:i < σ.length:=by rw [I.len]; exact (List.getElem?_eq_some_iff.mp hi).1
 have cne:=I.cne
 have tracked:∀ {a:Addr} {h':Heap},(∃ o,s.heap.get? a=some o/\H a=none)->Heap.SameBut a s.heap h'->HOk X.prog X.w H h':=λ{a h'} ha hs b ob e=>by
  obtain ⟨_,_,hfree⟩:=ha
  refine (I.hok b ob e).stay (λc w' hc q=>(hs.2 c ?_).trans q) (λ_ q=>q) (λ_ _ q=>q) λ_ _ _ _ q _=>q
  rintro rfl
  rcases hc with rfl | hc
  ·rw [hfree] at e; cases e
  ·rw [hfree] at hc; cases hc
 rcases hx with hk | hk
 ·refine wpAny_storeName_local hk hn (λh' hn' hs=>?_) hcls
  obtain ⟨oL,_,_,hoL,_⟩:=id hn
  refine h _ ⟨I.ok,I.os,I.bare,⟨λb o e n hb hx=>?_,λb o e n hb hx=>?_,I.base.free,λb o e hx=>?_,I.base.tups,I.base.frzs,I.base.tbls⟩,⟨_,hn',λj y v' e1 e2 e3=>?_⟩,λy c e=>?_,I.free,I.freeC,λp hp=>?_,tracked ⟨oL,hoL,I.free⟩ hs,by simpa using I.len⟩ ⟨_,hs,.inl rfl⟩
  ·exact (hs.2 b (Nat.ne_of_lt (Nat.lt_of_lt_of_le (Heap.lt_size e) I.ok.above))).trans (I.base.keep b o e n hb hx)
  ·obtain ⟨sl,e1⟩:=I.base.slot b o e n hb hx
   exact ⟨sl,(hs.2 b (Nat.ne_of_lt (Nat.lt_of_lt_of_le (Heap.lt_size e) I.ok.above))).trans e1⟩
  ·obtain ⟨o',e1⟩:=I.base.there b o e hx
   exact ⟨o',(hs.2 b (Nat.ne_of_lt (Nat.lt_of_lt_of_le (Heap.lt_size e) I.ok.above))).trans e1⟩
  ·by_cases hj:j=i
   ·subst hj
    rw [hi] at e1; cases e1
    rw [List.getElem?_set_self hiσ] at e2
    cases e2
    exact ⟨u,r,.inl ⟨hk,by simp⟩⟩
   ·rw [List.getElem?_set_ne (Ne.symm hj)] at e2
    obtain ⟨u',r',q⟩:=hl j y v' e1 e2 e3
    refine ⟨u',r',?_⟩
    rcases q with ⟨k,e⟩ | ⟨k,c,e,z⟩
    ·refine .inl ⟨k,?_⟩
     have:y≠x:=λe=>hj (qJ hN e1 (e ▸ hi))
     simp [this,e]
    ·exact .inr ⟨k,c,e,z.sameBut hs (cne y c e)⟩
  ·obtain ⟨w',z⟩:=I.cell y c e
   exact ⟨w',z.sameBut hs (cne y c e)⟩
  ·obtain ⟨e,n,ne,nf,d⟩:=I.pin p hp
   exact ⟨(hs.2 p.1 ne).trans e,n,ne,nf,d⟩
 ·have hfn:X.fn x=true:=by
   rcases hf with z | z
   ·exact z
   ·rw [z] at hk; cases hk
  obtain ⟨c,hc⟩:=I.ok.has x (.inl hk)
  obtain ⟨w',z⟩:=I.cell x c hc
  refine wpAny_storeName_cell I.ok.kind hk hc z (λh' hc' hs=>?_)
  obtain ⟨oc,hoc,hocd⟩:=id z
  refine h { s with heap:=h' } ⟨I.ok,I.os,I.bare,⟨λb o e n hb hx=>?_,λb o e n hb hx=>?_,I.base.free,λb o e hx=>?_,I.base.tups,I.base.frzs,I.base.tbls⟩,⟨m,hn.sameBut hs (Ne.symm (cne x c hc)),λj y v' e1 e2 e3=>?_⟩,λy c' e=>?_,I.free,I.freeC,λp hp=>?_,tracked ⟨oc,hoc,I.freeC x c hc⟩ hs,by simpa using I.len⟩ ⟨c,hs,.inr hc⟩
  ·exact (hs.2 b (Nat.ne_of_lt (Nat.lt_of_lt_of_le (Heap.lt_size e) (I.ok.cab x c hfn hc)))).trans (I.base.keep b o e n hb hx)
  ·obtain ⟨sl,e1⟩:=I.base.slot b o e n hb hx
   exact ⟨sl,(hs.2 b (Nat.ne_of_lt (Nat.lt_of_lt_of_le (Heap.lt_size e) (I.ok.cab x c hfn hc)))).trans e1⟩
  ·obtain ⟨o',e1⟩:=I.base.there b o e hx
   exact ⟨o',(hs.2 b (Nat.ne_of_lt (Nat.lt_of_lt_of_le (Heap.lt_size e) (I.ok.cab x c hfn hc)))).trans e1⟩
  ·by_cases hj:j=i
   ·subst hj
    rw [hi] at e1; cases e1
    rw [List.getElem?_set_self hiσ] at e2
    cases e2
    exact ⟨u,r,.inr ⟨.inl hk,c,hc,hc'⟩⟩
   ·rw [List.getElem?_set_ne (Ne.symm hj)] at e2
    obtain ⟨u',r',q⟩:=hl j y v' e1 e2 e3
    refine ⟨u',r',?_⟩
    rcases q with q | ⟨k,c',e,z'⟩
    ·exact .inl q
    ·refine .inr ⟨k,c',e,z'.sameBut hs ?_⟩
     rintro rfl
     exact hj (qJ hN e1 (I.ok.inj _ _ _ e hc ▸ hi))
  ·by_cases hcc:c'=c
   ·subst hcc; exact ⟨_,hc'⟩
   ·obtain ⟨w2,z2⟩:=I.cell y c' e
    exact ⟨w2,z2.sameBut hs hcc⟩
  ·obtain ⟨e,n,ne,nf,d⟩:=I.pin p hp
   refine ⟨(hs.2 p.1 ?_).trans e,n,ne,nf,d⟩
   intro q
   rw [q,hoc] at e
   have q':oc=p.2:=Option.some.inj e
   exact d w' (by rw [<- q']; exact hocd)
theorem pR {M:Model} {A:Around} {E:Value->Shared->Prop} {i:Nat} {x:Str} {v:V} {u:Value} {Q:Unit->Shared->Prop} (I:Inv X pins σ H s) (hN:X.N.Nodup) (hi:X.N[i]?=some x) (hx:mC X.env.scope x) (r:RelV v u)
  (h:∀ s',Inv X pins (σ.set i (some v)) H s'->Q () s') (hf:X.fn x=true\/X.env.scope.names.lookup x=some .local:=by first | exact .inl rfl | exact .inr rfl | assumption):wpAny M A (storeName X.env x u) Q E s :=
 ZaA I hN hi hx r (λs' I' _=>h s' I') hf
theorem Inv.call' {s':Shared} {ch:List Addr} (I:Inv X pins σ H s) (ho:s'.os=s.os) (u:Un (frs X.stack) ch H H' s.heap s'.heap) (hok:HOk X.prog X.w H' s'.heap) (hg:AllBare s'.gens)
  (hch:∀ b∈ch,(b∈X.ex\/X.s₀.heap.objs.size<=b)/\b≠X.env.locals/\(∀ x c,X.env.cells.lookup x=some c->c≠b)/\∀ p∈X.pn++pins,p.1≠b):Inv X pins σ H' s':=by
 obtain ⟨h',g',d',t',o'⟩:=s'
 have e:o'=s.os:=ho
 subst e
 exact I.call (g':=g') (t':=t') (d':=d') u hok hg hch
end
noncomputable abbrev XK:=Value->Option Addr->Hp->Prop
noncomputable abbrev St:=List (Option V)
noncomputable abbrev VK:=V->Hp->Prop
noncomputable abbrev TE:=St->Hp->VK->Prop
noncomputable abbrev TT:=St->Hp->(Bool->Hp->Prop)->Prop
noncomputable abbrev TA:=St->Hp->(List V->Hp->Prop)->Prop
structure Ends where
 nx:St->Hp->Prop
 rt:VK
 bk:St->Hp->Prop:=λ_ _=>False
 ct:St->Hp->Prop:=λ_ _=>False
noncomputable abbrev TS:=Ends->St->Hp->Prop
noncomputable def EP (X:Cx) (pins:List (Addr×Obj)) (σ:St) (Q:VK) (u:Value) (s':Shared):Prop:=∃ v H',Inv X pins σ H' s'/\RelV v u/\Q v H'
noncomputable def TP (X:Cx) (pins:List (Addr×Obj)) (σ:St) (Q:Bool->Hp->Prop) (b:Bool) (s':Shared):Prop:=∃ H',Inv X pins σ H' s'/\Q b H'
noncomputable def AP (X:Cx) (pins:List (Addr×Obj)) (σ:St) (Q:List V->Hp->Prop) (us:List Value) (s':Shared):Prop:=∃ vs H',Inv X pins σ H' s'/\Vals vs us/\Q vs H'
noncomputable def SP (X:Cx) (pins:List (Addr×Obj)) (D:Ends) (f:Flow) (s':Shared):Prop :=
 match f with
 | .next=>∃ σ' H',Inv X pins σ' H' s'/\D.nx σ' H'
 | .brk=>∃ σ' H',Inv X pins σ' H' s'/\D.bk σ' H'
 | .cont=>∃ σ' H',Inv X pins σ' H' s'/\D.ct σ' H'
 | .ret u=>∃ v σ' H',Inv X pins σ' H' s'/\RelV v u/\D.rt v H'
noncomputable def PE (X:Cx) (e:Expr) (t:TE):Prop :=
 ∀ (pins:List (Addr×Obj)) (s:Shared) (σ:St) (H:Hp) (Q:VK),Inv X pins σ H s->t σ H Q->wpAny (model X.prog X.w) X.A (eval e X.env) (EP X pins σ Q) X.xe s
noncomputable def PT (X:Cx) (e:Expr) (t:TT):Prop :=
 ∀ (pins:List (Addr×Obj)) (s:Shared) (σ:St) (H:Hp) (Q:Bool->Hp->Prop),Inv X pins σ H s->t σ H Q->wpAny (model X.prog X.w) X.A (isTrue e X.env (eval e X.env)) (TP X pins σ Q) X.xe s
noncomputable def PW (X:Cx) (e:Expr) (t:TT):Prop :=
 ∀ (whole:Sem Value) (pins:List (Addr×Obj)) (s:Shared) (σ:St) (H:Hp) (Q:Bool->Hp->Prop),Inv X pins σ H s->t σ H Q->wpAny (model X.prog X.w) X.A (isTrue e X.env whole) (TP X pins σ Q) X.xe s
theorem PW.pt {X:Cx} {e:Expr} {t:TT} (h:PW X e t):PT X e t:=h _
noncomputable def PA (X:Cx) (es:List Expr) (t:TA):Prop :=
 ∀ (pos:Pos) (pins:List (Addr×Obj)) (s:Shared) (σ:St) (H:Hp) (Q:List V->Hp->Prop),Inv X pins σ H s->t σ H Q->wpAny (model X.prog X.w) X.A (spliced (backTo pos (starEach es X.env))) (AP X pins σ Q) X.xe s
noncomputable def PS (X:Cx) (st:Stmt) (t:TS):Prop :=
 ∀ (pins:List (Addr×Obj)) (s:Shared) (σ:St) (H:Hp) (D:Ends),Inv X pins σ H s->t D σ H->wpAny (model X.prog X.w) X.A (exec st X.env) (SP X pins D) X.xe s
noncomputable def PSs (X:Cx) (st:List Stmt) (t:TS):Prop :=
 ∀ (pins:List (Addr×Obj)) (s:Shared) (σ:St) (H:Hp) (D:Ends),Inv X pins σ H s->t D σ H->wpAny (model X.prog X.w) X.A (execs st X.env) (SP X pins D) X.xe s
theorem thn {α:Type} {t:Sem α} {Q Q':α->Shared->Prop} {M:Model} {A:Around} {E:Value->Shared->Prop} {s:Shared} (h:wpAny M A t Q E s) (hQ:∀ a s,Q a s->Q' a s):wpAny M A t Q' E s:=wpAny_mono h hQ λ_ _ x=>x
section
variable {X:Cx}
noncomputable def iB (i:Nat):TE:=λσ H Q=>∃ v,σ[i]?=some (some v)/\Q v H
noncomputable def tC (v:V):TE:=λ_ H Q=>Q v H
theorem Zha {i:Nat} {x:Str} {pos:Pos} (hN:X.N[i]?=some x) (hv:mv X.env.scope x) (hd:(x == ("__debug__":Str))=false:=by decide) (hcd:(x == ("__classdict__":Str))=false:=by decide):PE X (.Name x pos) (iB i):=by
 intro pins s σ H Q I h
 obtain ⟨v,e,h⟩:=h
 obtain ⟨m,hn,hl⟩:=I.loc
 obtain ⟨u,r,l⟩:=hl i x v hN e hv
 have fin:EP X pins σ Q u s:=⟨v,H,I,r,h⟩
 rcases l with ⟨hk,hm⟩ | ⟨hk,c,hc,hcell⟩
 ·exact wpAny_Name (wpAny_loadName_local I.ok.kind hk hn hm fin) hd
 ·rcases hk with hk | hk
  ·exact wpAny_Name (wpAny_loadName_cell I.ok.kind hk hc hcell fin) hd
  ·exact wpAny_Name (wpAny_loadName_free I.ok.kind hk hc hcell fin hcd) hd
theorem d9 {i j pos}:PE X (.Constant (.int i) j pos) (tC (.int i)):=λ_ _ _ H _ I h=>wpAny_Constant_int ⟨.int i,H,I.tok _,⟨_,rfl⟩,h⟩
theorem qz {b j pos}:PE X (.Constant (.bool b) j pos) (tC (.bl b)):=λ_ _ _ H _ I h=>Constant_bool ⟨.bl b,H,I,rfl,h⟩
theorem Zb6 {j pos}:PE X (.Constant .none j pos) (tC .non):=λ_ _ _ H _ I h=>Constant_none ⟨.non,H,I,rfl,h⟩
theorem fS {x j pos}:PE X (.Constant (.str x) j pos) (tC (.str x)):=λ_ _ _ H _ I h=>Calls.Constant_str ⟨.str x,H,I.tok _,⟨_,rfl⟩,h⟩
noncomputable def Gl (X:Cx) (x:Str):Prop:=X.env.kindOf x=some .globalImplicit
theorem k9 {E:Value->Shared->Prop} {pins:List (Addr×Obj)} {s:Shared} {σ:St} {H:Hp} {x:Str} {u:Value} {pos:Pos} {Q:Value->Shared->Prop} (I:Inv X pins σ H s) (hg:Gl X x) (hm:X.mg x=some u) (h:Q u s)
  (hd:(x == ("__debug__":Str))=false:=by decide):wpAny (model X.prog X.w) X.A (eval (.Name x pos) X.env) Q E s :=
 Calls.Name_function_global I.ok.kind hg (Calls.loadGlobal_global (by rw [I.ok.glob]; exact I.mod.glob.keeps I.bk) hm h) hd
theorem n0 {E:Value->Shared->Prop} {pins:List (Addr×Obj)} {s:Shared} {σ:St} {H:Hp} {x:Str} {u:Value} {pos:Pos} {Q:Value->Shared->Prop} (I:Inv X pins σ H s) (hg:Gl X x) (hm:X.mg x=none) (hv:bootBuiltins x=some u) (h:Q u s)
  (hn:x≠"__name__":=by decide) (hd:(x == ("__debug__":Str))=false:=by decide):wpAny (model X.prog X.w) X.A (eval (.Name x pos) X.env) Q E s:=by
 obtain ⟨mb,h1,h2⟩:=I.mod.blt
 exact Calls.Name_function_global I.ok.kind hg (Calls.loadGlobal_builtin (by rw [I.ok.glob]; exact I.mod.glob.keeps I.bk) hm (by rw [I.ok.blt]; exact h1.keeps I.bk) ((h2 x hn).trans hv) h) hd
theorem iI {x:Str} {v:V} {u:Value} {pos:Pos} (hg:Gl X x) (hm:X.mg x=some u) (r:RelV v u) (hd:(x == ("__debug__":Str))=false:=by decide):PE X (.Name x pos) (tC v) :=
 λ_ _ _ H _ I h=>k9 I hg hm ⟨v,H,I,r,h⟩ hd
theorem jk {x:Str} {v:V} {u:Value} {pos:Pos} (hg:Gl X x) (hm:X.mg x=none) (hv:bootBuiltins x=some u) (r:RelV v u) (hn:x≠"__name__":=by decide) (hd:(x == ("__debug__":Str))=false:=by decide):PE X (.Name x pos) (tC v) :=
 λ_ _ _ H _ I h=>n0 I hg hm hv ⟨v,H,I,r,h⟩ hn hd
variable {a b:Expr} {ta tb:TE} {pos:Pos}
noncomputable def PC (X:Cx) (op:CmpOp) (a b:Expr) (t:TE):Prop :=
 ∀ (pins:List (Addr×Obj)) (s:Shared) (σ:St) (H:Hp) (Q:VK),Inv X pins σ H s->t σ H Q ->
  wpAny (model X.prog X.w) X.A (eval a X.env) (λv s₁=>wpAny (model X.prog X.w) X.A (eval b X.env) (λu s₂=>wpAny (model X.prog X.w) X.A (compareOp op v u) (EP X pins σ Q) X.xe s₂) X.xe s₁) X.xe s
noncomputable def Zfm (ta:TE):TE:=λσ H Q=>ta σ H λx H1=>Q (.bl (decide (x=.non))) H1
theorem RelV.none_iff {x:V} {v:Value} (r:RelV x v):(v == Value.none)=decide (x=.non):=by
 cases x with
 | non=>cases r; rfl
 | bl _=>cases r; rfl
 | int _=>obtain ⟨t,rfl⟩:=r; rfl
 | str _=>obtain ⟨t,rfl⟩:=r; rfl
 | byt _=>obtain ⟨t,rfl⟩:=r; rfl
 | flt _=>obtain ⟨t,rfl⟩:=r; rfl
 | ref _=>cases r; rfl
 | ty _=>cases r; rfl
theorem Zht {j pos'} (ha:PE X a ta):PC X .Is a (.Constant .none j pos') (Zfm ta):=by
 intro pins s σ H Q I h
 refine thn (ha pins s σ H _ I h) λv s1 hz0=>?_
 obtain ⟨x,H1,I1,r1,q1⟩:=hz0
 exact Constant_none (is_none_gen ⟨.bl _,H1,I1,by rw [r1.none_iff]; rfl,q1⟩)
noncomputable def tB (t:TE):TT:=λσ H Q=>t σ H λx H1=>∃ c,x=.bl c/\Q c H1
theorem ZgN {op:CmpOp} {t:TE} (h:PC X op a b t) (h1:behindInMarks op b=false:=by first | exact nobehind _ (by decide) (by decide) | rfl):PT X (.Compare a [op] [b] pos) (tB t):=by
 intro pins s σ H Q I hw
 refine wpAny_isTrue_Compare1 (thn (h pins s σ H _ I hw) λv s1 h1=>thn h1 λu s2 h2=>thn h2 λc s3 hz0=>?_) h1
 obtain ⟨x,H1,I1,r1,q1⟩:=hz0
 obtain ⟨d,rfl,q⟩:=q1
 cases r1
 exact wpAny_truthy_bool ⟨H1,I1,q⟩
variable {tA tB':TT} {rest:List Expr}
noncomputable def Zfw (t u:TT):TT:=λσ H Q=>t σ H λc H1=>if c=true then u σ H1 Q else Q false H1
noncomputable def tOr (t u:TT):TT:=λσ H Q=>t σ H λc H1=>if c=true then Q true H1 else u σ H1 Q
noncomputable def Zff (t:TT):TT:=λσ H Q=>t σ H λc H1=>Q (!c) H1
theorem ZbP (ha:PT X a tA):PW X (.BoolOp .And [a] pos) tA:=by
 intro wh pins s σ H Q I h
 refine isTrue_and (thn (ha pins s σ H Q I h) λc s1 e=>?_)
 cases c with
 | true=>exact isTrue_and_nil e
 | false=>exact e
theorem ZgK (ha:PT X a tA):PW X (.BoolOp .Or [a] pos) tA:=by
 intro wh pins s σ H Q I h
 refine isTrue_or (thn (ha pins s σ H Q I h) λc s1 e=>?_)
 cases c with
 | false=>exact isTrue_or_nil e
 | true=>exact e
theorem ZbQ (ha:PT X a tA) (hb:PW X (.BoolOp .And (b::rest) pos) tB'):PW X (.BoolOp .And (a::b::rest) pos) (Zfw tA tB'):=by
 intro wh pins s σ H Q I h
 refine isTrue_and (thn (ha pins s σ H _ I h) λc s1 hz0=>?_)
 obtain ⟨H1,I1,q1⟩:=hz0
 cases c with
 | true=>exact hb wh pins s1 σ H1 Q I1 q1
 | false=>exact ⟨H1,I1,q1⟩
theorem ZgL (ha:PT X a tA) (hb:PW X (.BoolOp .Or (b::rest) pos) tB'):PW X (.BoolOp .Or (a::b::rest) pos) (tOr tA tB'):=by
 intro wh pins s σ H Q I h
 refine isTrue_or (thn (ha pins s σ H _ I h) λc s1 hz0=>?_)
 obtain ⟨H1,I1,q1⟩:=hz0
 cases c with
 | true=>exact ⟨H1,I1,q1⟩
 | false=>exact hb wh pins s1 σ H1 Q I1 q1
theorem ZgM (ha:PT X a tA):PT X (.UnaryOp .Not a pos) (Zff tA):=by
 intro pins s σ H Q I h
 exact isTrue_not (ha pins s σ H (λc H1=>Q (!c) H1) I h)
noncomputable def Zfv (ta tb:TE):TE:=λσ H Q=>ta σ H λx H1=>∃ c,x=.bl c/\if c=true then tb σ H1 Q else Q (.bl false) H1
noncomputable def Zfe (ta:TE):TE:=λσ H Q=>ta σ H λx H1=>∃ c,x=.bl c/\Q (.bl (!c)) H1
theorem Zhc {op} {t:TE} (h:PE X a t):PE X (.BoolOp op [a] pos) t:=λpins s σ H Q I hw=>BoolOp_one (h pins s σ H Q I hw)
theorem Zhp (ha:PE X a ta) (hb:PE X (.BoolOp .And (b::rest) pos) tb):PE X (.BoolOp .And (a::b::rest) pos) (Zfv ta tb):=by
 intro pins s σ H Q I h
 refine BoolOp_and (thn (ha pins s σ H _ I h) λv s1 hz0=>?_)
 obtain ⟨x,H1,I1,r1,q1⟩:=hz0
 obtain ⟨c,rfl,q1⟩:=q1
 cases r1
 refine wpAny_truthy_bool ?_
 cases c with
 | true=>exact hb pins s1 σ H1 Q I1 q1
 | false=>exact ⟨.bl false,H1,I1,rfl,q1⟩
theorem Zb5 (ha:PE X a ta):PE X (.UnaryOp .Not a pos) (Zfe ta):=by
 intro pins s σ H Q I h
 refine UnaryOp_ (thn (ha pins s σ H _ I h) λv s1 hz0=>?_)
 obtain ⟨x,H1,I1,r1,q1⟩:=hz0
 obtain ⟨c,rfl,q1⟩:=q1
 cases r1
 exact not_of (wpAny_truthy_bool ⟨.bl (!c),H1,I1,rfl,q1⟩)
noncomputable def tIf (t:TT) (ta tb:TE):TE:=λσ H Q=>t σ H λc H1=>if c=true then ta σ H1 Q else tb σ H1 Q
theorem Zhg {c:Expr} (hc:PT X c tA) (ha:PE X a ta) (hb:PE X b tb):PE X (.IfExp c a b pos) (tIf tA ta tb):=by
 intro pins s σ H Q I h
 refine wpAny_IfExp (thn (hc pins s σ H _ I h) λd s1 hz0=>?_)
 obtain ⟨H1,I1,q1⟩:=hz0
 cases d with
 | true=>exact ha pins s1 σ H1 Q I1 q1
 | false=>exact hb pins s1 σ H1 Q I1 q1
end
noncomputable def SqL (K:PySem.W.Frag) (H:Hp) (a:Addr) (xs:List V):Prop :=
 Rd H a (.lst xs) \/
  ∃ (o:Obj) (its:Array Value) (n:Nat),K.lookup a=some o/\o.cls=.type "list"/\o.dict=none/\o.data=.seq its n/\its.size<=sizeLine/\Vals xs its.toList
noncomputable def SqT (K:PySem.W.Frag) (H:Hp) (a:Addr) (xs:List V):Prop :=
 Rd H a (.tup xs) \/
  ∃ (o:Obj) (its:Array Value) (n:Nat),K.lookup a=some o/\o.cls=.type "tuple"/\o.data=.seq its n/\its.size<=sizeLine/\Vals xs its.toList
noncomputable def Znd:Value->Option V
 | .none=>some .non
 | .bool b=>some (.bl b)
 | .int i _=>some (.int i)
 | .str x _=>some (.str x)
 | .bytes b _=>some (.byt b)
 | .float b _=>some (.flt b)
 | .ref a=>some (.ref a)
 | .type n=>some (.ty n)
 | _=>none
theorem RelV.abs {x:V} {u:Value} (r:RelV x u):Znd u=some x:=by
 cases x with
 | non=>cases r; rfl
 | bl _=>cases r; rfl
 | int _=>obtain ⟨t,rfl⟩:=r; rfl
 | str _=>obtain ⟨t,rfl⟩:=r; rfl
 | byt _=>obtain ⟨t,rfl⟩:=r; rfl
 | flt _=>obtain ⟨t,rfl⟩:=r; rfl
 | ref _=>cases r; rfl
 | ty _=>cases r; rfl
theorem RelV.inj {x y:V} {u:Value} (r:RelV x u) (q:RelV y u):x=y:=Option.some.inj (r.abs.symm.trans q.abs)
theorem Vals.inj {xs ys:List V} {us:List Value} (h:Vals xs us) (h':Vals ys us):xs=ys:=by
 induction h generalizing ys with
 | nil=>cases h'; rfl
 | cons r t ih=>cases h' with | cons r' t'=>rw [r.inj r',ih t']
section
variable {X:Cx} {pins:List (Addr×Obj)} {σ:St} {H:Hp} {s:Shared} {a:Addr} {xs ys:List V}
theorem SqL.of {K:PySem.W.Frag} (h:H a=some (.lst xs)):SqL K H a xs:=.inl (.inl h)
theorem SqT.of {K:PySem.W.Frag} (h:H a=some (.tup xs)):SqT K H a xs:=.inl (.inl h)
theorem Inv.list (I:Inv X pins σ H s) (h:SqL X.K H a xs):∃ its:List Value,Vals xs its/\PlainL s.heap a its.toArray/\xs.length<=sizeLine:=by
 rcases h with h | ⟨o,its,n,hk,hc,hd,hs,hz,r⟩
 ·obtain ⟨z,its,n,r,e⟩:=h.ok I.hok
  exact ⟨its,r,⟨_,n,e,rfl,rfl,rfl⟩,z⟩
 ·refine ⟨its.toList,r,⟨o,n,I.kIn a o hk,hc,hd,by simpa using hs⟩,?_⟩
  have e:=r.length
  simp only [Array.length_toList] at e
  omega
theorem Inv.tuple (I:Inv X pins σ H s) (h:SqT X.K H a xs):∃ its:List Value,Vals xs its/\IsTup s.heap a its.toArray/\xs.length<=sizeLine:=by
 rcases h with h | ⟨o,its,n,hk,hc,hs,hz,r⟩
 ·obtain ⟨z,its,r,p⟩:=h.ok I.hok
  exact ⟨its,r,p,z⟩
 ·refine ⟨its.toList,r,⟨o,I.kIn a o hk,hc,n,by simpa using hs⟩,?_⟩
  have e:=r.length
  simp only [Array.length_toList] at e
  omega
theorem Inv.list_inj (I:Inv X pins σ H s) (h:SqL X.K H a xs) (h':SqL X.K H a ys):xs=ys:=by
 obtain ⟨its,r,⟨o,n,e,_,_,d⟩,_⟩:=I.list h
 obtain ⟨its',r',⟨o',n',e',_,_,d'⟩,_⟩:=I.list h'
 rw [e] at e'; cases e'
 rw [d] at d'
 injection d' with d1 _
 have:its=its':=by simpa using congrArg Array.toList d1
 subst this
 exact r.inj r'
theorem Inv.tuple_inj (I:Inv X pins σ H s) (h:SqT X.K H a xs) (h':SqT X.K H a ys):xs=ys:=by
 obtain ⟨its,r,⟨o,e,_,n,d⟩,_⟩:=I.tuple h
 obtain ⟨its',r',⟨o',e',_,n',d'⟩,_⟩:=I.tuple h'
 rw [e] at e'; cases e'
 rw [d] at d'
 injection d' with d1 _
 have:its=its':=by simpa using congrArg Array.toList d1
 subst this
 exact r.inj r'
end
noncomputable abbrev Cx.wish (X:Cx) (E:Value->Shared->Prop):Cx:={ X with xe:=E }
noncomputable abbrev Cx.nox (X:Cx):Cx:=X.wish λ_ _=>False
theorem Cx.Ok.wish {X:Cx} (ok:X.Ok) (E:Value->Shared->Prop):(X.wish E).Ok :=
 ⟨ok.mod,ok.kind,ok.glob,ok.blt,ok.above,ok.inj,ok.has,ok.cab,ok.hd,ok.frames,ok.stk,ok.exf,ok.bs,ok.bsz,ok.noex,ok.exfs,ok.funs,ok.frf⟩
theorem Cx.Ok.unwish {X:Cx} {E:Value->Shared->Prop} (ok:(X.wish E).Ok):X.Ok :=
 ⟨ok.mod,ok.kind,ok.glob,ok.blt,ok.above,ok.inj,ok.has,ok.cab,ok.hd,ok.frames,ok.stk,ok.exf,ok.bs,ok.bsz,ok.noex,ok.exfs,ok.funs,ok.frf⟩
section
variable {X:Cx} {pins:List (Addr×Obj)} {σ:St} {H:Hp} {s:Shared} {E:Value->Shared->Prop}
theorem Inv.wish (I:Inv X pins σ H s) (E:Value->Shared->Prop):Inv (X.wish E) pins σ H s:=⟨I.ok.wish E,I.os,I.bare,I.base,I.loc,I.cell,I.free,I.freeC,I.pin,I.hok,I.len⟩
theorem Inv.unwish (I:Inv (X.wish E) pins σ H s):Inv X pins σ H s:=⟨I.ok.unwish,I.os,I.bare,I.base,I.loc,I.cell,I.free,I.freeC,I.pin,I.hok,I.len⟩
theorem SP.unwish {D:Ends} {f:Flow} {s':Shared} (h:SP (X.wish E) pins D f s'):SP X pins D f s':=by
 cases f with
 | next=>obtain ⟨σ',H',I,q⟩:=h; exact ⟨σ',H',I.unwish,q⟩
 | brk=>obtain ⟨σ',H',I,q⟩:=h; exact ⟨σ',H',I.unwish,q⟩
 | cont=>obtain ⟨σ',H',I,q⟩:=h; exact ⟨σ',H',I.unwish,q⟩
 | ret u=>obtain ⟨v,σ',H',I,r,q⟩:=h; exact ⟨v,σ',H',I.unwish,r,q⟩
theorem PSs.nox {st:List Stmt} {t:TS} (h:PSs X.nox st t):PSs X st t:=λpins s σ H D I hw =>
 wpAny_mono (h pins s σ H D (I.wish _) hw) (λ_ _ q=>q.unwish) λ_ _ z=>False.elim z
end
section
variable {X:Cx} {st:Stmt} {rest:List Stmt} {t u:TS} {e:Expr} {te:TE} {pos:Pos}
noncomputable def Zfh:TS:=λD σ H=>D.nx σ H
noncomputable def pL (t u:TS):TS:=λD σ H=>t { D with nx:=u D } σ H
theorem kI:PSs X [] Zfh:=λ_ _ σ H _ I h=>wpAny_execs_nil ⟨σ,H,I,h⟩
theorem eX (h1:PS X st t) (h2:PSs X rest u):PSs X (st::rest) (pL t u):=by
 intro pins s σ H D I h
 refine wpAny_execs_cons (thn (h1 pins s σ H { D with nx:=u D } I h) λf s1 q=>?_)
 cases f with
 | next =>
  obtain ⟨σ',H',I',q⟩:=q
  exact h2 pins s1 σ' H' D I' q
 | ret v=>exact q
 | brk=>exact q
 | cont=>exact q
theorem gT (h1:PS X st t):PSs X [st] t:=by
 intro pins s σ H D I h
 refine wpAny_execs_cons (thn (h1 pins s σ H D I h) λf s1 q=>?_)
 cases f with
 | next=>exact wpAny_execs_nil q
 | ret v=>exact q
 | brk=>exact q
 | cont=>exact q
theorem Inv.quiet {pins:List (Addr×Obj)} {σ:St} {H:Hp} {s:Shared} (I:Inv X pins σ H s):interactive X.env=false:=by simp [interactive,I.ok.kind]
noncomputable def pN (te:TE):TS:=λD σ H=>te σ H λ_ H1=>D.nx σ H1
theorem qu (he:PE X e te) (hs:swapsWith e none pos.line X.env=pure false:=by rfl):PS X (.Expr e pos) (pN te):=by
 intro pins s σ H D I h
 exact wpAny_Expr_any (thn (he pins s σ H _ I h) λv s1 ⟨x,H1,I1,r1,q1⟩=>⟨σ,H1,I1,q1⟩) I.quiet hs
noncomputable def Zfb (te:TE):TS:=λD σ H=>te σ H D.rt
theorem gU (he:PE X e te):PS X (.Return (some e) pos) (Zfb te):=by
 intro pins s σ H D I h
 exact wpAny_Return_some (thn (he pins s σ H _ I h) λv s1 ⟨x,H1,I1,r1,q1⟩=>⟨x,σ,H1,I1,r1,q1⟩)
noncomputable def Zfa:TS:=λD _ H=>D.rt .non H
theorem ZgS:PS X (.Return none pos) Zfa:=λ_ _ σ H _ I h=>wpAny_Return_none ⟨.non,σ,H,I,rfl,h⟩
noncomputable def Zfn (c:TT) (t u:TS):TS:=λD σ H=>c σ H λb H1=>if b=true then t D σ H1 else u D σ H1
theorem jX {c:Expr} {a b:List Stmt} {tc:TT} (hc:PT X c tc) (ha:PSs X a t) (hb:PSs X b u):PS X (.If c a b pos) (Zfn tc t u):=by
 intro pins s σ H D I h
 refine wpAny_If (thn (hc pins s σ H _ I h) λd s1 hz0=>?_)
 obtain ⟨H1,I1,q1⟩:=hz0
 cases d with
 | true=>exact ha pins s1 σ H1 D I1 q1
 | false=>exact hb pins s1 σ H1 D I1 q1
end
noncomputable abbrev TG:=V->St->Hp->(St->Hp->Prop)->Prop
noncomputable abbrev i6:=List V->St->Hp->(St->Hp->Prop)->Prop
noncomputable def PG (X:Cx) (target:Expr) (t:TG):Prop :=
 ∀ (pins:List (Addr×Obj)) (s:Shared) (σ:St) (H:Hp) (v:V) (u:Value) (Q:St->Hp->Prop),Inv X pins σ H s->RelV v u->t v σ H Q ->
  wpAny (model X.prog X.w) X.A (assign target X.env u) (λ_ s'=>∃ σ' H',Inv X pins σ' H' s'/\Q σ' H') X.xe s
noncomputable def PGs (X:Cx) (ts:List Expr) (t:i6):Prop :=
 ∀ (pins:List (Addr×Obj)) (s:Shared) (σ:St) (H:Hp) (vs:List V) (us:List Value) (Q:St->Hp->Prop),Inv X pins σ H s->Vals vs us->t vs σ H Q ->
  wpAny (model X.prog X.w) X.A (assignInOrder ((assignEach ts X.env).map (·.2)) us) (λ_ s'=>∃ σ' H',Inv X pins σ' H' s'/\Q σ' H') X.xe s
noncomputable abbrev tm:=V->V->V->Hp->(Hp->Prop)->Prop
noncomputable def Zeu (X:Cx) (t:tm):Prop :=
 ∀ (pins:List (Addr×Obj)) (s:Shared) (σ:St) (H:Hp) (o i v:V) (ov iv u:Value) (Q:Hp->Prop),Inv X pins σ H s->RelV o ov->RelV i iv->RelV v u->t o i v H Q ->
  wpAny (model X.prog X.w) X.A (setItem ov iv u) (λ_ s'=>∃ H',Inv X pins σ H' s'/\Q H') X.xe s
section
variable {X:Cx} {pos:Pos}
noncomputable def ju (i:Nat):TG:=λv σ H Q=>Q (σ.set i (some v)) H
theorem dQ {i:Nat} {x:Str} (hN:X.N.Nodup) (hi:X.N[i]?=some x) (hx:mC X.env.scope x) (hf:X.fn x=true\/X.env.scope.names.lookup x=some .local:=by first | exact .inl rfl | exact .inr rfl | assumption):PG X (.Name x pos) (ju i):=by
 intro pins s σ H v u Q I r h
 exact wpAny_assign_Name (pR I hN hi hx r (λs' I'=>⟨_,H,I',h⟩) hf)
noncomputable def Zjh:i6:=λvs σ H Q=>vs=[]/\Q σ H
noncomputable def Zji (t:TG) (u:i6):i6:=λvs σ H Q=>∃ v r,vs=v::r/\t v σ H λσ' H'=>u r σ' H' Q
theorem Zg6:PGs X [] Zjh:=by
 intro pins s σ H vs us Q I r h
 obtain ⟨e,h⟩:=h
 subst e
 cases r
 exact assignInOrder_nil ⟨σ,H,I,h⟩
theorem Zg7 {e:Expr} {es:List Expr} {t:TG} {u:i6} (h1:PG X e t) (h2:PGs X es u)
  (hs:(assignEach (e::es) X.env).map (·.2)=assign e X.env::(assignEach es X.env).map (·.2):=by rfl):PGs X (e::es) (Zji t u):=by
 intro pins s σ H vs us Q I r h
 obtain ⟨v,vr,e1,h⟩:=h
 subst e1
 cases r with
 | cons r rr =>
  rw [hs]
  refine assignInOrder_cons (thn (h1 pins s σ H _ _ _ I r h) λ_ s1 hz0=>?_)
  obtain ⟨σ1,H1,I1,q1⟩:=hz0
  exact h2 pins s1 σ1 H1 _ _ Q I1 rr q1
noncomputable def Zjf (K:PySem.W.Frag) (n:Nat) (t:i6):TG:=λv σ H Q=>∃ a xs,v=.ref a/\SqT K H a xs/\xs.length=n/\t xs σ H Q
theorem Zg8 {es:List Expr} {k:Nat} {t:i6} {n:Nat} (hc:X.calm=true) (h:PGs X es t)
  (hn:(assignEach es X.env).length=n:=by rfl) (hst:(assignEach es X.env).findIdx? (·.1)=none:=by rfl):PG X (.Tuple es k pos) (Zjf X.K n t):=by
 intro pins s σ H v u Q I r hw
 obtain ⟨a,xs,e1,hq,hl,hw⟩:=hw
 subst e1
 cases r
 obtain ⟨its,rv,ht,hz⟩:=I.tuple hq
 refine assign_Tuple_tuple (I.ok.hd hc) ht (by simp [hn,<- hl,rv.length]) hst λh' hx=>?_
 have I1:Inv X pins σ H { s with heap:=h' }:=I.kept (t':=s.toks) λb o e=>hx b o (Nat.ne_of_lt (Heap.lt_size e)) e
 exact h pins _ σ H xs _ Q I1 (by simpa using rv) hw
noncomputable def Zjg (to ti:TE) (t:tm):TG:=λv σ H Q=>to σ H λo H1=>ti σ H1 λi H2=>t o i v H2 λH3=>Q σ H3
theorem qx {o i:Expr} {to ti:TE} {t:tm} (ho:PE X o to) (hi:PE X i ti) (hs:Zeu X t)
  (ha:∀ v,assign (.Subscript o i pos) X.env v=(do
   let ov <- holding [v] (eval o X.env)
   let iv <- holding [v,ov] (eval i X.env)
   standAt pos
   holding [v,ov,iv] (setItem ov iv v)
   release [v,ov,iv] []):=by intro _; rfl):PG X (.Subscript o i pos) (Zjg to ti t):=by
 intro pins s σ H v u Q I r h
 rw [ha]
 refine wpAny_bind (wpAny_holding (thn (ho pins s σ H _ I h) λov s1 hz0=>?_))
 obtain ⟨x,H1,I1,r1,q1⟩:=hz0
 refine wpAny_bind (wpAny_holding (thn (hi pins s1 σ H1 _ I1 q1) λiv s2 hz0=>?_))
 obtain ⟨y,H2,I2,r2,q2⟩:=hz0
 refine wpAny_bind (wpAny_standAt (wpAny_bind (wpAny_holding (thn (hs pins s2 σ H2 x y v ov iv u _ I2 r1 r2 r q2) λ_ s3 hz0=>?_))))
 obtain ⟨H3,I3,q3⟩:=hz0
 exact wpAny_release ⟨σ,H3,I3,q3⟩
noncomputable def iD (te:TE) (g:TG):TS:=λD σ H=>te σ H λx H1=>g x σ H1 D.nx
theorem iH {tg e:Expr} {te:TE} {g:TG} (he:PE X e te) (hg:PG X tg g) (hs:swapsWithSole [tg] e pos.line X.env=pure false:=by rfl) (hw:swappedStores [tg] e X.env=pure none:=by rfl)
  (h1:(assignEach [tg] X.env).map (·.2)=[assign tg X.env]:=by rfl):PS X (.Assign [tg] e pos) (iD te g):=by
 intro pins s σ H D I h
 refine wpAny_Assign_stores (thn (he pins s σ H _ I h) λv s1 hz0=>?_) hs hw
 obtain ⟨x,H1,I1,r1,q1⟩:=hz0
 rw [h1]
 exact thn (hg pins s1 σ H1 x v _ I1 r1 q1) λ_ s2 q=>q
theorem cC {i:Nat} {x:Str} {e:Expr} {te:TE} {pos':Pos} (hN:X.N.Nodup) (hi:X.N[i]?=some x) (hx:mC X.env.scope x) (he:PE X e te) (hs:swapsWith e (some (.Name x pos')) pos.line X.env=pure false:=by rfl) (hf:X.fn x=true\/X.env.scope.names.lookup x=some .local:=by first | exact .inl rfl | exact .inr rfl | assumption) :
  PS X (.Assign [.Name x pos'] e pos) (iD te (ju i)):=by
 intro pins s σ H D I h
 refine wpAny_Assign_Name (thn (he pins s σ H _ I h) λv s1 hz0=>?_) hs
 obtain ⟨y,H1,I1,r1,q1⟩:=hz0
 exact pR I1 hN hi hx r1 (λs2 I2=>⟨_,H1,I2,q1⟩) hf
end
section
variable {X:Cx} {pos:Pos}
noncomputable def Ze5 (c:TT) (tb:TS):TS:=λD σ H=>∃ W:Nat->St->Hp->Prop,(∃ m,W m σ H)/\∀ m σ H,W m σ H ->
 c σ H λb H1=>if b=true then ∃ N:St->Hp->Prop,(∀ σ' H',N σ' H'->∃ m',m' < m/\W m' σ' H')/\tb { D with nx:=N,ct:=N,bk:=D.nx } σ H1 else D.nx σ H1
theorem ZgP {c:Expr} {body:List Stmt} {tc:TT} {tb:TS} (hp:PassesOwn (model X.prog X.w) X.A X.env X.xe) (hc:PT X c tc) (hb:PSs X body tb):PS X (.While c body [] pos) (Ze5 tc tb):=by
 intro pins s σ H D I h
 obtain ⟨W,⟨m0,w0⟩,turn⟩:=h
 refine wpAny_While (codeAny_whileLoop (λn s'=>∃ σ' H',Inv X pins σ' H' s'/\W n σ' H') ?_ m0 ⟨σ,H,I,w0⟩)
 rintro n s1 ⟨σ1,H1,I1,w1⟩
 refine wpAny_passesOwn hp (thn (hc pins s1 σ1 H1 _ I1 (turn n σ1 H1 w1)) λb s2 hz0=>?_)
 obtain ⟨H2,I2,q2⟩:=hz0
 cases b with
 | true =>
  obtain ⟨N,hN,q2⟩:=q2
  rw [if_pos rfl]
  refine wpAny_passesOwn hp (thn (hb pins s2 σ1 H2 _ I2 q2) λf s3 q3=>?_)
  cases f with
  | next =>
   obtain ⟨σ3,H3,I3,n3⟩:=q3
   obtain ⟨m',hm,w3⟩:=hN σ3 H3 n3
   exact ⟨m',hm,σ3,H3,I3,w3⟩
  | cont =>
   obtain ⟨σ3,H3,I3,n3⟩:=q3
   obtain ⟨m',hm,w3⟩:=hN σ3 H3 n3
   exact ⟨m',hm,σ3,H3,I3,w3⟩
  | brk=>exact q3
  | ret v=>exact q3
 | false =>
  rw [if_neg Bool.false_ne_true]
  exact wpAny_execs_nil ⟨σ1,H2,I2,q2⟩
end
structure It where
 go:Nat->Hp->Prop
 yld:Nat->Hp->V->Hp->Prop
 stop:Nat->Hp->Prop
noncomputable def hI (X:Cx) (pins:List (Addr×Obj)) (H:Hp) (b:Addr):Prop :=
 H b=none/\b≠X.env.locals/\b ∉ X.fs/\(b∈X.ex\/X.s₀.heap.objs.size<=b)/\(∀ x c,X.env.cells.lookup x=some c->c≠b)/\∀ p∈X.pn++pins,p.1≠b
theorem Inv.fpOk {X:Cx} {pins:List (Addr×Obj)} {σ:St} {H H':Hp} {s:Shared} {b:Addr} (I:Inv X pins σ H s) (hb:s.heap.objs.size<=b) (hn:H' b=none):hI X pins H' b:=by
 refine ⟨hn,Nat.ne_of_gt (Nat.lt_of_lt_of_le I.lt hb),I.nofs hb,.inr (Nat.le_trans I.sz hb),λx c e z=>?_,λp hp z=>?_⟩
 ·obtain ⟨v,q⟩:=I.cell x c e
  exact absurd (Nat.lt_of_lt_of_le q.lt (by rw [z]; exact hb)) (Nat.lt_irrefl _)
 ·exact absurd (Nat.lt_of_lt_of_le (Heap.lt_size (I.pin p hp).1) (by rw [z]; exact hb)) (Nat.lt_irrefl _)
structure Turn (P:Program) (w:World) (K:PySem.W.Frag) (tg:Expr) (J:It) (fp:List Addr) (it:Addr) (tn:Nat->Heap->Prop):Prop where
 mem:it∈fp
 obj:∀ i h,tn i h->∀ b∈fp,∃ o,h.get? b=some o/\∀ v,o.data≠.cell v
 keep:∀ i h h',tn i h->(∀ b∈fp,∀ o,h.get? b=some o->h'.get? b=some o)->tn i h'
 item:∀ (X:Cx),X.prog=P->X.w=w->X.K=K->X.calm=true->∀ (i:Nat) (pins:List (Addr×Obj)) (s:Shared) (σ:St) (H:Hp) (E:Value->Shared->Prop),Inv X pins σ H s->(∀ b∈fp,hI X pins H b)->tn i s.heap->J.go i H ->
  wpAny (model P w) X.A (pyNext (.ref it)) (λr s1=>∃ u,r=some u /\
   wpAny (model P w) X.A (letOwnedTupleGo tg (.ref it) u) (λ_ s2=>∃ x H',Inv X pins σ H' s2/\RelV x u/\J.yld i H x H'/\tn (i+1) s2.heap/\∀ b∈fp,H' b=none) E s1) E s
 done:∀ (X:Cx),X.prog=P->X.w=w->X.K=K->X.calm=true->∀ (i:Nat) (pins:List (Addr×Obj)) (s:Shared) (σ:St) (H:Hp) (E:Value->Shared->Prop),Inv X pins σ H s->(∀ b∈fp,hI X pins H b)->tn i s.heap->J.stop i H ->
  wpAny (model P w) X.A (pyNext (.ref it)) (λr s1=>r=none/\Inv X pins σ H s1) E s
 self:∀ (A:Around) (i:Nat) (s:Shared) (Q:Value->Shared->Prop) (E:Value->Shared->Prop),tn i s.heap->Q (.ref it) s->wpAny (model P w) A (pyIter (.ref it)) Q E s
noncomputable abbrev TI:=St->Hp->(It->Hp->Prop)->Prop
noncomputable def o9 (X:Cx) (pins:List (Addr×Obj)) (σ:St) (tg:Expr) (R:It->Hp->Prop) (itv:Value) (s2:Shared):Prop :=
 ∃ (it:Addr) (fp:List Addr) (tn:Nat->Heap->Prop) (J:It) (H':Hp),itv=.ref it/\Inv X pins σ H' s2/\Turn X.prog X.w X.K tg J fp it tn/\tn 0 s2.heap/\(∀ b∈fp,hI X pins H' b)/\R J H'
noncomputable def PI (X:Cx) (tg iter:Expr) (wi:TI):Prop :=
 ∀ (pins:List (Addr×Obj)) (s:Shared) (σ:St) (H:Hp) (R:It->Hp->Prop),Inv X pins σ H s->wi σ H R ->
  wpAny (model X.prog X.w) X.A (eval iter X.env) (λv s1=>wpAny (model X.prog X.w) X.A (pyIter v) (o9 X pins σ tg R) X.xe s1) X.xe s
theorem rJ {M:Model} {A:Around} {E:Value->Shared->Prop} {s:Shared} {tg:Expr} {it:Addr} {u:Value} {o:Obj} {n:String} {vs:Array Value} {Q:Unit->Shared->Prop} (ho:s.heap.get? it=some o) (hc:o.cls=.type n) (hd:o.data=.fields vs)
  (hn:["enumerate","zip","dict_itemiterator","dict_reverseitemiterator","odict_iterator","itertools.zip_longest","itertools.pairwise"].contains n=false) (hQ:Q () s):wpAny M A (letOwnedTupleGo tg (.ref it) u) Q E s:=by
 unfold letOwnedTupleGo
 cases tg <;> first
  | exact wpAny_pure hQ
  | (cases u <;> first
    | exact wpAny_pure hQ
    | (refine wpAny_bind (wpAny_load ho ?_)
       rw [hc,hd]
       show wpAny M A (if (["enumerate","zip","dict_itemiterator","dict_reverseitemiterator","odict_iterator","itertools.zip_longest","itertools.pairwise"].contains n && vs[0]? == some (rawInt _))=true then _ else _) Q E s
       rw [if_neg (by intro h; rw [hn,Bool.false_and] at h; cases h)]
       exact wpAny_pure hQ))
noncomputable def pw (K:PySem.W.Frag) (a:Addr):It :=
 ⟨λi H=>∃ xs x,SqL K H a xs/\xs[i]?=some x,λi H x H'=>H'=H/\∀ xs,SqL K H a xs->xs[i]?=some x,λi H=>∃ xs,SqL K H a xs/\xs.length<=i⟩
noncomputable def tz (K:PySem.W.Frag) (a:Addr):It :=
 ⟨λi H=>∃ xs x,SqT K H a xs/\xs[i]?=some x,λi H x H'=>H'=H/\∀ xs,SqT K H a xs->xs[i]?=some x,λi H=>∃ xs,SqT K H a xs/\xs.length<=i⟩
noncomputable def mE (lo:Int) (n:Nat):It:=⟨λi _=>i < n,λi H x H'=>H'=H/\x=.int (lo+i),λi _=>n<=i⟩
theorem Zaq {P:Program} {w:World} {K:PySem.W.Frag} {tg:Expr} (a it:Addr):Turn P w K tg (pw K a) [it] it (λi h=>h.IsListIter it a i) where
 mem:=by simp
 obj:=λi h st b hb=>by
  have e:b=it:=by simpa using hb
  subst e
  obtain ⟨o,e,c,d⟩:=st
  exact ⟨o,e,λv z=>by rw [d] at z; cases z⟩
 keep:=λi h h' st k=>st.at λo e=>k it (by simp) o e
 item:=by
  intro X hP hw hK hc i pins s σ H E I hf st hg
  subst hP hw hK
  obtain ⟨xs,x,hq,hx⟩:=hg
  obtain ⟨its,rv,p,hz⟩:=I.list hq
  obtain ⟨u,hu,ru⟩:=rv.get hx
  obtain ⟨f0,f1,f2,f3,f4,f5⟩:=hf it (by simp)
  refine wpAny_pyNext_list_item st p.isList (x:=u) (by simpa using hu) λh' st' sb=>?_
  have I1:Inv X pins σ H { s with heap:=h' }:=I.turned (t':=s.toks) (λb o hb e=>(sb.2 b hb).trans e) f0 f1 f3 f4 f5
  obtain ⟨o,e,c,d⟩:=id st'
  exact ⟨u,rfl,rJ (s:={ s with heap:=h' }) e c d (by decide) ⟨x,H,I1,ru,⟨rfl,λys hy=>by rw [I.list_inj hy hq]; exact hx⟩,st',λb hb=>(hf b hb).1⟩⟩
 done:=by
  intro X hP hw hK hc i pins s σ H E I hf st hg
  subst hP hw hK
  obtain ⟨xs,hq,hx⟩:=hg
  obtain ⟨its,rv,p,hz⟩:=I.list hq
  obtain ⟨f0,f1,f2,f3,f4,f5⟩:=hf it (by simp)
  have hl:=rv.length
  exact wpAny_pyNext_list_end (I.ok.hd hc) st p.isList (by simp; omega) λh' eb=>⟨rfl,I.turned (t':=s.toks) (λb o hb e=>eb b o hb e) f0 f1 f3 f4 f5⟩
 self:=λ_ _ _ _ _ st h=>wpAny_pyIter_listiter st h
theorem Ze0 {P:Program} {w:World} {K:PySem.W.Frag} {tg:Expr} (a it:Addr):Turn P w K tg (tz K a) [it] it (λi h=>h.IsTupleIter it a i) where
 mem:=by simp
 obj:=λi h st b hb=>by
  have e:b=it:=by simpa using hb
  subst e
  obtain ⟨o,e,c,d⟩:=st
  exact ⟨o,e,λv z=>by rw [d] at z; cases z⟩
 keep:=λi h h' st k=>st.at λo e=>k it (by simp) o e
 item:=by
  intro X hP hw hK hc i pins s σ H E I hf st hg
  subst hP hw hK
  obtain ⟨xs,x,hq,hx⟩:=hg
  obtain ⟨its,rv,p,hz⟩:=I.tuple hq
  obtain ⟨u,hu,ru⟩:=rv.get hx
  obtain ⟨f0,f1,f2,f3,f4,f5⟩:=hf it (by simp)
  refine wpAny_pyNext_tuple_item st (show s.heap.IsTuple a its.toArray from p) (x:=u) (by simpa using hu) λh' st' sb=>?_
  have I1:Inv X pins σ H { s with heap:=h' }:=I.turned (t':=s.toks) (λb o hb e=>(sb.2 b hb).trans e) f0 f1 f3 f4 f5
  obtain ⟨o,e,c,d⟩:=id st'
  exact ⟨u,rfl,rJ (s:={ s with heap:=h' }) e c d (by decide) ⟨x,H,I1,ru,⟨rfl,λys hy=>by rw [I.tuple_inj hy hq]; exact hx⟩,st',λb hb=>(hf b hb).1⟩⟩
 done:=by
  intro X hP hw hK hc i pins s σ H E I hf st hg
  subst hP hw hK
  obtain ⟨xs,hq,hx⟩:=hg
  obtain ⟨its,rv,p,hz⟩:=I.tuple hq
  obtain ⟨f0,f1,f2,f3,f4,f5⟩:=hf it (by simp)
  have hl:=rv.length
  exact wpAny_pyNext_tuple_end (I.ok.hd hc) st (show s.heap.IsTuple a its.toArray from p) (by simp; omega) λh' eb=>⟨rfl,I.turned (t':=s.toks) (λb o hb e=>eb b o hb e) f0 f1 f3 f4 f5⟩
 self:=λ_ _ _ _ _ st h=>wpAny_pyIter_tupleiter st h
theorem Ze1 {P:Program} {w:World} {K:PySem.W.Frag} {tg:Expr} (it:Addr) (lo:Int) (n:Nat):Turn P w K tg (mE lo n) [it] it (λi h=>IsRangeIter h it (lo+(i:Nat) * 1) ((n:Int) - (i:Nat)) 1) where
 mem:=by simp
 obj:=λi h st b hb=>by
  have e:b=it:=by simpa using hb
  subst e
  exact ⟨_,st,λv z=>by
   have z':Data.fields _=Data.cell v:=z
   cases z'⟩
 keep:=λi h h' st k=>k it (by simp) _ st
 item:=by
  intro X hP hw hK hc i pins s σ H E I hf st hg
  subst hP hw hK
  obtain ⟨f0,f1,f2,f3,f4,f5⟩:=hf it (by simp)
  have W:=Walks.range (prog:=X.prog) (w:=X.w) (I.ok.hd hc) it lo 1 n
  refine W.item i s _ _ hg st λv h' tk hv st' kk=>?_
  obtain ⟨t,rfl⟩:=hv
  have I1:Inv X pins σ H { s with heap:=h',toks:=tk }:=I.turned (λb o hb e=>kk b o (by simpa using hb) e) f0 f1 f3 f4 f5
  refine ⟨_,rfl,rJ (s:={ s with heap:=h',toks:=tk }) (n:="range_iterator") st' rfl rfl (by decide) ⟨.int (lo+i),H,I1,⟨t,?_⟩,⟨rfl,rfl⟩,st',λb hb=>(hf b hb).1⟩⟩
  rw [Int.mul_one]
 done:=by
  intro X hP hw hK hc i pins s σ H E I hf st hg
  subst hP hw hK
  obtain ⟨f0,f1,f2,f3,f4,f5⟩:=hf it (by simp)
  exact wpAny_pyNext_range_end (I.ok.hd hc) st (by have:n<=i:=hg; omega) λh' eb=>⟨rfl,I.turned (t':=s.toks) (λb o hb e=>eb b o hb e) f0 f1 f3 f4 f5⟩
 self:=λ_ _ _ _ _ st h=>wpAny_pyIter_rangeiter st h
section
variable {X:Cx} {tg:Expr}
noncomputable def ZiT (K:PySem.W.Frag) (tl:TE):TI:=λσ H R=>tl σ H λx H1=>∃ a,x=.ref a/\(∃ xs,SqL K H1 a xs)/\R (pw K a) H1
theorem Zg5 {l:Expr} {tl:TE} (hl:PE X l tl):PI X tg l (ZiT X.K tl):=by
 intro pins s σ H R I h
 refine thn (hl pins s σ H _ I h) λv s1 hz0=>?_
 obtain ⟨x,H1,I1,r1,q1⟩:=hz0
 obtain ⟨a,e,⟨xs,hq⟩,q⟩:=q1
 subst e
 cases r1
 obtain ⟨its,rv,p,hz⟩:=I1.list hq
 refine wpAny_pyIter_list p.isList ?_
 refine ⟨s1.heap.objs.size,[s1.heap.objs.size],_,_,H1,rfl,I1.kept (t':=s1.toks) λb o e=>Heap.get?_push_of_some _ e,Zaq a _,⟨_,Heap.get?_push_size _ rfl,rfl,rfl⟩,λb hb=>?_,q⟩
 have e:b=s1.heap.objs.size:=by simpa using hb
 subst e
 exact I1.fpOk (Nat.le_refl _) (I1.hok.fresh (Nat.le_refl _))
theorem ZgA {pins:List (Addr×Obj)} {σ:St} {H:Hp} {s:Shared} {R:It->Hp->Prop} {E:Value->Shared->Prop} {lo hi:Int} {t u v:Tok} {tk:Nat} (I:Inv X pins σ H s) (h1:-(2 ^ 62)<=lo) (h2:lo < 2 ^ 62) (h3:-(2 ^ 62)<=hi) (h4:hi < 2 ^ 62)
  (q:R (mE lo (hi - lo).toNat) H):wpAny (model X.prog X.w) X.A (pyIter (.ref s.heap.objs.size)) (o9 X pins σ tg R) E { s with heap:=s.heap.push { cls:=.type "range",data:=.fields #[.int lo t,.int hi u,.int 1 v] },toks:=tk }:=by
 refine wpAny_pyIter_range (IsRange.new ..) (small_one h1 h2 h3 h4) ?_
 have I1:Inv X pins σ H { s with heap:=s.heap.push { cls:=.type "range",data:=.fields #[.int lo t,.int hi u,.int 1 v] },toks:=tk }:=I.kept λb o e=>Heap.get?_push_of_some _ e
 refine ⟨(s.heap.push { cls:=.type "range",data:=.fields #[.int lo t,.int hi u,.int 1 v] }).objs.size,[(s.heap.push { cls:=.type "range",data:=.fields #[.int lo t,.int hi u,.int 1 v] }).objs.size],_,_,H,rfl,
  I1.kept (t':=tk) λb o e=>Heap.get?_push_of_some _ e,Ze1 _ lo (hi - lo).toNat,?_,λb hb=>?_,q⟩
 ·have e1:lo+((0:Nat):Int) * 1=lo:=by simp
  have e2:(((hi - lo).toNat:Nat):Int) - ((0:Nat):Int)=Builtin.Range.rangeSize lo hi 1:=by rw [rangeSize_one]; split <;> omega
  show IsRangeIter _ _ (lo+((0:Nat):Int) * 1) ((((hi - lo).toNat:Nat):Int) - ((0:Nat):Int)) 1
  rw [e1,e2]
  exact Heap.get?_push_size _ rfl
 ·have e:b=(s.heap.push { cls:=.type "range",data:=.fields #[.int lo t,.int hi u,.int 1 v] }).objs.size:=by simpa using hb
  subst e
  exact I1.fpOk (Nat.le_refl _) (I1.hok.fresh (Nat.le_refl _))
noncomputable def ZcV (ta:TA):TI:=λσ H R=>ta σ H λvs H1=>∃ j:Int,vs=[.int j]/\-(2 ^ 62)<=j/\j < 2 ^ 62/\R (mE 0 j.toNat) H1
theorem nu {a:Expr} {ta:TA} {p pos:Pos} (hg:Gl X "range") (hm:X.mg "range"=none) (ha:PA X [a] ta) (hs:starEach [a] X.env=[(false,eval a X.env)]:=by rfl):PI X tg (.Call (.Name "range" p) [a] [] pos) (ZcV ta):=by
 intro pins s σ H R I h
 refine Call_ (n0 I hg hm boot_range (PyProof.Rows.callWith_type1 (thn (ha pos pins s σ H _ I h) λus s1 hz0=>?_) hs rfl))
 obtain ⟨vs,H1,I1,r1,q1⟩:=hz0
 obtain ⟨j,e,q1,q2,q⟩:=q1
 subst e
 cases r1 with
 | cons r rr =>
  cases rr
  obtain ⟨t,rfl⟩:=r
  exact call_range_1 (ZgA I1 (by omega) (by omega) q1 q2 (by simpa using q))
noncomputable def Zfp (wi:TI) (g:TG) (tb:TS):TS:=λD σ H=>wi σ H λJ H1=>∃ W:Nat->Nat->St->Hp->Prop,(∃ m,W 0 m σ H1)/\∀ i m σ H,W i m σ H ->
 (J.stop i H/\D.nx σ H)\/(J.go i H/\∃ N:St->Hp->Prop,(∀ σ' H',N σ' H'->∃ m',m' < m/\W (i+1) m' σ' H')/\∀ x H',J.yld i H x H'->g x σ H' λσ2 H2=>tb { D with nx:=N,ct:=N,bk:=D.nx } σ2 H2)
noncomputable def nt (fp:List Addr) (h:Heap):List (Addr×Obj):=fp.filterMap λb=>(h.get? b).map λo=>(b,o)
theorem jm {fp:List Addr} {h:Heap} {b:Addr} {o:Obj} (hb:b∈fp) (e:h.get? b=some o):(b,o)∈nt fp h:=List.mem_filterMap.mpr ⟨b,hb,by rw [e]; rfl⟩
theorem ZhI {fp:List Addr} {h:Heap} {p:Addr×Obj} (hp:p∈nt fp h):p.1∈fp/\h.get? p.1=some p.2:=by
 obtain ⟨b,hb,e⟩:=List.mem_filterMap.mp hp
 cases q:h.get? b with
 | none=>rw [q] at e; cases e
 | some o =>
  rw [q] at e
  have e':(b,o)=p:=Option.some.inj e
  subst e'
  exact ⟨hb,q⟩
theorem Inv.pinned {pins:List (Addr×Obj)} {σ:St} {H:Hp} {s:Shared} {fp:List Addr} (I:Inv X pins σ H s) (hf:∀ b∈fp,hI X pins H b) (ho:∀ b∈fp,∃ o,s.heap.get? b=some o/\∀ v,o.data≠.cell v):Inv X (pins++nt fp s.heap) σ H s :=
 I.pins_of λp hp=>(List.mem_append.mp hp).elim (λz=>I.pin p (List.mem_append_right _ z)) λz=>by
  obtain ⟨hb,e⟩:=ZhI z
  obtain ⟨f0,f1,f2,_⟩:=hf p.1 hb
  obtain ⟨o,e',d⟩:=ho p.1 hb
  rw [e] at e'; cases e'
  exact ⟨e,f0,f1,f2,d⟩
theorem Inv.unpinned {pins pl:List (Addr×Obj)} {σ:St} {H:Hp} {s:Shared} (I:Inv X (pins++pl) σ H s):Inv X pins σ H s:=I.pins_of λp hp=>I.pin p (List.mem_append_right _ (List.mem_append_left _ hp))
theorem ZgT {iter:Expr} {body:List Stmt} {wi:TI} {g:TG} {tb:TS} {pos:Pos} (hp:PassesOwn (model X.prog X.w) X.A X.env X.xe) (hc:X.calm=true) (hi:PI X tg iter wi) (hg:PG X tg g) (hb:PSs X body tb)
  (hs:∀ x,foldedSetIterable iter X.env x=pure x:=by intro _; rfl):PS X (.For tg iter body [] pos) (Zfp wi g tb):=by
 intro pins s σ H D I h
 refine wpAny_For (thn (hi pins s σ H _ I h) λv s1 h1=>thn h1 λitv s2 h2=>?_) hs
 obtain ⟨it,fp,tn,J,H2,e,I2,T,st2,f2,W,⟨m0,w0⟩,turn⟩:=h2
 subst e
 -- what stays true of the iterator's objects through the loop
 have stat:∀ {H':Hp},(∀ b∈fp,H' b=none)->∀ b∈fp,hI X pins H' b:=λhn b hb=>⟨hn b hb,(f2 b hb).2⟩
 refine codeAny_forLoop_any (λn s'=>∃ i σ' H',Inv X pins σ' H' s'/\tn i s'.heap/\(∀ b∈fp,H' b=none)/\W i n σ' H') ?_ m0 ⟨0,σ,H2,I2,st2,λb hb=>(f2 b hb).1,w0⟩
 rintro n s3 ⟨i,σ3,H3,I3,st3,fr3,w3⟩
 rcases turn i n σ3 H3 w3 with ⟨stop,qn⟩ | ⟨go,N,hN,step⟩
 ·refine wpAny_passesOwn hp (thn (T.done X rfl rfl rfl hc i pins s3 σ3 H3 X.xe I3 (stat fr3) st3 stop) λr s4 hz0=>?_)
  obtain ⟨hr,I4⟩:=hz0
  subst hr
  exact wpAny_execs_nil ⟨σ3,H3,I4,qn⟩
 ·refine wpAny_passesOwn hp (thn (T.item X rfl rfl rfl hc i pins s3 σ3 H3 X.xe I3 (stat fr3) st3 go) λr s4 hz0=>?_)
  obtain ⟨u,hr,h4⟩:=hz0
  subst hr
  refine wpAny_passesOwn hp (thn h4 λ_ s5 hz0=>?_)
  obtain ⟨x,H5,I5,r5,y5,st5,fr5⟩:=hz0
  have I5':=I5.pinned (stat fr5) (T.obj _ _ st5)
  refine wpAny_passesOwn hp (thn (hg _ s5 σ3 H5 x u _ I5' r5 (step x H5 y5)) λ_ s6 hz0=>?_)
  obtain ⟨σ6,H6,I6,q6⟩:=hz0
  refine wpAny_passesOwn hp (thn (hb _ s6 σ6 H6 _ I6 q6) λf s7 q7=>?_)
  have again:∀ {σ7:St} {H7:Hp},Inv X (pins++nt fp s5.heap) σ7 H7 s7->N σ7 H7->∃ m,m < n/\∃ i σ' H',Inv X pins σ' H' s7/\tn i s7.heap/\(∀ b∈fp,H' b=none)/\W i m σ' H':=λ{σ7 H7} I7 n7=>by
   obtain ⟨m',hm,w7⟩:=hN σ7 H7 n7
   refine ⟨m',hm,i+1,σ7,H7,I7.unpinned,T.keep _ _ _ st5 λb hb o e=>(I7.pin (b,o) (List.mem_append_right _ (List.mem_append_right _ (jm hb e)))).1,λb hb=>?_,w7⟩
   obtain ⟨o,e,d⟩:=T.obj _ _ st5 b hb
   exact (I7.pin (b,o) (List.mem_append_right _ (List.mem_append_right _ (jm hb e)))).2.1
  cases f with
  | next=>obtain ⟨σ7,H7,I7,n7⟩:=q7; exact again I7 n7
  | cont=>obtain ⟨σ7,H7,I7,n7⟩:=q7; exact again I7 n7
  | brk=>obtain ⟨σ7,H7,I7,q7⟩:=q7; exact ⟨σ7,H7,I7.unpinned,q7⟩
  | ret v=>obtain ⟨x7,σ7,H7,I7,r7,q7⟩:=q7; exact ⟨x7,σ7,H7,I7.unpinned,r7,q7⟩
end
noncomputable abbrev R2:=V->V->Hp->VK->Prop
noncomputable def OpR (X:Cx) (f:Value->Value->Sem Value) (r:R2):Prop :=
 ∀ (pins:List (Addr×Obj)) (s:Shared) (σ:St) (H:Hp) (x y:V) (v u:Value) (Q:VK),Inv X pins σ H s->RelV x v->RelV y u->r x y H Q ->
  wpAny (model X.prog X.w) X.A (f v u) (EP X pins σ Q) X.xe s
noncomputable def tj (X:Cx) (f:Value->Sem Value) (r:V->Hp->VK->Prop):Prop :=
 ∀ (pins:List (Addr×Obj)) (s:Shared) (σ:St) (H:Hp) (x:V) (v:Value) (Q:VK),Inv X pins σ H s->RelV x v->r x H Q ->
  wpAny (model X.prog X.w) X.A (f v) (EP X pins σ Q) X.xe s
noncomputable def fX (X:Cx) (f:Value) (r:List V->Hp->VK->Prop):Prop :=
 ∀ (pins:List (Addr×Obj)) (s:Shared) (σ:St) (H:Hp) (xs:List V) (us:List Value) (Q:VK),Inv X pins σ H s->Vals xs us->r xs H Q ->
  wpAny (model X.prog X.w) X.A (call f us) (EP X pins σ Q) X.xe s
noncomputable def Zng (X:Cx) (r:V->Hp->(Bool->Hp->Prop)->Prop):Prop :=
 ∀ (pins:List (Addr×Obj)) (s:Shared) (σ:St) (H:Hp) (x:V) (v:Value) (Q:Bool->Hp->Prop),Inv X pins σ H s->RelV x v->r x H Q ->
  wpAny (model X.prog X.w) X.A (truthy v) (TP X pins σ Q) X.xe s
noncomputable def kD (r:R2) (ta tb:TE):TE:=λσ H Q=>ta σ H λx H1=>tb σ H1 λy H2=>r x y H2 Q
noncomputable def tUn (r:V->Hp->VK->Prop) (ta:TE):TE:=λσ H Q=>ta σ H λx H1=>r x H1 Q
noncomputable def rI (C:Int->Int->Prop) (g:Int->Int->V):R2:=λx y H Q=>∃ i j,x=.int i/\y=.int j/\C i j/\Q (g i j) H
noncomputable def gS (g:Int->Int->V):R2:=λx y H Q=>∃ i j,x=.int i/\y=.int j/\Q (g i j) H
noncomputable def rU (g:Int->V):V->Hp->VK->Prop:=λx H Q=>∃ i,x=.int i/\Q (g i) H
section
variable {X:Cx} {a b c:Expr} {ta tb tc:TE} {pos:Pos}
theorem sw (ha:PE X a ta) (hb:PE X b tb) {pins:List (Addr×Obj)} {s:Shared} {σ:St} {H:Hp} {R:V->V->Hp->Prop} (I:Inv X pins σ H s)
  (h:ta σ H λx H1=>tb σ H1 λy H2=>R x y H2) {Q:Value->Shared->Prop} {f:Value->Value->Sem Value}
  (hf:∀ v u s2 x y H2,Inv X pins σ H2 s2->RelV x v->RelV y u->R x y H2->wpAny (model X.prog X.w) X.A (f v u) Q X.xe s2) :
  wpAny (model X.prog X.w) X.A (eval a X.env) (λv s₁=>wpAny (model X.prog X.w) X.A (eval b X.env) (λu s₂=>wpAny (model X.prog X.w) X.A (f v u) Q X.xe s₂) X.xe s₁) X.xe s:=by
 refine thn (ha pins s σ H _ I h) λv s1 hz0=>?_
 obtain ⟨x,H1,I1,r1,q1⟩:=hz0
 refine thn (hb pins s1 σ H1 _ I1 q1) λu s2 hz0=>?_
 obtain ⟨y,H2,I2,r2,q2⟩:=hz0
 exact hf v u s2 x y H2 I2 r1 r2 q2
theorem eJ {op:Operator} {r:R2} (ho:OpR X (binaryOp op) r) (ha:PE X a ta) (hb:PE X b tb):PE X (.BinOp a op b pos) (kD r ta tb):=by
 intro pins s σ H Q I h
 exact wpAny_BinOp (sw ha hb I h λv u s2 x y H2 I2 rx ry q=>ho pins s2 σ H2 x y v u Q I2 rx ry q)
theorem Zhb {op:UnaryOp} {r:V->Hp->VK->Prop} (ho:tj X (unaryOp op) r) (ha:PE X a ta):PE X (.UnaryOp op a pos) (tUn r ta):=by
 intro pins s σ H Q I h
 exact UnaryOp_ (thn (ha pins s σ H _ I h) λv s1 ⟨x,H1,I1,r1,q1⟩=>ho pins s1 σ H1 x v Q I1 r1 q1)
theorem lM {f:Value->Value->Sem Value} {C:Int->Int->Prop} {g:Int->Int->Int}
  (rule:∀ (i j:Int) (t u:Tok) (s:Shared) (Q:Value->Shared->Prop) (E:Value->Shared->Prop),C i j->Q (.int (g i j) s.toks) { s with toks:=s.toks+1 }->wpAny (model X.prog X.w) X.A (f (.int i t) (.int j u)) Q E s) :
  OpR X f (rI C λi j=>.int (g i j)):=by
 intro pins s σ H x y v u Q I rx ry h
 obtain ⟨i,j,rfl,rfl,hc,q⟩:=h
 obtain ⟨t,rfl⟩:=rx
 obtain ⟨t',rfl⟩:=ry
 exact rule i j t t' s _ _ hc ⟨.int (g i j),H,I.tok _,⟨_,rfl⟩,q⟩
theorem Zch {f:Value->Value->Sem Value} {g:Int->Int->Int}
  (rule:∀ (i j:Int) (t u:Tok) (s:Shared) (Q:Value->Shared->Prop) (E:Value->Shared->Prop),Q (.int (g i j) s.toks) { s with toks:=s.toks+1 }->wpAny (model X.prog X.w) X.A (f (.int i t) (.int j u)) Q E s) :
  OpR X f (gS λi j=>.int (g i j)):=by
 intro pins s σ H x y v u Q I rx ry h
 obtain ⟨i,j,rfl,rfl,q⟩:=h
 obtain ⟨t,rfl⟩:=rx
 obtain ⟨t',rfl⟩:=ry
 exact rule i j t t' s _ _ ⟨.int (g i j),H,I.tok _,⟨_,rfl⟩,q⟩
theorem nB {f:Value->Value->Sem Value} {g:Int->Int->Bool}
  (rule:∀ (i j:Int) (t u:Tok) (s:Shared) (Q:Value->Shared->Prop) (E:Value->Shared->Prop),Q (.bool (g i j)) s->wpAny (model X.prog X.w) X.A (f (.int i t) (.int j u)) Q E s) :
  OpR X f (gS λi j=>.bl (g i j)):=by
 intro pins s σ H x y v u Q I rx ry h
 obtain ⟨i,j,rfl,rfl,q⟩:=h
 obtain ⟨t,rfl⟩:=rx
 obtain ⟨t',rfl⟩:=ry
 exact rule i j t t' s _ _ ⟨.bl (g i j),H,I,rfl,q⟩
noncomputable def ZnL (i j:Int):Prop:=0 < j/\j < 1073741824
noncomputable def Zey (i j:Int):Prop:=0<=j/\j<=1000000/\i.natAbs < 2 ^ 64
noncomputable def CMul (i j:Int):Prop:=(-(2 ^ 64) < i/\i < 2 ^ 64)\/(-(2 ^ 64) < j/\j < 2 ^ 64)
theorem CMul.ok {i j:Int} (h:CMul i j):IntMulOk i j:=by
 rcases h with ⟨h1,h2⟩ | ⟨h1,h2⟩
 ·exact .of_left (intBits_le_64 h1 h2)
 ·exact .of_right (intBits_le_64 h1 h2)
theorem j6:OpR X (binaryOp .Add) (gS λi j=>.int (i+j)):=Zch λ_ _ _ _ _ _ _ q=>add_int q
theorem fD:OpR X (binaryOp .Sub) (gS λi j=>.int (i - j)):=Zch λ_ _ _ _ _ _ _ q=>sub_int q
theorem nz:OpR X (binaryOp .Mult) (rI CMul λi j=>.int (i * j)):=lM λ_ _ _ _ _ _ _ hc q=>mul_int q hc.ok
theorem qE:OpR X (binaryOp .FloorDiv) (rI ZnL λi j=>.int (i / j)):=lM λi j _ _ _ _ _ hc q=>by
 have h1:(0:Int) < j:=hc.1
 have h2:j < 1073741824:=hc.2
 exact floordiv_int (by omega) (by rw [Int.fdiv_eq_ediv_of_nonneg i (by omega)]; exact q) (.inl (PyProof.noPylong_small (by omega)))
theorem j4:OpR X (binaryOp .Mod) (rI (λ_ j=>0 < j) λi j=>.int (i % j)):=lM λi j _ _ _ _ _ hc q=>by
 have h1:(0:Int) < j:=hc
 exact mod_int' (by omega) (by rw [Int.fmod_eq_emod_of_nonneg i (by omega)]; exact q)
theorem kO:OpR X (binaryOp .Pow) (rI Zey λi j=>.int (i ^ j.toNat)):=lM λ_ _ _ _ _ _ _ hc q=>pow_int_small hc.1 hc.2.1 hc.2.2 q
theorem unI {f:Value->Sem Value} {g:Int->Int}
  (rule:∀ (i:Int) (t:Tok) (s:Shared) (Q:Value->Shared->Prop) (E:Value->Shared->Prop),Q (.int (g i) s.toks) { s with toks:=s.toks+1 }->wpAny (model X.prog X.w) X.A (f (.int i t)) Q E s) :
  tj X f (rU λi=>.int (g i)):=by
 intro pins s σ H x v Q I rx h
 obtain ⟨i,rfl,q⟩:=h
 obtain ⟨t,rfl⟩:=rx
 exact rule i t s _ _ ⟨.int (g i),H,I.tok _,⟨_,rfl⟩,q⟩
theorem ZeX:tj X (unaryOp .USub) (rU λi=>.int (-i)):=unI λ_ _ _ _ _ q=>neg_int q
end
noncomputable def scal:V->V->Bool
 | .non,.non=>true | .non,.int _=>true | .int _,.non=>true | .non,.bl _=>true | .bl _,.non=>true | .non,.str _=>true | .str _,.non=>true
 | .int _,.int _=>true | .bl _,.bl _=>true | .str _,.str _=>true | .byt _,.byt _=>true
 | .int _,.str _=>true | .str _,.int _=>true | .bl _,.str _=>true | .str _,.bl _=>true
 | _,_=>false
noncomputable def rEq:R2:=λx y H Q=>scal x y=true/\Q (.bl (decide (x=y))) H
noncomputable def rNe:R2:=λx y H Q=>scal x y=true/\Q (.bl (!decide (x=y))) H
theorem Zdq {i j:Int}:decide (V.int i=V.int j)=(i == j):=by
 rw [Bool.eq_iff_iff]
 simp
theorem Zds {i j:Bool}:decide (V.bl i=V.bl j)=(i == j):=by
 rw [Bool.eq_iff_iff]
 simp
theorem oy {i j:Str}:decide (V.str i=V.str j)=(i == j):=by
 rw [Bool.eq_iff_iff]
 simp
theorem Zdr {i j:Array UInt8}:decide (V.byt i=V.byt j)=(i.toList == j.toList):=by
 rw [Bool.eq_iff_iff]
 cases i
 cases j
 simp
section
variable {X:Cx} {a b c:Expr} {ta tb tc:TE} {pos:Pos}
theorem ed {pins:List (Addr×Obj)} {σ:St} {H:Hp} {s:Shared} {Q:VK} {k k':Bool} (I:Inv X pins σ H s) (q:Q (.bl k) H) (e:k=k'):EP X pins σ Q (.bool k') s:=by
 subst e
 exact ⟨.bl k,H,I,rfl,q⟩
theorem ZhB:OpR X (compareOp .Eq) rEq:=by
 intro pins s σ H x y v u Q I rx ry h
 obtain ⟨hs,q⟩:=h
 cases x with
 | non =>
  cases rx
  cases y with
  | non=>cases ry; exact PySem.EqNone.eq_none_none (ed I q (by simp))
  | bl j=>cases ry; exact PySem.EqNone.eq_none_bool (ed I q (by simp))
  | int j=>obtain ⟨t',rfl⟩:=ry; exact PySem.EqNone.eq_none_int (ed I q (by simp))
  | str j=>obtain ⟨t',rfl⟩:=ry; exact PySem.EqNone.eq_none_str (ed I q (by simp))
  | _=>exact absurd (show false=true from hs) Bool.false_ne_true
 | bl i =>
  cases rx
  cases y with
  | non=>cases ry; exact PySem.EqNone.eq_bool_none (ed I q (by simp))
  | bl j=>cases ry; exact eq_bool (ed I q Zds)
  | str j=>obtain ⟨t',rfl⟩:=ry; exact PySem.EqMixed.eq_bool_str (ed I q (by simp))
  | _=>exact absurd (show false=true from hs) Bool.false_ne_true
 | int i =>
  obtain ⟨t,rfl⟩:=rx
  cases y with
  | non=>cases ry; exact PySem.EqNone.eq_int_none (ed I q (by simp))
  | int j=>obtain ⟨t',rfl⟩:=ry; exact eq_int (ed I q Zdq)
  | str j=>obtain ⟨t',rfl⟩:=ry; exact PySem.EqMixed.eq_int_str (ed I q (by simp))
  | _=>exact absurd (show false=true from hs) Bool.false_ne_true
 | str i =>
  obtain ⟨t,rfl⟩:=rx
  cases y with
  | non=>cases ry; exact PySem.EqNone.eq_str_none (ed I q (by simp))
  | bl j=>cases ry; exact PySem.EqMixed.eq_str_bool (ed I q (by simp))
  | int j=>obtain ⟨t',rfl⟩:=ry; exact PySem.EqMixed.eq_str_int (ed I q (by simp))
  | str j=>obtain ⟨t',rfl⟩:=ry; exact eq_str (ed I q oy)
  | _=>exact absurd (show false=true from hs) Bool.false_ne_true
 | byt i =>
  obtain ⟨t,rfl⟩:=rx
  cases y with
  | byt j=>obtain ⟨t',rfl⟩:=ry; exact PySem.W.eq_bytes (ed I q Zdr)
  | _=>exact absurd (show false=true from hs) Bool.false_ne_true
 | _=>cases y <;> exact absurd (show false=true from hs) Bool.false_ne_true
theorem Zcf:OpR X (compareOp .NotEq) rNe:=by
 intro pins s σ H x y v u Q I rx ry h
 obtain ⟨hs,q⟩:=h
 cases x with
 | non =>
  cases rx
  cases y with
  | non=>cases ry; exact PySem.EqNone.ne_none_none (ed I q (by simp))
  | bl j=>cases ry; exact PySem.EqNone.ne_none_bool (ed I q (by simp))
  | int j=>obtain ⟨t',rfl⟩:=ry; exact PySem.EqNone.ne_none_int (ed I q (by simp))
  | str j=>obtain ⟨t',rfl⟩:=ry; exact PySem.EqNone.ne_none_str (ed I q (by simp))
  | _=>exact absurd (show false=true from hs) Bool.false_ne_true
 | bl i =>
  cases rx
  cases y with
  | non=>cases ry; exact PySem.EqNone.ne_bool_none (ed I q (by simp))
  | bl j=>cases ry; exact ne_bool (ed I q (congrArg not Zds))
  | str j=>obtain ⟨t',rfl⟩:=ry; exact PySem.EqMixed.ne_bool_str (ed I q (by simp))
  | _=>exact absurd (show false=true from hs) Bool.false_ne_true
 | int i =>
  obtain ⟨t,rfl⟩:=rx
  cases y with
  | non=>cases ry; exact PySem.EqNone.ne_int_none (ed I q (by simp))
  | int j=>obtain ⟨t',rfl⟩:=ry; exact ne_int (ed I q (congrArg not Zdq))
  | str j=>obtain ⟨t',rfl⟩:=ry; exact PySem.EqMixed.ne_int_str (ed I q (by simp))
  | _=>exact absurd (show false=true from hs) Bool.false_ne_true
 | str i =>
  obtain ⟨t,rfl⟩:=rx
  cases y with
  | non=>cases ry; exact PySem.EqNone.ne_str_none (ed I q (by simp))
  | bl j=>cases ry; exact PySem.EqMixed.ne_str_bool (ed I q (by simp))
  | int j=>obtain ⟨t',rfl⟩:=ry; exact PySem.EqMixed.ne_str_int (ed I q (by simp))
  | str j=>obtain ⟨t',rfl⟩:=ry; exact ne_str (ed I q (congrArg not oy))
  | _=>exact absurd (show false=true from hs) Bool.false_ne_true
 | byt i =>
  obtain ⟨t,rfl⟩:=rx
  cases y with
  | byt j=>obtain ⟨t',rfl⟩:=ry; exact PySem.W.ne_bytes (ed I q (congrArg not Zdr))
  | _=>exact absurd (show false=true from hs) Bool.false_ne_true
 | _=>cases y <;> exact absurd (show false=true from hs) Bool.false_ne_true
theorem nA:OpR X (compareOp .Lt) (gS λi j=>.bl (decide (i < j))):=nB λ_ _ _ _ _ _ _ q=>lt_int q
theorem qD:OpR X (compareOp .LtE) (gS λi j=>.bl (decide (i<=j))):=nB λ_ _ _ _ _ _ _ q=>le_int q
theorem lL:OpR X (compareOp .Gt) (gS λi j=>.bl (decide (j < i))):=nB λ_ _ _ _ _ _ _ q=>gt_int q
theorem Zhy:OpR X (compareOp .GtE) (gS λi j=>.bl (decide (j<=i))):=nB λ_ _ _ _ _ _ _ q=>ge_int q
theorem Zcg:OpR X (compareOp .Is) (λx y H Q=>y=.non/\Q (.bl (decide (x=.non))) H):=by
 intro pins s σ H x y v u Q I rx ry h
 obtain ⟨rfl,q⟩:=h
 cases ry
 refine is_none_gen (ed I q ?_)
 cases x <;> first
  | (cases rx; rfl)
  | (obtain ⟨t,rfl⟩:=rx; rfl)
theorem jZ:OpR X (compareOp .IsNot) (λx y H Q=>y=.non/\Q (.bl (!decide (x=.non))) H):=by
 intro pins s σ H x y v u Q I rx ry h
 obtain ⟨rfl,q⟩:=h
 cases ry
 refine isnot_none_gen (ed I q ?_)
 cases x <;> first
  | (cases rx; rfl)
  | (obtain ⟨t,rfl⟩:=rx; rfl)
theorem OpR.or {f:Value->Value->Sem Value} {r r':R2} (h:OpR X f r) (h':OpR X f r'):OpR X f (λx y H Q=>r x y H Q\/r' x y H Q):=by
 intro pins s σ H x y v u Q I rx ry q
 rcases q with q | q
 ·exact h pins s σ H x y v u Q I rx ry q
 ·exact h' pins s σ H x y v u Q I rx ry q
theorem nomark (b:Expr) {op:CmpOp} (h:op≠.In:=by decide) (h2:op≠.NotIn:=by decide):behindInMarks op b=false:=by
 have e1:(op == CmpOp.In)=false:=by cases op <;> first | rfl | exact absurd rfl h
 have e2:(op == CmpOp.NotIn)=false:=by cases op <;> first | rfl | exact absurd rfl h2
 cases b <;> first | rfl | (show (_ && (op == CmpOp.In || op == CmpOp.NotIn) && _)=false; rw [e1,e2,Bool.or_false,Bool.and_false,Bool.false_and])
theorem Zhl {op:CmpOp} {r:R2} (ho:OpR X (compareOp op) r) (ha:PE X a ta) (hb:PE X b tb) (hm:behindInMarks op b=false):PE X (.Compare a [op] [b] pos) (kD r ta tb):=by
 intro pins s σ H Q I h
 exact wpAny_Compare1 (sw ha hb I h λv u s2 x y H2 I2 rx ry q=>ho pins s2 σ H2 x y v u Q I2 rx ry q) hm
noncomputable def mT (t:TE):TT:=λσ H Q=>t σ H λx H'=>∃ k,x=.bl k/\Q k H'
theorem jW {op:CmpOp} {r:R2} (ho:OpR X (compareOp op) r) (ha:PE X a ta) (hb:PE X b tb) (hm:behindInMarks op b=false):PT X (.Compare a [op] [b] pos) (mT (kD r ta tb)):=by
 intro pins s σ H Q I h
 refine wpAny_isTrue_Compare1 (thn (ha pins s σ H _ I h) λv s1 ⟨x,H1,I1,r1,q1⟩=>thn (hb pins s1 σ H1 _ I1 q1) λu s2 ⟨y,H2,I2,r2,q2⟩ =>
  thn (ho pins s2 σ H2 x y v u _ I2 r1 r2 q2) λc s3 ⟨z,H3,I3,r3,k,e,q3⟩=>?_) hm
 subst e
 cases r3
 exact wpAny_truthy_bool ⟨H3,I3,q3⟩
noncomputable def Zay (r r':R2) (ta tb tc:TE):TE:=λσ H Q=>ta σ H λx H1=>tb σ H1 λy H2=>r x y H2 λz H3=>∃ k,z=.bl k /\
 (if k=true then tc σ H3 λw' H4=>r' y w' H4 Q else Q (.bl false) H3)
theorem Zhm {op op':CmpOp} {r r':R2} (ho:OpR X (compareOp op) r) (ho':OpR X (compareOp op') r') (ha:PE X a ta) (hb:PE X b tb) (hc:PE X c tc)
  (hm:lastMarks [op,op'] [b,c]=false:=by with_unfolding_all rfl):PE X (.Compare a [op,op'] [b,c] pos) (Zay r r' ta tb tc):=by
 intro pins s σ H Q I h
 refine Compare_chain (thn (ha pins s σ H _ I h) λv s1 ⟨x,H1,I1,r1,q1⟩=>chain_link (thn (hb pins s1 σ H1 _ I1 q1) λu s2 ⟨y,H2,I2,r2,q2⟩ =>
  thn (ho pins s2 σ H2 x y v u _ I2 r1 r2 q2) λd s3 ⟨z,H3,I3,r3,k,e,q3⟩=>?_)) hm
 subst e
 cases r3
 refine wpAny_truthy_bool ?_
 cases k with
 | false=>exact ite_ff ⟨.bl false,H3,I3,rfl,q3⟩
 | true=>exact ite_tt (chain_last (thn (hc pins s3 σ H3 _ I3 q3) λw' s4 ⟨z',H4,I4,r4,q4⟩=>ho' pins s4 σ H4 y z' u w' Q I4 r2 r4 q4))
noncomputable def Zes (K:PySem.W.Frag) (x:V) (H:Hp) (k:Bool):Prop :=
 match x with
 | .non=>k=false
 | .bl b=>k=b
 | .int i=>k=(i != 0)
 | .str y=>y.length<=sizeLine/\k=((y.length:Int) != 0)
 | .byt y=>y.size<=sizeLine/\k=((y.size:Int) != 0)
 | .ref p=>(∃ xs,SqL K H p xs/\k=!xs.isEmpty)\/(∃ xs,SqT K H p xs/\k=!xs.isEmpty)\/∃ kvs,H p=some (.dK kvs)/\k=!kvs.isEmpty
 | _=>False
theorem ZiN {κ:Type} {kvs:List (κ×V)} {vs:List (κ×Value)} (r:KV kvs vs):(!vs.isEmpty)=!kvs.isEmpty:=by
 cases r <;> rfl
theorem ZcQ {xs:List V} {its:List Value} (r:Vals xs its):(!its.toArray.isEmpty)=!xs.isEmpty:=by
 cases r <;> simp
theorem kZ:(sizeLine:Nat) < 2 ^ 63:=by rw [sizeLine_eq]; decide
theorem Ze2:Zng X (λx H Q=>∃ k,Zes X.K x H k/\Q k H):=by
 intro pins s σ H x v Q I rx h
 obtain ⟨k,e,q⟩:=h
 have hl:=kZ
 have hs:sizeLine=16777216:=sizeLine_eq
 cases x with
 | non =>
  cases rx
  have e':k=false:=e
  subst e'
  exact truthy_none ⟨H,I,q⟩
 | bl b =>
  cases rx
  have e':k=b:=e
  subst e'
  exact wpAny_truthy_bool ⟨H,I,q⟩
 | int i =>
  obtain ⟨t,rfl⟩:=rx
  have e':k=(i != 0):=e
  subst e'
  exact PySem.P.truthy_int ⟨H,I,q⟩
 | str y =>
  obtain ⟨t,rfl⟩:=rx
  obtain ⟨hy,e'⟩:y.length<=sizeLine/\k=((y.length:Int) != 0):=e
  subst e'
  exact PySem.P.truthy_str (by omega) ⟨H,I.tok _,q⟩
 | byt y =>
  obtain ⟨t,rfl⟩:=rx
  obtain ⟨hy,e'⟩:y.size<=sizeLine/\k=((y.size:Int) != 0):=e
  subst e'
  exact PySem.W.truthy_bytes (by omega) ⟨H,I.tok _,q⟩
 | ref p =>
  cases rx
  have e':(∃ xs,SqL X.K H p xs/\k=!xs.isEmpty)\/(∃ xs,SqT X.K H p xs/\k=!xs.isEmpty)\/∃ kvs,H p=some (.dK kvs)/\k=!kvs.isEmpty:=e
  rcases e' with ⟨xs,hx,e'⟩ | ⟨xs,hx,e'⟩ | ⟨kvs,hx,e'⟩
  ·subst e'
   obtain ⟨its,r,pl,hz⟩:=I.list hx
   have hlen:=r.length
   exact wpAny_truthy_list pl.isList (by simp only [List.size_toArray]; omega) ⟨H,I.tok _,by rw [ZcQ r]; exact q⟩
  ·subst e'
   obtain ⟨its,r,pl,hz⟩:=I.tuple hx
   have hlen:=r.length
   exact truthy_tuple pl (by simp only [List.size_toArray]; omega) ⟨H,I.tok _,by rw [ZcQ r]; exact q⟩
  ·subst e'
   obtain ⟨hz,hS,vs,r,m⟩:kvs.length<=sizeLine/\(p == sysModules)=false/\∃ vs,KV kvs vs/\s.heap.DictOf (fO X.prog X.w) p vs:=I.hok p _ hx
   have hlen:kvs.length=vs.length:=Paired.length r
   exact wpAny_truthy_dict hS m (by omega) ⟨H,I.tok _,by rw [ZiN r]; exact q⟩
 | _=>exact (show False from e).elim
theorem ZbS (ha:PE X a ta) (he:∀ whole,isTrue a X.env whole=(do let v <- whole; standAt a.pos; holding [v] (truthy v))) :
  PT X a (λσ H Q=>ta σ H λx H'=>∃ k,Zes X.K x H' k/\Q k H'):=by
 intro pins s σ H Q I h
 exact isTrue_plain (thn (ha pins s σ H _ I h) λv s1 ⟨x,H1,I1,r1,q1⟩=>Ze2 pins s1 σ H1 x v Q I1 r1 q1) (he _)
theorem iA {x:V} {us:List Value} (r:Vals [x] us):∃ u,us=[u]/\RelV x u:=by
 cases r with
 | cons r1 r2=>cases r2; exact ⟨_,rfl,r1⟩
theorem lA {x y:V} {us:List Value} (r:Vals [x,y] us):∃ u w',us=[u,w']/\RelV x u/\RelV y w':=by
 cases r with
 | cons r1 r2 =>
  cases r2 with
  | cons r3 r4=>cases r4; exact ⟨_,_,rfl,r1,r3⟩
theorem sj:fX X (.builtin "abs") (λxs H Q=>∃ i,xs=[.int i]/\Q (.int (if i < 0 then -i else i)) H):=by
 intro pins s σ H xs us Q I r h
 obtain ⟨i,rfl,q⟩:=h
 obtain ⟨u,rfl,t,rfl⟩:=iA r
 exact call_abs_int λu tk=>⟨.int (if i < 0 then -i else i),H,I.tok _,⟨_,rfl⟩,q⟩
theorem oC (hc:X.calm=true):fX X (.builtin "max") (λxs H Q=>∃ i j,xs=[.int i,.int j]/\Q (.int (if j > i then j else i)) H):=by
 intro pins s σ H xs us Q I r h
 obtain ⟨i,j,rfl,q⟩:=h
 obtain ⟨u,w',rfl,⟨t,rfl⟩,⟨t',rfl⟩⟩:=lA r
 refine max_two_ints (I.ok.hd hc) λh' tk k=>⟨_,H,I.kept k,?_,q⟩
 by_cases hj:j > i
 ·rw [if_pos hj,if_pos hj]; exact ⟨_,rfl⟩
 ·rw [if_neg hj,if_neg hj]; exact ⟨_,rfl⟩
theorem ZdJ:fX X (.type "int") (λxs H Q=>(∃ i,xs=[.int i]/\Q (.int i) H)\/∃ k,xs=[.bl k]/\Q (.int (if k then 1 else 0)) H):=by
 intro pins s σ H xs us Q I r h
 rcases h with ⟨i,rfl,q⟩ | ⟨k,rfl,q⟩
 ·obtain ⟨u,rfl,t,rfl⟩:=iA r
  exact call_int_int ⟨.int i,H,I,⟨_,rfl⟩,q⟩
 ·obtain ⟨u,rfl,r1⟩:=iA r
  cases r1
  exact call_int_bool ⟨.int (if k then 1 else 0),H,I.tok _,⟨_,rfl⟩,q⟩
theorem Zmo:fX X (.type "str") (λxs H Q=>∃ i,xs=[.int i]/\i.natAbs.log2 < 1920/\Q (.str (toString i)) H):=by
 intro pins s σ H xs us Q I r h
 obtain ⟨i,rfl,hz,q⟩:=h
 obtain ⟨u,rfl,t,rfl⟩:=iA r
 exact PySem.P.str_of_int hz ⟨.str _,H,I.tok _,⟨_,rfl⟩,q⟩
end
structure ObjM (h:Heap) (x dx C:Addr) (mA:Str->Option Value):Prop where
 obj:h.get? x=some (PySem.W.instObj C dx)
 ns:h.Ns1 dx mA
 ne:dx≠x
theorem Zh9 {h:Heap} {dx:Addr} {mA:Str->Option Value} (n:h.Ns1 dx mA):∃ od,h.get? dx=some od/\∀ name,PySem.W.lookIn name od=some (mA name):=by
 obtain ⟨o,es,ep,ho,hd,hk,_,hm⟩:=n
 refine ⟨o,ho,λname=>?_⟩
 have e:=hm name
 unfold nsFind findBy at e
 rw [<- Array.find?_toList] at e
 unfold PySem.W.lookIn
 rw [hd]
 dsimp only
 split
 ·rename_i y q
  rw [q] at e
  exact congrArg some e
 ·rename_i q
  rw [q] at e
  have a:es.toList.any (·.refKey)=false:=by
   rw [List.any_eq_false]
   intro y hy
   obtain ⟨z,t,hkey⟩:=hk y (Array.mem_toList_iff.mp hy)
   simp [DictEntry.refKey,hkey]
  have a':¬ es.toList.any (·.refKey)=true:=by rw [a]; exact Bool.false_ne_true
  rw [if_neg a']
  exact congrArg some e
theorem ObjM.look {h:Heap} {x dx C:Addr} {mA:Str->Option Value} (I:ObjM h x dx C mA):∃ od,PySem.W.InstAt h x (PySem.W.instObj C dx) C (some od)/\∀ name,PySem.W.lookIn name od=some (mA name) :=
 let ⟨od,ho,hl⟩:=Zh9 I.ns
 ⟨od,⟨I.obj,rfl,rfl,ho⟩,hl⟩
section
variable {prog:Program} {w:World} {A:Around} {E:Value->Shared->Prop} {s:Shared} {K:PySem.W.Frag} {x dx C f:Addr} {mA:Str->Option Value} {name:Str} {v:Value}
theorem Zi0 {expr:Bool} {Q:Value->Shared->Prop} (X:K.In s.heap) (I:ObjM s.heap x dx C mA) (hg:PySem.W.plainGet K C name=true) (hh:PySem.W.hasDictIn K C=true)
  (ha:PySem.W.findIn K (.ref C) name=some none) (hv:mA name=some v) (hv':PySem.W.handedIn v=true) (h:Q v { s with toks:=s.toks+1 }) :
  wpAny (model prog w) A (getAttr (.ref x) name expr) Q E s:=by
 obtain ⟨od,J,hl⟩:=I.look
 exact PySem.W.get_value X J (PySem.W.plainGet_of hg).1 (PySem.W.findObj_own hh ha rfl (by rw [hl,hv])) hv' h
theorem ZiZ {pl:Sem Bool} {Q:Value×List Value->Shared->Prop} (X:K.In s.heap) (I:ObjM s.heap x dx C mA) (hg:PySem.W.plainGet K C name=true)
  (hf:PySem.W.findIn K (.ref C) name=some (some (.ref f))) (ht:PySem.W.isFn K (.ref f)=true) (hv:mA name=none) (h:Q (.ref f,[.ref x]) s) :
  wpAny (model prog w) A (getMethod (.ref x) name pl) Q E s:=by
 obtain ⟨od,J,hl⟩:=I.look
 exact PySem.W.method_fn X J (PySem.W.plainGet_of hg).1 (PySem.W.plainGet_of hg).2 hf (beq_iff_eq.mp ht) (by show (PySem.W.lookIn name od).map (·.isSome)=some false; rw [hl,hv]; rfl) h
theorem ZfR {ns:List Str} {Q:Unit->Shared->Prop} (X:K.In s.heap) (I:ObjM s.heap x dx C mA)
  (hs:PySem.W.findIn K (.ref C) "__setattr__"=some (some (.builtin "object.__setattr__"))) (hp:PySem.W.plainOver K C=true) (ht:PySem.W.takerIn K C name=some none) (hh:PySem.W.hasDictIn K C=true)
  (hw:PySem.Within mA ns) (hsz:ns.length<=sizeLine)
  (h:∀ h',ObjM h' x dx C (λy=>if y=name then some v else mA y)->Heap.SameBut dx s.heap h'->Q () { s with heap:=h',toks:=s.toks+2 }) :
  wpAny (model prog w) A (setAttr (.ref x) name v) Q E s:=by
 obtain ⟨od,J,hl⟩:=I.look
 refine PySem.W.set_plain X J hs (PySem.W.osa_open (s:={ s with toks:=s.toks+1 }) (r:=none) X J hp ht λb=>?_)
 obtain ⟨cd,hc,hd'⟩:=PySem.W.any_some hh
 have hx:s.heap.get? x=some ⟨.ref C,some dx,.plain,#[]⟩:=I.obj
 refine wpAny_bind (wpAny_pure (wpAny_bind (wpAny_bind (wpAny_loadPart hx (wpAny_bind (PySem.W.Looks.here (s:={ s with toks:=s.toks+1 }) (PySem.W.looks_clsIn X hc) ?_))))))
 rw [hd']
 refine wpAny_pure (a:=some dx) (wpAny_bind (wpAny_pure (wpAny_bind ?_)))
 refine wpAny_nsSet1 (s:={ s with toks:=s.toks+1 }) I.ns λh' hn2 hs2=>?_
 obtain ⟨oD,esD,epD,hoD,af,hcD⟩:=hn2.count (PySem.Within.cons name v hw)
 refine wpAny_bind (wpAny_lookBehind hoD (by rw [af]; exact pastItsLine_dict (Nat.le_trans hcD (by rw [List.length_cons]; omega))) ?_)
 exact wpAny_pure (h _ ⟨(hs2.2 _ (Ne.symm I.ne)).trans I.obj,hn2,I.ne⟩ hs2)
theorem Zh5 {R:Result->Shared->Prop} {vs:List Value} {kw:List (Str×Value)} (X:K.In s.heap) (hm:PySem.W.makesIn K C=true)
  (hi:PySem.W.findIn K (.ref C) "__init__"=some (some (.ref f))) (hf:PySem.W.typeIn K (.ref f)=some (.type "function"))
  (h:codeAny (model prog w) (A.under (.builtin "type.__call__" ⟨.ref C::vs,kw⟩)) (.call (.ref f) ⟨.ref (s.heap.objs.size+1)::vs,kw⟩) (PySem.W.InitBack (s.heap.objs.size+1) R)
   { s with heap:=(s.heap.push PySem.W.emptyDict).push (PySem.W.instObj C s.heap.objs.size) }) :
  codeAny (model prog w) A (.call (.ref C) ⟨vs,kw⟩) R s:=by
 obtain ⟨hh,g,d,t,os⟩:=s
 exact PySem.W.make_core (PySem.W.makes_of X hm) (PySem.W.looks_findIn X hi) (λself=>PySem.W.bind_fn X self hf) (.inl rfl) h
end
noncomputable def eW (f:Str) (v:V):List (Str×V)->List (Str×V)
 | []=>[(f,v)]
 | (g,x)::r=>if g=f then (g,v)::r else (g,x)::eW f v r
theorem ZcD (f g:Str) (v:V):∀ fs:List (Str×V),(eW f v fs).lookup g=if g=f then some v else fs.lookup g
 | []=>by
  show List.lookup g [(f,v)]=_
  by_cases h:g=f
  ·have hb:(g == f)=true:=beq_iff_eq.mpr h
   simp only [List.lookup,hb,if_pos h]
  ·have hb:(g == f)=false:=beq_eq_false_iff_ne.mpr h
   simp only [List.lookup,hb,if_neg h]
 | (k,x)::r=>by
  have ih:=ZcD f g v r
  rw [show eW f v ((k,x)::r)=(if k=f then (k,v)::r else (k,x)::eW f v r) from rfl]
  by_cases hk:k=f
  ·rw [if_pos hk]
   by_cases h:g=k
   ·have hb:(g == k)=true:=beq_iff_eq.mpr h
    simp only [List.lookup,hb,if_pos (h.trans hk)]
   ·have hb:(g == k)=false:=beq_eq_false_iff_ne.mpr h
    simp only [List.lookup,hb,if_neg (λe:g=f=>h (e.trans hk.symm))]
  ·rw [if_neg hk]
   by_cases h:g=k
   ·have hb:(g == k)=true:=beq_iff_eq.mpr h
    simp only [List.lookup,hb,if_neg (λe:g=f=>hk (h.symm.trans e))]
   ·have hb:(g == k)=false:=beq_eq_false_iff_ne.mpr h
    simp only [List.lookup,hb]
    exact ih
theorem rq (f:Str) (v:V):∀ fs:List (Str×V),f∈(eW f v fs).map (·.1)/\∀ g,g∈fs.map (·.1)->g∈(eW f v fs).map (·.1)
 | []=>⟨by simp [eW],λg h=>by simp at h⟩
 | (k,x)::r=>by
  obtain ⟨i1,i2⟩:=rq f v r
  rw [show eW f v ((k,x)::r)=(if k=f then (k,v)::r else (k,x)::eW f v r) from rfl]
  by_cases hk:k=f
  ·rw [if_pos hk]
   subst hk
   exact ⟨by simp,λg h=>by simpa using h⟩
  ·rw [if_neg hk]
   refine ⟨?_,λg h=>?_⟩
   ·rw [List.map_cons]
    exact List.mem_cons_of_mem _ i1
   ·rw [List.map_cons] at h ⊢
    rcases List.mem_cons.mp h with e | e
    ·exact List.mem_cons.mpr (.inl e)
    ·exact List.mem_cons_of_mem _ (i2 g e)
theorem ZcF (f:Str) (v:V):∀ fs:List (Str×V),(eW f v fs).length<=fs.length+1
 | []=>by simp [eW]
 | (k,x)::r=>by
  have ih:=ZcF f v r
  rw [show eW f v ((k,x)::r)=(if k=f then (k,v)::r else (k,x)::eW f v r) from rfl]
  by_cases hk:k=f
  ·rw [if_pos hk,List.length_cons,List.length_cons]; omega
  ·rw [if_neg hk,List.length_cons,List.length_cons]; omega
theorem RelO.some_of {v:V} {o:Option Value} (r:RelO (some v) o):∃ u,o=some u/\RelV v u:=by
 cases o with
 | none=>exact (show False from r).elim
 | some u=>exact ⟨u,rfl,r⟩
theorem RelO.none_of {o:Option Value} (r:RelO none o):o=none:=by
 cases o with
 | none=>rfl
 | some u=>exact (show False from r).elim
theorem ZiY {v:V} {u:Value} (r:RelV v u):PySem.W.handedIn u=true:=by
 cases v with
 | non=>cases (show u=Value.none from r); rfl
 | bl b=>cases (show u=Value.bool b from r); rfl
 | int i=>obtain ⟨t,e⟩:=(show ∃ t,u=Value.int i t from r); cases e; rfl
 | str x=>obtain ⟨t,e⟩:=(show ∃ t,u=Value.str x t from r); cases e; rfl
 | byt b=>obtain ⟨t,e⟩:=(show ∃ t,u=Value.bytes b t from r); cases e; rfl
 | flt b=>obtain ⟨t,e⟩:=(show ∃ t,u=Value.float b t from r); cases e; rfl
 | ref a=>cases (show u=Value.ref a from r); rfl
 | ty n=>cases (show u=Value.type n from r); rfl
section
variable {P:Program} {w:World} {H H':Hp} {h h':Heap} {a C dx:Addr} {fs fs':List (Str×V)}
theorem ol (hok:HOk P w H h) (e:H a=some (.ins C dx fs)):∃ mA,ObjM h a dx C mA/\(∀ f,RelO (fs.lookup f) (mA f))/\PySem.Within mA (fs.map (·.1))/\fs.length<=1000/\H dx=some (.own a):=by
 obtain ⟨d,z,ne,ob,mA,n,r,q⟩:=(show ObjOk P w H h a (.ins C dx fs) from hok a _ e)
 exact ⟨mA,⟨ob,n,ne⟩,r,q,z,d⟩
end
structure Cls (K:PySem.W.Frag) (C:Addr):Prop where
 pg:PySem.W.plainGet K C Str.empty=true
 hd:PySem.W.hasDictIn K C=true
 po:PySem.W.plainOver K C=true
 sa:PySem.W.findIn K (.ref C) "__setattr__"=some (some (.builtin "object.__setattr__"))
theorem Cls.get {K:PySem.W.Frag} {C:Addr} (c:Cls K C) (f:Str):PySem.W.plainGet K C f=true:=c.pg
noncomputable def NoAttr (K:PySem.W.Frag) (C:Addr) (f:Str):Prop:=PySem.W.findIn K (.ref C) f=some none
theorem NoAttr.taker {K:PySem.W.Frag} {C:Addr} {f:Str} (n:NoAttr K C f):PySem.W.takerIn K C f=some none:=by
 unfold PySem.W.takerIn
 rw [show PySem.W.findIn K (.ref C) f=some none from n]
 rfl
structure Meth (K:PySem.W.Frag) (C:Addr) (m:Str) (f:Addr):Prop where
 at_:PySem.W.findIn K (.ref C) m=some (some (.ref f))
 fn:PySem.W.isFn K (.ref f)=true
 kp:PySem.W.keepIn K (.ref f)=true
section
variable {X:Cx} {pins:List (Addr×Obj)} {σ:St} {H:Hp} {s:Shared} {a C dx:Addr} {fs:List (Str×V)} {f:Str} {v:V} {A:Around} {E:Value->Shared->Prop}
theorem ZcZ {b:Bool} {Q:Value->Shared->Prop} (I:Inv X pins σ H s) (e:H a=some (.ins C dx fs)) (c:Cls X.K C) (n:NoAttr X.K C f) (l:fs.lookup f=some v)
  (h:∀ u s',Inv X pins σ H s'->RelV v u->Q u s'):wpAny (model X.prog X.w) A (getAttr (.ref a) f b) Q E s:=by
 obtain ⟨mA,O,r,_,_,_⟩:=ol I.hok e
 obtain ⟨u,hu,ru⟩:=RelO.some_of (v:=v) (o:=mA f) (by rw [<- l]; exact r f)
 exact Zi0 I.kIn O (c.get f) c.hd n hu (ZiY ru) (h u _ (I.tok _) ru)
theorem ZcY {m:Str} {g:Addr} {pl:Sem Bool} {Q:Value×List Value->Shared->Prop} (I:Inv X pins σ H s) (e:H a=some (.ins C dx fs)) (c:Cls X.K C) (k:Meth X.K C m g) (l:fs.lookup m=none)
  (h:Q (.ref g,[.ref a]) s):wpAny (model X.prog X.w) A (getMethod (.ref a) m pl) Q E s:=by
 obtain ⟨mA,O,r,_,_,_⟩:=ol I.hok e
 have hn:mA m=none:=RelO.none_of (by rw [<- l]; exact r m)
 exact ZiZ I.kIn O (c.get m) k.at_ k.fn hn h
theorem ZaO {y:V} {u:Value} {Q:Unit->Shared->Prop} (I:Inv X pins σ H s) (e:H a=some (.ins C dx fs)) (c:Cls X.K C) (n:NoAttr X.K C f) (hl:fs.length < 1000) (ry:RelV y u)
  (h:∀ s',Inv X pins σ (upd H a (.ins C dx (eW f y fs))) s'->Q () s'):wpAny (model X.prog X.w) A (setAttr (.ref a) f u) Q E s:=by
 obtain ⟨mA,O,r,wi,_,ho⟩:=ol I.hok e
 have hz:(fs.map (·.1)).length<=sizeLine:=by rw [List.length_map,sizeLine_eq]; omega
 refine ZfR I.kIn O c.sa c.po n.taker c.hd wi hz λh' O' sb=>h _ ?_
 have hd:∃ o,h'.get? dx=some o:=let ⟨o,_,_,e',_⟩:=O'.ns; ⟨o,e'⟩
 refine I.write (x:=a) (e:=dx) (by rw [e]; exact True.intro) (.inr ho) (λb q hb z=>(sb.2 b hb).trans z) hd ?_
 refine ⟨by rw [ak O.ne]; exact ho,?_,O.ne,O'.obj,_,O'.ns,λg=>?_,λg hg=>?_⟩
 ·have:=ZcF f y fs; omega
 ·show RelO ((eW f y fs).lookup g) (if g=f then some u else mA g)
  rw [ZcD]
  by_cases q:g=f
  ·rw [if_pos q,if_pos q]; exact ry
  ·rw [if_neg q,if_neg q]; exact r g
 ·by_cases q:g=f
  ·rw [q]; exact (rq f y fs).1
  ·refine (rq f y fs).2 g (wi g λz=>hg ?_)
   show (if g=f then some u else mA g)=none
   rw [if_neg q]; exact z
theorem Inv.made (I:Inv X pins σ H s):Inv X pins σ (upd (upd H s.heap.objs.size (.own (s.heap.objs.size+1))) (s.heap.objs.size+1) (.ins C s.heap.objs.size []))
  { s with heap:=(s.heap.push PySem.W.emptyDict).push (PySem.W.instObj C s.heap.objs.size) }:=by
 have e1:(s.heap.push PySem.W.emptyDict).get? s.heap.objs.size=some PySem.W.emptyDict:=Heap.get?_push_size s.heap rfl
 have e2:((s.heap.push PySem.W.emptyDict).push (PySem.W.instObj C s.heap.objs.size)).get? (s.heap.objs.size+1)=some (PySem.W.instObj C s.heap.objs.size):=by
  have:=Heap.get?_push_size (s.heap.push PySem.W.emptyDict) (o:=PySem.W.instObj C s.heap.objs.size) rfl
  rwa [Heap.size_push] at this
 have e3:(s.heap.push PySem.W.emptyDict).Ns s.heap.objs.size (λ_=>none):=⟨PySem.W.emptyDict,#[],_,e1,rfl,(λe he=>absurd he (by simp)),λ_=>rfl⟩
 have I1:=I.laid (a:=s.heap.objs.size) (o:=.own (s.heap.objs.size+1)) (h':=s.heap.push PySem.W.emptyDict) (t':=s.toks) (λb u q=>Heap.get?_push_of_some _ q) (Nat.le_refl _) ⟨_,e1⟩
 refine I1.laid (a:=s.heap.objs.size+1) (o:=.ins C s.heap.objs.size []) (t':=s.toks) (λb u q=>Heap.get?_push_of_some _ q) (Nat.le_of_eq (Heap.size_push _ _)) ?_
 have ne:s.heap.objs.size≠s.heap.objs.size+1:=Nat.ne_of_lt (Nat.lt_succ_self _)
 refine ⟨by rw [ak ne,cr],Nat.zero_le _,ne,e2,λ_=>none,(Heap.Ns1.of_empty e3).at λo q=>Heap.get?_push_of_some _ q,λ_=>True.intro,λy hy=>absurd rfl hy⟩
theorem ZmP {prog:Program} {w:World} {env:Env} {e:Expr} {f:Str} {pos:Pos} {s:Shared} {Q:Value->Shared->Prop} (hb:attributeBase e f env (eval e env)=eval e env)
  (h:wpAny (model prog w) A (eval e env) (λo s₁=>wpAny (model prog w) A (getAttr o f true) Q E s₁) E s):wpAny (model prog w) A (eval (.Attribute e f pos) env) Q E s :=
 Attribute_any_ h (by rw [arm_eval_Attribute,hb])
end
noncomputable def Zfq (K:PySem.W.Frag) (ta:TE) (f:Str):TE:=λσ H Q=>ta σ H λx H1=>∃ a C dx fs v,x=.ref a/\H1 a=some (.ins C dx fs)/\Cls K C/\NoAttr K C f/\fs.lookup f=some v/\Q v H1
noncomputable def Zgi (K:PySem.W.Frag) (ta tv:TE) (f:Str):TS:=λD σ H=>tv σ H λy H1=>ta σ H1 λx H2=>∃ a C dx fs,x=.ref a/\H2 a=some (.ins C dx fs)/\Cls K C/\NoAttr K C f/\fs.length < 1000 /\
 D.nx σ (upd H2 a (.ins C dx (eW f y fs)))
noncomputable def px (X:Cx) (op:Operator) (rd:V->V->Hp->VK->Prop):Prop :=
 ∀ (pins:List (Addr×Obj)) (s:Shared) (σ:St) (H:Hp) (x y:V) (u v:Value) (Q:VK),Inv X pins σ H s->RelV x u->RelV y v->rd x y H Q->wpAny (model X.prog X.w) X.A (inplaceOp op u v) (EP X pins σ Q) X.xe s
noncomputable def Zgh (K:PySem.W.Frag) (ta tv:TE) (rd:V->V->Hp->VK->Prop) (f:Str):TS:=λD σ H=>ta σ H λx H1=>∃ a C dx fs v,x=.ref a/\H1 a=some (.ins C dx fs)/\Cls K C/\NoAttr K C f/\fs.lookup f=some v /\
 tv σ H1 λy H2=>rd v y H2 λz H3=>∃ dx' fs',H3 a=some (.ins C dx' fs')/\fs'.length < 1000/\D.nx σ (upd H3 a (.ins C dx' (eW f z fs')))
section
variable {X:Cx} {o e value:Expr} {f:Str} {pos pos' tpos:Pos} {ta tv:TE}
theorem Zhi (he:PE X e ta) (hb:attributeBase e f X.env (eval e X.env)=eval e X.env):PE X (.Attribute e f pos) (Zfq X.K ta f):=by
 intro pins s σ H Q I h
 refine ZmP hb (thn (he pins s σ H _ I h) λu s1 hz0=>?_)
 obtain ⟨x,H1,I1,rx,a,C,dx,fs,v,ex,ea,c,n,l,q⟩:=hz0
 subst ex
 obtain rfl:u=Value.ref a:=rx
 exact ZcZ I1 ea c n l λu' s2 I2 ru=>⟨v,H1,I2,ru,q⟩
theorem ZgV (ha:PE X o ta) (hv:PE X value tv) (hs:swapsWith value (some (.Attribute o f pos')) pos.line X.env=pure false):PS X (.Assign [.Attribute o f pos'] value pos) (Zgi X.K ta tv f):=by
 intro pins s σ H D I h
 refine plainObj_wpAny_Assign_Attribute (thn (hv pins s σ H _ I h) λu s1 ⟨y,H1,I1,ry,q⟩=>thn (ha pins s1 σ H1 _ I1 q) λov s2 hz0=>?_) hs
 obtain ⟨x,H2,I2,rx,a,C,dx,fs,ex,ea,c,n,l,q2⟩:=hz0
 subst ex
 obtain rfl:ov=Value.ref a:=rx
 exact ZaO I2 ea c n l ry λs3 I3=>⟨σ,_,I3,q2⟩
theorem ZgU {op:Operator} {rd:V->V->Hp->VK->Prop} (ha:PE X o ta) (hv:PE X value tv) (hop:px X op rd):PS X (.AugAssign (.Attribute o f tpos) op value pos) (Zgh X.K ta tv rd f):=by
 intro pins s σ H D I h
 refine wpAny_AugAssign_AttributeAny (thn (ha pins s σ H _ I h) λov s1 hz0=>?_)
 obtain ⟨x,H1,I1,rx,a,C,dx,fs,v,ex,ea,c,n,l,q⟩:=hz0
 subst ex
 obtain rfl:ov=Value.ref a:=rx
 refine ZcZ I1 ea c n l λu s2 I2 ru=>thn (hv pins s2 σ H1 _ I2 q) λw3 s3 ⟨y,H2,I3,ry,q3⟩=>thn (hop pins s3 σ H2 v y u w3 _ I3 ru ry q3) λw4 s4 hz0=>?_
 obtain ⟨z,H3,I4,rz,dx',fs',ea',l',q4⟩:=hz0
 exact ZaO I4 ea' c n l' rz λs5 I5=>⟨σ,_,I5,q4⟩
noncomputable def ZbO:V->V->Hp->VK->Prop:=λx y H Q=>∃ i j,x=.int i/\y=.int j/\Q (.int (i+j)) H
noncomputable def Zbu:V->V->Hp->VK->Prop:=λx y H Q=>∃ i j,x=.int i/\y=.int j/\Q (.int (i - j)) H
theorem oo:px X .Add ZbO:=by
 rintro pins s σ H x y u v Q I rx ry ⟨i,j,rfl,rfl,q⟩
 obtain ⟨t,rfl⟩:=(show ∃ t,u=Value.int i t from rx)
 obtain ⟨t',rfl⟩:=(show ∃ t',v=Value.int j t' from ry)
 exact PyProof.Rows.iadd_int ⟨.int (i+j),H,I.tok _,⟨_,rfl⟩,q⟩
theorem on:px X .Sub Zbu:=by
 rintro pins s σ H x y u v Q I rx ry ⟨i,j,rfl,rfl,q⟩
 obtain ⟨t,rfl⟩:=(show ∃ t,u=Value.int i t from rx)
 obtain ⟨t',rfl⟩:=(show ∃ t',v=Value.int j t' from ry)
 exact PyProof.Rows.isub_int ⟨.int (i - j),H,I.tok _,⟨_,rfl⟩,q⟩
end
section
variable {X:Cx} {pins:List (Addr×Obj)} {σ:St} {H:Hp} {s:Shared} {A:Around} {E:Value->Shared->Prop} {Q:Value->Shared->Prop} {c:Value} {b:Bool}
inductive TyOf (K:PySem.W.Frag) (H:Hp):V->Value->Prop where
 | non:TyOf K H .non (.type "NoneType")
 | bl (x:Bool):TyOf K H (.bl x) (.type "bool")
 | int (i:Int):TyOf K H (.int i) (.type "int")
 | str (x:Str):TyOf K H (.str x) (.type "str")
 | flt (x:UInt64):TyOf K H (.flt x) (.type "float")
 | lst {a:Addr} {xs:List V} (e:H a=some (.lst xs)):TyOf K H (.ref a) (.type "list")
 | frz {a:Addr} {o:Obj} {xs:List V} (e:H a=some (.frz o (.lst xs))):TyOf K H (.ref a) (.type "list")
 | tup {a:Addr} {xs:List V} (e:H a=some (.tup xs)):TyOf K H (.ref a) (.type "tuple")
 | dK {a:Addr} {kvs:List (b8×V)} (e:H a=some (.dK kvs)):TyOf K H (.ref a) (.type "dict")
 | dT {a:Addr} {kvs:List (List b8×V)} (e:H a=some (.dT kvs)):TyOf K H (.ref a) (.type "dict")
 | frzD {a:Addr} {o:Obj} {kvs:List (b8×V)} (e:H a=some (.frz o (.dK kvs))):TyOf K H (.ref a) (.type "dict")
 | frzE {a:Addr} {o:Obj} {kvs:List (List b8×V)} (e:H a=some (.frz o (.dT kvs))):TyOf K H (.ref a) (.type "dict")
 | ins {a C dx:Addr} {fs:List (Str×V)} (e:H a=some (.ins C dx fs)) (cl:Cls K C) (ha:PySem.W.findIn K (.ref C) "__class__"=some (some (.builtin "object.__class__")))
   (hn:PySem.W.specialIn K (.builtin "object.__class__") "__get__"=some (some (.builtin "getset_descriptor.__get__"))) (htk:PySem.W.takesIn K (.builtin "object.__class__")=some true)
   (hm:PySem.W.mroIn K C (.type "object")=some true):TyOf K H (.ref a) (.ref C)
theorem ZiL {x:V} {u t:Value} (I:Inv X pins σ H s) (rx:RelV x u) (ty:TyOf X.K H x t) (e:PySem.W.kitOne X.K t c=some b) (h:∀ tk,Q (.bool b) { s with toks:=tk }) :
  wpAny (model X.prog X.w) A (call (.builtin "isinstance") [u,c]) Q E s:=by
 cases ty with
 | non=>cases (show u=Value.none from rx); exact PySem.W.kia_one PySem.W.kitx_none I.kIn True.intro e (λz=>nomatch z) h
 | bl y=>cases (show u=Value.bool y from rx); exact PySem.W.kia_one PySem.W.kitx_bool I.kIn True.intro e (λz=>nomatch z) h
 | int i=>obtain ⟨t,q⟩:=(show ∃ t,u=Value.int i t from rx); cases q; exact PySem.W.kia_one PySem.W.kitx_int I.kIn True.intro e (λz=>nomatch z) h
 | str y=>obtain ⟨t,q⟩:=(show ∃ t,u=Value.str y t from rx); cases q; exact PySem.W.kia_one PySem.W.kitx_str I.kIn True.intro e (λz=>nomatch z) h
 | flt y=>obtain ⟨t,q⟩:=(show ∃ t,u=Value.float y t from rx); cases q; exact PySem.W.kia_one PySem.W.kitx_float I.kIn True.intro e (λz=>nomatch z) h
 | @lst a xs ea =>
  cases (show u=Value.ref a from rx)
  obtain ⟨_,_,n,_,h1⟩:=(show ObjOk X.prog X.w H s.heap a (.lst xs) from I.hok a _ ea)
  exact PySem.W.kia_one PySem.W.kitx_list I.kIn ⟨_,h1,rfl⟩ e (λz=>nomatch z) h
 | @frz a ob xs ea =>
  cases (show u=Value.ref a from rx)
  obtain ⟨_,_,_,n,_,h1⟩:=(show ObjOk X.prog X.w H s.heap a (.frz ob (.lst xs)) from I.hok a _ ea)
  exact PySem.W.kia_one PySem.W.kitx_list I.kIn ⟨_,h1,rfl⟩ e (λz=>nomatch z) h
 | @tup a xs ea =>
  cases (show u=Value.ref a from rx)
  obtain ⟨_,_,_,p⟩:=(show ObjOk X.prog X.w H s.heap a (.tup xs) from I.hok a _ ea)
  obtain ⟨o,h1,h2,_⟩:=p
  exact PySem.W.kia_one PySem.W.kitx_tuple I.kIn ⟨o,h1,h2⟩ e (λz=>nomatch z) h
 | @dK a kvs ea =>
  cases (show u=Value.ref a from rx)
  obtain ⟨_,_,vs,_,p⟩:=(show ObjOk X.prog X.w H s.heap a (.dK kvs) from I.hok a _ ea)
  obtain ⟨o,es,ep,h1,h2,_⟩:=p
  exact PySem.W.kia_one PySem.W.kitx_dict I.kIn ⟨o,h1,h2.1⟩ e (λz=>nomatch z) h
 | @frzD a ob kvs ea =>
  cases (show u=Value.ref a from rx)
  obtain ⟨_,_,_,vs,_,p⟩:=(show ObjOk X.prog X.w H s.heap a (.frz ob (.dK kvs)) from I.hok a _ ea)
  obtain ⟨o,es,ep,h1,h2,_⟩:=p
  exact PySem.W.kia_one PySem.W.kitx_dict I.kIn ⟨o,h1,h2.1⟩ e (λz=>nomatch z) h
 | @frzE a ob kvs ea =>
  cases (show u=Value.ref a from rx)
  obtain ⟨_,_,_,xs,_,o,es,ep,h1,h2,_⟩:=(show ObjOk X.prog X.w H s.heap a (.frz ob (.dT kvs)) from I.hok a _ ea)
  exact PySem.W.kia_one PySem.W.kitx_dict I.kIn ⟨o,h1,h2.1⟩ e (λz=>nomatch z) h
 | @dT a kvs ea =>
  cases (show u=Value.ref a from rx)
  obtain ⟨_,_,xs,_,o,es,ep,h1,h2,_⟩:=(show ObjOk X.prog X.w H s.heap a (.dT kvs) from I.hok a _ ea)
  exact PySem.W.kia_one PySem.W.kitx_dict I.kIn ⟨o,h1,h2.1⟩ e (λz=>nomatch z) h
 | @ins a C dx fs ea cl ha hn htk hm =>
  cases (show u=Value.ref a from rx)
  obtain ⟨mA,O,_⟩:=ol I.hok ea
  obtain ⟨od,J,_⟩:=O.look
  exact PySem.W.kia_one (PySem.W.kitx_own (cl.get _) cl.hd ha hn htk hm) I.kIn J e (λz=>nomatch z) h
end
structure Room (k:Nat) (A:Around):Prop where
 hd:A.handled=none
 dp:A.depth+3 * k+5 < recursionLimit
 un:A.units+16 * k+200 < cLine
 gd:A.guards=some []
theorem Room.mono {j k:Nat} {A:Around} (r:Room k A) (h:j<=k):Room j A:=⟨r.hd,by have:=r.dp; omega,by have:=r.un; omega,r.gd⟩
theorem Room.deeper {k:Nat} {A:Around} (r:Room (k+1) A) (env:Env):Room k (A.deeper env) :=
 ⟨r.hd,by have:=r.dp; show A.depth+1+3 * k+5 < _; omega,by have:=r.un; show A.units+3+16 * k+200 < _; omega,r.gd⟩
theorem Zh6 {A:Around} {C:Addr} {us:List Value} {kw:List (Str×Value)}:(A.under (.builtin "type.__call__" ⟨.ref C::us,kw⟩)).depth=A.depth+1:=by
 first | rfl | simp [Around.under,Code.weight,Code.isCreation,Code.isGuard,Code.isCaller,Code.frames,Code.isFrame,guardIds]
theorem Zh4 {A:Around} {C:Addr} {us:List Value} {kw:List (Str×Value)}:(A.under (.builtin "type.__call__" ⟨.ref C::us,kw⟩)).units=A.units+1:=by
 first | rfl | simp [Around.under,Code.cUnits,Code.frames,Code.isFrame]
theorem Room.make {k:Nat} {A:Around} (r:Room (k+1) A) (C:Addr) (us:List Value) (kw:List (Str×Value)):Room k (A.under (.builtin "type.__call__" ⟨.ref C::us,kw⟩)) :=
 ⟨r.hd,by have:=r.dp; rw [Zh6]; omega,by have:=r.un; rw [Zh4]; omega,by first | exact r.gd | (simpa [Around.under,Code.guards,Code.isGuard,guardIds,pushGuards] using r.gd)⟩
theorem Room.depth {k:Nat} {A:Around} (r:Room k A):A.depth < recursionLimit:=by have:=r.dp; omega
theorem Room.units {k:Nat} {A:Around} (r:Room k A):A.units+64 < cLine:=by have:=r.un; omega
noncomputable def fi:TA:=λ_ H Q=>Q [] H
noncomputable def iC (ta:TE) (tr:TA):TA:=λσ H Q=>ta σ H λx H1=>tr σ H1 λxs H2=>Q (x::xs) H2
section
variable {X:Cx} {e:Expr} {es:List Expr} {te:TE} {t:TA} {pos:Pos}
theorem dh:PA X [] fi:=λ_ _ _ _ H Q I h=>Calls.spliced_nil ⟨[],H,I,.nil,h⟩
theorem b9 (ha:PE X e te) (hr:PA X es t) (hs:starEach (e::es) X.env=(false,eval e X.env)::starEach es X.env:=by rfl):PA X (e::es) (iC te t):=by
 intro pos pins s σ H Q I h
 rw [hs]
 show wpAny _ _ (spliced ((false,eval e X.env)::backTo pos (starEach es X.env))) _ _ s
 refine Calls.spliced_cons (thn (ha pins s σ H _ I h) λu s1 hz0=>?_)
 obtain ⟨x,H1,I1,r1,q1⟩:=hz0
 exact thn (hr pos pins s1 σ H1 _ I1 q1) λus s2 hz0=>by
  obtain ⟨xs,H2,I2,r2,q2⟩:=hz0
  exact ⟨x::xs,H2,I2,.cons r1 r2,q2⟩
noncomputable def Ze7 (t:TA):TE:=λσ H Q=>t σ H λxs H1=>xs.length<=sizeLine/\∀ p,H1 p=none->Q (.ref p) (upd H1 p (.tup xs))
noncomputable def Zfj (t:TA):TE:=λσ H Q=>t σ H λxs H1=>xs.length<=sizeLine/\∀ p,H1 p=none->Q (.ref p) (upd H1 p (.lst xs))
theorem Zb3 {x1} (h:PA X es t):PE X (.Tuple es x1 pos) (Ze7 t):=by
 intro pins s σ H Q I hq
 refine wpAny_Tuple_spliced (thn (h pos pins s σ H _ I hq) λus s1 ⟨xs,H1,I1,r,z,q⟩=>⟨by rw [<- r.length]; exact z,?_⟩)
 have hf:H1 s1.heap.objs.size=none:=I1.hok.fresh (Nat.le_refl _)
 refine ⟨.ref s1.heap.objs.size,upd H1 s1.heap.objs.size (.tup xs),I1.laid (t':=s1.toks) (λb u e=>Heap.get?_push_of_some _ e) (Nat.le_refl _) ?_,rfl,q _ hf⟩
 exact ⟨z,us,r,⟨_,Heap.get?_push_size _ rfl,rfl,_,rfl⟩⟩
theorem jj (h:PA X es t):PE X (.List es pos) (Zfj t):=by
 intro pins s σ H Q I hq
 refine wpAny_List_spliced (thn (h pos pins s σ H _ I hq) λus s1 ⟨xs,H1,I1,r,z,q⟩=>⟨by rw [<- r.length]; exact z,?_⟩)
 have hf:H1 s1.heap.objs.size=none:=I1.hok.fresh (Nat.le_refl _)
 refine ⟨.ref s1.heap.objs.size,upd H1 s1.heap.objs.size (.lst xs),I1.laid (t':=s1.toks) (λb u e=>Heap.get?_push_of_some _ e) (Nat.le_refl _) ?_,rfl,q _ hf⟩
 exact ⟨z,us,0,r,Heap.get?_push_size _ rfl⟩
end
noncomputable abbrev Sp:=List V->Hp->VK->XK->Prop
noncomputable abbrev gA:=List Env->Hp->Shared->XK->Value->Shared->Prop
structure Env0 (P:Program) (w:World) (K:PySem.W.Frag) (mg:Str->Option Value) (base:Heap) (A:Around) (outer:List Env) (s:Shared) (H:Hp):Prop where
 frames:A.frames=some outer
 mod:Mod K mg base
 bs:∀ b o,base.get? b=some o->s.heap.get? b=some o/\H b=none
 bsz:base.objs.size<=s.heap.objs.size
 funs:s.heap.FunFrames base outer
 frf:∀ b∈frs outer,H b=none
 hok:HOk P w H s.heap
 bare:AllBare s.gens
noncomputable def CE (outer:List Env) (P:Program) (w:World) (H:Hp) (s:Shared) (Q:VK) (u:Value) (s':Shared):Prop :=
 ∃ v H',s'.os=s.os/\AllBare s'.gens/\Un (frs outer) [] H H' s.heap s'.heap/\HOk P w H' s'.heap/\RelV v u/\Q v H'
noncomputable def CR (CX:gA) (outer:List Env) (P:Program) (w:World) (H:Hp) (s:Shared) (Q:VK) (E:XK) (r:Result) (s':Shared):Prop :=
 match r with
 | .ok (.ret u)=>CE outer P w H s Q u s'
 | .ok _=>False
 | .error e=>CX outer H s E e s'
structure FnOk (P:Program) (w:World) (K:PySem.W.Frag) (mg:Str->Option Value) (base:Heap) (CX:gA) (k:Nat) (f:Addr) (fd:FuncData) (ps:List Str) (sp:Sp):Prop where
 len:∀ vs H Q E,sp vs H Q E->vs.length=ps.length
 run:∀ (A:Around) (outer:List Env) (s:Shared) (H:Hp) (args:Args) (us:List Value) (vs:List V) (Q:VK) (E:XK),Room k A->Env0 P w K mg base A outer s H->BindsTo s fd args (ps.zip us)->Vals vs us->sp vs H Q E ->
  codeAny (model P w) A (.call (.ref f) args) (CR CX outer P w H s Q E) s
theorem FnOk.imp {P:Program} {w:World} {K:PySem.W.Frag} {mg:Str->Option Value} {base:Heap} {CX:gA} {k:Nat} {f:Addr} {fd:FuncData} {ps:List Str} {sp sp':Sp} (F:FnOk P w K mg base CX k f fd ps sp)
  (h:∀ vs H Q E,sp' vs H Q E->sp vs H Q E):FnOk P w K mg base CX k f fd ps sp' :=
 ⟨λvs H Q E q=>F.len vs H Q E (h _ _ _ _ q),λA outer s H args us vs Q E hr he hb hv hs=>F.run A outer s H args us vs Q E hr he hb hv (h _ _ _ _ hs)⟩
theorem Env0.make {P:Program} {w:World} {K:PySem.W.Frag} {mg:Str->Option Value} {base:Heap} {A:Around} {outer:List Env} {s:Shared} {H:Hp} (e:Env0 P w K mg base A outer s H) (C:Addr) (us:List Value) (kw:List (Str×Value)) :
  Env0 P w K mg base (A.under (.builtin "type.__call__" ⟨.ref C::us,kw⟩)) outer s H:=⟨by first | exact e.frames | (simpa [Around.under,Code.envs,Code.isFrame,pushEnvs] using e.frames),e.mod,e.bs,e.bsz,e.funs,e.frf,e.hok,e.bare⟩
section
variable {X:Cx} {pins:List (Addr×Obj)} {σ:St} {H:Hp} {s s':Shared}
theorem Inv.env0 (I:Inv X pins σ H s):Env0 X.prog X.w X.K X.mg X.base X.A X.stack s H :=
 ⟨I.ok.frames,I.ok.mod,I.bs,Nat.le_trans I.ok.bsz I.sz,I.stack,I.stkFree,I.hok,I.bare⟩
theorem Inv.after {Q:VK} {u:Value} (I:Inv X pins σ H s) (h:CE X.stack X.prog X.w H s Q u s'):EP X pins σ Q u s':=by
 obtain ⟨v,H',os,bare,un,hok,r,q⟩:=h
 obtain ⟨hh,g,d,t,os'⟩:=s'
 obtain rfl:os'=s.os:=os
 exact ⟨v,H',I.call (h':=hh) (g':=g) (d':=d) (t':=t) (ch:=[]) un hok bare (λb z=>absurd z (by simp)),r,q⟩
end
noncomputable def pO (sp:Sp) (dvs:List V) (E:XK) (t:TA):TE:=λσ H Q=>t σ H λvs H1=>sp (vs++dvs) H1 Q E
noncomputable def mV (C:Addr) (m:Str) (sp:Sp) (dvs:List V) (E:XK) (ta:TE) (t:TA):TE:=λσ H Q=>ta σ H λx H1=>∃ a dx fs,x=.ref a/\H1 a=some (.ins C dx fs)/\fs.lookup m=none /\
 t σ H1 λvs H2=>sp (x::(vs++dvs)) H2 Q E
noncomputable def Zfi (C:Addr) (sp:Sp) (dvs:List V) (E:XK) (t:TA):TE:=λσ H Q=>t σ H λvs H1=>∀ x dx,H1 x=none->H1 dx=none->dx≠x ->
 sp (.ref x::(vs++dvs)) (upd (upd H1 dx (.own x)) x (.ins C dx [])) (λv H2=>v=.non/\Q (.ref x) H2) E
noncomputable def Binds (K:PySem.W.Frag) (fd:FuncData) (ps:List Str) (ds:List Value):Prop :=
 ∀ (s:Shared) (us:List Value),K.In s.heap->(us++ds).length=ps.length->BindsTo s fd ⟨us,[]⟩ (ps.zip (us++ds))
theorem Binds.all {K:PySem.W.Frag} {fd:FuncData} {ps:List Str} (h:∀ us:List Value,us.length=ps.length->bindArgs fd ⟨us,[]⟩=pure (ps.zip us)):Binds K fd ps []:=λs us _ hl=>by
 rw [List.append_nil] at hl ⊢
 exact .of_eq (h us hl)
noncomputable def g9 (CX:gA) (X:Cx) (E:XK):Prop:=∀ (pins:List (Addr×Obj)) (σ:St) (H:Hp) (s:Shared) (e:Value) (s':Shared),Inv X pins σ H s->CX X.stack H s E e s'->X.xe e s'
section
variable {X:Cx} {CX:gA} {k:Nat} {f C:Addr} {fd:FuncData} {ps:List Str} {sp:Sp} {dvs:List V} {ds:List Value} {E:XK} {x m:Str} {p pos apos:Pos} {e o:Expr} {es:List Expr} {ta:TE} {t:TA}
theorem ng {pins:List (Addr×Obj)} {σ:St} {H:Hp} {s:Shared} {Q:VK} {us:List Value} {vs:List V} (F:FnOk X.prog X.w X.K X.mg X.base CX k f fd ps sp) (hr:Room k X.A) (hb:Binds X.K fd ps ds) (hd:Vals dvs ds) (hx:g9 CX X E)
  (I:Inv X pins σ H s) (r:Vals vs us) (h:sp (vs++dvs) H Q E):wpAny (model X.prog X.w) X.A (call (.ref f) us) (EP X pins σ Q) X.xe s:=by
 have r2:Vals (vs++dvs) (us++ds):=r.append hd
 have hl:(us++ds).length=ps.length:=by rw [<- r2.length]; exact F.len _ _ _ _ h
 refine wpAny_call (codeAny_mono (F.run X.A X.stack s H ⟨us,[]⟩ (us++ds) (vs++dvs) Q E hr I.env0 (hb s us I.kIn hl) r2 h) λr s' hq=>?_)
 cases r with
 | error e=>exact hx pins σ H s e s' I hq
 | ok fl =>
  cases fl with
  | ret u=>exact I.after hq
  | next=>exact False.elim hq
  | brk=>exact False.elim hq
  | cont=>exact False.elim hq
theorem Zho (F:FnOk X.prog X.w X.K X.mg X.base CX k f fd ps sp) (hr:Room k X.A) (hg:Gl X x) (hm:X.mg x=some (.ref f)) (hk:PySem.W.keepIn X.K (.ref f)=true) (hb:Binds X.K fd ps ds) (hd:Vals dvs ds) (hx:g9 CX X E)
  (ha:PA X (e::es) t) (hdb:(x == ("__debug__":Str))=false:=by decide) (he:starEach (e::es) X.env=(false,eval e X.env)::starEach es X.env:=by rfl) (hpl:(backTo pos (starEach es X.env)).any (·.1)=false:=by rfl) :
  PE X (.Call (.Name x p) (e::es) [] pos) (pO sp dvs E t):=by
 intro pins s σ H Q I h
 refine wpAny_Call_Name_kw (k9 I hg hm ?_ hdb)
 refine PySem.W.callWith_K (h₀:=X.base) I.ok.mod.kin hk (thn (ha pos pins s σ H _ I h) λus s1 ⟨vs,H1,I1,r,q⟩=>⟨I1.kIn,?_⟩) he hpl
 exact ng F hr hb hd hx I1 r q
theorem Zhn (F:FnOk X.prog X.w X.K X.mg X.base CX k f fd ps sp) (hr:Room k X.A) (hg:Gl X x) (hm:X.mg x=some (.ref f)) (hk:PySem.W.keepIn X.K (.ref f)=true) (hb:Binds X.K fd ps ds) (hd:Vals dvs ds) (hx:g9 CX X E)
  (hdb:(x == ("__debug__":Str))=false:=by decide):PE X (.Call (.Name x p) [] [] pos) (pO sp dvs E fi):=by
 intro pins s σ H Q I h
 refine wpAny_Call_Name_kw (k9 I hg hm ?_ hdb)
 exact PySem.W.callWith_K0 I.kIn hk (ng (us:=[]) F hr hb hd hx I .nil h)
theorem Zb8 {pl:Sem Bool} (he:PE X o ta) (c:Cls X.K C) (hm:Meth X.K C m f) (F:FnOk X.prog X.w X.K X.mg X.base CX k f fd ps sp) (hr:Room k X.A) (hb:Binds X.K fd ps ds) (hd:Vals dvs ds) (hx:g9 CX X E) (ha:PA X (e::es) t)
  (hst:starEach (e::es) X.env=(false,eval e X.env)::starEach es X.env:=by rfl) (hpl:(backTo pos (starEach es X.env)).any (·.1)=false:=by rfl)
  (ht:eval (.Call (.Attribute o m apos) (e::es) [] pos) X.env=(do
   let ov <- eval o X.env
   standAt apos.atName
   let (f,first) <- holding [ov] (getMethod ov m pl)
   callWith pos f first (backTo pos (starEach (e::es) X.env)) (backToKw pos (keywordEach [] X.env))):=by rfl) :
  PE X (.Call (.Attribute o m apos) (e::es) [] pos) (mV C m sp dvs E ta t):=by
 intro pins s σ H Q I h
 refine PySem.W.methodCall_KW (pl:=pl) (thn (he pins s σ H _ I h) λu s1 hz0=>?_) ht
 obtain ⟨x,H1,I1,rx,a,dx,fs,ex,ea,l,q⟩:=hz0
 subst ex
 obtain rfl:u=Value.ref a:=rx
 refine ZcY I1 ea c hm l ?_
 refine PySem.W.callWith_K (first:=[.ref a]) (h₀:=X.base) I.ok.mod.kin hm.kp (thn (ha pos pins s1 σ H1 _ I1 q) λus s2 ⟨vs,H2,I2,r,q2⟩=>⟨I2.kIn,?_⟩) hst hpl
 exact ng (us:=.ref a::us) (vs:=.ref a::vs) F hr hb hd hx I2 (.cons rfl r) q2
theorem Zb7 {pl:Sem Bool} (he:PE X o ta) (c:Cls X.K C) (hm:Meth X.K C m f) (F:FnOk X.prog X.w X.K X.mg X.base CX k f fd ps sp) (hr:Room k X.A) (hb:Binds X.K fd ps ds) (hd:Vals dvs ds) (hx:g9 CX X E)
  (ht:eval (.Call (.Attribute o m apos) [] [] pos) X.env=(do
   let ov <- eval o X.env
   standAt apos.atName
   let (f,first) <- holding [ov] (getMethod ov m pl)
   callWith pos f first (backTo pos (starEach [] X.env)) (backToKw pos (keywordEach [] X.env))):=by rfl) :
  PE X (.Call (.Attribute o m apos) [] [] pos) (mV C m sp dvs E ta fi):=by
 intro pins s σ H Q I h
 refine PySem.W.methodCall_KW (pl:=pl) (thn (he pins s σ H _ I h) λu s1 hz0=>?_) ht
 obtain ⟨x,H1,I1,rx,a,dx,fs,ex,ea,l,q⟩:=hz0
 subst ex
 obtain rfl:u=Value.ref a:=rx
 refine ZcY I1 ea c hm l ?_
 exact PySem.W.callWith_K0 (first:=[.ref a]) I1.kIn hm.kp (ng (us:=[.ref a]) (vs:=[.ref a]) F hr hb hd hx I1 (.cons rfl .nil) q)
structure Mk (K:PySem.W.Frag) (C f:Addr):Prop where
 makes:PySem.W.makesIn K C=true
 init:PySem.W.findIn K (.ref C) "__init__"=some (some (.ref f))
 fn:PySem.W.isFn K (.ref f)=true
 kp:PySem.W.keepIn K (.ref C)=true
theorem Zgk {pins:List (Addr×Obj)} {σ:St} {H:Hp} {s:Shared} {Q:VK} {us:List Value} {vs:List V} (M:Mk X.K C f) (F:FnOk X.prog X.w X.K X.mg X.base CX k f fd ps sp) (hr:Room (k+1) X.A) (hb:Binds X.K fd ps ds) (hd:Vals dvs ds)
  (hx:g9 CX X E) (I:Inv X pins σ H s) (r:Vals vs us)
  (h:∀ x dx,H x=none->H dx=none->dx≠x->sp (.ref x::(vs++dvs)) (upd (upd H dx (.own x)) x (.ins C dx [])) (λv H2=>v=.non/\Q (.ref x) H2) E) :
  wpAny (model X.prog X.w) X.A (call (.ref C) us) (EP X pins σ Q) X.xe s:=by
 have hq:=h (s.heap.objs.size+1) s.heap.objs.size (I.hok.fresh (Nat.le_succ _)) (I.hok.fresh (Nat.le_refl _)) (Nat.ne_of_lt (Nat.lt_succ_self _))
 have I2:=Inv.made (C:=C) I
 have r2:Vals (V.ref (s.heap.objs.size+1)::(vs++dvs)) (Value.ref (s.heap.objs.size+1)::(us++ds)):=.cons rfl (r.append hd)
 have hl:(Value.ref (s.heap.objs.size+1)::us++ds).length=ps.length:=by
  have e:=r2.length
  rw [F.len _ _ _ _ hq] at e
  exact e.symm
 refine wpAny_call (Zh5 (f:=f) I.kIn M.makes M.init (beq_iff_eq.mp M.fn) (codeAny_mono (F.run _ X.stack _ _ ⟨Value.ref (s.heap.objs.size+1)::us,[]⟩ (Value.ref (s.heap.objs.size+1)::(us++ds)) _ _ E (hr.make C us [])
  (I2.env0.make C us []) (hb _ (Value.ref (s.heap.objs.size+1)::us) I2.kIn hl) r2 hq) λr s' hq'=>?_))
 cases r with
 | error e=>exact hx pins σ _ _ e s' I2 hq'
 | ok fl =>
  cases fl with
  | ret u =>
   obtain ⟨v,H',I3,rv,ev,q3⟩:=I2.after hq'
   subst ev
   exact ⟨rv,⟨V.ref (s.heap.objs.size+1),H',I3,rfl,q3⟩⟩
  | next=>exact False.elim hq'
  | brk=>exact False.elim hq'
  | cont=>exact False.elim hq'
theorem Zhd (M:Mk X.K C f) (F:FnOk X.prog X.w X.K X.mg X.base CX k f fd ps sp) (hr:Room (k+1) X.A) (hg:Gl X x) (hm:X.mg x=some (.ref C)) (hb:Binds X.K fd ps ds) (hd:Vals dvs ds) (hx:g9 CX X E)
  (ha:PA X (e::es) t) (hdb:(x == ("__debug__":Str))=false:=by decide) (he:starEach (e::es) X.env=(false,eval e X.env)::starEach es X.env:=by rfl) (hpl:(backTo pos (starEach es X.env)).any (·.1)=false:=by rfl) :
  PE X (.Call (.Name x p) (e::es) [] pos) (Zfi C sp dvs E t):=by
 intro pins s σ H Q I h
 refine wpAny_Call_Name_kw (k9 I hg hm ?_ hdb)
 refine PySem.W.callWith_K (h₀:=X.base) I.ok.mod.kin M.kp (thn (ha pos pins s σ H _ I h) λus s1 ⟨vs,H1,I1,r,q⟩=>⟨I1.kIn,?_⟩) he hpl
 exact Zgk M F hr hb hd hx I1 r q
end
noncomputable def PK (X:Cx) (kws:List Keyword) (t:TA):Prop :=
 ∀ (pos:Pos) (pins:List (Addr×Obj)) (s:Shared) (σ:St) (H:Hp) (Q:List V->Hp->Prop),Inv X pins σ H s->t σ H Q->wpAny (model X.prog X.w) X.A (evalAll ((backToKw pos (keywordEach kws X.env)).map (·.2))) (AP X pins σ Q) X.xe s
section
variable {X:Cx} {CX:gA} {k:Nat} {f C:Addr} {fd:FuncData} {ps ks:List Str} {sp:Sp} {E:XK} {x m:Str} {p pos apos kpos:Pos} {e o:Expr} {es:List Expr} {kws:List Keyword} {te ta:TE} {t tk:TA} {nm:Option Str}
variable {g:List Value->List Value->List Value} {gV:List V->List V->List V}
end
structure FnScope (N P:List Str) (sc:Scope):Prop where
 kind:sc.kind=.function
 co:sc.isCoroutine=false
 gen:sc.isGenerator=false
 nd:N.Nodup
 pre:N.take P.length=P
 par:∀ x∈P,sc.names.lookup x=some .local\/sc.names.lookup x=some .cell
 nofree:∀ y∈sc.names,y.2≠.free
theorem ZdX {kindOf:Str->Option NameKind} {x:Str}:∀ {binds:List (Str×Value)} {m:Str->Option Value},(∀ v,(x,v) ∉ binds)->bindL kindOf binds m x=m x
 | [],_,_=>rfl
 | (n,v)::r,m,h=>by
  unfold bindL
  rw [ZdX λw hw=>h w (List.mem_cons_of_mem _ hw)]
  split
  ·have:x≠n:=by rintro rfl; exact h v List.mem_cons_self
   simp [this]
  ·rfl
theorem ZdZ {kindOf:Str->Option NameKind} {x:Str}:∀ {binds:List (Str×Value)} {m:Str->Option Value},(∀ v,(x,v) ∉ binds)->bindC kindOf binds m x=m x
 | [],_,_=>rfl
 | (n,v)::r,m,h=>by
  unfold bindC
  rw [ZdZ λw hw=>h w (List.mem_cons_of_mem _ hw)]
  split
  ·rfl
  ·have:x≠n:=by rintro rfl; exact h v List.mem_cons_self
   simp [this]
theorem ZdY {kindOf:Str->Option NameKind} {x:Str} {v:Value}:∀ {P:List Str} {vs:List Value} {i:Nat} {m:Str->Option Value},P.Nodup->P[i]?=some x->vs[i]?=some v->kindOf x=some .local ->
  bindL kindOf (P.zip vs) m x=some v
 | [],_,_,_,_,h,_,_=>by simp at h
 | _::_,[],_,_,_,_,h,_=>by simp at h
 | p::P,w::vs,0,m,nd,h1,h2,hk=>by
  simp at h1 h2; subst h1; subst h2
  show bindL kindOf ((p,w)::P.zip vs) m p=_
  unfold bindL
  rw [ZdX λv hv=>(List.nodup_cons.mp nd).1 (List.of_mem_zip hv).1,if_pos hk]
  simp
 | p::P,w::vs,i+1,m,nd,h1,h2,hk=>by
  show bindL kindOf ((p,w)::P.zip vs) m x=_
  unfold bindL
  exact ZdY (i:=i) (List.nodup_cons.mp nd).2 (by simpa using h1) (by simpa using h2) hk
theorem Zd0 {kindOf:Str->Option NameKind} {x:Str} {v:Value}:∀ {P:List Str} {vs:List Value} {i:Nat} {m:Str->Option Value},P.Nodup->P[i]?=some x->vs[i]?=some v->kindOf x≠some .local ->
  bindC kindOf (P.zip vs) m x=some v
 | [],_,_,_,_,h,_,_=>by simp at h
 | _::_,[],_,_,_,_,h,_=>by simp at h
 | p::P,w::vs,0,m,nd,h1,h2,hk=>by
  simp at h1 h2; subst h1; subst h2
  show bindC kindOf ((p,w)::P.zip vs) m p=_
  unfold bindC
  rw [ZdZ λv hv=>(List.nodup_cons.mp nd).1 (List.of_mem_zip hv).1,if_neg hk]
  simp
 | p::P,w::vs,i+1,m,nd,h1,h2,hk=>by
  show bindC kindOf ((p,w)::P.zip vs) m x=_
  unfold bindC
  exact Zd0 (i:=i) (List.nodup_cons.mp nd).2 (by simpa using h1) (by simpa using h2) hk
noncomputable def start (N:List Str) (vs:List V):St:=vs.map some++List.replicate (N.length - vs.length) none
noncomputable def fq (CX:gA) (P:Program) (w:World) (K:PySem.W.Frag) (mg:Str->Option Value) (base:Heap) (N:List Str) (qual:Str) (scope:Scope) (f:Addr) (cd:Value) (A:Around) (outer:List Env) (s:Shared) (H:Hp) (E:XK):Cx where
 prog:=P
 w:=w
 K:=K
 mg:=mg
 base:=base
 A:=A.deeper (envOfC qual scope s.heap.objs.size f cd)
 N:=N
 s₀:=s
 H₀:=H
 env:=envOfC qual scope s.heap.objs.size f cd
 outer:=outer
 stack:=envOfC qual scope s.heap.objs.size f cd::outer
 ex:=[]
 calm:=true
 fn:=λ_=>true
 pn:=[]
 xe:=λe s'=>wpAny (model P w) (A.deeper (envOfC qual scope s.heap.objs.size f cd)) (leaving (envOfC qual scope s.heap.objs.size f cd) e) (λ_ s''=>CX outer H s E e s'') (λe' s''=>CX outer H s E e' s'') s'
theorem ZdC {sc:Scope} {n:Nat} {x:Str} (h:sc.names.lookup x=some .cell):∃ c,(cellsFrom n sc.names []).lookup x=some c:=by
 have q:=PySem.W.cellsFrom_some sc.names n [] (.inl h)
 exact Option.isSome_iff_exists.mp q
theorem ZiO {CX:gA} {P:Program} {w:World} {K:PySem.W.Frag} {mg:Str->Option Value} {base:Heap} {N ps:List Str} {qual:Str} {scope:Scope} {f:Addr} {cd:Value} {A:Around} {outer:List Env} {s s1:Shared} {H:Hp} {E:XK} {us:List Value} {vs:List V}
  (S:FnScope N ps scope) (hd:A.handled=none) (e0:Env0 P w K mg base A outer s H) (hl:vs.length=ps.length) (r:Vals vs us)
  (x:InCallC s s.heap.objs.size (bindL (envOfC qual scope s.heap.objs.size f cd).kindOf (ps.zip us) λ_=>none) (cellsFrom (s.heap.objs.size+1) scope.names []) (bindC (envOfC qual scope s.heap.objs.size f cd).kindOf (ps.zip us) λ_=>none) s1) :
  Inv (fq CX P w K mg base N qual scope f cd A outer s H E) [] (start N vs) H s1:=by
 have hpl:ps.length<=N.length:=by have:=congrArg List.length S.pre; rw [List.length_take] at this; omega
 obtain ⟨h1,tk,rfl,hk⟩:=x.done
 have noA:∀ b:Addr,b ∉ (fq CX P w K mg base N qual scope f cd A outer s H E).ex:=λb z=>absurd (show b∈([]:List Addr) from z) (by simp)
 refine ⟨⟨e0.mod,S.kind,rfl,rfl,Nat.le_refl _,λy z c h1 h2=>?_,λy hy=>?_,λy c _ h=>?_,λ_=>hd,Around.frames_deeper e0.frames,.inr ⟨rfl,rfl⟩,λb z=>absurd z (noA b),e0.bs,e0.bsz,λb _ _=>noA b,λb z=>absurd z (noA b),e0.funs,e0.frf⟩,
  rfl,e0.bare,Un.kept hk,⟨_,x.toInCall.ns,λi y v h1 h2 h3=>?_⟩,λy c h=>⟨_,x.cell y c h⟩,e0.hok.fresh (Nat.le_refl _),λy c h=>?_,λp hp=>absurd (show p∈([]:List (Addr×Obj)) from hp) (by simp),e0.hok.kept hk,?_⟩
 ·exact name_of_addr x.apart (PySem.mem_of_lookup h1) (PySem.mem_of_lookup h2)
 ·have hy:scope.names.lookup y=some .cell\/scope.names.lookup y=some .free:=hy
  rcases hy with hy | hy
  ·exact ZdC hy
  ·exact absurd rfl (S.nofree _ (PySem.mem_of_lookup hy))
 ·exact Nat.le_of_lt (x.above y c (PySem.mem_of_lookup h))
 ·have hi:i < vs.length:=by
   unfold start at h2
   by_cases hi:i < vs.length
   ·exact hi
   ·rw [List.getElem?_append_right (by simpa using hi)] at h2
    rw [List.getElem?_replicate] at h2
    split at h2 <;> cases h2
  have ha:vs[i]?=some v:=by
   unfold start at h2
   rw [List.getElem?_append_left (by simpa using hi),List.getElem?_map] at h2
   cases e:vs[i]? with
   | none=>rw [e] at h2; cases h2
   | some a=>rw [e] at h2; cases h2; rfl
  obtain ⟨u,hu,rv⟩:=r.get ha
  have hp:ps[i]?=some y:=by
   rw [<- S.pre,List.getElem?_take_of_lt (by omega)]; exact h1
  have ndP:ps.Nodup:=by rw [<- S.pre]; exact S.nd.sublist (List.take_sublist _ _)
  refine ⟨u,rv,?_⟩
  rcases S.par y (List.mem_of_getElem? hp) with k | k
  ·exact .inl ⟨k,ZdY ndP hp hu k⟩
  ·obtain ⟨c,e⟩:=ZdC (n:=s.heap.objs.size+1) k
   refine .inr ⟨.inl k,c,e,?_⟩
   have q:=x.cell y c e
   rw [Zd0 ndP hp hu (by show scope.names.lookup y≠_; rw [k]; decide)] at q
   exact q
 ·exact e0.hok.fresh (Nat.le_of_lt (x.above y c (PySem.mem_of_lookup h)))
 ·unfold start
  show _=N.length
  rw [List.length_append,List.length_map,List.length_replicate]
  omega
theorem rO {CX:gA} {P:Program} {w:World} {K:PySem.W.Frag} {mg:Str->Option Value} {base:Heap} {k:Nat} {f:Addr} {name qual:Str} {params:Arguments} {body:List Stmt} {scope:Scope} {dV kV doc pm cdv ct oc:Value} {an od:Option Addr}
  {osl:Array (Option Value)} {N ps:List Str} {sp:Sp} (lk:K.lookup f=some ⟨oc,od,.func (PySem.W.fnOf name qual params body scope dV kV doc pm an cdv ct),osl⟩) (hcd:PySem.W.codeIn K cdv qual=true) (S:FnScope N ps scope)
  (len:∀ vs H Q E,sp vs H Q E->vs.length=ps.length)
  (hbody:∀ (A:Around) (outer:List Env) (s:Shared) (H:Hp) (vs:List V) (Q:VK) (E:XK),Room k (A.deeper (envOfC qual scope s.heap.objs.size f cdv))->sp vs H Q E ->
   ∃ t,PSs (fq CX P w K mg base N qual scope f cdv A outer s H E) body t/\t { nx:=λ_ H'=>Q .non H',rt:=Q } (start N vs) H) :
  FnOk P w K mg base CX (k+1) f (PySem.W.fnOf name qual params body scope dV kV doc pm an cdv ct) ps sp:=by
 refine ⟨len,λA outer s H args us vs Q E hr e0 hb r hsp=>?_⟩
 have hl:=len _ _ _ _ hsp
 have KX:K.In s.heap:=e0.mod.kin.keeps λb o e=>(e0.bs b o e).1
 have lim:s.heap.NoLimit:=e0.mod.nolimit.keeps λb o e=>(e0.bs b o e).1
 have hkind:∀ y∈ps.zip us,scope.names.lookup y.1=some .local\/(scope.names.lookup y.1=some .cell/\((cellsFrom (s.heap.objs.size+1) scope.names []).lookup y.1).isSome=true):=λ⟨n,v⟩ hy=>by
  rcases S.par n (List.of_mem_zip hy).1 with q | q
  ·exact .inl q
  ·exact .inr ⟨q,PySem.W.cellsFrom_some _ _ _ (.inl q)⟩
 refine codeAny_call_function hr.depth (KX _ _ lk) rfl S.co S.gen rfl (PySem.W.codeRec_of KX hcd) (hb _ _ _ _ ?_)
 refine wpAny_newFunctionEnv_cells S.kind hkind λenv he s1 x=>?_
 subst he
 refine ⟨lim.keeps x.toInCall.keep,codeAny_func ?_⟩
 obtain ⟨t,ht,hq⟩:=hbody A outer s H vs Q E (hr.deeper _) hsp
 have I:Inv (fq CX P w K mg base N qual scope f cdv A outer s H E) [] (start N vs) H s1:=ZiO S hr.hd e0 hl r x
 refine wpAny_mono (ht [] s1 (start N vs) H _ I hq) (λfl s' hs=>?_) λe s' hs=>hs
 have fin:∀ {σ':St} {H':Hp} {v:V} {u:Value},Inv (fq CX P w K mg base N qual scope f cdv A outer s H E) [] σ' H' s'->RelV v u->Q v H'->CE outer P w H s Q u s' :=
  λ{σ' H' v u} J rv q=>⟨v,H',J.os,J.bare,J.base,J.hok,rv,q⟩
 cases fl with
 | ret u =>
  obtain ⟨v,σ',H',J,rv,q⟩:=hs
  exact fin J rv q
 | next =>
  obtain ⟨σ',H',J,q⟩:=hs
  exact fin (v:=V.non) (u:=Value.none) J rfl q
 | brk =>
  obtain ⟨_,_,_,q⟩:=hs
  exact False.elim q
 | cont =>
  obtain ⟨_,_,_,q⟩:=hs
  exact False.elim q
section
variable {X:Cx} {x:Str} {p pos:Pos} {e:Expr} {es:List Expr} {t:TA} {id T:String} {r:List V->Hp->VK->Prop}
noncomputable def jK (r:List V->Hp->VK->Prop) (t:TA):TE:=λσ H Q=>t σ H λvs H1=>r vs H1 Q
theorem eE (hc:fX X (.builtin id) r) (hg:Gl X x) (hm:X.mg x=none) (hv:bootBuiltins x=some (.builtin id)) (ha:PA X (e::es) t) (hn:x≠"__name__":=by decide) (hdb:(x == ("__debug__":Str))=false:=by decide)
  (he:starEach (e::es) X.env=(false,eval e X.env)::starEach es X.env:=by rfl) (hpl:(backTo pos (starEach es X.env)).any (·.1)=false:=by rfl):PE X (.Call (.Name x p) (e::es) [] pos) (jK r t):=by
 intro pins s σ H Q I h
 refine wpAny_Call_Name_kw (n0 I hg hm hv ?_ hn hdb)
 exact PyProof.Rows.callWith_builtin1 (thn (ha pos pins s σ H _ I h) λus s1 ⟨vs,H1,I1,r1,q1⟩=>hc pins s1 σ H1 vs us Q I1 r1 q1) he hpl
theorem lH (hc:fX X (.type T) r) (hg:Gl X x) (hm:X.mg x=none) (hv:bootBuiltins x=some (.type T)) (ha:PA X (e::es) t) (hn:x≠"__name__":=by decide) (hdb:(x == ("__debug__":Str))=false:=by decide)
  (he:starEach (e::es) X.env=(false,eval e X.env)::starEach es X.env:=by rfl) (hpl:(backTo pos (starEach es X.env)).any (·.1)=false:=by rfl):PE X (.Call (.Name x p) (e::es) [] pos) (jK r t):=by
 intro pins s σ H Q I h
 refine wpAny_Call_Name_kw (n0 I hg hm hv ?_ hn hdb)
 exact PyProof.Rows.callWith_type1 (thn (ha pos pins s σ H _ I h) λus s1 ⟨vs,H1,I1,r1,q1⟩=>hc pins s1 σ H1 vs us Q I1 r1 q1) he hpl
end
end L2
namespace HT
open PySem PyProof.Rows
section
open PySem.SeqAt
open PySem.AutoSeq1 (wpAny_loadPart')
open PySem.MeetsSeq PySem.MeetsSeq2 PySem.MeetsSeq3
end
section
variable {prog:Program} {w:World} {A:Around} {E:Value->Shared->Prop} {s:Shared}
theorem Zml {t b:Addr} {vs ws:List Value} {Q:Value->Shared->Prop} (ht:IsTup s.heap t vs.toArray) (hb:IsTup s.heap b ws.toArray) (hv:vs≠[])
  (h1:ws=[]->Q (.ref t) s) (h2:ws≠[]->Q (.ref s.heap.objs.size) { s with heap:=s.heap.push { cls:=.type "tuple",data:=.seq (vs++ws).toArray } })
  (hsz:vs.length+ws.length<=sizeLine):wpAny (model prog w) A (binaryOp .Add (.ref t) (.ref b)) Q E s:=by
 obtain ⟨⟨cls,dd,data,sl⟩,ho,hc,n,hd⟩:=id ht
 obtain ⟨⟨cls2,dd2,data2,gR⟩,ho2,hc2,n2,hd2⟩:=id hb
 simp only at hc hd hc2 hd2
 subst hc hd hc2 hd2
 have e:vs.toArray++ws.toArray=(vs++ws).toArray:=by simp
 by_cases hw:ws=[]
 ·exact concat_meets ⟨_,ho,rfl⟩ ⟨_,ho2,rfl⟩ noFill_tuple_add seq_tuple_add PySem.F.slot_tuple_add PySem.F.entry_tuple_add (PySem.F.args_tuple_add_2 _ _)
   (tuple_addW1 t b vs.toArray ws.toArray n n2 dd dd2 sl gR (by simpa using hv) (by simp [hw])) ⟨ho,ho2,h1 hw⟩
 ·refine concat_meets ⟨_,ho,rfl⟩ ⟨_,ho2,rfl⟩ noFill_tuple_add seq_tuple_add PySem.F.slot_tuple_add PySem.F.entry_tuple_add (PySem.F.args_tuple_add_2 _ _)
   (tuple_addW2 t b vs.toArray ws.toArray n n2 dd dd2 sl gR (by simpa using hv) (by simpa using hw) (by rw [List.size_toArray,List.size_toArray]; exact hsz)) ⟨ho,ho2,?_⟩
  rw [e]
  exact h2 hw
noncomputable def cb (n d:Nat):Option Int->Nat
 | none=>d
 | some v=>if v < 0 then (v+(n:Int)).toNat else min v.toNat n
theorem Zgf (n d k:Nat):cb n d (some (k:Int))=min k n:=by
 show (if (k:Int) < 0 then ((k:Int)+(n:Int)).toNat else min (k:Int).toNat n)=min k n
 rw [if_neg (by omega),Int.toNat_natCast]
theorem Zgg (n d:Nat) (hd:d<=n) (o:Option Int):cb n d o<=n:=by
 cases o with
 | none=>exact hd
 | some v =>
  show (if v < 0 then (v+(n:Int)).toNat else min v.toNat n)<=n
  by_cases hv:v < 0
  ·rw [if_pos hv]; omega
  ·rw [if_neg hv]; exact Nat.min_le_right _ _
theorem ZdA (v:Int) (n d:Nat):(if v < 0 then max (v+(n:Int)) 0 else min v (n:Int))=((cb n d (some v):Nat):Int):=by
 show (if v < 0 then max (v+(n:Int)) 0 else min v (n:Int))=(((if v < 0 then (v+(n:Int)).toNat else min v.toNat n):Nat):Int)
 by_cases hv:v < 0
 ·rw [if_pos hv,if_pos hv,Int.ofNat_toNat]
 ·rw [if_neg hv,if_neg hv]
  obtain ⟨k,rfl⟩:=Int.eq_ofNat_of_zero_le (Int.not_lt.mp hv)
  rw [Int.toNat_natCast,<- Lean.Omega.Int.ofNat_min]
theorem Znc (lo hi:Option Int) (n:Nat):Builtin.Slice.sliceAdjust lo hi 1 (n:Int)=(((cb n 0 lo:Nat):Int),((cb n n hi:Nat):Int)):=by
 have h1:¬ ((1:Int) < 0):=by omega
 unfold Builtin.Slice.sliceAdjust
 simp only [h1,if_false]
 refine Prod.ext ?_ ?_
 ·cases lo with
  | none=>rfl
  | some v=>exact ZdA v n 0
 ·cases hi with
  | none=>rfl
  | some v=>exact ZdA v n n
theorem Zg1 (i j:Nat):Builtin.Slice.slicePlaces (i:Int) (j:Int) 1=j - i:=by
 unfold Builtin.Slice.slicePlaces
 have h1:(1:Int) > 0:=by omega
 simp only [h1,if_true,Int.ediv_one]
 split <;> omega
theorem ZaE {v:Value} {o:Option Int} {Q:Option Int->Shared->Prop} (p:IsPart v o) (h:Q o s):wpAny (model prog w) A (Builtin.Slice.slicePartIndex v) Q E s:=by
 cases p with
 | none=>exact slicePart_none h
 | int i t=>exact slicePart_int h
theorem ZaG {sl:Addr} {vl vu:Value} {lo hi:Option Int} {n:Nat} {Q:Int×Int×Nat->Shared->Prop} (hs:s.heap.IsSliceOf sl vl vu .none) (pl:IsPart vl lo) (pu:IsPart vu hi)
  (h:Q (((cb n 0 lo:Nat):Int),1,cb n n hi - cb n 0 lo) s):wpAny (model prog w) A (Builtin.Slice.sliceApplied (.ref sl) (pure (n:Int))) Q E s:=by
 obtain ⟨os,hos,hcs,hds⟩:=id hs
 unfold Builtin.Slice.sliceApplied Builtin.Slice.sliceFields
 refine wpAny_bind (wpAny_bind (wpAny_field hos hds (x:=vl) rfl (wpAny_bind (wpAny_field hos hds (x:=vu) rfl (wpAny_bind (wpAny_field hos hds (x:=.none) rfl (wpAny_pure ?_)))))))
 refine wpAny_bind (slicePart_none ?_)
 show wpAny _ _ (if ((1:Int) == 0)=true then _ else _) _ _ s
 rw [if_neg (by decide)]
 refine wpAny_bind (ZaE pl (wpAny_bind (ZaE pu (wpAny_bind (wpAny_pure ?_)))))
 show wpAny _ _ (match Builtin.Slice.sliceAdjust lo hi 1 (n:Int) with | (lo,hi)=>pure (lo,(1:Int),Builtin.Slice.slicePlaces lo hi 1)) _ _ s
 rw [Znc lo hi n]
 show wpAny _ _ (pure (((cb n 0 lo:Nat):Int),(1:Int),Builtin.Slice.slicePlaces ((cb n 0 lo:Nat):Int) ((cb n n hi:Nat):Int) 1)) _ _ s
 rw [Zg1]
 exact wpAny_pure h
theorem Zg2 (xs:Array Value) (i k:Nat):((List.range k).filterMap λ(m:Nat)=>xs[((i:Int)+(m:Int) * 1).toNat]?).toArray=((xs.toList.drop i).take k).toArray:=by
 have e:(λ(m:Nat)=>xs[((i:Int)+(m:Int) * 1).toNat]?)=λm=>xs[i+m]?:=by
  funext m
  have:((i:Int)+(m:Int) * 1).toNat=i+m:=by omega
  rw [this]
 rw [e]
 have:=pick_run xs i k
 rw [List.filterMap_map] at this
 have e2:((λx=>xs[x]?) ∘ λx=>i+x)=λm=>xs[i+m]?:=rfl
 rw [e2] at this
 rw [this]
theorem Zi2 {t sl:Addr} {items:Array Value} {vl vu:Value} {lo hi:Option Int} {Q:Value->Shared->Prop} (ht:IsTup s.heap t items) (hs:s.heap.IsSliceOf sl vl vu .none) (pl:IsPart vl lo) (pu:IsPart vu hi)
  (hw:¬ (cb items.size 0 lo=0/\cb items.size items.size hi=items.size))
  (h:Q (.ref s.heap.objs.size) { s with heap:=s.heap.push { cls:=.type "tuple",data:=.seq ((items.toList.drop (cb items.size 0 lo)).take (cb items.size items.size hi - cb items.size 0 lo)).toArray } })
  (hsz:items.size<=sizeLine):wpAny (model prog w) A (getItem (.ref t) (.ref sl)) Q E s:=by
 have htake:sizeOk (.seq ((items.toList.drop (cb items.size 0 lo)).take (cb items.size items.size hi - cb items.size 0 lo)).toArray):=by
  show ((items.toList.drop (cb items.size 0 lo)).take (cb items.size items.size hi - cb items.size 0 lo)).toArray.size<=sizeLine
  rw [List.size_toArray,List.length_take,List.length_drop,Array.length_toList]
  exact Nat.le_trans (Nat.min_le_right _ _) (Nat.le_trans (Nat.sub_le _ _) hsz)
 have hj:cb items.size items.size hi<=items.size:=Zgg _ _ (Nat.le_refl _) hi
 obtain ⟨os,hos,hcs,hds⟩:=id hs
 have hTs:s.TypeIs (.ref sl) "slice":=⟨os,hos,hcs⟩
 unfold getItem
 try with_reducible refine wpAny_holding ?_
 first | refine wpAny_bind (wpAny_pure ?_) | skip
 refine wpAny_bind (wpAny_sequenceKey ht.typeIs (by decide) ?_)
 refine wpAny_bind (wpAny_callSpecial?_slot (name:=Str.ofString "__getitem__") ht.typeIs PyProof.Rows.slot_tuple_getitem
  (wpAny_call_entry PyProof.Rows.slot_tuple_getitem ht.typeIs entry_tuple_getitem ?_ (args_tuple_getitem _ _)))
 show wpAny _ _ (Builtin.Tuple.tupleItemsOf (.ref t) >>= _) _ _ s
 refine wpAny_bind (tupleItemsOf_ ht ?_)
 refine wpAny_bind (wpAny_typeOf hTs ?_)
 rw [if_pos (by decide)]
 refine wpAny_bind (ZaG hs pl pu ?_)
 have hno:¬ ((((cb items.size 0 lo:Nat):Int) == 0 && (1:Int) == 1 && (cb items.size items.size hi - cb items.size 0 lo) == items.size)=true):=by
  intro q
  rw [Bool.and_eq_true,Bool.and_eq_true] at q
  have q1:((cb items.size 0 lo:Nat):Int)=0:=eq_of_beq q.1.1
  have q2:cb items.size items.size hi - cb items.size 0 lo=items.size:=eq_of_beq q.2
  exact hw ⟨by omega,by omega⟩
 show wpAny _ _ (if (((cb items.size 0 lo:Nat):Int) == 0 && (1:Int) == 1 && (cb items.size items.size hi - cb items.size 0 lo) == items.size)=true then _ else _) _ _ s
 rw [if_neg hno,Zg2]
 first
  | exact wpAny_bind (m:=Builtin.Tuple.tupleExact _) (wpAny_newObj_type (wpAny_pure ⟨_,rfl,wpAny_pure h⟩) htake)
  | exact wpAny_bind (m:=Builtin.Tuple.tupleExact _) (wpAny_newObj_type (wpAny_bind (wpAny_pure (wpAny_pure ⟨_,rfl,wpAny_pure h⟩))) htake)
  | exact wpAny_bind (wpAny_bind (m:=Builtin.Tuple.tupleExact _) (wpAny_newObj_type (wpAny_pure (wpAny_pure ⟨_,rfl,wpAny_pure h⟩)) htake))
  | exact wpAny_bind (wpAny_bind (m:=Builtin.Tuple.tupleExact _) (wpAny_newObj_type (wpAny_pure ⟨_,rfl,wpAny_pure h⟩) htake))
end
end HT
namespace L2
open PySem PySem.Spec PyProof.Rows
noncomputable abbrev TO:=St->Hp->(Option Int->Hp->Prop)->Prop
noncomputable def PO (X:Cx) (e:Option Expr) (t:TO):Prop :=
 ∀ (pins:List (Addr×Obj)) (s:Shared) (σ:St) (H:Hp) (Q:Option Int->Hp->Prop),Inv X pins σ H s->t σ H Q ->
  wpAny (model X.prog X.w) X.A (evalPart e X.env) (λu s'=>∃ o H',Inv X pins σ H' s'/\IsPart u o/\Q o H') X.xe s
noncomputable def Zfg:TO:=λ_ H Q=>Q none H
noncomputable def Zfc (t:TE):TO:=λσ H Q=>t σ H λx H1=>∃ i,x=.int i/\Q (some i) H1
section
variable {X:Cx} {e:Expr} {te:TE} {lo hi:Option Expr} {tl th:TO} {pos p2:Pos}
theorem Zb0:PO X none Zfg:=by
 intro pins s σ H Q I h
 rw [evalPart_none]
 exact wpAny_pure ⟨none,H,I,.none,h⟩
theorem ZbZ (h:PE X e te):PO X (some e) (Zfc te):=by
 intro pins s σ H Q I hw
 rw [evalPart_some]
 refine thn (h pins s σ H _ I hw) λu s1 hz0=>?_
 obtain ⟨x,H1,I1,r1,q1⟩:=hz0
 obtain ⟨i,rfl,q⟩:=q1
 obtain ⟨t,rfl⟩:=r1
 exact ⟨some i,H1,I1,.int i t,q⟩
noncomputable def SlR (X:Cx) (r:V->Option Int->Option Int->Hp->VK->Prop):Prop :=
 ∀ (pins:List (Addr×Obj)) (s:Shared) (σ:St) (H:Hp) (x:V) (v vl vu:Value) (lo hi:Option Int) (sl:Addr) (Q:VK),Inv X pins σ H s->RelV x v->s.heap.IsSliceOf sl vl vu .none->IsPart vl lo->IsPart vu hi->r x lo hi H Q ->
  ∃ T id,typeLookup (.type T) "__getitem__"=pure (some (.builtin id))/\s.TypeIs v T/\wpAny (model X.prog X.w) X.A (getItem v (.ref sl)) (EP X pins σ Q) X.xe s
theorem SlR.or {r r':V->Option Int->Option Int->Hp->VK->Prop} (h:SlR X r) (h':SlR X r'):SlR X (λx lo hi H Q=>r x lo hi H Q\/r' x lo hi H Q):=by
 intro pins s σ H x v vl vu lo hi sl Q I rx hs pl pu q
 rcases q with q | q
 ·exact h pins s σ H x v vl vu lo hi sl Q I rx hs pl pu q
 ·exact h' pins s σ H x v vl vu lo hi sl Q I rx hs pl pu q
noncomputable def tSl (r:V->Option Int->Option Int->Hp->VK->Prop) (te:TE) (tl th:TO):TE:=λσ H Q=>te σ H λx H1=>tl σ H1 λl H2=>th σ H2 λu H3=>r x l u H3 Q
theorem Zb4 {r:V->Option Int->Option Int->Hp->VK->Prop} (hr:SlR X r) (he:PE X e te) (hl:PO X lo tl) (hu:PO X hi th):PE X (.Subscript e (.Slice lo hi none p2) pos) (tSl r te tl th):=by
 intro pins s σ H Q I h
 refine Subscript_ (thn (he pins s σ H _ I h) λv s1 hz0=>?_)
 obtain ⟨x,H1,I1,r1,q1⟩:=hz0
 refine wpAny_Slice (thn (hl pins s1 σ H1 _ I1 q1) λvl s2 ⟨l,H2,I2,pl,q2⟩=>thn (hu pins s2 σ H2 _ I2 q2) λvu s3 hz0=>?_)
 obtain ⟨u,H3,I3,pu,q3⟩:=hz0
 rw [evalPart_none]
 refine wpAny_pure ?_
 have I4:Inv X pins σ H3 { s3 with heap:=s3.heap.push { cls:=.type "slice",data:=.fields #[vl,vu,.none] } }:=I3.kept (t':=s3.toks) λb ob q=>Heap.get?_push_of_some _ q
 obtain ⟨T,id,hT,ht,hg⟩:=hr pins { s3 with heap:=s3.heap.push { cls:=.type "slice",data:=.fields #[vl,vu,.none] } } σ H3 x v vl vu l u s3.heap.objs.size Q I4 r1 (Heap.IsSliceOf.new ..) pl pu q3
 show wpAny (model X.prog X.w) X.A (subscriptTail e (.Slice lo hi none p2) v (.ref s3.heap.objs.size)) (EP X pins σ Q) X.xe { s3 with heap:=s3.heap.push { cls:=.type "slice",data:=.fields #[vl,vu,.none] } }
 exact tail_any (ops:=[.ref s3.heap.objs.size,v]) ht hT hg (by with_unfolding_all rfl)
noncomputable def gG (xs:List V) (lo hi:Option Int):List V:=(xs.drop (HT.cb xs.length 0 lo)).take (HT.cb xs.length xs.length hi - HT.cb xs.length 0 lo)
theorem Zdx (xs:List V) (lo hi:Option Int):(gG xs lo hi).length<=xs.length:=by
 unfold gG
 rw [List.length_take,List.length_drop]
 exact Nat.le_trans (Nat.min_le_right _ _) (Nat.sub_le _ _)
noncomputable def Zbw (K:PySem.W.Frag):V->Option Int->Option Int->Hp->VK->Prop:=λx lo hi H Q=>∃ a xs,x=.ref a/\SqT K H a xs /\
 ¬ (HT.cb xs.length 0 lo=0/\HT.cb xs.length xs.length hi=xs.length)/\∀ p,H p=none->Q (.ref p) (upd H p (.tup (gG xs lo hi)))
theorem ZfG:SlR X (Zbw X.K):=by
 intro pins s σ H x v vl vu lo hi sl Q I rx hs pl pu h
 obtain ⟨a,xs,rfl,hx,hw,q⟩:=h
 cases rx
 obtain ⟨its,r,ht,hz⟩:=I.tuple hx
 have hlen:its.toArray.size=xs.length:=by rw [List.size_toArray]; exact r.length.symm
 refine ⟨"tuple",_,PyProof.Rows.slot_tuple_getitem.lookup,ht.typeIs,?_⟩
 refine HT.Zi2 ht hs pl pu (by rw [hlen]; exact hw) ?_ (by rw [hlen]; exact hz)
 rw [hlen]
 refine ⟨.ref s.heap.objs.size,_,I.laid (t':=s.toks) (o:=.tup (gG xs lo hi)) (λb ob q=>Heap.get?_push_of_some _ q) (Nat.le_refl _) ?_,rfl,q _ (I.hok.fresh (Nat.le_refl _))⟩
 exact ⟨Nat.le_trans (Zdx xs lo hi) hz,_,(r.drop (HT.cb xs.length 0 lo)).take (HT.cb xs.length xs.length hi - HT.cb xs.length 0 lo),IsTup.new _ _⟩
noncomputable def ZbL (K:PySem.W.Frag):R2:=λx y H Q=>∃ a b xs ys,x=.ref a/\y=.ref b/\SqT K H a xs/\SqT K H b ys/\xs≠[]/\xs.length+ys.length<=sizeLine /\
 (ys=[]->Q (.ref a) H)/\(ys≠[]->∀ p,H p=none->Q (.ref p) (upd H p (.tup (xs++ys))))
theorem Vals.nil_iff {xs:List V} {us:List Value} (r:Vals xs us):us=[] ↔ xs=[]:=by
 cases r with
 | nil=>simp
 | cons _ _=>simp
theorem ZhC:OpR X (binaryOp .Add) (ZbL X.K):=by
 intro pins s σ H x y v u Q I rx ry h
 obtain ⟨a,b,xs,ys,rfl,rfl,ha,hb,hx,hz,q1,q2⟩:=h
 cases rx
 cases ry
 obtain ⟨its,r1,p1,_⟩:=I.tuple ha
 obtain ⟨its2,r2,p2,_⟩:=I.tuple hb
 refine HT.Zml p1 p2 (λz=>hx (r1.nil_iff.mp z)) (λz=>⟨.ref a,H,I,rfl,q1 (r2.nil_iff.mp z)⟩) (λz=>?_) (by rw [<- r1.length,<- r2.length]; exact hz)
 refine ⟨.ref s.heap.objs.size,_,I.laid (t':=s.toks) (o:=.tup (xs++ys)) (λb ob q=>Heap.get?_push_of_some _ q) (Nat.le_refl _) ?_,rfl,q2 (λw=>z (r2.nil_iff.mpr w)) _ (I.hok.fresh (Nat.le_refl _))⟩
 exact ⟨by rw [List.length_append]; exact hz,_,r1.append r2,IsTup.new _ _⟩
end
noncomputable def jr (n:Nat) (i:Int):Option Nat:=if 0<=i then (if i < n then some i.toNat else none) else if -(n:Int)<=i then some (i+n).toNat else none
noncomputable def ez {α:Type} (xs:List α) (i:Int):Option α:=(jr xs.length i).bind λj=>xs[j]?
theorem ZcM {n:Nat} {i:Int} {j:Nat} (h:jr n i=some j):seqIndex? i n=some j/\j < n/\-(n:Int)<=i/\i < n:=by
 unfold jr at h
 by_cases h0:0<=i
 ·rw [if_pos h0] at h
  by_cases h1:i < n
  ·rw [if_pos h1] at h
   have e:i.toNat=j:=Option.some.inj h
   exact ⟨by rw [seqIndex_of h0 h1,e],by omega,by omega,h1⟩
  ·rw [if_neg h1] at h; cases h
 ·rw [if_neg h0] at h
  by_cases h1:-(n:Int)<=i
  ·rw [if_pos h1] at h
   have e:(i+n).toNat=j:=Option.some.inj h
   exact ⟨by rw [seqIndex_neg (by omega) h1,e],by omega,h1,by omega⟩
  ·rw [if_neg h1] at h; cases h
theorem sE {α:Type} {xs:List α} {i:Int} {v:α} (h:ez xs i=some v):∃ j,seqIndex? i xs.length=some j/\xs[j]?=some v/\j < xs.length/\-(xs.length:Int)<=i/\i < xs.length:=by
 unfold ez at h
 cases e:jr xs.length i with
 | none=>rw [e] at h; cases h
 | some j =>
  rw [e] at h
  obtain ⟨h1,h2,h3,h4⟩:=ZcM e
  exact ⟨j,h1,h,h2,h3,h4⟩
theorem iV {α:Type} {xs:List α} {j:Nat} {v:α} (h:xs[j]?=some v):ez xs (j:Int)=some v:=by
 have hj:j < xs.length:=(List.getElem?_eq_some_iff.mp h).1
 have e:jr xs.length (j:Int)=some j:=by
  unfold jr
  rw [if_pos (by omega),if_pos (by omega)]; simp
 unfold ez; rw [e]; exact h
noncomputable def Zet (b:Expr):Prop:=∀ o i,subscripted b false o i=operate [o,i] (getItem o i)
noncomputable def IxR (X:Cx) (r:R2):Prop :=
 ∀ (value slice:Expr) (pins:List (Addr×Obj)) (s:Shared) (σ:St) (H:Hp) (x y:V) (v u:Value) (Q:VK),Inv X pins σ H s->RelV x v->RelV y u->r x y H Q ->
  subscripted slice false v u=operate [v,u] (getItem v u)->wpAny (model X.prog X.w) X.A (subscriptTail value slice v u) (EP X pins σ Q) X.xe s
noncomputable def MtR (X:Cx) (id:String) (r:V->List V->Hp->VK->Prop):Prop :=
 ∀ (pins:List (Addr×Obj)) (s:Shared) (σ:St) (H:Hp) (x:V) (xs:List V) (v:Value) (us:List Value) (Q:VK),Inv X pins σ H s->RelV x v->Vals xs us->r x xs H Q ->
  wpAny (model X.prog X.w) X.A (call (.builtin id) (v::us)) (EP X pins σ Q) X.xe s
section
variable {X:Cx} {a b:Expr} {ta tb:TE} {pos:Pos}
theorem IxR.or {r r':R2} (h:IxR X r) (h':IxR X r'):IxR X (λx y H Q=>r x y H Q\/r' x y H Q):=by
 intro value slice pins s σ H x y v u Q I rx ry q hs
 rcases q with q | q
 ·exact h value slice pins s σ H x y v u Q I rx ry q hs
 ·exact h' value slice pins s σ H x y v u Q I rx ry q hs
theorem gW {r:R2} (hr:IxR X r) (ha:PE X a ta) (hb:PE X b tb) (hs:Zet b):PE X (.Subscript a b pos) (kD r ta tb):=by
 intro pins s σ H Q I h
 exact Subscript_ (sw ha hb I h λv u s2 x y H2 I2 rx ry q=>hr a b pins s2 σ H2 x y v u Q I2 rx ry q (hs _ _))
noncomputable def ZbH (K:PySem.W.Frag):R2:=λx y H Q=>∃ p xs i v,x=.ref p/\y=.int i/\SqL K H p xs/\ez xs i=some v/\Q v H
noncomputable def ZbF (K:PySem.W.Frag):R2:=λx y H Q=>∃ p xs i v,x=.ref p/\y=.int i/\SqT K H p xs/\ez xs i=some v/\Q v H
noncomputable def ZbG:R2:=λx y H Q=>∃ z i c,x=.str z/\y=.int i/\z.length<=sizeLine/\ez z.cps.toList i=some c/\Q (.str ⟨#[c]⟩) H
theorem gZ:IxR X (ZbH X.K):=by
 intro value slice pins s σ H x y v u Q I rx ry h hs
 obtain ⟨p,xs,i,z,rfl,rfl,hq,he,q⟩:=h
 cases rx
 obtain ⟨t,rfl⟩:=ry
 obtain ⟨its,r,pl,hz⟩:=I.list hq
 obtain ⟨j,h1,h2,h3,h4,h5⟩:=sE he
 obtain ⟨w,ew,rw'⟩:=r.get h2
 have hl:=r.length
 have hn:=kZ
 have fin:EP X pins σ Q w s:=⟨z,H,I,rw',q⟩
 by_cases h0:0<=i
 ·have hj:i.toNat=j:=by
   rw [seqIndex_of h0 h5] at h1
   exact Option.some.inj h1
  exact item_listR pl.isList h0 (by omega) (by rw [hj]; simpa using ew) fin hs
 ·have hj:(i+(its.toArray.size:Int)).toNat=j:=by
   rw [seqIndex_neg (by omega) h4] at h1
   rw [List.size_toArray,<- hl]
   exact Option.some.inj h1
  exact subscriptTail_builtinR (x:=w) pl.isList.typeIs slot_list_getitem.lookup
   (wpAny_getItem_list_neg (Q:=λr s'=>r=w/\EP X pins σ Q r s') pl.isList (by omega) (by rw [List.size_toArray] <;> omega) (by omega) (by rw [hj]; simpa using ew) ⟨rfl,fin⟩) hs
theorem ZiG:IxR X (ZbF X.K):=by
 intro value slice pins s σ H x y v u Q I rx ry h hs
 obtain ⟨p,xs,i,z,rfl,rfl,hq,he,q⟩:=h
 cases rx
 obtain ⟨t,rfl⟩:=ry
 obtain ⟨its,r,pl,hz⟩:=I.tuple hq
 obtain ⟨j,h1,h2,h3,h4,h5⟩:=sE he
 obtain ⟨w,ew,rw'⟩:=r.get h2
 have hl:=r.length
 have hn:=kZ
 have fin:EP X pins σ Q w s:=⟨z,H,I,rw',q⟩
 exact subscriptTail_builtinR (x:=w) pl.typeIs slot_tuple_getitem.lookup
  (getItem_tuple (j:=j) (Q:=λr s'=>r=w/\EP X pins σ Q r s') pl (by omega) (by omega) (by rw [List.size_toArray,<- hl]; exact h1) (by simpa using ew) ⟨rfl,fin⟩) hs
theorem ZiH:IxR X ZbG:=by
 intro value slice pins s σ H x y v u Q I rx ry h hs
 obtain ⟨z,i,c,rfl,rfl,hz,he,q⟩:=h
 obtain ⟨t,rfl⟩:=rx
 obtain ⟨t',rfl⟩:=ry
 obtain ⟨j,h1,h2,h3,h4,h5⟩:=sE he
 have hl:z.cps.toList.length=z.length:=by simp [Str.length]
 rw [hl] at h1 h4 h5
 have hn:=kZ
 exact tail_any (typeIs_str s z t) slot_str_getitem.lookup (getItem_str (c:=c) (by
  have e1:decide (i < -(2 ^ 63:Int))=false:=decide_eq_false (by omega)
  have e2:decide (i ≥ 2 ^ 63)=false:=decide_eq_false (by omega)
  rw [e1,e2,Bool.or_false]) (by rw [h1]; simpa using h2) ⟨.str ⟨#[c]⟩,H,I.tok _,⟨_,rfl⟩,q⟩) hs
noncomputable def rIx (K:PySem.W.Frag):R2:=λx y H Q=>ZbH K x y H Q\/ZbF K x y H Q\/ZbG x y H Q
theorem eO:IxR X (rIx X.K):=gZ.or (ZiG.or ZiH)
theorem Zh3 (its:List Value) (n j:Nat) (u:Value):Obj.mapSeq (·.setIfInBounds j u) { cls:=.type "list",data:=.seq its.toArray n }={ cls:=.type "list",data:=.seq (its.set j u).toArray n }:=by
 simp [Obj.mapSeq]
theorem Inv.lst {pins:List (Addr×Obj)} {σ:St} {H:Hp} {s:Shared} {p:Addr} {xs:List V} (I:Inv X pins σ H s) (h:H p=some (.lst xs)) :
  ∃ (its:List Value) (n:Nat),Vals xs its/\s.heap.get? p=some { cls:=.type "list",data:=.seq its.toArray n }/\xs.length<=sizeLine:=by
 obtain ⟨z,its,n,r,e⟩:=I.hok p _ h
 exact ⟨its,n,r,e,z⟩
theorem Inv.lstUpd {pins:List (Addr×Obj)} {σ:St} {H:Hp} {s:Shared} {p:Addr} {xs ys:List V} {its its':List Value} {n n':Nat} {f:Obj->Obj} (I:Inv X pins σ H s) (h:H p=some (.lst xs))
  (ho:s.heap.get? p=some { cls:=.type "list",data:=.seq its.toArray n }) (hf:f { cls:=.type "list",data:=.seq its.toArray n }={ cls:=.type "list",data:=.seq its'.toArray n' }) (r:Vals ys its') (hz:ys.length<=sizeLine) (t:Nat) :
  Inv X pins σ (upd H p (.lst ys)) { s with heap:=s.heap.update p f,toks:=t }:=by
 have e:(s.heap.update p f).get? p=some { cls:=.type "list",data:=.seq its'.toArray n' }:=by
  rw [Heap.get?_update_self f ho (by rw [hf] <;> rfl),hf]
 refine I.write (x:=p) (e:=p) (by rw [h]; trivial) (.inl rfl) (λb u hb q=>(Heap.get?_update_other _ _ (Ne.symm hb)).trans q) ⟨_,e⟩ ?_
 exact ⟨hz,its',n',r,e⟩
noncomputable def ZgF:V->V->V->Hp->(Hp->Prop)->Prop:=λo i v H Q=>∃ p xs k j,o=.ref p/\i=.int k/\H p=some (.lst xs)/\jr xs.length k=some j/\Q (upd H p (.lst (xs.set j v)))
theorem pU:Zeu X ZgF:=by
 intro pins s σ H o i v ov iv u Q I ro ri rv h
 obtain ⟨p,xs,k,j,rfl,rfl,hp,hj,q⟩:=h
 cases ro
 obtain ⟨t,rfl⟩:=ri
 obtain ⟨its,n,r,ho,hz⟩:=I.lst hp
 obtain ⟨h1,h2,h3,h4⟩:=ZcM hj
 have hl:=r.length
 have hn:=kZ
 have I':Inv X pins σ (upd H p (.lst (xs.set j v))) { s with heap:=s.heap.update p (Obj.mapSeq (·.setIfInBounds j u)) } :=
  I.lstUpd hp ho (Zh3 its n j u) (r.set rv j) (by rw [List.length_set]; exact hz) s.toks
 by_cases h0:0<=k
 ·have hk:k.toNat=j:=by
   rw [seqIndex_of h0 h4] at h1
   exact Option.some.inj h1
  exact PySem.W.ki_setAt ho h0 (by omega) (by rw [List.size_toArray,<- hl]; exact h4) (by rw [hk]; exact ⟨_,I',q⟩)
 ·have hk:(k+(its.toArray.size:Int)).toNat=j:=by
   rw [seqIndex_neg (by omega) h3] at h1
   rw [List.size_toArray,<- hl]
   exact Option.some.inj h1
  exact PySem.W.ki_setBack ho (by omega) (by rw [List.size_toArray,<- hl]; exact h3) (by omega) (by rw [hk]; exact ⟨_,I',q⟩)
theorem Zdv {n:Nat} {i:Int} (h:i < 0):max 0 (min (i+(n:Int)) n)=(((i+n).toNat:Nat):Int):=by
 rw [Int.min_eq_left (by omega),Int.ofNat_toNat,Int.max_comm]
theorem Zdw {n:Nat} {i:Int} (h:¬ i < 0):max 0 (min i (n:Int))=((min i.toNat n:Nat):Int):=by
 obtain ⟨k,rfl⟩:=Int.eq_ofNat_of_zero_le (Int.not_lt.mp h)
 rw [Int.toNat_natCast,<- Lean.Omega.Int.ofNat_min]
 exact Int.max_eq_right (Int.natCast_nonneg _)
theorem ZfD (lo hi:Option Int) (n:Nat):(sliceBounds lo hi none n).1=((HT.cb n 0 lo:Nat):Int)/\(sliceBounds lo hi none n).2.1=((HT.cb n n hi:Nat):Int)/\(sliceBounds lo hi none n).2.2=1:=by
 refine ⟨?_,?_,rfl⟩
 ·cases lo with
  | none=>simp [sliceBounds,HT.cb]
  | some i =>
   simp only [sliceBounds,HT.cb,Option.getD_none,show (1:Int) > 0 by decide,if_true]
   by_cases h:i < 0
   ·simp only [h,if_true]
    exact Zdv h
   ·simp only [h,if_false]
    exact Zdw h
 ·cases hi with
  | none=>simp [sliceBounds,HT.cb]
  | some i =>
   simp only [sliceBounds,HT.cb,Option.getD_none,show (1:Int) > 0 by decide,if_true]
   by_cases h:i < 0
   ·simp only [h,if_true]
    exact Zdv h
   ·simp only [h,if_false]
    exact Zdw h
theorem ZfE (its:List Value) (lo hi:Option Int):slicePick its.toArray lo hi none=((its.drop (HT.cb its.length 0 lo)).take (HT.cb its.length its.length hi - HT.cb its.length 0 lo)).toArray:=by
 obtain ⟨h1,h2,h3⟩:=ZfD lo hi its.toArray.size
 unfold slicePick
 rw [h1,h2,h3]
 simp only [sliceRange_one,pick_run,List.size_toArray] <;> rfl
noncomputable def Zbx (K:PySem.W.Frag):V->Option Int->Option Int->Hp->VK->Prop:=λx lo hi H Q=>∃ a xs,x=.ref a/\SqL K H a xs/\∀ p,H p=none->Q (.ref p) (upd H p (.lst (gG xs lo hi)))
theorem ZaH:SlR X (Zbx X.K):=by
 intro pins s σ H x v vl vu lo hi sl Q I rx hs pl pu h
 obtain ⟨a,xs,rfl,hx,q⟩:=h
 cases rx
 obtain ⟨its,r,ht,hz⟩:=I.list hx
 have hlen:=r.length
 refine ⟨"list",_,slot_list_getitem.lookup,ht.isList.typeIs,?_⟩
 refine wpAny_getItem_list_slice ht.isList hs pl pu .none (by simp) ?_ (by rw [List.size_toArray] <;> omega)
 rw [ZfE,<- hlen]
 refine ⟨.ref s.heap.objs.size,_,I.laid (t':=s.toks) (o:=.lst (gG xs lo hi)) (λb ob q=>Heap.get?_push_of_some _ q) (Nat.le_refl _) ?_,rfl,q _ (I.hok.fresh (Nat.le_refl _))⟩
 exact ⟨Nat.le_trans (Zdx xs lo hi) hz,_,0,(r.drop (HT.cb xs.length 0 lo)).take (HT.cb xs.length xs.length hi - HT.cb xs.length 0 lo),Heap.get?_push_size _ rfl⟩
theorem ZdI:fX X (.builtin "len") (λxs H Q=>∃ p ys,xs=[.ref p]/\(SqL X.K H p ys\/SqT X.K H p ys)/\Q (.int ys.length) H):=by
 intro pins s σ H xs us Q I r h
 obtain ⟨p,ys,rfl,hq,q⟩:=h
 obtain ⟨u,rfl,rx⟩:=iA r
 cases rx
 have hn:=kZ
 rcases hq with hq | hq
 ·obtain ⟨its,r',pl,hz⟩:=I.list hq
  have hlen:=r'.length
  exact Calls.call_len_list pl.isList (by simp only [List.size_toArray] <;> omega) ⟨.int ys.length,H,I.tok _,⟨s.toks+1,by rw [List.size_toArray,hlen]⟩,q⟩
 ·obtain ⟨its,r',pl,hz⟩:=I.tuple hq
  have hlen:=r'.length
  exact len_tuple pl (by simp only [List.size_toArray] <;> omega) ⟨.int ys.length,H,I.tok _,⟨s.toks+1,by rw [List.size_toArray,hlen]⟩,q⟩
theorem Zmp:fX X (.type "list") (λxs H Q=>∃ p ys,xs=[.ref p]/\(SqL X.K H p ys\/SqT X.K H p ys)/\∀ l,H l=none->Q (.ref l) (upd H l (.lst ys))):=by
 intro pins s σ H xs us Q I r h
 obtain ⟨p,ys,rfl,hq,q⟩:=h
 obtain ⟨u,rfl,rx⟩:=iA r
 cases rx
 have fin:∀ (its:List Value),Vals ys its->ys.length<=sizeLine->∀ (h':Heap) (c':Nat),(∀ b o',s.heap.get? b=some o'->h'.get? b=some o') ->
   h'.get? s.heap.objs.size=some { cls:=.type "list",dict:=none,data:=.seq its.toArray c',slots:=#[] }->EP X pins σ Q (.ref s.heap.objs.size) { s with heap:=h' }:=λits r' hz h' c' kp e =>
  ⟨.ref s.heap.objs.size,_,I.laid (t':=s.toks) kp (Nat.le_refl _) (show ObjOk X.prog X.w _ h' _ (.lst ys) from ⟨hz,its,c',r',e⟩),rfl,q _ (I.hok.fresh (Nat.le_refl _))⟩
 rcases hq with hq | hq
 ·obtain ⟨its,r',pl,hz⟩:=I.list hq
  have hlen:=r'.length
  obtain ⟨o,ho,hc,n,hd⟩:=pl.isList
  exact call_list_seq p (.inl rfl) ho hc hd (λh' c' kp e=>fin its r' hz h' c' kp e) (by simp only [List.size_toArray] <;> omega)
 ·obtain ⟨its,r',pl,hz⟩:=I.tuple hq
  have hlen:=r'.length
  obtain ⟨o,ho,hc,n,hd⟩:=pl
  exact call_list_seq p (.inr rfl) ho hc hd (λh' c' kp e=>fin its r' hz h' c' kp e) (by simp only [List.size_toArray] <;> omega)
theorem Zmm:fX X (.type "tuple") (λxs H Q=>∃ p ys,xs=[.ref p]/\((SqL X.K H p ys/\∀ l,H l=none->Q (.ref l) (upd H l (.tup ys)))\/(SqT X.K H p ys/\Q (.ref p) H))):=by
 intro pins s σ H xs us Q I r h
 obtain ⟨p,ys,rfl,h⟩:=h
 obtain ⟨u,rfl,rx⟩:=iA r
 cases rx
 rcases h with ⟨hq,q⟩ | ⟨hq,q⟩
 ·obtain ⟨its,r',pl,hz⟩:=I.list hq
  have hlen:=r'.length
  refine call_tuple_list pl.isList (λh' kp=>?_) (by simp only [List.size_toArray] <;> omega)
  have I1:Inv X pins σ H { s with heap:=h' }:=I.kept (t':=s.toks) kp
  have I2:Inv X pins σ (upd H h'.objs.size (.tup ys)) { s with heap:=h'.push { cls:=.type "tuple",data:=.seq its.toArray } } :=
   I1.laid (t':=s.toks) (λb o e=>Heap.get?_push_of_some _ e) (Nat.le_refl _) (show ObjOk X.prog X.w _ _ _ (.tup ys) from ⟨hz,its,r',IsTup.new _ _⟩)
  exact ⟨.ref h'.objs.size,_,I2,rfl,q _ (I1.hok.fresh (Nat.le_refl _))⟩
 ·obtain ⟨its,r',pl,hz⟩:=I.tuple hq
  exact call_tuple_same pl ⟨.ref p,H,I,rfl,q⟩
noncomputable def pI (K:PySem.W.Frag) (T:String) (x:V) (H:Hp):Prop:=match x with
 | .str _=>T="str"
 | .int _=>T="int"
 | .ref p=>(T="list"/\∃ xs,SqL K H p xs)\/(T="tuple"/\∃ o,K.lookup p=some o/\o.cls=.type "tuple"/\o.dict=none) \/
   (T="dict"/\((∃ kvs,H p=some (.dK kvs))\/∃ kvs,H p=some (.dT kvs)))\/(T="set"/\∃ S n,H p=some (.set S n))
 | _=>False
theorem Zap {pins:List (Addr×Obj)} {σ:St} {H:Hp} {s:Shared} {T:String} {x:V} {v:Value} (I:Inv X pins σ H s) (r:RelV x v) (ty:pI X.K T x H) :
  s.TypeIs v T/\∀ a,v=.ref a->∃ ob,s.heap.get? a=some ob/\ob.dict=none:=by
 cases x with
 | str z =>
  obtain ⟨t,rfl⟩:=r
  cases (show T="str" from ty)
  exact ⟨typeIs_str s z t,λ_ e=>nomatch e⟩
 | int i =>
  obtain ⟨t,rfl⟩:=r
  cases (show T="int" from ty)
  exact ⟨typeIs_int s i t,λ_ e=>nomatch e⟩
 | ref p =>
  cases r
  rcases ty with ⟨rfl,xs,hq⟩ | ⟨rfl,o,hk,hc,hd⟩ | ⟨rfl,hk⟩ | ⟨rfl,S,n,hk⟩
  ·obtain ⟨its,_,pl,_⟩:=I.list hq
   refine ⟨pl.isList.typeIs,λa e=>?_⟩
   cases e
   obtain ⟨o,n,e,c,hd,_⟩:=pl
   exact ⟨o,e,hd⟩
  ·refine ⟨⟨o,I.kIn p o hk,hc⟩,λa e=>?_⟩
   cases e
   exact ⟨o,I.kIn _ o hk,hd⟩
  ·have z:∃ o,s.heap.get? p=some o/\o.ExactDict:=by
    rcases hk with ⟨kvs,hk⟩ | ⟨kvs,hk⟩
    ·obtain ⟨_,_,_,_,o,_,_,e,ex,_⟩:=I.hok p _ hk
     exact ⟨o,e,ex⟩
    ·obtain ⟨_,_,_,_,o,_,_,e,ex,_⟩:=I.hok p _ hk
     exact ⟨o,e,ex⟩
   obtain ⟨o,e,ex⟩:=z
   refine ⟨⟨o,e,ex.1⟩,λa e2=>?_⟩
   cases e2
   exact ⟨o,e,ex.2.1⟩
  ·obtain ⟨o,_,_,_,e,ex,_⟩:=I.hok p _ hk
   refine ⟨⟨o,e,ex.1⟩,λa e2=>?_⟩
   cases e2
   exact ⟨o,e,ex.2.1⟩
 | _=>exact False.elim ty
noncomputable def pP (K:PySem.W.Frag) (T:String) (r:V->List V->Hp->VK->Prop) (to:TE):TE:=λσ H Q=>to σ H λx H1=>pI K T x H1/\r x [] H1 Q
noncomputable def pQ (K:PySem.W.Frag) (T:String) (r:V->List V->Hp->VK->Prop) (to:TE) (t:TA):TE:=λσ H Q=>to σ H λx H1=>pI K T x H1/\t σ H1 λxs H2=>r x xs H2 Q
variable {o e:Expr} {es:List Expr} {to:TE} {t:TA} {name:Str} {apos cpos:Pos} {T id:String} {r:V->List V->Hp->VK->Prop}
theorem nv (pa:PlainAttrs T) (slot:Slot T name id) (hty:typeOf (.builtin id)=pure (.type "method_descriptor")) (hm:MtR X id r) (ho:PE X o to)
  (hbase:attributeBase o name X.env (eval o X.env)=eval o X.env:=by rfl) (hline:(apos.endLine == cpos.line)=true:=by rfl):PE X (.Call (.Attribute o name apos) [] [] cpos) (pP X.K T r to):=by
 intro pins s σ H Q I h
 refine wpAny_Call_method0_late hbase hline (thn (ho pins s σ H _ I h) λv s1 hz0=>?_)
 obtain ⟨x,H1,I1,r1,ty,q1⟩:=hz0
 obtain ⟨h1,h2⟩:=Zap I1 r1 ty
 exact ⟨T,id,pa,slot,hty,h1,h2,Calls.callWith_builtin rfl (PySem.evalArgs_none (hm pins s1 σ H1 x [] v [] Q I1 r1 .nil q1))⟩
theorem kN (pa:PlainAttrs T) (slot:Slot T name id) (hty:typeOf (.builtin id)=pure (.type "method_descriptor")) (hm:MtR X id r) (ho:PE X o to) (ha:PA X (e::es) t)
  (hbase:attributeBase o name X.env (eval o X.env)=eval o X.env:=by rfl)
  (hfew:((backTo cpos (starEach (e::es) X.env)).all (λx=>!x.1) && (backToKw cpos (keywordEach [] X.env)).all (λx=>x.1.isSome)
   && decide ((e::es).length+([]:List Keyword).length+(if ([]:List Keyword).isEmpty then 0 else 1) < 30))=true:=by rfl)
  (hline:(apos.endLine == cpos.line)=true:=by rfl) (hs:starEach (e::es) X.env=(false,eval e X.env)::starEach es X.env:=by rfl) (hplain:(backTo cpos (starEach es X.env)).any (·.1)=false:=by rfl) :
  PE X (.Call (.Attribute o name apos) (e::es) [] cpos) (pQ X.K T r to t):=by
 intro pins s σ H Q I h
 refine wpAny_Call_method_late hbase hfew hline rfl (thn (ho pins s σ H _ I h) λv s1 hz0=>?_)
 obtain ⟨x,H1,I1,r1,ty,q1⟩:=hz0
 obtain ⟨h1,h2⟩:=Zap I1 r1 ty
 refine ⟨T,id,pa,slot,hty,h1,h2,?_⟩
 have hA:=ha cpos pins s1 σ H1 _ I1 q1
 rw [hs] at hA ⊢
 refine Calls.callWith_builtin (by show (false || (backTo cpos (starEach es X.env)).any (·.1))=false; rw [hplain] <;> rfl) (Calls.evalArgs_plain ?_)
 exact thn hA λus s2 hz0=>by
  obtain ⟨vs,H2,I2,r2,q2⟩:=hz0
  exact hm pins s2 σ H2 x vs v us Q I2 r1 r2 q2
end
noncomputable def mB (X:Cx) (id:String) (r:V->List V->Hp->VK->Prop):Prop :=
 ∀ (pins:List (Addr×Obj)) (s:Shared) (σ:St) (H:Hp) (x:V) (xs:List V) (v:Value) (us:List Value) (Q:VK),Inv X pins σ H s->RelV x v->Vals xs us->r x xs H Q ->
  wpAny (model X.prog X.w) X.A (call (.builtin id) (v::us)) (EP X pins σ Q) X.xe s
theorem Vals.one {x:V} {us:List Value} (h:Vals [x] us):∃ u,us=[u]/\RelV x u:=by
 cases h with
 | cons r t=>cases t; exact ⟨_,rfl,r⟩
theorem Vals.zero:∀ {us:List Value},Vals [] us->us=[]
 | _,.nil=>rfl
theorem Vals.dropLast {xs:List V} {us:List Value} (h:Vals xs us):Vals xs.dropLast us.dropLast:=by
 induction h with
 | nil=>exact .nil
 | cons r t ih =>
  cases t with
  | nil=>exact .nil
  | cons q t'=>exact .cons r ih
theorem Vals.reverse {xs:List V} {us:List Value} (h:Vals xs us):Vals xs.reverse us.reverse:=by
 induction h with
 | nil=>exact .nil
 | cons r t ih=>rw [List.reverse_cons,List.reverse_cons]; exact Vals.append ih (.cons r .nil)
theorem Vals.rep {xs:List V} {us:List Value} (h:Vals xs us):∀ k:Nat,Vals (List.replicate k xs).flatten (List.replicate k us).flatten
 | 0=>.nil
 | k+1=>by
  rw [List.replicate_succ,List.replicate_succ,List.flatten_cons,List.flatten_cons]
  exact Vals.append h (Vals.rep h k)
theorem Zlq {α:Type} (l:List α):l.eraseIdx (l.length - 1)=l.dropLast:=by
 induction l with
 | nil=>rfl
 | cons a r ih =>
  cases r with
  | nil=>rfl
  | cons b r =>
   have e:(a::b::r).length - 1=((b::r).length - 1)+1:=by
    have h1:(a::b::r).length=r.length+2:=rfl
    have h2:(b::r).length=r.length+1:=rfl
    omega
   rw [e,List.eraseIdx_cons_succ,ih]
   all_goals rfl
theorem Zc3 (its:List Value):∀ (k:Nat) (acc:List Value),
  List.foldl (λx1 x2=>x1++x2) acc.toArray (List.replicate k its.toArray)=(acc++(List.replicate k its).flatten).toArray
 | 0,acc=>by simp
 | k+1,acc=>by
  have e:acc.toArray++its.toArray=(acc++its).toArray:=by simp
  have e2:(acc++its)++(List.replicate k its).flatten=acc++(List.replicate (k+1) its).flatten:=by
   rw [List.replicate_succ,List.flatten_cons,List.append_assoc]
  rw [<- e2,<- Zc3 its k (acc++its),<- e,List.replicate_succ,List.foldl_cons]
section
variable {X:Cx} {pins:List (Addr×Obj)} {σ:St} {H:Hp} {s:Shared} {l b:Addr} {xs ys zs:List V}
theorem Inv.lset {its its':List Value} {n:Nat} {f:Array Value->Array Value} {t':Nat} (I:Inv X pins σ H s) (hH:H l=some (.lst xs))
  (e:s.heap.get? l=some { cls:=.type "list",data:=.seq its.toArray n }) (hf:f its.toArray=its'.toArray) (hv:Vals ys its') (hz:ys.length<=sizeLine) :
  Inv X pins σ (upd H l (.lst ys)) { s with heap:=s.heap.update l (Obj.mapSeq f),toks:=t' }:=by
 have q:=PySem.IsL.update e f
 rw [hf] at q
 refine I.write (x:=l) (e:=l) (by rw [hH]; exact trivial) (.inl rfl) (λb' u hb hu=>(Heap.get?_update_other s.heap (Obj.mapSeq f) (Ne.symm hb)).trans hu) ⟨_,q⟩ ?_
 exact ⟨hz,its',_,hv,q⟩
theorem Inv.lnew {its:List Value} {t':Nat} (I:Inv X pins σ H s) (hv:Vals ys its) (hz:ys.length<=sizeLine) :
  Inv X pins σ (upd H s.heap.objs.size (.lst ys)) { s with heap:=s.heap.push { cls:=.type "list",data:=.seq its.toArray },toks:=t' } :=
 I.laid (λ_ _ q=>Heap.get?_push_of_some _ q) (Nat.le_refl _) ⟨hz,its,0,hv,Heap.get?_push_size _ rfl⟩
theorem Inv.fresh (I:Inv X pins σ H s):H s.heap.objs.size=none:=I.hok.fresh (Nat.le_refl _)
theorem Inv.lstM (I:Inv X pins σ H s) (hH:H l=some (.lst xs)):xs.length<=sizeLine/\∃ (its:List Value) (n:Nat),Vals xs its/\xs.length=its.length/\s.heap.get? l=some { cls:=.type "list",data:=.seq its.toArray n }:=by
 obtain ⟨z,its,n,r,e⟩:=I.hok l _ hH
 exact ⟨z,its,n,r,r.length,e⟩
theorem ZhN {n:Nat} (h:n<=sizeLine):Builtin.List.listTooLong n=false:=by
 unfold Builtin.List.listTooLong
 exact decide_eq_false (by omega)
end
section
variable {X:Cx}
noncomputable def qp:V->List V->Hp->VK->Prop:=λx vs H Q=>∃ l xs y,x=.ref l/\vs=[y]/\H l=some (.lst xs)/\xs.length < sizeLine/\Q .non (upd H l (.lst (xs++[y])))
theorem nM:mB X "list.append" qp:=by
 intro pins s σ H x vs v us Q I rx rv h
 obtain ⟨l,xs,y,rfl,rfl,hH,hz,q⟩:=h
 cases rx
 obtain ⟨u,rfl,ru⟩:=rv.one
 obtain ⟨z,its,n,r,hl,e⟩:=I.lstM hH
 refine call_meets F.slot_list_append ⟨_,e,rfl⟩ F.entry_list_append (F.args_list_append_2 _ _) (PySem.list_append l its.toArray n u (by rw [List.size_toArray]; omega)) ⟨e,?_⟩
 refine ⟨.non,_,I.lset (its':=its++[u]) hH e (by simp) (r.append (.cons ru .nil)) ?_,rfl,q⟩
 rw [List.length_append,List.length_singleton]
 omega
noncomputable def ZbB:V->List V->Hp->VK->Prop:=λx vs H Q=>∃ l xs y,x=.ref l/\vs=[]/\H l=some (.lst xs)/\xs[xs.length - 1]?=some y/\Q y (upd H l (.lst xs.dropLast))
theorem qO:mB X "list.pop" ZbB:=by
 intro pins s σ H x vs v us Q I rx rv h
 obtain ⟨l,xs,y,rfl,rfl,hH,hy,q⟩:=h
 cases rx
 have hus:=rv.zero
 subst hus
 obtain ⟨z,its,n,r,hl,e⟩:=I.lstM hH
 obtain ⟨u,hu,ru⟩:=r.get hy
 have hy':its.toArray[its.toArray.size - 1]?=some u:=by
  show its.toArray[its.length - 1]?=some u
  rw [<- Array.getElem?_toList,<- hl]
  exact hu
 refine call_meets F.slot_list_pop ⟨_,e,rfl⟩ F.entry_list_pop (F.args_list_pop_1 _) (MeetsSeq.list_pop_last l its.toArray n u hy' (by rw [List.size_toArray]; omega)) ⟨e,?_⟩
 refine ⟨y,_,I.lset (its':=its.dropLast) hH e ?_ r.dropLast ?_,ru,q⟩
 ·show its.toArray.eraseIdxIfInBounds (its.toArray.size - 1)=its.dropLast.toArray
  rw [List.size_toArray,List.eraseIdxIfInBounds_toArray,Zlq]
 ·rw [List.length_dropLast]
  omega
noncomputable def Zby:V->List V->Hp->VK->Prop:=λx vs H Q=>∃ l xs,x=.ref l/\vs=[]/\H l=some (.lst xs)/\Q .non (upd H l (.lst xs.reverse))
theorem ZhW:mB X "list.reverse" Zby:=by
 intro pins s σ H x vs v us Q I rx rv h
 obtain ⟨l,xs,rfl,rfl,hH,q⟩:=h
 cases rx
 have hus:=rv.zero
 subst hus
 obtain ⟨z,its,n,r,hl,e⟩:=I.lstM hH
 refine call_meets F.slot_list_reverse ⟨_,e,rfl⟩ F.entry_list_reverse (F.args_list_reverse_1 _) (AutoSeq1.list_reverse_list_0 l its.toArray n (by rw [List.size_toArray]; omega)) ⟨e,?_⟩
 refine ⟨.non,_,I.lset (its':=its.reverse) hH e (by simp) r.reverse ?_,rfl,q⟩
 rw [List.length_reverse]
 omega
noncomputable def ZbM:R2:=λx y H Q=>∃ l b xs zs,x=.ref l/\y=.ref b/\H l=some (.lst xs)/\H b=some (.lst zs)/\xs.length+zs.length<=sizeLine/\∀ p,H p=none->Q (.ref p) (upd H p (.lst (xs++zs)))
theorem qG:OpR X (binaryOp .Add) ZbM:=by
 intro pins s σ H x y v u Q I rx ry h
 obtain ⟨l,b,xs,zs,rfl,rfl,hH,hB,hz,q⟩:=h
 cases rx
 cases ry
 obtain ⟨z,its,n,r,hl,e⟩:=I.lstM hH
 obtain ⟨z2,its2,n2,r2,hl2,e2⟩:=I.lstM hB
 refine PySem.P.add_list e e2 ?_ (by rw [List.size_toArray,List.size_toArray]; omega)
 have ea:its.toArray++its2.toArray=(its++its2).toArray:=by simp
 rw [ea]
 exact ⟨.ref _,_,I.lnew (t':=s.toks) (r.append r2) (by rw [List.length_append]; omega),rfl,q _ I.fresh⟩
noncomputable def ZbA:R2:=λx y H Q=>∃ l k xs,x=.ref l/\y=.int k/\H l=some (.lst xs)/\-(2 ^ 63)<=k/\k < 2 ^ 63/\xs.length * k.toNat<=sizeLine /\
 ∀ p,H p=none->Q (.ref p) (upd H p (.lst (List.replicate k.toNat xs).flatten))
theorem Zie {α:Type} (xs:List α) (k:Nat):(List.replicate k xs).flatten.length=k * xs.length:=by
 induction k with
 | zero=>simp
 | succ k ih=>rw [List.replicate_succ,List.flatten_cons,List.length_append,ih,Nat.succ_mul,Nat.add_comm]
theorem Zhw:OpR X (binaryOp .Mult) ZbA:=by
 intro pins s σ H x y v u Q I rx ry h
 obtain ⟨l,k,xs,rfl,rfl,hH,h1,h2,hz,q⟩:=h
 cases rx
 obtain ⟨t,rfl⟩:=ry
 obtain ⟨z,its,n,r,hl,e⟩:=I.lstM hH
 have hlen:its.toArray.size * k.toNat<=sizeLine:=by rw [List.size_toArray,<- hl]; exact hz
 have hcap:¬ its.toArray.size * k.toNat > (2 ^ 63 - 1) / 8:=by
  have:(sizeLine:Nat)<=(2 ^ 63 - 1) / 8:=by decide
  omega
 have hfit:¬ (!Builtin.List.listFitsIndex k)=true:=by
  rw [fitsIndex_both h1 h2]
  exact Bool.false_ne_true
 have hlong:¬ Builtin.List.listTooLong (its.toArray.size * k.toNat)=true:=by
  rw [ZhN hlen]
  exact Bool.false_ne_true
 have hnew:List.foldl (λx1 x2=>x1++x2) #[] (List.replicate (if its.toArray.isEmpty=true then 0 else k.toNat) its.toArray)=(List.replicate k.toNat its).flatten.toArray:=by
  have f0:∀ m:Nat,List.foldl (λx1 x2=>x1++x2) #[] (List.replicate m its.toArray)=(List.replicate m its).flatten.toArray:=λm=>by
   have:=Zc3 its m []
   rw [List.nil_append] at this
   exact this
  rw [f0]
  cases its with
  | nil=>simp
  | cons a r'=>rw [if_neg (by simp)]
 refine wpAny_binaryOp_repeat_ref (T:="list") (U:="int") (by decide) ⟨_,e,rfl⟩ (λs'=>typeIs_int s' k t) noFill_list_mul F.fills_int_mul F.slot_int_rmul repeat_list F.slot_int_index.lookup
  (call_meets F.slot_int_rmul (typeIs_int s k t) F.entry_int_rmul (F.args_int_rmul_2 _ _) (int___rmul___int_list k t l its.toArray n)
   ⟨e,rfl,⟨_,e,rfl⟩,call_meets F.slot_list_mul ⟨_,e,rfl⟩ F.entry_list_mul (F.args_list_mul_2 _ _) (AutoListH.list___mul___list_int_3 l its.toArray n k t hfit hcap hlong) ⟨e,?_⟩⟩)
 rw [hnew]
 exact ⟨.ref _,_,I.lnew (t':=s.toks) (r.rep k.toNat) (by rw [Zie,Nat.mul_comm]; exact hz),rfl,q _ I.fresh⟩
end
section
variable {prog:Program} {w:World} {A:Around} {E:Value->Shared->Prop} {s:Shared}
end
section
variable {X:Cx}
end
section
variable {κ:Type} [DecidableEq κ]
noncomputable def gQ (kvs:List (κ×V)) (k:κ):Option V:=(kvs.find? λkv=>decide (kv.1=k)).map (·.2)
noncomputable def fj (kvs:List (κ×V)) (k:κ) (v:V):List (κ×V) :=
 if (kvs.any λkv=>decide (kv.1=k))=true then kvs.map (λkv=>if kv.1=k then (kv.1,v) else kv) else kvs++[(k,v)]
theorem mO {p:κ×V} {r:List (κ×V)} {k:κ} (e:p.1=k):gQ (p::r) k=some p.2:=by simp [gQ,List.find?_cons,e]
theorem mP {p:κ×V} {r:List (κ×V)} {k:κ} (e:¬ p.1=k):gQ (p::r) k=gQ r k:=by simp [gQ,List.find?_cons,e]
theorem Zao (k:κ):∀ kvs:List (κ×V),(kvs.any λkv=>decide (kv.1=k))=(gQ kvs k).isSome
 | []=>rfl
 | p::r=>by
  rw [List.any_cons]
  by_cases e:p.1=k
  ·simp only [mO e,decide_eq_true e,Bool.true_or,Option.isSome_some]
  ·rw [mP e,decide_eq_false e,Bool.false_or]; exact Zao k r
theorem qV (kvs:List (κ×V)) (k:κ) (v:V):(fj kvs k v).length<=kvs.length+1:=by
 unfold fj
 split
 ·rw [List.length_map]; omega
 ·rw [List.length_append,List.length_cons,List.length_nil]; omega
theorem RelO.isSome_eq {o:Option V} {u:Option Value} (r:RelO o u):o.isSome=u.isSome:=by
 cases o with
 | none=>cases u with
  | none=>rfl
  | some _=>exact (show False from r).elim
 | some _=>cases u with
  | none=>exact (show False from r).elim
  | some _=>rfl
theorem KV.val {kvs:List (κ×V)} {vs:List (κ×Value)} (r:KV kvs vs) (k:κ):RelO (gQ kvs k) (valueAt vs k):=by
 unfold KV at r
 induction r with
 | nil=>exact True.intro
 | @cons p q ps qs h t ih =>
  obtain ⟨h1,h2⟩:=h
  by_cases e:p.1=k
  ·have e':q.1=k:=h1.symm.trans e
   have b:valueAt (q::qs) k=some q.2:=by simp [valueAt,List.find?_cons,e']
   rw [mO e,b]; exact h2
  ·have e':¬ q.1=k:=λz=>e (h1.trans z)
   have b:valueAt (q::qs) k=valueAt qs k:=by simp [valueAt,List.find?_cons,e']
   rw [mP e,b]; exact ih
theorem KV.any {kvs:List (κ×V)} {vs:List (κ×Value)} (r:KV kvs vs) (k:κ):(kvs.any λkv=>decide (kv.1=k))=vs.any λkv=>decide (kv.1=k):=by
 unfold KV at r
 induction r with
 | nil=>rfl
 | cons h t ih=>rw [List.any_cons,List.any_cons,ih,h.1]
theorem KV.repl {kvs:List (κ×V)} {vs:List (κ×Value)} (r:KV kvs vs) (k:κ) {y:V} {u:Value} (ry:RelV y u) :
  KV (kvs.map λkv=>if kv.1=k then (kv.1,y) else kv) (vs.map λkv=>if kv.1=k then (kv.1,u) else kv):=by
 unfold KV at r ⊢
 induction r with
 | nil=>exact .nil
 | @cons p q ps qs h t ih =>
  rw [List.map_cons,List.map_cons]
  refine .cons ?_ ih
  obtain ⟨h1,h2⟩:=h
  by_cases e:p.1=k
  ·rw [if_pos e,if_pos (h1.symm.trans e)]; exact ⟨h1,ry⟩
  ·rw [if_neg e,if_neg (λz=>e (h1.trans z))]; exact ⟨h1,h2⟩
theorem KV.put {kvs:List (κ×V)} {vs:List (κ×Value)} (r:KV kvs vs) (k:κ) {y:V} {u:Value} (ry:RelV y u):KV (fj kvs k y) (stored vs k u):=by
 unfold fj stored
 rw [r.any k]
 by_cases e:(vs.any λkv=>decide (kv.1=k))=true
 ·rw [if_pos e,if_pos e]; exact r.repl k ry
 ·rw [if_neg e,if_neg e]; exact Paired.snoc r ⟨rfl,ry⟩
theorem KV.length {kvs:List (κ×V)} {vs:List (κ×Value)} (r:KV kvs vs):kvs.length=vs.length:=Paired.length r
end
theorem og {P:Program} {w:World} {k:b8} {u:Value} (r:RelV (kV k) u):(fO P w).is k u=true:=by
 cases k with
 | inl i=>obtain ⟨t,e⟩:=(show ∃ t,u=Value.int i t from r); subst e; exact Zh2 P w i t
 | inr x=>obtain ⟨t,e⟩:=(show ∃ t,u=Value.str x t from r); subst e; exact Zh1 P w x t
theorem ZcN {P:Program} {w:World}:∀ {ks:List b8} {us:List Value},Vals (ks.map kV) us->ItemsAre (fO P w) ks us
 | [],_,r=>by rw [List.map_nil] at r; cases r; exact .nil
 | k::ks,_,r=>by
  rw [List.map_cons] at r
  cases r with
  | cons h t=>exact .cons (og h) (ZcN t)
noncomputable abbrev KT (H:Hp):List (List b8×V)->List (List b8×Addr×Value)->Prop:=Paired λp q=>p.1=q.1/\H q.2.1=some (.tup (p.1.map kV))/\RelV p.2 q.2.2
theorem KT.val {H:Hp} {kvs:List (List b8×V)} {xs:List (List b8×Addr×Value)} (r:KT H kvs xs) (k:List b8):RelO (gQ kvs k) ((atKey xs k).map (·.2)):=by
 induction r with
 | nil=>exact True.intro
 | @cons p q ps qs h t ih =>
  obtain ⟨h1,_,h2⟩:=h
  by_cases e:p.1=k
  ·have e':q.1=k:=h1.symm.trans e
   have b:atKey (q::qs) k=some q.2:=by simp [atKey,List.find?_cons,e']
   rw [mO e,b]; exact h2
  ·have e':¬ q.1=k:=λz=>e (h1.trans z)
   have b:atKey (q::qs) k=atKey qs k:=by simp [atKey,List.find?_cons,e']
   rw [mP e,b]; exact ih
theorem KT.repl {H:Hp} {kvs:List (List b8×V)} {xs:List (List b8×Addr×Value)} (r:KT H kvs xs) (k:List b8) {y:V} {u:Value} (ry:RelV y u) :
  KT H (kvs.map λkv=>if kv.1=k then (kv.1,y) else kv) (xs.map (putAt k u)):=by
 induction r with
 | nil=>exact .nil
 | @cons p q ps qs h t ih =>
  rw [List.map_cons,List.map_cons]
  refine .cons ?_ ih
  obtain ⟨h1,h2,h3⟩:=h
  unfold putAt
  by_cases e:p.1=k
  ·rw [if_pos e,if_pos (h1.symm.trans e)]; exact ⟨h1,h2,ry⟩
  ·rw [if_neg e,if_neg (λz=>e (h1.trans z))]; exact ⟨h1,h2,h3⟩
theorem KT.put {H:Hp} {kvs:List (List b8×V)} {xs:List (List b8×Addr×Value)} (r:KT H kvs xs) (k:List b8) {b:Addr} {y:V} {u:Value} (hb:H b=some (.tup (k.map kV))) (ry:RelV y u) :
  KT H (fj kvs k y) (storedH xs k b u):=by
 have e:(kvs.any λkv=>decide (kv.1=k))=(atKey xs k).isSome:=by
  rw [Zao,(r.val k).isSome_eq,Option.isSome_map]
 unfold fj storedH
 rw [e]
 by_cases q:(atKey xs k).isSome=true
 ·rw [if_pos q,if_pos q]; exact r.repl k ry
 ·rw [if_neg q,if_neg q]; exact Paired.snoc r ⟨rfl,hb,ry⟩
theorem KT.keeps {H H':Hp} {kvs:List (List b8×V)} {xs:List (List b8×Addr×Value)} (r:KT H kvs xs) (ht:∀ b ys,H b=some (.tup ys)->H' b=some (.tup ys)):KT H' kvs xs :=
 Paired.mapP r λ_ _ z=>⟨z.1,ht _ _ z.2.1,z.2.2⟩
section
variable {P:Program} {w:World} {H:Hp} {h:Heap} {a:Addr}
theorem Zbs {u:HO} (ok:HOk P w H h) (e:Rd H a u):ObjOk P w H h a u:=e.ok ok
theorem r6 {kvs:List (b8×V)} (ok:HOk P w H h) (e:Rd H a (.dK kvs)):kvs.length<=sizeLine/\(a == sysModules)=false/\∃ vs,KV kvs vs/\h.DictOf (fO P w) a vs :=
 show ObjOk P w H h a (.dK kvs) from Zbs ok e
theorem Zdl {kvs:List (b8×V)} (ok:HOk P w H h) (e:H a=some (.dK kvs)):kvs.length<=sizeLine/\(a == sysModules)=false/\∃ vs,KV kvs vs/\h.DictOf (fO P w) a vs:=r6 ok (.inl e)
theorem rA {ks:List b8} (ok:HOk P w H h) (e:H a=some (.tup (ks.map kV))):(tupleKind (fO P w)).is h ks a:=by
 obtain ⟨_,its,r,o,h1,h2,n,h3⟩:=(show ObjOk P w H h a (.tup (ks.map kV)) from ok a _ e)
 exact ⟨o,its.toArray,n,h1,h2,h3,by simpa using ZcN r⟩
theorem rY {kvs:List (List b8×V)} (ok:HOk P w H h) (e:Rd H a (.dT kvs)):kvs.length<=sizeLine/\(a == sysModules)=false /\
  ∃ xs,KT H kvs xs/\h.DictOfH (tupleKind (fO P w)) a xs:=by
 obtain ⟨z,y,xs,r,o,es,ep,h1,h2,h3,h4,h5⟩:=(show ObjOk P w H h a (.dT kvs) from Zbs ok e)
 refine ⟨z,y,xs,r,o,es,ep,h1,h2,h3,h4,λx hx=>?_,h5⟩
 have all:∀ {l:List (List b8×V)} {m:List (List b8×Addr×Value)},KT H l m->∀ x∈m,(tupleKind (fO P w)).is h x.1 x.2.1:=by
  intro l m q
  induction q with
  | nil=>intro x hx; exact nomatch hx
  | @cons p q ps qs hq t ih =>
   intro x hx
   rcases List.mem_cons.mp hx with e | hx
   ·subst e
    exact rA ok (by rw [<- hq.1]; exact hq.2.1)
   ·exact ih x hx
 exact all r x hx
theorem ZlH {kvs:List (List b8×V)} (ok:HOk P w H h) (e:H a=some (.dT kvs)):kvs.length<=sizeLine/\(a == sysModules)=false /\
  ∃ xs,KT H kvs xs/\h.DictOfH (tupleKind (fO P w)) a xs:=rY ok (.inl e)
end
noncomputable def tD (H:Hp) (a:Addr) (y:V) (r:Option V):Prop :=
 (∃ kvs k,Rd H a (.dK kvs)/\y=kV k/\r=gQ kvs k)\/∃ kvs k b,Rd H a (.dT kvs)/\y=.ref b/\H b=some (.tup (k.map kV))/\r=gQ kvs k
noncomputable def DPut (H:Hp) (a:Addr) (y v:V) (H':Hp):Prop :=
 (∃ kvs k,H a=some (.dK kvs)/\y=kV k/\kvs.length < sizeLine/\H'=upd H a (.dK (fj kvs k v))) \/
 ∃ kvs k b,H a=some (.dT kvs)/\y=.ref b/\H b=some (.tup (k.map kV))/\kvs.length < sizeLine/\H'=upd H a (.dT (fj kvs k v))
theorem DPut.k {H:Hp} {a:Addr} {kvs:List (b8×V)} {k:b8} {v:V} (e:H a=some (.dK kvs)) (hl:kvs.length < sizeLine):DPut H a (kV k) v (upd H a (.dK (fj kvs k v))):=.inl ⟨kvs,k,e,rfl,hl,rfl⟩
section
variable {X:Cx} {pins:List (Addr×Obj)} {σ:St} {H:Hp} {s:Shared} {a:Addr} {y v:V} {u r:Value} {o:Option V} {A:Around} {E:Value->Shared->Prop}
theorem Inv.big (I:Inv X pins σ H s):sysModules < s.heap.objs.size:=by
 have h:mainGlobals < s.heap.objs.size:=(I.mod.glob.keeps I.bk).lt
 exact Nat.lt_trans (by decide) h
theorem ZlW {Q:Value->Shared->Prop} (hu:A.units+1 < cLine) (I:Inv X pins σ H s) (g:tD H a y (some v)) (ry:RelV y u) (h:∀ w' s',Inv X pins σ H s'->RelV v w'->Q w' s') :
  wpAny (model X.prog X.w) A (getItem (.ref a) u) Q E s:=by
 rcases g with ⟨kvs,k,e,ey,l⟩ | ⟨kvs,k,b,e,ey,eb,l⟩
 ·subst ey
  obtain ⟨z,hd,vs,rel,dd⟩:=r6 I.hok e
  obtain ⟨w',hw,rw'⟩:=RelO.some_of (v:=v) (o:=valueAt vs k) (by rw [l]; exact rel.val k)
  exact wpAny_getItem_of (og ry) dd.mapOf hw (h w' _ (I.tok _) rw')
 ·subst ey
  cases (show u=Value.ref b from ry)
  obtain ⟨z,hd,xs,rel,dd⟩:=rY I.hok e
  obtain ⟨w',hw,rw'⟩:=RelO.some_of (v:=v) (o:=(atKey xs k).map (·.2)) (by rw [l]; exact rel.val k)
  obtain ⟨p,hp,hp2⟩:=Option.map_eq_some_iff.mp hw
  refine wpAny_getItem_heap (tupleKind_room_in1 hu) (rA I.hok eb) dd hp ?_
  rw [hp2]
  exact h w' _ (I.tok _) rw'
theorem r8 {h':Heap} {t':Nat} {ob:HO} (I:Inv X pins σ H s) (mu:mz (H a)) (hs:Heap.SameBut a s.heap h') (he:∃ q,h'.get? a=some q) (new:ObjOk X.prog X.w (upd H a ob) h' a ob) :
  Inv X pins σ (upd H a ob) { s with heap:=h',toks:=t' } :=
 I.write (x:=a) (e:=a) mu (.inl rfl) (λb q hb z=>(hs.2 b hb).trans z) he new
theorem Zdm {P:Program} {w:World} {H':Hp} {h':Heap} {kvs:List (b8×V)} {vs:List (b8×Value)} (z:kvs.length<=sizeLine) (hd:(a == sysModules)=false) (rel:KV kvs vs) (dd:h'.DictOf (fO P w) a vs) :
  ObjOk P w H' h' a (.dK kvs):=⟨z,hd,vs,rel,dd⟩
theorem ZlP {H':Hp} {Q:Unit->Shared->Prop} (hu:A.units+1 < cLine) (I:Inv X pins σ H s) (g:DPut H a y v H') (ry:RelV y u) (rv:RelV v r) (h:∀ s',Inv X pins σ H' s'->Q () s') :
  wpAny (model X.prog X.w) A (setItem (.ref a) u r) Q E s:=by
 rcases g with ⟨kvs,k,e,ey,l,eH⟩ | ⟨kvs,k,b,e,ey,eb,l,eH⟩
 ·subst ey eH
  obtain ⟨z,hd,vs,rel,dd⟩:=Zdl I.hok e
  have hz:vs.length<=sizeLine:=by rw [<- rel.length]; exact z
  have hl:(fj kvs k v).length<=sizeLine:=by have:=qV kvs k v; omega
  refine wpAny_setItem_pairs (hsz:=hz) (og ry) dd λh' dd' hs=>h _ ?_
  have he:∃ q,h'.get? a=some q:=let ⟨q,_,_,hq,_⟩:=dd'; ⟨q,hq⟩
  exact r8 I (by rw [e]; exact True.intro) hs he (Zdm hl hd (rel.put k rv) dd')
 ·subst ey eH
  cases (show u=Value.ref b from ry)
  obtain ⟨z,hd,xs,rel,dd⟩:=ZlH I.hok e
  have hz:xs.length<=sizeLine:=by rw [<- Paired.length rel]; exact z
  have hl:(fj kvs k v).length<=sizeLine:=by have:=qV kvs k v; omega
  refine wpAny_setItem_heap (hsz:=hz) (tupleKind_room_in1 hu) (rA I.hok eb) dd λh' dd' hs=>h _ ?_
  obtain ⟨q,es,ep,hq,h2,h3,h4,_,h5⟩:=dd'
  refine r8 I (by rw [e]; exact True.intro) hs ⟨q,hq⟩ ⟨hl,hd,_,(rel.put k eb rv).keeps λc ys ec=>?_,q,es,ep,hq,h2,h3,h4,h5⟩
  rw [ak (ZhP ec e (λz=>nomatch z))]
  exact ec
end
section
variable {X:Cx} {pins:List (Addr×Obj)} {σ:St} {H:Hp} {s:Shared} {a:Addr} {kvs:List (b8×V)} {k:b8} {u:Value} {A:Around} {E:Value->Shared->Prop}
end
noncomputable def Zev (i:Expr):Prop:=∀ ov iv,subscripted i false ov iv=operate [ov,iv] (getItem ov iv)
theorem Zfx {prog:Program} {w:World} {A:Around} {E:Value->Shared->Prop} {s:Shared} {env:Env} {value slice:Expr} {pos:Pos} {T id:String} {Q:Value->Shared->Prop}
  (hl:typeLookup (.type T) "__getitem__"=pure (some (.builtin id))) (hs:Zev slice)
  (h:wpAny (model prog w) A (eval value env) (λo s₁=>wpAny (model prog w) A (eval slice env) (λi s₂=>s₂.TypeIs o T/\wpAny (model prog w) A (getItem o i) Q E s₂) E s₁) E s) :
  wpAny (model prog w) A (eval (.Subscript value slice pos) env) Q E s:=by
 refine Subscript_ (wpAny_mono h (λo s₁ h₁=>wpAny_mono h₁ (λi s₂ h₂=>?_) λ_ _ x=>x) λ_ _ x=>x)
 obtain ⟨hT,h₂⟩:=h₂
 unfold subscriptTail
 refine wpAny_bind ?_
 rw [getitemInPython_of_ne hT.not_modules]
 refine wpAny_bind (wpAny_specialOf hT hl ?_)
 have fin:wpAny (model prog w) A (subscripted slice false o i) (λr s₃=>wpAny (model prog w) A (letTemporaryGo value o r >>= λ_=>pure r) Q E s₃) E s₂:=by
  rw [hs o i]
  exact wpAny_operating (wpAny_mono h₂ (λr s₃ h₃=>wpAny_bind (wpAny_letTemporaryGo (wpAny_pure h₃))) λ_ _ x=>x)
 first
  | exact wpAny_pure (wpAny_bind fin)
  | exact wpAny_bind (wpAny_pure (wpAny_bind fin))
  | exact wpAny_bind fin
theorem ZlM {X:Cx} {pins:List (Addr×Obj)} {σ:St} {H:Hp} {s:Shared} {a:Addr} {y:V} {o:Option V} (I:Inv X pins σ H s) (g:tD H a y o):s.TypeIs (.ref a) "dict":=by
 rcases g with ⟨kvs,k,e,_,_⟩ | ⟨kvs,k,b,e,_,_,_⟩
 ·obtain ⟨_,_,vs,_,dd⟩:=r6 I.hok e
  exact dd.typeIs
 ·obtain ⟨_,_,xs,_,dd⟩:=rY I.hok e
  exact dd.typeIs
noncomputable def Zft (td ty:TE):TE:=λσ H Q=>td σ H λx H1=>ty σ H1 λy H2=>∃ a v,x=.ref a/\tD H2 a y (some v)/\Q v H2
noncomputable def Zgj (td ty tv:TE):TS:=λD σ H=>tv σ H λv H1=>td σ H1 λx H2=>ty σ H2 λy H3=>∃ a H4,x=.ref a/\DPut H3 a y v H4/\D.nx σ H4
section
variable {X:Cx} {o i e value:Expr} {pos pos' tpos:Pos} {td ty tv:TE}
theorem Zhk (hu:X.A.units+1 < cLine) (ho:PE X o td) (hi:PE X i ty) (hs:Zev i):PE X (.Subscript o i pos) (Zft td ty):=by
 intro pins s σ H Q I h
 refine Zfx PySem.F.slot_dict_getitem.lookup hs (thn (ho pins s σ H _ I h) λu s1 ⟨x,H1,I1,rx,q1⟩=>thn (hi pins s1 σ H1 _ I1 q1) λiv s2 hz0=>?_)
 obtain ⟨y,H2,I2,ry,a,v,ex,g,q2⟩:=hz0
 subst ex
 obtain rfl:u=Value.ref a:=rx
 exact ⟨ZlM I2 g,ZlW hu I2 g ry λw' s3 I3 rw'=>⟨v,H2,I3,rw',q2⟩⟩
theorem ZgW (hu:X.A.units+1 < cLine) (ho:PE X o td) (hi:PE X i ty) (hv:PE X value tv) (hs:swapsWith value (some (.Subscript o i pos')) pos.line X.env=pure false) :
  PS X (.Assign [.Subscript o i pos'] value pos) (Zgj td ty tv):=by
 intro pins s σ H D I h
 refine wpAny_Assign_Subscript (thn (hv pins s σ H _ I h) λr s1 ⟨v,H1,I1,rv,q1⟩=>thn (ho pins s1 σ H1 _ I1 q1) λu s2 ⟨x,H2,I2,rx,q2⟩=>thn (hi pins s2 σ H2 _ I2 q2) λiv s3 hz0=>?_) hs
 obtain ⟨y,H3,I3,ry,a,H4,ex,g,q3⟩:=hz0
 subst ex
 obtain rfl:u=Value.ref a:=rx
 exact ZlP hu I3 g ry rv λs4 I4=>⟨σ,H4,I4,q3⟩
end
theorem Zdn {P:Program} {w:World} {H:Hp} (h:Heap) (hb:sysModules < h.objs.size):ObjOk P w H (h.push { cls:=.type "dict",data:=.dict #[] }) h.objs.size (.dK []) :=
 ⟨Nat.zero_le _,beq_eq_false_iff_ne.mpr (Ne.symm (Nat.ne_of_lt hb)),[],.nil,Heap.DictOf.new h⟩
noncomputable def Zfs:TE:=λ_ H Q=>∀ p,H p=none->Q (.ref p) (upd H p (.dK []))
section
variable {X:Cx} {pos:Pos}
theorem Zhj:PE X (.Dict [] [] pos) Zfs:=λpins s σ H Q I h =>
 wpAny_Dict_empty ⟨.ref s.heap.objs.size,_,I.laid (a:=s.heap.objs.size) (o:=.dK []) (t':=s.toks) (λ_ _ q=>Heap.get?_push_of_some _ q) (Nat.le_refl _) (Zdn s.heap I.big),rfl,h _ (I.hok.fresh (Nat.le_refl _))⟩
end
noncomputable def mU:List (TE×TE)->St->Hp->(List (V×V)->Hp->Prop)->Prop
 | [],_,H,Q=>Q [] H
 | (tk,tv)::r,σ,H,Q=>tk σ H λx H1=>tv σ H1 λy H2=>mU r σ H2 λps H3=>Q ((x,y)::ps) H3
noncomputable abbrev VV:List (V×V)->List (Value×Value)->Prop:=Paired λp q=>RelV p.1 q.1/\RelV p.2 q.2
noncomputable def mx (X:Cx) (pos:Pos) (keys:List (Option Expr)) (values:List Expr) (trs:List (TE×TE)):Prop :=
 ∀ (pins:List (Addr×Obj)) (s:Shared) (σ:St) (H:Hp) (Q:List (V×V)->Hp->Prop),Inv X pins σ H s->mU trs σ H Q ->
  wpAny (model X.prog X.w) X.A (evalPairs (pairTrees keys values X.env pos)) (λvs s'=>∃ ps H',Inv X pins σ H' s'/\VV ps vs/\Q ps H') X.xe s
theorem ZbW {X:Cx} {pos:Pos}:mx X pos [] [] []:=λpins s σ H Q I h=>pairTrees_nil_walk ⟨[],H,I,.nil,h⟩
theorem ZbX {X:Cx} {pos:Pos} {k v:Expr} {ks:List (Option Expr)} {vs:List Expr} {tk tv:TE} {trs:List (TE×TE)} (hk:PE X k tk) (hv:PE X v tv) (hr:mx X pos ks vs trs) :
  mx X pos (some k::ks) (v::vs) ((tk,tv)::trs):=λpins s σ H Q I h =>
 pairTrees_cons_walk (thn (hk pins s σ H _ I h) λu s1 ⟨x,H1,I1,rx,q1⟩=>thn (hv pins s1 σ H1 _ I1 q1) λw2 s2 ⟨y,H2,I2,ry,q2⟩ =>
  thn (hr pins s2 σ H2 _ I2 q2) λws s3 ⟨ps,H3,I3,rel,q3⟩=>⟨(x,y)::ps,H3,I3,.cons ⟨rx,ry⟩ rel,q3⟩)
noncomputable def iM (kvs more:List (b8×V)):List (b8×V):=more.foldl (λacc kv=>fj acc kv.1 kv.2) kvs
theorem KV.merge:∀ {more:List (b8×V)} {rs:List (b8×Value)} {kvs:List (b8×V)} {vs:List (b8×Value)},KV more rs->KV kvs vs->KV (iM kvs more) (merged vs rs):=by
 intro more rs kvs vs r
 unfold KV at r
 induction r generalizing kvs vs with
 | nil=>intro q; exact q
 | @cons p q ps qs h t ih =>
  intro r0
  have e:KV (fj kvs p.1 p.2) (stored vs q.1 q.2):=by
   have:=r0.put p.1 h.2
   rw [<- h.1]; exact this
  exact ih e
theorem ZcG:∀ (more kvs:List (b8×V)),(iM kvs more).length<=kvs.length+more.length
 | [],kvs=>by show kvs.length<=kvs.length+0; omega
 | p::r,kvs=>by
  have h1:=ZcG r (fj kvs p.1 p.2)
  have h2:=qV kvs p.1 p.2
  show (iM (fj kvs p.1 p.2) r).length<=_
  rw [List.length_cons]; omega
theorem ZdE {P:Program} {w:World}:∀ {kvs:List (b8×V)} {ws:List (Value×Value)},VV (kvs.map λkv=>(kV kv.1,kv.2)) ws->∃ rs,Carries (fO P w) ws rs/\KV kvs rs
 | [],_,r=>by rw [List.map_nil] at r; cases r; exact ⟨[],True.intro,.nil⟩
 | p::kvs,_,r=>by
  rw [List.map_cons] at r
  cases r with
  | @cons a b as bs h t =>
   obtain ⟨rs,c,q⟩:=ZdE (P:=P) (w:=w) t
   obtain ⟨b1,b2⟩:=b
   exact ⟨(p.1,b2)::rs,⟨og h.1,rfl,c⟩,.cons ⟨rfl,h.2⟩ q⟩
noncomputable def Zfr (trs:List (TE×TE)):TE:=λσ H Q=>∀ p,H p=none->mU trs σ (upd H p (.dK [])) λps H2=>H2 p=some (.dK [])/\∃ kvs:List (b8×V),ps=kvs.map (λkv=>(kV kv.1,kv.2))/\kvs.length<=15/\Q (.ref p) (upd H2 p (.dK (iM [] kvs)))
theorem Zb9 {X:Cx} {pos:Pos} {keys:List (Option Expr)} {values:List Expr} {trs:List (TE×TE)} (h:mx X pos keys values trs) (hall:keys.all (·.isSome)=true) (hl:keys.length=values.length) (h0:keys≠[])
  (h15:keys.length<=15):PE X (.Dict keys values pos) (Zfr trs):=by
 intro pins s σ H Q I q
 have hn:=I.hok.fresh (Nat.le_refl s.heap.objs.size)
 have I1:=I.laid (a:=s.heap.objs.size) (o:=.dK []) (h':=s.heap.push { cls:=.type "dict",data:=.dict #[] }) (t':=s.toks) (λ_ _ q=>Heap.get?_push_of_some _ q) (Nat.le_refl _) (Zdn s.heap I.big)
 refine wpAny_Dict_walk (knd:=fO X.prog X.w) hall hl h0 h15 (thn (h pins _ σ _ _ I1 (q _ hn)) λws s2 hz0=>?_)
 obtain ⟨ps,H2,I2,rel,e,kvs,ep,lk,q2⟩:=hz0
 subst ep
 obtain ⟨rs,c,rk⟩:=ZdE (P:=X.prog) (w:=X.w) rel
 obtain ⟨z,hd,vs0,r0,dd⟩:=Zdl I2.hok e
 cases r0
 refine ⟨rs,c,dd,λh' dd' hs=>⟨.ref s.heap.objs.size,_,?_,rfl,q2⟩⟩
 have hz:(iM [] kvs).length<=sizeLine:=by
  have h1:=ZcG kvs []
  rw [List.length_nil] at h1
  rw [sizeLine_eq]; omega
 have he:∃ q,h'.get? s.heap.objs.size=some q:=let ⟨q,_,_,hq,_⟩:=dd'; ⟨q,hq⟩
 exact r8 I2 (by rw [e]; exact True.intro) hs he (Zdm hz hd (rk.merge .nil) dd')
structure M1 (X:Cx) (o:Expr) (m:Str) (apos:Pos) (e:Expr) (cpos:Pos):Prop where
 base:attributeBase o m X.env (eval o X.env)=eval o X.env
 few:((backTo cpos (starEach [e] X.env)).all (λx=>!x.1) && (backToKw cpos (keywordEach [] X.env)).all (λx=>x.1.isSome)
  && decide (([e]:List Expr).length+([]:List Keyword).length+(if ([]:List Keyword).isEmpty then 0 else 1) < 30))=true
 line:(apos.endLine == cpos.line)=true
 trees:backTo cpos (starEach [e] X.env)=[(false,eval e X.env)]
structure M2 (X:Cx) (o:Expr) (m:Str) (apos:Pos) (e f:Expr) (cpos:Pos):Prop where
 base:attributeBase o m X.env (eval o X.env)=eval o X.env
 few:((backTo cpos (starEach [e,f] X.env)).all (λx=>!x.1) && (backToKw cpos (keywordEach [] X.env)).all (λx=>x.1.isSome)
  && decide (([e,f]:List Expr).length+([]:List Keyword).length+(if ([]:List Keyword).isEmpty then 0 else 1) < 30))=true
 line:(apos.endLine == cpos.line)=true
 trees:backTo cpos (starEach [e,f] X.env)=[(false,eval e X.env),(false,eval f X.env)]
section
variable {X:Cx} {pins:List (Addr×Obj)} {σ:St} {H:Hp} {s:Shared} {a:Addr} {y d:V} {u r:Value} {o:Option V} {A:Around} {E:Value->Shared->Prop}
end
section
variable {X:Cx} {o e f:Expr} {apos cpos:Pos} {td ty tx:TE}
end
section
variable {X:Cx} {pins:List (Addr×Obj)} {σ:St} {H:Hp} {s:Shared} {a:Addr} {kvs:List (b8×V)} {A:Around} {E:Value->Shared->Prop}
end
section
variable {X:Cx} {pins:List (Addr×Obj)} {σ:St} {H:Hp} {s:Shared} {a:Addr} {y:V} {u:Value} {A:Around} {E:Value->Shared->Prop}
end
end L2
namespace Att
open PySem PySem.W PySem.Calls PyProof.Rows
theorem ints_of_wellAll {P:Params} {h:Heap}:∀ (ns:List Int) (vs:List Value),WellAll P h vs (ns.map WData.int)->IntsAre vs ns:=by
 intro ns
 induction ns with
 | nil =>
  intro vs w
  rw [List.map_nil] at w
  cases w
  exact .nil
 | cons n ns ih =>
  intro vs w
  rw [List.map_cons] at w
  cases w with
  | cons a b =>
   cases a
   exact .cons _ _ (ih _ b)
theorem script_of {l:OpenLaw} {n:Nat} (hn:l.most=some n) {P:Params} {h:Heap} {args:List WData} {vals:List Value}
  (hpre:l.row.toRowW.claim.pre args=true) (hwl:WellAll P h vals args) :
  ∃ a vs ns,vals=[Value.ref a]/\args=[WData.list (ns.map WData.int)]/\h.get? a=some { cls:=.type "list",data:=.seq vs.toArray }/\IntsAre vs ns/\ns.length<=n:=by
 have hsh:WShape.hasAll [] args [.list .int]=true:=(pre_splitW hpre).1
 have hc:l.pre.holds [] { args:=args }=true:=(pre_splitW hpre).2
 obtain ⟨d,r,rfl,h1,h2⟩:=hasAllW_cons hsh
 obtain rfl:=hasAllW_nil h2
 obtain ⟨xs,rfl,h3⟩:=hasW_list h1
 obtain ⟨ns,rfl⟩:=items_int h3
 have hlen:ns.length<=n:=by
  unfold OpenLaw.pre at hc
  have h4:(WTm.not (.lt (.lit (.int (n:Int))) (.len (.arg 0)))).holds [] { args:=[.list (ns.map .int)] }=true:=by
   have h4:=(holds_andW hc).1
   rw [hn] at h4
   exact h4
  have h5:=condW_of h4 (w_not (w_lt w_lit (w_len_list (w_arg rfl))))
  rw [List.length_map] at h5
  refine Nat.le_of_not_lt λq=>?_
  have q':(n:Int) < ((ns.length:Nat):Int):=by omega
  first
   | (rw [decide_eq_true q'] at h5; exact absurd h5 (by decide))
   | (simp at h5; omega)
 cases hwl with
 | cons w1 w2 =>
  cases w2
  cases w1 with
  | list ho hall=>exact ⟨_,_,ns,rfl,rfl,ho,ints_of_wellAll ns _ hall,hlen⟩
theorem post_true (l:OpenLaw) (args:List WData):l.row.toRowW.claim.post args (.bool true) args=true :=
 postW_of (r:=l.row.toRowW) (X:=(true == true))
  (show WShape.has [] (.bool true) .bool=true by first | rfl | decide | simp [WShape.has,WShape.arms,WShape.armsAll])
  (show (WTm.eq .res (.lit (.bool true))).value [] { args:=args,res:=some (.bool true),after:=args }=some (.bool (true == true)) from w_eq_bool (w_res rfl) w_lit) rfl
theorem attach_call {l:OpenLaw} {n:Nat} {q:Program} {loose:List Str} {XP:(Str->Option Value)->Heap->Prop} {YP:World->Heap->Prop} {d:DefRec}
  (hn:l.most=some n) (hdf:d.params.defaults=[])
  (call:∀ (w:World) (s₀ s₁:Shared) (mg mb:Str->Option Value) (fa:Addr) (o:Obj) (pm cd doc:Value) (a:Addr) (vs:List Value) (ns:List Int),
   Ground q loose [] XP w s₀ mg mb s₁.heap->YP w s₁.heap ->
   s₁.heap.get? fa=some o->o.data=.func (docDef d.name d.params d.body d.scope pm cd doc)->s₁.heap.CodeRec cd d.name->mg d.name=some (.ref fa) ->
   s₁.heap.get? a=some { cls:=.type "list",data:=.seq vs.toArray }->IntsAre vs ns->ns.length<=n->s₁.gens=#[] ->
   codeAny (model l.prog w) callerA (.call (.ref fa) ⟨[.ref a],[]⟩) (λr s'=>r=.ok (.ret (.bool true))/\OldK s₁.heap s'.heap/\s'.os=s₁.os/\AllBare s'.gens) s₁) :
  WalkO q loose XP YP l.row.toRowW d [] (λf vs=>PySem.call f vs):=by
 intro w s₀ s₁ mg mb G Y fa o pm cd doc dV kV ho hd hcd hD hmg hg args vals as hpre hlay hrd hwl hlo
 obtain rfl:dV=.none:=Dflts.none hD hdf
 obtain rfl:kV=.none:=Dflts.noKw hD
 obtain ⟨a,vs,ns,rfl,rfl,hobj,hints,hlen⟩:=script_of hn hpre hwl
 refine enter_call (codeAny_mono (call w s₀ s₁ mg mb fa o pm cd doc a vs ns G Y ho (fd_plain hd) hcd hmg hobj hints hlen hg) λr s' hq=>?_)
 obtain ⟨rfl,h2,h3,h4⟩:=hq
 exact ⟨.inl ⟨.bool true,.bool true,[],rfl,λ_=>rfl,.bool true,post_true l _,λ_=>⟨List.Pairwise.nil,λ_ hm=>(nomatch hm)⟩⟩,h2,h3,h4⟩
section
variable {prog:Program} {w:World} {A:Around} {E:Value->Shared->Prop} {s:Shared} {K:Frag}
end
end Att
namespace L2
open PySem PySem.Spec PyProof.Rows
theorem ZeV {vs:List Value} {ns:List Int} (h:IntsAre vs ns):Vals (ns.map V.int) vs:=by
 induction h with
 | nil=>exact .nil
 | cons n t h ih=>exact .cons ⟨t,rfl⟩ ih
noncomputable def Znj (H:Hp):Prop:=∀ b,H b=none\/∃ o xs,H b=some (.frz o (.lst xs))
noncomputable abbrev lw {K:PySem.W.Frag} {h:Heap} (_:K.In h):PySem.W.Frag:=K
noncomputable def kg (s:Stmt) (j:Nat):Stmt:=match s with
 | .ClassDef _ _ _ body _ _ _ _ _ _ _=>body.getD j (.Pass ⟨0,0,0,0⟩)
 | _=>.Pass ⟨0,0,0,0⟩
noncomputable def fm (s:Stmt):Arguments:=match s with
 | .FunctionDef _ a _ _ _ _ _ _ _ _=>a
 | _=>{ posonlyargs:=[],args:=[],vararg:=none,kwonlyargs:=[],kw_defaults:=[],kwarg:=none,defaults:=[] }
noncomputable def eD (s:Stmt):List Stmt:=match s with
 | .FunctionDef _ _ b _ _ _ _ _ _ _=>b
 | _=>[]
noncomputable def bZ (s:Stmt):Scope:=match s with
 | .FunctionDef _ _ _ _ _ _ sc _ _ _=>sc
 | _=>{ kind:=.function,names:=[],isGenerator:=false,isCoroutine:=false }
noncomputable abbrev eS:gA:=λ_ _ _ _ _ _=>False
noncomputable abbrev E0:XK:=λ_ _ _=>False
theorem lI {X:Cx}:g9 eS X E0:=λ_ _ _ _ _ _ _ h=>h.elim
structure Fun (K:PySem.W.Frag) (x qual:Str) (st:Stmt) (f:Addr) (fd:FuncData):Prop where
 ex:∃ (oc:Value) (od:Option Addr) (kV doc pm:Value) (an:Option Addr) (cdv ct:Value) (osl:Array (Option Value)),
  fd=PySem.W.fnOf x qual (fm st) (eD st) (bZ st) .none kV doc pm an cdv ct/\K.lookup f=some ⟨oc,od,.func fd,osl⟩/\PySem.W.codeIn K cdv qual=true
 kp:PySem.W.keepIn K (.ref f)=true
section
variable {P:Program} {w:World} {K:PySem.W.Frag} {mg:Str->Option Value} {base:Heap}
theorem Fun.ok {x qual:Str} {st:Stmt} {f:Addr} {fd:FuncData} {N ps:List Str} {k:Nat} {sp:Sp} (F:Fun K x qual st f fd) (S:FnScope N ps (bZ st)) (len:∀ vs H Q E,sp vs H Q E->vs.length=ps.length)
  (hbody:∀ (cdv:Value) (A:Around) (outer:List Env) (s:Shared) (H:Hp) (vs:List V) (Q:VK) (E:XK),Room k (A.deeper (envOfC qual (bZ st) s.heap.objs.size f cdv))->sp vs H Q E ->
   ∃ t,PSs (fq eS P w K mg base N qual (bZ st) f cdv A outer s H E).nox (eD st) t/\t { nx:=λ_ H'=>Q .non H',rt:=Q } (start N vs) H):FnOk P w K mg base eS (k+1) f fd ps sp:=by
 obtain ⟨oc,od,kV,doc,pm,an,cdv,ct,osl,rfl,lk,hcd⟩:=F.ex
 refine rO lk hcd S len λA outer s H vs Q E hr hsp=>?_
 obtain ⟨t,h,q⟩:=hbody cdv A outer s H vs Q E hr hsp
 exact ⟨t,h.nox,q⟩
theorem Fun.binds {x qual:Str} {st:Stmt} {f:Addr} {fd:FuncData} {ps:List Str} (F:Fun K x qual st f fd)
  (h:∀ (kV doc pm:Value) (an:Option Addr) (cdv ct:Value) (us:List Value),us.length=ps.length->bindArgs (PySem.W.fnOf x qual (fm st) (eD st) (bZ st) .none kV doc pm an cdv ct) ⟨us,[]⟩=pure (ps.zip us)):Binds K fd ps []:=by
 obtain ⟨oc,od,kV,doc,pm,an,cdv,ct,osl,rfl,lk,hcd⟩:=F.ex
 exact .all (h kV doc pm an cdv ct)
theorem ow {x qual:Str} {st:Stmt} {f:Addr} {oc:Value} {od an:Option Addr} {osl:Array (Option Value)} {kV doc pm cdv ct:Value} (l:K.lookup f=some ⟨oc,od,.func (PySem.W.fnOf x qual (fm st) (eD st) (bZ st) .none kV doc pm an cdv ct),osl⟩)
  (c:PySem.W.codeIn K cdv qual=true) (k:PySem.W.keepIn K (.ref f)=true):Fun K x qual st f (PySem.W.fnOf x qual (fm st) (eD st) (bZ st) .none kV doc pm an cdv ct):=⟨⟨oc,od,kV,doc,pm,an,cdv,ct,osl,rfl,l,c⟩,k⟩
end
theorem dR {A:Around} {k:Nat} (hr:Room k A):A.units+1 < cLine:=Nat.lt_of_le_of_lt (Nat.add_le_add_left (by decide:1<=64) _) hr.units
section
variable {X:Cx}
theorem pv (i:Nat) {x:Str} {pos:Pos} (hN:X.N[i]?=some x:=by rfl) (hv:mv X.env.scope x:=by first | exact Or.inl rfl | exact Or.inr (Or.inl rfl) | exact Or.inr (Or.inr rfl)) (hd:(x == ("__debug__":Str))=false:=by decide)
  (hcd:(x == ("__classdict__":Str))=false:=by decide):PE X (.Name x pos) (iB i):=Zha hN hv hd hcd
end
theorem ZiJ {A B:Prop} (h:B):if false=true then A else B:=by
 rw [if_neg Bool.false_ne_true]
 exact h
theorem oh {c A B:Prop} [Decidable c] (h1:c->A) (h2:¬ c->B):if c then A else B:=by
 by_cases h:c
 ·rw [if_pos h]
  exact h1 h
 ·rw [if_neg h]
  exact h2 h
theorem ZiI {c A B:Prop} [Decidable c] (hc:c) (h:B):if (!decide c)=true then A else B:=by
 rw [decide_eq_true hc]
 exact ZiJ h
noncomputable def Same (H H':Hp):Prop:=∀ b o,H b=some o->H' b=some o
theorem Same.refl (H:Hp):Same H H:=λ_ _ h=>h
theorem Same.free {H H':Hp} (e:Same H H') {l:Addr} (h:H' l=Option.none):H l=Option.none:=by
 cases q:H l with
 | none=>rfl
 | some o =>
  rw [e l o q] at h
  cases h
theorem Same.seq {K:PySem.W.Frag} {H H':Hp} {a:Addr} {xs:List V} (e:Same H H') (h:SqL K H a xs):SqL K H' a xs:=by
 rcases h with (h | ⟨o,h⟩ | h) | h
 ·exact .inl (.inl (e _ _ h))
 ·exact .inl (.inr (.inl ⟨o,e _ _ h⟩))
 ·exact .inl (.inr (.inr (e _ _ h)))
 ·exact .inr h
structure Blk where
 cl:List (Str×Addr)
 C:Addr
 s:Shared
 H:Hp
 fp:List Addr
 pn:List (Addr×Obj)
noncomputable def d6 (X:Cx) (N:List Str) (scope:Scope) (b:Blk):Cx where
 prog:=X.prog
 w:=X.w
 K:=X.K
 mg:=X.mg
 base:=X.base
 A:=X.A
 N:=N
 s₀:=b.s
 H₀:=b.H
 env:=compEnvC scope b.cl b.C X.env
 outer:=X.stack
 stack:=X.stack
 ex:=b.fp
 fn:=λx=>scope.names.lookup x == some .cell
 calm:=X.calm
 pn:=b.pn
 xe:=λ_ _=>False
noncomputable def bN (Nx ts:List Str) (ix:List Nat):List Str:=ts++ix.map λj=>(Nx[j]?).getD Str.empty
noncomputable def fM (n:Nat) (ix:List Nat) (σ:St):St:=List.replicate n none++ix.map λj=>(σ[j]?).getD none
structure BlkOk (Nx:List Str) (sc scope:Scope) (ix:List Nat):Prop where
 kind:scope.kind=.function
 cells:∀ y∈scope.names,y.2=.cell->scope.names.lookup y.1=some .cell
 locs:∀ y∈scope.names,y.2=.local->scope.names.lookup y.1=some .local
 frees:∀ y∈scope.names,y.2=.free->sc.names.lookup y.1=some .cell\/sc.names.lookup y.1=some .free
 caps:∀ j∈ix,j < Nx.length/\scope.names.lookup ((Nx[j]?).getD Str.empty)=some .free
theorem rM {env:Env} {f:Str×NameKind->List (Str×Addr)->Sem (ForInStep (List (Str×Addr)))}
  (h1:∀ n k r,k≠NameKind.free->f (n,k) r=pure (.yield r)) (h2:∀ n r c,env.cells.lookup n=some c->f (n,NameKind.free) r=pure (.yield ((n,c)::r))) :
  ∀ (names:List (Str×NameKind)) (acc:List (Str×Addr)),(∀ y∈names,y.2=.free->∃ c,env.cells.lookup y.1=some c)->(∀ x c,acc.lookup x=some c->env.cells.lookup x=some c) ->
   ∃ cl,forIn names acc f=pure cl/\(∀ x c,cl.lookup x=some c->env.cells.lookup x=some c)/\(∀ y∈names,y.2=.free->∃ c,cl.lookup y.1=some c)/\∀ x c,acc.lookup x=some c->∃ c',cl.lookup x=some c'
 | [],acc,_,ha=>⟨acc,rfl,ha,(λ_ h=>nomatch h),λx c h=>⟨c,h⟩⟩
 | (n,k)::names,acc,hn,ha=>by
  have hn':∀ y∈names,y.2=.free->∃ c,env.cells.lookup y.1=some c:=λy hy=>hn y (List.mem_cons_of_mem _ hy)
  by_cases hk:k=.free
  ·subst hk
   obtain ⟨c,hc⟩:=hn (n,.free) List.mem_cons_self rfl
   have ha':∀ x d,((n,c)::acc).lookup x=some d->env.cells.lookup x=some d:=λx d e=>by
    rw [List.lookup_cons] at e
    cases hx:x == n with
    | true =>
     rw [hx] at e
     have hxn:x=n:=by simpa using hx
     subst hxn
     cases e
     exact hc
    | false =>
     rw [hx] at e
     exact ha x d e
   obtain ⟨cl,e,p1,p2,p3⟩:=rM h1 h2 names ((n,c)::acc) hn' ha'
   refine ⟨cl,?_,p1,λy hy hf=>?_,λx d hx=>?_⟩
   ·rw [List.forIn_cons,h2 n acc c hc,pure_bind]
    exact e
   ·rcases List.mem_cons.mp hy with rfl | hy
    ·exact p3 n c (by simp)
    ·exact p2 y hy hf
   ·by_cases e1:x=n
    ·subst e1
     exact p3 x c (by simp)
    ·exact p3 x d (by rw [List.lookup_cons,beq_false_of_ne e1]; exact hx)
  ·obtain ⟨cl,e,p1,p2,p3⟩:=rM h1 h2 names acc hn' ha
   refine ⟨cl,?_,p1,λy hy hf=>?_,p3⟩
   ·rw [List.forIn_cons,h1 n k acc hk,pure_bind]
    exact e
   ·rcases List.mem_cons.mp hy with rfl | hy
    ·exact absurd hf hk
    ·exact p2 y hy hf
theorem oA {scope:Scope} {env:Env} (hn:∀ y∈scope.names,y.2=.free->∃ c,env.cells.lookup y.1=some c) :
  ∃ cl,closureFor scope env=pure cl/\(∀ x c,cl.lookup x=some c->env.cells.lookup x=some c)/\∀ y∈scope.names,y.2=.free->∃ c,cl.lookup y.1=some c:=by
 unfold closureFor
 have key:=rM (env:=env) (f:=λ(x:Str×NameKind) (r:List (Str×Addr))=>match x with
  | (name,kind)=>if (kind == NameKind.free)=true then (do let a <- cellOf env name; pure (ForInStep.yield ((name,a)::r))) else pure (ForInStep.yield r))
  (λn k r hk=>by
   have hb:(k == NameKind.free)=false:=by simpa using hk
   show (if (k == NameKind.free)=true then _ else _)=_
   rw [hb]
   rfl)
  (λn r c hc=>by
   show (do let a <- cellOf env n; pure (ForInStep.yield ((n,a)::r)))=_
   unfold cellOf
   rw [hc]
   rfl) scope.names [] hn (λx c h=>by simp at h)
 obtain ⟨cl,e,p1,p2,_⟩:=key
 refine ⟨cl,?_,p1,p2⟩
 show (forIn scope.names [] _ >>= λr=>pure r)=pure cl
 exact (congrArg (λt=>t >>= λr=>pure r) e).trans (pure_bind _ _)
section
variable {X:Cx} {pins:List (Addr×Obj)} {σ:St} {H:Hp} {s:Shared}
theorem Zgv {scope:Scope} {env:Env} {x:Str} (h:scope.names.lookup x=some .free):(relabel scope env).names.lookup x=some .cell\/(relabel scope env).names.lookup x=some .free:=by
 unfold relabel
 show List.lookup x (scope.names.map _)=_\/List.lookup x (scope.names.map _)=_
 generalize scope.names=l at h
 induction l with
 | nil=>simp at h
 | cons p r ih =>
  obtain ⟨n,k⟩:=p
  rw [List.map_cons]
  cases hx:x == n with
  | true =>
   rw [List.lookup_cons,hx] at h
   have hk:k=.free:=by simpa using h
   subst hk
   by_cases hc:(NameKind.free == NameKind.free && env.scope.kind == .function && env.kindOf n == some .cell)=true
   ·refine .inl ?_
    show List.lookup x ((if (NameKind.free == NameKind.free && env.scope.kind == .function && env.kindOf n == some .cell)=true then (n,NameKind.cell) else (n,NameKind.free))::_)=_
    rw [if_pos hc,List.lookup_cons,hx]
   ·refine .inr ?_
    show List.lookup x ((if (NameKind.free == NameKind.free && env.scope.kind == .function && env.kindOf n == some .cell)=true then (n,NameKind.cell) else (n,NameKind.free))::_)=_
    rw [if_neg hc,List.lookup_cons,hx]
  | false =>
   rw [List.lookup_cons,hx] at h
   have key:∀ q:Str×NameKind,(q=(n,NameKind.cell)\/q=(n,k))->∀ l',List.lookup x (q::l')=List.lookup x l':=λq hq l'=>by
    rcases hq with rfl | rfl <;> rw [List.lookup_cons,hx]
   have hq:(if (k == NameKind.free && env.scope.kind == .function && env.kindOf n == some .cell)=true then (n,NameKind.cell) else (n,k))=(n,NameKind.cell)\/(if (k == NameKind.free && env.scope.kind == .function && env.kindOf n == some .cell)=true then (n,NameKind.cell) else (n,k))=(n,k):=by
    split
    ·exact .inl rfl
    ·exact .inr rfl
   rcases ih h with z | z
   ·exact .inl ((key _ hq _).trans z)
   ·exact .inr ((key _ hq _).trans z)
theorem Zgw {scope:Scope} {env:Env} {x:Str} (h:(relabel scope env).names.lookup x=some .cell\/(relabel scope env).names.lookup x=some .free):∃ y∈scope.names,y.1=x/\(y.2=.free\/y.2=.cell):=by
 unfold relabel at h
 have h':List.lookup x (scope.names.map λ(n,k)=>if (k == .free && env.scope.kind == .function && env.kindOf n == some .cell) then (n,NameKind.cell) else (n,k))=some .cell\/List.lookup x (scope.names.map λ(n,k)=>if (k == .free && env.scope.kind == .function && env.kindOf n == some .cell) then (n,NameKind.cell) else (n,k))=some .free:=h
 clear h
 generalize scope.names=l at h'
 induction l with
 | nil=>simp at h'
 | cons p r ih =>
  obtain ⟨n,k⟩:=p
  rw [List.map_cons] at h'
  cases hx:x == n with
  | true =>
   have hxn:x=n:=by simpa using hx
   by_cases hk:k=.free
   ·exact ⟨(n,k),List.mem_cons_self,hxn.symm,.inl hk⟩
   ·
    have hb:(k == NameKind.free)=false:=by simpa using hk
    have e:(if (k == NameKind.free && env.scope.kind == .function && env.kindOf n == some .cell)=true then (n,NameKind.cell) else (n,k))=(n,k):=by
     rw [hb]
     rfl
    have h2:List.lookup x ((n,k)::r.map λ(n,k)=>if (k == .free && env.scope.kind == .function && env.kindOf n == some .cell) then (n,NameKind.cell) else (n,k))=some .cell\/List.lookup x ((n,k)::r.map λ(n,k)=>if (k == .free && env.scope.kind == .function && env.kindOf n == some .cell) then (n,NameKind.cell) else (n,k))=some .free:=by
     rw [<- e]
     exact h'
    rw [List.lookup_cons,hx] at h2
    rcases h2 with z | z
    ·exact ⟨(n,k),List.mem_cons_self,hxn.symm,.inr (Option.some.inj z)⟩
    ·exact absurd (Option.some.inj z) hk
  | false =>
   have hq:∀ q:Str×NameKind,(q=(n,NameKind.cell)\/q=(n,k))->∀ l',List.lookup x (q::l')=List.lookup x l':=λq hq l'=>by
    rcases hq with rfl | rfl <;> rw [List.lookup_cons,hx]
   have hqq:(if (k == NameKind.free && env.scope.kind == .function && env.kindOf n == some .cell)=true then (n,NameKind.cell) else (n,k))=(n,NameKind.cell)\/(if (k == NameKind.free && env.scope.kind == .function && env.kindOf n == some .cell)=true then (n,NameKind.cell) else (n,k))=(n,k):=by
    split
    ·exact .inl rfl
    ·exact .inr rfl
   obtain ⟨y,hy,e⟩:=ih (by
    rcases h' with z | z
    ·exact .inl ((hq _ hqq _).symm.trans z)
    ·exact .inr ((hq _ hqq _).symm.trans z))
   exact ⟨y,List.mem_cons_of_mem _ hy,e⟩
theorem Zmj:∀ (names:List (Str×NameKind)) (h:Heap) (acc:List (Str×Addr)),
  (∀ x c,(cellsFrom h.objs.size names acc).lookup x=some c->acc.lookup x=some c\/(h.objs.size<=c/\(pushCells h names).IsCell c none/\(x,NameKind.cell)∈names)) /\
  (∀ x,((x,NameKind.cell)∈names\/∃ c,acc.lookup x=some c)->∃ c,(cellsFrom h.objs.size names acc).lookup x=some c) /\
  (∀ x c,(x,NameKind.cell)∈names->(cellsFrom h.objs.size names acc).lookup x=some c->h.objs.size<=c) /\
  ((∀ x c,acc.lookup x=some c->c < h.objs.size)->(∀ x y c,acc.lookup x=some c->acc.lookup y=some c->x=y)->∀ x y c,(cellsFrom h.objs.size names acc).lookup x=some c->(cellsFrom h.objs.size names acc).lookup y=some c->x=y):=by
 intro names
 induction names with
 | nil=>intro h acc; exact ⟨λx c e=>.inl e,λx e=>by rcases e with e | e; cases e; exact e,λx c e=>(by cases e),λ_ i=>i⟩
 | cons p r ih =>
  obtain ⟨name,kind⟩:=p
  intro h acc
  unfold cellsFrom pushCells
  by_cases hk:kind=.cell
  ·subst hk
   have hk':((NameKind.cell == NameKind.cell)=true):=rfl
   rw [if_pos hk',if_pos hk']
   have ih':=ih (h.push { cls:=.type "cell",data:=.cell none }) ((name,h.objs.size)::acc)
   rw [Heap.size_push] at ih'
   obtain ⟨i1,i2,i4,i3⟩:=ih'
   refine ⟨λx c e=>?_,λx e=>?_,λx c e1 e2=>?_,λhb hi=>i3 (λx c e=>?_) λx y c e1 e2=>?_⟩
   ·rcases i1 x c e with z | ⟨z1,z2,z3⟩
    ·rw [List.lookup_cons] at z
     cases hx:x == name with
     | true =>
      rw [hx] at z
      have hxn:x=name:=by simpa using hx
      cases z
      exact .inr ⟨Nat.le_refl _,⟨_,pushCells_keeps _ _ _ _ (Heap.get?_push_size _ rfl),rfl⟩,by rw [hxn]; exact List.mem_cons_self⟩
     | false=>rw [hx] at z; exact .inl z
    ·exact .inr ⟨by omega,z2,List.mem_cons_of_mem _ z3⟩
   ·refine i2 x ?_
    by_cases hx:x=name
    ·exact .inr ⟨h.objs.size,by rw [List.lookup_cons,hx]; simp⟩
    ·rcases e with e | ⟨c,e⟩
     ·rcases List.mem_cons.mp e with q | q
      ·exact absurd (congrArg Prod.fst q) hx
      ·exact .inl q
     ·exact .inr ⟨c,by rw [List.lookup_cons,beq_false_of_ne hx]; exact e⟩
   ·rcases i1 x c e2 with z | ⟨z,_,_⟩
    ·rw [List.lookup_cons] at z
     cases hx:x == name with
     | true=>rw [hx] at z; cases z; exact Nat.le_refl _
     | false =>
      have hxn:x≠name:=by simpa using hx
      rcases List.mem_cons.mp e1 with q | q
      ·exact absurd (congrArg Prod.fst q) hxn
      ·exact Nat.le_of_succ_le (i4 x c q e2)
    ·exact Nat.le_of_succ_le z
   ·rw [List.lookup_cons] at e
    cases hx:x == name with
    | true=>rw [hx] at e; cases e; exact Nat.lt_succ_self _
    | false=>rw [hx] at e; exact Nat.lt_succ_of_lt (hb x c e)
   ·rw [List.lookup_cons] at e1 e2
    cases hx:x == name with
    | true =>
     have hxn:x=name:=by simpa using hx
     rw [hx] at e1
     cases e1
     cases hy:y == name with
     | true =>
      have hyn:y=name:=by simpa using hy
      rw [hxn,hyn]
     | false=>rw [hy] at e2; exact absurd (hb y _ e2) (Nat.lt_irrefl _)
    | false =>
     rw [hx] at e1
     cases hy:y == name with
     | true=>rw [hy] at e2; cases e2; exact absurd (hb x _ e1) (Nat.lt_irrefl _)
     | false=>rw [hy] at e2; exact hi x y c e1 e2
  ·have hk':¬ ((kind == NameKind.cell)=true):=by simpa using hk
   rw [if_neg hk',if_neg hk']
   obtain ⟨i1,i2,i4,i3⟩:=ih h acc
   refine ⟨λx c e=>?_,λx e=>i2 x ?_,λx c e1 e2=>?_,i3⟩
   ·rcases i1 x c e with z | ⟨z1,z2,z3⟩
    ·exact .inl z
    ·exact .inr ⟨z1,z2,List.mem_cons_of_mem _ z3⟩
   ·rcases e with e | e
    ·rcases List.mem_cons.mp e with q | q
     ·exact absurd (congrArg Prod.snd q).symm hk
     ·exact .inl q
    ·exact .inr e
   ·rcases List.mem_cons.mp e1 with q | q
    ·exact absurd (congrArg Prod.snd q).symm hk
    ·exact i4 x c q e2
theorem Zag {M:Model} {A:Around} {E:Value->Shared->Prop} {s:Shared} {scope:Scope} {globals:Addr} {cl:List (Str×Addr)} {qual:Str} {outer:Env} {Q:Env->Shared->Prop}
  (h:Q { scope:=scope,locals:=s.heap.objs.size,globals:=globals,cells:=cellsFrom (s.heap.objs.size+1) scope.names cl,qual:=qual,func:=none,code:=outer.code,frame:=outer.frame,builtins:=outer.builtins } { s with heap:=pushCells (s.heap.push { cls:=.type "dict",data:=.dict #[] }) scope.names }) :
  wpAny M A (newFunctionEnv scope globals cl [] qual none .none (some outer)) Q E s:=by
 simp only [newFunctionEnv,Option.isSome_some,if_true]
 refine wpAny_bind (wpAny_alloc ?_)
 refine wpAny_bind (wpAny_layCells _ (λname kind cells=>by cases hkc:kind == NameKind.cell <;> simp [hkc]) _ _ _ _ ?_)
 rw [show ({ s with heap:=s.heap.push { cls:=.type "dict",data:=.dict #[] } }:Shared).heap.objs.size=s.heap.objs.size+1 from Heap.size_push ..]
 rw [List.forIn_nil]
 exact wpAny_bind (wpAny_pure (wpAny_pure h))
theorem ZmM {Nx ts:List Str} {ix:List Nat} {i:Nat} {x:Str} (h:(bN Nx ts ix)[i]?=some x) (hi:ts.length<=i):∃ j,ix[i - ts.length]?=some j/\x=(Nx[j]?).getD Str.empty:=by
 unfold bN at h
 rw [List.getElem?_append_right hi,List.getElem?_map] at h
 cases e:ix[i - ts.length]? with
 | none=>rw [e] at h; cases h
 | some j=>rw [e] at h; exact ⟨j,rfl,(Option.some.inj h).symm⟩
theorem ZiQ {scope:Scope} {cl:List (Str×Addr)} {fp:List Addr} {C:Addr} {h3:Heap} {tk:Nat} {m:Str->Option Value} {Nx ts:List Str} {ix:List Nat}
  (I:Inv X pins σ H s) (hNx:X.N=Nx) (ok:BlkOk Nx X.env.scope scope ix) (cs1:∀ x c,cl.lookup x=some c->X.env.cells.lookup x=some c\/(C < c/\h3.IsCell c none/\(x,NameKind.cell)∈scope.names)) (csI:∀ x y c,cl.lookup x=some c->cl.lookup y=some c->x=y) (cl2:∀ y∈scope.names,(y.2=.free\/y.2=.cell)->∃ c,cl.lookup y.1=some c) (csA:∀ x c,(x,NameKind.cell)∈scope.names->cl.lookup x=some c->C<=c)
  (hf:∀ b∈fp,hI X pins H b) (hfs:∀ b∈fp,b < s.heap.objs.size) (hC:s.heap.objs.size<=C) (kp:∀ b o,s.heap.get? b=some o->h3.get? b=some o) (hns:h3.Ns C m) :
  Inv (d6 X (bN Nx ts ix) scope ⟨cl,C,s,H,fp,X.pn++pins⟩) [] (fM ts.length ix σ) H { s with heap:=h3,toks:=tk }:=by
 have below:∀ {b:Addr},b < s.heap.objs.size->b≠C:=λhb=>Nat.ne_of_lt (Nat.lt_of_lt_of_le hb hC)
 have nstk:∀ b,b≠X.env.locals->b ∉ X.fs->b ∉ frs X.stack:=λb h1 h2 hb=>by
  rcases List.mem_cons.mp (I.stkSub b hb) with z | z
  ·exact h1 z
  ·exact h2 z
 refine ⟨⟨I.ok.mod,?_,I.ok.glob,I.ok.blt,hC,csI,λx hx=>?_,λx c hfn e=>Nat.le_trans hC (csA x c (PySem.mem_of_lookup (eq_of_beq hfn)) e),I.ok.hd,I.ok.frames,.inl rfl,λb hb=>⟨below (hfs b hb),λx c e=>by
  rcases cs1 x c e with z | ⟨z,_,_⟩
  ·exact (hf b hb).2.2.2.2.1 x c z
  ·exact Nat.ne_of_gt (Nat.lt_of_lt_of_le (hfs b hb) (Nat.le_trans hC (Nat.le_of_lt z)))⟩,I.bs,Nat.le_trans I.ok.bsz I.sz,λb o e hb=>?_,λb hb=>nstk b (hf b hb).2.1 (hf b hb).2.2.1,I.stack,I.stkFree⟩,
  rfl,I.bare,Un.kept kp,⟨m,hns,λi x v h1 h2 h3'=>?_⟩,λx c e=>?_,I.hok.fresh hC,λx c e=>by
  rcases cs1 x c e with z | ⟨z,_,_⟩
  ·exact I.freeC x c z
  ·exact I.hok.fresh (Nat.le_trans hC (Nat.le_of_lt z)),λp hp=>?_,I.hok.kept kp,?_⟩
 ·exact ok.kind
 ·have hx':(relabel scope X.env).names.lookup x=some .cell\/(relabel scope X.env).names.lookup x=some .free:=hx
  obtain ⟨y,hy,e1,e2⟩:=Zgw hx'
  obtain ⟨c,hc⟩:=cl2 y hy e2
  exact ⟨c,by rw [<- e1]; exact hc⟩
 ·rcases (hf b hb).2.2.2.1 with z | z
  ·exact I.ok.noex b o e z
  ·exact absurd (Nat.lt_of_lt_of_le (Heap.lt_size e) (Nat.le_trans I.ok.bsz z)) (Nat.lt_irrefl _)
 ·have hi:ts.length<=i:=by
   rcases Nat.lt_or_ge i ts.length with z | z
   ·exfalso
    have h2':(fM ts.length ix σ)[i]?=some (some v):=h2
    unfold fM at h2'
    rw [List.getElem?_append_left (by simpa using z),List.getElem?_replicate] at h2'
    split at h2' <;> cases h2'
   ·exact z
  obtain ⟨j,hj,ex⟩:=ZmM h1 hi
  have h2':(fM ts.length ix σ)[i]?=some (some v):=h2
  unfold fM at h2'
  rw [List.getElem?_append_right (by simpa using hi),List.getElem?_map,List.length_replicate,hj] at h2'
  have hσ:σ[j]?=some (some v):=by
   have q:(σ[j]?).getD none=some v:=Option.some.inj h2'
   cases e:σ[j]? with
   | none=>rw [e] at q; cases q
   | some w=>rw [e] at q; exact congrArg some q
  obtain ⟨hjl,hfree⟩:=ok.caps j (List.mem_of_getElem? hj)
  have hNj:X.N[j]?=some x:=by
   rw [hNx,ex,List.getElem?_eq_getElem hjl]
   rfl
  rw [<- ex] at hfree
  obtain ⟨c,hc⟩:=cl2 (x,.free) (PySem.mem_of_lookup hfree) (.inl rfl)
  have cl1:X.env.cells.lookup x=some c:=by
   rcases cs1 x c hc with z | ⟨_,_,z⟩
   ·exact z
   ·have:=ok.cells _ z rfl
    rw [hfree] at this
    cases this
  have kx:=ok.frees (x,.free) (PySem.mem_of_lookup hfree) rfl
  obtain ⟨m0,hn0,hl0⟩:=I.loc
  obtain ⟨u,ru,look⟩:=hl0 j x v hNj hσ (by rcases kx with z | z; exact .inr (.inl z); exact .inr (.inr z))
  refine ⟨u,ru,.inr ⟨Zgv hfree,c,hc,?_⟩⟩
  rcases look with ⟨k1,_⟩ | ⟨_,c',hc',z⟩
  ·have k1':X.env.scope.names.lookup x=some .local:=k1
   rcases kx with z | z
   ·rw [k1'] at z; cases z
   ·rw [k1'] at z; cases z
  ·have e:=cl1
   rw [hc'] at e
   cases e
   obtain ⟨o,ho,hd⟩:=z
   exact ⟨o,kp _ _ ho,hd⟩
 ·rcases cs1 x c e with z | ⟨_,z,_⟩
  ·obtain ⟨v,o,ho,hd⟩:=I.cell x c z
   exact ⟨v,o,kp _ _ ho,hd⟩
  ·exact ⟨_,z⟩
 ·have hp':p∈X.pn++pins:=by simpa [d6] using hp
  obtain ⟨e,n,ne,nf,d⟩:=I.pin p hp'
  exact ⟨kp _ _ e,n,below (Heap.lt_size e),nstk _ ne nf,d⟩
 ·show (fM ts.length ix σ).length=(bN Nx ts ix).length
  unfold fM bN
  simp
theorem Inv.track {D:Addr} {ys:List V} {its:List Value} {n:Nat} (I:Inv X pins σ H s) (hD:H D=none) (ho:s.heap.get? D=some { cls:=.type "list",data:=.seq its.toArray n }) (r:Vals ys its) (hz:ys.length<=sizeLine)
  (hL:D≠X.env.locals) (hs0:X.s₀.heap.objs.size<=D) (hc:∀ x c,X.env.cells.lookup x=some c->c≠D) (hp:∀ p∈X.pn++pins,p.1≠D):Inv X pins σ (upd H D (.lst ys)) s:=by
 have ne:∀ {b:Addr} {o:HO},H b=some o->b≠D:=λe=>eT e hD
 refine I.step (g':=s.gens) (d':=s.drawn) (t':=s.toks) (h':=s.heap) (ch:=[D]) (λb hb=>?_) (λb o _ _ _ e _=>e) (λb o _ _ _ e _=>⟨o.slots,e⟩) (λb o hb e n=>?_) (λb o _ e=>⟨o,e⟩)
  (λb xs e=>by rw [ak (ne e)]; exact e) (λb o u e=>by rw [ak (ne e)]; exact e) (λb ps e=>⟨#[],by rw [ak (ne e),e]; simp⟩) (λm hm=>hm) (λb u e=>?_) I.bare
 ·have e:b=D:=by simpa using hb
  subst e
  exact ⟨.inr hs0,hL,hc,hp⟩
 ·have hb':b≠D:=by simpa using hb
  rw [ak hb']
  exact n
 ·by_cases hb:b=D
  ·subst hb
   rw [cr] at e
   cases e
   exact ⟨hz,its,n,r,ho⟩
  ·rw [ak hb] at e
   exact (I.hok b u e).stay (λc v _ q=>q) (λc q=>by rw [ak (ne q)]; exact q) (λc xs q=>by rw [ak (ne q)]; exact q) λc ob xs _ q _=>by rw [ak (ne q)]; exact q
end
theorem Zmg {prog:Program} {w:World} {A:Around} {R:Result->Shared->Prop} {s:Shared} {elt target iter:Expr} {scope:Scope} {pos:Pos} {it acc:Value} {env:Env} (J:Nat->Shared->Prop)
  (step:∀ k s0,J k s0->wpAny (model prog w) A (pyNext it) (λgot s1=>match got with
   | none=>R (.ok .next) s1
   | some v=>wpAny (model prog w) A (letOwnedTupleGo target it v) (λ_ s2=>wpAny (model prog w) A (assign target env v) (λ_ s3=>wpAny (model prog w) A (eval elt env) (λy s4 =>
     wpAny (model prog w) A (call (.builtin "list.append") [acc,y]) (λ_ s5=>∃ j,j < k/\J j s5) (λ_ _=>False) s4) (λ_ _=>False) s3) (λ_ _=>False) s2) (λ_ _=>False) s1) (λ_ _=>False) s0)
  (k:Nat) (h:J k s):codeAny (model prog w) A (.compLoop (.ListComp elt [⟨target,iter,[],0⟩] scope pos) 0 it acc env) R s:=by
 refine codeAny_loop rfl J (λk0 s0 hJ=>?_) k h
 show wpAny _ _ ((compTurn (.ListComp elt [⟨target,iter,[],0⟩] scope pos) 0 it acc env).onRaise (λx=>do noteFrame x env; theTreesLotGoes x)) _ _ s0
 apply wpAny_noted
 rw [compTurn_list1]
 refine wpAny_bind (wpAny_standAt (wpAny_bind (wpAny_mono (step k0 s0 hJ) (λgot s1 h1=>?_) λ_ _ z=>z.elim)))
 cases got with
 | none=>exact wpAny_pure h1
 | some v =>
  refine wpAny_bind (wpAny_mono h1 (λ_ s2 h2=>?_) λ_ _ z=>z.elim)
  refine wpAny_bind (wpAny_mono h2 (λ_ s3 h3=>?_) λ_ _ z=>z.elim)
  refine wpAny_bind (wpAny_bind (wpAny_mono h3 (λy s4 h4=>?_) λ_ _ z=>z.elim))
  exact wpAny_bind (wpAny_mono h4 (λ_ s5 h5=>wpAny_pure (wpAny_pure ⟨rfl,h5⟩)) λ_ _ z=>z.elim)
noncomputable def jJ (wi:TI) (n:Nat) (ix:List Nat) (g:Blk->TG) (te:Blk->TE):TE:=λσ H Q=>wi σ H λJ H1=>∀ b:Blk,∃ W:Nat->Nat->St->List V->Hp->Prop,(∃ m,W 0 m (fM n ix σ) [] H1)/\∀ i m τ ys H2,W i m τ ys H2 ->
 (J.stop i H2/\∀ p v H',H2 p=none->v=V.ref p->H'=upd H2 p (.lst ys)->Q v H') \/
 (J.go i H2/\ys.length < sizeLine/\∀ x H3,J.yld i H2 x H3->g b x τ H3 λτ2 H4=>te b τ2 H4 λy H5=>∃ m',m' < m/\W (i+1) m' τ2 (ys++[y]) H5)
section
variable {X:Cx} {pins:List (Addr×Obj)} {σ:St} {H:Hp} {s:Shared}
structure BlkS (X:Cx) (pins:List (Addr×Obj)) (σ:St) (Nx ts:List Str) (ix:List Nat) (scope:Scope) (s2:Shared) (H1:Hp) (fp:List Addr) (o0:Obj) (cs:List (Str×Addr)) (C:Addr) (h3:Heap):Prop where
 hC:s2.heap.objs.size<=C
 hDC:s2.heap.objs.size≠C
 I3:Inv (d6 X (bN Nx ts ix) scope ⟨cs,C,s2,H1,fp,X.pn++pins⟩) [] (fM ts.length ix σ) H1 { s2 with heap:=h3 }
 kp:∀ b o,s2.heap.get? b=some o->h3.get? b=some o
 hD3:h3.get? s2.heap.objs.size=some o0
 fC:H1 s2.heap.objs.size=none
 cellIn:∀ x c,cs.lookup x=some c->c≠s2.heap.objs.size
 pinIn:∀ p∈X.pn++pins,p.1 < s2.heap.objs.size
 nofrs:s2.heap.objs.size ∉ frs X.stack
 pinD:∀ {τ:St} {H':Hp} {s':Shared} {ob:Obj},Inv (d6 X (bN Nx ts ix) scope ⟨cs,C,s2,H1,fp,X.pn++pins⟩) [] τ H' s'->s'.heap.get? s2.heap.objs.size=some ob->H' s2.heap.objs.size=none->(∀ v,ob.data≠.cell v)->Inv (d6 X (bN Nx ts ix) scope ⟨cs,C,s2,H1,fp,X.pn++pins⟩) [(s2.heap.objs.size,ob)] τ H' s'
 stat:∀ {H':Hp} {ob:Obj},(∀ b∈fp,H' b=none)->∀ b∈fp,hI (d6 X (bN Nx ts ix) scope ⟨cs,C,s2,H1,fp,X.pn++pins⟩) [(s2.heap.objs.size,ob)] H' b
theorem ZdV {o0:Obj} {scope:Scope} {Nx ts:List Str} {ix:List Nat} {cl:List (Str×Addr)} {s2:Shared} {H1:Hp} {fp:List Addr} {G:Heap} (hNx:X.N=Nx) (ok:BlkOk Nx X.env.scope scope ix) (cl1:∀ x c,cl.lookup x=some c->X.env.cells.lookup x=some c) (cl2:∀ y∈scope.names,y.2=.free->∃ c,cl.lookup y.1=some c)
  (I2:Inv X pins σ H1 s2) (f2:∀ b∈fp,hI X pins H1 b) (hfs:∀ b∈fp,b < s2.heap.objs.size) (hG:s2.heap.push o0=G) (hfr:o0.isFreed=false:=by rfl):BlkS X pins σ Nx ts ix scope s2 H1 fp o0 (cellsFrom (G.objs.size+1) scope.names cl) G.objs.size (pushCells (G.push { cls:=.type "dict",data:=.dict #[] }) scope.names):=by
 have hGs:G.objs.size=s2.heap.objs.size+1:=by rw [<- hG,Heap.size_push]
 have kpG:∀ b o,G.get? b=some o->(pushCells (G.push { cls:=.type "dict",data:=.dict #[] }) scope.names).get? b=some o:=λb o e=>pushCells_keeps _ _ _ _ (Heap.get?_push_of_some _ e)
 have hns3:(pushCells (G.push { cls:=.type "dict",data:=.dict #[] }) scope.names).Ns G.objs.size (λ_=>none):=(Heap.Ns.new G (.type "dict")).keeps (pushCells_keeps _ _)
 obtain ⟨sp1,sp2,sp4,sp3⟩:=Zmj scope.names (G.push { cls:=.type "dict",data:=.dict #[] }) cl
 rw [Heap.size_push] at sp1 sp2 sp3 sp4
 generalize hh3:pushCells (G.push { cls:=.type "dict",data:=.dict #[] }) scope.names=h3 at kpG hns3 sp1 ⊢
 have kp:∀ b o,s2.heap.get? b=some o->h3.get? b=some o:=λb o e=>kpG b o (by rw [<- hG]; exact Heap.get?_push_of_some _ e)
 have hD3:h3.get? s2.heap.objs.size=some o0:=kpG _ _ (by rw [<- hG]; exact Heap.get?_push_size _ hfr)
 have clB:∀ x c,cl.lookup x=some c->c < G.objs.size+1:=λx c e=>by
  obtain ⟨v,q⟩:=I2.cell x c (cl1 x c e)
  exact Nat.lt_succ_of_lt (Nat.lt_of_lt_of_le q.lt (by rw [hGs]; exact Nat.le_succ _))
 have csI:=sp3 clB λx y c e1 e2=>I2.ok.inj x y c (cl1 x c e1) (cl1 y c e2)
 have cs1:∀ x c,(cellsFrom (G.objs.size+1) scope.names cl).lookup x=some c->X.env.cells.lookup x=some c\/(G.objs.size < c/\h3.IsCell c none/\(x,NameKind.cell)∈scope.names):=λx c e=>by
  rcases sp1 x c e with z | ⟨z1,z2,z3⟩
  ·exact .inl (cl1 x c z)
  ·exact .inr ⟨by omega,z2,z3⟩
 have cs2:∀ y∈scope.names,(y.2=.free\/y.2=.cell)->∃ c,(cellsFrom (G.objs.size+1) scope.names cl).lookup y.1=some c:=λy hy hk=>by
  refine sp2 y.1 ?_
  rcases hk with z | z
  ·exact .inr (cl2 y hy z)
  ·exact .inl (by rw [<- z]; exact hy)
 have csA:∀ x c,(x,NameKind.cell)∈scope.names->(cellsFrom (G.objs.size+1) scope.names cl).lookup x=some c->G.objs.size<=c:=λx c e1 e2=>Nat.le_of_succ_le (sp4 x c e1 e2)
 generalize hcs:cellsFrom (G.objs.size+1) scope.names cl=cs at csI cs1 cs2 csA ⊢
 generalize hCe:G.objs.size=C at hns3 cs1 csA ⊢
 have hC:s2.heap.objs.size<=C:=by omega
 have hDC:s2.heap.objs.size≠C:=by omega
 let B:Blk:=⟨cs,C,s2,H1,fp,X.pn++pins⟩
 have I3:Inv (d6 X (bN Nx ts ix) scope B) [] (fM ts.length ix σ) H1 { s2 with heap:=h3 }:=ZiQ I2 hNx ok cs1 csI cs2 csA f2 hfs hC kp hns3
 have fC:H1 s2.heap.objs.size=none:=I2.hok.fresh (Nat.le_refl _)
 have cellIn:∀ x c,cs.lookup x=some c->c≠s2.heap.objs.size:=λx c e=>by
  rcases cs1 x c e with z | ⟨z,_,_⟩
  ·obtain ⟨v,q⟩:=I2.cell x c z
   exact Nat.ne_of_lt q.lt
  ·exact Nat.ne_of_gt (Nat.lt_of_le_of_lt hC z)
 have pinIn:∀ p∈X.pn++pins,p.1 < s2.heap.objs.size:=λp hp=>Heap.lt_size (I2.pin p hp).1
 have nofrs:s2.heap.objs.size ∉ frs X.stack:=λhb=>by
  rcases List.mem_cons.mp (I2.stkSub _ hb) with z | z
  ·exact absurd I2.lt (by rw [<- z]; exact Nat.lt_irrefl _)
  ·exact I2.nofs (Nat.le_refl _) z
 -- a state with the list at its place,pinned
 have pinD:∀ {τ:St} {H':Hp} {s':Shared} {ob:Obj},Inv (d6 X (bN Nx ts ix) scope B) [] τ H' s'->s'.heap.get? s2.heap.objs.size=some ob->H' s2.heap.objs.size=none->(∀ v,ob.data≠.cell v)->Inv (d6 X (bN Nx ts ix) scope B) [(s2.heap.objs.size,ob)] τ H' s' :=
  λ{τ H' s' ob} I' ho hn hd=>I'.pins_of λp hp=>by
   have e:p=(s2.heap.objs.size,ob):=by simpa using hp
   subst e
   exact ⟨ho,hn,hDC,nofrs,hd⟩
 have stat:∀ {H':Hp} {ob:Obj},(∀ b∈fp,H' b=none)->∀ b∈fp,hI (d6 X (bN Nx ts ix) scope B) [(s2.heap.objs.size,ob)] H' b:=λ{H' ob} hn b hb=>by
  refine ⟨hn b hb,Nat.ne_of_lt (Nat.lt_of_lt_of_le (hfs b hb) hC),λz=>?_,.inl hb,λx c e=>by
   rcases cs1 x c e with z | ⟨z,_,_⟩
   ·exact (f2 b hb).2.2.2.2.1 x c z
   ·exact Nat.ne_of_gt (Nat.lt_of_lt_of_le (hfs b hb) (Nat.le_trans hC (Nat.le_of_lt z))),λp hp=>?_⟩
  ·rcases List.mem_cons.mp (I2.stkSub _ z) with q | q
   ·exact (f2 b hb).2.1 q
   ·exact (f2 b hb).2.2.1 q
  ·rcases List.mem_append.mp hp with z | z
   ·exact (f2 b hb).2.2.2.2.2 p z
   ·have e:p=(s2.heap.objs.size,ob):=by simpa using z
    subst e
    exact Nat.ne_of_gt (hfs b hb)
 exact ⟨hC,hDC,I3,kp,hD3,fC,cellIn,pinIn,nofrs,pinD,stat⟩
noncomputable def tE (X:Cx) (pins:List (Addr×Obj)) (σ:St) (Q:VK) (R:Value->Addr->Result->Shared->Prop):Prop:=∀ (D C:Addr) (H':Hp) (s':Shared) (v:V),Inv X pins σ H' s'->v=.ref D->Q v H'->(∃ m,s'.heap.Ns C m)->H' C=none->C≠X.env.locals->X.s₀.heap.objs.size<=C->(∀ x c,X.env.cells.lookup x=some c->c≠C)->(∀ p∈X.pn++pins,p.1≠C) ->
   R (.ref D) C (.ok .next) s'
theorem ZdU {scope:Scope} {Nx ts:List Str} {ix:List Nat} {cs:List (Str×Addr)} {C:Addr} {s2 s6:Shared} {H1 H5:Hp} {fp:List Addr} {τ:St} {ys:List V} {its:List Value} {n:Nat} {Q:VK} {R:Value->Addr->Result->Shared->Prop} (I2:Inv X pins σ H1 s2) (f2:∀ b∈fp,hI X pins H1 b) (hC:s2.heap.objs.size<=C) (hDC:s2.heap.objs.size≠C) (pinIn:∀ p∈X.pn++pins,p.1 < s2.heap.objs.size)
  (I6:Inv (d6 X (bN Nx ts ix) scope ⟨cs,C,s2,H1,fp,X.pn++pins⟩) [(s2.heap.objs.size,({ cls:=.type "list",data:=.seq (List.toArray its) n }:Obj))] τ H5 s6) (rv:Vals ys its) (hz:ys.length<=sizeLine) (hR:tE X pins σ Q R)
  (qn:∀ p v H',H5 p=none->v=V.ref p->H'=upd H5 p (.lst ys)->Q v H'):R (.ref s2.heap.objs.size) C (.ok .next) s6:=by
 obtain ⟨ho,hn,_,_,_⟩:=I6.pin (s2.heap.objs.size,({ cls:=.type "list",data:=.seq (List.toArray its) n }:Obj)) (List.mem_append_right _ (by simp))
 have I7:Inv X pins σ H5 s6:=I2.call' (ch:=fp) (H':=H5) (by exact I6.os) I6.base I6.hok I6.bare λb hb=>⟨(f2 b hb).2.2.2.1,(f2 b hb).2.1,(f2 b hb).2.2.2.2.1,(f2 b hb).2.2.2.2.2⟩
 have hs0:X.s₀.heap.objs.size<=s2.heap.objs.size:=I2.sz
 have I8:=I7.track hn ho rv hz (Nat.ne_of_gt I2.lt) hs0 (λx c e z=>by
  obtain ⟨v,q⟩:=I2.cell x c e
  exact absurd q.lt (by rw [z]; exact Nat.lt_irrefl _)) (λp hp=>Nat.ne_of_lt (pinIn p hp))
 obtain ⟨m6,hm6,_⟩:=I6.loc
 refine hR _ C _ s6 _ I8 rfl (qn _ _ _ hn rfl rfl) ⟨m6,hm6⟩ ?_ (λz=>?_) (Nat.le_trans hs0 hC) (λx c e z=>?_) λp hp=>Nat.ne_of_lt (Nat.lt_of_lt_of_le (pinIn p hp) hC)
 ·rw [ak (Ne.symm hDC)]
  exact I6.free
 ·exact absurd (Nat.lt_of_lt_of_le I2.lt hC) (by rw [z]; exact Nat.lt_irrefl _)
 ·obtain ⟨v,q⟩:=I2.cell x c e
  exact absurd (Nat.lt_of_lt_of_le q.lt hC) (by rw [z]; exact Nat.lt_irrefl _)
theorem ZcJ {elt target iter:Expr} {scope:Scope} {pos:Pos} {Nx ts:List Str} {ix:List Nat} {g:Blk->TG} {te:Blk->TE} {cl:List (Str×Addr)} {s2:Shared} {itv:Value} {R:Value->Addr->Result->Shared->Prop}
  {E:Value->Shared->Prop} {Q:VK}
  (hc:X.calm=true) (hg:∀ b,PG (d6 X (bN Nx ts ix) scope b) target (g b)) (he:∀ b,PE (d6 X (bN Nx ts ix) scope b) elt (te b))
  (hNx:X.N=Nx) (ok:BlkOk Nx X.env.scope scope ix) (cl1:∀ x c,cl.lookup x=some c->X.env.cells.lookup x=some c) (cl2:∀ y∈scope.names,y.2=.free->∃ c,cl.lookup y.1=some c)
  (h2:o9 X pins σ target (λJ H1=>∀ b:Blk,∃ W:Nat->Nat->St->List V->Hp->Prop,(∃ m,W 0 m (fM ts.length ix σ) [] H1)/\∀ i m τ ys H2,W i m τ ys H2 ->
   (J.stop i H2/\∀ p v H',H2 p=none->v=V.ref p->H'=upd H2 p (.lst ys)->Q v H') \/
   (J.go i H2/\ys.length < sizeLine/\∀ x H3,J.yld i H2 x H3->g b x τ H3 λτ2 H4=>te b τ2 H4 λy H5=>∃ m',m' < m/\W (i+1) m' τ2 (ys++[y]) H5)) itv s2)
  (hR:tE X pins σ Q R) :
  wpAny (model X.prog X.w) X.A (newList []) (λacc s₃=>wpAny (model X.prog X.w) X.A (newFunctionEnv scope X.env.globals cl [] X.env.qual none .none (some X.env)) (λcenv s₄ =>
   codeAny (model X.prog X.w) X.A (.compStart (.ListComp elt [⟨target,iter,[],0⟩] scope pos) 0 itv acc { cenv with scope:=relabel scope X.env }) (R acc cenv.locals) s₄) E s₃) E s2:=by
 obtain ⟨it,fp,tn,J,H1,e,I2,T,st2,f2,q2⟩:=h2
 subst e
 refine wpAny_newObj_type (Zag ?_)
 dsimp only
 generalize hG:s2.heap.push { cls:=.type "list",dict:=none,data:=.seq ([]:List Value).toArray }=G
 have hfs:∀ b∈fp,b < s2.heap.objs.size:=λb hb=>let ⟨o,e,_⟩:=T.obj _ _ st2 b hb; Heap.lt_size e
 have S:=ZdV (ts:=ts) hNx ok cl1 cl2 I2 f2 hfs hG
 generalize pushCells (G.push { cls:=.type "dict",data:=.dict #[] }) scope.names=h3 at S ⊢
 generalize cellsFrom (G.objs.size+1) scope.names cl=cs at S ⊢
 generalize G.objs.size=C at S ⊢
 obtain ⟨hC,hDC,I3,kp,hD3,fC,cellIn,pinIn,nofrs,pinD,stat⟩:=S
 let B:Blk:=⟨cs,C,s2,H1,fp,X.pn++pins⟩
 obtain ⟨W,⟨m0,w0⟩,turn⟩:=q2 B
 have loop:∀ s4:Shared,s4={ s2 with heap:=h3 } ->
   codeAny (model X.prog X.w) X.A (.compLoop (.ListComp elt [⟨target,iter,[],0⟩] scope pos) 0 (.ref it) (.ref s2.heap.objs.size) (compEnvC scope cs C X.env)) (R (.ref s2.heap.objs.size) C) s4:=by
  rintro s4 rfl
  refine Zmg (λk s'=>∃ i τ ys its n H',Inv (d6 X (bN Nx ts ix) scope B) [(s2.heap.objs.size,({ cls:=.type "list",data:=.seq (List.toArray its) n }:Obj))] τ H' s'/\tn i s'.heap/\(∀ b∈fp,H' b=none)/\Vals ys its/\ys.length<=sizeLine/\W i k τ ys H') ?_ m0
   ⟨0,_,[],[],_,H1,pinD I3 hD3 fC (λv z=>by cases z),T.keep _ _ _ st2 λb hb o e=>kp b o e,λb hb=>(f2 b hb).1,.nil,Nat.zero_le _,w0⟩
  rintro k s5 ⟨i,τ,ys,its,n,H5,I5,st5,fr5,rv,hz,w5⟩
  rcases turn i k τ ys H5 w5 with ⟨stop,qn⟩ | ⟨go,hlt,step⟩
  ·refine thn (T.done (d6 X (bN Nx ts ix) scope B) rfl rfl rfl hc i _ s5 τ H5 _ I5 (stat fr5) st5 stop) λgot s6 hz0=>?_
   obtain ⟨rfl,I6⟩:=hz0
   exact ZdU I2 f2 hC hDC pinIn I6 rv hz hR qn
  ·refine thn (T.item (d6 X (bN Nx ts ix) scope B) rfl rfl rfl hc i _ s5 τ H5 _ I5 (stat fr5) st5 go) λgot s6 hz0=>?_
   obtain ⟨u,hr,h6⟩:=hz0
   subst hr
   refine thn h6 λ_ s7 hz0=>?_
   obtain ⟨x,H7,I7,r7,y7,st7,fr7⟩:=hz0
   have I7':=I7.pinned (stat fr7) (T.obj _ _ st7)
   refine thn (hg B _ s7 τ H7 x u _ I7' r7 (step x H7 y7)) λ_ s8 hz0=>?_
   obtain ⟨τ8,H8,I8,q8⟩:=hz0
   refine thn (he B _ s8 τ8 H8 _ I8 q8) λy s9 hz0=>?_
   obtain ⟨vy,H9,I9,r9,m',hm',w9⟩:=hz0
   obtain ⟨ho,hn,_,_,_⟩:=I9.pin (s2.heap.objs.size,({ cls:=.type "list",data:=.seq (List.toArray its) n }:Obj)) (List.mem_append_right _ (List.mem_append_left _ (by simp)))
   have lenv:=rv.length
   refine wpAny_list_append_plain (l:=s2.heap.objs.size) ⟨n,ho⟩ (λh' hpl hsb=>?_) (by rw [List.size_toArray]; omega)
   obtain ⟨n',ho'⟩:=hpl
   have eobj:(its.toArray.push y)=List.toArray (its++[y]):=by simp
   rw [eobj] at ho'
   have I9':Inv (d6 X (bN Nx ts ix) scope B) [] τ8 H9 s9:=I9.pins_of λp hp=>absurd hp (by simp)
   have I10:Inv (d6 X (bN Nx ts ix) scope B) [] τ8 H9 { s9 with heap:=h' }:=I9'.turned (it:=s2.heap.objs.size) (t':=s9.toks) (λb o hb e=>(hsb.2 b hb).trans e) hn hDC (.inr (Nat.le_refl _)) cellIn (λp hp=>by
    have hp':p∈(X.pn++pins)++[]:=hp
    rw [List.append_nil] at hp'
    exact Nat.ne_of_lt (pinIn p hp'))
   refine ⟨m',hm',i+1,τ8,ys++[vy],its++[y],n',H9,pinD I10 ho' hn (λv z=>by cases z),?_,λb hb=>?_,rv.append (.cons r9 .nil),by rw [List.length_append]; show ys.length+1<=_; omega,w9⟩
   ·refine T.keep _ _ _ st7 λb hb o e=>?_
    have q:=(I9.pin (b,o) (List.mem_append_right _ (List.mem_append_right _ (jm hb e)))).1
    exact (hsb.2 b (Nat.ne_of_lt (hfs b hb))).trans q
   ·obtain ⟨o,e,d⟩:=T.obj _ _ st7 b hb
    exact (I9.pin (b,o) (List.mem_append_right _ (List.mem_append_right _ (jm hb e)))).2.1
 exact codeAny_compStart_list (loop _ rfl) (T.self X.A 0 _ _ _ (T.keep _ _ _ st2 λb hb o e=>kp b o e) (loop _ rfl))
theorem qy {elt target iter:Expr} {scope:Scope} {pos:Pos} {wi:TI} {g:Blk->TG} {te:Blk->TE} (Nx:List Str) (ts:List Str) (ix:List Nat)
  (hc:X.calm=true) (hi:PI X target iter wi) (hg:∀ b,PG (d6 X (bN Nx ts ix) scope b) target (g b)) (he:∀ b,PE (d6 X (bN Nx ts ix) scope b) elt (te b))
  (hNx:X.N=Nx) (ok:BlkOk Nx X.env.scope scope ix) (hs:∀ x,foldedSetIterable iter X.env x=pure x:=by intro _; rfl) :
  PE X (.ListComp elt [⟨target,iter,[],0⟩] scope pos) (jJ wi ts.length ix g te):=by
 intro pins s σ H Q I h
 obtain ⟨cl,hcl,cl1,cl2⟩:=oA (scope:=scope) (env:=X.env) λy hy hf=>I.ok.has y.1 (ok.frees y hy hf)
 rw [eval_ListComp]
 refine wpAny_comprehension_free (use:=none) rfl hs hcl ok.kind ok.locs (thn (hi pins s σ H _ I h) λv s1 h1=>thn h1 λitv s2 h2=>?_)
 refine ZcJ (R:=λacc C=>compPost (model X.prog X.w) X.A X.xe none (EP X pins σ Q) acc C) hc hg he hNx ok cl1 cl2 h2 ?_
 rintro D C H' s' v I' rfl q ⟨m,hm⟩ hn hL h0 hcl' hp
 exact ⟨m,hm,λh' hsb=>⟨.ref D,H',I'.turned (it:=C) (t':=s'.toks) (λb o hb e=>(hsb.2 b hb).trans e) hn hL (.inr h0) hcl' hp,rfl,q⟩⟩
theorem ZgR {elt target iter:Expr} {scope:Scope} {pos pos' spos:Pos} {wi:TI} {g:Blk->TG} {te:Blk->TE} {i:Nat} {x:Str} (Nx:List Str) (ts:List Str) (ix:List Nat)
  (hc:X.calm=true) (hN:X.N.Nodup) (hix:X.N[i]?=some x) (hx:X.env.scope.names.lookup x=some .local) (hi:PI X target iter wi) (hg:∀ b,PG (d6 X (bN Nx ts ix) scope b) target (g b)) (he:∀ b,PE (d6 X (bN Nx ts ix) scope b) elt (te b))
  (hNx:X.N=Nx) (ok:BlkOk Nx X.env.scope scope ix) (hsw:swapsWith (.ListComp elt [⟨target,iter,[],0⟩] scope pos) (some (.Name x pos')) spos.line X.env=pure true) (hs:∀ x,foldedSetIterable iter X.env x=pure x:=by intro _; rfl) :
  PS X (.Assign [.Name x pos'] (.ListComp elt [⟨target,iter,[],0⟩] scope pos) spos) (iD (jJ wi ts.length ix g te) (ju i)):=by
 intro pins s σ H D0 I h
 obtain ⟨cl,hcl,cl1,cl2⟩:=oA (scope:=scope) (env:=X.env) λy hy hf=>I.ok.has y.1 (ok.frees y hy hf)
 rw [exec_Assign_Name_used _ _ _ _ hsw]
 refine wpAny_bind (wpAny_standAt (wpAny_bind ?_))
 show wpAny _ X.A (do let _ <- comprehension (.ListComp elt [⟨target,iter,[],0⟩] scope pos) scope X.env _ (newList []) false (eval iter X.env) (some (assign (.Name x pos') X.env))) _ _ s
 refine wpAny_bind (thn (wpAny_comprehension_free (use:=some (assign (.Name x pos') X.env)) (Q:=λ_ s'=>SP X pins D0 .next s') rfl hs hcl ok.kind ok.locs (thn (hi pins s σ H _ I h) λv s1 h1=>thn h1 λitv s2 h2=>?_)) λ_ s' hq=>wpAny_pure (wpAny_pure hq))
 refine ZcJ (R:=λacc C=>compPost (model X.prog X.w) X.A X.xe (some (assign (.Name x pos') X.env)) (λ_ s'=>SP X pins D0 .next s') acc C) (Q:=λx H1=>ju i x σ H1 D0.nx) hc hg he hNx ok cl1 cl2 h2 ?_
 rintro D C H' s' v I' rfl q ⟨m,hm⟩ hn hL h0 hcl' hp
 show wpAny _ X.A (assign (.Name x pos') X.env (.ref D)) _ _ _
 refine wpAny_assign_Name (ZaA I' hN hix (.inl hx) (show RelV (.ref D) (.ref D) from rfl) (λs'' I'' hch=>?_) (.inr hx))
 obtain ⟨a,hsb,ha⟩:=hch
 have haC:C≠a:=by
  rcases ha with z | z
  ·rw [z]; exact hL
  ·exact λe=>hcl' _ _ z e.symm
 exact ⟨m,hm.sameBut hsb haC,λh'' hs''=>⟨_,H',I''.turned (it:=C) (t':=s''.toks) (λb o hb e=>(hs''.2 b hb).trans e) hn hL (.inr h0) hcl' hp,q⟩⟩
end
noncomputable abbrev af (a:Addr):PyData:=.dict [(.none,.int (Int.ofNat a))]
mutual
/-- the value bears the datum -/
inductive Dn (H:Hp):V->PyData->Prop
 | non:Dn H .non .none
 | bl (b:Bool):Dn H (.bl b) (.bool b)
 | int (i:Int):Dn H (.int i) (.int i)
 | str (x:Str):Dn H (.str x) (.str x)
 | tup {a:Addr} {xs:List V} {ds:List PyData}:H a=some (.tup xs)->DnAll H xs ds->Dn H (.ref a) (.tuple ds)
 | lst {a:Addr} {xs:List V} {ds:List PyData}:H a=some (.lst xs)->DnAll H xs ds->Dn H (.ref a) (.list ds)
 | dct {a:Addr} {ks:List (b8×V)} {ds:List PyData}:Rd0 H a (.dK ks)->DnAll H (ks.map (·.2)) ds->Dn H (.ref a) (.dict ((ks.map λk=>match k.1 with | .inl i=>PyData.int i | .inr x=>PyData.str x).zip ds))
 | dcp {a:Addr} {o:Obj} {ks:List (List Int×V)} {ds:List PyData}:ks≠[]->H a=some (.frz o (.dT (ks.map λk=>(k.1.map Sum.inl,k.2))))->DnAll H (ks.map (·.2)) ds->Dn H (.ref a) (.dict ((ks.map λk=>PyData.tuple (k.1.map PyData.int)).zip ds))
 | hdl (a:Addr):Dn H (.ref a) (af a)
inductive DnAll (H:Hp):List V->List PyData->Prop
 | nil:DnAll H [] []
 | cons {v:V} {vs:List V} {d:PyData} {ds:List PyData}:Dn H v d->DnAll H vs ds->DnAll H (v::vs) (d::ds)
end
mutual
theorem Dn.mono {H H':Hp} (e:∀ b o,H b=some o->H' b=some o):∀ {v:V} {d:PyData},Dn H v d->Dn H' v d
 | _,_,.non=>.non
 | _,_,.bl b=>.bl b
 | _,_,.int i=>.int i
 | _,_,.str x=>.str x
 | _,_,.tup h r=>.tup (e _ _ h) (DnAll.mono e r)
 | _,_,.lst h r=>.lst (e _ _ h) (DnAll.mono e r)
 | _,_,.dct h r=>.dct (h.imp (e _ _) λ⟨o,h⟩=>⟨o,e _ _ h⟩) (DnAll.mono e r)
 | _,_,.dcp n h r=>.dcp n (e _ _ h) (DnAll.mono e r)
 | _,_,.hdl a=>.hdl a
theorem DnAll.mono {H H':Hp} (e:∀ b o,H b=some o->H' b=some o):∀ {vs:List V} {ds:List PyData},DnAll H vs ds->DnAll H' vs ds
 | _,_,.nil=>.nil
 | _,_,.cons r t=>.cons (Dn.mono e r) (DnAll.mono e t)
end
theorem DnAll.ints {H:Hp}:∀ ns:List Int,DnAll H (ns.map V.int) (ns.map PyData.int)
 | []=>.nil
 | n::ns=>.cons (.int n) (DnAll.ints ns)
theorem DnAll.length {H:Hp} {vs:List V} {ds:List PyData} (h:DnAll H vs ds):vs.length=ds.length:=by
 induction vs generalizing ds with
 | nil=>cases h; rfl
 | cons v vs ih=>cases h with | cons r t=>exact congrArg (·+1) (ih t)
theorem DnAll.append {H:Hp} {vs ws:List V} {ds es:List PyData} (h:DnAll H vs ds) (s:DnAll H ws es):DnAll H (vs++ws) (ds++es):=by
 induction vs generalizing ds with
 | nil=>cases h; exact s
 | cons v vs ih=>cases h with | cons r t=>exact .cons r (ih t)
mutual
/-- data without dicts -/
theorem Dn.reads {P:Program} {w:World} {H:Hp} {h:Heap} (ok:HOk P w H h):∀ {v:V} {d:PyData} {u:Value},Dn H v d->d.hasDict=false->RelV v u->∃ as,Reads h u d as
 | _,_,_,.non,_,r=>by cases r; exact ⟨_,.none⟩
 | _,_,_,.bl b,_,r=>by cases r; exact ⟨_,.bool b⟩
 | _,_,_,.int i,_,r=>by obtain ⟨t,rfl⟩:=r; exact ⟨_,.int i t⟩
 | _,_,_,.str x,_,r=>by obtain ⟨t,rfl⟩:=r; exact ⟨_,.str x t⟩
 | _,_,_,.tup e rs,hd,r=>by
  cases r
  obtain ⟨z,its,rv,o,h1,h2,n,h3⟩:=ok _ _ e
  obtain ⟨as,q⟩:=DnAll.reads ok rs (by simpa [PyData.hasDict] using hd) rv
  exact ⟨_,.tuple h1 h2 h3 (by simpa using q)⟩
 | _,_,_,.lst e rs,hd,r=>by
  cases r
  obtain ⟨z,its,n,rv,h1⟩:=ok _ _ e
  obtain ⟨as,q⟩:=DnAll.reads ok rs (by simpa [PyData.hasDict] using hd) rv
  exact ⟨_,.list h1 rfl rfl (by simpa using q)⟩
 | _,_,_,.dct e rs,hd,r=>by simp [PyData.hasDict] at hd
 | _,_,_,.dcp n e rs,hd,r=>by simp [PyData.hasDict] at hd
 | _,_,_,.hdl a,hd,r=>by simp [PyData.hasDict] at hd
theorem DnAll.reads {P:Program} {w:World} {H:Hp} {h:Heap} (ok:HOk P w H h):∀ {vs:List V} {ds:List PyData} {us:List Value},DnAll H vs ds->PyData.hasDictAll ds=false->Vals vs us->∃ as,ReadsAll h us ds as
 | _,_,_,.nil,_,r=>by cases r; exact ⟨_,.nil⟩
 | _,_,_,.cons p t,hd,r=>by
  cases r with
  | cons r1 r2 =>
   simp only [PyData.hasDictAll,Bool.or_eq_false_iff] at hd
   obtain ⟨as,q⟩:=Dn.reads ok p hd.1 r1
   obtain ⟨bs,q2⟩:=DnAll.reads ok t hd.2 r2
   exact ⟨_,.cons q q2⟩
end
section
variable {X:Cx}
theorem ZdH {k:Nat} (hr:Room k X.A):fX X (.builtin "repr") (λxs H Q=>∃ v d,xs=[v]/\Dn H v d/\d.hasDict=false/\d.showable=true/\d.depth<=32/\d.shown.length<=sizeLine/\Q (.str d.shown) H):=by
 intro pins s σ H xs us Q I r h
 obtain ⟨v,d,rfl,hd,hn,hs,hdp,hz,q⟩:=h
 obtain ⟨u,rfl,ru⟩:=iA r
 have hun:=hr.units
 have viaRef:∀ {a:Addr} {as:List Addr},Reads s.heap (.ref a) d as->wpAny (model X.prog X.w) X.A (call (.builtin "repr") [.ref a]) (EP X pins σ Q) X.xe s:=λ{a as} rd =>
  repr_of_reads' rd hs (PyData.noDict_hsm hn) hr.gd (by omega) (λ_ _ e=>e) (λh' u' tk hk=>⟨.str d.shown,H,I.kept hk,⟨_,rfl⟩,q⟩) hz
 obtain ⟨as,rd⟩:=Dn.reads I.hok hd hn ru
 cases rd with
 | none=>exact PySem.P.repr_of_none ⟨.str "None",H,I.tok _,⟨_,rfl⟩,q⟩
 | bool b=>exact PySem.P.repr_of_bool ⟨.str (if b then "True" else "False"),H,I.tok _,⟨_,rfl⟩,q⟩
 | int i t=>exact PySem.P.repr_of_int (by simpa [PyData.showable] using hs) ⟨.str (toString i),H,I.tok _,⟨_,rfl⟩,q⟩
 | str x t=>exact PySem.P.repr_of_str ⟨.str (reprText x),H,I.tok _,⟨_,rfl⟩,q⟩ hz
 | list h1 h2 h3 h4=>exact viaRef (.list h1 h2 h3 h4)
 | tuple h1 h2 h3 h4=>exact viaRef (.tuple h1 h2 h3 h4)
 | dict h1 h2 h3 h4 h5=>simp [PyData.hasDict] at hn
theorem ZhA {k:Nat} (hr:Room k X.A):OpR X (compareOp .Eq) (λx y H Q=>∃ d e,Dn H x d/\Dn H y e/\SeqAt.shaped d=true/\SeqAt.shaped e=true/\Q (.bl (PyData.eqv d e)) H):=by
 intro pins s σ H x y v u Q I rx ry h
 obtain ⟨d,e,hd,he,sd,se,q⟩:=h
 obtain ⟨as,r1⟩:=Dn.reads I.hok hd (PyData.hasDict_of_canLay _ (SeqAt.canLay_of_shaped sd)) rx
 obtain ⟨bs,r2⟩:=Dn.reads I.hok he (PyData.hasDict_of_canLay _ (SeqAt.canLay_of_shaped se)) ry
 exact SeqAt.compareEq_shaped r1 r2 sd se hr.units ⟨.bl _,H,I,rfl,q⟩
theorem Zce {k:Nat} (hr:Room k X.A):OpR X (compareOp .NotEq) (λx y H Q=>∃ d e,Dn H x d/\Dn H y e/\SeqAt.shaped d=true/\SeqAt.shaped e=true/\Q (.bl (!PyData.eqv d e)) H):=by
 intro pins s σ H x y v u Q I rx ry h
 obtain ⟨d,e,hd,he,sd,se,q⟩:=h
 obtain ⟨as,r1⟩:=Dn.reads I.hok hd (PyData.hasDict_of_canLay _ (SeqAt.canLay_of_shaped sd)) rx
 obtain ⟨bs,r2⟩:=Dn.reads I.hok he (PyData.hasDict_of_canLay _ (SeqAt.canLay_of_shaped se)) ry
 exact SeqAt.compareNe_shaped r1 r2 sd se hr.units ⟨.bl _,H,I,rfl,q⟩
end
structure Def (K:PySem.W.Frag) (mg:Str->Option Value) (x:Str) (st:Stmt) (ps:List Str):Prop where
 ex:∃ f fd,Fun K x x st f fd/\mg x=some (.ref f)/\Binds K fd ps []
structure Callee (P:Program) (w:World) (K:PySem.W.Frag) (mg:Str->Option Value) (base:Heap) (x:Str) (k:Nat) (ps:List Str) (sp:Sp):Prop where
 ex:∃ f fd,FnOk P w K mg base eS k f fd ps sp/\mg x=some (.ref f)/\PySem.W.keepIn K (.ref f)=true/\Binds K fd ps []
section
variable {P:Program} {w:World} {K:PySem.W.Frag} {mg:Str->Option Value} {base:Heap}
theorem Def.ok {x:Str} {st:Stmt} {N ps:List Str} {k:Nat} {sp:Sp} (D:Def K mg x st ps) (S:FnScope N ps (bZ st)) (len:∀ vs H Q E,sp vs H Q E->vs.length=ps.length)
  (hbody:∀ (f:Addr) (cdv:Value) (A:Around) (outer:List Env) (s:Shared) (H:Hp) (vs:List V) (Q:VK) (E:XK),Room k (A.deeper (envOfC x (bZ st) s.heap.objs.size f cdv))->sp vs H Q E ->
   ∃ t,PSs (fq eS P w K mg base N x (bZ st) f cdv A outer s H E).nox (eD st) t/\t { nx:=λ_ H'=>Q .non H',rt:=Q } (start N vs) H):Callee P w K mg base x (k+1) ps sp:=by
 obtain ⟨f,fd,F,hm,hb⟩:=D.ex
 exact ⟨f,fd,F.ok S len λcdv A outer s H vs Q E hr h=>hbody f cdv A outer s H vs Q E hr h,hm,F.kp,hb⟩
theorem ZlN {x:Str} {st:Stmt} {ps:List Str} {h:Heap} {f:Addr} {oc:Value} {od an:Option Addr} {osl:Array (Option Value)} {kV doc pm cdv ct:Value} (X:K.In h) (G:h.Ns mainGlobals mg)
  (a:PySem.W.nsIn K mainGlobals x=some (some (.ref f))) (l:K.lookup f=some ⟨oc,od,.func (PySem.W.fnOf x x (fm st) (eD st) (bZ st) .none kV doc pm an cdv ct),osl⟩)
  (c:PySem.W.codeIn K cdv x=true) (k:PySem.W.keepIn K (.ref f)=true)
  (hb:∀ (kV doc pm:Value) (an:Option Addr) (cdv ct:Value) (us:List Value),us.length=ps.length->bindArgs (PySem.W.fnOf x x (fm st) (eD st) (bZ st) .none kV doc pm an cdv ct) ⟨us,[]⟩=pure (ps.zip us)):Def K mg x st ps:=by
 have F:=ow (st:=st) l c k
 exact ⟨f,_,F,PySem.W.mg_of X G a,F.binds hb⟩
end
section
variable {X:Cx} {x:Str} {k:Nat} {ps:List Str} {sp:Sp} {e:Expr} {es:List Expr} {t:TA} {p pos:Pos}
theorem Zca (C:Callee X.prog X.w X.K X.mg X.base x k ps sp) (hr:Room k X.A) (hg:Gl X x) (ha:PA X (e::es) t) (hdb:(x == ("__debug__":Str))=false:=by decide)
  (he:starEach (e::es) X.env=(false,eval e X.env)::starEach es X.env:=by rfl) (hpl:(backTo pos (starEach es X.env)).any (·.1)=false:=by rfl):PE X (.Call (.Name x p) (e::es) [] pos) (pO sp [] E0 t):=by
 obtain ⟨f,fd,F,hm,hk,hb⟩:=C.ex
 exact Zho F hr hg hm hk hb .nil lI ha hdb he hpl
theorem Zhh {i:Int} (hg:Gl X x) (h:∃ t,X.mg x=some (.int i t)) (hd:(x == ("__debug__":Str))=false:=by decide):PE X (.Name x pos) (tC (.int i)):=by
 obtain ⟨t,e⟩:=h
 exact iI hg e ⟨t,rfl⟩ hd
end
noncomputable def Zfl (t:TS):TS:=λD σ H=>∃ J:St->Hp->Prop,t { D with nx:=J } σ H/\∀ σ' H',J σ' H'->D.nx σ' H'
noncomputable def Zfk (t:TT):TT:=λσ H Q=>∃ J:Bool->Hp->Prop,t σ H J/\∀ b H',J b H'->Q b H'
section
variable {X:Cx} {st:Stmt} {e:Expr}
theorem PS.join {t:TS} (h:PS X st t):PS X st (Zfl t):=by
 rintro pins s σ H D I ⟨J,q,hJ⟩
 refine thn (h pins s σ H _ I q) λf s' z=>?_
 cases f with
 | next=>obtain ⟨σ',H',I',q'⟩:=z; exact ⟨σ',H',I',hJ _ _ q'⟩
 | brk=>exact z
 | cont=>exact z
 | ret u=>exact z
theorem PT.join {t:TT} (h:PT X e t):PT X e (Zfk t):=by
 rintro pins s σ H Q I ⟨J,q,hJ⟩
 refine thn (h pins s σ H _ I q) λb s' ⟨H',I',q'⟩=>⟨H',I',hJ _ _ q'⟩
end
section
variable {H:Hp} {p c:Addr} {a l b:Int}
end
noncomputable def Kept (p:Addr) (H H':Hp):Prop:=∀ b o,H b=some o->b≠p->H' b=some o
theorem Kept.refl {p:Addr} {H:Hp}:Kept p H H:=λ_ _ h _=>h
theorem Kept.new {p q:Addr} {H H':Hp} {o:HO} (a:Kept p H H') (hq:H' q=none):Kept p H (upd H' q o):=λc u h n=>by
 have e:=a c u h n
 rw [ak (eT e hq)]
 exact e
theorem Kept.pen {p:Addr} {H H':Hp} {o:HO} (a:Kept p H H'):Kept p H (upd H' p o):=λc u h n=>by
 rw [ak n]
 exact a c u h n
theorem Same.new {q:Addr} {H H':Hp} {o:HO} (a:Same H H') (hq:H' q=none):Same H (upd H' q o):=λc u h=>by
 have e:=a c u h
 rw [ak (eT e hq)]
 exact e
theorem ZaN (ns:List Int):SeqAt.shaped (.list (ns.map PyData.int))=true:=by
 have h1:PyData.canLayAll0 (ns.map PyData.int)=true:=by
  induction ns with
  | nil=>rfl
  | cons n r ih=>simp [PyData.canLayAll0,PyData.canLay0,ih]
 have h2:PyData.depthAll (ns.map PyData.int)=0:=by
  induction ns with
  | nil=>rfl
  | cons n r ih=>simp [PyData.depthAll,PyData.depth]; exact ih (by
    have:=h1
    simp [PyData.canLayAll0] at this
    exact this.2)
 simp [SeqAt.shaped,PyData.canLay0,PyData.depth,h1,h2]
theorem Zlr (ns:List Int):PyData.eqv (.list (ns.map PyData.int)) (.list [])=ns.isEmpty:=by
 cases ns with
 | nil=>rfl
 | cons n r=>rfl
section
variable {prog:Program} {w:World} {A:Around} {E:Value->Shared->Prop} {s:Shared} {r:Addr} {a b c:Int} {t u v:Tok} {n:Nat}
end
section
variable {X:Cx}
theorem ZhO:fillsNumberSlot (.type "tuple") "mul"=pure false :=
 PySem.fillsNumberSlot_seq (id:="tuple.__mul__") (r:=some (.builtin "tuple.__rmul__")) PySem.F.slot_tuple_mul.lookup (by decide +kernel) PySem.F.slot_tuple_rmul.lookup (by decide +kernel)
theorem Zgu:seqRepeat? (.type "tuple")=pure (some (.builtin "tuple.__mul__")):=by
 unfold seqRepeat?
 rw [PySem.seqSlot_of (T:="tuple") (name:="__mul__") (id:="tuple.__mul__") PySem.F.slot_tuple_mul.lookup (by decide +kernel),PySem.seqSlot_of (T:="tuple") (name:="__rmul__") (id:="tuple.__rmul__") PySem.F.slot_tuple_rmul.lookup (by decide +kernel)]; rfl
theorem Zgs (x:Int) (t:Tok) (l:Addr) (items:Array Value) (n:Nat) (dd:Option Addr) (sl:Array (Option Value)) :
  Meets (Builtin.«int.__rmul__» ⟨[.int x t,.ref l],[]⟩) (λ_ R s=>s.heap.get? l=some { cls:=.type "tuple",dict:=dd,data:=.seq items n,slots:=sl }/\R (.ok (.ret Value.notImplemented)) s):=by
 refine .of_wp λprog w A R s h=>?_
 obtain ⟨hp,g,d,tk,os⟩:=s
 obtain ⟨hl,h⟩:=h
 wp_walk
 exact ⟨_,rfl,h⟩
theorem ZhV (x:Int) (t:Tok) (l:Addr) (items:Array Value) (n:Nat) (dd:Option Addr) (sl:Array (Option Value)) (h1:1 < x) (h2:x<=1000) (h3:items.isEmpty=false) (h4:items.size<=1000) :
  Meets (Builtin.«tuple.__mul__» ⟨[.ref l,.int x t],[]⟩) (λ_ R s=>s.heap.get? l=some { cls:=.type "tuple",dict:=dd,data:=.seq items n,slots:=sl } /\
   R (.ok (.ret (.ref s.heap.objs.size))) { s with heap:=s.heap.push { cls:=.type "tuple",data:=.seq ((List.replicate x.toNat items).foldl (·++·) #[]) } }):=by
 refine .of_wp λprog w A R s h=>?_
 obtain ⟨hp,g,d,tk,os⟩:=s
 obtain ⟨hl,h⟩:=h
 have hp0:0<=(items.size:Int) * x:=Int.mul_nonneg (by omega) (by omega)
 have hp1:(items.size:Int) * x<=1000 * 1000:=Int.mul_le_mul (by omega) h2 (by omega) (by omega)
 have hne:items.size≠0:=λe=>by simp [Array.isEmpty,e] at h3
 wp_walk
 refine wpAny_ite_split (λz=>absurd z (by simp; omega)) (λ_=>?_)
 refine wpAny_bind ?_
 unfold Builtin.Tuple.tupleItemsOf
 refine wpAny_bind (wpAny_seqItems hl rfl (wpAny_pure ?_))
 refine wpAny_ite_split (λz=>absurd z (by rw [h3]; simp; omega)) (λ_=>?_)
 refine wpAny_ite_split (λz=>absurd z (by rw [h3]; simp; omega)) (λ_=>?_)
 refine wpAny_ite_split (λz=>absurd z (by omega)) (λ_=>?_)
 refine wpAny_ite_split (λz=>absurd z (by unfold Builtin.Tuple.tupleTooMany; rw [sizeLine_eq]; simp; omega)) (λ_=>?_)
 unfold Builtin.Tuple.tupleExact
 have hlen:∀ k:Nat,((List.replicate k items).foldl (·++·) #[]).size=k * items.size:=λk=>by
  have key:∀ (k:Nat) (acc:Array Value),((List.replicate k items).foldl (·++·) acc).size=acc.size+k * items.size:=by
   intro k
   induction k with
   | zero=>intro acc; simp
   | succ k ih =>
    intro acc
    rw [List.replicate_succ,List.foldl_cons,ih,Array.size_append,Nat.succ_mul]
    omega
  simpa using key k #[]
 refine wpAny_bind (wpAny_newObj_type (wpAny_pure ⟨_,rfl,h⟩) ?_)
 show ((List.replicate x.toNat items).foldl (·++·) #[]).size<=sizeLine
 rw [hlen,sizeLine_eq]
 have hx:x.toNat<=1000:=by omega
 exact Nat.le_trans (Nat.mul_le_mul hx h4) (by decide)
noncomputable def Zbz (K:PySem.W.Frag):R2:=λx y H Q=>∃ a k xs,x=.ref a/\y=.int k/\SqT K H a xs/\1 < k/\k<=1000/\xs≠[]/\xs.length<=1000/\∀ p,H p=none->Q (.ref p) (upd H p (.tup (List.replicate k.toNat xs).flatten))
theorem Zal {xs:List V} {us:List Value} (r:Vals xs us):∀ k:Nat,Vals (List.replicate k xs).flatten (List.replicate k us).flatten
 | 0=>.nil
 | k+1=>by
  rw [List.replicate_succ,List.replicate_succ,List.flatten_cons,List.flatten_cons]
  exact r.append (Zal r k)
theorem Zhv:OpR X (binaryOp .Mult) (Zbz X.K):=by
 intro pins s σ H x y v u Q I rx ry h
 obtain ⟨a,k,xs,rfl,rfl,hq,h1,h2,hne,hl,q⟩:=h
 cases rx
 obtain ⟨t,rfl⟩:=ry
 obtain ⟨its,rv,p,hz⟩:=I.tuple hq
 obtain ⟨o,ho,hc,n,hd⟩:=p
 obtain ⟨oc,od,odd,osl⟩:=o
 have hc':oc=.type "tuple":=hc
 have hd':odd=.seq its.toArray n:=hd
 subst hc' hd'
 have hlen:=rv.length
 have hemp:its.toArray.isEmpty=false:=by
  cases its with
  | nil=>cases rv; exact absurd rfl hne
  | cons i r=>rfl
 have efl:(List.replicate k.toNat its.toArray).foldl (·++·) #[]=(List.replicate k.toNat its).flatten.toArray:=by
  have key:∀ (k:Nat) (acc:Array Value),(List.replicate k its.toArray).foldl (·++·) acc=acc++(List.replicate k its).flatten.toArray:=by
   intro k
   induction k with
   | zero=>intro acc; simp
   | succ k ih =>
    intro acc
    rw [List.replicate_succ,List.foldl_cons,ih,List.replicate_succ,List.flatten_cons]
    simp
  simpa using key k.toNat #[]
 refine wpAny_binaryOp_repeat_ref (T:="tuple") (U:="int") (by decide) ⟨_,ho,rfl⟩ (λs'=>typeIs_int s' k t) ZhO PySem.F.fills_int_mul PySem.F.slot_int_rmul Zgu PySem.F.slot_int_index.lookup ?_
 refine call_meets PySem.F.slot_int_rmul (typeIs_int s k t) PySem.F.entry_int_rmul (PySem.F.args_int_rmul_2 _ _) (Zgs k t a its.toArray n od osl) ⟨ho,rfl,⟨_,ho,rfl⟩,?_⟩
 refine call_meets PySem.F.slot_tuple_mul ⟨_,ho,rfl⟩ PySem.F.entry_tuple_mul (PySem.F.args_tuple_mul_2 _ _) (ZhV k t a its.toArray n od osl h1 h2 hemp (by rw [List.size_toArray]; omega)) ⟨ho,?_⟩
 rw [efl]
 have hzz:(List.replicate k.toNat xs).flatten.length<=sizeLine:=by
  have hx:k.toNat<=1000:=by omega
  have e:(List.replicate k.toNat xs).flatten.length=k.toNat * xs.length:=by simp
  rw [e,sizeLine_eq]
  exact Nat.le_trans (Nat.mul_le_mul hx hl) (by decide)
 exact ⟨.ref s.heap.objs.size,_,I.laid (t':=s.toks) (λb o e=>Heap.get?_push_of_some _ e) (Nat.le_refl _) (show ObjOk X.prog X.w _ _ _ (.tup (List.replicate k.toNat xs).flatten) from ⟨hzz,_,Zal rv k.toNat,IsTup.new _ _⟩),rfl,q _ (I.hok.fresh (Nat.le_refl _))⟩
end
theorem ZcE {n:Nat} (h:n < 2 ^ 1900):n.log2 < 1900:=by
 by_cases h0:n=0
 ·rw [h0]; decide
 ·exact (Nat.log2_lt h0).mpr h
theorem ZfQ {i:Int} (h:i.natAbs < 2 ^ 1900):(PyData.int i).shown.length<=1901:=by
 have e:=int_text_length_le (k:=1900) (by decide) (ZcE h)
 have q:(Str.ofString (toString i)).length<=1901:=by rw [PySem.ofString_length]; exact e
 simpa [PyData.shown] using q
theorem ZaK:∀ (ns:List Int),(∀ n∈ns,n.natAbs < 2 ^ 1900)->((PyData.shownAll (ns.map PyData.int)).map (·.length)).sum<=ns.length * 1901/\(PyData.shownAll (ns.map PyData.int)).length=ns.length
 | [],_=>⟨by simp [PyData.shownAll],rfl⟩
 | n::r,h=>by
  obtain ⟨h1,h2⟩:=ZaK r λx hx=>h x (List.mem_cons_of_mem _ hx)
  have h3:=ZfQ (h n List.mem_cons_self)
  rw [List.map_cons,PyData.shownAll,List.map_cons,List.sum_cons,List.length_cons,List.length_cons,h2,Nat.succ_mul]
  exact ⟨by omega,rfl⟩
theorem ZaL:∀ (ns:List Int),(∀ n∈ns,n.natAbs < 2 ^ 1900)->PyData.showableAll (ns.map PyData.int)=true
 | [],_=>rfl
 | n::r,h=>by
  rw [List.map_cons,PyData.showableAll,ZaL r λx hx=>h x (List.mem_cons_of_mem _ hx),Bool.and_true]
  have q:=ZcE (h n List.mem_cons_self)
  simp only [PyData.showable,decide_eq_true_eq]
  omega
noncomputable def jV (lo:Int) (n:Nat):List Int:=(List.range n).map λ(k:Nat)=>lo+(k:Int)
theorem qm (lo:Int) (n:Nat):(jV lo n).length=n:=by
 unfold jV
 rw [List.length_map,List.length_range]
noncomputable def CMulG (i j:Int):Prop:=i.natAbs < 2 ^ 8000/\j.natAbs < 2 ^ 8000
theorem ZdW {x:Int} (h:x.natAbs < 2 ^ 8000):Builtin.Int.intBits x<=8000:=by
 unfold Builtin.Int.intBits
 split
 ·exact Nat.zero_le _
 ·rename_i hx
  have h0:x.natAbs≠0:=by
   intro z
   have e:x=0:=Int.natAbs_eq_zero.mp z
   rw [e] at hx
   exact hx rfl
  exact (Nat.log2_lt h0).mpr h
theorem CMulG.ok {i j:Int} (h:CMulG i j):IntMulOk i j:=by
 have h1:=ZdW h.1
 have h2:=ZdW h.2
 unfold IntMulOk
 have e:Builtin.Int.intTooBig ((Builtin.Int.intBits i+Builtin.Int.intBits j:Nat):Int)=false:=by
  unfold Builtin.Int.intTooBig
  refine decide_eq_false ?_
  have hb:((16000:Nat):Int)<=(bitsLine:Int):=by decide
  omega
 intro z
 rw [Bool.and_eq_true] at z
 have z2:Builtin.Int.intTooBig ((Builtin.Int.intBits i+Builtin.Int.intBits j:Nat):Int)=true:=z.2
 rw [e] at z2
 cases z2
section
variable {X:Cx}
theorem Zhx:OpR X (binaryOp .Mult) (rI CMulG λi j=>.int (i * j)):=lM λ_ _ _ _ _ _ _ hc q=>mul_int q hc.ok
theorem kj:fX X (.builtin "isinstance") (λxs H Q=>∃ x T t b,xs=[x,.ty T]/\TyOf X.K H x t/\PySem.W.kitOne X.K t (.type T)=some b/\Q (.bl b) H):=by
 intro pins s σ H xs us Q I r h
 obtain ⟨x,T,t,b,rfl,ty,e,q⟩:=h
 obtain ⟨u,c,rfl,ru,rc⟩:=lA r
 cases rc
 exact ZiL I ru ty e λtk=>⟨.bl b,H,I.tok tk,rfl,q⟩
noncomputable def ZgH:V->List V->Hp->VK->Prop:=λx vs H Q=>∃ (l:Addr) (bs:List Bool) (k:Bool),x=.ref l/\vs=[.bl k]/\H l=some (.lst (bs.map V.bl))/\Q (.int (bs.countP (· == k):Nat)) H
theorem ZhY:mB X "list.count" ZgH:=by
 intro pins s σ H x vs v us Q I rx rv h
 obtain ⟨l,bs,k,rfl,rfl,hH,q⟩:=h
 cases rx
 obtain ⟨u,rfl,ru⟩:=rv.one
 cases ru
 obtain ⟨z,its,n,r,hl,e⟩:=I.lstM hH
 have eits:its=bs.map Value.bool:=by
  clear hl z e hH q
  induction bs generalizing its with
  | nil=>cases r; rfl
  | cons b bs ih =>
   cases r with
   | cons r1 r2 =>
    cases r1
    rw [ih _ r2]
    rfl
 subst eits
 refine call_meets F.slot_list_count ⟨_,e,rfl⟩ F.entry_list_count (F.args_list_count_2 _ _) (SeqAt.list_countAt l (bs.map Value.bool).toArray n none #[] (.bool k) (λy=>y == .bool k)) ⟨e,λy hy=>?_,?_⟩
 ·obtain ⟨b,hb,rfl⟩:=List.mem_map.mp (show y∈bs.map Value.bool from List.mem_toArray.mp hy)
  have e1:(Value.bool b == Value.bool k)=(b == k):=by cases b <;> cases k <;> rfl
  rw [e1]
  exact SeqAt.EqAt.bool_bool b k
 ·have e2:((bs.map Value.bool).toArray.toList.countP λy=>y == Value.bool k)=bs.countP (· == k):=by
   show (bs.map Value.bool).countP _=_
   rw [List.countP_map]
   refine List.countP_congr λb _=>?_
   cases b <;> cases k <;> simp [Function.comp]
  rw [e2]
  exact ⟨.int _,H,I.tok _,⟨_,rfl⟩,q⟩
end
end L2
namespace Gc
end Gc
namespace L2
open PySem PySem.Spec PyProof.Rows
inductive Cel where
 | ins (C:Addr) (fs:List (Str×PyData)) | dct (kvs:List (Str×PyData)) | lst (xs:List PyData)
structure Sto where
 l:List (Addr×Cel)
noncomputable def Zc0:List (Addr×Cel)->Addr->Option Cel
 | [],_=>none
 | (b,c)::r,a=>if a=b then some c else Zc0 r a
noncomputable def Sto.get (st:Sto) (a:Addr):Option Cel:=Zc0 st.l a
noncomputable def Sto.put (st:Sto) (a:Addr) (c:Cel):Sto:=⟨(a,c)::st.l⟩
theorem Sto.put_same {st:Sto} {a:Addr} {c:Cel}:(st.put a c).get a=some c:=if_pos rfl
theorem Sto.put_ne {st:Sto} {a b:Addr} {c:Cel} (h:b≠a):(st.put a c).get b=st.get b:=if_neg h
structure Ms where
 n:Nat
 st:Sto
noncomputable def Ms.up (m:Ms):Ms:=⟨m.n+1,m.st⟩
instance:OfNat Ms 0:=⟨⟨0,⟨[]⟩⟩⟩
inductive Tr (α:Type) where
 | ret (a:α)
 | draw (n:Int) (k:Int->Tr α)
 | fail
 | op (f:Sto->Option (Sto×PyData)) (k:PyData->Tr α)
 | new (c:Cel) (k:Addr->Tr α)
namespace Tr
variable {α β γ:Type}
noncomputable def bind:Tr α->(α->Tr β)->Tr β
 | .ret a,f=>f a
 | .draw n k,f=>.draw n λr=>(k r).bind f
 | .fail,_=>.fail
 | .op g k,f=>.op g λx=>(k x).bind f
 | .new c k,f=>.new c λx=>(k x).bind f
@[simp] theorem ret_bind (a:α) (f:α->Tr β):(Tr.ret a).bind f=f a:=rfl
@[simp] theorem draw_bind (n:Int) (k:Int->Tr α) (f:α->Tr β):(Tr.draw n k).bind f=.draw n λr=>(k r).bind f:=rfl
@[simp] theorem fail_bind (f:α->Tr β):(Tr.fail:Tr α).bind f=.fail:=rfl
@[simp] theorem op_bind (g:Sto->Option (Sto×PyData)) (k:PyData->Tr α) (f:α->Tr β):(Tr.op g k).bind f=.op g λr=>(k r).bind f:=rfl
@[simp] theorem new_bind (c:Cel) (k:Addr->Tr α) (f:α->Tr β):(Tr.new c k).bind f=.new c λr=>(k r).bind f:=rfl
@[simp] theorem bind_assoc:∀ (t:Tr α) (f:α->Tr β) (g:β->Tr γ),(t.bind f).bind g=t.bind λa=>(f a).bind g
 | .ret a,f,g=>rfl
 | .draw n k,f,g=>by simp only [draw_bind]; congr 1; funext r; exact bind_assoc (k r) f g
 | .fail,f,g=>rfl
 | .op h k,f,g=>by simp only [op_bind]; congr 1; funext r; exact bind_assoc (k r) f g
 | .new c k,f,g=>by simp only [new_bind]; congr 1; funext r; exact bind_assoc (k r) f g
noncomputable def of:Option α->Tr α
 | some a=>.ret a
 | none=>.fail
@[simp] theorem of_some (a:α):Tr.of (some a)=.ret a:=rfl
@[simp] theorem of_none:Tr.of (none:Option α)=.fail:=rfl
noncomputable def ok:Tr α->Ms->(Ms->α->Prop)->Prop
 | .ret a,m,Q=>Q m a
 | .draw n k,m,Q=>m.n < 400000/\0 < n/\n < 1073741824/\∀ r,0<=r->r < n->(k r).ok m.up Q
 | .fail,_,_=>False
 | .op f k,m,Q=>∃ s x,f m.st=some (s,x)/\(k x).ok ⟨m.n,s⟩ Q
 | .new c k,m,Q=>∀ a,m.st.get a=none->(k a).ok ⟨m.n,m.st.put a c⟩ Q
theorem ok_mono:∀ {t:Tr α} {m:Ms} {Q Q':Ms->α->Prop},t.ok m Q->(∀ m a,Q m a->Q' m a)->t.ok m Q'
 | .ret a,m,_,_,h,hq=>hq m a h
 | .draw n k,m,_,_,⟨h1,h2,h3,h⟩,hq=>⟨h1,h2,h3,λr h0 h1=>ok_mono (h r h0 h1) hq⟩
 | .op f k,m,_,_,⟨s,x,e,h⟩,hq=>⟨s,x,e,ok_mono h hq⟩
 | .new c k,m,_,_,h,hq=>λa ha=>ok_mono (h a ha) hq
theorem ok_bind:∀ {t:Tr α} {f:α->Tr β} {m:Ms} {Q:Ms->β->Prop},(t.bind f).ok m Q ↔ t.ok m λm' a=>(f a).ok m' Q
 | .ret a,f,m,Q=>Iff.rfl
 | .draw n k,f,m,Q=>by
  show (_/\_/\_/\∀ r,_) ↔ (_/\_/\_/\∀ r,_)
  refine and_congr_right λ_=>and_congr_right λ_=>and_congr_right λ_=>forall_congr' λr=>forall_congr' λ_=>forall_congr' λ_=>ok_bind
 | .fail,f,m,Q=>Iff.rfl
 | .op g k,f,m,Q=>by
  show (∃ s x,_/\_) ↔ (∃ s x,_/\_)
  exact exists_congr λs=>exists_congr λx=>and_congr_right λ_=>ok_bind
 | .new c k,f,m,Q=>by
  show (∀ a,_->_) ↔ (∀ a,_->_)
  exact forall_congr' λa=>forall_congr' λ_=>ok_bind
theorem ok_of {o:Option α} {m:Ms} {Q:Ms->α->Prop} (h:(Tr.of o).ok m Q):∃ a,o=some a/\Q m a:=by
 cases o with
 | none=>exact h.elim
 | some a=>exact ⟨a,rfl,h⟩
noncomputable def all:Tr α->Nat->(α->Prop)->Prop
 | .ret a,_,P=>P a
 | .draw w k,n+1,P=>0 < w/\w < 1073741824/\∀ r,0<=r->r < w->(k r).all n P
 | .draw _ _,0,_=>False
 | .fail,_,_=>False
 | .op _ _,_,_=>False
 | .new _ _,_,_=>False
theorem all_mono:∀ {t:Tr α} {n n':Nat} {P P':α->Prop},t.all n P->n<=n'->(∀ a,P a->P' a)->t.all n' P'
 | .ret a,n,n',P,P',h,hn,hp=>hp a h
 | .draw w k,n+1,n'+1,P,P',⟨h1,h2,h⟩,hn,hp=>⟨h1,h2,λr a b=>all_mono (h r a b) (by omega) hp⟩
 | .draw w k,n+1,0,P,P',h,hn,hp=>by omega
theorem all_bind:∀ {t:Tr α} {f:α->Tr β} {n n':Nat} {P:α->Prop} {P':β->Prop},t.all n P->(∀ a,P a->(f a).all n' P')->(t.bind f).all (n+n') P'
 | .ret a,f,n,n',P,P',h,hf=>all_mono (hf a h) (by omega) λ_ x=>x
 | .draw w k,f,n+1,n',P,P',⟨h1,h2,h⟩,hf=>by
  have e:n+1+n'=(n+n')+1:=by omega
  rw [e]
  exact ⟨h1,h2,λr a b=>all_bind (h r a b) hf⟩
end Tr
noncomputable abbrev Sub (G H:Hp):Prop:=∀ b o,G b=some o->H b=some o
noncomputable def nch:HO->Bool
 | .chg _=>false
 | .ins _ _ _=>false
 | _=>true
structure Pk where
 is:HO->Hp->Nat->Prop
 mono:∀ {o:HO} {G G':Hp} {m:Nat},Sub G G'->is o G m->is o G' m
 nch:∀ {o:HO} {G:Hp} {m:Nat},is o G m->nch o=true
inductive FD (G:Hp):List (Str×V)->List (Str×PyData)->Prop
 | nil:FD G [] []
 | cons {f:Str} {v:V} {d:PyData} {vs:List (Str×V)} {ds:List (Str×PyData)}:Dn G v d->FD G vs ds->FD G ((f,v)::vs) ((f,d)::ds)
theorem FD.mono {G G':Hp} (s:Sub G G') {vs:List (Str×V)} {ds:List (Str×PyData)} (h:FD G vs ds):FD G' vs ds:=by
 induction h with
 | nil=>exact .nil
 | cons h _ ih=>exact .cons (h.mono s) ih
noncomputable abbrev fG (p:Str×V):b8×V:=(Sum.inr p.1,p.2)
noncomputable def ThOk (G H:Hp) (a:Addr):Cel->Prop
 | .ins C fs=>∃ dx vs,H a=some (.ins C dx vs)/\FD G vs fs
 | .dct kvs=>∃ vs,H a=some (.chg (.dK (vs.map fG)))/\FD G vs kvs
 | .lst xs=>∃ vs,H a=some (.chg (.lst vs))/\DnAll G vs xs
theorem ThOk.at {G H:Hp} {a:Addr} {c:Cel} (h:ThOk G H a c):∃ o,H a=some o/\nch o=false:=by
 cases c with
 | ins C fs=>obtain ⟨dx,vs,e,_⟩:=h; exact ⟨_,e,rfl⟩
 | dct kvs=>obtain ⟨vs,e,_⟩:=h; exact ⟨_,e,rfl⟩
 | lst xs=>obtain ⟨vs,e,_⟩:=h; exact ⟨_,e,rfl⟩
theorem ThOk.step {G H G' H':Hp} {a:Addr} {c:Cel} (h:ThOk G H a c) (sb:Sub G G') (hc:∀ o,H a=some o->nch o=false->H' a=some o):ThOk G' H' a c:=by
 cases c with
 | ins C fs=>obtain ⟨dx,vs,e,f⟩:=h; exact ⟨dx,vs,hc _ e rfl,f.mono sb⟩
 | dct kvs=>obtain ⟨vs,e,f⟩:=h; exact ⟨vs,hc _ e rfl,f.mono sb⟩
 | lst xs=>obtain ⟨vs,e,f⟩:=h; exact ⟨vs,hc _ e rfl,DnAll.mono sb f⟩
structure StoOk (st:Sto) (G H:Hp):Prop where
 cel:∀ a c,st.get a=some c->ThOk G H a c
 gn:∀ a c,st.get a=some c->G a=none
theorem StoOk.step {st:Sto} {G H G' H':Hp} (k:StoOk st G H) (sb:Sub G G') (hc:∀ b o,H b=some o->nch o=false->H' b=some o) (hg:∀ b o,G' b=some o->G b=some o\/∀ u,H b=some u->nch u=true):StoOk st G' H' :=
 ⟨λa c h=>(k.cel a c h).step sb (hc a),λa c h=>by
  cases e:G' a with
  | none=>rfl
  | some o =>
   rcases hg a o e with z | z
   ·rw [k.gn a c h] at z; cases z
   ·obtain ⟨u,hu,hn⟩:=(k.cel a c h).at
    rw [z u hu] at hn; cases hn⟩
theorem StoOk.same {st:Sto} {G H H':Hp} (k:StoOk st G H) (hc:∀ b o,H b=some o->nch o=false->H' b=some o):StoOk st G H':=k.step (λ_ _ h=>h) hc λ_ _ h=>.inl h
theorem StoOk.none {G H:Hp}:StoOk ⟨[]⟩ G H:=⟨λ_ _ h=>(by cases h),λ_ _ h=>(by cases h)⟩
structure Wd (PK:Pk) (pa:Addr) (m:Ms) (G H:Hp):Prop where
 sub:Sub G H
 gpa:G pa=none
 pen:∃ o,H pa=some o/\PK.is o G m.n
 sto:StoOk m.st G H
structure Stp (pa:Addr) (G H G' H':Hp):Prop where
 gs:Sub G G'
 gn:∀ b o,G' b=some o->G b=some o\/H b=none\/(b≠pa/\∃ xs,H b=some (.tup xs))
 hk:∀ b o,H b=some o->b≠pa->nch o=true->H' b=some o
 al:∀ b o,H b=some o->∃ o',H' b=some o'/\(nch o=false->nch o'=false)
theorem Stp.of {pa:Addr} {G H G' H':Hp} (gs:Sub G G') (gn:∀ b o,G' b=some o->G b=some o\/H b=none\/(b≠pa/\∃ xs,H b=some (.tup xs))) (hk:∀ b o,H b=some o->b≠pa->H' b=some o) (hp:∀ o,H pa=some o->∃ o',H' pa=some o'/\(nch o=false->nch o'=false)):Stp pa G H G' H' :=
 ⟨gs,gn,λb o h n _=>hk b o h n,λb o h=>by
  by_cases e:b=pa
  ·subst e; exact hp o h
  ·exact ⟨o,hk b o h e,id⟩⟩
theorem Stp.all {pa:Addr} {G H G' H':Hp} (gs:Sub G G') (gn:∀ b o,G' b=some o->G b=some o\/H b=none\/(b≠pa/\∃ xs,H b=some (.tup xs))) (hk:∀ b o,H b=some o->H' b=some o):Stp pa G H G' H':=.of gs gn (λb o h _=>hk b o h) λo h=>⟨o,hk _ _ h,id⟩
theorem Stp.refl {pa:Addr} {G H:Hp}:Stp pa G H G H:=.all (λ_ _ h=>h) (λ_ _ h=>.inl h) (λ_ _ h=>h)
theorem Stp.none {pa:Addr} {G H G' H':Hp} (s:Stp pa G H G' H') {b:Addr} (h:H' b=none):H b=none:=by
 cases e:H b with
 | none=>rfl
 | some u =>
  obtain ⟨o',z,_⟩:=s.al b u e
  rw [h] at z; cases z
theorem Stp.trans {pa:Addr} {G H G1 H1 G2 H2:Hp} (a:Stp pa G H G1 H1) (b:Stp pa G1 H1 G2 H2) (hp:∃ o,H1 pa=some o):Stp pa G H G2 H2:=by
 refine ⟨λc o h=>b.gs c o (a.gs c o h),λc o h=>?_,λc o h n k=>b.hk c o (a.hk c o h n k) n k,λc o h=>?_⟩
 ·rcases b.gn c o h with z | z | ⟨hc,xs,z⟩
  ·exact a.gn c o z
  ·exact .inr (.inl (a.none z))
  ·cases e:H c with
   | none=>exact .inr (.inl rfl)
   | some u =>
    cases k:nch u with
    | true =>
     rw [a.hk c u e hc k] at z
     cases z
     exact .inr (.inr ⟨hc,xs,rfl⟩)
    | false =>
     obtain ⟨o',z',k'⟩:=a.al c u e
     rw [z] at z'; cases z'
     cases k' k
 ·obtain ⟨o1,h1,k1⟩:=a.al c o h
  obtain ⟨o2,h2,k2⟩:=b.al c o1 h1
  exact ⟨o2,h2,λk=>k2 (k1 k)⟩
section
variable {PK:Pk} {pa:Addr} {m:Ms} {G H:Hp}
theorem Wd.some (w:Wd PK pa m G H):∃ o,H pa=some o:=let ⟨o,h,_⟩:=w.pen; ⟨o,h⟩
theorem Wd.ne (w:Wd PK pa m G H) {p:Addr} (hp:H p=none):pa≠p:=λe=>by
 obtain ⟨o,h⟩:=w.some
 rw [e,hp] at h; cases h
theorem Sub.new {p:Addr} {o:HO} (hp:G p=none):Sub G (upd G p o):=λb u h=>by rw [ak (eT h hp)]; exact h
theorem Wd.gnone (w:Wd PK pa m G H) {p:Addr} (hp:H p=none):G p=none:=by
 cases e:G p with
 | none=>rfl
 | some o=>rw [w.sub p o e] at hp; cases hp
theorem Sub.upd2 {p:Addr} {o:HO} (s:Sub G H):Sub (upd G p o) (upd H p o):=λb u h=>by
 by_cases e:b=p
 ·subst e; rw [cr] at h ⊢; exact h
 ·rw [ak e] at h ⊢; exact s b u h
theorem Wd.new (w:Wd PK pa m G H) {p:Addr} {o:HO} (hp:H p=none):Wd PK pa m (upd G p o) (upd H p o)/\Stp pa G H (upd G p o) (upd H p o):=by
 have hg:=w.gnone hp
 have hne:=w.ne hp
 have hk:∀ b u,H b=Option.some u->upd H p o b=Option.some u:=λb u h=>by rw [ak (eT h hp)]; exact h
 have gn:∀ b u,upd G p o b=Option.some u->G b=Option.some u\/H b=none:=λb u h=>by
  by_cases e:b=p
  ·subst e; exact .inr hp
  ·rw [ak e] at h; exact .inl h
 refine ⟨⟨w.sub.upd2,by rw [ak hne]; exact w.gpa,?_,w.sto.step (Sub.new hg) (λb u h _=>hk b u h) λb u h=>(gn b u h).imp id λz u h=>by rw [z] at h; cases h⟩,.all (Sub.new hg) (λb u h=>(gn b u h).imp id .inl) hk⟩
 obtain ⟨u,h,q⟩:=w.pen
 exact ⟨u,by rw [ak hne]; exact h,PK.mono (Sub.new hg) q⟩
theorem Wd.own (w:Wd PK pa m G H) {p:Addr} {o:HO} (hp:H p=none):Wd PK pa m G (upd H p o)/\Stp pa G H G (upd H p o):=by
 have hne:=w.ne hp
 have hk:∀ b u,H b=Option.some u->upd H p o b=Option.some u:=λb u h=>by rw [ak (eT h hp)]; exact h
 refine ⟨⟨λb u h=>hk b u (w.sub b u h),w.gpa,?_,w.sto.same λb u h _=>hk b u h⟩,.all (λ_ _ h=>h) (λ_ _ h=>.inl h) hk⟩
 obtain ⟨u,h,q⟩:=w.pen
 exact ⟨u,by rw [ak hne]; exact h,q⟩
theorem Wd.freeze (w:Wd PK pa m G H) {p:Addr} {o:HO} (hp:H p=Option.some o) (hg:G p=none) (hne:pa≠p) (hn:nch o=true:=by rfl):Wd PK pa m (upd G p o) H:=by
 refine ⟨λb u h=>?_,by rw [ak hne]; exact w.gpa,?_,w.sto.step (Sub.new hg) (λb u h _=>h) λb u h=>?_⟩
 ·by_cases e:b=p
  ·subst e; rw [cr] at h; rw [hp]; exact h
  ·rw [ak e] at h; exact w.sub b u h
 ·obtain ⟨u,h,q⟩:=w.pen
  exact ⟨u,h,PK.mono (Sub.new hg) q⟩
 ·by_cases e:b=p
  ·subst e
   refine .inr λv hv=>?_
   rw [hp] at hv; cases hv; exact hn
  ·rw [ak e] at h; exact .inl h
theorem Wd.pnch (w:Wd PK pa m G H) {o:HO} (h:H pa=Option.some o):nch o=true:=by
 obtain ⟨u,e,q⟩:=w.pen
 rw [h] at e; cases e
 exact PK.nch q
noncomputable def Kn (PK:Pk) (pa:Addr) (m:Ms) (G H:Hp) (x:PyData) (Q:VK):Prop:=∀ v G' H',Stp pa G H G' H'->Wd PK pa m G' H'->Dn G' v x->Q v H'
variable {x:PyData} {Q:VK} {v:V} {vs:List V} {ds:List PyData} {p:Addr}
theorem Kn.here (k:Kn PK pa m G H x Q) (w:Wd PK pa m G H) (d:Dn G v x):Q v H:=k v G H .refl w d
theorem Kn.tup (k:Kn PK pa m G H (.tuple ds) Q) (w:Wd PK pa m G H) (d:DnAll G vs ds) (hp:H p=none):Q (.ref p) (upd H p (.tup vs)):=by
 obtain ⟨w1,s1⟩:=w.new (o:=.tup vs) hp
 exact k _ _ _ s1 w1 (.tup cr (DnAll.mono s1.gs d))
theorem Kn.lst (k:Kn PK pa m G H (.list ds) Q) (w:Wd PK pa m G H) (d:DnAll G vs ds) (hp:H p=none):Q (.ref p) (upd H p (.lst vs)):=by
 obtain ⟨w1,s1⟩:=w.new (o:=.lst vs) hp
 exact k _ _ _ s1 w1 (.lst cr (DnAll.mono s1.gs d))
theorem Kn.later {G1 H1:Hp} (k:Kn PK pa m G H x Q) (s:Stp pa G H G1 H1) (hp:∃ o,H1 pa=Option.some o):Kn PK pa m G1 H1 x Q:=λv G' H' s' w d=>k v G' H' (s.trans s' hp) w d
end
inductive Sl where
 | un | d (x:PyData) | own (xs:List PyData) | pen | dic (kvs:List (Int×PyData)) | fn (a:Addr) | dip (kvs:List (List Int×PyData)) | pr (W:Hp->V->Prop)
inductive KD (G:Hp):List (b8×V)->List (Int×PyData)->Prop
 | nil:KD G [] []
 | cons {i:Int} {v:V} {d:PyData} {ks:List (b8×V)} {kvs:List (Int×PyData)}:Dn G v d->KD G ks kvs->KD G ((.inl i,v)::ks) ((i,d)::kvs)
theorem KD.mono {G G':Hp} (s:Sub G G') {ks:List (b8×V)} {kvs:List (Int×PyData)} (h:KD G ks kvs):KD G' ks kvs:=by
 induction h with
 | nil=>exact .nil
 | cons h _ ih=>exact .cons (h.mono s) ih
noncomputable abbrev Zib (k:List Int×V):List b8×V:=(k.1.map Sum.inl,k.2)
inductive KP (G:Hp):List (List Int×V)->List (List Int×PyData)->Prop
 | nil:KP G [] []
 | cons {i:List Int} {v:V} {d:PyData} {ks:List (List Int×V)} {kvs:List (List Int×PyData)}:Dn G v d->KP G ks kvs->KP G ((i,v)::ks) ((i,d)::kvs)
theorem KP.mono {G G':Hp} (s:Sub G G') {ks:List (List Int×V)} {kvs:List (List Int×PyData)} (h:KP G ks kvs):KP G' ks kvs:=by
 induction h with
 | nil=>exact .nil
 | cons h _ ih=>exact .cons (h.mono s) ih
inductive SlOk (pa:Addr) (H₀ G H:Hp):Option V->Sl->Prop
 | un {o:Option V}:SlOk pa H₀ G H o .un
 | d {v:V} {x:PyData}:Dn G v x->SlOk pa H₀ G H (some v) (.d x)
 | own {p:Addr} {vs:List V} {xs:List PyData}:H p=some (.lst vs)->G p=none->H₀ p=none->DnAll G vs xs->SlOk pa H₀ G H (some (.ref p)) (.own xs)
 | pen:SlOk pa H₀ G H (some (.ref pa)) .pen
 | fn {a:Addr}:SlOk pa H₀ G H (some (.ref a)) (.fn a)
 | pr {v:V} {W:Hp->V->Prop}:(∀ G',Sub G G'->W G' v)->SlOk pa H₀ G H (some v) (.pr W)
 | dic {p:Addr} {ks:List (b8×V)} {kvs:List (Int×PyData)}:H p=some (.dK ks)->G p=none->H₀ p=none->KD G ks kvs->SlOk pa H₀ G H (some (.ref p)) (.dic kvs)
 | dip {p:Addr} {ks:List (List Int×V)} {kvs:List (List Int×PyData)}:H p=some (.dT (ks.map Zib))->G p=none->H₀ p=none->KP G ks kvs->SlOk pa H₀ G H (some (.ref p)) (.dip kvs)
structure Rl (PK:Pk) (pa:Addr) (G₀ H₀:Hp) (m:Ms) (σ:St) (ρ:List Sl) (G H:Hp):Prop where
 wd:Wd PK pa m G H
 st:Stp pa G₀ H₀ G H
 p0:∃ o,H₀ pa=some o
 sl:∀ (i:Nat) (s:Sl),ρ[i]?=some s->∃ o,σ[i]?=some o/\SlOk pa H₀ G H o s
 len:ρ.length=σ.length
 dj:∀ (i j:Nat) (xs ys:List PyData),i≠j->ρ[i]?=some (.own xs)->ρ[j]?=some (.own ys)->σ[i]?≠σ[j]?
 dj2:∀ (i j:Nat) (xs ys:List (Int×PyData)),i≠j->ρ[i]?=some (.dic xs)->ρ[j]?=some (.dic ys)->σ[i]?≠σ[j]?
section
variable {PK:Pk} {pa:Addr} {G₀ H₀ G H:Hp} {m:Ms} {σ:St} {ρ:List Sl}
theorem mY {α:Type} {l:List α} {k i:Nat} {x y:α} (h:(l.set k x)[i]?=some y) (hn:x≠y):k≠i/\l[i]?=some y:=by
 have hi:k≠i:=λe=>by
  subst e
  have hl:k < l.length:=by
   have:=(List.getElem?_eq_some_iff.mp h).1
   rwa [List.length_set] at this
  rw [List.getElem?_set_self hl] at h
  exact hn (Option.some.inj h)
 rw [List.getElem?_set_ne hi] at h
 exact ⟨hi,h⟩
theorem Zdo {α:Type} {T:α->Sl} {k:Nat} {x:Sl} {v:Option V} (dj:∀ (i j:Nat) (a b:α),i≠j->ρ[i]?=some (T a)->ρ[j]?=some (T b)->σ[i]?≠σ[j]?) (hn:∀ a,x≠T a) :
  ∀ (i j:Nat) (a b:α),i≠j->(ρ.set k x)[i]?=some (T a)->(ρ.set k x)[j]?=some (T b)->(σ.set k v)[i]?≠(σ.set k v)[j]?:=λi j a b hij h1 h2=>by
 obtain ⟨hi,h1⟩:=mY h1 (hn a)
 obtain ⟨hj,h2⟩:=mY h2 (hn b)
 rw [List.getElem?_set_ne hi,List.getElem?_set_ne hj]
 exact dj i j a b hij h1 h2
theorem ZlL {α:Type} {T:α->Sl} {k:Nat} {x:Sl} (dj:∀ (i j:Nat) (a b:α),i≠j->ρ[i]?=some (T a)->ρ[j]?=some (T b)->σ[i]?≠σ[j]?) (hn:∀ a,x≠T a) :
  ∀ (i j:Nat) (a b:α),i≠j->(ρ.set k x)[i]?=some (T a)->(ρ.set k x)[j]?=some (T b)->σ[i]?≠σ[j]?:=λi j a b hij h1 h2 =>
 dj i j a b hij (mY h1 (hn a)).2 (mY h2 (hn b)).2
theorem SlOk.step {G' H':Hp} {o:Option V} {s:Sl} (k:SlOk pa H₀ G H o s) (hp0:∃ o,H₀ pa=some o) (st:Stp pa G H G' H'):SlOk pa H₀ G' H' o s:=by
 cases k with
 | un=>exact .un
 | d h=>exact .d (h.mono st.gs)
 | pen=>exact .pen
 | fn=>exact .fn
 | pr z9=>exact .pr λG' s=>z9 G' λb o z=>s b o (st.gs b o z)
 | @own p vs xs h1 h2 h3 h4 =>
  have hne:p≠pa:=λe=>by
   obtain ⟨u,hu⟩:=hp0
   rw [<- e,h3] at hu; cases hu
  refine .own (st.hk _ _ h1 hne rfl) ?_ h3 (DnAll.mono st.gs h4)
  cases e:G' p with
  | none=>rfl
  | some u =>
   rcases st.gn p u e with z | z | ⟨_,_,z⟩
   ·rw [h2] at z; cases z
   ·rw [h1] at z; cases z
   ·rw [h1] at z; cases z
 | @dic p ks kvs h1 h2 h3 h4 =>
  have hne:p≠pa:=λe=>by
   obtain ⟨u,hu⟩:=hp0
   rw [<- e,h3] at hu; cases hu
  refine .dic (st.hk _ _ h1 hne rfl) ?_ h3 (h4.mono st.gs)
  cases e:G' p with
  | none=>rfl
  | some u =>
   rcases st.gn p u e with z | z | ⟨_,_,z⟩
   ·rw [h2] at z; cases z
   ·rw [h1] at z; cases z
   ·rw [h1] at z; cases z
 | @dip p ks kvs h1 h2 h3 h4 =>
  have hne:p≠pa:=λe=>by
   obtain ⟨u,hu⟩:=hp0
   rw [<- e,h3] at hu; cases hu
  refine .dip (st.hk _ _ h1 hne rfl) ?_ h3 (h4.mono st.gs)
  cases e:G' p with
  | none=>rfl
  | some u =>
   rcases st.gn p u e with z | z | ⟨_,_,z⟩
   ·rw [h2] at z; cases z
   ·rw [h1] at z; cases z
   ·rw [h1] at z; cases z
theorem Rl.step {G' H':Hp} {m':Ms} (r:Rl PK pa G₀ H₀ m σ ρ G H) (s:Stp pa G H G' H') (w:Wd PK pa m' G' H'):Rl PK pa G₀ H₀ m' σ ρ G' H' :=
 ⟨w,r.st.trans s r.wd.some,r.p0,λi sl h=>let ⟨o,h1,h2⟩:=r.sl i sl h; ⟨o,h1,h2.step r.p0 s⟩,r.len,r.dj,r.dj2⟩
theorem Rl.set (r:Rl PK pa G₀ H₀ m σ ρ G H) {v:V} {x:PyData} (d:Dn G v x) (k:Nat):Rl PK pa G₀ H₀ m (σ.set k (some v)) (ρ.set k (.d x)) G H:=by
 refine ⟨r.wd,r.st,r.p0,λi s h=>?_,by rw [List.length_set,List.length_set]; exact r.len,λi j xs ys hij h1 h2=>?_,Zdo r.dj2 λa h=>by cases h⟩
 ·by_cases e:k=i
  ·subst e
   have hl:k < ρ.length:=by
    have:=(List.getElem?_eq_some_iff.mp h).1
    rwa [List.length_set] at this
   rw [List.getElem?_set_self hl] at h
   cases h
   exact ⟨_,List.getElem?_set_self (by rw [<- r.len]; exact hl),.d d⟩
  ·rw [List.getElem?_set_ne e] at h ⊢
   exact r.sl i s h
 ·have hi:k≠i:=λe=>by
   subst e
   have hl:k < ρ.length:=by
    have:=(List.getElem?_eq_some_iff.mp h1).1
    rwa [List.length_set] at this
   rw [List.getElem?_set_self hl] at h1; cases h1
  have hj:k≠j:=λe=>by
   subst e
   have hl:k < ρ.length:=by
    have:=(List.getElem?_eq_some_iff.mp h2).1
    rwa [List.length_set] at this
   rw [List.getElem?_set_self hl] at h2; cases h2
  rw [List.getElem?_set_ne hi] at h1 ⊢
  rw [List.getElem?_set_ne hj] at h2 ⊢
  exact r.dj i j xs ys hij h1 h2
theorem Rl.setO (r:Rl PK pa G₀ H₀ m σ ρ G H) {p:Addr} {vs:List V} {xs:List PyData} (h1:H p=some (.lst vs)) (h2:G p=none) (h3:H₀ p=none) (h4:DnAll G vs xs)
  (hd:∀ (i:Nat) (ys:List PyData),ρ[i]?=some (.own ys)->σ[i]?≠some (some (.ref p))) (k:Nat):Rl PK pa G₀ H₀ m (σ.set k (some (.ref p))) (ρ.set k (.own xs)) G H:=by
 have up:∀ {i:Nat} {s:Sl},(ρ.set k (.own xs))[i]?=some s->i=k->s=.own xs/\(σ.set k (some (V.ref p)))[i]?=some (some (.ref p)):=λ{i s} h e=>by
  subst e
  have hl:i < ρ.length:=by
   have:=(List.getElem?_eq_some_iff.mp h).1
   rwa [List.length_set] at this
  rw [List.getElem?_set_self hl] at h
  cases h
  exact ⟨rfl,List.getElem?_set_self (by rw [<- r.len]; exact hl)⟩
 refine ⟨r.wd,r.st,r.p0,λi s h=>?_,by rw [List.length_set,List.length_set]; exact r.len,λi j ys zs hij e1 e2=>?_,Zdo r.dj2 λa h=>by cases h⟩
 ·by_cases e:i=k
  ·obtain ⟨e1,e2⟩:=up h e
   subst e1
   exact ⟨_,e2,.own h1 h2 h3 h4⟩
  ·rw [List.getElem?_set_ne (Ne.symm e)] at h ⊢
   exact r.sl i s h
 ·by_cases ei:i=k
  ·have q:=(up e1 ei).2
   have hj:k≠j:=λe=>hij (ei.trans e)
   rw [q]
   rw [List.getElem?_set_ne hj] at e2 ⊢
   exact λz=>hd j zs e2 z.symm
  ·rw [List.getElem?_set_ne (Ne.symm ei)] at e1 ⊢
   by_cases ej:j=k
   ·rw [(up e2 ej).2]
    exact hd i ys e1
   ·rw [List.getElem?_set_ne (Ne.symm ej)] at e2 ⊢
    exact r.dj i j ys zs hij e1 e2
theorem Rl.h0 (r:Rl PK pa G₀ H₀ m σ ρ G H) {p:Addr} (hp:H p=none):H₀ p=none:=r.st.none hp
theorem Rl.apart (r:Rl PK pa G₀ H₀ m σ ρ G H) {p:Addr} (hp:H p=none) (i:Nat) (ys:List PyData) (h:ρ[i]?=some (.own ys)):σ[i]?≠some (some (.ref p)):=λe=>by
 obtain ⟨o,h1,h2⟩:=r.sl i _ h
 rw [e] at h1
 cases h1
 cases h2 with
 | own a _ _ _=>rw [hp] at a; cases a
theorem Rl.change (r:Rl PK pa G₀ H₀ m σ ρ G H) {k:Nat} {xs ys:List PyData} {p:Addr} {ws:List V} (hk:ρ[k]?=some (.own xs)) (hσ:σ[k]?=some (some (.ref p))) (d:DnAll G ws ys) :
  Rl PK pa G₀ H₀ m σ (ρ.set k (.own ys)) G (upd H p (.lst ws)):=by
 obtain ⟨o,h1,h2⟩:=r.sl k _ hk
 rw [hσ] at h1
 cases h1
 cases h2 with
 | @own _ vs _ a1 a2 a3 a4 =>
  have hne:pa≠p:=λe=>by
   obtain ⟨u,hu⟩:=r.p0
   rw [e,a3] at hu; cases hu
  have hl:k < ρ.length:=(List.getElem?_eq_some_iff.mp hk).1
  refine ⟨⟨λb o h=>?_,r.wd.gpa,?_,r.wd.sto.same λb o h hb=>?_⟩,⟨r.st.gs,r.st.gn,λb o h hb hc=>?_,λb o h=>?_⟩,r.p0,λi s h=>?_,by rw [List.length_set]; exact r.len,λi j us ws hij e1 e2=>?_,ZlL r.dj2 λa h=>by cases h⟩
  ·rw [ak (λe=>by subst e; rw [a2] at h; cases h)]
   exact r.wd.sub b o h
  ·obtain ⟨u,h,q⟩:=r.wd.pen
   exact ⟨u,by rw [ak hne]; exact h,q⟩
  ·rw [ak (λe=>by subst e; rw [a1] at h; cases h; cases hb)]
   exact h
  ·rw [ak (λe=>by subst e; rw [a3] at h; cases h)]
   exact r.st.hk b o h hb hc
  ·rw [ak (λe=>by subst e; rw [a3] at h; cases h)]
   exact r.st.al b o h
  ·by_cases e:k=i
   ·subst e
    rw [List.getElem?_set_self hl] at h
    cases h
    exact ⟨_,hσ,.own cr a2 a3 d⟩
   ·rw [List.getElem?_set_ne e] at h
    obtain ⟨o,q1,q2⟩:=r.sl i s h
    refine ⟨o,q1,?_⟩
    cases q2 with
    | un=>exact .un
    | d z=>exact .d z
    | pen=>exact .pen
    | fn=>exact .fn
    | pr z9=>exact .pr z9
    | dic b1 b2 b3 b4=>exact .dic (by rw [ak (λe2=>by subst e2; rw [a1] at b1; cases b1)]; exact b1) b2 b3 b4
    | dip b1 b2 b3 b4=>exact .dip (by rw [ak (λe2=>by subst e2; rw [a1] at b1; cases b1)]; exact b1) b2 b3 b4
    | own b1 b2 b3 b4 =>
     refine .own ?_ b2 b3 b4
     rw [ak]
     ·exact b1
     ·intro e2
      subst e2
      exact r.dj k i _ _ e hk h (by rw [hσ,q1])
  ·by_cases ei:k=i
   ·subst ei
    rw [List.getElem?_set_ne hij] at e2
    exact r.dj k j _ _ hij hk e2
   ·rw [List.getElem?_set_ne ei] at e1
    by_cases ej:k=j
    ·subst ej
     exact r.dj i k _ _ hij e1 hk
    ·rw [List.getElem?_set_ne ej] at e2
     exact r.dj i j _ _ hij e1 e2
end
noncomputable def TAe (PK:Pk) (i:List Sl->Tr PyData):TE:=λσ H Q=>∃ pa G₀ H₀ m ρ G,Rl PK pa G₀ H₀ m σ ρ G H/\(i ρ).ok m λm' x=>Kn PK pa m' G H x Q
noncomputable def TAt (PK:Pk) (i:List Sl->Tr Bool):TT:=λσ H Q=>∃ pa G₀ H₀ m ρ G,Rl PK pa G₀ H₀ m σ ρ G H/\(i ρ).ok m λm' b=>∀ G' H',Stp pa G H G' H'->Wd PK pa m' G' H'->Q b H'
noncomputable def TAd (PK:Pk) (i:List Sl->Tr (List PyData)):TA:=λσ H Q=>∃ pa G₀ H₀ m ρ G,Rl PK pa G₀ H₀ m σ ρ G H/\(i ρ).ok m λm' xs=>∀ vs G' H',Stp pa G H G' H'->Wd PK pa m' G' H'->DnAll G' vs xs->Q vs H'
noncomputable def Ko1 (PK:Pk) (pa:Addr) (m:Ms) (G H:Hp) (xs:List PyData) (Q:VK):Prop:=∀ p vs G' H',Stp pa G H G' H'->Wd PK pa m G' H'->H p=none->G' p=none->H' p=some (.lst vs)->DnAll G' vs xs->Q (.ref p) H'
noncomputable def i7 (PK:Pk) (i:List Sl->Tr (List PyData)):TE:=λσ H Q=>∃ pa G₀ H₀ m ρ G,Rl PK pa G₀ H₀ m σ ρ G H/\(i ρ).ok m λm' xs=>Ko1 PK pa m' G H xs Q
inductive ArOk (pa:Addr) (G:Hp):V->Sl->Prop
 | d {v:V} {x:PyData}:Dn G v x->ArOk pa G v (.d x)
 | pen:ArOk pa G (.ref pa) .pen
 | fn {a:Addr}:ArOk pa G (.ref a) (.fn a)
inductive ArsOk (pa:Addr) (G:Hp):List V->List Sl->Prop
 | nil:ArsOk pa G [] []
 | cons {v:V} {vs:List V} {s:Sl} {ss:List Sl}:ArOk pa G v s->ArsOk pa G vs ss->ArsOk pa G (v::vs) (s::ss)
theorem ArOk.mono {pa:Addr} {G G':Hp} {v:V} {s:Sl} (h:ArOk pa G v s) (e:Sub G G'):ArOk pa G' v s:=by
 cases h with
 | d z=>exact .d (z.mono e)
 | pen=>exact .pen
 | fn=>exact .fn
theorem ArsOk.mono {pa:Addr} {G G':Hp} (e:Sub G G') {vs:List V} {ss:List Sl} (h:ArsOk pa G vs ss):ArsOk pa G' vs ss:=by
 induction h with
 | nil=>exact .nil
 | cons h t ih=>exact .cons (h.mono e) ih
theorem ArsOk.length {pa:Addr} {G:Hp} {vs:List V} {ss:List Sl} (h:ArsOk pa G vs ss):vs.length=ss.length:=by
 induction h with
 | nil=>rfl
 | cons h t ih=>exact congrArg (·+1) ih
noncomputable def TAa (PK:Pk) (i:List Sl->Tr (List Sl)):TA:=λσ H Q=>∃ pa G₀ H₀ m ρ G,Rl PK pa G₀ H₀ m σ ρ G H/\(i ρ).ok m λm' as=>∀ vs G' H',Stp pa G H G' H'->Wd PK pa m' G' H'->ArsOk pa G' vs as->Q vs H'
inductive Re where
 | d (x:PyData) | own (xs:List PyData)
noncomputable def Re.val:Re->PyData
 | .d x=>x
 | .own xs=>.list xs
@[simp] theorem Re.val_d (x:PyData):(Re.d x).val=x:=rfl
@[simp] theorem Re.val_own (xs:List PyData):(Re.own xs).val=.list xs:=rfl
inductive Ou where
 | next (ρ:List Sl) | ret (r:Re) | brk (ρ:List Sl) | cont (ρ:List Sl)
noncomputable def Znh (H₀ G H:Hp) (v:V):Re->Prop
 | .d x=>Dn G v x
 | .own xs=>∃ p vs,v=.ref p/\H p=some (.lst vs)/\G p=none/\H₀ p=none/\DnAll G vs xs
noncomputable def Kr (PK:Pk) (pa:Addr) (m:Ms) (G₀ H₀:Hp) (r:Re) (Q:VK):Prop:=∀ v G H,Stp pa G₀ H₀ G H->Wd PK pa m G H->Znh H₀ G H v r->Q v H
noncomputable def Ko (PK:Pk) (pa:Addr) (G₀ H₀ Gs:Hp) (D:Ends) (m:Ms):Ou->Prop
 | .next ρ=>∀ σ G H,Sub Gs G->Rl PK pa G₀ H₀ m σ ρ G H->D.nx σ H
 | .ret r=>Kr PK pa m G₀ H₀ r D.rt
 | .brk ρ=>∀ σ G H,Sub Gs G->Rl PK pa G₀ H₀ m σ ρ G H->D.bk σ H
 | .cont ρ=>∀ σ G H,Sub Gs G->Rl PK pa G₀ H₀ m σ ρ G H->D.ct σ H
noncomputable def cP (PK:Pk) (i:List Sl->Tr Ou):TS:=λD σ H=>∃ pa G₀ H₀ m ρ G,Rl PK pa G₀ H₀ m σ ρ G H/\(i ρ).ok m (Ko PK pa G₀ H₀ G D)
theorem PE.imp {X:Cx} {e:Expr} {t t':TE} (h:PE X e t) (q:∀ σ H Q,t' σ H Q->t σ H Q):PE X e t':=λpins s σ H Q I z=>h pins s σ H Q I (q σ H Q z)
theorem PT.imp {X:Cx} {e:Expr} {t t':TT} (h:PT X e t) (q:∀ σ H Q,t' σ H Q->t σ H Q):PT X e t':=λpins s σ H Q I z=>h pins s σ H Q I (q σ H Q z)
theorem PW.imp {X:Cx} {e:Expr} {t t':TT} (h:PW X e t) (q:∀ σ H Q,t' σ H Q->t σ H Q):PW X e t':=λwh pins s σ H Q I z=>h wh pins s σ H Q I (q σ H Q z)
theorem PA.imp {X:Cx} {e:List Expr} {t t':TA} (h:PA X e t) (q:∀ σ H Q,t' σ H Q->t σ H Q):PA X e t':=λpos pins s σ H Q I z=>h pos pins s σ H Q I (q σ H Q z)
theorem PS.imp {X:Cx} {e:Stmt} {t t':TS} (h:PS X e t) (q:∀ D σ H,t' D σ H->t D σ H):PS X e t':=λpins s σ H D I z=>h pins s σ H D I (q D σ H z)
theorem PSs.imp {X:Cx} {e:List Stmt} {t t':TS} (h:PSs X e t) (q:∀ D σ H,t' D σ H->t D σ H):PSs X e t':=λpins s σ H D I z=>h pins s σ H D I (q D σ H z)
variable {PK:Pk} {X:Cx} {a b c e:Expr} {es:List Expr} {pos:Pos} {i j l:List Sl->Tr PyData}
theorem TAe.then {σ:St} {H:Hp} {β:Type} {k:PyData->Tr β} {Z:Ms->β->Prop} {Q:VK} {pa:Addr} {G₀ H₀ G:Hp} {m:Ms} {ρ:List Sl} (R:Rl PK pa G₀ H₀ m σ ρ G H) (h:((i ρ).bind k).ok m Z)
  (hq:∀ m1 x v G1 H1,Stp pa G H G1 H1->Wd PK pa m1 G1 H1->Rl PK pa G₀ H₀ m1 σ ρ G1 H1->Dn G1 v x->(k x).ok m1 Z->Q v H1):TAe PK i σ H Q:=by
 refine ⟨pa,G₀,H₀,m,ρ,G,R,Tr.ok_mono (Tr.ok_bind.mp h) λm1 x hx v G1 H1 s1 w1 d1=>?_⟩
 exact hq m1 x v G1 H1 s1 w1 (R.step s1 w1) d1 hx
noncomputable def aa (k:Nat):List Sl->Tr PyData:=λρ=>match ρ[k]? with
 | some (.d x)=>.ret x
 | _=>.fail
noncomputable def aC (d:PyData):List Sl->Tr PyData:=λ_=>.ret d
theorem ac {k:Nat} (h:PE X e (iB k)):PE X e (TAe PK (aa k)):=h.imp λσ H Q hz0=>by
 obtain ⟨pa,G₀,H₀,m,ρ,G,R,q⟩:=hz0
 unfold aa at q
 split at q
 ·rename_i x hx
  obtain ⟨o,h1,h2⟩:=R.sl k _ hx
  cases h2 with
  | d z=>exact ⟨_,h1,Kn.here q R.wd z⟩
 ·exact q.elim
theorem me {v:V} {d:PyData} (h:PE X e (tC v)) (hd:∀ G,Dn G v d):PE X e (TAe PK (aC d)):=h.imp λσ H Q hz0=>by
 obtain ⟨pa,G₀,H₀,m,ρ,G,R,q⟩:=hz0
 exact Kn.here q R.wd (hd G)
theorem cj {n:Int} {k pos}:PE X (.Constant (.int n) k pos) (TAe PK (aC (.int n))):=me d9 λ_=>.int n
theorem fw {n:Bool} {k pos}:PE X (.Constant (.bool n) k pos) (TAe PK (aC (.bool n))):=me qz λ_=>.bl n
theorem fv {k pos}:PE X (.Constant .none k pos) (TAe PK (aC .none)):=me Zb6 λ_=>.non
theorem iY {x:Str} {k pos}:PE X (.Constant (.str x) k pos) (TAe PK (aC (.str x))):=me fS λ_=>.str x
theorem kr {x:Str} {n:Int} (hg:Gl X x) (h:∃ t,X.mg x=some (.int n t)) (hd:(x == ("__debug__":Str))=false:=by decide):PE X (.Name x pos) (TAe PK (aC (.int n))):=me (Zhh hg h hd) λ_=>.int n
noncomputable def fz (r:R2) (f:PyData->PyData->Option PyData):Prop:=∀ (PK:Pk) (pa:Addr) (m:Ms) (G H:Hp) (x y:V) (dx dy dz:PyData) (Q:VK),Wd PK pa m G H->Dn G x dx->Dn G y dy->f dx dy=some dz->Kn PK pa m G H dz Q->r x y H Q
noncomputable def aj (f:PyData->PyData->Option PyData) (i j:List Sl->Tr PyData):List Sl->Tr PyData:=λρ=>(i ρ).bind λx=>(j ρ).bind λy=>Tr.of (f x y)
theorem oZ {r:R2} {f:PyData->PyData->Option PyData} (hv:fz r f):∀ σ H Q,TAe PK (aj f i j) σ H Q->kD r (TAe PK i) (TAe PK j) σ H Q:=by
 rintro σ H Q ⟨pa,G₀,H₀,m,ρ,G,R,q⟩
 refine TAe.then R q λm1 x v G1 H1 s1 w1 R1 d1 q1=>?_
 refine TAe.then R1 q1 λm2 y u G2 H2 s2 w2 R2 d2 q2=>?_
 obtain ⟨z,hz,k⟩:=Tr.ok_of q2
 exact hv PK pa m2 G2 H2 v u x y z Q w2 (d1.mono s2.gs) d2 hz (Kn.later k (s1.trans s2 w1.some) w2.some)
theorem cA {op:Operator} {r:R2} {f:PyData->PyData->Option PyData} (ho:OpR X (binaryOp op) r) (hv:fz r f) (ha:PE X a (TAe PK i)) (hb:PE X b (TAe PK j)):PE X (.BinOp a op b pos) (TAe PK (aj f i j)) :=
 (eJ ho ha hb).imp (oZ hv)
theorem Zen {op:CmpOp} {r:R2} {f:PyData->PyData->Option PyData} (ho:OpR X (compareOp op) r) (hv:fz r f) (ha:PE X a (TAe PK i)) (hb:PE X b (TAe PK j)) (hm:behindInMarks op b=false):PE X (.Compare a [op] [b] pos) (TAe PK (aj f i j)) :=
 (Zhl ho ha hb hm).imp (oZ hv)
theorem eR {r:R2} {f:PyData->PyData->Option PyData} (hr:IxR X r) (hv:fz r f) (ha:PE X a (TAe PK i)) (hb:PE X b (TAe PK j)) (hs:Zet b):PE X (.Subscript a b pos) (TAe PK (aj f i j)) :=
 (gW hr ha hb hs).imp (oZ hv)
noncomputable def jI:PyData->Option Bool
 | .bool b=>some b
 | _=>none
@[simp] theorem ZnN (b:Bool):jI (.bool b)=some b:=rfl
noncomputable def d7 (i:List Sl->Tr PyData):List Sl->Tr Bool:=λρ=>(i ρ).bind λx=>Tr.of (jI x)
theorem Zeq:∀ σ H Q,TAt PK (d7 i) σ H Q->mT (TAe PK i) σ H Q:=by
 rintro σ H Q ⟨pa,G₀,H₀,m,ρ,G,R,q⟩
 refine TAe.then R q λm1 x v G1 H1 s1 w1 R1 d1 q1=>?_
 obtain ⟨b,hb,k⟩:=Tr.ok_of q1
 cases d1 <;> simp only [jI] at hb <;> cases hb
 exact ⟨_,rfl,k G1 H1 s1 w1⟩
theorem Zaw {t t':TE} (h:∀ σ H Q,t' σ H Q->t σ H Q):∀ σ H Q,mT t' σ H Q->mT t σ H Q:=λσ H Q z=>h σ H _ z
theorem eP {op:CmpOp} {r:R2} {f:PyData->PyData->Option PyData} (ho:OpR X (compareOp op) r) (hv:fz r f) (ha:PE X a (TAe PK i)) (hb:PE X b (TAe PK j)) (hm:behindInMarks op b=false):PT X (.Compare a [op] [b] pos) (TAt PK (d7 (aj f i j))) :=
 (jW ho ha hb hm).imp λσ H Q z=>Zaw (oZ hv) σ H Q (Zeq σ H Q z)
noncomputable def Zas:PyData->Option Bool
 | .bool b=>some b
 | .int n=>some (n != 0)
 | .none=>some false
 | .list xs=>some (!xs.isEmpty)
 | .tuple xs=>some (!xs.isEmpty)
 | _=>none
noncomputable def e9 (i:List Sl->Tr PyData):List Sl->Tr Bool:=λρ=>(i ρ).bind λx=>Tr.of (Zas x)
theorem DnAll.isEmpty {H:Hp} {vs:List V} {ds:List PyData} (h:DnAll H vs ds):vs.isEmpty=ds.isEmpty:=by
 cases h <;> rfl
theorem ft (h:PE X e (TAe PK i)) (he:∀ whole,isTrue e X.env whole=(do let v <- whole; standAt e.pos; holding [v] (truthy v)):=by intro _; rfl):PT X e (TAt PK (e9 i)):=(ZbS h he).imp λσ H Q hz0=>by
 obtain ⟨pa,G₀,H₀,m,ρ,G,R,q⟩:=hz0
 refine TAe.then R q λm1 x v G1 H1 s1 w1 R1 d1 q1=>?_
 obtain ⟨b,hb,k⟩:=Tr.ok_of q1
 have fin:=k G1 H1 s1 w1
 cases d1 with
 | non=>cases hb; exact ⟨_,rfl,fin⟩
 | bl b=>cases hb; exact ⟨_,rfl,fin⟩
 | int n=>cases hb; exact ⟨_,rfl,fin⟩
 | str _=>cases hb
 | tup h1 h2=>cases hb; exact ⟨_,.inr (.inl ⟨_,SqT.of (w1.sub _ _ h1),rfl⟩),by rw [h2.isEmpty]; exact fin⟩
 | lst h1 h2=>cases hb; exact ⟨_,.inl ⟨_,SqL.of (w1.sub _ _ h1),rfl⟩,by rw [h2.isEmpty]; exact fin⟩
 | dct _ _=>cases hb
 | dcp _ _ _=>cases hb
 | hdl _=>cases hb
noncomputable def sZ (i j:List Sl->Tr Bool):List Sl->Tr Bool:=λρ=>(i ρ).bind λx=>if x=true then j ρ else .ret false
noncomputable def gk (i j:List Sl->Tr Bool):List Sl->Tr Bool:=λρ=>(i ρ).bind λx=>if x=true then .ret true else j ρ
noncomputable def fb (i:List Sl->Tr Bool):List Sl->Tr Bool:=λρ=>(i ρ).bind λx=>.ret (!x)
variable {p q:List Sl->Tr Bool} {rest:List Expr}
theorem TAt.then {σ:St} {H:Hp} {β:Type} {k:Bool->Tr β} {Z:Ms->β->Prop} {Q:Bool->Hp->Prop} {pa:Addr} {G₀ H₀ G:Hp} {m:Ms} {ρ:List Sl} (R:Rl PK pa G₀ H₀ m σ ρ G H) (h:((p ρ).bind k).ok m Z)
  (hq:∀ m1 x G1 H1,Stp pa G H G1 H1->Wd PK pa m1 G1 H1->Rl PK pa G₀ H₀ m1 σ ρ G1 H1->(k x).ok m1 Z->Q x H1):TAt PK p σ H Q:=by
 refine ⟨pa,G₀,H₀,m,ρ,G,R,Tr.ok_mono (Tr.ok_bind.mp h) λm1 x hx G1 H1 s1 w1=>?_⟩
 exact hq m1 x G1 H1 s1 w1 (R.step s1 w1) hx
theorem Zd4 {G₀ H₀ G H G1 H1:Hp} {m:Ms} {σ:St} {ρ:List Sl} {pa:Addr} {Q:Bool->Hp->Prop} (R1:Rl PK pa G₀ H₀ m σ ρ G1 H1) (s1:Stp pa G H G1 H1) (h:(q ρ).ok m λm' b=>∀ G' H',Stp pa G H G' H'->Wd PK pa m' G' H'->Q b H'):TAt PK q σ H1 Q :=
 ⟨pa,G₀,H₀,m,ρ,G1,R1,Tr.ok_mono h λm2 b k G2 H2 s2 w2=>k G2 H2 (s1.trans s2 R1.wd.some) w2⟩
theorem sO {G₀ H₀ G H G1 H1:Hp} {m:Ms} {σ:St} {ρ:List Sl} {pa:Addr} {Q:VK} (R1:Rl PK pa G₀ H₀ m σ ρ G1 H1) (s1:Stp pa G H G1 H1) (h:(i ρ).ok m λm' x=>Kn PK pa m' G H x Q):TAe PK i σ H1 Q :=
 ⟨pa,G₀,H₀,m,ρ,G1,R1,Tr.ok_mono h λm2 b k=>Kn.later k s1 R1.wd.some⟩
theorem ZmN (ha:PT X a (TAt PK p)):PW X (.BoolOp .And [a] pos) (TAt PK p):=ZbP ha
theorem ip (ha:PT X a (TAt PK p)):PW X (.BoolOp .Or [a] pos) (TAt PK p):=ZgK ha
theorem ZmO (ha:PT X a (TAt PK p)) (hb:PW X (.BoolOp .And (b::rest) pos) (TAt PK q)):PW X (.BoolOp .And (a::b::rest) pos) (TAt PK (sZ p q)):=(ZbQ ha hb).imp λσ H Q hz0=>by
 obtain ⟨pa,G₀,H₀,m,ρ,G,R,z⟩:=hz0
 refine TAt.then R z λm1 x G1 H1 s1 w1 R1 q1=>?_
 cases x with
 | true=>rw [if_pos rfl] at q1 ⊢; exact Zd4 R1 s1 q1
 | false=>rw [if_neg Bool.false_ne_true] at q1 ⊢; exact q1 G1 H1 s1 w1
theorem gI (ha:PT X a (TAt PK p)) (hb:PW X (.BoolOp .Or (b::rest) pos) (TAt PK q)):PW X (.BoolOp .Or (a::b::rest) pos) (TAt PK (gk p q)):=(ZgL ha hb).imp λσ H Q hz0=>by
 obtain ⟨pa,G₀,H₀,m,ρ,G,R,z⟩:=hz0
 refine TAt.then R z λm1 x G1 H1 s1 w1 R1 q1=>?_
 cases x with
 | true=>rw [if_pos rfl] at q1 ⊢; exact q1 G1 H1 s1 w1
 | false=>rw [if_neg Bool.false_ne_true] at q1 ⊢; exact Zd4 R1 s1 q1
theorem g7 (h:PW X e (TAt PK p)):PT X e (TAt PK p):=h.pt
theorem fu (ha:PT X a (TAt PK p)):PT X (.UnaryOp .Not a pos) (TAt PK (fb p)):=(ZgM ha).imp λσ H Q hz0=>by
 obtain ⟨pa,G₀,H₀,m,ρ,G,R,z⟩:=hz0
 refine TAt.then R z λm1 x G1 H1 s1 w1 R1 q1=>?_
 exact q1 G1 H1 s1 w1
noncomputable def ky (i j:List Sl->Tr PyData):List Sl->Tr PyData:=λρ=>(d7 i ρ).bind λx=>if x=true then j ρ else .ret (.bool false)
noncomputable def oS (i:List Sl->Tr PyData):List Sl->Tr PyData:=λρ=>(d7 i ρ).bind λx=>.ret (.bool (!x))
theorem TAe.thenB {σ:St} {H:Hp} {β:Type} {k:Bool->Tr β} {Z:Ms->β->Prop} {Q:VK} {pa:Addr} {G₀ H₀ G:Hp} {m:Ms} {ρ:List Sl} (R:Rl PK pa G₀ H₀ m σ ρ G H) (h:((d7 i ρ).bind k).ok m Z)
  (hq:∀ m1 c G1 H1,Stp pa G H G1 H1->Wd PK pa m1 G1 H1->Rl PK pa G₀ H₀ m1 σ ρ G1 H1->(k c).ok m1 Z->Q (.bl c) H1):TAe PK i σ H Q:=by
 unfold d7 at h
 rw [Tr.bind_assoc] at h
 refine TAe.then R h λm1 x v G1 H1 s1 w1 R1 d1 q1=>?_
 rw [Tr.ok_bind] at q1
 obtain ⟨c,hb,q1⟩:=Tr.ok_of q1
 cases d1 <;> simp only [jI] at hb <;> cases hb
 exact hq m1 _ G1 H1 s1 w1 R1 q1
theorem oN {op} (h:PE X a (TAe PK i)):PE X (.BoolOp op [a] pos) (TAe PK i):=Zhc h
theorem mf (ha:PE X a (TAe PK i)) (hb:PE X (.BoolOp .And (b::rest) pos) (TAe PK j)):PE X (.BoolOp .And (a::b::rest) pos) (TAe PK (ky i j)):=(Zhp ha hb).imp λσ H Q hz0=>by
 obtain ⟨pa,G₀,H₀,m,ρ,G,R,z⟩:=hz0
 refine TAe.thenB R z λm1 x G1 H1 s1 w1 R1 q1=>⟨x,rfl,?_⟩
 cases x with
 | true=>rw [if_pos rfl] at q1 ⊢; exact sO R1 s1 q1
 | false=>rw [if_neg Bool.false_ne_true] at q1 ⊢; exact (Kn.later q1 s1 w1.some).here w1 (.bl false)
theorem Zej (ha:PE X a (TAe PK i)):PE X (.UnaryOp .Not a pos) (TAe PK (oS i)):=(Zb5 ha).imp λσ H Q hz0=>by
 obtain ⟨pa,G₀,H₀,m,ρ,G,R,z⟩:=hz0
 refine TAe.thenB R z λm1 x G1 H1 s1 w1 R1 q1=>⟨x,rfl,?_⟩
 exact (Kn.later q1 s1 w1.some).here w1 (.bl _)
noncomputable def mq (p:List Sl->Tr Bool) (i j:List Sl->Tr PyData):List Sl->Tr PyData:=λρ=>(p ρ).bind λx=>if x=true then i ρ else j ρ
theorem sP (hc:PT X c (TAt PK p)) (ha:PE X a (TAe PK i)) (hb:PE X b (TAe PK j)):PE X (.IfExp c a b pos) (TAe PK (mq p i j)):=(Zhg hc ha hb).imp λσ H Q hz0=>by
 obtain ⟨pa,G₀,H₀,m,ρ,G,R,z⟩:=hz0
 refine TAt.then R z λm1 x G1 H1 s1 w1 R1 q1=>?_
 cases x with
 | true=>rw [if_pos rfl] at q1 ⊢; exact sO R1 s1 q1
 | false=>rw [if_neg Bool.false_ne_true] at q1 ⊢; exact sO R1 s1 q1
variable {is:List Sl->Tr (List PyData)}
noncomputable def cE:List Sl->Tr (List PyData):=λ_=>.ret []
noncomputable def ao (i:List Sl->Tr PyData) (is:List Sl->Tr (List PyData)):List Sl->Tr (List PyData):=λρ=>(i ρ).bind λx=>(is ρ).bind λxs=>.ret (x::xs)
theorem cF:PA X [] (TAd PK cE):=dh.imp λσ H Q hz0=>by
 obtain ⟨pa,G₀,H₀,m,ρ,G,R,z⟩:=hz0
 exact z [] G H .refl R.wd .nil
theorem TAd.then {σ:St} {H:Hp} {β:Type} {k:List PyData->Tr β} {Z:Ms->β->Prop} {Q:List V->Hp->Prop} {pa:Addr} {G₀ H₀ G:Hp} {m:Ms} {ρ:List Sl} (R:Rl PK pa G₀ H₀ m σ ρ G H) (h:((is ρ).bind k).ok m Z)
  (hq:∀ m1 xs vs G1 H1,Stp pa G H G1 H1->Wd PK pa m1 G1 H1->Rl PK pa G₀ H₀ m1 σ ρ G1 H1->DnAll G1 vs xs->(k xs).ok m1 Z->Q vs H1):TAd PK is σ H Q:=by
 refine ⟨pa,G₀,H₀,m,ρ,G,R,Tr.ok_mono (Tr.ok_bind.mp h) λm1 x hx v G1 H1 s1 w1 d1=>?_⟩
 exact hq m1 x v G1 H1 s1 w1 (R.step s1 w1) d1 hx
theorem cw (ha:PE X e (TAe PK i)) (hr:PA X es (TAd PK is)) (hs:starEach (e::es) X.env=(false,eval e X.env)::starEach es X.env:=by rfl):PA X (e::es) (TAd PK (ao i is)):=(b9 ha hr hs).imp λσ H Q hz0=>by
 obtain ⟨pa,G₀,H₀,m,ρ,G,R,z⟩:=hz0
 refine TAe.then R z λm1 x v G1 H1 s1 w1 R1 d1 q1=>?_
 refine TAd.then R1 q1 λm2 xs vs G2 H2 s2 w2 R2 d2 q2=>?_
 exact q2 _ _ _ (s1.trans s2 w1.some) w2 (.cons (d1.mono s2.gs) d2)
noncomputable def small (n:Nat):Bool:=decide (n<=sizeLine)
noncomputable def ff (is:List Sl->Tr (List PyData)):List Sl->Tr PyData:=λρ=>(is ρ).bind λxs=>if small xs.length=true then .ret (.tuple xs) else .fail
noncomputable def fQ (is:List Sl->Tr (List PyData)):List Sl->Tr PyData:=λρ=>(is ρ).bind λxs=>.ret (.list xs)
noncomputable def gy (is:List Sl->Tr (List PyData)):List Sl->Tr (List PyData):=λρ=>(is ρ).bind λxs=>if small xs.length=true then .ret xs else .fail
theorem fK {α:Type} {c:Bool} {t:Tr α} {m:Ms} {Q:Ms->α->Prop} (h:(if c=true then t else .fail).ok m Q):c=true/\t.ok m Q:=by
 cases c with
 | true=>exact ⟨rfl,h⟩
 | false=>exact h.elim
theorem fH {x1} (h:PA X es (TAd PK is)):PE X (.Tuple es x1 pos) (TAe PK (ff is)):=(Zb3 h).imp λσ H Q hz0=>by
 obtain ⟨pa,G₀,H₀,m,ρ,G,R,z⟩:=hz0
 refine TAd.then R z λm1 xs vs G1 H1 s1 w1 R1 d1 q1=>?_
 obtain ⟨hs,k⟩:=fK q1
 exact ⟨by rw [d1.length]; exact of_decide_eq_true hs,λp hp=>(Kn.later k s1 w1.some).tup w1 d1 hp⟩
theorem Ko1.new {pa:Addr} {m:Ms} {G H:Hp} {xs:List PyData} {vs:List V} {Q:VK} {p:Addr} (k:Ko1 PK pa m G H xs Q) (w:Wd PK pa m G H) (d:DnAll G vs xs) (hp:H p=none):Q (.ref p) (upd H p (.lst vs)):=by
 obtain ⟨w1,s1⟩:=w.own (o:=.lst vs) hp
 exact k p vs G _ s1 w1 hp (w.gnone hp) cr d
theorem Ko1.later {pa:Addr} {m:Ms} {G H G1 H1:Hp} {xs:List PyData} {Q:VK} (k:Ko1 PK pa m G H xs Q) (s:Stp pa G H G1 H1) (hp:∃ o,H1 pa=some o):Ko1 PK pa m G1 H1 xs Q:=λp vs G' H' s' w' h1 h2 h3 h4 =>
 k p vs G' H' (s.trans s' hp) w' (s.none h1) h2 h3 h4
theorem g8 (h:PA X es (TAd PK is)):PE X (.List es pos) (i7 PK (gy is)):=(jj h).imp λσ H Q hz0=>by
 obtain ⟨pa,G₀,H₀,m,ρ,G,R,z⟩:=hz0
 refine TAd.then R z λm1 xs vs G1 H1 s1 w1 R1 d1 q1=>?_
 obtain ⟨hs,k⟩:=fK q1
 exact ⟨by rw [d1.length]; exact of_decide_eq_true hs,λp hp=>(Ko1.later k s1 w1.some).new w1 d1 hp⟩
theorem Ko1.of {pa:Addr} {m:Ms} {G H:Hp} {xs:List PyData} {Q:VK} (k:Kn PK pa m G H (.list xs) Q) (hp:∃ o,H pa=some o):Ko1 PK pa m G H xs Q:=λp vs G' H' s w h1 h2 h3 h4=>by
 have hne:pa≠p:=λe=>by
  obtain ⟨o,z⟩:=hp
  rw [e,h1] at z; cases z
 have sb:Sub G' (upd G' p (.lst vs)):=Sub.new h2
 refine k _ (upd G' p (.lst vs)) H' ⟨λb o h=>sb b o (s.gs b o h),λb o h=>?_,s.hk,s.al⟩ (w.freeze h3 h2 hne) (.lst cr (DnAll.mono sb h4))
 by_cases e:b=p
 ·subst e; exact .inr (.inl h1)
 ·rw [ak e] at h; exact s.gn b o h
theorem gJ (h:PE X e (i7 PK is)):PE X e (TAe PK (fQ is)):=h.imp λσ H Q hz0=>by
 obtain ⟨pa,G₀,H₀,m,ρ,G,R,z⟩:=hz0
 refine ⟨pa,G₀,H₀,m,ρ,G,R,Tr.ok_mono (Tr.ok_bind.mp z) λm1 xs k=>Ko1.of k R.wd.some⟩
noncomputable def jD (r:List V->Hp->VK->Prop) (f:List PyData->Option PyData):Prop:=∀ (PK:Pk) (pa:Addr) (m:Ms) (G H:Hp) (vs:List V) (ds:List PyData) (d:PyData) (Q:VK),Wd PK pa m G H->DnAll G vs ds->f ds=some d->Kn PK pa m G H d Q->r vs H Q
noncomputable def gz (f:List PyData->Option PyData) (is:List Sl->Tr (List PyData)):List Sl->Tr PyData:=λρ=>(is ρ).bind λxs=>Tr.of (f xs)
theorem Znf {r:List V->Hp->VK->Prop} {f:List PyData->Option PyData} (hv:jD r f):∀ σ H Q,TAe PK (gz f is) σ H Q->jK r (TAd PK is) σ H Q:=by
 rintro σ H Q ⟨pa,G₀,H₀,m,ρ,G,R,z⟩
 refine TAd.then R z λm1 xs vs G1 H1 s1 w1 R1 d1 q1=>?_
 obtain ⟨d,hd,k⟩:=Tr.ok_of q1
 exact hv PK pa m1 G1 H1 vs xs d Q w1 d1 hd (Kn.later k s1 w1.some)
theorem ir {t:TA} {r:List V->Hp->VK->Prop} {f:List PyData->Option PyData} (h:PE X e (jK r (TAd PK is))) (hv:jD r f):PE X e (TAe PK (gz f is)):=h.imp (Znf hv)
variable {as:List Sl->Tr (List Sl)}
noncomputable def b7:List Sl->Tr (List Sl):=λ_=>.ret []
noncomputable def ae (i:List Sl->Tr PyData) (as:List Sl->Tr (List Sl)):List Sl->Tr (List Sl):=λρ=>(i ρ).bind λx=>(as ρ).bind λxs=>.ret (.d x::xs)
noncomputable def eZ (k:Nat) (as:List Sl->Tr (List Sl)):List Sl->Tr (List Sl):=λρ=>match ρ[k]? with
 | some .pen=>(as ρ).bind λxs=>.ret (.pen::xs)
 | _=>.fail
theorem ce:PA X [] (TAa PK b7):=dh.imp λσ H Q hz0=>by
 obtain ⟨pa,G₀,H₀,m,ρ,G,R,z⟩:=hz0
 exact z [] G H .refl R.wd .nil
theorem TAa.then {σ:St} {H:Hp} {β:Type} {k:List Sl->Tr β} {Z:Ms->β->Prop} {Q:List V->Hp->Prop} {pa:Addr} {G₀ H₀ G:Hp} {m:Ms} {ρ:List Sl} (R:Rl PK pa G₀ H₀ m σ ρ G H) (h:((as ρ).bind k).ok m Z)
  (hq:∀ m1 xs vs G1 H1,Stp pa G H G1 H1->Wd PK pa m1 G1 H1->Rl PK pa G₀ H₀ m1 σ ρ G1 H1->ArsOk pa G1 vs xs->(k xs).ok m1 Z->Q vs H1):TAa PK as σ H Q:=by
 refine ⟨pa,G₀,H₀,m,ρ,G,R,Tr.ok_mono (Tr.ok_bind.mp h) λm1 x hx v G1 H1 s1 w1 d1=>?_⟩
 exact hq m1 x v G1 H1 s1 w1 (R.step s1 w1) d1 hx
theorem ah (ha:PE X e (TAe PK i)) (hr:PA X es (TAa PK as)) (hs:starEach (e::es) X.env=(false,eval e X.env)::starEach es X.env:=by rfl):PA X (e::es) (TAa PK (ae i as)):=(b9 ha hr hs).imp λσ H Q hz0=>by
 obtain ⟨pa,G₀,H₀,m,ρ,G,R,z⟩:=hz0
 refine TAe.then R z λm1 x v G1 H1 s1 w1 R1 d1 q1=>?_
 refine TAa.then R1 q1 λm2 xs vs G2 H2 s2 w2 R2 d2 q2=>?_
 exact q2 _ _ _ (s1.trans s2 w1.some) w2 (.cons (.d (d1.mono s2.gs)) d2)
theorem fJ {k:Nat} (ha:PE X e (iB k)) (hr:PA X es (TAa PK as)) (hs:starEach (e::es) X.env=(false,eval e X.env)::starEach es X.env:=by rfl):PA X (e::es) (TAa PK (eZ k as)):=(b9 ha hr hs).imp λσ H Q hz0=>by
 obtain ⟨pa,G₀,H₀,m,ρ,G,R,z⟩:=hz0
 unfold eZ at z
 split at z
 ·rename_i hk
  obtain ⟨o,h1,h2⟩:=R.sl k _ hk
  cases h2
  refine ⟨_,h1,?_⟩
  refine TAa.then R z λm2 xs vs G2 H2 s2 w2 R2 d2 q2=>?_
  exact q2 _ _ _ s2 w2 (.cons .pen d2)
 ·exact z.elim
noncomputable def lp (PK:Pk) (n:Nat) (f:List Sl->Tr Re):Sp:=λvs H Q _=>vs.length=n/\∃ pa m G as,Wd PK pa m G H/\ArsOk pa G vs as/\(f as).ok m λm' r=>Kr PK pa m' G H r Q
noncomputable def cu (f:List Sl->Tr Re) (as:List Sl->Tr (List Sl)):List Sl->Tr Re:=λρ=>(as ρ).bind f
noncomputable def cg (f:List Sl->Tr Re):List Sl->Tr PyData:=λρ=>(f ρ).bind λr=>.ret r.val
noncomputable def jE (PK:Pk) (i:List Sl->Tr Re):TE:=λσ H Q=>∃ pa G₀ H₀ m ρ G,Rl PK pa G₀ H₀ m σ ρ G H/\(i ρ).ok m λm' r=>Kr PK pa m' G H r Q
theorem Kr.later {pa:Addr} {m:Ms} {G H G1 H1:Hp} {r:Re} {Q:VK} (k:Kr PK pa m G H r Q) (s:Stp pa G H G1 H1) (hp:∃ o,H1 pa=some o):Kr PK pa m G1 H1 r Q:=λv G' H' s' w' d=>by
 refine k v G' H' (s.trans s' hp) w' ?_
 cases r with
 | d x=>exact d
 | own xs =>
  obtain ⟨p,vs,e,h1,h2,h3,h4⟩:=d
  exact ⟨p,vs,e,h1,h2,s.none h3,h4⟩
theorem Kr.of {pa:Addr} {m:Ms} {G H:Hp} {r:Re} {Q:VK} (k:Kn PK pa m G H r.val Q) (hp:∃ o,H pa=some o):Kr PK pa m G H r Q:=λv G' H' s w d=>by
 cases r with
 | d x=>exact k v G' H' s w d
 | own xs =>
  obtain ⟨p,vs,rfl,h1,h2,h3,h4⟩:=d
  exact Ko1.of k hp p vs G' H' s w h3 h2 h1 h4
theorem cm {f:List Sl->Tr Re} (h:PE X e (jE PK f)):PE X e (TAe PK (cg f)):=h.imp (by
 intro σ H Q z
 obtain ⟨pa,G₀,H₀,m,ρ,G,R,z⟩:=z
 exact ⟨pa,G₀,H₀,m,ρ,G,R,Tr.ok_mono (Tr.ok_bind.mp z) λm1 r k=>Kr.of k R.wd.some⟩)
structure ACal (PK:Pk) (P:Program) (w:World) (K:PySem.W.Frag) (mg:Str->Option Value) (base:Heap) (x:Str) (k:Nat) (ps:List Str) (f:List Sl->Tr Re):Prop where
 cal:Callee P w K mg base x k ps (lp PK ps.length f)
 len:∀ as m Z,(f as).ok m Z->as.length=ps.length
theorem cx {x:Str} {k:Nat} {ps:List Str} {f:List Sl->Tr Re} {pp:Pos} (C:ACal PK X.prog X.w X.K X.mg X.base x k ps f) (hr:Room k X.A) (hg:Gl X x) (ha:PA X (e::es) (TAa PK as))
  (hdb:(x == ("__debug__":Str))=false:=by decide)
  (he:starEach (e::es) X.env=(false,eval e X.env)::starEach es X.env:=by rfl) (hpl:(backTo pos (starEach es X.env)).any (·.1)=false:=by rfl):PE X (.Call (.Name x pp) (e::es) [] pos) (jE PK (cu f as)) :=
 (Zca C.cal hr hg ha hdb he hpl).imp λσ H Q hz0=>by
  obtain ⟨pa,G₀,H₀,m,ρ,G,R,z⟩:=hz0
  refine TAa.then R z λm1 xs vs G1 H1 s1 w1 R1 d1 q1=>?_
  show lp PK ps.length f (vs++[]) H1 Q E0
  rw [List.append_nil]
  exact ⟨by rw [d1.length]; exact C.len _ _ _ q1,pa,m1,G1,xs,w1,d1,Tr.ok_mono q1 λm2 r k=>Kr.later k s1 w1.some⟩
variable {PK:Pk} {X:Cx} {a b c e:Expr} {es:List Expr} {pos:Pos} {i j l:List Sl->Tr PyData} {is:List Sl->Tr (List PyData)} {as:List Sl->Tr (List Sl)} {f:List Sl->Tr Re} {p q:List Sl->Tr Bool} {st:Stmt} {sts:List Stmt} {s t u:List Sl->Tr Ou}
noncomputable def am (s t:List Sl->Tr Ou):List Sl->Tr Ou:=λρ=>(s ρ).bind λo=>match o with
 | .next ρ'=>t ρ'
 | o=>.ret o
noncomputable def eB:List Sl->Tr Ou:=λρ=>.ret (.next ρ)
theorem Ko.later {pa:Addr} {G₀ H₀ Gs G:Hp} {D:Ends} {m:Ms} {o:Ou} (k:Ko PK pa G₀ H₀ Gs D m o) (sb:Sub Gs G):Ko PK pa G₀ H₀ G D m o:=by
 cases o with
 | next ρ=>exact λσ G' H s R=>k σ G' H (λb o h=>s b o (sb b o h)) R
 | ret r=>exact k
 | brk ρ=>exact λσ G' H s R=>k σ G' H (λb o h=>s b o (sb b o h)) R
 | cont ρ=>exact λσ G' H s R=>k σ G' H (λb o h=>s b o (sb b o h)) R
theorem Sub.refl {G:Hp}:Sub G G:=λ_ _ h=>h
theorem Sub.trans {G G1 G2:Hp} (a:Sub G G1) (b:Sub G1 G2):Sub G G2:=λc o h=>b c o (a c o h)
theorem eF:PSs X [] (cP PK eB):=kI.imp λD σ H hz0=>by
 obtain ⟨pa,G₀,H₀,m,ρ,G,R,z⟩:=hz0
 exact z σ G H .refl R
theorem Zne:∀ D σ H,cP PK (am s t) D σ H->pL (cP PK s) (cP PK t) D σ H:=by
 rintro D σ H ⟨pa,G₀,H₀,m,ρ,G,R,z⟩
 refine ⟨pa,G₀,H₀,m,ρ,G,R,Tr.ok_mono (Tr.ok_bind.mp z) λm1 o k=>?_⟩
 cases o with
 | next ρ'=>exact λσ' G' H' sb R'=>⟨pa,G₀,H₀,m1,ρ',G',R',Tr.ok_mono k λ_ _ k'=>Ko.later k' sb⟩
 | ret r=>exact k
 | brk ρ'=>exact k
 | cont ρ'=>exact k
theorem ap (h1:PS X st (cP PK s)) (h2:PSs X sts (cP PK t)):PSs X (st::sts) (cP PK (am s t)):=(eX h1 h2).imp Zne
theorem cq (h1:PS X st (cP PK s)):PSs X [st] (cP PK s):=gT h1
noncomputable def ml:List Sl->Tr Ou:=λ_=>.fail
theorem oF:PS X st (cP PK ml):=λ_ _ _ _ _ _ h=>by
 obtain ⟨pa,G₀,H₀,m,ρ,G,R,z⟩:=h
 exact z.elim
noncomputable def gM (i:List Sl->Tr PyData):List Sl->Tr Ou:=λρ=>(i ρ).bind λ_=>.ret (.next ρ)
theorem iq (he:PE X e (TAe PK i)) (hs:swapsWith e none pos.line X.env=pure false:=by rfl):PS X (.Expr e pos) (cP PK (gM i)):=(qu he hs).imp λD σ H hz0=>by
 obtain ⟨pa,G₀,H₀,m,ρ,G,R,z⟩:=hz0
 refine TAe.then R z λm1 x v G1 H1 s1 w1 R1 d1 q1=>?_
 exact q1 σ G1 H1 s1.gs R1
noncomputable def dY (i:List Sl->Tr PyData):List Sl->Tr Ou:=λρ=>(i ρ).bind λx=>.ret (.ret (.d x))
theorem ek (he:PE X e (TAe PK i)):PS X (.Return (some e) pos) (cP PK (dY i)):=(gU he).imp λD σ H hz0=>by
 obtain ⟨pa,G₀,H₀,m,ρ,G,R,z⟩:=hz0
 refine TAe.then R z λm1 x v G1 H1 s1 w1 R1 d1 q1=>?_
 exact q1 v G1 H1 R1.st w1 d1
noncomputable def mi (is:List Sl->Tr (List PyData)):List Sl->Tr Ou:=λρ=>(is ρ).bind λx=>.ret (.ret (.own x))
theorem sF (he:PE X e (i7 PK is)):PS X (.Return (some e) pos) (cP PK (mi is)):=(gU he).imp λD σ H hz0=>by
 obtain ⟨pa,G₀,H₀,m,ρ,G,R,z⟩:=hz0
 refine ⟨pa,G₀,H₀,m,ρ,G,R,Tr.ok_mono (Tr.ok_bind.mp z) λm1 xs k p vs G1 H1 s1 w1 h1 h2 h3 h4=>?_⟩
 exact k (.ref p) G1 H1 (R.st.trans s1 R.wd.some) w1 ⟨p,vs,rfl,h3,h2,R.h0 h1,h4⟩
noncomputable def oQ (f:List Sl->Tr Re):List Sl->Tr Ou:=λρ=>(f ρ).bind λr=>.ret (.ret r)
theorem Zea (he:PE X e (jE PK f)):PS X (.Return (some e) pos) (cP PK (oQ f)):=(gU he).imp (by
 intro D σ H z
 obtain ⟨pa,G₀,H₀,m,ρ,G,R,z⟩:=z
 exact ⟨pa,G₀,H₀,m,ρ,G,R,Tr.ok_mono (Tr.ok_bind.mp z) λm1 r k=>Kr.later k R.st R.wd.some⟩)
noncomputable def lr (k:Nat):List Sl->Tr Ou:=λρ=>match ρ[k]? with
 | some (.d x)=>.ret (.ret (.d x))
 | some (.own xs)=>.ret (.ret (.own xs))
 | _=>.fail
theorem ZmW {k:Nat} (he:PE X e (iB k)):PS X (.Return (some e) pos) (cP PK (lr k)):=(gU he).imp λD σ H hz0=>by
 obtain ⟨pa,G₀,H₀,m,ρ,G,R,z⟩:=hz0
 unfold lr at z
 split at z
 ·rename_i x hx
  obtain ⟨o,h1,h2⟩:=R.sl k _ hx
  cases h2 with
  | d d1=>exact ⟨_,h1,z _ G H R.st R.wd d1⟩
 ·rename_i xs hx
  obtain ⟨o,h1,h2⟩:=R.sl k _ hx
  cases h2 with
  | own a1 a2 a3 a4=>exact ⟨_,h1,z _ G H R.st R.wd ⟨_,_,rfl,a1,a2,a3,a4⟩⟩
 ·exact z.elim
theorem Zeb:PS X (.Return none pos) (cP PK (dY (aC .none))):=ZgS.imp λD σ H hz0=>by
 obtain ⟨pa,G₀,H₀,m,ρ,G,R,z⟩:=hz0
 exact z .non G H R.st R.wd .non
noncomputable def eK (p:List Sl->Tr Bool) (s t:List Sl->Tr Ou):List Sl->Tr Ou:=λρ=>(p ρ).bind λx=>if x=true then s ρ else t ρ
theorem eQ {xs ys:List Stmt} (hc:PT X c (TAt PK p)) (ha:PSs X xs (cP PK s)) (hb:PSs X ys (cP PK t)):PS X (.If c xs ys pos) (cP PK (eK p s t)):=(jX hc ha hb).imp λD σ H hz0=>by
 obtain ⟨pa,G₀,H₀,m,ρ,G,R,z⟩:=hz0
 refine TAt.then R z λm1 x G1 H1 s1 w1 R1 q1=>?_
 cases x with
 | true=>rw [if_pos rfl] at q1 ⊢; exact ⟨pa,G₀,H₀,m1,ρ,G1,R1,Tr.ok_mono q1 λ_ _ k'=>Ko.later k' s1.gs⟩
 | false=>rw [if_neg Bool.false_ne_true] at q1 ⊢; exact ⟨pa,G₀,H₀,m1,ρ,G1,R1,Tr.ok_mono q1 λ_ _ k'=>Ko.later k' s1.gs⟩
noncomputable def dP (k:Nat) (i:List Sl->Tr PyData):List Sl->Tr Ou:=λρ=>(i ρ).bind λx=>.ret (.next (ρ.set k (.d x)))
theorem dX {k:Nat} (h:PS X st (iD (TAe PK i) (ju k))):PS X st (cP PK (dP k i)):=h.imp λD σ H hz0=>by
 obtain ⟨pa,G₀,H₀,m,ρ,G,R,z⟩:=hz0
 refine TAe.then R z λm1 x v G1 H1 s1 w1 R1 d1 q1=>?_
 exact q1 _ G1 H1 s1.gs (R1.set d1 k)
noncomputable def ZaI:Re->Sl
 | .d x=>.d x
 | .own xs=>.own xs
noncomputable def sS (k:Nat) (f:List Sl->Tr Re):List Sl->Tr Ou:=λρ=>(f ρ).bind λr=>.ret (.next (ρ.set k (ZaI r)))
theorem ZmT {k:Nat} (h:PS X st (iD (jE PK f) (ju k))):PS X st (cP PK (sS k f)):=h.imp λD σ H hz0=>by
 obtain ⟨pa,G₀,H₀,m,ρ,G,R,z⟩:=hz0
 refine ⟨pa,G₀,H₀,m,ρ,G,R,Tr.ok_mono (Tr.ok_bind.mp z) λm1 r k' v G1 H1 s1 w1 d1=>?_⟩
 have R1:=R.step s1 w1
 cases r with
 | d x=>exact k' _ G1 H1 s1.gs (R1.set d1 k)
 | own xs =>
  obtain ⟨p,vs,rfl,h1,h2,h3,h4⟩:=d1
  exact k' _ G1 H1 s1.gs (R1.setO h1 h2 (R.h0 h3) h4 (λn ys e=>R.apart h3 n ys e) k)
noncomputable def o5 (k:Nat) (i:List Sl->Tr PyData):List Sl->Tr Ou:=λρ=>match ρ[k]? with
 | some (.own xs)=>(i ρ).bind λx=>if small (xs.length+1)=true then .ret (.next (ρ.set k (.own (xs++[x])))) else .fail
 | _=>.fail
theorem DnAll.snoc {H:Hp} {vs:List V} {ds:List PyData} {v:V} {d:PyData} (h:DnAll H vs ds) (h1:Dn H v d):DnAll H (vs++[v]) (ds++[d]):=h.append (.cons h1 .nil)
theorem ZmX {k:Nat} {K:PySem.W.Frag} {st:Stmt} (h:PS X st (pN (pQ K "list" qp (iB k) (iC (TAe PK i) fi)))):PS X st (cP PK (o5 k i)):=h.imp λD σ H hz0=>by
 obtain ⟨pa,G₀,H₀,m,ρ,G,R,z⟩:=hz0
 unfold o5 at z
 split at z
 ·rename_i xs hx
  obtain ⟨o,h1,h2⟩:=R.sl k _ hx
  cases h2 with
  | @own p vs _ a1 a2 a3 a4 =>
   refine ⟨_,h1,.inl ⟨rfl,_,SqL.of a1⟩,?_⟩
   refine TAe.then R z λm1 x v G1 H1 s1 w1 R1 d1 q1=>?_
   obtain ⟨hs,q1⟩:=fK q1
   obtain ⟨o,h1',h2⟩:=R1.sl k _ hx
   rw [h1] at h1'
   cases h1'
   cases h2 with
   | @own _ vs1 _ b1 b2 b3 b4 =>
    have hs':xs.length+1<=sizeLine:=of_decide_eq_true hs
    refine ⟨p,vs1,v,rfl,rfl,b1,by rw [b4.length]; omega,?_⟩
    exact q1 σ G1 _ s1.gs (R1.change hx h1 (b4.snoc d1))
 ·exact z.elim
theorem DnAll.reverse {H:Hp} {vs:List V} {ds:List PyData} (h:DnAll H vs ds):DnAll H vs.reverse ds.reverse:=by
 induction vs generalizing ds with
 | nil=>cases h; exact .nil
 | cons v vs ih=>cases h with | cons r t=>rw [List.reverse_cons,List.reverse_cons]; exact DnAll.append (ih t) (.cons r .nil)
noncomputable def oP (k:Nat):List Sl->Tr Ou:=λρ=>match ρ[k]? with
 | some (.own xs)=>.ret (.next (ρ.set k (.own xs.reverse)))
 | _=>.fail
theorem ZmV {k:Nat} {K:PySem.W.Frag} (h:PS X st (pN (pP K "list" Zby (iB k)))):PS X st (cP PK (oP k)):=h.imp λD σ H hz0=>by
 obtain ⟨pa,G₀,H₀,m,ρ,G,R,z⟩:=hz0
 unfold oP at z
 split at z
 ·rename_i xs hx
  obtain ⟨o,h1,h2⟩:=R.sl k _ hx
  cases h2 with
  | @own p vs _ a1 a2 a3 a4 =>
   refine ⟨_,h1,.inl ⟨rfl,_,SqL.of a1⟩,p,vs,rfl,rfl,a1,?_⟩
   exact z σ G _ .refl (R.change hx h1 a4.reverse)
 ·exact z.elim
noncomputable def gN (PK:Pk) (g:PyData->List Sl->Option (List Sl)):TG:=λv σ H Q=>∃ pa G₀ H₀ m ρ G x ρ',Rl PK pa G₀ H₀ m σ ρ G H/\Dn G v x/\g x ρ=some ρ'/\∀ σ',Rl PK pa G₀ H₀ m σ' ρ' G H->Q σ' H
noncomputable def o7 (PK:Pk) (g:List PyData->List Sl->Option (List Sl)):i6:=λvs σ H Q=>∃ pa G₀ H₀ m ρ G xs ρ',Rl PK pa G₀ H₀ m σ ρ G H/\DnAll G vs xs/\g xs ρ=some ρ'/\∀ σ',Rl PK pa G₀ H₀ m σ' ρ' G H->Q σ' H
theorem PG.imp {tg:Expr} {t t':TG} (h:PG X tg t) (q:∀ v σ H Q,t' v σ H Q->t v σ H Q):PG X tg t':=λpins s σ H v u Q I r z=>h pins s σ H v u Q I r (q v σ H Q z)
theorem PGs.imp {tg:List Expr} {t t':i6} (h:PGs X tg t) (q:∀ v σ H Q,t' v σ H Q->t v σ H Q):PGs X tg t':=λpins s σ H v u Q I r z=>h pins s σ H v u Q I r (q v σ H Q z)
noncomputable def cy (k:Nat):PyData->List Sl->Option (List Sl):=λx ρ=>some (ρ.set k (.d x))
theorem dU {k:Nat} (h:PG X e (ju k)):PG X e (gN PK (cy k)):=h.imp λv σ H Q hz0=>by
 obtain ⟨pa,G₀,H₀,m,ρ,G,x,ρ',R,d,e,q⟩:=hz0
 cases e
 exact q _ (R.set d k)
noncomputable def fV:List PyData->List Sl->Option (List Sl):=λxs ρ=>match xs with
 | []=>some ρ
 | _=>none
noncomputable def dS (g:PyData->List Sl->Option (List Sl)) (gs:List PyData->List Sl->Option (List Sl)):List PyData->List Sl->Option (List Sl):=λxs ρ=>match xs with
 | x::xs=>(g x ρ).bind λρ'=>gs xs ρ'
 | []=>none
theorem iW:PGs X [] (o7 PK fV):=Zg6.imp λvs σ H Q hz0=>by
 obtain ⟨pa,G₀,H₀,m,ρ,G,xs,ρ',R,d,e,q⟩:=hz0
 cases d with
 | nil=>cases e; exact ⟨rfl,q _ R⟩
 | cons _ _=>cases e
theorem eA {g:PyData->List Sl->Option (List Sl)} {gs:List PyData->List Sl->Option (List Sl)} (h1:PG X e (gN PK g)) (h2:PGs X es (o7 PK gs))
  (hs:(assignEach (e::es) X.env).map (·.2)=assign e X.env::(assignEach es X.env).map (·.2):=by rfl):PGs X (e::es) (o7 PK (dS g gs)):=(Zg7 h1 h2 hs).imp λvs σ H Q hz0=>by
 obtain ⟨pa,G₀,H₀,m,ρ,G,xs,ρ',R,d,e,q⟩:=hz0
 cases d with
 | nil=>cases e
 | cons d1 d2 =>
  have e':(g _ ρ).bind (λρ'=>gs _ ρ')=some ρ':=e
  cases h:g _ ρ with
  | none=>rw [h] at e'; cases e'
  | some ρ1 =>
   rw [h] at e'
   exact ⟨_,_,rfl,pa,G₀,H₀,m,ρ,G,_,ρ1,R,d1,h,λσ1 R1=>⟨pa,G₀,H₀,m,ρ1,G,_,ρ',R1,d2,e',q⟩⟩
noncomputable def gi (gs:List PyData->List Sl->Option (List Sl)):PyData->List Sl->Option (List Sl):=λx ρ=>match x with
 | .tuple xs=>gs xs ρ
 | _=>none
noncomputable def ou (n:Nat) (gs:List PyData->List Sl->Option (List Sl)):Prop:=∀ xs ρ ρ',gs xs ρ=some ρ'->xs.length=n
theorem iS:ou 0 fV:=λxs ρ ρ' h=>by cases xs with | nil=>rfl | cons _ _=>cases h
theorem et {n:Nat} {g:PyData->List Sl->Option (List Sl)} {gs:List PyData->List Sl->Option (List Sl)} (h:ou n gs):ou (n+1) (dS g gs):=λxs ρ ρ' e=>by
 cases xs with
 | nil=>cases e
 | cons x xs =>
  have e':(g x ρ).bind (λρ'=>gs xs ρ')=some ρ':=e
  cases h1:g x ρ with
  | none=>rw [h1] at e'; cases e'
  | some ρ1 =>
   rw [h1] at e'
   exact congrArg (·+1) (h xs ρ1 ρ' e')
theorem iX {k:Nat} {gs:List PyData->List Sl->Option (List Sl)} {n:Nat} (hc:X.calm=true) (h:PGs X es (o7 PK gs)) (hl:ou n gs)
  (hn:(assignEach es X.env).length=n:=by rfl) (hst:(assignEach es X.env).findIdx? (·.1)=none:=by rfl):PG X (.Tuple es k pos) (gN PK (gi gs)):=(Zg8 hc h hn hst).imp λv σ H Q hz0=>by
 obtain ⟨pa,G₀,H₀,m,ρ,G,x,ρ',R,d,e,q⟩:=hz0
 cases d with
 | tup h1 h2=>exact ⟨_,_,rfl,SqT.of (R.wd.sub _ _ h1),by rw [h2.length]; exact hl _ _ _ e,pa,G₀,H₀,m,ρ,G,_,ρ',R,h2,e,q⟩
 | _=>cases e
noncomputable def jC (g:PyData->List Sl->Option (List Sl)) (i:List Sl->Tr PyData):List Sl->Tr Ou:=λρ=>(i ρ).bind λx=>(Tr.of (g x ρ)).bind λρ'=>.ret (.next ρ')
theorem lj {g:PyData->List Sl->Option (List Sl)} (h:PS X st (iD (TAe PK i) (gN PK g))):PS X st (cP PK (jC g i)):=h.imp λD σ H hz0=>by
 obtain ⟨pa,G₀,H₀,m,ρ,G,R,z⟩:=hz0
 refine TAe.then R z λm1 x v G1 H1 s1 w1 R1 d1 q1=>?_
 rw [Tr.ok_bind] at q1
 obtain ⟨ρ',hg,q1⟩:=Tr.ok_of q1
 exact ⟨pa,G₀,H₀,m1,ρ,G1,x,ρ',R1,d1,hg,λσ' R'=>q1 σ' G1 H1 s1.gs R'⟩
noncomputable def pq (PK:Pk) (pa:Addr) (J:It) (G:Hp) (xs:List PyData):Prop:=∀ m G2 H2,Sub G G2->Wd PK pa m G2 H2 ->
 (∀ (n:Nat) (d:PyData),xs[n]?=some d->J.go n H2/\∀ x H3,J.yld n H2 x H3->∃ G3,Stp pa G2 H2 G3 H3/\Wd PK pa m G3 H3/\Dn G3 x d)/\J.stop xs.length H2
noncomputable def kz (PK:Pk) (is:List Sl->Tr (List PyData)):TI:=λσ H R=>∃ pa G₀ H₀ m ρ G,Rl PK pa G₀ H₀ m σ ρ G H/\(is ρ).ok m λm' xs=>∀ J G' H',Stp pa G H G' H'->Wd PK pa m' G' H'->pq PK pa J G' xs->R J H'
theorem PI.imp {tg iter:Expr} {t t':TI} (h:PI X tg iter t) (q:∀ σ H R,t' σ H R->t σ H R):PI X tg iter t':=λpins s σ H R I z=>h pins s σ H R I (q σ H R z)
noncomputable def fL (g:PyData->List Sl->Option (List Sl)) (s:List Sl->Tr Ou):List PyData->List Sl->Tr Ou
 | [],ρ=>.ret (.next ρ)
 | x::xs,ρ=>(Tr.of (g x ρ)).bind λρ1=>(s ρ1).bind λo=>match o with
  | .next ρ2=>fL g s xs ρ2
  | .cont ρ2=>fL g s xs ρ2
  | .brk ρ2=>.ret (.next ρ2)
  | .ret r=>.ret (.ret r)
noncomputable def jB (is:List Sl->Tr (List PyData)) (g:PyData->List Sl->Option (List Sl)) (s:List Sl->Tr Ou):List Sl->Tr Ou:=λρ=>(is ρ).bind λxs=>fL g s xs ρ
theorem li {tg iter:Expr} {body:List Stmt} {g:PyData->List Sl->Option (List Sl)} (hp:PassesOwn (model X.prog X.w) X.A X.env X.xe) (hc:X.calm=true) (hi:PI X tg iter (kz PK is)) (hg:PG X tg (gN PK g)) (hb:PSs X body (cP PK s))
  (hs:∀ x,foldedSetIterable iter X.env x=pure x:=by intro _; rfl):PS X (.For tg iter body [] pos) (cP PK (jB is g s)):=(ZgT hp hc hi hg hb hs).imp λD σ H hz0=>by
 obtain ⟨pa,G₀,H₀,m,ρ,G,R,z⟩:=hz0
 refine ⟨pa,G₀,H₀,m,ρ,G,R,Tr.ok_mono (Tr.ok_bind.mp z) λm1 xs k J G1 H1 s1 w1 jo=>?_⟩
 let W:Nat->Nat->St->Hp->Prop:=λn mm σ H=>mm=xs.length - n/\n<=xs.length/\∃ m ρ G,Sub G1 G/\Rl PK pa G₀ H₀ m σ ρ G H/\(fL g s (xs.drop n) ρ).ok m (Ko PK pa G₀ H₀ G1 D)
 refine ⟨W,⟨xs.length,rfl,Nat.zero_le _,m1,ρ,G1,λ_ _ h=>h,R.step s1 w1,Tr.ok_mono k λ_ _ k'=>Ko.later k' s1.gs⟩,?_⟩
 rintro n mm σ2 H2 ⟨rfl,hn,m2,ρ2,G2,sb,R2,k2⟩
 obtain ⟨j1,j2⟩:=jo m2 G2 H2 sb R2.wd
 by_cases hlt:n < xs.length
 ·have hx:xs[n]?=some xs[n]:=by simp [hlt]
  obtain ⟨jg,jy⟩:=j1 n _ hx
  refine .inr ⟨jg,W (n+1) (xs.length - (n+1)),λσ' H' h'=>⟨_,by omega,h'⟩,λx H3 y=>?_⟩
  obtain ⟨G3,s3,w3,d3⟩:=jy x H3 y
  rw [List.drop_eq_getElem_cons hlt] at k2
  unfold fL at k2
  rw [Tr.ok_bind] at k2
  obtain ⟨ρ3,hg3,k3⟩:=Tr.ok_of k2
  refine ⟨pa,G₀,H₀,m2,ρ2,G3,_,ρ3,R2.step s3 w3,d3,hg3,λσ4 R4=>?_⟩
  refine ⟨pa,G₀,H₀,m2,ρ3,G3,R4,Tr.ok_mono (Tr.ok_bind.mp k3) λm5 o ko=>?_⟩
  have again:∀ ρ5,(fL g s (xs.drop (n+1)) ρ5).ok m5 (Ko PK pa G₀ H₀ G1 D)->∀ σ5 G5 H5,Sub G3 G5->Rl PK pa G₀ H₀ m5 σ5 ρ5 G5 H5->W (n+1) (xs.length - (n+1)) σ5 H5:=λρ5 k5 σ5 G5 H5 sb5 R5 =>
   ⟨rfl,hlt,m5,ρ5,G5,(sb.trans s3.gs).trans sb5,R5,k5⟩
  cases o with
  | next ρ5=>exact again ρ5 ko
  | cont ρ5=>exact again ρ5 ko
  | brk ρ5=>exact λσ5 G5 H5 sb5 R5=>ko σ5 G5 H5 ((sb.trans s3.gs).trans sb5) R5
  | ret r=>exact ko
 ·have e:n=xs.length:=by omega
  subst e
  refine .inl ⟨j2,?_⟩
  rw [List.drop_length] at k2
  exact k2 σ2 G2 H2 sb R2
variable {PK:Pk} {X:Cx} {a b c e:Expr} {es:List Expr} {pos:Pos} {i j l:List Sl->Tr PyData} {is:List Sl->Tr (List PyData)} {as:List Sl->Tr (List Sl)} {f:List Sl->Tr Re} {p q:List Sl->Tr Bool} {st:Stmt} {sts:List Stmt} {s t u:List Sl->Tr Ou}
noncomputable def hV (p:List Sl->Tr Bool) (s:List Sl->Tr Ou):Nat->List Sl->Tr Ou
 | 0,_=>.fail
 | n+1,ρ=>(p ρ).bind λb=>if b=true then (s ρ).bind λo=>match o with
   | .next ρ2=>hV p s n ρ2
   | .cont ρ2=>hV p s n ρ2
   | .brk ρ2=>.ret (.next ρ2)
   | .ret r=>.ret (.ret r)
  else .ret (.next ρ)
theorem ZmS {body:List Stmt} (n:Nat) (hp:PassesOwn (model X.prog X.w) X.A X.env X.xe) (hc:PT X c (TAt PK p)) (hb:PSs X body (cP PK s)):PS X (.While c body [] pos) (cP PK (hV p s n)):=(ZgP hp hc hb).imp λD σ H hz0=>by
 obtain ⟨pa,G₀,H₀,m,ρ,G,R,z⟩:=hz0
 let W:Nat->St->Hp->Prop:=λn σ H=>∃ m ρ G1,Sub G G1/\Rl PK pa G₀ H₀ m σ ρ G1 H/\(hV p s n ρ).ok m (Ko PK pa G₀ H₀ G D)
 refine ⟨W,⟨n,m,ρ,G,.refl,R,z⟩,?_⟩
 rintro n σ2 H2 ⟨m2,ρ2,G2,sb,R2,k2⟩
 cases n with
 | zero=>exact k2.elim
 | succ n =>
  unfold hV at k2
  refine TAt.then R2 k2 λm3 x G3 H3 s3 w3 R3 k3=>?_
  cases x with
  | false =>
   rw [if_neg Bool.false_ne_true] at k3 ⊢
   exact k3 σ2 G3 H3 (sb.trans s3.gs) R3
  | true =>
   rw [if_pos rfl] at k3 ⊢
   refine ⟨W n,λσ' H' h=>⟨n,by omega,h⟩,pa,G₀,H₀,m3,ρ2,G3,R3,Tr.ok_mono (Tr.ok_bind.mp k3) λm4 o ko=>?_⟩
   have again:∀ ρ5,(hV p s n ρ5).ok m4 (Ko PK pa G₀ H₀ G D)->∀ σ5 G5 H5,Sub G3 G5->Rl PK pa G₀ H₀ m4 σ5 ρ5 G5 H5->W n σ5 H5:=λρ5 k5 σ5 G5 H5 sb5 R5 =>
    ⟨m4,ρ5,G5,(sb.trans s3.gs).trans sb5,R5,k5⟩
   cases o with
   | next ρ5=>exact again ρ5 ko
   | cont ρ5=>exact again ρ5 ko
   | brk ρ5=>exact λσ5 G5 H5 sb5 R5=>ko σ5 G5 H5 ((sb.trans s3.gs).trans sb5) R5
   | ret r=>exact ko
noncomputable def sv:Sl->Sl
 | .own _=>.un
 | .dic _=>.un
 | .dip _=>.un
 | s=>s
noncomputable def blk (n:Nat) (ix:List Nat) (ρ:List Sl):List Sl:=List.replicate n .un++ix.map λj=>sv ((ρ[j]?).getD .un)
theorem Rl.blk {pa:Addr} {G₀ H₀ G H:Hp} {m:Ms} {σ:St} {ρ:List Sl} (R:Rl PK pa G₀ H₀ m σ ρ G H) (n:Nat) (ix:List Nat):Rl PK pa G₀ H₀ m (fM n ix σ) (blk n ix ρ) G H:=by
 have key:∀ (k:Nat) (s:Sl),(L2.blk n ix ρ)[k]?=some s->(∃ o,(fM n ix σ)[k]?=some o/\SlOk pa H₀ G H o s)/\(∀ xs,s≠.own xs)/\∀ xs,s≠.dic xs:=λk s h=>by
  unfold L2.blk at h
  unfold fM
  by_cases hk:k < n
  ·rw [List.getElem?_append_left (by simpa using hk),List.getElem?_replicate,if_pos hk] at h
   rw [List.getElem?_append_left (by simpa using hk),List.getElem?_replicate,if_pos hk]
   cases h
   exact ⟨⟨_,rfl,.un⟩,(λxs h=>by cases h),λxs h=>by cases h⟩
  ·rw [List.getElem?_append_right (by simpa using Nat.le_of_not_lt hk),List.length_replicate,List.getElem?_map] at h
   rw [List.getElem?_append_right (by simpa using Nat.le_of_not_lt hk),List.length_replicate,List.getElem?_map]
   cases hj:ix[k - n]? with
   | none=>rw [hj] at h; cases h
   | some j =>
    rw [hj] at h
    have h':sv ((ρ[j]?).getD .un)=s:=Option.some.inj h
    subst h'
    show (∃ o,some ((σ[j]?).getD none)=some o/\_)/\_
    cases hr:ρ[j]? with
    | none=>exact ⟨⟨_,rfl,.un⟩,(λxs h=>by cases h),λxs h=>by cases h⟩
    | some s' =>
     obtain ⟨o,h1,h2⟩:=R.sl j s' hr
     rw [h1]
     cases h2 with
     | un=>exact ⟨⟨_,rfl,.un⟩,(λxs h=>by cases h),λxs h=>by cases h⟩
     | d z=>exact ⟨⟨_,rfl,.d z⟩,(λxs h=>by cases h),λxs h=>by cases h⟩
     | own _ _ _ _=>exact ⟨⟨_,rfl,.un⟩,(λxs h=>by cases h),λxs h=>by cases h⟩
     | dic _ _ _ _=>exact ⟨⟨_,rfl,.un⟩,(λxs h=>by cases h),λxs h=>by cases h⟩
     | dip _ _ _ _=>exact ⟨⟨_,rfl,.un⟩,(λxs h=>by cases h),λxs h=>by cases h⟩
     | pen=>exact ⟨⟨_,rfl,.pen⟩,(λxs h=>by cases h),λxs h=>by cases h⟩
     | fn=>exact ⟨⟨_,rfl,.fn⟩,(λxs h=>by cases h),λxs h=>by cases h⟩
     | pr z9=>exact ⟨⟨_,rfl,.pr z9⟩,(λxs h=>by cases h),λxs h=>by cases h⟩
 refine ⟨R.wd,R.st,R.p0,λk s h=>(key k s h).1,?_,λk n' xs ys _ h1 _=>absurd rfl ((key k _ h1).2.1 xs),λk n' xs ys _ h1 _=>absurd rfl ((key k _ h1).2.2 xs)⟩
 unfold L2.blk fM
 simp
noncomputable def iw (n:Nat) (g:PyData->List Sl->Option (List Sl)):Prop:=∀ x ρ ρ',g x ρ=some ρ'->ρ'.length=ρ.length/\∀ k,n<=k->ρ'[k]?=ρ[k]?
noncomputable def o8 (n:Nat) (g:List PyData->List Sl->Option (List Sl)):Prop:=∀ x ρ ρ',g x ρ=some ρ'->ρ'.length=ρ.length/\∀ k,n<=k->ρ'[k]?=ρ[k]?
theorem kJ {n k:Nat} (h:k < n):iw n (cy k):=λx ρ ρ' e=>by
 cases e
 exact ⟨List.length_set,λj hj=>List.getElem?_set_ne (by omega)⟩
theorem ZgY {n:Nat}:o8 n fV:=λx ρ ρ' e=>by
 cases x with
 | nil=>cases e; exact ⟨rfl,λ_ _=>rfl⟩
 | cons _ _=>cases e
theorem ZbV {n:Nat} {g:PyData->List Sl->Option (List Sl)} {gs:List PyData->List Sl->Option (List Sl)} (h1:iw n g) (h2:o8 n gs):o8 n (dS g gs):=λx ρ ρ' e=>by
 cases x with
 | nil=>cases e
 | cons x xs =>
  have e':(g x ρ).bind (λρ'=>gs xs ρ')=some ρ':=e
  cases h:g x ρ with
  | none=>rw [h] at e'; cases e'
  | some ρ1 =>
   rw [h] at e'
   obtain ⟨a1,a2⟩:=h1 x ρ ρ1 h
   obtain ⟨b1,b2⟩:=h2 xs ρ1 ρ' e'
   exact ⟨b1.trans a1,λk hk=>(b2 k hk).trans (a2 k hk)⟩
theorem ZgX {n:Nat} {gs:List PyData->List Sl->Option (List Sl)} (h2:o8 n gs):iw n (gi gs):=λx ρ ρ' e=>by
 cases x with
 | tuple xs=>exact h2 xs ρ ρ' e
 | _=>cases e
noncomputable def eY (h:PyData->Tr PyData):List PyData->Tr (List PyData)
 | []=>.ret []
 | x::xs=>(h x).bind λy=>(eY h xs).bind λys=>.ret (y::ys)
noncomputable def oW (is:List Sl->Tr (List PyData)) (n:Nat) (ix:List Nat) (g:PyData->List Sl->Option (List Sl)) (el:List Sl->Tr PyData):List Sl->Tr (List PyData):=λρ =>
 (is ρ).bind λxs=>if small xs.length=true then eY (λx=>(Tr.of (g x (blk n ix ρ))).bind el) xs else .fail
theorem Rl.weak {pa:Addr} {G₀ H₀ G H:Hp} {m:Ms} {σ:St} {ρ ρ':List Sl} (R:Rl PK pa G₀ H₀ m σ ρ' G H) (hl:ρ'.length=ρ.length) (h:∀ (k:Nat) (s:Sl),ρ[k]?=some s->s=.un\/ρ'[k]?=some s):Rl PK pa G₀ H₀ m σ ρ G H:=by
 refine ⟨R.wd,R.st,R.p0,λk s hk=>?_,hl.symm.trans R.len,λk n xs ys hkn h1 h2=>?_,λk n xs ys hkn h1 h2=>?_⟩
 ·rcases h k s hk with e | e
  ·subst e
   have hlt:k < σ.length:=by
    rw [<- R.len,hl]
    exact (List.getElem?_eq_some_iff.mp hk).1
   exact ⟨σ[k],by simp [hlt],.un⟩
  ·exact R.sl k s e
 ·rcases h k _ h1 with e | e
  ·cases e
  ·rcases h n _ h2 with e' | e'
   ·cases e'
   ·exact R.dj k n xs ys hkn e e'
 ·rcases h k _ h1 with e | e
  ·cases e
  ·rcases h n _ h2 with e' | e'
   ·cases e'
   ·exact R.dj2 k n xs ys hkn e e'
theorem Zik {n:Nat} {ix:List Nat} {g:PyData->List Sl->Option (List Sl)} (hn:iw n g):∀ σ H Q,i7 PK (oW is n ix g i) σ H Q->jJ (kz PK is) n ix (λ_=>gN PK g) (λ_=>TAe PK i) σ H Q:=by
 rintro σ H Q ⟨pa,G₀,H₀,m,ρ,G,R,z⟩
 refine ⟨pa,G₀,H₀,m,ρ,G,R,Tr.ok_mono (Tr.ok_bind.mp z) λm1 xs k J G1 H1 s1 w1 jo=>λB=>?_⟩
 obtain ⟨hs,k⟩:=fK k
 have hs:xs.length<=sizeLine:=of_decide_eq_true hs
 let el:PyData->Tr PyData:=λx=>(Tr.of (g x (blk n ix ρ))).bind i
 let W:Nat->Nat->St->List V->Hp->Prop:=λk mm τ ys H2=>mm=xs.length - k/\k<=xs.length/\ys.length=k/\∃ m G2 ds,Sub G1 G2/\Stp pa G H G2 H2/\Rl PK pa G₀ H₀ m τ (blk n ix ρ) G2 H2 /\
  DnAll G2 ys ds/\(eY el (xs.drop k)).ok m λm' zs=>Ko1 PK pa m' G H (ds++zs) Q
 refine ⟨W,⟨xs.length,rfl,Nat.zero_le _,rfl,m1,G1,[],.refl,s1,(R.step s1 w1).blk n ix,.nil,k⟩,?_⟩
 rintro k mm τ ys H2 ⟨rfl,hk,hy,m2,G2,ds,sb,st2,R2,dn,k2⟩
 obtain ⟨j1,j2⟩:=jo m2 G2 H2 sb R2.wd
 by_cases hlt:k < xs.length
 ·have hx:xs[k]?=some xs[k]:=by simp [hlt]
  obtain ⟨jg,jy⟩:=j1 k _ hx
  refine .inr ⟨jg,by omega,λx H3 y=>?_⟩
  obtain ⟨G3,s3,w3,d3⟩:=jy x H3 y
  rw [List.drop_eq_getElem_cons hlt] at k2
  unfold eY at k2
  rw [Tr.ok_bind,Tr.ok_bind] at k2
  obtain ⟨ρ3,hg3,k3⟩:=Tr.ok_of k2
  refine ⟨pa,G₀,H₀,m2,_,G3,_,ρ3,R2.step s3 w3,d3,hg3,λτ4 R4=>?_⟩
  refine ⟨pa,G₀,H₀,m2,ρ3,G3,R4,Tr.ok_mono k3 λm5 yd k5=>?_⟩
  intro v G5 H5 s5 w5 d5
  have s35:=s3.trans s5 w3.some
  obtain ⟨pl,pk⟩:=hn _ _ _ hg3
  refine ⟨xs.length - (k+1),by omega,rfl,hlt,by rw [List.length_append,hy]; rfl,m5,G5,ds++[yd],sb.trans s35.gs,st2.trans s35 R2.wd.some,?_,(DnAll.mono s35.gs dn).snoc d5,?_⟩
  ·refine (R4.step s5 w5).weak pl λq sl hq=>?_
   by_cases hqn:q < n
   ·left
    unfold blk at hq
    rw [List.getElem?_append_left (by simpa using hqn),List.getElem?_replicate,if_pos hqn] at hq
    cases hq
    rfl
   ·right
    rw [pk q (Nat.le_of_not_lt hqn)]
    exact hq
  ·refine Tr.ok_mono (Tr.ok_bind.mp k5) λm6 zs k6=>?_
   rw [List.append_assoc]
   exact k6
 ·have e:k=xs.length:=by omega
  subst e
  refine .inl ⟨j2,λp v H' hp ev eH=>?_⟩
  subst ev eH
  rw [List.drop_length] at k2
  have k2':Ko1 PK pa m2 G H (ds++[]) Q:=k2
  rw [List.append_nil] at k2'
  exact (Ko1.later k2' st2 R2.wd.some).new R2.wd dn hp
theorem Zm3 {n:Nat} {ix:List Nat} {g:PyData->List Sl->Option (List Sl)} (h:PE X e (jJ (kz PK is) n ix (λ_=>gN PK g) (λ_=>TAe PK i))) (hn:iw n g):PE X e (i7 PK (oW is n ix g i)):=h.imp (Zik hn)
theorem Zfu {te te':TE} {g:TG} (h:∀ σ H Q,te' σ H Q->te σ H Q):∀ D σ H,iD te' g D σ H->iD te g D σ H:=λD σ H z=>h σ H _ z
noncomputable def md:Ou->Tr Re
 | .next _=>.ret (.d .none)
 | .ret r=>.ret r
 | _=>.fail
noncomputable def cO (n k:Nat) (s:List Sl->Tr Ou):List Sl->Tr Re:=λas=>if decide (as.length=n)=true then (s (as++List.replicate k .un)).bind md else .fail
theorem Rl.start {pa:Addr} {G H:Hp} {m:Ms} {N:List Str} {vs:List V} {as:List Sl} {k:Nat} (w:Wd PK pa m G H) (ar:ArsOk pa G vs as) (hk:N.length - vs.length=k):Rl PK pa G H m (L2.start N vs) (as++List.replicate k .un) G H:=by
 have key:∀ {vs:List V} {as:List Sl},ArsOk pa G vs as->∀ (q:Nat) (s:Sl),as[q]?=some s->(∃ o,(vs.map some)[q]?=some o/\SlOk pa H G H o s)/\(∀ xs,s≠.own xs)/\∀ xs,s≠.dic xs:=by
  intro vs as h
  induction h with
  | nil=>intro q s h; simp at h
  | cons h1 h2 ih =>
   intro q s h
   cases q with
   | zero =>
    simp at h
    subst h
    cases h1 with
    | d z=>exact ⟨⟨_,rfl,.d z⟩,(λxs h=>by cases h),λxs h=>by cases h⟩
    | pen=>exact ⟨⟨_,rfl,.pen⟩,(λxs h=>by cases h),λxs h=>by cases h⟩
    | fn=>exact ⟨⟨_,rfl,.fn⟩,(λxs h=>by cases h),λxs h=>by cases h⟩
   | succ q =>
    obtain ⟨⟨o,p1,p2⟩,p3⟩:=ih q s (by simpa using h)
    exact ⟨⟨o,by simpa using p1,p2⟩,p3⟩
 have hl:=ar.length
 have key2:∀ (q:Nat) (s:Sl),(as++List.replicate k .un)[q]?=some s->(∃ o,(L2.start N vs)[q]?=some o/\SlOk pa H G H o s)/\(∀ xs,s≠.own xs)/\∀ xs,s≠.dic xs:=λq s h=>by
  unfold L2.start
  by_cases hq:q < as.length
  ·rw [List.getElem?_append_left hq] at h
   rw [List.getElem?_append_left (by rw [List.length_map,hl]; exact hq)]
   exact key ar q s h
  ·rw [List.getElem?_append_right (by omega),List.getElem?_replicate] at h
   rw [List.getElem?_append_right (by rw [List.length_map]; omega),List.getElem?_replicate,List.length_map,hl]
   split at h
   ·rename_i hq2
    cases h
    rw [if_pos (by omega)]
    exact ⟨⟨_,rfl,.un⟩,(λxs h=>by cases h),λxs h=>by cases h⟩
   ·cases h
 refine ⟨w,.refl,w.some,λq s h=>(key2 q s h).1,?_,λq n xs ys _ h1 _=>absurd rfl ((key2 q _ h1).2.1 xs),λq n xs ys _ h1 _=>absurd rfl ((key2 q _ h1).2.2 xs)⟩
 unfold L2.start
 simp [hl,hk]
 omega
theorem fI {P:Program} {w:World} {K:PySem.W.Frag} {mg:Str->Option Value} {base:Heap} {x:Str} {N ps:List Str} {kk k:Nat} (D:Def K mg x st ps) (S:FnScope N ps (bZ st)) (hk:N.length - ps.length=k)
  (hbody:∀ (f:Addr) (cdv:Value) (A:Around) (outer:List Env) (sh:Shared) (H:Hp) (E:XK),Room kk (A.deeper (envOfC x (bZ st) sh.heap.objs.size f cdv)) ->
   PSs (fq eS P w K mg base N x (bZ st) f cdv A outer sh H E).nox (eD st) (cP PK s)):ACal PK P w K mg base x (kk+1) ps (cO ps.length k s):=by
 have len:∀ as m Z,(cO ps.length k s as).ok m Z->as.length=ps.length:=λas m Z h=>by
  unfold cO at h
  exact of_decide_eq_true (fK h).1
 refine ⟨D.ok S (λvs H Q E h=>h.1) λf cdv A outer sh H vs Q E hr hsp=>?_,len⟩
 obtain ⟨hv,pa,m,G,as,wd,ar,z⟩:=hsp
 refine ⟨_,hbody f cdv A outer sh H E hr,?_⟩
 unfold cO at z
 obtain ⟨_,z⟩:=fK z
 refine ⟨pa,G,H,m,_,G,Rl.start wd ar (by rw [hv]; exact hk),Tr.ok_mono (Tr.ok_bind.mp z) λm1 o ko=>?_⟩
 cases o with
 | next ρ=>exact λσ G1 H1 sb R1=>ko .non G1 H1 R1.st R1.wd .non
 | ret r=>exact ko
 | brk ρ=>exact ko.elim
 | cont ρ=>exact ko.elim
theorem Zg4 {tg l:Expr} {tl:TE} (hl:PE X l tl):PI X tg l (λσ H R=>tl σ H λx H1=>∃ a,x=.ref a/\((∃ xs,SqL X.K H1 a xs/\R (pw X.K a) H1)\/(∃ xs,SqT X.K H1 a xs/\R (tz X.K a) H1))):=by
 intro pins s σ H R I h
 refine thn (hl pins s σ H _ I h) λv s1 hz0=>?_
 obtain ⟨x,H1,I1,r1,q1⟩:=hz0
 obtain ⟨a,e,q⟩:=q1
 subst e
 cases r1
 rcases q with ⟨xs,hq,q⟩ | ⟨xs,hq,q⟩
 ·obtain ⟨its,rv,p,hz⟩:=I1.list hq
  refine wpAny_pyIter_list p.isList ?_
  refine ⟨s1.heap.objs.size,[s1.heap.objs.size],_,_,H1,rfl,I1.kept (t':=s1.toks) λb o e=>Heap.get?_push_of_some _ e,Zaq a _,⟨_,Heap.get?_push_size _ rfl,rfl,rfl⟩,λb hb=>?_,q⟩
  have e:b=s1.heap.objs.size:=by simpa using hb
  subst e
  exact I1.fpOk (Nat.le_refl _) (I1.hok.fresh (Nat.le_refl _))
 ·obtain ⟨its,rv,p,hz⟩:=I1.tuple hq
  refine wpAny_pyIter_tuple (show s1.heap.IsTuple a its.toArray from p) ?_
  refine ⟨s1.heap.objs.size,[s1.heap.objs.size],_,_,H1,rfl,I1.kept (t':=s1.toks) λb o e=>Heap.get?_push_of_some _ e,Ze0 a _,⟨_,Heap.get?_push_size _ rfl,rfl,rfl⟩,λb hb=>?_,q⟩
  have e:b=s1.heap.objs.size:=by simpa using hb
  subst e
  exact I1.fpOk (Nat.le_refl _) (I1.hok.fresh (Nat.le_refl _))
theorem DnAll.get {H:Hp}:∀ {vs:List V} {ds:List PyData} (n:Nat) {d:PyData},DnAll H vs ds->ds[n]?=some d->∃ v,vs[n]?=some v/\Dn H v d
 | _,_,_,_,.nil,e=>by simp at e
 | _,_,0,_,.cons g t,e=>by simp at e; subst e; exact ⟨_,rfl,g⟩
 | _,_,n+1,_,.cons g t,e=>by
  obtain ⟨v,h1,h2⟩:=DnAll.get n t (by simpa using e)
  exact ⟨v,by simpa using h1,h2⟩
theorem ZiF {K:PySem.W.Frag} {pa a:Addr} {G:Hp} {vs:List V} {xs:List PyData} (h:G a=some (.lst vs)) (d:DnAll G vs xs):pq PK pa (pw K a) G xs:=λm G2 H2 sb w=>by
 have hq:SqL K H2 a vs:=SqL.of (w.sub _ _ (sb _ _ h))
 refine ⟨λn x hx=>?_,vs,hq,by rw [d.length]; exact Nat.le_refl _⟩
 obtain ⟨v,hv,dv⟩:=d.get n hx
 refine ⟨⟨vs,v,hq,hv⟩,λy H3 hz0=>?_⟩
 obtain ⟨e,hy⟩:=hz0
 subst e
 have:=hy vs hq
 rw [hv] at this
 cases this
 exact ⟨G2,.refl,w,dv.mono sb⟩
theorem ZiD {K:PySem.W.Frag} {pa a:Addr} {G:Hp} {vs:List V} {xs:List PyData} (h:G a=some (.tup vs)) (d:DnAll G vs xs):pq PK pa (tz K a) G xs:=λm G2 H2 sb w=>by
 have hq:SqT K H2 a vs:=SqT.of (w.sub _ _ (sb _ _ h))
 refine ⟨λn x hx=>?_,vs,hq,by rw [d.length]; exact Nat.le_refl _⟩
 obtain ⟨v,hv,dv⟩:=d.get n hx
 refine ⟨⟨vs,v,hq,hv⟩,λy H3 hz0=>?_⟩
 obtain ⟨e,hy⟩:=hz0
 subst e
 have:=hy vs hq
 rw [hv] at this
 cases this
 exact ⟨G2,.refl,w,dv.mono sb⟩
noncomputable def js:PyData->Option (List PyData)
 | .list xs=>some xs
 | .tuple xs=>some xs
 | _=>none
@[simp] theorem ZnS (xs:List PyData):js (.list xs)=some xs:=rfl
@[simp] theorem ZnR (xs:List PyData):js (.tuple xs)=some xs:=rfl
noncomputable def lu (i:List Sl->Tr PyData):List Sl->Tr (List PyData):=λρ=>(i ρ).bind λx=>Tr.of (js x)
theorem oJ {tg l:Expr} (hl:PE X l (TAe PK i)):PI X tg l (kz PK (lu i)):=(Zg4 hl).imp λσ H R0 hz0=>by
 obtain ⟨pa,G₀,H₀,m,ρ,G,R,z⟩:=hz0
 refine TAe.then R z λm1 x v G1 H1 s1 w1 R1 d1 q1=>?_
 obtain ⟨xs,hx,q1⟩:=Tr.ok_of q1
 cases d1 with
 | lst h1 h2=>cases hx; exact ⟨_,rfl,.inl ⟨_,SqL.of (w1.sub _ _ h1),q1 _ G1 H1 s1 w1 (ZiF h1 h2)⟩⟩
 | tup h1 h2=>cases hx; exact ⟨_,rfl,.inr ⟨_,SqT.of (w1.sub _ _ h1),q1 _ G1 H1 s1 w1 (ZiD h1 h2)⟩⟩
 | _=>cases hx
noncomputable def f8 (lo hi:Int):List PyData:=(jV lo (hi - lo).toNat).map PyData.int
theorem ZiE {pa:Addr} {G:Hp} {lo:Int} {n:Nat}:pq PK pa (mE lo n) G ((jV lo n).map PyData.int):=λm G2 H2 sb w=>by
 refine ⟨λk x hx=>?_,by show n<=_; rw [List.length_map,qm]; exact Nat.le_refl _⟩
 have hk:k < n:=by
  have:=(List.getElem?_eq_some_iff.mp hx).1
  rwa [List.length_map,qm] at this
 refine ⟨hk,λy H3 hz0=>?_⟩
 obtain ⟨e1,e2⟩:=hz0
 subst e1 e2
 have:x=.int (lo+k):=by
  unfold jV at hx
  simp [hk] at hx
  exact hx.symm
 subst this
 exact ⟨G2,.refl,w,.int _⟩
noncomputable def rD (n:Int):Bool:=decide (-(2 ^ 62)<=n/\n < 2 ^ 62)
noncomputable def lG:List PyData->Option (List PyData)
 | [.int n]=>if rD n=true then some (f8 0 n) else none
 | _=>none
noncomputable def lq (is:List Sl->Tr (List PyData)):List Sl->Tr (List PyData):=λρ=>(is ρ).bind λxs=>Tr.of (lG xs)
theorem Zgr {G:Hp} {vs:List V} {xs ys:List PyData} (d:DnAll G vs xs) (h:lG xs=some ys):∃ n:Int,vs=[.int n]/\-(2 ^ 62)<=n/\n < 2 ^ 62/\ys=f8 0 n:=by
 unfold lG at h
 split at h
 ·rename_i n
  split at h
  ·rename_i hn
   cases h
   cases d with
   | cons d1 d2 =>
    cases d2
    cases d1
    have:=of_decide_eq_true hn
    exact ⟨n,rfl,this.1,this.2,rfl⟩
  ·cases h
 ·cases h
theorem oK {tg e:Expr} (h:PI X tg e (ZcV (TAd PK is))):PI X tg e (kz PK (lq is)):=h.imp λσ H R0 hz0=>by
 obtain ⟨pa,G₀,H₀,m,ρ,G,R,z⟩:=hz0
 refine TAd.then R z λm1 xs vs G1 H1 s1 w1 R1 d1 q1=>?_
 obtain ⟨ys,hy,q1⟩:=Tr.ok_of q1
 obtain ⟨n,e,h1,h2,rfl⟩:=Zgr d1 hy
 refine ⟨n,e,h1,h2,?_⟩
 have q:=q1 (mE 0 n.toNat) G1 H1 s1 w1
 unfold f8 at q
 rw [Int.sub_zero] at q
 exact q ZiE
variable {PK:Pk} {X:Cx} {a b c e:Expr} {es:List Expr} {pos:Pos} {i j l:List Sl->Tr PyData} {is:List Sl->Tr (List PyData)}
noncomputable def fit (n:Int):Bool:=decide (n.natAbs < 2 ^ 8000)
noncomputable def eI:PyData->PyData->Option PyData
 | .int m,.int n=>some (.int (m+n))
 | .tuple xs,.tuple ys=>if (!xs.isEmpty && small (xs.length+ys.length))=true then some (.tuple (xs++ys)) else none
 | .list xs,.list ys=>if small (xs.length+ys.length)=true then some (.list (xs++ys)) else none
 | _,_=>none
noncomputable def ZbN (K:PySem.W.Frag):R2:=λx y H Q=>gS (λi j=>.int (i+j)) x y H Q\/ZbL K x y H Q\/ZbM x y H Q
theorem fk:OpR X (binaryOp .Add) (ZbN X.K):=j6.or (ZhC.or qG)
theorem fg {K:PySem.W.Frag}:fz (ZbN K) eI:=λPK pa m G H x y dx dy dz Q w hx hy hz k=>by
 unfold eI at hz
 split at hz
 ·cases hz; cases hx; cases hy
  exact .inl ⟨_,_,rfl,rfl,k.here w (.int _)⟩
 ·rename_i xs ys
  split at hz
  ·rename_i hc
   rw [Bool.and_eq_true] at hc
   have h1:xs.isEmpty=false:=by simpa using hc.1
   have h2:xs.length+ys.length<=sizeLine:=of_decide_eq_true hc.2
   cases hz
   cases hx with
   | tup a1 a2 =>
    cases hy with
    | tup b1 b2 =>
     refine .inr (.inl ⟨_,_,_,_,rfl,rfl,SqT.of (w.sub _ _ a1),SqT.of (w.sub _ _ b1),?_,by rw [a2.length,b2.length]; exact h2,λe=>?_,λe p hp=>k.tup w (a2.append b2) hp⟩)
     ·intro e
      rw [<- a2.isEmpty,e] at h1
      cases h1
     ·subst e
      cases b2
      refine k.here w ?_
      rw [List.append_nil]
      exact .tup a1 a2
  ·cases hz
 ·rename_i xs ys
  split at hz
  ·rename_i hc
   have h2:xs.length+ys.length<=sizeLine:=of_decide_eq_true hc
   cases hz
   cases hx with
   | lst a1 a2 =>
    cases hy with
    | lst b1 b2=>exact .inr (.inr ⟨_,_,_,_,rfl,rfl,w.sub _ _ a1,w.sub _ _ b1,by rw [a2.length,b2.length]; exact h2,λp hp=>k.lst w (a2.append b2) hp⟩)
  ·cases hz
 ·cases hz
noncomputable def eV:PyData->PyData->Option PyData
 | .int m,.int n=>some (.int (m - n))
 | _,_=>none
theorem fA:fz (gS λi j=>.int (i - j)) eV:=λPK pa m G H x y dx dy dz Q w hx hy hz k=>by
 unfold eV at hz
 split at hz
 ·cases hz; cases hx; cases hy
  exact ⟨_,_,rfl,rfl,k.here w (.int _)⟩
 ·cases hz
theorem DnAll.rep {H:Hp} {vs:List V} {ds:List PyData} (h:DnAll H vs ds):∀ k:Nat,DnAll H (List.replicate k vs).flatten (List.replicate k ds).flatten
 | 0=>.nil
 | k+1=>by
  rw [List.replicate_succ,List.replicate_succ,List.flatten_cons,List.flatten_cons]
  exact h.append (h.rep k)
noncomputable def ZbE (K:PySem.W.Frag):R2:=λx y H Q=>rI CMulG (λi j=>.int (i * j)) x y H Q\/Zbz K x y H Q\/ZbA x y H Q
theorem iJ:OpR X (binaryOp .Mult) (ZbE X.K):=Zhx.or (Zhv.or Zhw)
noncomputable def gq:PyData->PyData->Option PyData
 | .int m,.int n=>if (fit m && fit n)=true then some (.int (m * n)) else none
 | .tuple xs,.int n=>if (decide (1 < n) && decide (n<=1000) && !xs.isEmpty && decide (xs.length<=1000))=true then some (.tuple (List.replicate n.toNat xs).flatten) else none
 | .list xs,.int n=>if (decide (-(2 ^ 63)<=n) && decide (n < 2 ^ 63) && small (xs.length * n.toNat))=true then some (.list (List.replicate n.toNat xs).flatten) else none
 | _,_=>none
theorem iz {K:PySem.W.Frag}:fz (ZbE K) gq:=λPK pa m G H x y dx dy dz Q w hx hy hz k=>by
 unfold gq at hz
 split at hz
 ·split at hz
  ·rename_i hc
   rw [Bool.and_eq_true] at hc
   cases hz; cases hx; cases hy
   exact .inl ⟨_,_,rfl,rfl,⟨of_decide_eq_true hc.1,of_decide_eq_true hc.2⟩,k.here w (.int _)⟩
  ·cases hz
 ·split at hz
  ·rename_i hc
   simp only [Bool.and_eq_true,decide_eq_true_eq,Bool.not_eq_true'] at hc
   cases hz; cases hy
   cases hx with
   | tup a1 a2 =>
    refine .inr (.inl ⟨_,_,_,rfl,rfl,SqT.of (w.sub _ _ a1),hc.1.1.1,hc.1.1.2,?_,by rw [a2.length]; exact hc.2,λp hp=>k.tup w (a2.rep _) hp⟩)
    intro e
    have:=hc.1.2
    rw [<- a2.isEmpty,e] at this
    cases this
  ·cases hz
 ·split at hz
  ·rename_i hc
   simp only [Bool.and_eq_true,decide_eq_true_eq] at hc
   cases hz; cases hy
   cases hx with
   | lst a1 a2=>exact .inr (.inr ⟨_,_,_,rfl,rfl,w.sub _ _ a1,hc.1.1,hc.1.2,by rw [a2.length]; exact of_decide_eq_true hc.2,λp hp=>k.lst w (a2.rep _) hp⟩)
  ·cases hz
 ·cases hz
noncomputable def kK:PyData->PyData->Option PyData
 | .int m,.int n=>if (decide (0<=n) && decide (n<=1000000) && decide (m.natAbs < 2 ^ 64))=true then some (.int (m ^ n.toNat)) else none
 | _,_=>none
theorem pG:fz (rI Zey λi j=>.int (i ^ j.toNat)) kK:=λPK pa m G H x y dx dy dz Q w hx hy hz k=>by
 unfold kK at hz
 split at hz
 ·split at hz
  ·rename_i hc
   simp only [Bool.and_eq_true,decide_eq_true_eq] at hc
   cases hz; cases hx; cases hy
   exact ⟨_,_,rfl,rfl,⟨hc.1.1,hc.1.2,hc.2⟩,k.here w (.int _)⟩
  ·cases hz
 ·cases hz
noncomputable def i0 (i:List Sl->Tr PyData):List Sl->Tr PyData:=λρ=>(i ρ).bind λx=>match x with
 | .int n=>.ret (.int (-n))
 | _=>.fail
theorem ll (ha:PE X a (TAe PK i)):PE X (.UnaryOp .USub a pos) (TAe PK (i0 i)):=(Zhb ZeX ha).imp λσ H Q hz0=>by
 obtain ⟨pa,G₀,H₀,m,ρ,G,R,z⟩:=hz0
 refine TAe.then R z λm1 x v G1 H1 s1 w1 R1 d1 q1=>?_
 cases d1 with
 | int n=>exact ⟨n,rfl,(Kn.later q1 s1 w1.some).here w1 (.int _)⟩
 | _=>exact q1.elim
noncomputable def gv (f:Int->Int->Bool):PyData->PyData->Option PyData
 | .int m,.int n=>some (.bool (f m n))
 | _,_=>none
theorem hW {f:Int->Int->Bool}:fz (gS λi j=>.bl (f i j)) (gv f):=λPK pa m G H x y dx dy dz Q w hx hy hz k=>by
 unfold gv at hz
 split at hz
 ·cases hz; cases hx; cases hy
  exact ⟨_,_,rfl,rfl,k.here w (.bl _)⟩
 ·cases hz
noncomputable def le:PyData->PyData->Option PyData
 | .str m,.str n=>some (.bool (m == n))
 | x,y=>if (SeqAt.shaped x && SeqAt.shaped y)=true then some (.bool (PyData.eqv x y)) else none
noncomputable def iL:PyData->PyData->Option PyData
 | .str m,.str n=>some (.bool (!(m == n)))
 | x,y=>if (SeqAt.shaped x && SeqAt.shaped y)=true then some (.bool (!PyData.eqv x y)) else none
noncomputable def ZbJ:R2:=λx y H Q=>rEq x y H Q\/∃ d e,Dn H x d/\Dn H y e/\SeqAt.shaped d=true/\SeqAt.shaped e=true/\Q (.bl (PyData.eqv d e)) H
noncomputable def ZbC:R2:=λx y H Q=>rNe x y H Q\/∃ d e,Dn H x d/\Dn H y e/\SeqAt.shaped d=true/\SeqAt.shaped e=true/\Q (.bl (!PyData.eqv d e)) H
theorem qF {k:Nat} (hr:Room k X.A):OpR X (compareOp .Eq) ZbJ:=ZhB.or (ZhA hr)
theorem lK {k:Nat} (hr:Room k X.A):OpR X (compareOp .NotEq) ZbC:=Zcf.or (Zce hr)
theorem pH:fz ZbJ le:=λPK pa m G H x y dx dy dz Q w hx hy hz k=>by
 unfold le at hz
 split at hz
 ·cases hz; cases hx; cases hy
  exact .inl ⟨rfl,by rw [oy]; exact k.here w (.bl _)⟩
 ·split at hz
  ·rename_i hc
   rw [Bool.and_eq_true] at hc
   cases hz
   exact .inr ⟨_,_,hx.mono w.sub,hy.mono w.sub,hc.1,hc.2,k.here w (.bl _)⟩
  ·cases hz
theorem lz:fz ZbC iL:=λPK pa m G H x y dx dy dz Q w hx hy hz k=>by
 unfold iL at hz
 split at hz
 ·cases hz; cases hx; cases hy
  exact .inl ⟨rfl,by rw [oy]; exact k.here w (.bl _)⟩
 ·split at hz
  ·rename_i hc
   rw [Bool.and_eq_true] at hc
   cases hz
   exact .inr ⟨_,_,hx.mono w.sub,hy.mono w.sub,hc.1,hc.2,k.here w (.bl _)⟩
  ·cases hz
noncomputable def ij:PyData->Bool
 | .none=>true
 | _=>false
noncomputable def l8:PyData->PyData->Option PyData:=λx y=>if ij y=true then some (.bool (ij x)) else none
noncomputable def ie:PyData->PyData->Option PyData:=λx y=>if ij y=true then some (.bool (!ij x)) else none
theorem Dn.no {G:Hp} {v:V} {x:PyData} (h:Dn G v x):decide (v=.non)=ij x:=by
 cases h <;> simp [ij]
theorem Zaj:fz (λx y H Q=>y=.non/\Q (.bl (decide (x=.non))) H) l8:=λPK pa m G H x y dx dy dz Q w hx hy hz k=>by
 unfold l8 at hz
 split at hz
 ·rename_i hc
  cases hz
  refine ⟨?_,by rw [hx.no]; exact k.here w (.bl _)⟩
  rw [<- hy.no] at hc
  exact of_decide_eq_true hc
 ·cases hz
theorem jH:fz (λx y H Q=>y=.non/\Q (.bl (!decide (x=.non))) H) ie:=λPK pa m G H x y dx dy dz Q w hx hy hz k=>by
 unfold ie at hz
 split at hz
 ·rename_i hc
  cases hz
  refine ⟨?_,by rw [hx.no]; exact k.here w (.bl _)⟩
  rw [<- hy.no] at hc
  exact of_decide_eq_true hc
 ·cases hz
noncomputable def dZ:PyData->PyData->Option PyData
 | .list xs,.int n=>ez xs n
 | .tuple xs,.int n=>ez xs n
 | _,_=>none
theorem DnAll.at {H:Hp} {vs:List V} {ds:List PyData} {n:Int} {d:PyData} (h:DnAll H vs ds) (e:ez ds n=some d):∃ v,ez vs n=some v/\Dn H v d:=by
 unfold ez at e ⊢
 rw [<- h.length] at e
 cases hn:jr vs.length n with
 | none=>rw [hn] at e; cases e
 | some j =>
  rw [hn] at e
  exact h.get j e
theorem eN {K:PySem.W.Frag}:fz (rIx K) dZ:=λPK pa m G H x y dx dy dz Q w hx hy hz k=>by
 unfold dZ at hz
 split at hz
 ·cases hy
  cases hx with
  | lst a1 a2 =>
   obtain ⟨v,h1,h2⟩:=a2.at hz
   exact .inl ⟨_,_,_,v,rfl,rfl,SqL.of (w.sub _ _ a1),h1,k.here w h2⟩
 ·cases hy
  cases hx with
  | tup a1 a2 =>
   obtain ⟨v,h1,h2⟩:=a2.at hz
   exact .inr (.inl ⟨_,_,_,v,rfl,rfl,SqT.of (w.sub _ _ a1),h1,k.here w h2⟩)
 ·cases hz
noncomputable def ZnQ:List PyData->Option PyData
 | [.list xs]=>some (.int xs.length)
 | [.tuple xs]=>some (.int xs.length)
 | _=>none
noncomputable def fP (m n:Int):Int:=if n > m then n else m
noncomputable def j7:List PyData->Option PyData
 | [.int m,.int n]=>some (.int (fP m n))
 | _=>none
theorem mM:jD (λxs H Q=>∃ i j,xs=[.int i,.int j]/\Q (.int (if j > i then j else i)) H) j7:=λPK pa m G H vs ds d Q w hv hd k=>by
 unfold j7 at hd
 split at hd
 ·cases hd
  cases hv with
  | cons h1 h2=>cases h2 with | cons h2 h3=>cases h3; cases h1; cases h2; exact ⟨_,_,rfl,k.here w (.int _)⟩
 ·cases hd
noncomputable def kd:List PyData->Option PyData
 | [.int n]=>some (.int n)
 | [.bool n]=>some (.int (if n then 1 else 0))
 | _=>none
theorem Zak:jD (λxs H Q=>(∃ i,xs=[.int i]/\Q (.int i) H)\/∃ k,xs=[.bl k]/\Q (.int (if k then 1 else 0)) H) kd:=λPK pa m G H vs ds d Q w hv hd k=>by
 unfold kd at hd
 split at hd
 ·cases hd
  cases hv with
  | cons h1 h2=>cases h2; cases h1; exact .inl ⟨_,rfl,k.here w (.int _)⟩
 ·cases hd
  cases hv with
  | cons h1 h2=>cases h2; cases h1; exact .inr ⟨_,rfl,k.here w (.int _)⟩
 ·cases hd
noncomputable def mQ:List PyData->Option PyData
 | [.list xs]=>some (.tuple xs)
 | [.tuple xs]=>some (.tuple xs)
 | _=>none
theorem ZeR {K:PySem.W.Frag}:jD (λxs H Q=>∃ p ys,xs=[.ref p]/\((SqL K H p ys/\∀ l,H l=none->Q (.ref l) (upd H l (.tup ys)))\/(SqT K H p ys/\Q (.ref p) H))) mQ:=λPK pa m G H vs ds d Q w hv hd k=>by
 unfold mQ at hd
 split at hd
 ·cases hd
  cases hv with
  | cons h1 h2 =>
   cases h2
   cases h1 with
   | lst a1 a2=>exact ⟨_,_,rfl,.inl ⟨SqL.of (w.sub _ _ a1),λp hp=>k.tup w a2 hp⟩⟩
 ·cases hd
  cases hv with
  | cons h1 h2 =>
   cases h2
   cases h1 with
   | tup a1 a2=>exact ⟨_,_,rfl,.inr ⟨SqT.of (w.sub _ _ a1),k.here w (.tup a1 a2)⟩⟩
 ·cases hd
noncomputable def iF (d:PyData):Bool:=!d.hasDict && d.showable && decide (d.depth<=32) && decide (d.shown.length<=sizeLine)
noncomputable def jS:List PyData->Option PyData
 | [d]=>if iF d=true then some (.str d.shown) else none
 | _=>none
theorem ZeU:jD (λxs H Q=>∃ v d,xs=[v]/\Dn H v d/\d.hasDict=false/\d.showable=true/\d.depth<=32/\d.shown.length<=sizeLine/\Q (.str d.shown) H) jS:=λPK pa m G H vs ds d Q w hv hd k=>by
 unfold jS at hd
 split at hd
 ·split at hd
  ·rename_i hc
   unfold iF at hc
   simp only [Bool.and_eq_true,decide_eq_true_eq,Bool.not_eq_true'] at hc
   cases hd
   cases hv with
   | cons h1 h2=>cases h2; exact ⟨_,_,rfl,h1.mono w.sub,hc.1.1.1,hc.1.1.2,hc.1.2,hc.2,k.here w (.str _)⟩
  ·cases hd
 ·cases hd
noncomputable def fB:PyData->String
 | .none=>"NoneType"
 | .bool _=>"bool"
 | .int _=>"int"
 | .str _=>"str"
 | .list _=>"list"
 | .tuple _=>"tuple"
 | .dict _=>"dict"
noncomputable def gX:PyData->Bool
 | .dict ((.none,_)::_)=>false
 | _=>true
theorem Dn.ty {K:PySem.W.Frag} {G H:Hp} (sb:Sub G H) {v:V} {d:PyData} (h:Dn G v d) (n:gX d=true):TyOf K H v (.type (fB d)):=by
 cases h with
 | non=>exact .non
 | bl b=>exact .bl b
 | int i=>exact .int i
 | str x=>exact .str x
 | tup h _=>exact .tup (sb _ _ h)
 | lst h _=>exact .lst (sb _ _ h)
 | dct h _=>exact h.elim (λh=>.dK (sb _ _ h)) λ⟨o,h⟩=>.frzD (sb _ _ h)
 | dcp _ h _=>exact .frzE (sb _ _ h)
 | hdl _=>cases n
noncomputable def fU (T:String) (t:String):Bool:=decide (t=T) || (decide (T="int") && decide (t="bool"))
noncomputable def jA (T:String) (i:List Sl->Tr PyData):List Sl->Tr PyData:=λρ=>(i ρ).bind λx=>if gX x=true then .ret (.bool (fU T (fB x))) else .fail
noncomputable def rC (T:String):Prop:=T="int"\/T="bool"\/T="str"\/T="list"\/T="tuple"\/T="dict"
theorem ZcL {K:PySem.W.Frag} {T:String} (h:rC T) (d:PyData):PySem.W.kitOne K (.type (fB d)) (.type T)=some (fU T (fB d)):=by
 rcases h with rfl | rfl | rfl | rfl | rfl | rfl <;> cases d <;> rfl
theorem lm {T:String} {tc:TE} (hT:rC T) (htc:tc=tC (.ty T)) (h:PE X e (jK (λxs H Q=>∃ x T t b,xs=[x,.ty T]/\TyOf X.K H x t/\PySem.W.kitOne X.K t (.type T)=some b/\Q (.bl b) H) (iC (TAe PK i) (iC tc fi)))):PE X e (TAe PK (jA T i)):=h.imp λσ H Q hz0=>by
 obtain ⟨pa,G₀,H₀,m,ρ,G,R,z⟩:=hz0
 subst htc
 refine TAe.then R z λm1 x v G1 H1 s1 w1 R1 d1 q1=>?_
 obtain ⟨hn,q1⟩:=fK q1
 exact ⟨v,T,_,_,rfl,d1.ty w1.sub hn,ZcL hT x,(Kn.later q1 s1 w1.some).here w1 (.bl _)⟩
noncomputable def ki (xs:List PyData) (lo hi:Option Int):List PyData:=(xs.drop (HT.cb xs.length 0 lo)).take (HT.cb xs.length xs.length hi - HT.cb xs.length 0 lo)
theorem DnAll.take {H:Hp}:∀ {vs:List V} {ds:List PyData} (n:Nat),DnAll H vs ds->DnAll H (vs.take n) (ds.take n)
 | _,_,0,_=>.nil
 | _,_,_+1,.nil=>.nil
 | _,_,n+1,.cons r t=>.cons r (DnAll.take n t)
theorem DnAll.drop {H:Hp}:∀ {vs:List V} {ds:List PyData} (n:Nat),DnAll H vs ds->DnAll H (vs.drop n) (ds.drop n)
 | _,_,0,r=>r
 | _,_,_+1,.nil=>.nil
 | _,_,n+1,.cons r t=>DnAll.drop n t
theorem DnAll.cut {H:Hp} {vs:List V} {ds:List PyData} (h:DnAll H vs ds) (lo hi:Option Int):DnAll H (gG vs lo hi) (ki ds lo hi):=by
 unfold gG ki
 rw [h.length]
 exact (h.drop _).take _
noncomputable abbrev gx:=List Sl->Tr (Option Int)
noncomputable def sU:gx:=λ_=>.ret none
noncomputable def oR (i:List Sl->Tr PyData):gx:=λρ=>(i ρ).bind λx=>match x with
 | .int n=>.ret (some n)
 | _=>.fail
noncomputable def TAp (PK:Pk) (i:gx):TO:=λσ H Q=>∃ pa G₀ H₀ m ρ G,Rl PK pa G₀ H₀ m σ ρ G H/\(i ρ).ok m λm' x=>∀ G' H',Stp pa G H G' H'->Wd PK pa m' G' H'->Q x H'
theorem PO.imp {e:Option Expr} {t t':TO} (h:PO X e t) (q:∀ σ H Q,t' σ H Q->t σ H Q):PO X e t':=λpins s σ H Q I z=>h pins s σ H Q I (q σ H Q z)
theorem Zm0:PO X none (TAp PK sU):=Zb0.imp λσ H Q hz0=>by
 obtain ⟨pa,G₀,H₀,m,ρ,G,R,z⟩:=hz0
 exact z G H .refl R.wd
theorem ZmZ (h:PE X e (TAe PK i)):PO X (some e) (TAp PK (oR i)):=(ZbZ h).imp λσ H Q hz0=>by
 obtain ⟨pa,G₀,H₀,m,ρ,G,R,z⟩:=hz0
 refine TAe.then R z λm1 x v G1 H1 s1 w1 R1 d1 q1=>?_
 cases d1 with
 | int n=>exact ⟨n,rfl,q1 G1 H1 s1 w1⟩
 | _=>exact q1.elim
theorem Zi1 {prog:Program} {w:World} {A:Around} {E:Value->Shared->Prop} {s:Shared} {t sl:Addr} {items:Array Value} {vl vu:Value} {lo hi:Option Int} {Q:Value->Shared->Prop} (ht:IsTup s.heap t items) (hs:s.heap.IsSliceOf sl vl vu .none) (pl:IsPart vl lo) (pu:IsPart vu hi)
  (hw:HT.cb items.size 0 lo=0/\HT.cb items.size items.size hi=items.size) (h:Q (.ref t) s):wpAny (model prog w) A (getItem (.ref t) (.ref sl)) Q E s:=by
 obtain ⟨os,hos,hcs,hds⟩:=id hs
 have hTs:s.TypeIs (.ref sl) "slice":=⟨os,hos,hcs⟩
 unfold getItem
 try with_reducible refine wpAny_holding ?_
 first | refine wpAny_bind (wpAny_pure ?_) | skip
 refine wpAny_bind (wpAny_sequenceKey ht.typeIs (by decide) ?_)
 refine wpAny_bind (wpAny_callSpecial?_slot (name:=Str.ofString "__getitem__") ht.typeIs PyProof.Rows.slot_tuple_getitem
  (wpAny_call_entry PyProof.Rows.slot_tuple_getitem ht.typeIs entry_tuple_getitem ?_ (args_tuple_getitem _ _)))
 show wpAny _ _ (Builtin.Tuple.tupleItemsOf (.ref t) >>= _) _ _ s
 refine wpAny_bind (tupleItemsOf_ ht ?_)
 refine wpAny_bind (wpAny_typeOf hTs ?_)
 rw [if_pos (by decide)]
 refine wpAny_bind (HT.ZaG hs pl pu ?_)
 have hyes:(((HT.cb items.size 0 lo:Nat):Int) == 0 && (1:Int) == 1 && (HT.cb items.size items.size hi - HT.cb items.size 0 lo) == items.size)=true:=by
  rw [hw.1,hw.2]
  simp
 show wpAny _ _ (if (((HT.cb items.size 0 lo:Nat):Int) == 0 && (1:Int) == 1 && (HT.cb items.size items.size hi - HT.cb items.size 0 lo) == items.size)=true then _ else _) _ _ s
 rw [if_pos hyes]
 refine wpAny_bind (m:=Builtin.Tuple.tupleIsExact (.ref t)) ?_
 unfold Builtin.Tuple.tupleIsExact
 refine wpAny_bind (wpAny_typeOf ht.typeIs ?_)
 refine wpAny_pure ?_
 rw [if_pos (by decide)]
 refine wpAny_bind (wpAny_rule ?_)
 exact wpAny_pure ⟨_,rfl,wpAny_pure h⟩
noncomputable def Zbv (K:PySem.W.Frag):V->Option Int->Option Int->Hp->VK->Prop:=λx lo hi H Q=>∃ a xs,x=.ref a/\SqT K H a xs/\(HT.cb xs.length 0 lo=0/\HT.cb xs.length xs.length hi=xs.length)/\Q (.ref a) H
theorem ZfF:SlR X (Zbv X.K):=by
 intro pins s σ H x v vl vu lo hi sl Q I rx hs pl pu h
 obtain ⟨a,xs,rfl,hx,hw,q⟩:=h
 cases rx
 obtain ⟨its,r,ht,hz⟩:=I.tuple hx
 have hlen:its.toArray.size=xs.length:=by rw [List.size_toArray]; exact r.length.symm
 refine ⟨"tuple",_,PyProof.Rows.slot_tuple_getitem.lookup,ht.typeIs,?_⟩
 exact Zi1 ht hs pl pu (by rw [hlen]; exact hw) ⟨.ref a,H,I,rfl,q⟩
noncomputable def ZgE (K:PySem.W.Frag):V->Option Int->Option Int->Hp->VK->Prop:=λx lo hi H Q=>Zbx K x lo hi H Q\/Zbw K x lo hi H Q\/Zbv K x lo hi H Q
theorem ZfH:SlR X (ZgE X.K):=ZaH.or (ZfG.or ZfF)
noncomputable def ZaF (x:PyData) (lo hi:Option Int):Option PyData:=match x with
 | .list xs=>some (.list (ki xs lo hi))
 | .tuple xs=>some (.tuple (ki xs lo hi))
 | _=>none
noncomputable def sR (i:List Sl->Tr PyData) (p q:gx):List Sl->Tr PyData:=λρ=>(i ρ).bind λx=>(p ρ).bind λlo=>(q ρ).bind λhi=>Tr.of (ZaF x lo hi)
theorem TAp.then {p:gx} {σ:St} {H:Hp} {β:Type} {k:Option Int->Tr β} {Z:Ms->β->Prop} {Q:Option Int->Hp->Prop} {pa:Addr} {G₀ H₀ G:Hp} {m:Ms} {ρ:List Sl} (R:Rl PK pa G₀ H₀ m σ ρ G H) (h:((p ρ).bind k).ok m Z)
  (hq:∀ m1 x G1 H1,Stp pa G H G1 H1->Wd PK pa m1 G1 H1->Rl PK pa G₀ H₀ m1 σ ρ G1 H1->(k x).ok m1 Z->Q x H1):TAp PK p σ H Q:=by
 refine ⟨pa,G₀,H₀,m,ρ,G,R,Tr.ok_mono (Tr.ok_bind.mp h) λm1 x hx G1 H1 s1 w1=>?_⟩
 exact hq m1 x G1 H1 s1 w1 (R.step s1 w1) hx
theorem Zm6 {p q:gx} {lo hi:Option Expr} {p2:Pos} (he:PE X e (TAe PK i)) (hl:PO X lo (TAp PK p)) (hu:PO X hi (TAp PK q)):PE X (.Subscript e (.Slice lo hi none p2) pos) (TAe PK (sR i p q)):=(Zb4 ZfH he hl hu).imp λσ H Q hz0=>by
 obtain ⟨pa,G₀,H₀,m,ρ,G,R,z⟩:=hz0
 refine TAe.then R z λm1 x v G1 H1 s1 w1 R1 d1 q1=>?_
 refine TAp.then R1 q1 λm2 lo G2 H2 s2 w2 R2 q2=>?_
 refine TAp.then R2 q2 λm3 hi G3 H3 s3 w3 R3 q3=>?_
 obtain ⟨d,hd,k⟩:=Tr.ok_of q3
 have s13:=(s1.trans s2 w1.some).trans s3 w2.some
 have k':=Kn.later k s13 w3.some
 have d3:=d1.mono (s2.gs.trans s3.gs)
 cases d3 with
 | lst a1 a2=>cases hd; exact .inl ⟨_,_,rfl,SqL.of (w3.sub _ _ a1),λp hp=>k'.lst w3 (a2.cut lo hi) hp⟩
 | @tup a xs ds a1 a2 =>
  cases hd
  by_cases hw:HT.cb xs.length 0 lo=0/\HT.cb xs.length xs.length hi=xs.length
  ·refine .inr (.inr ⟨_,_,rfl,SqT.of (w3.sub _ _ a1),hw,k'.here w3 ?_⟩)
   have e:ki ds lo hi=ds:=by
    unfold ki
    rw [<- a2.length,hw.1,hw.2]
    simp
    rw [a2.length]
    exact List.take_length
   rw [e]
   exact .tup a1 a2
  ·exact .inr (.inl ⟨_,_,rfl,SqT.of (w3.sub _ _ a1),hw,λp hp=>k'.tup w3 (a2.cut lo hi) hp⟩)
 | _=>cases hd
noncomputable def ints?:List PyData->Option (List Int)
 | []=>some []
 | .int n::xs=>(ints? xs).bind λns=>some (n::ns)
 | _=>none
@[simp] theorem ints?_map:∀ ns:List Int,ints? (ns.map PyData.int)=some ns
 | []=>rfl
 | n::ns=>by rw [List.map_cons,ints?,ints?_map ns]; rfl
theorem DnAll.ints_inv {H:Hp} {vs:List V} {ds:List PyData} {ns:List Int} (a:DnAll H vs ds) (h:ints? ds=some ns):vs=ns.map V.int/\ds=ns.map PyData.int:=by
 induction vs generalizing ds ns with
 | nil=>cases a; cases h; exact ⟨rfl,rfl⟩
 | cons v vs ih =>
  cases a with
  | cons g t =>
   cases g with
   | int n =>
    unfold ints? at h
    rename_i ds
    cases e:ints? ds with
    | none=>rw [e] at h; cases h
    | some ms =>
     rw [e] at h
     cases h
     obtain ⟨h1,h2⟩:=ih t e
     exact ⟨by rw [h1]; rfl,by rw [h2]; rfl⟩
   | _=>unfold ints? at h; cases h
section
variable {prog:Program} {w:World} {A:Around} {E:Value->Shared->Prop} {s:Shared}
noncomputable def Zex (b:Bool) (h:Heap) (it a:Addr) (k:Nat):Prop:=match b with
 | true=>h.IsListIter it a k
 | false=>h.IsTupleIter it a k
noncomputable def SqAt (b:Bool) (h:Heap) (a:Addr) (items:Array Value):Prop:=match b with
 | true=>h.IsList a items
 | false=>h.IsTuple a items
theorem SqAt.at {b:Bool} {h h':Heap} {a:Addr} {items:Array Value} (x:SqAt b h a items) (e:∀ o,h.get? a=some o->h'.get? a=some o):SqAt b h' a items:=by
 cases b with
 | true=>exact Heap.IsList.at x e
 | false=>exact Heap.IsTuple.at x e
noncomputable def ZcO (b:Bool) (l:Addr):Obj:=match b with
 | true=>{ cls:=.type "list_iterator",data:=.fields #[.ref l,.int 0 0] }
 | false=>{ cls:=.type "tuple_iterator",data:=.fields #[.ref l,.int 0 0] }
theorem ZgJ {b:Bool} {l:Addr} {items:Array Value} {Q:Value->Shared->Prop} (hl:SqAt b s.heap l items) (hQ:Q (.ref s.heap.objs.size) { s with heap:=s.heap.push (ZcO b l) }):wpAny (model prog w) A (pyIter (.ref l)) Q E s:=by
 cases b with
 | true=>exact wpAny_pyIter_list hl hQ
 | false=>exact wpAny_pyIter_tuple hl hQ
theorem SqAt.push {b:Bool} {h:Heap} {l:Addr} {items:Array Value} (x:SqAt b h l items) (o:Obj):SqAt b (h.push o) l items:=x.at λ_ q=>Heap.get?_push_of_some _ q
theorem ZiK {b:Bool} {h:Heap} {it l:Addr} (e:h.get? it=some (ZcO b l)):Zex b h it l 0:=by
 cases b with
 | true=>exact ⟨_,e,rfl,rfl⟩
 | false=>exact ⟨_,e,rfl,rfl⟩
end
section
variable {X:Cx} {pins:List (Addr×Obj)} {σ:St} {H:Hp} {s:Shared} {h':Heap}
end
noncomputable def l9 (b:Bool) (xs:List V):HO:=match b with
 | true=>.lst xs
 | false=>.tup xs
theorem ZfB {P:Program} {w:World} {H:Hp} {h:Heap} (ok:HOk P w H h) {b:Bool} {a:Addr} {xs:List V} (e:H a=some (l9 b xs)):∃ its:List Value,Vals xs its/\SqAt b h a its.toArray:=by
 cases b with
 | true=>obtain ⟨_,its,n,r,q⟩:=ok a _ e; exact ⟨its,r,⟨_,q,rfl,n,rfl⟩⟩
 | false=>obtain ⟨_,its,r,q⟩:=ok a _ e; exact ⟨its,r,q⟩
end L2
namespace L2
open PySem PySem.Spec PyProof.Rows
open AutoSeq1 (wpAny_loadPart')
section
variable {X:Cx} {tg:Expr} {PK:Pk} {a b:Expr} {i j:List Sl->Tr PyData} {p pos:Pos}
theorem ZiU {G:Hp} {v:V} {x:PyData} {xs:List PyData} (d:Dn G v x) (h:js x=some xs):∃ b a vs,v=.ref a/\G a=some (l9 b vs)/\DnAll G vs xs:=by
 cases d with
 | lst h1 h2=>cases h; exact ⟨true,_,_,rfl,h1,h2⟩
 | tup h1 h2=>cases h; exact ⟨false,_,_,rfl,h1,h2⟩
 | _=>cases h
end
section
variable {prog:Program} {w:World} {A:Around} {E:Value->Shared->Prop} {s:Shared}
end
section
variable {X:Cx} {tg:Expr} {PK:Pk} {a b:Expr} {i j:List Sl->Tr PyData} {p pos:Pos}
end
end L2
namespace L2
open PySem PySem.Spec PyProof.Rows
section
variable {prog:Program} {w:World} {A:Around}
theorem ZeP (hh:A.handled=none) (b:Bool) (I ax:Addr) (hne:ax≠I) (items:Array Value):Walks prog w A I [I,ax] [I] items.size (λi v=>items[i]?=some v) (λi h=>Zex b h I ax i/\SqAt b h ax items):=by
 cases b with
 | true=>exact Walks.list hh I ax hne items
 | false=>exact Walks.tuple hh I ax hne items
end
theorem ZiR {ns:List Int} {us:List Value} (r:Vals (ns.map V.int) us) {i:Nat} {v:Value} (h:us[i]?=some v):∃ t,v=.int ((ns[i]?).getD 0) t:=by
 have hi:i < us.length:=(List.getElem?_eq_some_iff.mp h).1
 have hl:us.length=ns.length:=by rw [<- r.length,List.length_map]
 obtain ⟨u,e1,e2⟩:=r.get (i:=i) (x:=V.int ns[i]) (by simp [show i < ns.length by omega])
 rw [h] at e1
 cases e1
 obtain ⟨t,e2⟩:=e2
 exact ⟨t,by simp [show i < ns.length by omega,e2]⟩
theorem ZgZ (ns:List Int):preSum (λi=>(ns[i]?).getD 0) ns.length=ns.sum:=by
 have key:∀ k,k<=ns.length->preSum (λi=>(ns[i]?).getD 0) k=(ns.take k).sum:=by
  intro k
  induction k with
  | zero=>intro _; simp [preSum]
  | succ k ih =>
   intro hk
   rw [preSum,ih (by omega),List.take_add_one,List.sum_append]
   simp [show k < ns.length by omega]
 rw [key _ (Nat.le_refl _),List.take_length]
section
variable {X:Cx} {PK:Pk}
theorem Zmn (hc:X.calm=true):fX X (.builtin "sum") (λxs H Q=>∃ (b:Bool) (l:Addr) (ns:List Int),xs=[.ref l]/\H l=some (l9 b (ns.map V.int))/\Q (.int ns.sum) H):=by
 intro pins s σ H xs us Q I r h
 obtain ⟨b,l,ns,rfl,e1,q⟩:=h
 obtain ⟨u,rfl,ru⟩:=iA r
 cases ru
 obtain ⟨vs,rv,sq⟩:=ZfB I.hok e1
 have hlt:l < s.heap.objs.size:=I.hok.lt e1
 refine call_sum_walkG (ZgJ sq ?_)
 refine ⟨s.heap.objs.size,[s.heap.objs.size,l],[s.heap.objs.size],vs.toArray.size,_,_,λi=>(ns[i]?).getD 0,rfl,ZeP (A:=X.A.in1) (I.ok.hd hc) b _ l (Nat.ne_of_lt hlt) vs.toArray,
  ⟨ZiK (Heap.get?_push_size _ (by cases b <;> rfl)),sq.push _⟩,λc hc=>?_,λi v hv=>ZiR rv (by simpa using hv),λh' tk t' hk=>?_⟩
 ·rw [Heap.size_push]
  simp at hc
  rcases hc with rfl | rfl
  ·exact Nat.lt_succ_self _
  ·exact Nat.lt_succ_of_lt hlt
 ·refine ⟨.int ns.sum,H,I.kept (t':=tk) λc o e=>hk c o (λz=>?_) (Heap.get?_push_of_some _ e),⟨t',?_⟩,q⟩
  ·have:c=s.heap.objs.size:=by simpa using z
   subst this
   exact Nat.lt_irrefl _ (Heap.lt_size e)
  ·have e:vs.toArray.size=ns.length:=by rw [List.size_toArray,<- rv.length,List.length_map]
   rw [e,ZgZ]
noncomputable def bools?:List PyData->Option (List Bool)
 | []=>some []
 | .bool n::xs=>(bools? xs).bind λns=>some (n::ns)
 | _=>none
@[simp] theorem bools?_map:∀ ns:List Bool,bools? (ns.map PyData.bool)=some ns
 | []=>rfl
 | n::ns=>by rw [List.map_cons,bools?,bools?_map ns]; rfl
noncomputable def nD {α:Type} (p:List PyData->Option α) (f:α->Option PyData):List PyData->Option PyData
 | [x]=>(js x).bind λxs=>(p xs).bind f
 | _=>none
noncomputable def mW:List PyData->Option PyData:=nD ints? λns=>some (.int ns.sum)
theorem ZhD {α:Type} {p:List PyData->Option α} {f:α->Option PyData} {G:Hp} {vs:List V} {ds:List PyData} {d:PyData} (hv:DnAll G vs ds) (h:nD p f ds=some d):∃ b l us xs y,vs=[.ref l]/\G l=some (l9 b us)/\DnAll G us xs/\p xs=some y/\f y=some d:=by
 unfold nD at h
 split at h
 ·rename_i x
  cases hx:js x with
  | none=>rw [hx] at h; cases h
  | some xs =>
   rw [hx] at h
   have h':(p xs).bind f=some d:=h
   cases hp:p xs with
   | none=>rw [hp] at h'; cases h'
   | some y =>
    rw [hp] at h'
    cases hv with
    | cons h1 h2 =>
     cases h2
     obtain ⟨b,l,us,rfl,e1,e2⟩:=ZiU h1 hx
     exact ⟨b,l,us,xs,y,rfl,e1,e2,hp,h'⟩
 ·cases h
theorem ZeS:jD (λxs H Q=>∃ (b:Bool) (l:Addr) (ns:List Int),xs=[.ref l]/\H l=some (l9 b (ns.map V.int))/\Q (.int ns.sum) H) mW:=λPK pa m G H vs ds d Q w hv hd k=>by
 obtain ⟨b,l,us,xs,ns,rfl,e1,e2,hp,hf⟩:=ZhD hv hd
 obtain ⟨rfl,rfl⟩:=e2.ints_inv hp
 cases hf
 exact ⟨b,l,ns,rfl,w.sub _ _ e1,k.here w (.int _)⟩
variable {a b c e:Expr} {pos:Pos} {i j l:List Sl->Tr PyData}
noncomputable def oY (f g:PyData->PyData->Option PyData) (i j l:List Sl->Tr PyData):List Sl->Tr PyData:=λρ=>(i ρ).bind λx=>(j ρ).bind λy=>(Tr.of (f x y)).bind λz=>(Tr.of (jI z)).bind λk =>
 if k=true then (l ρ).bind λu=>Tr.of (g y u) else .ret (.bool false)
theorem Zmi {r r':R2} {f g:PyData->PyData->Option PyData} (hv:fz r f) (hv':fz r' g):∀ σ H Q,TAe PK (oY f g i j l) σ H Q->Zay r r' (TAe PK i) (TAe PK j) (TAe PK l) σ H Q:=by
 rintro σ H Q ⟨pa,G₀,H₀,m,ρ,G,R,q⟩
 refine TAe.then R q λm1 x v G1 H1 s1 w1 R1 d1 q1=>?_
 refine TAe.then R1 q1 λm2 y u G2 H2 s2 w2 R2 d2 q2=>?_
 rw [Tr.ok_bind] at q2
 obtain ⟨z,hz,q3⟩:=Tr.ok_of q2
 rw [Tr.ok_bind] at q3
 obtain ⟨k,hk,q5⟩:=Tr.ok_of q3
 have s12:=s1.trans s2 w1.some
 refine hv PK pa m2 G2 H2 v u x y z _ w2 (d1.mono s2.gs) d2 hz λzz G3 H3 s3 w3 d3=>?_
 cases d3 <;> simp only [jI] at hk <;> cases hk
 refine ⟨_,rfl,?_⟩
 have s13:=s12.trans s3 w2.some
 cases k with
 | true =>
  rw [if_pos rfl] at q5 ⊢
  refine TAe.then (R2.step s3 w3) q5 λm4 t vt G4 H4 s4 w4 R4 d4 q4=>?_
  obtain ⟨zz,hzz,q4⟩:=Tr.ok_of q4
  exact hv' PK pa m4 G4 H4 u vt y t zz Q w4 (d2.mono (s3.gs.trans s4.gs)) d4 hzz (Kn.later q4 (s13.trans s4 w3.some) w4.some)
 | false =>
  rw [if_neg Bool.false_ne_true] at q5 ⊢
  exact (Kn.later q5 s13 w3.some).here w3 (.bl false)
theorem Znb {op op':CmpOp} {r r':R2} {f g:PyData->PyData->Option PyData} (ho:OpR X (compareOp op) r) (hv:fz r f) (ho':OpR X (compareOp op') r') (hv':fz r' g) (ha:PE X a (TAe PK i)) (hb:PE X b (TAe PK j)) (hc:PE X c (TAe PK l))
  (hm:lastMarks [op,op'] [b,c]=false:=by with_unfolding_all rfl):PE X (.Compare a [op,op'] [b,c] pos) (TAe PK (oY f g i j l)):=(Zhm ho ho' ha hb hc hm).imp (Zmi hv hv')
end
variable {ρ:List Sl} {s t:List Sl->Tr Ou} {i j l:List Sl->Tr PyData} {is:List Sl->Tr (List PyData)} {as:List Sl->Tr (List Sl)} {f:List Sl->Tr Re} {p q:List Sl->Tr Bool} {k n:Nat} {x y d:PyData} {xs ys:List PyData} {sl:Sl}
theorem Zjn:aa 0 (.d x::ρ)=.ret x:=rfl
theorem Zjm:aa (k+1) (sl::ρ)=aa k ρ:=rfl
theorem Zlp:aC d ρ=.ret d:=rfl
noncomputable def ef (g:PyData->PyData->Option PyData) (x y:PyData):Tr PyData:=Tr.of (g x y)
noncomputable def Zd1 (g:PyData->PyData->Option PyData) (j:List Sl->Tr PyData) (ρ:List Sl) (x:PyData):Tr PyData:=(j ρ).bind (ef g x)
theorem Zk4 {g:PyData->PyData->Option PyData}:aj g i j ρ=(i ρ).bind (Zd1 g j ρ):=rfl
theorem Zk3 {g:PyData->PyData->Option PyData}:Zd1 g j ρ x=(j ρ).bind (ef g x):=rfl
theorem Zli (m n:Int):ef eI (.int m) (.int n)=.ret (.int (m+n)):=rfl
theorem Zlg (h1:xs.isEmpty=false) (h2:small (xs.length+ys.length)=true):ef eI (.tuple xs) (.tuple ys)=.ret (.tuple (xs++ys)):=by
 simp [ef,eI,h1,h2]
theorem Zlh (h2:small (xs.length+ys.length)=true):ef eI (.list xs) (.list ys)=.ret (.list (xs++ys)):=by
 simp [ef,eI,h2]
theorem Zjv (m n:Int):ef eV (.int m) (.int n)=.ret (.int (m - n)):=rfl
theorem Zke {m n:Int} (h1:fit m=true) (h2:fit n=true):ef gq (.int m) (.int n)=.ret (.int (m * n)):=by
 simp [ef,gq,h1,h2]
theorem ZkU {g:Int->Int->Bool} (m n:Int):ef (gv g) (.int m) (.int n)=.ret (.bool (g m n)):=rfl
theorem ZkO (m n:Int):ef le (.int m) (.int n)=.ret (.bool (m == n)):=rfl
theorem Zc8 (m n:Str):ef iL (.str m) (.str n)=.ret (.bool (!(m == n))):=rfl
theorem Zky:ef l8 x .none=.ret (.bool (ij x)):=rfl
theorem Zkw:ef ie x .none=.ret (.bool (!ij x)):=rfl
theorem Zks (n:Int):ef dZ (.list xs) (.int n)=Tr.of (ez xs n):=rfl
theorem jv (n:Int):ef dZ (.tuple xs) (.int n)=Tr.of (ez xs n):=rfl
theorem ZmR {α:Type} {xs:List α} {n:Int} {v:α} (h0:0<=n) (h:xs[n.toNat]?=some v):ez xs n=some v:=by
 have e:(n.toNat:Int)=n:=Int.toNat_of_nonneg h0
 rw [<- e]
 exact iV h
section
variable {α:Type} {a0 a1 a2 a3 a4 a5 a6 a7 a8:α} {r:List α}
theorem sD:ez (a0::r) 0=some a0:=iV (j:=0) rfl
theorem sC:ez (a0::a1::r) 1=some a1:=iV (j:=1) rfl
theorem sB:ez (a0::a1::a2::r) 2=some a2:=iV (j:=2) rfl
theorem Zd8:ez (a0::a1::a2::a3::r) 3=some a3:=iV (j:=3) rfl
theorem Zd7:ez (a0::a1::a2::a3::a4::r) 4=some a4:=iV (j:=4) rfl
theorem Zd6:ez (a0::a1::a2::a3::a4::a5::r) 5=some a5:=iV (j:=5) rfl
theorem Zd5:ez (a0::a1::a2::a3::a4::a5::a6::r) 6=some a6:=iV (j:=6) rfl
end
noncomputable def Zcr:PyData->Tr PyData
 | .int n=>.ret (.int (-n))
 | _=>.fail
theorem Zkd:i0 i ρ=(i ρ).bind Zcr:=by
 unfold i0
 refine congrArg (Tr.bind (i ρ)) (funext λx=>?_)
 cases x <;> rfl
theorem Zkc (n:Int):Zcr (.int n)=.ret (.int (-n)):=rfl
noncomputable def pK (x:PyData):Tr Bool:=Tr.of (jI x)
theorem Zju:d7 i ρ=(i ρ).bind pK:=rfl
theorem Zjr (b:Bool):pK (.bool b)=.ret b:=rfl
noncomputable def Zat (x:PyData):Tr Bool:=Tr.of (Zas x)
theorem Zjt:e9 i ρ=(i ρ).bind Zat:=rfl
theorem Zjs (b:Bool):Zat (.bool b)=.ret b:=rfl
noncomputable def sK (q:List Sl->Tr Bool) (ρ:List Sl) (b:Bool):Tr Bool:=if b=true then q ρ else .ret false
noncomputable def qC (q:List Sl->Tr Bool) (ρ:List Sl) (b:Bool):Tr Bool:=if b=true then .ret true else q ρ
noncomputable def Zcm (b:Bool):Tr Bool:=.ret (!b)
theorem Zlf:sZ p q ρ=(p ρ).bind (sK q ρ):=rfl
theorem Zj5:gk p q ρ=(p ρ).bind (qC q ρ):=rfl
theorem Zka:fb p ρ=(p ρ).bind Zcm:=rfl
theorem Zld:sK q ρ true=q ρ:=rfl
theorem Zle:sK q ρ false=.ret false:=rfl
theorem Zj3:qC q ρ true=.ret true:=rfl
theorem Zj4:qC q ρ false=q ρ:=rfl
theorem Zj9 (b:Bool):Zcm b=.ret (!b):=rfl
noncomputable def sJ (j:List Sl->Tr PyData) (ρ:List Sl) (b:Bool):Tr PyData:=if b=true then j ρ else .ret (.bool false)
noncomputable def Zcl (b:Bool):Tr PyData:=.ret (.bool (!b))
theorem Zlc:ky i j ρ=(d7 i ρ).bind (sJ j ρ):=rfl
theorem Zj8:oS i ρ=(d7 i ρ).bind Zcl:=rfl
theorem Zla:sJ j ρ true=j ρ:=rfl
theorem Zlb:sJ j ρ false=.ret (.bool false):=rfl
theorem Zj7 (b:Bool):Zcl b=.ret (.bool (!b)):=rfl
noncomputable def rG (i j:List Sl->Tr PyData) (ρ:List Sl) (b:Bool):Tr PyData:=if b=true then i ρ else j ρ
theorem ZkI:mq p i j ρ=(p ρ).bind (rG i j ρ):=rfl
theorem ZkG:rG i j ρ true=i ρ:=rfl
theorem ZkH:rG i j ρ false=j ρ:=rfl
noncomputable def oB (g:PyData->PyData->Option PyData) (l:List Sl->Tr PyData) (ρ:List Sl) (y:PyData) (k:Bool):Tr PyData:=if k=true then (l ρ).bind (ef g y) else .ret (.bool false)
noncomputable def sg (g:PyData->PyData->Option PyData) (l:List Sl->Tr PyData) (ρ:List Sl) (y z:PyData):Tr PyData:=(pK z).bind (oB g l ρ y)
noncomputable def si (f g:PyData->PyData->Option PyData) (l:List Sl->Tr PyData) (ρ:List Sl) (x y:PyData):Tr PyData:=(ef f x y).bind (sg g l ρ y)
noncomputable def ch1 (f g:PyData->PyData->Option PyData) (j l:List Sl->Tr PyData) (ρ:List Sl) (x:PyData):Tr PyData:=(j ρ).bind (si f g l ρ x)
theorem ZkV {f g:PyData->PyData->Option PyData}:oY f g i j l ρ=(i ρ).bind (ch1 f g j l ρ):=rfl
theorem Zk0 {f g:PyData->PyData->Option PyData}:ch1 f g j l ρ x=(j ρ).bind (si f g l ρ x):=rfl
theorem ZkZ {f g:PyData->PyData->Option PyData}:si f g l ρ x y=(ef f x y).bind (sg g l ρ y):=rfl
theorem ZkY {g:PyData->PyData->Option PyData} (b:Bool):sg g l ρ y (.bool b)=oB g l ρ y b:=rfl
theorem ZkW {g:PyData->PyData->Option PyData}:oB g l ρ y true=(l ρ).bind (ef g y):=rfl
theorem ZkX {g:PyData->PyData->Option PyData}:oB g l ρ y false=.ret (.bool false):=rfl
noncomputable def sf (x:PyData) (xs:List PyData):Tr (List PyData):=.ret (x::xs)
noncomputable def Zdy (is:List Sl->Tr (List PyData)) (ρ:List Sl) (x:PyData):Tr (List PyData):=(is ρ).bind (sf x)
theorem Zkb:cE ρ=.ret []:=rfl
theorem ZkT:ao i is ρ=(i ρ).bind (Zdy is ρ):=rfl
theorem ZkS:Zdy is ρ x=(is ρ).bind (sf x):=rfl
theorem ZkR:sf x xs=.ret (x::xs):=rfl
noncomputable def pJ (xs:List PyData):Tr PyData:=if small xs.length=true then .ret (.tuple xs) else .fail
theorem Zjq:ff is ρ=(is ρ).bind pJ:=rfl
theorem Zjp (h:small xs.length=true):pJ xs=.ret (.tuple xs):=by unfold pJ; rw [if_pos h]
noncomputable def ZcC (xs:List PyData):Tr PyData:=.ret (.list xs)
theorem Zkh:fQ is ρ=(is ρ).bind ZcC:=rfl
theorem Zkg:ZcC xs=.ret (.list xs):=rfl
noncomputable def qS (xs:List PyData):Tr (List PyData):=if small xs.length=true then .ret xs else .fail
theorem Zkj:gy is ρ=(is ρ).bind qS:=rfl
theorem Zki (h:small xs.length=true):qS xs=.ret xs:=by unfold qS; rw [if_pos h]
theorem jd {n:Nat} (h:n<=10000):small n=true:=decide_eq_true (Nat.le_trans h (by decide))
noncomputable def gw (g:List PyData->Option PyData) (xs:List PyData):Tr PyData:=Tr.of (g xs)
theorem Zk1 {g:List PyData->Option PyData}:gz g is ρ=(is ρ).bind (gw g):=rfl
theorem Zkf (m n:Int):gw j7 [.int m,.int n]=.ret (.int (fP m n)):=rfl
theorem Zkz (b:Bool):gw kd [.bool b]=.ret (.int (if b then 1 else 0)):=rfl
theorem Zjo:gw mQ [.list xs]=.ret (.tuple xs):=rfl
theorem ZjT (h:iF x=true):gw jS [x]=.ret (.str x.shown):=by
 simp [gw,jS,h]
theorem Zc5 (ns:List Int):gw mW [.list (ns.map .int)]=.ret (.int ns.sum):=by
 unfold gw mW nD
 simp
noncomputable def jt (T:String) (x:PyData):Tr PyData:=if gX x=true then .ret (.bool (fU T (fB x))) else .fail
theorem Zkx {T:String}:jA T i ρ=(i ρ).bind (jt T):=rfl
theorem rR {T:String} (h:gX x=true):jt T x=.ret (.bool (fU T (fB x))):=if_pos h
theorem Zcp (n:Int):gX (.int n)=true:=rfl
noncomputable def pT (x:PyData) (lo:Option Int) (hi:Option Int):Tr PyData:=Tr.of (ZaF x lo hi)
noncomputable def gR (q:gx) (ρ:List Sl) (x:PyData) (lo:Option Int):Tr PyData:=(q ρ).bind (pT x lo)
noncomputable def sl1 (p q:gx) (ρ:List Sl) (x:PyData):Tr PyData:=(p ρ).bind (gR q ρ x)
theorem ZjA {p q:gx}:sR i p q ρ=(i ρ).bind (sl1 p q ρ):=rfl
theorem Zjz {p q:gx}:sl1 p q ρ x=(p ρ).bind (gR q ρ x):=rfl
theorem Zjy {q:gx} {lo:Option Int}:gR q ρ x lo=(q ρ).bind (pT x lo):=rfl
theorem Zjx {lo hi:Option Int}:pT (.tuple xs) lo hi=.ret (.tuple (ki xs lo hi)):=rfl
theorem Zj0:sU ρ=.ret none:=rfl
noncomputable def pa1:PyData->Tr (Option Int)
 | .int n=>.ret (some n)
 | _=>.fail
theorem ZjZ:oR i ρ=(i ρ).bind pa1:=by
 unfold oR
 refine congrArg (Tr.bind (i ρ)) (funext λx=>?_)
 cases x <;> rfl
theorem ZjY (n:Int):pa1 (.int n)=.ret (some n):=rfl
theorem Zll:b7 ρ=.ret []:=rfl
noncomputable def mh (x:Sl) (xs:List Sl):Tr (List Sl):=.ret (x::xs)
noncomputable def aa1 (as:List Sl->Tr (List Sl)) (ρ:List Sl) (x:PyData):Tr (List Sl):=(as ρ).bind (mh (.d x))
theorem Zlm:ae i as ρ=(i ρ).bind (aa1 as ρ):=rfl
theorem Zlo:aa1 as ρ x=(as ρ).bind (mh (.d x)):=rfl
theorem Zln {xs:List Sl}:mh sl xs=.ret (sl::xs):=rfl
noncomputable def kM:Nat->List Sl->Tr Unit
 | 0,.pen::_=>.ret ()
 | k+1,_::ρ=>kM k ρ
 | _,_=>.fail
theorem ZjX:kM 0 (.pen::ρ)=.ret ():=rfl
theorem ZjW:kM (k+1) (sl::ρ)=kM k ρ:=rfl
noncomputable def aap (as:List Sl->Tr (List Sl)) (ρ:List Sl) (_:Unit):Tr (List Sl):=(as ρ).bind (mh .pen)
theorem Zlk:eZ k as ρ=(kM k ρ).bind (aap as ρ):=by
 have key:∀ (k:Nat) (σ:List Sl) (as:List Sl->Tr (List Sl)) (ρ:List Sl),(match σ[k]? with | some Sl.pen=>(as ρ).bind λxs=>Tr.ret (Sl.pen::xs) | _=>Tr.fail)=(kM k σ).bind (aap as ρ):=by
  intro k
  induction k with
  | zero =>
   intro σ as ρ
   cases σ with
   | nil=>rfl
   | cons s r=>cases s <;> rfl
  | succ k ih =>
   intro σ as ρ
   cases σ with
   | nil=>rfl
   | cons s r=>exact ih r as ρ
 exact key k ρ as ρ
theorem Zlj (u:Unit):aap as ρ u=(as ρ).bind (mh .pen):=rfl
theorem Zk2:cu f as ρ=(as ρ).bind f:=rfl
noncomputable def re1 (r:Re):Tr PyData:=.ret r.val
theorem ZjV:cg f ρ=(f ρ).bind re1:=rfl
theorem ZjU (r:Re):re1 r=.ret r.val:=rfl
theorem ZkP {as:List Sl} (h:as.length=n):cO n k s as=(s (as++List.replicate k .un)).bind md:=by
 unfold cO
 rw [if_pos (decide_eq_true h)]
theorem ZkN:md (.next ρ)=.ret (.d .none):=rfl
theorem ZkM (r:Re):md (.ret r)=.ret r:=rfl
noncomputable def mZ (t:List Sl->Tr Ou):Ou->Tr Ou
 | .next ρ=>t ρ
 | o=>.ret o
theorem Zc6:am s t ρ=(s ρ).bind (mZ t):=by
 unfold am
 refine congrArg (Tr.bind (s ρ)) (funext λo=>?_)
 cases o <;> rfl
theorem ZjH:mZ t (.next ρ)=t ρ:=rfl
theorem ZjG (r:Re):mZ t (.ret r)=.ret (.ret r):=rfl
theorem ZjB:eB ρ=.ret (.next ρ):=rfl
noncomputable def rE (s t:List Sl->Tr Ou) (ρ:List Sl) (b:Bool):Tr Ou:=if b=true then s ρ else t ρ
theorem ZkC:eK p s t ρ=(p ρ).bind (rE s t ρ):=rfl
theorem ZkA:rE s t ρ true=s ρ:=rfl
theorem ZkB:rE s t ρ false=t ρ:=rfl
noncomputable def Zbq (x:PyData):Tr Ou:=.ret (.ret (.d x))
theorem ZjS:dY i ρ=(i ρ).bind Zbq:=rfl
theorem ZjR:Zbq x=.ret (.ret (.d x)):=rfl
noncomputable def Zbp (xs:List PyData):Tr Ou:=.ret (.ret (.own xs))
theorem ZjQ:mi is ρ=(is ρ).bind Zbp:=rfl
theorem ZjP:Zbp xs=.ret (.ret (.own xs)):=rfl
noncomputable def Zbo (r:Re):Tr Ou:=.ret (.ret r)
theorem ZjO:oQ f ρ=(f ρ).bind Zbo:=rfl
theorem ZjN (r:Re):Zbo r=.ret (.ret r):=rfl
theorem ZjM:lr 0 (.d x::ρ)=.ret (.ret (.d x)):=rfl
theorem ZjL:lr (k+1) (sl::ρ)=lr k ρ:=rfl
noncomputable def ZaS (k:Nat) (ρ:List Sl) (x:PyData):Tr Ou:=.ret (.next (ρ.set k (.d x)))
theorem ZjF:dP k i ρ=(i ρ).bind (ZaS k ρ):=rfl
theorem ZjE:ZaS k ρ x=.ret (.next (ρ.set k (.d x))):=rfl
noncomputable def ZaP (k:Nat) (ρ:List Sl) (r:Re):Tr Ou:=.ret (.next (ρ.set k (ZaI r)))
theorem ZjD:sS k f ρ=(f ρ).bind (ZaP k ρ):=rfl
theorem ZjC:ZaP k ρ (.own xs)=.ret (.next (ρ.set k (.own xs))):=rfl
theorem Zh8 {α:Type} {a b:α} {r:List α}:(a::r).set 0 b=b::r:=rfl
theorem Zh7 {α:Type} {a b:α} {r:List α}:(a::r).set (k+1) b=a::r.set k b:=rfl
noncomputable def jY:Nat->List Sl->Tr (List PyData)
 | 0,.own xs::_=>.ret xs
 | k+1,_::ρ=>jY k ρ
 | _,_=>.fail
theorem Zj2:jY 0 (.own xs::ρ)=.ret xs:=rfl
theorem Zj1:jY (k+1) (sl::ρ)=jY k ρ:=rfl
theorem qB {β:Type} {g:List PyData->Tr β}:∀ (k:Nat) (σ:List Sl),(match σ[k]? with | some (Sl.own xs)=>g xs | _=>Tr.fail)=(jY k σ).bind g
 | 0,[]=>rfl
 | 0,s::r=>by cases s <;> rfl
 | k+1,[]=>rfl
 | k+1,s::r=>qB k r
noncomputable def oI (k:Nat) (ρ:List Sl) (xs:List PyData) (x:PyData):Tr Ou:=if small (xs.length+1)=true then .ret (.next (ρ.set k (.own (xs++[x])))) else .fail
noncomputable def Zee (k:Nat) (i:List Sl->Tr PyData) (ρ:List Sl) (xs:List PyData):Tr Ou:=(i ρ).bind (oI k ρ xs)
theorem Zk9:o5 k i ρ=(jY k ρ).bind (Zee k i ρ):=qB k ρ
theorem Zk8:Zee k i ρ xs=(i ρ).bind (oI k ρ xs):=rfl
theorem Zk7 (h:small (xs.length+1)=true):oI k ρ xs x=.ret (.next (ρ.set k (.own (xs++[x])))):=by unfold oI; rw [if_pos h]
noncomputable def Zbn (k:Nat) (ρ:List Sl) (xs:List PyData):Tr Ou:=.ret (.next (ρ.set k (.own xs.reverse)))
theorem ZjK:oP k ρ=(jY k ρ).bind (Zbn k ρ):=qB k ρ
theorem ZjJ:Zbn k ρ xs=.ret (.next (ρ.set k (.own xs.reverse))):=rfl
noncomputable def qI (ρ:List Sl):Tr Ou:=.ret (.next ρ)
noncomputable def Zd9 (g:PyData->List Sl->Option (List Sl)) (ρ:List Sl) (x:PyData):Tr Ou:=(Tr.of (g x ρ)).bind qI
theorem Zk6 {g:PyData->List Sl->Option (List Sl)}:jC g i ρ=(i ρ).bind (Zd9 g ρ):=rfl
theorem Zk5 {g:PyData->List Sl->Option (List Sl)}:Zd9 g ρ x=(Tr.of (g x ρ)).bind qI:=rfl
theorem Zj6:qI ρ=.ret (.next ρ):=rfl
theorem Zi5:cy k x ρ=some (ρ.set k (.d x)):=rfl
theorem Zi3 {gs:List PyData->List Sl->Option (List Sl)}:gi gs (.tuple xs) ρ=gs xs ρ:=rfl
theorem Zi6:fV [] ρ=some ρ:=rfl
theorem Zi7 {g:PyData->List Sl->Option (List Sl)} {gs:List PyData->List Sl->Option (List Sl)}:dS g gs (x::xs) ρ=(g x ρ).bind (gs xs):=rfl
theorem Zi4 {α β:Type} {a:α} {g:α->Option β}:(some a).bind g=g a:=rfl
noncomputable def rB (x:PyData):Tr (List PyData):=Tr.of (js x)
theorem Zkv:lu i ρ=(i ρ).bind rB:=rfl
theorem Zku:rB (.list xs)=.ret xs:=rfl
theorem Zkt:rB (.tuple xs)=.ret xs:=rfl
noncomputable def jR (xs:List PyData):Tr (List PyData):=Tr.of (lG xs)
theorem ZjI:lq is ρ=(is ρ).bind jR:=rfl
theorem ZcT {n:Int} (h1:-1000000000000<=n) (h2:n<=1000000000000):rD n=true:=decide_eq_true (by omega)
theorem Zc7 {n:Int} (h:rD n=true):jR [.int n]=.ret (f8 0 n):=by
 simp [jR,lG,h]
noncomputable def Zc2 (g:PyData->List Sl->Option (List Sl)) (s:List Sl->Tr Ou) (ρ:List Sl) (xs:List PyData):Tr Ou:=fL g s xs ρ
theorem ZkL {g:PyData->List Sl->Option (List Sl)}:jB is g s ρ=(is ρ).bind (Zc2 g s ρ):=rfl
theorem ZkK {g:PyData->List Sl->Option (List Sl)}:Zc2 g s ρ xs=fL g s xs ρ:=rfl
noncomputable def rN (g:PyData->List Sl->Option (List Sl)) (s:List Sl->Tr Ou) (xs:List PyData):Ou->Tr Ou
 | .next ρ=>fL g s xs ρ
 | .cont ρ=>fL g s xs ρ
 | .brk ρ=>.ret (.next ρ)
 | .ret r=>.ret (.ret r)
noncomputable def ma (g:PyData->List Sl->Option (List Sl)) (s:List Sl->Tr Ou) (xs:List PyData) (ρ:List Sl):Tr Ou:=(s ρ).bind (rN g s xs)
theorem Zc1 {g:PyData->List Sl->Option (List Sl)}:fL g s [] ρ=.ret (.next ρ):=rfl
theorem ox {g:PyData->List Sl->Option (List Sl)}:fL g s (x::xs) ρ=(Tr.of (g x ρ)).bind (ma g s xs):=by
 rw [fL]
 refine congrArg (Tr.bind (Tr.of (g x ρ))) (funext λρ1=>?_)
 unfold ma
 refine congrArg (Tr.bind (s ρ1)) (funext λo=>?_)
 cases o <;> rfl
theorem ZkJ {g:PyData->List Sl->Option (List Sl)}:ma g s xs ρ=(s ρ).bind (rN g s xs):=rfl
theorem rS {g:PyData->List Sl->Option (List Sl)}:rN g s xs (.next ρ)=fL g s xs ρ:=rfl
noncomputable def l0 (g:PyData->List Sl->Option (List Sl)) (el:List Sl->Tr PyData) (τ:List Sl) (x:PyData):Tr PyData:=(Tr.of (g x τ)).bind el
noncomputable def qZ (n:Nat) (ix:List Nat) (g:PyData->List Sl->Option (List Sl)) (el:List Sl->Tr PyData) (ρ:List Sl) (xs:List PyData):Tr (List PyData):=if small xs.length=true then eY (l0 g el (blk n ix ρ)) xs else .fail
theorem Zkr {ix:List Nat} {g:PyData->List Sl->Option (List Sl)}:oW is n ix g i ρ=(is ρ).bind (qZ n ix g i ρ):=rfl
theorem Zkq {ix:List Nat} {g:PyData->List Sl->Option (List Sl)} (h:small xs.length=true):qZ n ix g i ρ xs=eY (l0 g i (blk n ix ρ)) xs:=by unfold qZ; rw [if_pos h]
theorem Zkp {τ:List Sl} {g:PyData->List Sl->Option (List Sl)}:l0 g i τ x=(Tr.of (g x τ)).bind i:=rfl
theorem Zcz {h:PyData->Tr PyData} {n:Nat} {P:PyData->Prop}:∀ {xs:List PyData},(∀ x∈xs,(h x).all n P)->(eY h xs).all (xs.length * n) λys=>ys.length=xs.length/\∀ y∈ys,P y
 | [],_=>⟨rfl,λy hy=>by cases hy⟩
 | x::xs,hx=>by
  have e:(x::xs).length * n=n+(xs.length * n+0):=by rw [List.length_cons,Nat.succ_mul]; omega
  rw [e,eY]
  refine Tr.all_bind (hx x (by simp)) λy hy=>Tr.all_bind (Zcz λz hz=>hx z (List.mem_cons_of_mem _ hz)) λys hys=>?_
  exact ⟨by simp [hys.1],λz hz=>by
   rcases List.mem_cons.mp hz with rfl | hz
   ·exact hy
   ·exact hys.2 z hz⟩
theorem ZlJ {α:Type} {w:Int} {k:Int->Tr α} {n:Nat} {P:α->Prop} (h1:0 < w) (h2:w < 1073741824) (h:∀ r,0<=r->r < w->(k r).all n P):(Tr.draw w k).all (n+1) P:=⟨h1,h2,h⟩
theorem pick {α:Type} {xs:List α} {r:Int} (h0:0<=r) (h1:r < xs.length):∃ v,ez xs r=some v/\v∈xs:=by
 have h:r.toNat < xs.length:=by omega
 exact ⟨xs[r.toNat],ZmR h0 (by simp [h]),List.getElem_mem h⟩
theorem Zia {α:Type} {xs:List α} (h:xs.length=7):∃ a b c d e f g,xs=[a,b,c,d,e,f,g]:=by
 rcases xs with _ | ⟨a,_ | ⟨b,_ | ⟨c,_ | ⟨d,_ | ⟨e,_ | ⟨f,_ | ⟨g,_ | ⟨k,xs⟩⟩⟩⟩⟩⟩⟩⟩
 ·cases h
 ·cases h
 ·cases h
 ·cases h
 ·cases h
 ·cases h
 ·cases h
 ·exact ⟨a,b,c,d,e,f,g,rfl⟩
 ·exact absurd h (by simp)
end L2
namespace L2
open PySem
@[irreducible] noncomputable def Al {α:Type} (t:Tr α) (n:Nat) (P:α->Prop):Prop:=t.all n P
section
variable {α β:Type} {t:Tr α} {n n' N:Nat} {P:α->Prop} {P':β->Prop}
theorem Al.of (h:t.all n P):Al t n P:=by unfold Al; exact h
theorem Al.out (h:Al t n P):t.all n P:=by unfold Al at h; exact h
theorem sL {a:α} (h:P a):Al (.ret a) n P:=.of h
theorem jx {w:Int} {k:Int->Tr α} (h1:0 < w) (h2:w < 1073741824) (hN:n+1<=N) (h:∀ r,0<=r->r < w->Al (k r) n P):Al (.draw w k) N P:=.of (Tr.all_mono (ZlJ h1 h2 λr a b=>(h r a b).out) hN λ_ h=>h)
theorem Zei {f:α->Tr β} (h:Al t n P) (hN:n+n'<=N) (hf:∀ a,P a->Al (f a) n' P'):Al (t.bind f) N P':=.of (Tr.all_mono (Tr.all_bind h.out λa ha=>(hf a ha).out) hN λ_ h=>h)
theorem Zeh {Q:α->Prop} (h:Al t n P) (hN:n<=N) (hq:∀ a,P a->Q a):Al t N Q:=.of (Tr.all_mono h.out hN hq)
theorem Zm5 {h:PyData->Tr PyData} {P:PyData->Prop} {xs:List PyData} {Q:List PyData->Prop} (hN:xs.length * n<=N) (hx:∀ x∈xs,Al (h x) n P) (hq:∀ ys,ys.length=xs.length->(∀ y∈ys,P y)->Q ys):Al (eY h xs) N Q :=
 .of (Tr.all_mono (Zcz λx m=>(hx x m).out) hN λys ⟨a,b⟩=>hq ys a b)
end
noncomputable def oj (lo hi:Int) (x:PyData):Prop:=∃ z:Int,x=.int z/\lo<=z/\z<=hi
theorem ZcR {lo hi:Int}:∀ {xs:List PyData},(∀ x∈xs,oj lo hi x)->∃ ns:List Int,xs=ns.map PyData.int/\∀ n∈ns,lo<=n/\n<=hi
 | [],_=>⟨[],rfl,λn hn=>by cases hn⟩
 | x::xs,h=>by
  obtain ⟨ns,e,hn⟩:=ZcR (xs:=xs) λy hy=>h y (List.mem_cons_of_mem _ hy)
  obtain ⟨z,rfl,h1,h2⟩:=h x (by simp)
  exact ⟨z::ns,by rw [e]; rfl,λn hn'=>by
   rcases List.mem_cons.mp hn' with rfl | hn'
   ·exact ⟨h1,h2⟩
   ·exact hn n hn'⟩
theorem kH {lo hi:Int}:(f8 lo hi).length=(hi - lo).toNat:=by unfold f8; rw [List.length_map,qm]
theorem Zg3 {xs:List PyData} {lo hi r:Int} (h:∀ x∈xs,oj lo hi x) (h0:0<=r) (h1:r < xs.length):∃ z:Int,ez xs r=some (.int z)/\lo<=z/\z<=hi:=by
 obtain ⟨v,e,m⟩:=pick h0 h1
 obtain ⟨z,rfl,a,b⟩:=h v m
 exact ⟨z,e,a,b⟩
end L2
namespace L2
open PySem PySem.Spec PyProof.Rows
variable {PK:Pk} {X:Cx} {a b c e:Expr} {es:List Expr} {pos:Pos} {i j l:List Sl->Tr PyData} {is:List Sl->Tr (List PyData)} {p q:List Sl->Tr Bool} {st:Stmt}
variable {PK:Pk} {X:Cx} {a b c e:Expr} {es:List Expr} {pos:Pos} {i j l:List Sl->Tr PyData} {as:List Sl->Tr (List Sl)}
noncomputable def ZnV (k:Nat) (as:List Sl->Tr (List Sl)):List Sl->Tr (List Sl):=λρ=>match ρ[k]? with
 | some (.own xs)=>(as ρ).bind λys=>.ret (.d (.list xs)::ys)
 | some (.d x)=>(as ρ).bind λys=>.ret (.d x::ys)
 | _=>.fail
variable {ρ:List Sl} {k:Nat} {xs:List PyData} {x:PyData} {sl:Sl} {f:List Sl->Tr Re}
noncomputable def gF:Nat->List Sl->Tr PyData
 | 0,.own xs::_=>.ret (.list xs)
 | 0,.d x::_=>.ret x
 | k+1,_::ρ=>gF k ρ
 | _,_=>.fail
theorem Zkl:gF 0 (.own xs::ρ)=.ret (.list xs):=rfl
theorem Zkk:gF (k+1) (sl::ρ)=gF k ρ:=rfl
theorem Zmf {prog:Program} {w:World} {A:Around} {R:Result->Shared->Prop} {s:Shared} {elt target iter cnd:Expr} {scope:Scope} {pos:Pos} {it acc:Value} {env:Env} (J:Nat->Shared->Prop)
  (step:∀ k s0,J k s0->wpAny (model prog w) A (pyNext it) (λgot s1=>match got with
   | none=>R (.ok .next) s1
   | some v=>wpAny (model prog w) A (letOwnedTupleGo target it v) (λ_ s2=>wpAny (model prog w) A (assign target env v) (λ_ s3=>wpAny (model prog w) A (isTrue cnd env (eval cnd env)) (λok s3'=>if ok=true then wpAny (model prog w) A (eval elt env) (λy s4 =>
     wpAny (model prog w) A (call (.builtin "list.append") [acc,y]) (λ_ s5=>∃ j,j < k/\J j s5) (λ_ _=>False) s4) (λ_ _=>False) s3' else ∃ j,j < k/\J j s3') (λ_ _=>False) s3) (λ_ _=>False) s2) (λ_ _=>False) s1) (λ_ _=>False) s0)
  (k:Nat) (h:J k s):codeAny (model prog w) A (.compLoop (.ListComp elt [⟨target,iter,[cnd],0⟩] scope pos) 0 it acc env) R s:=by
 refine codeAny_loop rfl J (λk0 s0 hJ=>?_) k h
 show wpAny _ _ ((compTurn (.ListComp elt [⟨target,iter,[cnd],0⟩] scope pos) 0 it acc env).onRaise (λx=>do noteFrame x env; theTreesLotGoes x)) _ _ s0
 apply wpAny_noted
 rw [compTurn_list]
 refine wpAny_bind (wpAny_standAt (wpAny_bind (wpAny_mono (step k0 s0 hJ) (λgot s1 h1=>?_) λ_ _ z=>z.elim)))
 cases got with
 | none=>exact wpAny_pure h1
 | some v =>
  refine wpAny_bind (wpAny_mono h1 (λ_ s2 h2=>?_) λ_ _ z=>z.elim)
  refine wpAny_bind (wpAny_mono h2 (λ_ s3 h3=>?_) λ_ _ z=>z.elim)
  refine wpAny_bind (wpAny_mono (wpAny_tests_one h3) (λok s3' h3'=>?_) λ_ _ z=>z.elim)
  cases ok with
  | false=>exact wpAny_pure ⟨rfl,h3'⟩
  | true =>
   refine wpAny_bind (wpAny_bind (wpAny_mono h3' (λy s4 h4=>?_) λ_ _ z=>z.elim))
   exact wpAny_bind (wpAny_mono h4 (λ_ s5 h5=>wpAny_pure (wpAny_pure ⟨rfl,h5⟩)) λ_ _ z=>z.elim)
noncomputable def pM (wi:TI) (n:Nat) (ix:List Nat) (g:Blk->TG) (tc:Blk->TT) (te:Blk->TE):TE:=λσ H Q=>wi σ H λJ H1=>∀ b:Blk,∃ W:Nat->Nat->St->List V->Hp->Prop,(∃ m,W 0 m (fM n ix σ) [] H1)/\∀ i m τ ys H2,W i m τ ys H2 ->
 (J.stop i H2/\∀ p v H',H2 p=none->v=V.ref p->H'=upd H2 p (.lst ys)->Q v H') \/
 (J.go i H2/\ys.length < sizeLine/\∀ x H3,J.yld i H2 x H3->g b x τ H3 λτ2 H4=>tc b τ2 H4 λok H4'=>if ok=true then te b τ2 H4' λy H5=>∃ m',m' < m/\W (i+1) m' τ2 (ys++[y]) H5 else ∃ m',m' < m/\W (i+1) m' τ2 ys H4')
section
variable {X:Cx} {pins:List (Addr×Obj)} {σ:St} {H:Hp} {s:Shared}
theorem Zij {elt target iter cnd:Expr} {scope:Scope} {pos:Pos} {Nx ts:List Str} {ix:List Nat} {g:Blk->TG} {tc:Blk->TT} {te:Blk->TE} {cl:List (Str×Addr)} {s2:Shared} {itv:Value} {R:Value->Addr->Result->Shared->Prop}
  {E:Value->Shared->Prop} {Q:VK}
  (hc:X.calm=true) (hg:∀ b,PG (d6 X (bN Nx ts ix) scope b) target (g b)) (hcn:∀ b,PT (d6 X (bN Nx ts ix) scope b) cnd (tc b)) (he:∀ b,PE (d6 X (bN Nx ts ix) scope b) elt (te b))
  (hNx:X.N=Nx) (ok:BlkOk Nx X.env.scope scope ix) (cl1:∀ x c,cl.lookup x=some c->X.env.cells.lookup x=some c) (cl2:∀ y∈scope.names,y.2=.free->∃ c,cl.lookup y.1=some c)
  (h2:o9 X pins σ target (λJ H1=>∀ b:Blk,∃ W:Nat->Nat->St->List V->Hp->Prop,(∃ m,W 0 m (fM ts.length ix σ) [] H1)/\∀ i m τ ys H2,W i m τ ys H2 ->
   (J.stop i H2/\∀ p v H',H2 p=none->v=V.ref p->H'=upd H2 p (.lst ys)->Q v H') \/
   (J.go i H2/\ys.length < sizeLine/\∀ x H3,J.yld i H2 x H3->g b x τ H3 λτ2 H4=>tc b τ2 H4 λok H4'=>if ok=true then te b τ2 H4' λy H5=>∃ m',m' < m/\W (i+1) m' τ2 (ys++[y]) H5 else ∃ m',m' < m/\W (i+1) m' τ2 ys H4')) itv s2)
  (hR:tE X pins σ Q R) :
  wpAny (model X.prog X.w) X.A (newList []) (λacc s₃=>wpAny (model X.prog X.w) X.A (newFunctionEnv scope X.env.globals cl [] X.env.qual none .none (some X.env)) (λcenv s₄ =>
   codeAny (model X.prog X.w) X.A (.compStart (.ListComp elt [⟨target,iter,[cnd],0⟩] scope pos) 0 itv acc { cenv with scope:=relabel scope X.env }) (R acc cenv.locals) s₄) E s₃) E s2:=by
 obtain ⟨it,fp,tn,J,H1,e,I2,T,st2,f2,q2⟩:=h2
 subst e
 refine wpAny_newObj_type (Zag ?_)
 dsimp only
 generalize hG:s2.heap.push { cls:=.type "list",dict:=none,data:=.seq ([]:List Value).toArray }=G
 have hfs:∀ b∈fp,b < s2.heap.objs.size:=λb hb=>let ⟨o,e,_⟩:=T.obj _ _ st2 b hb; Heap.lt_size e
 have S:=ZdV (ts:=ts) hNx ok cl1 cl2 I2 f2 hfs hG
 generalize pushCells (G.push { cls:=.type "dict",data:=.dict #[] }) scope.names=h3 at S ⊢
 generalize cellsFrom (G.objs.size+1) scope.names cl=cs at S ⊢
 generalize G.objs.size=C at S ⊢
 obtain ⟨hC,hDC,I3,kp,hD3,fC,cellIn,pinIn,nofrs,pinD,stat⟩:=S
 let B:Blk:=⟨cs,C,s2,H1,fp,X.pn++pins⟩
 obtain ⟨W,⟨m0,w0⟩,turn⟩:=q2 B
 have loop:∀ s4:Shared,s4={ s2 with heap:=h3 } ->
   codeAny (model X.prog X.w) X.A (.compLoop (.ListComp elt [⟨target,iter,[cnd],0⟩] scope pos) 0 (.ref it) (.ref s2.heap.objs.size) (compEnvC scope cs C X.env)) (R (.ref s2.heap.objs.size) C) s4:=by
  rintro s4 rfl
  refine Zmf (λk s'=>∃ i τ ys its n H',Inv (d6 X (bN Nx ts ix) scope B) [(s2.heap.objs.size,({ cls:=.type "list",data:=.seq (List.toArray its) n }:Obj))] τ H' s'/\tn i s'.heap/\(∀ b∈fp,H' b=none)/\Vals ys its/\ys.length<=sizeLine/\W i k τ ys H') ?_ m0
   ⟨0,_,[],[],_,H1,pinD I3 hD3 fC (λv z=>by cases z),T.keep _ _ _ st2 λb hb o e=>kp b o e,λb hb=>(f2 b hb).1,.nil,Nat.zero_le _,w0⟩
  rintro k s5 ⟨i,τ,ys,its,n,H5,I5,st5,fr5,rv,hz,w5⟩
  rcases turn i k τ ys H5 w5 with ⟨stop,qn⟩ | ⟨go,hlt,step⟩
  ·refine thn (T.done (d6 X (bN Nx ts ix) scope B) rfl rfl rfl hc i _ s5 τ H5 _ I5 (stat fr5) st5 stop) λgot s6 hz0=>?_
   obtain ⟨rfl,I6⟩:=hz0
   exact ZdU I2 f2 hC hDC pinIn I6 rv hz hR qn
  ·refine thn (T.item (d6 X (bN Nx ts ix) scope B) rfl rfl rfl hc i _ s5 τ H5 _ I5 (stat fr5) st5 go) λgot s6 hz0=>?_
   obtain ⟨u,hr,h6⟩:=hz0
   subst hr
   refine thn h6 λ_ s7 hz0=>?_
   obtain ⟨x,H7,I7,r7,y7,st7,fr7⟩:=hz0
   have I7':=I7.pinned (stat fr7) (T.obj _ _ st7)
   refine thn (hg B _ s7 τ H7 x u _ I7' r7 (step x H7 y7)) λ_ s8 hz0=>?_
   obtain ⟨τ8,H8,I8,q8⟩:=hz0
   refine thn (hcn B _ s8 τ8 H8 _ I8 q8) λokk s8' hz0=>?_
   obtain ⟨H8',I8',q8'⟩:=hz0
   cases okk with
   | false =>
    obtain ⟨m',hm',w9⟩:=q8'
    obtain ⟨ho,hn,_,_,_⟩:=I8'.pin (s2.heap.objs.size,({ cls:=.type "list",data:=.seq (List.toArray its) n }:Obj)) (List.mem_append_right _ (List.mem_append_left _ (by simp)))
    have I9':Inv (d6 X (bN Nx ts ix) scope B) [] τ8 H8' s8':=I8'.pins_of λp hp=>absurd hp (by simp)
    refine ⟨m',hm',i+1,τ8,ys,its,n,H8',pinD I9' ho hn (λv z=>by cases z),?_,λb hb=>?_,rv,hz,w9⟩
    ·refine T.keep _ _ _ st7 λb hb o e=>?_
     exact (I8'.pin (b,o) (List.mem_append_right _ (List.mem_append_right _ (jm hb e)))).1
    ·obtain ⟨o,e,d⟩:=T.obj _ _ st7 b hb
     exact (I8'.pin (b,o) (List.mem_append_right _ (List.mem_append_right _ (jm hb e)))).2.1
   | true =>
   refine thn (he B _ s8' τ8 H8' _ I8' q8') λy s9 hz0=>?_
   obtain ⟨vy,H9,I9,r9,m',hm',w9⟩:=hz0
   obtain ⟨ho,hn,_,_,_⟩:=I9.pin (s2.heap.objs.size,({ cls:=.type "list",data:=.seq (List.toArray its) n }:Obj)) (List.mem_append_right _ (List.mem_append_left _ (by simp)))
   have lenv:=rv.length
   refine wpAny_list_append_plain (l:=s2.heap.objs.size) ⟨n,ho⟩ (λh' hpl hsb=>?_) (by rw [List.size_toArray]; omega)
   obtain ⟨n',ho'⟩:=hpl
   have eobj:(its.toArray.push y)=List.toArray (its++[y]):=by simp
   rw [eobj] at ho'
   have I9':Inv (d6 X (bN Nx ts ix) scope B) [] τ8 H9 s9:=I9.pins_of λp hp=>absurd hp (by simp)
   have I10:Inv (d6 X (bN Nx ts ix) scope B) [] τ8 H9 { s9 with heap:=h' }:=I9'.turned (it:=s2.heap.objs.size) (t':=s9.toks) (λb o hb e=>(hsb.2 b hb).trans e) hn hDC (.inr (Nat.le_refl _)) cellIn (λp hp=>by
    have hp':p∈(X.pn++pins)++[]:=hp
    rw [List.append_nil] at hp'
    exact Nat.ne_of_lt (pinIn p hp'))
   refine ⟨m',hm',i+1,τ8,ys++[vy],its++[y],n',H9,pinD I10 ho' hn (λv z=>by cases z),?_,λb hb=>?_,rv.append (.cons r9 .nil),by rw [List.length_append]; show ys.length+1<=_; omega,w9⟩
   ·refine T.keep _ _ _ st7 λb hb o e=>?_
    have q:=(I9.pin (b,o) (List.mem_append_right _ (List.mem_append_right _ (jm hb e)))).1
    exact (hsb.2 b (Nat.ne_of_lt (hfs b hb))).trans q
   ·obtain ⟨o,e,d⟩:=T.obj _ _ st7 b hb
    exact (I9.pin (b,o) (List.mem_append_right _ (List.mem_append_right _ (jm hb e)))).2.1
 exact codeAny_compStart_list (loop _ rfl) (T.self X.A 0 _ _ _ (T.keep _ _ _ st2 λb hb o e=>kp b o e) (loop _ rfl))
theorem Zhe {elt target iter cnd:Expr} {scope:Scope} {pos:Pos} {wi:TI} {g:Blk->TG} {tc:Blk->TT} {te:Blk->TE} (Nx:List Str) (ts:List Str) (ix:List Nat)
  (hc:X.calm=true) (hi:PI X target iter wi) (hg:∀ b,PG (d6 X (bN Nx ts ix) scope b) target (g b)) (hcn:∀ b,PT (d6 X (bN Nx ts ix) scope b) cnd (tc b)) (he:∀ b,PE (d6 X (bN Nx ts ix) scope b) elt (te b))
  (hNx:X.N=Nx) (ok:BlkOk Nx X.env.scope scope ix) (hs:∀ x,foldedSetIterable iter X.env x=pure x:=by intro _; rfl) :
  PE X (.ListComp elt [⟨target,iter,[cnd],0⟩] scope pos) (pM wi ts.length ix g tc te):=by
 intro pins s σ H Q I h
 obtain ⟨cl,hcl,cl1,cl2⟩:=oA (scope:=scope) (env:=X.env) λy hy hf=>I.ok.has y.1 (ok.frees y hy hf)
 rw [eval_ListComp]
 refine wpAny_comprehension_free (use:=none) rfl hs hcl ok.kind ok.locs (thn (hi pins s σ H _ I h) λv s1 h1=>thn h1 λitv s2 h2=>?_)
 refine Zij (R:=λacc C=>compPost (model X.prog X.w) X.A X.xe none (EP X pins σ Q) acc C) hc hg hcn he hNx ok cl1 cl2 h2 ?_
 rintro D C H' s' v I' rfl q ⟨m,hm⟩ hn hL h0 hcl' hp
 exact ⟨m,hm,λh' hsb=>⟨.ref D,H',I'.turned (it:=C) (t':=s'.toks) (λb o hb e=>(hsb.2 b hb).trans e) hn hL (.inr h0) hcl' hp,rfl,q⟩⟩
end
section
variable {PK:Pk} {X:Cx} {e:Expr} {st:Stmt} {i:List Sl->Tr PyData} {is:List Sl->Tr (List PyData)} {p:List Sl->Tr Bool}
noncomputable def lT (y:Option PyData) (ys:List PyData):Tr (List PyData):=.ret (match y with
 | some y=>y::ys
 | none=>ys)
noncomputable def gE (h:PyData->Tr (Option PyData)):List PyData->Tr (List PyData)
 | []=>.ret []
 | x::xs=>(h x).bind λy=>(gE h xs).bind (lT y)
noncomputable def lc (p:List Sl->Tr Bool) (i:List Sl->Tr PyData) (τ:List Sl):Tr (Option PyData):=(p τ).bind λok=>if ok=true then (i τ).bind λy=>.ret (some y) else .ret none
noncomputable def oV (is:List Sl->Tr (List PyData)) (n:Nat) (ix:List Nat) (g:PyData->List Sl->Option (List Sl)) (p:List Sl->Tr Bool) (el:List Sl->Tr PyData):List Sl->Tr (List PyData):=λρ =>
 (is ρ).bind λxs=>if small xs.length=true then gE (λx=>(Tr.of (g x (blk n ix ρ))).bind (lc p el)) xs else .fail
theorem Zii {n:Nat} {ix:List Nat} {g:PyData->List Sl->Option (List Sl)} (hn:iw n g):∀ σ H Q,i7 PK (oV is n ix g p i) σ H Q->pM (kz PK is) n ix (λ_=>gN PK g) (λ_=>TAt PK p) (λ_=>TAe PK i) σ H Q:=by
 rintro σ H Q ⟨pa,G₀,H₀,m,ρ,G,R,z⟩
 refine ⟨pa,G₀,H₀,m,ρ,G,R,Tr.ok_mono (Tr.ok_bind.mp z) λm1 xs k J G1 H1 s1 w1 jo=>λB=>?_⟩
 obtain ⟨hs,k⟩:=fK k
 have hs:xs.length<=sizeLine:=of_decide_eq_true hs
 let el:PyData->Tr (Option PyData):=λx=>(Tr.of (g x (blk n ix ρ))).bind (lc p i)
 let W:Nat->Nat->St->List V->Hp->Prop:=λk mm τ ys H2=>mm=xs.length - k/\k<=xs.length/\ys.length<=k/\∃ m G2 ds,Sub G1 G2/\Stp pa G H G2 H2/\Rl PK pa G₀ H₀ m τ (blk n ix ρ) G2 H2 /\
  DnAll G2 ys ds/\(gE el (xs.drop k)).ok m λm' zs=>Ko1 PK pa m' G H (ds++zs) Q
 refine ⟨W,⟨xs.length,rfl,Nat.zero_le _,Nat.le_refl _,m1,G1,[],.refl,s1,(R.step s1 w1).blk n ix,.nil,k⟩,?_⟩
 rintro k mm τ ys H2 ⟨rfl,hk,hy,m2,G2,ds,sb,st2,R2,dn,k2⟩
 obtain ⟨j1,j2⟩:=jo m2 G2 H2 sb R2.wd
 by_cases hlt:k < xs.length
 ·have hx:xs[k]?=some xs[k]:=by simp [hlt]
  obtain ⟨jg,jy⟩:=j1 k _ hx
  refine .inr ⟨jg,by omega,λx H3 y=>?_⟩
  obtain ⟨G3,s3,w3,d3⟩:=jy x H3 y
  rw [List.drop_eq_getElem_cons hlt] at k2
  unfold gE at k2
  rw [Tr.ok_bind,Tr.ok_bind] at k2
  obtain ⟨ρ3,hg3,k3⟩:=Tr.ok_of k2
  refine ⟨pa,G₀,H₀,m2,_,G3,_,ρ3,R2.step s3 w3,d3,hg3,λτ4 R4=>?_⟩
  obtain ⟨pl,pk⟩:=hn _ _ _ hg3
  have hback:∀ (q:Nat) (sl:Sl),(blk n ix ρ)[q]?=some sl->sl=.un\/ρ3[q]?=some sl:=λq sl hq=>by
   by_cases hqn:q < n
   ·left
    unfold blk at hq
    rw [List.getElem?_append_left (by simpa using hqn),List.getElem?_replicate,if_pos hqn] at hq
    cases hq
    rfl
   ·right
    rw [pk q (Nat.le_of_not_lt hqn)]
    exact hq
  unfold lc at k3
  rw [Tr.ok_bind] at k3
  refine ⟨pa,G₀,H₀,m2,ρ3,G3,R4,Tr.ok_mono k3 λm4 ok k4 G4 H4 s4 w4=>?_⟩
  have R4':=R4.step s4 w4
  have s34:=s3.trans s4 w3.some
  cases ok with
  | false =>
   have k4':((gE el (xs.drop (k+1))).bind (lT none)).ok m4 λm' zs=>Ko1 PK pa m' G H (ds++zs) Q:=k4
   refine ⟨xs.length - (k+1),by omega,rfl,hlt,by omega,m4,G4,ds,sb.trans s34.gs,st2.trans s34 R2.wd.some,R4'.weak pl hback,DnAll.mono s34.gs dn,?_⟩
   exact Tr.ok_mono (Tr.ok_bind.mp k4') λm6 zs k6=>k6
  | true =>
   have k4':((i ρ3).bind λy=>.ret (some y)).ok m4 λm' y=>((gE el (xs.drop (k+1))).bind (lT y)).ok m' λm' zs=>Ko1 PK pa m' G H (ds++zs) Q:=k4
   rw [Tr.ok_bind] at k4'
   refine ⟨pa,G₀,H₀,m4,ρ3,G4,R4',Tr.ok_mono k4' λm5 yd k5=>?_⟩
   intro v G5 H5 s5 w5 d5
   have s35:=s34.trans s5 w4.some
   refine ⟨xs.length - (k+1),by omega,rfl,hlt,by rw [List.length_append]; show ys.length+1<=_; omega,m5,G5,ds++[yd],sb.trans s35.gs,st2.trans s35 R2.wd.some,(R4'.step s5 w5).weak pl hback,(DnAll.mono s35.gs dn).snoc d5,?_⟩
   have k5':((gE el (xs.drop (k+1))).bind (lT (some yd))).ok m5 λm' zs=>Ko1 PK pa m' G H (ds++zs) Q:=k5
   refine Tr.ok_mono (Tr.ok_bind.mp k5') λm6 zs k6=>?_
   rw [List.append_assoc]
   exact k6
 ·have e:k=xs.length:=by omega
  subst e
  refine .inl ⟨j2,λp v H' hp ev eH=>?_⟩
  subst ev eH
  rw [List.drop_length] at k2
  have k2':Ko1 PK pa m2 G H (ds++[]) Q:=k2
  rw [List.append_nil] at k2'
  exact (Ko1.later k2' st2 R2.wd.some).new R2.wd dn hp
theorem Zm2 {n:Nat} {ix:List Nat} {g:PyData->List Sl->Option (List Sl)} (h:PE X e (pM (kz PK is) n ix (λ_=>gN PK g) (λ_=>TAt PK p) (λ_=>TAe PK i))) (hn:iw n g):PE X e (i7 PK (oV is n ix g p i)):=h.imp (Zii hn)
end
section
variable {X:Cx}
section
variable {ρ:List Sl} {is:List Sl->Tr (List PyData)} {n:Nat} {i:List Sl->Tr PyData} {p:List Sl->Tr Bool} {xs:List PyData} {x:PyData}
noncomputable def n9 (g:PyData->List Sl->Option (List Sl)) (p:List Sl->Tr Bool) (el:List Sl->Tr PyData) (τ:List Sl) (x:PyData):Tr (Option PyData):=(Tr.of (g x τ)).bind (lc p el)
noncomputable def qX (n:Nat) (ix:List Nat) (g:PyData->List Sl->Option (List Sl)) (p:List Sl->Tr Bool) (el:List Sl->Tr PyData) (ρ:List Sl) (xs:List PyData):Tr (List PyData):=if small xs.length=true then gE (n9 g p el (blk n ix ρ)) xs else .fail
theorem Zkm {ix:List Nat} {g:PyData->List Sl->Option (List Sl)}:oV is n ix g p i ρ=(is ρ).bind (qX n ix g p i ρ):=rfl
theorem Zko {ix:List Nat} {g:PyData->List Sl->Option (List Sl)} (h:small xs.length=true):qX n ix g p i ρ xs=gE (n9 g p i (blk n ix ρ)) xs:=by unfold qX; rw [if_pos h]
theorem Zkn {τ:List Sl} {g:PyData->List Sl->Option (List Sl)}:n9 g p i τ x=(Tr.of (g x τ)).bind (lc p i):=rfl
noncomputable def rF (y:PyData):Tr (Option PyData):=.ret (some y)
noncomputable def if2 (i:List Sl->Tr PyData) (τ:List Sl) (b:Bool):Tr (Option PyData):=if b=true then (i τ).bind rF else .ret none
theorem ZkD {τ:List Sl}:lc p i τ=(p τ).bind (if2 i τ):=rfl
theorem ZkF {τ:List Sl}:if2 i τ true=(i τ).bind rF:=rfl
theorem ZkE:rF x=.ret (some x):=rfl
theorem ZcA {h:PyData->Tr (Option PyData)} {f:PyData->Option PyData}:∀ {xs:List PyData},(∀ x∈xs,h x=.ret (f x))->gE h xs=.ret (xs.filterMap f)
 | [],_=>rfl
 | x::xs,hx=>by
  rw [gE,hx x (by simp),Tr.ret_bind,ZcA λy hy=>hx y (List.mem_cons_of_mem _ hy),Tr.ret_bind,List.filterMap_cons]
  unfold lT
  cases f x <;> rfl
end
end
section
variable {PK:Pk} {X:Cx} {e:Expr} {as:List Sl->Tr (List Sl)}
end
section
variable {ρ:List Sl} {as:List Sl->Tr (List Sl)} {f:List PyData->Option PyData} {x:PyData} {xs:List PyData} {i j:List Sl->Tr PyData} {k:Nat} {p:List Sl->Tr Bool} {s:List Sl->Tr Ou}
end
end L2
namespace L2
open PySem PySem.Spec PyProof.Rows
open AutoSeq1 (wpAny_loadPart')
section
variable {prog:Program} {w:World} {A:Around} {E:Value->Shared->Prop} {s:Shared}
end
section
variable {prog:Program} {w:World} {A:Around} {E:Value->Shared->Prop} {s:Shared}
end
section
variable {X:Cx} {tg:Expr} {PK:Pk} {a b:Expr} {i j:List Sl->Tr PyData} {p pos:Pos}
end
end L2
namespace L2
open PySem PySem.Spec PyProof.Rows
section
variable {X:Cx} {tg:Expr} {PK:Pk} {e:Expr} {i j:List Sl->Tr PyData} {is:List Sl->Tr (List PyData)} {p pos:Pos}
end
section
variable {X:Cx} {PK:Pk} {i n:List Sl->Tr PyData}
end
section
variable {prog:Program} {w:World} {A:Around} {E:Value->Shared->Prop} {s:Shared}
end
section
variable {X:Cx} {PK:Pk} {e st:Expr} {te ts:TE} {i j:List Sl->Tr PyData} {p2 pos:Pos}
end
section
variable {prog:Program} {w:World} {A:Around} {R:Result->Shared->Prop} {I S:Addr} {fp wr:List Addr} {n:Nat} {P:Nat->Value->Prop} {St:Nat->Heap->Prop} {h0:Heap}
end
section
variable {prog:Program} {w:World} {A:Around} {E:Value->Shared->Prop} {s:Shared}
end
section
variable {X:Cx}
end
section
variable {X:Cx} {PK:Pk} {e:Expr} {is:List Sl->Tr (List PyData)}
end
section
variable {prog:Program} {w:World} {A:Around} {E:Value->Shared->Prop} {s:Shared}
end
section
variable {X:Cx}
end
section
variable {X:Cx} {PK:Pk} {a b:Expr} {pos:Pos} {j:List Sl->Tr PyData}
end
section
variable {prog:Program} {w:World} {A:Around} {E:Value->Shared->Prop} {s:Shared}
end
section
variable {X:Cx}
end
section
variable {PK:Pk} {X:Cx} {a b:Expr} {pos:Pos} {i j:List Sl->Tr PyData}
end
theorem nY {α:Type} {n:Nat}:∀ {us:List α},us.length=n+1->∃ (a:α) (t:List α),us=a::t/\t.length=n
 | a::t,h=>⟨a,t,rfl,Nat.succ.inj h⟩
theorem Zid {α:Type} {us:List α} (h:us.length=0):us=[]:=List.eq_nil_of_length_eq_zero h
theorem k8 {α:Type} {us:List α} (h:us.length=1):∃ a,us=[a]:=by
 obtain ⟨a,t,rfl,h2⟩:=nY h
 exact ⟨a,by rw [Zid h2]⟩
theorem lZ {α:Type} {us:List α} (h:us.length=2):∃ a0 a1,us=[a0,a1]:=by
 obtain ⟨a0,t,rfl,h2⟩:=nY h
 obtain ⟨a1,rfl⟩:=k8 h2
 exact ⟨a0,a1,rfl⟩
theorem nZ {α:Type} {us:List α} (h:us.length=3):∃ a0 a1 a2,us=[a0,a1,a2]:=by
 obtain ⟨a0,t,rfl,h2⟩:=nY h
 obtain ⟨a1,a2,rfl⟩:=lZ h2
 exact ⟨a0,a1,a2,rfl⟩
theorem Zif {α:Type} {us:List α} (h:us.length=4):∃ a0 a1 a2 a3,us=[a0,a1,a2,a3]:=by
 obtain ⟨a0,t,rfl,h2⟩:=nY h
 obtain ⟨a1,a2,a3,rfl⟩:=nZ h2
 exact ⟨a0,a1,a2,a3,rfl⟩
section
variable {PK:Pk} {X:Cx} {pos:Pos} {n:Nat} {is:List Sl->Tr (List PyData)} {s t:List Sl->Tr Ou}
end
section
variable {PK:Pk} {X:Cx} {a b c d e:Expr} {pos:Pos} {i j l n:List Sl->Tr PyData}
end
end L2
set_option exponentiation.threshold 9000
namespace Tw
open PySem L2
noncomputable def nb (k:Nat) (n:Int):Prop:=n.natAbs < 2 ^ k
theorem fF {k:Nat} {n:Int} (h:nb k n) (hk:k<=8000):fit n=true:=decide_eq_true (Nat.lt_of_lt_of_le h (Nat.pow_le_pow_right (by decide) hk))
theorem gb {k l:Nat} {n:Int} (h:nb k n) (hk:k<=l):nb l n:=Nat.lt_of_lt_of_le h (Nat.pow_le_pow_right (by decide) hk)
theorem nG {k l:Nat} {m n:Int} (h:nb k m) (h':nb l n):nb (k+l) (m * n):=by
 unfold nb at *
 rw [Int.natAbs_mul,Nat.pow_add]
 exact Nat.mul_lt_mul'' h h'
theorem nJ {k l:Nat} {m n:Int} (h:nb k m) (h':nb l n):nb (max k l+1) (m+n):=by
 have h1:=gb h (Nat.le_max_left k l)
 have h2:=gb h' (Nat.le_max_right k l)
 unfold nb at *
 rw [Nat.pow_succ,Nat.mul_two]
 exact Nat.lt_of_le_of_lt (Int.natAbs_add_le m n) (Nat.add_lt_add h1 h2)
theorem nF {k:Nat} {n:Int} (h:nb k n):nb k (-n):=by
 unfold nb at *
 omega
theorem gD {k l:Nat} {m n:Int} (h:nb k m) (h':nb l n):nb (max k l+1) (m - n):=by
 rw [Int.sub_eq_add_neg]
 exact nJ h (nF h')
theorem gm {k:Nat} {n:Int} (h1:-(2 ^ k:Nat) < n) (h2:n < (2 ^ k:Nat)):nb k n:=by
 unfold nb
 omega
theorem lR {k:Nat} {c:Prop} [Decidable c] {m n:Int} (h:nb k m) (h':nb k n):nb k (if c then m else n):=by split <;> assumption
noncomputable def ws (f:Int->Int):Nat->List Int->Int
 | _,[]=>0
 | k,w::l=>w * f k+ws f (k+1) l
structure Shp where
 top:Int
 depth:Int
 start:Int
 piece:Int
 keep:Int
 lack:Int
 lost:Int
 back:Int
 late:Int
noncomputable def Shp.l (s:Shp):List Int:=[s.top,s.depth,s.start,s.piece,s.keep,s.lack,s.lost,s.back,s.late]
@[irreducible] noncomputable def Shp.d (s:Shp):PyData:=.tuple (s.l.map PyData.int)
structure Shp.Ok (s:Shp):Prop where
 t0:0<=s.top
 d0:0<=s.depth
 td:s.top+s.depth<=100
 start0:0<=s.start
 start:nb 45 s.start
 piece:nb 45 s.piece
 keep:nb 45 s.keep
 lack:nb 45 s.lack
 lost:nb 45 s.lost
 back:nb 45 s.back
 late:nb 45 s.late
theorem ZfP (s:Shp):ef dZ s.d (.int 0)=.ret (.int s.top):=by unfold Shp.d; rw [jv]; exact congrArg Tr.of sD
theorem ZfO (s:Shp):ef dZ s.d (.int 1)=.ret (.int s.depth):=by unfold Shp.d; rw [jv]; exact congrArg Tr.of sC
theorem ZfN (s:Shp):ef dZ s.d (.int 2)=.ret (.int s.start):=by unfold Shp.d; rw [jv]; exact congrArg Tr.of sB
theorem ZfM (s:Shp):ef dZ s.d (.int 3)=.ret (.int s.piece):=by unfold Shp.d; rw [jv]; exact congrArg Tr.of Zd8
theorem ZfL (s:Shp):ef dZ s.d (.int 4)=.ret (.int s.keep):=by unfold Shp.d; rw [jv]; exact congrArg Tr.of Zd7
theorem ZfK (s:Shp):ef dZ s.d (.int 5)=.ret (.int s.lack):=by unfold Shp.d; rw [jv]; exact congrArg Tr.of Zd6
theorem ZfJ (s:Shp):ef dZ s.d (.int 6)=.ret (.int s.lost):=by unfold Shp.d; rw [jv]; exact congrArg Tr.of Zd5
section
variable (s:Shp)
noncomputable def Shp.nx (y f:Int):Int:=fP (y - f) (-s.depth)
noncomputable def Shp.day (y f:Int):Int:=(if s.nx y f > 0 then s.keep * s.nx y f else s.lack * -s.nx y f)+s.lost * (s.nx y f - (y - f))
noncomputable def Shp.ord (x y:Int):Int:=if y<=x then 0 else s.start+s.piece * (y - x)
end
theorem Zck (s:Shp) (y f:Int):-s.depth<=s.nx y f:=by unfold Shp.nx fP; split <;> omega
theorem Zcj {s:Shp} (h:s.Ok) {y f:Int} (hy:y<=s.top) (hf:0<=f):s.nx y f<=s.top:=by have:=h.t0; have:=h.d0; unfold Shp.nx fP; split <;> omega
theorem Zci {s:Shp} (h:s.Ok) {y f:Int} (h1:-s.depth<=y) (h2:y<=s.top) (hf:0<=f):nb 8 (s.nx y f):=by
 have a:=Zck s y f
 have b:=Zcj h h2 hf
 have c:=h.td
 have:=h.t0
 have:=h.d0
 exact gm (by show -256 < _; omega) (by show _ < 256; omega)
end Tw
namespace L2
open PySem PySem.Spec PyProof.Rows
variable {ρ:List Sl} {s t:List Sl->Tr Ou} {i j l:List Sl->Tr PyData} {is:List Sl->Tr (List PyData)} {k n:Nat} {x y d:PyData} {xs ys:List PyData} {sl:Sl}
theorem rb2 {α β:Type} {a:α} {f:α->Tr β}:(Tr.ret a).bind f=f a:=Eq.trans (Tr.ret_bind a f) (Eq.refl _)
theorem Zgq {lo hi:Int} {pre post:List PyData} {x:PyData} (h:f8 lo hi=pre++x::post):x=.int (lo+pre.length)/\(pre.length:Int) < hi - lo:=by
 have h1:(f8 lo hi)[pre.length]?=some x:=by rw [h]; simp
 have hl:pre.length < (f8 lo hi).length:=(List.getElem?_eq_some_iff.mp h1).1
 rw [kH] at hl
 unfold f8 jV at h1
 rw [List.map_map,List.getElem?_map,List.getElem?_range (by omega)] at h1
 refine ⟨?_,by omega⟩
 cases h1
 rfl
end L2
namespace Tw
open PySem L2
noncomputable abbrev rng (lo hi:Int):List Int:=jV lo (hi - lo).toNat
variable {α:Type}
noncomputable def f3 (lo a b c:Int) (t:Int->Int->Int->Option α):Option α:=(rng lo a).findSome? λu=>(rng (u+1) b).findSome? λv=>(rng (v+1) c).findSome? λw=>t u v w
structure Shp.Dr (s:Shp):Prop where
 t0:0<=s.top
 d0:0<=s.depth
 td:s.top+s.depth<=39
 p:∀ n∈[s.start,s.piece,s.keep,s.lack,s.lost,s.back,s.late],0<=n/\n<=1000000
theorem Shp.Dr.ok {s:Shp} (h:s.Dr):s.Ok:=by
 have hp:=h.p
 simp only [List.mem_cons,List.not_mem_nil,or_false,forall_eq_or_imp,forall_eq] at hp
 obtain ⟨h1,h2,h3,h4,h5,h6,h7⟩:=hp
 have k:∀ n:Int,0<=n/\n<=1000000->nb 45 n:=λn hn=>gm (by show -35184372088832 < _; omega) (by show _ < 35184372088832; omega)
 exact ⟨h.t0,h.d0,by have:=h.td; omega,h1.1,k _ h1,k _ h2,k _ h3,k _ h4,k _ h5,k _ h6,k _ h7⟩
theorem ZfI {a b c d e f g h i:Int}:PyData.tuple [.int a,.int b,.int c,.int d,.int e,.int f,.int g,.int h,.int i]=(Shp.mk a b c d e f g h i).d:=by
 unfold Shp.d
 rfl
structure Rp (d:PyData) (k n:Nat):Prop where
 hd:d.hasDict=false
 sh:d.showable=true
 dp:d.depth<=k
 ln:d.shown.length<=n
theorem Zgm {d:PyData} {k n:Nat} (h:Rp d k n) (hk:k<=32) (hn:n<=10000000):iF d=true:=by
 unfold iF
 rw [h.hd,h.sh,decide_eq_true (Nat.le_trans h.dp hk),decide_eq_true (Nat.le_trans h.ln (Nat.le_trans hn (by rw [sizeLine_eq]; decide)))]
 rfl
theorem Zbm {d:PyData} {k n k' n':Nat} (h:Rp d k n) (hk:k<=k') (hn:n<=n'):Rp d k' n':=⟨h.hd,h.sh,Nat.le_trans h.dp hk,Nat.le_trans h.ln hn⟩
theorem nh {i:Int} (h:nb 1900 i):Rp (.int i) 0 1901:=by
 have h1:=ZaL [i] λn hn=>by simp at hn; subst hn; exact h
 have h2:=(ZaK [i] λn hn=>by simp at hn; subst hn; exact h).1
 refine ⟨rfl,?_,Nat.zero_le _,?_⟩
 ·simp only [List.map_cons,List.map_nil,PyData.showableAll,Bool.and_true] at h1
  exact h1
 ·simp only [List.map_cons,List.map_nil,PyData.shownAll,List.sum_cons,List.sum_nil,List.length_cons,List.length_nil] at h2
  omega
theorem qg {k n:Nat}:∀ {xs:List PyData},(∀ x∈xs,Rp x k n)->PyData.hasDictAll xs=false/\PyData.showableAll xs=true/\PyData.depthAll xs<=k/\((PyData.shownAll xs).map (·.length)).sum<=xs.length * n/\(PyData.shownAll xs).length=xs.length
 | [],_=>⟨rfl,rfl,Nat.zero_le _,by simp [PyData.shownAll],rfl⟩
 | x::xs,h=>by
  obtain ⟨h1,h2,h3,h4,h5⟩:=qg (xs:=xs) λy hy=>h y (List.mem_cons_of_mem _ hy)
  have hx:=h x (by simp)
  refine ⟨?_,?_,?_,?_,?_⟩
  ·rw [PyData.hasDictAll,hx.hd,h1]; rfl
  ·rw [PyData.showableAll,hx.sh,h2]; rfl
  ·rw [PyData.depthAll]; have:=hx.dp; omega
  ·rw [PyData.shownAll,List.map_cons,List.sum_cons,List.length_cons,Nat.succ_mul]; have:=hx.ln; omega
  ·rw [PyData.shownAll,List.length_cons,List.length_cons,h5]
theorem Zgl {xs:List PyData} {k n:Nat} (h:∀ x∈xs,Rp x k n):Rp (.tuple xs) (k+1) (xs.length * n+2 * xs.length+10):=by
 obtain ⟨h1,h2,h3,h4,h5⟩:=qg h
 have c3:=tupleText_len_le (PyData.shownAll xs)
 refine ⟨?_,?_,?_,?_⟩
 ·rw [PyData.hasDict,h1]
 ·rw [PyData.showable,h2]
 ·rw [PyData.depth]; omega
 ·rw [PyData.shown]; omega
theorem Zgn {xs:List PyData} {k n:Nat} (h:∀ x∈xs,Rp x k n):Rp (.list xs) (k+1) (xs.length * n+2 * xs.length+10):=by
 obtain ⟨h1,h2,h3,h4,h5⟩:=qg h
 have c3:=listText_len_le (PyData.shownAll xs)
 refine ⟨?_,?_,?_,?_⟩
 ·rw [PyData.hasDict,h1]
 ·rw [PyData.showable,h2]
 ·rw [PyData.depth]; omega
 ·rw [PyData.shown]; omega
theorem Zaz (x:Str):(x == x)=true:=by simp
noncomputable def pr (p:Int×Int):List Int:=[p.1,p.2]
end Tw
namespace L2
open PySem PySem.Spec PyProof.Rows
noncomputable def Zb2 (c:Addr) (at' left:Int):HO:=.lst [.ref c,.int at',.int left]
structure Pen2 (H:Hp) (p c:Addr) (ns:List Int) (m:Nat):Prop where
 ex:∃ (k:Nat) (left:Int),H p=some (Zb2 c k left)/\k<=m/\0<=left
 cells:H c=some (.lst (ns.map V.int))
 len:ns.length<=63
 ne:c≠p
noncomputable def ZaD:Sp:=λvs H Q _=>∃ (p c:Addr) (ns:List Int) (m:Nat) (most:Int),vs=[.ref p,.int most]/\Pen2 H p c ns m/\m<=500000/\0 < most/\most < 1073741824 /\
 ∀ (r:Int) (H':Hp),0<=r->r < most->Pen2 H' p c ns (m+1)->Kept p H H'->Q (.int r) H'
noncomputable def ZfC (K:PySem.W.Frag):Sp:=λvs H Q _=>∃ (a:Addr) (ns:List Int),vs=[.ref a]/\SqL K H a (ns.map V.int)/\ns.length<=63 /\
 ∀ (p c:Addr) (H':Hp),H p=none->Pen2 H' p c ns 0->Same H H'->Q (.ref p) H'
noncomputable def d8 (cn:Addr×List Int):Pk where
 is:=λo G m=>∃ (k:Nat) (left:Int),o=Zb2 cn.1 k left/\k<=m/\0<=left/\G cn.1=some (.lst (cn.2.map V.int))/\cn.2.length<=63
 mono:=λs ⟨k,left,e,h1,h2,h3,h4⟩=>⟨k,left,e,h1,h2,s _ _ h3,h4⟩
 nch:=λ⟨_,_,e,_⟩=>by subst e; rfl
theorem ZgO {ι:Type} {X:Cx} {e:List Stmt} {t:ι->TS} (h:∀ i,PSs X e (t i)):PSs X e (λD σ H=>∃ i,t i D σ H):=λpins s σ H D I z=>by
 obtain ⟨i,z⟩:=z
 exact h i pins s σ H D I z
noncomputable def nU:List Sl->Tr Re:=λas=>match as with
 | [.pen,.d (.int most)]=>.draw most λr=>.ret (.d (.int r))
 | _=>.fail
theorem Zdk {as:List Sl} {m:Ms} {Z:Ms->Re->Prop} (h:(nU as).ok m Z):∃ most,as=[.pen,.d (.int most)]:=by
 unfold nU at h
 split at h
 ·exact ⟨_,rfl⟩
 ·exact h.elim
theorem ZlK {cn:Addr×List Int} {P:Program} {w:World} {K:PySem.W.Frag} {mg:Str->Option Value} {base:Heap} {x:Str} {k:Nat} {ps:List Str} (hp:ps.length=2) (C:Callee P w K mg base x k ps ZaD):ACal (d8 cn) P w K mg base x k ps nU:=by
 refine ⟨?_,λas m Z h=>by obtain ⟨most,rfl⟩:=Zdk h; exact hp.symm⟩
 obtain ⟨f,fd,F,hm,hk,hb⟩:=C.ex
 refine ⟨f,fd,F.imp λvs H Q E h=>?_,hm,hk,hb⟩
 obtain ⟨hv,pa,m,G,as,wd,ar,z⟩:=h
 obtain ⟨most,rfl⟩:=Zdk z
 obtain ⟨h1,h2,h3,h4⟩:=z
 cases ar with
 | cons a1 ar =>
  cases ar with
  | cons a2 ar =>
   cases ar
   cases a1
   cases a2 with
   | d d2 =>
    cases d2
    obtain ⟨c,ns⟩:=cn
    obtain ⟨o,ho,kk,left,rfl,q1,q2,q3,q4⟩:=wd.pen
    replace q3:G c=some (.lst (ns.map V.int)):=q3
    have ncp:c≠pa:=λz=>by rw [z,wd.gpa] at q3; cases q3
    refine ⟨pa,c,ns,m.n,most,rfl,⟨⟨kk,left,ho,q1,q2⟩,wd.sub _ _ q3,q4,ncp⟩,by omega,h2,h3,λr H' r0 r1 P' K'=>?_⟩
    obtain ⟨⟨k2,l2,e2,g1,g2⟩,_,_,_⟩:=P'
    exact h4 r r0 r1 (.int r) G H' (.of (λ_ _ q=>q) (λ_ _ q=>.inl q) (λb o e n=>K' b o e n) λo h=>⟨_,e2,λk=>by rw [wd.pnch h] at k; cases k⟩) ⟨λb o e=>K' b o (wd.sub b o e) (λz=>by subst z; rw [wd.gpa] at e; cases e),wd.gpa,⟨_,e2,k2,l2,rfl,g1,g2,q3,q4⟩,wd.sto.same λb o h hb=>K' b o h λz=>by subst z; rw [wd.pnch h] at hb; cases hb⟩ (.int r)
noncomputable def iK (h:Heap) (fs:List Addr):Heap:=⟨h.objs.mapIdx λi o=>if i∈fs then { o with data:=.freed } else o,h.life⟩
theorem nE {h:Heap} {fs:List Addr} {b:Addr} (hb:b∈fs):(iK h fs).get? b=none:=by
 unfold iK Heap.get?
 simp only [Array.getElem?_mapIdx]
 cases h.objs[b]? with
 | none=>rfl
 | some o=>simp [hb]
theorem jl {h:Heap} {fs:List Addr} {b:Addr} (hb:b ∉ fs):(iK h fs).get? b=h.get? b:=by
 unfold iK Heap.get?
 simp only [Array.getElem?_mapIdx]
 cases h.objs[b]? with
 | none=>rfl
 | some o=>simp [hb]
theorem Zcn (h:Heap) (fs:List Addr):(iK h fs).StaysIn h:=λb o e=>by
 by_cases hb:b∈fs
 ·rw [nE hb] at e; cases e
 ·rw [jl hb] at e; exact e
theorem ffr {h base:Heap} {l:List Env} (hl:h.FunFrames base l) (fs:List Addr) (hf:∀ b∈frs l,b∈fs):h.FunFrames (iK h fs) l:=by
 induction l with
 | nil=>trivial
 | cons env rest ih =>
  obtain ⟨hk,⟨L,o,he,hn,ho,hd⟩,hr⟩:=hl
  have hm:∀ b∈frs rest,b∈frs (env::rest):=λb hb=>by
   unfold frs at hb ⊢
   rw [List.filterMap_cons,he]
   exact List.mem_cons_of_mem _ hb
  refine ⟨hk,⟨L,o,he,nE (hf L ?_),ho,hd⟩,ih hr λb hb=>hf b (hm b hb)⟩
  unfold frs
  rw [List.filterMap_cons,he]
  exact List.mem_cons_self
theorem HOk.tracked {P:Program} {w:World} {H:Hp} {h h':Heap} (x:HOk P w H h) (k:∀ b u,H b≠none->h.get? b=some u->h'.get? b=some u):HOk P w H h':=λa o e =>
 (x a o e).stay (λb u hb q=>k b u (λz=>by rcases hb with r | r <;> (first | (subst r; rw [z] at e; cases e) | (rw [z] at r; cases r))) q) (λ_ q=>q) (λ_ _ q=>q) λ_ _ _ _ q _=>q
theorem ObjOk.get {P:Program} {w:World} {H:Hp} {h:Heap} {a:Addr} {o:HO} (x:ObjOk P w H h a o):∃ u,h.get? a=some u:=by
 induction o with
 | lst xs=>obtain ⟨_,_,_,_,e⟩:=x; exact ⟨_,e⟩
 | tup xs=>obtain ⟨_,_,_,ob,e,_⟩:=x; exact ⟨_,e⟩
 | dK kvs=>obtain ⟨_,_,_,_,o,_,_,e,_⟩:=x; exact ⟨_,e⟩
 | dT kvs=>obtain ⟨_,_,_,_,o,_,_,e,_⟩:=x; exact ⟨_,e⟩
 | set S n=>obtain ⟨o,_,_,_,e,_⟩:=x; exact ⟨_,e⟩
 | ins C dx fs=>obtain ⟨_,_,_,e,_⟩:=x; exact ⟨_,e⟩
 | own y=>obtain ⟨_,e⟩:=x; exact ⟨_,e⟩
 | xd fs=>obtain ⟨_,⟨_,_,_,e,_⟩,_⟩:=x; exact ⟨_,e⟩
 | rng lo hi=>obtain ⟨_,_,_,e⟩:=x; exact ⟨_,e⟩
 | frz ob u _=>obtain ⟨e,_⟩:=x; exact ⟨_,e⟩
 | tbl ps=>exact ⟨_,(show h.get? a=some _ from x)⟩
 | met f y=>exact ⟨_,(show h.get? a=some _ from x)⟩
 | ext φ=>obtain ⟨_,⟨_,e⟩,_⟩:=x; exact ⟨_,e⟩
 | cod ps=>obtain ⟨_,e,_⟩:=x; exact ⟨_,e⟩
 | chg u ih=>exact ih x
noncomputable def CXE (P:Program) (w:World):gA:=λouter H s E e s'=>∃ (ea t:Addr) (cls:Value) (b':Heap) (H':Hp),e=.ref ea/\s'.os=s.os/\AllBare s'.gens/\Un (frs outer) [] H H' s.heap s'.heap/\HOk P w H' s'.heap /\
 Heap.FlyingW b' outer ea cls (.ref t) s'.heap/\(∀ b o,s.heap.get? b=some o->b ∉ frs outer->∃ o',b'.get? b=some o')/\(∀ b,H' b≠none->∃ o',b'.get? b=some o')/\E cls none H'
theorem ZgC {P:Program} {w:World} {K:PySem.W.Frag} {mg:Str->Option Value} {base:Heap} {N:List Str} {qual:Str} {scope:Scope} {f:Addr} {cd:Value} {A:Around} {outer:List Env} {s₀:Shared} {H₀:Hp} {E:XK}
  {pins:List (Addr×Obj)} {σ:St} {H:Hp} {s:Shared} {h':Heap} {e:Addr} {cls:Value} {args:List Value}
  (I:Inv (fq (CXE P w) P w K mg base N qual scope f cd A outer s₀ H₀ E) pins σ H s) (hx:Heap.MadeExcOf s.heap h' e cls args) (hE:E cls none H) :
  (fq (CXE P w) P w K mg base N qual scope f cd A outer s₀ H₀ E).xe (.ref e) { s with heap:=h' }:=by
 let X:=fq (CXE P w) P w K mg base N qual scope f cd A outer s₀ H₀ E
 have hst:s.heap.FunFrames base (envOfC qual scope s₀.heap.objs.size f cd::outer):=I.stack
 have hfree:∀ b∈frs (envOfC qual scope s₀.heap.objs.size f cd::outer),H b=none:=I.stkFree
 have hfr:(A.deeper (envOfC qual scope s₀.heap.objs.size f cd)).frames=some (envOfC qual scope s₀.heap.objs.size f cd::outer):=I.ok.frames
 have hbase:Un (frs outer) [] H₀ H s₀.heap s.heap:=I.base
 obtain ⟨_,⟨L,oL,hL,_,hoL,_⟩,_⟩:=id hst
 have hLe:L=s₀.heap.objs.size:=(Option.some.inj hL).symm
 have hfs:∀ b,b∈frs (envOfC qual scope s₀.heap.objs.size f cd::outer) ↔ b=L\/b∈frs outer:=λb=>by
  unfold frs
  rw [List.filterMap_cons,hL]
  exact List.mem_cons
 show wpAny (model P w) (A.deeper (envOfC qual scope s₀.heap.objs.size f cd)) (leaving (envOfC qual scope s₀.heap.objs.size f cd) (.ref e)) (λ_ s''=>CXE P w outer H₀ s₀ E (.ref e) s'') (λe' s''=>CXE P w outer H₀ s₀ E e' s'') { s with heap:=h' }
 refine wpAny_leaves_madeW (s:={ s with heap:=h' }) (base:=iK s.heap (frs (envOfC qual scope s₀.heap.objs.size f cd::outer))) hfr hL (Zcn _ _) (ffr hst _ λb hb=>hb) hx λh'' t fl tup tn ups=>?_
 have stay:∀ b o,s.heap.get? b=some o->b ∉ frs (envOfC qual scope s₀.heap.objs.size f cd::outer)->h''.get? b=some o:=λb o hb hn=>fl.1 b o (by rw [jl hn]; exact hb)
 have slot:∀ b o,s.heap.get? b=some o->b∈frs (envOfC qual scope s₀.heap.objs.size f cd::outer)->∃ sl,h''.get? b=some { o with slots:=sl }:=λb o hb hn=>by
  obtain ⟨_,o',ho',hd⟩:=hst.mem hn
  rw [hb] at ho'
  cases ho'
  exact ups b o (hx.keeps b o hb) hd
 have old:∀ b o,s₀.heap.get? b=some o->b≠L:=λb o hb z=>by
  have:=Heap.lt_size hb
  rw [z,hLe] at this
  exact absurd this (Nat.lt_irrefl _)
 have un:Un (frs outer) [] H₀ H s₀.heap h'':=by
  refine ⟨λb o hb hn hf hx=>?_,λb o hb hn hf hx=>?_,hbase.free,λb o hb hx=>?_,hbase.tups,hbase.frzs,hbase.tbls⟩
  ·exact stay b o (hbase.keep b o hb hn hf hx) λz=>((hfs b).mp z).elim (old b o hb) hf
  ·obtain ⟨sl,e1⟩:=hbase.slot b o hb hn hf hx
   obtain ⟨gR,e2⟩:=slot b _ e1 ((hfs b).mpr (.inr hf))
   exact ⟨gR,e2⟩
  ·obtain ⟨o',e1⟩:=hbase.there b o hb hx
   by_cases hq:b∈frs (envOfC qual scope s₀.heap.objs.size f cd::outer)
   ·obtain ⟨gR,e2⟩:=slot b _ e1 hq
    exact ⟨_,e2⟩
   ·exact ⟨o',stay b o' e1 hq⟩
 refine ⟨e,t,cls,_,H,rfl,I.os,I.bare,un,HOk.tracked I.hok λb u hb q=>stay b u q λz=>hb (hfree b z),fl,λb o hb hf=>?_,λb hb=>?_,hE⟩
 ·obtain ⟨o',e1⟩:=hbase.there b o hb (by simp)
  exact ⟨o',by rw [jl λz=>((hfs b).mp z).elim (old b o hb) hf]; exact e1⟩
 ·cases e1:H b with
  | none=>exact absurd e1 hb
  | some u =>
   obtain ⟨o',e2⟩:=(I.hok b u e1).get
   exact ⟨o',by rw [jl λz=>hb (hfree b z)]; exact e2⟩
theorem rebase {b' h:Heap} {l:List Env} {e:Addr} {cls a0:Value} (x:Heap.FlyingW b' l e cls a0 h):∃ T,b'.get? T=none/\(∃ oT ts,h.get? T=some oT/\oT.data=.fields ts)/\(∃ oe vs,h.get? e=some oe/\oe.cls=cls/\oe.data=.fields vs)/\Heap.FlyingW (iK h (e::T::frs l)) l e cls a0 h:=by
 obtain ⟨f1,f2,f3,oe,vs,T,oT,ts,he,hc,hd,h1,hT,hTe,hoT,hdT,h3⟩:=x
 refine ⟨T,hT,⟨oT,ts,hoT,hdT⟩,⟨oe,vs,he,hc.1,hd⟩,Zcn _ _,nE (by simp),ffr f3 _ λb hb=>List.mem_cons_of_mem _ (List.mem_cons_of_mem _ hb),oe,vs,T,oT,ts,he,hc,hd,h1,nE (by simp),hTe,hoT,hdT,h3⟩
theorem lands {P:Program} {w:World} {A:Around} {env:Env} {outer:List Env} {L:Addr} {H:Hp} {s:Shared} {b':Heap} {e:Addr} {cls a0:Value} {Q:Unit->Shared->Prop} {E:Value->Shared->Prop}
  (hfr:A.frames=some (env::outer)) (hf:env.frame=some L) (hfl:Heap.FlyingW b' (env::outer) e cls a0 s.heap) (hok:HOk P w H s.heap) (hst:∀ b∈frs (env::outer),H b=none) (ht:∀ b,H b≠none->∃ o',b'.get? b=some o')
  (k:∀ h' T,b'.get? T=none->T ∉ frs (env::outer)->Un (frs (env::outer)) [e,T] H H s.heap h'->HOk P w H h'->Heap.FlyingW (iK s.heap (e::T::frs (env::outer))) (env::outer) e cls a0 h'->Q () { s with heap:=h' }) :
  wpAny (model P w) A (noteFrame (.ref e) env) (λ_ s₂=>wpAny (model P w) A (setFlight (.ref e) none) Q E s₂) E s:=by
 obtain ⟨T,hT,⟨oT,ts,hoT,hdT⟩,⟨oe,vs,hoe,hoc,hod⟩,fl⟩:=rebase hfl
 have nof:∀ {b:Addr} {o:Obj} {us:Array Value},s.heap.get? b=some o->o.data=.fields us->b ∉ frs (env::outer):=λ{b o us} h1 h2 z=>by
  obtain ⟨_,o',ho',hd⟩:=hfl.2.2.1.mem z
  rw [h1] at ho'
  cases ho'
  exact hd us h2
 refine wpAny_looks_onW hfr hf fl λh₄ held ups₄=>?_
 refine wpAny_landsW held λh₅ fl₅ ups₅=>?_
 have ups:=ups₄.trans ups₅
 have stay:∀ b o,s.heap.get? b=some o->b ∉ frs (env::outer)->b ∉ [e,T]->h₅.get? b=some o:=λb o hb hn hx=>fl₅.1 b o (by
  rw [jl]
  ·exact hb
  ·intro z
   rcases List.mem_cons.mp z with z | z
   ·exact hx (by simp [z])
   ·rcases List.mem_cons.mp z with z | z
    ·exact hx (by simp [z])
    ·exact hn z)
 have slot:∀ b o,s.heap.get? b=some o->b∈frs (env::outer)->∃ sl,h₅.get? b=some { o with slots:=sl }:=λb o hb hn=>by
  obtain ⟨_,o',ho',hd⟩:=hfl.2.2.1.mem hn
  rw [hb] at ho'
  cases ho'
  exact ups b o hb hd
 have non:∀ b,b'.get? b=none->H b=none:=λb hb=>by
  cases e1:H b with
  | none=>rfl
  | some u =>
   obtain ⟨o',e2⟩:=ht b (by rw [e1]; simp)
   rw [hb] at e2; cases e2
 have he:H e=none:=non e hfl.2.1
 have hTn:H T=none:=non T hT
 refine k h₅ T hT (nof hoT hdT) ⟨λb o hb hn hf hx=>stay b o hb hf hx,λb o hb hn hf hx=>slot b o hb hf,λb o hb hn hx=>hn,λb o hb hx=>?_,λ_ _ z=>z,λ_ _ _ z=>z,λb ps z=>⟨#[],by rw [z,Array.append_empty]⟩⟩
  (HOk.tracked hok λb u hb q=>stay b u q (λz=>hb (hst b z)) λz=>?_) fl₅
 ·by_cases hq:b∈frs (env::outer)
  ·obtain ⟨sl,e1⟩:=slot b o hb hq
   exact ⟨_,e1⟩
  ·exact ⟨o,stay b o hb hq hx⟩
 ·rcases List.mem_cons.mp z with z | z
  ·subst z; exact hb he
  ·rcases List.mem_cons.mp z with z | z
   ·subst z; exact hb hTn
   ·cases z
structure Xcl (K:PySem.W.Frag) (C:Addr) (bmB:List Value) (newId:String):Prop where
 ex:∃ (nm q:Str) (N:Addr) (bs bm:List Value) (hdct:Bool) (sn:List Str) (sub:List Value) (ab:Bool) (col:Option Bool) (dd:Option Addr) (k0 k1 k2 k3 k5:Option Value) (mN:Str->Option Value),
  K.lookup C=some (excClassObj nm q C N bs bm hdct sn sub ab col dd k0 k1 k2 k3 k5 newId)/\(∀ h:Heap,K.In h->h.Ns N mN/\OwnTail h bmB bm)/\mN "__init__"=none/\bm.contains (.type "BaseException")=true
theorem ZgB {X:Cx} {pins:List (Addr×Obj)} {σ:St} {H:Hp} {s:Shared} {x:Str} {np cpos pos:Pos} {arg:Expr} {C:Addr} {B newId initId:String} {bmB:List Value} {t:TE} {Q:Flow->Shared->Prop}
  (F:ExcBaseFacts B newId initId bmB) (c:Xcl X.K C bmB newId) (hg:Gl X x) (hm:X.mg x=some (.ref C)) (hc:X.calm=true) (ha:PE X arg t) (I:Inv X pins σ H s)
  (h:t σ H λv H1=>∀ s1 h' e args,Inv X pins σ H1 s1->Heap.MadeExcOf s1.heap h' e (.ref C) args->X.xe (.ref e) { s1 with heap:=h' })
  (hs:starEach [arg] X.env=[(false,eval arg X.env)]:=by rfl) (hdb:(x == ("__debug__":Str))=false:=by decide) :
  wpAny (model X.prog X.w) X.A (exec (.Raise (some (.Call (.Name x np) [arg] [] cpos)) none pos) X.env) Q X.xe s:=by
 obtain ⟨nm,q,N,bs,bm,hdct,sn,sub,ab,col,dd,k0,k1,k2,k3,k5,mN,lk,hn,hni,hb⟩:=c.ex
 refine wpAny_Raise_call_subT (C:=C) (nm:=nm) (q:=q) (N:=N) (bs:=bs) (bm:=bm) (hdct:=hdct) (sn:=sn) (sub:=sub) (ab:=ab) (col:=col) (dd:=dd) (k0:=k0) (k1:=k1) (k2:=k2) (k3:=k3) (k5:=k5) (mN:=mN) F hb (I.ok.hd hc) (by rw [hs]; rfl) hni ?_
 refine k9 I hg hm ⟨rfl,?_⟩ (hd:=hdb)
 rw [hs]
 refine Calls.evalArgs_plain (Calls.spliced_cons (thn (ha pins s σ H _ I h) λu s1 hz0=>Calls.spliced_nil ?_))
 obtain ⟨v,H1,I1,r1,z⟩:=hz0
 have KX:X.K.In s1.heap:=I1.kIn
 exact ⟨rfl,by show 1<=sizeLine; decide,KX _ _ lk,(hn _ KX).1,(hn _ KX).2,λh' e hx=>z s1 h' e _ I1 hx⟩
theorem nr {P:Program} {w:World} {K:PySem.W.Frag} {mg:Str->Option Value} {base:Heap} {N:List Str} {qual:Str} {scope:Scope} {f:Addr} {cd:Value} {A:Around} {outer:List Env} {s₀:Shared} {H₀:Hp} {E:XK}
  {x msg:Str} {np cpos pos mp:Pos} {mk:Nat} {C:Addr} {B newId initId:String} {bmB:List Value}
  (F:ExcBaseFacts B newId initId bmB) (c:Xcl K C bmB newId) (hg:Gl (fq (CXE P w) P w K mg base N qual scope f cd A outer s₀ H₀ E) x) (hm:mg x=some (.ref C)) (hdb:(x == ("__debug__":Str))=false:=by decide) :
  PS (fq (CXE P w) P w K mg base N qual scope f cd A outer s₀ H₀ E) (.Raise (some (.Call (.Name x np) [.Constant (.str msg) mk mp] [] cpos)) none pos) (λ_ _ H=>E (.ref C) none H):=by
 intro pins s σ H D I h
 exact ZgB F c hg hm rfl fS I (λs1 h' e args I1 hx=>ZgC I1 hx h) rfl hdb
theorem Un.skip {fs ex:List Addr} {H H1 H2:Hp} {h h1 h2:Heap} (a:Un fs [] H H1 h h1) (b:Un fs ex H1 H2 h1 h2) (hx:∀ c∈ex,h.get? c=none):Un fs [] H H2 h h2:=by
 have no:∀ {c:Addr} {o:Obj},h.get? c=some o->c ∉ ex:=λ{c o} e z=>by rw [hx c z] at e; cases e
 refine ⟨λc o e n f _=>?_,λc o e n f _=>?_,λc o e n _=>?_,λc o e _=>?_,λc xs e=>b.tups c xs (a.tups c xs e),λc o u e=>b.frzs c o u (a.frzs c o u e),λc ps e=>?_⟩
 ·exact b.keep c o (a.keep c o e n f (by simp)) (a.free c o e n (by simp)) f (no e)
 ·obtain ⟨sl,e1⟩:=a.slot c o e n f (by simp)
  obtain ⟨gR,e2⟩:=b.slot c _ e1 (a.free c o e n (by simp)) f (no e)
  exact ⟨gR,e2⟩
 ·obtain ⟨o',e1⟩:=a.there c o e (by simp)
  exact b.free c o' e1 (a.free c o e n (by simp)) (no e)
 ·obtain ⟨o',e1⟩:=a.there c o e (by simp)
  exact b.there c o' e1 (no e)
 ·obtain ⟨m1,e1⟩:=a.tbls c ps e
  obtain ⟨m2,e2⟩:=b.tbls c _ e1
  exact ⟨m1++m2,by rw [e2,Array.append_assoc]⟩
theorem ZdD {X:Cx} {pins:List (Addr×Obj)} {σ:St} {H:Hp} {s s':Shared} {E:XK} {e:Value} {outer:List Env} {L:Addr} {Q:Unit->Shared->Prop} {EE:Value->Shared->Prop}
  (I:Inv X pins σ H s) (hstk:X.stack=X.env::outer) (hL:X.env.frame=some L) (hq:CXE X.prog X.w X.stack H s E e s')
  (k:∀ (ea:Addr) (cls:Value) (H':Hp) (h':Heap),e=.ref ea->Inv X pins σ H' { s' with heap:=h' }->H' ea=none->(∃ oe,h'.get? ea=some oe/\oe.cls=cls)->(∃ b'' t,Heap.FlyingW b'' X.stack ea cls (.ref t) h'/\(∀ c,b''.get? c=none->c ∉ frs X.stack->s.heap.get? c=none)/\∀ b,H' b≠none->∃ o',b''.get? b=some o')->Un (frs X.stack) [] H H' s.heap h'->E cls none H'->Q () { s' with heap:=h' }) :
  wpAny (model X.prog X.w) X.A (noteFrame e X.env) (λ_ s₂=>wpAny (model X.prog X.w) X.A (setFlight e none) Q EE s₂) EE s':=by
 obtain ⟨ea,t,cls,b',H',rfl,os,bare,un,hok,fl,hb',ht,hE⟩:=hq
 have hst:∀ b∈frs X.stack,H b=none:=I.stkFree
 have funs:s.heap.FunFrames X.base X.stack:=I.stack
 have hst':∀ b∈frs X.stack,H' b=none:=λb hb=>by
  obtain ⟨_,o,ho,_⟩:=funs.mem hb
  exact un.free b o ho (hst b hb) (by simp)
 have hfr:X.A.frames=some X.stack:=I.ok.frames
 have notin:∀ c:Addr,b'.get? c=none->c ∉ frs X.stack->s.heap.get? c=none:=λc hc hf=>by
  cases e1:s.heap.get? c with
  | none=>rfl
  | some o =>
   obtain ⟨o',e2⟩:=hb' c o e1 hf
   rw [hc] at e2; cases e2
 have hea:ea ∉ frs X.stack:=λz=>by
  obtain ⟨_,o',ho',hd⟩:=fl.2.2.1.mem z
  obtain ⟨oe,vs,e1,_,e2,_⟩:=fl.first
  rw [e1] at ho'
  cases ho'
  exact hd vs e2
 rw [hstk] at hfr fl hst' un hea notin
 refine lands hfr hL fl hok hst' ht λh₅ T hT hTf un5 hok5 fl5=>?_
 have un':=un.skip un5 λc hc=>by
  rcases List.mem_cons.mp hc with z | z
  ·subst z; exact notin c fl.2.1 hea
  ·rcases List.mem_cons.mp z with z | z
   ·subst z; exact notin c hT hTf
   ·cases z
 rw [<- hstk] at un'
 have I5:Inv X pins σ H' { s' with heap:=h₅ }:=I.call' (s':={ s' with heap:=h₅ }) os un' hok5 bare λb hb=>absurd hb (by simp)
 have he:H' ea=none:=by
  cases e1:H' ea with
  | none=>rfl
  | some u =>
   obtain ⟨o',e2⟩:=ht ea (by rw [e1]; simp)
   rw [fl.2.1] at e2; cases e2
 refine k ea cls H' h₅ rfl I5 he fl5.there ⟨_,t,by rw [hstk]; exact fl5,λc hc hf=>?_,λb hb=>?_⟩ un' hE
 rotate_left
 ·cases e1:H' b with
  | none=>exact absurd e1 hb
  | some u =>
   obtain ⟨o',e2⟩:=(hok b u e1).get
   refine ⟨o',?_⟩
   rw [jl]
   ·exact e2
   ·intro z
    rcases List.mem_cons.mp z with z | z
    ·subst z; exact hb he
    ·rcases List.mem_cons.mp z with z | z
     ·subst z
      obtain ⟨o3,e3⟩:=ht b hb
      rw [hT] at e3; cases e3
     ·exact hb (hst' b z)
 by_cases h1:c=ea
 ·subst h1; exact notin c fl.2.1 hea
 ·by_cases h2:c=T
  ·subst h2; exact notin c hT hTf
  ·rw [jl (λz=>by
    rcases List.mem_cons.mp z with z | z
    ·exact h1 z
    ·rcases List.mem_cons.mp z with z | z
     ·exact h2 z
     ·rw [hstk] at hf; exact hf z)] at hc
   cases e1:s.heap.get? c with
   | none=>rfl
   | some o =>
    obtain ⟨o',e2⟩:=un.there c o e1 (by simp)
    rw [hc] at e2; cases e2
end L2
namespace L2
open PySem PySem.Spec PySem.Calls PyProof.Rows
section
variable {M:Model} {A:Around} {E:Value->Shared->Prop}
variable {nm q:Str} {C N:Addr} {bs bm:List Value} {hdct:Bool} {sn:List Str} {sub:List Value} {ab:Bool} {col:Option Bool} {dd:Option Addr} {k0 k1 k2 k3 k5:Option Value} {newId:String}
variable {nm' q':Str} {D N':Addr} {bs' bm':List Value} {hdct':Bool} {sn':List Str} {sub':List Value} {ab':Bool} {col':Option Bool} {dd':Option Addr} {j0 j1 j2 j3 j5:Option Value} {newId':String}
theorem Zjl {h:Heap} {g:Array GenState} {d:Drawn} {t:Nat} {os:OsState} {e:Addr} {oe:Obj} {Q:Bool->Shared->Prop}
  (hC:h.get? C=some (excClassObj nm q C N bs bm hdct sn sub ab col dd k0 k1 k2 k3 k5 newId)) (hD:h.get? D=some (excClassObj nm' q' D N' bs' bm' hdct' sn' sub' ab' col' dd' j0 j1 j2 j3 j5 newId')) (he:h.get? e=some oe) (hcls:oe.cls=.ref C)
  (hbase:bm'.contains (.type "BaseException")=true) (hin:bm.contains (.ref D)=true)
  (hq:Q true ⟨h,g,d,t,os⟩):wpAny M A (excMatches (.ref e) (.ref D)) Q E ⟨h,g,d,t,os⟩:=by
 have hcB:(Value.ref D::bm').contains (.type "BaseException")=true:=by rw [List.contains_cons,hbase,Bool.or_true]
 have hcC:(Value.ref C::bm).contains (.ref D)=true:=by rw [List.contains_cons,hin,Bool.or_true]
 have f:=tc_notTuple
 unfold excMatches
 repeat (first | (with_reducible refine wpAny_loadPart_at he ?_; rw [hcls]) | with_reducible refine wpAny_loadPart_at hD ?_ | (with_reducible refine wpAny_isSubtype_exc hD ?_; rw [hcB]) | (with_reducible refine wpAny_isSubtype_exc hC ?_; rw [hcC]) | wp_step)
 exact hq
end
section
variable {prog:Program} {w:World} {A:Around} {E:Value->Shared->Prop} {s:Shared} {env:Env}
theorem ZiX {e C D:Addr} {t:Expr} {n:Str} {b₀:Stmt} {suite:List Stmt} {pos:Pos} {rest:List ExceptHandler} {Q:Flow->Shared->Prop}
  {nm q:Str} {N:Addr} {bs bm:List Value} {hdct:Bool} {sn:List Str} {sub:List Value} {ab:Bool} {col:Option Bool} {dd:Option Addr} {k0 k1 k2 k3 k5:Option Value} {newId:String}
  {nm' q':Str} {N':Addr} {bs' bm':List Value} {hdct':Bool} {sn':List Str} {sub':List Value} {ab':Bool} {col':Option Bool} {dd':Option Addr} {j0 j1 j2 j3 j5:Option Value} {newId':String}
  (hbase:bm'.contains (.type "BaseException")=true) (hin:bm.contains (.ref D)=true)
  (h:wpAny (model prog w) (A.mark (some (.ref e))) (eval t env) (λc s₁=>c=.ref D/\s₁.heap.get? C=some (excClassObj nm q C N bs bm hdct sn sub ab col dd k0 k1 k2 k3 k5 newId)/\s₁.heap.get? D=some (excClassObj nm' q' D N' bs' bm' hdct' sn' sub' ab' col' dd' j0 j1 j2 j3 j5 newId')/\(∃ oe,s₁.heap.get? e=some oe/\oe.cls=.ref C) /\
   wpAny (model prog w) (A.mark (some (.ref e))) (setFlight (.ref e) none) (λ_ s₂ =>
     wpAny (model prog w) (A.mark (some (.ref e))) (storeName env n (.ref e)) (λ_ s₃ =>
      wpAny (model prog w) (A.mark (some (.ref e))) (execs (b₀::suite) env)
       (λf s₄=>wpAny (model prog w) A (do bindName env n .none; unbindBehindTheSuite env n pos) (λ_ s₅=>Q f s₅) E s₄)
       (AsSuiteRaised (model prog w) (A.mark (some (.ref e))) env n pos (notedBy (model prog w) (A.mark (some (.ref e))) env (cameBackBy (model prog w) A env E))) s₃) (notedBy (model prog w) (A.mark (some (.ref e))) env (cameBackBy (model prog w) A env E)) s₂) (notedBy (model prog w) (A.mark (some (.ref e))) env (cameBackBy (model prog w) A env E)) s₁) (notedBy (model prog w) (A.mark (some (.ref e))) env (cameBackBy (model prog w) A env E)) s) :
  wpAny (model prog w) A (handleBy (.ref e) env (.ExceptHandler (some t) (some n) (b₀::suite) pos::rest)) Q E s:=by
 refine wpAny_handleBy_cons (codeAny_handlers_test (wpAny_mono h (λc s₁ h₁=>?_) λ_ _ y=>y)) (by intro q; cases q)
 obtain ⟨rfl,hC,hD,⟨oe,he,hcls⟩,hk⟩:=h₁
 obtain ⟨hh,g,d,tk,os⟩:=s₁
 exact Zjl hC hD he hcls hbase hin (codeAny_handlers_suite_as hk)
end
end L2
namespace L2
open PySem PySem.Spec PyProof.Rows
section
variable {X:Cx} {pins:List (Addr×Obj)} {σ:St} {H:Hp} {s:Shared}
theorem Zih {A:Around} {E:Value->Shared->Prop} {x:Str} {u:Value} {pos:Pos} {Q:Value->Shared->Prop} (I:Inv X pins σ H s) (hg:Gl X x) (hm:X.mg x=some u) (h:Q u s)
  (hd:(x == ("__debug__":Str))=false:=by decide):wpAny (model X.prog X.w) A (eval (.Name x pos) X.env) Q E s :=
 Calls.Name_function_global I.ok.kind hg (Calls.loadGlobal_global (by rw [I.ok.glob]; exact I.mod.glob.keeps I.bk) hm h) hd
theorem ZhQ {M:Model} {A:Around} {E:Value->Shared->Prop} {i:Nat} {x:Str} {pos:Pos} {Q:Unit->Shared->Prop} (I:Inv X pins σ H s) (hN:X.N.Nodup) (hi:X.N[i]?=some x) (hk:X.env.kindOf x=some .local)
  (h:∀ s',Inv X pins (σ.set i none) H s'->Q () s'):wpAny M A (do bindName X.env x .none; unbindBehindTheSuite X.env x pos) Q E s:=by
 obtain ⟨m,hn,hl⟩:=id I.loc
 have hcls:(X.env.scope.kind == .class || (X.env.scope.kind == .module && X.env.locals != X.env.globals))=false:=by rw [I.ok.kind]; rfl
 have hiσ:i < σ.length:=by rw [I.len]; exact (List.getElem?_eq_some_iff.mp hi).1
 have cne:=I.cne
 have tracked:∀ {a:Addr} {h':Heap},(∃ o,s.heap.get? a=some o/\H a=none)->Heap.SameBut a s.heap h'->HOk X.prog X.w H h':=λ{a h'} ha hs b ob e=>by
  obtain ⟨_,_,hfree⟩:=ha
  refine (I.hok b ob e).stay (λc w' hc q=>(hs.2 c ?_).trans q) (λ_ q=>q) (λ_ _ q=>q) λ_ _ _ _ q _=>q
  rintro rfl
  rcases hc with rfl | hc
  ·rw [hfree] at e; cases e
  ·rw [hfree] at hc; cases hc
 refine wpAny_nameGoes_keeps hk hn hcls λh' v hn' hs=>?_
 obtain ⟨oL,_,_,hoL,_⟩:=id hn
 refine h _ ⟨I.ok,I.os,I.bare,⟨λb o e n hb hx=>?_,λb o e n hb hx=>?_,I.base.free,λb o e hx=>?_,I.base.tups,I.base.frzs,I.base.tbls⟩,⟨_,hn',λj y v' e1 e2 e3=>?_⟩,λy c e=>?_,I.free,I.freeC,λp hp=>?_,tracked ⟨oL,hoL,I.free⟩ hs,by simpa using I.len⟩
 ·exact (hs.2 b (Nat.ne_of_lt (Nat.lt_of_lt_of_le (Heap.lt_size e) I.ok.above))).trans (I.base.keep b o e n hb hx)
 ·obtain ⟨sl,e1⟩:=I.base.slot b o e n hb hx
  exact ⟨sl,(hs.2 b (Nat.ne_of_lt (Nat.lt_of_lt_of_le (Heap.lt_size e) I.ok.above))).trans e1⟩
 ·obtain ⟨o',e1⟩:=I.base.there b o e hx
  exact ⟨o',(hs.2 b (Nat.ne_of_lt (Nat.lt_of_lt_of_le (Heap.lt_size e) I.ok.above))).trans e1⟩
 ·by_cases hj:j=i
  ·subst hj
   rw [List.getElem?_set_self hiσ] at e2
   cases e2
  ·rw [List.getElem?_set_ne (Ne.symm hj)] at e2
   obtain ⟨u',r',q⟩:=hl j y v' e1 e2 e3
   refine ⟨u',r',?_⟩
   rcases q with ⟨k,e⟩ | ⟨k,c,e,z⟩
   ·refine .inl ⟨k,?_⟩
    have:y≠x:=λe=>hj (qJ hN e1 (e ▸ hi))
    simp [this,e]
   ·exact .inr ⟨k,c,e,z.sameBut hs (cne y c e)⟩
 ·obtain ⟨w',z⟩:=I.cell y c e
  exact ⟨w',z.sameBut hs (cne y c e)⟩
 ·obtain ⟨e,n,ne,nf,d⟩:=I.pin p hp
  exact ⟨(hs.2 p.1 ne).trans e,n,ne,nf,d⟩
noncomputable def fR (e:Addr) (cls:Value) (h:Heap):Prop:=∃ oe,h.get? e=some oe/\oe.cls=cls
theorem Zip {A:Around} {H0:Hp} {s0:Shared} {b':Heap} {e t:Addr} {cls:Value} {Q:Unit->Shared->Prop} {E:Value->Shared->Prop}
  (I0:Inv X pins σ H0 s0) (I:Inv X pins σ H s) (un:Un (frs X.stack) [] H0 H s0.heap s.heap) (he:H e=none) (fl:Heap.FlyingW b' X.stack e cls (.ref t) s.heap) (hf:∀ c,b'.get? c=none->c ∉ frs X.stack->s0.heap.get? c=none)
  (hb:∀ b,H b≠none->∃ o',b'.get? b=some o') (hos:s.os=s0.os)
  (k:∀ h',Inv X pins σ (upd H e (.ext (fR e cls))) { s with heap:=h' }->Q () { s with heap:=h' }):wpAny (model X.prog X.w) A (setFlight (.ref e) none) Q E s:=by
 obtain ⟨T,hT,⟨oT,ts,hoT,hdT⟩,⟨oe,vs,hoe,hoc,hod⟩,fl'⟩:=rebase fl
 have hst:∀ b∈frs X.stack,H b=none:=I.stkFree
 have nof:∀ {b:Addr} {o:Obj} {us:Array Value},s.heap.get? b=some o->o.data=.fields us->b ∉ frs X.stack:=λ{b o us} h1 h2 z=>by
  obtain ⟨_,o',ho',hd⟩:=fl.2.2.1.mem z
  rw [h1] at ho'
  cases ho'
  exact hd us h2
 refine lands_againW fl' λh₅ fl₅ ups=>?_
 have stay:∀ b o,s.heap.get? b=some o->b ∉ frs X.stack->b ∉ [e,T]->h₅.get? b=some o:=λb o hb hn hx=>fl₅.1 b o (by
  rw [jl]
  ·exact hb
  ·intro z
   rcases List.mem_cons.mp z with z | z
   ·exact hx (by simp [z])
   ·rcases List.mem_cons.mp z with z | z
    ·exact hx (by simp [z])
    ·exact hn z)
 have slot:∀ b o,s.heap.get? b=some o->b∈frs X.stack->∃ sl,h₅.get? b=some { o with slots:=sl }:=λb o hb hn=>by
  obtain ⟨_,o',ho',hd⟩:=fl.2.2.1.mem hn
  rw [hb] at ho'
  cases ho'
  exact ups b o hb hd
 have hTn:H T=none:=by
  cases e1:H T with
  | none=>rfl
  | some u =>
   obtain ⟨o',e2⟩:=hb T (by rw [e1]; simp)
   rw [hT] at e2; cases e2
 have un5:Un (frs X.stack) [e,T] H H s.heap h₅:=⟨λb o hb hn hf hx=>stay b o hb hf hx,λb o hb hn hf hx=>slot b o hb hf,λb o hb hn hx=>hn,λb o hb hx=>by
  by_cases hq:b∈frs X.stack
  ·obtain ⟨sl,e1⟩:=slot b o hb hq
   exact ⟨_,e1⟩
  ·exact ⟨o,stay b o hb hq hx⟩,λ_ _ z=>z,λ_ _ _ z=>z,λb ps z=>⟨#[],by rw [z,Array.append_empty]⟩⟩
 have hok5:HOk X.prog X.w H h₅:=HOk.tracked I.hok λb u hb q=>stay b u q (λz=>hb (hst b z)) λz=>by
  rcases List.mem_cons.mp z with z | z
  ·subst z; exact hb he
  ·rcases List.mem_cons.mp z with z | z
   ·subst z; exact hb hTn
   ·cases z
 have un':=un.skip un5 λc hc=>by
  rcases List.mem_cons.mp hc with z | z
  ·subst z; exact hf c fl.2.1 (nof hoe hod)
  ·rcases List.mem_cons.mp z with z | z
   ·subst z; exact hf c hT (nof hoT hdT)
   ·cases z
 obtain ⟨oe5,hoe5,hoc5⟩:=fl₅.there
 have hs0:s0.heap.get? e=none:=hf e fl.2.1 (nof hoe hod)
 have ne0:∀ {b:Addr} {o:Obj},s0.heap.get? b=some o->b≠e:=λ{b o} h1 z=>by rw [z,hs0] at h1; cases h1
 have nH:∀ {b:Addr} {o:HO},H b=some o->b≠e:=λ{b o} h1 z=>by rw [z,he] at h1; cases h1
 have un2:Un (frs X.stack) [] H0 (upd H e (.ext (fR e cls))) s0.heap h₅:=⟨un'.keep,un'.slot,λb o hb hn hx=>by rw [ak (ne0 hb)]; exact un'.free b o hb hn hx,un'.there,
  λb xs z=>by rw [ak (nH (un'.tups b xs z))]; exact un'.tups b xs z,λb o u z=>by rw [ak (nH (un'.frzs b o u z))]; exact un'.frzs b o u z,λb ps z=>by
   obtain ⟨m,z⟩:=un'.tbls b ps z
   exact ⟨m,by rw [ak (nH z)]; exact z⟩⟩
 have hok2:HOk X.prog X.w (upd H e (.ext (fR e cls))) h₅:=λb o hb=>by
  by_cases hbe:b=e
  ·subst hbe
   rw [cr] at hb
   cases hb
   exact ⟨⟨oe5,hoe5,hoc5⟩,⟨oe5,hoe5⟩,λh1 h2 ⟨o1,e1,c1⟩ kk=>⟨o1,kk o1 e1,c1⟩⟩
  ·rw [ak hbe] at hb
   exact (hok5 b o hb).stay (λ_ _ _ q=>q) (λc z=>by rw [ak (nH z)]; exact z) (λc xs z=>by rw [ak (nH z)]; exact z) λc ob xs _ z _=>by rw [ak (nH z)]; exact z
 exact k h₅ (I0.call' (s':={ s with heap:=h₅ }) hos un2 hok2 I.bare λb hb=>absurd hb (by simp))
end
noncomputable abbrev Cx.marked (X:Cx) (ea:Addr):Cx:={ X with A:=X.A.mark (some (.ref ea)),calm:=false,xe:=λ_ _=>False }
theorem Inv.marked {X:Cx} {pins:List (Addr×Obj)} {σ:St} {H:Hp} {s:Shared} (I:Inv X pins σ H s) (ea:Addr):Inv (X.marked ea) pins σ H s :=
 ⟨⟨I.ok.mod,I.ok.kind,I.ok.glob,I.ok.blt,I.ok.above,I.ok.inj,I.ok.has,I.ok.cab,λz=>(by cases z),I.ok.frames,I.ok.stk,I.ok.exf,I.ok.bs,I.ok.bsz,I.ok.noex,I.ok.exfs,I.ok.funs,I.ok.frf⟩,I.os,I.bare,I.base,I.loc,I.cell,I.free,I.freeC,I.pin,I.hok,I.len⟩
theorem Inv.unmarked {X:Cx} {pins:List (Addr×Obj)} {σ:St} {H:Hp} {s:Shared} {ea:Addr} (I:Inv (X.marked ea) pins σ H s) (I0:X.Ok):Inv X pins σ H s :=
 ⟨I0,I.os,I.bare,I.base,I.loc,I.cell,I.free,I.freeC,I.pin,I.hok,I.len⟩
structure Under (K:PySem.W.Frag) (C D:Addr):Prop where
 ex:∃ (nm q:Str) (N:Addr) (bs bm:List Value) (hdct:Bool) (sn:List Str) (sub:List Value) (ab:Bool) (col:Option Bool) (dd:Option Addr) (k0 k1 k2 k3 k5:Option Value) (newId:String),K.lookup C=some (excClassObj nm q C N bs bm hdct sn sub ab col dd k0 k1 k2 k3 k5 newId)/\bm.contains (.ref D)=true
 top:∃ (nm q:Str) (N:Addr) (bs bm:List Value) (hdct:Bool) (sn:List Str) (sub:List Value) (ab:Bool) (col:Option Bool) (dd:Option Addr) (k0 k1 k2 k3 k5:Option Value) (newId:String),K.lookup D=some (excClassObj nm q D N bs bm hdct sn sub ab col dd k0 k1 k2 k3 k5 newId)/\bm.contains (.type "BaseException")=true
end L2
namespace PySem
noncomputable def clsNames:List Str:=["__getattribute__","__getattr__","__class__"]
inductive OwnTailN (h:Heap) (bmB:List Value):List Value->Prop
 | base:OwnTailN h bmB bmB
 | own {A:Addr} {c0:Value} {dd:Option Addr} {cd:ClassData} {sl:Array (Option Value)} {mA:Str->Option Value} {tl:List Value} :
   h.get? A=some { cls:=c0,dict:=dd,data:=.cls cd,slots:=sl }->h.Ns cd.ns mA->(∀ n∈clsNames,mA n=none)->OwnTailN h bmB tl->OwnTailN h bmB (.ref A::tl)
theorem OwnTailN.hasType {h:Heap} {bmB tl:List Value} (T:OwnTailN h bmB tl) {X:String} {b:Bool} (hb:bmB.contains (.type X)=b):tl.contains (.type X)=b:=by
 induction T with
 | base=>exact hb
 | own _ _ _ _ ih=>rw [List.contains_cons,ih]; rfl
section
variable {M:Model} {A:Around} {E:Value->Shared->Prop} {h:Heap} {g:Array GenState} {d:Drawn} {t:Nat} {os:OsState}
theorem wpAny_lookupAlong_tailN {bmB tl:List Value} {n:Str} {y:Option Value} {Q:Option Value->Shared->Prop} (hn:n∈clsNames) (T:OwnTailN h bmB tl) (hrest:lookupAlong bmB n=pure y) (hq:Q y ⟨h,g,d,t,os⟩) :
  wpAny M A (lookupAlong tl n) Q E ⟨h,g,d,t,os⟩:=by
 induction T with
 | base=>rw [hrest]; exact wpAny_pure hq
 | own hA hN hni _ ih =>
  rw [lookupAlong_cons]
  refine wpAny_bind (wpAny_classOwn_cls hA hN ?_)
  rw [hni n hn]
  exact ih
variable {nm q:Str} {C N:Addr} {bs bm bmB:List Value} {hdct:Bool} {sn:List Str} {sub:List Value} {ab:Bool} {col:Option Bool} {dd:Option Addr} {k0 k1 k2 k3 k5:Option Value} {B newId:String}
theorem wpAny_typeLookup_tailN {mN:Str->Option Value} {n:Str} {y:Option Value} {Q:Option Value->Shared->Prop} (hn:n∈clsNames)
  (hC:h.get? C=some (excClassObj nm q C N bs bm hdct sn sub ab col dd k0 k1 k2 k3 k5 newId)) (hN:h.Ns N mN) (hmN:∀ n∈clsNames,mN n=none) (T:OwnTailN h bmB bm) (hbm:mroOf (.type B)=pure bmB)
  (hB:typeLookup (.type B) n=pure y) (hq:Q y ⟨h,g,d,t,os⟩):wpAny M A (typeLookup (.ref C) n) Q E ⟨h,g,d,t,os⟩:=by
 have hrest:lookupAlong bmB n=pure y:=by rw [typeLookup_eq,hbm] at hB; exact hB
 rw [typeLookup_eq]
 refine wpAny_bind (wpAny_mroOf_exc hC ?_)
 rw [lookupAlong_cons]
 refine wpAny_bind (wpAny_classOwn_exc hC hN ?_)
 rw [hmN n hn]
 exact wpAny_lookupAlong_tailN hn T hrest hq
end
section
variable {prog:Program} {w:World} {A:Around} {E:Value->Shared->Prop} {h:Heap} {g:Array GenState} {d:Drawn} {t:Nat} {os:OsState} {a:Addr} {o:Obj}
 {nm q:Str} {C N:Addr} {bs bm bmB:List Value} {hdct:Bool} {sn:List Str} {sub:List Value} {ab:Bool} {col:Option Bool} {dd:Option Addr} {k0 k1 k2 k3 k5:Option Value} {B newId:String} {mN:Str->Option Value}
theorem class_get_exc {R:Result->Shared->Prop} (hC:h.get? C=some (excClassObj nm q C N bs bm hdct sn sub ab col dd k0 k1 k2 k3 k5 newId)) (hob:bm.contains (.type "object")=true)
  (hx:h.get? a=some o) (hc:o.cls=.ref C) (hq:R (.ok (.ret (.ref C))) ⟨h,g,d,t,os⟩) :
  codeAny (model prog w) A (.call (.builtin "getset_descriptor.__get__") ⟨[.builtin "object.__class__",.ref a,.ref C],[]⟩) R ⟨h,g,d,t,os⟩:=by
 have hT5:(⟨h,g,d,t,os⟩:Shared).TypeIs (.builtin "object.__class__") "getset_descriptor":=F.typeOf_object_class
 have hcB:(Value.ref C::bm).contains (.type (".".intercalate ("object.__class__".cutAt '.').dropLast))=true:=by
  rw [F.owner_object_class,List.contains_cons,hob]; rfl
 refine codeAny_call_builtin F.slot_gs_get.plain F.entry_gs_get (F.slot_gs_get.check _ _ _ _ _ _ _ _ hT5 (F.args_gs_get _ _ _) ?_)
 repeat (any_goals (first | assumption | (with_reducible refine wpAny_loadPart_at hx ?_; rw [hc]) | (with_reducible refine wpAny_isSubtype_exc hC ?_; rw [hcB]) | wp_step))
 refine ⟨Code.quiet_builtin _ (by decide +kernel),codeAny_builtin F.entry_object_class ?_⟩
 repeat (any_goals (first | assumption | (with_reducible refine wpAny_loadPart_at hx ?_; rw [hc]) | wp_step))
theorem class_entry_exc {tk:Tok} {Q:Fin->Shared->Prop} (hC:h.get? C=some (excClassObj nm q C N bs bm hdct sn sub ab col dd k0 k1 k2 k3 k5 newId)) (hob:bm.contains (.type "object")=true) (hN:h.Ns N mN)
  (hmN:∀ n∈clsNames,mN n=none) (T:OwnTailN h bmB bm) (hmro:mroOf (.type B)=pure bmB) (hlk:typeLookup (.type B) "__class__"=pure (some (.builtin "object.__class__"))) (hx:h.get? a=some o) (hc:o.cls=.ref C) (hq:Q (.done (.ret (.ref C))) ⟨h,g,d,t,os⟩) :
  wpAny (model prog w) A (Builtin.«object.__getattribute__» ⟨[.ref a,.str "__class__" tk],[]⟩) Q E ⟨h,g,d,t,os⟩:=by
 have hT5:(⟨h,g,d,t,os⟩:Shared).TypeIs (.builtin "object.__class__") "getset_descriptor":=F.typeOf_object_class
 have f5:=F.typeOf_object_class
 have f6:=F.slot_gs_get.lookup
 have f7:=F.slot_gs_set.lookup
 have hmA:("__class__":Str)∈clsNames:=.tail _ (.tail _ (.head _))
 repeat (any_goals (first | assumption | (with_reducible refine wpAny_loadPart_at hx ?_; rw [hc]) | with_reducible refine wpAny_typeLookup_tailN hmA hC hN hmN T hmro hlk ?_ | wp_step))
 refine class_get_exc hC hob hx hc ?_
 repeat (any_goals (first | assumption | wp_step))
theorem check_ga_exc {M:Model} {nameV:Value} {Q:Unit->Shared->Prop} (hC:h.get? C=some (excClassObj nm q C N bs bm hdct sn sub ab col dd k0 k1 k2 k3 k5 newId)) (hbase:bm.contains (.type "BaseException")=true)
  (hx:h.get? a=some o) (hc:o.cls=.ref C) (hq:Q () ⟨h,g,d,t,os⟩):wpAny M A (checkBuiltinCall "BaseException.__getattribute__" ⟨[.ref a,nameV],[]⟩) Q E ⟨h,g,d,t,os⟩:=by
 have hk:builtinKind "BaseException.__getattribute__"=some .slot:=by decide +kernel
 have hsplit:splitId "BaseException.__getattribute__"=some ("BaseException","__getattribute__"):=by decide +kernel
 have hcB:(Value.ref C::bm).contains (.type "BaseException")=true:=by rw [List.contains_cons,hbase]; rfl
 have ha:=F.args_bexc_ga (.ref a) nameV
 simp only [checkBuiltinCall,hk,hsplit]
 refine wpAny_bind ?_
 ·unfold isInstance
  repeat (first | (with_reducible refine wpAny_loadPart_at hx ?_; rw [hc]) | (with_reducible refine wpAny_isSubtype_exc hC ?_; rw [hcB]) | wp_step)
  exact hq
theorem class_by_exc {tk:Tok} {Q:Value->Shared->Prop} (FB:ExcAttrBase B bmB) (hC:h.get? C=some (excClassObj nm q C N bs bm hdct sn sub ab col dd k0 k1 k2 k3 k5 newId)) (hob:bmB.contains (.type "object")=true) (hN:h.Ns N mN)
  (hmN:∀ n∈clsNames,mN n=none) (T:OwnTailN h bmB bm) (hlk:typeLookup (.type B) "__class__"=pure (some (.builtin "object.__class__"))) (hx:h.get? a=some o) (hc:o.cls=.ref C) (hq:Q (.ref C) ⟨h,g,d,t,os⟩) :
  wpAny (model prog w) A (getAttrBy (.ref a) (.str "__class__" tk) false) Q E ⟨h,g,d,t,os⟩:=by
 have f3:=FB.ga.bind (.ref a)
 have hx2:(Value.builtin "BaseException.__getattribute__" == Value.builtin "object.__getattribute__")=false:=by decide +kernel
 have hx1:(onTheHeap (Value.ref C) && Value.builtin "BaseException.__getattribute__" == Value.builtin "object.__getattribute__")=false:=by rw [hx2]; rfl
 have hm1:("__getattribute__":Str)∈clsNames:=.head _
 have hm2:("__getattr__":Str)∈clsNames:=.tail _ (.head _)
 repeat (any_goals (first | assumption | (with_reducible refine wpAny_loadPart_at hx ?_; rw [hc]) | with_reducible refine wpAny_typeLookup_tailN hm1 hC hN hmN T FB.mro FB.ga.lookup ?_ | with_reducible refine wpAny_typeLookup_tailN hm2 hC hN hmN T FB.mro FB.noGetattr ?_ | wp_step))
 refine codeAny_call_builtin FB.ga.plain F.entry_bexc_ga (check_ga_exc hC (T.hasType FB.hasBase) hx hc (class_entry_exc hC (T.hasType hob) hN hmN T FB.mro hlk hx hc ?_))
 repeat (any_goals (first | assumption | wp_step))
theorem class_attr_exc {Q:Option Value->Shared->Prop} (FB:ExcAttrBase B bmB) (hC:h.get? C=some (excClassObj nm q C N bs bm hdct sn sub ab col dd k0 k1 k2 k3 k5 newId)) (hob:bmB.contains (.type "object")=true) (hN:h.Ns N mN)
  (hmN:∀ n∈clsNames,mN n=none) (T:OwnTailN h bmB bm) (hlk:typeLookup (.type B) "__class__"=pure (some (.builtin "object.__class__"))) (hx:h.get? a=some o) (hc:o.cls=.ref C) (hq:Q (some (.ref C)) ⟨h,g,d,t+1,os⟩) :
  wpAny (model prog w) A (getAttr? (.ref a) "__class__") Q E ⟨h,g,d,t,os⟩:=by
 unfold getAttr? getAttrBy?
 repeat (any_goals (first | assumption | with_reducible apply class_by_exc FB hC hob hN hmN T hlk hx hc | wp_step))
end
end PySem
namespace L2
open PySem PySem.Spec PyProof.Rows
structure Xci (K:PySem.W.Frag) (C:Addr) (bmB:List Value):Prop where
 ex:∃ (nm q:Str) (N:Addr) (bs bm:List Value) (hdct:Bool) (sn:List Str) (sub:List Value) (ab:Bool) (col:Option Bool) (dd:Option Addr) (k0 k1 k2 k3 k5:Option Value) (newId:String) (mN:Str->Option Value),
  K.lookup C=some (excClassObj nm q C N bs bm hdct sn sub ab col dd k0 k1 k2 k3 k5 newId)/\(∀ h:Heap,K.In h->h.Ns N mN/\OwnTailN h bmB bm)/\∀ n∈clsNames,mN n=none
theorem jq:typeLookup (.type "ValueError") "__class__"=pure (some (.builtin "object.__class__")):=by rw [typeLookup_type,builtinLookup_eq_fast]; kernel_rfl
theorem rl {K:PySem.W.Frag} {ea C:Addr} {B:String} {bmB:List Value} (c:Xci K C bmB) (FB:ExcAttrBase B bmB) (hob:bmB.contains (.type "object")=true) (hlk:typeLookup (.type B) "__class__"=pure (some (.builtin "object.__class__"))) :
  PySem.W.KitX K (.ref ea) (.ref C) (fR ea (.ref C)) where
 ty:=λM h _ p=>by
  obtain ⟨o,h1,h2⟩:=p
  exact h2 ▸ (PySem.W.Looks.ld h1).andThen .now
 it:=λ_ _ X _=>by
  obtain ⟨nm,q,N,bs,bm,hdct,sn,sub,ab,col,dd,k0,k1,k2,k3,k5,newId,mN,lk,_⟩:=c.ex
  intro A' Q' E' s' k q
  unfold isType loadHead
  exact wpAny_bind (wpAny_loadPart (k _ _ (X _ _ lk)) (wpAny_pure q))
 ne:=λh tp dd its n sl X htp=>by
  obtain ⟨nm,q,N,bs,bm,hdct,sn,sub,ab,col,dd',k0,k1,k2,k3,k5,newId,mN,lk,_⟩:=c.ex
  refine Bool.eq_false_iff.mpr λq=>?_
  have e:C=tp:=Value.ref.inj (beq_iff_eq.mp q)
  subst e
  have z:=(X _ _ lk).symm.trans htp
  have z2:=congrArg (λo=>(o.getD default).cls) z
  exact absurd z2 (by simp)
 ca:=λ{prog w A E Q s} X p k=>by
  obtain ⟨nm,q,N,bs,bm,hdct,sn,sub,ab,col,dd',k0,k1,k2,k3,k5,newId,mN,lk,hn,hmN⟩:=c.ex
  obtain ⟨h,g,d,t,os⟩:=s
  obtain ⟨o,h1,h2⟩:=p
  exact class_attr_exc FB (X _ _ lk) hob (hn _ X).1 hmN (hn _ X).2 hlk h1 h2 k
section
variable {X:Cx} {C:Addr} {B:String} {bmB:List Value}
theorem lg (c:Xci X.K C bmB) (FB:ExcAttrBase B bmB) (hob:bmB.contains (.type "object")=true) (hlk:typeLookup (.type B) "__class__"=pure (some (.builtin "object.__class__"))) :
  fX X (.builtin "isinstance") (λxs H Q=>∃ ea D b,xs=[.ref ea,.ref D]/\H ea=some (.ext (fR ea (.ref C)))/\PySem.W.kitOne X.K (.ref C) (.ref D)=some b/\Q (.bl b) H):=by
 intro pins s σ H xs us Q I r h
 obtain ⟨ea,D,b,rfl,he,e,q⟩:=h
 obtain ⟨u,v,rfl,ru,rv⟩:=lA r
 cases ru
 cases rv
 have p:fR ea (.ref C) s.heap:=(I.hok ea _ he).1
 exact PySem.W.kia_one (rl c FB hob hlk) I.kIn p e (λz=>nomatch z) λtk=>⟨.bl b,H,I.tok tk,rfl,q⟩
theorem Zms (c:Xci X.K C bmB) (FB:ExcAttrBase B bmB) (hob:bmB.contains (.type "object")=true) (hlk:typeLookup (.type B) "__class__"=pure (some (.builtin "object.__class__"))) :
  fX X (.builtin "isinstance") (λxs H Q=>∃ ea T b,xs=[.ref ea,.ty T]/\H ea=some (.ext (fR ea (.ref C)))/\PySem.W.kitOne X.K (.ref C) (.type T)=some b/\Q (.bl b) H):=by
 intro pins s σ H xs us Q I r h
 obtain ⟨ea,T,b,rfl,he,e,q⟩:=h
 obtain ⟨u,v,rfl,ru,rv⟩:=lA r
 cases ru
 cases rv
 have p:fR ea (.ref C) s.heap:=(I.hok ea _ he).1
 exact PySem.W.kia_one (rl c FB hob hlk) I.kIn p e (λz=>nomatch z) λtk=>⟨.bl b,H,I.tok tk,rfl,q⟩
theorem Zam:∀ {ds:List Addr} {us:List Value},Vals (ds.map V.ref) us->us=ds.map Value.ref
 | [],_,r=>by cases r; rfl
 | d::ds,_,r=>by
  cases r with
  | cons r1 rr =>
   cases r1
   rw [Zam rr]
   rfl
theorem Zmr (c:Xci X.K C bmB) (FB:ExcAttrBase B bmB) (hob:bmB.contains (.type "object")=true) (hlk:typeLookup (.type B) "__class__"=pure (some (.builtin "object.__class__"))) :
  fX X (.builtin "isinstance") (λxs H Q=>∃ (ea tp:Addr) (ds:List Addr) (b:Bool),xs=[.ref ea,.ref tp]/\H ea=some (.ext (fR ea (.ref C)))/\H tp=some (.tup (ds.map V.ref))/\PySem.W.kitAny X.K (.ref C) (ds.map Value.ref)=some b/\Q (.bl b) H):=by
 intro pins s σ H xs us Q I r h
 obtain ⟨ea,tp,ds,b,rfl,he,ht,e,q⟩:=h
 obtain ⟨u,v,rfl,ru,rv⟩:=lA r
 cases ru
 cases rv
 have p:fR ea (.ref C) s.heap:=(I.hok ea _ he).1
 obtain ⟨_,its,rr,o,ho,hoc,n,hod⟩:=(show ObjOk X.prog X.w H s.heap tp (.tup (ds.map V.ref)) from I.hok tp _ ht)
 have hits:=Zam rr
 subst hits
 obtain ⟨oc,od,odt,osl⟩:=o
 cases hoc
 cases hod
 exact PySem.W.kia_tup (rl c FB hob hlk) I.kIn p ho e (λz=>nomatch z) λtk=>⟨.bl b,H,I.tok tk,rfl,q⟩
end
end L2
namespace L2
open PySem PySem.Spec PyProof.Rows PySem.W
theorem ZmI:bootBuiltins "ValueError"=some (.type "ValueError"):=by decide +kernel
noncomputable def iU:List Value:=[.type "ValueError",.type "Exception",.type "BaseException",.type "object"]
noncomputable def mS (K:Frag) (bmB:List Value):List Value->Bool
 | []=>bmB == []
 | v::r=>(v::r) == bmB || match v with
  | .ref A=>(match K.lookup A with
   | some ⟨_,_,.cls cd,_⟩=>nsOkIn K cd.ns && (nsIn K cd.ns "__getattribute__" == some none && nsIn K cd.ns "__getattr__" == some none && nsIn K cd.ns "__class__" == some none) && mS K bmB r
   | _=>false)
  | _=>false
theorem Zdz {m:Str->Option Value} (a:m "__getattribute__"=none) (b:m "__getattr__"=none) (c:m "__class__"=none):∀ n∈clsNames,m n=none:=by
 intro n hn
 unfold clsNames at hn
 simp only [List.mem_cons,List.not_mem_nil,or_false] at hn
 rcases hn with rfl | rfl | rfl
 ·exact a
 ·exact b
 ·exact c
theorem Zau {K:Frag} {h:Heap} {bmB:List Value} (X:K.In h):∀ {l:List Value},mS K bmB l=true->OwnTailN h bmB l
 | [],e=>by rw [<- beq_iff_eq.mp e]; exact .base
 | v::r,e=>by
  unfold mS at e
  rcases Bool.or_eq_true_iff.mp e with q | q
  ·rw [beq_iff_eq.mp q]; exact .base
  ·split at q
   ·split at q
    ·rename_i ho
     simp only [Bool.and_eq_true,beq_iff_eq] at q
     exact .own (X _ _ ho) (.of_isNs (isNs_of_in X q.1.1)) (Zdz (nsMap_none_of_in X q.1.1 q.1.2.1.1) (nsMap_none_of_in X q.1.1 q.1.2.1.2) (nsMap_none_of_in X q.1.1 q.1.2.2)) (Zau X q.2)
    ·cases q
   ·cases q
noncomputable def hU (K:Frag) (C:Addr) (bmB:List Value) (newId:String):Bool:=match K.lookup C with
 | some ⟨.type "type",_,.cls cd,sl⟩=>(match cd.mro,sl.toList with
  | .ref C'::bm,[_,_,_,_,some (.builtin n),_]=>C' == C && n == newId && !cd.hasDel && tailIn K bmB bm && mS K bmB bm && nsOkIn K cd.ns && nsIn K cd.ns "__init__" == some none
    && nsIn K cd.ns "__getattribute__" == some none && nsIn K cd.ns "__getattr__" == some none && nsIn K cd.ns "__class__" == some none && bm.contains (.type "BaseException")
  | _,_=>false)
 | _=>false
noncomputable def nN (K:Frag) (C D:Addr):Bool:=match K.lookup C with
 | some ⟨_,_,.cls cd,_⟩=>cd.mro.tail.contains (.ref D)
 | _=>false
theorem ZhM {K:Frag} {N:Addr} {h h':Heap} {m:Str->Option Value} (X:K.In h) (X':K.In h') (e:nsOkIn K N=true) (n:h.Ns N m):h'.Ns N m:=by
 obtain ⟨o,es,ep,ho,r⟩:=n
 refine ⟨o,es,ep,?_,r⟩
 unfold nsOkIn at e
 cases hl:K.lookup N with
 | none=>rw [hl] at e; cases e
 | some u =>
  have h1:=X _ _ hl
  rw [ho] at h1
  cases h1
  exact X' _ _ hl
theorem mI {K:Frag} {h:Heap} {C:Addr} {bmB:List Value} {newId:String} (X:K.In h) (q:hU K C bmB newId=true) :
  ∃ (nm q:Str) (N:Addr) (bs bm:List Value) (hdct:Bool) (sn:List Str) (sub:List Value) (ab:Bool) (col:Option Bool) (dd:Option Addr) (k0 k1 k2 k3 k5:Option Value) (mN:Str->Option Value),
  K.lookup C=some (excClassObj nm q C N bs bm hdct sn sub ab col dd k0 k1 k2 k3 k5 newId)/\(∀ h:Heap,K.In h->h.Ns N mN/\OwnTail h bmB bm/\OwnTailN h bmB bm)/\mN "__init__"=none/\(∀ n∈clsNames,mN n=none)/\bm.contains (.type "BaseException")=true:=by
 unfold hU at q
 split at q
 ·rename_i dd cd sl ho
  split at q
  ·rename_i C' bm k0 k1 k2 k3 n k5 hm hs
   simp only [Bool.and_eq_true,beq_iff_eq,Bool.not_eq_true'] at q
   obtain ⟨⟨⟨⟨⟨⟨⟨⟨⟨⟨rfl,rfl⟩,hdel⟩,ht⟩,htn⟩,hok⟩,hni⟩,n1⟩,n2⟩,n3⟩,hb⟩:=q
   obtain ⟨nm,bs,mro,ns,qn,hd,sn,sub,ab,col,del⟩:=cd
   dsimp only at hm hdel hok hni n1 n2 n3
   subst hm hdel
   have hsl:sl=#[k0,k1,k2,k3,some (.builtin n),k5]:=by
    obtain ⟨l⟩:=sl
    simp only at hs
    rw [hs]
   subst hsl
   exact ⟨nm,qn,ns,bs,bm,hd,sn,sub,ab,col,dd,k0,k1,k2,k3,k5,_,ho,λh' X'=>⟨ZhM X X' hok (.of_isNs (isNs_of_in X hok)),tail_of_in X' ht,Zau X' htn⟩,nsMap_none_of_in X hok hni,Zdz (nsMap_none_of_in X hok n1) (nsMap_none_of_in X hok n2) (nsMap_none_of_in X hok n3),hb⟩
  ·cases q
 ·cases q
theorem ZeB {K:Frag} {h:Heap} {C:Addr} {bmB:List Value} {newId:String} (X:K.In h) (q:hU K C bmB newId=true):Xcl K C bmB newId:=by
 obtain ⟨nm,q,N,bs,bm,hdct,sn,sub,ab,col,dd,k0,k1,k2,k3,k5,mN,lk,hn,hi,hc,hb⟩:=mI X q
 exact ⟨nm,q,N,bs,bm,hdct,sn,sub,ab,col,dd,k0,k1,k2,k3,k5,mN,lk,λh X=>⟨(hn h X).1,(hn h X).2.1⟩,hi,hb⟩
theorem ZeC {K:Frag} {h:Heap} {C:Addr} {bmB:List Value} {newId:String} (X:K.In h) (q:hU K C bmB newId=true):Xci K C bmB:=by
 obtain ⟨nm,q,N,bs,bm,hdct,sn,sub,ab,col,dd,k0,k1,k2,k3,k5,mN,lk,hn,hi,hc,hb⟩:=mI X q
 exact ⟨nm,q,N,bs,bm,hdct,sn,sub,ab,col,dd,k0,k1,k2,k3,k5,newId,mN,lk,λh X=>⟨(hn h X).1,(hn h X).2.2⟩,hc⟩
theorem ZeW {K:Frag} {h:Heap} {C D:Addr} {bmB:List Value} {newId:String} (X:K.In h) (q:hU K C bmB newId=true) (q':hU K D bmB newId=true) (u:nN K C D=true):Under K C D:=by
 obtain ⟨nm,qq,N,bs,bm,hdct,sn,sub,ab,col,dd,k0,k1,k2,k3,k5,mN,lk,hn,hi,hc,hb⟩:=mI X q
 obtain ⟨nm',qq',N',bs',bm',hdct',sn',sub',ab',col',dd',j0,j1,j2,j3,j5,mN',lk',hn',hi',hc',hb'⟩:=mI X q'
 refine ⟨⟨nm,qq,N,bs,bm,hdct,sn,sub,ab,col,dd,k0,k1,k2,k3,k5,newId,lk,?_⟩,⟨nm',qq',N',bs',bm',hdct',sn',sub',ab',col',dd',j0,j1,j2,j3,j5,newId,lk',hb'⟩⟩
 unfold nN at u
 rw [lk] at u
 exact u
structure Exc (K:Frag) (C D:Addr) (ds:List Addr):Prop where
 cl:Xcl K C iU "ValueError.__new__"
 ci:Xci K C iU
 un:Under K C D
 vt:kitOne K (.ref C) (.type "ValueError")=some true
 any:kitAny K (.ref C) (ds.map Value.ref)=some false
theorem Zjk {K:Frag} {h:Heap} {C D:Addr} {ds:List Addr} (X:K.In h) (q:hU K C iU "ValueError.__new__"=true) (q':hU K D iU "ValueError.__new__"=true) (u:nN K C D=true) (vt:kitOne K (.ref C) (.type "ValueError")=some true)
  (any:kitAny K (.ref C) (ds.map Value.ref)=some false):Exc K C D ds:=⟨ZeB X q,ZeC X q,ZeW X q q' u,vt,any⟩
theorem rp {K:Frag} {C:Addr}:kitOne K (.ref C) (.ref C)=some true:=by
 unfold kitOne
 rw [if_pos (beq_self_eq_true _)]
end L2
namespace L2
open PySem PySem.Spec PyProof.Rows
noncomputable def ZiM:PyData->Bool
 | .tuple _=>true
 | .none=>true
 | _=>false
mutual
noncomputable def rH:PyData->Bool
 | .none=>false
 | .bool _=>false
 | .int _=>false
 | .str _=>false
 | .list _=>true
 | .tuple xs=>ZcX xs
 | .dict kvs=>ZcW kvs
noncomputable def ZcX:List PyData->Bool
 | []=>false
 | x::xs=>rH x || ZcX xs
noncomputable def ZcW:List (PyData×PyData)->Bool
 | []=>false
 | (k,v)::r=>ZiM k || rH v || ZcW r
end
noncomputable def Zgt (d:PyData):Bool:=(!d.hasDict || !rH d) && d.showable && decide (d.depth<=32) && decide (d.shown.length<=sizeLine)
noncomputable def ZnP:List PyData->Option PyData
 | [d]=>if Zgt d=true then some (.str d.shown) else none
 | _=>none
section
variable {PK:Pk} {X:Cx} {pos:Pos} {i j:List Sl->Tr PyData}
theorem Kn.dct {pa:Addr} {m:Ms} {G H:Hp} {ks:List (b8×V)} {ds:List PyData} {Q:VK} {p:Addr} (k:Kn PK pa m G H (.dict ((ks.map λk=>match k.1 with | .inl i=>PyData.int i | .inr x=>PyData.str x).zip ds)) Q) (w:Wd PK pa m G H) (d:DnAll G (ks.map (·.2)) ds) (hp:H p=none):Q (.ref p) (upd H p (.dK ks)):=by
 obtain ⟨w1,s1⟩:=w.new (o:=.dK ks) hp
 exact k _ _ _ s1 w1 (.dct (.inl cr) (DnAll.mono s1.gs d))
theorem Zem:PE X (.Dict [] [] pos) (TAe PK (aC (.dict []))):=Zhj.imp λσ H Q hz0=>by
 obtain ⟨pa,G₀,H₀,m,ρ,G,R,q⟩:=hz0
 exact λp hp=>Kn.dct (ks:=[]) (ds:=[]) q R.wd .nil hp
noncomputable def oz:PyData->PyData->Option PyData
 | .int k,v=>some (.dict [(.int k,v)])
 | _,_=>none
theorem Rl.hidden {G₀ H₀ G H:Hp} {m:Ms} {σ:St} {ρ:List Sl} {pa p:Addr} (R:Rl PK pa G₀ H₀ m σ ρ G H) (hp:H p=none):Rl PK pa G₀ H₀ m σ ρ G (upd H p (.dK []))/\Stp pa G H G (upd H p (.dK [])):=by
 obtain ⟨w1,s1⟩:=R.wd.own (o:=.dK []) hp
 exact ⟨R.step s1 w1,s1⟩
theorem Zel {a b:Expr} (ha:PE X a (TAe PK i)) (hb:PE X b (TAe PK j)):PE X (.Dict [some a] [b] pos) (TAe PK (aj oz i j)) :=
 (Zb9 (ZbX ha hb ZbW) rfl rfl (by simp) (by simp)).imp λσ H Q hz0 p hp=>by
 obtain ⟨pa,G₀,H₀,m,ρ,G,R,q⟩:=hz0
 obtain ⟨R0,s0⟩:=R.hidden hp
 have hne:p≠pa:=λe=>by
  obtain ⟨o,h⟩:=R.wd.some
  rw [e,h] at hp; cases hp
 have hg:G p=none:=R.wd.gnone hp
 refine TAe.then R0 q λm1 x v G1 H1 s1 w1 R1 d1 q1=>?_
 refine TAe.then R1 q1 λm2 y u G2 H2 s2 w2 R2 d2 q2=>?_
 obtain ⟨z,hz,k⟩:=Tr.ok_of q2
 have e1:H1 p=some (.dK []):=s1.hk p _ cr hne rfl
 have e2:H2 p=some (.dK []):=s2.hk p _ e1 hne rfl
 have g1:G1 p=none:=by
  cases e:G1 p with
  | none=>rfl
  | some o =>
   rcases s1.gn p o e with z | z | ⟨_,_,z⟩
   ·rw [hg] at z; cases z
   ·rw [cr] at z; cases z
   ·rw [cr] at z; cases z
 have g2:G2 p=none:=by
  cases e:G2 p with
  | none=>rfl
  | some o =>
   rcases s2.gn p o e with z | z | ⟨_,_,z⟩
   ·rw [g1] at z; cases z
   ·rw [e1] at z; cases z
   ·rw [e1] at z; cases z
 cases d1 with
 | int n =>
  cases hz
  refine ⟨e2,[(Sum.inl n,u)],rfl,by simp,?_⟩
  have em:iM [] [((Sum.inl n:b8),u)]=[(Sum.inl n,u)]:=rfl
  rw [em]
  have hf2:Sub G2 (upd H2 p (.dK [(Sum.inl n,u)])):=λb o h=>by
   rw [ak (λe=>by subst e; rw [g2] at h; cases h)]
   exact w2.sub b o h
  have hpap:pa≠p:=Ne.symm hne
  have sb:Sub G2 (upd G2 p (.dK [(Sum.inl n,u)])):=Sub.new g2
  refine k _ (upd G2 p (.dK [(Sum.inl n,u)])) _ ⟨λb o h=>sb b o (s2.gs b o (s1.gs b o h)),λb o h=>?_,λb o h hb hc=>?_,λb o h=>?_⟩ ⟨λb o h=>?_,by rw [ak hpap]; exact w2.gpa,?_,?_⟩ (.dct (ds:=[y]) (.inl cr) (.cons (d2.mono sb) .nil))
  ·by_cases e:b=p
   ·subst e; exact .inr (.inl hp)
   ·rw [ak e] at h
    rcases s2.gn b o h with z | z | ⟨hbp,xs,z⟩
    ·rcases s1.gn b o z with z | z | ⟨hbp,xs,z⟩
     ·exact .inl z
     ·rw [ak e] at z; exact .inr (.inl z)
     ·rw [ak e] at z; exact .inr (.inr ⟨hbp,xs,z⟩)
    ·have:=s1.none z
     rw [ak e] at this
     exact .inr (.inl this)
    ·cases e3:H b with
     | none=>exact .inr (.inl rfl)
     | some o' =>
      cases kn:nch o' with
      | true =>
       have:=s1.hk b o' (by rw [ak e]; exact e3) hbp kn
       rw [this] at z
       cases z
       exact .inr (.inr ⟨hbp,xs,rfl⟩)
      | false =>
       obtain ⟨o2,h2,k2⟩:=s1.al b o' (by rw [ak e]; exact e3)
       rw [h2] at z
       cases z
       cases k2 kn
  ·have e:b≠p:=λe=>by subst e; rw [hp] at h; cases h
   rw [ak e]
   exact s2.hk b o (s1.hk b o (by rw [ak e]; exact h) hb hc) hb hc
  ·have e:b≠p:=λe=>by subst e; rw [hp] at h; cases h
   obtain ⟨o1,h1,k1⟩:=s1.al b o (by rw [ak e]; exact h)
   obtain ⟨o2,h2,k2⟩:=s2.al b o1 h1
   exact ⟨o2,by rw [ak e]; exact h2,λz=>k2 (k1 z)⟩
  ·by_cases e:b=p
   ·subst e; rw [cr] at h ⊢; exact h
   ·rw [ak e] at h ⊢; exact w2.sub b o h
  ·obtain ⟨o,h,q⟩:=w2.pen
   exact ⟨o,by rw [ak hpap]; exact h,PK.mono sb q⟩
  ·refine w2.sto.step sb (λb o h hn=>by rw [ak (λe=>by subst e; rw [e2] at h; cases h; cases hn)]; exact h) λb u h=>?_
   by_cases e:b=p
   ·subst e
    refine .inr λv hv=>?_
    rw [e2] at hv; cases hv; rfl
   ·rw [ak e] at h; exact .inl h
 | non=>cases hz
 | bl _=>cases hz
 | str _=>cases hz
 | tup _ _=>cases hz
 | lst _ _=>cases hz
 | dct _ _=>cases hz
 | dcp _ _ _=>cases hz
 | hdl _=>cases hz
end
noncomputable def lC:List PyData->Option PyData
 | [.int i]=>if i.natAbs.log2 < 1920 then some (.str (toString i)) else none
 | _=>none
theorem ZeT:jD (λxs H Q=>∃ i,xs=[.int i]/\i.natAbs.log2 < 1920/\Q (.str (toString i)) H) lC:=λPK pa m G H vs ds d Q w hv hd k=>by
 unfold lC at hd
 split at hd
 ·split at hd
  ·rename_i hc
   cases hd
   cases hv with
   | cons h1 h2=>cases h2; cases h1; exact ⟨_,rfl,hc,k.here w (.str _)⟩
  ·cases hd
 ·cases hd
theorem Zjw {i:Int} (h:i.natAbs.log2 < 1920):gw lC [.int i]=.ret (.str (toString i)):=by
 show Tr.of (if i.natAbs.log2 < 1920 then some (PyData.str (toString i)) else none)=_
 rw [if_pos h]
 rfl
theorem ZkQ {k:Int} {v:PyData}:ef oz (.int k) v=.ret (.dict [(.int k,v)]):=rfl
noncomputable def swp:HO->Bool
 | .lst _=>true
 | .dK _=>true
 | .chg _=>true
 | _=>false
section
variable {X:Cx} {pins:List (Addr×Obj)} {σ:St} {H:Hp} {s:Shared} {a:Addr} {o o':HO}
theorem Inv.swap (I:Inv X pins σ H s) (h:H a=some o) (n:swp o=true) (k:ObjOk X.prog X.w (upd H a o') s.heap a o->ObjOk X.prog X.w (upd H a o') s.heap a o'):Inv X pins σ (upd H a o') s:=by
 have up:∀ b u,H b=some u->swp u=false->upd H a o' b=some u:=λb u e z=>by
  rw [ak]
  ·exact e
  ·rintro rfl
   rw [h] at e; cases e
   rw [n] at z; cases z
 have nn:∀ b,H b=none->upd H a o' b=none:=λb e=>by
  rw [ak]
  ·exact e
  ·rintro rfl
   rw [h] at e; cases e
 have st:∀ b u,H b=some u->ObjOk X.prog X.w (upd H a o') s.heap b u:=λb u e =>
  (I.hok b u e).stay (λ_ _ _ q=>q) (λc q=>up c _ q rfl) (λc xs q=>up c _ q rfl) λc ob u' vs q _=>up c _ q rfl
 refine ⟨I.ok,I.os,I.bare,⟨I.base.keep,I.base.slot,λb o e n hx=>nn b (I.base.free b o e n hx),I.base.there,λb xs e=>up b _ (I.base.tups b xs e) rfl,λb ob u e=>up b _ (I.base.frzs b ob u e) rfl,λb ps e=>?_⟩,I.loc,I.cell,nn _ I.free,λx c e=>nn _ (I.freeC x c e),λp hp=>?_,λb u e=>?_,I.len⟩
 ·obtain ⟨more,q⟩:=I.base.tbls b ps e
  exact ⟨more,up b _ q rfl⟩
 ·obtain ⟨h1,h2,h3⟩:=I.pin p hp
  exact ⟨h1,nn _ h2,h3⟩
 ·by_cases e':b=a
  ·subst e'
   rw [cr] at e; cases e
   exact k (st b o h)
  ·rw [ak e'] at e
   exact st b u e
inductive Cv:Hp->Hp->Prop
 | refl {H:Hp}:Cv H H
 | opn {H:Hp} {a:Addr} {u:HO}:H a=some (.chg u)->Cv H (upd H a u)
 | shut {H:Hp} {a:Addr} {u:HO}:H a=some u->swp u=true->Cv H (upd H a (.chg u))
theorem Inv.cv {H':Hp} (I:Inv X pins σ H s) (c:Cv H H'):Inv X pins σ H' s:=by
 cases c with
 | refl=>exact I
 | opn h=>exact I.swap h rfl λz=>z
 | shut h n=>exact I.swap h n λz=>z
end
section
variable {X:Cx} {e:Expr} {st:Stmt} {te:TE} {ts:TS}
theorem PE.cvR (h:PE X e te):PE X e (λσ H Q=>te σ H λv H1=>∃ H2,Cv H1 H2/\Q v H2):=λpins s σ H Q I q =>
 thn (h pins s σ H _ I q) λu s1 ⟨v,H1,I1,r,H2,c,q1⟩=>⟨v,H2,I1.cv c,r,q1⟩
theorem PS.cvR (h:PS X st ts):PS X st (λD σ H=>ts { D with nx:=λσ' H1=>∃ H2,Cv H1 H2/\D.nx σ' H2 } σ H):=λpins s σ H D I q =>
 thn (h pins s σ H _ I q) λf s1 z=>by
  cases f with
  | next=>obtain ⟨σ',H1,I1,H2,c,q1⟩:=z; exact ⟨σ',H2,I1.cv c,q1⟩
  | brk=>exact z
  | cont=>exact z
  | ret u=>exact z
theorem MtR.cv {id:String} {r:V->List V->Hp->VK->Prop} (h:MtR X id r):MtR X id (λx vs H Q=>∃ H1,Cv H H1/\r x vs H1 λv H2=>∃ H3,Cv H2 H3/\Q v H3):=λpins s σ H x vs v us Q I rx rv ⟨H1,c,q⟩ =>
 thn (h pins s σ H1 x vs v us _ (I.cv c) rx rv q) λu s1 ⟨v,H2,I2,r,H3,c3,q3⟩=>⟨v,H3,I2.cv c3,r,q3⟩
end
noncomputable def adr:PyData->Option Addr
 | .dict [(.none,.int (.ofNat a))]=>some a
 | _=>none
theorem gK {G:Hp} {v:V} {x:PyData} {a:Addr} (d:Dn G v x) (h:adr x=some a):v=.ref a/\x=af a:=by
 cases d with
 | hdl b=>cases h; exact ⟨rfl,rfl⟩
 | @dct b ks ds r ds' =>
  exfalso
  cases ks with
  | nil=>cases h
  | cons k ks =>
   cases ds with
   | nil=>cases h
   | cons d ds =>
    obtain ⟨k,v⟩:=k
    cases k <;> cases h
 | @dcp b o ks ds hn r ds' =>
  exfalso
  cases ks with
  | nil=>cases h
  | cons k ks =>
   cases ds with
   | nil=>cases h
   | cons d ds=>cases h
 | _=>cases h
noncomputable def fE (x:PyData) (g:Addr->Sto->Option (Sto×PyData)):Tr PyData:=match adr x with
 | some a=>.op (g a) .ret
 | none=>.fail
theorem f9 {x:PyData} {g:Addr->Sto->Option (Sto×PyData)} {m:Ms} {Q:Ms->PyData->Prop} (h:(fE x g).ok m Q):∃ a s y,adr x=some a/\g a m.st=some (s,y)/\Q ⟨m.n,s⟩ y:=by
 unfold fE at h
 cases e:adr x with
 | none=>rw [e] at h; exact h.elim
 | some a =>
  rw [e] at h
  obtain ⟨s,y,h1,h2⟩:=h
  exact ⟨a,s,y,rfl,h1,h2⟩
section
variable {PK:Pk} {pa:Addr} {m:Ms} {G H:Hp} {a:Addr}
theorem ZeO (w:Wd PK pa m G H) {c:Cel} (h:m.st.get a=some c):a≠pa:=λe=>by
 subst e
 obtain ⟨o,e1,e2⟩:=(w.sto.cel a c h).at
 rw [w.pnch e1] at e2; cases e2
theorem ly (w:Wd PK pa m G H) {c c':Cel} {o':HO} (h:m.st.get a=some c) (hn:nch o'=false) (k:ThOk G (upd H a o') a c'):Wd PK pa ⟨m.n,m.st.put a c'⟩ G (upd H a o')/\Stp pa G H G (upd H a o'):=by
 have hne:=ZeO w h
 have hg:=w.sto.gn a c h
 obtain ⟨o,e1,e2⟩:=(w.sto.cel a c h).at
 have keep:∀ b u,H b=some u->b≠a->upd H a o' b=some u:=λb u e z=>by rw [ak z]; exact e
 refine ⟨⟨λb u e=>keep b u (w.sub b u e) λz=>(by subst z; rw [hg] at e; cases e),w.gpa,?_,⟨λb d e=>?_,λb d e=>?_⟩⟩,⟨λ_ _ h=>h,λ_ _ h=>.inl h,λb u e _ z=>keep b u e λq=>(by subst q; rw [e1] at e; cases e; rw [e2] at z; cases z),λb u e=>?_⟩⟩
 ·obtain ⟨u,e,q⟩:=w.pen
  exact ⟨u,keep _ u e (Ne.symm hne),q⟩
 ·by_cases z:b=a
  ·subst z
   rw [show (Ms.st ⟨m.n,m.st.put b c'⟩)=m.st.put b c' from rfl,Sto.put_same] at e; cases e
   exact k
  ·rw [show (Ms.st ⟨m.n,m.st.put a c'⟩)=m.st.put a c' from rfl,Sto.put_ne z] at e
   exact (w.sto.cel b d e).step (λ_ _ h=>h) λu q _=>keep b u q z
 ·by_cases z:b=a
  ·subst z; exact hg
  ·rw [show (Ms.st ⟨m.n,m.st.put a c'⟩)=m.st.put a c' from rfl,Sto.put_ne z] at e
   exact w.sto.gn b d e
 ·by_cases z:b=a
  ·subst z; exact ⟨o',cr,λ_=>hn⟩
  ·exact ⟨u,keep b u e z,id⟩
theorem Zai (w:Wd PK pa m G H) (hp:H a=none):m.st.get a=none:=by
 cases e:m.st.get a with
 | none=>rfl
 | some c =>
  obtain ⟨o,e1,_⟩:=(w.sto.cel a c e).at
  rw [hp] at e1; cases e1
theorem Zah (w:Wd PK pa m G H) {c':Cel} {o':HO} (hp:H a=none) (k:ThOk G (upd H a o') a c'):Wd PK pa ⟨m.n,m.st.put a c'⟩ G (upd H a o')/\Stp pa G H G (upd H a o'):=by
 obtain ⟨w1,s1⟩:=w.own (o:=o') hp
 refine ⟨⟨w1.sub,w1.gpa,w1.pen,⟨λb d e=>?_,λb d e=>?_⟩⟩,s1⟩
 ·by_cases z:b=a
  ·subst z
   rw [show (Ms.st ⟨m.n,m.st.put b c'⟩)=m.st.put b c' from rfl,Sto.put_same] at e; cases e
   exact k
  ·rw [show (Ms.st ⟨m.n,m.st.put a c'⟩)=m.st.put a c' from rfl,Sto.put_ne z] at e
   exact w1.sto.cel b d e
 ·by_cases z:b=a
  ·subst z; exact w.gnone hp
  ·rw [show (Ms.st ⟨m.n,m.st.put a c'⟩)=m.st.put a c' from rfl,Sto.put_ne z] at e
   exact w1.sto.gn b d e
end
theorem FD.lookup {G:Hp} {f:Str} {d:PyData} {vs:List (Str×V)} {ds:List (Str×PyData)} (h:FD G vs ds):ds.lookup f=some d->∃ v,vs.lookup f=some v/\Dn G v d:=by
 induction h with
 | nil=>intro e; cases e
 | @cons g v d' vs ds h1 h2 ih =>
  intro e
  cases k:f == g with
  | true =>
   simp only [List.lookup,k] at e ⊢
   cases e
   exact ⟨_,rfl,h1⟩
  | false =>
   simp only [List.lookup,k] at e ⊢
   exact ih e
theorem FD.nolook {G:Hp} {f:Str} {vs:List (Str×V)} {ds:List (Str×PyData)} (h:FD G vs ds):ds.lookup f=none->vs.lookup f=none:=by
 induction h with
 | nil=>intro _; rfl
 | @cons g v d' vs ds h1 h2 ih =>
  intro e
  cases k:f == g with
  | true=>simp only [List.lookup,k] at e; cases e
  | false =>
   simp only [List.lookup,k] at e ⊢
   exact ih e
theorem FD.length {G:Hp} {vs:List (Str×V)} {ds:List (Str×PyData)} (h:FD G vs ds):vs.length=ds.length:=by
 induction h with
 | nil=>rfl
 | cons _ _ ih=>rw [List.length_cons,List.length_cons,ih]
noncomputable def gC (f:Str) (v:PyData):List (Str×PyData)->List (Str×PyData)
 | []=>[(f,v)]
 | (g,x)::r=>if g=f then (g,v)::r else (g,x)::gC f v r
theorem FD.put {G:Hp} {f:Str} {v:V} {d:PyData} (h:Dn G v d) {vs:List (Str×V)} {ds:List (Str×PyData)} (k:FD G vs ds):FD G (eW f v vs) (gC f d ds):=by
 induction k with
 | nil=>exact .cons h .nil
 | @cons g u d' vs ds h1 h2 ih =>
  unfold eW gC
  by_cases e:g=f
  ·rw [if_pos e,if_pos e]; exact .cons h h2
  ·rw [if_neg e,if_neg e]; exact .cons h1 ih
noncomputable def iG (C:Addr) (f:Str) (a:Addr) (st:Sto):Option (Sto×PyData):=match st.get a with
 | some (.ins C' fs)=>if C'=C then (fs.lookup f).map λx=>(st,x) else none
 | _=>none
theorem Zbt {C a:Addr} {f:Str} {st s:Sto} {y:PyData} (h:iG C f a st=some (s,y)):s=st/\∃ fs,st.get a=some (.ins C fs)/\fs.lookup f=some y:=by
 unfold iG at h
 split at h
 ·rename_i C' fs e
  split at h
  ·rename_i hC
   subst hC
   cases e2:fs.lookup f with
   | none=>rw [e2] at h; cases h
   | some z =>
    rw [e2] at h
    cases h
    exact ⟨rfl,fs,e,e2⟩
  ·cases h
 ·cases h
noncomputable def ja (C:Addr) (f:Str) (y:PyData) (a:Addr) (st:Sto):Option (Sto×PyData):=match st.get a with
 | some (.ins C' fs)=>if C'=C/\fs.length < 1000 then some (st.put a (.ins C (gC f y fs)),.none) else none
 | _=>none
theorem Zaf {C a:Addr} {f:Str} {st s:Sto} {x y:PyData} (h:ja C f x a st=some (s,y)):∃ fs,st.get a=some (.ins C fs)/\fs.length < 1000/\s=st.put a (.ins C (gC f x fs)):=by
 unfold ja at h
 split at h
 ·rename_i C' fs e
  split at h
  ·rename_i hC
   obtain ⟨rfl,hl⟩:=hC
   cases h
   exact ⟨fs,e,hl,rfl⟩
  ·cases h
 ·cases h
noncomputable def hY (C:Addr) (m:Str) (a:Addr) (st:Sto):Option (Sto×PyData):=match st.get a with
 | some (.ins C' fs)=>if C'=C/\fs.lookup m=none then some (st,.none) else none
 | _=>none
theorem Zcw {C a:Addr} {m:Str} {st s:Sto} {y:PyData} (h:hY C m a st=some (s,y)):s=st/\∃ fs,st.get a=some (.ins C fs)/\fs.lookup m=none:=by
 unfold hY at h
 split at h
 ·rename_i C' fs e
  split at h
  ·rename_i hC
   obtain ⟨rfl,hl⟩:=hC
   cases h
   exact ⟨rfl,fs,e,hl⟩
  ·cases h
 ·cases h
section
variable {PK:Pk} {X:Cx} {C:Addr} {f:Str} {o e value:Expr} {es:List Expr} {pos pos' tpos apos p:Pos} {i j:List Sl->Tr PyData} {as:List Sl->Tr (List Sl)} {st:Stmt}
noncomputable def cB (C:Addr) (f:Str) (i:List Sl->Tr PyData):List Sl->Tr PyData:=λρ=>(i ρ).bind λx=>fE x (iG C f)
theorem cD (hc:Cls X.K C) (hn:NoAttr X.K C f) (he:PE X e (TAe PK i)) (hb:attributeBase e f X.env (eval e X.env)=eval e X.env:=by rfl):PE X (.Attribute e f pos) (TAe PK (cB C f i)):=(Zhi he hb).imp λσ H Q hz0=>by
 obtain ⟨pa,G₀,H₀,m,ρ,G,R,q⟩:=hz0
 refine TAe.then R q λm1 x v G1 H1 s1 w1 R1 d1 q1=>?_
 obtain ⟨a,s,y,ha,hg,k⟩:=f9 q1
 obtain ⟨rfl,rfl⟩:=gK d1 ha
 obtain ⟨rfl,fs,e1,e2⟩:=Zbt hg
 obtain ⟨dx,vs,e3,e4⟩:=w1.sto.cel a _ e1
 obtain ⟨u,e5,e6⟩:=e4.lookup e2
 exact ⟨a,C,dx,vs,u,rfl,e3,hc,hn,e5,(Kn.later k s1 w1.some).here w1 e6⟩
noncomputable def fy (C:Addr) (f:Str) (i j:List Sl->Tr PyData):List Sl->Tr Ou:=λρ=>(j ρ).bind λy=>(i ρ).bind λx=>(fE x (ja C f y)).bind λ_=>.ret (.next ρ)
theorem fN (hc:Cls X.K C) (hn:NoAttr X.K C f) (ha:PE X o (TAe PK i)) (hv:PE X value (TAe PK j)) (hs:swapsWith value (some (.Attribute o f pos')) pos.line X.env=pure false:=by rfl):PS X (.Assign [.Attribute o f pos'] value pos) (cP PK (fy C f i j)):=(ZgV ha hv hs).imp λD σ H hz0=>by
 obtain ⟨pa,G₀,H₀,m,ρ,G,R,z⟩:=hz0
 refine TAe.then R z λm1 y v G1 H1 s1 w1 R1 d1 q1=>?_
 refine TAe.then R1 q1 λm2 x u G2 H2 s2 w2 R2 d2 q2=>?_
 obtain ⟨a,s,y',ha,hg,k⟩:=f9 (Tr.ok_bind.mp q2)
 obtain ⟨rfl,rfl⟩:=gK d2 ha
 obtain ⟨fs,e1,hl,rfl⟩:=Zaf hg
 obtain ⟨dx,vs,e3,e4⟩:=w2.sto.cel a _ e1
 obtain ⟨w3,s3⟩:=ly w2 (c':=.ins C (gC f y fs)) (o':=.ins C dx (eW f v vs)) e1 rfl ⟨dx,_,cr,e4.put (d1.mono s2.gs)⟩
 exact ⟨a,C,dx,vs,rfl,e3,hc,hn,by rw [e4.length]; exact hl,k σ G2 _ (s1.gs.trans s2.gs) (R2.step s3 w3)⟩
noncomputable def lb (g:Int->Int->Int):PyData->PyData->Tr PyData
 | .int x,.int y=>.ret (.int (g x y))
 | _,_=>.fail
theorem ZiS {g:Int->Int->Int} {x y:PyData} {m:Ms} {Q:Ms->PyData->Prop} (h:(lb g x y).ok m Q):∃ a b,x=.int a/\y=.int b/\Q m (.int (g a b)):=by
 unfold lb at h
 split at h
 ·exact ⟨_,_,rfl,rfl,h⟩
 ·exact h.elim
noncomputable def iu (C:Addr) (f:Str) (g:Int->Int->Int) (i j:List Sl->Tr PyData):List Sl->Tr Ou:=λρ=>(i ρ).bind λx=>(fE x (iG C f)).bind λv=>(j ρ).bind λy=>(lb g v y).bind λz=>(fE x (ja C f z)).bind λ_=>.ret (.next ρ)
theorem jw {op:Operator} {g:Int->Int->Int} {rd:V->V->Hp->VK->Prop} (hop:px X op rd) (hrd:∀ a b H Q,Q (.int (g a b)) H->rd (.int a) (.int b) H Q) (hc:Cls X.K C) (hn:NoAttr X.K C f) (ha:PE X o (TAe PK i)) (hv:PE X value (TAe PK j)):PS X (.AugAssign (.Attribute o f tpos) op value pos) (cP PK (iu C f g i j)):=(ZgU ha hv hop).imp λD σ H hz0=>by
 obtain ⟨pa,G₀,H₀,m,ρ,G,R,z⟩:=hz0
 refine TAe.then R z λm1 x v G1 H1 s1 w1 R1 d1 q1=>?_
 obtain ⟨a,s,y,ha,hg,k⟩:=f9 (Tr.ok_bind.mp q1)
 obtain ⟨rfl,rfl⟩:=gK d1 ha
 obtain ⟨rfl,fs,e1,e2⟩:=Zbt hg
 obtain ⟨dx,vs,e3,e4⟩:=w1.sto.cel a _ e1
 obtain ⟨u,e5,e6⟩:=e4.lookup e2
 refine ⟨a,C,dx,vs,u,rfl,e3,hc,hn,e5,?_⟩
 refine TAe.then R1 k λm2 y2 u2 G2 H2 s2 w2 R2 d2 q2=>?_
 obtain ⟨x1,x2,rfl,rfl,q2⟩:=ZiS (Tr.ok_bind.mp q2)
 cases e6
 cases d2
 refine hrd _ _ _ _ ?_
 obtain ⟨a',s',y',ha',hg',k'⟩:=f9 (Tr.ok_bind.mp q2)
 rw [ha] at ha'
 cases ha'
 obtain ⟨fs',f1,hl,rfl⟩:=Zaf hg'
 obtain ⟨dx',vs',f3,f4⟩:=w2.sto.cel a _ f1
 obtain ⟨w3,s3⟩:=ly w2 (c':=.ins C (gC f (.int (g x1 x2)) fs')) (o':=.ins C dx' (eW f (.int (g x1 x2)) vs')) f1 rfl ⟨dx',_,cr,f4.put (.int _)⟩
 exact ⟨dx',vs',f3,by rw [f4.length]; exact hl,k' σ G2 _ (s1.gs.trans s2.gs) (R2.step s3 w3)⟩
theorem ot:∀ a b H Q,Q (.int (a+b)) H->ZbO (.int a) (.int b) H Q:=λa b H Q q=>⟨a,b,rfl,rfl,q⟩
theorem oq:∀ a b H Q,Q (.int (a - b)) H->Zbu (.int a) (.int b) H Q:=λa b H Q q=>⟨a,b,rfl,rfl,q⟩
structure MDef (K:PySem.W.Frag) (C:Addr) (m qual:Str) (st:Stmt) (ps:List Str):Prop where
 ex:∃ f fd,Fun K m qual st f fd/\Meth K C m f/\Binds K fd ps []
structure MCal (PK:Pk) (P:Program) (w:World) (K:PySem.W.Frag) (mg:Str->Option Value) (base:Heap) (C:Addr) (m:Str) (k:Nat) (ps:List Str) (f:List Sl->Tr Re):Prop where
 ex:∃ g fd,FnOk P w K mg base eS k g fd ps (lp PK ps.length f)/\Meth K C m g/\Binds K fd ps []
 len:∀ as m Z,(f as).ok m Z->as.length=ps.length
theorem Zc4 {P:Program} {w:World} {K:PySem.W.Frag} {mg:Str->Option Value} {base:Heap} {x qual:Str} {N ps:List Str} {kk k:Nat} {g:Addr} {fd:FuncData} {s:List Sl->Tr Ou} (D:Fun K x qual st g fd) (S:FnScope N ps (bZ st)) (hk:N.length - ps.length=k)
  (hbody:∀ (f:Addr) (cdv:Value) (A:Around) (outer:List Env) (sh:Shared) (H:Hp) (E:XK),Room kk (A.deeper (envOfC qual (bZ st) sh.heap.objs.size f cdv)) ->
   PSs (fq eS P w K mg base N qual (bZ st) f cdv A outer sh H E).nox (eD st) (cP PK s)):FnOk P w K mg base eS (kk+1) g fd ps (lp PK ps.length (cO ps.length k s)):=by
 refine D.ok S (λvs H Q E h=>h.1) λcdv A outer sh H vs Q E hr hsp=>?_
 obtain ⟨hv,pa,m,G,as,wd,ar,z⟩:=hsp
 refine ⟨_,hbody g cdv A outer sh H E hr,?_⟩
 unfold cO at z
 obtain ⟨_,z⟩:=fK z
 refine ⟨pa,G,H,m,_,G,Rl.start wd ar (by rw [hv]; exact hk),Tr.ok_mono (Tr.ok_bind.mp z) λm1 o ko=>?_⟩
 cases o with
 | next ρ=>exact λσ G1 H1 sb R1=>ko .non G1 H1 R1.st R1.wd .non
 | ret r=>exact ko
 | brk ρ=>exact ko.elim
 | cont ρ=>exact ko.elim
theorem sY {n k:Nat} {s:List Sl->Tr Ou} (as:List Sl) (m:Ms) (Z:Ms->Re->Prop) (h:(cO n k s as).ok m Z):as.length=n:=by
 unfold cO at h
 exact of_decide_eq_true (fK h).1
theorem kS {P:Program} {w:World} {K:PySem.W.Frag} {mg:Str->Option Value} {base:Heap} {x qual:Str} {N ps:List Str} {kk k:Nat} {s:List Sl->Tr Ou} (D:MDef K C x qual st ps) (S:FnScope N ps (bZ st)) (hk:N.length - ps.length=k)
  (hbody:∀ (f:Addr) (cdv:Value) (A:Around) (outer:List Env) (sh:Shared) (H:Hp) (E:XK),Room kk (A.deeper (envOfC qual (bZ st) sh.heap.objs.size f cdv)) ->
   PSs (fq eS P w K mg base N qual (bZ st) f cdv A outer sh H E).nox (eD st) (cP PK s)):MCal PK P w K mg base C x (kk+1) ps (cO ps.length k s):=by
 obtain ⟨g,fd,F,M,hb⟩:=D.ex
 exact ⟨⟨g,fd,Zc4 F S hk hbody,M,hb⟩,sY⟩
noncomputable def gL (C:Addr) (m:Str) (f:List Sl->Tr Re) (i:List Sl->Tr PyData) (as:List Sl->Tr (List Sl)):List Sl->Tr Re:=λρ=>(i ρ).bind λx=>(fE x (hY C m)).bind λ_=>(as ρ).bind λys=>f (.d x::ys)
theorem Zcx {m:Str} {g:List Sl->Tr Re} {ps:List Str} (len:∀ as m Z,(g as).ok m Z->as.length=ps.length):∀ σ H Q,jE PK (gL C m g i as) σ H Q->mV C m (lp PK ps.length g) [] E0 (TAe PK i) (TAa PK as) σ H Q:=by
 rintro σ H Q ⟨pa,G₀,H₀,ms,ρ,G,R,z⟩
 refine TAe.then R z λm1 x v G1 H1 s1 w1 R1 d1 q1=>?_
 obtain ⟨a,s,y,ha,hg,k⟩:=f9 (Tr.ok_bind.mp q1)
 obtain ⟨rfl,rfl⟩:=gK d1 ha
 obtain ⟨rfl,fs,e1,e2⟩:=Zcw hg
 obtain ⟨dx,vs,e3,e4⟩:=w1.sto.cel a _ e1
 refine ⟨a,dx,vs,rfl,e3,e4.nolook e2,?_⟩
 refine TAa.then R1 k λm2 xs us G2 H2 s2 w2 R2 d2 q2=>?_
 rw [List.append_nil]
 exact ⟨by rw [List.length_cons,d2.length,<- len _ _ _ q2]; rfl,pa,m2,G2,_,w2,.cons (.d (.hdl a)) d2,Tr.ok_mono q2 λm3 r k=>Kr.later k (s1.trans s2 w1.some) w2.some⟩
theorem oH {m:Str} {k:Nat} {ps:List Str} {g:List Sl->Tr Re} {pl:Sem Bool} (c:Cls X.K C) (M:MCal PK X.prog X.w X.K X.mg X.base C m k ps g) (hr:Room k X.A) (ho:PE X o (TAe PK i)) (ha:PA X (e::es) (TAa PK as))
  (hst:starEach (e::es) X.env=(false,eval e X.env)::starEach es X.env:=by rfl) (hpl:(backTo pos (starEach es X.env)).any (·.1)=false:=by rfl)
  (ht:eval (.Call (.Attribute o m apos) (e::es) [] pos) X.env=(do
   let ov <- eval o X.env
   standAt apos.atName
   let (f,first) <- holding [ov] (getMethod ov m pl)
   callWith pos f first (backTo pos (starEach (e::es) X.env)) (backToKw pos (keywordEach [] X.env))):=by rfl) :
  PE X (.Call (.Attribute o m apos) (e::es) [] pos) (jE PK (gL C m g i as)):=by
 obtain ⟨fa,fd,F,hm,hb⟩:=M.ex
 exact (Zb8 (pl:=pl) ho c hm F hr hb .nil lI ha hst hpl ht).imp (Zcx M.len)
theorem oG {m:Str} {k:Nat} {ps:List Str} {g:List Sl->Tr Re} {pl:Sem Bool} (c:Cls X.K C) (M:MCal PK X.prog X.w X.K X.mg X.base C m k ps g) (hr:Room k X.A) (ho:PE X o (TAe PK i))
  (ht:eval (.Call (.Attribute o m apos) [] [] pos) X.env=(do
   let ov <- eval o X.env
   standAt apos.atName
   let (f,first) <- holding [ov] (getMethod ov m pl)
   callWith pos f first (backTo pos (starEach [] X.env)) (backToKw pos (keywordEach [] X.env))):=by rfl) :
  PE X (.Call (.Attribute o m apos) [] [] pos) (jE PK (gL C m g i b7)):=by
 obtain ⟨fa,fd,F,hm,hb⟩:=M.ex
 refine (Zb7 (pl:=pl) ho c hm F hr hb .nil lI ht).imp λσ H Q z=>?_
 obtain ⟨pa,G₀,H₀,ms,ρ,G,R,z1⟩:=Zcx M.len σ H Q z
 refine ⟨pa,G₀,H₀,ms,ρ,G,R,Tr.ok_mono z1 λm1 x kn v G1 H1 s1 w1 d1=>?_⟩
 obtain ⟨a,dx,fs,h1,h2,h3,h4⟩:=kn v G1 H1 s1 w1 d1
 refine ⟨a,dx,fs,h1,h2,h3,?_⟩
 obtain ⟨pa',G₀',H₀',ms',ρ',G',R',z'⟩:=h4
 exact z' [] G' H1 .refl R'.wd .nil
structure KDef (K:PySem.W.Frag) (C:Addr) (qual:Str) (st:Stmt) (ps:List Str):Prop where
 ex:∃ f fd,Fun K "__init__" qual st f fd/\Mk K C f/\Binds K fd ps []
structure KCal (PK:Pk) (P:Program) (w:World) (K:PySem.W.Frag) (mg:Str->Option Value) (base:Heap) (C:Addr) (k:Nat) (ps:List Str) (f:List Sl->Tr Re):Prop where
 ex:∃ g fd,FnOk P w K mg base eS k g fd ps (lp PK ps.length f)/\Mk K C g/\Binds K fd ps []
 len:∀ as m Z,(f as).ok m Z->as.length=ps.length
theorem ZiC {P:Program} {w:World} {K:PySem.W.Frag} {mg:Str->Option Value} {base:Heap} {qual:Str} {N ps:List Str} {kk k:Nat} {s:List Sl->Tr Ou} (D:KDef K C qual st ps) (S:FnScope N ps (bZ st)) (hk:N.length - ps.length=k)
  (hbody:∀ (f:Addr) (cdv:Value) (A:Around) (outer:List Env) (sh:Shared) (H:Hp) (E:XK),Room kk (A.deeper (envOfC qual (bZ st) sh.heap.objs.size f cdv)) ->
   PSs (fq eS P w K mg base N qual (bZ st) f cdv A outer sh H E).nox (eD st) (cP PK s)):KCal PK P w K mg base C (kk+1) ps (cO ps.length k s):=by
 obtain ⟨g,fd,F,M,hb⟩:=D.ex
 exact ⟨⟨g,fd,Zc4 F S hk hbody,M,hb⟩,sY⟩
noncomputable def mR (a:Addr):Re->Tr PyData
 | .d .none=>.ret (af a)
 | _=>.fail
theorem Ze3 {a:Addr} {r:Re} {m:Ms} {Q:Ms->PyData->Prop} (h:(mR a r).ok m Q):r=.d .none/\Q m (af a):=by
 unfold mR at h
 split at h
 ·exact ⟨rfl,h⟩
 ·exact h.elim
noncomputable def sV (C:Addr) (f:List Sl->Tr Re) (as:List Sl->Tr (List Sl)):List Sl->Tr PyData:=λρ=>(as ρ).bind λys=>.new (.ins C []) λa=>(f (.d (af a)::ys)).bind (mR a)
theorem Zm8 {x:Str} {k:Nat} {ps:List Str} {g:List Sl->Tr Re} (M:KCal PK X.prog X.w X.K X.mg X.base C k ps g) (hr:Room (k+1) X.A) (hg:Gl X x) (hm:X.mg x=some (.ref C)) (ha:PA X (e::es) (TAa PK as)) (hdb:(x == ("__debug__":Str))=false:=by decide)
  (he:starEach (e::es) X.env=(false,eval e X.env)::starEach es X.env:=by rfl) (hpl:(backTo pos (starEach es X.env)).any (·.1)=false:=by rfl) :
  PE X (.Call (.Name x p) (e::es) [] pos) (TAe PK (sV C g as)):=by
 obtain ⟨fa,fd,F,hM,hb⟩:=M.ex
 refine (Zhd hM F hr hg hm hb .nil lI ha hdb he hpl).imp λσ H Q hz0=>?_
 obtain ⟨pa,G₀,H₀,m,ρ,G,R,z⟩:=hz0
 refine TAa.then R z λm1 xs vs G1 H1 s1 w1 R1 d1 q1=>λa dx ha hdx hne=>?_
 have q2:=Tr.ok_bind.mp (q1 a (Zai w1 ha))
 obtain ⟨w2,s2⟩:=w1.own (o:=.own a) hdx
 have ha2:upd H1 dx (.own a) a=none:=by rw [ak (Ne.symm hne)]; exact ha
 obtain ⟨w3,s3⟩:=Zah w2 (c':=.ins C []) (o':=.ins C dx []) ha2 ⟨dx,[],cr,.nil⟩
 rw [List.append_nil]
 refine ⟨by rw [List.length_cons,d1.length,<- M.len _ _ _ q2]; rfl,pa,_,G1,_,w3,.cons (.d (.hdl a)) (d1.mono s3.gs),Tr.ok_mono q2 λm3 r k=>?_⟩
 obtain ⟨rfl,k⟩:=Ze3 k
 intro v G4 H4 s4 w4 d4
 have d4:Dn G4 v .none:=d4
 cases d4
 exact ⟨rfl,k (.ref a) G4 H4 (s1.trans ((s2.trans s3 w2.some).trans s4 w3.some) w1.some) w4 (.hdl a)⟩
end
variable {X:Cx} {i j:List Sl->Tr PyData} {ρ:List Sl}
variable {X:Cx} {i j:List Sl->Tr PyData} {ρ:List Sl}
noncomputable def putS {α:Type} (k:Str) (v:α) (l:List (Str×α)):List (Str×α) :=
 if (l.any λp=>decide (p.1=k))=true then l.map (λp=>if p.1=k then (p.1,v) else p) else l++[(k,v)]
theorem om {a k:Str}:((Sum.inr a:b8)=Sum.inr k) ↔ a=k:=⟨λh=>Sum.inr.inj h,λh=>by rw [h]⟩
theorem Zan (k:Str):∀ vs:List (Str×V),gQ (vs.map fG) (Sum.inr k:b8)=vs.lookup k
 | []=>rfl
 | (g,v)::r=>by
  have ih:=Zan k r
  rw [List.map_cons]
  by_cases e:k=g
  ·subst e
   rw [mO rfl]
   simp [List.lookup]
  ·rw [mP (λh=>e (om.mp h).symm),ih]
   have:(k == g)=false:=beq_eq_false_iff_ne.mpr e
   simp only [List.lookup,this]
theorem ZbR (k:Str) (v:V) (vs:List (Str×V)):fj (vs.map fG) (Sum.inr k:b8) v=(putS k v vs).map fG:=by
 have h1:((vs.map fG).any λkv=>decide (kv.1=(Sum.inr k:b8)))=vs.any λp=>decide (p.1=k):=by
  induction vs with
  | nil=>rfl
  | cons p r ih =>
   rw [List.map_cons,List.any_cons,List.any_cons,ih]
   congr 1
   exact decide_eq_decide.mpr om
 unfold fj putS
 rw [h1]
 split
 ·rw [List.map_map,List.map_map]
  refine List.map_congr_left λp _=>?_
  show (if (Sum.inr p.1:b8)=Sum.inr k then _ else _)=fG (if p.1=k then _ else _)
  by_cases e:p.1=k
  ·rw [if_pos e,if_pos (om.mpr e)]
  ·rw [if_neg e,if_neg (λh=>e (om.mp h))]
 ·rw [List.map_append]; rfl
theorem FD.putS {G:Hp} {k:Str} {v:V} {d:PyData} (h:Dn G v d) {vs:List (Str×V)} {ds:List (Str×PyData)} (f:FD G vs ds):FD G (L2.putS k v vs) (L2.putS k d ds):=by
 have ha:(vs.any λp=>decide (p.1=k))=ds.any λp=>decide (p.1=k):=by
  induction f with
  | nil=>rfl
  | cons _ _ ih=>rw [List.any_cons,List.any_cons,ih]
 have hm:FD G (vs.map λp=>if p.1=k then (p.1,v) else p) (ds.map λp=>if p.1=k then (p.1,d) else p):=by
  clear ha
  induction f with
  | nil=>exact .nil
  | @cons g u d' vs ds h1 h2 ih =>
   rw [List.map_cons,List.map_cons]
   by_cases e:g=k
   ·rw [if_pos e,if_pos e]; exact .cons h ih
   ·rw [if_neg e,if_neg e]; exact .cons h1 ih
 have hs:FD G (vs++[(k,v)]) (ds++[(k,d)]):=by
  clear ha hm
  induction f with
  | nil=>exact .cons h .nil
  | cons h1 _ ih=>exact .cons h1 ih
 unfold L2.putS
 rw [ha]
 split
 ·exact hm
 ·exact hs
noncomputable def ji (k:Str) (a:Addr) (st:Sto):Option (Sto×PyData):=match st.get a with
 | some (.dct kvs)=>(kvs.lookup k).map λx=>(st,x)
 | _=>none
theorem Zgy {a:Addr} {k:Str} {st s:Sto} {y:PyData} (h:ji k a st=some (s,y)):s=st/\∃ kvs,st.get a=some (.dct kvs)/\kvs.lookup k=some y:=by
 unfold ji at h
 split at h
 ·rename_i kvs e
  cases e2:kvs.lookup k with
  | none=>rw [e2] at h; cases h
  | some z =>
   rw [e2] at h
   cases h
   exact ⟨rfl,kvs,e,e2⟩
 ·cases h
noncomputable def jG (k:Str) (y:PyData) (a:Addr) (st:Sto):Option (Sto×PyData):=match st.get a with
 | some (.dct kvs)=>if kvs.length < 1000 then some (st.put a (.dct (putS k y kvs)),.none) else none
 | _=>none
theorem ZeH {a:Addr} {k:Str} {st s:Sto} {x y:PyData} (h:jG k x a st=some (s,y)):∃ kvs,st.get a=some (.dct kvs)/\kvs.length < 1000/\s=st.put a (.dct (putS k x kvs)):=by
 unfold jG at h
 split at h
 ·rename_i kvs e
  split at h
  ·rename_i hl
   cases h
   exact ⟨kvs,e,hl,rfl⟩
  ·cases h
 ·cases h
section
variable {PK:Pk} {X:Cx} {k:Str} {o e value:Expr} {es:List Expr} {pos pos' p:Pos} {i j:List Sl->Tr PyData} {is:List Sl->Tr (List PyData)} {st:Stmt}
noncomputable def eC (k:Str) (i:List Sl->Tr PyData):List Sl->Tr PyData:=λρ=>(i ρ).bind λx=>fE x (ji k)
theorem eG {kk:Nat} (hu:X.A.units+1 < cLine) (ho:PE X o (TAe PK i)):PE X (.Subscript o (.Constant (.str k) kk p) pos) (TAe PK (eC k i)):=(Zhk hu ho fS (λ_ _=>rfl)).imp λσ H Q hz0=>by
 obtain ⟨pa,G₀,H₀,m,ρ,G,R,q⟩:=hz0
 refine TAe.then R q λm1 x v G1 H1 s1 w1 R1 d1 q1=>?_
 obtain ⟨a,s,y,ha,hg,kn⟩:=f9 q1
 obtain ⟨rfl,rfl⟩:=gK d1 ha
 obtain ⟨rfl,kvs,e1,e2⟩:=Zgy hg
 obtain ⟨vs,e3,e4⟩:=w1.sto.cel a _ e1
 obtain ⟨u,e5,e6⟩:=e4.lookup e2
 exact ⟨a,u,rfl,.inl ⟨_,Sum.inr k,.inr (.inr e3),rfl,by rw [Zan]; exact e5.symm⟩,(Kn.later kn s1 w1.some).here w1 e6⟩
noncomputable def iZ (k:Str) (i j:List Sl->Tr PyData):List Sl->Tr Ou:=λρ=>(j ρ).bind λy=>(i ρ).bind λx=>(fE x (jG k y)).bind λ_=>.ret (.next ρ)
theorem km {kk:Nat} (hu:X.A.units+1 < cLine) (ho:PE X o (TAe PK i)) (hv:PE X value (TAe PK j)) (hs:swapsWith value (some (.Subscript o (.Constant (.str k) kk p) pos')) pos.line X.env=pure false:=by rfl) :
  PS X (.Assign [.Subscript o (.Constant (.str k) kk p) pos'] value pos) (cP PK (iZ k i j)):=(ZgW hu ho.cvR fS hv hs).cvR.imp λD σ H hz0=>by
 obtain ⟨pa,G₀,H₀,m,ρ,G,R,z⟩:=hz0
 refine TAe.then R z λm1 y v G1 H1 s1 w1 R1 d1 q1=>?_
 refine TAe.then R1 q1 λm2 x u G2 H2 s2 w2 R2 d2 q2=>?_
 obtain ⟨a,s,y',ha,hg,kn⟩:=f9 (Tr.ok_bind.mp q2)
 obtain ⟨rfl,rfl⟩:=gK d2 ha
 obtain ⟨kvs,e1,hl,rfl⟩:=ZeH hg
 obtain ⟨vs,e3,e4⟩:=w2.sto.cel a _ e1
 obtain ⟨w3,s3⟩:=ly w2 (c':=.dct (putS k y kvs)) (o':=.chg (.dK ((putS k v vs).map fG))) e1 rfl ⟨_,cr,e4.putS (d1.mono s2.gs)⟩
 refine ⟨_,Cv.opn e3,a,_,rfl,DPut.k (k:=Sum.inr k) cr (by rw [List.length_map,e4.length]; exact Nat.lt_of_lt_of_le hl (by rw [sizeLine_eq]; decide)),_,Cv.shut cr rfl,?_⟩
 rw [jc,jc,ZbR]
 exact kn σ G2 _ (s1.gs.trans s2.gs) (R2.step s3 w3)
noncomputable def jz:List (Str×(List Sl->Tr PyData))->List Sl->Tr (List (Str×PyData))
 | [],_=>.ret []
 | (k,i)::r,ρ=>(i ρ).bind λx=>(jz r ρ).bind λxs=>.ret ((k,x)::xs)
noncomputable def pc (X:Cx) (PK:Pk) (pos:Pos) (keys:List (Option Expr)) (values:List Expr) (ps:List (Str×(List Sl->Tr PyData))):Prop:=mx X pos keys values (ps.map λp=>(tC (.str p.1),TAe PK p.2))
theorem Zhq:pc X PK pos [] [] []:=ZbW
theorem nw {kk:Nat} {keys:List (Option Expr)} {values:List Expr} {ps:List (Str×(List Sl->Tr PyData))} (hv:PE X e (TAe PK i)) (hr:pc X PK pos keys values ps):pc X PK pos (some (.Constant (.str k) kk p)::keys) (e::values) ((k,i)::ps):=ZbX fS hv hr
theorem ZbT:∀ (ps:List (Str×(List Sl->Tr PyData))) {pa:Addr} {G₀ H₀ G H:Hp} {m:Ms} {σ:St} {ρ:List Sl} {Q:List (V×V)->Hp->Prop},Rl PK pa G₀ H₀ m σ ρ G H->((jz ps ρ).ok m λm' xs=>∀ vs G' H',Stp pa G H G' H'->Wd PK pa m' G' H'->FD G' vs xs->Q (vs.map λp=>(V.str p.1,p.2)) H')->mU (ps.map λp=>(tC (.str p.1),TAe PK p.2)) σ H Q
 | [],pa,G₀,H₀,G,H,m,σ,ρ,Q,R,h=>h [] G H .refl R.wd .nil
 | (k,i)::r,pa,G₀,H₀,G,H,m,σ,ρ,Q,R,h=>by
  refine ⟨pa,G₀,H₀,m,ρ,G,R,Tr.ok_mono (Tr.ok_bind.mp h) λm1 x q1 v G1 H1 s1 w1 d1=>?_⟩
  refine ZbT r (R.step s1 w1) (Tr.ok_mono (Tr.ok_bind.mp q1) λm2 xs q2 vs G2 H2 s2 w2 d2=>?_)
  exact q2 ((k,v)::vs) G2 H2 (s1.trans s2 w1.some) w2 (.cons (d1.mono s2.gs) d2)
theorem ZeN {pa a:Addr} {m:Ms} {G H:Hp} {o o':HO} {c':Cel} (w:Wd PK pa m G H) (h:H a=some o) (hn:nch o=true) (hg:G a=none) (hp:a≠pa) (k:ThOk G (upd H a o') a c'):m.st.get a=none/\Wd PK pa ⟨m.n,m.st.put a c'⟩ G (upd H a o'):=by
 have hf:∀ c,m.st.get a≠some c:=λc e=>by
  obtain ⟨u,e1,e2⟩:=(w.sto.cel a c e).at
  rw [h] at e1; cases e1
  rw [hn] at e2; cases e2
 have hk:∀ b u,H b=some u->b≠a->upd H a o' b=some u:=λb u e z=>by rw [ak z]; exact e
 refine ⟨?_,λb u e=>hk b u (w.sub b u e) λz=>(by subst z; rw [hg] at e; cases e),w.gpa,?_,⟨λb d e=>?_,λb d e=>?_⟩⟩
 ·cases e:m.st.get a with
  | none=>rfl
  | some c=>exact absurd e (hf c)
 ·obtain ⟨u,e,q⟩:=w.pen
  exact ⟨u,hk _ u e (Ne.symm hp),q⟩
 ·by_cases z:b=a
  ·subst z
   rw [show (Ms.st ⟨m.n,m.st.put b c'⟩)=m.st.put b c' from rfl,Sto.put_same] at e; cases e
   exact k
  ·rw [show (Ms.st ⟨m.n,m.st.put a c'⟩)=m.st.put a c' from rfl,Sto.put_ne z] at e
   exact (w.sto.cel b d e).step (λ_ _ h=>h) λu q _=>hk b u q z
 ·by_cases z:b=a
  ·subst z; exact hg
  ·rw [show (Ms.st ⟨m.n,m.st.put a c'⟩)=m.st.put a c' from rfl,Sto.put_ne z] at e
   exact w.sto.gn b d e
theorem Zfy {pa p:Addr} {G H G' H':Hp} {o o':HO} (s:Stp pa G (upd H p o) G' H') (hp:H p=none):Stp pa G H G' (upd H' p o'):=by
 have up:∀ b u,H b=some u->b≠p/\upd H p o b=some u:=λb u e=>by
  have z:b≠p:=eT e hp
  exact ⟨z,by rw [ak z]; exact e⟩
 refine ⟨s.gs,λb u e=>?_,λb u e n k=>?_,λb u e=>?_⟩
 ·by_cases z:b=p
  ·subst z; exact .inr (.inl hp)
  ·rcases s.gn b u e with q | q | ⟨hb,xs,q⟩
   ·exact .inl q
   ·rw [ak z] at q; exact .inr (.inl q)
   ·rw [ak z] at q; exact .inr (.inr ⟨hb,xs,q⟩)
 ·obtain ⟨z,e'⟩:=up b u e
  rw [ak z]
  exact s.hk b u e' n k
 ·obtain ⟨z,e'⟩:=up b u e
  rw [ak z]
  exact s.al b u e'
theorem Zcy:∀ (more kvs:List (Str×V)),(kvs++more).map (·.1) |>.Nodup->iM (kvs.map fG) (more.map fG)=(kvs++more).map fG
 | [],kvs,_=>by rw [List.append_nil]; rfl
 | (k,v)::r,kvs,h=>by
  have hk:k ∉ kvs.map (·.1):=by
   rw [List.map_append,List.map_cons] at h
   exact λz=>(List.nodup_append.mp h).2.2 k z k List.mem_cons_self rfl
  have ha:(kvs.any λp=>decide (p.1=k))=false:=by
   rw [List.any_eq_false]
   intro p hp
   simp only [decide_eq_true_eq]
   exact λe=>hk (e ▸ List.mem_map_of_mem hp)
  have e1:fj (kvs.map fG) (Sum.inr k:b8) v=(kvs++[(k,v)]).map fG:=by
   rw [ZbR]
   unfold putS
   rw [ha]
   rfl
  show iM (fj (kvs.map fG) (Sum.inr k:b8) v) (r.map fG)=_
  rw [e1,Zcy r (kvs++[(k,v)]) (by rw [List.append_assoc]; exact h),List.append_assoc]
  rfl
noncomputable def lN (xs:List (Str×PyData)):Bool:=decide ((xs.map (·.1)).Nodup/\xs.length<=15)
noncomputable def sX (ps:List (Str×(List Sl->Tr PyData))):List Sl->Tr PyData:=λρ=>(jz ps ρ).bind λxs=>if lN xs=true then .new (.dct xs) λa=>.ret (af a) else .fail
theorem FD.keys {G:Hp} {vs:List (Str×V)} {ds:List (Str×PyData)} (h:FD G vs ds):vs.map (·.1)=ds.map (·.1):=by
 induction h with
 | nil=>rfl
 | cons _ _ ih=>rw [List.map_cons,List.map_cons,ih]
theorem Zna {keys:List (Option Expr)} {values:List Expr} {ps:List (Str×(List Sl->Tr PyData))} (h:pc X PK pos keys values ps) (hall:keys.all (·.isSome)=true) (hl:keys.length=values.length) (h0:keys≠[]) (h1:keys.length<=15):PE X (.Dict keys values pos) (TAe PK (sX ps)):=(Zb9 h hall hl h0 h1).cvR.imp λσ H Q hz0 p hp=>by
 obtain ⟨pa,G₀,H₀,m,ρ,G,R,q⟩:=hz0
 obtain ⟨w0,s0⟩:=R.wd.own (o:=.dK []) hp
 have hne:p≠pa:=Ne.symm (R.wd.ne hp)
 refine ZbT ps (R.step s0 w0) (Tr.ok_mono (Tr.ok_bind.mp q) λm1 xs q1 vs G1 H1 s1 w1 d1=>?_)
 have hp1:H1 p=some (.dK []):=s1.hk p _ cr hne rfl
 have hg:G1 p=none:=by
  cases e:G1 p with
  | none=>rfl
  | some u =>
   rcases s1.gn p u e with z | z | ⟨_,_,z⟩
   ·rw [R.wd.gnone hp] at z; cases z
   ·rw [cr] at z; cases z
   ·rw [cr] at z; cases z
 obtain ⟨hks,q1⟩:=fK q1
 obtain ⟨hnd,hlen⟩:=of_decide_eq_true hks
 have hnd':(vs.map (·.1)).Nodup:=by rw [d1.keys]; exact hnd
 have em:iM [] (vs.map fG)=vs.map fG:=Zcy vs [] hnd'
 obtain ⟨hf,w2⟩:=ZeN w1 (o':=.chg (.dK (vs.map fG))) (c':=.dct xs) hp1 rfl hg hne ⟨vs,cr,d1⟩
 refine ⟨hp1,vs.map fG,by rw [List.map_map]; rfl,by rw [List.length_map,d1.length]; exact hlen,_,Cv.shut cr rfl,?_⟩
 rw [em,jc]
 exact q1 p hf (.ref p) G1 _ (Zfy s1 hp) w2 (.hdl p)
noncomputable def oU (is:List Sl->Tr (List PyData)):List Sl->Tr PyData:=λρ=>(is ρ).bind λxs=>if small xs.length=true then .new (.lst xs) λa=>.ret (af a) else .fail
theorem Zek (h:PA X es (TAd PK is)):PE X (.List es pos) (TAe PK (oU is)):=(jj h).cvR.imp λσ H Q hz0=>by
 obtain ⟨pa,G₀,H₀,m,ρ,G,R,z⟩:=hz0
 refine TAd.then R z λm1 xs vs G1 H1 s1 w1 R1 d1 q1=>?_
 obtain ⟨hs,q1⟩:=fK q1
 refine ⟨by rw [d1.length]; exact of_decide_eq_true hs,λp hp=>⟨_,Cv.shut cr rfl,?_⟩⟩
 rw [jc]
 obtain ⟨w2,s2⟩:=Zah w1 (c':=.lst xs) (o':=.chg (.lst vs)) hp ⟨vs,cr,d1⟩
 exact q1 p (Zai w1 hp) (.ref p) G1 _ (s1.trans s2 w1.some) w2 (.hdl p)
noncomputable def jT (a:Addr) (st:Sto):Option (Sto×PyData):=match st.get a with
 | some (.lst xs)=>some (st,.list xs)
 | _=>none
theorem Zgx {a:Addr} {st s:Sto} {y:PyData} (h:jT a st=some (s,y)):s=st/\∃ xs,st.get a=some (.lst xs)/\y=.list xs:=by
 unfold jT at h
 split at h
 ·rename_i xs e
  cases h
  exact ⟨rfl,xs,e,rfl⟩
 ·cases h
noncomputable def gg (a:Addr) (st:Sto):Option (Sto×PyData):=match st.get a with
 | some (.lst xs)=>some (st,.int xs.length)
 | _=>none
theorem qT {a:Addr} {st s:Sto} {y:PyData} (h:gg a st=some (s,y)):s=st/\∃ xs,st.get a=some (.lst xs)/\y=.int xs.length:=by
 unfold gg at h
 split at h
 ·rename_i xs e
  cases h
  exact ⟨rfl,xs,e,rfl⟩
 ·cases h
noncomputable def kq (y:PyData) (a:Addr) (st:Sto):Option (Sto×PyData):=match st.get a with
 | some (.lst xs)=>if small (xs.length+1)=true then some (st.put a (.lst (xs++[y])),.none) else none
 | _=>none
theorem Zm1 {a:Addr} {st s:Sto} {x y:PyData} (h:kq x a st=some (s,y)):∃ xs,st.get a=some (.lst xs)/\xs.length < sizeLine/\s=st.put a (.lst (xs++[x]))/\y=.none:=by
 unfold kq at h
 split at h
 ·rename_i xs e
  split at h
  ·rename_i hs
   cases h
   exact ⟨xs,e,of_decide_eq_true hs,rfl,rfl⟩
  ·cases h
 ·cases h
noncomputable def kL (a:Addr) (st:Sto):Option (Sto×PyData):=match st.get a with
 | some (.lst xs)=>(xs[xs.length - 1]?).map λy=>(st.put a (.lst xs.dropLast),y)
 | _=>none
theorem Zg0 {a:Addr} {st s:Sto} {y:PyData} (h:kL a st=some (s,y)):∃ xs,st.get a=some (.lst xs)/\xs[xs.length - 1]?=some y/\s=st.put a (.lst xs.dropLast):=by
 unfold kL at h
 split at h
 ·rename_i xs e
  cases e2:xs[xs.length - 1]? with
  | none=>rw [e2] at h; cases h
  | some z =>
   rw [e2] at h
   cases h
   exact ⟨xs,e,e2,rfl⟩
 ·cases h
theorem DnAll.dropLast {G:Hp}:∀ {vs:List V} {ds:List PyData},DnAll G vs ds->DnAll G vs.dropLast ds.dropLast
 | _,_,.nil=>.nil
 | _,_,.cons h .nil=>.nil
 | _,_,.cons h (.cons h2 t)=>.cons h (DnAll.dropLast (.cons h2 t))
noncomputable def mr (i j:List Sl->Tr PyData):List Sl->Tr PyData:=λρ=>(i ρ).bind λx=>(fE x gg).bind λ_=>(j ρ).bind λy=>fE x (kq y)
theorem sQ {K:PySem.W.Frag} (h:PE X e (pQ K "list" (λx vs H Q=>∃ H1,Cv H H1/\qp x vs H1 λv H2=>∃ H3,Cv H2 H3/\Q v H3) (TAe PK i) (iC (TAe PK j) fi))):PE X e (TAe PK (mr i j)):=h.imp λσ H Q hz0=>by
 obtain ⟨pa,G₀,H₀,m,ρ,G,R,z⟩:=hz0
 refine TAe.then R z λm1 x v G1 H1 s1 w1 R1 d1 q1=>?_
 obtain ⟨a,s,y,ha,hg,q1⟩:=f9 (Tr.ok_bind.mp q1)
 obtain ⟨rfl,rfl⟩:=gK d1 ha
 obtain ⟨rfl,xs,e1,_⟩:=qT hg
 obtain ⟨vs,e3,e4⟩:=w1.sto.cel a _ e1
 refine ⟨.inl ⟨rfl,_,.inl (.inr (.inr e3))⟩,?_⟩
 refine TAe.then R1 q1 λm2 y u G2 H2 s2 w2 R2 d2 q2=>?_
 obtain ⟨a',s',y',ha',hg',k⟩:=f9 q2
 rw [ha] at ha'; cases ha'
 obtain ⟨ys,f1,hl,rfl,rfl⟩:=Zm1 hg'
 obtain ⟨us,f3,f4⟩:=w2.sto.cel a _ f1
 obtain ⟨w3,s3⟩:=ly w2 (c':=.lst (ys++[y])) (o':=.chg (.lst (us++[u]))) f1 rfl ⟨_,cr,f4.snoc d2⟩
 refine ⟨_,Cv.opn f3,a,us,u,rfl,rfl,cr,by rw [f4.length]; exact hl,_,Cv.shut cr rfl,?_⟩
 rw [jc,jc]
 exact k .non G2 _ ((s1.trans s2 w1.some).trans s3 w2.some) w3 .non
noncomputable def mj (i:List Sl->Tr PyData):List Sl->Tr PyData:=λρ=>(i ρ).bind λx=>fE x kL
theorem sN {K:PySem.W.Frag} (h:PE X e (pP K "list" (λx vs H Q=>∃ H1,Cv H H1/\ZbB x vs H1 λv H2=>∃ H3,Cv H2 H3/\Q v H3) (TAe PK i))):PE X e (TAe PK (mj i)):=h.imp λσ H Q hz0=>by
 obtain ⟨pa,G₀,H₀,m,ρ,G,R,z⟩:=hz0
 refine TAe.then R z λm1 x v G1 H1 s1 w1 R1 d1 q1=>?_
 obtain ⟨a,s,y,ha,hg,k⟩:=f9 q1
 obtain ⟨rfl,rfl⟩:=gK d1 ha
 obtain ⟨xs,e1,e2,rfl⟩:=Zg0 hg
 obtain ⟨vs,e3,e4⟩:=w1.sto.cel a _ e1
 obtain ⟨u,hu,du⟩:=e4.get _ e2
 obtain ⟨w3,s3⟩:=ly w1 (c':=.lst xs.dropLast) (o':=.chg (.lst vs.dropLast)) e1 rfl ⟨_,cr,e4.dropLast⟩
 refine ⟨.inl ⟨rfl,_,.inl (.inr (.inr e3))⟩,_,Cv.opn e3,a,vs,u,rfl,rfl,cr,by rw [e4.length]; exact hu,_,Cv.shut cr rfl,?_⟩
 rw [jc,jc]
 exact k u G1 _ (s1.trans s3 w1.some) w3 du
noncomputable def kP:PyData->Tr Bool
 | .int n=>.ret (n != 0)
 | _=>.fail
theorem ZhK {x:PyData} {m:Ms} {Q:Ms->Bool->Prop} (h:(kP x).ok m Q):∃ n,x=.int n/\Q m (n != 0):=by
 unfold kP at h
 split at h
 ·exact ⟨_,rfl,h⟩
 ·exact h.elim
noncomputable def oO (i:List Sl->Tr PyData):List Sl->Tr Bool:=λρ=>(i ρ).bind λx=>(fE x gg).bind kP
theorem ZcI {α:Type} (xs:List α):(((xs.length:Nat):Int) != 0)=!xs.isEmpty:=by
 cases xs with
 | nil=>rfl
 | cons a r =>
  show (((r.length+1:Nat):Int) != 0)=true
  rw [bne_iff_ne]
  omega
theorem Zd3 (h:PE X e (TAe PK i)) (he:∀ whole,isTrue e X.env whole=(do let v <- whole; standAt e.pos; holding [v] (truthy v)):=by intro _; rfl):PT X e (TAt PK (oO i)):=(ZbS h he).imp λσ H Q hz0=>by
 obtain ⟨pa,G₀,H₀,m,ρ,G,R,q⟩:=hz0
 refine TAe.then R q λm1 x v G1 H1 s1 w1 R1 d1 q1=>?_
 obtain ⟨a,s,y,ha,hg,k⟩:=f9 (Tr.ok_bind.mp q1)
 obtain ⟨rfl,rfl⟩:=gK d1 ha
 obtain ⟨rfl,xs,e1,rfl⟩:=qT hg
 obtain ⟨vs,e3,e4⟩:=w1.sto.cel a _ e1
 obtain ⟨n,hn,k⟩:=ZhK k
 cases hn
 rw [ZcI,<- e4.isEmpty] at k
 exact ⟨_,.inl ⟨_,.inl (.inr (.inr e3)),rfl⟩,k G1 H1 s1 w1⟩
noncomputable def qo (K:PySem.W.Frag) (neg:Bool):R2:=λx y H Q=>∃ p q xs,x=.ref p/\y=.ref q/\SqL K H p xs/\SqL K H q []/\Q (.bl (if neg then !xs.isEmpty else xs.isEmpty)) H
theorem Zhz {k:Nat} (hr:Room k X.A):OpR X (compareOp .Eq) (qo X.K false):=by
 intro pins s σ H x y v u Q I rx ry h
 obtain ⟨p,q,xs,rfl,rfl,h1,h2,z⟩:=h
 cases rx
 cases ry
 obtain ⟨its,r,pl,hz⟩:=I.list h1
 obtain ⟨its2,r2,pl2,hz2⟩:=I.list h2
 have hu:X.A.units < cLine:=by have:=hr.un; omega
 cases r2
 cases r with
 | nil=>exact SeqAt.eq_listAt (e:=λ_=>true) pl.isList pl2.isList rfl hu (λj h1=>absurd h1 (by simp)) ⟨.bl _,H,I,rfl,z⟩
 | cons a b=>exact SeqAt.eq_list_lengthsAt pl.isList pl2.isList (by simp) hu ⟨.bl _,H,I,rfl,z⟩
noncomputable def kh (neg:Bool):PyData->Tr PyData
 | .int n=>.ret (.bool (if neg then n != 0 else !(n != 0)))
 | _=>.fail
theorem Zlu {neg:Bool} {x:PyData} {m:Ms} {Q:Ms->PyData->Prop} (h:(kh neg x).ok m Q):∃ n,x=.int n/\Q m (.bool (if neg then n != 0 else !(n != 0))):=by
 unfold kh at h
 split at h
 ·exact ⟨_,rfl,h⟩
 ·exact h.elim
noncomputable def rT (neg:Bool) (x:PyData):PyData->Tr PyData
 | .list []=>(fE x gg).bind (kh neg)
 | _=>.fail
theorem Zlt {neg:Bool} {x y:PyData} {m:Ms} {Q:Ms->PyData->Prop} (h:(rT neg x y).ok m Q):y=.list []/\((fE x gg).bind (kh neg)).ok m Q:=by
 unfold rT at h
 split at h
 ·exact ⟨rfl,h⟩
 ·exact h.elim
noncomputable def oX (neg:Bool) (i j:List Sl->Tr PyData):List Sl->Tr PyData:=λρ=>(i ρ).bind λx=>(j ρ).bind (rT neg x)
theorem Zls {neg:Bool}:∀ σ H Q,TAe PK (oX neg i j) σ H Q->kD (qo X.K neg) (TAe PK i) (TAe PK j) σ H Q:=by
 rintro σ H Q ⟨pa,G₀,H₀,m,ρ,G,R,q⟩
 refine TAe.then R q λm1 x v G1 H1 s1 w1 R1 d1 q1=>?_
 refine TAe.then R1 q1 λm2 y u G2 H2 s2 w2 R2 d2 q2=>?_
 obtain ⟨rfl,q2⟩:=Zlt q2
 obtain ⟨a,s,y,ha,hg,k⟩:=f9 (Tr.ok_bind.mp q2)
 obtain ⟨rfl,rfl⟩:=gK d1 ha
 obtain ⟨rfl,xs,e1,rfl⟩:=qT hg
 obtain ⟨vs,e3,e4⟩:=w2.sto.cel a _ e1
 obtain ⟨n,hn,k⟩:=Zlu k
 cases hn
 cases d2 with
 | lst f1 f2 =>
  cases f2
  refine ⟨a,_,vs,rfl,rfl,.inl (.inr (.inr e3)),SqL.of (w2.sub _ _ f1),?_⟩
  rw [ZcI,Bool.not_not,<- e4.isEmpty] at k
  exact (Kn.later k (s1.trans s2 w1.some) w2.some).here w2 (.bl _)
theorem ZmQ {op:CmpOp} {a b:Expr} {neg:Bool} (hop:OpR X (compareOp op) (qo X.K neg)) (ha:PE X a (TAe PK i)) (hb:PE X b (TAe PK j)) (hm:behindInMarks op b=false):PT X (.Compare a [op] [b] pos) (TAt PK (d7 (oX neg i j))):=(jW hop ha hb hm).imp λσ H Q z=>Zaw Zls σ H Q (Zeq σ H Q z)
end
noncomputable def stil {α:Type}:Tr α->Tr α
 | .ret a=>.ret a
 | .draw n k=>.draw n λr=>stil (k r)
 | .fail=>.fail
 | .op _ _=>.fail
 | .new _ _=>.fail
theorem ZaB {α:Type}:∀ {t:Tr α} {m:Ms} {Q:Ms->α->Prop},(stil t).ok m Q->t.ok m λm' a=>m'.st=m.st/\Q m' a
 | .ret a,m,Q,h=>⟨rfl,h⟩
 | .draw n k,m,Q,⟨h1,h2,h3,h⟩=>⟨h1,h2,h3,λr a b=>ZaB (m:=m.up) (h r a b)⟩
 | .fail,m,Q,h=>h
 | .op _ _,m,Q,h=>h.elim
 | .new _ _,m,Q,h=>h.elim
theorem pS {α:Type} (a:α):stil (.ret a)=.ret a:=rfl
noncomputable def Zew (PK:Pk) (pa:Addr) (J:It) (G:Hp) (st:Sto) (xs:List PyData):Prop:=∀ m G2 H2,Sub G G2->Wd PK pa m G2 H2->m.st=st ->
 (∀ (n:Nat) (d:PyData),xs[n]?=some d->J.go n H2/\∀ x H3,J.yld n H2 x H3->∃ G3,Stp pa G2 H2 G3 H3/\Wd PK pa m G3 H3/\Dn G3 x d)/\J.stop xs.length H2
noncomputable def o6 (PK:Pk) (is:List Sl->Tr (List PyData)):TI:=λσ H R=>∃ pa G₀ H₀ m ρ G,Rl PK pa G₀ H₀ m σ ρ G H/\(is ρ).ok m λm' xs=>∀ J G' H',Stp pa G H G' H'->Wd PK pa m' G' H'->Zew PK pa J G' m'.st xs->R J H'
noncomputable def oi (x:PyData):Tr (List PyData):=Tr.of (js x)
noncomputable def mo (i:List Sl->Tr PyData):List Sl->Tr (List PyData):=λρ=>(i ρ).bind λx=>(fE x jT).bind oi
section
variable {PK:Pk} {X:Cx} {e:Expr} {i:List Sl->Tr PyData} {is:List Sl->Tr (List PyData)} {st:Stmt}
theorem sM {tg l:Expr} (hl:PE X l (TAe PK i)):PI X tg l (o6 PK (mo i)):=(Zg5 hl).imp λσ H R0 hz0=>by
 obtain ⟨pa,G₀,H₀,m,ρ,G,R,z⟩:=hz0
 refine TAe.then R z λm1 x v G1 H1 s1 w1 R1 d1 q1=>?_
 obtain ⟨a,s,y,ha,hg,k⟩:=f9 (Tr.ok_bind.mp q1)
 obtain ⟨rfl,rfl⟩:=gK d1 ha
 obtain ⟨rfl,xs,e1,rfl⟩:=Zgx hg
 have k:∀ J G' H',Stp pa G H G' H'->Wd PK pa m1 G' H'->Zew PK pa J G' m1.st xs->R0 J H':=k
 obtain ⟨vs,e3,e4⟩:=w1.sto.cel a _ e1
 refine ⟨a,rfl,⟨vs,.inl (.inr (.inr e3))⟩,k _ G1 H1 s1 w1 λm2 G2 H2 sb w2 es=>?_⟩
 obtain ⟨us,f3,f4⟩:=w2.sto.cel a (.lst xs) (by rw [es]; exact e1)
 have hq:SqL X.K H2 a us:=.inl (.inr (.inr f3))
 refine ⟨λn x hx=>?_,us,hq,by rw [f4.length]; exact Nat.le_refl _⟩
 obtain ⟨v,hv,dv⟩:=f4.get n hx
 refine ⟨⟨us,v,hq,hv⟩,λy H3 hz0=>?_⟩
 obtain ⟨e,hy⟩:=hz0
 subst e
 have:=hy us hq
 rw [hv] at this
 cases this
 exact ⟨G2,.refl,w2,dv⟩
noncomputable def ku (is:List Sl->Tr (List PyData)) (n:Nat) (ix:List Nat) (g:PyData->List Sl->Option (List Sl)) (el:List Sl->Tr PyData):List Sl->Tr (List PyData):=λρ =>
 (is ρ).bind λxs=>if small xs.length=true then eY (λx=>stil ((Tr.of (g x (blk n ix ρ))).bind el)) xs else .fail
theorem ZcK {n:Nat} {ix:List Nat} {g:PyData->List Sl->Option (List Sl)} (hn:iw n g):∀ σ H Q,i7 PK (ku is n ix g i) σ H Q->jJ (o6 PK is) n ix (λ_=>gN PK g) (λ_=>TAe PK i) σ H Q:=by
 rintro σ H Q ⟨pa,G₀,H₀,m,ρ,G,R,z⟩
 refine ⟨pa,G₀,H₀,m,ρ,G,R,Tr.ok_mono (Tr.ok_bind.mp z) λm1 xs k J G1 H1 s1 w1 jo=>λB=>?_⟩
 obtain ⟨hs,k⟩:=fK k
 have hs:xs.length<=sizeLine:=of_decide_eq_true hs
 let el:PyData->Tr PyData:=λx=>stil ((Tr.of (g x (blk n ix ρ))).bind i)
 let W:Nat->Nat->St->List V->Hp->Prop:=λk mm τ ys H2=>mm=xs.length - k/\k<=xs.length/\ys.length=k/\∃ m G2 ds,Sub G1 G2/\m.st=m1.st/\Stp pa G H G2 H2/\Rl PK pa G₀ H₀ m τ (blk n ix ρ) G2 H2 /\
  DnAll G2 ys ds/\(eY el (xs.drop k)).ok m λm' zs=>Ko1 PK pa m' G H (ds++zs) Q
 refine ⟨W,⟨xs.length,rfl,Nat.zero_le _,rfl,m1,G1,[],.refl,rfl,s1,(R.step s1 w1).blk n ix,.nil,k⟩,?_⟩
 rintro k mm τ ys H2 ⟨rfl,hk,hy,m2,G2,ds,sb,es,st2,R2,dn,k2⟩
 obtain ⟨j1,j2⟩:=jo m2 G2 H2 sb R2.wd es
 by_cases hlt:k < xs.length
 ·have hx:xs[k]?=some xs[k]:=by simp [hlt]
  obtain ⟨jg,jy⟩:=j1 k _ hx
  refine .inr ⟨jg,by omega,λx H3 y=>?_⟩
  obtain ⟨G3,s3,w3,d3⟩:=jy x H3 y
  rw [List.drop_eq_getElem_cons hlt] at k2
  unfold eY at k2
  rw [Tr.ok_bind] at k2
  replace k2:=Tr.ok_bind.mp (ZaB k2)
  obtain ⟨ρ3,hg3,k3⟩:=Tr.ok_of k2
  refine ⟨pa,G₀,H₀,m2,_,G3,_,ρ3,R2.step s3 w3,d3,hg3,λτ4 R4=>?_⟩
  refine ⟨pa,G₀,H₀,m2,ρ3,G3,R4,Tr.ok_mono k3 λm5 yd k5=>?_⟩
  obtain ⟨es5,k5⟩:=k5
  intro v G5 H5 s5 w5 d5
  have s35:=s3.trans s5 w3.some
  obtain ⟨pl,pk⟩:=hn _ _ _ hg3
  refine ⟨xs.length - (k+1),by omega,rfl,hlt,by rw [List.length_append,hy]; rfl,m5,G5,ds++[yd],sb.trans s35.gs,es5.trans es,st2.trans s35 R2.wd.some,?_,(DnAll.mono s35.gs dn).snoc d5,?_⟩
  ·refine (R4.step s5 w5).weak pl λq sl hq=>?_
   by_cases hqn:q < n
   ·left
    unfold blk at hq
    rw [List.getElem?_append_left (by simpa using hqn),List.getElem?_replicate,if_pos hqn] at hq
    cases hq
    rfl
   ·right
    rw [pk q (Nat.le_of_not_lt hqn)]
    exact hq
  ·refine Tr.ok_mono (Tr.ok_bind.mp k5) λm6 zs k6=>?_
   rw [List.append_assoc]
   exact k6
 ·have e:k=xs.length:=by omega
  subst e
  refine .inl ⟨j2,λp v H' hp ev eH=>?_⟩
  subst ev eH
  rw [List.drop_length] at k2
  have k2':Ko1 PK pa m2 G H (ds++[]) Q:=k2
  rw [List.append_nil] at k2'
  exact (Ko1.later k2' st2 R2.wd.some).new R2.wd dn hp
theorem Zef {n:Nat} {ix:List Nat} {g:PyData->List Sl->Option (List Sl)} (h:PE X e (jJ (o6 PK is) n ix (λ_=>gN PK g) (λ_=>TAe PK i))) (hn:iw n g):PE X e (i7 PK (ku is n ix g i)):=h.imp (ZcK hn)
theorem ZmU {n k:Nat} {ix:List Nat} {g:PyData->List Sl->Option (List Sl)} (h:PS X st (iD (jJ (o6 PK is) n ix (λ_=>gN PK g) (λ_=>TAe PK i)) (ju k))) (hn:iw n g):PS X st (cP PK (dP k (fQ (ku is n ix g i)))) :=
 dX (h.imp (Zfu λσ H Q z=>ZcK hn σ H Q (by
  obtain ⟨pa,G₀,H₀,m,ρ,G,R,z⟩:=z
  exact ⟨pa,G₀,H₀,m,ρ,G,R,Tr.ok_mono (Tr.ok_bind.mp z) λm1 xs k=>Ko1.of k R.wd.some⟩)))
end
section
variable {prog:Program} {w:World} {A:Around} {R:Result->Shared->Prop} {s:Shared}
theorem Zmh {e:Expr} {env:Env}
  (h:wpAny (model prog w) (A.deeper env) (eval e env) (λv z=>R (.ok (.ret v)) z) (λx z=>wpAny (model prog w) (A.deeper env) (leaving env x) (λ_ y=>R (.error x) y) (λx' y=>R (.error x') y) z) s) :
  codeAny (model prog w) A (.expr e env) R s :=
 codeAny_of_tree (show wpAny _ (A.deeper env) (do point; ret (<- (eval e env).onRaise (leaving env))) _ _ s from
  wpAny_bind (wpAny_point (wpAny_bind (wpAny_onRaise (wpAny_mono h (λv z q=>wpAny_pure q) λ_ _ q=>q)))))
theorem Zco:∀ (l:List (Str×NameKind)) (n:Nat) (cl:List (Str×Addr)) (h:Heap),(∀ y∈l,y.2≠.cell)->cellsFrom n l cl=cl/\pushCells h l=h
 | [],n,cl,h,_=>⟨rfl,rfl⟩
 | (x,k)::l,n,cl,h,hn=>by
  have hk:(k == NameKind.cell)=false:=by
   have:=hn (x,k) (by simp)
   simpa using this
  have ih:=Zco l n cl h λy hy=>hn y (List.mem_cons_of_mem _ hy)
  constructor
  ·unfold cellsFrom
   simp only [hk,Bool.false_eq_true,if_false]
   exact ih.1
  ·unfold pushCells
   simp only [hk,Bool.false_eq_true,if_false]
   exact ih.2
noncomputable def gu (scope:Scope) (cl:List (Str×Addr)) (q:Str) (L f:Addr) (cd:Value):Env :=
 { scope:=scope,locals:=L,globals:=mainGlobals,cells:=cl,qual:=q,func:=some f,code:=cd,frame:=some L,builtins:=builtinsNs }
theorem Zis {M:Model} {E:Value->Shared->Prop} {scope:Scope} {cl:List (Str×Addr)} {q:Str} {f:Addr} {cd:Value} {Q:Env->Shared->Prop} (hn:∀ y∈scope.names,y.2≠.cell)
  (h:Q (gu scope cl q s.heap.objs.size f cd) { s with heap:=s.heap.push { cls:=.type "frame",data:=.dict #[] } }) :
  wpAny M A (newFunctionEnv scope mainGlobals cl [] q (some f) cd none builtinsNs) Q E s:=by
 simp only [newFunctionEnv,Option.isSome_none,Bool.false_eq_true,if_false]
 refine wpAny_bind (wpAny_alloc (wpAny_bind (wpAny_layCells _ (λname kind cells=>by cases hkc:kind == NameKind.cell <;> simp [hkc]) _ _ _ _ ?_)))
 obtain ⟨e1,e2⟩:=Zco scope.names (s.heap.push { cls:=.type "frame",data:=.dict #[] }).objs.size cl (s.heap.push { cls:=.type "frame",data:=.dict #[] }) hn
 show wpAny M A _ Q E { s with heap:=pushCells (s.heap.push { cls:=.type "frame",data:=.dict #[] }) scope.names }
 rw [e2,List.forIn_nil]
 refine wpAny_bind (wpAny_pure (wpAny_pure ?_))
 rw [e1]
 exact h
theorem Zmq {f c:Addr} {o oc:Obj} {fd:FuncData} {e:Expr} {ag:Args} {vs:Array Value} {q:Str} {t:Tok} (dep:A.depth < recursionLimit) (hf:s.heap.get? f=some o) (df:o.data=.func fd) (n1:fd.scope.isCoroutine=false) (n2:fd.scope.isGenerator=false) (hb:fd.body=.expr e)
  (hc:fd.code=.ref c) (gc:s.heap.get? c=some oc) (dc:oc.data=.fields vs) (hq:vs[1]?=some (.str q t))
  (h:wpAny (model prog w) A.in1 (bindArgs fd ag) (λbs z=>wpAny (model prog w) A.in1 (newFunctionEnv fd.scope fd.globals fd.closure bs (q++".<locals>.") (some f) (.ref c) none fd.builtins)
   (λenv y=>y.heap.NoLimit/\codeAny (model prog w) A (.expr e env) R y) (λx y=>R (.error x) y) z) (λx z=>R (.error x) z) s):codeAny (model prog w) A (.call (.ref f) ag) R s :=
 codeAny_of_tree (show wpAny _ A.in1 (callAny (.ref f) ag) _ _ s from by
  unfold callAny
  refine wpAny_bind (wpAny_load hf ?_)
  simp only [df,callFunction,n1,n2,hb,hc]
  refine wpAny_bind (m:=field (.ref c) 1) (wpAny_field gc dc hq (wpAny_bind (wpAny_pure (wpAny_bind (wpAny_mono h (λbs z k=>wpAny_bind (wpAny_mono k (λenv y k2=>?_) λ_ _ k'=>k')) λ_ _ k'=>k')))))
  exact wpAny_bind (wpAny_enterFrame k2.1 dep (wpAny_pure ⟨rfl,k2.2⟩)))
end
structure LamSc (N:List Str) (sc:Scope):Prop where
 kind:sc.kind=.function
 co:sc.isCoroutine=false
 gen:sc.isGenerator=false
 nd:N.Nodup
 nc:∀ y∈sc.names,y.2≠.cell
 fr:∀ x,sc.names.lookup x=some .free->x∈N
 all:∀ x∈N,sc.names.lookup x=some .free
noncomputable def iT (CX:gA) (P:Program) (w:World) (K:PySem.W.Frag) (mg:Str->Option Value) (base:Heap) (N:List Str) (scope:Scope) (cl:List (Str×Addr)) (q:Str) (f:Addr) (cd:Value) (A:Around) (outer:List Env) (s:Shared) (H:Hp) (E:XK):Cx where
 prog:=P
 w:=w
 K:=K
 mg:=mg
 base:=base
 A:=A.deeper (gu scope cl q s.heap.objs.size f cd)
 N:=N
 s₀:=s
 H₀:=H
 env:=gu scope cl q s.heap.objs.size f cd
 outer:=outer
 stack:=gu scope cl q s.heap.objs.size f cd::outer
 ex:=[]
 calm:=true
 fn:=λ_=>false
 pn:=[]
 xe:=λe z=>wpAny (model P w) (A.deeper (gu scope cl q s.heap.objs.size f cd)) (leaving (gu scope cl q s.heap.objs.size f cd) e) (λ_ y=>CX outer H s E e y) (λe' y=>CX outer H s E e' y) z
structure CelOk (N:List Str) (cl:List (Str×Addr)) (σ:St) (H:Hp) (h:Heap):Prop where
 inj:∀ x y c,cl.lookup x=some c->cl.lookup y=some c->x=y
 is:∀ x c,cl.lookup x=some c->(∃ v,h.IsCell c v)/\H c=none
 at':∀ (i:Nat) (x:Str),N[i]?=some x->∃ c,cl.lookup x=some c/\∀ v,σ[i]?=some (some v)->∃ u,RelV v u/\h.IsCell c (some u)
 len:σ.length=N.length
section
variable {CX:gA} {P:Program} {w:World} {K:PySem.W.Frag} {mg:Str->Option Value} {base:Heap} {N:List Str} {scope:Scope} {cl:List (Str×Addr)} {q:Str} {f:Addr} {cd:Value} {A:Around} {outer:List Env} {s:Shared} {H:Hp} {E:XK} {σ:St}
theorem ZiP (S:LamSc N scope) (hd:A.handled=none) (e0:Env0 P w K mg base A outer s H) (c:CelOk N cl σ H s.heap) :
  Inv (iT CX P w K mg base N scope cl q f cd A outer s H E) [] σ H { s with heap:=s.heap.push { cls:=.type "frame",data:=.dict #[] } }:=by
 have kp:∀ b u,s.heap.get? b=some u->(s.heap.push { cls:=.type "frame",data:=.dict #[] }).get? b=some u:=λb u e=>Heap.get?_push_of_some _ e
 have noA:∀ b:Addr,b ∉ (iT CX P w K mg base N scope cl q f cd A outer s H E).ex:=λb z=>absurd (show b∈([]:List Addr) from z) (by simp)
 have cellK:∀ {c':Addr} {v:Option Value},s.heap.IsCell c' v->(s.heap.push { cls:=.type "frame",data:=.dict #[] }).IsCell c' v:=λ{c' v} hz=>by
  obtain ⟨o,ho,hd⟩:=hz
  exact ⟨o,kp _ _ ho,hd⟩
 refine ⟨⟨e0.mod,S.kind,rfl,rfl,Nat.le_refl _,c.inj,λx hx=>?_,λx c' z=>(nomatch z),λ_=>hd,Around.frames_deeper e0.frames,.inr ⟨rfl,rfl⟩,λb z=>absurd z (noA b),e0.bs,e0.bsz,λb _ _=>noA b,λb z=>absurd z (noA b),e0.funs,e0.frf⟩,
  rfl,e0.bare,Un.kept kp,⟨_,Heap.Ns.new s.heap (.type "frame"),λi x v h1 h2 h3=>?_⟩,λx c' h=>?_,e0.hok.fresh (Nat.le_refl _),λx c' h=>(c.is x c' h).2,λp hp=>absurd (show p∈([]:List (Addr×Obj)) from hp) (by simp),e0.hok.kept kp,c.len⟩
 ·have hx:scope.names.lookup x=some .cell\/scope.names.lookup x=some .free:=hx
  rcases hx with z | z
  ·exact absurd rfl (S.nc _ (PySem.mem_of_lookup z))
  ·obtain ⟨i,hi⟩:=List.mem_iff_getElem?.mp (S.fr x z)
   obtain ⟨c',e,_⟩:=c.at' i x hi
   exact ⟨c',e⟩
 ·obtain ⟨c',e,k⟩:=c.at' i x h1
  obtain ⟨u,r,z⟩:=k v h2
  exact ⟨u,r,.inr ⟨.inr (S.all x (List.mem_of_getElem? h1)),c',e,cellK z⟩⟩
 ·obtain ⟨⟨v,z⟩,_⟩:=c.is x c' h
  exact ⟨v,cellK z⟩
structure LamFd (fd:FuncData) (e:Expr) (scope:Scope) (cl:List (Str×Addr)) (cd:Value):Prop where
 body:fd.body=.expr e
 sc:fd.scope=scope
 cl:fd.closure=cl
 cd:fd.code=cd
 gl:fd.globals=mainGlobals
 bl:fd.builtins=builtinsNs
 bi:bindArgs fd ⟨[],[]⟩=pure []
theorem Ziq {k:Nat} {o oc:Obj} {fd:FuncData} {e:Expr} {c:Addr} {vs:Array Value} {qn:Str} {t:Tok} {te:TE} {Q:VK} (hr:Room (k+1) A) (e0:Env0 P w K mg base A outer s H) (S:LamSc N scope) (hf:s.heap.get? f=some o) (df:o.data=.func fd) (F:LamFd fd e scope cl (.ref c))
  (gc:s.heap.get? c=some oc) (dc:oc.data=.fields vs) (hq:vs[1]?=some (.str qn t)) (C:CelOk N cl σ H s.heap)
  (he:PE (iT CX P w K mg base N scope cl (qn++".<locals>.") f (.ref c) A outer s H E) e te) (ht:te σ H Q):codeAny (model P w) A (.call (.ref f) ⟨[],[]⟩) (CR CX outer P w H s Q E) s:=by
 have lim:s.heap.NoLimit:=e0.mod.nolimit.keeps λb o e=>(e0.bs b o e).1
 refine Zmq hr.depth hf df (by rw [F.sc]; exact S.co) (by rw [F.sc]; exact S.gen) F.body F.cd gc dc hq ?_
 rw [F.bi,F.sc,F.gl,F.cl,F.bl]
 refine wpAny_pure (Zis S.nc ⟨lim.keeps λb o e=>Heap.get?_push_of_some _ e,Zmh ?_⟩)
 refine wpAny_mono (he [] _ σ H Q (ZiP S hr.hd e0 C) ht) (λu z hz=>?_) λx z hz=>hz
 obtain ⟨v,H',J,r,hQ⟩:=hz
 exact ⟨v,H',J.os,J.bare,J.base,J.hok,r,hQ⟩
end
structure CodK (K:PySem.W.Frag) (c P:Addr):Prop where
 ex:∃ o vs file tf flags tg inF text tt,K.lookup c=some o/\o.cls=.type "code"/\o.data=.fields vs/\vs[11]?=some (.ref P)/\vs.getD 18 .none=.str file tf/\vs.getD 7 .none=.int flags tg/\vs.getD 9 .none=.bool inF/\vs.getD 10 .none=.int text tt
 ne:c≠P
structure BltK (h:Heap) (mg:Str->Option Value):Prop where
 ex:∃ bm o,mg "__builtins__"=some (.ref bm)/\bm≠builtinsNs/\h.get? bm=some o/\o.cls=.type "module"/\o.dict=some builtinsNs/\o.data=.plain
theorem Zeg {po:Pos} {a b c:Value} (hab:∃ i t j u,a=.int i t/\b=.int j u):∀ l:List Value,PySem.TriplesOk l->∀ v,codeAmong po (l++[a,b,c])=some v->codeAmong po l=some v\/v=c
 | [],_,v,h=>by
  obtain ⟨i,t,j,u,rfl,rfl⟩:=hab
  rw [List.nil_append,codeAmong] at h
  split at h
  ·exact .inr (Option.some.inj h).symm
  ·cases h
 | .int i t::.int j u::d::r,k,v,h=>by
  rw [List.cons_append,List.cons_append,List.cons_append,codeAmong] at h
  rw [codeAmong]
  split at h
  ·rename_i q
   rw [if_pos q]
   exact .inl h
  ·rename_i q
   rw [if_neg q]
   exact Zeg hab r k v h
 | .int i t::.int j u::[],k,v,h=>(k:False).elim
 | .int i t::[],k,v,h=>(k:False).elim
section
variable {X:Cx} {pins:List (Addr×Obj)} {σ:St} {H:Hp} {s:Shared}
theorem Inv.code {c P:Addr} {ps:Array Value} (I:Inv X pins σ H s) (ck:CodK X.K c P) (hP:H P=some (.cod ps)) :
  ∃ more,s.heap.IsCode c P (ps++more)/\s.heap.TableAt c P (ps++more)/\PySem.TriplesOk (ps++more).toList/\∀ (po:Pos) (v:Value),codeAmong po (ps++more).toList=some v->∃ (c:Addr) (ob:Obj) (vs:Array Value) (q:Str) (t:Tok),v=.ref c/\H c=some (.frz ob (.own 0))/\ob.data=.fields vs/\vs[1]?=some (.str q t):=by
 obtain ⟨o,vs,file,tf,flags,tg,inF,text,tt,e1,e2,e3,e4,e5,e6,e7,e8⟩:=ck.ex
 obtain ⟨more,t1,t2,t3⟩:=I.hok P _ hP
 have g:=I.kIn c o e1
 have e4':vs.getD 11 .none=.ref P:=by
  rw [Array.getD_eq_getD_getElem?,e4]
  rfl
 exact ⟨more,⟨o,vs,file,tf,flags,tg,inF,text,tt,_,g,e3,e4',e5,e6,e7,e8,t1,rfl,t2,ck.ne⟩,⟨⟨o,vs,g,e2,e3,e4⟩,t1⟩,t2,t3⟩
theorem Inv.lam {P f c:Addr} {ps more:Array Value} {h3:Heap} {tk:Nat} {fo oc:Obj} {H1:Hp} (I:Inv X pins σ H s) (hP:H P=some (.cod ps)) (kp:∀ b o,b≠P->s.heap.get? b=some o->h3.get? b=some o) (hf:s.heap.objs.size<=f) (gf:h3.get? f=some fo)
  (tb:h3.get? P=some { cls:=.none,data:=.fields (ps++more) }) (tr:PySem.TriplesOk (ps++more).toList)
  (hc:H1 c=some (.frz oc (.own 0))) (gc:h3.get? c=some oc) (hH:H1=H\/(s.heap.objs.size<=c/\c≠f/\H1=upd H c (.frz oc (.own 0))))
  (al:∀ (po:Pos) (v:Value),codeAmong po (ps++more).toList=some v->∃ (c:Addr) (ob:Obj) (vs:Array Value) (q:Str) (t:Tok),v=.ref c/\H1 c=some (.frz ob (.own 0))/\ob.data=.fields vs/\vs[1]?=some (.str q t)) :
  Inv X pins σ (upd H1 f (.frz fo (.own 0))) { s with heap:=h3,toks:=tk }/\H1 f=none:=by
 have nf:=I.hok.fresh hf
 have cf:H1 f=none:=by
  rcases hH with rfl | ⟨_,hne,rfl⟩
  ·exact nf
  ·rw [ak (Ne.symm hne)]; exact nf
 have up:∀ b u,H b=some u->H1 b=some u:=λb u e=>by
  rcases hH with rfl | ⟨z,_,rfl⟩
  ·exact e
  ·rw [ak (eT e (I.hok.fresh z))]; exact e
 have up2:∀ b u,H b=some u->upd H1 f (.frz fo (.own 0)) b=some u:=λb u e=>by rw [ak (eT (up b u e) cf)]; exact up b u e
 have old:∀ b o,s.heap.get? b=some o->H b=none->upd H1 f (.frz fo (.own 0)) b=none:=λb o e n=>by
  have hb:=Heap.lt_size e
  rw [ak (Nat.ne_of_lt (Nat.lt_of_lt_of_le hb hf))]
  rcases hH with rfl | ⟨z,_,rfl⟩
  ·exact n
  ·rw [ak (Nat.ne_of_lt (Nat.lt_of_lt_of_le hb z))]; exact n
 have nP:∀ b,H b=none->b≠P:=λb n z=>by rw [z,hP] at n; cases n
 refine ⟨I.un (h':=h3) (t':=tk) ⟨λb o e n _ _=>kp b o (nP b n) e,λb o e n _ _=>⟨o.slots,kp b o (nP b n) e⟩,λb o e n _=>old b o e n,λb o e _=>?_,λb xs e=>up2 b _ e,λb o u e=>up2 b _ e,λb qs e=>⟨#[],by rw [up2 b _ e]; simp⟩⟩ λb u e=>?_,cf⟩
 ·by_cases hb:b=P
  ·exact ⟨_,by rw [hb]; exact tb⟩
  ·exact ⟨o,kp b o hb e⟩
 ·by_cases hb:b=f
  ·subst hb
   rw [cr] at e
   cases e
   exact ⟨gf,fo,gf⟩
  ·have e0:=e
   rw [ak hb] at e
   have own1:∀ b' y,H b'=some (.own y)->upd H1 f (.frz fo (.own 0)) b'=some (.own y):=λb' y q=>up2 b' _ q
   by_cases hbP:b=P
   ·subst hbP
    have:u=.cod ps:=by
     have:=up b _ hP
     rw [this] at e
     exact (Option.some.inj e).symm
    subst this
    refine ⟨more,tb,tr,λpo v hv=>?_⟩
    obtain ⟨c',ob,vs,q,t,r1,r2,r3⟩:=al po v hv
    exact ⟨c',ob,vs,q,t,r1,by rw [ak (eT r2 cf)]; exact r2,r3⟩
   ·have key:H b=some u\/(b=c/\u=.frz oc (.own 0)):=by
     rcases hH with rfl | ⟨z,_,rfl⟩
     ·exact .inl e
     ·by_cases q:b=c
      ·subst q
       rw [cr] at e
       exact .inr ⟨rfl,(Option.some.inj e).symm⟩
      ·rw [ak q] at e
       exact .inl e
    rcases key with e1 | ⟨rfl,rfl⟩
    ·refine (I.hok b u e1).stay (λb' v hv q=>kp b' v (λz=>?_) q) (λb' q=>own1 b' _ q) (λb' xs q=>up2 b' _ q) λb' ob u' _ q _=>up2 b' _ q
     subst z
     rcases hv with z | z
     ·exact hbP z.symm
     ·rw [hP] at z; cases z
    ·exact ⟨gc,oc,gc⟩
noncomputable def gh:Arguments:=⟨[],[],none,[],[],none,[]⟩
noncomputable def Zax (cells:List (Str×Addr)) (P:Addr) (e:Expr) (scope:Scope):TE:=λσ H Q=>(∃ ps,H P=some (.cod ps))/\∀ (f c:Addr) (cl:List (Str×Addr)) (fo oc:Obj) (fd:FuncData) (vs:Array Value) (q:Str) (t:Tok) (H1:Hp),
 LamFd fd e scope cl (.ref c)->fo.data=.func fd->(∀ x c,cl.lookup x=some c->cells.lookup x=some c)->(∀ y∈scope.names,y.2=.free->∃ c,cl.lookup y.1=some c)->H1 c=some (.frz oc (.own 0))->oc.data=.fields vs->vs[1]?=some (.str q t) ->
 (H1=H\/(H c=none/\H1=upd H c (.frz oc (.own 0))))->H1 f=none->Q (.ref f) (upd H1 f (.frz fo (.own 0)))
end
section
variable {X:Cx}
theorem Zhf {c0 P:Addr} {e:Expr} {scope:Scope} {pos:Pos} (ck:CodK X.K c0 P) (bk:BltK X.base X.mg) (hc0:X.env.code=.ref c0) (hfr:∀ y∈scope.names,y.2=.free->X.env.kindOf y.1=some .cell\/X.env.kindOf y.1=some .free) :
  PE X (.Lambda gh e scope pos) (Zax X.env.cells P e scope):=by
 intro pins s σ H Q I h
 obtain ⟨⟨ps,hP⟩,hQ⟩:=h
 obtain ⟨cl,hcl,cl1,cl2⟩:=oA (scope:=scope) (env:=X.env) λy hy hf=>I.ok.has y.1 (hfr y hy hf)
 obtain ⟨bm,bo,hbm,bne,bK,b1,b2,b3⟩:=bk.ex
 obtain ⟨mn,hg⟩:∃ mg,s.heap.Ns X.env.globals mg/\mg=X.mg:=⟨X.mg,by rw [I.ok.glob]; exact I.mod.glob.keeps I.bk,rfl⟩
 obtain ⟨hg,rfl⟩:=hg
 rw [arm_eval_Lambda]
 show wpAny _ X.A (do let dv <- evalAll []; let kdv <- holding dv (evalAllOpt []); makeFunction "<lambda>" (X.env.qual++"<lambda>") gh (.expr e) scope X.env dv kdv [] pos pos.line) _ _ s
 refine wpAny_bind (wpAny_pure (wpAny_bind (wpAny_holding (wpAny_pure ?_))))
 simp only [makeFunction,gh,List.zip_nil_right,List.filterMap_nil,List.isEmpty_nil,if_true,pure_bind,hcl]
 -- the closure's tuple
 have go:∀ (ct:Value) (h1:Heap),(∀ b o,s.heap.get? b=some o->h1.get? b=some o)->s.heap.objs.size<=h1.objs.size->wpAny (model X.prog X.w) X.A (do
   let cd <- functionCode X.env pos pos.line "<lambda>" (X.env.qual++"<lambda>") gh scope (.expr e)
   let bl <- builtinsFor X.env.globals X.env.builtins
   let nm <- nsGet X.env.globals "__name__"
   newObj (.type "function") (.func { name:="<lambda>",qualname:=X.env.qual++"<lambda>",params:=gh,body:=.expr e,scope:=scope,globals:=X.env.globals,closure:=cl,closureTuple:=ct,code:=cd,builtins:=bl,defaults:=.none,kwdefaults:=.none,annotations:=none,pyModule:=nm.getD .none,doc:=.none })) (EP X pins σ Q) X.xe { s with heap:=h1 }:=by
  intro ct h1 kp1 hz1
  have I1:Inv X pins σ H { s with heap:=h1 }:=I.kept (t':=s.toks) kp1
  obtain ⟨more,ic,ta,tr,al⟩:=I1.code ck hP
  have fin:∀ (c:Addr) (oc:Obj) (vs:Array Value) (q:Str) (t:Tok) (h2:Heap) (tk:Nat) (more2:Array Value) (H1:Hp),(∀ b o,b≠P->h1.get? b=some o->h2.get? b=some o)->h1.objs.size<=h2.objs.size->h2.get? P=some { cls:=.none,data:=.fields (ps++more2) }->PySem.TriplesOk (ps++more2).toList ->
    H1 c=some (.frz oc (.own 0))->h2.get? c=some oc->oc.data=.fields vs->vs[1]?=some (.str q t)->(H1=H\/(s.heap.objs.size<=c/\H1=upd H c (.frz oc (.own 0)))) ->
    (∀ (po:Pos) (v:Value),codeAmong po (ps++more2).toList=some v->∃ (c:Addr) (ob:Obj) (vs:Array Value) (q:Str) (t:Tok),v=.ref c/\H1 c=some (.frz ob (.own 0))/\ob.data=.fields vs/\vs[1]?=some (.str q t)) ->
    wpAny (model X.prog X.w) X.A (do
     let bl <- builtinsFor X.env.globals X.env.builtins
     let nm <- nsGet X.env.globals "__name__"
     newObj (.type "function") (.func { name:="<lambda>",qualname:=X.env.qual++"<lambda>",params:=gh,body:=.expr e,scope:=scope,globals:=X.env.globals,closure:=cl,closureTuple:=ct,code:=.ref c,builtins:=bl,defaults:=.none,kwdefaults:=.none,annotations:=none,pyModule:=nm.getD .none,doc:=.none })) (EP X pins σ Q) X.xe { s with heap:=h2,toks:=tk }:=by
   intro c oc vs q t h2 tk more2 H1 kp2 hz2 tb tr2 hc gc dc hq hH al2
   have gP:∀ b o,X.K.lookup b=some o->b≠P:=λb o e z=>by
    have:=(I.bs b o (I.mod.kin b o e)).2
    rw [z,hP] at this
    cases this
   have hg2:h2.Ns X.env.globals X.mg:=by
    obtain ⟨o,es,ep,e1,e2⟩:=hg
    refine ⟨o,es,ep,kp2 _ o (λz=>?_) (kp1 _ o e1),e2⟩
    obtain ⟨o',_,_,e',_⟩:=I.mod.glob
    have:=(I.bs _ o' e').2
    rw [<- I.ok.glob,z,hP] at this
    cases this
   refine wpAny_bind (wpAny_builtinsFor (s:={ s with heap:=h2,toks:=tk }) hg2 hbm bne (kp2 bm bo (λz=>by have:=(I.bs bm bo bK).2; rw [z,hP] at this; cases this) (kp1 _ _ (I.bs bm bo bK).1)) b1 b2 b3 (wpAny_bind (wpAny_nsGet hg2 ?_)))
   simp only [newObj]
   refine wpAny_bind (wpAny_alloc (wpAny_pure ?_))
   generalize hfd:({ name:="<lambda>",qualname:=X.env.qual++"<lambda>",params:=gh,body:=.expr e,scope:=scope,globals:=X.env.globals,closure:=cl,closureTuple:=ct,code:=.ref c,builtins:=builtinsNs,defaults:=.none,kwdefaults:=.none,annotations:=none,pyModule:=(X.mg "__name__").getD .none,doc:=.none }:FuncData)=fd
   have hfo:h2.objs.size < (h2.push { cls:=.type "function",data:=.func fd }).objs.size:=by rw [Heap.size_push]; exact Nat.lt_succ_self _
   have gcl:=Heap.lt_size gc
   obtain ⟨J,nf⟩:=I.lam (P:=P) (f:=h2.objs.size) (c:=c) (ps:=ps) (more:=more2) (h3:=h2.push { cls:=.type "function",data:=.func fd }) (tk:=tk) (fo:={ cls:=.type "function",data:=.func fd }) (oc:=oc) (H1:=H1) hP
    (λb o hb e=>Heap.get?_push_of_some _ (kp2 b o hb (kp1 b o e))) (Nat.le_trans hz1 hz2) (Heap.get?_push_size _ rfl) (Heap.get?_push_of_some _ tb) tr2 hc (Heap.get?_push_of_some _ gc) (by
     rcases hH with z | ⟨z1,z2⟩
     ·exact .inl z
     ·exact .inr ⟨z1,Nat.ne_of_lt gcl,z2⟩) al2
   refine ⟨.ref h2.objs.size,_,J,rfl,hQ _ c cl _ oc fd vs q t H1 ⟨by rw [<- hfd],by rw [<- hfd],by rw [<- hfd],by rw [<- hfd],by rw [<- hfd]; exact I.ok.glob,by rw [<- hfd],by rw [<- hfd]; rfl⟩ rfl cl1 cl2 hc dc hq (by
     rcases hH with z | ⟨z1,z2⟩
     ·exact .inl z
     ·exact .inr ⟨I.hok.fresh z1,z2⟩) nf⟩
  cases hit:codeAmong pos (ps++more).toList with
  | some v =>
   obtain ⟨c,ob,vs,q,t,rfl,r2,r3,r4⟩:=al pos v hit
   refine wpAny_bind (wpAny_functionCode_hit hc0 ic hit ?_)
   exact fin c ob vs q t h1 s.toks more H (λb o _ e=>e) (Nat.le_refl _) ta.2 tr r2 (I1.hok c _ r2).1 r3 r4 (.inl rfl) al
  | none =>
   refine wpAny_bind (wpAny_functionCodeX hc0 ic ta hit λc h2 tk hx hge hlt ic2 hrec ta2 _=>?_)
   obtain ⟨c',oc,vs,t,e',gc,dc,hq⟩:=hrec
   cases e'
   have sz:h1.objs.size<=h2.objs.size:=Nat.le_trans hge (Nat.le_of_lt hlt)
   have hge':s.heap.objs.size<=c:=Nat.le_trans hz1 hge
   have tb:h2.get? P=some { cls:=.none,data:=.fields (ps++(more++#[rawInt pos.line,rawInt pos.col,.ref c])) }:=by
    rw [<- Array.append_assoc]
    exact ta2.2
   have tl:(ps++(more++#[rawInt pos.line,rawInt pos.col,.ref c])).toList=(ps++more).toList++[rawInt pos.line,rawInt pos.col,.ref c]:=by
    rw [<- Array.append_assoc]
    simp
   refine fin c oc vs _ t h2 tk (more++#[rawInt pos.line,rawInt pos.col,.ref c]) (upd H c (.frz oc (.own 0))) (λb o hb e=>hx b o hb e) sz tb (by rw [tl]; exact TriplesOk_snoc _ _ _ _ tr) cr gc dc hq (.inr ⟨hge',rfl⟩) λpo v hv=>?_
   rw [tl] at hv
   rcases Zeg ⟨_,_,_,_,rfl,rfl⟩ _ tr v hv with z | rfl
   ·obtain ⟨c2,ob,vs2,q2,t2,r1,r2,r3⟩:=al po v z
    exact ⟨c2,ob,vs2,q2,t2,r1,by rw [ak (eT r2 (I.hok.fresh hge'))]; exact r2,r3⟩
   ·exact ⟨c,oc,vs,_,t,rfl,cr,dc,hq⟩
 by_cases hce:cl.isEmpty=true
 ·simp only [hce,if_true,pure_bind]
  exact go .none s.heap (λ_ _ e=>e) (Nat.le_refl _)
 ·simp only [hce,if_false]
  refine wpAny_bind (wpAny_newObjAsIs_type ?_)
  exact go _ _ (λb o e=>Heap.get?_push_of_some _ e) (by rw [Heap.size_push]; exact Nat.le_succ _)
end
open Classical in
noncomputable def cut (cs:List Addr) (H:Hp):Hp:=λb=>if b∈cs then none else H b
open Classical in
noncomputable def glue (cs:List Addr) (H H':Hp):Hp:=λb=>if b∈cs then H b else H' b
theorem gj {cs:List Addr} {H:Hp} {b:Addr} (h:b∈cs):cut cs H b=none:=if_pos h
theorem fe {cs:List Addr} {H:Hp} {b:Addr} (h:b ∉ cs):cut cs H b=H b:=if_neg h
theorem rK {cs:List Addr} {H H':Hp} {b:Addr} (h:b∈cs):glue cs H H' b=H b:=if_pos h
theorem io {cs:List Addr} {H H':Hp} {b:Addr} (h:b ∉ cs):glue cs H H' b=H' b:=if_neg h
theorem Zdu {cs:List Addr} {H:Hp} {b:Addr} (n:H b=none):cut cs H b=none:=by
 by_cases z:b∈cs
 ·exact gj z
 ·rw [fe z]; exact n
noncomputable def Lent (cs:List Addr) (H:Hp):Prop:=∀ c∈cs,∃ (o:Obj) (v:Option Value),H c=some (.frz o (.own 0))/\o.data=.cell v
section
variable {P:Program} {w:World} {K:PySem.W.Frag} {mg:Str->Option Value} {base:Heap} {A:Around} {outer:List Env} {s s':Shared} {H H':Hp} {cs:List Addr} {h h':Heap}
theorem Lent.no {b:Addr} {u:HO} (L:Lent cs H) (e:H b=some u) (hu:∀ o v,u=.frz o (.own 0)->o.data≠.cell v):b ∉ cs:=λz=>by
 obtain ⟨o,v,e1,e2⟩:=L b z
 rw [e] at e1
 exact hu o v (Option.some.inj e1) e2
theorem HOk.cut (L:Lent cs H) (ok:HOk P w H h):HOk P w (L2.cut cs H) h:=λb u e=>by
 have hb:b ∉ cs:=λz=>by rw [gj z] at e; cases e
 rw [fe hb] at e
 refine (ok b u e).stay (λ_ _ _ q=>q) (λc q=>?_) (λc xs q=>?_) λc ob u' vs q d=>?_
 ·rw [fe (L.no q λo v z=>by cases z)]; exact q
 ·rw [fe (L.no q λo v z=>by cases z)]; exact q
 ·rw [fe (L.no q λo v z=>by cases z; rw [d]; intro z; cases z)]; exact q
theorem Env0.cut (e0:Env0 P w K mg base A outer s H) (L:Lent cs H):Env0 P w K mg base A outer s (L2.cut cs H) :=
 ⟨e0.frames,e0.mod,λb o e=>⟨(e0.bs b o e).1,by
  by_cases z:b∈cs
  ·exact gj z
  ·rw [fe z]; exact (e0.bs b o e).2⟩,e0.bsz,e0.funs,λb hb=>by
  by_cases z:b∈cs
  ·exact gj z
  ·rw [fe z]; exact e0.frf b hb,e0.hok.cut L,e0.bare⟩
theorem Un.glue (L:Lent cs H) (ok:HOk P w H s.heap) (un:Un (frs outer) [] (L2.cut cs H) H' s.heap h'):Un (frs outer) [] H (L2.glue cs H H') s.heap h' where
 keep:=λb o e n hb hx=>un.keep b o e (Zdu n) hb hx
 slot:=λb o e n hb hx=>un.slot b o e (Zdu n) hb hx
 free:=λb o e n hx=>by
  by_cases z:b∈cs
  ·rw [rK z]; exact n
  ·rw [io z]; exact un.free b o e (by rw [fe z]; exact n) hx
 there:=λb o e hx=>un.there b o e hx
 tups:=λb xs e=>by
  have z:=L.no e λo v q=>by cases q
  rw [io z]; exact un.tups b xs (by rw [fe z]; exact e)
 frzs:=λb o u e=>by
  by_cases z:b∈cs
  ·rw [rK z]; exact e
  ·rw [io z]; exact un.frzs b o u (by rw [fe z]; exact e)
 tbls:=λb ps e=>by
  have z:=L.no e λo v q=>by cases q
  rw [io z]; exact un.tbls b ps (by rw [fe z]; exact e)
theorem HOk.glue (L:Lent cs H) (e0:Env0 P w K mg base A outer s H) (un:Un (frs outer) [] (L2.cut cs H) H' s.heap h') (ok':HOk P w H' h'):HOk P w (L2.glue cs H H') h':=λb u e=>by
 have nC:∀ c∈cs,H' c=none:=λc hc=>by
  obtain ⟨o,v,e1,_⟩:=L c hc
  exact un.free c o (e0.hok c _ e1).1 (gj hc) (by simp)
 have up:∀ c u',H' c=some u'->c ∉ cs:=λc u' q z=>by rw [nC c z] at q; cases q
 by_cases hb:b∈cs
 ·rw [rK hb] at e
  obtain ⟨o,v,e1,_⟩:=L b hb
  rw [e] at e1
  cases e1
  have g:=un.keep b o (e0.hok b _ e).1 (gj hb) (λz=>by have:=e0.frf b z; rw [e] at this; cases this) (by simp)
  exact ⟨g,o,g⟩
 ·rw [io hb] at e
  exact (ok' b u e).stay (λ_ _ _ q=>q) (λc q=>by rw [io (up c _ q)]; exact q) (λc xs q=>by rw [io (up c _ q)]; exact q) λc ob u' vs q _=>by rw [io (up c _ q)]; exact q
theorem CE.glue {Q:VK} {u:Value} (L:Lent cs H) (e0:Env0 P w K mg base A outer s H) (h:CE outer P w (L2.cut cs H) s (λv H'=>Q v (L2.glue cs H H')) u s'):CE outer P w H s Q u s':=by
 obtain ⟨v,H',os,bare,un,ok',r,q⟩:=h
 exact ⟨v,_,os,bare,un.glue L e0.hok,HOk.glue L e0 un ok',r,q⟩
theorem CXE.glue {E:XK} {e:Value} (L:Lent cs H) (e0:Env0 P w K mg base A outer s H) (h:CXE P w outer (L2.cut cs H) s (λc t H'=>E c t (L2.glue cs H H')) e s'):CXE P w outer H s E e s':=by
 obtain ⟨ea,t,cls,b',H',eq,os,bare,un,ok',fl,k1,k2,hE⟩:=h
 refine ⟨ea,t,cls,b',_,eq,os,bare,un.glue L e0.hok,HOk.glue L e0 un ok',fl,k1,λb hb=>?_,hE⟩
 by_cases z:b∈cs
 ·obtain ⟨o,v,e1,_⟩:=L b z
  exact k1 b o (e0.hok b _ e1).1 λq=>by have:=e0.frf b q; rw [e1] at this; cases this
 ·rw [io z] at hb
  exact k2 b hb
theorem CE.cut {Q:VK} {u:Value} (L:Lent cs H) (e0:Env0 P w K mg base A outer s H) (h:CE outer P w H s (λv H'=>Q v (L2.cut cs H')) u s'):CE outer P w (L2.cut cs H) s Q u s':=by
 obtain ⟨v,H',os,bare,un,ok',r,q⟩:=h
 have L':Lent cs H':=λc hc=>by
  obtain ⟨o,v,e1,e2⟩:=L c hc
  exact ⟨o,v,un.frzs c o _ e1,e2⟩
 refine ⟨v,_,os,bare,⟨λb o e n hb hx=>?_,λb o e n hb hx=>?_,λb o e n hx=>?_,λb o e hx=>un.there b o e hx,λb xs e=>?_,λb o u e=>?_,λb ps e=>?_⟩,ok'.cut L',r,q⟩
 ·by_cases z:b∈cs
  ·obtain ⟨o',v,e1,_⟩:=L b z
   have g1:=(e0.hok b _ e1).1
   have g2:=(ok' b _ (un.frzs b o' _ e1)).1
   rw [e] at g1
   cases g1
   exact g2
  ·rw [fe z] at n
   exact un.keep b o e n hb hx
 ·by_cases z:b∈cs
  ·obtain ⟨o',v,e1,_⟩:=L b z
   have:=e0.frf b hb
   rw [e1] at this
   cases this
  ·rw [fe z] at n
   exact un.slot b o e n hb hx
 ·by_cases z:b∈cs
  ·exact gj z
  ·rw [fe z] at n ⊢
   exact un.free b o e n hx
 ·have z:b ∉ cs:=λz=>by rw [gj z] at e; cases e
  rw [fe z] at e ⊢
  exact un.tups b xs e
 ·have z:b ∉ cs:=λz=>by rw [gj z] at e; cases e
  rw [fe z] at e ⊢
  exact un.frzs b o u e
 ·have z:b ∉ cs:=λz=>by rw [gj z] at e; cases e
  rw [fe z] at e ⊢
  exact un.tbls b ps e
end
noncomputable def tw (P:Program) (w:World) (K:PySem.W.Frag) (mg:Str->Option Value) (base:Heap) (k:Nat) (f:Addr) (sp:Hp->VK->XK->Prop):Prop :=
 (∀ H Q E,sp H Q E->∃ (oc:Value) (od:Option Addr) (fd:FuncData) (osl:Array (Option Value)),H f=some (.frz ⟨oc,od,.func fd,osl⟩ (.own 0))) /\
 ∀ (A:Around) (outer:List Env) (s:Shared) (H:Hp) (Q:VK) (E:XK),Room k A->Env0 P w K mg base A outer s H->sp H Q E->codeAny (model P w) A (.call (.ref f) ⟨[],[]⟩) (CR (CXE P w) outer P w H s Q E) s
noncomputable def spL (N:List Str) (cl:List (Str×Addr)) (cs:List Addr) (f c:Addr) (fo oc:Obj) (σ:St) (te:XK->TE):Hp->VK->XK->Prop:=λH Q E =>
 H f=some (.frz fo (.own 0))/\H c=some (.frz oc (.own 0))/\Lent cs H/\(∀ x a,cl.lookup x=some a->a∈cs) /\
 (∀ (i:Nat) (x:Str),N[i]?=some x->∃ a o,cl.lookup x=some a/\H a=some (.frz o (.own 0))/\∀ v,σ[i]?=some (some v)->∃ u,RelV v u/\o.data=.cell (some u)) /\
 te (λk t H'=>(∀ b∈cs,H' b=none)->E k t (glue cs H H')) σ (cut cs H) (λv H'=>(∀ b∈cs,H' b=none)->Q v (glue cs H H'))
section
variable {P:Program} {w:World} {K:PySem.W.Frag} {mg:Str->Option Value} {base:Heap}
theorem Zir {N:List Str} {scope:Scope} {cl:List (Str×Addr)} {cs:List Addr} {f c:Addr} {oc:Obj} {e:Expr} {fd:FuncData} {fc:Value} {fdd:Option Addr} {osl:Array (Option Value)} {vs:Array Value} {q:Str} {t:Tok} {σ:St} {te:XK->TE} {k:Nat}
  (S:LamSc N scope) (F:LamFd fd e scope cl (.ref c)) (dc:oc.data=.fields vs) (hq:vs[1]?=some (.str q t)) (inj:∀ x y a,cl.lookup x=some a->cl.lookup y=some a->x=y) (hl:σ.length=N.length)
  (he:∀ (A:Around) (outer:List Env) (s:Shared) (H:Hp) (E:XK),Room k (A.deeper (gu scope cl (q++".<locals>.") s.heap.objs.size f (.ref c)))->PE (iT (CXE P w) P w K mg base N scope cl (q++".<locals>.") f (.ref c) A outer s H E) e (te E)) :
  tw P w K mg base (k+1) f (spL N cl cs f c ⟨fc,fdd,.func fd,osl⟩ oc σ te):=by
 refine ⟨λH Q E h=>⟨_,_,_,_,h.1⟩,λA outer s H Q E hr e0 h=>?_⟩
 obtain ⟨h1,h2,L,h3,h4,ht⟩:=h
 have ec:=e0.cut L
 have cel:∀ {a:Addr} {o:Obj},H a=some (.frz o (.own 0))->s.heap.get? a=some o:=λz=>(e0.hok _ _ z).1
 have nC:∀ {H':Hp} {h':Heap},Un (frs outer) [] (cut cs H) H' s.heap h'->∀ b∈cs,H' b=none:=λ{H' h'} un b hb=>by
  obtain ⟨o,v,e1,_⟩:=L b hb
  exact un.free b o (cel e1) (gj hb) (by simp)
 have C:CelOk N cl σ (cut cs H) s.heap:=by
  refine ⟨inj,λx a z=>?_,λi x hx=>?_,hl⟩
  ·obtain ⟨o,v,e1,e2⟩:=L a (h3 x a z)
   exact ⟨⟨v,o,cel e1,e2⟩,gj (h3 x a z)⟩
  ·obtain ⟨a,o,e1,e2,e3⟩:=h4 i x hx
   refine ⟨a,e1,λv hv=>?_⟩
   obtain ⟨u,r,d⟩:=e3 v hv
   exact ⟨u,r,o,cel e2,d⟩
 refine codeAny_mono (Ziq (CX:=CXE P w) (E:=λk t H'=>(∀ b∈cs,H' b=none)->E k t (glue cs H H')) (Q:=λv H'=>(∀ b∈cs,H' b=none)->Q v (glue cs H H')) hr ec S (cel h1) rfl F (cel h2) dc hq C (he A outer s (cut cs H) _ (hr.deeper _)) ht) λr s' hz=>?_
 cases r with
 | error x =>
  obtain ⟨ea,t,cls,b',H',eq,os,bare,un,ok',fl,k1,k2,hE⟩:=hz
  exact CXE.glue L e0 ⟨ea,t,cls,b',H',eq,os,bare,un,ok',fl,k1,k2,hE (nC un)⟩
 | ok fl =>
  cases fl with
  | ret u =>
   obtain ⟨v,H',os,bare,un,ok',r,q⟩:=hz
   exact CE.glue L e0 ⟨v,H',os,bare,un,ok',r,q (nC un)⟩
  | next=>exact hz
  | brk=>exact hz
  | cont=>exact hz
end
section
variable {X:Cx} {pins:List (Addr×Obj)} {σ:St} {H:Hp} {s:Shared}
theorem Zig {A:Around} {E:Value->Shared->Prop} {i:Nat} {x:Str} {v:V} {pos:Pos} {Q:Value->Shared->Prop} (I:Inv X pins σ H s) (hN:X.N[i]?=some x) (hv:mv X.env.scope x) (e:σ[i]?=some (some v)) (h:∀ u,RelV v u->Q u s)
  (hd:(x == ("__debug__":Str))=false:=by decide) (hcd:(x == ("__classdict__":Str))=false:=by decide):wpAny (model X.prog X.w) A (eval (.Name x pos) X.env) Q E s:=by
 obtain ⟨m,hn,hl⟩:=I.loc
 obtain ⟨u,r,l⟩:=hl i x v hN e hv
 rcases l with ⟨hk,hm⟩ | ⟨hk,c,hc,hcell⟩
 ·exact wpAny_Name (wpAny_loadName_local I.ok.kind hk hn hm (h u r)) hd
 ·rcases hk with hk | hk
  ·exact wpAny_Name (wpAny_loadName_cell I.ok.kind hk hc hcell (h u r)) hd
  ·exact wpAny_Name (wpAny_loadName_free I.ok.kind hk hc hcell (h u r) hcd) hd
theorem Zmt {M:Model} {A:Around} {E:Value->Shared->Prop} {env:Env} {pos:Pos} {f:Addr} {oc:Value} {od:Option Addr} {fd:FuncData} {osl:Array (Option Value)} {Q:Value->Shared->Prop} (hf:s.heap.get? f=some ⟨oc,od,.func fd,osl⟩) (h:wpAny M A (call (.ref f) []) Q E s):wpAny M A (callWith pos (.ref f) [] (backTo pos (starEach [] env)) []) Q E s :=
 PySem.W.callWith_of (P:=λg=>g.get? f=some ⟨oc,od,.func fd,osl⟩) rfl (λg e=>⟨.frame,.inl rfl,(PySem.W.Looks.ld (part:=none) e).andThen .now⟩) (evalArgs_nil3 ⟨hf,h⟩)
noncomputable def Ze8 (P:Program) (w:World) (K:PySem.W.Frag) (mg:Str->Option Value) (base:Heap) (k:Nat) (j:Nat) (C:Addr) (i:Nat) (tb:Addr->TS):TS:=λD σ H=>∃ f sp Q0 E0,σ[j]?=some (some (.ref f))/\tw P w K mg base k f sp/\sp H Q0 E0/\(∀ v H',Q0 v H'->D.nx σ H')/\∀ cls t H',E0 cls t H'->cls=.ref C/\∀ ea,H' ea=none ->
 tb ea { nx:=λσ' H2=>D.nx (σ'.set i none) H2,rt:=λ_ _=>False } (σ.set i (some (.ref ea))) (upd H' ea (.ext (fR ea (.ref C))))
theorem ZgQ {k j:Nat} {x c n:Str} {C D' L:Addr} {outer:List Env} {i:Nat} {tb:Addr->TS} {p cpos epos cp hpos pos:Pos} {b₀:Stmt} {suite:List Stmt}
  (hstk:X.stack=X.env::outer) (hL:X.env.frame=some L) (hN:X.N.Nodup) (hr:Room k X.A) (hj:X.N[j]?=some x) (hv:mv X.env.scope x)
  (U:Under X.K C D') (hgc:Gl X c) (hmc:X.mg c=some (.ref D')) (hi:X.N[i]?=some n) (hn:X.env.kindOf n=some .local) (hln:mC X.env.scope n) (hfn:X.fn n=true\/X.env.scope.names.lookup n=some .local) (hsu:∀ ea,PSs (X.marked ea) (b₀::suite) (tb ea))
  (hdb:(x == ("__debug__":Str))=false:=by decide) (hcd:(x == ("__classdict__":Str))=false:=by decide) (hdc:(c == ("__debug__":Str))=false:=by decide) (hs:swapsWith (.Call (.Name x p) [] [] cpos) none epos.line X.env=pure false:=by rfl) :
  PS X (.Try [.Expr (.Call (.Name x p) [] [] cpos) epos] [.ExceptHandler (some (.Name c cp)) (some n) (b₀::suite) hpos] [] [] pos) (Ze8 X.prog X.w X.K X.mg X.base k j C i tb):=by
 intro pins s σ H D I h
 obtain ⟨f,sp,Q0,E0,hf,LP,hsp,hQ0,hE0⟩:=h
 obtain ⟨oc,od,fd,osl,gf⟩:=LP.1 _ _ _ hsp
 refine wpAny_Try_except (wpAny_execs_cons (wpAny_Expr_any (wpAny_Call_Name_kw (Zig I hj hv hf (λu r=>?_) hdb hcd)) I.quiet hs))
 obtain rfl:u=.ref f:=r
 refine Zmt (I.hok f _ gf).1 (wpAny_call (codeAny_mono (LP.2 X.A X.stack s H _ _ hr I.env0 hsp) λrr s' hq=>?_))
 cases rr with
 | ok fl =>
  cases fl with
  | ret u =>
   obtain ⟨v,H',I',r,q⟩:=I.after hq
   exact wpAny_execs_nil (wpAny_execs_nil ⟨σ,H',I',hQ0 v H' q⟩)
  | next=>exact False.elim hq
  | brk=>exact False.elim hq
  | cont=>exact False.elim hq
 | error ex =>
  have hq':CXE X.prog X.w X.stack H s E0 ex s':=hq
  refine ZdD I hstk hL hq' λea cls H' h' eq I5 hea hcl fly un hE=>?_
  subst eq
  obtain ⟨hcls,hE1⟩:=hE0 _ _ _ hE
  subst hcls
  obtain ⟨b'',tt,fl,hf,hbt⟩:=fly
  obtain ⟨nm,q0,N0,bs,bm,hdct,sn,sub,ab,col,dd,k0,k1,k2,k3,k5,newId,lkC,hin⟩:=U.ex
  obtain ⟨nm',q',N',bs',bm',hdct',sn',sub',ab',col',dd',j0,j1,j2,j3,j5,newId',lkD,hbase⟩:=U.top
  have KX:=I5.kIn
  refine ZiX hbase hin (Zih I5 hgc hmc ⟨rfl,KX _ _ lkC,KX _ _ lkD,hcl,?_⟩ hdc)
  refine Zip I I5 un hea fl hf hbt (I5.os.trans I.os.symm) λh6 I6=>?_
  refine pR I6 hN hi hln (show RelV (.ref ea) (.ref ea) from rfl) (λs7 I7=>?_) hfn
  refine wpAny_mono (hsu ea pins s7 _ _ _ (I7.marked ea) (hE1 ea hea)) (λfl8 s8 h8=>?_) λ_ _ z=>z.elim
  cases fl8 with
  | next =>
   obtain ⟨σ8,H8,I8,q8⟩:=h8
   exact ZhQ (I8.unmarked I5.ok) hN hi hn λs9 I9=>⟨_,_,I9,q8⟩
  | ret u=>obtain ⟨_,_,_,_,_,z⟩:=h8; exact z.elim
  | brk=>obtain ⟨_,_,_,z⟩:=h8; exact z.elim
  | cont=>obtain ⟨_,_,_,z⟩:=h8; exact z.elim
end
open Classical in
noncomputable def lend (cs:List Addr) (h:Heap) (H:Hp):Hp:=λb=>if b∈cs then (h.get? b).map λo=>HO.frz o (.own 0) else H b
theorem qW {cs:List Addr} {h:Heap} {H:Hp} {b:Addr} (z:b∈cs):lend cs h H b=(h.get? b).map λo=>HO.frz o (.own 0):=if_pos z
theorem kb {cs:List Addr} {h:Heap} {H:Hp} {b:Addr} (z:b ∉ cs):lend cs h H b=H b:=if_neg z
noncomputable def eh (env:Env):List Addr:=env.cells.filterMap λp=>env.cells.lookup p.1
theorem lO {env:Env} {c:Addr} (h:c∈eh env):∃ x,env.cells.lookup x=some c:=by
 obtain ⟨p,_,e⟩:=List.mem_filterMap.mp h
 exact ⟨p.1,e⟩
theorem ZcS {env:Env} {x:Str} {c:Addr} (h:env.cells.lookup x=some c):c∈eh env:=List.mem_filterMap.mpr ⟨(x,c),PySem.mem_of_lookup h,h⟩
section
variable {X:Cx} {pins:List (Addr×Obj)} {σ:St} {H:Hp} {s:Shared}
theorem Inv.lent (I:Inv X pins σ H s):Lent (eh X.env) (lend (eh X.env) s.heap H):=λc hc=>by
 obtain ⟨x,e⟩:=lO hc
 obtain ⟨v,o,e1,e2⟩:=I.cell x c e
 exact ⟨o,v,by rw [qW hc,e1]; rfl,e2⟩
theorem Inv.lend_cut (I:Inv X pins σ H s):cut (eh X.env) (lend (eh X.env) s.heap H)=H:=funext λb=>by
 by_cases z:b∈eh X.env
 ·rw [gj z]
  obtain ⟨x,e⟩:=lO z
  exact (I.freeC x b e).symm
 ·rw [fe z,kb z]
theorem Inv.lend0 (I:Inv X pins σ H s) (hfn:∀ x,X.fn x=true):Env0 X.prog X.w X.K X.mg X.base X.A X.stack s (lend (eh X.env) s.heap H):=by
 have e0:=I.env0
 have big:∀ c∈eh X.env,X.s₀.heap.objs.size<=c:=λc hc=>by
  obtain ⟨x,e⟩:=lO hc
  exact I.ok.cab x c (hfn x) e
 have none':∀ b u,H b=some u->b ∉ eh X.env:=λb u e z=>by
  obtain ⟨x,q⟩:=lO z
  rw [I.freeC x b q] at e
  cases e
 refine ⟨e0.frames,e0.mod,λb o e=>⟨(e0.bs b o e).1,?_⟩,e0.bsz,e0.funs,λb hb=>?_,λb u e=>?_,e0.bare⟩
 ·rw [kb λz=>absurd (Nat.lt_of_lt_of_le (Heap.lt_size e) (Nat.le_trans I.ok.bsz (big b z))) (Nat.lt_irrefl _)]
  exact (e0.bs b o e).2
 ·have hz:b ∉ eh X.env:=λz=>by
   rcases List.mem_cons.mp (I.stkSub b hb) with q | q
   ·obtain ⟨x,e⟩:=lO z
    exact I.cne x b e q
   ·obtain ⟨_,o,ho,_⟩:=I.ok.funs.mem q
    exact absurd (Nat.lt_of_lt_of_le (Heap.lt_size ho) (big b z)) (Nat.lt_irrefl _)
  rw [kb hz]
  exact e0.frf b hb
 ·by_cases z:b∈eh X.env
  ·rw [qW z] at e
   cases g:s.heap.get? b with
   | none=>rw [g] at e; cases e
   | some o =>
    rw [g] at e
    cases e
    exact ⟨g,o,g⟩
  ·rw [kb z] at e
   exact (I.hok b u e).stay (λ_ _ _ q=>q) (λc q=>by rw [kb (none' c _ q)]; exact q) (λc xs q=>by rw [kb (none' c _ q)]; exact q) λc ob u' vs q _=>by rw [kb (none' c _ q)]; exact q
noncomputable def Ze4 (N:List Str) (env:Env) (P:Addr) (e:Expr) (scope:Scope) (sp:Sp):TE:=λσ H Q=>(∃ ps,H P=some (.cod ps))/\∀ (f c:Addr) (cl:List (Str×Addr)) (fo oc:Obj) (fd:FuncData) (vs:Array Value) (q:Str) (t:Tok) (H1 H2:Hp),
 LamFd fd e scope cl (.ref c)->fo.data=.func fd->(∀ x c,cl.lookup x=some c->env.cells.lookup x=some c)->(∀ y∈scope.names,y.2=.free->∃ c,cl.lookup y.1=some c)->H1 c=some (.frz oc (.own 0))->oc.data=.fields vs->vs[1]?=some (.str q t) ->
 (H1=H\/(H c=none/\H1=upd H c (.frz oc (.own 0))))->H1 f=none->(∀ x y c,env.cells.lookup x=some c->env.cells.lookup y=some c->x=y)->Lent (eh env) H2->cut (eh env) H2=upd H1 f (.frz fo (.own 0)) ->
 (∀ (j:Nat) (y:Str) (v:V) (a:Addr),N[j]?=some y->σ[j]?=some (some v)->(env.scope.names.lookup y=some .cell\/env.scope.names.lookup y=some .free)->env.cells.lookup y=some a->∃ o u,H2 a=some (.frz o (.own 0))/\o.data=.cell (some u)/\RelV v u) ->
 sp [.ref f] H2 (λv H'=>Q v (cut (eh env) H')) λ_ _ _=>False
theorem Zg9 {k:Nat} {g c0 P:Addr} {fd:FuncData} {ps:List Str} {sp:Sp} {x:Str} {e:Expr} {scope:Scope} {p lpos pos:Pos} (hfn:∀ y,X.fn y=true) (ck:CodK X.K c0 P) (bk:BltK X.base X.mg) (hc0:X.env.code=.ref c0) (hfr:∀ y∈scope.names,y.2=.free->X.env.kindOf y.1=some .cell\/X.env.kindOf y.1=some .free)
  (F:FnOk X.prog X.w X.K X.mg X.base eS k g fd ps sp) (hr:Room k X.A) (hg:Gl X x) (hm:X.mg x=some (.ref g)) (hk:PySem.W.keepIn X.K (.ref g)=true) (hb:Binds X.K fd ps [])
  (hdb:(x == ("__debug__":Str))=false:=by decide)
  (he:starEach [.Lambda gh e scope lpos] X.env=(false,eval (.Lambda gh e scope lpos) X.env)::starEach [] X.env:=by rfl) (hpl:(backTo pos (starEach [] X.env)).any (·.1)=false:=by rfl) :
  PE X (.Call (.Name x p) [.Lambda gh e scope lpos] [] pos) (Ze4 X.N X.env P e scope sp):=by
 intro pins s σ H Q I h
 obtain ⟨hP,h⟩:=h
 refine wpAny_Call_Name_kw (k9 I hg hm ?_ hdb)
 have ha:PA X [.Lambda gh e scope lpos] (iC (Zax X.env.cells P e scope) fi):=b9 (Zhf ck bk hc0 hfr) dh he
 refine PySem.W.callWith_K (h₀:=X.base) I.ok.mod.kin hk (wpAny_mono (ha pos pins s σ H (λvs H3=>∃ (f c:Addr) (cl:List (Str×Addr)) (fo oc:Obj) (fd:FuncData) (as:Array Value) (q:Str) (t:Tok) (H1:Hp),LamFd fd e scope cl (.ref c)/\fo.data=.func fd/\(∀ x c,cl.lookup x=some c->X.env.cells.lookup x=some c)/\(∀ y∈scope.names,y.2=.free->∃ c,cl.lookup y.1=some c)/\H1 c=some (.frz oc (.own 0))/\oc.data=.fields as/\as[1]?=some (.str q t) /\
  (H1=H\/(H c=none/\H1=upd H c (.frz oc (.own 0))))/\H1 f=none/\vs=[.ref f]/\H3=upd H1 f (.frz fo (.own 0))) I ⟨hP,λf c cl fo oc fd as q t H1 a1 a2 a3 a4 a5 a6 a7 a8 a9=>⟨f,c,cl,fo,oc,fd,as,q,t,H1,a1,a2,a3,a4,a5,a6,a7,a8,a9,rfl,rfl⟩⟩) (λus s1 ⟨vs,H3,I1,r,q⟩=>⟨I1.kIn,?_⟩) λ_ _ z=>z) he hpl
 obtain ⟨f,c,cl,fo,oc,fd',as,qn,t,H1,a1,a2,a3,a4,a5,a6,a7,a8,a9,rfl,rfl⟩:=q
 have L:=I1.lent
 have e0:=I1.lend0 hfn
 have ec:=I1.lend_cut
 have q:=h f c cl fo oc fd' as qn t H1 _ a1 a2 a3 a4 a5 a6 a7 a8 a9 I1.ok.inj L ec λj y v a h1 h2 h3 h4=>by
  obtain ⟨m,hn,hl⟩:=I1.loc
  obtain ⟨u,ru,l⟩:=hl j y v h1 h2 (.inr h3)
  rcases l with ⟨z,_⟩ | ⟨_,a',z,⟨o,g1,g2⟩⟩
  ·have z:X.env.scope.names.lookup y=some .local:=z
   rcases h3 with h3 | h3 <;> (rw [h3] at z; cases z)
  ·rw [h4] at z
   cases z
   exact ⟨o,u,by rw [qW (ZcS h4),g1]; rfl,g2,ru⟩
 have hl:us.length=ps.length:=by rw [<- r.length]; exact F.len _ _ _ _ q
 have hbb:=hb s1 us I1.kIn (by rw [List.append_nil]; exact hl)
 rw [List.append_nil] at hbb
 refine wpAny_call (codeAny_mono (F.run X.A X.stack s1 _ ⟨us,[]⟩ us _ _ _ hr e0 hbb r q) λrr s' hq=>?_)
 cases rr with
 | ok fl =>
  cases fl with
  | ret u =>
   have:=CE.cut L e0 hq
   rw [ec] at this
   exact I1.after this
  | next=>exact False.elim hq
  | brk=>exact False.elim hq
  | cont=>exact False.elim hq
 | error ex=>exact False.elim hq
end
theorem Zhu {P:Program} {w:World} {K:PySem.W.Frag} {mg:Str->Option Value} {base:Heap} {N:List Str} {scope:Scope} {cl:List (Str×Addr)} {qual:Str} {f:Addr} {cd:Value} {A:Around} {outer:List Env} {s₀:Shared} {H₀:Hp} {E E1:XK}
  {pins:List (Addr×Obj)} {σ:St} {H:Hp} {s s':Shared} {e:Value}
  (I:Inv (iT (CXE P w) P w K mg base N scope cl qual f cd A outer s₀ H₀ E) pins σ H s) (hq:CXE P w (gu scope cl qual s₀.heap.objs.size f cd::outer) H s E1 e s') (hE:∀ cls H',E1 cls none H'->E cls none H') :
  (iT (CXE P w) P w K mg base N scope cl qual f cd A outer s₀ H₀ E).xe e s':=by
 have hst:s.heap.FunFrames base (gu scope cl qual s₀.heap.objs.size f cd::outer):=I.stack
 have hbase:Un (frs outer) [] H₀ H s₀.heap s.heap:=I.base
 obtain ⟨_,⟨L,oL,hL,_,hoL,_⟩,_⟩:=id hst
 have hLe:L=s₀.heap.objs.size:=(Option.some.inj hL).symm
 have hfs:∀ b,b∈frs (gu scope cl qual s₀.heap.objs.size f cd::outer) ↔ b=L\/b∈frs outer:=λb=>by
  unfold frs
  rw [List.filterMap_cons,hL]
  exact List.mem_cons
 have old:∀ b o,s₀.heap.get? b=some o->b≠L:=λb o hb z=>by
  have:=Heap.lt_size hb
  rw [z,hLe] at this
  exact absurd this (Nat.lt_irrefl _)
 show wpAny (model P w) (A.deeper (gu scope cl qual s₀.heap.objs.size f cd)) (leaving (gu scope cl qual s₀.heap.objs.size f cd) e) (λ_ s''=>CXE P w outer H₀ s₀ E e s'') (λe' s''=>CXE P w outer H₀ s₀ E e' s'') s'
 unfold leaving
 refine wpAny_bind (ZdD (X:=iT (CXE P w) P w K mg base N scope cl qual f cd A outer s₀ H₀ E) (outer:=outer) (L:=L) I rfl hL hq λea cls H' h' eq I5 hea hcl fly un hE1=>?_)
 obtain ⟨b'',t,fl,hf,hbt⟩:=fly
 obtain ⟨f1,f2,⟨_,_,f3⟩,f4⟩:=fl
 refine ⟨ea,t,cls,b'',H',eq,I5.os,I5.bare,I5.base,I5.hok,⟨f1,f2,f3,f4⟩,λb o hb hn=>?_,hbt,hE cls H' hE1⟩
 cases e1:b''.get? b with
 | some o'=>exact ⟨o',rfl⟩
 | none =>
  obtain ⟨o',e2⟩:=hbase.there b o hb (by simp)
  have:=hf b e1 λz=>((hfs b).mp z).elim (old b o hb) hn
  rw [e2] at this
  cases this
section
variable {X:Cx} {pins:List (Addr×Obj)} {σ:St} {H:Hp} {s:Shared}
end
noncomputable def KxE (PK:Pk) (pa:Addr) (m:Ms) (G H:Hp) (C:Addr) (E:XK):Prop:=∀ G' H',Stp pa G H G' H'->Wd PK pa m G' H'->E (.ref C) none H'
theorem KxE.later {PK:Pk} {pa:Addr} {m:Ms} {G H G1 H1:Hp} {C:Addr} {E:XK} (k:KxE PK pa m G H C E) (s:Stp pa G H G1 H1) (hp:∃ o,H1 pa=some o):KxE PK pa m G1 H1 C E:=λG' H' s' w'=>k G' H' (s.trans s' hp) w'
noncomputable def KnX (PK:Pk) (pa:Addr) (m:Ms) (G H:Hp) (C:Addr) (E:XK) (Q:VK):Option PyData->Prop
 | some x=>Kn PK pa m G H x Q
 | none=>KxE PK pa m G H C E
noncomputable def KrX (PK:Pk) (pa:Addr) (m:Ms) (G H:Hp) (C:Addr) (E:XK) (Q:VK):Option Re->Prop
 | some x=>Kr PK pa m G H x Q
 | none=>KxE PK pa m G H C E
noncomputable def KoX (PK:Pk) (pa:Addr) (G₀ H₀ Gs:Hp) (D:Ends) (C:Addr) (E:XK) (m:Ms):Option Ou->Prop
 | some o=>Ko PK pa G₀ H₀ Gs D m o
 | none=>KxE PK pa m G₀ H₀ C E
noncomputable def mw (PK:Pk) (C:Addr) (E:XK) (i:List Sl->Tr (Option PyData)):TE:=λσ H Q=>∃ pa G₀ H₀ m ρ G,Rl PK pa G₀ H₀ m σ ρ G H/\(i ρ).ok m λm' o=>KnX PK pa m' G H C E Q o
noncomputable def fW (PK:Pk) (C:Addr) (E:XK) (i:List Sl->Tr (Option Ou)):TS:=λD σ H=>∃ pa G₀ H₀ m ρ G,Rl PK pa G₀ H₀ m σ ρ G H/\(i ρ).ok m λm' o=>KoX PK pa G₀ H₀ G D C E m' o
noncomputable def Zer (PK:Pk) (n:Nat) (C:Addr) (f:List Sl->Tr (Option Re)):Sp:=λvs H Q E=>vs.length=n/\∃ pa m G as,Wd PK pa m G H/\ArsOk pa G vs as/\(f as).ok m λm' o=>KrX PK pa m' G H C E Q o
section
variable {PK:Pk} {X:Cx} {C:Addr} {E:XK} {e:Expr} {es:List Expr} {pos:Pos} {i:List Sl->Tr PyData} {j:List Sl->Tr (Option PyData)} {as:List Sl->Tr (List Sl)} {st:Stmt} {sts:List Stmt} {s:List Sl->Tr Ou} {u v:List Sl->Tr (Option Ou)}
noncomputable def gO (s:List Sl->Tr Ou):List Sl->Tr (Option Ou):=λρ=>(s ρ).bind λx=>.ret (some x)
theorem Zez (h:PS X st (cP PK s)):PS X st (fW PK C E (gO s)):=h.imp λD σ H ⟨pa,G₀,H₀,m,ρ,G,R,z⟩=>⟨pa,G₀,H₀,m,ρ,G,R,Tr.ok_mono (Tr.ok_bind.mp z) λ_ _ k=>k⟩
theorem jF (h:PSs X sts (cP PK s)):PSs X sts (fW PK C E (gO s)):=h.imp λD σ H ⟨pa,G₀,H₀,m,ρ,G,R,z⟩=>⟨pa,G₀,H₀,m,ρ,G,R,Tr.ok_mono (Tr.ok_bind.mp z) λ_ _ k=>k⟩
noncomputable def kC (p:List Sl->Tr Bool) (u v:List Sl->Tr (Option Ou)):List Sl->Tr (Option Ou):=λρ=>(p ρ).bind λb=>if b=true then u ρ else v ρ
theorem KoX.later {pa:Addr} {G₀ H₀ G G1:Hp} {D:Ends} {m:Ms} {o:Option Ou} (k:KoX PK pa G₀ H₀ G D C E m o) (sb:Sub G G1):KoX PK pa G₀ H₀ G1 D C E m o:=by
 cases o with
 | none=>exact k
 | some o=>exact Ko.later k sb
theorem mH {c:Expr} {p:List Sl->Tr Bool} {xs ys:List Stmt} (hc:PT X c (TAt PK p)) (ha:PSs X xs (fW PK C E u)) (hb:PSs X ys (fW PK C E v)):PS X (.If c xs ys pos) (fW PK C E (kC p u v)):=(jX hc ha hb).imp λD σ H hz0=>by
 obtain ⟨pa,G₀,H₀,m,ρ,G,R,z⟩:=hz0
 refine TAt.then R z λm1 x G1 H1 s1 w1 R1 q1=>?_
 cases x with
 | true=>rw [if_pos rfl] at q1 ⊢; exact ⟨pa,G₀,H₀,m1,ρ,G1,R1,Tr.ok_mono q1 λ_ _ k'=>KoX.later k' s1.gs⟩
 | false=>rw [if_neg Bool.false_ne_true] at q1 ⊢; exact ⟨pa,G₀,H₀,m1,ρ,G1,R1,Tr.ok_mono q1 λ_ _ k'=>KoX.later k' s1.gs⟩
noncomputable def kB:List Sl->Tr (Option Ou):=λ_=>.ret none
theorem mG (h:PS X st (λ_ _ H=>E (.ref C) none H)):PS X st (fW PK C E kB):=h.imp λD σ H ⟨pa,G₀,H₀,m,ρ,G,R,z⟩=>(show KxE PK pa m G₀ H₀ C E from z) G H R.st R.wd
noncomputable def iy (u v:List Sl->Tr (Option Ou)):List Sl->Tr (Option Ou):=λρ=>(u ρ).bind λo=>match o with
 | some (.next ρ')=>v ρ'
 | o=>.ret o
theorem ZeG:∀ D σ H,fW PK C E (iy u v) D σ H->pL (fW PK C E u) (fW PK C E v) D σ H:=by
 rintro D σ H ⟨pa,G₀,H₀,m,ρ,G,R,z⟩
 refine ⟨pa,G₀,H₀,m,ρ,G,R,Tr.ok_mono (Tr.ok_bind.mp z) λm1 o k=>?_⟩
 cases o with
 | none=>exact k
 | some o =>
  cases o with
  | next ρ'=>exact λσ' G' H' sb R'=>⟨pa,G₀,H₀,m1,ρ',G',R',Tr.ok_mono k λ_ _ k'=>KoX.later k' sb⟩
  | ret r=>exact k
  | brk ρ'=>exact k
  | cont ρ'=>exact k
theorem lx (h1:PS X st (fW PK C E u)) (h2:PSs X sts (fW PK C E v)):PSs X (st::sts) (fW PK C E (iy u v)):=(eX h1 h2).imp ZeG
theorem mF (h1:PS X st (fW PK C E u)):PSs X [st] (fW PK C E u):=gT h1
noncomputable def rP:Option Ou->Tr (Option Re)
 | none=>.ret none
 | some o=>(md o).bind λr=>.ret (some r)
noncomputable def i5 (n k:Nat) (u:List Sl->Tr (Option Ou)):List Sl->Tr (Option Re):=λas=>if decide (as.length=n)=true then (u (as++List.replicate k .un)).bind rP else .fail
end
section
variable {PK:Pk} {X:Cx} {C:Addr} {E:XK} {e:Expr} {es:List Expr} {pos:Pos} {is:List Sl->Tr (List PyData)} {i j:List Sl->Tr (Option PyData)} {os:List Sl->Tr (Option (List PyData))}
end
end L2
namespace PySem
open Sem (wp)
section
variable {prog:Program} {w:World} {A:Around} {E:Value->Shared->Prop} {s:Shared} {a:Addr} {o:Obj} {xs:Array Value} {k:Nat}
end
section
variable {prog:Program} {w:World} {A:Around} {E:Value->Shared->Prop} {s:Shared}
end
section
variable {prog:Program} {w:World} {A:Around} {E:Value->Shared->Prop} {s:Shared}
end
section
variable {K:Type} [DecidableEq K]
end
end PySem
namespace L2
open PySem PySem.Spec PyProof.Rows
section
variable {prog:Program} {w:World} {A:Around} {R:Result->Shared->Prop} {K:Type} [DecidableEq K] {knd:KeyKind prog w K} {kf:Nat->K}
end
section
variable {prog:Program} {w:World} {A:Around} {E:Value->Shared->Prop} {s:Shared} {K:Type} [DecidableEq K] {knd:KeyKind prog w K} {kf:Nat->K}
end
section
variable {PK:Pk} {X:Cx} {a:Expr} {p p2 pos pos2:Pos} {i:List Sl->Tr PyData}
end
noncomputable def plE:Expr->Bool
 | .Starred ..=>false
 | _=>true
theorem ZfA {e:Expr} {es:List Expr} {env:Env} (h:plE e=true):starEach (e::es) env=(false,eval e env)::starEach es env:=by
 cases e <;> first | rfl | cases h
section
variable {X:Cx} {PK:Pk} {e:Expr} {es:List Expr} {i:List Sl->Tr PyData} {is:List Sl->Tr (List PyData)}
theorem cU (ha:PE X e (TAe PK i)) (hr:PA X es (TAd PK is)) (hs:plE e=true:=by rfl):PA X (e::es) (TAd PK (ao i is)):=cw ha hr (ZfA hs)
end
section
variable {X:Cx}
end
section
variable {X:Cx} {PK:Pk} {o e:Expr} {i j:List Sl->Tr PyData} {apos cpos:Pos} {sep:Str}
end
section
variable {X:Cx} {PK:Pk} {o e:Expr} {i j:List Sl->Tr PyData} {apos cpos:Pos} {name:Str} {id:String} {r:V->List V->Hp->VK->Prop} {f:PyData->PyData->Option PyData}
end
section
variable {X:Cx}
end
section
variable {X:Cx}
end
section
variable {X:Cx} {PK:Pk} {e:Expr} {i:List Sl->Tr PyData} {p q:gx} {lo hi:Option Expr} {p2 pos:Pos}
end
section
variable {X:Cx} {tg:Expr} {PK:Pk} {i:List Sl->Tr PyData}
end
section
variable {X:Cx} {PK:Pk} {e:Expr} {i:List Sl->Tr PyData} {p q:gx} {lo hi:Option Expr} {p2 pos:Pos} {tg:Expr}
end
noncomputable def ZgG:V->List V->Hp->VK->Prop:=λx vs H Q=>∃ (l:Addr) (bs:List Bool) (k:Bool) (j:Nat),x=.ref l/\vs=[.bl k]/\H l=some (.lst (bs.map V.bl))/\bs[j]?=some k/\(∀ i,i < j->bs[i]?≠some k)/\j < 1000/\Q (.int j) H
theorem ZhX {X:Cx}:mB X "list.index" ZgG:=by
 intro pins s σ H x vs v us Q I rx rv h
 obtain ⟨l,bs,k,j,rfl,rfl,hH,hj,hno,h1000,q⟩:=h
 cases rx
 obtain ⟨u,rfl,ru⟩:=rv.one
 cases ru
 obtain ⟨z,its,n,r,hl,e⟩:=I.lstM hH
 have eits:its=bs.map Value.bool:=by
  clear hl z e hH q hj hno
  induction bs generalizing its with
  | nil=>cases r; rfl
  | cons b bs ih =>
   cases r with
   | cons r1 r2 =>
    cases r1
    rw [ih _ r2]
    rfl
 subst eits
 have e1:∀ b:Bool,(Value.bool b == Value.bool k)=(b == k):=λb=>by cases b <;> cases k <;> rfl
 have hjl:j < bs.length:=(List.getElem?_eq_some_iff.mp hj).1
 refine call_meets F.slot_list_index ⟨_,e,rfl⟩ F.entry_list_index (F.args_list_index_2 _ _) (SeqAt.list_indexAt l (bs.map Value.bool).toArray n none #[] (.bool k) (λy=>y == .bool k) j (by simpa using hjl) (by omega) ?_ λm hm hlt=>?_) ⟨e,λy hy=>?_,⟨.int j,H,I.tok _,⟨_,rfl⟩,q⟩⟩
 ·have:=(List.getElem?_eq_some_iff.mp hj).2
  simp [this]
 ·have hm':m < bs.length:=by simpa using hm
  have h2:=hno m hlt
  rw [List.getElem?_eq_getElem hm'] at h2
  simp only [List.getElem_toArray,List.getElem_map]
  rw [e1]
  exact beq_eq_false_iff_ne.mpr λz=>h2 (by rw [z])
 ·obtain ⟨b,hb,rfl⟩:=List.mem_map.mp (show y∈bs.map Value.bool from List.mem_toArray.mp hy)
  rw [e1]
  exact SeqAt.EqAt.bool_bool b k
structure XMal (PK:Pk) (P:Program) (w:World) (K:PySem.W.Frag) (mg:Str->Option Value) (base:Heap) (C0:Addr) (m:Str) (k:Nat) (ps:List Str) (C:Addr) (f:List Sl->Tr (Option Re)):Prop where
 ex:∃ g fd,FnOk P w K mg base (CXE P w) k g fd ps (Zer PK ps.length C f)/\Meth K C0 m g/\Binds K fd ps []
 len:∀ as m Z,(f as).ok m Z->as.length=ps.length
theorem pB {PK:Pk} {P:Program} {w:World} {K:PySem.W.Frag} {mg:Str->Option Value} {base:Heap} {C0 C:Addr} {x qual:Str} {st:Stmt} {N ps:List Str} {kk k:Nat} {u:List Sl->Tr (Option Ou)} (D:MDef K C0 x qual st ps) (S:FnScope N ps (bZ st)) (hk:N.length - ps.length=k)
  (hbody:∀ (f:Addr) (cdv:Value) (A:Around) (outer:List Env) (sh:Shared) (H:Hp) (E:XK),Room kk (A.deeper (envOfC qual (bZ st) sh.heap.objs.size f cdv)) ->
   PSs (fq (CXE P w) P w K mg base N qual (bZ st) f cdv A outer sh H E) (eD st) (fW PK C E u)):XMal PK P w K mg base C0 x (kk+1) ps C (i5 ps.length k u):=by
 have len:∀ as m Z,(i5 ps.length k u as).ok m Z->as.length=ps.length:=λas m Z h=>by
  unfold i5 at h
  exact of_decide_eq_true (fK h).1
 obtain ⟨g,fd,F,M,hb⟩:=D.ex
 obtain ⟨oc,od,kV,doc,pm,an,cdv,ct,osl,rfl,lk,hcd⟩:=F.ex
 refine ⟨⟨g,_,rO lk hcd S (λvs H Q E h=>h.1) λA outer sh H vs Q E hr hsp=>?_,M,hb⟩,len⟩
 obtain ⟨hv,pa,m,G,as,wd,ar,z⟩:=hsp
 refine ⟨_,hbody g cdv A outer sh H E hr,?_⟩
 unfold i5 at z
 obtain ⟨_,z⟩:=fK z
 refine ⟨pa,G,H,m,_,G,Rl.start wd ar (by rw [hv]; exact hk),Tr.ok_mono (Tr.ok_bind.mp z) λm1 o ko=>?_⟩
 cases o with
 | none=>exact ko
 | some o =>
  cases o with
  | next ρ=>exact λσ G1 H1 sb R1=>(show Kr PK pa m1 G H (.d .none) Q from ko) .non G1 H1 R1.st R1.wd .non
  | ret r=>exact ko
  | brk ρ=>exact (show False from ko).elim
  | cont ρ=>exact (show False from ko).elim
section
variable {PK:Pk} {X:Cx} {C C0:Addr} {E:XK} {o e:Expr} {es:List Expr} {pos apos:Pos} {i:List Sl->Tr PyData} {as:List Sl->Tr (List Sl)}
noncomputable def i9 (C0:Addr) (m:Str) (f:List Sl->Tr (Option Re)) (i:List Sl->Tr PyData) (as:List Sl->Tr (List Sl)):List Sl->Tr (Option PyData):=λρ=>(i ρ).bind λx=>(fE x (hY C0 m)).bind λ_=>(as ρ).bind λys=>(f (.d x::ys)).bind λo=>.ret (o.map Re.val)
theorem Zac {m:Str} {g:List Sl->Tr (Option Re)} {ps:List Str} (len:∀ as m Z,(g as).ok m Z->as.length=ps.length):∀ σ H Q,mw PK C E (i9 C0 m g i as) σ H Q->mV C0 m (Zer PK ps.length C g) [] E (TAe PK i) (TAa PK as) σ H Q:=by
 rintro σ H Q ⟨pa,G₀,H₀,ms,ρ,G,R,z⟩
 refine TAe.then R z λm1 x v G1 H1 s1 w1 R1 d1 q1=>?_
 obtain ⟨a,s,y,ha,hg,k⟩:=f9 (Tr.ok_bind.mp q1)
 obtain ⟨rfl,rfl⟩:=gK d1 ha
 obtain ⟨rfl,fs,e1,e2⟩:=Zcw hg
 obtain ⟨dx,vs,e3,e4⟩:=w1.sto.cel a _ e1
 refine ⟨a,dx,vs,rfl,e3,e4.nolook e2,?_⟩
 refine TAa.then R1 k λm2 xs us G2 H2 s2 w2 R2 d2 q2=>?_
 have q2':=Tr.ok_bind.mp q2
 rw [List.append_nil]
 refine ⟨by rw [List.length_cons,d2.length,<- len _ _ _ q2']; rfl,pa,m2,G2,_,w2,.cons (.d (.hdl a)) d2,Tr.ok_mono q2' λm3 r k=>?_⟩
 cases r with
 | none=>exact KxE.later k (s1.trans s2 w1.some) w2.some
 | some r=>exact Kr.of (Kn.later k (s1.trans s2 w1.some) w2.some) w2.some
theorem pD {m:Str} {k:Nat} {ps:List Str} {g:List Sl->Tr (Option Re)} {pl:Sem Bool} (c:Cls X.K C0) (M:XMal PK X.prog X.w X.K X.mg X.base C0 m k ps C g) (hr:Room k X.A) (hx:g9 (CXE X.prog X.w) X E) (ho:PE X o (TAe PK i)) (ha:PA X (e::es) (TAa PK as))
  (hst:starEach (e::es) X.env=(false,eval e X.env)::starEach es X.env:=by rfl) (hpl:(backTo pos (starEach es X.env)).any (·.1)=false:=by rfl)
  (ht:eval (.Call (.Attribute o m apos) (e::es) [] pos) X.env=(do
   let ov <- eval o X.env
   standAt apos.atName
   let (f,first) <- holding [ov] (getMethod ov m pl)
   callWith pos f first (backTo pos (starEach (e::es) X.env)) (backToKw pos (keywordEach [] X.env))):=by rfl) :
  PE X (.Call (.Attribute o m apos) (e::es) [] pos) (mw PK C E (i9 C0 m g i as)):=by
 obtain ⟨fa,fd,F,hm,hb⟩:=M.ex
 exact (Zb8 (pl:=pl) ho c hm F hr hb .nil hx ha hst hpl ht).imp (Zac M.len)
theorem ZeA {m:Str} {k:Nat} {ps:List Str} {g:List Sl->Tr (Option Re)} {pl:Sem Bool} (c:Cls X.K C0) (M:XMal PK X.prog X.w X.K X.mg X.base C0 m k ps C g) (hr:Room k X.A) (hx:g9 (CXE X.prog X.w) X E) (ho:PE X o (TAe PK i))
  (ht:eval (.Call (.Attribute o m apos) [] [] pos) X.env=(do
   let ov <- eval o X.env
   standAt apos.atName
   let (f,first) <- holding [ov] (getMethod ov m pl)
   callWith pos f first (backTo pos (starEach [] X.env)) (backToKw pos (keywordEach [] X.env))):=by rfl) :
  PE X (.Call (.Attribute o m apos) [] [] pos) (mw PK C E (i9 C0 m g i b7)):=by
 obtain ⟨fa,fd,F,hm,hb⟩:=M.ex
 refine (Zb7 (pl:=pl) ho c hm F hr hb .nil hx ht).imp λσ H Q z=>?_
 obtain ⟨pa,G₀,H₀,ms,ρ,G,R,z1⟩:=Zac M.len σ H Q z
 refine ⟨pa,G₀,H₀,ms,ρ,G,R,Tr.ok_mono z1 λm1 x kn v G1 H1 s1 w1 d1=>?_⟩
 obtain ⟨a,dx,fs,h1,h2,h3,h4⟩:=kn v G1 H1 s1 w1 d1
 refine ⟨a,dx,fs,h1,h2,h3,?_⟩
 obtain ⟨pa',G₀',H₀',ms',ρ',G',R',z'⟩:=h4
 exact z' [] G' H1 .refl R'.wd .nil
end
theorem ny {P:Program} {w:World} {K:PySem.W.Frag} {mg:Str->Option Value} {base:Heap} {N:List Str} {scope:Scope} {cl:List (Str×Addr)} {qual:Str} {f:Addr} {cd:Value} {A:Around} {outer:List Env} {s₀:Shared} {H₀:Hp} {E:XK} :
  g9 (CXE P w) (iT (CXE P w) P w K mg base N scope cl qual f cd A outer s₀ H₀ E) E:=λpins σ H s e s' I hq=>Zhu I hq λ_ _ z=>z
noncomputable def lD (P:Program) (w:World) (K:PySem.W.Frag) (mg:Str->Option Value) (base:Heap) (kk:Nat) (C:Addr) (wd:Str):Sp:=λvs H Q _=>vs.length=1/\∃ f sp Q0 E0,vs=[.ref f]/\tw P w K mg base kk f sp/\sp H Q0 E0/\(∀ v H',Q0 v H'->Q (.str "none") H') /\
 ∀ cls t H',E0 cls t H'->cls=.ref C/\∀ H'',(∀ b o,H' b=some o->H'' b=some o)->Q (.str wd) H''
noncomputable def g6:List Nat->List Sl->Option (List PyData)
 | [],_=>some []
 | j::ix,ρ=>match ρ[j]? with
  | some (.d x)=>(g6 ix ρ).map (x::·)
  | _=>none
noncomputable def mK (wd:Str):Option PyData->Tr PyData
 | none=>.ret (.str wd)
 | some _=>.ret (.str "none")
noncomputable def pE (wd:Str) (t:List Sl->Tr (Option PyData)):Option (List PyData)->Tr PyData
 | some xs=>(t (xs.map Sl.d)).bind (mK wd)
 | none=>.fail
noncomputable def kt (ix:List Nat) (wd:Str) (t:List Sl->Tr (Option PyData)):List Sl->Tr PyData:=λρ=>pE wd t (g6 ix ρ)
theorem ZdF {PK:Pk} {pa:Addr} {G₀ H₀ G H:Hp} {m:Ms} {σ:St} {ρ:List Sl} (R:Rl PK pa G₀ H₀ m σ ρ G H):∀ {ix:List Nat} {xs:List PyData},g6 ix ρ=some xs->∃ vs,DnAll G vs xs/\vs.length=ix.length/\∀ (i j:Nat),ix[i]?=some j->∃ v,vs[i]?=some v/\σ[j]?=some (some v)
 | [],xs,h=>by
  cases h
  exact ⟨[],.nil,rfl,λi j e=>by simp at e⟩
 | j::ix,xs,h=>by
  rw [g6] at h
  split at h
  ·rename_i x hx
   cases e:g6 ix ρ with
   | none=>rw [e] at h; cases h
   | some ys =>
    rw [e] at h
    cases h
    obtain ⟨vs,d,hl,k⟩:=ZdF R e
    obtain ⟨o,ho,so⟩:=R.sl j _ hx
    cases so with
    | @d v _ dv =>
     refine ⟨v::vs,.cons dv d,by rw [List.length_cons,List.length_cons,hl],λi j' hi=>?_⟩
     cases i with
     | zero =>
      simp at hi
      subst hi
      exact ⟨v,rfl,ho⟩
     | succ i =>
      obtain ⟨u,h1,h2⟩:=k i j' (by simpa using hi)
      exact ⟨u,by simpa using h1,h2⟩
  ·cases h
theorem Zec {pa:Addr} {G:Hp}:∀ {vs:List V} {xs:List PyData},DnAll G vs xs->ArsOk pa G vs (xs.map Sl.d)
 | _,_,.nil=>.nil
 | _,_,.cons h t=>.cons (.d h) (Zec t)
structure LamD (Nx:List Str) (sc scope:Scope) (NL:List Str) (ix:List Nat):Prop where
 kind:scope.kind=.function
 co:scope.isCoroutine=false
 gen:scope.isGenerator=false
 nd:NL.Nodup
 nc:∀ y∈scope.names,y.2≠.cell
 fr:∀ y∈scope.names,y.2=.free->y.1∈NL/\(sc.names.lookup y.1=some .cell\/sc.names.lookup y.1=some .free)
 all:∀ x∈NL,scope.names.lookup x=some .free
 nl:ix.map (λj=>Nx[j]?)=NL.map some
theorem LamD.sc {Nx:List Str} {sc scope:Scope} {NL:List Str} {ix:List Nat} (d:LamD Nx sc scope NL ix):LamSc NL scope :=
 ⟨d.kind,d.co,d.gen,d.nd,d.nc,λx h=>(d.fr (x,.free) (PySem.mem_of_lookup h) rfl).1,d.all⟩
theorem LamD.ln {Nx:List Str} {sc scope:Scope} {NL:List Str} {ix:List Nat} (d:LamD Nx sc scope NL ix):ix.length=NL.length:=by
 have:=congrArg List.length d.nl
 rwa [List.length_map,List.length_map] at this
theorem LamD.at' {Nx:List Str} {sc scope:Scope} {NL:List Str} {ix:List Nat} (d:LamD Nx sc scope NL ix) (a:Nat) (y:Str) (h:NL[a]?=some y):∃ j,ix[a]?=some j/\Nx[j]?=some y:=by
 have:=congrArg (λl=>l[a]?) d.nl
 simp only [List.getElem?_map,h,Option.map_some] at this
 cases e:ix[a]? with
 | none=>rw [e] at this; cases this
 | some j =>
  rw [e] at this
  exact ⟨j,rfl,Option.some.inj this⟩
theorem oM {X:Cx} {PK:Pk} {k kk:Nat} {g c0 P C:Addr} {fd:FuncData} {ps:List Str} {x wd:Str} {e:Expr} {scope:Scope} {p lpos pos:Pos} {NL:List Str} {ix:List Nat} {t:List Sl->Tr (Option PyData)}
  (hPK:∀ o G m,PK.is o G m->∃ ps,G P=some (.cod ps)) (hfn:∀ y,X.fn y=true) (ck:CodK X.K c0 P) (bk:BltK X.base X.mg) (hc0:X.env.code=.ref c0)
  (F:FnOk X.prog X.w X.K X.mg X.base eS k g fd ps (lD X.prog X.w X.K X.mg X.base (kk+1) C wd)) (hr:Room k X.A) (hg:Gl X x) (hm:X.mg x=some (.ref g)) (hk:PySem.W.keepIn X.K (.ref g)=true) (hb:Binds X.K fd ps [])
  (d:LamD X.N X.env.scope scope NL ix)
  (hX:∀ (cl:List (Str×Addr)) (q:Str) (f c:Addr) (A:Around) (outer:List Env) (s:Shared) (H:Hp) (E:XK),Room kk (A.deeper (gu scope cl q s.heap.objs.size f (.ref c)))->PE (iT (CXE X.prog X.w) X.prog X.w X.K X.mg X.base NL scope cl q f (.ref c) A outer s H E) e (mw PK C E t))
  (hdb:(x == ("__debug__":Str))=false:=by decide)
  (he:starEach [.Lambda gh e scope lpos] X.env=(false,eval (.Lambda gh e scope lpos) X.env)::starEach [] X.env:=by rfl) (hpl:(backTo pos (starEach [] X.env)).any (·.1)=false:=by rfl) :
  PE X (.Call (.Name x p) [.Lambda gh e scope lpos] [] pos) (TAe PK (kt ix wd t)) :=
 (Zg9 hfn ck bk hc0 (λy hy hf=>(d.fr y hy hf).2) F hr hg hm hk hb hdb he hpl).imp λσ H Q hz0=>by
  obtain ⟨pa,G₀,H₀,m,ρ,G,R,z⟩:=hz0
  have hfr:∀ y∈scope.names,y.2=.free->X.env.kindOf y.1=some .cell\/X.env.kindOf y.1=some .free:=λy hy hf=>(d.fr y hy hf).2
  have S:=d.sc
  have hNL:=d.at'
  have hlen:=d.ln
  unfold kt at z
  cases hc:g6 ix ρ with
  | none=>rw [hc] at z; exact z.elim
  | some xs =>
   rw [hc] at z
   have z:=Tr.ok_bind.mp (show ((t (xs.map Sl.d)).bind (mK wd)).ok m λm' x=>Kn PK pa m' G H x Q from z)
   obtain ⟨vs,dv,hvl,hvs⟩:=ZdF R hc
   obtain ⟨o0,ho0,hi0⟩:=R.wd.pen
   obtain ⟨ps0,hP0⟩:=hPK o0 G m.n hi0
   refine ⟨⟨ps0,R.wd.sub _ _ hP0⟩,λf c cl fo oc fd' as qn tk H1 H2 a1 a2 a3 a4 a5 a6 a7 a8 a9 inj L ec cells=>?_⟩
   obtain ⟨fc,fdd,fdat,osl⟩:=fo
   have a2:fdat=.func fd':=a2
   subst a2
   have up1:∀ b o,H b=some o->H1 b=some o:=λb o h=>by
    rcases a8 with rfl | ⟨n1,rfl⟩
    ·exact h
    ·rw [ak (eT h n1)]; exact h
   have up:∀ b o,H b=some o->upd H1 f (.frz ⟨fc,fdd,.func fd',osl⟩ (.own 0)) b=some o:=λb o h=>by rw [ak (eT (up1 b o h) a9)]; exact up1 b o h
   have hcs:∀ b u,upd H1 f (.frz ⟨fc,fdd,.func fd',osl⟩ (.own 0)) b=some u->b ∉ eh X.env/\H2 b=some u:=λb u h=>by
    rw [<- ec] at h
    have hb:b ∉ eh X.env:=λz=>by rw [gj z] at h; cases h
    rw [fe hb] at h
    exact ⟨hb,h⟩
   have hf2:=(hcs f _ cr).2
   have hc2:H2 c=some (.frz oc (.own 0)):=(hcs c _ (by rw [ak (eT a5 a9)]; exact a5)).2
   generalize hH3:upd H1 f (.frz ⟨fc,fdd,.func fd',osl⟩ (.own 0))=H3 at *
   have w3:Wd PK pa m G H3:=⟨λb o h=>up b o (R.wd.sub b o h),R.wd.gpa,⟨o0,up _ _ ho0,hi0⟩,R.wd.sto.same λb o h _=>up b o h⟩
   have hin:∀ x a,cl.lookup x=some a->a∈eh X.env:=λx a h=>ZcS (a3 x a h)
   have cap:∀ (n:Nat) (y:Str),NL[n]?=some y->∃ a o,cl.lookup y=some a/\H2 a=some (.frz o (.own 0))/\∀ v,(vs.map some)[n]?=some (some v)->∃ u,RelV v u/\o.data=.cell (some u):=λn y hy=>by
    have fr:=S.all y (List.mem_of_getElem? hy)
    obtain ⟨a,ha⟩:=a4 (y,.free) (PySem.mem_of_lookup fr) rfl
    obtain ⟨o,v0,e1,e2⟩:=L a (hin y a ha)
    refine ⟨a,o,ha,e1,λv hv=>?_⟩
    obtain ⟨j,hj,hNj⟩:=hNL n y hy
    obtain ⟨v',h1,h2⟩:=hvs n j hj
    have:v'=v:=by
     rw [List.getElem?_map,h1] at hv
     cases hv
     rfl
    subst this
    obtain ⟨o',u,e3,e4,e5⟩:=cells j y v' a hNj h2 (hfr (y,.free) (PySem.mem_of_lookup fr) rfl) (a3 y a ha)
    rw [e1] at e3
    cases e3
    exact ⟨u,e5,e4⟩
   have sl:(vs.map some).length=NL.length:=by rw [List.length_map,hvl,hlen]
   have stt:L2.start NL vs=vs.map some:=by
    unfold L2.start
    rw [hvl,hlen,Nat.sub_self]
    simp
   have RL:=Rl.start (N:=NL) (k:=0) w3 (Zec (pa:=pa) dv) (by rw [hvl,hlen,Nat.sub_self])
   rw [stt] at RL
   have e0:xs.map Sl.d++List.replicate 0 Sl.un=xs.map Sl.d:=by simp
   rw [e0] at RL
   have s3:Stp pa G H G H3:=.all (λ_ _ h=>h) (λ_ _ h=>.inl h) up
   have back:∀ {m1:Ms} {G4 H4 H5:Hp},Stp pa G H3 G4 H4->Wd PK pa m1 G4 H4->(∀ b∈eh X.env,H4 b=none)->(∀ b o,glue (eh X.env) H2 H4 b=some o->H5 b=some o)->Stp pa G H G4 (cut (eh X.env) H5)/\Wd PK pa m1 G4 (cut (eh X.env) H5):=λ{m1 G4 H4 H5} s4 w4 hn hx=>by
    have key:∀ b o,H4 b=some o->cut (eh X.env) H5 b=some o:=λb o h=>by
     have hb:b ∉ eh X.env:=λz=>by rw [hn b z] at h; cases h
     rw [fe hb]
     exact hx b o (by rw [io hb]; exact h)
    have st:=s3.trans s4 w3.some
    obtain ⟨o4,ho4,hi4⟩:=w4.pen
    exact ⟨⟨st.gs,st.gn,λb o h n c=>key b o (st.hk b o h n c),λb o h=>let ⟨o',h1,h2⟩:=st.al b o h; ⟨o',key b o' h1,h2⟩⟩,λb o h=>key b o (w4.sub b o h),w4.gpa,⟨o4,key _ _ ho4,hi4⟩,w4.sto.same λb o h _=>key b o h⟩
   refine ⟨rfl,f,spL NL cl (eh X.env) f c ⟨fc,fdd,.func fd',osl⟩ oc (vs.map some) (λE=>mw PK C E t),λ_ H'=>∃ m1 G4 H4,Stp pa G H3 G4 H4/\Wd PK pa m1 G4 H4/\(∀ b∈eh X.env,H4 b=none)/\H'=glue (eh X.env) H2 H4/\Kn PK pa m1 G H (.str "none") Q,λcls _ H'=>cls=.ref C/\∃ m1 G4 H4,Stp pa G H3 G4 H4/\Wd PK pa m1 G4 H4/\(∀ b∈eh X.env,H4 b=none)/\H'=glue (eh X.env) H2 H4/\Kn PK pa m1 G H (.str wd) Q,rfl,Zir S a1 a6 a7 (λx y a h1 h2=>inj x y a (a3 x a h1) (a3 y a h2)) sl (λA outer s H E hr=>hX cl _ f c A outer s H E hr),⟨hf2,hc2,L,hin,cap,?_⟩,?_,?_⟩
   ·rw [ec]
    refine ⟨pa,G,H3,m,_,G,RL,Tr.ok_mono z λm1 o ko=>?_⟩
    cases o with
    | none=>exact λG4 H4 s4 w4 hn=>⟨rfl,m1,G4,H4,s4,w4,hn,rfl,ko⟩
    | some y=>exact λv G4 H4 s4 w4 _ hn=>⟨m1,G4,H4,s4,w4,hn,rfl,ko⟩
   ·rintro v H' ⟨m1,G4,H4,s4,w4,hn,rfl,ko⟩
    obtain ⟨st,wd'⟩:=back (H5:=glue (eh X.env) H2 H4) s4 w4 hn λb o h=>h
    exact ko (.str "none") G4 _ st wd' (.str _)
   ·rintro cls tt H' ⟨rfl,m1,G4,H4,s4,w4,hn,rfl,ko⟩
    refine ⟨rfl,λH5 hx=>?_⟩
    obtain ⟨st,wd'⟩:=back s4 w4 hn hx
    exact ko (.str wd) G4 _ st wd' (.str _)
structure DefK (K:PySem.W.Frag) (mg:Str->Option Value) (x:Str) (st:Stmt) (ps:List Str) (c0 Pt:Addr):Prop where
 ex:∃ (fa:Addr) (oc:Value) (od:Option Addr) (kV doc pm:Value) (an:Option Addr) (ct:Value) (osl:Array (Option Value)),mg x=some (.ref fa)/\K.lookup fa=some ⟨oc,od,.func (PySem.W.fnOf x x (fm st) (eD st) (bZ st) .none kV doc pm an (.ref c0) ct),osl⟩ /\
  PySem.W.keepIn K (.ref fa)=true/\Binds K (PySem.W.fnOf x x (fm st) (eD st) (bZ st) .none kV doc pm an (.ref c0) ct) ps []
 cd:PySem.W.codeIn K (.ref c0) x=true
 ck:CodK K c0 Pt
noncomputable def dW (ts:List Addr) (PK:Pk):Pk where
 is o G m:=PK.is o G m/\∀ t∈ts,∃ ps,G t=some (.cod ps)
 mono:=λs h=>⟨PK.mono s h.1,λt ht=>let ⟨ps,e⟩:=h.2 t ht; ⟨ps,s _ _ e⟩⟩
 nch:=λh=>PK.nch h.1
section
variable {ts:List Addr} {PK:Pk}
theorem Wd.unS {pa:Addr} {m:Ms} {G H:Hp} (w:Wd (dW ts PK) pa m G H):Wd PK pa m G H:=⟨w.sub,w.gpa,let ⟨o,h,k⟩:=w.pen; ⟨o,h,k.1⟩,w.sto⟩
theorem Wd.reS {pa:Addr} {m m':Ms} {G H G' H':Hp} (w:Wd (dW ts PK) pa m G H) (s:Sub G G') (w':Wd PK pa m' G' H'):Wd (dW ts PK) pa m' G' H' :=
 ⟨w'.sub,w'.gpa,let ⟨o,h,k⟩:=w'.pen; ⟨o,h,k,λt ht=>let ⟨_,_,_,ke⟩:=w.pen; let ⟨ps,e⟩:=ke t ht; ⟨ps,s _ _ e⟩⟩,w'.sto⟩
theorem ACal.cods {P:Program} {w:World} {K:PySem.W.Frag} {mg:Str->Option Value} {base:Heap} {x:Str} {k:Nat} {ps:List Str} {f:List Sl->Tr Re} (C:ACal PK P w K mg base x k ps f):ACal (dW ts PK) P w K mg base x k ps f:=by
 obtain ⟨C,len⟩:=C
 obtain ⟨g,fd,F,hm,hk,hb⟩:=C.ex
 refine ⟨⟨g,fd,F.imp λvs H Q E h=>?_,hm,hk,hb⟩,len⟩
 obtain ⟨hv,pa,m,G,as,wd,ar,z⟩:=h
 exact ⟨hv,pa,m,G,as,wd.unS,ar,Tr.ok_mono z λm' r h v G' H' s w' d=>h v G' H' s (wd.reS s.gs w') d⟩
end
theorem Zeo {PK:Pk} {st:Stmt} {P:Program} {w:World} {K:PySem.W.Frag} {mg:Str->Option Value} {base:Heap} {x:Str} {N ps:List Str} {c0 Pt:Addr} {kk k:Nat} {s:List Sl->Tr Ou} (D:DefK K mg x st ps c0 Pt) (S:FnScope N ps (bZ st)) (hk:N.length - ps.length=k)
  (hbody:∀ (f:Addr) (A:Around) (outer:List Env) (sh:Shared) (H:Hp) (E:XK),Room kk (A.deeper (envOfC x (bZ st) sh.heap.objs.size f (.ref c0))) ->
   PSs (fq eS P w K mg base N x (bZ st) f (.ref c0) A outer sh H E).nox (eD st) (cP PK s)):ACal PK P w K mg base x (kk+1) ps (cO ps.length k s):=by
 obtain ⟨fa,oc,od,kV,doc,pm,an,ct,osl,hm,lk,kp,hb⟩:=D.ex
 refine ⟨⟨fa,_,rO lk D.cd S (λvs H Q E h=>h.1) λA outer sh H vs Q E hr hsp=>?_,hm,kp,hb⟩,sY⟩
 obtain ⟨hv,pa,m,G,as,wd,ar,z⟩:=hsp
 unfold cO at z
 obtain ⟨_,z⟩:=fK z
 have key:∃ t,PSs (fq eS P w K mg base N x (bZ st) fa (.ref c0) A outer sh H E).nox (eD st) t/\t { nx:=λ_ H'=>Q .non H',rt:=Q } (L2.start N vs) H:=by
  refine ⟨_,hbody fa A outer sh H E hr,pa,G,H,m,_,G,Rl.start wd ar (by rw [hv]; exact hk),Tr.ok_mono (Tr.ok_bind.mp z) λm1 o ko=>?_⟩
  cases o with
  | next ρ=>exact λσ G1 H1 sb R1=>ko .non G1 H1 R1.st R1.wd .non
  | ret r=>exact ko
  | brk ρ=>exact ko.elim
  | cont ρ=>exact ko.elim
 obtain ⟨t,ht,hq⟩:=key
 exact ⟨t,ht.nox,hq⟩
noncomputable def jL (ts:List Addr) (K:PySem.W.Frag):Sp:=λvs H Q _=>∃ (a:Addr) (ns:List Int),vs=[.ref a]/\SqL K H a (ns.map V.int)/\ns.length<=63/\(∀ t∈ts,H t=some (.cod #[]))/\∀ H',(∀ t∈ts,H' t=some (.cod #[]))->Q (.bl true) H'
noncomputable def tabs (ts:List Addr) (H0:Hp):Hp:=λb=>if b∈ts then some (.cod #[]) else H0 b
theorem Zav {ts:List Addr} {H0:Hp} {b:Addr} (h:b∈ts):tabs ts H0 b=some (.cod #[]):=if_pos h
theorem lB {ts:List Addr} {H0:Hp} {b:Addr} (h:b ∉ ts):tabs ts H0 b=H0 b:=if_neg h
theorem Zin {P:Program} {w:World} {K:PySem.W.Frag} {mg mb:Str->Option Value} {k:Nat} {fa a:Addr} {ts:List Addr} {fd:FuncData} {x:Str} {s₁:Shared} {vs:List Value} {ns:List Int}
  (KX:K.In s₁.heap) (hns:s₁.heap.Ns mainGlobals mg) (hb:s₁.heap.Ns builtinsNs mb) (hbb:∀ x:Str,x≠"__name__"->mb x=bootBuiltins x) (hlim:s₁.heap.NoLimit) (hdig:s₁.heap.NoDigits) (hg:s₁.gens=#[])
  (ha:s₁.heap.get? a=some { cls:=.type "list",data:=.seq vs.toArray }) (hi:IntsAre vs ns) (hl:ns.length<=sizeLine) (h63:ns.length<=63) (hr:Room k callerA)
  (tb:∀ t∈ts,s₁.heap.get? t=some { cls:=.none,data:=.fields #[] }) (hKP:∀ t∈ts,K.lookup t=none) (ck:∀ t∈ts,∃ c0,CodK K c0 t) (hBl:BltK s₁.heap mg)
  (F:∀ base:Heap,K.In base->base.Ns mainGlobals mg->BltK base mg->FnOk P w K mg base eS k fa fd [x] (jL ts K)) (hbind:∀ (s:Shared) (u:Value),BindsTo s fd ⟨[u],[]⟩ [(x,u)]) :
  codeAny (model P w) callerA (.call (.ref fa) ⟨[.ref a],[]⟩) (λr s'=>r=.ok (.ret (.bool true))/\OldK s₁.heap s'.heap/\s'.os=s₁.os/\AllBare s'.gens) s₁:=by
 have rv:=ZeV hi
 have lenV:=hi.length
 have apl:a ∉ ts:=λz=>by
  rw [tb a z] at ha
  cases ha
 have core:∀ H0:Hp,Znj H0->SqL K H0 a (ns.map V.int)->HOk P w H0 s₁.heap->(∀ b,H0 b≠none->b=a)->(H0 a≠none->K.lookup a=none) ->
   codeAny (model P w) callerA (.call (.ref fa) ⟨[.ref a],[]⟩) (λr s'=>r=.ok (.ret (.bool true))/\OldK s₁.heap s'.heap/\s'.os=s₁.os/\AllBare s'.gens) s₁:=by
  intro H0 hO hS0 hok0 hA0 hK
  have hout:∀ b u,H0 b=some u->b ∉ ts:=λb u e z=>by
   have:=hA0 b (by rw [e]; simp)
   exact apl (this ▸ z)
  have hup:∀ b u,H0 b=some u->tabs ts H0 b=some u:=λb u e=>by rw [lB (hout b u e)]; exact e
  have hS:SqL K (tabs ts H0) a (ns.map V.int):=Same.seq (λb o e=>hup b o e) hS0
  have hok:HOk P w (tabs ts H0) s₁.heap:=λb u e=>by
   by_cases z:b∈ts
   ·rw [Zav z] at e
    cases e
    exact ⟨#[],tb b z,trivial,λpo v hv=>by cases hv⟩
   ·rw [lB z] at e
    exact (hok0 b u e).stay (λ_ _ _ q=>q) (λc q=>hup c _ q) (λc xs q=>hup c _ q) λc ob u' vs q _=>hup c _ q
  have hA:∀ b,tabs ts H0 b≠none->b=a\/b∈ts:=λb h=>by
   by_cases z:b∈ts
   ·exact .inr z
   ·rw [lB z] at h
    exact .inl (hA0 b h)
  generalize hH:tabs ts H0=H at *
  have hPl:∀ t∈ts,H t=some (.cod #[]):=λt ht=>by rw [<- hH]; exact Zav ht
  have hb0:∀ b u,H0 b=some u->H b=some u:=hup
  have base_of:∀ {b:Addr} {o:Obj},s₁.heap.get? b=some o->H b=none->(im s₁.heap H).get? b=some o:=λe n=>ZiW e n
  have noA:∀ {b:Addr} {o:Obj} {es:Array DictEntry} {ep:Nat},s₁.heap.get? b=some o->o.data=.dict es ep->H b=none:=λ{b o es ep} e d=>by
   cases q:H b with
   | none=>rfl
   | some u =>
    rcases hA b (by rw [q]; simp) with e' | e'
    ·subst e'
     rw [ha] at e; cases e
     have d':Data.seq vs.toArray _=Data.dict es ep:=d
     cases d'
    ·rw [tb b e'] at e; cases e
     have d':Data.fields #[]=Data.dict es ep:=d
     cases d'
  have nsK:∀ {b:Addr} {m:Str->Option Value},s₁.heap.Ns b m->(im s₁.heap H).Ns b m:=λ{b m} hz0=>by
   obtain ⟨o,es,ep,e,d,r⟩:=hz0
   exact ⟨o,es,ep,base_of e (noA e d),d,r⟩
  have hKb:K.In (im s₁.heap H):=λb o e=>base_of (KX b o e) (by
   cases q:H b with
   | none=>rfl
   | some u =>
    rcases hA b (by rw [q]; simp) with e' | e'
    ·subst e'
     cases q0:H0 b with
     | none =>
      rw [<- hH,lB apl,q0] at q
      cases q
     | some u0=>rw [hK (by rw [q0]; simp)] at e; cases e
    ·rw [hKP b e'] at e; cases e)
  have hBb:BltK (im s₁.heap H) mg:=by
   obtain ⟨bm,bo,b1,b2,b3,b4,b5,b6⟩:=hBl.ex
   refine ⟨bm,bo,b1,b2,base_of b3 ?_,b4,b5,b6⟩
   cases q:H bm with
   | none=>rfl
   | some u =>
    rcases hA bm (by rw [q]; simp) with e' | e'
    ·subst e'
     rw [ha] at b3; cases b3
     cases b6
    ·rw [tb bm e'] at b3; cases b3
     cases b6
  have hM:Mod K mg (im s₁.heap H):=⟨hKb,nsK hns,⟨mb,nsK hb,hbb⟩,let ⟨mc,h1,h2⟩:=hlim; ⟨mc,nsK h1,h2⟩,let ⟨mc,h1,h2⟩:=hdig; ⟨mc,nsK h1,h2⟩⟩
  have e0:Env0 P w K mg (im s₁.heap H) callerA [] s₁ H:=⟨rfl,hM,λb o e=>ZhJ e,Nat.le_of_eq (ZiV _ _),trivial,λb hb=>absurd (show b∈([]:List Addr) from hb) (by simp),hok,.of_eq hg⟩
  refine codeAny_mono ((F _ hKb (nsK hns) hBb).run callerA [] s₁ H ⟨[.ref a],[]⟩ [.ref a] [.ref a] (λv H'=>v=.bl true/\∀ t∈ts,H' t=some (.cod #[])) (λ_ _ _=>False) hr e0 (hbind s₁ (.ref a)) (.cons rfl .nil) ⟨a,ns,rfl,hS,h63,hPl,λH' q=>⟨rfl,q⟩⟩) λr s' h=>?_
  cases r with
  | error e=>exact False.elim h
  | ok fl =>
   cases fl with
   | next=>exact False.elim h
   | brk=>exact False.elim h
   | cont=>exact False.elim h
   | ret u =>
    obtain ⟨v,H',os,bare,un,hok',r',q',hP'⟩:=h
    have q':v=.bl true:=q'
    subst q'
    obtain rfl:u=Value.bool true:=r'
    have cases3:∀ b o,s₁.heap.get? b=some o->s'.heap.get? b=some o\/(b∈ts/\∃ more,s'.heap.get? b=some { cls:=.none,data:=.fields (#[]++more) }):=λb o e=>by
     by_cases z:b∈ts
     ·obtain ⟨more,t1,_⟩:=hok' b _ (hP' b z)
      exact .inr ⟨z,more,t1⟩
     ·left
      cases q:H b with
      | none=>exact un.keep b o e q (by intro z; exact absurd (show b∈([]:List Addr) from z) (by simp)) (by simp)
      | some u =>
       rcases hO b with z0 | ⟨ob,xs,z0⟩
       ·rw [<- hH,lB z,z0] at q; cases q
       ·have z1:=hb0 b _ z0
        have z2:=un.frzs b ob _ z1
        obtain ⟨e1,_⟩:=hok b _ z1
        obtain ⟨e2,_⟩:=hok' b _ z2
        rw [e] at e1; cases e1
        exact e2
    refine ⟨rfl,⟨λb o e=>?_,λb o e=>?_⟩,os,bare⟩
    ·rcases cases3 b o e with z | ⟨hz,more,z⟩
     ·exact .inl z
     ·rw [tb b hz] at e
      cases e
      obtain ⟨c0,ck⟩:=ck b hz
      obtain ⟨oc,vs',_,_,_,_,_,_,_,e1,e2,e3,e4,_⟩:=ck.ex
      exact .inr (.inl ⟨⟨c0,oc,vs',KX c0 oc e1,e2,e3,e4⟩,rfl,#[],more,rfl,z⟩)
    ·rcases cases3 b o e with z | ⟨_,more,z⟩
     ·exact ⟨_,z⟩
     ·exact ⟨_,z⟩
 cases hk:K.lookup a with
 | some o =>
  have e:=KX a o hk
  rw [ha] at e
  cases e
  refine core (λ_=>none) (λ_=>.inl rfl) (.inr ⟨_,vs.toArray,_,hk,rfl,rfl,rfl,by rw [List.size_toArray,lenV]; exact hl,by simpa using rv⟩) (λb u z=>by have z':(none:Option HO)=some u:=z; cases z') (λb z=>absurd rfl z) λz=>absurd rfl z
 | none =>
  refine core (λb=>if b=a then some (.frz { cls:=.type "list",data:=.seq vs.toArray } (.lst (ns.map V.int))) else none) (λb=>?_) (.inl (.inr (.inl ⟨{ cls:=.type "list",data:=.seq vs.toArray },if_pos rfl⟩))) (λb u z=>?_) (λb z=>?_) λ_=>hk
  ·by_cases hb:b=a
   ·exact .inr ⟨_,_,if_pos hb⟩
   ·exact .inl (if_neg hb)
  ·by_cases hb:b=a
   ·have z':=(if_pos hb).symm.trans z
    cases z'
    subst hb
    exact ⟨ha,by rw [List.length_map]; exact hl,vs,_,rv,ha⟩
   ·have z':=(if_neg hb).symm.trans z
    cases z'
  ·by_cases hb:b=a
   ·exact hb
   ·exact absurd (if_neg hb) z
theorem Zim {ts:List Addr} {D:Ends} {p c:Addr} {ns:List Int} {H:Hp} {σ:St} {s:List Sl->Tr Ou} {n:Nat} (P:Pen2 H p c ns 0) (hT:∀ t∈ts,H t=some (.cod #[])) (hσ:σ.length=n+2) (h1:σ[1]?=some (some (.ref p))) (hrt:∀ H',(∀ t∈ts,H' t=some (.cod #[]))->D.rt (.bl true) H')
  (h:(s (.un::.pen::List.replicate n .un)).ok 0 λ_ o=>o=.ret (.d (.bool true))):∃ cn,cP (dW ts (d8 cn)) s D σ H:=by
 obtain ⟨⟨k,l,e,hk,hl⟩,hc,hn,ncp⟩:=P
 have npc:p≠c:=Ne.symm ncp
 have pts:p ∉ ts:=λz=>by
  have:=hT p z
  rw [e] at this
  cases this
 have key:∀ (i:Nat) (sl:Sl),(Sl.un::.pen::List.replicate n .un)[i]?=some sl->sl=.un\/(i=1/\sl=.pen):=λi sl hi=>by
  match i with
  | 0=>simp at hi; exact .inl hi.symm
  | 1=>simp at hi; exact .inr ⟨rfl,hi.symm⟩
  | i+2 =>
   simp [List.getElem?_replicate] at hi
   exact .inl hi.2.symm
 obtain ⟨G,gs,gp,gc,gt⟩:∃ G:Hp,Sub G H/\G p=none/\G c=some (.lst (ns.map V.int))/\∀ t∈ts,∃ ps,G t=some (.cod ps):=by
  refine ⟨λb=>if b=p then none else H b,λb o hb=>?_,if_pos rfl,?_,λt ht=>⟨#[],?_⟩⟩
  ·by_cases z:b=p
   ·simp [z] at hb
   ·simpa [z] using hb
  ·simp [ncp,hc]
  ·have:t≠p:=λz=>pts (z ▸ ht)
   simp [this,hT t ht]
 refine ⟨(c,ns),p,G,H,0,_,G,⟨⟨gs,gp,?_,StoOk.none⟩,.refl,⟨_,e⟩,λi sl hi=>?_,by simp [hσ],λi j xs ys _ hi _=>?_,λi j xs ys _ hi _=>by rcases key i _ hi with z | ⟨_,z⟩ <;> cases z⟩,Tr.ok_mono h λm o ho=>?_⟩
 ·exact ⟨_,e,⟨k,l,rfl,hk,hl,gc,hn⟩,gt⟩
 ·have hlt:i < σ.length:=by
   have:=(List.getElem?_eq_some_iff.mp hi).1
   simp at this
   omega
  rcases key i sl hi with rfl | ⟨rfl,rfl⟩
  ·exact ⟨σ[i],by simp [hlt],.un⟩
  ·exact ⟨_,h1,.pen⟩
 ·rcases key i _ hi with z | ⟨_,z⟩ <;> cases z
 ·subst ho
  intro v G' H' s' w' d
  cases (show Dn G' v (.bool true) from d)
  exact hrt H' λt ht=>s'.hk _ _ (hT t ht) (λz=>pts (z ▸ ht)) rfl
theorem ZeQ {l:PySem.W.OpenLaw} {k:Nat} {q:Program} {loose:List Str} {XP:(Str->Option Value)->Heap->Prop} {d:DefRec} {K:Params->PySem.W.Frag} {as ts:List Addr} {e:∀ P:Params,as=(K P).map (λx=>x.fst)} {x:Str}
  (hn:l.most=some 63) (hdf:d.params.defaults=[]) (hr:Room k callerA)
  (F:∀ (w:World) (mg:Str->Option Value) (fa:Addr) (h:Heap),(K w.params).In h->h.Ns mainGlobals mg->mg d.name=some (.ref fa) ->
   ∃ (fd:FuncData) (us:List Addr),(∀ t∈us,t∈ts/\(K w.params).lookup t=none/\∃ c0,CodK (K w.params) c0 t)/\(∀ (s:Shared) (u:Value),BindsTo s fd ⟨[u],[]⟩ [(x,u)]) /\
    ∀ base:Heap,(K w.params).In base->base.Ns mainGlobals mg->BltK base mg->FnOk l.prog w (K w.params) mg base eS k fa fd [x] (jL us (K w.params))) :
  PySem.W.WalkO q loose XP (PySem.W.kmHook K as e ts).says l.row.toRowW d [] (λf vs=>PySem.call f vs):=by
 refine Att.attach_call hn hdf λw s₀ s₁ mg mb fa o pm cd doc a vs ns G Y ho hd hcd hmg hobj hints hlen hg=>?_
 have KX:=PySem.W.km_in_of Y
 obtain ⟨fd,us,hu,hb,hF⟩:=F w mg fa _ KX G.T.g hmg
 exact Zin KX G.T.g G.T.b G.T.builtins G.T.nolimit G.T.nodigits hg hobj hints (Nat.le_trans hlen (by decide)) hlen hr (λt ht=>PySem.W.km_tabs_of Y t (hu t ht).1) (λt ht=>(hu t ht).2.1) (λt ht=>(hu t ht).2.2) ⟨G.T.bmain⟩ hF hb
section
variable {K:PySem.W.Frag} {mg:Str->Option Value}
theorem ZlO {x:Str} {st:Stmt} {ps:List Str} {h:Heap} {f c0 Pt:Addr} {oc:Value} {od an cd:Option Addr} {osl cs:Array (Option Value)} {kV doc pm ct:Value} {vs:Array Value} (X:K.In h) (G:h.Ns mainGlobals mg)
  (a:PySem.W.nsIn K mainGlobals x=some (some (.ref f))) (l:K.lookup f=some ⟨oc,od,.func (PySem.W.fnOf x x (fm st) (eD st) (bZ st) .none kV doc pm an (.ref c0) ct),osl⟩)
  (c:PySem.W.codeIn K (.ref c0) x=true) (k:PySem.W.keepIn K (.ref f)=true)
  (hb:∀ (kV doc pm:Value) (an:Option Addr) (cdv ct:Value) (us:List Value),us.length=ps.length->bindArgs (PySem.W.fnOf x x (fm st) (eD st) (bZ st) .none kV doc pm an cdv ct) ⟨us,[]⟩=pure (ps.zip us))
  (e:K.lookup c0=some ⟨.type "code",cd,.fields vs,cs⟩)
  (v:∃ file tf flags tg inF text tt,vs[11]?=some (.ref Pt)/\vs.getD 18 .none=.str file tf/\vs.getD 7 .none=.int flags tg/\vs.getD 9 .none=.bool inF/\vs.getD 10 .none=.int text tt)
  (hP:K.lookup Pt=none):DefK K mg x st ps c0 Pt:=by
 have F:=ow (st:=st) l c k
 obtain ⟨file,tf,flags,tg,inF,text,tt,v1,v2,v3,v4,v5⟩:=v
 have ne:c0≠Pt:=λz=>by
  subst z
  rw [hP] at e
  cases e
 exact ⟨⟨f,oc,od,kV,doc,pm,an,ct,osl,PySem.W.mg_of X G a,l,k,F.binds hb⟩,c,⟨_,vs,file,tf,flags,tg,inF,text,tt,e,rfl,rfl,v1,v2,v3,v4,v5⟩,ne⟩
end
section
variable {K:PySem.W.Frag} {mg:Str->Option Value}
noncomputable def Tb (K:PySem.W.Frag) (ts:List Addr) (t:Addr):Prop:=t∈ts/\K.lookup t=none/\∃ c0,CodK K c0 t
theorem Zdp {x:Str} {st:Stmt} {ps:List Str} {h:Heap} {ts:List Addr} {f c0 Pt:Addr} {oc:Value} {od an cd:Option Addr} {osl cs:Array (Option Value)} {kV doc pm ct:Value} {vs:Array Value} (X:K.In h) (G:h.Ns mainGlobals mg)
  (a:PySem.W.nsIn K mainGlobals x=some (some (.ref f))) (l:K.lookup f=some ⟨oc,od,.func (PySem.W.fnOf x x (fm st) (eD st) (bZ st) .none kV doc pm an (.ref c0) ct),osl⟩)
  (c:PySem.W.codeIn K (.ref c0) x=true) (k:PySem.W.keepIn K (.ref f)=true)
  (hb:∀ (kV doc pm:Value) (an:Option Addr) (cdv ct:Value) (us:List Value),us.length=ps.length->bindArgs (PySem.W.fnOf x x (fm st) (eD st) (bZ st) .none kV doc pm an cdv ct) ⟨us,[]⟩=pure (ps.zip us))
  (e:K.lookup c0=some ⟨.type "code",cd,.fields vs,cs⟩)
  (v:∃ file tf flags tg inF text tt,vs[11]?=some (.ref Pt)/\vs.getD 18 .none=.str file tf/\vs.getD 7 .none=.int flags tg/\vs.getD 9 .none=.bool inF/\vs.getD 10 .none=.int text tt)
  (m:(ts.contains Pt)=true) (hP:K.lookup Pt=none):∃ c0 Pt,DefK K mg x st ps c0 Pt/\Tb K ts Pt:=by
 have D:=ZlO (st:=st) (ps:=ps) X G a l c k hb e v hP
 exact ⟨c0,Pt,D,by simpa using m,hP,c0,D.ck⟩
end
section
variable {PK:Pk} {X:Cx} {e:Expr} {k:Nat}
noncomputable def qh (x:PyData):Tr PyData:=Tr.of (jS [x])
noncomputable def sT (k:Nat):List Sl->Tr PyData:=λρ=>(gF k ρ).bind qh
theorem Zic {ρ:List Sl}:∀ {k:Nat},(gF k ρ=.fail)\/(∃ xs,ρ[k]?=some (.own xs)/\gF k ρ=.ret (.list xs))\/∃ x,ρ[k]?=some (.d x)/\gF k ρ=.ret x:=by
 induction ρ with
 | nil=>intro k; cases k <;> exact .inl rfl
 | cons s r ih =>
  intro k
  cases k with
  | zero =>
   cases s with
   | own xs=>exact .inr (.inl ⟨xs,rfl,rfl⟩)
   | d x=>exact .inr (.inr ⟨x,rfl,rfl⟩)
   | _=>exact .inl rfl
  | succ k=>exact ih (k:=k)
theorem ZcH {pa:Addr} {G₀ H₀ G H:Hp} {m:Ms} {σ:St} {ρ:List Sl} (R:Rl PK pa G₀ H₀ m σ ρ G H) {β:Type} {f:PyData->Tr β} {Z:Ms->β->Prop} (h:((gF k ρ).bind f).ok m Z):∃ v x,σ[k]?=some (some v)/\Dn H v x/\(gX x=true->∀ K:PySem.W.Frag,TyOf K H v (.type (fB x)))/\(f x).ok m Z:=by
 rcases Zic (ρ:=ρ) (k:=k) with e | ⟨xs,h1,e⟩ | ⟨x,h1,e⟩
 ·rw [e] at h; exact h.elim
 ·rw [e] at h
  obtain ⟨o,g1,g2⟩:=R.sl k _ h1
  cases g2 with
  | own a1 a2 a3 a4=>exact ⟨_,_,g1,.lst a1 (DnAll.mono R.wd.sub a4),λ_ K=>.lst a1,h⟩
 ·rw [e] at h
  obtain ⟨o,g1,g2⟩:=R.sl k _ h1
  cases g2 with
  | d z=>exact ⟨_,_,g1,z.mono R.wd.sub,λn K=>z.ty R.wd.sub n,h⟩
theorem Zm7 (h:PE X e (jK (λxs H Q=>∃ v d,xs=[v]/\Dn H v d/\d.hasDict=false/\d.showable=true/\d.depth<=32/\d.shown.length<=sizeLine/\Q (.str d.shown) H) (iC (iB k) fi))):PE X e (TAe PK (sT k)):=h.imp λσ H Q hz0=>by
 obtain ⟨pa,G₀,H₀,m,ρ,G,R,z⟩:=hz0
 obtain ⟨v,x,h1,h2,_,h3⟩:=ZcH R z
 obtain ⟨y,hy,kn⟩:=Tr.ok_of h3
 have hy:(if iF x=true then some (PyData.str x.shown) else none)=some y:=hy
 by_cases hc:iF x=true
 ·rw [if_pos hc] at hy
  cases hy
  unfold iF at hc
  simp only [Bool.and_eq_true,decide_eq_true_eq,Bool.not_eq_true'] at hc
  obtain ⟨⟨⟨c1,c2⟩,c3⟩,c4⟩:=hc
  exact ⟨v,h1,v,x,rfl,h2,c1,c2,c3,c4,kn.here R.wd (.str _)⟩
 ·rw [if_neg hc] at hy
  cases hy
noncomputable def sW (T:String) (k:Nat):List Sl->Tr PyData:=λρ=>(gF k ρ).bind (jt T)
theorem Zm9 {T:String} {tc:TE} (hT:rC T) (htc:tc=tC (.ty T)) (h:PE X e (jK (λxs H Q=>∃ x T t b,xs=[x,.ty T]/\TyOf X.K H x t/\PySem.W.kitOne X.K t (.type T)=some b/\Q (.bl b) H) (iC (iB k) (iC tc fi)))):PE X e (TAe PK (sW T k)):=h.imp λσ H Q hz0=>by
 obtain ⟨pa,G₀,H₀,m,ρ,G,R,z⟩:=hz0
 subst htc
 obtain ⟨v,x,h1,h2,h4,h3⟩:=ZcH R z
 unfold jt at h3
 obtain ⟨hn,kn⟩:=fK h3
 exact ⟨v,h1,v,T,_,_,rfl,h4 hn X.K,ZcL hT x,kn.here R.wd (.bl _)⟩
end
theorem fh {H:Hp} {b p:Addr} {u o:HO} (h:H b=some u) (hp:H p=none):upd H p o b=some u:=by rw [ak (eT h hp)]; exact h
namespace Tr
variable {α β:Type}
noncomputable def alls:Tr α->Sto->Nat->(Sto->α->Prop)->Prop
 | .ret a,st,_,P=>P st a
 | .draw w k,st,n+1,P=>0 < w/\w < 1073741824/\∀ r,0<=r->r < w->(k r).alls st n P
 | .draw _ _,_,0,_=>False
 | .fail,_,_,_=>False
 | .op f k,st,n,P=>∃ s x,f st=some (s,x)/\(k x).alls s n P
 | .new c k,st,n,P=>∀ a,st.get a=none->(k a).alls (st.put a c) n P
theorem alls_ok:∀ {t:Tr α} {n:Nat} {m:Ms} {P:Sto->α->Prop},t.alls m.st n P->m.n+n<=400000->t.ok m λm' a=>m'.n<=m.n+n/\P m'.st a
 | .ret a,n,m,P,h,hm=>⟨by omega,h⟩
 | .draw w k,n+1,m,P,⟨h1,h2,h⟩,hm=>⟨by omega,h1,h2,λr a b=>ok_mono (alls_ok (m:=m.up) (h r a b) (by show m.n+1+n<=400000; omega)) λm' x hz0=>by
  obtain ⟨p,q⟩:=hz0
  have p:m'.n<=m.n+1+n:=p
  exact ⟨by omega,q⟩⟩
 | .op f k,n,m,P,⟨s,x,e,h⟩,hm=>⟨s,x,e,alls_ok (m:=⟨m.n,s⟩) h hm⟩
 | .new c k,n,m,P,h,hm=>λa ha=>alls_ok (m:=⟨m.n,m.st.put a c⟩) (h a ha) hm
theorem alls_mono:∀ {t:Tr α} {st:Sto} {n n':Nat} {P P':Sto->α->Prop},t.alls st n P->n<=n'->(∀ s a,P s a->P' s a)->t.alls st n' P'
 | .ret a,st,n,n',P,P',h,hn,hp=>hp st a h
 | .draw w k,st,n+1,n'+1,P,P',⟨h1,h2,h⟩,hn,hp=>⟨h1,h2,λr a b=>alls_mono (h r a b) (by omega) hp⟩
 | .draw w k,st,n+1,0,P,P',h,hn,hp=>by omega
 | .op f k,st,n,n',P,P',⟨s,x,e,h⟩,hn,hp=>⟨s,x,e,alls_mono h hn hp⟩
 | .new c k,st,n,n',P,P',h,hn,hp=>λa ha=>alls_mono (h a ha) hn hp
theorem alls_bind:∀ {t:Tr α} {f:α->Tr β} {st:Sto} {n n':Nat} {P:Sto->α->Prop} {P':Sto->β->Prop},t.alls st n P->(∀ s a,P s a->(f a).alls s n' P')->(t.bind f).alls st (n+n') P'
 | .ret a,f,st,n,n',P,P',h,hf=>alls_mono (hf st a h) (by omega) λ_ _ x=>x
 | .draw w k,f,st,n+1,n',P,P',⟨h1,h2,h⟩,hf=>by
  have e:n+1+n'=(n+n')+1:=by omega
  rw [e]
  exact ⟨h1,h2,λr a b=>alls_bind (h r a b) hf⟩
 | .op g k,f,st,n,n',P,P',⟨s,x,e,h⟩,hf=>⟨s,x,e,alls_bind h hf⟩
 | .new c k,f,st,n,n',P,P',h,hf=>λa ha=>alls_bind (h a ha) hf
theorem all_alls:∀ {t:Tr α} {st:Sto} {n:Nat} {P:α->Prop},t.all n P->t.alls st n λs a=>s=st/\P a
 | .ret a,st,n,P,h=>⟨rfl,h⟩
 | .draw w k,st,n+1,P,⟨h1,h2,h⟩=>⟨h1,h2,λr a b=>all_alls (h r a b)⟩
end Tr
@[irreducible] noncomputable def As {α:Type} (t:Tr α) (st:Sto) (n:Nat) (P:Sto->α->Prop):Prop:=t.alls st n P
section
variable {α β:Type} {t:Tr α} {st:Sto} {n n' N:Nat} {P:Sto->α->Prop} {P':Sto->β->Prop}
theorem As.of (h:t.alls st n P):As t st n P:=by unfold As; exact h
theorem As.out (h:As t st n P):t.alls st n P:=by unfold As at h; exact h
theorem jf {a:α} (h:P st a):As (.ret a) st n P:=.of h
theorem kG {w:Int} {k:Int->Tr α} (h1:0 < w) (h2:w < 1073741824) (hN:n+1<=N) (h:∀ r,0<=r->r < w->As (k r) st n P):As (.draw w k) st N P:=.of (Tr.alls_mono (n:=n+1) (show (Tr.draw w k).alls st (n+1) P from ⟨h1,h2,λr a b=>(h r a b).out⟩) hN λ_ _ h=>h)
theorem fZ {f:α->Tr β} (h:As t st n P) (hN:n+n'<=N) (hf:∀ s a,P s a->As (f a) s n' P'):As (t.bind f) st N P':=.of (Tr.alls_mono (Tr.alls_bind h.out λs a ha=>(hf s a ha).out) hN λ_ _ h=>h)
theorem p9 {Q:Sto->α->Prop} (h:As t st n P) (hN:n<=N) (hq:∀ s a,P s a->Q s a):As t st N Q:=.of (Tr.alls_mono h.out hN hq)
theorem Zf8 {P:α->Prop} {Q:Sto->α->Prop} (h:Al t n P) (hN:n<=N) (hq:∀ a,P a->Q st a):As t st N Q:=.of (Tr.alls_mono (Tr.all_alls h.out) hN λs a ⟨e,p⟩=>e ▸ hq a p)
theorem Zf7 {f:α->Tr β} {P:α->Prop} (h:Al t n P) (hN:n+n'<=N) (hf:∀ a,P a->As (f a) st n' P'):As (t.bind f) st N P':=fZ (Zf8 (Q:=λs a=>s=st/\P a) h (Nat.le_refl _) λa p=>⟨rfl,p⟩) hN λs a ⟨e,p⟩=>e ▸ hf a p
theorem ZaV {f:Sto->Option (Sto×PyData)} {k:PyData->Tr α} {s:Sto} {x:PyData} (e:f st=some (s,x)) (h:As (k x) s n P):As (.op f k) st n P:=.of ⟨s,x,e,h.out⟩
theorem ZaW {c:Cel} {k:Addr->Tr α} (h:∀ a,st.get a=none->As (k a) (st.put a c) n P):As (.new c k) st n P:=.of λa ha=>(h a ha).out
end
theorem eU {K:PySem.W.Frag} {t:Value}:∀ {ds:List Value},PySem.W.kitAny K t ds=some false->∀ d∈ds,PySem.W.kitOne K t d=some false
 | [],_,d,hd=>absurd hd (by simp)
 | c::r,h,d,hd=>by
  unfold PySem.W.kitAny at h
  cases e:PySem.W.kitOne K t c with
  | none=>rw [e] at h; cases h
  | some b =>
   rw [e] at h
   cases b with
   | true=>cases h
   | false =>
    rcases List.mem_cons.mp hd with rfl | hd
    ·exact e
    ·exact eU h d hd
theorem Zit {K:PySem.W.Frag} {t a b:Value} (h1:PySem.W.kitOne K t a=some false) (h2:PySem.W.kitOne K t b=some false):PySem.W.kitAny K t [a,b]=some false:=by
 unfold PySem.W.kitAny
 rw [h1]
 unfold PySem.W.kitAny
 rw [h2]
 rfl
section
variable {PK:Pk} {X:Cx} {n:Nat}
end
theorem ZmY {PK:Pk} {X:Cx} {pos:Pos} {x:Str} {k:Nat} {ps:List Str} {f:List Sl->Tr Re} {pp:Pos} (C:ACal PK X.prog X.w X.K X.mg X.base x k ps f) (hr:Room k X.A) (hg:Gl X x) (hdb:(x == ("__debug__":Str))=false:=by decide):PE X (.Call (.Name x pp) [] [] pos) (jE PK (cu f b7)):=by
 obtain ⟨g,fd,F,hm,hk,hb⟩:=C.cal.ex
 refine (Zhn F hr hg hm hk hb .nil lI hdb).imp λσ H Q hz0=>?_
 obtain ⟨pa,G₀,H₀,m,ρ,G,R,z⟩:=hz0
 have z:(f []).ok m _:=z
 exact ⟨by rw [<- C.len _ _ _ z]; rfl,pa,m,G,[],R.wd,.nil,z⟩
noncomputable def rn {α:Type}:Tr α->Sto->Option (Sto×α)
 | .ret a,st=>some (st,a)
 | .op g k,st=>(g st).bind λp=>rn (k p.2) p.1
 | .draw _ _,_=>none
 | .fail,_=>none
 | .new _ _,_=>none
noncomputable def rb {α β:Type} (o:Option (Sto×α)) (f:α->Tr β):Option (Sto×β):=o.bind λp=>rn (f p.2) p.1
noncomputable def qH (g:Sto->Option (Sto×PyData)):Tr PyData:=.op g .ret
section
variable {α β:Type} {t:Tr α} {f:α->Tr β} {st s:Sto} {a:α}
theorem cR:rn (.ret a) st=some (st,a):=rfl
theorem cJ:rb (some (s,a)) f=rn (f a) s:=rfl
theorem cI:∀ {t:Tr α} {st:Sto},rn (t.bind f) st=rb (rn t st) f
 | .ret a,st=>rfl
 | .op g k,st=>by
  show (g st).bind (λp=>rn ((k p.2).bind f) p.1)=((g st).bind λp=>rn (k p.2) p.1).bind λp=>rn (f p.2) p.1
  cases e:g st with
  | none=>rfl
  | some p =>
   show rn ((k p.2).bind f) p.1=(rn (k p.2) p.1).bind λp=>rn (f p.2) p.1
   exact cI
 | .draw _ _,_=>rfl
 | .fail,_=>rfl
 | .new _ _,_=>rfl
theorem dg {g:Sto->Option (Sto×PyData)}:rn (qH g) st=g st:=by
 show (g st).bind (λp=>some (p.1,p.2))=g st
 cases g st <;> rfl
theorem iE {g:Sto->Option (Sto×PyData)} {h:PyData->Tr β} {x:PyData} {n:Nat} {P:Sto->β->Prop} (e:g st=some (s,x)) (k:As (h x) s n P):As ((qH g).bind h) st n P:=ZaV e k
theorem jP:∀ {t:Tr α} {st s:Sto} {a:α} {n:Nat} {P:Sto->α->Prop},rn t st=some (s,a)->P s a->As t st n P
 | .ret b,st,s,a,n,P,h,hp=>by
  cases h
  exact jf hp
 | .op g k,st,s,a,n,P,h,hp=>by
  have h:(g st).bind (λp=>rn (k p.2) p.1)=some (s,a):=h
  cases e:g st with
  | none=>rw [e] at h; cases h
  | some p =>
   rw [e] at h
   exact ZaV (s:=p.1) (x:=p.2) e (jP (show rn (k p.2) p.1=some (s,a) from h) hp)
 | .draw _ _,_,_,_,_,_,h,_=>by cases h
 | .fail,_,_,_,_,_,h,_=>by cases h
 | .new _ _,_,_,_,_,_,h,_=>by cases h
end
section
variable {ρ:List Sl} {s t:List Sl->Tr Ou} {i j l:List Sl->Tr PyData} {is:List Sl->Tr (List PyData)} {as:List Sl->Tr (List Sl)} {f:List Sl->Tr Re} {fx:List Sl->Tr (Option Re)} {k n:Nat} {x y v:PyData} {xs ys:List PyData} {sl:Sl} {C a:Addr} {w:Str} {st:Sto}
noncomputable def eM (g:Addr->Sto->Option (Sto×PyData)) (x:PyData):Tr PyData:=fE x g
theorem ba {g:Addr->Sto->Option (Sto×PyData)}:eM g (af a)=qH (g a):=rfl
theorem bB:cB C w i ρ=(i ρ).bind (eM (iG C w)):=rfl
noncomputable def lP (ρ:List Sl) (_:PyData):Tr Ou:=.ret (.next ρ)
theorem bc:lP ρ x=.ret (.next ρ):=rfl
noncomputable def lE (C:Addr) (w:Str) (ρ:List Sl) (y x:PyData):Tr Ou:=(eM (ja C w y) x).bind (lP ρ)
noncomputable def ZaR (C:Addr) (w:Str) (i:List Sl->Tr PyData) (ρ:List Sl) (y:PyData):Tr Ou:=(i ρ).bind (lE C w ρ y)
theorem aT:fy C w i j ρ=(j ρ).bind (ZaR C w i ρ):=rfl
theorem aS:ZaR C w i ρ y=(i ρ).bind (lE C w ρ y):=rfl
theorem aR:lE C w ρ y x=(eM (ja C w y) x).bind (lP ρ):=rfl
noncomputable def sx (C:Addr) (w:Str) (ρ:List Sl) (x z:PyData):Tr Ou:=lE C w ρ z x
noncomputable def sy (C:Addr) (w:Str) (g:Int->Int->Int) (ρ:List Sl) (x v y:PyData):Tr Ou:=(lb g v y).bind (sx C w ρ x)
noncomputable def sA (C:Addr) (w:Str) (g:Int->Int->Int) (j:List Sl->Tr PyData) (ρ:List Sl) (x v:PyData):Tr Ou:=(j ρ).bind (sy C w g ρ x v)
noncomputable def Zd2 (C:Addr) (w:Str) (g:Int->Int->Int) (j:List Sl->Tr PyData) (ρ:List Sl) (x:PyData):Tr Ou:=(eM (iG C w) x).bind (sA C w g j ρ x)
theorem bU {g:Int->Int->Int}:iu C w g i j ρ=(i ρ).bind (Zd2 C w g j ρ):=rfl
theorem bT {g:Int->Int->Int}:Zd2 C w g j ρ x=(eM (iG C w) x).bind (sA C w g j ρ x):=rfl
theorem bS {g:Int->Int->Int}:sA C w g j ρ x v=(j ρ).bind (sy C w g ρ x v):=rfl
theorem bR {g:Int->Int->Int}:sy C w g ρ x v y=(lb g v y).bind (sx C w ρ x):=rfl
theorem bQ:sx C w ρ x y=lE C w ρ y x:=rfl
theorem bA {g:Int->Int->Int} (m n:Int):lb g (.int m) (.int n)=.ret (.int (g m n)):=rfl
noncomputable def qM (f:List Sl->Tr Re) (x:PyData) (ys:List Sl):Tr Re:=f (.d x::ys)
noncomputable def qN (f:List Sl->Tr Re) (as:List Sl->Tr (List Sl)) (ρ:List Sl) (x _:PyData):Tr Re:=(as ρ).bind (qM f x)
noncomputable def Zcv (C:Addr) (w:Str) (f:List Sl->Tr Re) (as:List Sl->Tr (List Sl)) (ρ:List Sl) (x:PyData):Tr Re:=(eM (hY C w) x).bind (qN f as ρ x)
theorem bn:gL C w f i as ρ=(i ρ).bind (Zcv C w f as ρ):=rfl
theorem bj:Zcv C w f as ρ x=(eM (hY C w) x).bind (qN f as ρ x):=rfl
theorem bh:qN f as ρ x y=(as ρ).bind (qM f x):=rfl
theorem bg {zs:List Sl}:qM f x zs=f (.d x::zs):=rfl
noncomputable def qR (o:Option Re):Tr (Option PyData):=.ret (o.map Re.val)
noncomputable def pz (f:List Sl->Tr (Option Re)) (x:PyData) (ys:List Sl):Tr (Option PyData):=(f (.d x::ys)).bind qR
noncomputable def pA (f:List Sl->Tr (Option Re)) (as:List Sl->Tr (List Sl)) (ρ:List Sl) (x _:PyData):Tr (Option PyData):=(as ρ).bind (pz f x)
noncomputable def Zab (C:Addr) (w:Str) (f:List Sl->Tr (Option Re)) (as:List Sl->Tr (List Sl)) (ρ:List Sl) (x:PyData):Tr (Option PyData):=(eM (hY C w) x).bind (pA f as ρ x)
theorem aB:i9 C w fx i as ρ=(i ρ).bind (Zab C w fx as ρ):=rfl
theorem aA:Zab C w fx as ρ x=(eM (hY C w) x).bind (pA fx as ρ x):=rfl
theorem az:pA fx as ρ x y=(as ρ).bind (pz fx x):=rfl
theorem ay {zs:List Sl}:pz fx x zs=(fx (.d x::zs)).bind qR:=rfl
theorem bp {o:Option Re}:qR o=.ret (o.map Re.val):=rfl
theorem bu:eC w i ρ=(i ρ).bind (eM (ji w)):=rfl
noncomputable def pV (w:Str) (ρ:List Sl) (y x:PyData):Tr Ou:=(eM (jG w y) x).bind (lP ρ)
noncomputable def ZaQ (w:Str) (i:List Sl->Tr PyData) (ρ:List Sl) (y:PyData):Tr Ou:=(i ρ).bind (pV w ρ y)
theorem aQ:iZ w i j ρ=(j ρ).bind (ZaQ w i ρ):=rfl
theorem aP:ZaQ w i ρ y=(i ρ).bind (pV w ρ y):=rfl
theorem aO:pV w ρ y x=(eM (jG w y) x).bind (lP ρ):=rfl
noncomputable def sG (x y:PyData):Tr PyData:=eM (kq y) x
noncomputable def sH (j:List Sl->Tr PyData) (ρ:List Sl) (x _:PyData):Tr PyData:=(j ρ).bind (sG x)
noncomputable def Zed (j:List Sl->Tr PyData) (ρ:List Sl) (x:PyData):Tr PyData:=(eM gg x).bind (sH j ρ x)
theorem bY:mr i j ρ=(i ρ).bind (Zed j ρ):=rfl
theorem bX:Zed j ρ x=(eM gg x).bind (sH j ρ x):=rfl
theorem bW:sH j ρ x y=(j ρ).bind (sG x):=rfl
theorem bV:sG x y=eM (kq y) x:=rfl
theorem aZ:mj i ρ=(i ρ).bind (eM kL):=rfl
noncomputable def Zar (x:PyData):Tr Bool:=(eM gg x).bind kP
theorem aN:oO i ρ=(i ρ).bind Zar:=rfl
theorem aM:Zar x=(eM gg x).bind kP:=rfl
theorem bb (n:Int):kP (.int n)=.ret (n != 0):=rfl
noncomputable def rV (neg:Bool) (x:PyData):PyData->Tr PyData
 | .list []=>(eM gg x).bind (kh neg)
 | _=>.fail
noncomputable def Zc9 (neg:Bool) (j:List Sl->Tr PyData) (ρ:List Sl) (x:PyData):Tr PyData:=(j ρ).bind (rV neg x)
theorem bF {neg:Bool}:oX neg i j ρ=(i ρ).bind (Zc9 neg j ρ):=rfl
theorem bE {neg:Bool}:Zc9 neg j ρ x=(j ρ).bind (rV neg x):=rfl
theorem bD {neg:Bool}:rV neg x (.list [])=(eM gg x).bind (kh neg):=rfl
theorem bG {neg:Bool} (n:Int):kh neg (.int n)=.ret (.bool (if neg then n != 0 else !(n != 0))):=rfl
noncomputable def ZcP (x:PyData):Tr (List PyData):=(eM jT x).bind oi
theorem bx:mo i ρ=(i ρ).bind ZcP:=rfl
theorem bw:ZcP x=(eM jT x).bind oi:=rfl
theorem bv:oi (.list xs)=.ret xs:=rfl
noncomputable def iO (g:PyData->List Sl->Option (List Sl)) (el:List Sl->Tr PyData) (τ:List Sl) (x:PyData):Tr PyData:=stil ((Tr.of (g x τ)).bind el)
noncomputable def qY (n:Nat) (ix:List Nat) (g:PyData->List Sl->Option (List Sl)) (el:List Sl->Tr PyData) (ρ:List Sl) (xs:List PyData):Tr (List PyData):=if small xs.length=true then eY (iO g el (blk n ix ρ)) xs else .fail
theorem bt {ix:List Nat} {g:PyData->List Sl->Option (List Sl)}:ku is n ix g i ρ=(is ρ).bind (qY n ix g i ρ):=rfl
theorem br {ix:List Nat} {g:PyData->List Sl->Option (List Sl)} (h:small xs.length=true):qY n ix g i ρ xs=eY (iO g i (blk n ix ρ)) xs:=by unfold qY; rw [if_pos h]
theorem aq {τ:List Sl} {g:PyData->List Sl->Option (List Sl)}:iO g i τ x=stil (l0 g i τ x):=rfl
theorem aU:sT k ρ=(gF k ρ).bind qh:=rfl
theorem bz {T:String}:sW T k ρ=(gF k ρ).bind (jt T):=rfl
noncomputable def kQ (c:Cel):Tr PyData:=.new c λa=>.ret (af a)
noncomputable def Zcq (xs:List PyData):Tr PyData:=if small xs.length=true then kQ (.lst xs) else .fail
theorem bf:oU is ρ=(is ρ).bind Zcq:=rfl
theorem be:Zcq []=kQ (.lst []):=rfl
noncomputable def qQ (C:Addr) (f:List Sl->Tr Re) (ys:List Sl):Tr PyData:=.new (.ins C []) λa=>(f (.d (af a)::ys)).bind (mR a)
theorem bq:sV C f as ρ=(as ρ).bind (qQ C f):=rfl
noncomputable def rZ (xs:List (Str×PyData)):Tr PyData:=if lN xs=true then kQ (.dct xs) else .fail
theorem bJ {ps:List (Str×(List Sl->Tr PyData))}:sX ps ρ=(jz ps ρ).bind rZ:=rfl
theorem ZlI {zs:List (Str×PyData)} (h:lN zs=true):rZ zs=kQ (.dct zs):=if_pos h
noncomputable def qv (w:Str) (x:PyData) (xs:List (Str×PyData)):Tr (List (Str×PyData)):=.ret ((w,x)::xs)
noncomputable def ZbU (w:Str) (r:List (Str×(List Sl->Tr PyData))) (ρ:List Sl) (x:PyData):Tr (List (Str×PyData)):=(jz r ρ).bind (qv w x)
theorem aY:jz [] ρ=.ret []:=rfl
theorem aV {r:List (Str×(List Sl->Tr PyData))}:jz ((w,i)::r) ρ=(i ρ).bind (ZbU w r ρ):=rfl
theorem aX {r:List (Str×(List Sl->Tr PyData))}:ZbU w r ρ x=(jz r ρ).bind (qv w x):=rfl
theorem aW {zs:List (Str×PyData)}:qv w x zs=.ret ((w,x)::zs):=rfl
noncomputable def ZdG (o:Option (List PyData)):Option Sl->Option (List PyData)
 | some (.d x)=>o.map (x::·)
 | _=>none
theorem bP:g6 [] ρ=some []:=rfl
theorem bM {ix:List Nat}:g6 (k::ix) ρ=ZdG (g6 ix ρ) ρ[k]?:=by
 rw [g6]
 cases ρ[k]? with
 | none=>rfl
 | some s=>cases s <;> rfl
theorem bO:ZdG (some xs) (some (.d x))=some (x::xs):=rfl
theorem aL {ix:List Nat} {tx:List Sl->Tr (Option PyData)}:kt ix w tx ρ=pE w tx (g6 ix ρ):=rfl
theorem aK {tx:List Sl->Tr (Option PyData)}:pE w tx (some xs)=(tx (xs.map Sl.d)).bind (mK w):=rfl
theorem aJ:mK w none=.ret (.str w):=rfl
end
section
variable {C C' a b:Addr} {w:Str} {st s:Sto} {x y:PyData} {xs:List PyData} {fs:List (Str×PyData)} {c:Cel}
noncomputable def jU (st:Sto) (o:Option PyData):Option (Sto×PyData):=o.map λx=>(st,x)
noncomputable def ql (C:Addr) (w:Str) (st:Sto):Option Cel->Option (Sto×PyData)
 | some (.ins C' fs)=>if C'=C then jU st (fs.lookup w) else none
 | _=>none
theorem da:iG C w a st=ql C w st (st.get a):=by
 unfold iG ql jU
 cases st.get a with
 | none=>rfl
 | some c=>cases c <;> rfl
theorem c9:ql C w st (some (.ins C fs))=jU st (fs.lookup w):=if_pos rfl
theorem cN:jU st (some x)=some (st,x):=rfl
noncomputable def jb (C:Addr) (w:Str) (y:PyData) (a:Addr) (st:Sto):Option Cel->Option (Sto×PyData)
 | some (.ins C' fs)=>if C'=C/\fs.length < 1000 then some (st.put a (.ins C (gC w y fs)),.none) else none
 | _=>none
theorem cH:ja C w y a st=jb C w y a st (st.get a):=by
 unfold ja jb
 cases st.get a with
 | none=>rfl
 | some c=>cases c <;> rfl
theorem cG (h:fs.length < 1000):jb C w y a st (some (.ins C fs))=some (st.put a (.ins C (gC w y fs)),.none):=if_pos ⟨rfl,h⟩
noncomputable def qP (C:Addr) (w:Str) (st:Sto):Option Cel->Option (Sto×PyData)
 | some (.ins C' fs)=>if C'=C/\fs.lookup w=none then some (st,.none) else none
 | _=>none
theorem c6:hY C w a st=qP C w st (st.get a):=by
 unfold hY qP
 cases st.get a with
 | none=>rfl
 | some c=>cases c <;> rfl
theorem c5 (h:fs.lookup w=none):qP C w st (some (.ins C fs))=some (st,.none):=if_pos ⟨rfl,h⟩
noncomputable def qk (w:Str) (st:Sto):Option Cel->Option (Sto×PyData)
 | some (.dct fs)=>jU st (fs.lookup w)
 | _=>none
theorem cM:ji w a st=qk w st (st.get a):=by
 unfold ji qk jU
 cases st.get a with
 | none=>rfl
 | some c=>cases c <;> rfl
theorem cL:qk w st (some (.dct fs))=jU st (fs.lookup w):=rfl
noncomputable def pF (w:Str) (y:PyData) (a:Addr) (st:Sto):Option Cel->Option (Sto×PyData)
 | some (.dct fs)=>if fs.length < 1000 then some (st.put a (.dct (putS w y fs)),.none) else none
 | _=>none
theorem cW:jG w y a st=pF w y a st (st.get a):=by
 unfold jG pF
 cases st.get a with
 | none=>rfl
 | some c=>cases c <;> rfl
theorem cV (h:fs.length < 1000):pF w y a st (some (.dct fs))=some (st.put a (.dct (putS w y fs)),.none):=if_pos h
noncomputable def qj (st:Sto):Option Cel->Option (Sto×PyData)
 | some (.lst xs)=>some (st,.list xs)
 | _=>none
theorem c8:jT a st=qj st (st.get a):=by
 unfold jT qj
 cases st.get a with
 | none=>rfl
 | some c=>cases c <;> rfl
theorem c7:qj st (some (.lst xs))=some (st,.list xs):=rfl
noncomputable def qU (st:Sto):Option Cel->Option (Sto×PyData)
 | some (.lst xs)=>some (st,.int xs.length)
 | _=>none
theorem cZ:gg a st=qU st (st.get a):=by
 unfold gg qU
 cases st.get a with
 | none=>rfl
 | some c=>cases c <;> rfl
theorem cY:qU st (some (.lst xs))=some (st,.int xs.length):=rfl
noncomputable def sI (y:PyData) (a:Addr) (st:Sto):Option Cel->Option (Sto×PyData)
 | some (.lst xs)=>if small (xs.length+1)=true then some (st.put a (.lst (xs++[y])),.none) else none
 | _=>none
theorem de:kq y a st=sI y a st (st.get a):=by
 unfold kq sI
 cases st.get a with
 | none=>rfl
 | some c=>cases c <;> rfl
theorem db (h:small (xs.length+1)=true):sI y a st (some (.lst xs))=some (st.put a (.lst (xs++[y])),.none):=if_pos h
noncomputable def qw (a:Addr) (st:Sto):Option Cel->Option (Sto×PyData)
 | some (.lst xs)=>(xs[xs.length - 1]?).map λy=>(st.put a (.lst xs.dropLast),y)
 | _=>none
theorem cX:kL a st=qw a st (st.get a):=by
 unfold kL qw
 cases st.get a with
 | none=>rfl
 | some c=>cases c <;> rfl
theorem cK:qw a st (some (.lst (xs++[x])))=some (st.put a (.lst xs),x):=by
 show ((xs++[x])[(xs++[x]).length - 1]?).map (λy=>(st.put a (.lst (xs++[x]).dropLast),y))=_
 rw [List.dropLast_concat,List.length_append,List.length_singleton,Nat.add_sub_cancel]
 simp
theorem cc:(st.put a c).get a=some c:=Sto.put_same
theorem ai (h:b≠a):(st.put a c).get b=st.get b:=Sto.put_ne h
end
noncomputable def eu (s m c p e:PyData):List (Str×PyData):=[("shop",s),("morning",m),("chosen",c),("spent",p),("ended",e)]
noncomputable def eL (s t g d:PyData):List (Str×PyData):=[("shop",s),("stock",t),("goal",g),("days",d)]
section
variable {s m c p e t g d y:PyData}
theorem dD:List.lookup ("shop":Str) (eu s m c p e)=some s:=rfl
theorem dE:List.lookup ("morning":Str) (eu s m c p e)=some m:=rfl
theorem dO:List.lookup ("chosen":Str) (eu s m c p e)=some c:=rfl
theorem dC:List.lookup ("spent":Str) (eu s m c p e)=some p:=rfl
theorem dN:List.lookup ("ended":Str) (eu s m c p e)=some e:=rfl
theorem dL:List.lookup ("stock":Str) (eu s m c p e)=none:=rfl
theorem dJ:List.lookup ("paid":Str) (eu s m c p e)=none:=rfl
theorem dI:List.lookup ("days":Str) (eu s m c p e)=none:=rfl
theorem dH:List.lookup ("choose":Str) (eu s m c p e)=none:=rfl
theorem dG:List.lookup ("fall":Str) (eu s m c p e)=none:=rfl
theorem dF:List.lookup ("back":Str) (eu s m c p e)=none:=rfl
theorem dM:(eu s m c p e).length < 1000:=by show 5 < 1000; decide
theorem dA:gC "morning" y (eu s m c p e)=eu s y c p e:=rfl
theorem dB:gC "chosen" y (eu s m c p e)=eu s m y p e:=rfl
theorem dw:gC "spent" y (eu s m c p e)=eu s m c y e:=rfl
theorem cT:List.lookup ("shop":Str) (eL s t g d)=some s:=rfl
theorem cS:List.lookup ("stock":Str) (eL s t g d)=some t:=rfl
theorem dr:List.lookup ("goal":Str) (eL s t g d)=some g:=rfl
theorem dt:List.lookup ("days":Str) (eL s t g d)=some d:=rfl
theorem dq:(eL s t g d).length < 1000:=by show 4 < 1000; decide
theorem di:putS "stock" y (eL s t g d)=eL s y g d:=rfl
theorem dm:putS "goal" y (eL s t g d)=eL s t y d:=rfl
end
section
variable {s m c p e y:PyData} {C a:Addr} {st:Sto}
theorem ZeM:jb C "shop" y a st (some (.ins C []))=some (st.put a (.ins C [("shop",y)]),.none):=cG (by decide)
theorem ZeL:jb C "morning" y a st (some (.ins C [("shop",s)]))=some (st.put a (.ins C [("shop",s),("morning",y)]),.none):=cG (by show 1 < 1000; decide)
theorem ZeK:jb C "chosen" y a st (some (.ins C [("shop",s),("morning",m)]))=some (st.put a (.ins C [("shop",s),("morning",m),("chosen",y)]),.none):=cG (by show 2 < 1000; decide)
theorem ZeJ:jb C "spent" y a st (some (.ins C [("shop",s),("morning",m),("chosen",c)]))=some (st.put a (.ins C [("shop",s),("morning",m),("chosen",c),("spent",y)]),.none):=cG (by show 3 < 1000; decide)
theorem ZeI:jb C "ended" y a st (some (.ins C [("shop",s),("morning",m),("chosen",c),("spent",p)]))=some (st.put a (.ins C (eu s m c p y)),.none):=cG (by show 4 < 1000; decide)
theorem ZhH {t g d:PyData}:lN (eL s t g d)=true:=by
 have e:((eL s t g d).map (·.1))=([("shop":Str),"stock","goal","days"]:List Str):=rfl
 unfold lN
 rw [e]
 exact (by decide +kernel:decide (([("shop":Str),"stock","goal","days"]).Nodup/\4<=15)=true)
end
section
variable {α β:Type} {st:Sto} {n n' N:Nat}
theorem pZ {c:Cel} {h:PyData->Tr β} {P:Sto->β->Prop} (k:∀ a,st.get a=none->As (h (af a)) (st.put a c) n P):As ((kQ c).bind h) st n P:=ZaW k
theorem Zf5 {C:Addr} {f:List Sl->Tr Re} {ys:List Sl} {P:Sto->PyData->Prop} (k:∀ a,st.get a=none->As (f (.d (af a)::ys)) (st.put a (.ins C [])) n λst' r=>r=.d .none/\P st' (af a)):As (qQ C f ys) st n P:=ZaW λa ha=>fZ (n':=0) (k a ha) (by omega) λst' r z=>by
 obtain ⟨rfl,z⟩:=z
 exact jf z
theorem Zf6 {g:PyData->List Sl->Option (List Sl)} {s:List Sl->Tr Ou} {xs:List PyData} {ρ:List Sl} {Q:Sto->Ou->Prop} (I:List PyData->Sto->List Sl->Prop) (h0:I [] st ρ) (hN:xs.length * n<=N)
  (ht:∀ pre x post st ρ,xs=pre++x::post->I pre st ρ->∃ ρ1,g x ρ=some ρ1/\As (s ρ1) st n λst' o=>∃ ρ2,o=.next ρ2/\I (pre++[x]) st' ρ2) (hq:∀ st ρ,I xs st ρ->Q st (.next ρ)):As (fL g s xs ρ) st N Q:=by
 have key:∀ (ys pre:List PyData) (st:Sto) (ρ:List Sl),xs=pre++ys->I pre st ρ->As (fL g s ys ρ) st (ys.length * n) Q:=by
  intro ys
  induction ys with
  | nil =>
   intro pre st ρ e h
   rw [Zc1]
   rw [List.append_nil] at e
   subst e
   exact jf (hq st ρ h)
  | cons x ys ih =>
   intro pre st ρ e h
   obtain ⟨ρ1,eg,ha⟩:=ht pre x ys st ρ e h
   rw [ox,eg,Tr.of_some,Tr.ret_bind]
   unfold ma
   refine fZ (n:=n) (n':=ys.length * n) ha (by rw [List.length_cons,Nat.succ_mul]; omega) λst' o ⟨ρ2,eo,h2⟩=>?_
   subst eo
   rw [rS]
   exact ih (pre++[x]) st' ρ2 (by rw [e,List.append_assoc]; rfl) h2
 exact p9 (key xs [] st ρ rfl h0) hN λ_ _ h=>h
end
theorem cQ {p:List Sl->Tr Bool} {s:List Sl->Tr Ou} {ρ:List Sl} {Q:Sto->Prop} (I:Nat->Sto->Prop)
  (ht:∀ m st,I m st->(∃ st',rn (p ρ) st=some (st',false)/\Q st')\/∃ st1 st' m',rn (p ρ) st=some (st1,true)/\rn (s ρ) st1=some (st',.next ρ)/\m' < m/\I m' st') :
  ∀ (m k:Nat) (st:Sto),I m st->m < k->∃ st',rn (hV p s k ρ) st=some (st',.next ρ)/\Q st':=by
 intro m
 induction m using Nat.strongRecOn with
 | _ m ih =>
  intro k st h hk
  cases k with
  | zero=>omega
  | succ k =>
   rw [hV,cI]
   rcases ht m st h with ⟨st',e,q⟩ | ⟨st1,st',m',e1,e2,hm,h2⟩
   ·rw [e,cJ,if_neg Bool.false_ne_true,cR]
    exact ⟨st',rfl,q⟩
   ·rw [e1,cJ,if_pos rfl,cI,e2,cJ]
    exact ih m' hm k st' h2 (by omega)
section
variable {PK:Pk} {X:Cx} {C:Addr} {E:XK} {a b:Expr} {i j:List Sl->Tr (Option PyData)} {k:Nat} {pos:Pos}
end
section
variable {X:Cx} {PK:Pk} {a b:Expr} {ta tb:TE} {i j:List Sl->Tr PyData} {sep:Str} {k:Nat} {p1 p2 p3 pos:Pos}
end
section
variable {PK:Pk} {X:Cx} {e:Expr} {es:List Expr} {as:List Sl->Tr (List Sl)} {pos:Pos}
end
section
variable {X:Cx}
end
end L2
namespace L2
open PySem PySem.Spec PyProof.Rows PySem.NumText PySem.W.KIN
end L2
namespace L2
open PySem PySem.Spec PyProof.Rows
variable {ρ:List Sl} {s t:List Sl->Tr Ou} {i j l:List Sl->Tr PyData} {is:List Sl->Tr (List PyData)} {as:List Sl->Tr (List Sl)} {k n:Nat} {x y d:PyData} {xs ys:List PyData} {sl:Sl} {a b:Str}
variable {X Y:Type} {u v:List Sl->Tr (Option Ou)} {xe:List Sl->Tr (Option PyData)} {xo:List Sl->Tr (Option (List PyData))} {fx:List Sl->Tr (Option Re)}
noncomputable def Zaa (o:Ou):Tr (Option Ou):=.ret (some o)
theorem aF:gO s ρ=(s ρ).bind Zaa:=rfl
theorem aw {o:Ou}:Zaa o=.ret (some o):=rfl
noncomputable def pC (u v:List Sl->Tr (Option Ou)) (ρ:List Sl) (b:Bool):Tr (Option Ou):=if b=true then u ρ else v ρ
theorem aI {p:List Sl->Tr Bool}:kC p u v ρ=(p ρ).bind (pC u v ρ):=rfl
theorem aD:pC u v ρ true=u ρ:=rfl
theorem aE:pC u v ρ false=v ρ:=rfl
theorem aH:kB ρ=.ret none:=rfl
noncomputable def py (v:List Sl->Tr (Option Ou)):Option Ou->Tr (Option Ou)
 | some (.next ρ')=>v ρ'
 | o=>.ret o
theorem aG:iy u v ρ=(u ρ).bind (py v):=by
 unfold iy
 refine congrArg (Tr.bind (u ρ)) (funext λo=>?_)
 cases o with
 | none=>rfl
 | some o=>cases o <;> rfl
theorem au:py v (some (.next ρ))=v ρ:=rfl
theorem av:py v none=.ret none:=rfl
theorem bL {sls:List Sl} (h:sls.length=n):i5 n k u sls=(u (sls++List.replicate k .un)).bind rP:=by
 unfold i5
 rw [if_pos (decide_eq_true h)]
theorem bC:rP none=.ret none:=rfl
noncomputable def Zdj (ρ:List Sl) (x:PyData):Tr Ou:=.ret (.next ρ)
theorem bI:gM i ρ=(i ρ).bind (Zdj ρ):=rfl
theorem bH:Zdj ρ x=.ret (.next ρ):=rfl
end L2
namespace Tw
open PySem L2
end Tw
namespace L2
open PySem PySem.Spec PyProof.Rows
section
variable {K:PySem.W.Frag} {C f:Addr} {m qual:Str} {st:Stmt} {ps:List Str} {oc:Value} {od an:Option Addr} {osl:Array (Option Value)} {kV doc pm cdv ct:Value}
theorem kR (a:PySem.W.findIn K (.ref C) m=some (some (.ref f))) (i:PySem.W.isFn K (.ref f)=true) (l:K.lookup f=some ⟨oc,od,.func (PySem.W.fnOf m qual (fm st) (eD st) (bZ st) .none kV doc pm an cdv ct),osl⟩) (c:PySem.W.codeIn K cdv qual=true) (k:PySem.W.keepIn K (.ref f)=true)
  (hb:∀ (kV doc pm:Value) (an:Option Addr) (cdv ct:Value) (us:List Value),us.length=ps.length->bindArgs (PySem.W.fnOf m qual (fm st) (eD st) (bZ st) .none kV doc pm an cdv ct) ⟨us,[]⟩=pure (ps.zip us)):MDef K C m qual st ps:=by
 have F:=ow (st:=st) l c k
 exact ⟨f,_,F,⟨a,i,k⟩,F.binds hb⟩
theorem ZiB (mk:PySem.W.makesIn K C=true) (a:PySem.W.findIn K (.ref C) "__init__"=some (some (.ref f))) (i:PySem.W.isFn K (.ref f)=true) (kc:PySem.W.keepIn K (.ref C)=true) (l:K.lookup f=some ⟨oc,od,.func (PySem.W.fnOf "__init__" qual (fm st) (eD st) (bZ st) .none kV doc pm an cdv ct),osl⟩) (c:PySem.W.codeIn K cdv qual=true) (k:PySem.W.keepIn K (.ref f)=true)
  (hb:∀ (kV doc pm:Value) (an:Option Addr) (cdv ct:Value) (us:List Value),us.length=ps.length->bindArgs (PySem.W.fnOf "__init__" qual (fm st) (eD st) (bZ st) .none kV doc pm an cdv ct) ⟨us,[]⟩=pure (ps.zip us)):KDef K C qual st ps:=by
 have F:=ow (st:=st) l c k
 exact ⟨f,_,F,⟨mk,a,i,kc⟩,F.binds hb⟩
theorem lQ (h:PySem.W.findIn K (.ref C) m=some none):NoAttr K C m:=h
theorem rQ {h:Heap} {D a0 a1 a2 a3 a4 a5 a6:Addr} (X:K.In h) (q:hU K C iU "ValueError.__new__"=true) (q':hU K D iU "ValueError.__new__"=true) (u:nN K C D=true) (vt:PySem.W.kitOne K (.ref C) (.type "ValueError")=some true)
  (y:PySem.W.kitAny K (.ref C) [.ref a0,.ref a1,.ref a2,.ref a3,.ref a4,.ref a5,.ref a6]=some false):Exc K C D [a0,a1,a2,a3,a4,a5,a6]:=Zjk X q q' u vt y
end
section
variable {K:PySem.W.Frag} {mg:Str->Option Value}
noncomputable abbrev mD (K:PySem.W.Frag) (mg:Str->Option Value) (ts:List Addr) (x:Str) (st:Stmt) (ps:List Str):Prop:=∃ c0 Pt,DefK K mg x st ps c0 Pt/\Tb K ts Pt
theorem ZnO {q:Program} {w:World} {k:Nat} {x x1 x2:Str} {st1 st2 st3:Stmt} {ps1 ps2:List Str} {ts:List Addr} {fa:Addr} (hmg:mg "law"=some (.ref fa)) (h1:mD K mg ts x1 st1 ps1) (h2:mD K mg ts x2 st2 ps2) (h3:mD K mg ts "law" st3 [x])
  (hb:∀ (kV doc pm:Value) (an:Option Addr) (cdv ct:Value) (s:Shared) (u:Value),BindsTo s (PySem.W.fnOf "law" "law" (fm st3) (eD st3) (bZ st3) .none kV doc pm an cdv ct) ⟨[u],[]⟩ [(x,u)])
  (U:∀ (c1 P1 c2 P2 c3 P3:Addr),DefK K mg x1 st1 ps1 c1 P1->DefK K mg x2 st2 ps2 c2 P2->DefK K mg "law" st3 [x] c3 P3->∀ (oc:Value) (od:Option Addr) (kV doc pm:Value) (an:Option Addr) (ct:Value) (osl:Array (Option Value)),
   K.lookup fa=some ⟨oc,od,.func (PySem.W.fnOf "law" "law" (fm st3) (eD st3) (bZ st3) .none kV doc pm an (.ref c3) ct),osl⟩->∀ base:Heap,BltK base mg->FnOk q w K mg base eS k fa (PySem.W.fnOf "law" "law" (fm st3) (eD st3) (bZ st3) .none kV doc pm an (.ref c3) ct) [x] (jL [P1,P2,P3] K)) :
  ∃ (fd:FuncData) (us:List Addr),(∀ t∈us,t∈ts/\K.lookup t=none/\∃ c0,CodK K c0 t)/\(∀ (s:Shared) (u:Value),BindsTo s fd ⟨[u],[]⟩ [(x,u)]) /\
   ∀ base:Heap,K.In base->base.Ns mainGlobals mg->BltK base mg->FnOk q w K mg base eS k fa fd [x] (jL us K):=by
 obtain ⟨c1,P1,D1,M1⟩:=h1
 obtain ⟨c2,P2,D2,M2⟩:=h2
 obtain ⟨c3,P3,D3,M3⟩:=h3
 obtain ⟨f,oc,od,kV,doc,pm,an,ct,osl,hm,lk,kp,_⟩:=D3.ex
 have e0:=hmg.symm.trans hm
 cases e0
 refine ⟨_,[P1,P2,P3],λt ht=>?_,λs u=>hb _ _ _ _ _ _ s u,λbase _ _ BK=>U c1 P1 c2 P2 c3 P3 D1 D2 D3 _ _ _ _ _ _ _ _ lk base BK⟩
 simp only [List.mem_cons,List.not_mem_nil,or_false] at ht
 rcases ht with rfl | rfl | rfl
 ·exact M1
 ·exact M2
 ·exact M3
theorem ZeZ {q:Program} {w:World} {k:Nat} {x x1 x2:Str} {st1 st2:Stmt} {ps1 ps2:List Str} {ts:List Addr} {fa:Addr} {fd:FuncData} (h1:mD K mg ts x1 st1 ps1) (h2:mD K mg ts x2 st2 ps2)
  (hb:∀ (s:Shared) (u:Value),BindsTo s fd ⟨[u],[]⟩ [(x,u)])
  (U:∀ (c1 P1 c2 P2:Addr),DefK K mg x1 st1 ps1 c1 P1->DefK K mg x2 st2 ps2 c2 P2->∀ base:Heap,BltK base mg->FnOk q w K mg base eS k fa fd [x] (jL [P1,P2] K)) :
  ∃ (fd:FuncData) (us:List Addr),(∀ t∈us,t∈ts/\K.lookup t=none/\∃ c0,CodK K c0 t)/\(∀ (s:Shared) (u:Value),BindsTo s fd ⟨[u],[]⟩ [(x,u)]) /\
   ∀ base:Heap,K.In base->base.Ns mainGlobals mg->BltK base mg->FnOk q w K mg base eS k fa fd [x] (jL us K):=by
 obtain ⟨c1,P1,D1,M1⟩:=h1
 obtain ⟨c2,P2,D2,M2⟩:=h2
 refine ⟨fd,[P1,P2],λt ht=>?_,hb,λbase _ _ BK=>U c1 P1 c2 P2 D1 D2 base BK⟩
 simp only [List.mem_cons,List.not_mem_nil,or_false] at ht
 rcases ht with rfl | rfl
 ·exact M1
 ·exact M2
end
end L2
namespace My
open PySem PySem.Spec PyProof.Rows L2
noncomputable def top (i:Nat):Stmt:=PySem.Challenge.pw_twomarks_k55_books_refuse.main.body.getD i (.Pass ⟨0,0,0,0⟩)
noncomputable abbrev Za1:Stmt:=top 11
noncomputable abbrev Zno:List Str:=["thing"]
theorem ZfV:FnScope Zno ["thing"] (bZ Za1):=⟨rfl,rfl,rfl,by decide +kernel,rfl,by decide +kernel,by decide +kernel⟩
noncomputable abbrev Za0:Stmt:=top 12
noncomputable abbrev Znn:List Str:=["thing","lowest","highest"]
theorem ZfU:FnScope Znn ["thing","lowest","highest"] (bZ Za0):=⟨rfl,rfl,rfl,by decide +kernel,rfl,by decide +kernel,by decide +kernel⟩
noncomputable abbrev Za2:Stmt:=top 21
noncomputable abbrev Znp:List Str:=["shop","stock","thing"]
theorem ZfW:FnScope Znp ["shop","stock","thing"] (bZ Za2):=⟨rfl,rfl,rfl,by decide +kernel,rfl,by decide +kernel,by decide +kernel⟩
noncomputable abbrev ZaY:Stmt:=top 22
noncomputable abbrev Znk:List Str:=["shop","stock","level"]
theorem ZfS:FnScope Znk ["shop","stock","level"] (bZ ZaY):=⟨rfl,rfl,rfl,by decide +kernel,rfl,by decide +kernel,by decide +kernel⟩
noncomputable abbrev ZaZ:Stmt:=top 23
noncomputable abbrev Znl:List Str:=["shop","level","fall"]
theorem ZfT:FnScope Znl ["shop","level","fall"] (bZ ZaZ):=⟨rfl,rfl,rfl,by decide +kernel,rfl,by decide +kernel,by decide +kernel⟩
noncomputable abbrev Za3:Stmt:=top 24
noncomputable abbrev Znq:List Str:=["shop","level","fall","stock","sold_never","held"]
theorem m7:FnScope Znq ["shop","level","fall"] (bZ Za3):=⟨rfl,rfl,rfl,by decide +kernel,rfl,by decide +kernel,by decide +kernel⟩
noncomputable abbrev Zba:Stmt:=top 28
noncomputable abbrev Znw:List Str:=["_law_script"]
theorem ZfY:FnScope Znw ["_law_script"] (bZ Zba):=⟨rfl,rfl,rfl,by decide +kernel,rfl,by decide +kernel,by decide +kernel⟩
noncomputable abbrev Zbe:Stmt:=top 29
noncomputable abbrev ZnA:List Str:=["_law_pen_here","_law_many","_law_digit","_law_at","_law_cell","_law_number"]
theorem jN:FnScope ZnA ["_law_pen_here","_law_many"] (bZ Zbe):=⟨rfl,rfl,rfl,by decide +kernel,rfl,by decide +kernel,by decide +kernel⟩
noncomputable abbrev Za9:Stmt:=top 30
noncomputable abbrev Znv:List Str:=["_law_pen_here","_law_way","_law_small"]
theorem pX:FnScope Znv ["_law_pen_here"] (bZ Za9):=⟨rfl,rfl,rfl,by decide +kernel,rfl,by decide +kernel,by decide +kernel⟩
noncomputable abbrev qc:Stmt:=top 31
noncomputable abbrev pf:List Str:=["_law_pen_here","_law_great","_law_top","_law_depth"]
theorem m9:FnScope pf ["_law_pen_here"] (bZ qc):=⟨rfl,rfl,rfl,by decide +kernel,rfl,by decide +kernel,by decide +kernel⟩
noncomputable abbrev Za7:Stmt:=top 32
noncomputable abbrev Znt:List Str:=["_law_shop_here","_law_stock","_law_level","_law_fall","_law_top","_law_depth","_law_start","_law_piece","_law_keep","_law_lack","_law_lost","_law_back","_law_late","_law_rest","_law_behind","_law_cost"]
theorem fY:FnScope Znt ["_law_shop_here","_law_stock","_law_level","_law_fall"] (bZ Za7):=⟨rfl,rfl,rfl,by decide +kernel,rfl,by decide +kernel,by decide +kernel⟩
noncomputable abbrev Zbc:Stmt:=top 33
noncomputable abbrev Zny:List Str:=["_law_shop_here","_law_stock"]
theorem Zf0:FnScope Zny ["_law_shop_here","_law_stock"] (bZ Zbc):=⟨rfl,rfl,rfl,by decide +kernel,rfl,by decide +kernel,by decide +kernel⟩
noncomputable abbrev qd:Stmt:=top 34
noncomputable abbrev ph:List Str:=["_law_kept","_law_shop_here","_law_total"]
theorem na:FnScope ph ["_law_kept"] (bZ qd):=⟨rfl,rfl,rfl,by decide +kernel,rfl,by decide +kernel,by decide +kernel⟩
noncomputable abbrev Zbd:Stmt:=top 35
noncomputable abbrev Znz:List Str:=["_law_kept","_law_many","_law_level","_law_cost","_law_behind"]
theorem lF:FnScope Znz ["_law_kept","_law_many"] (bZ Zbd):=⟨rfl,rfl,rfl,by decide +kernel,rfl,by decide +kernel,by decide +kernel⟩
noncomputable abbrev Za6:Stmt:=top 36
noncomputable abbrev Zns:List Str:=["_law_kept","_law_day"]
theorem ZaT:FnScope Zns ["_law_kept"] (bZ Za6):=⟨rfl,rfl,rfl,by decide +kernel,rfl,by decide +kernel,by decide +kernel⟩
noncomputable abbrev Za5:Stmt:=top 37
noncomputable abbrev Znr:List Str:=["_law_found","_law_wanted"]
theorem ZfX:FnScope Znr ["_law_found","_law_wanted"] (bZ Za5):=⟨rfl,rfl,rfl,by decide +kernel,rfl,by decide +kernel,by decide +kernel⟩
noncomputable abbrev qb:Stmt:=top 38
noncomputable abbrev pe:List Str:=["_law_book","_law_kept","_law_wanted","_law_turn","_law_found"]
theorem m8:FnScope pe ["_law_book","_law_kept"] (bZ qb):=⟨rfl,rfl,rfl,by decide +kernel,rfl,by decide +kernel,by decide +kernel⟩
noncomputable abbrev Za8:Stmt:=top 39
noncomputable abbrev Znu:List Str:=["_law_asked","_law_caught","e","_law_some"]
theorem jM:FnScope Znu ["_law_asked"] (bZ Za8):=⟨rfl,rfl,rfl,by decide +kernel,rfl,by decide +kernel,by decide +kernel⟩
noncomputable abbrev qe:Stmt:=top 40
noncomputable abbrev pj:List Str:=["_law_shop_here","_law_stock","_law_some"]
theorem pY:FnScope pj ["_law_shop_here","_law_stock"] (bZ qe):=⟨rfl,rfl,rfl,by decide +kernel,rfl,by decide +kernel,by decide +kernel⟩
noncomputable abbrev Zbb:Stmt:=top 41
noncomputable abbrev Znx:List Str:=[]
theorem ZfZ:FnScope Znx [] (bZ Zbb):=⟨rfl,rfl,rfl,by decide +kernel,rfl,by decide +kernel,by decide +kernel⟩
noncomputable abbrev jh:Stmt:=top 42
noncomputable abbrev tu:List Str:=["_law_book","_law_kept","_law_thing"]
theorem pW:FnScope tu ["_law_book","_law_kept"] (bZ jh):=⟨rfl,rfl,rfl,by decide +kernel,rfl,by decide +kernel,by decide +kernel⟩
noncomputable abbrev Zbf:Stmt:=top 43
noncomputable abbrev ZnB:List Str:=["_law_pen_here","_law_shop_here","_law_stock","_law_book","_law_kept","_law_day","_law_many"]
theorem jO:FnScope ZnB ["_law_pen_here"] (bZ Zbf):=⟨rfl,rfl,rfl,by decide +kernel,rfl,by decide +kernel,by decide +kernel⟩
noncomputable abbrev jQ:Stmt:=top 44
noncomputable abbrev tq:List Str:=["_law_pen_here","_law_book","_law_kept","_law_top","_law_stock","_law_level","_law_other","_law_turn"]
theorem kF:FnScope tq ["_law_pen_here","_law_book","_law_kept"] (bZ jQ):=⟨rfl,rfl,rfl,by decide +kernel,rfl,by decide +kernel,by decide +kernel⟩
noncomputable abbrev qa:Stmt:=top 45
noncomputable abbrev Znm:List Str:=["_law_script","_law_pen_here","_law_first","_law_kept","_law_other","_law_beside"]
theorem kE:FnScope Znm ["_law_script"] (bZ qa):=⟨rfl,rfl,rfl,by decide +kernel,rfl,by decide +kernel,by decide +kernel⟩
noncomputable abbrev Zbl:Stmt:=kg (top 26) 0
noncomputable abbrev ZnH:List Str:=["self","shop","stock"]
theorem Zf4:FnScope ZnH ["self","shop","stock"] (bZ Zbl):=⟨rfl,rfl,rfl,by decide +kernel,rfl,by decide +kernel,by decide +kernel⟩
noncomputable abbrev Zbj:Stmt:=kg (top 26) 1
noncomputable abbrev ZnF:List Str:=["self","level"]
theorem ZaU:FnScope ZnF ["self","level"] (bZ Zbj):=⟨rfl,rfl,rfl,by decide +kernel,rfl,by decide +kernel,by decide +kernel⟩
noncomputable abbrev Zbi:Stmt:=kg (top 26) 2
noncomputable abbrev ZnE:List Str:=["self","many","level","cost","told"]
theorem je:FnScope ZnE ["self","many"] (bZ Zbi):=⟨rfl,rfl,rfl,by decide +kernel,rfl,by decide +kernel,by decide +kernel⟩
noncomputable abbrev Zbk:Stmt:=kg (top 26) 3
noncomputable abbrev ZnG:List Str:=["self","stock","level","many","cost","chosen"]
theorem gB:FnScope ZnG ["self"] (bZ Zbk):=⟨rfl,rfl,rfl,by decide +kernel,rfl,by decide +kernel,by decide +kernel⟩
noncomputable abbrev Zbg:Stmt:=kg (top 26) 4
noncomputable abbrev ZnC:List Str:=["self"]
theorem Zf1:FnScope ZnC ["self"] (bZ Zbg):=⟨rfl,rfl,rfl,by decide +kernel,rfl,by decide +kernel,by decide +kernel⟩
noncomputable abbrev Zbh:Stmt:=kg (top 26) 5
noncomputable abbrev ZnD:List Str:=["self"]
theorem Zf2:FnScope ZnD ["self"] (bZ Zbh):=⟨rfl,rfl,rfl,by decide +kernel,rfl,by decide +kernel,by decide +kernel⟩
noncomputable abbrev qf:Stmt:=kg (top 26) 6
noncomputable abbrev my:List Str:=["self"]
theorem Zf3:FnScope my ["self"] (bZ qf):=⟨rfl,rfl,rfl,by decide +kernel,rfl,by decide +kernel,by decide +kernel⟩
structure OK_Book (K:PySem.W.Frag) (mg:Str->Option Value) (C:Addr):Prop where
 nm:mg "Book"=some (.ref C)
 cl:Cls K C
 n_shop:NoAttr K C "shop"
 n_morning:NoAttr K C "morning"
 n_chosen:NoAttr K C "chosen"
 n_spent:NoAttr K C "spent"
 n_ended:NoAttr K C "ended"
 k_init:KDef K C "Book.__init__" Zbl ["self","shop","stock"]
 d_choose:MDef K C "choose" "Book.choose" Zbj ["self","level"]
 d_fall:MDef K C "fall" "Book.fall" Zbi ["self","many"]
 d_back:MDef K C "back" "Book.back" Zbk ["self"]
 d_stock:MDef K C "stock" "Book.stock" Zbg ["self"]
 d_paid:MDef K C "paid" "Book.paid" Zbh ["self"]
 d_days:MDef K C "days" "Book.days" qf ["self"]
structure Refs (K:PySem.W.Frag) (mg:Str->Option Value) (D E_NoLevel E_NoFall E_NoBack E_NoRow E_NoText E_NoMean E_NoShare E_NoStand:Addr):Prop where
 hD:mg "ShopError"=some (.ref D)
 h_NoLevel:mg "NoLevel"=some (.ref E_NoLevel)
 h_NoFall:mg "NoFall"=some (.ref E_NoFall)
 h_NoBack:mg "NoBack"=some (.ref E_NoBack)
 h_NoRow:mg "NoRow"=some (.ref E_NoRow)
 h_NoText:mg "NoText"=some (.ref E_NoText)
 h_NoMean:mg "NoMean"=some (.ref E_NoMean)
 h_NoShare:mg "NoShare"=some (.ref E_NoShare)
 h_NoStand:mg "NoStand"=some (.ref E_NoStand)
 x_NoLevel:Exc K E_NoLevel D [E_NoFall,E_NoBack,E_NoRow,E_NoText,E_NoMean,E_NoShare,E_NoStand]
 x_NoFall:Exc K E_NoFall D [E_NoLevel,E_NoBack,E_NoRow,E_NoText,E_NoMean,E_NoShare,E_NoStand]
 x_NoBack:Exc K E_NoBack D [E_NoLevel,E_NoFall,E_NoRow,E_NoText,E_NoMean,E_NoShare,E_NoStand]
structure Txt (K:PySem.W.Frag) (mg:Str->Option Value):Prop where
 Zcu:mg "len"=none
 qL:mg "abs"=none
 nL:mg "max"=none
 Zcs:mg "repr"=none
 lS:mg "int"=none
 Zct:mg "list"=none
 ZhR:mg "tuple"=none
 ZhT:mg "str"=none
 qK:mg "bool"=none
 nK:mg "range"=none
 fT:mg "isinstance"=none
 ZhS:mg "sum"=none
 ZhU:mg "ValueError"=none
 Zi8:∃ t,mg "TOP"=some (.int 0 t)
 Zje:∃ t,mg "DEPTH"=some (.int 1 t)
 Zi9:∃ t,mg "START"=some (.int 2 t)
 Zja:∃ t,mg "PIECE"=some (.int 3 t)
 Zjd:∃ t,mg "KEEP"=some (.int 4 t)
 Zjc:∃ t,mg "LACK"=some (.int 5 t)
 Zjb:∃ t,mg "LOST"=some (.int 6 t)
 ZlU:Def K mg "is_whole" Za1 ["thing"]
 ZlT:Def K mg "is_whole_within" Za0 ["thing","lowest","highest"]
 ZlV:Def K mg "is_level" Za2 ["shop","stock","thing"]
 ZlQ:Def K mg "order_cost" ZaY ["shop","stock","level"]
 ZlR:Def K mg "next_stock" ZaZ ["shop","level","fall"]
 ZlX:Def K mg "day_cost" Za3 ["shop","level","fall"]
 Zl5:Def K mg "_law_pen" Zba ["_law_script"]
 Zmb:Def K mg "_law_draw" Zbe ["_law_pen_here","_law_many"]
 Zl4:Def K mg "_law_price" Za9 ["_law_pen_here"]
 Zl2:Def K mg "_law_shop" qc ["_law_pen_here"]
 Zl0:Def K mg "_law_step" Za7 ["_law_shop_here","_law_stock","_law_level","_law_fall"]
 Zl9:Def K mg "_law_new" Zbc ["_law_shop_here","_law_stock"]
 Zl6:Def K mg "_law_paid" qd ["_law_kept"]
 Zma:Def K mg "_law_fallen" Zbd ["_law_kept","_law_many"]
 ZlZ:Def K mg "_law_taken_back" Za6 ["_law_kept"]
 ZlY:Def K mg "_law_whole" Za5 ["_law_found","_law_wanted"]
 Zl1:Def K mg "_law_stands" qb ["_law_book","_law_kept"]
 Zl3:Def K mg "_law_refusal" Za8 ["_law_asked"]
 Zl7:Def K mg "_law_no_levels" qe ["_law_shop_here","_law_stock"]
 Zl8:Def K mg "_law_no_falls" Zbb []
 ZnU:Def K mg "_law_refused_right" jh ["_law_book","_law_kept"]
 Zmc:Def K mg "_law_begun" Zbf ["_law_pen_here"]
 ZnT:Def K mg "_law_right" jQ ["_law_pen_here","_law_book","_law_kept"]
 ZlS:Def K mg "law" qa ["_law_script"]
 ZnM:∃ C:Addr,OK_Book K mg C
 Zad:∃ D E_NoLevel E_NoFall E_NoBack E_NoRow E_NoText E_NoMean E_NoShare E_NoStand:Addr,Refs K mg D E_NoLevel E_NoFall E_NoBack E_NoRow E_NoText E_NoMean E_NoShare E_NoStand
theorem Zmk (ns:List Int) (a:Nat) (h:ns≠[]):∃ z:Int,ez (ns.map V.int) ((a:Int) % ((ns.map V.int).length:Nat))=some (.int z):=by
 have hl:0 < ns.length:=List.length_pos_iff.mpr h
 have hl':(ns.map V.int).length=ns.length:=List.length_map ..
 have e:(a:Int) % ((ns.map V.int).length:Nat)=((a % ns.length:Nat):Int):=by rw [hl']; omega
 have hlt:a % ns.length < ns.length:=Nat.mod_lt _ hl
 rw [e]
 exact ⟨ns[a % ns.length],iV (by rw [List.getElem?_map,List.getElem?_eq_getElem hlt]; rfl)⟩
section
variable {P:Program} {w:World} {K:PySem.W.Frag} {mg:Str->Option Value} {base:Heap}
theorem ZhE (T:Txt K mg):Callee P w K mg base "_law_pen" 1 ["_law_script"] (ZfC K):=by
 refine T.Zl5.ok ZfY (λvs H Q E h=>?_) (λf cdv A outer s H vs Q E hr h=>?_)
 ·obtain ⟨a,ns,rfl,_⟩:=h
  rfl
 ·obtain ⟨a,ns,rfl,hS,hlen,k⟩:=h
  have hu:=dR hr
  refine ⟨_,(gT (gU (jj (b9 (lH (Zmp) rfl T.Zct boot_list (b9 (Zb4 ZaH (pv 0) Zb0 (ZbZ d9)) dh)) (b9 d9 (b9 d9 dh)))))),?_⟩
  refine ⟨_,rfl,63,rfl,a,_,rfl,hS,λq hq=>⟨q,_,rfl,Or.inl (SqL.of cr),λc hc=>⟨by show 3<=sizeLine; decide,λp hp=>?_⟩⟩⟩
  have hcut:gG (ns.map V.int) none (some 63)=ns.map V.int:=by
   unfold gG
   have e:HT.cb (ns.map V.int).length (ns.map V.int).length (some 63)=(ns.map V.int).length:=by
    have q:=HT.Zgf (ns.map V.int).length (ns.map V.int).length 63
    rw [List.length_map] at q ⊢
    exact q.trans (Nat.min_eq_right hlen)
   rw [e]
   show ((ns.map V.int).drop 0).take ((ns.map V.int).length - 0)=_
   rw [List.drop_zero,Nat.sub_zero,List.take_length]
  have s1:Same H (upd H q (.lst (gG (ns.map V.int) none (some 63)))):=(Same.refl _).new hq
  have s2:=s1.new (o:=.lst (gG (ns.map V.int) none (some 63))) hc
  have s3:=s2.new (o:=.lst [.ref c,.int 0,.int 0]) hp
  have npc:c≠p:=λz=>by
   rw [<- z,cr] at hp
   cases hp
  refine k p c _ (s2.free hp) ⟨⟨0,0,cr,Nat.le_refl _,Int.le_refl _⟩,?_,hlen,npc⟩ s3
  rw [ak npc,cr,hcut]
theorem ZmL {z a:Int} (h3:0<=a) (h4:a<=500000):(z % 2147483629+40009 * a+17).natAbs < 2 ^ 64:=by
 have:=Int.emod_nonneg z (by decide:(2147483629:Int)≠0)
 have:=Int.emod_lt_of_pos z (by decide:(0:Int) < 2147483629)
 omega
theorem ZmK {M a:Int} (h0:0<=M) (h1:M < 2147483647) (h3:0<=a) (h4:a<=500000):(M * (2 * a+3)+69621).natAbs < 2 ^ 64:=by
 have p0:0<=M * (2 * a+3):=Int.mul_nonneg (by omega) (by omega)
 have p1:M * (2 * a+3)<=2147483647 * 1000003:=Int.mul_le_mul (by omega) (by omega) (by omega) (by omega)
 omega
theorem ZhG (T:Txt K mg):Callee P w K mg base "_law_draw" 1 ["_law_pen_here","_law_many"] ZaD:=by
 refine T.Zmb.ok jN (λvs H Q E h=>?_) (λf cdv A outer s H vs Q E hr h=>?_)
 ·obtain ⟨p,c,ns,m,most,rfl,_⟩:=h
  rfl
 ·obtain ⟨p,c,ns,m,most,rfl,hP,hm,h0,h1,k⟩:=h
  have hu:=dR hr
  refine ⟨_,(eX (jX (jW lL (gW gZ (pv 0) d9 (λ_ _=>rfl)) d9 (nomark _)) (eX (cC (i:=2) jN.nd rfl (Or.inl rfl) (eJ j4 (gW gZ (pv 0) d9 (λ_ _=>rfl)) (pv 1)))
 (eX (iH (eJ qE (gW gZ (pv 0) d9 (λ_ _=>rfl)) (pv 1)) (qx (pv 0) d9 pU))
 (gT (gU (pv 2))))) kI)
 (eX (cC (i:=3) jN.nd rfl (Or.inl rfl) (gW gZ (pv 0) d9 (λ_ _=>rfl)))
 (eX (iH (eJ j6 (pv 3) d9) (qx (pv 0) d9 pU))
 (eX (cC (i:=4) jN.nd rfl (Or.inl rfl) (eJ j6 (eJ nz d9 (pv 3)) d9))
 (eX (PS.join (jX (jW (Zce hr) (gW gZ (pv 0) d9 (λ_ _=>rfl)) (jj dh) (nomark _)) (gT (cC (i:=4) jN.nd rfl (Or.inl rfl) (gW gZ (gW gZ (pv 0) d9 (λ_ _=>rfl)) (eJ j4 (pv 3) (eE (ZdI) rfl T.Zcu boot_len (b9 (gW gZ (pv 0) d9 (λ_ _=>rfl)) dh))) (λ_ _=>rfl)))) kI))
 (eX (jX (PT.join (PW.pt (ZbQ (jW nA (pv 3) (eE (ZdI) rfl T.Zcu boot_len (b9 (gW gZ (pv 0) d9 (λ_ _=>rfl)) dh)) (nomark _)) (ZbP (jW Zhy (eE (sj) rfl T.qL boot_abs (b9 (pv 4) dh)) (eJ kO d9 d9) (nomark _)))))) (eX (iH (eJ qE (eE (sj) rfl T.qL boot_abs (b9 (pv 4) dh)) (pv 1)) (qx (pv 0) d9 pU))
 (gT (gU (eJ j4 (eE (sj) rfl T.qL boot_abs (b9 (pv 4) dh)) (pv 1))))) kI)
 (eX (cC (i:=5) jN.nd rfl (Or.inl rfl) (eJ j4 (eJ kO (eJ j6 (eJ j6 (eJ j4 (pv 4) d9) (eJ nz d9 (pv 3))) d9) d9) d9))
 (eX (cC (i:=5) jN.nd rfl (Or.inl rfl) (eJ j4 (eJ kO (eJ j6 (eJ nz (pv 5) (eJ j6 (eJ nz d9 (pv 3)) d9)) d9) d9) d9))
 (gT (gU (eJ j4 (eJ qE (pv 5) d9) (pv 1)))))))))))),?_⟩
  obtain ⟨⟨a,l,hd,ha,hl⟩,hc,hn,npc⟩:=hP
  have hd':H p=some (.lst [.ref c,.int a,.int l]):=hd
  have x2:ez [V.ref c,.int (a:Int),.int l] 2=some (.int l):=sB
  have x1:ez [V.ref c,.int (a:Int),.int l] 1=some (.int (a:Int)):=sC
  refine ⟨_,rfl,p,_,_,_,rfl,rfl,SqL.of hd',x2,_,_,rfl,rfl,_,rfl,?_⟩
  refine oh (λhz=>?_) (λhz=>?_)
  ·refine ⟨_,rfl,p,_,_,_,rfl,rfl,SqL.of hd',x2,_,rfl,_,_,rfl,rfl,h0,?_⟩
   refine ⟨_,rfl,p,_,_,_,rfl,rfl,SqL.of hd',x2,_,rfl,_,_,rfl,rfl,⟨h0,h1⟩,_,rfl,p,_,2,2,rfl,rfl,hd',rfl,?_⟩
   refine ⟨_,rfl,k _ _ (Int.emod_nonneg _ (by omega)) (Int.emod_lt_of_pos _ h0) ⟨⟨a,l / most,cr,by omega,Int.ediv_nonneg hl (by omega)⟩,by rw [ak npc]; exact hc,hn,npc⟩ Kept.refl.pen⟩
  ·refine ⟨_,rfl,p,_,_,_,rfl,rfl,SqL.of hd',x1,?_⟩
   refine ⟨_,rfl,_,_,rfl,rfl,_,rfl,p,_,1,1,rfl,rfl,hd',rfl,?_⟩
   have hd1:(upd H p (.lst ([V.ref c,.int (a:Int),.int l].set 1 (.int ((a:Int)+1))))) p=some (.lst [.ref c,.int ((a:Int)+1),.int l]):=cr
   have hc1:(upd H p (.lst ([V.ref c,.int (a:Int),.int l].set 1 (.int ((a:Int)+1))))) c=some (.lst (ns.map V.int)):=by
    rw [ak npc]
    exact hc
   have k1:Kept p H (upd H p (.lst ([V.ref c,.int (a:Int),.int l].set 1 (.int ((a:Int)+1))))):=Kept.refl.pen
   generalize upd H p (.lst ([V.ref c,.int (a:Int),.int l].set 1 (.int ((a:Int)+1))))=H1 at hd1 hc1 k1
   have y0:ez [V.ref c,.int ((a:Int)+1),.int l] 0=some (.ref c):=sD
   refine ⟨_,rfl,_,_,rfl,rfl,.inl ⟨by decide,by decide⟩,_,_,rfl,rfl,?_⟩
   refine ⟨λσ' H'=>∃ (z:Int),σ'=[some (.ref p),some (.int most),none,some (.int a),some (.int z),none]/\H' p=some (.lst [.ref c,.int ((a:Int)+1),.int l])/\H' c=some (.lst (ns.map V.int))/\Kept p H H',?_,?_⟩
   ·refine ⟨_,rfl,p,_,_,_,rfl,rfl,SqL.of hd1,y0,Nat.zero_le _,λq hq=>?_⟩
    have nq:∀ {b:Addr} {o:HO},H1 b=some o->(upd H1 q (.lst [])) b=some o:=λe=>by
     rw [ak (eT e hq)]
     exact e
    refine ⟨_,_,.lst (nq hc1) (DnAll.ints ns),.lst cr .nil,ZaN ns,ZaN [],_,rfl,?_⟩
    rw [Zlr]
    refine oh (λhne=>?_) (λ_=>?_)
    ·have hne':ns≠[]:=by
      rintro rfl
      cases hne
     obtain ⟨z,hz2⟩:=Zmk ns a hne'
     have hpos:0 < (((ns.map V.int).length:Nat):Int):=by
      rw [List.length_map]
      have:=List.length_pos_iff.mpr hne'
      omega
     refine ⟨_,rfl,p,_,_,_,rfl,rfl,SqL.of (nq hd1),y0,_,rfl,_,rfl,p,_,_,_,rfl,rfl,SqL.of (nq hd1),y0,c,_,rfl,.inl (SqL.of (nq hc1)),_,_,rfl,rfl,hpos,c,_,_,_,rfl,rfl,SqL.of (nq hc1),hz2,?_⟩
     exact ⟨z,rfl,nq hd1,nq hc1,k1.new hq⟩
    ·exact ⟨_,rfl,nq hd1,nq hc1,k1.new hq⟩
   ·rintro σ2 H2 ⟨z,rfl,hd2,hc2,k2⟩
    refine ⟨λ_ H'=>H'=H2,?_,?_⟩
    ·refine ⟨_,rfl,_,rfl,p,_,_,_,rfl,rfl,SqL.of hd2,y0,c,_,rfl,.inl (SqL.of hc2),_,_,rfl,rfl,_,rfl,?_⟩
     refine oh (λ_=>?_) (λ_=>rfl)
     exact ⟨_,rfl,z,rfl,_,_,rfl,rfl,⟨by decide,by decide,by decide⟩,_,_,rfl,rfl,_,rfl,rfl⟩
    ·rintro b H3 rfl
     have ab:0<=(if z < 0 then -z else z):=by split <;> omega
     refine oh (λ_=>?_) (λ_=>?_)
     ·refine ⟨_,rfl,z,rfl,_,rfl,_,_,rfl,rfl,⟨h0,h1⟩,_,rfl,p,_,2,2,rfl,rfl,hd2,rfl,?_⟩
      refine ⟨_,rfl,z,rfl,_,rfl,_,_,rfl,rfl,h0,?_⟩
      refine k _ _ (Int.emod_nonneg _ (by omega)) (Int.emod_lt_of_pos _ h0) ⟨⟨a+1,_,cr,by omega,Int.ediv_nonneg ab (by omega)⟩,by rw [ak npc]; exact hc2,hn,npc⟩ k2.pen
     ·refine ⟨_,rfl,_,_,rfl,rfl,(by show (0:Int) < 2147483629; decide),_,rfl,_,_,rfl,rfl,.inl ⟨by decide,by decide⟩,_,_,rfl,rfl,_,_,rfl,rfl,_,_,rfl,rfl,⟨by decide,by decide,ZmL (by omega) (by omega)⟩,_,_,rfl,rfl,(by show (0:Int) < 2147483647; decide),?_⟩
      have m0:0<=((z % 2147483629+40009 * (a:Int)+17) ^ (5:Int).toNat) % 2147483647:=Int.emod_nonneg _ (by decide)
      have m1:((z % 2147483629+40009 * (a:Int)+17) ^ (5:Int).toNat) % 2147483647 < 2147483647:=Int.emod_lt_of_pos _ (by decide)
      refine ⟨_,rfl,_,rfl,_,_,rfl,rfl,.inl ⟨by decide,by decide⟩,_,_,rfl,rfl,_,_,rfl,rfl,.inl ⟨Int.lt_of_lt_of_le (by decide) m0,Int.lt_trans m1 (by decide)⟩,_,_,rfl,rfl,_,_,rfl,rfl,⟨by decide,by decide,ZmK m0 m1 (by omega) (by omega)⟩,_,_,rfl,rfl,(by show (0:Int) < 2147483587; decide),?_⟩
      refine ⟨_,rfl,_,_,rfl,rfl,⟨by decide,by decide⟩,_,rfl,_,_,rfl,rfl,h0,?_⟩
      exact k _ _ (Int.emod_nonneg _ (by omega)) (Int.emod_lt_of_pos _ h0) ⟨⟨a+1,l,hd2,by omega,hl⟩,hc2,hn,npc⟩ k2
end
section
variable {P1 P2:Addr} {cn:Addr×List Int} {P:Program} {w:World} {K:PySem.W.Frag} {mg:Str->Option Value} {base:Heap}
noncomputable def iN:List Sl->Tr Re:=cO 1 0
 (dY (ky (jA "int" (aa 0)) (oS (jA "bool" (aa 0)))))
theorem su (T:Txt K mg):ACal (dW [P1,P2] (d8 cn)) P w K mg base "is_whole" 1 ["thing"] iN:=fI T.ZlU ZfV rfl λf cdv A outer sh H E hr=>by
 exact (cq (ek (mf (lm (T:="int") (Or.inl rfl) rfl (eE kj rfl T.fT boot_isinstance (b9 (ac (pv 0)) (b9 (jk (v:=.ty "int") rfl T.lS boot_int rfl) dh)))) (oN (Zej (lm (T:="bool") (Or.inr (Or.inl rfl)) rfl (eE kj rfl T.fT boot_isinstance (b9 (ac (pv 0)) (b9 (jk (v:=.ty "bool") rfl T.qK boot_bool rfl) dh)))))))))
noncomputable def gr:List Sl->Tr Re:=cO 3 0
 (am (eK (d7 (aj (gv λi j=>decide (i<=j)) (aa 2) (aa 1)))
  (dY (aC (.int 0)))
  eB)
 (dY (aj eI (aj dZ (aa 0) (aC (.int 2))) (aj gq (aj dZ (aa 0) (aC (.int 3))) (aj eV (aa 2) (aa 1))))))
theorem lh (T:Txt K mg):ACal (dW [P1,P2] (d8 cn)) P w K mg base "order_cost" 1 ["shop","stock","level"] gr:=fI T.ZlQ ZfS rfl λf cdv A outer sh H E hr=>by
 exact (ap (eQ (eP qD hW (ac (pv 2)) (ac (pv 1)) (nomark _))
 (cq (ek cj))
 eF)
 (cq (ek (cA fk fg (eR eO eN (ac (pv 0)) (kr rfl T.Zi9) (λ_ _=>rfl)) (cA iJ iz (eR eO eN (ac (pv 0)) (kr rfl T.Zja) (λ_ _=>rfl)) (cA fD fA (ac (pv 2)) (ac (pv 1))))))))
noncomputable def jn:List Sl->Tr Re:=cO 3 0
 (dY (gz j7 (ao (aj eV (aa 1) (aa 2)) (ao (i0 (aj dZ (aa 0) (aC (.int 1)))) cE))))
theorem sk (T:Txt K mg):ACal (dW [P1,P2] (d8 cn)) P w K mg base "next_stock" 1 ["shop","level","fall"] jn:=fI T.ZlR ZfT rfl λf cdv A outer sh H E hr=>by
 exact (cq (ek (ir (t:=fi) (eE (oC rfl) rfl T.nL boot_max (cw (cA fD fA (ac (pv 1)) (ac (pv 2))) (cw (ll (eR eO eN (ac (pv 0)) (kr rfl T.Zje) (λ_ _=>rfl))) cF))) mM)))
noncomputable def lY (C_Book:Addr):List Sl->Tr Re:=cO 3 0
 (am (fy C_Book "shop" (aa 0) (aa 1))
 (am (fy C_Book "morning" (aa 0) (aa 2))
 (am (fy C_Book "chosen" (aa 0) (aC .none))
 (am (fy C_Book "spent" (aa 0) (aC (.int 0)))
 (fy C_Book "ended" (aa 0) (oU cE))))))
theorem ZmH (T:Txt K mg) {C_Book:Addr} (B_Book:OK_Book K mg C_Book):KCal (dW [P1,P2] (d8 cn)) P w K mg base C_Book 1 ["self","shop","stock"] (lY C_Book):=ZiC B_Book.k_init Zf4 rfl λf cdv A outer sh H E hr=>by
 exact (ap (fN B_Book.cl B_Book.n_shop (ac (pv 0)) (ac (pv 1)))
 (ap (fN B_Book.cl B_Book.n_morning (ac (pv 0)) (ac (pv 2)))
 (ap (fN B_Book.cl B_Book.n_chosen (ac (pv 0)) fv)
 (ap (fN B_Book.cl B_Book.n_spent (ac (pv 0)) cj)
 (cq (fN B_Book.cl B_Book.n_ended (ac (pv 0)) (Zek cF)))))))
noncomputable def nV (C_Book:Addr):List Sl->Tr Re:=cO 1 0
 (dY (cB C_Book "morning" (aa 0)))
theorem ZmD (T:Txt K mg) {C_Book:Addr} (B_Book:OK_Book K mg C_Book):MCal (dW [P1,P2] (d8 cn)) P w K mg base C_Book "stock" 1 ["self"] (nV C_Book):=kS B_Book.d_stock Zf1 rfl λf cdv A outer sh H E hr=>by
 exact (cq (ek (cD B_Book.cl B_Book.n_morning (ac (pv 0)))))
noncomputable def nW (C_Book:Addr):List Sl->Tr Re:=cO 1 0
 (dY (cB C_Book "spent" (aa 0)))
theorem ZmE (T:Txt K mg) {C_Book:Addr} (B_Book:OK_Book K mg C_Book):MCal (dW [P1,P2] (d8 cn)) P w K mg base C_Book "paid" 1 ["self"] (nW C_Book):=kS B_Book.d_paid Zf2 rfl λf cdv A outer sh H E hr=>by
 exact (cq (ek (cD B_Book.cl B_Book.n_spent (ac (pv 0)))))
noncomputable def nk (C_Book:Addr):List Sl->Tr PyData :=
 (aa 0)
noncomputable def nX (C_Book:Addr):List Sl->Tr Re:=cO 1 0
 (mi (ku (mo (cB C_Book "ended" (aa 0))) 2 [] (gi (dS (cy 0) (dS (cy 1) fV))) (nk C_Book)))
theorem ZmF (T:Txt K mg) {C_Book:Addr} (B_Book:OK_Book K mg C_Book):MCal (dW [P1,P2] (d8 cn)) P w K mg base C_Book "days" 1 ["self"] (nX C_Book):=kS B_Book.d_days Zf3 rfl λf cdv A outer sh H E hr=>by
 exact (cq (sF (Zef (qy my ["told","chosen"] [] rfl (sM (cD B_Book.cl B_Book.n_ended (ac (pv 0)))) (λb=>(iX rfl (eA (dU (dQ (i:=0) (show ((bN my ["told","chosen"] [])).Nodup by decide +kernel) rfl (Or.inl rfl))) (eA (dU (dQ (i:=1) (show ((bN my ["told","chosen"] [])).Nodup by decide +kernel) rfl (Or.inl rfl))) iW)) (et (et iS)))) (λb=>(ac (pv 0))) rfl (show BlkOk my (bZ qf) _ [] from ⟨rfl,by decide +kernel,by decide +kernel,by decide +kernel,by decide +kernel⟩)) (ZgX (ZbV (kJ (by decide)) (ZbV (kJ (by decide)) ZgY))))))
noncomputable abbrev ge:=nU
theorem gH (T:Txt K mg):ACal (dW [P1,P2] (d8 cn)) P w K mg base "_law_draw" 1 ["_law_pen_here","_law_many"] ge:=ACal.cods (ZlK rfl (ZhG T))
noncomputable def j8:List Sl->Tr Re:=cO 4 12
 (am (jC (gi (dS (cy 4) (dS (cy 5) (dS (cy 6) (dS (cy 7) (dS (cy 8) (dS (cy 9) (dS (cy 10) (dS (cy 11) (dS (cy 12) fV)))))))))) (aa 0))
 (am (dP 13 (aj eV (aa 2) (aa 3)))
 (am (dP 14 (gz j7 (ao (aa 13) (ao (aj eV (aC (.int 0)) (aa 5)) cE))))
 (am (dP 15 (aj eI (aj gq (aa 7) (aj eV (aa 2) (aa 1))) (aj gq (aa 10) (aj eV (aa 14) (aa 13)))))
 (am (eK (d7 (aj (gv λi j=>decide (i > j)) (aa 2) (aa 1)))
  (dP 15 (aj eI (aa 15) (aa 6)))
  eB)
 (dY (ff (ao (aj eI (aj eI (aa 15) (aj gq (aa 8) (gz j7 (ao (aa 14) (ao (aC (.int 0)) cE))))) (aj gq (aa 9) (gz j7 (ao (aj eV (aC (.int 0)) (aa 14)) (ao (aC (.int 0)) cE))))) (ao (aa 14) cE)))))))))
theorem Zmv (T:Txt K mg):ACal (dW [P1,P2] (d8 cn)) P w K mg base "_law_step" 1 ["_law_shop_here","_law_stock","_law_level","_law_fall"] j8:=fI T.Zl0 fY rfl λf cdv A outer sh H E hr=>by
 exact (ap (lj (iH (ac (pv 0)) (iX rfl (eA (dU (dQ (i:=4) fY.nd rfl (Or.inl rfl))) (eA (dU (dQ (i:=5) fY.nd rfl (Or.inl rfl))) (eA (dU (dQ (i:=6) fY.nd rfl (Or.inl rfl))) (eA (dU (dQ (i:=7) fY.nd rfl (Or.inl rfl))) (eA (dU (dQ (i:=8) fY.nd rfl (Or.inl rfl))) (eA (dU (dQ (i:=9) fY.nd rfl (Or.inl rfl))) (eA (dU (dQ (i:=10) fY.nd rfl (Or.inl rfl))) (eA (dU (dQ (i:=11) fY.nd rfl (Or.inl rfl))) (eA (dU (dQ (i:=12) fY.nd rfl (Or.inl rfl))) iW))))))))) (et (et (et (et (et (et (et (et (et iS))))))))))))
 (ap (dX (cC (i:=13) fY.nd rfl (Or.inl rfl) (cA fD fA (ac (pv 2)) (ac (pv 3)))))
 (ap (dX (cC (i:=14) fY.nd rfl (Or.inl rfl) (ir (t:=fi) (eE (oC rfl) rfl T.nL boot_max (cw (ac (pv 13)) (cw (cA fD fA cj (ac (pv 5))) cF))) mM)))
 (ap (dX (cC (i:=15) fY.nd rfl (Or.inl rfl) (cA fk fg (cA iJ iz (ac (pv 7)) (cA fD fA (ac (pv 2)) (ac (pv 1)))) (cA iJ iz (ac (pv 10)) (cA fD fA (ac (pv 14)) (ac (pv 13)))))))
 (ap (eQ (eP lL hW (ac (pv 2)) (ac (pv 1)) (nomark _))
  (cq (dX (cC (i:=15) fY.nd rfl (Or.inl rfl) (cA fk fg (ac (pv 15)) (ac (pv 6))))))
  eF)
 (cq (ek (fH (cw (cA fk fg (cA fk fg (ac (pv 15)) (cA iJ iz (ac (pv 8)) (ir (t:=fi) (eE (oC rfl) rfl T.nL boot_max (cw (ac (pv 14)) (cw cj cF))) mM))) (cA iJ iz (ac (pv 9)) (ir (t:=fi) (eE (oC rfl) rfl T.nL boot_max (cw (cA fD fA cj (ac (pv 14))) (cw cj cF))) mM))) (cw (ac (pv 14)) cF))))))))))
noncomputable def nT:List Sl->Tr Re:=cO 2 0
 (dY (sX [("shop",(aa 0)),("stock",(aa 1)),("goal",(aC .none)),("days",(oU cE))]))
theorem ZmB (T:Txt K mg):ACal (dW [P1,P2] (d8 cn)) P w K mg base "_law_new" 1 ["_law_shop_here","_law_stock"] nT:=fI T.Zl9 Zf0 rfl λf cdv A outer sh H E hr=>by
 exact (cq (ek (Zna (nw (ac (pv 0)) (nw (ac (pv 1)) (nw fv (nw (Zek cF) Zhq)))) rfl rfl (by simp) (by decide))))
noncomputable def nj:List Sl->Tr PyData :=
 (aj dZ (aa 0) (aC (.int 3)))
noncomputable def kU:List Sl->Tr Re:=cO 1 2
 (am (dP 1 (eC "shop" (aa 0)))
 (am (dP 2 (gz mW (ao (fQ (ku (mo (eC "days" (aa 0))) 1 [] (cy 0) nj)) cE)))
 (am (eK (sZ (d7 (aj ie (eC "goal" (aa 0)) (aC .none))) (d7 (aj (gv λi j=>decide (i > j)) (eC "goal" (aa 0)) (eC "stock" (aa 0)))))
  (dP 2 (aj eI (aj eI (aa 2) (aj dZ (aa 1) (aC (.int 2)))) (aj gq (aj dZ (aa 1) (aC (.int 3))) (aj eV (eC "goal" (aa 0)) (eC "stock" (aa 0))))))
  eB)
 (lr 2))))
theorem Zmy (T:Txt K mg):ACal (dW [P1,P2] (d8 cn)) P w K mg base "_law_paid" 1 ["_law_kept"] kU:=fI T.Zl6 na rfl λf cdv A outer sh H E hr=>by
 exact (ap (dX (cC (i:=1) na.nd rfl (Or.inl rfl) (eG (dR hr) (ac (pv 0)))))
 (ap (dX (cC (i:=2) na.nd rfl (Or.inl rfl) (ir (t:=fi) (eE (Zmn rfl) rfl T.ZhS boot_sum (cw (gJ (Zef (qy ph ["_law_day"] [] rfl (sM (eG (dR hr) (ac (pv 0)))) (λb=>(dU (dQ (i:=0) (show ((bN ph ["_law_day"] [])).Nodup by decide +kernel) rfl (Or.inl rfl)))) (λb=>(eR eO eN (ac (pv 0)) cj (λ_ _=>rfl))) rfl (show BlkOk ph (bZ qd) _ [] from ⟨rfl,by decide +kernel,by decide +kernel,by decide +kernel,by decide +kernel⟩)) (kJ (by decide)))) cF)) ZeS)))
 (ap (eQ (g7 (ZmO (eP jZ jH (eG (dR hr) (ac (pv 0))) fv (nomark _)) (ZmN (eP lL hW (eG (dR hr) (ac (pv 0))) (eG (dR hr) (ac (pv 0))) (nomark _)))))
  (cq (dX (cC (i:=2) na.nd rfl (Or.inl rfl) (cA fk fg (cA fk fg (ac (pv 2)) (eR eO eN (ac (pv 1)) cj (λ_ _=>rfl))) (cA iJ iz (eR eO eN (ac (pv 1)) cj (λ_ _=>rfl)) (cA fD fA (eG (dR hr) (ac (pv 0))) (eG (dR hr) (ac (pv 0)))))))))
  eF)
 (cq (ZmW (pv 2))))))
noncomputable def jp:List Sl->Tr Re:=cO 1 1
 (am (eK (d7 (aj ie (eC "goal" (aa 0)) (aC .none)))
  (am (iZ "goal" (aa 0) (aC .none))
 (dY (aC (.bool true))))
  eB)
 (am (eK (d7 (oX false (eC "days" (aa 0)) (fQ (gy cE))))
  (dY (aC (.bool false)))
  eB)
 (am (dP 1 (mj (eC "days" (aa 0))))
 (am (iZ "stock" (aa 0) (aj dZ (aa 1) (aC (.int 0))))
 (am (iZ "goal" (aa 0) (aj dZ (aa 1) (aC (.int 4))))
 (dY (aC (.bool true))))))))
theorem Zmu (T:Txt K mg):ACal (dW [P1,P2] (d8 cn)) P w K mg base "_law_taken_back" 1 ["_law_kept"] jp:=fI T.ZlZ ZaT rfl λf cdv A outer sh H E hr=>by
 exact (ap (eQ (eP jZ jH (eG (dR hr) (ac (pv 0))) fv (nomark _))
 (ap (km (dR hr) (ac (pv 0)) fv)
 (cq (ek fw)))
  eF)
 (ap (eQ (ZmQ (Zhz hr) (eG (dR hr) (ac (pv 0))) (gJ (g8 cF)) (nomark _))
  (cq (ek fw))
  eF)
 (ap (dX (cC (i:=1) ZaT.nd rfl (Or.inl rfl) (sN (nv PySem.F.plainAttrs_list PySem.F.slot_list_pop PySem.F.type_list_pop (MtR.cv qO) (eG (dR hr) (ac (pv 0)))))))
 (ap (km (dR hr) (ac (pv 0)) (eR eO eN (ac (pv 1)) cj (λ_ _=>rfl)))
 (ap (km (dR hr) (ac (pv 0)) (eR eO eN (ac (pv 1)) cj (λ_ _=>rfl)))
 (cq (ek fw)))))))
noncomputable def lU:List Sl->Tr Re:=cO 2 0
 (dY (ky (jA "int" (aa 0)) (ky (oS (jA "bool" (aa 0))) (aj le (aa 0) (aa 1)))))
theorem ZdK (T:Txt K mg):ACal (dW [P1,P2] (d8 cn)) P w K mg base "_law_whole" 1 ["_law_found","_law_wanted"] lU:=fI T.ZlY ZfX rfl λf cdv A outer sh H E hr=>by
 exact (cq (ek (mf (lm (T:="int") (Or.inl rfl) rfl (eE kj rfl T.fT boot_isinstance (b9 (ac (pv 0)) (b9 (jk (v:=.ty "int") rfl T.lS boot_int rfl) dh)))) (mf (Zej (lm (T:="bool") (Or.inr (Or.inl rfl)) rfl (eE kj rfl T.fT boot_isinstance (b9 (ac (pv 0)) (b9 (jk (v:=.ty "bool") rfl T.qK boot_bool rfl) dh))))) (oN (Zen (qF hr) pH (ac (pv 0)) (ac (pv 1)) (nomark _)))))))
noncomputable def qt:List Sl->Tr PyData :=
 (aa 0)
noncomputable def qA:List Sl->Tr Bool :=
 (gk (e9 (jA "bool" (aa 0))) (gk (fb (e9 (jA "int" (aa 0)))) (gk (d7 (aj (gv λi j=>decide (i < j)) (aa 0) (aa 1))) (d7 (aj (gv λi j=>decide (i > j)) (aa 0) (aj dZ (aa 2) (aC (.int 0))))))))
noncomputable def nR:List Sl->Tr Re:=cO 2 1
 (am (dP 2 (fQ (gy (ao (aj eV (aa 1) (aC (.int 1))) (ao (aj eI (aj dZ (aa 0) (aC (.int 0))) (aC (.int 1))) (ao (aj eV (aj eV (aC (.int 0)) (aj dZ (aa 0) (aC (.int 1)))) (aC (.int 1))) (ao (aj kK (aC (.int 10)) (aC (.int 29))) (ao (i0 (aj kK (aC (.int 10)) (aC (.int 29)))) (ao (aC (.bool true)) (ao (aC (.bool false)) (ao (aC .none) (ao (aC (.str "0")) (ao (aC (.str "")) (ao (gz lC (ao (aa 1) cE)) cE))))))))))))))
 (am (dP 2 (aj eI (aa 2) (fQ (gy (ao (fQ (gy (ao (aa 1) cE))) (ao (ff (ao (aa 1) cE)) (ao (aj oz (aa 1) (aa 1)) (ao (fQ (gy cE)) (ao (ff cE) (ao (aC (.dict [])) (ao (ff (ao (ff (ao (aa 1) cE)) cE)) cE)))))))))))
 (mi (oV (lu (aa 2)) 1 [1,0] (cy 0) qA qt))))
theorem Zmz (T:Txt K mg):ACal (dW [P1,P2] (d8 cn)) P w K mg base "_law_no_levels" 1 ["_law_shop_here","_law_stock"] nR:=fI T.Zl7 pY rfl λf cdv A outer sh H E hr=>by
 exact (ap (dX (cC (i:=2) pY.nd rfl (Or.inl rfl) (by refine gJ ?_; refine g8 ?_; refine cU ?_ ?_; exact (cA fD fA (ac (pv 1)) cj); refine cU ?_ ?_; exact (cA fk fg (eR eO eN (ac (pv 0)) cj (λ_ _=>rfl)) cj); refine cU ?_ ?_; exact (cA fD fA (cA fD fA cj (eR eO eN (ac (pv 0)) cj (λ_ _=>rfl))) cj); refine cU ?_ ?_; exact (cA kO pG cj cj); refine cU ?_ ?_; exact (ll (cA kO pG cj cj)); refine cU ?_ ?_; exact fw; refine cU ?_ ?_; exact fw; refine cU ?_ ?_; exact fv; refine cU ?_ ?_; exact iY; refine cU ?_ ?_; exact iY; refine cU ?_ ?_; exact (ir (t:=fi) (lH Zmo rfl T.ZhT boot_str (cw (ac (pv 1)) cF)) ZeT); exact cF)))
 (ap (dX (cC (i:=2) pY.nd rfl (Or.inl rfl) (cA fk fg (ac (pv 2)) (by refine gJ ?_; refine g8 ?_; refine cU ?_ ?_; exact (gJ (g8 (cw (ac (pv 1)) cF))); refine cU ?_ ?_; exact (fH (cw (ac (pv 1)) cF)); refine cU ?_ ?_; exact (Zel (ac (pv 1)) (ac (pv 1))); refine cU ?_ ?_; exact (gJ (g8 cF)); refine cU ?_ ?_; exact (fH cF); refine cU ?_ ?_; exact Zem; refine cU ?_ ?_; exact (fH (cw (fH (cw (ac (pv 1)) cF)) cF)); exact cF))))
 (cq (sF (Zm2 (Zhe pj ["_law_thing"] [1,0] rfl (oJ (ac (pv 2))) (λb=>(dU (dQ (i:=0) (show ((bN pj ["_law_thing"] [1,0])).Nodup by decide +kernel) rfl (Or.inl rfl)))) (λb=>(g7 (gI (ft (lm (T:="bool") (Or.inr (Or.inl rfl)) rfl (eE kj rfl T.fT boot_isinstance (b9 (ac (pv 0)) (b9 (jk (v:=.ty "bool") rfl T.qK boot_bool rfl) dh))))) (gI (fu (ft (lm (T:="int") (Or.inl rfl) rfl (eE kj rfl T.fT boot_isinstance (b9 (ac (pv 0)) (b9 (jk (v:=.ty "int") rfl T.lS boot_int rfl) dh)))))) (gI (eP nA hW (ac (pv 0)) (ac (pv 1)) (nomark _)) (ip (eP lL hW (ac (pv 0)) (eR eO eN (ac (pv 2)) cj (λ_ _=>rfl)) (nomark _)))))))) (λb=>(ac (pv 0))) rfl (show BlkOk pj (bZ qe) _ [1,0] from ⟨rfl,by decide +kernel,by decide +kernel,by decide +kernel,by decide +kernel⟩)) (kJ (by decide)))))))
noncomputable def nS:List Sl->Tr Re:=cO 0 0
 (mi (gy (ao (i0 (aC (.int 1))) (ao (i0 (aC (.int 7))) (ao (i0 (aj kK (aC (.int 10)) (aC (.int 29)))) (ao (aC (.bool true)) (ao (aC (.bool false)) (ao (aC .none) (ao (aC (.str "0")) (ao (aC (.str "")) (ao (aC (.str "1")) (ao (fQ (gy (ao (aC (.int 0)) cE))) (ao (ff (ao (aC (.int 0)) cE)) (ao (aj oz (aC (.int 0)) (aC (.int 0))) (ao (fQ (gy cE)) (ao (ff cE) (ao (aC (.dict [])) (ao (ff (ao (ff (ao (aC (.int 0)) cE)) cE)) cE))))))))))))))))))
theorem ZmA (T:Txt K mg):ACal (dW [P1,P2] (d8 cn)) P w K mg base "_law_no_falls" 1 [] nS:=fI T.Zl8 ZfZ rfl λf cdv A outer sh H E hr=>by
 exact (cq (by refine sF ?_; refine g8 ?_; refine cU ?_ ?_; exact (ll cj); refine cU ?_ ?_; exact (ll cj); refine cU ?_ ?_; exact (ll (cA kO pG cj cj)); refine cU ?_ ?_; exact fw; refine cU ?_ ?_; exact fw; refine cU ?_ ?_; exact fv; refine cU ?_ ?_; exact iY; refine cU ?_ ?_; exact iY; refine cU ?_ ?_; exact iY; refine cU ?_ ?_; exact (gJ (g8 (cw cj cF))); refine cU ?_ ?_; exact (fH (cw cj cF)); refine cU ?_ ?_; exact (Zel cj cj); refine cU ?_ ?_; exact (gJ (g8 cF)); refine cU ?_ ?_; exact (fH cF); refine cU ?_ ?_; exact Zem; refine cU ?_ ?_; exact (fH (cw (fH (cw cj cF)) cF)); exact cF))
noncomputable def kW:List Sl->Tr Re:=cO 3 0
 (dY (ky (cg (cu iN (ae (aa 0) b7))) (oY (gv λi j=>decide (i<=j)) (gv λi j=>decide (i<=j)) (aa 1) (aa 0) (aa 2))))
theorem ZmC (T:Txt K mg):ACal (dW [P1,P2] (d8 cn)) P w K mg base "is_whole_within" 2 ["thing","lowest","highest"] kW:=fI T.ZlT ZfU rfl λf cdv A outer sh H E hr=>by
 exact (cq (ek (mf (cm (cx (su T) (hr.mono (by decide)) rfl (ah (ac (pv 0)) ce))) (oN (Znb qD hW qD hW (ac (pv 1)) (ac (pv 0)) (ac (pv 2)))))))
noncomputable def gY:List Sl->Tr Re:=cO 3 3
 (am (dP 3 (cg (cu jn (ae (aa 0) (ae (aa 1) (ae (aa 2) b7))))))
 (am (dP 4 (aj eV (aa 3) (aj eV (aa 1) (aa 2))))
 (am (dP 5 (mq (d7 (aj (gv λi j=>decide (i > j)) (aa 3) (aC (.int 0)))) (aj gq (aj dZ (aa 0) (aC (.int 4))) (aa 3)) (aj gq (aj dZ (aa 0) (aC (.int 5))) (i0 (aa 3)))))
 (dY (aj eI (aa 5) (aj gq (aj dZ (aa 0) (aC (.int 6))) (aa 4)))))))
theorem oE (T:Txt K mg):ACal (dW [P1,P2] (d8 cn)) P w K mg base "day_cost" 2 ["shop","level","fall"] gY:=fI T.ZlX m7 rfl λf cdv A outer sh H E hr=>by
 exact (ap (dX (cC (i:=3) m7.nd rfl (Or.inl rfl) (cm (cx (sk T) (hr.mono (by decide)) rfl (ah (ac (pv 0)) (ah (ac (pv 1)) (ah (ac (pv 2)) ce)))))))
 (ap (dX (cC (i:=4) m7.nd rfl (Or.inl rfl) (cA fD fA (ac (pv 3)) (cA fD fA (ac (pv 1)) (ac (pv 2))))))
 (ap (dX (cC (i:=5) m7.nd rfl (Or.inl rfl) (sP (eP lL hW (ac (pv 3)) cj (nomark _)) (cA iJ iz (eR eO eN (ac (pv 0)) (kr rfl T.Zjd) (λ_ _=>rfl)) (ac (pv 3))) (cA iJ iz (eR eO eN (ac (pv 0)) (kr rfl T.Zjc) (λ_ _=>rfl)) (ll (ac (pv 3)))))))
 (cq (ek (cA fk fg (ac (pv 5)) (cA iJ iz (eR eO eN (ac (pv 0)) (kr rfl T.Zjb) (λ_ _=>rfl)) (ac (pv 4)))))))))
noncomputable def nQ:List Sl->Tr Re:=cO 1 2
 (am (dP 1 (cg (cu ge (eZ 0 (ae (aC (.int 6)) b7)))))
 (am (dP 2 (cg (cu ge (eZ 0 (ae (aC (.int 12)) b7)))))
 (dY (aj dZ (fQ (gy (ao (aC (.int 0)) (ao (aa 2) (ao (aa 2) (ao (aa 2) (ao (aj eV (aC (.int 1000000)) (aa 2)) (ao (cg (cu ge (eZ 0 (ae (aC (.int 1000001)) b7)))) cE)))))))) (aa 1)))))
theorem Zmx (T:Txt K mg):ACal (dW [P1,P2] (d8 cn)) P w K mg base "_law_price" 2 ["_law_pen_here"] nQ:=fI T.Zl4 pX rfl λf cdv A outer sh H E hr=>by
 exact (ap (dX (cC (i:=1) pX.nd rfl (Or.inl rfl) (cm (cx (gH T) (hr.mono (by decide)) rfl (fJ (pv 0) (ah cj ce))))))
 (ap (dX (cC (i:=2) pX.nd rfl (Or.inl rfl) (cm (cx (gH T) (hr.mono (by decide)) rfl (fJ (pv 0) (ah cj ce))))))
 (cq (ek (eR eO eN (by refine gJ ?_; refine g8 ?_; refine cU ?_ ?_; exact cj; refine cU ?_ ?_; exact (ac (pv 2)); refine cU ?_ ?_; exact (ac (pv 2)); refine cU ?_ ?_; exact (ac (pv 2)); refine cU ?_ ?_; exact (cA fD fA cj (ac (pv 2))); refine cU ?_ ?_; exact (cm (cx (gH T) (hr.mono (by decide)) rfl (fJ (pv 0) (ah cj ce)))); exact cF) (ac (pv 1)) (λ_ _=>rfl))))))
noncomputable def j9:List Sl->Tr Re:=cO 2 3
 (am (dP 2 (eC "stock" (aa 0)))
 (am (eK (d7 (aj ie (eC "goal" (aa 0)) (aC .none)))
  (dP 2 (eC "goal" (aa 0)))
  eB)
 (am (jC (gi (dS (cy 3) (dS (cy 4) fV))) (cg (cu j8 (ae (eC "shop" (aa 0)) (ae (eC "stock" (aa 0)) (ae (aa 2) (ae (aa 1) b7)))))))
 (am (gM (mr (eC "days" (aa 0)) (ff (ao (eC "stock" (aa 0)) (ao (aa 2) (ao (aa 1) (ao (aa 3) (ao (eC "goal" (aa 0)) cE))))))))
 (am (iZ "stock" (aa 0) (aa 4))
 (iZ "goal" (aa 0) (aC .none)))))))
theorem ZdP (T:Txt K mg):ACal (dW [P1,P2] (d8 cn)) P w K mg base "_law_fallen" 2 ["_law_kept","_law_many"] j9:=fI T.Zma lF rfl λf cdv A outer sh H E hr=>by
 exact (ap (dX (cC (i:=2) lF.nd rfl (Or.inl rfl) (eG (dR hr) (ac (pv 0)))))
 (ap (eQ (eP jZ jH (eG (dR hr) (ac (pv 0))) fv (nomark _))
  (cq (dX (cC (i:=2) lF.nd rfl (Or.inl rfl) (eG (dR hr) (ac (pv 0))))))
  eF)
 (ap (lj (iH (cm (cx (Zmv T) (hr.mono (by decide)) rfl (ah (eG (dR hr) (ac (pv 0))) (ah (eG (dR hr) (ac (pv 0))) (ah (ac (pv 2)) (ah (ac (pv 1)) ce)))))) (iX rfl (eA (dU (dQ (i:=3) lF.nd rfl (Or.inl rfl))) (eA (dU (dQ (i:=4) lF.nd rfl (Or.inl rfl))) iW)) (et (et iS)))))
 (ap (iq (sQ (kN PySem.F.plainAttrs_list PySem.F.slot_list_append PySem.F.type_list_append (MtR.cv nM) (eG (dR hr) (ac (pv 0))) (b9 (fH (cw (eG (dR hr) (ac (pv 0))) (cw (ac (pv 2)) (cw (ac (pv 1)) (cw (ac (pv 3)) (cw (eG (dR hr) (ac (pv 0))) cF)))))) dh))))
 (ap (km (dR hr) (ac (pv 0)) (ac (pv 4)))
 (cq (km (dR hr) (ac (pv 0)) fv)))))))
noncomputable def ni (C_Book:Addr):List Sl->Tr PyData :=
 (sR (aa 0) sU (oR (aC (.int 4))))
noncomputable def q9 (C_Book:Addr):List Sl->Tr Ou :=
 (am (sS 4 (gL C_Book "days" (nX C_Book) (aa 0) b7))
 (am (eK (gk (fb (e9 (sW "list" 4))) (d7 (aj iL (sT 4) (gz jS (ao (aa 2) cE)))))
  (dY (aC (.bool false)))
  eB)
 (am (o5 4 (ff cE))
 (oP 4))))
noncomputable def hZ (C_Book:Addr):List Sl->Tr Re:=cO 2 3
 (am (eK (gk (fb (e9 (cg (cu lU (ae (cg (gL C_Book "stock" (nV C_Book) (aa 0) b7)) (ae (eC "stock" (aa 1)) b7)))))) (fb (e9 (cg (cu lU (ae (cg (gL C_Book "paid" (nW C_Book) (aa 0) b7)) (ae (cg (cu kU (ae (aa 1) b7))) b7)))))))
  (dY (aC (.bool false)))
  eB)
 (am (dP 2 (fQ (ku (mo (eC "days" (aa 1))) 1 [] (cy 0) (ni C_Book))))
 (am (jB (lq (ao (aC (.int 2)) cE)) (cy 3) (q9 C_Book))
 (dY (aC (.bool true))))))
theorem kl (T:Txt K mg) {C_Book:Addr} (B_Book:OK_Book K mg C_Book):ACal (dW [P1,P2] (d8 cn)) P w K mg base "_law_stands" 2 ["_law_book","_law_kept"] (hZ C_Book):=fI T.Zl1 m8 rfl λf cdv A outer sh H E hr=>by
 exact (ap (eQ (g7 (gI (fu (ft (cm (cx (ZdK T) (hr.mono (by decide)) rfl (ah (cm (oG B_Book.cl (ZmD T B_Book) (hr.mono (by decide)) (ac (pv 0)))) (ah (eG (dR hr) (ac (pv 1))) ce)))))) (ip (fu (ft (cm (cx (ZdK T) (hr.mono (by decide)) rfl (ah (cm (oG B_Book.cl (ZmE T B_Book) (hr.mono (by decide)) (ac (pv 0)))) (ah (cm (cx (Zmy T) (hr.mono (by decide)) rfl (ah (ac (pv 1)) ce))) ce)))))))))
 (cq (ek fw))
 eF)
 (ap (ZmU (ZgR (i:=2) pe ["_law_day"] [] rfl m8.nd rfl rfl (sM (eG (dR hr) (ac (pv 1)))) (λb=>(dU (dQ (i:=0) (show ((bN pe ["_law_day"] [])).Nodup by decide +kernel) rfl (Or.inl rfl)))) (λb=>(Zm6 (ac (pv 0)) Zm0 (ZmZ cj))) rfl (show BlkOk pe (bZ qb) _ [] from ⟨rfl,by decide +kernel,by decide +kernel,by decide +kernel,by decide +kernel⟩) rfl) (kJ (by decide)))
 (ap (li PassesOwn.never rfl (oK (nu rfl T.nK (cw cj cF))) (dU (dQ (i:=3) m8.nd rfl (Or.inl rfl)))
  (ap (ZmT (cC (i:=4) m8.nd rfl (Or.inl rfl) (oG B_Book.cl (ZmF T B_Book) (hr.mono (by decide)) (ac (pv 0)))))
 (ap (eQ (g7 (gI (fu (ft (Zm9 (T:="list") (Or.inr (Or.inr (Or.inr (Or.inl rfl)))) rfl (eE kj rfl T.fT boot_isinstance (b9 (pv 4) (b9 (jk (v:=.ty "list") rfl T.Zct boot_list rfl) dh)))))) (ip (eP (lK hr) lz (Zm7 (eE (ZdH hr) rfl T.Zcs boot_repr (b9 (pv 4) dh))) (ir (t:=fi) (eE (ZdH hr) rfl T.Zcs boot_repr (cw (ac (pv 2)) cF)) ZeU) (nomark _)))))
  (cq (ek fw))
  eF)
 (ap (ZmX (qu (kN PySem.F.plainAttrs_list PySem.F.slot_list_append PySem.F.type_list_append nM (pv 4) (b9 (fH cF) dh))))
 (cq (ZmV (qu (nv PySem.F.plainAttrs_list PySem.F.slot_list_reverse PySem.F.type_list_reverse ZhW (pv 4)))))))))
 (cq (ek fw)))))
noncomputable def h9:List Sl->Tr Re:=cO 3 0
 (oQ (cu kW (ae (aa 2) (ae (aa 1) (ae (aj dZ (aa 0) (aC (.int 0))) b7)))))
theorem ZdR (T:Txt K mg):ACal (dW [P1,P2] (d8 cn)) P w K mg base "is_level" 3 ["shop","stock","thing"] h9:=fI T.ZlV ZfW rfl λf cdv A outer sh H E hr=>by
 exact (cq (Zea (cx (ZmC T) (hr.mono (by decide)) rfl (ah (ac (pv 2)) (ah (ac (pv 1)) (ah (eR eO eN (ac (pv 0)) (kr rfl T.Zi8) (λ_ _=>rfl)) ce))))))
noncomputable def ka (C_Book:Addr):List Sl->Tr Re:=cO 2 3
 (am (eK (gk (fb (e9 (cg (cu iN (ae (aa 1) b7))))) (d7 (aj (gv λi j=>decide (i < j)) (aa 1) (aC (.int 0)))))
  ml
  eB)
 (am (dP 2 (mq (d7 (aj l8 (cB C_Book "chosen" (aa 0)) (aC .none))) (cB C_Book "morning" (aa 0)) (cB C_Book "chosen" (aa 0))))
 (am (dP 3 (cg (cu gY (ae (cB C_Book "shop" (aa 0)) (ae (aa 2) (ae (aa 1) b7))))))
 (am (dP 4 (ff (ao (cB C_Book "morning" (aa 0)) (ao (aa 2) (ao (aa 1) (ao (aj eI (cg (cu gr (ae (cB C_Book "shop" (aa 0)) (ae (cB C_Book "morning" (aa 0)) (ae (aa 2) b7))))) (aa 3)) cE))))))
 (am (gM (mr (cB C_Book "ended" (aa 0)) (ff (ao (aa 4) (ao (cB C_Book "chosen" (aa 0)) cE)))))
 (am (iu C_Book "spent" (λi j=>i+j) (aa 0) (aa 3))
 (am (fy C_Book "morning" (aa 0) (cg (cu jn (ae (cB C_Book "shop" (aa 0)) (ae (aa 2) (ae (aa 1) b7))))))
 (fy C_Book "chosen" (aa 0) (aC .none)))))))))
theorem ZdS (T:Txt K mg) {C_Book:Addr} (B_Book:OK_Book K mg C_Book):MCal (dW [P1,P2] (d8 cn)) P w K mg base C_Book "fall" 3 ["self","many"] (ka C_Book):=kS B_Book.d_fall je rfl λf cdv A outer sh H E hr=>by
 exact (ap (eQ (g7 (gI (fu (ft (cm (cx (su T) (hr.mono (by decide)) rfl (ah (ac (pv 1)) ce))))) (ip (eP nA hW (ac (pv 1)) cj (nomark _)))))
 (cq oF)
 eF)
 (ap (dX (cC (i:=2) je.nd rfl (Or.inl rfl) (sP (eP Zcg Zaj (cD B_Book.cl B_Book.n_chosen (ac (pv 0))) fv (nomark _)) (cD B_Book.cl B_Book.n_morning (ac (pv 0))) (cD B_Book.cl B_Book.n_chosen (ac (pv 0))))))
 (ap (dX (cC (i:=3) je.nd rfl (Or.inl rfl) (cm (cx (oE T) (hr.mono (by decide)) rfl (ah (cD B_Book.cl B_Book.n_shop (ac (pv 0))) (ah (ac (pv 2)) (ah (ac (pv 1)) ce)))))))
 (ap (dX (cC (i:=4) je.nd rfl (Or.inl rfl) (fH (cw (cD B_Book.cl B_Book.n_morning (ac (pv 0))) (cw (ac (pv 2)) (cw (ac (pv 1)) (cw (cA fk fg (cm (cx (lh T) (hr.mono (by decide)) rfl (ah (cD B_Book.cl B_Book.n_shop (ac (pv 0))) (ah (cD B_Book.cl B_Book.n_morning (ac (pv 0))) (ah (ac (pv 2)) ce))))) (ac (pv 3))) cF)))))))
 (ap (iq (sQ (kN PySem.F.plainAttrs_list PySem.F.slot_list_append PySem.F.type_list_append (MtR.cv nM) (cD B_Book.cl B_Book.n_ended (ac (pv 0))) (b9 (fH (cw (ac (pv 4)) (cw (cD B_Book.cl B_Book.n_chosen (ac (pv 0))) cF))) dh))))
 (ap (jw oo ot B_Book.cl B_Book.n_spent (ac (pv 0)) (ac (pv 3)))
 (ap (fN B_Book.cl B_Book.n_morning (ac (pv 0)) (cm (cx (sk T) (hr.mono (by decide)) rfl (ah (cD B_Book.cl B_Book.n_shop (ac (pv 0))) (ah (ac (pv 2)) (ah (ac (pv 1)) ce))))))
 (cq (fN B_Book.cl B_Book.n_chosen (ac (pv 0)) fv)))))))))
noncomputable def kA (C_Book:Addr):List Sl->Tr (Option Re):=i5 2 3
 (iy (kC (gk (fb (e9 (cg (cu iN (ae (aa 1) b7))))) (d7 (aj (gv λi j=>decide (i < j)) (aa 1) (aC (.int 0))))) kB (gO eB))
 (gO (am (dP 2 (mq (d7 (aj l8 (cB C_Book "chosen" (aa 0)) (aC .none))) (cB C_Book "morning" (aa 0)) (cB C_Book "chosen" (aa 0))))
 (am (dP 3 (cg (cu gY (ae (cB C_Book "shop" (aa 0)) (ae (aa 2) (ae (aa 1) b7))))))
 (am (dP 4 (ff (ao (cB C_Book "morning" (aa 0)) (ao (aa 2) (ao (aa 1) (ao (aj eI (cg (cu gr (ae (cB C_Book "shop" (aa 0)) (ae (cB C_Book "morning" (aa 0)) (ae (aa 2) b7))))) (aa 3)) cE))))))
 (am (gM (mr (cB C_Book "ended" (aa 0)) (ff (ao (aa 4) (ao (cB C_Book "chosen" (aa 0)) cE)))))
 (am (iu C_Book "spent" (λi j=>i+j) (aa 0) (aa 3))
 (am (fy C_Book "morning" (aa 0) (cg (cu jn (ae (cB C_Book "shop" (aa 0)) (ae (aa 2) (ae (aa 1) b7))))))
 (fy C_Book "chosen" (aa 0) (aC .none))))))))))
theorem Zmd (T:Txt K mg) {C_Book:Addr} (B_Book:OK_Book K mg C_Book) {C:Addr} (hC:mg "NoFall"=some (.ref C)) (xc:Xcl K C iU "ValueError.__new__"):XMal (dW [P1,P2] (d8 cn)) P w K mg base C_Book "fall" 3 ["self","many"] C (kA C_Book):=pB B_Book.d_fall je rfl λf cdv A outer sh H E hr=>by
 exact (lx (mH (g7 (gI (fu (ft (cm (cx (su T) (hr.mono (by decide)) rfl (ah (ac (pv 1)) ce))))) (ip (eP nA hW (ac (pv 1)) cj (nomark _))))) (mF (mG (nr F.excBase_ValueError xc rfl hC))) (jF eF))
 (jF (ap (dX (cC (i:=2) je.nd rfl (Or.inl rfl) (sP (eP Zcg Zaj (cD B_Book.cl B_Book.n_chosen (ac (pv 0))) fv (nomark _)) (cD B_Book.cl B_Book.n_morning (ac (pv 0))) (cD B_Book.cl B_Book.n_chosen (ac (pv 0))))))
 (ap (dX (cC (i:=3) je.nd rfl (Or.inl rfl) (cm (cx (oE T) (hr.mono (by decide)) rfl (ah (cD B_Book.cl B_Book.n_shop (ac (pv 0))) (ah (ac (pv 2)) (ah (ac (pv 1)) ce)))))))
 (ap (dX (cC (i:=4) je.nd rfl (Or.inl rfl) (fH (cw (cD B_Book.cl B_Book.n_morning (ac (pv 0))) (cw (ac (pv 2)) (cw (ac (pv 1)) (cw (cA fk fg (cm (cx (lh T) (hr.mono (by decide)) rfl (ah (cD B_Book.cl B_Book.n_shop (ac (pv 0))) (ah (cD B_Book.cl B_Book.n_morning (ac (pv 0))) (ah (ac (pv 2)) ce))))) (ac (pv 3))) cF)))))))
 (ap (iq (sQ (kN PySem.F.plainAttrs_list PySem.F.slot_list_append PySem.F.type_list_append (MtR.cv nM) (cD B_Book.cl B_Book.n_ended (ac (pv 0))) (b9 (fH (cw (ac (pv 4)) (cw (cD B_Book.cl B_Book.n_chosen (ac (pv 0))) cF))) dh))))
 (ap (jw oo ot B_Book.cl B_Book.n_spent (ac (pv 0)) (ac (pv 3)))
 (ap (fN B_Book.cl B_Book.n_morning (ac (pv 0)) (cm (cx (sk T) (hr.mono (by decide)) rfl (ah (cD B_Book.cl B_Book.n_shop (ac (pv 0))) (ah (ac (pv 2)) (ah (ac (pv 1)) ce))))))
 (cq (fN B_Book.cl B_Book.n_chosen (ac (pv 0)) fv))))))))))
noncomputable def kY (C_Book:Addr):List Sl->Tr Re:=cO 1 5
 (am (eK (d7 (aj ie (cB C_Book "chosen" (aa 0)) (aC .none)))
  (am (iu C_Book "spent" (λi j=>i - j) (aa 0) (cg (cu gr (ae (cB C_Book "shop" (aa 0)) (ae (cB C_Book "morning" (aa 0)) (ae (cB C_Book "chosen" (aa 0)) b7))))))
 (am (fy C_Book "chosen" (aa 0) (aC .none))
 (dY (aC .none))))
  eB)
 (am (eK (fb (oO (cB C_Book "ended" (aa 0))))
  ml
  eB)
 (am (jC (gi (dS (gi (dS (cy 1) (dS (cy 2) (dS (cy 3) (dS (cy 4) fV))))) (dS (cy 5) fV))) (mj (cB C_Book "ended" (aa 0))))
 (am (iu C_Book "spent" (λi j=>i - j) (aa 0) (cg (cu gY (ae (cB C_Book "shop" (aa 0)) (ae (aa 2) (ae (aa 3) b7))))))
 (am (fy C_Book "morning" (aa 0) (aa 1))
 (fy C_Book "chosen" (aa 0) (aa 5)))))))
theorem ZmG (T:Txt K mg) {C_Book:Addr} (B_Book:OK_Book K mg C_Book):MCal (dW [P1,P2] (d8 cn)) P w K mg base C_Book "back" 3 ["self"] (kY C_Book):=kS B_Book.d_back gB rfl λf cdv A outer sh H E hr=>by
 exact (ap (eQ (eP jZ jH (cD B_Book.cl B_Book.n_chosen (ac (pv 0))) fv (nomark _))
 (ap (jw on oq B_Book.cl B_Book.n_spent (ac (pv 0)) (cm (cx (lh T) (hr.mono (by decide)) rfl (ah (cD B_Book.cl B_Book.n_shop (ac (pv 0))) (ah (cD B_Book.cl B_Book.n_morning (ac (pv 0))) (ah (cD B_Book.cl B_Book.n_chosen (ac (pv 0))) ce))))))
 (ap (fN B_Book.cl B_Book.n_chosen (ac (pv 0)) fv)
 (cq Zeb)))
  eF)
 (ap (eQ (fu (Zd3 (cD B_Book.cl B_Book.n_ended (ac (pv 0)))))
  (cq oF)
  eF)
 (ap (lj (iH (sN (nv PySem.F.plainAttrs_list PySem.F.slot_list_pop PySem.F.type_list_pop (MtR.cv qO) (cD B_Book.cl B_Book.n_ended (ac (pv 0))))) (iX rfl (eA (iX rfl (eA (dU (dQ (i:=1) gB.nd rfl (Or.inl rfl))) (eA (dU (dQ (i:=2) gB.nd rfl (Or.inl rfl))) (eA (dU (dQ (i:=3) gB.nd rfl (Or.inl rfl))) (eA (dU (dQ (i:=4) gB.nd rfl (Or.inl rfl))) iW)))) (et (et (et (et iS))))) (eA (dU (dQ (i:=5) gB.nd rfl (Or.inl rfl))) iW)) (et (et iS)))))
 (ap (jw on oq B_Book.cl B_Book.n_spent (ac (pv 0)) (cm (cx (oE T) (hr.mono (by decide)) rfl (ah (cD B_Book.cl B_Book.n_shop (ac (pv 0))) (ah (ac (pv 2)) (ah (ac (pv 3)) ce))))))
 (ap (fN B_Book.cl B_Book.n_morning (ac (pv 0)) (ac (pv 1)))
 (cq (fN B_Book.cl B_Book.n_chosen (ac (pv 0)) (ac (pv 5)))))))))
noncomputable def mJ (C_Book:Addr):List Sl->Tr (Option Re):=i5 1 5
 (iy (gO (eK (d7 (aj ie (cB C_Book "chosen" (aa 0)) (aC .none)))
  (am (iu C_Book "spent" (λi j=>i - j) (aa 0) (cg (cu gr (ae (cB C_Book "shop" (aa 0)) (ae (cB C_Book "morning" (aa 0)) (ae (cB C_Book "chosen" (aa 0)) b7))))))
 (am (fy C_Book "chosen" (aa 0) (aC .none))
 (dY (aC .none))))
  eB))
 (iy (kC (fb (oO (cB C_Book "ended" (aa 0)))) kB (gO eB))
 (gO (am (jC (gi (dS (gi (dS (cy 1) (dS (cy 2) (dS (cy 3) (dS (cy 4) fV))))) (dS (cy 5) fV))) (mj (cB C_Book "ended" (aa 0))))
 (am (iu C_Book "spent" (λi j=>i - j) (aa 0) (cg (cu gY (ae (cB C_Book "shop" (aa 0)) (ae (aa 2) (ae (aa 3) b7))))))
 (am (fy C_Book "morning" (aa 0) (aa 1))
 (fy C_Book "chosen" (aa 0) (aa 5))))))))
theorem Zme (T:Txt K mg) {C_Book:Addr} (B_Book:OK_Book K mg C_Book) {C:Addr} (hC:mg "NoBack"=some (.ref C)) (xc:Xcl K C iU "ValueError.__new__"):XMal (dW [P1,P2] (d8 cn)) P w K mg base C_Book "back" 3 ["self"] C (mJ C_Book):=pB B_Book.d_back gB rfl λf cdv A outer sh H E hr=>by
 exact (lx (Zez (eQ (eP jZ jH (cD B_Book.cl B_Book.n_chosen (ac (pv 0))) fv (nomark _))
 (ap (jw on oq B_Book.cl B_Book.n_spent (ac (pv 0)) (cm (cx (lh T) (hr.mono (by decide)) rfl (ah (cD B_Book.cl B_Book.n_shop (ac (pv 0))) (ah (cD B_Book.cl B_Book.n_morning (ac (pv 0))) (ah (cD B_Book.cl B_Book.n_chosen (ac (pv 0))) ce))))))
 (ap (fN B_Book.cl B_Book.n_chosen (ac (pv 0)) fv)
 (cq Zeb)))
  eF))
 (lx (mH (fu (Zd3 (cD B_Book.cl B_Book.n_ended (ac (pv 0))))) (mF (mG (nr F.excBase_ValueError xc rfl hC))) (jF eF))
 (jF (ap (lj (iH (sN (nv PySem.F.plainAttrs_list PySem.F.slot_list_pop PySem.F.type_list_pop (MtR.cv qO) (cD B_Book.cl B_Book.n_ended (ac (pv 0))))) (iX rfl (eA (iX rfl (eA (dU (dQ (i:=1) gB.nd rfl (Or.inl rfl))) (eA (dU (dQ (i:=2) gB.nd rfl (Or.inl rfl))) (eA (dU (dQ (i:=3) gB.nd rfl (Or.inl rfl))) (eA (dU (dQ (i:=4) gB.nd rfl (Or.inl rfl))) iW)))) (et (et (et (et iS))))) (eA (dU (dQ (i:=5) gB.nd rfl (Or.inl rfl))) iW)) (et (et iS)))))
 (ap (jw on oq B_Book.cl B_Book.n_spent (ac (pv 0)) (cm (cx (oE T) (hr.mono (by decide)) rfl (ah (cD B_Book.cl B_Book.n_shop (ac (pv 0))) (ah (ac (pv 2)) (ah (ac (pv 3)) ce))))))
 (ap (fN B_Book.cl B_Book.n_morning (ac (pv 0)) (ac (pv 1)))
 (cq (fN B_Book.cl B_Book.n_chosen (ac (pv 0)) (ac (pv 5))))))))))
noncomputable def qr:List Sl->Tr PyData :=
 (cg (cu nQ (eZ 1 b7)))
noncomputable def nO:List Sl->Tr Re:=cO 1 3
 (am (dP 1 (aj le (cg (cu ge (eZ 0 (ae (aC (.int 8)) b7)))) (aC (.int 7))))
 (am (dP 2 (cg (cu ge (eZ 0 (ae (aj dZ (fQ (gy (ao (aC (.int 6)) (ao (aC (.int 40)) cE)))) (gz kd (ao (aa 1) cE))) b7)))))
 (am (dP 3 (aj dZ (fQ (gy (ao (cg (cu ge (eZ 0 (ae (aC (.int 5)) b7)))) (ao (aj eV (aC (.int 39)) (aa 2)) cE)))) (gz kd (ao (aa 1) cE))))
 (dY (aj eI (ff (ao (aa 2) (ao (aa 3) cE))) (gz mQ (ao (fQ (oW (lq (ao (aC (.int 7)) cE)) 1 [0] (cy 0) qr)) cE)))))))
theorem Zmw (T:Txt K mg):ACal (dW [P1,P2] (d8 cn)) P w K mg base "_law_shop" 3 ["_law_pen_here"] nO:=fI T.Zl2 m9 rfl λf cdv A outer sh H E hr=>by
 exact (ap (dX (cC (i:=1) m9.nd rfl (Or.inl rfl) (Zen (qF hr) pH (cm (cx (gH T) (hr.mono (by decide)) rfl (fJ (pv 0) (ah cj ce)))) cj (nomark _))))
 (ap (dX (cC (i:=2) m9.nd rfl (Or.inl rfl) (cm (cx (gH T) (hr.mono (by decide)) rfl (fJ (pv 0) (ah (eR eO eN (gJ (g8 (cw cj (cw cj cF)))) (ir (t:=fi) (lH ZdJ rfl T.lS boot_int (cw (ac (pv 1)) cF)) Zak) (λ_ _=>rfl)) ce))))))
 (ap (dX (cC (i:=3) m9.nd rfl (Or.inl rfl) (eR eO eN (gJ (g8 (cw (cm (cx (gH T) (hr.mono (by decide)) rfl (fJ (pv 0) (ah cj ce)))) (cw (cA fD fA cj (ac (pv 2))) cF)))) (ir (t:=fi) (lH ZdJ rfl T.lS boot_int (cw (ac (pv 1)) cF)) Zak) (λ_ _=>rfl))))
 (cq (ek (cA fk fg (fH (cw (ac (pv 2)) (cw (ac (pv 3)) cF))) (ir (t:=fi) (lH Zmm rfl T.ZhR boot_tuple (cw (gJ (Zm3 (qy pf ["_law_k"] [0] rfl (oK (nu rfl T.nK (cw cj cF))) (λb=>(dU (dQ (i:=0) (show ((bN pf ["_law_k"] [0])).Nodup by decide +kernel) rfl (Or.inl rfl)))) (λb=>(cm (cx (Zmx T) (hr.mono (by decide)) rfl (fJ (pv 1) ce)))) rfl (show BlkOk pf (bZ qc) _ [0] from ⟨rfl,by decide +kernel,by decide +kernel,by decide +kernel,by decide +kernel⟩)) (kJ (by decide)))) cF)) ZeR)))))))
noncomputable def kX (C_Book:Addr):List Sl->Tr Re:=cO 2 0
 (am (eK (d7 (aj ie (cB C_Book "chosen" (aa 0)) (aC .none)))
  ml
  eB)
 (am (eK (fb (e9 (cg (cu h9 (ae (cB C_Book "shop" (aa 0)) (ae (cB C_Book "morning" (aa 0)) (ae (aa 1) b7)))))))
  ml
  eB)
 (am (fy C_Book "chosen" (aa 0) (aa 1))
 (iu C_Book "spent" (λi j=>i+j) (aa 0) (cg (cu gr (ae (cB C_Book "shop" (aa 0)) (ae (cB C_Book "morning" (aa 0)) (ae (aa 1) b7)))))))))
theorem ZdT (T:Txt K mg) {C_Book:Addr} (B_Book:OK_Book K mg C_Book):MCal (dW [P1,P2] (d8 cn)) P w K mg base C_Book "choose" 4 ["self","level"] (kX C_Book):=kS B_Book.d_choose ZaU rfl λf cdv A outer sh H E hr=>by
 exact (ap (eQ (eP jZ jH (cD B_Book.cl B_Book.n_chosen (ac (pv 0))) fv (nomark _))
 (cq oF)
 eF)
 (ap (eQ (fu (ft (cm (cx (ZdR T) (hr.mono (by decide)) rfl (ah (cD B_Book.cl B_Book.n_shop (ac (pv 0))) (ah (cD B_Book.cl B_Book.n_morning (ac (pv 0))) (ah (ac (pv 1)) ce)))))))
  (cq oF)
  eF)
 (ap (fN B_Book.cl B_Book.n_chosen (ac (pv 0)) (ac (pv 1)))
 (cq (jw oo ot B_Book.cl B_Book.n_spent (ac (pv 0)) (cm (cx (lh T) (hr.mono (by decide)) rfl (ah (cD B_Book.cl B_Book.n_shop (ac (pv 0))) (ah (cD B_Book.cl B_Book.n_morning (ac (pv 0))) (ah (ac (pv 1)) ce))))))))))
noncomputable def i8 (C_Book:Addr):List Sl->Tr (Option Re):=i5 2 0
 (iy (kC (d7 (aj ie (cB C_Book "chosen" (aa 0)) (aC .none))) kB (gO eB))
 (iy (kC (fb (e9 (cg (cu h9 (ae (cB C_Book "shop" (aa 0)) (ae (cB C_Book "morning" (aa 0)) (ae (aa 1) b7))))))) kB (gO eB))
 (gO (am (fy C_Book "chosen" (aa 0) (aa 1))
 (iu C_Book "spent" (λi j=>i+j) (aa 0) (cg (cu gr (ae (cB C_Book "shop" (aa 0)) (ae (cB C_Book "morning" (aa 0)) (ae (aa 1) b7))))))))))
theorem Zdt (T:Txt K mg) {C_Book:Addr} (B_Book:OK_Book K mg C_Book) {C:Addr} (hC:mg "NoLevel"=some (.ref C)) (xc:Xcl K C iU "ValueError.__new__"):XMal (dW [P1,P2] (d8 cn)) P w K mg base C_Book "choose" 4 ["self","level"] C (i8 C_Book):=pB B_Book.d_choose ZaU rfl λf cdv A outer sh H E hr=>by
 exact (lx (mH (eP jZ jH (cD B_Book.cl B_Book.n_chosen (ac (pv 0))) fv (nomark _)) (mF (mG (nr F.excBase_ValueError xc rfl hC))) (jF eF))
 (lx (mH (fu (ft (cm (cx (ZdR T) (hr.mono (by decide)) rfl (ah (cD B_Book.cl B_Book.n_shop (ac (pv 0))) (ah (cD B_Book.cl B_Book.n_morning (ac (pv 0))) (ah (ac (pv 1)) ce))))))) (mF (mG (nr F.excBase_ValueError xc rfl hC))) (jF eF))
 (jF (ap (fN B_Book.cl B_Book.n_chosen (ac (pv 0)) (ac (pv 1)))
 (cq (jw oo ot B_Book.cl B_Book.n_spent (ac (pv 0)) (cm (cx (lh T) (hr.mono (by decide)) rfl (ah (cD B_Book.cl B_Book.n_shop (ac (pv 0))) (ah (cD B_Book.cl B_Book.n_morning (ac (pv 0))) (ah (ac (pv 1)) ce)))))))))))
noncomputable def rj (C_Book:Addr):List Sl->Tr Ou :=
 (am (eK (d7 (aj le (cg (cu ge (eZ 0 (ae (aC (.int 2)) b7)))) (aC (.int 1))))
  (am (iZ "goal" (aa 4) (aj eI (eC "stock" (aa 4)) (cg (cu ge (eZ 0 (ae (aj eI (aj eV (aj dZ (aa 1) (aC (.int 0))) (eC "stock" (aa 4))) (aC (.int 1))) b7))))))
 (gM (cg (gL C_Book "choose" (kX C_Book) (aa 3) (ae (eC "goal" (aa 4)) b7)))))
  eB)
 (am (dP 6 (cg (cu ge (eZ 0 (ae (aC (.int 9)) b7)))))
 (am (gM (cg (cu j9 (ae (aa 4) (ae (aa 6) b7)))))
 (gM (cg (gL C_Book "fall" (ka C_Book) (aa 3) (ae (aa 6) b7)))))))
noncomputable def lW (C_Book:Addr):List Sl->Tr Re:=cO 1 6
 (am (dP 1 (cg (cu nO (eZ 0 b7))))
 (am (dP 2 (aj eV (cg (cu ge (eZ 0 (ae (aj eI (aj eI (aj dZ (aa 1) (aC (.int 0))) (aj dZ (aa 1) (aC (.int 1)))) (aC (.int 1))) b7)))) (aj dZ (aa 1) (aC (.int 1)))))
 (am (dP 3 (sV C_Book (lY C_Book) (ae (aa 1) (ae (aa 2) b7))))
 (am (dP 4 (cg (cu nT (ae (aa 1) (ae (aa 2) b7)))))
 (am (jB (lq (ao (cg (cu ge (eZ 0 (ae (aC (.int 5)) b7)))) cE)) (cy 5) (rj C_Book))
 (dY (ff (ao (aa 3) (ao (aa 4) cE)))))))))
theorem ZdQ (T:Txt K mg) {C_Book:Addr} (B_Book:OK_Book K mg C_Book):ACal (dW [P1,P2] (d8 cn)) P w K mg base "_law_begun" 5 ["_law_pen_here"] (lW C_Book):=fI T.Zmc jO rfl λf cdv A outer sh H E hr=>by
 exact (ap (dX (cC (i:=1) jO.nd rfl (Or.inl rfl) (cm (cx (Zmw T) (hr.mono (by decide)) rfl (fJ (pv 0) ce)))))
 (ap (dX (cC (i:=2) jO.nd rfl (Or.inl rfl) (cA fD fA (cm (cx (gH T) (hr.mono (by decide)) rfl (fJ (pv 0) (ah (cA fk fg (cA fk fg (eR eO eN (ac (pv 1)) cj (λ_ _=>rfl)) (eR eO eN (ac (pv 1)) cj (λ_ _=>rfl))) cj) ce)))) (eR eO eN (ac (pv 1)) cj (λ_ _=>rfl)))))
 (ap (dX (cC (i:=3) jO.nd rfl (Or.inl rfl) (Zm8 (ZmH T B_Book) (hr.mono (by decide)) rfl B_Book.nm (ah (ac (pv 1)) (ah (ac (pv 2)) ce)))))
 (ap (dX (cC (i:=4) jO.nd rfl (Or.inl rfl) (cm (cx (ZmB T) (hr.mono (by decide)) rfl (ah (ac (pv 1)) (ah (ac (pv 2)) ce))))))
 (ap (li PassesOwn.never rfl (oK (nu rfl T.nK (cw (cm (cx (gH T) (hr.mono (by decide)) rfl (fJ (pv 0) (ah cj ce)))) cF))) (dU (dQ (i:=5) jO.nd rfl (Or.inl rfl)))
  (ap (eQ (eP (qF hr) pH (cm (cx (gH T) (hr.mono (by decide)) rfl (fJ (pv 0) (ah cj ce)))) cj (nomark _))
  (ap (km (dR hr) (ac (pv 4)) (cA fk fg (eG (dR hr) (ac (pv 4))) (cm (cx (gH T) (hr.mono (by decide)) rfl (fJ (pv 0) (ah (cA fk fg (cA fD fA (eR eO eN (ac (pv 1)) cj (λ_ _=>rfl)) (eG (dR hr) (ac (pv 4)))) cj) ce))))))
 (cq (iq (cm (oH B_Book.cl (ZdT T B_Book) (hr.mono (by decide)) (ac (pv 3)) (ah (eG (dR hr) (ac (pv 4))) ce))))))
  eF)
 (ap (dX (cC (i:=6) jO.nd rfl (Or.inl rfl) (cm (cx (gH T) (hr.mono (by decide)) rfl (fJ (pv 0) (ah cj ce))))))
 (ap (iq (cm (cx (ZdP T) (hr.mono (by decide)) rfl (ah (ac (pv 4)) (ah (ac (pv 6)) ce)))))
 (cq (iq (cm (oH B_Book.cl (ZdS T B_Book) (hr.mono (by decide)) (ac (pv 3)) (ah (ac (pv 6)) ce)))))))))
 (cq (ek (fH (cw (ac (pv 3)) (cw (ac (pv 4)) cF))))))))))
theorem sr (T:Txt K mg) {D E_NoLevel E_NoFall E_NoBack E_NoRow E_NoText E_NoMean E_NoShare E_NoStand C:Addr} {os:List Addr} (R:Refs K mg D E_NoLevel E_NoFall E_NoBack E_NoRow E_NoText E_NoMean E_NoShare E_NoStand) (X:Exc K C D os) {b_NoLevel:Bool} (k_NoLevel:PySem.W.kitOne K (.ref C) (.ref E_NoLevel)=some b_NoLevel) {b_NoFall:Bool} (k_NoFall:PySem.W.kitOne K (.ref C) (.ref E_NoFall)=some b_NoFall) {b_NoBack:Bool} (k_NoBack:PySem.W.kitOne K (.ref C) (.ref E_NoBack)=some b_NoBack) {b_NoRow:Bool} (k_NoRow:PySem.W.kitOne K (.ref C) (.ref E_NoRow)=some b_NoRow) {b_NoText:Bool} (k_NoText:PySem.W.kitOne K (.ref C) (.ref E_NoText)=some b_NoText) {b_NoMean:Bool} (k_NoMean:PySem.W.kitOne K (.ref C) (.ref E_NoMean)=some b_NoMean) (N_NoShare:PySem.W.kitOne K (.ref C) (.ref E_NoShare)=some false) (N_NoStand:PySem.W.kitOne K (.ref C) (.ref E_NoStand)=some false) {j:Nat} {wd:Str} (hc:List.countP (· == true) [b_NoLevel,b_NoFall,b_NoBack,b_NoRow,b_NoText,b_NoMean,false,false]=1) (hj:[b_NoLevel,b_NoFall,b_NoBack,b_NoRow,b_NoText,b_NoMean,false,false][j]?=some true) (hno:∀ i,i < j->[b_NoLevel,b_NoFall,b_NoBack,b_NoRow,b_NoText,b_NoMean,false,false][i]?≠some true) (hj1:j < 1000) (hw:ez [V.str "level",V.str "fall",V.str "back",V.str "row",V.str "text",V.str "mean",V.str "other",V.str "other"] (j:Int)=some (.str wd)):Callee P w K mg base "_law_refusal" 6 ["_law_asked"] (lD P w K mg base 5 C wd):=by
 refine T.Zl3.ok jM (λvs H Q E h=>h.1) λf cdv A outer sh H vs Q E hr hsp=>?_
 obtain ⟨hv,fl,sp,Q0,E0,rfl,LP,hs,hQ0,hE0⟩:=hsp
 refine ⟨_,eX (cC (i:=1) jM.nd rfl (Or.inl rfl) Zb6)
  (eX (ZgQ (i:=2) (j:=0) (k:=5) rfl rfl jM.nd (hr.mono (by decide)) rfl (Or.inl rfl) X.un rfl R.hD rfl rfl (Or.inl rfl) (Or.inl rfl) (λea=>gT (cC (i:=1) jM.nd rfl (Or.inl rfl) (pv 2))))
  (eX (jX (ZgN (Zht (pv 1)) (nomark _)) (gT (gU fS)) kI)
  (eX (cC (i:=3) jM.nd rfl (Or.inl rfl) (jj (b9 (eE (lg X.ci F.attrBase_ValueError (by decide +kernel) jq) rfl T.fT rfl (b9 (pv 1) (b9 (iI (v:=.ref E_NoLevel) rfl R.h_NoLevel rfl) dh))) (b9 (eE (lg X.ci F.attrBase_ValueError (by decide +kernel) jq) rfl T.fT rfl (b9 (pv 1) (b9 (iI (v:=.ref E_NoFall) rfl R.h_NoFall rfl) dh))) (b9 (eE (lg X.ci F.attrBase_ValueError (by decide +kernel) jq) rfl T.fT rfl (b9 (pv 1) (b9 (iI (v:=.ref E_NoBack) rfl R.h_NoBack rfl) dh))) dh)))))
  (eX (cC (i:=3) jM.nd rfl (Or.inl rfl) (eJ qG (pv 3) (jj (b9 (eE (lg X.ci F.attrBase_ValueError (by decide +kernel) jq) rfl T.fT rfl (b9 (pv 1) (b9 (iI (v:=.ref E_NoRow) rfl R.h_NoRow rfl) dh))) (b9 (eE (lg X.ci F.attrBase_ValueError (by decide +kernel) jq) rfl T.fT rfl (b9 (pv 1) (b9 (iI (v:=.ref E_NoText) rfl R.h_NoText rfl) dh))) (b9 (eE (lg X.ci F.attrBase_ValueError (by decide +kernel) jq) rfl T.fT rfl (b9 (pv 1) (b9 (iI (v:=.ref E_NoMean) rfl R.h_NoMean rfl) dh))) dh))))))
  (eX (cC (i:=3) jM.nd rfl (Or.inl rfl) (eJ qG (pv 3) (jj (b9 (eE (Zmr X.ci F.attrBase_ValueError (by decide +kernel) jq) rfl T.fT rfl (b9 (pv 1) (b9 (Zb3 (b9 (iI (v:=.ref E_NoShare) rfl R.h_NoShare rfl) (b9 (iI (v:=.ref E_NoStand) rfl R.h_NoStand rfl) dh))) dh))) (b9 (Zb5 (eE (Zms X.ci F.attrBase_ValueError (by decide +kernel) jq) rfl T.fT rfl (b9 (pv 1) (b9 (jk (v:=.ty "ValueError") rfl T.ZhU ZmI rfl) dh)))) dh)))))
  (eX (jX (jW Zcf (kN PySem.F.plainAttrs_list PySem.F.slot_list_count PySem.F.type_list_count ZhY (pv 3) (b9 qz dh)) d9 (nomark _)) (gT (gU fS)) kI)
  (gT (gU (gW gZ (jj (b9 fS (b9 fS (b9 fS (b9 fS (b9 fS (b9 fS (b9 fS (b9 fS dh))))))))) (kN PySem.F.plainAttrs_list PySem.F.slot_list_index PySem.F.type_list_index ZhX (pv 3) (b9 qz dh)) (λ_ _=>rfl)))))))))),?_⟩
 refine ⟨fl,sp,Q0,E0,rfl,LP,hs,λv H' h=>?_,λcls t H' h=>?_⟩
 ·exact ⟨.non,rfl,true,congrArg V.bl (decide_eq_true rfl),hQ0 v H' h⟩
 ·obtain ⟨rfl,hn⟩:=hE0 cls t H' h
  refine ⟨rfl,λea hea=>⟨.ref ea,rfl,.ref ea,rfl,false,congrArg V.bl (decide_eq_false nofun),?_⟩⟩
  have k0:∀ b o,H' b=some o->upd H' ea (.ext (fR ea (.ref C))) b=some o:=λb o e=>fh e hea
  have a0:upd H' ea (.ext (fR ea (.ref C))) ea=some (.ext (fR ea (.ref C))):=cr
  generalize upd H' ea (.ext (fR ea (.ref C)))=H1 at k0 a0 ⊢
  refine ⟨.ref ea,rfl,ea,E_NoLevel,b_NoLevel,rfl,a0,k_NoLevel,.ref ea,rfl,ea,E_NoFall,b_NoFall,rfl,a0,k_NoFall,.ref ea,rfl,ea,E_NoBack,b_NoBack,rfl,a0,k_NoBack,by show 3<=sizeLine; decide,λl1 p1=>?_⟩
  have k1:∀ b o,H' b=some o->upd H1 l1 (.lst [.bl b_NoLevel,.bl b_NoFall,.bl b_NoBack]) b=some o:=λb o e=>fh (k0 b o e) p1
  have a1:upd H1 l1 (.lst [.bl b_NoLevel,.bl b_NoFall,.bl b_NoBack]) ea=_:=fh a0 p1
  have s1:upd H1 l1 (.lst [.bl b_NoLevel,.bl b_NoFall,.bl b_NoBack]) l1=_:=cr
  generalize upd H1 l1 (.lst [.bl b_NoLevel,.bl b_NoFall,.bl b_NoBack])=H2 at k1 a1 s1 ⊢
  refine ⟨.ref l1,rfl,.ref ea,rfl,ea,E_NoRow,b_NoRow,rfl,a1,k_NoRow,.ref ea,rfl,ea,E_NoText,b_NoText,rfl,a1,k_NoText,.ref ea,rfl,ea,E_NoMean,b_NoMean,rfl,a1,k_NoMean,by show 3<=sizeLine; decide,λl2 p2=>?_⟩
  have k2:∀ b o,H' b=some o->upd H2 l2 (.lst [.bl b_NoRow,.bl b_NoText,.bl b_NoMean]) b=some o:=λb o e=>fh (k1 b o e) p2
  have a2:upd H2 l2 (.lst [.bl b_NoRow,.bl b_NoText,.bl b_NoMean]) ea=_:=fh a1 p2
  have s2:upd H2 l2 (.lst [.bl b_NoRow,.bl b_NoText,.bl b_NoMean]) l2=_:=cr
  have t2:upd H2 l2 (.lst [.bl b_NoRow,.bl b_NoText,.bl b_NoMean]) l1=_:=fh s1 p2
  generalize upd H2 l2 (.lst [.bl b_NoRow,.bl b_NoText,.bl b_NoMean])=H3 at k2 a2 s2 t2 ⊢
  refine ⟨l1,l2,_,_,rfl,rfl,t2,s2,by show 6<=sizeLine; decide,λl3 p3=>?_⟩
  have k3:∀ b o,H' b=some o->upd H3 l3 (.lst ([.bl b_NoLevel,.bl b_NoFall,.bl b_NoBack]++[.bl b_NoRow,.bl b_NoText,.bl b_NoMean])) b=some o:=λb o e=>fh (k2 b o e) p3
  have a3:upd H3 l3 (.lst ([.bl b_NoLevel,.bl b_NoFall,.bl b_NoBack]++[.bl b_NoRow,.bl b_NoText,.bl b_NoMean])) ea=_:=fh a2 p3
  have s3:upd H3 l3 (.lst ([.bl b_NoLevel,.bl b_NoFall,.bl b_NoBack]++[.bl b_NoRow,.bl b_NoText,.bl b_NoMean])) l3=some (.lst [.bl b_NoLevel,.bl b_NoFall,.bl b_NoBack,.bl b_NoRow,.bl b_NoText,.bl b_NoMean]):=cr
  generalize upd H3 l3 (.lst ([.bl b_NoLevel,.bl b_NoFall,.bl b_NoBack]++[.bl b_NoRow,.bl b_NoText,.bl b_NoMean]))=H4 at k3 a3 s3 ⊢
  refine ⟨.ref l3,rfl,.ref ea,rfl,by show 2<=sizeLine; decide,λtp p4=>?_⟩
  have k4:∀ b o,H' b=some o->upd H4 tp (.tup [.ref E_NoShare,.ref E_NoStand]) b=some o:=λb o e=>fh (k3 b o e) p4
  have a4:upd H4 tp (.tup [.ref E_NoShare,.ref E_NoStand]) ea=_:=fh a3 p4
  have s4:upd H4 tp (.tup [.ref E_NoShare,.ref E_NoStand]) l3=_:=fh s3 p4
  have u4:upd H4 tp (.tup [.ref E_NoShare,.ref E_NoStand]) tp=_:=cr
  generalize upd H4 tp (.tup [.ref E_NoShare,.ref E_NoStand])=H5 at k4 a4 s4 u4 ⊢
  refine ⟨ea,tp,[E_NoShare,E_NoStand],false,rfl,a4,u4,Zit N_NoShare N_NoStand,?_⟩
  refine ⟨.ref ea,rfl,ea,"ValueError",true,rfl,a4,X.vt,true,rfl,by show 2<=sizeLine; decide,λl5 p5=>?_⟩
  have k5:∀ b o,H' b=some o->upd H5 l5 (.lst [.bl false,.bl (!true)]) b=some o:=λb o e=>fh (k4 b o e) p5
  have a5:upd H5 l5 (.lst [.bl false,.bl (!true)]) ea=_:=fh a4 p5
  have s5:upd H5 l5 (.lst [.bl false,.bl (!true)]) l5=some (.lst [.bl false,.bl false]):=cr
  have t5:upd H5 l5 (.lst [.bl false,.bl (!true)]) l3=_:=fh s4 p5
  generalize upd H5 l5 (.lst [.bl false,.bl (!true)])=H6 at k5 a5 s5 t5 ⊢
  refine ⟨l3,l5,_,_,rfl,rfl,t5,s5,by show 8<=sizeLine; decide,λl6 p6=>?_⟩
  have k6:∀ b o,H' b=some o->upd H6 l6 (.lst ([.bl b_NoLevel,.bl b_NoFall,.bl b_NoBack,.bl b_NoRow,.bl b_NoText,.bl b_NoMean]++[.bl false,.bl false])) b=some o:=λb o e=>fh (k5 b o e) p6
  have a6:upd H6 l6 (.lst ([.bl b_NoLevel,.bl b_NoFall,.bl b_NoBack,.bl b_NoRow,.bl b_NoText,.bl b_NoMean]++[.bl false,.bl false])) ea=_:=fh a5 p6
  have s6:upd H6 l6 (.lst ([.bl b_NoLevel,.bl b_NoFall,.bl b_NoBack,.bl b_NoRow,.bl b_NoText,.bl b_NoMean]++[.bl false,.bl false])) l6=some (.lst ([b_NoLevel,b_NoFall,b_NoBack,b_NoRow,b_NoText,b_NoMean,false,false].map V.bl)):=cr
  generalize upd H6 l6 (.lst ([.bl b_NoLevel,.bl b_NoFall,.bl b_NoBack,.bl b_NoRow,.bl b_NoText,.bl b_NoMean]++[.bl false,.bl false]))=H7 at k6 a6 s6 ⊢
  refine ⟨.ref l6,rfl,.inl ⟨rfl,_,SqL.of s6⟩,l6,_,true,rfl,rfl,s6,rfl,_,rfl,?_⟩
  refine ZiI (congrArg (λn:Nat=>V.int (n:Int)) hc) ?_
  refine ⟨by show 8<=sizeLine; decide,λl7 p7=>?_⟩
  have k7:∀ b o,H' b=some o->upd H7 l7 (.lst [.str "level",.str "fall",.str "back",.str "row",.str "text",.str "mean",.str "other",.str "other"]) b=some o:=λb o e=>fh (k6 b o e) p7
  have a7:upd H7 l7 (.lst [.str "level",.str "fall",.str "back",.str "row",.str "text",.str "mean",.str "other",.str "other"]) ea=_:=fh a6 p7
  have s7:upd H7 l7 (.lst [.str "level",.str "fall",.str "back",.str "row",.str "text",.str "mean",.str "other",.str "other"]) l6=_:=fh s6 p7
  have t7:upd H7 l7 (.lst [.str "level",.str "fall",.str "back",.str "row",.str "text",.str "mean",.str "other",.str "other"]) l7=_:=cr
  generalize upd H7 l7 (.lst [.str "level",.str "fall",.str "back",.str "row",.str "text",.str "mean",.str "other",.str "other"])=H8 at k7 a7 s7 t7 ⊢
  exact ⟨.ref l6,rfl,.inl ⟨rfl,_,SqL.of s7⟩,l6,_,true,j,rfl,rfl,s7,hj,hno,hj1,l7,_,_,.str wd,rfl,rfl,SqL.of t7,hw,hn _ k7⟩
theorem ZdM (T:Txt K mg) {D E_NoLevel E_NoFall E_NoBack E_NoRow E_NoText E_NoMean E_NoShare E_NoStand:Addr} (R:Refs K mg D E_NoLevel E_NoFall E_NoBack E_NoRow E_NoText E_NoMean E_NoShare E_NoStand):Callee P w K mg base "_law_refusal" 6 ["_law_asked"] (lD P w K mg base 5 E_NoLevel "level"):=by
 have X:=R.x_NoLevel
 exact sr T R X rp (eU X.any _ (by simp)) (eU X.any _ (by simp)) (eU X.any _ (by simp)) (eU X.any _ (by simp)) (eU X.any _ (by simp)) (eU X.any _ (by simp)) (eU X.any _ (by simp)) (j:=0) rfl rfl (λi hi=>by omega) (by decide) rfl
theorem ZdN (T:Txt K mg) {D E_NoLevel E_NoFall E_NoBack E_NoRow E_NoText E_NoMean E_NoShare E_NoStand:Addr} (R:Refs K mg D E_NoLevel E_NoFall E_NoBack E_NoRow E_NoText E_NoMean E_NoShare E_NoStand):Callee P w K mg base "_law_refusal" 6 ["_law_asked"] (lD P w K mg base 5 E_NoFall "fall"):=by
 have X:=R.x_NoFall
 exact sr T R X (eU X.any _ (by simp)) rp (eU X.any _ (by simp)) (eU X.any _ (by simp)) (eU X.any _ (by simp)) (eU X.any _ (by simp)) (eU X.any _ (by simp)) (eU X.any _ (by simp)) (j:=1) rfl rfl (λi hi=>by rcases (by omega:i=0) with rfl <;> exact nofun) (by decide) rfl
theorem ZdO (T:Txt K mg) {D E_NoLevel E_NoFall E_NoBack E_NoRow E_NoText E_NoMean E_NoShare E_NoStand:Addr} (R:Refs K mg D E_NoLevel E_NoFall E_NoBack E_NoRow E_NoText E_NoMean E_NoShare E_NoStand):Callee P w K mg base "_law_refusal" 6 ["_law_asked"] (lD P w K mg base 5 E_NoBack "back"):=by
 have X:=R.x_NoBack
 exact sr T R X (eU X.any _ (by simp)) (eU X.any _ (by simp)) rp (eU X.any _ (by simp)) (eU X.any _ (by simp)) (eU X.any _ (by simp)) (eU X.any _ (by simp)) (eU X.any _ (by simp)) (j:=2) rfl rfl (λi hi=>by rcases (by omega:i=0\/i=1) with rfl | rfl <;> exact nofun) (by decide) rfl
noncomputable def rh (C_Book:Addr):List Sl->Tr Ou :=
 (eK (gk (d7 (aj iL (kt [0,2] "level" (i9 C_Book "choose" (i8 C_Book) (aa 0) (ae (aa 1) b7))) (aC (.str "level")))) (fb (e9 (cg (cu (hZ C_Book) (ae (aa 0) (ae (aa 1) b7)))))))
  (dY (aC (.bool false)))
  eB)
noncomputable def rf (C_Book:Addr):List Sl->Tr Ou :=
 (eK (gk (d7 (aj iL (kt [0,2] "fall" (i9 C_Book "fall" (kA C_Book) (aa 0) (ae (aa 1) b7))) (aC (.str "fall")))) (fb (e9 (cg (cu (hZ C_Book) (ae (aa 0) (ae (aa 1) b7)))))))
  (dY (aC (.bool false)))
  eB)
noncomputable def kT (C_Book:Addr):List Sl->Tr Re:=cO 2 1
 (am (jB (lu (cg (cu nR (ae (eC "shop" (aa 1)) (ae (eC "stock" (aa 1)) b7))))) (cy 2) (rh C_Book))
 (am (jB (lu (cg (cu nS b7))) (cy 2) (rf C_Book))
 (dY (aC (.bool true)))))
theorem sm (T:Txt K mg) {C_Book:Addr} (B_Book:OK_Book K mg C_Book) {c1:Addr} (D1:DefK K mg "_law_refused_right" jh ["_law_book","_law_kept"] c1 P1) (BK:BltK base mg):ACal (dW [P1,P2] (d8 cn)) P w K mg base "_law_refused_right" 7 ["_law_book","_law_kept"] (kT C_Book):=by
 obtain ⟨D,E_NoLevel,E_NoFall,E_NoBack,E_NoRow,E_NoText,E_NoMean,E_NoShare,E_NoStand,R⟩:=T.Zad
 obtain ⟨gR_NoLevel,fdR_NoLevel,FR_NoLevel,hm_NoLevel,hk_NoLevel,hb_NoLevel⟩:=(ZdM (P:=P) (w:=w) (base:=base) T R).ex
 have hC_NoLevel:=R.h_NoLevel
 have xc_NoLevel:=R.x_NoLevel.cl
 obtain ⟨gR_NoFall,fdR_NoFall,FR_NoFall,hm_NoFall,hk_NoFall,hb_NoFall⟩:=(ZdN (P:=P) (w:=w) (base:=base) T R).ex
 have hC_NoFall:=R.h_NoFall
 have xc_NoFall:=R.x_NoFall.cl
 obtain ⟨gR_NoBack,fdR_NoBack,FR_NoBack,hm_NoBack,hk_NoBack,hb_NoBack⟩:=(ZdO (P:=P) (w:=w) (base:=base) T R).ex
 have hC_NoBack:=R.h_NoBack
 have xc_NoBack:=R.x_NoBack.cl
 refine Zeo D1 pW rfl λf A outer sh H E hr=>?_
 exact (ap (li PassesOwn.never rfl (oJ (cm (cx (Zmz T) (hr.mono (by decide)) rfl (ah (eG (dR hr) (ac (pv 1))) (ah (eG (dR hr) (ac (pv 1))) ce))))) (dU (dQ (i:=2) pW.nd rfl (Or.inr rfl)))
 (cq (eQ (g7 (gI (eP (lK hr) lz (oM (kk:=4) (P:=P1) (C:=E_NoLevel) (wd:="level") (λo G m h=>h.2 P1 (by simp)) (λ_=>rfl) D1.ck BK rfl FR_NoLevel (hr.mono (by decide)) rfl hm_NoLevel hk_NoLevel hb_NoLevel (show LamD tu (bZ jh) _ ["_law_book","_law_thing"] [0,2] from ⟨rfl,rfl,rfl,by decide +kernel,by decide +kernel,by decide +kernel,by decide +kernel,by decide +kernel⟩) (λcl q f c A outer s H E hr=>(pD B_Book.cl (Zdt T B_Book hC_NoLevel xc_NoLevel) (hr.mono (by decide)) ny (ac (pv 0)) (ah (ac (pv 1)) ce)))) iY (nomark _)) (ip (fu (ft (cm (cx (kl T B_Book) (hr.mono (by decide)) rfl (ah (ac (pv 0)) (ah (ac (pv 1)) ce)))))))))
 (cq (ek fw))
 eF)))
 (ap (li PassesOwn.never rfl (oJ (cm (ZmY (ZmA T) (hr.mono (by decide)) rfl))) (dU (dQ (i:=2) pW.nd rfl (Or.inr rfl)))
  (cq (eQ (g7 (gI (eP (lK hr) lz (oM (kk:=4) (P:=P1) (C:=E_NoFall) (wd:="fall") (λo G m h=>h.2 P1 (by simp)) (λ_=>rfl) D1.ck BK rfl FR_NoFall (hr.mono (by decide)) rfl hm_NoFall hk_NoFall hb_NoFall (show LamD tu (bZ jh) _ ["_law_book","_law_thing"] [0,2] from ⟨rfl,rfl,rfl,by decide +kernel,by decide +kernel,by decide +kernel,by decide +kernel,by decide +kernel⟩) (λcl q f c A outer s H E hr=>(pD B_Book.cl (Zmd T B_Book hC_NoFall xc_NoFall) (hr.mono (by decide)) ny (ac (pv 0)) (ah (ac (pv 1)) ce)))) iY (nomark _)) (ip (fu (ft (cm (cx (kl T B_Book) (hr.mono (by decide)) rfl (ah (ac (pv 0)) (ah (ac (pv 1)) ce)))))))))
  (cq (ek fw))
  eF)))
 (cq (ek fw))))
noncomputable def l4 (C_Book:Addr):List Sl->Tr Ou :=
 (eK (gk (d7 (aj iL (kt [1,6] "level" (i9 C_Book "choose" (i8 C_Book) (aa 0) (ae (aa 1) b7))) (aC (.str "level")))) (fb (e9 (cg (cu (hZ C_Book) (ae (aa 1) (ae (aa 2) b7)))))))
  (dY (aC (.bool false)))
  eB)
noncomputable def mL (C_Book:Addr):List Sl->Tr Bool :=
 (e9 (cg (cu jp (ae (aa 2) b7))))
noncomputable def re (C_Book:Addr):List Sl->Tr Ou :=
 (gM (cg (gL C_Book "back" (kY C_Book) (aa 1) b7)))
noncomputable def ra (C_Book:Addr):List Sl->Tr Ou :=
 (eK (gk (d7 (aj iL (kt [1] "back" (i9 C_Book "back" (mJ C_Book) (aa 0) b7)) (aC (.str "back")))) (fb (e9 (cg (cu (hZ C_Book) (ae (aa 1) (ae (aa 2) b7)))))))
  (dY (aC (.bool false)))
  eB)
noncomputable def lV (C_Book:Addr):List Sl->Tr Re:=cO 3 5
 (am (dP 3 (aj dZ (eC "shop" (aa 2)) (aC (.int 0))))
 (am (dP 4 (eC "stock" (aa 2)))
 (am (eK (fb (e9 (cg (cu (kT C_Book) (ae (aa 1) (ae (aa 2) b7))))))
  (dY (aC (.bool false)))
  eB)
 (am (dP 5 (aj eI (aa 4) (cg (cu ge (eZ 0 (ae (aj eI (aj eV (aa 3) (aa 4)) (aC (.int 1))) b7))))))
 (am (gM (cg (gL C_Book "choose" (kX C_Book) (aa 1) (ae (aa 5) b7))))
 (am (iZ "goal" (aa 2) (aa 5))
 (am (jB (lu (ff (ao (aa 5) (ao (aa 4) (ao (aa 3) cE))))) (cy 6) (l4 C_Book))
 (am (eK (fb (e9 (cg (cu (kT C_Book) (ae (aa 1) (ae (aa 2) b7))))))
  (dY (aC (.bool false)))
  eB)
 (am (gM (cg (gL C_Book "fall" (ka C_Book) (aa 1) (ae (aC (.int 3)) b7))))
 (am (gM (cg (cu j9 (ae (aa 2) (ae (aC (.int 3)) b7)))))
 (am (eK (fb (e9 (cg (cu (hZ C_Book) (ae (aa 1) (ae (aa 2) b7))))))
  (dY (aC (.bool false)))
  eB)
 (am (hV (mL C_Book) (re C_Book) 100000)
 (am (jB (lq (ao (aC (.int 2)) cE)) (cy 7) (ra C_Book))
 (oQ (cu (kT C_Book) (ae (aa 1) (ae (aa 2) b7)))))))))))))))))
theorem ZdL (T:Txt K mg) {C_Book:Addr} (B_Book:OK_Book K mg C_Book) {c1:Addr} (D1:DefK K mg "_law_refused_right" jh ["_law_book","_law_kept"] c1 P1) {c2:Addr} (D2:DefK K mg "_law_right" jQ ["_law_pen_here","_law_book","_law_kept"] c2 P2) (BK:BltK base mg):ACal (dW [P1,P2] (d8 cn)) P w K mg base "_law_right" 8 ["_law_pen_here","_law_book","_law_kept"] (lV C_Book):=by
 obtain ⟨D,E_NoLevel,E_NoFall,E_NoBack,E_NoRow,E_NoText,E_NoMean,E_NoShare,E_NoStand,R⟩:=T.Zad
 obtain ⟨gR_NoLevel,fdR_NoLevel,FR_NoLevel,hm_NoLevel,hk_NoLevel,hb_NoLevel⟩:=(ZdM (P:=P) (w:=w) (base:=base) T R).ex
 have hC_NoLevel:=R.h_NoLevel
 have xc_NoLevel:=R.x_NoLevel.cl
 obtain ⟨gR_NoFall,fdR_NoFall,FR_NoFall,hm_NoFall,hk_NoFall,hb_NoFall⟩:=(ZdN (P:=P) (w:=w) (base:=base) T R).ex
 have hC_NoFall:=R.h_NoFall
 have xc_NoFall:=R.x_NoFall.cl
 obtain ⟨gR_NoBack,fdR_NoBack,FR_NoBack,hm_NoBack,hk_NoBack,hb_NoBack⟩:=(ZdO (P:=P) (w:=w) (base:=base) T R).ex
 have hC_NoBack:=R.h_NoBack
 have xc_NoBack:=R.x_NoBack.cl
 refine Zeo D2 kF rfl λf A outer sh H E hr=>?_
 exact (ap (dX (cC (i:=3) kF.nd rfl (Or.inl rfl) (eR eO eN (eG (dR hr) (ac (pv 2))) cj (λ_ _=>rfl))))
 (ap (dX (cC (i:=4) kF.nd rfl (Or.inl rfl) (eG (dR hr) (ac (pv 2)))))
 (ap (eQ (fu (ft (cm (cx (sm T B_Book D1 BK) (hr.mono (by decide)) rfl (ah (ac (pv 1)) (ah (ac (pv 2)) ce))))))
  (cq (ek fw))
  eF)
 (ap (dX (cC (i:=5) kF.nd rfl (Or.inl rfl) (cA fk fg (ac (pv 4)) (cm (cx (gH T) (hr.mono (by decide)) rfl (fJ (pv 0) (ah (cA fk fg (cA fD fA (ac (pv 3)) (ac (pv 4))) cj) ce)))))))
 (ap (iq (cm (oH B_Book.cl (ZdT T B_Book) (hr.mono (by decide)) (ac (pv 1)) (ah (ac (pv 5)) ce))))
 (ap (km (dR hr) (ac (pv 2)) (ac (pv 5)))
 (ap (li PassesOwn.never rfl (oJ (fH (cw (ac (pv 5)) (cw (ac (pv 4)) (cw (ac (pv 3)) cF))))) (dU (dQ (i:=6) kF.nd rfl (Or.inr rfl)))
  (cq (eQ (g7 (gI (eP (lK hr) lz (oM (kk:=4) (P:=P2) (C:=E_NoLevel) (wd:="level") (λo G m h=>h.2 P2 (by simp)) (λ_=>rfl) D2.ck BK rfl FR_NoLevel (hr.mono (by decide)) rfl hm_NoLevel hk_NoLevel hb_NoLevel (show LamD tq (bZ jQ) _ ["_law_book","_law_other"] [1,6] from ⟨rfl,rfl,rfl,by decide +kernel,by decide +kernel,by decide +kernel,by decide +kernel,by decide +kernel⟩) (λcl q f c A outer s H E hr=>(pD B_Book.cl (Zdt T B_Book hC_NoLevel xc_NoLevel) (hr.mono (by decide)) ny (ac (pv 0)) (ah (ac (pv 1)) ce)))) iY (nomark _)) (ip (fu (ft (cm (cx (kl T B_Book) (hr.mono (by decide)) rfl (ah (ac (pv 1)) (ah (ac (pv 2)) ce)))))))))
  (cq (ek fw))
  eF)))
 (ap (eQ (fu (ft (cm (cx (sm T B_Book D1 BK) (hr.mono (by decide)) rfl (ah (ac (pv 1)) (ah (ac (pv 2)) ce))))))
  (cq (ek fw))
  eF)
 (ap (iq (cm (oH B_Book.cl (ZdS T B_Book) (hr.mono (by decide)) (ac (pv 1)) (ah cj ce))))
 (ap (iq (cm (cx (ZdP T) (hr.mono (by decide)) rfl (ah (ac (pv 2)) (ah cj ce)))))
 (ap (eQ (fu (ft (cm (cx (kl T B_Book) (hr.mono (by decide)) rfl (ah (ac (pv 1)) (ah (ac (pv 2)) ce))))))
  (cq (ek fw))
  eF)
 (ap (ZmS 100000 PassesOwn.never (ft (cm (cx (Zmu T) (hr.mono (by decide)) rfl (ah (ac (pv 2)) ce))))
  (cq (iq (cm (oG B_Book.cl (ZmG T B_Book) (hr.mono (by decide)) (ac (pv 1)))))))
 (ap (li PassesOwn.never rfl (oK (nu rfl T.nK (cw cj cF))) (dU (dQ (i:=7) kF.nd rfl (Or.inl rfl)))
  (cq (eQ (g7 (gI (eP (lK hr) lz (oM (kk:=4) (P:=P2) (C:=E_NoBack) (wd:="back") (λo G m h=>h.2 P2 (by simp)) (λ_=>rfl) D2.ck BK rfl FR_NoBack (hr.mono (by decide)) rfl hm_NoBack hk_NoBack hb_NoBack (show LamD tq (bZ jQ) _ ["_law_book"] [1] from ⟨rfl,rfl,rfl,by decide +kernel,by decide +kernel,by decide +kernel,by decide +kernel,by decide +kernel⟩) (λcl q f c A outer s H E hr=>(ZeA B_Book.cl (Zme T B_Book hC_NoBack xc_NoBack) (hr.mono (by decide)) ny (ac (pv 0))))) iY (nomark _)) (ip (fu (ft (cm (cx (kl T B_Book) (hr.mono (by decide)) rfl (ah (ac (pv 1)) (ah (ac (pv 2)) ce)))))))))
  (cq (ek fw))
  eF)))
 (cq (Zea (cx (sm T B_Book D1 BK) (hr.mono (by decide)) rfl (ah (ac (pv 1)) (ah (ac (pv 2)) ce))))))))))))))))))
noncomputable def lX (C_Book:Addr):List Sl->Tr Ou :=
 (am (jC (gi (dS (cy 2) (dS (cy 3) fV))) (cg (cu (lW C_Book) (eZ 1 b7))))
 (am (jC (gi (dS (cy 4) (dS (cy 5) fV))) (cg (cu (lW C_Book) (eZ 1 b7))))
 (am (eK (gk (fb (e9 (cg (cu (lV C_Book) (eZ 1 (ae (aa 2) (ae (aa 3) b7))))))) (fb (e9 (cg (cu (hZ C_Book) (ae (aa 4) (ae (aa 5) b7)))))))
  (dY (aC (.bool false)))
  eB)
 (dY (ky (cg (cu (lV C_Book) (eZ 1 (ae (aa 4) (ae (aa 5) b7))))) (cg (cu (hZ C_Book) (ae (aa 2) (ae (aa 3) b7)))))))))
noncomputable abbrev oa:List Sl:=.un::.pen::List.replicate 4 .un
theorem ZhF (T:Txt K mg) {C_Book:Addr} (B_Book:OK_Book K mg C_Book) {c1:Addr} (D1:DefK K mg "_law_refused_right" jh ["_law_book","_law_kept"] c1 P1) {c2:Addr} (D2:DefK K mg "_law_right" jQ ["_law_pen_here","_law_book","_law_kept"] c2 P2) (BK:BltK base mg) {f:Addr} {fd:FuncData} (Fl:Fun K "law" "law" qa f fd) (hl:(lX C_Book oa).ok 0 λ_ o=>o=.ret (.d (.bool true))):FnOk P w K mg base eS 9 f fd ["_law_script"] (jL [P1,P2] K):=by
 refine Fl.ok kE (λvs H Q E h=>?_) (λcdv A outer s H vs Q E hr h=>?_)
 ·obtain ⟨a,ns,rfl,_⟩:=h
  rfl
 ·obtain ⟨a,ns,rfl,hS,hlen,hT,k⟩:=h
  have hu:=dR hr
  refine ⟨_,(eX (cC (i:=1) kE.nd rfl (Or.inl rfl) (Zca (ZhE T) (hr.mono (by decide)) rfl (b9 (pv 0) dh)))
 (ZgO (t:=λcn=>cP (dW [P1,P2] (d8 cn)) (lX C_Book)) λcn=>by
   exact (ap (lj (iH (cm (cx (ZdQ T B_Book) (hr.mono (by decide)) rfl (fJ (pv 1) ce))) (iX rfl (eA (dU (dQ (i:=2) kE.nd rfl (Or.inl rfl))) (eA (dU (dQ (i:=3) kE.nd rfl (Or.inl rfl))) iW)) (et (et iS)))))
 (ap (lj (iH (cm (cx (ZdQ T B_Book) (hr.mono (by decide)) rfl (fJ (pv 1) ce))) (iX rfl (eA (dU (dQ (i:=4) kE.nd rfl (Or.inl rfl))) (eA (dU (dQ (i:=5) kE.nd rfl (Or.inl rfl))) iW)) (et (et iS)))))
 (ap (eQ (g7 (gI (fu (ft (cm (cx (ZdL T B_Book D1 D2 BK) (hr.mono (by decide)) rfl (fJ (pv 1) (ah (ac (pv 2)) (ah (ac (pv 3)) ce))))))) (ip (fu (ft (cm (cx (kl T B_Book) (hr.mono (by decide)) rfl (ah (ac (pv 4)) (ah (ac (pv 5)) ce)))))))))
  (cq (ek fw))
  eF)
 (cq (ek (mf (cm (cx (ZdL T B_Book D1 D2 BK) (hr.mono (by decide)) rfl (fJ (pv 1) (ah (ac (pv 4)) (ah (ac (pv 5)) ce))))) (oN (cm (cx (kl T B_Book) (hr.mono (by decide)) rfl (ah (ac (pv 2)) (ah (ac (pv 3)) ce))))))))))))),?_⟩
  refine ⟨_,rfl,a,ns,rfl,hS,hlen,λp c H' hp hP hs=>?_⟩
  exact Zim (n:=4) hP (λt ht=>hs _ _ (hT t ht)) rfl rfl (λH' q=>k H' q) hl
end
end My
namespace My
open PySem PySem.Spec PyProof.Rows L2 Tw
theorem ig:ij .none=true:=rfl
theorem iR (n:Int):ij (.int n)=false:=rfl
noncomputable def oD:Option Int->PyData
 | none=>.none
 | some n=>.int n
structure Dy where
 st:Int
 lv:Int
 fl:Int
 co:Int
 gl:Option Int
noncomputable def Dy.t (y:Dy):PyData:=.tuple [.int y.st,.int y.lv,.int y.fl,.int y.co]
noncomputable def Dy.e (y:Dy):PyData:=.tuple [y.t,oD y.gl]
noncomputable def Dy.k (y:Dy):PyData:=.tuple [.int y.st,.int y.lv,.int y.fl,.int y.co,oD y.gl]
structure Qs where
 st:Int
 gl:Option Int
 ds:List Dy
noncomputable def Qs.lv (q:Qs):Int:=q.gl.getD q.st
noncomputable def lJ (s:Shp) (x:Int):Option Int->Int
 | none=>0
 | some g=>s.ord x g
noncomputable def Qs.pd (s:Shp) (q:Qs):Int:=(q.ds.map (·.co)).sum+lJ s q.st q.gl
noncomputable def Qs.fall (s:Shp) (q:Qs) (f:Int):Qs:=⟨s.nx q.lv f,none,q.ds++[⟨q.st,q.lv,f,s.ord q.st q.lv+s.day q.lv f,q.gl⟩]⟩
structure BkOk (C:Addr) (st:Sto) (b l:Addr) (s:Shp) (q:Qs):Prop where
 at_:st.get b=some (.ins C (eu s.d (.int q.st) (oD q.gl) (.int (q.pd s)) (af l)))
 ls:st.get l=some (.lst (q.ds.map Dy.e))
structure KpOk (st:Sto) (k d:Addr) (s:Shp) (q:Qs):Prop where
 at_:st.get k=some (.dct (eL s.d (.int q.st) (oD q.gl) (af d)))
 ls:st.get d=some (.lst (q.ds.map Dy.k))
structure DyOk (s:Shp) (y:Dy):Prop where
 s0:-s.depth<=y.st
 s1:y.st<=y.lv
 s2:y.lv<=s.top
 g:y.gl=none/\y.lv=y.st\/y.gl=some y.lv
 f0:0<=y.fl
 f1:y.fl < 20000000000000000000000000000
 co:y.co=s.ord y.st y.lv+s.day y.lv y.fl
structure QOk (s:Shp) (q:Qs) (n:Nat):Prop where
 s0:-s.depth<=q.st
 s1:q.st<=s.top
 g:∀ g,q.gl=some g->q.st<=g/\g<=s.top
 ds:∀ y∈q.ds,DyOk s y
 len:q.ds.length<=n
theorem Zcd (s:Shp) (x:Int):s.ord x x=0:=by unfold Shp.ord; rw [if_pos (Int.le_refl _)]
section
variable {s:Shp} {q:Qs} {n:Nat}
theorem QOk.lv0 (w:QOk s q n):q.st<=q.lv/\q.lv<=s.top:=by
 have h0:=w.s1
 unfold Qs.lv
 cases e:q.gl with
 | none=>exact ⟨Int.le_refl _,h0⟩
 | some g=>exact w.g g e
theorem QOk.nbs (h:s.Ok) (w:QOk s q n):nb 20 q.st/\nb 20 q.lv:=by
 have:=w.s0
 have:=w.s1
 have:=w.lv0
 have:=h.t0
 have:=h.d0
 have:=h.td
 exact ⟨gm (by show -1048576 < _; omega) (by show _ < 1048576; omega),gm (by show -1048576 < _; omega) (by show _ < 1048576; omega)⟩
theorem nI {f:Int} (f0:0<=f) (f1:f < 20000000000000000000000000000):nb 100 f:=gm (by show -1267650600228229401496703205376 < _; omega) (by show _ < 1267650600228229401496703205376; omega)
theorem QOk.fall (h:s.Ok) (w:QOk s q n) {f:Int} (f0:0<=f) (f1:f < 20000000000000000000000000000):QOk s (q.fall s f) (n+1):=by
 have hl:=w.lv0
 refine ⟨Zck _ _ _,Zcj h hl.2 f0,λg e=>(by cases e),λy hy=>?_,?_⟩
 ·rcases List.mem_append.mp hy with hy | hy
  ·exact w.ds y hy
  ·rw [List.mem_singleton] at hy
   subst hy
   refine ⟨w.s0,hl.1,hl.2,?_,f0,f1,rfl⟩
   unfold Qs.lv
   cases e:q.gl with
   | none=>exact .inl ⟨rfl,rfl⟩
   | some g=>exact .inr rfl
 ·show (q.ds++[_]).length<=n+1
  rw [List.length_append,List.length_singleton]
  exact Nat.succ_le_succ w.len
theorem QOk.goal (w:QOk s q n) {y:Int} (h1:q.st<=y) (h2:y<=s.top):QOk s ⟨q.st,some y,q.ds⟩ n:=⟨w.s0,w.s1,λg e=>(by cases e; exact ⟨h1,h2⟩),w.ds,w.len⟩
theorem QOk.mono {m:Nat} (w:QOk s q n) (h:n<=m):QOk s q m:=⟨w.s0,w.s1,w.g,w.ds,Nat.le_trans w.len h⟩
theorem QOk.nogoal (w:QOk s q n):QOk s ⟨q.st,none,q.ds⟩ n:=⟨w.s0,w.s1,λg e=>(by cases e),w.ds,w.len⟩
theorem QOk.back {x:Int} {y:Dy} {ds:List Dy} (w:QOk s ⟨x,none,ds++[y]⟩ n):QOk s ⟨y.st,y.gl,ds⟩ (n - 1):=by
 have hy:=w.ds y (by simp)
 have:=hy.s0
 have:=hy.s1
 have:=hy.s2
 refine ⟨hy.s0,by show y.st<=s.top; omega,λg e=>?_,λz hz=>w.ds z (by simp [hz]),?_⟩
 ·rcases hy.g with ⟨e1,_⟩ | e1
  ·rw [e1] at e; cases e
  ·rw [e1] at e
   cases e
   exact ⟨hy.s1,hy.s2⟩
 ·have:=w.len
  show ds.length<=n - 1
  simp at this
  omega
theorem Zcb (s:Shp) (x:Int) (ds:List Dy) (y:Int):(Qs.mk x none ds).pd s+s.ord x y=(Qs.mk x (some y) ds).pd s:=by
 unfold Qs.pd lJ
 simp
theorem Zhr (s:Shp) (q:Qs) (f:Int):q.pd s+s.day q.lv f=(q.fall s f).pd s:=by
 unfold Qs.pd Qs.fall lJ Qs.lv
 cases q.gl with
 | none=>simp [Zcd]
 | some g=>simp; omega
theorem Zhs (s:Shp) {x:Int} {ds:List Dy} {y:Dy} (h:DyOk s y):(Qs.mk x none (ds++[y])).pd s - s.day y.lv y.fl=(Qs.mk y.st y.gl ds).pd s:=by
 unfold Qs.pd lJ
 have hc:=h.co
 rcases h.g with ⟨e1,e2⟩ | e1
 ·rw [e1]
  rw [e2,Zcd] at hc
  simp [hc,e2]
 ·rw [e1]
  simp [hc]
  omega
end
theorem Zgp {s:Shp} (h:s.Ok) {y:Dy} (w:DyOk s y):Rp y.t 1 8000:=by
 have t0:=h.t0
 have d0:=h.d0
 have td:=h.td
 have s0:=w.s0
 have s1:=w.s1
 have s2:=w.s2
 have n1:nb 20 y.st:=gm (by show -1048576 < _; omega) (by show _ < 1048576; omega)
 have n2:nb 20 y.lv:=gm (by show -1048576 < _; omega) (by show _ < 1048576; omega)
 have n3:=nI w.f0 w.f1
 have n5:nb 8 (s.nx y.lv y.fl):=Zci h (by omega) w.s2 w.f0
 have n6:nb 200 (s.day y.lv y.fl):=by
  unfold Shp.day
  refine gb (nJ (lR (gb (nG h.keep n5) (by decide:45+8<=60)) (gb (nG h.lack (nF n5)) (by decide))) (nG h.lost (gD n5 (gD n2 n3)))) (by decide)
 have n7:nb 100 (s.ord y.st y.lv):=by
  unfold Shp.ord
  refine lR (gm (by decide) (by decide)) (gb (nJ h.start (nG h.piece (gD n2 n1))) (by decide))
 have n4:nb 300 y.co:=by rw [w.co]; exact gb (nJ n7 n6) (by decide)
 refine Zbm (Zgl (k:=0) (n:=1901) (xs:=[.int y.st,.int y.lv,.int y.fl,.int y.co]) λx hx=>?_) (Nat.le_refl _) (by show 4 * 1901+2 * 4+10<=8000; decide)
 simp only [List.mem_cons,List.not_mem_nil,or_false] at hx
 rcases hx with rfl | rfl | rfl | rfl
 ·exact nh (gb n1 (by decide))
 ·exact nh (gb n2 (by decide))
 ·exact nh (gb n3 (by decide))
 ·exact nh (gb n4 (by decide))
theorem Zgo {s:Shp} (h:s.Ok) {ds:List Dy} (w:∀ y∈ds,DyOk s y) (hl:ds.length<=1000):iF (.list (ds.map Dy.t))=true:=by
 refine Zgm (k:=2) (n:=9000000) (Zbm (Zgn (k:=1) (n:=8000) λx hx=>?_) (Nat.le_refl _) ?_) (by decide) (by decide)
 ·obtain ⟨y,hy,rfl⟩:=List.mem_map.mp hx
  exact Zgp h (w y hy)
 ·rw [List.length_map]
  omega
end My
local macro_rules | `(tactic| simp_arith only [$ls,*] $[$loc]?) => do let b : Lean.TSyntaxArray ``Lean.Parser.Tactic.simpLemma ← (("L2.Zjn L2.Zjm L2.Zlp L2.Zk4 L2.Zk3 L2.Zli L2.Zlg L2.Zlh L2.Zjv L2.ZkU L2.ZkO L2.Zc8 L2.Zky L2.Zkw L2.Zks L2.jv L2.sD L2.sC L2.sB L2.Zd8 L2.Zd7 L2.Zd6 L2.Zd5 L2.Zkd L2.Zkc L2.Zju L2.Zjr L2.Zjt L2.Zjs L2.Zlf L2.Zj5 L2.Zka L2.Zld L2.Zle L2.Zj3 L2.Zj4 L2.Zj9 L2.Zlc L2.Zj8 L2.Zla L2.Zlb L2.Zj7 L2.ZkI L2.ZkG L2.ZkH L2.ZkV L2.Zk0 L2.ZkZ L2.ZkY L2.ZkW L2.ZkX L2.Zkb L2.ZkT L2.ZkS L2.ZkR L2.Zjq L2.Zjp L2.Zkh L2.Zkg L2.Zkj L2.Zki L2.jd L2.Zk1 L2.Zkf L2.Zkz L2.Zjo L2.Zc5 L2.Zkx L2.rR L2.ZjA L2.Zjz L2.Zjy L2.Zjx L2.Zj0 L2.ZjZ L2.ZjY L2.Zll L2.Zlm L2.Zlo L2.Zln L2.ZjX L2.ZjW L2.Zlk L2.Zlj L2.Zk2 L2.ZjV L2.ZjU L2.ZkP L2.ZkN L2.ZkM L2.Zc6 L2.ZjH L2.ZjG L2.ZjB L2.ZkC L2.ZkA L2.ZkB L2.ZjS L2.ZjR L2.ZjQ L2.ZjP L2.ZjO L2.ZjN L2.ZjM L2.ZjL L2.ZjF L2.ZjE L2.ZjD L2.ZjC L2.Zh8 L2.Zh7 L2.Zj2 L2.Zj1 L2.Zk9 L2.Zk8 L2.Zk7 L2.ZjK L2.ZjJ L2.Zk6 L2.Zk5 L2.Zj6 L2.Zi5 L2.Zi3 L2.Zi6 L2.Zi7 L2.Zi4 L2.Zkv L2.Zku L2.Zkt L2.ZjI L2.ZkL L2.ZkK L2.Zc1 L2.ZkJ L2.rS L2.Zkr L2.Zkq L2.Zkp L2.Zkl L2.Zkk L2.Zkm L2.Zko L2.Zkn L2.ZkD L2.ZkF L2.ZkE Tw.ZfP Tw.ZfO Tw.ZfN Tw.ZfM Tw.ZfL Tw.ZfK Tw.ZfJ L2.ZkQ L2.Zke L2.rb2 L2.Tr.of_some List.cons_append List.nil_append List.replicate_succ List.replicate_zero List.length_cons List.length_nil L2.Re.val_d L2.Re.val_own L2.blk L2.sv List.map_cons List.map_nil List.getElem?_cons_zero List.getElem?_cons_succ Option.getD_some Nat.reduceAdd Nat.reduceLeDiff List.isEmpty_cons".splitOn " ").toArray.map fun s => Lean.mkIdent s.toName).mapM fun i => `(Lean.Parser.Tactic.simpLemma| $i:ident); `(tactic| simp -implicitDefEqProofs only [$b,*, $ls,*] $[$loc]?)
namespace My
open PySem PySem.Spec PyProof.Rows L2 Tw
theorem Zdc (s:Shp) (y f:Int):jn [.d s.d,.d (.int y),.d (.int f)]=.ret (.d (.int (s.nx y f))):=by
 simp_arith only [jn,Tr.bind_assoc,Tr.draw_bind,Shp.nx]
theorem rX {s:Shp} (h:s.Ok) {x y:Int} (hx:nb 20 x) (hy:nb 20 y):gr [.d s.d,.d (.int x),.d (.int y)]=.ret (.d (.int (s.ord x y))):=by
 have f1:=fF h.piece (by decide)
 have f2:=fF (gD hy hx) (by decide)
 by_cases hp:y<=x
 ·simp_arith only [gr,Tr.bind_assoc,Tr.draw_bind,decide_eq_true hp,Shp.ord,if_pos hp]
 ·simp_arith only [gr,Tr.bind_assoc,Tr.draw_bind,decide_eq_false hp,f1,f2,Shp.ord,if_neg hp]
theorem cz (n:Int):ge [.pen,.d (.int n)]=.draw n λr=>.ret (.d (.int r)):=rfl
theorem Zga:Al (nQ [.pen]) 3 λr=>∃ p:Int,r=.d (.int p)/\0<=p/\p<=1000000:=by
 simp_arith only [nQ,bL,bI,bH,aF,aw,aI,aD,aE,aH,aG,au,av,bC,ba,bB,bc,aT,aS,aR,bU,bT,bS,bR,bQ,bA,bn,bj,bh,bg,aB,aA,az,ay,bp,bu,aQ,aP,aO,bY,bX,bW,bV,aZ,aN,aM,bb,bF,bE,bD,bG,bx,bw,bv,bt,br,aq,aU,bz,bf,be,bq,bJ,aY,aV,aX,aW,bP,bM,bO,aL,aK,aJ,Tr.bind_assoc,Tr.draw_bind,cz]
 refine jx (n:=2) (by decide) (by decide) (by decide) λa a0 a1=>?_
 try simp_arith only [bL,bI,bH,aF,aw,aI,aD,aE,aH,aG,au,av,bC,ba,bB,bc,aT,aS,aR,bU,bT,bS,bR,bQ,bA,bn,bj,bh,bg,aB,aA,az,ay,bp,bu,aQ,aP,aO,bY,bX,bW,bV,aZ,aN,aM,bb,bF,bE,bD,bG,bx,bw,bv,bt,br,aq,aU,bz,bf,be,bq,bJ,aY,aV,aX,aW,bP,bM,bO,aL,aK,aJ,Tr.bind_assoc,Tr.draw_bind,cz]
 refine jx (n:=1) (by decide) (by decide) (by decide) λb b0 b1=>?_
 try simp_arith only [bL,bI,bH,aF,aw,aI,aD,aE,aH,aG,au,av,bC,ba,bB,bc,aT,aS,aR,bU,bT,bS,bR,bQ,bA,bn,bj,bh,bg,aB,aA,az,ay,bp,bu,aQ,aP,aO,bY,bX,bW,bV,aZ,aN,aM,bb,bF,bE,bD,bG,bx,bw,bv,bt,br,aq,aU,bz,bf,be,bq,bJ,aY,aV,aX,aW,bP,bM,bO,aL,aK,aJ,Tr.bind_assoc,Tr.draw_bind,cz]
 refine jx (n:=0) (by decide) (by decide) (by decide) λc c0 c1=>?_
 obtain ⟨z,hz,z0,z1⟩:=Zg3 (xs:=[PyData.int 0,.int b,.int b,.int b,.int (1000000 - b),.int c]) (lo:=0) (hi:=1000000) (by simp [oj]; omega) a0 a1
 simp_arith only [bL,bI,bH,aF,aw,aI,aD,aE,aH,aG,au,av,bC,ba,bB,bc,aT,aS,aR,bU,bT,bS,bR,bQ,bA,bn,bj,bh,bg,aB,aA,az,ay,bp,bu,aQ,aP,aO,bY,bX,bW,bV,aZ,aN,aM,bb,bF,bE,bD,bG,bx,bw,bv,bt,br,aq,aU,bz,bf,be,bq,bJ,aY,aV,aX,aW,bP,bM,bO,aL,aK,aJ,Tr.bind_assoc,Tr.draw_bind,cz,hz]
 exact sL ⟨z,rfl,z0,z1⟩
theorem ZaM {t d:Int} (h1:0<=t) (h2:0<=d) (h3:t+d<=39) {f:List PyData->Tr Re} (hf:∀ ps:List Int,ps.length=7->(∀ p∈ps,0<=p/\p<=1000000)->Al (f (ps.map PyData.int)) 0 λr=>∃ s:Shp,r=.d s.d/\s.Dr) :
  Al ((eY (l0 (cy 0) qr [.un,.pen]) (f8 0 7)).bind f) 21 λr=>∃ s:Shp,r=.d s.d/\s.Dr:=by
 refine Zei (n:=21) (n':=0) (Zm5 (n:=3) (P:=oj 0 1000000) (Q:=λys=>∃ ps:List Int,ys=ps.map PyData.int/\ps.length=7/\∀ p∈ps,0<=p/\p<=1000000) (by rw [kH]; decide) (λx hx=>?_) λys hl hys=>?_) (by decide) ?_
 ·simp_arith only [qr,bL,bI,bH,aF,aw,aI,aD,aE,aH,aG,au,av,bC,ba,bB,bc,aT,aS,aR,bU,bT,bS,bR,bQ,bA,bn,bj,bh,bg,aB,aA,az,ay,bp,bu,aQ,aP,aO,bY,bX,bW,bV,aZ,aN,aM,bb,bF,bE,bD,bG,bx,bw,bv,bt,br,aq,aU,bz,bf,be,bq,bJ,aY,aV,aX,aW,bP,bM,bO,aL,aK,aJ,Tr.bind_assoc,Tr.draw_bind,cz]
  refine Zei (n':=0) Zga (by decide) ?_
  rintro _ ⟨p,rfl,p0,p1⟩
  simp_arith only [bL,bI,bH,aF,aw,aI,aD,aE,aH,aG,au,av,bC,ba,bB,bc,aT,aS,aR,bU,bT,bS,bR,bQ,bA,bn,bj,bh,bg,aB,aA,az,ay,bp,bu,aQ,aP,aO,bY,bX,bW,bV,aZ,aN,aM,bb,bF,bE,bD,bG,bx,bw,bv,bt,br,aq,aU,bz,bf,be,bq,bJ,aY,aV,aX,aW,bP,bM,bO,aL,aK,aJ,Tr.bind_assoc,Tr.draw_bind,cz]
  exact sL ⟨p,rfl,p0,p1⟩
 ·obtain ⟨ns,e,hn⟩:=ZcR hys
  refine ⟨ns,e,?_,hn⟩
  rw [e,List.length_map,kH] at hl
  exact hl
 ·rintro _ ⟨ps,rfl,h4,h5⟩
  exact hf ps h4 h5
theorem Zf9:Al (nO [.pen]) 30 λr=>∃ s:Shp,r=.d s.d/\s.Dr:=by
 have hs:small (f8 0 7).length=true:=jd (by rw [kH]; decide)
 have r7:jR [.int 7]=.ret (f8 0 7):=Zc7 (ZcT (by decide) (by decide))
 have fin:∀ {t d:Int},0<=t->0<=d->t+d<=39->∀ (ps:List Int),ps.length=7->(∀ p∈ps,0<=p/\p<=1000000)->Al (((ef eI (.tuple [.int t,.int d]) (.tuple (ps.map PyData.int))).bind λa=>Tr.ret (Re.d a))) 0 λr=>∃ s:Shp,r=.d s.d/\s.Dr:=λ{t d} t0 d0 td ps hl hp=>by
  obtain ⟨p2,p3,p4,p5,p6,p7,p8,rfl⟩:=Zia hl
  simp_arith only [bL,bI,bH,aF,aw,aI,aD,aE,aH,aG,au,av,bC,ba,bB,bc,aT,aS,aR,bU,bT,bS,bR,bQ,bA,bn,bj,bh,bg,aB,aA,az,ay,bp,bu,aQ,aP,aO,bY,bX,bW,bV,aZ,aN,aM,bb,bF,bE,bD,bG,bx,bw,bv,bt,br,aq,aU,bz,bf,be,bq,bJ,aY,aV,aX,aW,bP,bM,bO,aL,aK,aJ,Tr.bind_assoc,Tr.draw_bind,cz]
  exact sL ⟨⟨t,d,p2,p3,p4,p5,p6,p7,p8⟩,by rw [<- ZfI],⟨t0,d0,td,hp⟩⟩
 have it:gw kd [.bool true]=.ret (.int 1):=rfl
 have if':gw kd [.bool false]=.ret (.int 0):=rfl
 simp_arith only [nO,bL,bI,bH,aF,aw,aI,aD,aE,aH,aG,au,av,bC,ba,bB,bc,aT,aS,aR,bU,bT,bS,bR,bQ,bA,bn,bj,bh,bg,aB,aA,az,ay,bp,bu,aQ,aP,aO,bY,bX,bW,bV,aZ,aN,aM,bb,bF,bE,bD,bG,bx,bw,bv,bt,br,aq,aU,bz,bf,be,bq,bJ,aY,aV,aX,aW,bP,bM,bO,aL,aK,aJ,Tr.bind_assoc,Tr.draw_bind,cz]
 refine jx (n:=29) (by decide) (by decide) (by decide) λg g0 g1=>?_
 try simp_arith only [bL,bI,bH,aF,aw,aI,aD,aE,aH,aG,au,av,bC,ba,bB,bc,aT,aS,aR,bU,bT,bS,bR,bQ,bA,bn,bj,bh,bg,aB,aA,az,ay,bp,bu,aQ,aP,aO,bY,bX,bW,bV,aZ,aN,aM,bb,bF,bE,bD,bG,bx,bw,bv,bt,br,aq,aU,bz,bf,be,bq,bJ,aY,aV,aX,aW,bP,bM,bO,aL,aK,aJ,Tr.bind_assoc,Tr.draw_bind,cz]
 generalize (g == 7)=b
 cases b
 ·simp_arith only [it,if',bL,bI,bH,aF,aw,aI,aD,aE,aH,aG,au,av,bC,ba,bB,bc,aT,aS,aR,bU,bT,bS,bR,bQ,bA,bn,bj,bh,bg,aB,aA,az,ay,bp,bu,aQ,aP,aO,bY,bX,bW,bV,aZ,aN,aM,bb,bF,bE,bD,bG,bx,bw,bv,bt,br,aq,aU,bz,bf,be,bq,bJ,aY,aV,aX,aW,bP,bM,bO,aL,aK,aJ,Tr.bind_assoc,Tr.draw_bind,cz,Bool.false_eq_true,↓reduceIte]
  refine jx (n:=28) (by decide) (by decide) (by decide) λt t0 t1=>?_
  try simp_arith only [bL,bI,bH,aF,aw,aI,aD,aE,aH,aG,au,av,bC,ba,bB,bc,aT,aS,aR,bU,bT,bS,bR,bQ,bA,bn,bj,bh,bg,aB,aA,az,ay,bp,bu,aQ,aP,aO,bY,bX,bW,bV,aZ,aN,aM,bb,bF,bE,bD,bG,bx,bw,bv,bt,br,aq,aU,bz,bf,be,bq,bJ,aY,aV,aX,aW,bP,bM,bO,aL,aK,aJ,Tr.bind_assoc,Tr.draw_bind,cz]
  refine jx (n:=27) (by decide) (by decide) (by decide) λd d0 d1=>?_
  simp_arith only [it,if',bL,bI,bH,aF,aw,aI,aD,aE,aH,aG,au,av,bC,ba,bB,bc,aT,aS,aR,bU,bT,bS,bR,bQ,bA,bn,bj,bh,bg,aB,aA,az,ay,bp,bu,aQ,aP,aO,bY,bX,bW,bV,aZ,aN,aM,bb,bF,bE,bD,bG,bx,bw,bv,bt,br,aq,aU,bz,bf,be,bq,bJ,aY,aV,aX,aW,bP,bM,bO,aL,aK,aJ,Tr.bind_assoc,Tr.draw_bind,cz,Bool.false_eq_true,↓reduceIte,r7,hs]
  exact Zeh (ZaM (t:=t) (d:=d) t0 d0 (by omega) λps hl hp=>fin t0 d0 (by omega) ps hl hp) (by decide) λr h=>h
 ·simp_arith only [it,if',bL,bI,bH,aF,aw,aI,aD,aE,aH,aG,au,av,bC,ba,bB,bc,aT,aS,aR,bU,bT,bS,bR,bQ,bA,bn,bj,bh,bg,aB,aA,az,ay,bp,bu,aQ,aP,aO,bY,bX,bW,bV,aZ,aN,aM,bb,bF,bE,bD,bG,bx,bw,bv,bt,br,aq,aU,bz,bf,be,bq,bJ,aY,aV,aX,aW,bP,bM,bO,aL,aK,aJ,Tr.bind_assoc,Tr.draw_bind,cz,↓reduceIte]
  refine jx (n:=28) (by decide) (by decide) (by decide) λt t0 t1=>?_
  try simp_arith only [bL,bI,bH,aF,aw,aI,aD,aE,aH,aG,au,av,bC,ba,bB,bc,aT,aS,aR,bU,bT,bS,bR,bQ,bA,bn,bj,bh,bg,aB,aA,az,ay,bp,bu,aQ,aP,aO,bY,bX,bW,bV,aZ,aN,aM,bb,bF,bE,bD,bG,bx,bw,bv,bt,br,aq,aU,bz,bf,be,bq,bJ,aY,aV,aX,aW,bP,bM,bO,aL,aK,aJ,Tr.bind_assoc,Tr.draw_bind,cz]
  refine jx (n:=27) (by decide) (by decide) (by decide) λd d0 d1=>?_
  simp_arith only [it,if',bL,bI,bH,aF,aw,aI,aD,aE,aH,aG,au,av,bC,ba,bB,bc,aT,aS,aR,bU,bT,bS,bR,bQ,bA,bn,bj,bh,bg,aB,aA,az,ay,bp,bu,aQ,aP,aO,bY,bX,bW,bV,aZ,aN,aM,bb,bF,bE,bD,bG,bx,bw,bv,bt,br,aq,aU,bz,bf,be,bq,bJ,aY,aV,aX,aW,bP,bM,bO,aL,aK,aJ,Tr.bind_assoc,Tr.draw_bind,cz,↓reduceIte,r7,hs]
  exact Zeh (ZaM (t:=t) (d:=39 - t) t0 (by omega) (by omega) λps hl hp=>fin t0 (by omega) (by omega) ps hl hp) (by decide) λr h=>h
theorem Zda (n:Int):iN [.d (.int n)]=.ret (.d (.bool true)):=by
 simp_arith only [iN,Tr.bind_assoc,Tr.draw_bind,Zcp]
 rfl
theorem ZlC (s:Shp) {x y:Int} (h1:x<=y) (h2:y<=s.top):h9 [.d s.d,.d (.int x),.d (.int y)]=.ret (.d (.bool true)):=by
 simp_arith only [h9,kW,Tr.bind_assoc,Tr.draw_bind,Zda,decide_eq_true h1,decide_eq_true h2]
theorem Zdh {s:Shp} (h:s.Ok) {y f:Int} (hy:nb 20 y) (hf:nb 100 f):gY [.d s.d,.d (.int y),.d (.int f)]=.ret (.d (.int (s.day y f))):=by
 have hd:nb 7 s.depth:=by have:=h.t0; have:=h.d0; have:=h.td; exact gm (by show -128 < _; omega) (by show _ < 128; omega)
 have hn:nb 110 (s.nx y f):=by
  unfold Shp.nx fP
  exact lR (gb (nF hd) (by decide)) (gb (gD hy hf) (by decide))
 have f1:=fF h.keep (by decide)
 have f2:=fF hn (by decide)
 have f3:=fF (nF hn) (by decide)
 have f4:=fF h.lack (by decide)
 have f5:=fF h.lost (by decide)
 have f6:=fF (gD hn (gD hy hf)) (by decide)
 have e:=Zdc s y f
 by_cases hp:s.nx y f > 0
 ·simp_arith only [gY,Tr.bind_assoc,Tr.draw_bind,e,decide_eq_true hp,f1,f2,f5,f6,Shp.day,if_pos hp]
 ·simp_arith only [gY,Tr.bind_assoc,Tr.draw_bind,e,decide_eq_false hp,f3,f4,f5,f6,Shp.day,if_neg hp]
section
variable {C b l k d:Addr} {st:Sto} {s:Shp} {q:Qs} {n:Nat}
theorem Zlx (B:BkOk C st b l s q):rn (nV C [.d (af b)]) st=some (st,.d (.int q.st)):=by
 have h1:=B.at_
 simp_arith only [nV,bL,bI,bH,aF,aw,aI,aD,aE,aH,aG,au,av,bC,ba,bB,bc,aT,aS,aR,bU,bT,bS,bR,bQ,bA,bn,bj,bh,bg,aB,aA,az,ay,bp,bu,aQ,aP,aO,bY,bX,bW,bV,aZ,aN,aM,bb,bF,bE,bD,bG,bx,bw,bv,bt,br,aq,aU,bz,bf,be,bq,bJ,aY,aV,aX,aW,bP,bM,bO,aL,aK,aJ,cR,cJ,cI,dg,da,c9,cN,cH,cG,c6,c5,cM,cL,cW,cV,c8,c7,cZ,cY,de,db,cX,cK,cc,ai,dD,dE,dO,dC,dN,dL,dJ,dI,dH,dG,dF,dM,dA,dB,dw,cT,cS,dr,dt,dq,di,dm,cQ,ne_eq,not_false_eq_true,h1]
theorem Zly (B:BkOk C st b l s q):rn (nW C [.d (af b)]) st=some (st,.d (.int (q.pd s))):=by
 have h1:=B.at_
 simp_arith only [nW,bL,bI,bH,aF,aw,aI,aD,aE,aH,aG,au,av,bC,ba,bB,bc,aT,aS,aR,bU,bT,bS,bR,bQ,bA,bn,bj,bh,bg,aB,aA,az,ay,bp,bu,aQ,aP,aO,bY,bX,bW,bV,aZ,aN,aM,bb,bF,bE,bD,bG,bx,bw,bv,bt,br,aq,aU,bz,bf,be,bq,bJ,aY,aV,aX,aW,bP,bM,bO,aL,aK,aJ,cR,cJ,cI,dg,da,c9,cN,cH,cG,c6,c5,cM,cL,cW,cV,c8,c7,cZ,cY,de,db,cX,cK,cc,ai,dD,dE,dO,dC,dN,dL,dJ,dI,dH,dG,dF,dM,dA,dB,dw,cT,cS,dr,dt,dq,di,dm,cQ,ne_eq,not_false_eq_true,h1]
theorem ZlE (B:BkOk C st b l s q) (hn:q.ds.length<=1000):rn (nX C [.d (af b)]) st=some (st,.own (q.ds.map Dy.t)):=by
 have h1:=B.at_
 have h2:=B.ls
 have hs:small (q.ds.map Dy.e).length=true:=jd (by rw [List.length_map]; omega)
 have e:eY (iO (gi (dS (cy 0) (dS (cy 1) fV))) (nk C) (blk 2 [] [.d (af b)])) (q.ds.map Dy.e)=.ret (q.ds.map Dy.t):=by
  generalize q.ds=ds
  induction ds with
  | nil=>rfl
  | cons y ds ih =>
   have e1:iO (gi (dS (cy 0) (dS (cy 1) fV))) (nk C) (blk 2 [] [.d (af b)]) y.e=.ret y.t:=by
    unfold Dy.e
    simp_arith only [nk,Tr.bind_assoc,Tr.draw_bind,aq,pS]
   rw [List.map_cons,eY,e1,Tr.ret_bind,ih]
   rfl
 simp_arith only [nX,bL,bI,bH,aF,aw,aI,aD,aE,aH,aG,au,av,bC,ba,bB,bc,aT,aS,aR,bU,bT,bS,bR,bQ,bA,bn,bj,bh,bg,aB,aA,az,ay,bp,bu,aQ,aP,aO,bY,bX,bW,bV,aZ,aN,aM,bb,bF,bE,bD,bG,bx,bw,bv,bt,br,aq,aU,bz,bf,be,bq,bJ,aY,aV,aX,aW,bP,bM,bO,aL,aK,aJ,cR,cJ,cI,dg,da,c9,cN,cH,cG,c6,c5,cM,cL,cW,cV,c8,c7,cZ,cY,de,db,cX,cK,cc,ai,dD,dE,dO,dC,dN,dL,dJ,dI,dH,dG,dF,dM,dA,dB,dw,cT,cS,dr,dt,dq,di,dm,cQ,ne_eq,not_false_eq_true,h1,h2,hs] at e ⊢
 simp_arith only [e,bL,bI,bH,aF,aw,aI,aD,aE,aH,aG,au,av,bC,ba,bB,bc,aT,aS,aR,bU,bT,bS,bR,bQ,bA,bn,bj,bh,bg,aB,aA,az,ay,bp,bu,aQ,aP,aO,bY,bX,bW,bV,aZ,aN,aM,bb,bF,bE,bD,bG,bx,bw,bv,bt,br,aq,aU,bz,bf,be,bq,bJ,aY,aV,aX,aW,bP,bM,bO,aL,aK,aJ,cR,cJ,cI,dg,da,c9,cN,cH,cG,c6,c5,cM,cL,cW,cV,c8,c7,cZ,cY,de,db,cX,cK,cc,ai,dD,dE,dO,dC,dN,dL,dJ,dI,dH,dG,dF,dM,dA,dB,dw,cT,cS,dr,dt,dq,di,dm,cQ,ne_eq,not_false_eq_true]
theorem Zdi (h:s.Ok) (B:BkOk C st b l s q) (w:QOk s q n) (hg:q.gl=none) {y:Int} (h1:q.st<=y) (h2:y<=s.top):∃ st',rn (kX C [.d (af b),.d (.int y)]) st=some (st',.d .none)/\BkOk C st' b l s ⟨q.st,some y,q.ds⟩/\∀ a,a≠b->st'.get a=st.get a:=by
 obtain ⟨x,g,ds⟩:=q
 have hg:g=none:=hg
 subst hg
 have b1:=B.at_
 have b2:=B.ls
 have nbl:l≠b:=λe=>by rw [e,b1] at b2; cases b2
 have h1:x<=y:=h1
 have e1:=rX h (x:=x) (y:=y) (w.nbs h).1 ((w.goal h1 h2).nbs h).2
 have e2:=ZlC s h1 h2
 have b1:st.get b=some (.ins C (eu s.d (.int x) .none (.int ((Qs.mk x none ds).pd s)) (af l))):=b1
 simp_arith only [kX,bL,bI,bH,aF,aw,aI,aD,aE,aH,aG,au,av,bC,ba,bB,bc,aT,aS,aR,bU,bT,bS,bR,bQ,bA,bn,bj,bh,bg,aB,aA,az,ay,bp,bu,aQ,aP,aO,bY,bX,bW,bV,aZ,aN,aM,bb,bF,bE,bD,bG,bx,bw,bv,bt,br,aq,aU,bz,bf,be,bq,bJ,aY,aV,aX,aW,bP,bM,bO,aL,aK,aJ,cR,cJ,cI,dg,da,c9,cN,cH,cG,c6,c5,cM,cL,cW,cV,c8,c7,cZ,cY,de,db,cX,cK,cc,ai,dD,dE,dO,dC,dN,dL,dJ,dI,dH,dG,dF,dM,dA,dB,dw,cT,cS,dr,dt,dq,di,dm,cQ,ne_eq,not_false_eq_true,b1,e1,e2,ig,Bool.not_true,Bool.not_false]
 refine ⟨_,rfl,⟨?_,?_⟩,λa ha=>?_⟩
 ·rw [cc,Zcb]
  rfl
 ·rw [ai nbl,ai nbl]
  exact b2
 ·rw [ai ha,ai ha]
end
section
variable {C b l k d:Addr} {st:Sto} {s:Shp} {q:Qs} {n:Nat}
theorem Zdg (h:s.Ok) (B:BkOk C st b l s q) (w:QOk s q n) (hn:q.ds.length<=1000) {f:Int} (f0:0<=f) (f1:f < 20000000000000000000000000000) :
  ∃ st',rn (ka C [.d (af b),.d (.int f)]) st=some (st',.d .none)/\BkOk C st' b l s (q.fall s f)/\∀ a,a≠b->a≠l->st'.get a=st.get a:=by
 have b1:=B.at_
 have b2:=B.ls
 have nbl:l≠b:=λe=>by rw [e,b1] at b2; cases b2
 have nlb:b≠l:=λe=>nbl e.symm
 have e0:=Zda f
 have hp:decide (f < 0)=false:=decide_eq_false (by omega)
 obtain ⟨k1,k2⟩:=w.nbs h
 have e1:=Zdh h (y:=q.lv) (f:=f) k2 (nI f0 f1)
 have hm:small ((q.ds.map Dy.e).length+1)=true:=jd (by rw [List.length_map]; omega)
 have e2:=rX h k1 k2
 have e3:=Zdc s q.lv f
 have e4:=Zhr s q f
 obtain ⟨x,g,ds⟩:=q
 cases g with
 | none =>
  have b1:st.get b=some (.ins C (eu s.d (.int x) .none (.int ((Qs.mk x none ds).pd s)) (af l))):=b1
  have e1:gY [.d s.d,.d (.int x),.d (.int f)]=.ret (.d (.int (s.day x f))):=e1
  have e2:gr [.d s.d,.d (.int x),.d (.int x)]=.ret (.d (.int (s.ord x x))):=e2
  have e3:jn [.d s.d,.d (.int x),.d (.int f)]=.ret (.d (.int (s.nx x f))):=e3
  simp_arith only [ka,bL,bI,bH,aF,aw,aI,aD,aE,aH,aG,au,av,bC,ba,bB,bc,aT,aS,aR,bU,bT,bS,bR,bQ,bA,bn,bj,bh,bg,aB,aA,az,ay,bp,bu,aQ,aP,aO,bY,bX,bW,bV,aZ,aN,aM,bb,bF,bE,bD,bG,bx,bw,bv,bt,br,aq,aU,bz,bf,be,bq,bJ,aY,aV,aX,aW,bP,bM,bO,aL,aK,aJ,cR,cJ,cI,dg,da,c9,cN,cH,cG,c6,c5,cM,cL,cW,cV,c8,c7,cZ,cY,de,db,cX,cK,cc,ai,dD,dE,dO,dC,dN,dL,dJ,dI,dH,dG,dF,dM,dA,dB,dw,cT,cS,dr,dt,dq,di,dm,cQ,ne_eq,not_false_eq_true,b1,b2,e0,e1,e2,e3,ig,hp,hm,nbl,nlb,Bool.not_true,Bool.not_false]
  refine ⟨_,rfl,⟨?_,?_⟩,λa ha hl=>?_⟩
  ·rw [cc,<- e4]
   rfl
  ·rw [ai nbl,ai nbl,ai nbl,cc]
   show some (Cel.lst _)=some (Cel.lst ((ds++[_]).map Dy.e))
   rw [List.map_append]
   rfl
  ·rw [ai ha,ai ha,ai ha,ai hl]
 | some g =>
  have b1:st.get b=some (.ins C (eu s.d (.int x) (.int g) (.int ((Qs.mk x (some g) ds).pd s)) (af l))):=b1
  have e1:gY [.d s.d,.d (.int g),.d (.int f)]=.ret (.d (.int (s.day g f))):=e1
  have e2:gr [.d s.d,.d (.int x),.d (.int g)]=.ret (.d (.int (s.ord x g))):=e2
  have e3:jn [.d s.d,.d (.int g),.d (.int f)]=.ret (.d (.int (s.nx g f))):=e3
  simp_arith only [ka,bL,bI,bH,aF,aw,aI,aD,aE,aH,aG,au,av,bC,ba,bB,bc,aT,aS,aR,bU,bT,bS,bR,bQ,bA,bn,bj,bh,bg,aB,aA,az,ay,bp,bu,aQ,aP,aO,bY,bX,bW,bV,aZ,aN,aM,bb,bF,bE,bD,bG,bx,bw,bv,bt,br,aq,aU,bz,bf,be,bq,bJ,aY,aV,aX,aW,bP,bM,bO,aL,aK,aJ,cR,cJ,cI,dg,da,c9,cN,cH,cG,c6,c5,cM,cL,cW,cV,c8,c7,cZ,cY,de,db,cX,cK,cc,ai,dD,dE,dO,dC,dN,dL,dJ,dI,dH,dG,dF,dM,dA,dB,dw,cT,cS,dr,dt,dq,di,dm,cQ,ne_eq,not_false_eq_true,b1,b2,e0,e1,e2,e3,iR,hp,hm,nbl,nlb,Bool.not_true,Bool.not_false]
  refine ⟨_,rfl,⟨?_,?_⟩,λa ha hl=>?_⟩
  ·rw [cc,<- e4]
   rfl
  ·rw [ai nbl,ai nbl,ai nbl,cc]
   show some (Cel.lst _)=some (Cel.lst ((ds++[_]).map Dy.e))
   rw [List.map_append]
   rfl
  ·rw [ai ha,ai ha,ai ha,ai hl]
noncomputable def Qs.bk (q:Qs) (q':Qs):Prop:=(∃ g,q.gl=some g/\q'=⟨q.st,none,q.ds⟩)\/(q.gl=none/\∃ ds y,q.ds=ds++[y]/\q'=⟨y.st,y.gl,ds⟩)
theorem ZlG (h:s.Ok) (B:BkOk C st b l s q) (w:QOk s q n) (hn:q.ds.length<=1000) {q':Qs} (hq:q.bk q') :
  ∃ st',rn (kY C [.d (af b)]) st=some (st',.d .none)/\BkOk C st' b l s q'/\∀ a,a≠b->a≠l->st'.get a=st.get a:=by
 have b1:=B.at_
 have b2:=B.ls
 have nbl:l≠b:=λe=>by rw [e,b1] at b2; cases b2
 have nlb:b≠l:=λe=>nbl e.symm
 obtain ⟨x,g,ds⟩:=q
 rcases hq with ⟨g',hg,rfl⟩ | ⟨hg,ds',y,hd,rfl⟩
 ·have hg:g=some g':=hg
  subst hg
  obtain ⟨k1,k2⟩:=w.nbs h
  have e2:gr [.d s.d,.d (.int x),.d (.int g')]=.ret (.d (.int (s.ord x g'))):=rX h k1 k2
  have e4:(Qs.mk x (some g') ds).pd s - s.ord x g'=(Qs.mk x none ds).pd s:=by rw [<- Zcb]; omega
  have b1:st.get b=some (.ins C (eu s.d (.int x) (.int g') (.int ((Qs.mk x (some g') ds).pd s)) (af l))):=b1
  simp_arith only [kY,bL,bI,bH,aF,aw,aI,aD,aE,aH,aG,au,av,bC,ba,bB,bc,aT,aS,aR,bU,bT,bS,bR,bQ,bA,bn,bj,bh,bg,aB,aA,az,ay,bp,bu,aQ,aP,aO,bY,bX,bW,bV,aZ,aN,aM,bb,bF,bE,bD,bG,bx,bw,bv,bt,br,aq,aU,bz,bf,be,bq,bJ,aY,aV,aX,aW,bP,bM,bO,aL,aK,aJ,cR,cJ,cI,dg,da,c9,cN,cH,cG,c6,c5,cM,cL,cW,cV,c8,c7,cZ,cY,de,db,cX,cK,cc,ai,dD,dE,dO,dC,dN,dL,dJ,dI,dH,dG,dF,dM,dA,dB,dw,cT,cS,dr,dt,dq,di,dm,cQ,ne_eq,not_false_eq_true,b1,b2,e2,iR,nbl,nlb,Bool.not_true,Bool.not_false]
  refine ⟨_,rfl,⟨?_,?_⟩,λa ha hl=>?_⟩
  ·rw [cc,e4]
   rfl
  ·rw [ai nbl,ai nbl]
   exact b2
  ·rw [ai ha,ai ha]
 ·have hg:g=none:=hg
  have hd:ds=ds'++[y]:=hd
  subst hg hd
  have hy:=w.ds y (by simp)
  have e4:=Zhs s (x:=x) (ds:=ds') hy
  have b1:st.get b=some (.ins C (eu s.d (.int x) .none (.int ((Qs.mk x none (ds'++[y])).pd s)) (af l))):=b1
  have b2:st.get l=some (.lst (ds'.map Dy.e++[PyData.tuple [.tuple [.int y.st,.int y.lv,.int y.fl,.int y.co],oD y.gl]])):=by rw [show st.get l=_ from b2,List.map_append]; rfl
  have hz:((((ds'.map Dy.e++[PyData.tuple [.tuple [.int y.st,.int y.lv,.int y.fl,.int y.co],oD y.gl]]).length:Nat):Int) != 0)=true:=by
   rw [bne_iff_ne,List.length_append,List.length_singleton]
   omega
  have e1:gY [.d s.d,.d (.int y.lv),.d (.int y.fl)]=.ret (.d (.int (s.day y.lv y.fl))):=by
   have:=hy.s0
   have:=hy.s1
   have:=hy.s2
   have:=h.t0
   have:=h.d0
   have:=h.td
   exact Zdh h (gm (by show -1048576 < _; omega) (by show _ < 1048576; omega)) (nI hy.f0 hy.f1)
  simp_arith only [kY,bL,bI,bH,aF,aw,aI,aD,aE,aH,aG,au,av,bC,ba,bB,bc,aT,aS,aR,bU,bT,bS,bR,bQ,bA,bn,bj,bh,bg,aB,aA,az,ay,bp,bu,aQ,aP,aO,bY,bX,bW,bV,aZ,aN,aM,bb,bF,bE,bD,bG,bx,bw,bv,bt,br,aq,aU,bz,bf,be,bq,bJ,aY,aV,aX,aW,bP,bM,bO,aL,aK,aJ,cR,cJ,cI,dg,da,c9,cN,cH,cG,c6,c5,cM,cL,cW,cV,c8,c7,cZ,cY,de,db,cX,cK,cc,ai,dD,dE,dO,dC,dN,dL,dJ,dI,dH,dG,dF,dM,dA,dB,dw,cT,cS,dr,dt,dq,di,dm,cQ,ne_eq,not_false_eq_true,b1,b2,e1,hz,ig,nbl,nlb,Bool.not_true,Bool.not_false,cK]
  refine ⟨_,rfl,⟨?_,?_⟩,λa ha hl=>?_⟩
  ·rw [cc,<- e4]
  ·rw [ai nbl,ai nbl,ai nbl,cc]
  ·rw [ai ha,ai ha,ai ha,ai hl]
theorem Zae (B:BkOk C st b l s q) {g:Int} (hg:q.gl=some g) (y:PyData):rn (i8 C [.d (af b),.d y]) st=some (st,none):=by
 have b1:=B.at_
 rw [hg] at b1
 have b1:st.get b=some (.ins C (eu s.d (.int q.st) (.int g) (.int (q.pd s)) (af l))):=b1
 simp_arith only [i8,bL,bI,bH,aF,aw,aI,aD,aE,aH,aG,au,av,bC,ba,bB,bc,aT,aS,aR,bU,bT,bS,bR,bQ,bA,bn,bj,bh,bg,aB,aA,az,ay,bp,bu,aQ,aP,aO,bY,bX,bW,bV,aZ,aN,aM,bb,bF,bE,bD,bG,bx,bw,bv,bt,br,aq,aU,bz,bf,be,bq,bJ,aY,aV,aX,aW,bP,bM,bO,aL,aK,aJ,cR,cJ,cI,dg,da,c9,cN,cH,cG,c6,c5,cM,cL,cW,cV,c8,c7,cZ,cY,de,db,cX,cK,cc,ai,dD,dE,dO,dC,dN,dL,dJ,dI,dH,dG,dF,dM,dA,dB,dw,cT,cS,dr,dt,dq,di,dm,cQ,ne_eq,not_false_eq_true,b1,iR,Bool.not_true,Bool.not_false]
theorem ZeF (B:BkOk C st b l s q) (hg:q.gl=none) (hd:q.ds=[]):rn (mJ C [.d (af b)]) st=some (st,none):=by
 have b1:=B.at_
 have b2:=B.ls
 rw [hg] at b1
 rw [hd] at b2
 have b1:st.get b=some (.ins C (eu s.d (.int q.st) .none (.int (q.pd s)) (af l))):=b1
 have b2:st.get l=some (.lst []):=b2
 have hz:((((0:Nat):Int)) != 0)=false:=rfl
 simp_arith only [mJ,bL,bI,bH,aF,aw,aI,aD,aE,aH,aG,au,av,bC,ba,bB,bc,aT,aS,aR,bU,bT,bS,bR,bQ,bA,bn,bj,bh,bg,aB,aA,az,ay,bp,bu,aQ,aP,aO,bY,bX,bW,bV,aZ,aN,aM,bb,bF,bE,bD,bG,bx,bw,bv,bt,br,aq,aU,bz,bf,be,bq,bJ,aY,aV,aX,aW,bP,bM,bO,aL,aK,aJ,cR,cJ,cI,dg,da,c9,cN,cH,cG,c6,c5,cM,cL,cW,cV,c8,c7,cZ,cY,de,db,cX,cK,cc,ai,dD,dE,dO,dC,dN,dL,dJ,dI,dH,dG,dF,dM,dA,dB,dw,cT,cS,dr,dt,dq,di,dm,cQ,ne_eq,not_false_eq_true,b1,b2,ig,hz,Bool.not_true,Bool.not_false]
end
theorem Zfz {s:Shp} {x l n:Int} (hxl:x<=l):(s.piece * (l - x)+s.lost * (s.nx l n - (l - n))+(if l > x then s.start else 0))+s.keep * fP (s.nx l n) 0+s.lack * fP (0 - s.nx l n) 0=s.ord x l+s.day l n:=by
 unfold Shp.ord Shp.day
 generalize s.nx l n=k
 have e1:(if l > x then s.start else 0)+s.piece * (l - x)=if l<=x then 0 else s.start+s.piece * (l - x):=by
  by_cases h:l<=x
  ·have:l=x:=by omega
   subst this
   rw [if_neg (by omega),if_pos (by omega)]
   simp
  ·rw [if_pos (by omega),if_neg h]
 have e2:s.keep * fP k 0+s.lack * fP (0 - k) 0=if k > 0 then s.keep * k else s.lack * -k:=by
  unfold fP
  by_cases h:k > 0
  ·rw [if_neg (by omega),if_pos (by omega),if_pos h]
   simp
  ·rw [if_neg h]
   by_cases h0:k=0
   ·subst h0
    simp
   ·rw [if_pos (by omega),if_neg (by omega),Int.zero_sub]
    simp
 rw [<- e1,<- e2]
 omega
theorem ZhL (s:Shp) (l n:Int):fP (l - n) (0 - s.depth)=s.nx l n:=by unfold Shp.nx; rw [Int.zero_sub]
theorem ZlA {s:Shp} (h:s.Ok) {x l n:Int} (h0:-s.depth<=x) (hxl:x<=l) (hl:l<=s.top) (f0:0<=n) (f1:n < 20000000000000000000000000000):j8 [.d s.d,.d (.int x),.d (.int l),.d (.int n)]=.ret (.d (.tuple [.int (s.ord x l+s.day l n),.int (s.nx l n)])):=by
 have:=h.t0
 have:=h.d0
 have:=h.td
 have nl:nb 20 l:=gm (by show -1048576 < _; omega) (by show _ < 1048576; omega)
 have nx:nb 20 x:=gm (by show -1048576 < _; omega) (by show _ < 1048576; omega)
 have n8:=Zci h (by omega) hl f0
 have f3:=fF h.piece (by decide)
 have f4:=fF h.keep (by decide)
 have f5:=fF h.lack (by decide)
 have f6:=fF h.lost (by decide)
 have g1:=fF (gD nl nx) (by decide)
 have g2:=fF (gD n8 (gD nl (nI f0 f1))) (by decide)
 have z0:nb 8 0:=gm (by decide) (by decide)
 have g3:fit (fP (s.nx l n) 0)=true:=fF (by unfold fP; exact lR z0 n8:nb 8 _) (by decide)
 have g4:fit (fP (0 - s.nx l n) 0)=true:=fF (by unfold fP; exact lR (gb z0 (by decide)) (gD z0 n8):nb 9 _) (by decide)
 have en:=ZhL s l n
 have es:s.d=.tuple [.int s.top,.int s.depth,.int s.start,.int s.piece,.int s.keep,.int s.lack,.int s.lost,.int s.back,.int s.late]:=by unfold Shp.d; rfl
 rw [<- Zfz hxl,es]
 by_cases hg:l > x
 ·simp_arith only [j8,Tr.bind_assoc,Tr.draw_bind,en,decide_eq_true hg,if_pos hg,f3,f4,f5,f6,g1,g2,g3,g4]
 ·simp_arith only [j8,Tr.bind_assoc,Tr.draw_bind,en,decide_eq_false hg,if_neg hg,f3,f4,f5,f6,g1,g2,g3,g4,Int.add_zero]
theorem Zdd (n:Int):lU [.d (.int n),.d (.int n)]=.ret (.d (.bool true)):=by
 have e:(n == n)=true:=by simp
 have i1:fU "int" (fB (.int n))=true:=rfl
 have i2:fU "bool" (fB (.int n))=false:=rfl
 simp_arith only [lU,Tr.bind_assoc,Tr.draw_bind,Zcp,e,i1,i2,Bool.not_false]
section
variable {C b l k d:Addr} {st:Sto} {s:Shp} {q:Qs} {n:Nat}
theorem ZlB (h:s.Ok) (B:KpOk st k d s q) (w:QOk s q n) (hn:q.ds.length<=1000):rn (kU [.d (af k)]) st=some (st,.d (.int (q.pd s))):=by
 have b1:=B.at_
 have b2:=B.ls
 have hs:small (q.ds.map Dy.k).length=true:=jd (by rw [List.length_map]; omega)
 have e:eY (iO (cy 0) nj (blk 1 [] [.d (af k),.d s.d,.un])) (q.ds.map Dy.k)=.ret ((q.ds.map (·.co)).map PyData.int):=by
  generalize q.ds=ds
  induction ds with
  | nil=>rfl
  | cons y ds ih =>
   have e1:iO (cy 0) nj (blk 1 [] [.d (af k),.d s.d,.un]) y.k=.ret (.int y.co):=by
    unfold Dy.k
    simp_arith only [nj,Tr.bind_assoc,Tr.draw_bind,aq,pS]
   rw [List.map_cons,eY,e1,Tr.ret_bind,ih]
   rfl
 have es:=Zc5 (q.ds.map (·.co))
 obtain ⟨k1,k2⟩:=w.nbs h
 have f1:=fF h.piece (by decide)
 obtain ⟨x,g,ds⟩:=q
 cases g with
 | none =>
  have b1:st.get k=some (.dct (eL s.d (.int x) .none (af d))):=b1
  have e4:(Qs.mk x none ds).pd s=(ds.map (·.co)).sum:=by unfold Qs.pd lJ; simp
  simp_arith only [kU,bL,bI,bH,aF,aw,aI,aD,aE,aH,aG,au,av,bC,ba,bB,bc,aT,aS,aR,bU,bT,bS,bR,bQ,bA,bn,bj,bh,bg,aB,aA,az,ay,bp,bu,aQ,aP,aO,bY,bX,bW,bV,aZ,aN,aM,bb,bF,bE,bD,bG,bx,bw,bv,bt,br,aq,aU,bz,bf,be,bq,bJ,aY,aV,aX,aW,bP,bM,bO,aL,aK,aJ,cR,cJ,cI,dg,da,c9,cN,cH,cG,c6,c5,cM,cL,cW,cV,c8,c7,cZ,cY,de,db,cX,cK,cc,ai,dD,dE,dO,dC,dN,dL,dJ,dI,dH,dG,dF,dM,dA,dB,dw,cT,cS,dr,dt,dq,di,dm,cQ,ne_eq,not_false_eq_true,b1,b2,hs,ig,Bool.not_true,Bool.not_false,e4] at e es ⊢
  simp_arith only [bL,bI,bH,aF,aw,aI,aD,aE,aH,aG,au,av,bC,ba,bB,bc,aT,aS,aR,bU,bT,bS,bR,bQ,bA,bn,bj,bh,bg,aB,aA,az,ay,bp,bu,aQ,aP,aO,bY,bX,bW,bV,aZ,aN,aM,bb,bF,bE,bD,bG,bx,bw,bv,bt,br,aq,aU,bz,bf,be,bq,bJ,aY,aV,aX,aW,bP,bM,bO,aL,aK,aJ,cR,cJ,cI,dg,da,c9,cN,cH,cG,c6,c5,cM,cL,cW,cV,c8,c7,cZ,cY,de,db,cX,cK,cc,ai,dD,dE,dO,dC,dN,dL,dJ,dI,dH,dG,dF,dM,dA,dB,dw,cT,cS,dr,dt,dq,di,dm,cQ,ne_eq,not_false_eq_true,b1,e,es,ig,Bool.not_true]
 | some g =>
  have b1:st.get k=some (.dct (eL s.d (.int x) (.int g) (af d))):=b1
  have f2:fit (g - x)=true:=fF (gD (show nb 20 g from k2) (show nb 20 x from k1)) (by decide)
  by_cases hp:g > x
  ·have e4:(Qs.mk x (some g) ds).pd s=(ds.map (·.co)).sum+s.start+s.piece * (g - x):=by
    show (ds.map (·.co)).sum+(if g<=x then 0 else s.start+s.piece * (g - x))=_
    rw [if_neg (by omega:¬ g<=x),Int.add_assoc]
   simp_arith only [kU,bL,bI,bH,aF,aw,aI,aD,aE,aH,aG,au,av,bC,ba,bB,bc,aT,aS,aR,bU,bT,bS,bR,bQ,bA,bn,bj,bh,bg,aB,aA,az,ay,bp,bu,aQ,aP,aO,bY,bX,bW,bV,aZ,aN,aM,bb,bF,bE,bD,bG,bx,bw,bv,bt,br,aq,aU,bz,bf,be,bq,bJ,aY,aV,aX,aW,bP,bM,bO,aL,aK,aJ,cR,cJ,cI,dg,da,c9,cN,cH,cG,c6,c5,cM,cL,cW,cV,c8,c7,cZ,cY,de,db,cX,cK,cc,ai,dD,dE,dO,dC,dN,dL,dJ,dI,dH,dG,dF,dM,dA,dB,dw,cT,cS,dr,dt,dq,di,dm,cQ,ne_eq,not_false_eq_true,b1,b2,hs,iR,Bool.not_true,Bool.not_false,e4] at e es ⊢
   simp_arith only [bL,bI,bH,aF,aw,aI,aD,aE,aH,aG,au,av,bC,ba,bB,bc,aT,aS,aR,bU,bT,bS,bR,bQ,bA,bn,bj,bh,bg,aB,aA,az,ay,bp,bu,aQ,aP,aO,bY,bX,bW,bV,aZ,aN,aM,bb,bF,bE,bD,bG,bx,bw,bv,bt,br,aq,aU,bz,bf,be,bq,bJ,aY,aV,aX,aW,bP,bM,bO,aL,aK,aJ,cR,cJ,cI,dg,da,c9,cN,cH,cG,c6,c5,cM,cL,cW,cV,c8,c7,cZ,cY,de,db,cX,cK,cc,ai,dD,dE,dO,dC,dN,dL,dJ,dI,dH,dG,dF,dM,dA,dB,dw,cT,cS,dr,dt,dq,di,dm,cQ,ne_eq,not_false_eq_true,b1,e,es,iR,Bool.not_false,decide_eq_true hp,f1,f2]
  ·have e4:(Qs.mk x (some g) ds).pd s=(ds.map (·.co)).sum:=by
    show (ds.map (·.co)).sum+(if g<=x then 0 else s.start+s.piece * (g - x))=_
    rw [if_pos (by omega:g<=x),Int.add_zero]
   simp_arith only [kU,bL,bI,bH,aF,aw,aI,aD,aE,aH,aG,au,av,bC,ba,bB,bc,aT,aS,aR,bU,bT,bS,bR,bQ,bA,bn,bj,bh,bg,aB,aA,az,ay,bp,bu,aQ,aP,aO,bY,bX,bW,bV,aZ,aN,aM,bb,bF,bE,bD,bG,bx,bw,bv,bt,br,aq,aU,bz,bf,be,bq,bJ,aY,aV,aX,aW,bP,bM,bO,aL,aK,aJ,cR,cJ,cI,dg,da,c9,cN,cH,cG,c6,c5,cM,cL,cW,cV,c8,c7,cZ,cY,de,db,cX,cK,cc,ai,dD,dE,dO,dC,dN,dL,dJ,dI,dH,dG,dF,dM,dA,dB,dw,cT,cS,dr,dt,dq,di,dm,cQ,ne_eq,not_false_eq_true,b1,b2,hs,iR,Bool.not_true,Bool.not_false,e4] at e es ⊢
   simp_arith only [bL,bI,bH,aF,aw,aI,aD,aE,aH,aG,au,av,bC,ba,bB,bc,aT,aS,aR,bU,bT,bS,bR,bQ,bA,bn,bj,bh,bg,aB,aA,az,ay,bp,bu,aQ,aP,aO,bY,bX,bW,bV,aZ,aN,aM,bb,bF,bE,bD,bG,bx,bw,bv,bt,br,aq,aU,bz,bf,be,bq,bJ,aY,aV,aX,aW,bP,bM,bO,aL,aK,aJ,cR,cJ,cI,dg,da,c9,cN,cH,cG,c6,c5,cM,cL,cW,cV,c8,c7,cZ,cY,de,db,cX,cK,cc,ai,dD,dE,dO,dC,dN,dL,dJ,dI,dH,dG,dF,dM,dA,dB,dw,cT,cS,dr,dt,dq,di,dm,cQ,ne_eq,not_false_eq_true,b1,e,es,iR,Bool.not_false,decide_eq_false hp,f1,f2]
theorem Zdf (h:s.Ok) (B:KpOk st k d s q) (w:QOk s q n) (hn:q.ds.length<=1000) {f:Int} (f0:0<=f) (f1:f < 20000000000000000000000000000) :
  ∃ st',rn (j9 [.d (af k),.d (.int f)]) st=some (st',.d .none)/\KpOk st' k d s (q.fall s f)/\∀ a,a≠k->a≠d->st'.get a=st.get a:=by
 have b1:=B.at_
 have b2:=B.ls
 have ndk:d≠k:=λe=>by rw [e,b1] at b2; cases b2
 have nkd:k≠d:=λe=>ndk e.symm
 have hl:=w.lv0
 have e1:=ZlA h w.s0 hl.1 hl.2 f0 f1
 have hm:small ((q.ds.map Dy.k).length+1)=true:=jd (by rw [List.length_map]; omega)
 obtain ⟨x,g,ds⟩:=q
 cases g with
 | none =>
  have b1:st.get k=some (.dct (eL s.d (.int x) .none (af d))):=b1
  have e1:j8 [.d s.d,.d (.int x),.d (.int x),.d (.int f)]=.ret (.d (.tuple [.int (s.ord x x+s.day x f),.int (s.nx x f)])):=e1
  simp_arith only [j9,bL,bI,bH,aF,aw,aI,aD,aE,aH,aG,au,av,bC,ba,bB,bc,aT,aS,aR,bU,bT,bS,bR,bQ,bA,bn,bj,bh,bg,aB,aA,az,ay,bp,bu,aQ,aP,aO,bY,bX,bW,bV,aZ,aN,aM,bb,bF,bE,bD,bG,bx,bw,bv,bt,br,aq,aU,bz,bf,be,bq,bJ,aY,aV,aX,aW,bP,bM,bO,aL,aK,aJ,cR,cJ,cI,dg,da,c9,cN,cH,cG,c6,c5,cM,cL,cW,cV,c8,c7,cZ,cY,de,db,cX,cK,cc,ai,dD,dE,dO,dC,dN,dL,dJ,dI,dH,dG,dF,dM,dA,dB,dw,cT,cS,dr,dt,dq,di,dm,cQ,ne_eq,not_false_eq_true,b1,b2,e1,ig,hm,ndk,nkd,Bool.not_true,Bool.not_false]
  refine ⟨_,rfl,⟨?_,?_⟩,λa ha hl=>?_⟩
  ·rw [cc]
   rfl
  ·rw [ai ndk,ai ndk,cc]
   show some (Cel.lst _)=some (Cel.lst ((ds++[_]).map Dy.k))
   rw [List.map_append]
   rfl
  ·rw [ai ha,ai ha,ai hl]
 | some g =>
  have b1:st.get k=some (.dct (eL s.d (.int x) (.int g) (af d))):=b1
  have e1:j8 [.d s.d,.d (.int x),.d (.int g),.d (.int f)]=.ret (.d (.tuple [.int (s.ord x g+s.day g f),.int (s.nx g f)])):=e1
  simp_arith only [j9,bL,bI,bH,aF,aw,aI,aD,aE,aH,aG,au,av,bC,ba,bB,bc,aT,aS,aR,bU,bT,bS,bR,bQ,bA,bn,bj,bh,bg,aB,aA,az,ay,bp,bu,aQ,aP,aO,bY,bX,bW,bV,aZ,aN,aM,bb,bF,bE,bD,bG,bx,bw,bv,bt,br,aq,aU,bz,bf,be,bq,bJ,aY,aV,aX,aW,bP,bM,bO,aL,aK,aJ,cR,cJ,cI,dg,da,c9,cN,cH,cG,c6,c5,cM,cL,cW,cV,c8,c7,cZ,cY,de,db,cX,cK,cc,ai,dD,dE,dO,dC,dN,dL,dJ,dI,dH,dG,dF,dM,dA,dB,dw,cT,cS,dr,dt,dq,di,dm,cQ,ne_eq,not_false_eq_true,b1,b2,e1,iR,hm,ndk,nkd,Bool.not_true,Bool.not_false]
  refine ⟨_,rfl,⟨?_,?_⟩,λa ha hl=>?_⟩
  ·rw [cc]
   rfl
  ·rw [ai ndk,ai ndk,cc]
   show some (Cel.lst _)=some (Cel.lst ((ds++[_]).map Dy.k))
   rw [List.map_append]
   rfl
  ·rw [ai ha,ai ha,ai hl]
theorem Zlw (B:KpOk st k d s q) {q':Qs} (hq:q.bk q') :
  ∃ st',rn (jp [.d (af k)]) st=some (st',.d (.bool true))/\KpOk st' k d s q'/\∀ a,a≠k->a≠d->st'.get a=st.get a:=by
 have b1:=B.at_
 have b2:=B.ls
 have ndk:d≠k:=λe=>by rw [e,b1] at b2; cases b2
 have nkd:k≠d:=λe=>ndk e.symm
 obtain ⟨x,g,ds⟩:=q
 rcases hq with ⟨g',hg,rfl⟩ | ⟨hg,ds',y,hd,rfl⟩
 ·have hg:g=some g':=hg
  subst hg
  have b1:st.get k=some (.dct (eL s.d (.int x) (.int g') (af d))):=b1
  simp_arith only [jp,bL,bI,bH,aF,aw,aI,aD,aE,aH,aG,au,av,bC,ba,bB,bc,aT,aS,aR,bU,bT,bS,bR,bQ,bA,bn,bj,bh,bg,aB,aA,az,ay,bp,bu,aQ,aP,aO,bY,bX,bW,bV,aZ,aN,aM,bb,bF,bE,bD,bG,bx,bw,bv,bt,br,aq,aU,bz,bf,be,bq,bJ,aY,aV,aX,aW,bP,bM,bO,aL,aK,aJ,cR,cJ,cI,dg,da,c9,cN,cH,cG,c6,c5,cM,cL,cW,cV,c8,c7,cZ,cY,de,db,cX,cK,cc,ai,dD,dE,dO,dC,dN,dL,dJ,dI,dH,dG,dF,dM,dA,dB,dw,cT,cS,dr,dt,dq,di,dm,cQ,ne_eq,not_false_eq_true,b1,iR,Bool.not_false]
  refine ⟨_,rfl,⟨?_,?_⟩,λa ha hl=>?_⟩
  ·rw [cc]
   rfl
  ·rw [ai ndk]
   exact b2
  ·rw [ai ha]
 ·have hg:g=none:=hg
  have hd:ds=ds'++[y]:=hd
  subst hg hd
  have b1:st.get k=some (.dct (eL s.d (.int x) .none (af d))):=b1
  have b2:st.get d=some (.lst (ds'.map Dy.k++[PyData.tuple [.int y.st,.int y.lv,.int y.fl,.int y.co,oD y.gl]])):=by rw [show st.get d=_ from b2,List.map_append]; rfl
  have hz:((((ds'.map Dy.k++[PyData.tuple [.int y.st,.int y.lv,.int y.fl,.int y.co,oD y.gl]]).length:Nat):Int) != 0)=true:=by
   rw [bne_iff_ne,List.length_append,List.length_singleton]
   omega
  simp_arith only [jp,bL,bI,bH,aF,aw,aI,aD,aE,aH,aG,au,av,bC,ba,bB,bc,aT,aS,aR,bU,bT,bS,bR,bQ,bA,bn,bj,bh,bg,aB,aA,az,ay,bp,bu,aQ,aP,aO,bY,bX,bW,bV,aZ,aN,aM,bb,bF,bE,bD,bG,bx,bw,bv,bt,br,aq,aU,bz,bf,be,bq,bJ,aY,aV,aX,aW,bP,bM,bO,aL,aK,aJ,cR,cJ,cI,dg,da,c9,cN,cH,cG,c6,c5,cM,cL,cW,cV,c8,c7,cZ,cY,de,db,cX,cK,cc,ai,dD,dE,dO,dC,dN,dL,dJ,dI,dH,dG,dF,dM,dA,dB,dw,cT,cS,dr,dt,dq,di,dm,cQ,ne_eq,not_false_eq_true,b1,b2,hz,ig,ndk,nkd,Bool.not_true,cK,Bool.false_eq_true,↓reduceIte]
  refine ⟨_,rfl,⟨?_,?_⟩,λa ha hl=>?_⟩
  ·rw [cc]
  ·rw [ai ndk,ai ndk,cc]
  ·rw [ai ha,ai ha,ai hl]
theorem Zlv (B:KpOk st k d s q) (hg:q.gl=none) (hd:q.ds=[]):rn (jp [.d (af k)]) st=some (st,.d (.bool false)):=by
 have b1:=B.at_
 have b2:=B.ls
 rw [hg] at b1
 rw [hd] at b2
 have b1:st.get k=some (.dct (eL s.d (.int q.st) .none (af d))):=b1
 have b2:st.get d=some (.lst []):=b2
 have hz:((((0:Nat):Int)) != 0)=false:=rfl
 simp_arith only [jp,bL,bI,bH,aF,aw,aI,aD,aE,aH,aG,au,av,bC,ba,bB,bc,aT,aS,aR,bU,bT,bS,bR,bQ,bA,bn,bj,bh,bg,aB,aA,az,ay,bp,bu,aQ,aP,aO,bY,bX,bW,bV,aZ,aN,aM,bb,bF,bE,bD,bG,bx,bw,bv,bt,br,aq,aU,bz,bf,be,bq,bJ,aY,aV,aX,aW,bP,bM,bO,aL,aK,aJ,cR,cJ,cI,dg,da,c9,cN,cH,cG,c6,c5,cM,cL,cW,cV,c8,c7,cZ,cY,de,db,cX,cK,cc,ai,dD,dE,dO,dC,dN,dL,dJ,dI,dH,dG,dF,dM,dA,dB,dw,cT,cS,dr,dt,dq,di,dm,cQ,ne_eq,not_false_eq_true,b1,b2,hz,ig,Bool.not_true,Bool.not_false,Bool.false_eq_true,↓reduceIte]
end
section
variable {C b l k d:Addr} {st:Sto} {s:Shp} {q:Qs} {n:Nat}
theorem Zdb (h:s.Ok) (B:BkOk C st b l s q) (w:QOk s q n) (hn:q.ds.length<=1000) (t:Int) (X:Sl) :
  rn (q9 C [.d (af b),.d (af k),.d (.list (q.ds.map Dy.t)),.d (.int t),X]) st=some (st,.next [.d (af b),.d (af k),.d (.list (q.ds.map Dy.t)),.d (.int t),.own ((q.ds.map Dy.t++[PyData.tuple []]).reverse)]):=by
 have b1:=B.at_
 have e1:=ZlE B hn
 have r1:=Zgo h w.ds hn
 have r2:gw jS [.list (q.ds.map Dy.t)]=.ret (.str (PyData.list (q.ds.map Dy.t)).shown):=ZjT r1
 have r3:qh (.list (q.ds.map Dy.t))=.ret (.str (PyData.list (q.ds.map Dy.t)).shown):=r2
 have hm:small ((q.ds.map Dy.t).length+1)=true:=jd (by rw [List.length_map]; omega)
 have i1:jt "list" (.list (q.ds.map Dy.t))=.ret (.bool true):=rfl
 generalize (PyData.list (q.ds.map Dy.t)).shown=z at r2 r3
 have es:=Zaz z
 simp_arith only [q9,bL,bI,bH,aF,aw,aI,aD,aE,aH,aG,au,av,bC,ba,bB,bc,aT,aS,aR,bU,bT,bS,bR,bQ,bA,bn,bj,bh,bg,aB,aA,az,ay,bp,bu,aQ,aP,aO,bY,bX,bW,bV,aZ,aN,aM,bb,bF,bE,bD,bG,bx,bw,bv,bt,br,aq,aU,bz,bf,be,bq,bJ,aY,aV,aX,aW,bP,bM,bO,aL,aK,aJ,cR,cJ,cI,dg,da,c9,cN,cH,cG,c6,c5,cM,cL,cW,cV,c8,c7,cZ,cY,de,db,cX,cK,cc,ai,dD,dE,dO,dC,dN,dL,dJ,dI,dH,dG,dF,dM,dA,dB,dw,cT,cS,dr,dt,dq,di,dm,cQ,ne_eq,not_false_eq_true,b1,e1,r2,r3,i1,hm,es,Bool.not_true,Bool.not_false]
theorem lf (h:s.Ok) (B:BkOk C st b l s q) (D:KpOk st k d s q) (w:QOk s q n) (hn:q.ds.length<=1000):rn (hZ C [.d (af b),.d (af k)]) st=some (st,.d (.bool true)):=by
 have b1:=B.at_
 have d1:=D.at_
 have d2:=D.ls
 have e1:=Zlx B
 have e2:=Zly B
 have e3:=ZlB h D w hn
 have e4:=Zdd q.st
 have e5:=Zdd (q.pd s)
 have t0:=λX=>Zdb (k:=k) h B w hn 0 X
 have t1:=λX=>Zdb (k:=k) h B w hn 1 X
 have hs:small (q.ds.map Dy.k).length=true:=jd (by rw [List.length_map]; omega)
 have rg:jR [.int 2]=.ret [.int 0,.int 1]:=rfl
 have e:eY (iO (cy 0) (ni C) (blk 1 [] [.d (af b),.d (af k),.un,.un,.un])) (q.ds.map Dy.k)=.ret (q.ds.map Dy.t):=by
  generalize q.ds=ds
  induction ds with
  | nil=>rfl
  | cons y ds ih =>
   have e1:iO (cy 0) (ni C) (blk 1 [] [.d (af b),.d (af k),.un,.un,.un]) y.k=.ret y.t:=by
    unfold Dy.k
    simp_arith only [ni,Tr.bind_assoc,Tr.draw_bind,aq,pS]
    rfl
   rw [List.map_cons,eY,e1,Tr.ret_bind,ih]
   rfl
 simp_arith only [hZ,bL,bI,bH,aF,aw,aI,aD,aE,aH,aG,au,av,bC,ba,bB,bc,aT,aS,aR,bU,bT,bS,bR,bQ,bA,bn,bj,bh,bg,aB,aA,az,ay,bp,bu,aQ,aP,aO,bY,bX,bW,bV,aZ,aN,aM,bb,bF,bE,bD,bG,bx,bw,bv,bt,br,aq,aU,bz,bf,be,bq,bJ,aY,aV,aX,aW,bP,bM,bO,aL,aK,aJ,cR,cJ,cI,dg,da,c9,cN,cH,cG,c6,c5,cM,cL,cW,cV,c8,c7,cZ,cY,de,db,cX,cK,cc,ai,dD,dE,dO,dC,dN,dL,dJ,dI,dH,dG,dF,dM,dA,dB,dw,cT,cS,dr,dt,dq,di,dm,cQ,ne_eq,not_false_eq_true,b1,d1,d2,e1,e2,e3,e4,e5,hs,rg,Bool.not_true,Bool.not_false] at e ⊢
 simp_arith only [bL,bI,bH,aF,aw,aI,aD,aE,aH,aG,au,av,bC,ba,bB,bc,aT,aS,aR,bU,bT,bS,bR,bQ,bA,bn,bj,bh,bg,aB,aA,az,ay,bp,bu,aQ,aP,aO,bY,bX,bW,bV,aZ,aN,aM,bb,bF,bE,bD,bG,bx,bw,bv,bt,br,aq,aU,bz,bf,be,bq,bJ,aY,aV,aX,aW,bP,bM,bO,aL,aK,aJ,cR,cJ,cI,dg,da,c9,cN,cH,cG,c6,c5,cM,cL,cW,cV,c8,c7,cZ,cY,de,db,cX,cK,cc,ai,dD,dE,dO,dC,dN,dL,dJ,dI,dH,dG,dF,dM,dA,dB,dw,cT,cS,dr,dt,dq,di,dm,cQ,ne_eq,not_false_eq_true,e,t0,t1,rg,ox]
end
theorem BkOk.step {C b l:Addr} {st st':Sto} {s:Shp} {q:Qs} (B:BkOk C st b l s q) (h1:st'.get b=st.get b) (h2:st'.get l=st.get l):BkOk C st' b l s q:=⟨by rw [h1]; exact B.at_,by rw [h2]; exact B.ls⟩
theorem KpOk.step {k d:Addr} {st st':Sto} {s:Shp} {q:Qs} (B:KpOk st k d s q) (h1:st'.get k=st.get k) (h2:st'.get d=st.get d):KpOk st' k d s q:=⟨by rw [h1]; exact B.at_,by rw [h2]; exact B.ls⟩
structure Pr (C:Addr) (st:Sto) (b l k d:Addr) (s:Shp) (q:Qs) (n:Nat):Prop where
 B:BkOk C st b l s q
 D:KpOk st k d s q
 w:QOk s q n
 ld:l≠d
section
variable {C b l k d:Addr} {st st':Sto} {s:Shp} {q:Qs} {n:Nat}
theorem Pr.bk (p:Pr C st b l k d s q n):b≠k:=λe=>by
 have h1:=p.B.at_
 have h2:=p.D.at_
 rw [e,h2] at h1; cases h1
theorem Pr.bd (p:Pr C st b l k d s q n):b≠d:=λe=>by
 have h1:=p.B.at_
 have h2:=p.D.ls
 rw [e,h2] at h1; cases h1
theorem Pr.lk (p:Pr C st b l k d s q n):l≠k:=λe=>by
 have h1:=p.B.ls
 have h2:=p.D.at_
 rw [e,h2] at h1; cases h1
theorem Pr.dk (p:Pr C st b l k d s q n):d≠k:=λe=>by
 have h1:=p.D.ls
 have h2:=p.D.at_
 rw [e,h2] at h1; cases h1
theorem Pr.step (p:Pr C st b l k d s q n) (h:∀ a,a=b\/a=l\/a=k\/a=d->st'.get a=st.get a):Pr C st' b l k d s q n:=⟨p.B.step (h b (.inl rfl)) (h l (.inr (.inl rfl))),p.D.step (h k (.inr (.inr (.inl rfl)))) (h d (.inr (.inr (.inr rfl)))),p.w,p.ld⟩
theorem KpOk.shop (D:KpOk st k d s q):ji "shop" k st=some (st,s.d):=by
 have h:=D.at_
 simp only [cM,cL,h,cT,cN]
theorem KpOk.stock (D:KpOk st k d s q):ji "stock" k st=some (st,.int q.st):=by
 have h:=D.at_
 simp only [cM,cL,h,cS,cN]
end
theorem ZmJ (q:Qs):(∃ q',q.bk q')\/(q.gl=none/\q.ds=[]):=by
 obtain ⟨x,g,ds⟩:=q
 cases g with
 | some g=>exact .inl ⟨_,.inl ⟨g,rfl,rfl⟩⟩
 | none =>
  rcases List.eq_nil_or_concat ds with rfl | ⟨ds',y,rfl⟩
  ·exact .inr ⟨rfl,rfl⟩
  ·exact .inl ⟨_,.inr ⟨rfl,ds',y,by simp,rfl⟩⟩
section
variable {C b l k d:Addr} {st:Sto} {s:Shp} {q:Qs} {n:Nat}
theorem QOk.bk (w:QOk s q n) {q':Qs} (h:q.bk q'):QOk s q' n:=by
 obtain ⟨x,g,ds⟩:=q
 rcases h with ⟨g',hg,rfl⟩ | ⟨hg,ds',y,hd,rfl⟩
 ·exact w.nogoal
 ·have hg:g=none:=hg
  have hd:ds=ds'++[y]:=hd
  subst hg hd
  exact (QOk.back w).mono (Nat.sub_le _ _)
theorem Pr.choose (h:s.Ok) (p:Pr C st b l k d s q n) (hg:q.gl=none) {y:Int} (h1:q.st<=y) (h2:y<=s.top):∃ st',rn (kX C [.d (af b),.d (.int y)]) (st.put k (.dct (eL s.d (.int q.st) (.int y) (af d))))=some (st',.d .none)/\Pr C st' b l k d s ⟨q.st,some y,q.ds⟩ n/\∀ a,a≠b->a≠l->a≠k->a≠d->st'.get a=st.get a:=by
 have B1:BkOk C (st.put k (.dct (eL s.d (.int q.st) (.int y) (af d)))) b l s q:=p.B.step (ai p.bk) (ai p.lk)
 obtain ⟨st',e,B2,f⟩:=Zdi h B1 p.w hg h1 h2
 refine ⟨st',e,⟨B2,⟨?_,?_⟩,p.w.goal h1 h2,p.ld⟩,λa hb hl hk hd=>?_⟩
 ·rw [f k p.bk.symm,cc]
  rfl
 ·rw [f d p.bd.symm,ai p.dk]
  exact p.D.ls
 ·rw [f a hb,ai hk]
theorem Pr.fell (h:s.Ok) (p:Pr C st b l k d s q n) (hn:n<=1000) {f:Int} (f0:0<=f) (f1:f < 20000000000000000000000000000):∃ st1 st',rn (j9 [.d (af k),.d (.int f)]) st=some (st1,.d .none)/\st1.get b=st.get b/\rn (ka C [.d (af b),.d (.int f)]) st1=some (st',.d .none)/\Pr C st' b l k d s (q.fall s f) (n+1)/\∀ a,a≠b->a≠l->a≠k->a≠d->st'.get a=st.get a:=by
 have hl:=Nat.le_trans p.w.len hn
 obtain ⟨st1,e1,D1,g1⟩:=Zdf h p.D p.w hl f0 f1
 have B1:BkOk C st1 b l s q:=p.B.step (g1 b p.bk p.bd) (g1 l p.lk p.ld)
 obtain ⟨st',e2,B2,g2⟩:=Zdg h B1 p.w hl f0 f1
 exact ⟨st1,st',e1,g1 b p.bk p.bd,e2,⟨B2,D1.step (g2 k p.bk.symm p.lk.symm) (g2 d p.bd.symm p.ld.symm),p.w.fall h f0 f1,p.ld⟩,λa hb hl hk hd=>by rw [g2 a hb hl,g1 a hk hd]⟩
theorem Pr.backed (h:s.Ok) (p:Pr C st b l k d s q n) (hn:n<=1000) {q':Qs} (hq:q.bk q'):∃ st1 st',rn (jp [.d (af k)]) st=some (st1,.d (.bool true))/\st1.get b=st.get b/\rn (kY C [.d (af b)]) st1=some (st',.d .none)/\Pr C st' b l k d s q' n/\∀ a,a≠b->a≠l->a≠k->a≠d->st'.get a=st.get a:=by
 have hl:=Nat.le_trans p.w.len hn
 obtain ⟨st1,e1,D1,g1⟩:=Zlw p.D hq
 have B1:BkOk C st1 b l s q:=p.B.step (g1 b p.bk p.bd) (g1 l p.lk p.ld)
 obtain ⟨st',e2,B2,g2⟩:=ZlG h B1 p.w hl hq
 exact ⟨st1,st',e1,g1 b p.bk p.bd,e2,⟨B2,D1.step (g2 k p.bk.symm p.lk.symm) (g2 d p.bd.symm p.ld.symm),p.w.bk hq,p.ld⟩,λa hb hl hk hd=>by rw [g2 a hb hl,g1 a hk hd]⟩
end
section
variable {C a b l k d:Addr} {st:Sto} {s:Shp} {q:Qs} {n:Nat}
theorem Zgd {x:Int} (ha:st.get a=some (.ins C [])):As (lY C [.d (af a),.d s.d,.d (.int x)]) st 0 λst' r=>r=.d .none/\∃ l,st.get l=none/\l≠a/\BkOk C st' a l s ⟨x,none,[]⟩/\∀ c,c≠a->c≠l->st'.get c=st.get c:=by
 simp_arith only [lY,bL,bI,bH,aF,aw,aI,aD,aE,aH,aG,au,av,bC,ba,bB,bc,aT,aS,aR,bU,bT,bS,bR,bQ,bA,bn,bj,bh,bg,aB,aA,az,ay,bp,bu,aQ,aP,aO,bY,bX,bW,bV,aZ,aN,aM,bb,bF,bE,bD,bG,bx,bw,bv,bt,br,aq,aU,bz,bf,be,bq,bJ,aY,aV,aX,aW,bP,bM,bO,aL,aK,aJ,Tr.bind_assoc,Tr.draw_bind,cz]
 refine iE (by rw [cH,ha]; exact ZeM) ?_
 try simp_arith only [bL,bI,bH,aF,aw,aI,aD,aE,aH,aG,au,av,bC,ba,bB,bc,aT,aS,aR,bU,bT,bS,bR,bQ,bA,bn,bj,bh,bg,aB,aA,az,ay,bp,bu,aQ,aP,aO,bY,bX,bW,bV,aZ,aN,aM,bb,bF,bE,bD,bG,bx,bw,bv,bt,br,aq,aU,bz,bf,be,bq,bJ,aY,aV,aX,aW,bP,bM,bO,aL,aK,aJ,Tr.bind_assoc,Tr.draw_bind,cz]
 refine iE (by rw [cH,cc]; exact ZeL) ?_
 try simp_arith only [bL,bI,bH,aF,aw,aI,aD,aE,aH,aG,au,av,bC,ba,bB,bc,aT,aS,aR,bU,bT,bS,bR,bQ,bA,bn,bj,bh,bg,aB,aA,az,ay,bp,bu,aQ,aP,aO,bY,bX,bW,bV,aZ,aN,aM,bb,bF,bE,bD,bG,bx,bw,bv,bt,br,aq,aU,bz,bf,be,bq,bJ,aY,aV,aX,aW,bP,bM,bO,aL,aK,aJ,Tr.bind_assoc,Tr.draw_bind,cz]
 refine iE (by rw [cH,cc]; exact ZeK) ?_
 try simp_arith only [bL,bI,bH,aF,aw,aI,aD,aE,aH,aG,au,av,bC,ba,bB,bc,aT,aS,aR,bU,bT,bS,bR,bQ,bA,bn,bj,bh,bg,aB,aA,az,ay,bp,bu,aQ,aP,aO,bY,bX,bW,bV,aZ,aN,aM,bb,bF,bE,bD,bG,bx,bw,bv,bt,br,aq,aU,bz,bf,be,bq,bJ,aY,aV,aX,aW,bP,bM,bO,aL,aK,aJ,Tr.bind_assoc,Tr.draw_bind,cz]
 refine iE (by rw [cH,cc]; exact ZeJ) ?_
 try simp_arith only [bL,bI,bH,aF,aw,aI,aD,aE,aH,aG,au,av,bC,ba,bB,bc,aT,aS,aR,bU,bT,bS,bR,bQ,bA,bn,bj,bh,bg,aB,aA,az,ay,bp,bu,aQ,aP,aO,bY,bX,bW,bV,aZ,aN,aM,bb,bF,bE,bD,bG,bx,bw,bv,bt,br,aq,aU,bz,bf,be,bq,bJ,aY,aV,aX,aW,bP,bM,bO,aL,aK,aJ,Tr.bind_assoc,Tr.draw_bind,cz]
 refine pZ λl hl=>?_
 have hla:l≠a:=λe=>by rw [e,cc] at hl; cases hl
 try simp_arith only [bL,bI,bH,aF,aw,aI,aD,aE,aH,aG,au,av,bC,ba,bB,bc,aT,aS,aR,bU,bT,bS,bR,bQ,bA,bn,bj,bh,bg,aB,aA,az,ay,bp,bu,aQ,aP,aO,bY,bX,bW,bV,aZ,aN,aM,bb,bF,bE,bD,bG,bx,bw,bv,bt,br,aq,aU,bz,bf,be,bq,bJ,aY,aV,aX,aW,bP,bM,bO,aL,aK,aJ,Tr.bind_assoc,Tr.draw_bind,cz]
 refine iE (by rw [cH,ai hla.symm,cc]; exact ZeI) ?_
 try simp_arith only [bL,bI,bH,aF,aw,aI,aD,aE,aH,aG,au,av,bC,ba,bB,bc,aT,aS,aR,bU,bT,bS,bR,bQ,bA,bn,bj,bh,bg,aB,aA,az,ay,bp,bu,aQ,aP,aO,bY,bX,bW,bV,aZ,aN,aM,bb,bF,bE,bD,bG,bx,bw,bv,bt,br,aq,aU,bz,bf,be,bq,bJ,aY,aV,aX,aW,bP,bM,bO,aL,aK,aJ,Tr.bind_assoc,Tr.draw_bind,cz]
 rw [ai hla,ai hla,ai hla,ai hla] at hl
 refine jf ⟨rfl,l,hl,hla,⟨?_,?_⟩,λc hc hcl=>?_⟩
 ·rw [cc]
  rfl
 ·rw [ai hla,cc]
  rfl
 ·rw [ai hc,ai hcl,ai hc,ai hc,ai hc,ai hc]
theorem Zgc {x:Int}:As (nT [.d s.d,.d (.int x)]) st 0 λst' r=>∃ k d,r=.d (af k)/\st.get k=none/\st.get d=none/\d≠k/\KpOk st' k d s ⟨x,none,[]⟩/\∀ c,c≠k->c≠d->st'.get c=st.get c:=by
 simp_arith only [nT,bL,bI,bH,aF,aw,aI,aD,aE,aH,aG,au,av,bC,ba,bB,bc,aT,aS,aR,bU,bT,bS,bR,bQ,bA,bn,bj,bh,bg,aB,aA,az,ay,bp,bu,aQ,aP,aO,bY,bX,bW,bV,aZ,aN,aM,bb,bF,bE,bD,bG,bx,bw,bv,bt,br,aq,aU,bz,bf,be,bq,bJ,aY,aV,aX,aW,bP,bM,bO,aL,aK,aJ,Tr.bind_assoc,Tr.draw_bind,cz]
 refine pZ λd hd=>?_
 try simp_arith only [bL,bI,bH,aF,aw,aI,aD,aE,aH,aG,au,av,bC,ba,bB,bc,aT,aS,aR,bU,bT,bS,bR,bQ,bA,bn,bj,bh,bg,aB,aA,az,ay,bp,bu,aQ,aP,aO,bY,bX,bW,bV,aZ,aN,aM,bb,bF,bE,bD,bG,bx,bw,bv,bt,br,aq,aU,bz,bf,be,bq,bJ,aY,aV,aX,aW,bP,bM,bO,aL,aK,aJ,Tr.bind_assoc,Tr.draw_bind,cz]
 rw [show rZ [("shop",s.d),("stock",.int x),("goal",.none),("days",af d)]=kQ (.dct (eL s.d (.int x) .none (af d))) from ZlI ZhH]
 refine pZ λk hk=>?_
 try simp_arith only [bL,bI,bH,aF,aw,aI,aD,aE,aH,aG,au,av,bC,ba,bB,bc,aT,aS,aR,bU,bT,bS,bR,bQ,bA,bn,bj,bh,bg,aB,aA,az,ay,bp,bu,aQ,aP,aO,bY,bX,bW,bV,aZ,aN,aM,bb,bF,bE,bD,bG,bx,bw,bv,bt,br,aq,aU,bz,bf,be,bq,bJ,aY,aV,aX,aW,bP,bM,bO,aL,aK,aJ,Tr.bind_assoc,Tr.draw_bind,cz]
 have hdk:d≠k:=λe=>by rw [<- e,cc] at hk; cases hk
 rw [ai hdk.symm] at hk
 refine jf ⟨k,d,rfl,hk,hd,hdk,⟨?_,?_⟩,λc hc hcd=>?_⟩
 ·rw [cc]
  rfl
 ·rw [ai hdk,cc]
  rfl
 ·rw [ai hc,ai hcd]
theorem ZgI {s:Shp} {x:Int} (h0:-s.depth<=x) (h1:x<=s.top):QOk s ⟨x,none,[]⟩ 0:=⟨h0,h1,λg e=>(by cases e),λy hy=>(by cases hy),Nat.le_refl _⟩
theorem Zgb {x:Int} (h0:-s.depth<=x) (h1:x<=s.top) {P:Sto->PyData->Prop} 
  (kk:∀ b l st1,st.get b=none->st.get l=none->l≠b->BkOk C st1 b l s ⟨x,none,[]⟩->(∀ c,c≠b->c≠l->st1.get c=st.get c)->P st1 (af b)):As (qQ C (lY C) [.d s.d,.d (.int x)]) st 0 P:=by
 refine Zf5 λb hb=>p9 (Zgd (s:=s) (x:=x) cc) (Nat.le_refl _) ?_
 rintro st1 r ⟨rfl,l,hl,hlb,B,fr⟩
 rw [ai hlb] at hl
 exact ⟨rfl,kk b l st1 hb hl hlb B λc hc hcl=>by rw [fr c hc hcl,ai hc]⟩
end
noncomputable def iQ (x:PyData):Bool:=fU "int" (fB x) && !fU "bool" (fB x)
theorem Zde {x:PyData} (h:gX x=true):iN [.d x]=.ret (.d (.bool (iQ x))):=by
 have e:∀ T,jt T x=.ret (.bool (fU T (fB x))):=λT=>rR h
 unfold iQ
 cases h1:fU "int" (fB x)
 ·simp_arith only [iN,Tr.bind_assoc,Tr.draw_bind,e,h1,Bool.false_and]
 ·simp_arith only [iN,Tr.bind_assoc,Tr.draw_bind,e,h1,Bool.true_and]
theorem ZlF {s:Shp} {x:Int} {y:PyData} (hy:gX y=true) (h:iQ y=false\/∃ n,y=.int n/\¬ (x<=n/\n<=s.top)):h9 [.d s.d,.d (.int x),.d y]=.ret (.d (.bool false)):=by
 have e:=Zde hy
 rcases h with h | ⟨n,rfl,h⟩
 ·simp_arith only [h9,kW,Tr.bind_assoc,Tr.draw_bind,e,h]
 ·have hw:iQ (.int n)=true:=rfl
  by_cases h1:x<=n
  ·have h2:¬ n<=s.top:=λz=>h ⟨h1,z⟩
   simp_arith only [h9,kW,Tr.bind_assoc,Tr.draw_bind,e,hw,decide_eq_true h1,decide_eq_false h2]
  ·simp_arith only [h9,kW,Tr.bind_assoc,Tr.draw_bind,e,hw,decide_eq_false h1]
section
variable {C b l k d:Addr} {st:Sto} {s:Shp} {q:Qs} {n:Nat}
theorem ZeE (B:BkOk C st b l s q) (hg:q.gl=none) {y:PyData} (hb:h9 [.d s.d,.d (.int q.st),.d y]=.ret (.d (.bool false))):rn (i8 C [.d (af b),.d y]) st=some (st,none):=by
 have b1:=B.at_
 rw [hg] at b1
 have b1:st.get b=some (.ins C (eu s.d (.int q.st) .none (.int (q.pd s)) (af l))):=b1
 simp_arith only [i8,bL,bI,bH,aF,aw,aI,aD,aE,aH,aG,au,av,bC,ba,bB,bc,aT,aS,aR,bU,bT,bS,bR,bQ,bA,bn,bj,bh,bg,aB,aA,az,ay,bp,bu,aQ,aP,aO,bY,bX,bW,bV,aZ,aN,aM,bb,bF,bE,bD,bG,bx,bw,bv,bt,br,aq,aU,bz,bf,be,bq,bJ,aY,aV,aX,aW,bP,bM,bO,aL,aK,aJ,cR,cJ,cI,dg,da,c9,cN,cH,cG,c6,c5,cM,cL,cW,cV,c8,c7,cZ,cY,de,db,cX,cK,cc,ai,dD,dE,dO,dC,dN,dL,dJ,dI,dH,dG,dF,dM,dA,dB,dw,cT,cS,dr,dt,dq,di,dm,cQ,ne_eq,not_false_eq_true,b1,hb,ig,Bool.not_true,Bool.not_false]
theorem ZeD {y:PyData} (hy:gX y=true) (h:iQ y=false\/∃ n,y=.int n/\n < 0):rn (kA C [.d (af b),.d y]) st=some (st,none):=by
 have e:=Zde hy
 rcases h with h | ⟨n,rfl,h⟩
 ·simp_arith only [kA,bL,bI,bH,aF,aw,aI,aD,aE,aH,aG,au,av,bC,ba,bB,bc,aT,aS,aR,bU,bT,bS,bR,bQ,bA,bn,bj,bh,bg,aB,aA,az,ay,bp,bu,aQ,aP,aO,bY,bX,bW,bV,aZ,aN,aM,bb,bF,bE,bD,bG,bx,bw,bv,bt,br,aq,aU,bz,bf,be,bq,bJ,aY,aV,aX,aW,bP,bM,bO,aL,aK,aJ,cR,cJ,cI,dg,da,c9,cN,cH,cG,c6,c5,cM,cL,cW,cV,c8,c7,cZ,cY,de,db,cX,cK,cc,ai,dD,dE,dO,dC,dN,dL,dJ,dI,dH,dG,dF,dM,dA,dB,dw,cT,cS,dr,dt,dq,di,dm,cQ,ne_eq,not_false_eq_true,e,h,Bool.not_false]
 ·have hw:iQ (.int n)=true:=rfl
  simp_arith only [kA,bL,bI,bH,aF,aw,aI,aD,aE,aH,aG,au,av,bC,ba,bB,bc,aT,aS,aR,bU,bT,bS,bR,bQ,bA,bn,bj,bh,bg,aB,aA,az,ay,bp,bu,aQ,aP,aO,bY,bX,bW,bV,aZ,aN,aM,bb,bF,bE,bD,bG,bx,bw,bv,bt,br,aq,aU,bz,bf,be,bq,bJ,aY,aV,aX,aW,bP,bM,bO,aL,aK,aJ,cR,cJ,cI,dg,da,c9,cN,cH,cG,c6,c5,cM,cL,cW,cV,c8,c7,cZ,cY,de,db,cX,cK,cc,ai,dD,dE,dO,dC,dN,dL,dJ,dI,dH,dG,dF,dM,dA,dB,dw,cT,cS,dr,dt,dq,di,dm,cQ,ne_eq,not_false_eq_true,e,hw,decide_eq_true h,Bool.not_true]
end
noncomputable def lvs (s:Shp) (x:Int):List PyData:=[.int (x - 1),.int (s.top+1),.int (0 - s.depth - 1),.int 100000000000000000000000000000,.int (-100000000000000000000000000000),.bool true,.bool false,.none,.str "0",.str "",.str (toString x),.list [.int x],.tuple [.int x],.dict [(.int x,.int x)],.list [],.tuple [],.dict [],.tuple [.tuple [.int x]]]
noncomputable def fls:List PyData:=[.int (-1),.int (-7),.int (-100000000000000000000000000000),.bool true,.bool false,.none,.str "0",.str "",.str "1",.list [.int 0],.tuple [.int 0],.dict [(.int 0,.int 0)],.list [],.tuple [],.dict [],.tuple [.tuple [.int 0]]]
theorem ZcB {s:Shp} (h:s.Ok) {x:Int} (h0:-s.depth<=x) (h1:x<=s.top):∀ y∈lvs s x,gX y=true/\(iQ y=false\/∃ n,y=.int n/\¬ (x<=n/\n<=s.top)):=by
 have:=h.t0
 have:=h.d0
 have:=h.td
 intro y hy
 simp only [lvs,List.mem_cons,List.not_mem_nil,or_false] at hy
 rcases hy with rfl | rfl | rfl | rfl | rfl | rfl | rfl | rfl | rfl | rfl | rfl | rfl | rfl | rfl | rfl | rfl | rfl | rfl
 ·exact ⟨rfl,.inr ⟨_,rfl,by omega⟩⟩
 ·exact ⟨rfl,.inr ⟨_,rfl,by omega⟩⟩
 ·exact ⟨rfl,.inr ⟨_,rfl,by omega⟩⟩
 ·exact ⟨rfl,.inr ⟨_,rfl,by omega⟩⟩
 ·exact ⟨rfl,.inr ⟨_,rfl,by omega⟩⟩
 all_goals exact ⟨rfl,.inl rfl⟩
theorem Zjj:∀ y∈fls,gX y=true/\(iQ y=false\/∃ n,y=.int n/\n < 0):=by
 intro y hy
 simp only [fls,List.mem_cons,List.not_mem_nil,or_false] at hy
 rcases hy with rfl | rfl | rfl | rfl | rfl | rfl | rfl | rfl | rfl | rfl | rfl | rfl | rfl | rfl | rfl | rfl
 ·exact ⟨rfl,.inr ⟨_,rfl,by decide⟩⟩
 ·exact ⟨rfl,.inr ⟨_,rfl,by decide⟩⟩
 ·exact ⟨rfl,.inr ⟨_,rfl,by decide⟩⟩
 all_goals exact ⟨rfl,.inl rfl⟩
theorem ZbY:ef kK (.int 10) (.int 29)=.ret (.int 100000000000000000000000000000):=by rfl
theorem ZlD:nS []=.ret (.own fls):=by
 have p:=ZbY
 simp_arith only [nS,Tr.bind_assoc,Tr.draw_bind,p]
 rfl
theorem Zlz {s:Shp} (h:s.Ok) {x:Int} (h0:-s.depth<=x) (h1:x<=s.top):nR [.d s.d,.d (.int x)]=.ret (.own (lvs s x)):=by
 have t0:=h.t0
 have d0:=h.d0
 have td:=h.td
 have p:=ZbY
 have hs:gw lC [.int x]=.ret (.str (toString x)):=Zjw (by
  have hx:x.natAbs < 2 ^ 8:=by omega
  rcases Nat.eq_zero_or_pos x.natAbs with z | z
  ·rw [z]; decide
  ·have:=(Nat.log2_lt (Nat.ne_of_gt z)).mpr hx
   omega)
 have e:gE (n9 (cy 0) qA qt (blk 1 [1,0] [.d s.d,.d (.int x),.d (.list (lvs s x))])) (lvs s x)=.ret (lvs s x):=by
  refine Eq.trans (ZcA (f:=some) λy hy=>?_) (by rw [List.filterMap_some])
  obtain ⟨hn,hb⟩:=ZcB h h0 h1 y hy
  have e:∀ T,jt T y=.ret (.bool (fU T (fB y))):=λT=>rR hn
  have hw:iQ y=(fU "int" (fB y) && !fU "bool" (fB y)):=rfl
  simp_arith only [qA,qt,Tr.bind_assoc,Tr.draw_bind,e]
  cases h1:fU "bool" (fB y)
  ·cases h2:fU "int" (fB y)
   ·simp_arith only [Tr.bind_assoc,Tr.draw_bind,e,h2,Bool.not_false]
   ·rw [h1,h2] at hw
    rcases hb with hb | ⟨n,rfl,hb⟩
    ·rw [hb] at hw; cases hw
    ·by_cases h3:n < x
     ·simp_arith only [Tr.bind_assoc,Tr.draw_bind,e,h2,Bool.not_true,decide_eq_true h3]
     ·have h4:n > s.top:=by omega
      simp_arith only [Tr.bind_assoc,Tr.draw_bind,e,h2,Bool.not_true,decide_eq_false h3,decide_eq_true h4]
  ·simp_arith only [Tr.bind_assoc,Tr.draw_bind]
 have hl:small (lvs s x).length=true:=rfl
 simp_arith only [nR,Tr.bind_assoc,Tr.draw_bind,p,hs]
 exact congrArg (λt=>Tr.bind t λa=>Tr.ret (Re.own a)) e
theorem mX (z:Str):ef iL (.str z) (.str z)=.ret (.bool false):=by
 rw [Zc8,Zaz]
 rfl
section
variable {C b l k d:Addr} {st:Sto} {s:Shp} {q:Qs} {n:Nat}
theorem qi {s:List Sl->Tr Ou} {A B:Sl}:∀ {xs:List PyData} {X:Sl},(∀ y∈xs,rn (s [A,B,.d y]) st=some (st,.next [A,B,.d y]))->∃ X',rn (fL (cy 2) s xs [A,B,X]) st=some (st,.next [A,B,X'])
 | [],X,_=>⟨X,rfl⟩
 | y::xs,X,h=>by
  obtain ⟨X',e⟩:=qi (xs:=xs) (X:=.d y) λz hz=>h z (List.mem_cons_of_mem _ hz)
  have e1:=h y (by simp)
  refine ⟨X',?_⟩
  have eg:cy 2 y [A,B,X]=some [A,B,.d y]:=rfl
  rw [ox,eg,Tr.of_some,Tr.ret_bind]
  unfold ma
  rw [cI,e1,cJ,rS,e]
theorem rW (h:s.Ok) (p:Pr C st b l k d s q n) (hn:n<=900):rn (kT C [.d (af b),.d (af k)]) st=some (st,.d (.bool true)):=by
 have b1:=p.B.at_
 have hk:=p.D.at_
 have z:=lf h p.B p.D p.w (Nat.le_trans p.w.len (by omega))
 have e1:=Zlz h p.w.s0 p.w.s1
 have e2:=ZlD
 have w1:=mX "level"
 have w2:=mX "fall"
 obtain ⟨X1,f1⟩:=qi (st:=st) (s:=rh C) (A:=.d (af b)) (B:=.d (af k)) (xs:=lvs s q.st) (X:=.un) λy hy=>by
  obtain ⟨hn,hb⟩:=ZcB h p.w.s0 p.w.s1 y hy
  have e:rn (i8 C [.d (af b),.d y]) st=some (st,none):=by
   cases hg:q.gl with
   | none=>exact ZeE p.B hg (ZlF hn hb)
   | some g=>exact Zae p.B hg y
  simp_arith only [rh,bL,bI,bH,aF,aw,aI,aD,aE,aH,aG,au,av,bC,ba,bB,bc,aT,aS,aR,bU,bT,bS,bR,bQ,bA,bn,bj,bh,bg,aB,aA,az,ay,bp,bu,aQ,aP,aO,bY,bX,bW,bV,aZ,aN,aM,bb,bF,bE,bD,bG,bx,bw,bv,bt,br,aq,aU,bz,bf,be,bq,bJ,aY,aV,aX,aW,bP,bM,bO,aL,aK,aJ,cR,cJ,cI,dg,da,c9,cN,cH,cG,c6,c5,cM,cL,cW,cV,c8,c7,cZ,cY,de,db,cX,cK,cc,ai,dD,dE,dO,dC,dN,dL,dJ,dI,dH,dG,dF,dM,dA,dB,dw,cT,cS,dr,dt,dq,di,dm,cQ,ne_eq,not_false_eq_true,b1,e,z,w1,Option.map_none,Bool.not_true]
 obtain ⟨X2,f2⟩:=qi (st:=st) (s:=rf C) (A:=.d (af b)) (B:=.d (af k)) (xs:=fls) (X:=X1) λy hy=>by
  obtain ⟨hn,hb⟩:=Zjj y hy
  have e:rn (kA C [.d (af b),.d y]) st=some (st,none):=ZeD hn hb
  simp_arith only [rf,bL,bI,bH,aF,aw,aI,aD,aE,aH,aG,au,av,bC,ba,bB,bc,aT,aS,aR,bU,bT,bS,bR,bQ,bA,bn,bj,bh,bg,aB,aA,az,ay,bp,bu,aQ,aP,aO,bY,bX,bW,bV,aZ,aN,aM,bb,bF,bE,bD,bG,bx,bw,bv,bt,br,aq,aU,bz,bf,be,bq,bJ,aY,aV,aX,aW,bP,bM,bO,aL,aK,aJ,cR,cJ,cI,dg,da,c9,cN,cH,cG,c6,c5,cM,cL,cW,cV,c8,c7,cZ,cY,de,db,cX,cK,cc,ai,dD,dE,dO,dC,dN,dL,dJ,dI,dH,dG,dF,dM,dA,dB,dw,cT,cS,dr,dt,dq,di,dm,cQ,ne_eq,not_false_eq_true,b1,e,z,w2,Option.map_none,Bool.not_true]
 simp_arith only [kT,bL,bI,bH,aF,aw,aI,aD,aE,aH,aG,au,av,bC,ba,bB,bc,aT,aS,aR,bU,bT,bS,bR,bQ,bA,bn,bj,bh,bg,aB,aA,az,ay,bp,bu,aQ,aP,aO,bY,bX,bW,bV,aZ,aN,aM,bb,bF,bE,bD,bG,bx,bw,bv,bt,br,aq,aU,bz,bf,be,bq,bJ,aY,aV,aX,aW,bP,bM,bO,aL,aK,aJ,cR,cJ,cI,dg,da,c9,cN,cH,cG,c6,c5,cM,cL,cW,cV,c8,c7,cZ,cY,de,db,cX,cK,cc,ai,dD,dE,dO,dC,dN,dL,dJ,dI,dH,dG,dF,dM,dA,dB,dw,cT,cS,dr,dt,dq,di,dm,cQ,ne_eq,not_false_eq_true,hk,e1,f1,e2,f2]
end
structure Ad where
 b:Addr
 l:Addr
 k:Addr
 d:Addr
noncomputable def Ad.has (A:Ad) (c:Addr):Prop:=c=A.b\/c=A.l\/c=A.k\/c=A.d
noncomputable abbrev Pa (C:Addr) (st:Sto) (A:Ad) (s:Shp) (q:Qs) (n:Nat):Prop:=Pr C st A.b A.l A.k A.d s q n
structure Dj (A B:Ad):Prop where
 ne:∀ c,A.has c->¬ B.has c
theorem Dj.symm {A B:Ad} (h:Dj A B):Dj B A:=⟨λc hb ha=>h.ne c ha hb⟩
section
variable {C:Addr} {st st':Sto} {A B:Ad} {s s':Shp} {q q':Qs} {n m:Nat}
theorem Pr.up (p:Pa C st A s q n) (h:n<=m):Pa C st A s q m:=⟨p.B,p.D,p.w.mono h,p.ld⟩
theorem Pr.frame (p:Pa C st B s q n) (dj:Dj A B) (fr:∀ a,¬ A.has a->st'.get a=st.get a):Pa C st' B s q n:=p.step λa ha=>fr a λz=>dj.ne a z ha
theorem Pr.some (p:Pa C st A s q n) (c:Addr) (h:A.has c):st.get c≠none:=by
 rcases h with e | e | e | e <;> rw [e]
 ·rw [p.B.at_]; exact nofun
 ·rw [p.B.ls]; exact nofun
 ·rw [p.D.at_]; exact nofun
 ·rw [p.D.ls]; exact nofun
theorem rL (fr:∀ a,a≠A.b->a≠A.l->a≠A.k->a≠A.d->st'.get a=st.get a):∀ a,¬ A.has a->st'.get a=st.get a:=λa hn=>by
 unfold Ad.has at hn
 exact fr a (λe=>hn (.inl e)) (λe=>hn (.inr (.inl e))) (λe=>hn (.inr (.inr (.inl e)))) λe=>hn (.inr (.inr (.inr e)))
theorem Zge (h:s.Ok) (p:Pa C st A s q n) (hg:q.gl=none) (hn:n<=900) (X2 X5 X6:Sl) :
  As (rj C [.pen,.d s.d,X2,.d (af A.b),.d (af A.k),X5,X6]) st 3 λst' o=>∃ Y6 q',o=.next [.pen,.d s.d,X2,.d (af A.b),.d (af A.k),X5,Y6]/\Pa C st' A s q' (n+1)/\q'.gl=none/\∀ a,¬ A.has a->st'.get a=st.get a:=by
 have t0:=h.t0
 have d0:=h.d0
 have td:=h.td
 have s0:=p.w.s0
 have s1:=p.w.s1
 have el:∀ ρ,rj C ρ=(eK _ _ _ ρ).bind (mZ _):=λρ=>Zc6
 rw [el]
 refine fZ (n:=2) (n':=1) (P:=λst' o=>o=.next [.pen,.d s.d,X2,.d (af A.b),.d (af A.k),X5,X6]/\(∃ q',Pa C st' A s q' n)/\∀ a,¬ A.has a->st'.get a=st.get a) ?_ (by decide) ?_
 ·simp_arith only [bL,bI,bH,aF,aw,aI,aD,aE,aH,aG,au,av,bC,ba,bB,bc,aT,aS,aR,bU,bT,bS,bR,bQ,bA,bn,bj,bh,bg,aB,aA,az,ay,bp,bu,aQ,aP,aO,bY,bX,bW,bV,aZ,aN,aM,bb,bF,bE,bD,bG,bx,bw,bv,bt,br,aq,aU,bz,bf,be,bq,bJ,aY,aV,aX,aW,bP,bM,bO,aL,aK,aJ,Tr.bind_assoc,Tr.draw_bind,cz]
  refine kG (n:=1) (by decide) (by decide) (by decide) λr r0 r1=>?_
  try simp_arith only [bL,bI,bH,aF,aw,aI,aD,aE,aH,aG,au,av,bC,ba,bB,bc,aT,aS,aR,bU,bT,bS,bR,bQ,bA,bn,bj,bh,bg,aB,aA,az,ay,bp,bu,aQ,aP,aO,bY,bX,bW,bV,aZ,aN,aM,bb,bF,bE,bD,bG,bx,bw,bv,bt,br,aq,aU,bz,bf,be,bq,bJ,aY,aV,aX,aW,bP,bM,bO,aL,aK,aJ,Tr.bind_assoc,Tr.draw_bind,cz]
  by_cases hr:(r == 1)=true
  ·simp_arith only [bL,bI,bH,aF,aw,aI,aD,aE,aH,aG,au,av,bC,ba,bB,bc,aT,aS,aR,bU,bT,bS,bR,bQ,bA,bn,bj,bh,bg,aB,aA,az,ay,bp,bu,aQ,aP,aO,bY,bX,bW,bV,aZ,aN,aM,bb,bF,bE,bD,bG,bx,bw,bv,bt,br,aq,aU,bz,bf,be,bq,bJ,aY,aV,aX,aW,bP,bM,bO,aL,aK,aJ,Tr.bind_assoc,Tr.draw_bind,cz,hr]
   refine iE p.D.stock ?_
   try simp_arith only [bL,bI,bH,aF,aw,aI,aD,aE,aH,aG,au,av,bC,ba,bB,bc,aT,aS,aR,bU,bT,bS,bR,bQ,bA,bn,bj,bh,bg,aB,aA,az,ay,bp,bu,aQ,aP,aO,bY,bX,bW,bV,aZ,aN,aM,bb,bF,bE,bD,bG,bx,bw,bv,bt,br,aq,aU,bz,bf,be,bq,bJ,aY,aV,aX,aW,bP,bM,bO,aL,aK,aJ,Tr.bind_assoc,Tr.draw_bind,cz]
   refine iE p.D.stock ?_
   try simp_arith only [bL,bI,bH,aF,aw,aI,aD,aE,aH,aG,au,av,bC,ba,bB,bc,aT,aS,aR,bU,bT,bS,bR,bQ,bA,bn,bj,bh,bg,aB,aA,az,ay,bp,bu,aQ,aP,aO,bY,bX,bW,bV,aZ,aN,aM,bb,bF,bE,bD,bG,bx,bw,bv,bt,br,aq,aU,bz,bf,be,bq,bJ,aY,aV,aX,aW,bP,bM,bO,aL,aK,aJ,Tr.bind_assoc,Tr.draw_bind,cz]
   refine kG (n:=0) (by omega) (by omega) (by decide) λy y0 y1=>?_
   obtain ⟨st',e,p2,fr⟩:=p.choose h hg (y:=q.st+y) (by omega) (by omega)
   have hk:=p.D.at_
   have hb:=p.B.at_
   have nbk:=p.bk
   rw [hg] at hk hb
   have hk:st.get A.k=some (.dct (eL s.d (.int q.st) .none (af A.d))):=hk
   have hb:st.get A.b=some (.ins C (eu s.d (.int q.st) .none (.int (q.pd s)) (af A.l))):=hb
   refine jP (s:=st') (a:=.next [.pen,.d s.d,X2,.d (af A.b),.d (af A.k),X5,X6]) ?_ ⟨rfl,⟨_,p2⟩,rL fr⟩
   simp_arith only [bL,bI,bH,aF,aw,aI,aD,aE,aH,aG,au,av,bC,ba,bB,bc,aT,aS,aR,bU,bT,bS,bR,bQ,bA,bn,bj,bh,bg,aB,aA,az,ay,bp,bu,aQ,aP,aO,bY,bX,bW,bV,aZ,aN,aM,bb,bF,bE,bD,bG,bx,bw,bv,bt,br,aq,aU,bz,bf,be,bq,bJ,aY,aV,aX,aW,bP,bM,bO,aL,aK,aJ,cR,cJ,cI,dg,da,c9,cN,cH,cG,c6,c5,cM,cL,cW,cV,c8,c7,cZ,cY,de,db,cX,cK,cc,ai,dD,dE,dO,dC,dN,dL,dJ,dI,dH,dG,dF,dM,dA,dB,dw,cT,cS,dr,dt,dq,di,dm,cQ,ne_eq,not_false_eq_true,hk,hb,nbk,e]
  ·have hr:(r == 1)=false:=by simpa using hr
   simp_arith only [bL,bI,bH,aF,aw,aI,aD,aE,aH,aG,au,av,bC,ba,bB,bc,aT,aS,aR,bU,bT,bS,bR,bQ,bA,bn,bj,bh,bg,aB,aA,az,ay,bp,bu,aQ,aP,aO,bY,bX,bW,bV,aZ,aN,aM,bb,bF,bE,bD,bG,bx,bw,bv,bt,br,aq,aU,bz,bf,be,bq,bJ,aY,aV,aX,aW,bP,bM,bO,aL,aK,aJ,Tr.bind_assoc,Tr.draw_bind,cz,hr]
   exact jf ⟨rfl,⟨q,p⟩,λ_ _=>rfl⟩
 ·rintro st1 _ ⟨rfl,⟨q1,p1⟩,fr1⟩
  simp_arith only [bL,bI,bH,aF,aw,aI,aD,aE,aH,aG,au,av,bC,ba,bB,bc,aT,aS,aR,bU,bT,bS,bR,bQ,bA,bn,bj,bh,bg,aB,aA,az,ay,bp,bu,aQ,aP,aO,bY,bX,bW,bV,aZ,aN,aM,bb,bF,bE,bD,bG,bx,bw,bv,bt,br,aq,aU,bz,bf,be,bq,bJ,aY,aV,aX,aW,bP,bM,bO,aL,aK,aJ,Tr.bind_assoc,Tr.draw_bind,cz]
  refine kG (n:=0) (by decide) (by decide) (by decide) λf f0 f1=>?_
  try simp_arith only [bL,bI,bH,aF,aw,aI,aD,aE,aH,aG,au,av,bC,ba,bB,bc,aT,aS,aR,bU,bT,bS,bR,bQ,bA,bn,bj,bh,bg,aB,aA,az,ay,bp,bu,aQ,aP,aO,bY,bX,bW,bV,aZ,aN,aM,bb,bF,bE,bD,bG,bx,bw,bv,bt,br,aq,aU,bz,bf,be,bq,bJ,aY,aV,aX,aW,bP,bM,bO,aL,aK,aJ,Tr.bind_assoc,Tr.draw_bind,cz]
  obtain ⟨st2,st',e1,e0,e2,p2,fr⟩:=p1.fell h (by omega) f0 (by omega)
  have hb1:=e0.trans p1.B.at_
  refine jP (s:=st') (a:=.next [.pen,.d s.d,X2,.d (af A.b),.d (af A.k),X5,.d (.int f)]) ?_ ⟨_,_,rfl,p2,rfl,λa ha=>by rw [rL fr a ha,fr1 a ha]⟩
  simp_arith only [bL,bI,bH,aF,aw,aI,aD,aE,aH,aG,au,av,bC,ba,bB,bc,aT,aS,aR,bU,bT,bS,bR,bQ,bA,bn,bj,bh,bg,aB,aA,az,ay,bp,bu,aQ,aP,aO,bY,bX,bW,bV,aZ,aN,aM,bb,bF,bE,bD,bG,bx,bw,bv,bt,br,aq,aU,bz,bf,be,bq,bJ,aY,aV,aX,aW,bP,bM,bO,aL,aK,aJ,cR,cJ,cI,dg,da,c9,cN,cH,cG,c6,c5,cM,cL,cW,cV,c8,c7,cZ,cY,de,db,cX,cK,cc,ai,dD,dE,dO,dC,dN,dL,dJ,dI,dH,dG,dF,dM,dA,dB,dw,cT,cS,dr,dt,dq,di,dm,cQ,ne_eq,not_false_eq_true,e1,e2,hb1]
theorem Za4:As (lW C [.pen]) st 60 λst' r=>∃ (A:Ad) (s:Shp) (q:Qs),r=.d (.tuple [af A.b,af A.k])/\s.Ok/\Pa C st' A s q 4/\q.gl=none/\(∀ c,A.has c->st.get c=none)/\∀ c,¬ A.has c->st'.get c=st.get c:=by
 simp_arith only [lW,bL,bI,bH,aF,aw,aI,aD,aE,aH,aG,au,av,bC,ba,bB,bc,aT,aS,aR,bU,bT,bS,bR,bQ,bA,bn,bj,bh,bg,aB,aA,az,ay,bp,bu,aQ,aP,aO,bY,bX,bW,bV,aZ,aN,aM,bb,bF,bE,bD,bG,bx,bw,bv,bt,br,aq,aU,bz,bf,be,bq,bJ,aY,aV,aX,aW,bP,bM,bO,aL,aK,aJ,Tr.bind_assoc,Tr.draw_bind,cz]
 refine Zf7 (n:=30) (n':=30) Zf9 (by decide) ?_
 rintro _ ⟨s,rfl,hs⟩
 have ok:=hs.ok
 have t0:=ok.t0
 have d0:=ok.d0
 have td:=ok.td
 try simp_arith only [bL,bI,bH,aF,aw,aI,aD,aE,aH,aG,au,av,bC,ba,bB,bc,aT,aS,aR,bU,bT,bS,bR,bQ,bA,bn,bj,bh,bg,aB,aA,az,ay,bp,bu,aQ,aP,aO,bY,bX,bW,bV,aZ,aN,aM,bb,bF,bE,bD,bG,bx,bw,bv,bt,br,aq,aU,bz,bf,be,bq,bJ,aY,aV,aX,aW,bP,bM,bO,aL,aK,aJ,Tr.bind_assoc,Tr.draw_bind,cz]
 refine kG (n:=29) (by omega) (by omega) (by decide) λr r0 r1=>?_
 try simp_arith only [bL,bI,bH,aF,aw,aI,aD,aE,aH,aG,au,av,bC,ba,bB,bc,aT,aS,aR,bU,bT,bS,bR,bQ,bA,bn,bj,bh,bg,aB,aA,az,ay,bp,bu,aQ,aP,aO,bY,bX,bW,bV,aZ,aN,aM,bb,bF,bE,bD,bG,bx,bw,bv,bt,br,aq,aU,bz,bf,be,bq,bJ,aY,aV,aX,aW,bP,bM,bO,aL,aK,aJ,Tr.bind_assoc,Tr.draw_bind,cz]
 refine fZ (n:=0) (n':=29) (Zgb (s:=s) (x:=r - s.depth) (by omega) (by omega) (P:=λst' v=>∃ b l,v=af b/\st.get b=none/\st.get l=none/\l≠b/\BkOk C st' b l s ⟨r - s.depth,none,[]⟩/\∀ c,c≠b->c≠l->st'.get c=st.get c) λb l st1 h1 h2 h3 h4 h5=>⟨b,l,rfl,h1,h2,h3,h4,h5⟩) (by decide) ?_
 rintro st1 _ ⟨b,l,rfl,hb,hl,hlb,B,fr⟩
 try simp_arith only [bL,bI,bH,aF,aw,aI,aD,aE,aH,aG,au,av,bC,ba,bB,bc,aT,aS,aR,bU,bT,bS,bR,bQ,bA,bn,bj,bh,bg,aB,aA,az,ay,bp,bu,aQ,aP,aO,bY,bX,bW,bV,aZ,aN,aM,bb,bF,bE,bD,bG,bx,bw,bv,bt,br,aq,aU,bz,bf,be,bq,bJ,aY,aV,aX,aW,bP,bM,bO,aL,aK,aJ,Tr.bind_assoc,Tr.draw_bind,cz]
 refine fZ (n:=0) (n':=29) (Zgc (s:=s) (x:=r - s.depth)) (by decide) ?_
 rintro st2 _ ⟨k,d,rfl,hk,hd,hdk,D,fr2⟩
 try simp_arith only [bL,bI,bH,aF,aw,aI,aD,aE,aH,aG,au,av,bC,ba,bB,bc,aT,aS,aR,bU,bT,bS,bR,bQ,bA,bn,bj,bh,bg,aB,aA,az,ay,bp,bu,aQ,aP,aO,bY,bX,bW,bV,aZ,aN,aM,bb,bF,bE,bD,bG,bx,bw,bv,bt,br,aq,aU,bz,bf,be,bq,bJ,aY,aV,aX,aW,bP,bM,bO,aL,aK,aJ,Tr.bind_assoc,Tr.draw_bind,cz]
 have b1:=B.at_
 have b2:=B.ls
 have nkb:b≠k:=λe=>by rw [<- e,b1] at hk; cases hk
 have nkl:l≠k:=λe=>by rw [<- e,b2] at hk; cases hk
 have ndb:b≠d:=λe=>by rw [<- e,b1] at hd; cases hd
 have ndl:l≠d:=λe=>by rw [<- e,b2] at hd; cases hd
 have p:Pa C st2 ⟨b,l,k,d⟩ s ⟨r - s.depth,none,[]⟩ 0:=⟨B.step (fr2 b nkb ndb) (fr2 l nkl ndl),D,ZgI (by omega) (by omega),ndl⟩
 have new:∀ c,(Ad.mk b l k d).has c->st.get c=none:=λc hc=>by
  rcases hc with e | e | e | e
  ·rw [show c=b from e]; exact hb
  ·rw [show c=l from e]; exact hl
  ·rw [show c=k from e,<- fr k nkb.symm nkl.symm]; exact hk
  ·rw [show c=d from e,<- fr d ndb.symm ndl.symm]; exact hd
 have old:∀ c,¬ (Ad.mk b l k d).has c->st2.get c=st.get c:=λc hc=>by
  unfold Ad.has at hc
  rw [fr2 c (λe=>hc (.inr (.inr (.inl e)))) (λe=>hc (.inr (.inr (.inr e)))),fr c (λe=>hc (.inl e)) (λe=>hc (.inr (.inl e)))]
 refine kG (n:=12) (by decide) (by decide) (by decide) λm m0 m1=>?_
 have rm:jR [.int m]=.ret (f8 0 m):=Zc7 (ZcT (by omega) (by omega))
 simp_arith only [bL,bI,bH,aF,aw,aI,aD,aE,aH,aG,au,av,bC,ba,bB,bc,aT,aS,aR,bU,bT,bS,bR,bQ,bA,bn,bj,bh,bg,aB,aA,az,ay,bp,bu,aQ,aP,aO,bY,bX,bW,bV,aZ,aN,aM,bb,bF,bE,bD,bG,bx,bw,bv,bt,br,aq,aU,bz,bf,be,bq,bJ,aY,aV,aX,aW,bP,bM,bO,aL,aK,aJ,Tr.bind_assoc,Tr.draw_bind,cz,rm]
 refine fZ (n:=12) (n':=0) (P:=λst' o=>∃ X5 X6 q,o=.next [.pen,.d s.d,.d (.int (r - s.depth)),.d (af b),.d (af k),X5,X6]/\Pa C st' ⟨b,l,k,d⟩ s q 4/\q.gl=none/\∀ c,¬ (Ad.mk b l k d).has c->st'.get c=st2.get c) (Zf6 (n:=3) (λpre st' ρ=>∃ X5 X6 q,ρ=[.pen,.d s.d,.d (.int (r - s.depth)),.d (af b),.d (af k),X5,X6]/\Pa C st' ⟨b,l,k,d⟩ s q pre.length/\q.gl=none/\∀ c,¬ (Ad.mk b l k d).has c->st'.get c=st2.get c) ⟨_,_,_,rfl,p,rfl,λ_ _=>rfl⟩ (by rw [kH]; omega) ?_ ?_) (by decide) ?_
 ·rintro pre x post st' ρ ee ⟨X5,X6,q,rfl,p,hg,fo⟩
  obtain ⟨rfl,hlt⟩:=Zgq ee
  refine ⟨_,rfl,p9 (Zge ok p hg (by omega) _ _ X6) (Nat.le_refl _) ?_⟩
  rintro st3 _ ⟨Y6,q',rfl,p2,hg2,fo2⟩
  exact ⟨_,rfl,_,Y6,q',rfl,by rw [List.length_append,List.length_singleton]; exact p2,hg2,λc hc=>by rw [fo2 c hc,fo c hc]⟩
 ·rintro st' ρ ⟨X5,X6,q,rfl,p,hg,fo⟩
  exact ⟨X5,X6,q,rfl,p.up (by rw [kH]; omega),hg,fo⟩
 ·rintro st3 _ ⟨X5,X6,q,rfl,p3,hg3,fo⟩
  try simp_arith only [bL,bI,bH,aF,aw,aI,aD,aE,aH,aG,au,av,bC,ba,bB,bc,aT,aS,aR,bU,bT,bS,bR,bQ,bA,bn,bj,bh,bg,aB,aA,az,ay,bp,bu,aQ,aP,aO,bY,bX,bW,bV,aZ,aN,aM,bb,bF,bE,bD,bG,bx,bw,bv,bt,br,aq,aU,bz,bf,be,bq,bJ,aY,aV,aX,aW,bP,bM,bO,aL,aK,aJ,Tr.bind_assoc,Tr.draw_bind,cz]
  exact jf ⟨⟨b,l,k,d⟩,s,q,rfl,ok,p3,hg3,new,λc hc=>by rw [fo c hc,old c hc]⟩
end
noncomputable def Qs.ms (q:Qs):Nat:=2 * q.ds.length+if q.gl.isSome then 1 else 0
theorem Zh0 {q q':Qs} (h:q.bk q'):q'.ms < q.ms:=by
 obtain ⟨x,g,ds⟩:=q
 rcases h with ⟨g',hg,rfl⟩ | ⟨hg,ds',y,hd,rfl⟩
 ·have hg:g=some g':=hg
  subst hg
  show 2 * ds.length+0 < 2 * ds.length+1
  omega
 ·have hg:g=none:=hg
  have hd:ds=ds'++[y]:=hd
  subst hg hd
  show 2 * ds'.length+(if y.gl.isSome then 1 else 0) < 2 * (ds'++[y]).length+0
  rw [List.length_append,List.length_singleton]
  split <;> omega
theorem ZhZ {s:Shp} {q:Qs} {n:Nat} (w:QOk s q n):q.ms<=2 * n+1:=by
 have:=w.len
 unfold Qs.ms
 split <;> omega
section
variable {C:Addr} {st:Sto} {A B:Ad} {s s':Shp} {q q':Qs} {n:Nat}
theorem ZgD (h:s.Ok) (p:Pa C st A s q n) (hn:n<=900) (X0 X3 X4 X5 X6 X7:Sl) :
  ∃ st',rn (hV (mL C) (re C) 100000 [X0,.d (af A.b),.d (af A.k),X3,X4,X5,X6,X7]) st=some (st',.next [X0,.d (af A.b),.d (af A.k),X3,X4,X5,X6,X7])/\(∃ q,Pa C st' A s q n/\q.gl=none/\q.ds=[])/\∀ a,¬ A.has a->st'.get a=st.get a:=by
 refine cQ (λm st2=>(∃ q,Pa C st2 A s q n/\q.ms=m)/\∀ a,¬ A.has a->st2.get a=st.get a) ?_ q.ms 100000 st ⟨⟨q,p,rfl⟩,λ_ _=>rfl⟩ (by have:=ZhZ p.w; omega)
 rintro m st2 ⟨⟨q,p,rfl⟩,fo⟩
 rcases ZmJ q with ⟨q',hq⟩ | ⟨hg,hd⟩
 ·obtain ⟨st1,st',e1,e0,e2,p2,fr⟩:=p.backed h (by omega) hq
  have hb1:=e0.trans p.B.at_
  refine .inr ⟨st1,st',q'.ms,?_,?_,Zh0 hq,⟨q',p2,rfl⟩,λa ha=>by rw [rL fr a ha,fo a ha]⟩
  ·simp_arith only [mL,bL,bI,bH,aF,aw,aI,aD,aE,aH,aG,au,av,bC,ba,bB,bc,aT,aS,aR,bU,bT,bS,bR,bQ,bA,bn,bj,bh,bg,aB,aA,az,ay,bp,bu,aQ,aP,aO,bY,bX,bW,bV,aZ,aN,aM,bb,bF,bE,bD,bG,bx,bw,bv,bt,br,aq,aU,bz,bf,be,bq,bJ,aY,aV,aX,aW,bP,bM,bO,aL,aK,aJ,cR,cJ,cI,dg,da,c9,cN,cH,cG,c6,c5,cM,cL,cW,cV,c8,c7,cZ,cY,de,db,cX,cK,cc,ai,dD,dE,dO,dC,dN,dL,dJ,dI,dH,dG,dF,dM,dA,dB,dw,cT,cS,dr,dt,dq,di,dm,cQ,ne_eq,not_false_eq_true,e1]
  ·simp_arith only [re,bL,bI,bH,aF,aw,aI,aD,aE,aH,aG,au,av,bC,ba,bB,bc,aT,aS,aR,bU,bT,bS,bR,bQ,bA,bn,bj,bh,bg,aB,aA,az,ay,bp,bu,aQ,aP,aO,bY,bX,bW,bV,aZ,aN,aM,bb,bF,bE,bD,bG,bx,bw,bv,bt,br,aq,aU,bz,bf,be,bq,bJ,aY,aV,aX,aW,bP,bM,bO,aL,aK,aJ,cR,cJ,cI,dg,da,c9,cN,cH,cG,c6,c5,cM,cL,cW,cV,c8,c7,cZ,cY,de,db,cX,cK,cc,ai,dD,dE,dO,dC,dN,dL,dJ,dI,dH,dG,dF,dM,dA,dB,dw,cT,cS,dr,dt,dq,di,dm,cQ,ne_eq,not_false_eq_true,hb1,e2]
 ·have e1:=Zlv p.D hg hd
  refine .inl ⟨st2,?_,⟨q,p,hg,hd⟩,fo⟩
  simp_arith only [mL,bL,bI,bH,aF,aw,aI,aD,aE,aH,aG,au,av,bC,ba,bB,bc,aT,aS,aR,bU,bT,bS,bR,bQ,bA,bn,bj,bh,bg,aB,aA,az,ay,bp,bu,aQ,aP,aO,bY,bX,bW,bV,aZ,aN,aM,bb,bF,bE,bD,bG,bx,bw,bv,bt,br,aq,aU,bz,bf,be,bq,bJ,aY,aV,aX,aW,bP,bM,bO,aL,aK,aJ,cR,cJ,cI,dg,da,c9,cN,cH,cG,c6,c5,cM,cL,cW,cV,c8,c7,cZ,cY,de,db,cX,cK,cc,ai,dD,dE,dO,dC,dN,dL,dJ,dI,dH,dG,dF,dM,dA,dB,dw,cT,cS,dr,dt,dq,di,dm,cQ,ne_eq,not_false_eq_true,e1]
theorem ZaX (h:s.Ok) (p:Pa C st A s q n) (hg:q.gl=none) (hn:n<=800):As (lV C [.pen,.d (af A.b),.d (af A.k)]) st 1 λst' r=>r=.d (.bool true)/\(∃ q,Pa C st' A s q (n+1)/\q.gl=none)/\∀ a,¬ A.has a->st'.get a=st.get a:=by
 have t0:=h.t0
 have d0:=h.d0
 have td:=h.td
 have s0:=p.w.s0
 have s1:=p.w.s1
 have er:=rW h p (by omega)
 have r2:jR [.int 2]=.ret [.int 0,.int 1]:=rfl
 simp_arith only [lV,bL,bI,bH,aF,aw,aI,aD,aE,aH,aG,au,av,bC,ba,bB,bc,aT,aS,aR,bU,bT,bS,bR,bQ,bA,bn,bj,bh,bg,aB,aA,az,ay,bp,bu,aQ,aP,aO,bY,bX,bW,bV,aZ,aN,aM,bb,bF,bE,bD,bG,bx,bw,bv,bt,br,aq,aU,bz,bf,be,bq,bJ,aY,aV,aX,aW,bP,bM,bO,aL,aK,aJ,Tr.bind_assoc,Tr.draw_bind,cz,r2]
 refine iE p.D.shop ?_
 try simp_arith only [bL,bI,bH,aF,aw,aI,aD,aE,aH,aG,au,av,bC,ba,bB,bc,aT,aS,aR,bU,bT,bS,bR,bQ,bA,bn,bj,bh,bg,aB,aA,az,ay,bp,bu,aQ,aP,aO,bY,bX,bW,bV,aZ,aN,aM,bb,bF,bE,bD,bG,bx,bw,bv,bt,br,aq,aU,bz,bf,be,bq,bJ,aY,aV,aX,aW,bP,bM,bO,aL,aK,aJ,Tr.bind_assoc,Tr.draw_bind,cz,r2]
 refine iE p.D.stock ?_
 try simp_arith only [bL,bI,bH,aF,aw,aI,aD,aE,aH,aG,au,av,bC,ba,bB,bc,aT,aS,aR,bU,bT,bS,bR,bQ,bA,bn,bj,bh,bg,aB,aA,az,ay,bp,bu,aQ,aP,aO,bY,bX,bW,bV,aZ,aN,aM,bb,bF,bE,bD,bG,bx,bw,bv,bt,br,aq,aU,bz,bf,be,bq,bJ,aY,aV,aX,aW,bP,bM,bO,aL,aK,aJ,Tr.bind_assoc,Tr.draw_bind,cz,r2]
 refine fZ (n:=0) (n':=1) (P:=λst' r=>st=st'/\r=.d (.bool true)) (jP er ⟨rfl,rfl⟩) (by decide) ?_
 rintro _ _ ⟨rfl,rfl⟩
 simp_arith only [bL,bI,bH,aF,aw,aI,aD,aE,aH,aG,au,av,bC,ba,bB,bc,aT,aS,aR,bU,bT,bS,bR,bQ,bA,bn,bj,bh,bg,aB,aA,az,ay,bp,bu,aQ,aP,aO,bY,bX,bW,bV,aZ,aN,aM,bb,bF,bE,bD,bG,bx,bw,bv,bt,br,aq,aU,bz,bf,be,bq,bJ,aY,aV,aX,aW,bP,bM,bO,aL,aK,aJ,Tr.bind_assoc,Tr.draw_bind,cz,r2,Bool.not_true]
 refine kG (n:=0) (by omega) (by omega) (by decide) λr r0 r1=>?_
 have h1:q.st<=q.st+r:=by omega
 have h2:q.st+r<=s.top:=by omega
 obtain ⟨st1,e1,B1,f1⟩:=Zdi h p.B p.w hg h1 h2
 have hb:=p.B.at_
 have hk:=p.D.at_
 rw [hg] at hk
 have hk1:st1.get A.k=some (.dct (eL s.d (.int q.st) .none (af A.d))):=by rw [f1 _ p.bk.symm]; exact hk
 obtain ⟨st2,hs2⟩:∃ st2,st1.put A.k (.dct (eL s.d (.int q.st) (.int (q.st+r)) (af A.d)))=st2:=⟨_,rfl⟩
 have p2:Pa C st2 A s ⟨q.st,some (q.st+r),q.ds⟩ n:=by
  refine ⟨B1.step ?_ ?_,⟨?_,?_⟩,p.w.goal h1 h2,p.ld⟩
  ·rw [<- hs2,ai p.bk]
  ·rw [<- hs2,ai p.lk]
  ·rw [<- hs2,cc]
   rfl
  ·rw [<- hs2,ai p.dk,f1 _ p.bd.symm]
   exact p.D.ls
 have o2:∀ a,¬ A.has a->st2.get a=st.get a:=λa ha=>by
  unfold Ad.has at ha
  rw [<- hs2,ai (λe=>ha (.inr (.inr (.inl e)))),f1 a λe=>ha (.inl e)]
 have hl2:=Nat.le_trans p2.w.len hn
 have hb2:=p2.B.at_
 have c2:=λy=>Zae p2.B rfl y
 have z2:=lf h p2.B p2.D p2.w (by omega)
 have er2:=rW h p2 (by omega)
 have wl:=mX "level"
 have wb:=mX "back"
 obtain ⟨st3,e3,B3,f3⟩:=Zdg h p2.B p2.w (by omega) (f:=3) (by decide) (by decide)
 have D3:KpOk st3 A.k A.d s ⟨q.st,some (q.st+r),q.ds⟩:=p2.D.step (f3 _ p2.bk.symm p2.lk.symm) (f3 _ p2.bd.symm p2.ld.symm)
 obtain ⟨st4,e4,D4,f4⟩:=Zdf h D3 p2.w (by omega) (f:=3) (by decide) (by decide)
 have p4:Pa C st4 A s ((Qs.mk q.st (some (q.st+r)) q.ds).fall s 3) (n+1):=⟨B3.step (f4 _ p2.bk p2.bd) (f4 _ p2.lk p2.ld),D4,p2.w.fall h (by decide) (by decide),p2.ld⟩
 have o4:∀ a,¬ A.has a->st4.get a=st.get a:=λa ha=>by
  have hh:=ha
  unfold Ad.has at ha
  rw [f4 a (λe=>ha (.inr (.inr (.inl e)))) (λe=>ha (.inr (.inr (.inr e)))),f3 a (λe=>ha (.inl e)) (λe=>ha (.inr (.inl e))),o2 a hh]
 have z4:=lf h p4.B p4.D p4.w (Nat.le_trans p4.w.len (by omega))
 obtain ⟨st5,e5,⟨q5,p5,g5,d5⟩,f5⟩:=ZgD h p4 (by omega) .pen (.d (.int s.top)) (.d (.int q.st)) (.d (.int (q.st+r))) (.d (.int s.top)) .un
 have b5:=ZeF p5.B g5 d5
 have z5:=lf h p5.B p5.D p5.w (Nat.le_trans p5.w.len (by omega))
 have hb5:=p5.B.at_
 have er5:=rW h p5 (by omega)
 refine jP (s:=st5) (a:=.d (.bool true)) ?_ ⟨rfl,⟨q5,p5,g5⟩,λa ha=>by rw [f5 a ha,o4 a ha]⟩
 have k1:l4 C=l4 C:=rfl
 have t1:∀ (y:PyData) (X7:Sl),rn (l4 C [.pen,.d (af A.b),.d (af A.k),.d (.int s.top),.d (.int q.st),.d (.int (q.st+r)),.d y,X7]) st2=some (st2,.next [.pen,.d (af A.b),.d (af A.k),.d (.int s.top),.d (.int q.st),.d (.int (q.st+r)),.d y,X7]):=λy X7=>by
  have c2y:=c2 y
  simp_arith only [l4,bL,bI,bH,aF,aw,aI,aD,aE,aH,aG,au,av,bC,ba,bB,bc,aT,aS,aR,bU,bT,bS,bR,bQ,bA,bn,bj,bh,bg,aB,aA,az,ay,bp,bu,aQ,aP,aO,bY,bX,bW,bV,aZ,aN,aM,bb,bF,bE,bD,bG,bx,bw,bv,bt,br,aq,aU,bz,bf,be,bq,bJ,aY,aV,aX,aW,bP,bM,bO,aL,aK,aJ,cR,cJ,cI,dg,da,c9,cN,cH,cG,c6,c5,cM,cL,cW,cV,c8,c7,cZ,cY,de,db,cX,cK,cc,ai,dD,dE,dO,dC,dN,dL,dJ,dI,dH,dG,dF,dM,dA,dB,dw,cT,cS,dr,dt,dq,di,dm,cQ,ne_eq,not_false_eq_true,hb2,c2y,z2,wl,Option.map_none,Bool.not_true]
 have t5:∀ (y:PyData) (X6:Sl),rn (ra C [.pen,.d (af A.b),.d (af A.k),.d (.int s.top),.d (.int q.st),.d (.int (q.st+r)),X6,.d y]) st5=some (st5,.next [.pen,.d (af A.b),.d (af A.k),.d (.int s.top),.d (.int q.st),.d (.int (q.st+r)),X6,.d y]):=λy X6=>by
  simp_arith only [ra,bL,bI,bH,aF,aw,aI,aD,aE,aH,aG,au,av,bC,ba,bB,bc,aT,aS,aR,bU,bT,bS,bR,bQ,bA,bn,bj,bh,bg,aB,aA,az,ay,bp,bu,aQ,aP,aO,bY,bX,bW,bV,aZ,aN,aM,bb,bF,bE,bD,bG,bx,bw,bv,bt,br,aq,aU,bz,bf,be,bq,bJ,aY,aV,aX,aW,bP,bM,bO,aL,aK,aJ,cR,cJ,cI,dg,da,c9,cN,cH,cG,c6,c5,cM,cL,cW,cV,c8,c7,cZ,cY,de,db,cX,cK,cc,ai,dD,dE,dO,dC,dN,dL,dJ,dI,dH,dG,dF,dM,dA,dB,dw,cT,cS,dr,dt,dq,di,dm,cQ,ne_eq,not_false_eq_true,hb5,b5,z5,wb,Option.map_none,Bool.not_true]
 simp_arith only [bL,bI,bH,aF,aw,aI,aD,aE,aH,aG,au,av,bC,ba,bB,bc,aT,aS,aR,bU,bT,bS,bR,bQ,bA,bn,bj,bh,bg,aB,aA,az,ay,bp,bu,aQ,aP,aO,bY,bX,bW,bV,aZ,aN,aM,bb,bF,bE,bD,bG,bx,bw,bv,bt,br,aq,aU,bz,bf,be,bq,bJ,aY,aV,aX,aW,bP,bM,bO,aL,aK,aJ,cR,cJ,cI,dg,da,c9,cN,cH,cG,c6,c5,cM,cL,cW,cV,c8,c7,cZ,cY,de,db,cX,cK,cc,ai,dD,dE,dO,dC,dN,dL,dJ,dI,dH,dG,dF,dM,dA,dB,dw,cT,cS,dr,dt,dq,di,dm,cQ,ne_eq,not_false_eq_true,hb,e1,hk1,hs2,ox,t1,er2,hb2,e3,e4,z4,e5,t5,er5,r2,Bool.not_true]
theorem Zio:As (lX C oa) ⟨[]⟩ 200 λ_ o=>o=.ret (.d (.bool true)):=by
 simp_arith only [lX,oa,bL,bI,bH,aF,aw,aI,aD,aE,aH,aG,au,av,bC,ba,bB,bc,aT,aS,aR,bU,bT,bS,bR,bQ,bA,bn,bj,bh,bg,aB,aA,az,ay,bp,bu,aQ,aP,aO,bY,bX,bW,bV,aZ,aN,aM,bb,bF,bE,bD,bG,bx,bw,bv,bt,br,aq,aU,bz,bf,be,bq,bJ,aY,aV,aX,aW,bP,bM,bO,aL,aK,aJ,Tr.bind_assoc,Tr.draw_bind,cz]
 refine fZ (n:=60) (n':=140) Za4 (by decide) ?_
 rintro st1 _ ⟨A,s,q,rfl,h,p,hg,new,old⟩
 simp_arith only [bL,bI,bH,aF,aw,aI,aD,aE,aH,aG,au,av,bC,ba,bB,bc,aT,aS,aR,bU,bT,bS,bR,bQ,bA,bn,bj,bh,bg,aB,aA,az,ay,bp,bu,aQ,aP,aO,bY,bX,bW,bV,aZ,aN,aM,bb,bF,bE,bD,bG,bx,bw,bv,bt,br,aq,aU,bz,bf,be,bq,bJ,aY,aV,aX,aW,bP,bM,bO,aL,aK,aJ,Tr.bind_assoc,Tr.draw_bind,cz]
 refine fZ (n:=60) (n':=80) Za4 (by decide) ?_
 rintro st2 _ ⟨B,s',q',rfl,h',p',hg',new',old'⟩
 have dj:Dj A B:=⟨λc ha hb=>p.some c ha (new' c hb)⟩
 have pa:=p.frame dj.symm old'
 simp_arith only [bL,bI,bH,aF,aw,aI,aD,aE,aH,aG,au,av,bC,ba,bB,bc,aT,aS,aR,bU,bT,bS,bR,bQ,bA,bn,bj,bh,bg,aB,aA,az,ay,bp,bu,aQ,aP,aO,bY,bX,bW,bV,aZ,aN,aM,bb,bF,bE,bD,bG,bx,bw,bv,bt,br,aq,aU,bz,bf,be,bq,bJ,aY,aV,aX,aW,bP,bM,bO,aL,aK,aJ,Tr.bind_assoc,Tr.draw_bind,cz]
 refine fZ (n:=1) (n':=79) (ZaX h pa hg (by decide)) (by decide) ?_
 rintro st3 _ ⟨rfl,⟨q3,p3,g3⟩,o3⟩
 have pb:=p'.frame dj o3
 have z3:=lf h' pb.B pb.D pb.w (Nat.le_trans pb.w.len (by decide))
 simp_arith only [bL,bI,bH,aF,aw,aI,aD,aE,aH,aG,au,av,bC,ba,bB,bc,aT,aS,aR,bU,bT,bS,bR,bQ,bA,bn,bj,bh,bg,aB,aA,az,ay,bp,bu,aQ,aP,aO,bY,bX,bW,bV,aZ,aN,aM,bb,bF,bE,bD,bG,bx,bw,bv,bt,br,aq,aU,bz,bf,be,bq,bJ,aY,aV,aX,aW,bP,bM,bO,aL,aK,aJ,Tr.bind_assoc,Tr.draw_bind,cz,Bool.not_true]
 refine fZ (n:=0) (n':=79) (P:=λst' r=>st'=st3/\r=.d (.bool true)) (jP z3 ⟨rfl,rfl⟩) (by decide) ?_
 rintro _ _ ⟨rfl,rfl⟩
 simp_arith only [bL,bI,bH,aF,aw,aI,aD,aE,aH,aG,au,av,bC,ba,bB,bc,aT,aS,aR,bU,bT,bS,bR,bQ,bA,bn,bj,bh,bg,aB,aA,az,ay,bp,bu,aQ,aP,aO,bY,bX,bW,bV,aZ,aN,aM,bb,bF,bE,bD,bG,bx,bw,bv,bt,br,aq,aU,bz,bf,be,bq,bJ,aY,aV,aX,aW,bP,bM,bO,aL,aK,aJ,Tr.bind_assoc,Tr.draw_bind,cz,Bool.not_true]
 refine fZ (n:=1) (n':=78) (ZaX h' pb hg' (by decide)) (by decide) ?_
 rintro st4 _ ⟨rfl,_,o4⟩
 have pa4:=p3.frame dj.symm o4
 have z4:=lf h pa4.B pa4.D pa4.w (Nat.le_trans pa4.w.len (by decide))
 simp_arith only [bL,bI,bH,aF,aw,aI,aD,aE,aH,aG,au,av,bC,ba,bB,bc,aT,aS,aR,bU,bT,bS,bR,bQ,bA,bn,bj,bh,bg,aB,aA,az,ay,bp,bu,aQ,aP,aO,bY,bX,bW,bV,aZ,aN,aM,bb,bF,bE,bD,bG,bx,bw,bv,bt,br,aq,aU,bz,bf,be,bq,bJ,aY,aV,aX,aW,bP,bM,bO,aL,aK,aJ,Tr.bind_assoc,Tr.draw_bind,cz]
 refine fZ (n:=0) (n':=78) (P:=λst' r=>st'=st4/\r=.d (.bool true)) (jP z4 ⟨rfl,rfl⟩) (by decide) ?_
 rintro _ _ ⟨rfl,rfl⟩
 try simp_arith only [bL,bI,bH,aF,aw,aI,aD,aE,aH,aG,au,av,bC,ba,bB,bc,aT,aS,aR,bU,bT,bS,bR,bQ,bA,bn,bj,bh,bg,aB,aA,az,ay,bp,bu,aQ,aP,aO,bY,bX,bW,bV,aZ,aN,aM,bb,bF,bE,bD,bG,bx,bw,bv,bt,br,aq,aU,bz,bf,be,bq,bJ,aY,aV,aX,aW,bP,bM,bO,aL,aK,aJ,Tr.bind_assoc,Tr.draw_bind,cz]
 exact jf rfl
theorem Zil (C:Addr):(lX C oa).ok 0 λ_ o=>o=.ret (.d (.bool true)):=Tr.ok_mono (Tr.alls_ok (m:=0) Zio.out (by decide)) λ_ _ h=>h.2
end
end My
open PySem PySem.W PyProof.Rows L2
theorem My.g_mk {K:PySem.W.Frag} {mg:Str->Option Value} {h:Heap} (X:K.In h) (G:h.Ns mainGlobals mg) {n:Str} {v:Int} {t:Tok} (z:PySem.W.nsIn K mainGlobals n=some (some (.int v t))):∃ t,mg n=some (.int v t):=⟨_,PySem.W.mg_of X G z⟩
set_option maxRecDepth 100000 in
set_option maxHeartbeats 0 in
theorem PySem.Challenge.cw_twomarks_k55_books_refuse_holds : PySem.Challenge.rw_twomarks_k55_books_refuse.Holds := by
 refine My.hd ?_
 k_fill
 refine L2.ZeQ (l:=PySem.Challenge.rw_twomarks_k55_books_refuse) (k:=9) (x:="_law_script") rfl rfl ⟨rfl,by decide,by decide,rfl⟩ ?F
 case F =>
  intro w mg fa h KX G hmg
  have x_Book:∃ C:Addr,My.OK_Book (L2.lw KX) mg C:=by
   dsimp only [L2.lw]
   refine' ⟨_,PySem.W.mg_of KX G ?nm,⟨?pg,?hd,?po,?sa⟩,L2.lQ ?n_shop,L2.lQ ?n_morning,L2.lQ ?n_chosen,L2.lQ ?n_spent,L2.lQ ?n_ended,L2.ZiB ?mk ?ia ?ii ?ikc ?il ?ic ?ik ?ib,L2.kR ?choose_a ?choose_i ?choose_l ?choose_c ?choose_k ?choose_b,L2.kR ?fall_a ?fall_i ?fall_l ?fall_c ?fall_k ?fall_b,L2.kR ?back_a ?back_i ?back_l ?back_c ?back_k ?back_b,L2.kR ?stock_a ?stock_i ?stock_l ?stock_c ?stock_k ?stock_b,L2.kR ?paid_a ?paid_i ?paid_l ?paid_c ?paid_k ?paid_b,L2.kR ?days_a ?days_i ?days_l ?days_c ?days_k ?days_b⟩
   (case nm=>k_is)
   (case pg=>k_is)
   (case hd=>k_is)
   (case po=>k_is)
   (case sa=>k_is)
   (case n_shop=>k_is)
   (case n_morning=>k_is)
   (case n_chosen=>k_is)
   (case n_spent=>k_is)
   (case n_ended=>k_is)
   (case mk=>k_is)
   (case ia=>k_is)
   (case ii=>k_is)
   (case ikc=>k_is)
   (case il=>k_is)
   (case ic=>k_is)
   (case ik=>k_is)
   (case ib=>intro _ _ _ _ _ _ us hl; obtain ⟨_,_,_,rfl⟩:=L2.nZ hl; rfl)
   (case choose_a=>k_is)
   (case choose_i=>k_is)
   (case choose_l=>k_is)
   (case choose_c=>k_is)
   (case choose_k=>k_is)
   (case choose_b=>intro _ _ _ _ _ _ us hl; obtain ⟨_,_,rfl⟩:=L2.lZ hl; rfl)
   (case fall_a=>k_is)
   (case fall_i=>k_is)
   (case fall_l=>k_is)
   (case fall_c=>k_is)
   (case fall_k=>k_is)
   (case fall_b=>intro _ _ _ _ _ _ us hl; obtain ⟨_,_,rfl⟩:=L2.lZ hl; rfl)
   (case back_a=>k_is)
   (case back_i=>k_is)
   (case back_l=>k_is)
   (case back_c=>k_is)
   (case back_k=>k_is)
   (case back_b=>intro _ _ _ _ _ _ us hl; obtain ⟨_,rfl⟩:=L2.k8 hl; rfl)
   (case stock_a=>k_is)
   (case stock_i=>k_is)
   (case stock_l=>k_is)
   (case stock_c=>k_is)
   (case stock_k=>k_is)
   (case stock_b=>intro _ _ _ _ _ _ us hl; obtain ⟨_,rfl⟩:=L2.k8 hl; rfl)
   (case paid_a=>k_is)
   (case paid_i=>k_is)
   (case paid_l=>k_is)
   (case paid_c=>k_is)
   (case paid_k=>k_is)
   (case paid_b=>intro _ _ _ _ _ _ us hl; obtain ⟨_,rfl⟩:=L2.k8 hl; rfl)
   (case days_a=>k_is)
   (case days_i=>k_is)
   (case days_l=>k_is)
   (case days_c=>k_is)
   (case days_k=>k_is)
   (case days_b=>intro _ _ _ _ _ _ us hl; obtain ⟨_,rfl⟩:=L2.k8 hl; rfl)
  have x_refs:∃ D E_NoLevel E_NoFall E_NoBack E_NoRow E_NoText E_NoMean E_NoShare E_NoStand:Addr,My.Refs (L2.lw KX) mg D E_NoLevel E_NoFall E_NoBack E_NoRow E_NoText E_NoMean E_NoShare E_NoStand:=by
   dsimp only [L2.lw]
   refine' ⟨_,_,_,_,_,_,_,_,_,PySem.W.mg_of KX G ?hD,PySem.W.mg_of KX G ?h_NoLevel,PySem.W.mg_of KX G ?h_NoFall,PySem.W.mg_of KX G ?h_NoBack,PySem.W.mg_of KX G ?h_NoRow,PySem.W.mg_of KX G ?h_NoText,PySem.W.mg_of KX G ?h_NoMean,PySem.W.mg_of KX G ?h_NoShare,PySem.W.mg_of KX G ?h_NoStand,L2.rQ KX ?q_NoLevel ?r_NoLevel ?u_NoLevel ?v_NoLevel ?y_NoLevel,L2.rQ KX ?q_NoFall ?r_NoFall ?u_NoFall ?v_NoFall ?y_NoFall,L2.rQ KX ?q_NoBack ?r_NoBack ?u_NoBack ?v_NoBack ?y_NoBack⟩
   (case hD=>k_is); (case h_NoLevel=>k_is); (case h_NoFall=>k_is); (case h_NoBack=>k_is); (case h_NoRow=>k_is); (case h_NoText=>k_is); (case h_NoMean=>k_is); (case h_NoShare=>k_is); (case h_NoStand=>k_is)
   (case q_NoLevel=>kernel_rfl!); (case r_NoLevel=>kernel_rfl!); (case u_NoLevel=>kernel_rfl!); (case v_NoLevel=>kit_is); (case y_NoLevel=>kit_is)
   (case q_NoFall=>kernel_rfl!); (case r_NoFall=>kernel_rfl!); (case u_NoFall=>kernel_rfl!); (case v_NoFall=>kit_is); (case y_NoFall=>kit_is)
   (case q_NoBack=>kernel_rfl!); (case r_NoBack=>kernel_rfl!); (case u_NoBack=>kernel_rfl!); (case v_NoBack=>kit_is); (case y_NoBack=>kit_is)
  have T:My.Txt (L2.lw KX) mg:=by
   dsimp only [L2.lw] at *
   constructor
   all_goals first
    | exact x_Book
    | exact x_refs
    | (refine PySem.W.mg_none_of KX G ?_; k_is)
    | (refine' My.g_mk KX G ?z; (case z=>k_is))
    | (refine' L2.ZlN KX G ?a ?l ?c ?k ?b; (case a=>k_is); (case l=>k_is); (case c=>k_is); (case k=>k_is); (case b=>intro _ _ _ _ _ _ us hl; first | (obtain ⟨_,rfl⟩:=L2.k8 hl; rfl) | (obtain ⟨_,_,rfl⟩:=L2.lZ hl; rfl) | (obtain ⟨_,_,_,rfl⟩:=L2.nZ hl; rfl) | (obtain ⟨_,_,_,_,rfl⟩:=L2.Zif hl; rfl) | (cases us with | nil=>rfl | cons _ _=>cases hl)))
  obtain ⟨C_Book,B_Book⟩:=x_Book
  obtain ⟨f,fd,Fl,hm,_⟩:=T.ZlS.ex
  have e0:=hmg.symm.trans hm
  cases e0
  have hb:∀ (s:Shared) (u:Value),BindsTo s fd ⟨[u],[]⟩ [("_law_script",u)]:=by
   obtain ⟨oc,od,kV,doc,pm,an,cdv,ct,osl,rfl,lk,hcd⟩:=Fl.ex
   exact λs u=>.of_eq rfl
  refine L2.ZeZ (x1:="_law_refused_right") (st1:=My.jh) (ps1:=["_law_book","_law_kept"]) (x2:="_law_right") (st2:=My.jQ) (ps2:=["_law_pen_here","_law_book","_law_kept"]) ?h1 ?h2 hb λc1 P1 c2 P2 D1 D2 base BK=>My.ZhF T B_Book D1 D2 BK Fl (My.Zil C_Book)
  case h1 =>
   refine' L2.Zdp KX G ?a ?l ?c ?k ?b ?e ?v ?m ?p
   (case a=>k_is); (case l=>k_is); (case c=>k_is); (case k=>k_is); (case b=>intro _ _ _ _ _ _ us hl; obtain ⟨_,_,rfl⟩:=L2.lZ hl; rfl); (case e=>k_is); (case v=>exact ⟨_,_,_,_,_,_,_,rfl,rfl,rfl,rfl,rfl⟩); (case m=>rfl); (case p=>kernel_rfl!)
  case h2 =>
   refine' L2.Zdp KX G ?a ?l ?c ?k ?b ?e ?v ?m ?p
   (case a=>k_is); (case l=>k_is); (case c=>k_is); (case k=>k_is); (case b=>intro _ _ _ _ _ _ us hl; obtain ⟨_,_,_,rfl⟩:=L2.nZ hl; rfl); (case e=>k_is); (case v=>exact ⟨_,_,_,_,_,_,_,rfl,rfl,rfl,rfl,rfl⟩); (case m=>rfl); (case p=>kernel_rfl!)
