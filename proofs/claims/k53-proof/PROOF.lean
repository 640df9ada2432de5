import PyProof.Rows.All
import OpenK.KLine
import OpenK.KWalk
import OpenK.KOwn
import KE.IntTextLaws
import KE.KDictOf
import KE.KFromBytes
import KE.KIntText
import KE.RegKIsAll
import KE.KItem
import KE.KRevIter
import KE.KRevSl
import KE.KxBytes
import PySem.Challenge.RW_twomarks_k53_whole_texts_by_all_readers
set_option Elab.async false
set_option linter.all false
set_option maxRecDepth 100000
set_option maxHeartbeats 0
noncomputable abbrev My.vw : PySem.Program := PySem.W.view
 PySem.Challenge.rw_twomarks_k53_whole_texts_by_all_readers.row.prog [1, 2, 3, 4, 5, 6, 7, 8, 9, 11, 12, 14, 15, 17, 18, 19, 20, 21, 22, 23, 24, 25, 26, 27, 29, 30, 31, 32, 33, 34, 35, 36, 37, 38, 39, 41, 42, 43, 44, 45, 46, 47, 48, 49, 51, 52, 53, 54, 55, 56, 57, 58, 59, 60, 61, 62, 63, 64, 65, 66, 67, 68]
open PySem PySem.W in
theorem My.hd_s {p:Program} {N:Nat} {α β:Type} {S:Shared->α×β} {G:α×β} (a:∀ w,(openEnds treeTable p w N).map (λs=>(S s).1)=some G.1) (b:∀ w,(openEnds treeTable p w N).map (λs=>(S s).2)=some G.2):∀ w,(openEnds treeTable p w N).map S=some G:=λw=>by
 have h:=a w
 have g:=b w
 cases e:openEnds treeTable p w N with
 | none=>rw [e] at h;exact nomatch h
 | some s=>rw [e,Option.map_some] at h g;rw [Option.map_some];exact congrArg some (Prod.ext (Option.some.inj h) (Option.some.inj g))
open PySem PySem.W in
theorem My.hd_l {p q:Program} {loose:List Str} {Xt:Shared->Bool} {α:Type} {Yf:Shared->α} {Ya:World->α} {N:Nat} (a:∀ w,(openEnds treeTable p w N).map (λs=>openSeen q loose (importedModules p.main.body) Xt true s)=some (openGood q loose)) (b:∀ w,(openEnds treeTable p w N).map Yf=some (Ya w)):LeftO p q loose Xt Yf Ya N:=λw=>by
 have h:=a w
 have g:=b w
 cases e:openEnds treeTable p w N with
 | none=>rw [e] at h;exact nomatch h
 | some s=>rw [e,Option.map_some] at h g;rw [Option.map_some,Option.some.inj h,Option.some.inj g]
theorem My.hd_b {A B C H:Prop} (f:A->B->C->H) (p:A∧B∧C):H:=f p.1 p.2.1 p.2.2
local macro_rules
 | `(tactic| o_head $H:term) => `(tactic| (
  refine My.hd_b (λa b c => PySem.W.holds_open (q := My.vw) (loose := ["PART"])
   (Xt := λs => PySem.W.xlAt My.vw [("PART", .int 10000000000000000000000000000000000000000000000000000000000000000)] s && PySem.W.recOk
    (PySem.W.RowW.records PySem.Challenge.rw_twomarks_k53_whole_texts_by_all_readers.row.toRowW) s)
   (XP := PySem.W.XL My.vw [("PART", .int 10000000000000000000000000000000000000000000000000000000000000000)]) (Yf := ($H).obs)
   (Ya := ($H).val) (YP := ($H).says) (N := 20000) (My.hd_l a b)
   ($H).of ($H).keeps (λs e => PySem.W.xl_of s
    (Bool.and_eq_true_iff.mp e).1) PySem.W.XL.keeps
   (by rfl) (by rfl) (by rfl)
   (λs e => PySem.W.recFacts_of
    (Bool.and_eq_true_iff.mp e).2)
   (by rfl) ?k1 (by decide +kernel)
   ⟨rfl, rfl, rfl, rfl, rfl, by decide +kernel⟩ ?hw c) ?hc
  (case k1 => assumption)))
open_top My.hd_0 for PySem.Challenge.rw_twomarks_k53_whole_texts_by_all_readers
noncomputable def My.hd_n:=λx0 x1 x2 x3 b c=>My.hd_0 ⟨(My.hd_s x0 (My.hd_s x1 (My.hd_s x2 x3))),b,c⟩
noncomputable def My.hd_n0:=λx1 x2 x3 b c=>My.hd_n (λw=>by kernel_rfl) x1 x2 x3 b c
noncomputable def My.hd_n1:=λx2 x3 b c=>My.hd_n0 (λw=>by kernel_rfl) x2 x3 b c
noncomputable def My.hd_n2:=λx3 b c=>My.hd_n1 (λw=>by kernel_rfl) x3 b c
noncomputable def My.hd_n3:=λb c=>My.hd_n2 (λw=>by kernel_rfl) b c
noncomputable def My.hd_1:=My.hd_n3
noncomputable def My.hd:=λc=>My.hd_1 (λw=>by kernel_rfl) c
set_option maxHeartbeats 4000000
namespace L2
open PySem PySem.Spec PyProof.Rows
noncomputable abbrev aI:=Sum Int Str
noncomputable def lu:aI->Value->Bool
 | .inl k,v=>Value.isInt k v
 | .inr x,v=>Value.isStrOf x v
noncomputable def Zjo (w:World):aI->Int
 | .inl k=>hashInt k
 | .inr x=>hashStr w x
theorem il:∀ {k:aI} {v:Value},lu k v=true->(∃ i t,k=Sum.inl i/\v=Value.int i t)\/(∃ x t,k=Sum.inr x/\v=Value.str x t)
 | .inl i,v,h=>by
  obtain ⟨t,e⟩:=Value.isInt_shape (k:=i) (v:=v) h
  exact .inl ⟨i,t,rfl,e⟩
 | .inr x,v,h=>by
  obtain ⟨t,e⟩:=Value.isStrOf_shape (x:=x) (v:=v) h
  exact .inr ⟨x,t,rfl,e⟩
theorem Zjn (i:Int) (t:Tok):lu (.inl i) (.int i t)=true:=by simp [lu,Value.isInt]
theorem Zjm (x:Str) (t:Tok):lu (.inr x) (.str x t)=true:=by simp [lu,Value.isStrOf]
theorem Zjl (a b:Int):decide ((Sum.inl a:aI)=Sum.inl b)=(a == b):=by
 by_cases e:a=b
 ·subst e; simp
 ·have h:¬ (Sum.inl a:aI)=Sum.inl b:=λq=>e (Sum.inl.inj q)
  rw [decide_eq_false h]
  exact (beq_eq_false_iff_ne.mpr e).symm
theorem Zji (a b:Str):decide ((Sum.inr a:aI)=Sum.inr b)=decide (a=b):=by
 by_cases e:a=b
 ·subst e; simp
 ·have h:¬ (Sum.inr a:aI)=Sum.inr b:=λq=>e (Sum.inr.inj q)
  rw [decide_eq_false h,decide_eq_false e]
theorem Zjk (a:Int) (b:Str):decide ((Sum.inl a:aI)=Sum.inr b)=false:=decide_eq_false (λq=>nomatch q)
theorem Zjj (a:Str) (b:Int):decide ((Sum.inr a:aI)=Sum.inl b)=false:=decide_eq_false (λq=>nomatch q)
noncomputable def dU (prog:Program) (w:World):PySem.KeyKind prog w aI where
 is:=lu
 hash:=Zjo w
 inj:=λv a b ha hb=>by
  rcases il ha with ⟨i,t,rfl,rfl⟩ | ⟨x,t,rfl,rfl⟩
  ·rcases il hb with ⟨j,u,rfl,e⟩ | ⟨y,u,rfl,e⟩
   ·injection e with e1 _; rw [e1]
   ·exact nomatch e
  ·rcases il hb with ⟨j,u,rfl,e⟩ | ⟨y,u,rfl,e⟩
   ·exact nomatch e
   ·injection e with e1 _; rw [e1]
 byValue:=λk v h=>by
  rcases il h with ⟨i,t,rfl,rfl⟩ | ⟨x,t,rfl,rfl⟩ <;> rfl
 pyHash:=λhv h=>by
  rcases il hv with ⟨i,t,rfl,rfl⟩ | ⟨x,t,rfl,rfl⟩
  ·exact wpAny_pyHash_int h
  ·exact wpAny_pyHash_str h
 eqBool:=λhu hv h=>by
  rcases il hu with ⟨i,t,rfl,rfl⟩ | ⟨x,t,rfl,rfl⟩
  ·rcases il hv with ⟨j,u,rfl,rfl⟩ | ⟨y,u,rfl,rfl⟩
   ·rw [Zjl] at h; exact wpAny_eqBool_int h
   ·rw [Zjk] at h; exact SeqAt.EqAt.int_str i t y u _ _ _ _ h
  ·rcases il hv with ⟨j,u,rfl,rfl⟩ | ⟨y,u,rfl,rfl⟩
   ·rw [Zjj] at h; exact SeqAt.EqAt.str_int x t j u _ _ _ _ h
   ·rw [Zji] at h; exact wpAny_eqBool_str h
 «strs»:=λk x t v h=>by
  rcases il h with ⟨i,u,rfl,e⟩ | ⟨y,u,rfl,e⟩
  ·exact nomatch e
  ·injection e with e1 _
   subst e1
   cases v <;> rfl
theorem ZiT (prog:Program) (w:World) (i:Int) (t:Tok):(dU prog w).is (.inl i) (.int i t)=true:=Zjn i t
theorem ZiS (prog:Program) (w:World) (x:Str) (t:Tok):(dU prog w).is (.inr x) (.str x t)=true:=Zjm x t
inductive V where
 | non | bl (b:Bool) | int (i:Int) | str (x:Str) | byt (b:Array UInt8) | flt (b:UInt64) | ref (a:Addr) | ty (n:String)
 deriving DecidableEq
noncomputable def RelV:V->Value->Prop
 | .non,u=>u=Value.none
 | .bl b,u=>u=Value.bool b
 | .int i,u=>∃ t,u=Value.int i t
 | .str x,u=>∃ t,u=Value.str x t
 | .byt b,u=>∃ t,u=Value.bytes b t
 | .flt b,u=>∃ t,u=Value.float b t
 | .ref a,u=>u=Value.ref a
 | .ty n,u=>u=Value.type n
noncomputable abbrev Vals:List V->List Value->Prop:=Paired RelV
theorem Vals.length {xs:List V} {us:List Value} (r:Vals xs us):xs.length=us.length:=Paired.length r
theorem Vals.get {xs:List V} {us:List Value} {i:Nat} {x:V} (h:Vals xs us) (e:xs[i]?=some x):∃ u,us[i]?=some u/\RelV x u:=by
 induction h generalizing i with
 | nil=>cases e
 | cons r t ih=>cases i with | zero=>cases e; exact ⟨_,rfl,r⟩ | succ i=>exact ih (i:=i) e
theorem Vals.append {xs ys:List V} {us ws:List Value} (h:Vals xs us) (s:Vals ys ws):Vals (xs++ys) (us++ws):=by
 induction h with
 | nil=>exact s
 | cons r t ih=>exact .cons r ih
theorem Vals.take {xs:List V} {us:List Value} (n:Nat) (h:Vals xs us):Vals (xs.take n) (us.take n):=by
 induction h generalizing n with
 | nil=>rw [List.take_nil,List.take_nil]; exact .nil
 | cons r t ih=>cases n with | zero=>exact .nil | succ n=>exact .cons r (ih n)
theorem Vals.drop {xs:List V} {us:List Value} (n:Nat) (h:Vals xs us):Vals (xs.drop n) (us.drop n):=by
 induction h generalizing n with
 | nil=>rw [List.drop_nil,List.drop_nil]; exact .nil
 | cons r t ih=>cases n with | zero=>exact .cons r t | succ n=>exact ih n
noncomputable def RelO:Option V->Option Value->Prop
 | some v,some u=>RelV v u
 | none,none=>True
 | _,_=>False
noncomputable def KV {κ:Type}:List (κ×V)->List (κ×Value)->Prop:=Paired λ(p:κ×V) (q:κ×Value)=>p.1=q.1/\RelV p.2 q.2
noncomputable def kV:aI->V
 | .inl i=>.int i
 | .inr x=>.str x
inductive HO where
 /-- a list -/
 | lst (xs:List V)
 /-- a tuple (never changes) -/
 | tup (xs:List V)
 /-- a dict whose keys are ints and texts; one whose keys are tuples of ints and texts (the empty one is both) -/
 | dK (kvs:List (aI×V)) | dT (kvs:List (List aI×V))
 /-- a set of ints: its members,its size -/
 | set (S:Int->Bool) (n:Nat)
 /-- an instance of the class at C,its dict at dx,its attributes -/
 | ins (C dx:Addr) (fs:List (Str×V))
 /-- the dict of the instance at x -/
 | own (x:Addr)
 /-- the dict of an exception -/
 | xd (fs:List (Str×V))
 /-- a bound method,f of x -/
 | met (f x:Addr)
 /-- a range object lo,lo+1,.. below hi -/
 | rng (lo hi:Int)
 /-- a thing that is known to the object (the script; a dict while a loop walks it): read,never written while it is so -/
 | frz (o:Obj) (u:HO)
 /-- a code object's table -/
 | tbl (ps:Array Value)
 /-- any other thing,by what is true of its one object (a def of one's own: SetO a S n:=HO.ext λh=>..) -/
 | ext (φ:Heap->Prop)
 | cod (ps:Array Value)
noncomputable abbrev Hp:=Addr->Option HO
noncomputable def upd (H:Hp) (a:Addr) (o:HO):Hp:=λb=>if b=a then some o else H b
theorem bM {H:Hp} {a:Addr} {o:HO}:upd H a o a=some o:=by unfold upd; rw [if_pos rfl]
theorem aO {H:Hp} {a b:Addr} {o:HO} (h:b≠a):upd H a o b=H b:=by unfold upd; rw [if_neg h]
theorem tO {H:Hp} {a b:Addr} {o u:HO} (h:H a=some o) (h':H b=some u) (d:o≠u):a≠b:=by
 intro e; subst e; rw [h] at h'; exact d (Option.some.inj h')
theorem dG {H:Hp} {a b:Addr} {o:HO} (h:H a=some o) (h':H b=none):a≠b:=by
 intro e; subst e; rw [h] at h'; cases h'
section
variable (P:Program) (w:World)
noncomputable def ObjOk (H:Hp) (h:Heap) (a:Addr):HO->Prop
 | .lst xs=>xs.length<=sizeLine/\∃ (its:List Value) (n:Nat),Vals xs its/\h.get? a=some { cls:=.type "list",data:=.seq its.toArray n }
 | .tup xs=>xs.length<=sizeLine/\∃ its:List Value,Vals xs its/\IsTup h a its.toArray
 | .dK kvs=>kvs.length<=sizeLine/\(a == sysModules)=false/\∃ vs,KV kvs vs/\h.DictOf (dU P w) a vs
 | .dT kvs=>kvs.length<=sizeLine/\(a == sysModules)=false/\∃ xs:List (List aI×Addr×Value),
   Paired (λ(p:List aI×V) (q:List aI×Addr×Value)=>p.1=q.1/\H q.2.1=some (.tup (p.1.map kV))/\RelV p.2 q.2.2) kvs xs /\
   ∃ o es ep,h.get? a=some o/\o.ExactDict/\o.data=.dict es ep/\es.toList=xs.map (entryOfKey (tupleKind (dU P w)))/\(xs.map (·.1)).Nodup
 | .set S n=>h.SetOf (intKind P w) a S n
 | .ins C dx fs=>H dx=some (.own a)/\fs.length<=1000/\dx≠a/\h.get? a=some (PySem.W.instObj C dx) /\
   ∃ mA,h.Ns1 dx mA/\(∀ f,RelO (fs.lookup f) (mA f))/\PySem.Within mA (fs.map (·.1))
 | .own _=>∃ o,h.get? a=some o
 | .xd fs=>∃ mA,h.Ns1 a mA/\∀ f,RelO (fs.lookup f) (mA f)
 | .rng lo hi=>∃ t u v,h.get? a=some { cls:=.type "range",data:=.fields #[.int lo t,.int hi u,.int 1 v] }
 | .frz o u=>h.get? a=some o/\ObjOk H h a u
 | .tbl ps=>h.get? a=some { cls:=.none,data:=.fields ps }
 | .met f x=>h.get? a=some (PySem.W.methodObj (.ref f) (.ref x))
 | .ext φ=>φ h/\(∃ o,h.get? a=some o)/\∀ h1 h2:Heap,φ h1->(∀ o,h1.get? a=some o->h2.get? a=some o)->φ h2
 | .cod ps=>∃ more:Array Value,h.get? a=some { cls:=.none,data:=.fields (ps++more) }/\PySem.TriplesOk (ps++more).toList/\∀ (po:Pos) (v:Value),codeAmong po (ps++more).toList=some v->∃ (c:Addr) (ob:Obj) (vs:Array Value) (q:Str) (t:Tok),v=.ref c/\H c=some (.frz ob (.own 0))/\ob.data=.fields vs/\vs[1]?=some (.str q t)
noncomputable def HOk (H:Hp) (h:Heap):Prop:=∀ a o,H a=some o->ObjOk P w H h a o
end
section
variable {P:Program} {w:World} {H H':Hp} {h h':Heap} {a:Addr} {o:HO}
theorem ObjOk.lt (x:ObjOk P w H h a o):a < h.objs.size:=by
 cases o with
 | lst xs=>obtain ⟨_,_,_,_,e⟩:=x; exact Heap.lt_size e
 | tup xs=>obtain ⟨_,_,_,p⟩:=x; exact p.lt
 | dK kvs=>obtain ⟨_,_,_,_,o,_,_,e,_⟩:=x; exact Heap.lt_size e
 | dT kvs=>obtain ⟨_,_,_,_,o,_,_,e,_⟩:=x; exact Heap.lt_size e
 | set S n=>obtain ⟨o,_,_,_,e,_⟩:=x; exact Heap.lt_size e
 | ins C dx fs=>obtain ⟨_,_,_,e,_⟩:=x; exact Heap.lt_size e
 | own y=>obtain ⟨_,e⟩:=x; exact Heap.lt_size e
 | xd fs=>obtain ⟨_,⟨_,_,_,e,_⟩,_⟩:=x; exact Heap.lt_size e
 | rng lo hi=>obtain ⟨_,_,_,e⟩:=x; exact Heap.lt_size e
 | frz ob u=>obtain ⟨e,_⟩:=x; exact Heap.lt_size e
 | tbl ps=>exact Heap.lt_size (show h.get? a=some _ from x)
 | met f y=>exact Heap.lt_size (show h.get? a=some _ from x)
 | ext φ=>obtain ⟨_,⟨_,e⟩,_⟩:=x; exact Heap.lt_size e
 | cod ps=>obtain ⟨_,e,_⟩:=x; exact Heap.lt_size e
theorem Paired.mapP {α β:Type} {F G:α->β->Prop} {l₁:List α} {l₂:List β} (h:Paired F l₁ l₂) (f:∀ a b,F a b->G a b):Paired G l₁ l₂:=by
 induction h with
 | nil=>exact .nil
 | cons r t ih=>exact .cons (f _ _ r) ih
theorem ObjOk.stay (x:ObjOk P w H h a o) (k:∀ b u,(b=a\/H b=some (.own a))->h.get? b=some u->h'.get? b=some u)
  (ho:∀ b,H b=some (.own a)->H' b=some (.own a)) (ht:∀ b xs,H b=some (.tup xs)->H' b=some (.tup xs)) (hf:∀ b ob u vs,H b=some (.frz ob u)->ob.data=.fields vs->H' b=some (.frz ob u)):ObjOk P w H' h' a o:=by
 induction o with
 | lst xs=>obtain ⟨z,its,n,r,e⟩:=x; exact ⟨z,its,n,r,k _ _ (.inl rfl) e⟩
 | tup xs=>obtain ⟨z,its,r,ob,e,c⟩:=x; exact ⟨z,its,r,ob,k _ _ (.inl rfl) e,c⟩
 | dK kvs=>obtain ⟨z,y,vs,r,ob,es,ep,e,c⟩:=x; exact ⟨z,y,vs,r,ob,es,ep,k _ _ (.inl rfl) e,c⟩
 | dT kvs =>
  obtain ⟨z,y,xs,r,ob,es,ep,e,c⟩:=x
  exact ⟨z,y,xs,Paired.mapP r λp q z=>⟨z.1,ht _ _ z.2.1,z.2.2⟩,ob,es,ep,k _ _ (.inl rfl) e,c⟩
 | set S n=>obtain ⟨ob,es,ep,t,e,c⟩:=x; exact ⟨ob,es,ep,t,k _ _ (.inl rfl) e,c⟩
 | ins C dx fs =>
  obtain ⟨d,z,ne,e,mA,⟨od,es,ep,e2,c⟩,r⟩:=x
  exact ⟨ho _ d,z,ne,k _ _ (.inl rfl) e,mA,⟨od,es,ep,k _ _ (.inr d) e2,c⟩,r⟩
 | own y=>obtain ⟨ob,e⟩:=x; exact ⟨ob,k _ _ (.inl rfl) e⟩
 | xd fs=>obtain ⟨mA,⟨od,es,ep,e,c⟩,r⟩:=x; exact ⟨mA,⟨od,es,ep,k _ _ (.inl rfl) e,c⟩,r⟩
 | rng lo hi=>obtain ⟨t,u,v,e⟩:=x; exact ⟨t,u,v,k _ _ (.inl rfl) e⟩
 | frz ob u ih=>obtain ⟨e,q⟩:=x; exact ⟨k _ _ (.inl rfl) e,ih q⟩
 | tbl ps =>
  have e:h.get? a=some { cls:=.none,data:=.fields ps }:=x
  show h'.get? a=some { cls:=.none,data:=.fields ps }
  exact k a _ (.inl rfl) e
 | met f y =>
  have e:h.get? a=some (PySem.W.methodObj (.ref f) (.ref y)):=x
  show h'.get? a=some (PySem.W.methodObj (.ref f) (.ref y))
  exact k a _ (.inl rfl) e
 | ext φ=>obtain ⟨p,⟨o,e⟩,st⟩:=x; exact ⟨st _ _ p λo q=>k _ _ (.inl rfl) q,⟨o,k _ _ (.inl rfl) e⟩,st⟩
 | cod ps =>
  obtain ⟨more,e,tr,al⟩:=x
  refine ⟨more,k _ _ (.inl rfl) e,tr,λpo v hv=>?_⟩
  obtain ⟨c,ob,vs,q,t,r1,r2,r3⟩:=al po v hv
  exact ⟨c,ob,vs,q,t,r1,hf _ _ _ _ r2 r3.1,r3⟩
theorem HOk.lt (x:HOk P w H h) (e:H a=some o):a < h.objs.size:=(x a o e).lt
theorem HOk.fresh (x:HOk P w H h) (e:h.objs.size<=a):H a=none:=by
 cases q:H a with
 | none=>rfl
 | some u=>exact absurd (Nat.lt_of_lt_of_le (x.lt q) e) (Nat.lt_irrefl _)
theorem HOk.kept (x:HOk P w H h) (k:∀ b u,h.get? b=some u->h'.get? b=some u):HOk P w H h':=λa o e =>
 (x a o e).stay (λb u _ q=>k b u q) (λ_ q=>q) (λ_ _ q=>q) λ_ _ _ _ q _=>q
theorem HOk.laid (x:HOk P w H h) (k:∀ b u,h.get? b=some u->h'.get? b=some u) (hp:h.objs.size<=a) (new:ObjOk P w (upd H a o) h' a o):HOk P w (upd H a o) h':=λb u e=>by
 have hn:=x.fresh hp
 by_cases hb:b=a
 ·subst hb; rw [bM] at e; cases e; exact new
 ·rw [aO hb] at e
  exact (x b u e).stay (λc v _ q=>k c v q) (λc q=>by rw [aO (dG q hn)]; exact q) (λc xs q=>by rw [aO (dG q hn)]; exact q) λc ob xs _ q _=>by rw [aO (dG q hn)]; exact q
end
noncomputable def Rd (H:Hp) (a:Addr) (u:HO):Prop:=H a=some u\/∃ o,H a=some (.frz o u)
theorem Rd.ok {P:Program} {w:World} {H:Hp} {h:Heap} {a:Addr} {u:HO} (r:Rd H a u) (x:HOk P w H h):ObjOk P w H h a u:=by
 rcases r with r | ⟨o,r⟩
 ·exact x a u r
 ·obtain ⟨_,q⟩:=x a _ r
  exact q
noncomputable def nN:Option HO->Prop
 | some (.lst _)=>True
 | some (.dK _)=>True
 | some (.dT _)=>True
 | some (.set _ _)=>True
 | some (.ins _ _ _)=>True
 | some (.ext _)=>True
 | _=>False
section
variable {P:Program} {w:World} {H:Hp} {h h':Heap} {x e:Addr} {o':HO}
theorem HOk.write (ok:HOk P w H h) (mu:nN (H x)) (he:e=x\/H e=some (.own x)) (k:∀ b u,b≠e->h.get? b=some u->h'.get? b=some u) (heo:∃ u,h'.get? e=some u)
  (new:ObjOk P w (upd H x o') h' x o'):HOk P w (upd H x o') h':=λb u q=>by
 have nown:∀ c y,H c=some (.own y)->c≠x:=λc y r z=>by subst z; rw [r] at mu; exact mu
 have ntup:∀ c xs,H c=some (.tup xs)->c≠x:=λc xs r z=>by subst z; rw [r] at mu; exact mu
 have nfrz:∀ c ob u,H c=some (.frz ob u)->c≠x:=λc ob u r z=>by subst z; rw [r] at mu; exact mu
 by_cases hb:b=x
 ·subst hb; rw [bM] at q; cases q; exact new
 ·rw [aO hb] at q
  by_cases hbe:b=e
  ·have q':H b=some (.own x):=by
    rcases he with z | z
    ·exact absurd (hbe.trans z) hb
    ·rw [hbe]; exact z
   rw [q] at q'; cases q'
   obtain ⟨v,hv⟩:=heo
   exact ⟨v,by rw [hbe]; exact hv⟩
  ·refine (ok b u q).stay (λc v hc r=>k c v ?_ r) (λc r=>by rw [aO (nown c b r)]; exact r) (λc xs r=>by rw [aO (ntup c xs r)]; exact r) λc ob xs _ r _=>by rw [aO (nfrz c ob xs r)]; exact r
   rcases hc with rfl | hc
   ·exact hbe
   ·rintro rfl
    rcases he with z | z
    ·exact nown c b hc z
    ·rw [hc] at z; cases z; exact hb rfl
end
structure Un (fs ex:List Addr) (H H':Hp) (h h':Heap):Prop where
 keep:∀ b o,h.get? b=some o->H b=none->b ∉ fs->b ∉ ex->h'.get? b=some o
 slot:∀ b o,h.get? b=some o->H b=none->b∈fs->b ∉ ex->∃ sl,h'.get? b=some { o with slots:=sl }
 free:∀ b o,h.get? b=some o->H b=none->b ∉ ex->H' b=none
 there:∀ b o,h.get? b=some o->b ∉ ex->∃ o',h'.get? b=some o'
 tups:∀ b xs,H b=some (.tup xs)->H' b=some (.tup xs)
 frzs:∀ b o u,H b=some (.frz o u)->H' b=some (.frz o u)
 tbls:∀ b ps,H b=some (.tbl ps)->∃ more,H' b=some (.tbl (ps++more))
section
variable {fs fs' ex ex':List Addr} {H H1 H2:Hp} {h h1 h2 h':Heap} {a x e:Addr} {o:HO}
theorem Un.any (u:Un fs ex H H1 h h1) {b:Addr} {ob:Obj} (q:h.get? b=some ob) (n:H b=none) (hx:b ∉ ex):∃ sl,h1.get? b=some { ob with slots:=sl }:=by
 by_cases hb:b∈fs
 ·exact u.slot b ob q n hb hx
 ·exact ⟨ob.slots,u.keep b ob q n hb hx⟩
theorem Un.kept (k:∀ b u,h.get? b=some u->h'.get? b=some u):Un fs ex H H h h' :=
 ⟨λb ob q _ _ _=>k b ob q,λb ob q _ _ _=>⟨ob.slots,k b ob q⟩,λ_ _ _ n _=>n,λb ob q _=>⟨ob,k b ob q⟩,λ_ _ q=>q,λ_ _ _ q=>q,λ_ ps q=>⟨#[],by rw [q]; simp⟩⟩
theorem Un.refl:Un fs ex H H h h:=Un.kept λ_ _ q=>q
theorem Un.laid (k:∀ b u,h.get? b=some u->h'.get? b=some u) (hp:h.objs.size<=a) (hn:H a=none):Un fs ex H (upd H a o) h h' where
 keep:=λb u q _ _ _=>k b u q
 slot:=λb u q _ _ _=>⟨u.slots,k b u q⟩
 free:=λb u q n _=>by rw [aO (Nat.ne_of_lt (Nat.lt_of_lt_of_le (Heap.lt_size q) hp))]; exact n
 there:=λb u q _=>⟨u,k b u q⟩
 tups:=λb xs q=>by rw [aO (dG q hn)]; exact q
 frzs:=λb u xs q=>by rw [aO (dG q hn)]; exact q
 tbls:=λb ps q=>⟨#[],by rw [aO (dG q hn),q]; simp⟩
theorem Un.write (mu:nN (H x)) (he:e=x\/H e=some (.own x)) (k:∀ b u,b≠e->h.get? b=some u->h'.get? b=some u) (heo:∃ u,h'.get? e=some u):Un fs ex H (upd H x o) h h':=by
 have hx:∀ b,H b=none->b≠x:=λb n z=>by subst z; rw [n] at mu; exact mu
 have hb:∀ b,H b=none->b≠e:=λb n z=>by
  subst z
  rcases he with r | r
  ·exact hx b n r
  ·rw [n] at r; cases r
 have hm:∀ b u,H b=some u->¬ nN (some u)->b≠x:=λb u q nm z=>by subst z; rw [q] at mu; exact nm mu
 refine ⟨λb u q n _ _=>k b u (hb b n) q,λb u q n _ _=>⟨u.slots,k b u (hb b n) q⟩,λb u q n _=>by rw [aO (hx b n)]; exact n,λb u q _=>?_,
  λb xs q=>by rw [aO (hm b _ q λz=>z)]; exact q,λb u xs q=>by rw [aO (hm b _ q λz=>z)]; exact q,λb ps q=>⟨#[],by rw [aO (hm b _ q λz=>z),q]; simp⟩⟩
 by_cases hbe:b=e
 ·subst hbe; exact heo
 ·exact ⟨u,k b u hbe q⟩
end
noncomputable def trk (h:Heap) (H:Hp):List Addr:=(List.range h.objs.size).filter λa=>(H a).isSome
noncomputable def ir (h:Heap) (H:Hp):Heap:=PySem.W.hideAll h (trk h H)
theorem ZjJ (h:Heap) (H:Hp):(ir h H).objs.size=h.objs.size:=PySem.W.hideAll_size _ _
theorem ZjK {h:Heap} {H:Hp} {b:Addr} {o:Obj} (e:h.get? b=some o) (n:H b=none):(ir h H).get? b=some o :=
 PySem.W.hideAll_get _ e λhm=>by
  have q:(H b).isSome=true:=(List.mem_filter.mp hm).2
  rw [n] at q; simp at q
theorem Zit {h:Heap} {H:Hp} {b:Addr} {o:Obj} (e:(ir h H).get? b=some o):h.get? b=some o/\H b=none:=by
 have e':h.get? b=some o:=PySem.W.of_hideAll (trk h H) e
 refine ⟨e',?_⟩
 cases q:H b with
 | none=>rfl
 | some x =>
  have hm:b∈trk h H:=List.mem_filter.mpr ⟨List.mem_range.mpr (Heap.lt_size e'),by simp [q]⟩
  have z:(ir h H).get? b=none:=PySem.W.hideAll_none (trk h H) hm
  rw [z] at e; cases e
noncomputable def Zpx (g h:Heap) (L:Addr):List (Addr×Obj):=(List.range h.objs.size).filterMap λa=>if a=L\/(g.get? a).isSome=true then none else (h.get? a).map λo=>(a,o)
noncomputable def rest (g h:Heap) (L d:Addr):List (Addr×Obj):=(Zpx g h L).filter λp=>decide (p.1≠d)
structure Mod (K:PySem.W.Frag) (mg:Str->Option Value) (base:Heap):Prop where
 kin:K.In base
 glob:base.Ns mainGlobals mg
 blt:∃ mb,base.Ns builtinsNs mb/\∀ x:Str,x≠"__name__"->mb x=bootBuiltins x
 nolimit:base.NoLimit
 nodig:base.NoDigits
structure Cx where
 prog:Program
 w:World
 K:PySem.W.Frag
 mg:Str->Option Value
 base:Heap
 A:Around
 N:List Str
 s₀:Shared
 H₀:Hp
 env:Env
 outer:List Env
 stack:List Env
 ex:List Addr
 fn:Str->Bool
 calm:Bool
 pn:List (Addr×Obj)
 xe:Value->Shared->Prop
noncomputable def frs (l:List Env):List Addr:=l.filterMap (·.frame)
noncomputable abbrev Cx.fs (X:Cx):List Addr:=frs X.outer
noncomputable def lU (sc:Scope) (x:Str):Prop:=sc.names.lookup x=some .local\/sc.names.lookup x=some .cell\/sc.names.lookup x=some .free
noncomputable def l0 (sc:Scope) (x:Str):Prop:=sc.names.lookup x=some .local\/sc.names.lookup x=some .cell
noncomputable def Zp9 (env:Env) (h:Heap) (m:Str->Option Value) (x:Str) (u:Value):Prop :=
 (env.kindOf x=some .local/\m x=some u)\/((env.kindOf x=some .cell\/env.kindOf x=some .free)/\∃ c,env.cells.lookup x=some c/\h.IsCell c (some u))
structure Cx.Ok (X:Cx):Prop where
 mod:Mod X.K X.mg X.base
 kind:X.env.scope.kind=.function
 glob:X.env.globals=mainGlobals
 blt:X.env.builtins=builtinsNs
 above:X.s₀.heap.objs.size<=X.env.locals
 inj:∀ x y c,X.env.cells.lookup x=some c->X.env.cells.lookup y=some c->x=y
 has:∀ x,(X.env.kindOf x=some .cell\/X.env.kindOf x=some .free)->∃ c,X.env.cells.lookup x=some c
 cab:∀ x c,X.fn x=true->X.env.cells.lookup x=some c->X.s₀.heap.objs.size<=c
 hd:X.calm=true->X.A.handled=none
 frames:X.A.frames=some X.stack
 stk:X.stack=X.outer\/(X.stack=X.env::X.outer/\X.env.frame=some X.env.locals)
 exf:∀ b∈X.ex,b≠X.env.locals/\∀ x c,X.env.cells.lookup x=some c->c≠b
 bs:∀ b o,X.base.get? b=some o->X.s₀.heap.get? b=some o/\X.H₀ b=none
 bsz:X.base.objs.size<=X.s₀.heap.objs.size
 noex:∀ b o,X.base.get? b=some o->b ∉ X.ex
 exfs:∀ b∈X.ex,b ∉ X.fs
 funs:X.s₀.heap.FunFrames X.base X.outer
 frf:∀ b∈X.fs,X.H₀ b=none
structure Inv (X:Cx) (pins:List (Addr×Obj)) (σ:List (Option V)) (H:Hp) (s:Shared):Prop where
 ok:X.Ok
 os:s.os=X.s₀.os
 bare:AllBare s.gens
 base:Un X.fs X.ex X.H₀ H X.s₀.heap s.heap
 loc:∃ m,s.heap.Ns X.env.locals m/\∀ (i:Nat) (x:Str) (v:V),X.N[i]?=some x->σ[i]?=some (some v)->lU X.env.scope x->∃ u,RelV v u/\Zp9 X.env s.heap m x u
 cell:∀ x c,X.env.cells.lookup x=some c->∃ v,s.heap.IsCell c v
 free:H X.env.locals=none
 freeC:∀ x c,X.env.cells.lookup x=some c->H c=none
 pin:∀ p∈X.pn++pins,s.heap.get? p.1=some p.2/\H p.1=none/\p.1≠X.env.locals/\p.1 ∉ X.fs/\∀ v,p.2.data≠.cell v
 hok:HOk X.prog X.w H s.heap
 len:σ.length=X.N.length
section
variable {X:Cx} {pins:List (Addr×Obj)} {σ:List (Option V)} {H H':Hp} {s:Shared} {h':Heap}
theorem Cx.Ok.nofr (ok:X.Ok) {b:Addr} {o:Obj} (e:X.base.get? b=some o):b ∉ X.fs:=λhb=>by
 have:=(ok.funs.mem hb).1
 rw [e] at this; cases this
theorem Inv.bs (I:Inv X pins σ H s):∀ b o,X.base.get? b=some o->s.heap.get? b=some o/\H b=none:=λb o e =>
 ⟨I.base.keep b o (I.ok.bs b o e).1 (I.ok.bs b o e).2 (I.ok.nofr e) (I.ok.noex b o e),I.base.free b o (I.ok.bs b o e).1 (I.ok.bs b o e).2 (I.ok.noex b o e)⟩
theorem Inv.bk (I:Inv X pins σ H s):∀ b o,X.base.get? b=some o->s.heap.get? b=some o:=λb o e=>(I.bs b o e).1
theorem Inv.mod (I:Inv X pins σ H s):Mod X.K X.mg X.base:=I.ok.mod
theorem Inv.kIn (I:Inv X pins σ H s):X.K.In s.heap:=I.ok.mod.kin.keeps I.bk
theorem Inv.lt (I:Inv X pins σ H s):X.env.locals < s.heap.objs.size:=let ⟨_,hn,_⟩:=I.loc; hn.lt
theorem Inv.sz (I:Inv X pins σ H s):X.s₀.heap.objs.size<=s.heap.objs.size:=Nat.le_trans I.ok.above (Nat.le_of_lt I.lt)
theorem Inv.nofs (I:Inv X pins σ H s) {a:Addr} (h:s.heap.objs.size<=a):a ∉ X.fs:=λhb=>by
 obtain ⟨_,o,ho,_⟩:=I.ok.funs.mem hb
 exact absurd (Nat.lt_of_lt_of_le (Heap.lt_size ho) (Nat.le_trans I.sz h)) (Nat.lt_irrefl _)
theorem Inv.cne (I:Inv X pins σ H s):∀ x c,X.env.cells.lookup x=some c->c≠X.env.locals:=λx c e z=>by
 obtain ⟨v,o,ho,hd⟩:=I.cell x c e
 obtain ⟨m,⟨o',es,ep,ho',hd',_⟩,_⟩:=I.loc
 rw [z,ho'] at ho; cases ho; rw [hd'] at hd; cases hd
theorem Inv.funs (I:Inv X pins σ H s):s.heap.FunFrames X.base X.outer:=by
 have all:∀ (l:List Env),(∀ b∈frs l,b∈X.fs)->X.s₀.heap.FunFrames X.base l->s.heap.FunFrames X.base l:=by
  intro l
  induction l with
  | nil=>intro _ _; trivial
  | cons env r ih =>
   intro hs hl
   obtain ⟨hk,⟨L,o,hf,hn,ho,hd⟩,hr⟩:=hl
   have hL:L∈X.fs:=hs L (by unfold frs; rw [List.filterMap_cons,hf]; exact List.mem_cons_self)
   obtain ⟨sl,e⟩:=I.base.slot L o ho (I.ok.frf L hL) hL λz=>I.ok.exfs L z hL
   exact ⟨hk,⟨L,_,hf,hn,e,hd⟩,ih (λb hb=>hs b (by unfold frs; rw [List.filterMap_cons,hf]; exact List.mem_cons_of_mem _ hb)) hr⟩
 exact all X.outer (λ_ hb=>hb) I.ok.funs
theorem Inv.stack (I:Inv X pins σ H s):s.heap.FunFrames X.base X.stack:=by
 rcases I.ok.stk with e | ⟨e,hf⟩
 ·rw [e]; exact I.funs
 ·rw [e]
  obtain ⟨m,hn,_⟩:=I.loc
  refine .cons (by rw [I.ok.kind]; decide) hf hn ?_ I.funs
  exact Heap.get?_none_of_le (Nat.le_trans I.ok.bsz I.ok.above)
theorem Inv.stkSub (I:Inv X pins σ H s):∀ b∈frs X.stack,b∈X.env.locals::X.fs:=λb hb=>by
 rcases I.ok.stk with e | ⟨e,hf⟩
 ·rw [e] at hb; exact List.mem_cons_of_mem _ hb
 ·rw [e] at hb
  unfold frs at hb
  rw [List.filterMap_cons,hf] at hb
  exact hb
theorem Inv.stkFree (I:Inv X pins σ H s):∀ b∈frs X.stack,H b=none:=λb hb=>by
 rcases List.mem_cons.mp (I.stkSub b hb) with e | hb
 ·rw [e]; exact I.free
 ·obtain ⟨_,o,ho,_⟩:=I.ok.funs.mem hb
  exact I.base.free b o ho (I.ok.frf b hb) λz=>I.ok.exfs b z hb
theorem Inv.step {g':Array GenState} {t':Nat} {d':Drawn} {ch:List Addr} (I:Inv X pins σ H s)
  (hch:∀ b∈ch,(b∈X.ex\/X.s₀.heap.objs.size<=b)/\b≠X.env.locals/\(∀ x c,X.env.cells.lookup x=some c->c≠b)/\∀ p∈X.pn++pins,p.1≠b)
  (keep:∀ b o,b≠X.env.locals->b ∉ X.fs->b ∉ ch->s.heap.get? b=some o->H b=none->h'.get? b=some o)
  (slot:∀ b o,b≠X.env.locals->b∈X.fs->b ∉ ch->s.heap.get? b=some o->H b=none->∃ sl,h'.get? b=some { o with slots:=sl }) (free:∀ b o,b ∉ ch->s.heap.get? b=some o->H b=none->H' b=none)
  (there:∀ b o,b ∉ ch->s.heap.get? b=some o->∃ o',h'.get? b=some o')
  (tups:∀ b xs,H b=some (.tup xs)->H' b=some (.tup xs)) (frzs:∀ b o u,H b=some (.frz o u)->H' b=some (.frz o u)) (tbls:∀ b ps,H b=some (.tbl ps)->∃ more,H' b=some (.tbl (ps++more)))
  (ns:∀ m,s.heap.Ns X.env.locals m->h'.Ns X.env.locals m) (hok:HOk X.prog X.w H' h') (hg:AllBare g') :
  Inv X pins σ H' { s with heap:=h',gens:=g',drawn:=d',toks:=t' }:=by
 have neL:∀ b o,X.s₀.heap.get? b=some o->b≠X.env.locals:=λb o e=>Nat.ne_of_lt (Nat.lt_of_lt_of_le (Heap.lt_size e) I.ok.above)
 have neC:∀ b o,X.s₀.heap.get? b=some o->b ∉ X.ex->b ∉ ch:=λb o e hx hb=>by
  rcases (hch b hb).1 with z | z
  ·exact hx z
  ·exact absurd (Nat.lt_of_lt_of_le (Heap.lt_size e) z) (Nat.lt_irrefl _)
 have cellK:∀ x c,X.env.cells.lookup x=some c->∀ v,s.heap.IsCell c v->h'.IsCell c v:=λx c e v hz0=>by
  obtain ⟨o,ho,hd⟩:=hz0
  have nch:c ∉ ch:=λz=>(hch c z).2.2.1 x c e rfl
  by_cases hc:c∈X.fs
  ·obtain ⟨sl,q⟩:=slot c o (I.cne x c e) hc nch ho (I.freeC x c e)
   exact ⟨_,q,hd⟩
  ·exact ⟨o,keep c o (I.cne x c e) hc nch ho (I.freeC x c e),hd⟩
 refine ⟨I.ok,I.os,hg,⟨λb o e n hb hx=>?_,λb o e n hb hx=>?_,λb o e n hx=>?_,λb o e hx=>?_,λb xs e=>tups b xs (I.base.tups b xs e),λb o xs e=>frzs b o xs (I.base.frzs b o xs e),λb ps e=>?_⟩,?_,λx c e=>?_,?_,λx c e=>?_,λp hp=>?_,hok,I.len⟩
 ·exact keep b o (neL b o e) hb (neC b o e hx) (I.base.keep b o e n hb hx) (I.base.free b o e n hx)
 ·obtain ⟨sl,e1⟩:=I.base.slot b o e n hb hx
  obtain ⟨sl',e2⟩:=slot b _ (neL b o e) hb (neC b o e hx) e1 (I.base.free b o e n hx)
  exact ⟨sl',e2⟩
 ·obtain ⟨o',e1⟩:=I.base.there b o e hx
  exact free b o' (neC b o e hx) e1 (I.base.free b o e n hx)
 ·obtain ⟨o',e1⟩:=I.base.there b o e hx
  exact there b o' (neC b o e hx) e1
 ·obtain ⟨m1,e1⟩:=I.base.tbls b ps e
  obtain ⟨m2,e2⟩:=tbls b _ e1
  exact ⟨m1++m2,by rw [e2,Array.append_assoc]⟩
 ·obtain ⟨m,hn,hl⟩:=I.loc
  refine ⟨m,ns m hn,λi x v e1 e2 e3=>?_⟩
  obtain ⟨u,r,l⟩:=hl i x v e1 e2 e3
  refine ⟨u,r,?_⟩
  rcases l with l | ⟨k,c,e,z⟩
  ·exact .inl l
  ·exact .inr ⟨k,c,e,cellK x c e _ z⟩
 ·obtain ⟨v,z⟩:=I.cell x c e
  exact ⟨v,cellK x c e v z⟩
 ·obtain ⟨m,⟨o,_,_,ho,_⟩,_⟩:=I.loc
  exact free _ o (λz=>(hch _ z).2.1 rfl) ho I.free
 ·obtain ⟨v,o,ho,hd⟩:=I.cell x c e
  exact free c o (λz=>(hch c z).2.2.1 x c e rfl) ho (I.freeC x c e)
 ·obtain ⟨e,n,ne,nf,d⟩:=I.pin p hp
  have nch:p.1 ∉ ch:=λz=>(hch p.1 z).2.2.2 p hp rfl
  exact ⟨keep p.1 p.2 ne nf nch e n,free p.1 p.2 nch e n,ne,nf,d⟩
theorem Inv.un {t':Nat} (I:Inv X pins σ H s) (u:Un X.fs [] H H' s.heap h') (hok:HOk X.prog X.w H' h'):Inv X pins σ H' { s with heap:=h',toks:=t' }:=by
 obtain ⟨m,⟨o,es,ep,ho,r⟩,_⟩:=id I.loc
 obtain ⟨sl,hL⟩:=u.any ho I.free (by simp)
 exact I.step (g':=s.gens) (d':=s.drawn) (ch:=[]) (λ_ z=>nomatch z) (λb o _ hb _ e n=>u.keep b o e n hb (by simp)) (λb o _ hb _ e n=>u.slot b o e n hb (by simp)) (λb o _ e n=>u.free b o e n (by simp)) (λb o _ e=>u.there b o e (by simp)) u.tups u.frzs u.tbls (λm' hm=>by
  obtain ⟨o',es',ep',ho',r'⟩:=hm
  rw [ho] at ho'; cases ho'
  exact ⟨_,es',ep',hL,r'⟩) hok I.bare
theorem Inv.call {g':Array GenState} {t':Nat} {d':Drawn} {ch:List Addr} (I:Inv X pins σ H s) (u:Un (frs X.stack) ch H H' s.heap h') (hok:HOk X.prog X.w H' h') (hg:AllBare g')
  (hch:∀ b∈ch,(b∈X.ex\/X.s₀.heap.objs.size<=b)/\b≠X.env.locals/\(∀ x c,X.env.cells.lookup x=some c->c≠b)/\∀ p∈X.pn++pins,p.1≠b) :
  Inv X pins σ H' { s with heap:=h',gens:=g',drawn:=d',toks:=t' }:=by
 obtain ⟨m,⟨o,es,ep,ho,r⟩,_⟩:=id I.loc
 obtain ⟨sl,hL⟩:=u.any ho I.free λz=>(hch _ z).2.1 rfl
 exact I.step (ch:=ch) hch (λb o hL hb hc e n=>u.keep b o e n (λz=>(List.mem_cons.mp (I.stkSub b z)).elim hL hb) hc) (λb o _ _ hc e n=>u.any e n hc) (λb o hc e n=>u.free b o e n hc) (λb o hc e=>u.there b o e hc) u.tups u.frzs u.tbls (λm' hm=>by
  obtain ⟨o',es',ep',ho',r'⟩:=hm
  rw [ho] at ho'; cases ho'
  exact ⟨_,es',ep',hL,r'⟩) hok hg
theorem Inv.turned {t':Nat} {it:Addr} (I:Inv X pins σ H s) (k:∀ b o,b≠it->s.heap.get? b=some o->h'.get? b=some o) (hn:H it=none) (hL:it≠X.env.locals)
  (h1:it∈X.ex\/X.s₀.heap.objs.size<=it) (h2:∀ x c,X.env.cells.lookup x=some c->c≠it) (h3:∀ p∈X.pn++pins,p.1≠it):Inv X pins σ H { s with heap:=h',toks:=t' }:=by
 have nit:∀ b u,H b=some u->b≠it:=λb u e z=>by rw [z,hn] at e; cases e
 refine I.step (g':=s.gens) (d':=s.drawn) (ch:=[it]) (λb hb=>?_) (λb o _ _ hc e _=>k b o (λz=>hc (by simp [z])) e) (λb o _ _ hc e _=>⟨o.slots,k b o (λz=>hc (by simp [z])) e⟩) (λ_ _ _ _ n=>n)
  (λb o hc e=>⟨o,k b o (λz=>hc (by simp [z])) e⟩) (λ_ _ e=>e) (λ_ _ _ e=>e) (λb ps e=>⟨#[],by rw [e]; simp⟩) (λm hm=>?_) (λb u e=>?_) I.bare
 ·have e:b=it:=by simpa using hb
  subst e
  exact ⟨h1,hL,h2,h3⟩
 ·obtain ⟨o,es,ep,ho,r⟩:=hm
  exact ⟨o,es,ep,k _ o (Ne.symm hL) ho,r⟩
 ·refine (I.hok b u e).stay (λc v hc q=>k c v ?_ q) (λ_ q=>q) (λ_ _ q=>q) λ_ _ _ _ q _=>q
  rcases hc with z | z
  ·rw [z]; exact nit b u e
  ·exact nit c _ z
theorem Inv.tok (I:Inv X pins σ H s) (t:Nat):Inv X pins σ H { s with toks:=t }:=I.un (h':=s.heap) (t':=t) Un.refl I.hok
theorem Inv.kept {t':Nat} (I:Inv X pins σ H s) (k:∀ b u,s.heap.get? b=some u->h'.get? b=some u):Inv X pins σ H { s with heap:=h',toks:=t' }:=I.un (Un.kept k) (I.hok.kept k)
theorem Inv.laid {a:Addr} {o:HO} {t':Nat} (I:Inv X pins σ H s) (k:∀ b u,s.heap.get? b=some u->h'.get? b=some u) (hp:s.heap.objs.size<=a) (new:ObjOk X.prog X.w (upd H a o) h' a o) :
  Inv X pins σ (upd H a o) { s with heap:=h',toks:=t' }:=I.un (Un.laid k hp (I.hok.fresh hp)) (I.hok.laid k hp new)
theorem Inv.write {x e:Addr} {o:HO} {t':Nat} (I:Inv X pins σ H s) (mu:nN (H x)) (he:e=x\/H e=some (.own x)) (k:∀ b u,b≠e->s.heap.get? b=some u->h'.get? b=some u) (heo:∃ u,h'.get? e=some u)
  (new:ObjOk X.prog X.w (upd H x o) h' x o):Inv X pins σ (upd H x o) { s with heap:=h',toks:=t' }:=I.un (Un.write mu he k heo) (I.hok.write mu he k heo new)
theorem Inv.pins_of {pins':List (Addr×Obj)} (I:Inv X pins σ H s) (h:∀ p∈pins',s.heap.get? p.1=some p.2/\H p.1=none/\p.1≠X.env.locals/\p.1 ∉ X.fs/\∀ v,p.2.data≠.cell v):Inv X pins' σ H s :=
 ⟨I.ok,I.os,I.bare,I.base,I.loc,I.cell,I.free,I.freeC,λp hp=>(List.mem_append.mp hp).elim (λz=>I.pin p (List.mem_append_left _ z)) (h p),I.hok,I.len⟩
theorem tN {N:List Str} (hN:N.Nodup) {i j:Nat} {x:Str} (a:N[i]?=some x) (b:N[j]?=some x):i=j:=by
 obtain ⟨h1,e1⟩:=List.getElem?_eq_some_iff.mp a
 obtain ⟨h2,e2⟩:=List.getElem?_eq_some_iff.mp b
 exact (List.getElem_inj hN).mp (e1.trans e2.symm)
theorem ZaL {M:Model} {A:Around} {E:Value->Shared->Prop} {i:Nat} {x:Str} {v:V} {u:Value} {Q:Unit->Shared->Prop} (I:Inv X pins σ H s) (hN:X.N.Nodup) (hi:X.N[i]?=some x) (hx:l0 X.env.scope x) (r:RelV v u)
  (h:∀ s',Inv X pins (σ.set i (some v)) H s'->(∃ a,Heap.SameBut a s.heap s'.heap/\(a=X.env.locals\/X.env.cells.lookup x=some a))->Q () s') (hf:X.fn x=true\/X.env.scope.names.lookup x=some .local:=by first | exact .inl rfl | exact .inr rfl | assumption):wpAny M A (storeName X.env x u) Q E s:=by
 obtain ⟨m,hn,hl⟩:=id I.loc
 have hcls:(X.env.scope.kind == .class || (X.env.scope.kind == .module && X.env.locals != X.env.globals))=false:=by rw [I.ok.kind]; rfl
 have hiσ:i < σ.length:=by rw [I.len]; exact (List.getElem?_eq_some_iff.mp hi).1
 have cne:=I.cne
 have tracked:∀ {a:Addr} {h':Heap},(∃ o,s.heap.get? a=some o/\H a=none)->Heap.SameBut a s.heap h'->HOk X.prog X.w H h':=λ{a h'} ha hs b ob e=>by
  obtain ⟨_,_,hfree⟩:=ha
  refine (I.hok b ob e).stay (λc w' hc q=>(hs.2 c ?_).trans q) (λ_ q=>q) (λ_ _ q=>q) λ_ _ _ _ q _=>q
  rintro rfl
  rcases hc with rfl | hc
  ·rw [hfree] at e; cases e
  ·rw [hfree] at hc; cases hc
 rcases hx with hk | hk
 ·refine wpAny_storeName_local hk hn (λh' hn' hs=>?_) hcls
  obtain ⟨oL,_,_,hoL,_⟩:=id hn
  refine h _ ⟨I.ok,I.os,I.bare,⟨λb o e n hb hx=>?_,λb o e n hb hx=>?_,I.base.free,λb o e hx=>?_,I.base.tups,I.base.frzs,I.base.tbls⟩,⟨_,hn',λj y v' e1 e2 e3=>?_⟩,λy c e=>?_,I.free,I.freeC,λp hp=>?_,tracked ⟨oL,hoL,I.free⟩ hs,by simpa using I.len⟩ ⟨_,hs,.inl rfl⟩
  ·exact (hs.2 b (Nat.ne_of_lt (Nat.lt_of_lt_of_le (Heap.lt_size e) I.ok.above))).trans (I.base.keep b o e n hb hx)
  ·obtain ⟨sl,e1⟩:=I.base.slot b o e n hb hx
   exact ⟨sl,(hs.2 b (Nat.ne_of_lt (Nat.lt_of_lt_of_le (Heap.lt_size e) I.ok.above))).trans e1⟩
  ·obtain ⟨o',e1⟩:=I.base.there b o e hx
   exact ⟨o',(hs.2 b (Nat.ne_of_lt (Nat.lt_of_lt_of_le (Heap.lt_size e) I.ok.above))).trans e1⟩
  ·by_cases hj:j=i
   ·subst hj
    rw [hi] at e1; cases e1
    rw [List.getElem?_set_self hiσ] at e2
    cases e2
    exact ⟨u,r,.inl ⟨hk,by simp⟩⟩
   ·rw [List.getElem?_set_ne (Ne.symm hj)] at e2
    obtain ⟨u',r',q⟩:=hl j y v' e1 e2 e3
    refine ⟨u',r',?_⟩
    rcases q with ⟨k,e⟩ | ⟨k,c,e,z⟩
    ·refine .inl ⟨k,?_⟩
     have:y≠x:=λe=>hj (tN hN e1 (e ▸ hi))
     simp [this,e]
    ·exact .inr ⟨k,c,e,z.sameBut hs (cne y c e)⟩
  ·obtain ⟨w',z⟩:=I.cell y c e
   exact ⟨w',z.sameBut hs (cne y c e)⟩
  ·obtain ⟨e,n,ne,nf,d⟩:=I.pin p hp
   exact ⟨(hs.2 p.1 ne).trans e,n,ne,nf,d⟩
 ·have hfn:X.fn x=true:=by
   rcases hf with z | z
   ·exact z
   ·rw [z] at hk; cases hk
  obtain ⟨c,hc⟩:=I.ok.has x (.inl hk)
  obtain ⟨w',z⟩:=I.cell x c hc
  refine wpAny_storeName_cell I.ok.kind hk hc z (λh' hc' hs=>?_)
  obtain ⟨oc,hoc,hocd⟩:=id z
  refine h { s with heap:=h' } ⟨I.ok,I.os,I.bare,⟨λb o e n hb hx=>?_,λb o e n hb hx=>?_,I.base.free,λb o e hx=>?_,I.base.tups,I.base.frzs,I.base.tbls⟩,⟨m,hn.sameBut hs (Ne.symm (cne x c hc)),λj y v' e1 e2 e3=>?_⟩,λy c' e=>?_,I.free,I.freeC,λp hp=>?_,tracked ⟨oc,hoc,I.freeC x c hc⟩ hs,by simpa using I.len⟩ ⟨c,hs,.inr hc⟩
  ·exact (hs.2 b (Nat.ne_of_lt (Nat.lt_of_lt_of_le (Heap.lt_size e) (I.ok.cab x c hfn hc)))).trans (I.base.keep b o e n hb hx)
  ·obtain ⟨sl,e1⟩:=I.base.slot b o e n hb hx
   exact ⟨sl,(hs.2 b (Nat.ne_of_lt (Nat.lt_of_lt_of_le (Heap.lt_size e) (I.ok.cab x c hfn hc)))).trans e1⟩
  ·obtain ⟨o',e1⟩:=I.base.there b o e hx
   exact ⟨o',(hs.2 b (Nat.ne_of_lt (Nat.lt_of_lt_of_le (Heap.lt_size e) (I.ok.cab x c hfn hc)))).trans e1⟩
  ·by_cases hj:j=i
   ·subst hj
    rw [hi] at e1; cases e1
    rw [List.getElem?_set_self hiσ] at e2
    cases e2
    exact ⟨u,r,.inr ⟨.inl hk,c,hc,hc'⟩⟩
   ·rw [List.getElem?_set_ne (Ne.symm hj)] at e2
    obtain ⟨u',r',q⟩:=hl j y v' e1 e2 e3
    refine ⟨u',r',?_⟩
    rcases q with q | ⟨k,c',e,z'⟩
    ·exact .inl q
    ·refine .inr ⟨k,c',e,z'.sameBut hs ?_⟩
     rintro rfl
     exact hj (tN hN e1 (I.ok.inj _ _ _ e hc ▸ hi))
  ·by_cases hcc:c'=c
   ·subst hcc; exact ⟨_,hc'⟩
   ·obtain ⟨w2,z2⟩:=I.cell y c' e
    exact ⟨w2,z2.sameBut hs hcc⟩
  ·obtain ⟨e,n,ne,nf,d⟩:=I.pin p hp
   refine ⟨(hs.2 p.1 ?_).trans e,n,ne,nf,d⟩
   intro q
   rw [q,hoc] at e
   have q':oc=p.2:=Option.some.inj e
   exact d w' (by rw [<- q']; exact hocd)
theorem kK {M:Model} {A:Around} {E:Value->Shared->Prop} {i:Nat} {x:Str} {v:V} {u:Value} {Q:Unit->Shared->Prop} (I:Inv X pins σ H s) (hN:X.N.Nodup) (hi:X.N[i]?=some x) (hx:l0 X.env.scope x) (r:RelV v u)
  (h:∀ s',Inv X pins (σ.set i (some v)) H s'->Q () s') (hf:X.fn x=true\/X.env.scope.names.lookup x=some .local:=by first | exact .inl rfl | exact .inr rfl | assumption):wpAny M A (storeName X.env x u) Q E s :=
 ZaL I hN hi hx r (λs' I' _=>h s' I') hf
theorem Inv.call' {s':Shared} {ch:List Addr} (I:Inv X pins σ H s) (ho:s'.os=s.os) (u:Un (frs X.stack) ch H H' s.heap s'.heap) (hok:HOk X.prog X.w H' s'.heap) (hg:AllBare s'.gens)
  (hch:∀ b∈ch,(b∈X.ex\/X.s₀.heap.objs.size<=b)/\b≠X.env.locals/\(∀ x c,X.env.cells.lookup x=some c->c≠b)/\∀ p∈X.pn++pins,p.1≠b):Inv X pins σ H' s':=by
 obtain ⟨h',g',d',t',o'⟩:=s'
 have e:o'=s.os:=ho
 subst e
 exact I.call (g':=g') (t':=t') (d':=d') u hok hg hch
end
noncomputable abbrev XK:=Value->Option Addr->Hp->Prop
noncomputable abbrev St:=List (Option V)
noncomputable abbrev VK:=V->Hp->Prop
noncomputable abbrev TE:=St->Hp->VK->Prop
noncomputable abbrev TT:=St->Hp->(Bool->Hp->Prop)->Prop
noncomputable abbrev TA:=St->Hp->(List V->Hp->Prop)->Prop
structure Ends where
 nx:St->Hp->Prop
 rt:VK
 bk:St->Hp->Prop:=λ_ _=>False
 ct:St->Hp->Prop:=λ_ _=>False
noncomputable abbrev TS:=Ends->St->Hp->Prop
noncomputable def EP (X:Cx) (pins:List (Addr×Obj)) (σ:St) (Q:VK) (u:Value) (s':Shared):Prop:=∃ v H',Inv X pins σ H' s'/\RelV v u/\Q v H'
noncomputable def TP (X:Cx) (pins:List (Addr×Obj)) (σ:St) (Q:Bool->Hp->Prop) (b:Bool) (s':Shared):Prop:=∃ H',Inv X pins σ H' s'/\Q b H'
noncomputable def AP (X:Cx) (pins:List (Addr×Obj)) (σ:St) (Q:List V->Hp->Prop) (us:List Value) (s':Shared):Prop:=∃ vs H',Inv X pins σ H' s'/\Vals vs us/\Q vs H'
noncomputable def SP (X:Cx) (pins:List (Addr×Obj)) (D:Ends) (f:Flow) (s':Shared):Prop :=
 match f with
 | .next=>∃ σ' H',Inv X pins σ' H' s'/\D.nx σ' H'
 | .brk=>∃ σ' H',Inv X pins σ' H' s'/\D.bk σ' H'
 | .cont=>∃ σ' H',Inv X pins σ' H' s'/\D.ct σ' H'
 | .ret u=>∃ v σ' H',Inv X pins σ' H' s'/\RelV v u/\D.rt v H'
noncomputable def PE (X:Cx) (e:Expr) (t:TE):Prop :=
 ∀ (pins:List (Addr×Obj)) (s:Shared) (σ:St) (H:Hp) (Q:VK),Inv X pins σ H s->t σ H Q->wpAny (model X.prog X.w) X.A (eval e X.env) (EP X pins σ Q) X.xe s
noncomputable def PT (X:Cx) (e:Expr) (t:TT):Prop :=
 ∀ (pins:List (Addr×Obj)) (s:Shared) (σ:St) (H:Hp) (Q:Bool->Hp->Prop),Inv X pins σ H s->t σ H Q->wpAny (model X.prog X.w) X.A (isTrue e X.env (eval e X.env)) (TP X pins σ Q) X.xe s
noncomputable def PW (X:Cx) (e:Expr) (t:TT):Prop :=
 ∀ (whole:Sem Value) (pins:List (Addr×Obj)) (s:Shared) (σ:St) (H:Hp) (Q:Bool->Hp->Prop),Inv X pins σ H s->t σ H Q->wpAny (model X.prog X.w) X.A (isTrue e X.env whole) (TP X pins σ Q) X.xe s
theorem PW.pt {X:Cx} {e:Expr} {t:TT} (h:PW X e t):PT X e t:=h _
noncomputable def PA (X:Cx) (es:List Expr) (t:TA):Prop :=
 ∀ (pos:Pos) (pins:List (Addr×Obj)) (s:Shared) (σ:St) (H:Hp) (Q:List V->Hp->Prop),Inv X pins σ H s->t σ H Q->wpAny (model X.prog X.w) X.A (spliced (backTo pos (starEach es X.env))) (AP X pins σ Q) X.xe s
noncomputable def PS (X:Cx) (st:Stmt) (t:TS):Prop :=
 ∀ (pins:List (Addr×Obj)) (s:Shared) (σ:St) (H:Hp) (D:Ends),Inv X pins σ H s->t D σ H->wpAny (model X.prog X.w) X.A (exec st X.env) (SP X pins D) X.xe s
noncomputable def PSs (X:Cx) (st:List Stmt) (t:TS):Prop :=
 ∀ (pins:List (Addr×Obj)) (s:Shared) (σ:St) (H:Hp) (D:Ends),Inv X pins σ H s->t D σ H->wpAny (model X.prog X.w) X.A (execs st X.env) (SP X pins D) X.xe s
theorem thn {α:Type} {t:Sem α} {Q Q':α->Shared->Prop} {M:Model} {A:Around} {E:Value->Shared->Prop} {s:Shared} (h:wpAny M A t Q E s) (hQ:∀ a s,Q a s->Q' a s):wpAny M A t Q' E s:=wpAny_mono h hQ λ_ _ x=>x
section
variable {X:Cx}
noncomputable def gE (i:Nat):TE:=λσ H Q=>∃ v,σ[i]?=some (some v)/\Q v H
noncomputable def tC (v:V):TE:=λ_ H Q=>Q v H
theorem ZhQ {i:Nat} {x:Str} {pos:Pos} (hN:X.N[i]?=some x) (hv:lU X.env.scope x) (hd:(x == ("__debug__":Str))=false:=by decide) (hcd:(x == ("__classdict__":Str))=false:=by decide):PE X (.Name x pos) (gE i):=by
 intro pins s σ H Q I h
 obtain ⟨v,e,h⟩:=h
 obtain ⟨m,hn,hl⟩:=I.loc
 obtain ⟨u,r,l⟩:=hl i x v hN e hv
 have fin:EP X pins σ Q u s:=⟨v,H,I,r,h⟩
 rcases l with ⟨hk,hm⟩ | ⟨hk,c,hc,hcell⟩
 ·exact wpAny_Name (wpAny_loadName_local I.ok.kind hk hn hm fin) hd
 ·rcases hk with hk | hk
  ·exact wpAny_Name (wpAny_loadName_cell I.ok.kind hk hc hcell fin) hd
  ·exact wpAny_Name (wpAny_loadName_free I.ok.kind hk hc hcell fin hcd) hd
theorem cq {i j pos}:PE X (.Constant (.int i) j pos) (tC (.int i)):=λ_ _ _ H _ I h=>wpAny_Constant_int ⟨.int i,H,I.tok _,⟨_,rfl⟩,h⟩
theorem Zh1 {b j pos}:PE X (.Constant (.bool b) j pos) (tC (.bl b)):=λ_ _ _ H _ I h=>Constant_bool ⟨.bl b,H,I,rfl,h⟩
theorem tu {j pos}:PE X (.Constant .none j pos) (tC .non):=λ_ _ _ H _ I h=>Constant_none ⟨.non,H,I,rfl,h⟩
theorem dR {x j pos}:PE X (.Constant (.str x) j pos) (tC (.str x)):=λ_ _ _ H _ I h=>Calls.Constant_str ⟨.str x,H,I.tok _,⟨_,rfl⟩,h⟩
noncomputable def Gl (X:Cx) (x:Str):Prop:=X.env.kindOf x=some .globalImplicit
theorem t1 {E:Value->Shared->Prop} {pins:List (Addr×Obj)} {s:Shared} {σ:St} {H:Hp} {x:Str} {u:Value} {pos:Pos} {Q:Value->Shared->Prop} (I:Inv X pins σ H s) (hg:Gl X x) (hm:X.mg x=some u) (h:Q u s)
  (hd:(x == ("__debug__":Str))=false:=by decide):wpAny (model X.prog X.w) X.A (eval (.Name x pos) X.env) Q E s :=
 Calls.Name_function_global I.ok.kind hg (Calls.loadGlobal_global (by rw [I.ok.glob]; exact I.mod.glob.keeps I.bk) hm h) hd
theorem qb {E:Value->Shared->Prop} {pins:List (Addr×Obj)} {s:Shared} {σ:St} {H:Hp} {x:Str} {u:Value} {pos:Pos} {Q:Value->Shared->Prop} (I:Inv X pins σ H s) (hg:Gl X x) (hm:X.mg x=none) (hv:bootBuiltins x=some u) (h:Q u s)
  (hn:x≠"__name__":=by decide) (hd:(x == ("__debug__":Str))=false:=by decide):wpAny (model X.prog X.w) X.A (eval (.Name x pos) X.env) Q E s:=by
 obtain ⟨mb,h1,h2⟩:=I.mod.blt
 exact Calls.Name_function_global I.ok.kind hg (Calls.loadGlobal_builtin (by rw [I.ok.glob]; exact I.mod.glob.keeps I.bk) hm (by rw [I.ok.blt]; exact h1.keeps I.bk) ((h2 x hn).trans hv) h) hd
theorem fG {x:Str} {v:V} {u:Value} {pos:Pos} (hg:Gl X x) (hm:X.mg x=some u) (r:RelV v u) (hd:(x == ("__debug__":Str))=false:=by decide):PE X (.Name x pos) (tC v) :=
 λ_ _ _ H _ I h=>t1 I hg hm ⟨v,H,I,r,h⟩ hd
theorem hV {x:Str} {v:V} {u:Value} {pos:Pos} (hg:Gl X x) (hm:X.mg x=none) (hv:bootBuiltins x=some u) (r:RelV v u) (hn:x≠"__name__":=by decide) (hd:(x == ("__debug__":Str))=false:=by decide):PE X (.Name x pos) (tC v) :=
 λ_ _ _ H _ I h=>qb I hg hm hv ⟨v,H,I,r,h⟩ hn hd
variable {a b:Expr} {ta tb:TE} {pos:Pos}
noncomputable def PC (X:Cx) (op:CmpOp) (a b:Expr) (t:TE):Prop :=
 ∀ (pins:List (Addr×Obj)) (s:Shared) (σ:St) (H:Hp) (Q:VK),Inv X pins σ H s->t σ H Q ->
  wpAny (model X.prog X.w) X.A (eval a X.env) (λv s₁=>wpAny (model X.prog X.w) X.A (eval b X.env) (λu s₂=>wpAny (model X.prog X.w) X.A (compareOp op v u) (EP X pins σ Q) X.xe s₂) X.xe s₁) X.xe s
noncomputable def Zf2 (ta:TE):TE:=λσ H Q=>ta σ H λx H1=>Q (.bl (decide (x=.non))) H1
theorem RelV.none_iff {x:V} {v:Value} (r:RelV x v):(v == Value.none)=decide (x=.non):=by
 cases x with
 | non=>cases r; rfl
 | bl _=>cases r; rfl
 | int _=>obtain ⟨t,rfl⟩:=r; rfl
 | str _=>obtain ⟨t,rfl⟩:=r; rfl
 | byt _=>obtain ⟨t,rfl⟩:=r; rfl
 | flt _=>obtain ⟨t,rfl⟩:=r; rfl
 | ref _=>cases r; rfl
 | ty _=>cases r; rfl
theorem Zh3 {j pos'} (ha:PE X a ta):PC X .Is a (.Constant .none j pos') (Zf2 ta):=by
 intro pins s σ H Q I h
 refine thn (ha pins s σ H _ I h) λv s1 hz0=>?_
 obtain ⟨x,H1,I1,r1,q1⟩:=hz0
 exact Constant_none (is_none_gen ⟨.bl _,H1,I1,by rw [r1.none_iff]; rfl,q1⟩)
noncomputable def tB (t:TE):TT:=λσ H Q=>t σ H λx H1=>∃ c,x=.bl c/\Q c H1
theorem ZhB {op:CmpOp} {t:TE} (h:PC X op a b t) (h1:behindInMarks op b=false:=by first | exact nobehind _ (by decide) (by decide) | rfl):PT X (.Compare a [op] [b] pos) (tB t):=by
 intro pins s σ H Q I hw
 refine wpAny_isTrue_Compare1 (thn (h pins s σ H _ I hw) λv s1 h1=>thn h1 λu s2 h2=>thn h2 λc s3 hz0=>?_) h1
 obtain ⟨x,H1,I1,r1,q1⟩:=hz0
 obtain ⟨d,rfl,q⟩:=q1
 cases r1
 exact wpAny_truthy_bool ⟨H1,I1,q⟩
theorem sY {e:Expr} {t:TE} (h:PE X e t) (he:∀ whole,isTrue e X.env whole=(do let v <- whole; standAt e.pos; holding [v] (truthy v)):=by intro _; rfl):PT X e (tB t):=by
 intro pins s σ H Q I hw
 refine isTrue_plain (thn (h pins s σ H _ I hw) λv s1 hz0=>?_) (he _)
 obtain ⟨x,H1,I1,r1,q1⟩:=hz0
 obtain ⟨d,rfl,q⟩:=q1
 cases r1
 exact wpAny_truthy_bool ⟨H1,I1,q⟩
variable {tA tB':TT} {rest:List Expr}
noncomputable def Zf9 (t u:TT):TT:=λσ H Q=>t σ H λc H1=>if c=true then u σ H1 Q else Q false H1
noncomputable def tOr (t u:TT):TT:=λσ H Q=>t σ H λc H1=>if c=true then Q true H1 else u σ H1 Q
noncomputable def ZfX (t:TT):TT:=λσ H Q=>t σ H λc H1=>Q (!c) H1
theorem Zhy (ha:PT X a tA):PW X (.BoolOp .And [a] pos) tA:=by
 intro wh pins s σ H Q I h
 refine isTrue_and (thn (ha pins s σ H Q I h) λc s1 e=>?_)
 cases c with
 | true=>exact isTrue_and_nil e
 | false=>exact e
theorem sW (ha:PT X a tA):PW X (.BoolOp .Or [a] pos) tA:=by
 intro wh pins s σ H Q I h
 refine isTrue_or (thn (ha pins s σ H Q I h) λc s1 e=>?_)
 cases c with
 | false=>exact isTrue_or_nil e
 | true=>exact e
theorem Zhz (ha:PT X a tA) (hb:PW X (.BoolOp .And (b::rest) pos) tB'):PW X (.BoolOp .And (a::b::rest) pos) (Zf9 tA tB'):=by
 intro wh pins s σ H Q I h
 refine isTrue_and (thn (ha pins s σ H _ I h) λc s1 hz0=>?_)
 obtain ⟨H1,I1,q1⟩:=hz0
 cases c with
 | true=>exact hb wh pins s1 σ H1 Q I1 q1
 | false=>exact ⟨H1,I1,q1⟩
theorem sX (ha:PT X a tA) (hb:PW X (.BoolOp .Or (b::rest) pos) tB'):PW X (.BoolOp .Or (a::b::rest) pos) (tOr tA tB'):=by
 intro wh pins s σ H Q I h
 refine isTrue_or (thn (ha pins s σ H _ I h) λc s1 hz0=>?_)
 obtain ⟨H1,I1,q1⟩:=hz0
 cases c with
 | true=>exact ⟨H1,I1,q1⟩
 | false=>exact hb wh pins s1 σ H1 Q I1 q1
theorem sZ (ha:PT X a tA):PT X (.UnaryOp .Not a pos) (ZfX tA):=by
 intro pins s σ H Q I h
 exact isTrue_not (ha pins s σ H (λc H1=>Q (!c) H1) I h)
noncomputable def Zf8 (ta tb:TE):TE:=λσ H Q=>ta σ H λx H1=>∃ c,x=.bl c/\if c=true then tb σ H1 Q else Q (.bl false) H1
noncomputable def ZfU (ta tb:TE):TE:=λσ H Q=>ta σ H λx H1=>∃ c,x=.bl c/\if c=true then Q (.bl true) H1 else tb σ H1 Q
noncomputable def ZfW (ta:TE):TE:=λσ H Q=>ta σ H λx H1=>∃ c,x=.bl c/\Q (.bl (!c)) H1
theorem ZhS {op} {t:TE} (h:PE X a t):PE X (.BoolOp op [a] pos) t:=λpins s σ H Q I hw=>BoolOp_one (h pins s σ H Q I hw)
theorem Zh2 (ha:PE X a ta) (hb:PE X (.BoolOp .And (b::rest) pos) tb):PE X (.BoolOp .And (a::b::rest) pos) (Zf8 ta tb):=by
 intro pins s σ H Q I h
 refine BoolOp_and (thn (ha pins s σ H _ I h) λv s1 hz0=>?_)
 obtain ⟨x,H1,I1,r1,q1⟩:=hz0
 obtain ⟨c,rfl,q1⟩:=q1
 cases r1
 refine wpAny_truthy_bool ?_
 cases c with
 | true=>exact hb pins s1 σ H1 Q I1 q1
 | false=>exact ⟨.bl false,H1,I1,rfl,q1⟩
theorem ZhR (ha:PE X a ta) (hb:PE X (.BoolOp .Or (b::rest) pos) tb):PE X (.BoolOp .Or (a::b::rest) pos) (ZfU ta tb):=by
 intro pins s σ H Q I h
 refine BoolOp_or (thn (ha pins s σ H _ I h) λv s1 hz0=>?_)
 obtain ⟨x,H1,I1,r1,q1⟩:=hz0
 obtain ⟨c,rfl,q1⟩:=q1
 cases r1
 refine wpAny_truthy_bool ?_
 cases c with
 | false=>exact hb pins s1 σ H1 Q I1 q1
 | true=>exact ⟨.bl true,H1,I1,rfl,q1⟩
theorem ZhT (ha:PE X a ta):PE X (.UnaryOp .Not a pos) (ZfW ta):=by
 intro pins s σ H Q I h
 refine UnaryOp_ (thn (ha pins s σ H _ I h) λv s1 hz0=>?_)
 obtain ⟨x,H1,I1,r1,q1⟩:=hz0
 obtain ⟨c,rfl,q1⟩:=q1
 cases r1
 exact not_of (wpAny_truthy_bool ⟨.bl (!c),H1,I1,rfl,q1⟩)
noncomputable def tIf (t:TT) (ta tb:TE):TE:=λσ H Q=>t σ H λc H1=>if c=true then ta σ H1 Q else tb σ H1 Q
theorem ZhU {c:Expr} (hc:PT X c tA) (ha:PE X a ta) (hb:PE X b tb):PE X (.IfExp c a b pos) (tIf tA ta tb):=by
 intro pins s σ H Q I h
 refine wpAny_IfExp (thn (hc pins s σ H _ I h) λd s1 hz0=>?_)
 obtain ⟨H1,I1,q1⟩:=hz0
 cases d with
 | true=>exact ha pins s1 σ H1 Q I1 q1
 | false=>exact hb pins s1 σ H1 Q I1 q1
end
noncomputable def SqL (K:PySem.W.Frag) (H:Hp) (a:Addr) (xs:List V):Prop :=
 Rd H a (.lst xs) \/
  ∃ (o:Obj) (its:Array Value) (n:Nat),K.lookup a=some o/\o.cls=.type "list"/\o.dict=none/\o.data=.seq its n/\its.size<=sizeLine/\Vals xs its.toList
noncomputable def SqT (K:PySem.W.Frag) (H:Hp) (a:Addr) (xs:List V):Prop :=
 Rd H a (.tup xs) \/
  ∃ (o:Obj) (its:Array Value) (n:Nat),K.lookup a=some o/\o.cls=.type "tuple"/\o.data=.seq its n/\its.size<=sizeLine/\Vals xs its.toList
noncomputable def ZpG:Value->Option V
 | .none=>some .non
 | .bool b=>some (.bl b)
 | .int i _=>some (.int i)
 | .str x _=>some (.str x)
 | .bytes b _=>some (.byt b)
 | .float b _=>some (.flt b)
 | .ref a=>some (.ref a)
 | .type n=>some (.ty n)
 | _=>none
theorem RelV.abs {x:V} {u:Value} (r:RelV x u):ZpG u=some x:=by
 cases x with
 | non=>cases r; rfl
 | bl _=>cases r; rfl
 | int _=>obtain ⟨t,rfl⟩:=r; rfl
 | str _=>obtain ⟨t,rfl⟩:=r; rfl
 | byt _=>obtain ⟨t,rfl⟩:=r; rfl
 | flt _=>obtain ⟨t,rfl⟩:=r; rfl
 | ref _=>cases r; rfl
 | ty _=>cases r; rfl
theorem RelV.inj {x y:V} {u:Value} (r:RelV x u) (q:RelV y u):x=y:=Option.some.inj (r.abs.symm.trans q.abs)
theorem Vals.inj {xs ys:List V} {us:List Value} (h:Vals xs us) (h':Vals ys us):xs=ys:=by
 induction h generalizing ys with
 | nil=>cases h'; rfl
 | cons r t ih=>cases h' with | cons r' t'=>rw [r.inj r',ih t']
section
variable {X:Cx} {pins:List (Addr×Obj)} {σ:St} {H:Hp} {s:Shared} {a:Addr} {xs ys:List V}
theorem SqL.of {K:PySem.W.Frag} (h:H a=some (.lst xs)):SqL K H a xs:=.inl (.inl h)
theorem SqT.of {K:PySem.W.Frag} (h:H a=some (.tup xs)):SqT K H a xs:=.inl (.inl h)
theorem Inv.list (I:Inv X pins σ H s) (h:SqL X.K H a xs):∃ its:List Value,Vals xs its/\PlainL s.heap a its.toArray/\xs.length<=sizeLine:=by
 rcases h with h | ⟨o,its,n,hk,hc,hd,hs,hz,r⟩
 ·obtain ⟨z,its,n,r,e⟩:=h.ok I.hok
  exact ⟨its,r,⟨_,n,e,rfl,rfl,rfl⟩,z⟩
 ·refine ⟨its.toList,r,⟨o,n,I.kIn a o hk,hc,hd,by simpa using hs⟩,?_⟩
  have e:=r.length
  simp only [Array.length_toList] at e
  omega
theorem Inv.tuple (I:Inv X pins σ H s) (h:SqT X.K H a xs):∃ its:List Value,Vals xs its/\IsTup s.heap a its.toArray/\xs.length<=sizeLine:=by
 rcases h with h | ⟨o,its,n,hk,hc,hs,hz,r⟩
 ·obtain ⟨z,its,r,p⟩:=h.ok I.hok
  exact ⟨its,r,p,z⟩
 ·refine ⟨its.toList,r,⟨o,I.kIn a o hk,hc,n,by simpa using hs⟩,?_⟩
  have e:=r.length
  simp only [Array.length_toList] at e
  omega
theorem Inv.list_inj (I:Inv X pins σ H s) (h:SqL X.K H a xs) (h':SqL X.K H a ys):xs=ys:=by
 obtain ⟨its,r,⟨o,n,e,_,_,d⟩,_⟩:=I.list h
 obtain ⟨its',r',⟨o',n',e',_,_,d'⟩,_⟩:=I.list h'
 rw [e] at e'; cases e'
 rw [d] at d'
 injection d' with d1 _
 have:its=its':=by simpa using congrArg Array.toList d1
 subst this
 exact r.inj r'
theorem Inv.tuple_inj (I:Inv X pins σ H s) (h:SqT X.K H a xs) (h':SqT X.K H a ys):xs=ys:=by
 obtain ⟨its,r,⟨o,e,_,n,d⟩,_⟩:=I.tuple h
 obtain ⟨its',r',⟨o',e',_,n',d'⟩,_⟩:=I.tuple h'
 rw [e] at e'; cases e'
 rw [d] at d'
 injection d' with d1 _
 have:its=its':=by simpa using congrArg Array.toList d1
 subst this
 exact r.inj r'
end
noncomputable abbrev Cx.wish (X:Cx) (E:Value->Shared->Prop):Cx:={ X with xe:=E }
noncomputable abbrev Cx.nox (X:Cx):Cx:=X.wish λ_ _=>False
theorem Cx.Ok.wish {X:Cx} (ok:X.Ok) (E:Value->Shared->Prop):(X.wish E).Ok :=
 ⟨ok.mod,ok.kind,ok.glob,ok.blt,ok.above,ok.inj,ok.has,ok.cab,ok.hd,ok.frames,ok.stk,ok.exf,ok.bs,ok.bsz,ok.noex,ok.exfs,ok.funs,ok.frf⟩
theorem Cx.Ok.unwish {X:Cx} {E:Value->Shared->Prop} (ok:(X.wish E).Ok):X.Ok :=
 ⟨ok.mod,ok.kind,ok.glob,ok.blt,ok.above,ok.inj,ok.has,ok.cab,ok.hd,ok.frames,ok.stk,ok.exf,ok.bs,ok.bsz,ok.noex,ok.exfs,ok.funs,ok.frf⟩
section
variable {X:Cx} {pins:List (Addr×Obj)} {σ:St} {H:Hp} {s:Shared} {E:Value->Shared->Prop}
theorem Inv.wish (I:Inv X pins σ H s) (E:Value->Shared->Prop):Inv (X.wish E) pins σ H s:=⟨I.ok.wish E,I.os,I.bare,I.base,I.loc,I.cell,I.free,I.freeC,I.pin,I.hok,I.len⟩
theorem Inv.unwish (I:Inv (X.wish E) pins σ H s):Inv X pins σ H s:=⟨I.ok.unwish,I.os,I.bare,I.base,I.loc,I.cell,I.free,I.freeC,I.pin,I.hok,I.len⟩
theorem SP.unwish {D:Ends} {f:Flow} {s':Shared} (h:SP (X.wish E) pins D f s'):SP X pins D f s':=by
 cases f with
 | next=>obtain ⟨σ',H',I,q⟩:=h; exact ⟨σ',H',I.unwish,q⟩
 | brk=>obtain ⟨σ',H',I,q⟩:=h; exact ⟨σ',H',I.unwish,q⟩
 | cont=>obtain ⟨σ',H',I,q⟩:=h; exact ⟨σ',H',I.unwish,q⟩
 | ret u=>obtain ⟨v,σ',H',I,r,q⟩:=h; exact ⟨v,σ',H',I.unwish,r,q⟩
theorem PSs.nox {st:List Stmt} {t:TS} (h:PSs X.nox st t):PSs X st t:=λpins s σ H D I hw =>
 wpAny_mono (h pins s σ H D (I.wish _) hw) (λ_ _ q=>q.unwish) λ_ _ z=>False.elim z
end
section
variable {X:Cx} {st:Stmt} {rest:List Stmt} {t u:TS} {e:Expr} {te:TE} {pos:Pos}
noncomputable def ZfZ:TS:=λD σ H=>D.nx σ H
noncomputable def rU (t u:TS):TS:=λD σ H=>t { D with nx:=u D } σ H
theorem jH:PSs X [] ZfZ:=λ_ _ σ H _ I h=>wpAny_execs_nil ⟨σ,H,I,h⟩
theorem cG (h1:PS X st t) (h2:PSs X rest u):PSs X (st::rest) (rU t u):=by
 intro pins s σ H D I h
 refine wpAny_execs_cons (thn (h1 pins s σ H { D with nx:=u D } I h) λf s1 q=>?_)
 cases f with
 | next =>
  obtain ⟨σ',H',I',q⟩:=q
  exact h2 pins s1 σ' H' D I' q
 | ret v=>exact q
 | brk=>exact q
 | cont=>exact q
theorem fF (h1:PS X st t):PSs X [st] t:=by
 intro pins s σ H D I h
 refine wpAny_execs_cons (thn (h1 pins s σ H D I h) λf s1 q=>?_)
 cases f with
 | next=>exact wpAny_execs_nil q
 | ret v=>exact q
 | brk=>exact q
 | cont=>exact q
theorem Inv.quiet {pins:List (Addr×Obj)} {σ:St} {H:Hp} {s:Shared} (I:Inv X pins σ H s):interactive X.env=false:=by simp [interactive,I.ok.kind]
noncomputable def rX (te:TE):TS:=λD σ H=>te σ H λ_ H1=>D.nx σ H1
theorem fY (he:PE X e te) (hs:swapsWith e none pos.line X.env=pure false:=by rfl):PS X (.Expr e pos) (rX te):=by
 intro pins s σ H D I h
 exact wpAny_Expr_any (thn (he pins s σ H _ I h) λv s1 ⟨x,H1,I1,r1,q1⟩=>⟨σ,H1,I1,q1⟩) I.quiet hs
noncomputable def ZfS (te:TE):TS:=λD σ H=>te σ H D.rt
theorem fX (he:PE X e te):PS X (.Return (some e) pos) (ZfS te):=by
 intro pins s σ H D I h
 exact wpAny_Return_some (thn (he pins s σ H _ I h) λv s1 ⟨x,H1,I1,r1,q1⟩=>⟨x,σ,H1,I1,r1,q1⟩)
noncomputable def Zf3 (c:TT) (t u:TS):TS:=λD σ H=>c σ H λb H1=>if b=true then t D σ H1 else u D σ H1
theorem iT {c:Expr} {a b:List Stmt} {tc:TT} (hc:PT X c tc) (ha:PSs X a t) (hb:PSs X b u):PS X (.If c a b pos) (Zf3 tc t u):=by
 intro pins s σ H D I h
 refine wpAny_If (thn (hc pins s σ H _ I h) λd s1 hz0=>?_)
 obtain ⟨H1,I1,q1⟩:=hz0
 cases d with
 | true=>exact ha pins s1 σ H1 D I1 q1
 | false=>exact hb pins s1 σ H1 D I1 q1
end
noncomputable abbrev TG:=V->St->Hp->(St->Hp->Prop)->Prop
noncomputable abbrev iG:=List V->St->Hp->(St->Hp->Prop)->Prop
noncomputable def PG (X:Cx) (target:Expr) (t:TG):Prop :=
 ∀ (pins:List (Addr×Obj)) (s:Shared) (σ:St) (H:Hp) (v:V) (u:Value) (Q:St->Hp->Prop),Inv X pins σ H s->RelV v u->t v σ H Q ->
  wpAny (model X.prog X.w) X.A (assign target X.env u) (λ_ s'=>∃ σ' H',Inv X pins σ' H' s'/\Q σ' H') X.xe s
noncomputable def PGs (X:Cx) (ts:List Expr) (t:iG):Prop :=
 ∀ (pins:List (Addr×Obj)) (s:Shared) (σ:St) (H:Hp) (vs:List V) (us:List Value) (Q:St->Hp->Prop),Inv X pins σ H s->Vals vs us->t vs σ H Q ->
  wpAny (model X.prog X.w) X.A (assignInOrder ((assignEach ts X.env).map (·.2)) us) (λ_ s'=>∃ σ' H',Inv X pins σ' H' s'/\Q σ' H') X.xe s
section
variable {X:Cx} {pos:Pos}
noncomputable def eU (i:Nat):TG:=λv σ H Q=>Q (σ.set i (some v)) H
theorem a9 {i:Nat} {x:Str} (hN:X.N.Nodup) (hi:X.N[i]?=some x) (hx:l0 X.env.scope x) (hf:X.fn x=true\/X.env.scope.names.lookup x=some .local:=by first | exact .inl rfl | exact .inr rfl | assumption):PG X (.Name x pos) (eU i):=by
 intro pins s σ H v u Q I r h
 exact wpAny_assign_Name (kK I hN hi hx r (λs' I'=>⟨_,H,I',h⟩) hf)
noncomputable def ZcY:iG:=λvs σ H Q=>vs=[]/\Q σ H
noncomputable def qo (t:TG) (u:iG):iG:=λvs σ H Q=>∃ v r,vs=v::r/\t v σ H λσ' H'=>u r σ' H' Q
theorem ZbY:PGs X [] ZcY:=by
 intro pins s σ H vs us Q I r h
 obtain ⟨e,h⟩:=h
 subst e
 cases r
 exact assignInOrder_nil ⟨σ,H,I,h⟩
theorem pH {e:Expr} {es:List Expr} {t:TG} {u:iG} (h1:PG X e t) (h2:PGs X es u)
  (hs:(assignEach (e::es) X.env).map (·.2)=assign e X.env::(assignEach es X.env).map (·.2):=by rfl):PGs X (e::es) (qo t u):=by
 intro pins s σ H vs us Q I r h
 obtain ⟨v,vr,e1,h⟩:=h
 subst e1
 cases r with
 | cons r rr =>
  rw [hs]
  refine assignInOrder_cons (thn (h1 pins s σ H _ _ _ I r h) λ_ s1 hz0=>?_)
  obtain ⟨σ1,H1,I1,q1⟩:=hz0
  exact h2 pins s1 σ1 H1 _ _ Q I1 rr q1
noncomputable def ZcX (K:PySem.W.Frag) (n:Nat) (t:iG):TG:=λv σ H Q=>∃ a xs,v=.ref a/\SqT K H a xs/\xs.length=n/\t xs σ H Q
theorem ZbZ {es:List Expr} {k:Nat} {t:iG} {n:Nat} (hc:X.calm=true) (h:PGs X es t)
  (hn:(assignEach es X.env).length=n:=by rfl) (hst:(assignEach es X.env).findIdx? (·.1)=none:=by rfl):PG X (.Tuple es k pos) (ZcX X.K n t):=by
 intro pins s σ H v u Q I r hw
 obtain ⟨a,xs,e1,hq,hl,hw⟩:=hw
 subst e1
 cases r
 obtain ⟨its,rv,ht,hz⟩:=I.tuple hq
 refine assign_Tuple_tuple (I.ok.hd hc) ht (by simp [hn,<- hl,rv.length]) hst λh' hx=>?_
 have I1:Inv X pins σ H { s with heap:=h' }:=I.kept (t':=s.toks) λb o e=>hx b o (Nat.ne_of_lt (Heap.lt_size e)) e
 exact h pins _ σ H xs _ Q I1 (by simpa using rv) hw
noncomputable def fA (te:TE) (g:TG):TS:=λD σ H=>te σ H λx H1=>g x σ H1 D.nx
theorem mP {tg e:Expr} {te:TE} {g:TG} (he:PE X e te) (hg:PG X tg g) (hs:swapsWithSole [tg] e pos.line X.env=pure false:=by rfl) (hw:swappedStores [tg] e X.env=pure none:=by rfl)
  (h1:(assignEach [tg] X.env).map (·.2)=[assign tg X.env]:=by rfl):PS X (.Assign [tg] e pos) (fA te g):=by
 intro pins s σ H D I h
 refine wpAny_Assign_stores (thn (he pins s σ H _ I h) λv s1 hz0=>?_) hs hw
 obtain ⟨x,H1,I1,r1,q1⟩:=hz0
 rw [h1]
 exact thn (hg pins s1 σ H1 x v _ I1 r1 q1) λ_ s2 q=>q
theorem aZ {i:Nat} {x:Str} {e:Expr} {te:TE} {pos':Pos} (hN:X.N.Nodup) (hi:X.N[i]?=some x) (hx:l0 X.env.scope x) (he:PE X e te) (hs:swapsWith e (some (.Name x pos')) pos.line X.env=pure false:=by rfl) (hf:X.fn x=true\/X.env.scope.names.lookup x=some .local:=by first | exact .inl rfl | exact .inr rfl | assumption) :
  PS X (.Assign [.Name x pos'] e pos) (fA te (eU i)):=by
 intro pins s σ H D I h
 refine wpAny_Assign_Name (thn (he pins s σ H _ I h) λv s1 hz0=>?_) hs
 obtain ⟨y,H1,I1,r1,q1⟩:=hz0
 exact kK I1 hN hi hx r1 (λs2 I2=>⟨_,H1,I2,q1⟩) hf
noncomputable def ZaC (i j:Nat) (ta:TA):TS:=λD σ H=>ta σ H λvs H1=>∃ v w,vs=[v,w]/\D.nx ((σ.set i (some v)).set j (some w)) H1
theorem ti {i j:Nat} {x y:Str} {a b:Expr} {ta:TA} {px py pt:Pos} {kt k2 pt2} (hc:X.calm=true) (hN:X.N.Nodup) (hi:X.N[i]?=some x) (hj:X.N[j]?=some y) (hij:i≠j)
  (hx:X.env.scope.names.lookup x=some .local) (hy:X.env.scope.names.lookup y=some .local) (ha:PA X [a,b] ta)
  (hw:swappedStores [.Tuple [.Name x px,.Name y py] kt pt] (.Tuple [a,b] k2 pt2) X.env=pure (some [x,y]))
  (hs:swapsWithSole [.Tuple [.Name x px,.Name y py] kt pt] (.Tuple [a,b] k2 pt2) pos.line X.env=pure false:=by rfl) :
  PS X (.Assign [.Tuple [.Name x px,.Name y py] kt pt] (.Tuple [a,b] k2 pt2) pos) (ZaC i j ta):=by
 intro pins s σ H D I h
 rw [exec_Assign_arm]
 refine wpAny_bind (wpAny_standAt ?_)
 rw [hs]
 refine wpAny_bind (wpAny_pure ?_)
 rw [if_neg (by decide)]
 refine wpAny_bind (Tuple_ (thn (ha _ pins s σ H _ I h) λus s1 hz0=>?_))
 obtain ⟨vs,H1,I1,r1,q1⟩:=hz0
 obtain ⟨v,w,e1,q1⟩:=q1
 subst e1
 obtain ⟨u1,u2,rfl,rv,rw'⟩:∃ u1 u2,us=[u1,u2]/\RelV v u1/\RelV w u2:=by
  cases r1 with
  | cons p q =>
   cases q with
   | cons p' q' =>
    cases q'
    exact ⟨_,_,rfl,p,p'⟩
 refine wpAny_newObj_type ?_ (by show 2<=sizeLine; decide)
 have I2:Inv X pins σ H1 { s1 with heap:=s1.heap.push { cls:=.type "tuple",data:=.seq [u1,u2].toArray } }:=I1.kept (t':=s1.toks) λb o e=>Heap.get?_push_of_some _ e
 rw [hw]
 refine wpAny_bind (wpAny_pure ?_)
 show wpAny (model X.prog X.w) X.A (do rule "assign.swapped-stores"; let items <- unpackItems (.ref s1.heap.objs.size) 2 none; assignInOrder [λv=>bindName X.env y v,λv=>bindName X.env x v] items.reverse; pure Flow.next) _ _ _
 refine wpAny_bind (wpAny_rule (wpAny_bind (unpackItems_tuple (items:=#[u1,u2]) (I.ok.hd hc) (IsTup.new s1.heap _) λh' hx'=>?_)))
 have I3:=I2.kept (h':=h') (t':=s1.toks) λb o e=>hx' b o (Nat.ne_of_lt (Heap.lt_size e)) e
 show wpAny _ _ (assignInOrder [λv=>bindName X.env y v,λv=>bindName X.env x v] [u2,u1] >>= λ_=>pure Flow.next) _ _ _
 refine wpAny_bind (assignInOrder_cons (wpAny_bindName (kK I3 hN hj (.inl hy) rw' (λs2 I4=>?_) (.inr hy))))
 refine assignInOrder_cons (wpAny_bindName (kK I4 hN hi (.inl hx) rv (λs3 I5=>assignInOrder_nil (wpAny_pure ?_)) (.inr hx)))
 rw [List.set_comm _ _ (Ne.symm hij)] at I5
 exact ⟨_,H1,I5,q1⟩
end
section
variable {X:Cx} {pos:Pos}
noncomputable def ZfO (c:TT) (tb:TS):TS:=λD σ H=>∃ W:Nat->St->Hp->Prop,(∃ m,W m σ H)/\∀ m σ H,W m σ H ->
 c σ H λb H1=>if b=true then ∃ N:St->Hp->Prop,(∀ σ' H',N σ' H'->∃ m',m' < m/\W m' σ' H')/\tb { D with nx:=N,ct:=N,bk:=D.nx } σ H1 else D.nx σ H1
theorem ZhE {c:Expr} {body:List Stmt} {tc:TT} {tb:TS} (hp:PassesOwn (model X.prog X.w) X.A X.env X.xe) (hc:PT X c tc) (hb:PSs X body tb):PS X (.While c body [] pos) (ZfO tc tb):=by
 intro pins s σ H D I h
 obtain ⟨W,⟨m0,w0⟩,turn⟩:=h
 refine wpAny_While (codeAny_whileLoop (λn s'=>∃ σ' H',Inv X pins σ' H' s'/\W n σ' H') ?_ m0 ⟨σ,H,I,w0⟩)
 rintro n s1 ⟨σ1,H1,I1,w1⟩
 refine wpAny_passesOwn hp (thn (hc pins s1 σ1 H1 _ I1 (turn n σ1 H1 w1)) λb s2 hz0=>?_)
 obtain ⟨H2,I2,q2⟩:=hz0
 cases b with
 | true =>
  obtain ⟨N,hN,q2⟩:=q2
  rw [if_pos rfl]
  refine wpAny_passesOwn hp (thn (hb pins s2 σ1 H2 _ I2 q2) λf s3 q3=>?_)
  cases f with
  | next =>
   obtain ⟨σ3,H3,I3,n3⟩:=q3
   obtain ⟨m',hm,w3⟩:=hN σ3 H3 n3
   exact ⟨m',hm,σ3,H3,I3,w3⟩
  | cont =>
   obtain ⟨σ3,H3,I3,n3⟩:=q3
   obtain ⟨m',hm,w3⟩:=hN σ3 H3 n3
   exact ⟨m',hm,σ3,H3,I3,w3⟩
  | brk=>exact q3
  | ret v=>exact q3
 | false =>
  rw [if_neg Bool.false_ne_true]
  exact wpAny_execs_nil ⟨σ1,H2,I2,q2⟩
end
structure It where
 go:Nat->Hp->Prop
 yld:Nat->Hp->V->Hp->Prop
 stop:Nat->Hp->Prop
noncomputable def gZ (X:Cx) (pins:List (Addr×Obj)) (H:Hp) (b:Addr):Prop :=
 H b=none/\b≠X.env.locals/\b ∉ X.fs/\(b∈X.ex\/X.s₀.heap.objs.size<=b)/\(∀ x c,X.env.cells.lookup x=some c->c≠b)/\∀ p∈X.pn++pins,p.1≠b
theorem Inv.fpOk {X:Cx} {pins:List (Addr×Obj)} {σ:St} {H H':Hp} {s:Shared} {b:Addr} (I:Inv X pins σ H s) (hb:s.heap.objs.size<=b) (hn:H' b=none):gZ X pins H' b:=by
 refine ⟨hn,Nat.ne_of_gt (Nat.lt_of_lt_of_le I.lt hb),I.nofs hb,.inr (Nat.le_trans I.sz hb),λx c e z=>?_,λp hp z=>?_⟩
 ·obtain ⟨v,q⟩:=I.cell x c e
  exact absurd (Nat.lt_of_lt_of_le q.lt (by rw [z]; exact hb)) (Nat.lt_irrefl _)
 ·exact absurd (Nat.lt_of_lt_of_le (Heap.lt_size (I.pin p hp).1) (by rw [z]; exact hb)) (Nat.lt_irrefl _)
structure Turn (P:Program) (w:World) (K:PySem.W.Frag) (tg:Expr) (J:It) (fp:List Addr) (it:Addr) (tn:Nat->Heap->Prop):Prop where
 mem:it∈fp
 obj:∀ i h,tn i h->∀ b∈fp,∃ o,h.get? b=some o/\∀ v,o.data≠.cell v
 keep:∀ i h h',tn i h->(∀ b∈fp,∀ o,h.get? b=some o->h'.get? b=some o)->tn i h'
 item:∀ (X:Cx),X.prog=P->X.w=w->X.K=K->X.calm=true->∀ (i:Nat) (pins:List (Addr×Obj)) (s:Shared) (σ:St) (H:Hp) (E:Value->Shared->Prop),Inv X pins σ H s->(∀ b∈fp,gZ X pins H b)->tn i s.heap->J.go i H ->
  wpAny (model P w) X.A (pyNext (.ref it)) (λr s1=>∃ u,r=some u /\
   wpAny (model P w) X.A (letOwnedTupleGo tg (.ref it) u) (λ_ s2=>∃ x H',Inv X pins σ H' s2/\RelV x u/\J.yld i H x H'/\tn (i+1) s2.heap/\∀ b∈fp,H' b=none) E s1) E s
 done:∀ (X:Cx),X.prog=P->X.w=w->X.K=K->X.calm=true->∀ (i:Nat) (pins:List (Addr×Obj)) (s:Shared) (σ:St) (H:Hp) (E:Value->Shared->Prop),Inv X pins σ H s->(∀ b∈fp,gZ X pins H b)->tn i s.heap->J.stop i H ->
  wpAny (model P w) X.A (pyNext (.ref it)) (λr s1=>r=none/\Inv X pins σ H s1) E s
 self:∀ (A:Around) (i:Nat) (s:Shared) (Q:Value->Shared->Prop) (E:Value->Shared->Prop),tn i s.heap->Q (.ref it) s->wpAny (model P w) A (pyIter (.ref it)) Q E s
noncomputable abbrev TI:=St->Hp->(It->Hp->Prop)->Prop
noncomputable def lX (X:Cx) (pins:List (Addr×Obj)) (σ:St) (tg:Expr) (R:It->Hp->Prop) (itv:Value) (s2:Shared):Prop :=
 ∃ (it:Addr) (fp:List Addr) (tn:Nat->Heap->Prop) (J:It) (H':Hp),itv=.ref it/\Inv X pins σ H' s2/\Turn X.prog X.w X.K tg J fp it tn/\tn 0 s2.heap/\(∀ b∈fp,gZ X pins H' b)/\R J H'
noncomputable def PI (X:Cx) (tg iter:Expr) (wi:TI):Prop :=
 ∀ (pins:List (Addr×Obj)) (s:Shared) (σ:St) (H:Hp) (R:It->Hp->Prop),Inv X pins σ H s->wi σ H R ->
  wpAny (model X.prog X.w) X.A (eval iter X.env) (λv s1=>wpAny (model X.prog X.w) X.A (pyIter v) (lX X pins σ tg R) X.xe s1) X.xe s
theorem qm {M:Model} {A:Around} {E:Value->Shared->Prop} {s:Shared} {tg:Expr} {it:Addr} {u:Value} {o:Obj} {n:String} {vs:Array Value} {Q:Unit->Shared->Prop} (ho:s.heap.get? it=some o) (hc:o.cls=.type n) (hd:o.data=.fields vs)
  (hn:["enumerate","zip","dict_itemiterator","dict_reverseitemiterator","odict_iterator","itertools.zip_longest","itertools.pairwise"].contains n=false) (hQ:Q () s):wpAny M A (letOwnedTupleGo tg (.ref it) u) Q E s:=by
 unfold letOwnedTupleGo
 cases tg <;> first
  | exact wpAny_pure hQ
  | (cases u <;> first
    | exact wpAny_pure hQ
    | (refine wpAny_bind (wpAny_load ho ?_)
       rw [hc,hd]
       show wpAny M A (if (["enumerate","zip","dict_itemiterator","dict_reverseitemiterator","odict_iterator","itertools.zip_longest","itertools.pairwise"].contains n && vs[0]? == some (rawInt _))=true then _ else _) Q E s
       rw [if_neg (by intro h; rw [hn,Bool.false_and] at h; cases h)]
       exact wpAny_pure hQ))
noncomputable def nQ (K:PySem.W.Frag) (a:Addr):It :=
 ⟨λi H=>∃ xs x,SqL K H a xs/\xs[i]?=some x,λi H x H'=>H'=H/\∀ xs,SqL K H a xs->xs[i]?=some x,λi H=>∃ xs,SqL K H a xs/\xs.length<=i⟩
noncomputable def rA (K:PySem.W.Frag) (a:Addr):It :=
 ⟨λi H=>∃ xs x,SqT K H a xs/\xs[i]?=some x,λi H x H'=>H'=H/\∀ xs,SqT K H a xs->xs[i]?=some x,λi H=>∃ xs,SqT K H a xs/\xs.length<=i⟩
noncomputable def nP (lo:Int) (n:Nat):It:=⟨λi _=>i < n,λi H x H'=>H'=H/\x=.int (lo+i),λi _=>n<=i⟩
theorem rR {P:Program} {w:World} {K:PySem.W.Frag} {tg:Expr} (a it:Addr):Turn P w K tg (nQ K a) [it] it (λi h=>h.IsListIter it a i) where
 mem:=by simp
 obj:=λi h st b hb=>by
  have e:b=it:=by simpa using hb
  subst e
  obtain ⟨o,e,c,d⟩:=st
  exact ⟨o,e,λv z=>by rw [d] at z; cases z⟩
 keep:=λi h h' st k=>st.at λo e=>k it (by simp) o e
 item:=by
  intro X hP hw hK hc i pins s σ H E I hf st hg
  subst hP hw hK
  obtain ⟨xs,x,hq,hx⟩:=hg
  obtain ⟨its,rv,p,hz⟩:=I.list hq
  obtain ⟨u,hu,ru⟩:=rv.get hx
  obtain ⟨f0,f1,f2,f3,f4,f5⟩:=hf it (by simp)
  refine wpAny_pyNext_list_item st p.isList (x:=u) (by simpa using hu) λh' st' sb=>?_
  have I1:Inv X pins σ H { s with heap:=h' }:=I.turned (t':=s.toks) (λb o hb e=>(sb.2 b hb).trans e) f0 f1 f3 f4 f5
  obtain ⟨o,e,c,d⟩:=id st'
  exact ⟨u,rfl,qm (s:={ s with heap:=h' }) e c d (by decide) ⟨x,H,I1,ru,⟨rfl,λys hy=>by rw [I.list_inj hy hq]; exact hx⟩,st',λb hb=>(hf b hb).1⟩⟩
 done:=by
  intro X hP hw hK hc i pins s σ H E I hf st hg
  subst hP hw hK
  obtain ⟨xs,hq,hx⟩:=hg
  obtain ⟨its,rv,p,hz⟩:=I.list hq
  obtain ⟨f0,f1,f2,f3,f4,f5⟩:=hf it (by simp)
  have hl:=rv.length
  exact wpAny_pyNext_list_end (I.ok.hd hc) st p.isList (by simp; omega) λh' eb=>⟨rfl,I.turned (t':=s.toks) (λb o hb e=>eb b o hb e) f0 f1 f3 f4 f5⟩
 self:=λ_ _ _ _ _ st h=>wpAny_pyIter_listiter st h
theorem Zav {P:Program} {w:World} {K:PySem.W.Frag} {tg:Expr} (a it:Addr):Turn P w K tg (rA K a) [it] it (λi h=>h.IsTupleIter it a i) where
 mem:=by simp
 obj:=λi h st b hb=>by
  have e:b=it:=by simpa using hb
  subst e
  obtain ⟨o,e,c,d⟩:=st
  exact ⟨o,e,λv z=>by rw [d] at z; cases z⟩
 keep:=λi h h' st k=>st.at λo e=>k it (by simp) o e
 item:=by
  intro X hP hw hK hc i pins s σ H E I hf st hg
  subst hP hw hK
  obtain ⟨xs,x,hq,hx⟩:=hg
  obtain ⟨its,rv,p,hz⟩:=I.tuple hq
  obtain ⟨u,hu,ru⟩:=rv.get hx
  obtain ⟨f0,f1,f2,f3,f4,f5⟩:=hf it (by simp)
  refine wpAny_pyNext_tuple_item st (show s.heap.IsTuple a its.toArray from p) (x:=u) (by simpa using hu) λh' st' sb=>?_
  have I1:Inv X pins σ H { s with heap:=h' }:=I.turned (t':=s.toks) (λb o hb e=>(sb.2 b hb).trans e) f0 f1 f3 f4 f5
  obtain ⟨o,e,c,d⟩:=id st'
  exact ⟨u,rfl,qm (s:={ s with heap:=h' }) e c d (by decide) ⟨x,H,I1,ru,⟨rfl,λys hy=>by rw [I.tuple_inj hy hq]; exact hx⟩,st',λb hb=>(hf b hb).1⟩⟩
 done:=by
  intro X hP hw hK hc i pins s σ H E I hf st hg
  subst hP hw hK
  obtain ⟨xs,hq,hx⟩:=hg
  obtain ⟨its,rv,p,hz⟩:=I.tuple hq
  obtain ⟨f0,f1,f2,f3,f4,f5⟩:=hf it (by simp)
  have hl:=rv.length
  exact wpAny_pyNext_tuple_end (I.ok.hd hc) st (show s.heap.IsTuple a its.toArray from p) (by simp; omega) λh' eb=>⟨rfl,I.turned (t':=s.toks) (λb o hb e=>eb b o hb e) f0 f1 f3 f4 f5⟩
 self:=λ_ _ _ _ _ st h=>wpAny_pyIter_tupleiter st h
theorem Zfz {P:Program} {w:World} {K:PySem.W.Frag} {tg:Expr} (it:Addr) (lo:Int) (n:Nat):Turn P w K tg (nP lo n) [it] it (λi h=>IsRangeIter h it (lo+(i:Nat) * 1) ((n:Int) - (i:Nat)) 1) where
 mem:=by simp
 obj:=λi h st b hb=>by
  have e:b=it:=by simpa using hb
  subst e
  exact ⟨_,st,λv z=>by
   have z':Data.fields _=Data.cell v:=z
   cases z'⟩
 keep:=λi h h' st k=>k it (by simp) _ st
 item:=by
  intro X hP hw hK hc i pins s σ H E I hf st hg
  subst hP hw hK
  obtain ⟨f0,f1,f2,f3,f4,f5⟩:=hf it (by simp)
  have W:=Walks.range (prog:=X.prog) (w:=X.w) (I.ok.hd hc) it lo 1 n
  refine W.item i s _ _ hg st λv h' tk hv st' kk=>?_
  obtain ⟨t,rfl⟩:=hv
  have I1:Inv X pins σ H { s with heap:=h',toks:=tk }:=I.turned (λb o hb e=>kk b o (by simpa using hb) e) f0 f1 f3 f4 f5
  refine ⟨_,rfl,qm (s:={ s with heap:=h',toks:=tk }) (n:="range_iterator") st' rfl rfl (by decide) ⟨.int (lo+i),H,I1,⟨t,?_⟩,⟨rfl,rfl⟩,st',λb hb=>(hf b hb).1⟩⟩
  rw [Int.mul_one]
 done:=by
  intro X hP hw hK hc i pins s σ H E I hf st hg
  subst hP hw hK
  obtain ⟨f0,f1,f2,f3,f4,f5⟩:=hf it (by simp)
  exact wpAny_pyNext_range_end (I.ok.hd hc) st (by have:n<=i:=hg; omega) λh' eb=>⟨rfl,I.turned (t':=s.toks) (λb o hb e=>eb b o hb e) f0 f1 f3 f4 f5⟩
 self:=λ_ _ _ _ _ st h=>wpAny_pyIter_rangeiter st h
section
variable {X:Cx} {tg:Expr}
noncomputable def ZcS (K:PySem.W.Frag) (tl:TE):TI:=λσ H R=>tl σ H λx H1=>∃ a,x=.ref a/\(∃ xs,SqL K H1 a xs)/\R (nQ K a) H1
theorem ZhL {l:Expr} {tl:TE} (hl:PE X l tl):PI X tg l (ZcS X.K tl):=by
 intro pins s σ H R I h
 refine thn (hl pins s σ H _ I h) λv s1 hz0=>?_
 obtain ⟨x,H1,I1,r1,q1⟩:=hz0
 obtain ⟨a,e,⟨xs,hq⟩,q⟩:=q1
 subst e
 cases r1
 obtain ⟨its,rv,p,hz⟩:=I1.list hq
 refine wpAny_pyIter_list p.isList ?_
 refine ⟨s1.heap.objs.size,[s1.heap.objs.size],_,_,H1,rfl,I1.kept (t':=s1.toks) λb o e=>Heap.get?_push_of_some _ e,rR a _,⟨_,Heap.get?_push_size _ rfl,rfl,rfl⟩,λb hb=>?_,q⟩
 have e:b=s1.heap.objs.size:=by simpa using hb
 subst e
 exact I1.fpOk (Nat.le_refl _) (I1.hok.fresh (Nat.le_refl _))
theorem Zhl {pins:List (Addr×Obj)} {σ:St} {H:Hp} {s:Shared} {R:It->Hp->Prop} {E:Value->Shared->Prop} {lo hi:Int} {t u v:Tok} {tk:Nat} (I:Inv X pins σ H s) (h1:-(2 ^ 62)<=lo) (h2:lo < 2 ^ 62) (h3:-(2 ^ 62)<=hi) (h4:hi < 2 ^ 62)
  (q:R (nP lo (hi - lo).toNat) H):wpAny (model X.prog X.w) X.A (pyIter (.ref s.heap.objs.size)) (lX X pins σ tg R) E { s with heap:=s.heap.push { cls:=.type "range",data:=.fields #[.int lo t,.int hi u,.int 1 v] },toks:=tk }:=by
 refine wpAny_pyIter_range (IsRange.new ..) (small_one h1 h2 h3 h4) ?_
 have I1:Inv X pins σ H { s with heap:=s.heap.push { cls:=.type "range",data:=.fields #[.int lo t,.int hi u,.int 1 v] },toks:=tk }:=I.kept λb o e=>Heap.get?_push_of_some _ e
 refine ⟨(s.heap.push { cls:=.type "range",data:=.fields #[.int lo t,.int hi u,.int 1 v] }).objs.size,[(s.heap.push { cls:=.type "range",data:=.fields #[.int lo t,.int hi u,.int 1 v] }).objs.size],_,_,H,rfl,
  I1.kept (t':=tk) λb o e=>Heap.get?_push_of_some _ e,Zfz _ lo (hi - lo).toNat,?_,λb hb=>?_,q⟩
 ·have e1:lo+((0:Nat):Int) * 1=lo:=by simp
  have e2:(((hi - lo).toNat:Nat):Int) - ((0:Nat):Int)=Builtin.Range.rangeSize lo hi 1:=by rw [rangeSize_one]; split <;> omega
  show IsRangeIter _ _ (lo+((0:Nat):Int) * 1) ((((hi - lo).toNat:Nat):Int) - ((0:Nat):Int)) 1
  rw [e1,e2]
  exact Heap.get?_push_size _ rfl
 ·have e:b=(s.heap.push { cls:=.type "range",data:=.fields #[.int lo t,.int hi u,.int 1 v] }).objs.size:=by simpa using hb
  subst e
  exact I1.fpOk (Nat.le_refl _) (I1.hok.fresh (Nat.le_refl _))
noncomputable def ZcR (ta:TA):TI:=λσ H R=>ta σ H λvs H1=>∃ j:Int,vs=[.int j]/\-(2 ^ 62)<=j/\j < 2 ^ 62/\R (nP 0 j.toNat) H1
theorem hU {a:Expr} {ta:TA} {p pos:Pos} (hg:Gl X "range") (hm:X.mg "range"=none) (ha:PA X [a] ta) (hs:starEach [a] X.env=[(false,eval a X.env)]:=by rfl):PI X tg (.Call (.Name "range" p) [a] [] pos) (ZcR ta):=by
 intro pins s σ H R I h
 refine Call_ (qb I hg hm boot_range (PyProof.Rows.callWith_type1 (thn (ha pos pins s σ H _ I h) λus s1 hz0=>?_) hs rfl))
 obtain ⟨vs,H1,I1,r1,q1⟩:=hz0
 obtain ⟨j,e,q1,q2,q⟩:=q1
 subst e
 cases r1 with
 | cons r rr =>
  cases rr
  obtain ⟨t,rfl⟩:=r
  exact call_range_1 (Zhl I1 (by omega) (by omega) q1 q2 (by simpa using q))
noncomputable def ZaD (wi:TI) (g:TG) (tb:TS):TS:=λD σ H=>wi σ H λJ H1=>∃ W:Nat->Nat->St->Hp->Prop,(∃ m,W 0 m σ H1)/\∀ i m σ H,W i m σ H ->
 (J.stop i H/\D.nx σ H)\/(J.go i H/\∃ N:St->Hp->Prop,(∀ σ' H',N σ' H'->∃ m',m' < m/\W (i+1) m' σ' H')/\∀ x H',J.yld i H x H'->g x σ H' λσ2 H2=>tb { D with nx:=N,ct:=N,bk:=D.nx } σ2 H2)
noncomputable def pG (fp:List Addr) (h:Heap):List (Addr×Obj):=fp.filterMap λb=>(h.get? b).map λo=>(b,o)
theorem gH {fp:List Addr} {h:Heap} {b:Addr} {o:Obj} (hb:b∈fp) (e:h.get? b=some o):(b,o)∈pG fp h:=List.mem_filterMap.mpr ⟨b,hb,by rw [e]; rfl⟩
theorem Zis {fp:List Addr} {h:Heap} {p:Addr×Obj} (hp:p∈pG fp h):p.1∈fp/\h.get? p.1=some p.2:=by
 obtain ⟨b,hb,e⟩:=List.mem_filterMap.mp hp
 cases q:h.get? b with
 | none=>rw [q] at e; cases e
 | some o =>
  rw [q] at e
  have e':(b,o)=p:=Option.some.inj e
  subst e'
  exact ⟨hb,q⟩
theorem Inv.pinned {pins:List (Addr×Obj)} {σ:St} {H:Hp} {s:Shared} {fp:List Addr} (I:Inv X pins σ H s) (hf:∀ b∈fp,gZ X pins H b) (ho:∀ b∈fp,∃ o,s.heap.get? b=some o/\∀ v,o.data≠.cell v):Inv X (pins++pG fp s.heap) σ H s :=
 I.pins_of λp hp=>(List.mem_append.mp hp).elim (λz=>I.pin p (List.mem_append_right _ z)) λz=>by
  obtain ⟨hb,e⟩:=Zis z
  obtain ⟨f0,f1,f2,_⟩:=hf p.1 hb
  obtain ⟨o,e',d⟩:=ho p.1 hb
  rw [e] at e'; cases e'
  exact ⟨e,f0,f1,f2,d⟩
theorem Inv.unpinned {pins pl:List (Addr×Obj)} {σ:St} {H:Hp} {s:Shared} (I:Inv X (pins++pl) σ H s):Inv X pins σ H s:=I.pins_of λp hp=>I.pin p (List.mem_append_right _ (List.mem_append_left _ hp))
theorem ZbT {iter:Expr} {body:List Stmt} {wi:TI} {g:TG} {tb:TS} {pos:Pos} (hp:PassesOwn (model X.prog X.w) X.A X.env X.xe) (hc:X.calm=true) (hi:PI X tg iter wi) (hg:PG X tg g) (hb:PSs X body tb)
  (hs:∀ x,foldedSetIterable iter X.env x=pure x:=by intro _; rfl):PS X (.For tg iter body [] pos) (ZaD wi g tb):=by
 intro pins s σ H D I h
 refine wpAny_For (thn (hi pins s σ H _ I h) λv s1 h1=>thn h1 λitv s2 h2=>?_) hs
 obtain ⟨it,fp,tn,J,H2,e,I2,T,st2,f2,W,⟨m0,w0⟩,turn⟩:=h2
 subst e
 -- what stays true of the iterator's objects through the loop
 have stat:∀ {H':Hp},(∀ b∈fp,H' b=none)->∀ b∈fp,gZ X pins H' b:=λhn b hb=>⟨hn b hb,(f2 b hb).2⟩
 refine codeAny_forLoop_any (λn s'=>∃ i σ' H',Inv X pins σ' H' s'/\tn i s'.heap/\(∀ b∈fp,H' b=none)/\W i n σ' H') ?_ m0 ⟨0,σ,H2,I2,st2,λb hb=>(f2 b hb).1,w0⟩
 rintro n s3 ⟨i,σ3,H3,I3,st3,fr3,w3⟩
 rcases turn i n σ3 H3 w3 with ⟨stop,qn⟩ | ⟨go,N,hN,step⟩
 ·refine wpAny_passesOwn hp (thn (T.done X rfl rfl rfl hc i pins s3 σ3 H3 X.xe I3 (stat fr3) st3 stop) λr s4 hz0=>?_)
  obtain ⟨hr,I4⟩:=hz0
  subst hr
  exact wpAny_execs_nil ⟨σ3,H3,I4,qn⟩
 ·refine wpAny_passesOwn hp (thn (T.item X rfl rfl rfl hc i pins s3 σ3 H3 X.xe I3 (stat fr3) st3 go) λr s4 hz0=>?_)
  obtain ⟨u,hr,h4⟩:=hz0
  subst hr
  refine wpAny_passesOwn hp (thn h4 λ_ s5 hz0=>?_)
  obtain ⟨x,H5,I5,r5,y5,st5,fr5⟩:=hz0
  have I5':=I5.pinned (stat fr5) (T.obj _ _ st5)
  refine wpAny_passesOwn hp (thn (hg _ s5 σ3 H5 x u _ I5' r5 (step x H5 y5)) λ_ s6 hz0=>?_)
  obtain ⟨σ6,H6,I6,q6⟩:=hz0
  refine wpAny_passesOwn hp (thn (hb _ s6 σ6 H6 _ I6 q6) λf s7 q7=>?_)
  have again:∀ {σ7:St} {H7:Hp},Inv X (pins++pG fp s5.heap) σ7 H7 s7->N σ7 H7->∃ m,m < n/\∃ i σ' H',Inv X pins σ' H' s7/\tn i s7.heap/\(∀ b∈fp,H' b=none)/\W i m σ' H':=λ{σ7 H7} I7 n7=>by
   obtain ⟨m',hm,w7⟩:=hN σ7 H7 n7
   refine ⟨m',hm,i+1,σ7,H7,I7.unpinned,T.keep _ _ _ st5 λb hb o e=>(I7.pin (b,o) (List.mem_append_right _ (List.mem_append_right _ (gH hb e)))).1,λb hb=>?_,w7⟩
   obtain ⟨o,e,d⟩:=T.obj _ _ st5 b hb
   exact (I7.pin (b,o) (List.mem_append_right _ (List.mem_append_right _ (gH hb e)))).2.1
  cases f with
  | next=>obtain ⟨σ7,H7,I7,n7⟩:=q7; exact again I7 n7
  | cont=>obtain ⟨σ7,H7,I7,n7⟩:=q7; exact again I7 n7
  | brk=>obtain ⟨σ7,H7,I7,q7⟩:=q7; exact ⟨σ7,H7,I7.unpinned,q7⟩
  | ret v=>obtain ⟨x7,σ7,H7,I7,r7,q7⟩:=q7; exact ⟨x7,σ7,H7,I7.unpinned,r7,q7⟩
end
noncomputable abbrev R2:=V->V->Hp->VK->Prop
noncomputable def OpR (X:Cx) (f:Value->Value->Sem Value) (r:R2):Prop :=
 ∀ (pins:List (Addr×Obj)) (s:Shared) (σ:St) (H:Hp) (x y:V) (v u:Value) (Q:VK),Inv X pins σ H s->RelV x v->RelV y u->r x y H Q ->
  wpAny (model X.prog X.w) X.A (f v u) (EP X pins σ Q) X.xe s
noncomputable def CallR (X:Cx) (f:Value) (r:List V->Hp->VK->Prop):Prop :=
 ∀ (pins:List (Addr×Obj)) (s:Shared) (σ:St) (H:Hp) (xs:List V) (us:List Value) (Q:VK),Inv X pins σ H s->Vals xs us->r xs H Q ->
  wpAny (model X.prog X.w) X.A (call f us) (EP X pins σ Q) X.xe s
noncomputable def ZpK (X:Cx) (r:V->Hp->(Bool->Hp->Prop)->Prop):Prop :=
 ∀ (pins:List (Addr×Obj)) (s:Shared) (σ:St) (H:Hp) (x:V) (v:Value) (Q:Bool->Hp->Prop),Inv X pins σ H s->RelV x v->r x H Q ->
  wpAny (model X.prog X.w) X.A (truthy v) (TP X pins σ Q) X.xe s
noncomputable def jz (r:R2) (ta tb:TE):TE:=λσ H Q=>ta σ H λx H1=>tb σ H1 λy H2=>r x y H2 Q
noncomputable def rI (C:Int->Int->Prop) (g:Int->Int->V):R2:=λx y H Q=>∃ i j,x=.int i/\y=.int j/\C i j/\Q (g i j) H
noncomputable def fW (g:Int->Int->V):R2:=λx y H Q=>∃ i j,x=.int i/\y=.int j/\Q (g i j) H
section
variable {X:Cx} {a b c:Expr} {ta tb tc:TE} {pos:Pos}
theorem uZ (ha:PE X a ta) (hb:PE X b tb) {pins:List (Addr×Obj)} {s:Shared} {σ:St} {H:Hp} {R:V->V->Hp->Prop} (I:Inv X pins σ H s)
  (h:ta σ H λx H1=>tb σ H1 λy H2=>R x y H2) {Q:Value->Shared->Prop} {f:Value->Value->Sem Value}
  (hf:∀ v u s2 x y H2,Inv X pins σ H2 s2->RelV x v->RelV y u->R x y H2->wpAny (model X.prog X.w) X.A (f v u) Q X.xe s2) :
  wpAny (model X.prog X.w) X.A (eval a X.env) (λv s₁=>wpAny (model X.prog X.w) X.A (eval b X.env) (λu s₂=>wpAny (model X.prog X.w) X.A (f v u) Q X.xe s₂) X.xe s₁) X.xe s:=by
 refine thn (ha pins s σ H _ I h) λv s1 hz0=>?_
 obtain ⟨x,H1,I1,r1,q1⟩:=hz0
 refine thn (hb pins s1 σ H1 _ I1 q1) λu s2 hz0=>?_
 obtain ⟨y,H2,I2,r2,q2⟩:=hz0
 exact hf v u s2 x y H2 I2 r1 r2 q2
theorem cm {op:Operator} {r:R2} (ho:OpR X (binaryOp op) r) (ha:PE X a ta) (hb:PE X b tb):PE X (.BinOp a op b pos) (jz r ta tb):=by
 intro pins s σ H Q I h
 exact wpAny_BinOp (uZ ha hb I h λv u s2 x y H2 I2 rx ry q=>ho pins s2 σ H2 x y v u Q I2 rx ry q)
theorem jM {f:Value->Value->Sem Value} {C:Int->Int->Prop} {g:Int->Int->Int}
  (rule:∀ (i j:Int) (t u:Tok) (s:Shared) (Q:Value->Shared->Prop) (E:Value->Shared->Prop),C i j->Q (.int (g i j) s.toks) { s with toks:=s.toks+1 }->wpAny (model X.prog X.w) X.A (f (.int i t) (.int j u)) Q E s) :
  OpR X f (rI C λi j=>.int (g i j)):=by
 intro pins s σ H x y v u Q I rx ry h
 obtain ⟨i,j,rfl,rfl,hc,q⟩:=h
 obtain ⟨t,rfl⟩:=rx
 obtain ⟨t',rfl⟩:=ry
 exact rule i j t t' s _ _ hc ⟨.int (g i j),H,I.tok _,⟨_,rfl⟩,q⟩
theorem Zci {f:Value->Value->Sem Value} {g:Int->Int->Int}
  (rule:∀ (i j:Int) (t u:Tok) (s:Shared) (Q:Value->Shared->Prop) (E:Value->Shared->Prop),Q (.int (g i j) s.toks) { s with toks:=s.toks+1 }->wpAny (model X.prog X.w) X.A (f (.int i t) (.int j u)) Q E s) :
  OpR X f (fW λi j=>.int (g i j)):=by
 intro pins s σ H x y v u Q I rx ry h
 obtain ⟨i,j,rfl,rfl,q⟩:=h
 obtain ⟨t,rfl⟩:=rx
 obtain ⟨t',rfl⟩:=ry
 exact rule i j t t' s _ _ ⟨.int (g i j),H,I.tok _,⟨_,rfl⟩,q⟩
theorem pN {f:Value->Value->Sem Value} {g:Int->Int->Bool}
  (rule:∀ (i j:Int) (t u:Tok) (s:Shared) (Q:Value->Shared->Prop) (E:Value->Shared->Prop),Q (.bool (g i j)) s->wpAny (model X.prog X.w) X.A (f (.int i t) (.int j u)) Q E s) :
  OpR X f (fW λi j=>.bl (g i j)):=by
 intro pins s σ H x y v u Q I rx ry h
 obtain ⟨i,j,rfl,rfl,q⟩:=h
 obtain ⟨t,rfl⟩:=rx
 obtain ⟨t',rfl⟩:=ry
 exact rule i j t t' s _ _ ⟨.bl (g i j),H,I,rfl,q⟩
noncomputable def Zqc (i j:Int):Prop:=0 < j/\j < 1073741824
noncomputable def ZeR (i j:Int):Prop:=0<=j/\j<=1000000/\i.natAbs < 2 ^ 64
noncomputable def CMul (i j:Int):Prop:=(-(2 ^ 64) < i/\i < 2 ^ 64)\/(-(2 ^ 64) < j/\j < 2 ^ 64)
theorem CMul.ok {i j:Int} (h:CMul i j):IntMulOk i j:=by
 rcases h with ⟨h1,h2⟩ | ⟨h1,h2⟩
 ·exact .of_left (intBits_le_64 h1 h2)
 ·exact .of_right (intBits_le_64 h1 h2)
theorem ib:OpR X (binaryOp .Add) (fW λi j=>.int (i+j)):=Zci λ_ _ _ _ _ _ _ q=>add_int q
theorem kZ:OpR X (binaryOp .Sub) (fW λi j=>.int (i - j)):=Zci λ_ _ _ _ _ _ _ q=>sub_int q
theorem mS:OpR X (binaryOp .Mult) (rI CMul λi j=>.int (i * j)):=jM λ_ _ _ _ _ _ _ hc q=>mul_int q hc.ok
theorem Zcg:OpR X (binaryOp .FloorDiv) (rI Zqc λi j=>.int (i / j)):=jM λi j _ _ _ _ _ hc q=>by
 have h1:(0:Int) < j:=hc.1
 have h2:j < 1073741824:=hc.2
 exact floordiv_int (by omega) (by rw [Int.fdiv_eq_ediv_of_nonneg i (by omega)]; exact q) (.inl (PyProof.noPylong_small (by omega)))
theorem iV:OpR X (binaryOp .Mod) (rI (λ_ j=>0 < j) λi j=>.int (i % j)):=jM λi j _ _ _ _ _ hc q=>by
 have h1:(0:Int) < j:=hc
 exact mod_int' (by omega) (by rw [Int.fmod_eq_emod_of_nonneg i (by omega)]; exact q)
theorem pL:OpR X (binaryOp .Mod) (rI (λ_ j=>j≠0) λi j=>.int (i.fmod j)):=jM λ_ _ _ _ _ _ _ hc q=>mod_int' hc q
theorem k7:OpR X (binaryOp .Pow) (rI ZeR λi j=>.int (i ^ j.toNat)):=jM λ_ _ _ _ _ _ _ hc q=>pow_int_small hc.1 hc.2.1 hc.2.2 q
end
noncomputable def scal:V->V->Bool
 | .non,.non=>true | .non,.int _=>true | .int _,.non=>true | .non,.bl _=>true | .bl _,.non=>true | .non,.str _=>true | .str _,.non=>true
 | .int _,.int _=>true | .bl _,.bl _=>true | .str _,.str _=>true | .byt _,.byt _=>true
 | .int _,.str _=>true | .str _,.int _=>true | .bl _,.str _=>true | .str _,.bl _=>true
 | _,_=>false
noncomputable def rEq:R2:=λx y H Q=>scal x y=true/\Q (.bl (decide (x=y))) H
noncomputable def rNe:R2:=λx y H Q=>scal x y=true/\Q (.bl (!decide (x=y))) H
theorem ZdF {i j:Int}:decide (V.int i=V.int j)=(i == j):=by
 rw [Bool.eq_iff_iff]
 simp
theorem ZdH {i j:Bool}:decide (V.bl i=V.bl j)=(i == j):=by
 rw [Bool.eq_iff_iff]
 simp
theorem qD {i j:Str}:decide (V.str i=V.str j)=(i == j):=by
 rw [Bool.eq_iff_iff]
 simp
theorem ZdG {i j:Array UInt8}:decide (V.byt i=V.byt j)=(i.toList == j.toList):=by
 rw [Bool.eq_iff_iff]
 cases i
 cases j
 simp
section
variable {X:Cx} {a b c:Expr} {ta tb tc:TE} {pos:Pos}
theorem bT {pins:List (Addr×Obj)} {σ:St} {H:Hp} {s:Shared} {Q:VK} {k k':Bool} (I:Inv X pins σ H s) (q:Q (.bl k) H) (e:k=k'):EP X pins σ Q (.bool k') s:=by
 subst e
 exact ⟨.bl k,H,I,rfl,q⟩
theorem Zch:OpR X (compareOp .Eq) rEq:=by
 intro pins s σ H x y v u Q I rx ry h
 obtain ⟨hs,q⟩:=h
 cases x with
 | non =>
  cases rx
  cases y with
  | non=>cases ry; exact PySem.EqNone.eq_none_none (bT I q (by simp))
  | bl j=>cases ry; exact PySem.EqNone.eq_none_bool (bT I q (by simp))
  | int j=>obtain ⟨t',rfl⟩:=ry; exact PySem.EqNone.eq_none_int (bT I q (by simp))
  | str j=>obtain ⟨t',rfl⟩:=ry; exact PySem.EqNone.eq_none_str (bT I q (by simp))
  | _=>exact absurd (show false=true from hs) Bool.false_ne_true
 | bl i =>
  cases rx
  cases y with
  | non=>cases ry; exact PySem.EqNone.eq_bool_none (bT I q (by simp))
  | bl j=>cases ry; exact eq_bool (bT I q ZdH)
  | str j=>obtain ⟨t',rfl⟩:=ry; exact PySem.EqMixed.eq_bool_str (bT I q (by simp))
  | _=>exact absurd (show false=true from hs) Bool.false_ne_true
 | int i =>
  obtain ⟨t,rfl⟩:=rx
  cases y with
  | non=>cases ry; exact PySem.EqNone.eq_int_none (bT I q (by simp))
  | int j=>obtain ⟨t',rfl⟩:=ry; exact eq_int (bT I q ZdF)
  | str j=>obtain ⟨t',rfl⟩:=ry; exact PySem.EqMixed.eq_int_str (bT I q (by simp))
  | _=>exact absurd (show false=true from hs) Bool.false_ne_true
 | str i =>
  obtain ⟨t,rfl⟩:=rx
  cases y with
  | non=>cases ry; exact PySem.EqNone.eq_str_none (bT I q (by simp))
  | bl j=>cases ry; exact PySem.EqMixed.eq_str_bool (bT I q (by simp))
  | int j=>obtain ⟨t',rfl⟩:=ry; exact PySem.EqMixed.eq_str_int (bT I q (by simp))
  | str j=>obtain ⟨t',rfl⟩:=ry; exact eq_str (bT I q qD)
  | _=>exact absurd (show false=true from hs) Bool.false_ne_true
 | byt i =>
  obtain ⟨t,rfl⟩:=rx
  cases y with
  | byt j=>obtain ⟨t',rfl⟩:=ry; exact PySem.W.eq_bytes (bT I q ZdG)
  | _=>exact absurd (show false=true from hs) Bool.false_ne_true
 | _=>cases y <;> exact absurd (show false=true from hs) Bool.false_ne_true
theorem Zif:OpR X (compareOp .NotEq) rNe:=by
 intro pins s σ H x y v u Q I rx ry h
 obtain ⟨hs,q⟩:=h
 cases x with
 | non =>
  cases rx
  cases y with
  | non=>cases ry; exact PySem.EqNone.ne_none_none (bT I q (by simp))
  | bl j=>cases ry; exact PySem.EqNone.ne_none_bool (bT I q (by simp))
  | int j=>obtain ⟨t',rfl⟩:=ry; exact PySem.EqNone.ne_none_int (bT I q (by simp))
  | str j=>obtain ⟨t',rfl⟩:=ry; exact PySem.EqNone.ne_none_str (bT I q (by simp))
  | _=>exact absurd (show false=true from hs) Bool.false_ne_true
 | bl i =>
  cases rx
  cases y with
  | non=>cases ry; exact PySem.EqNone.ne_bool_none (bT I q (by simp))
  | bl j=>cases ry; exact ne_bool (bT I q (congrArg not ZdH))
  | str j=>obtain ⟨t',rfl⟩:=ry; exact PySem.EqMixed.ne_bool_str (bT I q (by simp))
  | _=>exact absurd (show false=true from hs) Bool.false_ne_true
 | int i =>
  obtain ⟨t,rfl⟩:=rx
  cases y with
  | non=>cases ry; exact PySem.EqNone.ne_int_none (bT I q (by simp))
  | int j=>obtain ⟨t',rfl⟩:=ry; exact ne_int (bT I q (congrArg not ZdF))
  | str j=>obtain ⟨t',rfl⟩:=ry; exact PySem.EqMixed.ne_int_str (bT I q (by simp))
  | _=>exact absurd (show false=true from hs) Bool.false_ne_true
 | str i =>
  obtain ⟨t,rfl⟩:=rx
  cases y with
  | non=>cases ry; exact PySem.EqNone.ne_str_none (bT I q (by simp))
  | bl j=>cases ry; exact PySem.EqMixed.ne_str_bool (bT I q (by simp))
  | int j=>obtain ⟨t',rfl⟩:=ry; exact PySem.EqMixed.ne_str_int (bT I q (by simp))
  | str j=>obtain ⟨t',rfl⟩:=ry; exact ne_str (bT I q (congrArg not qD))
  | _=>exact absurd (show false=true from hs) Bool.false_ne_true
 | byt i =>
  obtain ⟨t,rfl⟩:=rx
  cases y with
  | byt j=>obtain ⟨t',rfl⟩:=ry; exact PySem.W.ne_bytes (bT I q (congrArg not ZdG))
  | _=>exact absurd (show false=true from hs) Bool.false_ne_true
 | _=>cases y <;> exact absurd (show false=true from hs) Bool.false_ne_true
theorem hZ:OpR X (compareOp .Lt) (fW λi j=>.bl (decide (i < j))):=pN λ_ _ _ _ _ _ _ q=>lt_int q
theorem ia:OpR X (compareOp .LtE) (fW λi j=>.bl (decide (i<=j))):=pN λ_ _ _ _ _ _ _ q=>le_int q
theorem fZ:OpR X (compareOp .Gt) (fW λi j=>.bl (decide (j < i))):=pN λ_ _ _ _ _ _ _ q=>gt_int q
theorem Zce:OpR X (compareOp .GtE) (fW λi j=>.bl (decide (j<=i))):=pN λ_ _ _ _ _ _ _ q=>ge_int q
theorem mT:OpR X (compareOp .Is) (λx y H Q=>y=.non/\Q (.bl (decide (x=.non))) H):=by
 intro pins s σ H x y v u Q I rx ry h
 obtain ⟨rfl,q⟩:=h
 cases ry
 refine is_none_gen (bT I q ?_)
 cases x <;> first
  | (cases rx; rfl)
  | (obtain ⟨t,rfl⟩:=rx; rfl)
theorem Zib:OpR X (compareOp .IsNot) (λx y H Q=>y=.non/\Q (.bl (!decide (x=.non))) H):=by
 intro pins s σ H x y v u Q I rx ry h
 obtain ⟨rfl,q⟩:=h
 cases ry
 refine isnot_none_gen (bT I q ?_)
 cases x <;> first
  | (cases rx; rfl)
  | (obtain ⟨t,rfl⟩:=rx; rfl)
theorem OpR.or {f:Value->Value->Sem Value} {r r':R2} (h:OpR X f r) (h':OpR X f r'):OpR X f (λx y H Q=>r x y H Q\/r' x y H Q):=by
 intro pins s σ H x y v u Q I rx ry q
 rcases q with q | q
 ·exact h pins s σ H x y v u Q I rx ry q
 ·exact h' pins s σ H x y v u Q I rx ry q
theorem nomark (b:Expr) {op:CmpOp} (h:op≠.In:=by decide) (h2:op≠.NotIn:=by decide):behindInMarks op b=false:=by
 have e1:(op == CmpOp.In)=false:=by cases op <;> first | rfl | exact absurd rfl h
 have e2:(op == CmpOp.NotIn)=false:=by cases op <;> first | rfl | exact absurd rfl h2
 cases b <;> first | rfl | (show (_ && (op == CmpOp.In || op == CmpOp.NotIn) && _)=false; rw [e1,e2,Bool.or_false,Bool.and_false,Bool.false_and])
theorem ZhY {op:CmpOp} {r:R2} (ho:OpR X (compareOp op) r) (ha:PE X a ta) (hb:PE X b tb) (hm:behindInMarks op b=false):PE X (.Compare a [op] [b] pos) (jz r ta tb):=by
 intro pins s σ H Q I h
 exact wpAny_Compare1 (uZ ha hb I h λv u s2 x y H2 I2 rx ry q=>ho pins s2 σ H2 x y v u Q I2 rx ry q) hm
noncomputable def mi (t:TE):TT:=λσ H Q=>t σ H λx H'=>∃ k,x=.bl k/\Q k H'
theorem mO {op:CmpOp} {r:R2} (ho:OpR X (compareOp op) r) (ha:PE X a ta) (hb:PE X b tb) (hm:behindInMarks op b=false):PT X (.Compare a [op] [b] pos) (mi (jz r ta tb)):=by
 intro pins s σ H Q I h
 refine wpAny_isTrue_Compare1 (thn (ha pins s σ H _ I h) λv s1 ⟨x,H1,I1,r1,q1⟩=>thn (hb pins s1 σ H1 _ I1 q1) λu s2 ⟨y,H2,I2,r2,q2⟩ =>
  thn (ho pins s2 σ H2 x y v u _ I2 r1 r2 q2) λc s3 ⟨z,H3,I3,r3,k,e,q3⟩=>?_) hm
 subst e
 cases r3
 exact wpAny_truthy_bool ⟨H3,I3,q3⟩
noncomputable def rY (r r':R2) (ta tb tc:TE):TE:=λσ H Q=>ta σ H λx H1=>tb σ H1 λy H2=>r x y H2 λz H3=>∃ k,z=.bl k /\
 (if k=true then tc σ H3 λw' H4=>r' y w' H4 Q else Q (.bl false) H3)
theorem ZhZ {op op':CmpOp} {r r':R2} (ho:OpR X (compareOp op) r) (ho':OpR X (compareOp op') r') (ha:PE X a ta) (hb:PE X b tb) (hc:PE X c tc)
  (hm:lastMarks [op,op'] [b,c]=false:=by with_unfolding_all rfl):PE X (.Compare a [op,op'] [b,c] pos) (rY r r' ta tb tc):=by
 intro pins s σ H Q I h
 refine Compare_chain (thn (ha pins s σ H _ I h) λv s1 ⟨x,H1,I1,r1,q1⟩=>chain_link (thn (hb pins s1 σ H1 _ I1 q1) λu s2 ⟨y,H2,I2,r2,q2⟩ =>
  thn (ho pins s2 σ H2 x y v u _ I2 r1 r2 q2) λd s3 ⟨z,H3,I3,r3,k,e,q3⟩=>?_)) hm
 subst e
 cases r3
 refine wpAny_truthy_bool ?_
 cases k with
 | false=>exact ite_ff ⟨.bl false,H3,I3,rfl,q3⟩
 | true=>exact ite_tt (chain_last (thn (hc pins s3 σ H3 _ I3 q3) λw' s4 ⟨z',H4,I4,r4,q4⟩=>ho' pins s4 σ H4 y z' u w' Q I4 r2 r4 q4))
theorem ZhC {op op':CmpOp} {r r':R2} (ho:OpR X (compareOp op) r) (ho':OpR X (compareOp op') r') (ha:PE X a ta) (hb:PE X b tb) (hc:PE X c tc)
  (hm:lastMarks [op,op'] [b,c]=false:=by with_unfolding_all rfl):PT X (.Compare a [op,op'] [b,c] pos) (mi (rY r r' ta tb tc)):=by
 intro pins s σ H Q I h
 refine isTrue_chain (thn (ha pins s σ H _ I h) λv s1 ⟨x,H1,I1,r1,q1⟩=>test_link (thn (hb pins s1 σ H1 _ I1 q1) λu s2 ⟨y,H2,I2,r2,q2⟩ =>
  thn (ho pins s2 σ H2 x y v u _ I2 r1 r2 q2) λd s3 ⟨z,H3,I3,r3,k,e,q3⟩=>?_)) hm
 subst e
 cases r3
 refine wpAny_truthy_bool ?_
 cases k with
 | false =>
  obtain ⟨k',e',q'⟩:=q3
  cases e'
  exact ite_ff ⟨H3,I3,q'⟩
 | true =>
  refine ite_tt (test_last (thn (hc pins s3 σ H3 _ I3 q3) λw' s4 ⟨z',H4,I4,r4,q4⟩=>thn (ho' pins s4 σ H4 y z' u w' _ I4 r2 r4 q4) λd' s5 hz0=>?_))
  obtain ⟨z2,H5,I5,r5,k2,e2,q5⟩:=hz0
  subst e2
  cases r5
  exact wpAny_truthy_bool ⟨H5,I5,q5⟩
noncomputable def ZeK (K:PySem.W.Frag) (x:V) (H:Hp) (k:Bool):Prop :=
 match x with
 | .non=>k=false
 | .bl b=>k=b
 | .int i=>k=(i != 0)
 | .str y=>y.length<=sizeLine/\k=((y.length:Int) != 0)
 | .byt y=>y.size<=sizeLine/\k=((y.size:Int) != 0)
 | .ref p=>(∃ xs,SqL K H p xs/\k=!xs.isEmpty)\/(∃ xs,SqT K H p xs/\k=!xs.isEmpty)\/∃ kvs,H p=some (.dK kvs)/\k=!kvs.isEmpty
 | _=>False
theorem Zjz {κ:Type} {kvs:List (κ×V)} {vs:List (κ×Value)} (r:KV kvs vs):(!vs.isEmpty)=!kvs.isEmpty:=by
 cases r <;> rfl
theorem ZcM {xs:List V} {its:List Value} (r:Vals xs its):(!its.toArray.isEmpty)=!xs.isEmpty:=by
 cases r <;> simp
theorem lm:(sizeLine:Nat) < 2 ^ 63:=by rw [sizeLine_eq]; decide
theorem ZfA:ZpK X (λx H Q=>∃ k,ZeK X.K x H k/\Q k H):=by
 intro pins s σ H x v Q I rx h
 obtain ⟨k,e,q⟩:=h
 have hl:=lm
 have hs:sizeLine=16777216:=sizeLine_eq
 cases x with
 | non =>
  cases rx
  have e':k=false:=e
  subst e'
  exact truthy_none ⟨H,I,q⟩
 | bl b =>
  cases rx
  have e':k=b:=e
  subst e'
  exact wpAny_truthy_bool ⟨H,I,q⟩
 | int i =>
  obtain ⟨t,rfl⟩:=rx
  have e':k=(i != 0):=e
  subst e'
  exact PySem.P.truthy_int ⟨H,I,q⟩
 | str y =>
  obtain ⟨t,rfl⟩:=rx
  obtain ⟨hy,e'⟩:y.length<=sizeLine/\k=((y.length:Int) != 0):=e
  subst e'
  exact PySem.P.truthy_str (by omega) ⟨H,I.tok _,q⟩
 | byt y =>
  obtain ⟨t,rfl⟩:=rx
  obtain ⟨hy,e'⟩:y.size<=sizeLine/\k=((y.size:Int) != 0):=e
  subst e'
  exact PySem.W.truthy_bytes (by omega) ⟨H,I.tok _,q⟩
 | ref p =>
  cases rx
  have e':(∃ xs,SqL X.K H p xs/\k=!xs.isEmpty)\/(∃ xs,SqT X.K H p xs/\k=!xs.isEmpty)\/∃ kvs,H p=some (.dK kvs)/\k=!kvs.isEmpty:=e
  rcases e' with ⟨xs,hx,e'⟩ | ⟨xs,hx,e'⟩ | ⟨kvs,hx,e'⟩
  ·subst e'
   obtain ⟨its,r,pl,hz⟩:=I.list hx
   have hlen:=r.length
   exact wpAny_truthy_list pl.isList (by simp only [List.size_toArray]; omega) ⟨H,I.tok _,by rw [ZcM r]; exact q⟩
  ·subst e'
   obtain ⟨its,r,pl,hz⟩:=I.tuple hx
   have hlen:=r.length
   exact truthy_tuple pl (by simp only [List.size_toArray]; omega) ⟨H,I.tok _,by rw [ZcM r]; exact q⟩
  ·subst e'
   obtain ⟨hz,hS,vs,r,m⟩:kvs.length<=sizeLine/\(p == sysModules)=false/\∃ vs,KV kvs vs/\s.heap.DictOf (dU X.prog X.w) p vs:=I.hok p _ hx
   have hlen:kvs.length=vs.length:=Paired.length r
   exact wpAny_truthy_dict hS m (by omega) ⟨H,I.tok _,by rw [Zjz r]; exact q⟩
 | _=>exact (show False from e).elim
theorem ZhA (ha:PE X a ta) (he:∀ whole,isTrue a X.env whole=(do let v <- whole; standAt a.pos; holding [v] (truthy v))) :
  PT X a (λσ H Q=>ta σ H λx H'=>∃ k,ZeK X.K x H' k/\Q k H'):=by
 intro pins s σ H Q I h
 exact isTrue_plain (thn (ha pins s σ H _ I h) λv s1 ⟨x,H1,I1,r1,q1⟩=>ZfA pins s1 σ H1 x v Q I1 r1 q1) (he _)
theorem Zin:OpR X (binaryOp .Add) (λx y H Q=>∃ i j,x=.str i/\y=.str j/\i.length+j.length<=sizeLine/\Q (.str (i++j)) H):=by
 intro pins s σ H x y v u Q I rx ry h
 obtain ⟨i,j,rfl,rfl,hz,q⟩:=h
 obtain ⟨t,rfl⟩:=rx
 obtain ⟨t',rfl⟩:=ry
 exact add_str (λt' tk=>⟨.str (i++j),H,I.tok _,⟨_,rfl⟩,q⟩) hz
theorem eM {x:V} {us:List Value} (r:Vals [x] us):∃ u,us=[u]/\RelV x u:=by
 cases r with
 | cons r1 r2=>cases r2; exact ⟨_,rfl,r1⟩
theorem mh {x y:V} {us:List Value} (r:Vals [x,y] us):∃ u w',us=[u,w']/\RelV x u/\RelV y w':=by
 cases r with
 | cons r1 r2 =>
  cases r2 with
  | cons r3 r4=>cases r4; exact ⟨_,_,rfl,r1,r3⟩
theorem ji:CallR X (.builtin "abs") (λxs H Q=>∃ i,xs=[.int i]/\Q (.int (if i < 0 then -i else i)) H):=by
 intro pins s σ H xs us Q I r h
 obtain ⟨i,rfl,q⟩:=h
 obtain ⟨u,rfl,t,rfl⟩:=eM r
 exact call_abs_int λu tk=>⟨.int (if i < 0 then -i else i),H,I.tok _,⟨_,rfl⟩,q⟩
theorem Zd8:CallR X (.type "int") (λxs H Q=>(∃ i,xs=[.int i]/\Q (.int i) H)\/∃ k,xs=[.bl k]/\Q (.int (if k then 1 else 0)) H):=by
 intro pins s σ H xs us Q I r h
 rcases h with ⟨i,rfl,q⟩ | ⟨k,rfl,q⟩
 ·obtain ⟨u,rfl,t,rfl⟩:=eM r
  exact call_int_int ⟨.int i,H,I,⟨_,rfl⟩,q⟩
 ·obtain ⟨u,rfl,r1⟩:=eM r
  cases r1
  exact call_int_bool ⟨.int (if k then 1 else 0),H,I.tok _,⟨_,rfl⟩,q⟩
theorem gR:CallR X (.type "str") (λxs H Q=>∃ i,xs=[.int i]/\i.natAbs.log2 < 1920/\Q (.str (toString i)) H):=by
 intro pins s σ H xs us Q I r h
 obtain ⟨i,rfl,hz,q⟩:=h
 obtain ⟨u,rfl,t,rfl⟩:=eM r
 exact PySem.P.str_of_int hz ⟨.str _,H,I.tok _,⟨_,rfl⟩,q⟩
end
structure ObjM (h:Heap) (x dx C:Addr) (mA:Str->Option Value):Prop where
 obj:h.get? x=some (PySem.W.instObj C dx)
 ns:h.Ns1 dx mA
 ne:dx≠x
theorem ZiZ {h:Heap} {dx:Addr} {mA:Str->Option Value} (n:h.Ns1 dx mA):∃ od,h.get? dx=some od/\∀ name,PySem.W.lookIn name od=some (mA name):=by
 obtain ⟨o,es,ep,ho,hd,hk,_,hm⟩:=n
 refine ⟨o,ho,λname=>?_⟩
 have e:=hm name
 unfold nsFind findBy at e
 rw [<- Array.find?_toList] at e
 unfold PySem.W.lookIn
 rw [hd]
 dsimp only
 split
 ·rename_i y q
  rw [q] at e
  exact congrArg some e
 ·rename_i q
  rw [q] at e
  have a:es.toList.any (·.refKey)=false:=by
   rw [List.any_eq_false]
   intro y hy
   obtain ⟨z,t,hkey⟩:=hk y (Array.mem_toList_iff.mp hy)
   simp [DictEntry.refKey,hkey]
  have a':¬ es.toList.any (·.refKey)=true:=by rw [a]; exact Bool.false_ne_true
  rw [if_neg a']
  exact congrArg some e
theorem ObjM.look {h:Heap} {x dx C:Addr} {mA:Str->Option Value} (I:ObjM h x dx C mA):∃ od,PySem.W.InstAt h x (PySem.W.instObj C dx) C (some od)/\∀ name,PySem.W.lookIn name od=some (mA name) :=
 let ⟨od,ho,hl⟩:=ZiZ I.ns
 ⟨od,⟨I.obj,rfl,rfl,ho⟩,hl⟩
section
variable {prog:Program} {w:World} {A:Around} {E:Value->Shared->Prop} {s:Shared} {K:PySem.W.Frag} {x dx C f:Addr} {mA:Str->Option Value} {name:Str} {v:Value}
end
theorem RelO.some_of {v:V} {o:Option Value} (r:RelO (some v) o):∃ u,o=some u/\RelV v u:=by
 cases o with
 | none=>exact (show False from r).elim
 | some u=>exact ⟨u,rfl,r⟩
section
variable {P:Program} {w:World} {H H':Hp} {h h':Heap} {a C dx:Addr} {fs fs':List (Str×V)}
theorem ZjC (hok:HOk P w H h) (e:H a=some (.ins C dx fs)):∃ mA,ObjM h a dx C mA/\(∀ f,RelO (fs.lookup f) (mA f))/\PySem.Within mA (fs.map (·.1))/\fs.length<=1000/\H dx=some (.own a):=by
 obtain ⟨d,z,ne,ob,mA,n,r,q⟩:=(show ObjOk P w H h a (.ins C dx fs) from hok a _ e)
 exact ⟨mA,⟨ob,n,ne⟩,r,q,z,d⟩
end
structure Cls (K:PySem.W.Frag) (C:Addr):Prop where
 pg:PySem.W.plainGet K C Str.empty=true
 hd:PySem.W.hasDictIn K C=true
 po:PySem.W.plainOver K C=true
 sa:PySem.W.findIn K (.ref C) "__setattr__"=some (some (.builtin "object.__setattr__"))
theorem Cls.get {K:PySem.W.Frag} {C:Addr} (c:Cls K C) (f:Str):PySem.W.plainGet K C f=true:=c.pg
section
variable {X:Cx} {pins:List (Addr×Obj)} {σ:St} {H:Hp} {s:Shared} {a C dx:Addr} {fs:List (Str×V)} {f:Str} {v:V} {A:Around} {E:Value->Shared->Prop}
end
section
variable {X:Cx} {o e value:Expr} {f:Str} {pos pos' tpos:Pos} {ta tv:TE}
end
section
variable {X:Cx} {pins:List (Addr×Obj)} {σ:St} {H:Hp} {s:Shared} {A:Around} {E:Value->Shared->Prop} {Q:Value->Shared->Prop} {c:Value} {b:Bool}
inductive TyOf (K:PySem.W.Frag) (H:Hp):V->Value->Prop where
 | non:TyOf K H .non (.type "NoneType")
 | bl (x:Bool):TyOf K H (.bl x) (.type "bool")
 | int (i:Int):TyOf K H (.int i) (.type "int")
 | str (x:Str):TyOf K H (.str x) (.type "str")
 | flt (x:UInt64):TyOf K H (.flt x) (.type "float")
 | lst {a:Addr} {xs:List V} (e:H a=some (.lst xs)):TyOf K H (.ref a) (.type "list")
 | frz {a:Addr} {o:Obj} {xs:List V} (e:H a=some (.frz o (.lst xs))):TyOf K H (.ref a) (.type "list")
 | tup {a:Addr} {xs:List V} (e:H a=some (.tup xs)):TyOf K H (.ref a) (.type "tuple")
 | dK {a:Addr} {kvs:List (aI×V)} (e:H a=some (.dK kvs)):TyOf K H (.ref a) (.type "dict")
 | dT {a:Addr} {kvs:List (List aI×V)} (e:H a=some (.dT kvs)):TyOf K H (.ref a) (.type "dict")
 | frzD {a:Addr} {o:Obj} {kvs:List (aI×V)} (e:H a=some (.frz o (.dK kvs))):TyOf K H (.ref a) (.type "dict")
 | ins {a C dx:Addr} {fs:List (Str×V)} (e:H a=some (.ins C dx fs)) (cl:Cls K C) (ha:PySem.W.findIn K (.ref C) "__class__"=some (some (.builtin "object.__class__")))
   (hn:PySem.W.specialIn K (.builtin "object.__class__") "__get__"=some (some (.builtin "getset_descriptor.__get__"))) (htk:PySem.W.takesIn K (.builtin "object.__class__")=some true)
   (hm:PySem.W.mroIn K C (.type "object")=some true):TyOf K H (.ref a) (.ref C)
theorem Zjw {x:V} {u t:Value} (I:Inv X pins σ H s) (rx:RelV x u) (ty:TyOf X.K H x t) (e:PySem.W.kitOne X.K t c=some b) (h:∀ tk,Q (.bool b) { s with toks:=tk }) :
  wpAny (model X.prog X.w) A (call (.builtin "isinstance") [u,c]) Q E s:=by
 cases ty with
 | non=>cases (show u=Value.none from rx); exact PySem.W.kia_one PySem.W.kitx_none I.kIn True.intro e (λz=>nomatch z) h
 | bl y=>cases (show u=Value.bool y from rx); exact PySem.W.kia_one PySem.W.kitx_bool I.kIn True.intro e (λz=>nomatch z) h
 | int i=>obtain ⟨t,q⟩:=(show ∃ t,u=Value.int i t from rx); cases q; exact PySem.W.kia_one PySem.W.kitx_int I.kIn True.intro e (λz=>nomatch z) h
 | str y=>obtain ⟨t,q⟩:=(show ∃ t,u=Value.str y t from rx); cases q; exact PySem.W.kia_one PySem.W.kitx_str I.kIn True.intro e (λz=>nomatch z) h
 | flt y=>obtain ⟨t,q⟩:=(show ∃ t,u=Value.float y t from rx); cases q; exact PySem.W.kia_one PySem.W.kitx_float I.kIn True.intro e (λz=>nomatch z) h
 | @lst a xs ea =>
  cases (show u=Value.ref a from rx)
  obtain ⟨_,_,n,_,h1⟩:=(show ObjOk X.prog X.w H s.heap a (.lst xs) from I.hok a _ ea)
  exact PySem.W.kia_one PySem.W.kitx_list I.kIn ⟨_,h1,rfl⟩ e (λz=>nomatch z) h
 | @frz a ob xs ea =>
  cases (show u=Value.ref a from rx)
  obtain ⟨_,_,_,n,_,h1⟩:=(show ObjOk X.prog X.w H s.heap a (.frz ob (.lst xs)) from I.hok a _ ea)
  exact PySem.W.kia_one PySem.W.kitx_list I.kIn ⟨_,h1,rfl⟩ e (λz=>nomatch z) h
 | @tup a xs ea =>
  cases (show u=Value.ref a from rx)
  obtain ⟨_,_,_,p⟩:=(show ObjOk X.prog X.w H s.heap a (.tup xs) from I.hok a _ ea)
  obtain ⟨o,h1,h2,_⟩:=p
  exact PySem.W.kia_one PySem.W.kitx_tuple I.kIn ⟨o,h1,h2⟩ e (λz=>nomatch z) h
 | @dK a kvs ea =>
  cases (show u=Value.ref a from rx)
  obtain ⟨_,_,vs,_,p⟩:=(show ObjOk X.prog X.w H s.heap a (.dK kvs) from I.hok a _ ea)
  obtain ⟨o,es,ep,h1,h2,_⟩:=p
  exact PySem.W.kia_one PySem.W.kitx_dict I.kIn ⟨o,h1,h2.1⟩ e (λz=>nomatch z) h
 | @frzD a ob kvs ea =>
  cases (show u=Value.ref a from rx)
  obtain ⟨_,_,_,vs,_,p⟩:=(show ObjOk X.prog X.w H s.heap a (.frz ob (.dK kvs)) from I.hok a _ ea)
  obtain ⟨o,es,ep,h1,h2,_⟩:=p
  exact PySem.W.kia_one PySem.W.kitx_dict I.kIn ⟨o,h1,h2.1⟩ e (λz=>nomatch z) h
 | @dT a kvs ea =>
  cases (show u=Value.ref a from rx)
  obtain ⟨_,_,xs,_,o,es,ep,h1,h2,_⟩:=(show ObjOk X.prog X.w H s.heap a (.dT kvs) from I.hok a _ ea)
  exact PySem.W.kia_one PySem.W.kitx_dict I.kIn ⟨o,h1,h2.1⟩ e (λz=>nomatch z) h
 | @ins a C dx fs ea cl ha hn htk hm =>
  cases (show u=Value.ref a from rx)
  obtain ⟨mA,O,_⟩:=ZjC I.hok ea
  obtain ⟨od,J,_⟩:=O.look
  exact PySem.W.kia_one (PySem.W.kitx_own (cl.get _) cl.hd ha hn htk hm) I.kIn J e (λz=>nomatch z) h
end
structure Room (k:Nat) (A:Around):Prop where
 hd:A.handled=none
 dp:A.depth+3 * k+5 < recursionLimit
 un:A.units+16 * k+200 < cLine
 gd:A.guards=some []
theorem Room.mono {j k:Nat} {A:Around} (r:Room k A) (h:j<=k):Room j A:=⟨r.hd,by have:=r.dp; omega,by have:=r.un; omega,r.gd⟩
theorem Room.deeper {k:Nat} {A:Around} (r:Room (k+1) A) (env:Env):Room k (A.deeper env) :=
 ⟨r.hd,by have:=r.dp; show A.depth+1+3 * k+5 < _; omega,by have:=r.un; show A.units+3+16 * k+200 < _; omega,r.gd⟩
theorem Room.depth {k:Nat} {A:Around} (r:Room k A):A.depth < recursionLimit:=by have:=r.dp; omega
theorem Room.units {k:Nat} {A:Around} (r:Room k A):A.units+64 < cLine:=by have:=r.un; omega
noncomputable def aP:TA:=λ_ H Q=>Q [] H
noncomputable def mj (ta:TE) (tr:TA):TA:=λσ H Q=>ta σ H λx H1=>tr σ H1 λxs H2=>Q (x::xs) H2
section
variable {X:Cx} {e:Expr} {es:List Expr} {te:TE} {t:TA} {pos:Pos}
theorem bp:PA X [] aP:=λ_ _ _ _ H Q I h=>Calls.spliced_nil ⟨[],H,I,.nil,h⟩
theorem aN (ha:PE X e te) (hr:PA X es t) (hs:starEach (e::es) X.env=(false,eval e X.env)::starEach es X.env:=by rfl):PA X (e::es) (mj te t):=by
 intro pos pins s σ H Q I h
 rw [hs]
 show wpAny _ _ (spliced ((false,eval e X.env)::backTo pos (starEach es X.env))) _ _ s
 refine Calls.spliced_cons (thn (ha pins s σ H _ I h) λu s1 hz0=>?_)
 obtain ⟨x,H1,I1,r1,q1⟩:=hz0
 exact thn (hr pos pins s1 σ H1 _ I1 q1) λus s2 hz0=>by
  obtain ⟨xs,H2,I2,r2,q2⟩:=hz0
  exact ⟨x::xs,H2,I2,.cons r1 r2,q2⟩
noncomputable def ZfP (t:TA):TE:=λσ H Q=>t σ H λxs H1=>xs.length<=sizeLine/\∀ p,H1 p=none->Q (.ref p) (upd H1 p (.tup xs))
noncomputable def og (t:TA):TE:=λσ H Q=>t σ H λxs H1=>xs.length<=sizeLine/\∀ p,H1 p=none->Q (.ref p) (upd H1 p (.lst xs))
theorem pI {x1} (h:PA X es t):PE X (.Tuple es x1 pos) (ZfP t):=by
 intro pins s σ H Q I hq
 refine wpAny_Tuple_spliced (thn (h pos pins s σ H _ I hq) λus s1 ⟨xs,H1,I1,r,z,q⟩=>⟨by rw [<- r.length]; exact z,?_⟩)
 have hf:H1 s1.heap.objs.size=none:=I1.hok.fresh (Nat.le_refl _)
 refine ⟨.ref s1.heap.objs.size,upd H1 s1.heap.objs.size (.tup xs),I1.laid (t':=s1.toks) (λb u e=>Heap.get?_push_of_some _ e) (Nat.le_refl _) ?_,rfl,q _ hf⟩
 exact ⟨z,us,r,⟨_,Heap.get?_push_size _ rfl,rfl,_,rfl⟩⟩
theorem jI (h:PA X es t):PE X (.List es pos) (og t):=by
 intro pins s σ H Q I hq
 refine wpAny_List_spliced (thn (h pos pins s σ H _ I hq) λus s1 ⟨xs,H1,I1,r,z,q⟩=>⟨by rw [<- r.length]; exact z,?_⟩)
 have hf:H1 s1.heap.objs.size=none:=I1.hok.fresh (Nat.le_refl _)
 refine ⟨.ref s1.heap.objs.size,upd H1 s1.heap.objs.size (.lst xs),I1.laid (t':=s1.toks) (λb u e=>Heap.get?_push_of_some _ e) (Nat.le_refl _) ?_,rfl,q _ hf⟩
 exact ⟨z,us,0,r,Heap.get?_push_size _ rfl⟩
end
noncomputable abbrev Sp:=List V->Hp->VK->XK->Prop
noncomputable abbrev d7:=List Env->Hp->Shared->XK->Value->Shared->Prop
structure Env0 (P:Program) (w:World) (K:PySem.W.Frag) (mg:Str->Option Value) (base:Heap) (A:Around) (outer:List Env) (s:Shared) (H:Hp):Prop where
 frames:A.frames=some outer
 mod:Mod K mg base
 bs:∀ b o,base.get? b=some o->s.heap.get? b=some o/\H b=none
 bsz:base.objs.size<=s.heap.objs.size
 funs:s.heap.FunFrames base outer
 frf:∀ b∈frs outer,H b=none
 hok:HOk P w H s.heap
 bare:AllBare s.gens
noncomputable def CE (outer:List Env) (P:Program) (w:World) (H:Hp) (s:Shared) (Q:VK) (u:Value) (s':Shared):Prop :=
 ∃ v H',s'.os=s.os/\AllBare s'.gens/\Un (frs outer) [] H H' s.heap s'.heap/\HOk P w H' s'.heap/\RelV v u/\Q v H'
noncomputable def CR (CX:d7) (outer:List Env) (P:Program) (w:World) (H:Hp) (s:Shared) (Q:VK) (E:XK) (r:Result) (s':Shared):Prop :=
 match r with
 | .ok (.ret u)=>CE outer P w H s Q u s'
 | .ok _=>False
 | .error e=>CX outer H s E e s'
structure FnOk (P:Program) (w:World) (K:PySem.W.Frag) (mg:Str->Option Value) (base:Heap) (CX:d7) (k:Nat) (f:Addr) (fd:FuncData) (ps:List Str) (sp:Sp):Prop where
 len:∀ vs H Q E,sp vs H Q E->vs.length=ps.length
 run:∀ (A:Around) (outer:List Env) (s:Shared) (H:Hp) (args:Args) (us:List Value) (vs:List V) (Q:VK) (E:XK),Room k A->Env0 P w K mg base A outer s H->BindsTo s fd args (ps.zip us)->Vals vs us->sp vs H Q E ->
  codeAny (model P w) A (.call (.ref f) args) (CR CX outer P w H s Q E) s
theorem FnOk.mono {P:Program} {w:World} {K:PySem.W.Frag} {mg:Str->Option Value} {base:Heap} {CX:d7} {j k:Nat} {f:Addr} {fd:FuncData} {ps:List Str} {sp:Sp} (F:FnOk P w K mg base CX j f fd ps sp) (h:j<=k) :
  FnOk P w K mg base CX k f fd ps sp:=⟨F.len,λA outer s H args us vs Q E hr=>F.run A outer s H args us vs Q E (hr.mono h)⟩
theorem FnOk.imp {P:Program} {w:World} {K:PySem.W.Frag} {mg:Str->Option Value} {base:Heap} {CX:d7} {k:Nat} {f:Addr} {fd:FuncData} {ps:List Str} {sp sp':Sp} (F:FnOk P w K mg base CX k f fd ps sp)
  (h:∀ vs H Q E,sp' vs H Q E->sp vs H Q E):FnOk P w K mg base CX k f fd ps sp' :=
 ⟨λvs H Q E q=>F.len vs H Q E (h _ _ _ _ q),λA outer s H args us vs Q E hr he hb hv hs=>F.run A outer s H args us vs Q E hr he hb hv (h _ _ _ _ hs)⟩
section
variable {X:Cx} {pins:List (Addr×Obj)} {σ:St} {H:Hp} {s s':Shared}
theorem Inv.env0 (I:Inv X pins σ H s):Env0 X.prog X.w X.K X.mg X.base X.A X.stack s H :=
 ⟨I.ok.frames,I.ok.mod,I.bs,Nat.le_trans I.ok.bsz I.sz,I.stack,I.stkFree,I.hok,I.bare⟩
theorem Inv.after {Q:VK} {u:Value} (I:Inv X pins σ H s) (h:CE X.stack X.prog X.w H s Q u s'):EP X pins σ Q u s':=by
 obtain ⟨v,H',os,bare,un,hok,r,q⟩:=h
 obtain ⟨hh,g,d,t,os'⟩:=s'
 obtain rfl:os'=s.os:=os
 exact ⟨v,H',I.call (h':=hh) (g':=g) (d':=d) (t':=t) (ch:=[]) un hok bare (λb z=>absurd z (by simp)),r,q⟩
end
noncomputable def ZaE (sp:Sp) (dvs:List V) (E:XK) (t:TA):TE:=λσ H Q=>t σ H λvs H1=>sp (vs++dvs) H1 Q E
noncomputable def Binds (K:PySem.W.Frag) (fd:FuncData) (ps:List Str) (ds:List Value):Prop :=
 ∀ (s:Shared) (us:List Value),K.In s.heap->(us++ds).length=ps.length->BindsTo s fd ⟨us,[]⟩ (ps.zip (us++ds))
theorem Binds.all {K:PySem.W.Frag} {fd:FuncData} {ps:List Str} (h:∀ us:List Value,us.length=ps.length->bindArgs fd ⟨us,[]⟩=pure (ps.zip us)):Binds K fd ps []:=λs us _ hl=>by
 rw [List.append_nil] at hl ⊢
 exact .of_eq (h us hl)
noncomputable def lW (CX:d7) (X:Cx) (E:XK):Prop:=∀ (pins:List (Addr×Obj)) (σ:St) (H:Hp) (s:Shared) (e:Value) (s':Shared),Inv X pins σ H s->CX X.stack H s E e s'->X.xe e s'
section
variable {X:Cx} {CX:d7} {k:Nat} {f C:Addr} {fd:FuncData} {ps:List Str} {sp:Sp} {dvs:List V} {ds:List Value} {E:XK} {x m:Str} {p pos apos:Pos} {e o:Expr} {es:List Expr} {ta:TE} {t:TA}
theorem Zbf {pins:List (Addr×Obj)} {σ:St} {H:Hp} {s:Shared} {Q:VK} {us:List Value} {vs:List V} (F:FnOk X.prog X.w X.K X.mg X.base CX k f fd ps sp) (hr:Room k X.A) (hb:Binds X.K fd ps ds) (hd:Vals dvs ds) (hx:lW CX X E)
  (I:Inv X pins σ H s) (r:Vals vs us) (h:sp (vs++dvs) H Q E):wpAny (model X.prog X.w) X.A (call (.ref f) us) (EP X pins σ Q) X.xe s:=by
 have r2:Vals (vs++dvs) (us++ds):=r.append hd
 have hl:(us++ds).length=ps.length:=by rw [<- r2.length]; exact F.len _ _ _ _ h
 refine wpAny_call (codeAny_mono (F.run X.A X.stack s H ⟨us,[]⟩ (us++ds) (vs++dvs) Q E hr I.env0 (hb s us I.kIn hl) r2 h) λr s' hq=>?_)
 cases r with
 | error e=>exact hx pins σ H s e s' I hq
 | ok fl =>
  cases fl with
  | ret u=>exact I.after hq
  | next=>exact False.elim hq
  | brk=>exact False.elim hq
  | cont=>exact False.elim hq
theorem Zb5 (F:FnOk X.prog X.w X.K X.mg X.base CX k f fd ps sp) (hr:Room k X.A) (hg:Gl X x) (hm:X.mg x=some (.ref f)) (hk:PySem.W.keepIn X.K (.ref f)=true) (hb:Binds X.K fd ps ds) (hd:Vals dvs ds) (hx:lW CX X E)
  (ha:PA X (e::es) t) (hdb:(x == ("__debug__":Str))=false:=by decide) (he:starEach (e::es) X.env=(false,eval e X.env)::starEach es X.env:=by rfl) (hpl:(backTo pos (starEach es X.env)).any (·.1)=false:=by rfl) :
  PE X (.Call (.Name x p) (e::es) [] pos) (ZaE sp dvs E t):=by
 intro pins s σ H Q I h
 refine wpAny_Call_Name_kw (t1 I hg hm ?_ hdb)
 refine PySem.W.callWith_K (h₀:=X.base) I.ok.mod.kin hk (thn (ha pos pins s σ H _ I h) λus s1 ⟨vs,H1,I1,r,q⟩=>⟨I1.kIn,?_⟩) he hpl
 exact Zbf F hr hb hd hx I1 r q
end
noncomputable def PK (X:Cx) (kws:List Keyword) (t:TA):Prop :=
 ∀ (pos:Pos) (pins:List (Addr×Obj)) (s:Shared) (σ:St) (H:Hp) (Q:List V->Hp->Prop),Inv X pins σ H s->t σ H Q->wpAny (model X.prog X.w) X.A (evalAll ((backToKw pos (keywordEach kws X.env)).map (·.2))) (AP X pins σ Q) X.xe s
section
variable {X:Cx} {CX:d7} {k:Nat} {f C:Addr} {fd:FuncData} {ps ks:List Str} {sp:Sp} {E:XK} {x m:Str} {p pos apos kpos:Pos} {e o:Expr} {es:List Expr} {kws:List Keyword} {te ta:TE} {t tk:TA} {nm:Option Str}
variable {g:List Value->List Value->List Value} {gV:List V->List V->List V}
end
structure FnScope (N P:List Str) (sc:Scope):Prop where
 kind:sc.kind=.function
 co:sc.isCoroutine=false
 gen:sc.isGenerator=false
 nd:N.Nodup
 pre:N.take P.length=P
 par:∀ x∈P,sc.names.lookup x=some .local\/sc.names.lookup x=some .cell
 nofree:∀ y∈sc.names,y.2≠.free
theorem Zep {kindOf:Str->Option NameKind} {x:Str}:∀ {binds:List (Str×Value)} {m:Str->Option Value},(∀ v,(x,v) ∉ binds)->bindL kindOf binds m x=m x
 | [],_,_=>rfl
 | (n,v)::r,m,h=>by
  unfold bindL
  rw [Zep λw hw=>h w (List.mem_cons_of_mem _ hw)]
  split
  ·have:x≠n:=by rintro rfl; exact h v List.mem_cons_self
   simp [this]
  ·rfl
theorem Zer {kindOf:Str->Option NameKind} {x:Str}:∀ {binds:List (Str×Value)} {m:Str->Option Value},(∀ v,(x,v) ∉ binds)->bindC kindOf binds m x=m x
 | [],_,_=>rfl
 | (n,v)::r,m,h=>by
  unfold bindC
  rw [Zer λw hw=>h w (List.mem_cons_of_mem _ hw)]
  split
  ·rfl
  ·have:x≠n:=by rintro rfl; exact h v List.mem_cons_self
   simp [this]
theorem Zeq {kindOf:Str->Option NameKind} {x:Str} {v:Value}:∀ {P:List Str} {vs:List Value} {i:Nat} {m:Str->Option Value},P.Nodup->P[i]?=some x->vs[i]?=some v->kindOf x=some .local ->
  bindL kindOf (P.zip vs) m x=some v
 | [],_,_,_,_,h,_,_=>by simp at h
 | _::_,[],_,_,_,_,h,_=>by simp at h
 | p::P,w::vs,0,m,nd,h1,h2,hk=>by
  simp at h1 h2; subst h1; subst h2
  show bindL kindOf ((p,w)::P.zip vs) m p=_
  unfold bindL
  rw [Zep λv hv=>(List.nodup_cons.mp nd).1 (List.of_mem_zip hv).1,if_pos hk]
  simp
 | p::P,w::vs,i+1,m,nd,h1,h2,hk=>by
  show bindL kindOf ((p,w)::P.zip vs) m x=_
  unfold bindL
  exact Zeq (i:=i) (List.nodup_cons.mp nd).2 (by simpa using h1) (by simpa using h2) hk
theorem Zes {kindOf:Str->Option NameKind} {x:Str} {v:Value}:∀ {P:List Str} {vs:List Value} {i:Nat} {m:Str->Option Value},P.Nodup->P[i]?=some x->vs[i]?=some v->kindOf x≠some .local ->
  bindC kindOf (P.zip vs) m x=some v
 | [],_,_,_,_,h,_,_=>by simp at h
 | _::_,[],_,_,_,_,h,_=>by simp at h
 | p::P,w::vs,0,m,nd,h1,h2,hk=>by
  simp at h1 h2; subst h1; subst h2
  show bindC kindOf ((p,w)::P.zip vs) m p=_
  unfold bindC
  rw [Zer λv hv=>(List.nodup_cons.mp nd).1 (List.of_mem_zip hv).1,if_neg hk]
  simp
 | p::P,w::vs,i+1,m,nd,h1,h2,hk=>by
  show bindC kindOf ((p,w)::P.zip vs) m x=_
  unfold bindC
  exact Zes (i:=i) (List.nodup_cons.mp nd).2 (by simpa using h1) (by simpa using h2) hk
noncomputable def start (N:List Str) (vs:List V):St:=vs.map some++List.replicate (N.length - vs.length) none
noncomputable def df (CX:d7) (P:Program) (w:World) (K:PySem.W.Frag) (mg:Str->Option Value) (base:Heap) (N:List Str) (qual:Str) (scope:Scope) (f:Addr) (cd:Value) (A:Around) (outer:List Env) (s:Shared) (H:Hp) (E:XK):Cx where
 prog:=P
 w:=w
 K:=K
 mg:=mg
 base:=base
 A:=A.deeper (envOfC qual scope s.heap.objs.size f cd)
 N:=N
 s₀:=s
 H₀:=H
 env:=envOfC qual scope s.heap.objs.size f cd
 outer:=outer
 stack:=envOfC qual scope s.heap.objs.size f cd::outer
 ex:=[]
 calm:=true
 fn:=λ_=>true
 pn:=[]
 xe:=λe s'=>wpAny (model P w) (A.deeper (envOfC qual scope s.heap.objs.size f cd)) (leaving (envOfC qual scope s.heap.objs.size f cd) e) (λ_ s''=>CX outer H s E e s'') (λe' s''=>CX outer H s E e' s'') s'
theorem Zd3 {sc:Scope} {n:Nat} {x:Str} (h:sc.names.lookup x=some .cell):∃ c,(cellsFrom n sc.names []).lookup x=some c:=by
 have q:=PySem.W.cellsFrom_some sc.names n [] (.inl h)
 exact Option.isSome_iff_exists.mp q
theorem ZjA {CX:d7} {P:Program} {w:World} {K:PySem.W.Frag} {mg:Str->Option Value} {base:Heap} {N ps:List Str} {qual:Str} {scope:Scope} {f:Addr} {cd:Value} {A:Around} {outer:List Env} {s s1:Shared} {H:Hp} {E:XK} {us:List Value} {vs:List V}
  (S:FnScope N ps scope) (hd:A.handled=none) (e0:Env0 P w K mg base A outer s H) (hl:vs.length=ps.length) (r:Vals vs us)
  (x:InCallC s s.heap.objs.size (bindL (envOfC qual scope s.heap.objs.size f cd).kindOf (ps.zip us) λ_=>none) (cellsFrom (s.heap.objs.size+1) scope.names []) (bindC (envOfC qual scope s.heap.objs.size f cd).kindOf (ps.zip us) λ_=>none) s1) :
  Inv (df CX P w K mg base N qual scope f cd A outer s H E) [] (start N vs) H s1:=by
 have hpl:ps.length<=N.length:=by have:=congrArg List.length S.pre; rw [List.length_take] at this; omega
 obtain ⟨h1,tk,rfl,hk⟩:=x.done
 have noA:∀ b:Addr,b ∉ (df CX P w K mg base N qual scope f cd A outer s H E).ex:=λb z=>absurd (show b∈([]:List Addr) from z) (by simp)
 refine ⟨⟨e0.mod,S.kind,rfl,rfl,Nat.le_refl _,λy z c h1 h2=>?_,λy hy=>?_,λy c _ h=>?_,λ_=>hd,Around.frames_deeper e0.frames,.inr ⟨rfl,rfl⟩,λb z=>absurd z (noA b),e0.bs,e0.bsz,λb _ _=>noA b,λb z=>absurd z (noA b),e0.funs,e0.frf⟩,
  rfl,e0.bare,Un.kept hk,⟨_,x.toInCall.ns,λi y v h1 h2 h3=>?_⟩,λy c h=>⟨_,x.cell y c h⟩,e0.hok.fresh (Nat.le_refl _),λy c h=>?_,λp hp=>absurd (show p∈([]:List (Addr×Obj)) from hp) (by simp),e0.hok.kept hk,?_⟩
 ·exact name_of_addr x.apart (PySem.mem_of_lookup h1) (PySem.mem_of_lookup h2)
 ·have hy:scope.names.lookup y=some .cell\/scope.names.lookup y=some .free:=hy
  rcases hy with hy | hy
  ·exact Zd3 hy
  ·exact absurd rfl (S.nofree _ (PySem.mem_of_lookup hy))
 ·exact Nat.le_of_lt (x.above y c (PySem.mem_of_lookup h))
 ·have hi:i < vs.length:=by
   unfold start at h2
   by_cases hi:i < vs.length
   ·exact hi
   ·rw [List.getElem?_append_right (by simpa using hi)] at h2
    rw [List.getElem?_replicate] at h2
    split at h2 <;> cases h2
  have ha:vs[i]?=some v:=by
   unfold start at h2
   rw [List.getElem?_append_left (by simpa using hi),List.getElem?_map] at h2
   cases e:vs[i]? with
   | none=>rw [e] at h2; cases h2
   | some a=>rw [e] at h2; cases h2; rfl
  obtain ⟨u,hu,rv⟩:=r.get ha
  have hp:ps[i]?=some y:=by
   rw [<- S.pre,List.getElem?_take_of_lt (by omega)]; exact h1
  have ndP:ps.Nodup:=by rw [<- S.pre]; exact S.nd.sublist (List.take_sublist _ _)
  refine ⟨u,rv,?_⟩
  rcases S.par y (List.mem_of_getElem? hp) with k | k
  ·exact .inl ⟨k,Zeq ndP hp hu k⟩
  ·obtain ⟨c,e⟩:=Zd3 (n:=s.heap.objs.size+1) k
   refine .inr ⟨.inl k,c,e,?_⟩
   have q:=x.cell y c e
   rw [Zes ndP hp hu (by show scope.names.lookup y≠_; rw [k]; decide)] at q
   exact q
 ·exact e0.hok.fresh (Nat.le_of_lt (x.above y c (PySem.mem_of_lookup h)))
 ·unfold start
  show _=N.length
  rw [List.length_append,List.length_map,List.length_replicate]
  omega
theorem Zc5 {CX:d7} {P:Program} {w:World} {K:PySem.W.Frag} {mg:Str->Option Value} {base:Heap} {k:Nat} {f:Addr} {name qual:Str} {params:Arguments} {body:List Stmt} {scope:Scope} {dV kV doc pm cdv ct oc:Value} {an od:Option Addr}
  {osl:Array (Option Value)} {N ps:List Str} {sp:Sp} (lk:K.lookup f=some ⟨oc,od,.func (PySem.W.fnOf name qual params body scope dV kV doc pm an cdv ct),osl⟩) (hcd:PySem.W.codeIn K cdv qual=true) (S:FnScope N ps scope)
  (len:∀ vs H Q E,sp vs H Q E->vs.length=ps.length)
  (hbody:∀ (A:Around) (outer:List Env) (s:Shared) (H:Hp) (vs:List V) (Q:VK) (E:XK),Room k (A.deeper (envOfC qual scope s.heap.objs.size f cdv))->sp vs H Q E ->
   ∃ t,PSs (df CX P w K mg base N qual scope f cdv A outer s H E) body t/\t { nx:=λ_ H'=>Q .non H',rt:=Q } (start N vs) H) :
  FnOk P w K mg base CX (k+1) f (PySem.W.fnOf name qual params body scope dV kV doc pm an cdv ct) ps sp:=by
 refine ⟨len,λA outer s H args us vs Q E hr e0 hb r hsp=>?_⟩
 have hl:=len _ _ _ _ hsp
 have KX:K.In s.heap:=e0.mod.kin.keeps λb o e=>(e0.bs b o e).1
 have lim:s.heap.NoLimit:=e0.mod.nolimit.keeps λb o e=>(e0.bs b o e).1
 have hkind:∀ y∈ps.zip us,scope.names.lookup y.1=some .local\/(scope.names.lookup y.1=some .cell/\((cellsFrom (s.heap.objs.size+1) scope.names []).lookup y.1).isSome=true):=λ⟨n,v⟩ hy=>by
  rcases S.par n (List.of_mem_zip hy).1 with q | q
  ·exact .inl q
  ·exact .inr ⟨q,PySem.W.cellsFrom_some _ _ _ (.inl q)⟩
 refine codeAny_call_function hr.depth (KX _ _ lk) rfl S.co S.gen rfl (PySem.W.codeRec_of KX hcd) (hb _ _ _ _ ?_)
 refine wpAny_newFunctionEnv_cells S.kind hkind λenv he s1 x=>?_
 subst he
 refine ⟨lim.keeps x.toInCall.keep,codeAny_func ?_⟩
 obtain ⟨t,ht,hq⟩:=hbody A outer s H vs Q E (hr.deeper _) hsp
 have I:Inv (df CX P w K mg base N qual scope f cdv A outer s H E) [] (start N vs) H s1:=ZjA S hr.hd e0 hl r x
 refine wpAny_mono (ht [] s1 (start N vs) H _ I hq) (λfl s' hs=>?_) λe s' hs=>hs
 have fin:∀ {σ':St} {H':Hp} {v:V} {u:Value},Inv (df CX P w K mg base N qual scope f cdv A outer s H E) [] σ' H' s'->RelV v u->Q v H'->CE outer P w H s Q u s' :=
  λ{σ' H' v u} J rv q=>⟨v,H',J.os,J.bare,J.base,J.hok,rv,q⟩
 cases fl with
 | ret u =>
  obtain ⟨v,σ',H',J,rv,q⟩:=hs
  exact fin J rv q
 | next =>
  obtain ⟨σ',H',J,q⟩:=hs
  exact fin (v:=V.non) (u:=Value.none) J rfl q
 | brk =>
  obtain ⟨_,_,_,q⟩:=hs
  exact False.elim q
 | cont =>
  obtain ⟨_,_,_,q⟩:=hs
  exact False.elim q
section
variable {X:Cx} {x:Str} {p pos:Pos} {e:Expr} {es:List Expr} {t:TA} {id T:String} {r:List V->Hp->VK->Prop}
noncomputable def kJ (r:List V->Hp->VK->Prop) (t:TA):TE:=λσ H Q=>t σ H λvs H1=>r vs H1 Q
theorem bc (hc:CallR X (.builtin id) r) (hg:Gl X x) (hm:X.mg x=none) (hv:bootBuiltins x=some (.builtin id)) (ha:PA X (e::es) t) (hn:x≠"__name__":=by decide) (hdb:(x == ("__debug__":Str))=false:=by decide)
  (he:starEach (e::es) X.env=(false,eval e X.env)::starEach es X.env:=by rfl) (hpl:(backTo pos (starEach es X.env)).any (·.1)=false:=by rfl):PE X (.Call (.Name x p) (e::es) [] pos) (kJ r t):=by
 intro pins s σ H Q I h
 refine wpAny_Call_Name_kw (qb I hg hm hv ?_ hn hdb)
 exact PyProof.Rows.callWith_builtin1 (thn (ha pos pins s σ H _ I h) λus s1 ⟨vs,H1,I1,r1,q1⟩=>hc pins s1 σ H1 vs us Q I1 r1 q1) he hpl
theorem bP (hc:CallR X (.type T) r) (hg:Gl X x) (hm:X.mg x=none) (hv:bootBuiltins x=some (.type T)) (ha:PA X (e::es) t) (hn:x≠"__name__":=by decide) (hdb:(x == ("__debug__":Str))=false:=by decide)
  (he:starEach (e::es) X.env=(false,eval e X.env)::starEach es X.env:=by rfl) (hpl:(backTo pos (starEach es X.env)).any (·.1)=false:=by rfl):PE X (.Call (.Name x p) (e::es) [] pos) (kJ r t):=by
 intro pins s σ H Q I h
 refine wpAny_Call_Name_kw (qb I hg hm hv ?_ hn hdb)
 exact PyProof.Rows.callWith_type1 (thn (ha pos pins s σ H _ I h) λus s1 ⟨vs,H1,I1,r1,q1⟩=>hc pins s1 σ H1 vs us Q I1 r1 q1) he hpl
end
end L2
namespace HT
open PySem PyProof.Rows
section
open PySem.SeqAt
open PySem.AutoSeq1 (wpAny_loadPart')
open PySem.MeetsSeq PySem.MeetsSeq2 PySem.MeetsSeq3
end
section
variable {prog:Program} {w:World} {A:Around} {E:Value->Shared->Prop} {s:Shared}
theorem ZoP {t b:Addr} {vs ws:List Value} {Q:Value->Shared->Prop} (ht:IsTup s.heap t vs.toArray) (hb:IsTup s.heap b ws.toArray) (hv:vs≠[])
  (h1:ws=[]->Q (.ref t) s) (h2:ws≠[]->Q (.ref s.heap.objs.size) { s with heap:=s.heap.push { cls:=.type "tuple",data:=.seq (vs++ws).toArray } })
  (hsz:vs.length+ws.length<=sizeLine):wpAny (model prog w) A (binaryOp .Add (.ref t) (.ref b)) Q E s:=by
 obtain ⟨⟨cls,dd,data,sl⟩,ho,hc,n,hd⟩:=id ht
 obtain ⟨⟨cls2,dd2,data2,ff⟩,ho2,hc2,n2,hd2⟩:=id hb
 simp only at hc hd hc2 hd2
 subst hc hd hc2 hd2
 have e:vs.toArray++ws.toArray=(vs++ws).toArray:=by simp
 by_cases hw:ws=[]
 ·exact concat_meets ⟨_,ho,rfl⟩ ⟨_,ho2,rfl⟩ noFill_tuple_add seq_tuple_add PySem.F.slot_tuple_add PySem.F.entry_tuple_add (PySem.F.args_tuple_add_2 _ _)
   (tuple_addW1 t b vs.toArray ws.toArray n n2 dd dd2 sl ff (by simpa using hv) (by simp [hw])) ⟨ho,ho2,h1 hw⟩
 ·refine concat_meets ⟨_,ho,rfl⟩ ⟨_,ho2,rfl⟩ noFill_tuple_add seq_tuple_add PySem.F.slot_tuple_add PySem.F.entry_tuple_add (PySem.F.args_tuple_add_2 _ _)
   (tuple_addW2 t b vs.toArray ws.toArray n n2 dd dd2 sl ff (by simpa using hv) (by simpa using hw) (by rw [List.size_toArray,List.size_toArray]; exact hsz)) ⟨ho,ho2,?_⟩
  rw [e]
  exact h2 hw
noncomputable def aQ (n d:Nat):Option Int->Nat
 | none=>d
 | some v=>if v < 0 then (v+(n:Int)).toNat else min v.toNat n
theorem ZgU (n d k:Nat):aQ n d (some (k:Int))=min k n:=by
 show (if (k:Int) < 0 then ((k:Int)+(n:Int)).toNat else min (k:Int).toNat n)=min k n
 rw [if_neg (by omega),Int.toNat_natCast]
theorem ZgV (n d:Nat) (hd:d<=n) (o:Option Int):aQ n d o<=n:=by
 cases o with
 | none=>exact hd
 | some v =>
  show (if v < 0 then (v+(n:Int)).toNat else min v.toNat n)<=n
  by_cases hv:v < 0
  ·rw [if_pos hv]; omega
  ·rw [if_neg hv]; exact Nat.min_le_right _ _
theorem Zd0 (v:Int) (n d:Nat):(if v < 0 then max (v+(n:Int)) 0 else min v (n:Int))=((aQ n d (some v):Nat):Int):=by
 show (if v < 0 then max (v+(n:Int)) 0 else min v (n:Int))=(((if v < 0 then (v+(n:Int)).toNat else min v.toNat n):Nat):Int)
 by_cases hv:v < 0
 ·rw [if_pos hv,if_pos hv,Int.ofNat_toNat]
 ·rw [if_neg hv,if_neg hv]
  obtain ⟨k,rfl⟩:=Int.eq_ofNat_of_zero_le (Int.not_lt.mp hv)
  rw [Int.toNat_natCast,<- Lean.Omega.Int.ofNat_min]
theorem ZpE (lo hi:Option Int) (n:Nat):Builtin.Slice.sliceAdjust lo hi 1 (n:Int)=(((aQ n 0 lo:Nat):Int),((aQ n n hi:Nat):Int)):=by
 have h1:¬ ((1:Int) < 0):=by omega
 unfold Builtin.Slice.sliceAdjust
 simp only [h1,if_false]
 refine Prod.ext ?_ ?_
 ·cases lo with
  | none=>rfl
  | some v=>exact Zd0 v n 0
 ·cases hi with
  | none=>rfl
  | some v=>exact Zd0 v n n
theorem ZhI (i j:Nat):Builtin.Slice.slicePlaces (i:Int) (j:Int) 1=j - i:=by
 unfold Builtin.Slice.slicePlaces
 have h1:(1:Int) > 0:=by omega
 simp only [h1,if_true,Int.ediv_one]
 split <;> omega
theorem ZaS {v:Value} {o:Option Int} {Q:Option Int->Shared->Prop} (p:IsPart v o) (h:Q o s):wpAny (model prog w) A (Builtin.Slice.slicePartIndex v) Q E s:=by
 cases p with
 | none=>exact slicePart_none h
 | int i t=>exact slicePart_int h
theorem ZaU {sl:Addr} {vl vu:Value} {lo hi:Option Int} {n:Nat} {Q:Int×Int×Nat->Shared->Prop} (hs:s.heap.IsSliceOf sl vl vu .none) (pl:IsPart vl lo) (pu:IsPart vu hi)
  (h:Q (((aQ n 0 lo:Nat):Int),1,aQ n n hi - aQ n 0 lo) s):wpAny (model prog w) A (Builtin.Slice.sliceApplied (.ref sl) (pure (n:Int))) Q E s:=by
 obtain ⟨os,hos,hcs,hds⟩:=id hs
 unfold Builtin.Slice.sliceApplied Builtin.Slice.sliceFields
 refine wpAny_bind (wpAny_bind (wpAny_field hos hds (x:=vl) rfl (wpAny_bind (wpAny_field hos hds (x:=vu) rfl (wpAny_bind (wpAny_field hos hds (x:=.none) rfl (wpAny_pure ?_)))))))
 refine wpAny_bind (slicePart_none ?_)
 show wpAny _ _ (if ((1:Int) == 0)=true then _ else _) _ _ s
 rw [if_neg (by decide)]
 refine wpAny_bind (ZaS pl (wpAny_bind (ZaS pu (wpAny_bind (wpAny_pure ?_)))))
 show wpAny _ _ (match Builtin.Slice.sliceAdjust lo hi 1 (n:Int) with | (lo,hi)=>pure (lo,(1:Int),Builtin.Slice.slicePlaces lo hi 1)) _ _ s
 rw [ZpE lo hi n]
 show wpAny _ _ (pure (((aQ n 0 lo:Nat):Int),(1:Int),Builtin.Slice.slicePlaces ((aQ n 0 lo:Nat):Int) ((aQ n n hi:Nat):Int) 1)) _ _ s
 rw [ZhI]
 exact wpAny_pure h
theorem ZhJ (xs:Array Value) (i k:Nat):((List.range k).filterMap λ(m:Nat)=>xs[((i:Int)+(m:Int) * 1).toNat]?).toArray=((xs.toList.drop i).take k).toArray:=by
 have e:(λ(m:Nat)=>xs[((i:Int)+(m:Int) * 1).toNat]?)=λm=>xs[i+m]?:=by
  funext m
  have:((i:Int)+(m:Int) * 1).toNat=i+m:=by omega
  rw [this]
 rw [e]
 have:=pick_run xs i k
 rw [List.filterMap_map] at this
 have e2:((λx=>xs[x]?) ∘ λx=>i+x)=λm=>xs[i+m]?:=rfl
 rw [e2] at this
 rw [this]
theorem ZjN {t sl:Addr} {items:Array Value} {vl vu:Value} {lo hi:Option Int} {Q:Value->Shared->Prop} (ht:IsTup s.heap t items) (hs:s.heap.IsSliceOf sl vl vu .none) (pl:IsPart vl lo) (pu:IsPart vu hi)
  (hw:¬ (aQ items.size 0 lo=0/\aQ items.size items.size hi=items.size))
  (h:Q (.ref s.heap.objs.size) { s with heap:=s.heap.push { cls:=.type "tuple",data:=.seq ((items.toList.drop (aQ items.size 0 lo)).take (aQ items.size items.size hi - aQ items.size 0 lo)).toArray } })
  (hsz:items.size<=sizeLine):wpAny (model prog w) A (getItem (.ref t) (.ref sl)) Q E s:=by
 have htake:sizeOk (.seq ((items.toList.drop (aQ items.size 0 lo)).take (aQ items.size items.size hi - aQ items.size 0 lo)).toArray):=by
  show ((items.toList.drop (aQ items.size 0 lo)).take (aQ items.size items.size hi - aQ items.size 0 lo)).toArray.size<=sizeLine
  rw [List.size_toArray,List.length_take,List.length_drop,Array.length_toList]
  exact Nat.le_trans (Nat.min_le_right _ _) (Nat.le_trans (Nat.sub_le _ _) hsz)
 have hj:aQ items.size items.size hi<=items.size:=ZgV _ _ (Nat.le_refl _) hi
 obtain ⟨os,hos,hcs,hds⟩:=id hs
 have hTs:s.TypeIs (.ref sl) "slice":=⟨os,hos,hcs⟩
 unfold getItem
 try with_reducible refine wpAny_holding ?_
 first | refine wpAny_bind (wpAny_pure ?_) | skip
 refine wpAny_bind (wpAny_sequenceKey ht.typeIs (by decide) ?_)
 refine wpAny_bind (wpAny_callSpecial?_slot (name:=Str.ofString "__getitem__") ht.typeIs PyProof.Rows.slot_tuple_getitem
  (wpAny_call_entry PyProof.Rows.slot_tuple_getitem ht.typeIs entry_tuple_getitem ?_ (args_tuple_getitem _ _)))
 show wpAny _ _ (Builtin.Tuple.tupleItemsOf (.ref t) >>= _) _ _ s
 refine wpAny_bind (tupleItemsOf_ ht ?_)
 refine wpAny_bind (wpAny_typeOf hTs ?_)
 rw [if_pos (by decide)]
 refine wpAny_bind (ZaU hs pl pu ?_)
 have hno:¬ ((((aQ items.size 0 lo:Nat):Int) == 0 && (1:Int) == 1 && (aQ items.size items.size hi - aQ items.size 0 lo) == items.size)=true):=by
  intro q
  rw [Bool.and_eq_true,Bool.and_eq_true] at q
  have q1:((aQ items.size 0 lo:Nat):Int)=0:=eq_of_beq q.1.1
  have q2:aQ items.size items.size hi - aQ items.size 0 lo=items.size:=eq_of_beq q.2
  exact hw ⟨by omega,by omega⟩
 show wpAny _ _ (if (((aQ items.size 0 lo:Nat):Int) == 0 && (1:Int) == 1 && (aQ items.size items.size hi - aQ items.size 0 lo) == items.size)=true then _ else _) _ _ s
 rw [if_neg hno,ZhJ]
 first
  | exact wpAny_bind (m:=Builtin.Tuple.tupleExact _) (wpAny_newObj_type (wpAny_pure ⟨_,rfl,wpAny_pure h⟩) htake)
  | exact wpAny_bind (m:=Builtin.Tuple.tupleExact _) (wpAny_newObj_type (wpAny_bind (wpAny_pure (wpAny_pure ⟨_,rfl,wpAny_pure h⟩))) htake)
  | exact wpAny_bind (wpAny_bind (m:=Builtin.Tuple.tupleExact _) (wpAny_newObj_type (wpAny_pure (wpAny_pure ⟨_,rfl,wpAny_pure h⟩)) htake))
  | exact wpAny_bind (wpAny_bind (m:=Builtin.Tuple.tupleExact _) (wpAny_newObj_type (wpAny_pure ⟨_,rfl,wpAny_pure h⟩) htake))
end
end HT
namespace L2
open PySem PySem.Spec PyProof.Rows
noncomputable abbrev TO:=St->Hp->(Option Int->Hp->Prop)->Prop
noncomputable def PO (X:Cx) (e:Option Expr) (t:TO):Prop :=
 ∀ (pins:List (Addr×Obj)) (s:Shared) (σ:St) (H:Hp) (Q:Option Int->Hp->Prop),Inv X pins σ H s->t σ H Q ->
  wpAny (model X.prog X.w) X.A (evalPart e X.env) (λu s'=>∃ o H',Inv X pins σ H' s'/\IsPart u o/\Q o H') X.xe s
noncomputable def ZfY:TO:=λ_ H Q=>Q none H
noncomputable def ZfT (t:TE):TO:=λσ H Q=>t σ H λx H1=>∃ i,x=.int i/\Q (some i) H1
section
variable {X:Cx} {e:Expr} {te:TE} {lo hi:Option Expr} {tl th:TO} {pos p2:Pos}
theorem ZbV:PO X none ZfY:=by
 intro pins s σ H Q I h
 rw [evalPart_none]
 exact wpAny_pure ⟨none,H,I,.none,h⟩
theorem ZbU (h:PE X e te):PO X (some e) (ZfT te):=by
 intro pins s σ H Q I hw
 rw [evalPart_some]
 refine thn (h pins s σ H _ I hw) λu s1 hz0=>?_
 obtain ⟨x,H1,I1,r1,q1⟩:=hz0
 obtain ⟨i,rfl,q⟩:=q1
 obtain ⟨t,rfl⟩:=r1
 exact ⟨some i,H1,I1,.int i t,q⟩
noncomputable def SlR (X:Cx) (r:V->Option Int->Option Int->Hp->VK->Prop):Prop :=
 ∀ (pins:List (Addr×Obj)) (s:Shared) (σ:St) (H:Hp) (x:V) (v vl vu:Value) (lo hi:Option Int) (sl:Addr) (Q:VK),Inv X pins σ H s->RelV x v->s.heap.IsSliceOf sl vl vu .none->IsPart vl lo->IsPart vu hi->r x lo hi H Q ->
  ∃ T id,typeLookup (.type T) "__getitem__"=pure (some (.builtin id))/\s.TypeIs v T/\wpAny (model X.prog X.w) X.A (getItem v (.ref sl)) (EP X pins σ Q) X.xe s
theorem SlR.or {r r':V->Option Int->Option Int->Hp->VK->Prop} (h:SlR X r) (h':SlR X r'):SlR X (λx lo hi H Q=>r x lo hi H Q\/r' x lo hi H Q):=by
 intro pins s σ H x v vl vu lo hi sl Q I rx hs pl pu q
 rcases q with q | q
 ·exact h pins s σ H x v vl vu lo hi sl Q I rx hs pl pu q
 ·exact h' pins s σ H x v vl vu lo hi sl Q I rx hs pl pu q
noncomputable def tSl (r:V->Option Int->Option Int->Hp->VK->Prop) (te:TE) (tl th:TO):TE:=λσ H Q=>te σ H λx H1=>tl σ H1 λl H2=>th σ H2 λu H3=>r x l u H3 Q
theorem Zb2 {r:V->Option Int->Option Int->Hp->VK->Prop} (hr:SlR X r) (he:PE X e te) (hl:PO X lo tl) (hu:PO X hi th):PE X (.Subscript e (.Slice lo hi none p2) pos) (tSl r te tl th):=by
 intro pins s σ H Q I h
 refine Subscript_ (thn (he pins s σ H _ I h) λv s1 hz0=>?_)
 obtain ⟨x,H1,I1,r1,q1⟩:=hz0
 refine wpAny_Slice (thn (hl pins s1 σ H1 _ I1 q1) λvl s2 ⟨l,H2,I2,pl,q2⟩=>thn (hu pins s2 σ H2 _ I2 q2) λvu s3 hz0=>?_)
 obtain ⟨u,H3,I3,pu,q3⟩:=hz0
 rw [evalPart_none]
 refine wpAny_pure ?_
 have I4:Inv X pins σ H3 { s3 with heap:=s3.heap.push { cls:=.type "slice",data:=.fields #[vl,vu,.none] } }:=I3.kept (t':=s3.toks) λb ob q=>Heap.get?_push_of_some _ q
 obtain ⟨T,id,hT,ht,hg⟩:=hr pins { s3 with heap:=s3.heap.push { cls:=.type "slice",data:=.fields #[vl,vu,.none] } } σ H3 x v vl vu l u s3.heap.objs.size Q I4 r1 (Heap.IsSliceOf.new ..) pl pu q3
 show wpAny (model X.prog X.w) X.A (subscriptTail e (.Slice lo hi none p2) v (.ref s3.heap.objs.size)) (EP X pins σ Q) X.xe { s3 with heap:=s3.heap.push { cls:=.type "slice",data:=.fields #[vl,vu,.none] } }
 exact tail_any (ops:=[.ref s3.heap.objs.size,v]) ht hT hg (by with_unfolding_all rfl)
noncomputable def fo (xs:List V) (lo hi:Option Int):List V:=(xs.drop (HT.aQ xs.length 0 lo)).take (HT.aQ xs.length xs.length hi - HT.aQ xs.length 0 lo)
theorem ZdW (xs:List V) (lo hi:Option Int):(fo xs lo hi).length<=xs.length:=by
 unfold fo
 rw [List.length_take,List.length_drop]
 exact Nat.le_trans (Nat.min_le_right _ _) (Nat.sub_le _ _)
noncomputable def Zbs (K:PySem.W.Frag):V->Option Int->Option Int->Hp->VK->Prop:=λx lo hi H Q=>∃ a xs,x=.ref a/\SqT K H a xs /\
 ¬ (HT.aQ xs.length 0 lo=0/\HT.aQ xs.length xs.length hi=xs.length)/\∀ p,H p=none->Q (.ref p) (upd H p (.tup (fo xs lo hi)))
theorem Zgp:SlR X (Zbs X.K):=by
 intro pins s σ H x v vl vu lo hi sl Q I rx hs pl pu h
 obtain ⟨a,xs,rfl,hx,hw,q⟩:=h
 cases rx
 obtain ⟨its,r,ht,hz⟩:=I.tuple hx
 have hlen:its.toArray.size=xs.length:=by rw [List.size_toArray]; exact r.length.symm
 refine ⟨"tuple",_,PyProof.Rows.slot_tuple_getitem.lookup,ht.typeIs,?_⟩
 refine HT.ZjN ht hs pl pu (by rw [hlen]; exact hw) ?_ (by rw [hlen]; exact hz)
 rw [hlen]
 refine ⟨.ref s.heap.objs.size,_,I.laid (t':=s.toks) (o:=.tup (fo xs lo hi)) (λb ob q=>Heap.get?_push_of_some _ q) (Nat.le_refl _) ?_,rfl,q _ (I.hok.fresh (Nat.le_refl _))⟩
 exact ⟨Nat.le_trans (ZdW xs lo hi) hz,_,(r.drop (HT.aQ xs.length 0 lo)).take (HT.aQ xs.length xs.length hi - HT.aQ xs.length 0 lo),IsTup.new _ _⟩
noncomputable def ZbP (K:PySem.W.Frag):R2:=λx y H Q=>∃ a b xs ys,x=.ref a/\y=.ref b/\SqT K H a xs/\SqT K H b ys/\xs≠[]/\xs.length+ys.length<=sizeLine /\
 (ys=[]->Q (.ref a) H)/\(ys≠[]->∀ p,H p=none->Q (.ref p) (upd H p (.tup (xs++ys))))
theorem Vals.nil_iff {xs:List V} {us:List Value} (r:Vals xs us):us=[] ↔ xs=[]:=by
 cases r with
 | nil=>simp
 | cons _ _=>simp
theorem Zil:OpR X (binaryOp .Add) (ZbP X.K):=by
 intro pins s σ H x y v u Q I rx ry h
 obtain ⟨a,b,xs,ys,rfl,rfl,ha,hb,hx,hz,q1,q2⟩:=h
 cases rx
 cases ry
 obtain ⟨its,r1,p1,_⟩:=I.tuple ha
 obtain ⟨its2,r2,p2,_⟩:=I.tuple hb
 refine HT.ZoP p1 p2 (λz=>hx (r1.nil_iff.mp z)) (λz=>⟨.ref a,H,I,rfl,q1 (r2.nil_iff.mp z)⟩) (λz=>?_) (by rw [<- r1.length,<- r2.length]; exact hz)
 refine ⟨.ref s.heap.objs.size,_,I.laid (t':=s.toks) (o:=.tup (xs++ys)) (λb ob q=>Heap.get?_push_of_some _ q) (Nat.le_refl _) ?_,rfl,q2 (λw=>z (r2.nil_iff.mpr w)) _ (I.hok.fresh (Nat.le_refl _))⟩
 exact ⟨by rw [List.length_append]; exact hz,_,r1.append r2,IsTup.new _ _⟩
end
noncomputable def j8 (n:Nat) (i:Int):Option Nat:=if 0<=i then (if i < n then some i.toNat else none) else if -(n:Int)<=i then some (i+n).toNat else none
noncomputable def bx {α:Type} (xs:List α) (i:Int):Option α:=(j8 xs.length i).bind λj=>xs[j]?
theorem Zju {n:Nat} {i:Int} {j:Nat} (h:j8 n i=some j):seqIndex? i n=some j/\j < n/\-(n:Int)<=i/\i < n:=by
 unfold j8 at h
 by_cases h0:0<=i
 ·rw [if_pos h0] at h
  by_cases h1:i < n
  ·rw [if_pos h1] at h
   have e:i.toNat=j:=Option.some.inj h
   exact ⟨by rw [seqIndex_of h0 h1,e],by omega,by omega,h1⟩
  ·rw [if_neg h1] at h; cases h
 ·rw [if_neg h0] at h
  by_cases h1:-(n:Int)<=i
  ·rw [if_pos h1] at h
   have e:(i+n).toNat=j:=Option.some.inj h
   exact ⟨by rw [seqIndex_neg (by omega) h1,e],by omega,h1,by omega⟩
  ·rw [if_neg h1] at h; cases h
theorem u5 {α:Type} {xs:List α} {i:Int} {v:α} (h:bx xs i=some v):∃ j,seqIndex? i xs.length=some j/\xs[j]?=some v/\j < xs.length/\-(xs.length:Int)<=i/\i < xs.length:=by
 unfold bx at h
 cases e:j8 xs.length i with
 | none=>rw [e] at h; cases h
 | some j =>
  rw [e] at h
  obtain ⟨h1,h2,h3,h4⟩:=Zju e
  exact ⟨j,h1,h,h2,h3,h4⟩
theorem dB {α:Type} {xs:List α} {j:Nat} {v:α} (h:xs[j]?=some v):bx xs (j:Int)=some v:=by
 have hj:j < xs.length:=(List.getElem?_eq_some_iff.mp h).1
 have e:j8 xs.length (j:Int)=some j:=by
  unfold j8
  rw [if_pos (by omega),if_pos (by omega)]; simp
 unfold bx; rw [e]; exact h
noncomputable def ZeL (b:Expr):Prop:=∀ o i,subscripted b false o i=operate [o,i] (getItem o i)
noncomputable def IxR (X:Cx) (r:R2):Prop :=
 ∀ (value slice:Expr) (pins:List (Addr×Obj)) (s:Shared) (σ:St) (H:Hp) (x y:V) (v u:Value) (Q:VK),Inv X pins σ H s->RelV x v->RelV y u->r x y H Q ->
  subscripted slice false v u=operate [v,u] (getItem v u)->wpAny (model X.prog X.w) X.A (subscriptTail value slice v u) (EP X pins σ Q) X.xe s
noncomputable def kw (X:Cx) (id:String) (r:V->List V->Hp->VK->Prop):Prop :=
 ∀ (pins:List (Addr×Obj)) (s:Shared) (σ:St) (H:Hp) (x:V) (xs:List V) (v:Value) (us:List Value) (Q:VK),Inv X pins σ H s->RelV x v->Vals xs us->r x xs H Q ->
  wpAny (model X.prog X.w) X.A (call (.builtin id) (v::us)) (EP X pins σ Q) X.xe s
section
variable {X:Cx} {a b:Expr} {ta tb:TE} {pos:Pos}
theorem IxR.or {r r':R2} (h:IxR X r) (h':IxR X r'):IxR X (λx y H Q=>r x y H Q\/r' x y H Q):=by
 intro value slice pins s σ H x y v u Q I rx ry q hs
 rcases q with q | q
 ·exact h value slice pins s σ H x y v u Q I rx ry q hs
 ·exact h' value slice pins s σ H x y v u Q I rx ry q hs
theorem tw {r:R2} (hr:IxR X r) (ha:PE X a ta) (hb:PE X b tb) (hs:ZeL b):PE X (.Subscript a b pos) (jz r ta tb):=by
 intro pins s σ H Q I h
 exact Subscript_ (uZ ha hb I h λv u s2 x y H2 I2 rx ry q=>hr a b pins s2 σ H2 x y v u Q I2 rx ry q (hs _ _))
noncomputable def ZbJ (K:PySem.W.Frag):R2:=λx y H Q=>∃ p xs i v,x=.ref p/\y=.int i/\SqL K H p xs/\bx xs i=some v/\Q v H
noncomputable def ZbH (K:PySem.W.Frag):R2:=λx y H Q=>∃ p xs i v,x=.ref p/\y=.int i/\SqT K H p xs/\bx xs i=some v/\Q v H
noncomputable def ZbI:R2:=λx y H Q=>∃ z i c,x=.str z/\y=.int i/\z.length<=sizeLine/\bx z.cps.toList i=some c/\Q (.str ⟨#[c]⟩) H
theorem uh:IxR X (ZbJ X.K):=by
 intro value slice pins s σ H x y v u Q I rx ry h hs
 obtain ⟨p,xs,i,z,rfl,rfl,hq,he,q⟩:=h
 cases rx
 obtain ⟨t,rfl⟩:=ry
 obtain ⟨its,r,pl,hz⟩:=I.list hq
 obtain ⟨j,h1,h2,h3,h4,h5⟩:=u5 he
 obtain ⟨w,ew,rw'⟩:=r.get h2
 have hl:=r.length
 have hn:=lm
 have fin:EP X pins σ Q w s:=⟨z,H,I,rw',q⟩
 by_cases h0:0<=i
 ·have hj:i.toNat=j:=by
   rw [seqIndex_of h0 h5] at h1
   exact Option.some.inj h1
  exact item_listR pl.isList h0 (by omega) (by rw [hj]; simpa using ew) fin hs
 ·have hj:(i+(its.toArray.size:Int)).toNat=j:=by
   rw [seqIndex_neg (by omega) h4] at h1
   rw [List.size_toArray,<- hl]
   exact Option.some.inj h1
  exact subscriptTail_builtinR (x:=w) pl.isList.typeIs slot_list_getitem.lookup
   (wpAny_getItem_list_neg (Q:=λr s'=>r=w/\EP X pins σ Q r s') pl.isList (by omega) (by rw [List.size_toArray] <;> omega) (by omega) (by rw [hj]; simpa using ew) ⟨rfl,fin⟩) hs
theorem Zjt:IxR X (ZbH X.K):=by
 intro value slice pins s σ H x y v u Q I rx ry h hs
 obtain ⟨p,xs,i,z,rfl,rfl,hq,he,q⟩:=h
 cases rx
 obtain ⟨t,rfl⟩:=ry
 obtain ⟨its,r,pl,hz⟩:=I.tuple hq
 obtain ⟨j,h1,h2,h3,h4,h5⟩:=u5 he
 obtain ⟨w,ew,rw'⟩:=r.get h2
 have hl:=r.length
 have hn:=lm
 have fin:EP X pins σ Q w s:=⟨z,H,I,rw',q⟩
 exact subscriptTail_builtinR (x:=w) pl.typeIs slot_tuple_getitem.lookup
  (getItem_tuple (j:=j) (Q:=λr s'=>r=w/\EP X pins σ Q r s') pl (by omega) (by omega) (by rw [List.size_toArray,<- hl]; exact h1) (by simpa using ew) ⟨rfl,fin⟩) hs
theorem qd:IxR X ZbI:=by
 intro value slice pins s σ H x y v u Q I rx ry h hs
 obtain ⟨z,i,c,rfl,rfl,hz,he,q⟩:=h
 obtain ⟨t,rfl⟩:=rx
 obtain ⟨t',rfl⟩:=ry
 obtain ⟨j,h1,h2,h3,h4,h5⟩:=u5 he
 have hl:z.cps.toList.length=z.length:=by simp [Str.length]
 rw [hl] at h1 h4 h5
 have hn:=lm
 exact tail_any (typeIs_str s z t) slot_str_getitem.lookup (getItem_str (c:=c) (by
  have e1:decide (i < -(2 ^ 63:Int))=false:=decide_eq_false (by omega)
  have e2:decide (i ≥ 2 ^ 63)=false:=decide_eq_false (by omega)
  rw [e1,e2,Bool.or_false]) (by rw [h1]; simpa using h2) ⟨.str ⟨#[c]⟩,H,I.tok _,⟨_,rfl⟩,q⟩) hs
noncomputable def sI (K:PySem.W.Frag):R2:=λx y H Q=>ZbJ K x y H Q\/ZbH K x y H Q\/ZbI x y H Q
theorem cx:IxR X (sI X.K):=uh.or (Zjt.or qd)
theorem ZdU {n:Nat} {i:Int} (h:i < 0):max 0 (min (i+(n:Int)) n)=(((i+n).toNat:Nat):Int):=by
 rw [Int.min_eq_left (by omega),Int.ofNat_toNat,Int.max_comm]
theorem ZdV {n:Nat} {i:Int} (h:¬ i < 0):max 0 (min i (n:Int))=((min i.toNat n:Nat):Int):=by
 obtain ⟨k,rfl⟩:=Int.eq_ofNat_of_zero_le (Int.not_lt.mp h)
 rw [Int.toNat_natCast,<- Lean.Omega.Int.ofNat_min]
 exact Int.max_eq_right (Int.natCast_nonneg _)
theorem Zgl (lo hi:Option Int) (n:Nat):(sliceBounds lo hi none n).1=((HT.aQ n 0 lo:Nat):Int)/\(sliceBounds lo hi none n).2.1=((HT.aQ n n hi:Nat):Int)/\(sliceBounds lo hi none n).2.2=1:=by
 refine ⟨?_,?_,rfl⟩
 ·cases lo with
  | none=>simp [sliceBounds,HT.aQ]
  | some i =>
   simp only [sliceBounds,HT.aQ,Option.getD_none,show (1:Int) > 0 by decide,if_true]
   by_cases h:i < 0
   ·simp only [h,if_true]
    exact ZdU h
   ·simp only [h,if_false]
    exact ZdV h
 ·cases hi with
  | none=>simp [sliceBounds,HT.aQ]
  | some i =>
   simp only [sliceBounds,HT.aQ,Option.getD_none,show (1:Int) > 0 by decide,if_true]
   by_cases h:i < 0
   ·simp only [h,if_true]
    exact ZdU h
   ·simp only [h,if_false]
    exact ZdV h
theorem Zgn (its:List Value) (lo hi:Option Int):slicePick its.toArray lo hi none=((its.drop (HT.aQ its.length 0 lo)).take (HT.aQ its.length its.length hi - HT.aQ its.length 0 lo)).toArray:=by
 obtain ⟨h1,h2,h3⟩:=Zgl lo hi its.toArray.size
 unfold slicePick
 rw [h1,h2,h3]
 simp only [sliceRange_one,pick_run,List.size_toArray] <;> rfl
noncomputable def Zbu (K:PySem.W.Frag):V->Option Int->Option Int->Hp->VK->Prop:=λx lo hi H Q=>∃ a xs,x=.ref a/\SqL K H a xs/\∀ p,H p=none->Q (.ref p) (upd H p (.lst (fo xs lo hi)))
theorem ZaV:SlR X (Zbu X.K):=by
 intro pins s σ H x v vl vu lo hi sl Q I rx hs pl pu h
 obtain ⟨a,xs,rfl,hx,q⟩:=h
 cases rx
 obtain ⟨its,r,ht,hz⟩:=I.list hx
 have hlen:=r.length
 refine ⟨"list",_,slot_list_getitem.lookup,ht.isList.typeIs,?_⟩
 refine wpAny_getItem_list_slice ht.isList hs pl pu .none (by simp) ?_ (by rw [List.size_toArray] <;> omega)
 rw [Zgn,<- hlen]
 refine ⟨.ref s.heap.objs.size,_,I.laid (t':=s.toks) (o:=.lst (fo xs lo hi)) (λb ob q=>Heap.get?_push_of_some _ q) (Nat.le_refl _) ?_,rfl,q _ (I.hok.fresh (Nat.le_refl _))⟩
 exact ⟨Nat.le_trans (ZdW xs lo hi) hz,_,0,(r.drop (HT.aQ xs.length 0 lo)).take (HT.aQ xs.length xs.length hi - HT.aQ xs.length 0 lo),Heap.get?_push_size _ rfl⟩
theorem kd:CallR X (.builtin "len") (λxs H Q=>∃ p ys,xs=[.ref p]/\(SqL X.K H p ys\/SqT X.K H p ys)/\Q (.int ys.length) H):=by
 intro pins s σ H xs us Q I r h
 obtain ⟨p,ys,rfl,hq,q⟩:=h
 obtain ⟨u,rfl,rx⟩:=eM r
 cases rx
 have hn:=lm
 rcases hq with hq | hq
 ·obtain ⟨its,r',pl,hz⟩:=I.list hq
  have hlen:=r'.length
  exact Calls.call_len_list pl.isList (by simp only [List.size_toArray] <;> omega) ⟨.int ys.length,H,I.tok _,⟨s.toks+1,by rw [List.size_toArray,hlen]⟩,q⟩
 ·obtain ⟨its,r',pl,hz⟩:=I.tuple hq
  have hlen:=r'.length
  exact len_tuple pl (by simp only [List.size_toArray] <;> omega) ⟨.int ys.length,H,I.tok _,⟨s.toks+1,by rw [List.size_toArray,hlen]⟩,q⟩
theorem ZoS:CallR X (.builtin "len") (λxs H Q=>∃ z,xs=[.str z]/\z.length<=sizeLine/\Q (.int z.length) H):=by
 intro pins s σ H xs us Q I r h
 obtain ⟨z,rfl,hz,q⟩:=h
 obtain ⟨u,rfl,t,rfl⟩:=eM r
 have hn:=lm
 exact len_str (by omega) ⟨.int z.length,H,I.tok _,⟨_,rfl⟩,q⟩
theorem CallR.or {f:Value} {r r':List V->Hp->VK->Prop} (h:CallR X f r) (h':CallR X f r'):CallR X f (λxs H Q=>r xs H Q\/r' xs H Q):=by
 intro pins s σ H xs us Q I rs q
 rcases q with q | q
 ·exact h pins s σ H xs us Q I rs q
 ·exact h' pins s σ H xs us Q I rs q
theorem ZoR:CallR X (.type "list") (λxs H Q=>∃ p ys,xs=[.ref p]/\(SqL X.K H p ys\/SqT X.K H p ys)/\∀ l,H l=none->Q (.ref l) (upd H l (.lst ys))):=by
 intro pins s σ H xs us Q I r h
 obtain ⟨p,ys,rfl,hq,q⟩:=h
 obtain ⟨u,rfl,rx⟩:=eM r
 cases rx
 have fin:∀ (its:List Value),Vals ys its->ys.length<=sizeLine->∀ (h':Heap) (c':Nat),(∀ b o',s.heap.get? b=some o'->h'.get? b=some o') ->
   h'.get? s.heap.objs.size=some { cls:=.type "list",dict:=none,data:=.seq its.toArray c',slots:=#[] }->EP X pins σ Q (.ref s.heap.objs.size) { s with heap:=h' }:=λits r' hz h' c' kp e =>
  ⟨.ref s.heap.objs.size,_,I.laid (t':=s.toks) kp (Nat.le_refl _) (show ObjOk X.prog X.w _ h' _ (.lst ys) from ⟨hz,its,c',r',e⟩),rfl,q _ (I.hok.fresh (Nat.le_refl _))⟩
 rcases hq with hq | hq
 ·obtain ⟨its,r',pl,hz⟩:=I.list hq
  have hlen:=r'.length
  obtain ⟨o,ho,hc,n,hd⟩:=pl.isList
  exact call_list_seq p (.inl rfl) ho hc hd (λh' c' kp e=>fin its r' hz h' c' kp e) (by simp only [List.size_toArray] <;> omega)
 ·obtain ⟨its,r',pl,hz⟩:=I.tuple hq
  have hlen:=r'.length
  obtain ⟨o,ho,hc,n,hd⟩:=pl
  exact call_list_seq p (.inr rfl) ho hc hd (λh' c' kp e=>fin its r' hz h' c' kp e) (by simp only [List.size_toArray] <;> omega)
theorem dA:CallR X (.type "tuple") (λxs H Q=>∃ p ys,xs=[.ref p]/\((SqL X.K H p ys/\∀ l,H l=none->Q (.ref l) (upd H l (.tup ys)))\/(SqT X.K H p ys/\Q (.ref p) H))):=by
 intro pins s σ H xs us Q I r h
 obtain ⟨p,ys,rfl,h⟩:=h
 obtain ⟨u,rfl,rx⟩:=eM r
 cases rx
 rcases h with ⟨hq,q⟩ | ⟨hq,q⟩
 ·obtain ⟨its,r',pl,hz⟩:=I.list hq
  have hlen:=r'.length
  refine call_tuple_list pl.isList (λh' kp=>?_) (by simp only [List.size_toArray] <;> omega)
  have I1:Inv X pins σ H { s with heap:=h' }:=I.kept (t':=s.toks) kp
  have I2:Inv X pins σ (upd H h'.objs.size (.tup ys)) { s with heap:=h'.push { cls:=.type "tuple",data:=.seq its.toArray } } :=
   I1.laid (t':=s.toks) (λb o e=>Heap.get?_push_of_some _ e) (Nat.le_refl _) (show ObjOk X.prog X.w _ _ _ (.tup ys) from ⟨hz,its,r',IsTup.new _ _⟩)
  exact ⟨.ref h'.objs.size,_,I2,rfl,q _ (I1.hok.fresh (Nat.le_refl _))⟩
 ·obtain ⟨its,r',pl,hz⟩:=I.tuple hq
  exact call_tuple_same pl ⟨.ref p,H,I,rfl,q⟩
noncomputable def n9 (K:PySem.W.Frag) (T:String) (x:V) (H:Hp):Prop:=match x with
 | .str _=>T="str"
 | .int _=>T="int"
 | .ref p=>(T="list"/\∃ xs,SqL K H p xs)\/(T="tuple"/\∃ o,K.lookup p=some o/\o.cls=.type "tuple"/\o.dict=none) \/
   (T="dict"/\((∃ kvs,H p=some (.dK kvs))\/∃ kvs,H p=some (.dT kvs)))\/(T="set"/\∃ S n,H p=some (.set S n))
 | _=>False
theorem Zau {pins:List (Addr×Obj)} {σ:St} {H:Hp} {s:Shared} {T:String} {x:V} {v:Value} (I:Inv X pins σ H s) (r:RelV x v) (ty:n9 X.K T x H) :
  s.TypeIs v T/\∀ a,v=.ref a->∃ ob,s.heap.get? a=some ob/\ob.dict=none:=by
 cases x with
 | str z =>
  obtain ⟨t,rfl⟩:=r
  cases (show T="str" from ty)
  exact ⟨typeIs_str s z t,λ_ e=>nomatch e⟩
 | int i =>
  obtain ⟨t,rfl⟩:=r
  cases (show T="int" from ty)
  exact ⟨typeIs_int s i t,λ_ e=>nomatch e⟩
 | ref p =>
  cases r
  rcases ty with ⟨rfl,xs,hq⟩ | ⟨rfl,o,hk,hc,hd⟩ | ⟨rfl,hk⟩ | ⟨rfl,S,n,hk⟩
  ·obtain ⟨its,_,pl,_⟩:=I.list hq
   refine ⟨pl.isList.typeIs,λa e=>?_⟩
   cases e
   obtain ⟨o,n,e,c,hd,_⟩:=pl
   exact ⟨o,e,hd⟩
  ·refine ⟨⟨o,I.kIn p o hk,hc⟩,λa e=>?_⟩
   cases e
   exact ⟨o,I.kIn _ o hk,hd⟩
  ·have z:∃ o,s.heap.get? p=some o/\o.ExactDict:=by
    rcases hk with ⟨kvs,hk⟩ | ⟨kvs,hk⟩
    ·obtain ⟨_,_,_,_,o,_,_,e,ex,_⟩:=I.hok p _ hk
     exact ⟨o,e,ex⟩
    ·obtain ⟨_,_,_,_,o,_,_,e,ex,_⟩:=I.hok p _ hk
     exact ⟨o,e,ex⟩
   obtain ⟨o,e,ex⟩:=z
   refine ⟨⟨o,e,ex.1⟩,λa e2=>?_⟩
   cases e2
   exact ⟨o,e,ex.2.1⟩
  ·obtain ⟨o,_,_,_,e,ex,_⟩:=I.hok p _ hk
   refine ⟨⟨o,e,ex.1⟩,λa e2=>?_⟩
   cases e2
   exact ⟨o,e,ex.2.1⟩
 | _=>exact False.elim ty
noncomputable def ZaF (K:PySem.W.Frag) (T:String) (r:V->List V->Hp->VK->Prop) (to:TE):TE:=λσ H Q=>to σ H λx H1=>n9 K T x H1/\r x [] H1 Q
noncomputable def tBM (K:PySem.W.Frag) (T:String) (r:V->List V->Hp->VK->Prop) (to:TE) (t:TA):TE:=λσ H Q=>to σ H λx H1=>n9 K T x H1/\t σ H1 λxs H2=>r x xs H2 Q
variable {o e:Expr} {es:List Expr} {to:TE} {t:TA} {name:Str} {apos cpos:Pos} {T id:String} {r:V->List V->Hp->VK->Prop}
theorem Zh0 (pa:PlainAttrs T) (slot:Slot T name id) (hty:typeOf (.builtin id)=pure (.type "method_descriptor")) (hm:kw X id r) (ho:PE X o to)
  (hbase:attributeBase o name X.env (eval o X.env)=eval o X.env:=by rfl) (hline:(apos.endLine == cpos.line)=true:=by rfl):PE X (.Call (.Attribute o name apos) [] [] cpos) (ZaF X.K T r to):=by
 intro pins s σ H Q I h
 refine wpAny_Call_method0_late hbase hline (thn (ho pins s σ H _ I h) λv s1 hz0=>?_)
 obtain ⟨x,H1,I1,r1,ty,q1⟩:=hz0
 obtain ⟨h1,h2⟩:=Zau I1 r1 ty
 exact ⟨T,id,pa,slot,hty,h1,h2,Calls.callWith_builtin rfl (PySem.evalArgs_none (hm pins s1 σ H1 x [] v [] Q I1 r1 .nil q1))⟩
theorem gF (pa:PlainAttrs T) (slot:Slot T name id) (hty:typeOf (.builtin id)=pure (.type "method_descriptor")) (hm:kw X id r) (ho:PE X o to) (ha:PA X (e::es) t)
  (hbase:attributeBase o name X.env (eval o X.env)=eval o X.env:=by rfl)
  (hfew:((backTo cpos (starEach (e::es) X.env)).all (λx=>!x.1) && (backToKw cpos (keywordEach [] X.env)).all (λx=>x.1.isSome)
   && decide ((e::es).length+([]:List Keyword).length+(if ([]:List Keyword).isEmpty then 0 else 1) < 30))=true:=by rfl)
  (hline:(apos.endLine == cpos.line)=true:=by rfl) (hs:starEach (e::es) X.env=(false,eval e X.env)::starEach es X.env:=by rfl) (hplain:(backTo cpos (starEach es X.env)).any (·.1)=false:=by rfl) :
  PE X (.Call (.Attribute o name apos) (e::es) [] cpos) (tBM X.K T r to t):=by
 intro pins s σ H Q I h
 refine wpAny_Call_method_late hbase hfew hline rfl (thn (ho pins s σ H _ I h) λv s1 hz0=>?_)
 obtain ⟨x,H1,I1,r1,ty,q1⟩:=hz0
 obtain ⟨h1,h2⟩:=Zau I1 r1 ty
 refine ⟨T,id,pa,slot,hty,h1,h2,?_⟩
 have hA:=ha cpos pins s1 σ H1 _ I1 q1
 rw [hs] at hA ⊢
 refine Calls.callWith_builtin (by show (false || (backTo cpos (starEach es X.env)).any (·.1))=false; rw [hplain] <;> rfl) (Calls.evalArgs_plain ?_)
 exact thn hA λus s2 hz0=>by
  obtain ⟨vs,H2,I2,r2,q2⟩:=hz0
  exact hm pins s2 σ H2 x vs v us Q I2 r1 r2 q2
end
noncomputable def MtM (X:Cx) (id:String) (r:V->List V->Hp->VK->Prop):Prop :=
 ∀ (pins:List (Addr×Obj)) (s:Shared) (σ:St) (H:Hp) (x:V) (xs:List V) (v:Value) (us:List Value) (Q:VK),Inv X pins σ H s->RelV x v->Vals xs us->r x xs H Q ->
  wpAny (model X.prog X.w) X.A (call (.builtin id) (v::us)) (EP X pins σ Q) X.xe s
theorem Vals.one {x:V} {us:List Value} (h:Vals [x] us):∃ u,us=[u]/\RelV x u:=by
 cases h with
 | cons r t=>cases t; exact ⟨_,rfl,r⟩
theorem Vals.zero:∀ {us:List Value},Vals [] us->us=[]
 | _,.nil=>rfl
theorem Vals.reverse {xs:List V} {us:List Value} (h:Vals xs us):Vals xs.reverse us.reverse:=by
 induction h with
 | nil=>exact .nil
 | cons r t ih=>rw [List.reverse_cons,List.reverse_cons]; exact Vals.append ih (.cons r .nil)
theorem Vals.rep {xs:List V} {us:List Value} (h:Vals xs us):∀ k:Nat,Vals (List.replicate k xs).flatten (List.replicate k us).flatten
 | 0=>.nil
 | k+1=>by
  rw [List.replicate_succ,List.replicate_succ,List.flatten_cons,List.flatten_cons]
  exact Vals.append h (Vals.rep h k)
theorem Zc3 (its:List Value):∀ (k:Nat) (acc:List Value),
  List.foldl (λx1 x2=>x1++x2) acc.toArray (List.replicate k its.toArray)=(acc++(List.replicate k its).flatten).toArray
 | 0,acc=>by simp
 | k+1,acc=>by
  have e:acc.toArray++its.toArray=(acc++its).toArray:=by simp
  have e2:(acc++its)++(List.replicate k its).flatten=acc++(List.replicate (k+1) its).flatten:=by
   rw [List.replicate_succ,List.flatten_cons,List.append_assoc]
  rw [<- e2,<- Zc3 its k (acc++its),<- e,List.replicate_succ,List.foldl_cons]
section
variable {X:Cx} {pins:List (Addr×Obj)} {σ:St} {H:Hp} {s:Shared} {l b:Addr} {xs ys zs:List V}
theorem Inv.lset {its its':List Value} {n:Nat} {f:Array Value->Array Value} {t':Nat} (I:Inv X pins σ H s) (hH:H l=some (.lst xs))
  (e:s.heap.get? l=some { cls:=.type "list",data:=.seq its.toArray n }) (hf:f its.toArray=its'.toArray) (hv:Vals ys its') (hz:ys.length<=sizeLine) :
  Inv X pins σ (upd H l (.lst ys)) { s with heap:=s.heap.update l (Obj.mapSeq f),toks:=t' }:=by
 have q:=PySem.IsL.update e f
 rw [hf] at q
 refine I.write (x:=l) (e:=l) (by rw [hH]; exact trivial) (.inl rfl) (λb' u hb hu=>(Heap.get?_update_other s.heap (Obj.mapSeq f) (Ne.symm hb)).trans hu) ⟨_,q⟩ ?_
 exact ⟨hz,its',_,hv,q⟩
theorem Inv.lnew {its:List Value} {t':Nat} (I:Inv X pins σ H s) (hv:Vals ys its) (hz:ys.length<=sizeLine) :
  Inv X pins σ (upd H s.heap.objs.size (.lst ys)) { s with heap:=s.heap.push { cls:=.type "list",data:=.seq its.toArray },toks:=t' } :=
 I.laid (λ_ _ q=>Heap.get?_push_of_some _ q) (Nat.le_refl _) ⟨hz,its,0,hv,Heap.get?_push_size _ rfl⟩
theorem Inv.fresh (I:Inv X pins σ H s):H s.heap.objs.size=none:=I.hok.fresh (Nat.le_refl _)
theorem Inv.lstM (I:Inv X pins σ H s) (hH:H l=some (.lst xs)):xs.length<=sizeLine/\∃ (its:List Value) (n:Nat),Vals xs its/\xs.length=its.length/\s.heap.get? l=some { cls:=.type "list",data:=.seq its.toArray n }:=by
 obtain ⟨z,its,n,r,e⟩:=I.hok l _ hH
 exact ⟨z,its,n,r,r.length,e⟩
theorem ZiC {n:Nat} (h:n<=sizeLine):Builtin.List.listTooLong n=false:=by
 unfold Builtin.List.listTooLong
 exact decide_eq_false (by omega)
end
section
variable {X:Cx}
noncomputable def ZbR:V->List V->Hp->VK->Prop:=λx vs H Q=>∃ l xs y,x=.ref l/\vs=[y]/\H l=some (.lst xs)/\xs.length < sizeLine/\Q .non (upd H l (.lst (xs++[y])))
theorem iZ:MtM X "list.append" ZbR:=by
 intro pins s σ H x vs v us Q I rx rv h
 obtain ⟨l,xs,y,rfl,rfl,hH,hz,q⟩:=h
 cases rx
 obtain ⟨u,rfl,ru⟩:=rv.one
 obtain ⟨z,its,n,r,hl,e⟩:=I.lstM hH
 refine call_meets F.slot_list_append ⟨_,e,rfl⟩ F.entry_list_append (F.args_list_append_2 _ _) (PySem.list_append l its.toArray n u (by rw [List.size_toArray]; omega)) ⟨e,?_⟩
 refine ⟨.non,_,I.lset (its':=its++[u]) hH e (by simp) (r.append (.cons ru .nil)) ?_,rfl,q⟩
 rw [List.length_append,List.length_singleton]
 omega
noncomputable def Zbx:V->List V->Hp->VK->Prop:=λx vs H Q=>∃ l xs,x=.ref l/\vs=[]/\H l=some (.lst xs)/\Q .non (upd H l (.lst xs.reverse))
theorem ZiN:MtM X "list.reverse" Zbx:=by
 intro pins s σ H x vs v us Q I rx rv h
 obtain ⟨l,xs,rfl,rfl,hH,q⟩:=h
 cases rx
 have hus:=rv.zero
 subst hus
 obtain ⟨z,its,n,r,hl,e⟩:=I.lstM hH
 refine call_meets F.slot_list_reverse ⟨_,e,rfl⟩ F.entry_list_reverse (F.args_list_reverse_1 _) (AutoSeq1.list_reverse_list_0 l its.toArray n (by rw [List.size_toArray]; omega)) ⟨e,?_⟩
 refine ⟨.non,_,I.lset (its':=its.reverse) hH e (by simp) r.reverse ?_,rfl,q⟩
 rw [List.length_reverse]
 omega
noncomputable def oZ:R2:=λx y H Q=>∃ l b xs zs,x=.ref l/\y=.ref b/\H l=some (.lst xs)/\H b=some (.lst zs)/\xs.length+zs.length<=sizeLine/\∀ p,H p=none->Q (.ref p) (upd H p (.lst (xs++zs)))
theorem tK:OpR X (binaryOp .Add) oZ:=by
 intro pins s σ H x y v u Q I rx ry h
 obtain ⟨l,b,xs,zs,rfl,rfl,hH,hB,hz,q⟩:=h
 cases rx
 cases ry
 obtain ⟨z,its,n,r,hl,e⟩:=I.lstM hH
 obtain ⟨z2,its2,n2,r2,hl2,e2⟩:=I.lstM hB
 refine PySem.P.add_list e e2 ?_ (by rw [List.size_toArray,List.size_toArray]; omega)
 have ea:its.toArray++its2.toArray=(its++its2).toArray:=by simp
 rw [ea]
 exact ⟨.ref _,_,I.lnew (t':=s.toks) (r.append r2) (by rw [List.length_append]; omega),rfl,q _ I.fresh⟩
noncomputable def Zbz:R2:=λx y H Q=>∃ l k xs,x=.ref l/\y=.int k/\H l=some (.lst xs)/\-(2 ^ 63)<=k/\k < 2 ^ 63/\xs.length * k.toNat<=sizeLine /\
 ∀ p,H p=none->Q (.ref p) (upd H p (.lst (List.replicate k.toNat xs).flatten))
theorem Zi2 {α:Type} (xs:List α) (k:Nat):(List.replicate k xs).flatten.length=k * xs.length:=by
 induction k with
 | zero=>simp
 | succ k ih=>rw [List.replicate_succ,List.flatten_cons,List.length_append,ih,Nat.succ_mul,Nat.add_comm]
theorem Zia:OpR X (binaryOp .Mult) Zbz:=by
 intro pins s σ H x y v u Q I rx ry h
 obtain ⟨l,k,xs,rfl,rfl,hH,h1,h2,hz,q⟩:=h
 cases rx
 obtain ⟨t,rfl⟩:=ry
 obtain ⟨z,its,n,r,hl,e⟩:=I.lstM hH
 have hlen:its.toArray.size * k.toNat<=sizeLine:=by rw [List.size_toArray,<- hl]; exact hz
 have hcap:¬ its.toArray.size * k.toNat > (2 ^ 63 - 1) / 8:=by
  have:(sizeLine:Nat)<=(2 ^ 63 - 1) / 8:=by decide
  omega
 have hfit:¬ (!Builtin.List.listFitsIndex k)=true:=by
  rw [fitsIndex_both h1 h2]
  exact Bool.false_ne_true
 have hlong:¬ Builtin.List.listTooLong (its.toArray.size * k.toNat)=true:=by
  rw [ZiC hlen]
  exact Bool.false_ne_true
 have hnew:List.foldl (λx1 x2=>x1++x2) #[] (List.replicate (if its.toArray.isEmpty=true then 0 else k.toNat) its.toArray)=(List.replicate k.toNat its).flatten.toArray:=by
  have f0:∀ m:Nat,List.foldl (λx1 x2=>x1++x2) #[] (List.replicate m its.toArray)=(List.replicate m its).flatten.toArray:=λm=>by
   have:=Zc3 its m []
   rw [List.nil_append] at this
   exact this
  rw [f0]
  cases its with
  | nil=>simp
  | cons a r'=>rw [if_neg (by simp)]
 refine wpAny_binaryOp_repeat_ref (T:="list") (U:="int") (by decide) ⟨_,e,rfl⟩ (λs'=>typeIs_int s' k t) noFill_list_mul F.fills_int_mul F.slot_int_rmul repeat_list F.slot_int_index.lookup
  (call_meets F.slot_int_rmul (typeIs_int s k t) F.entry_int_rmul (F.args_int_rmul_2 _ _) (int___rmul___int_list k t l its.toArray n)
   ⟨e,rfl,⟨_,e,rfl⟩,call_meets F.slot_list_mul ⟨_,e,rfl⟩ F.entry_list_mul (F.args_list_mul_2 _ _) (AutoListH.list___mul___list_int_3 l its.toArray n k t hfit hcap hlong) ⟨e,?_⟩⟩)
 rw [hnew]
 exact ⟨.ref _,_,I.lnew (t':=s.toks) (r.rep k.toNat) (by rw [Zi2,Nat.mul_comm]; exact hz),rfl,q _ I.fresh⟩
end
section
variable {prog:Program} {w:World} {A:Around} {E:Value->Shared->Prop} {s:Shared}
end
section
variable {X:Cx}
end
section
variable {κ:Type} [DecidableEq κ]
noncomputable def eN (kvs:List (κ×V)) (k:κ):Option V:=(kvs.find? λkv=>decide (kv.1=k)).map (·.2)
noncomputable def di (kvs:List (κ×V)) (k:κ) (v:V):List (κ×V) :=
 if (kvs.any λkv=>decide (kv.1=k))=true then kvs.map (λkv=>if kv.1=k then (kv.1,v) else kv) else kvs++[(k,v)]
theorem kG {p:κ×V} {r:List (κ×V)} {k:κ} (e:p.1=k):eN (p::r) k=some p.2:=by simp [eN,List.find?_cons,e]
theorem kH {p:κ×V} {r:List (κ×V)} {k:κ} (e:¬ p.1=k):eN (p::r) k=eN r k:=by simp [eN,List.find?_cons,e]
theorem n8 (k:κ):∀ kvs:List (κ×V),(kvs.any λkv=>decide (kv.1=k))=(eN kvs k).isSome
 | []=>rfl
 | p::r=>by
  rw [List.any_cons]
  by_cases e:p.1=k
  ·simp only [kG e,decide_eq_true e,Bool.true_or,Option.isSome_some]
  ·rw [kH e,decide_eq_false e,Bool.false_or]; exact n8 k r
theorem tZ (kvs:List (κ×V)) (k:κ) (v:V):(di kvs k v).length<=kvs.length+1:=by
 unfold di
 split
 ·rw [List.length_map]; omega
 ·rw [List.length_append,List.length_cons,List.length_nil]; omega
theorem RelO.isSome_eq {o:Option V} {u:Option Value} (r:RelO o u):o.isSome=u.isSome:=by
 cases o with
 | none=>cases u with
  | none=>rfl
  | some _=>exact (show False from r).elim
 | some _=>cases u with
  | none=>exact (show False from r).elim
  | some _=>rfl
theorem KV.val {kvs:List (κ×V)} {vs:List (κ×Value)} (r:KV kvs vs) (k:κ):RelO (eN kvs k) (valueAt vs k):=by
 unfold KV at r
 induction r with
 | nil=>exact True.intro
 | @cons p q ps qs h t ih =>
  obtain ⟨h1,h2⟩:=h
  by_cases e:p.1=k
  ·have e':q.1=k:=h1.symm.trans e
   have b:valueAt (q::qs) k=some q.2:=by simp [valueAt,List.find?_cons,e']
   rw [kG e,b]; exact h2
  ·have e':¬ q.1=k:=λz=>e (h1.trans z)
   have b:valueAt (q::qs) k=valueAt qs k:=by simp [valueAt,List.find?_cons,e']
   rw [kH e,b]; exact ih
theorem KV.any {kvs:List (κ×V)} {vs:List (κ×Value)} (r:KV kvs vs) (k:κ):(kvs.any λkv=>decide (kv.1=k))=vs.any λkv=>decide (kv.1=k):=by
 unfold KV at r
 induction r with
 | nil=>rfl
 | cons h t ih=>rw [List.any_cons,List.any_cons,ih,h.1]
theorem KV.repl {kvs:List (κ×V)} {vs:List (κ×Value)} (r:KV kvs vs) (k:κ) {y:V} {u:Value} (ry:RelV y u) :
  KV (kvs.map λkv=>if kv.1=k then (kv.1,y) else kv) (vs.map λkv=>if kv.1=k then (kv.1,u) else kv):=by
 unfold KV at r ⊢
 induction r with
 | nil=>exact .nil
 | @cons p q ps qs h t ih =>
  rw [List.map_cons,List.map_cons]
  refine .cons ?_ ih
  obtain ⟨h1,h2⟩:=h
  by_cases e:p.1=k
  ·rw [if_pos e,if_pos (h1.symm.trans e)]; exact ⟨h1,ry⟩
  ·rw [if_neg e,if_neg (λz=>e (h1.trans z))]; exact ⟨h1,h2⟩
theorem KV.put {kvs:List (κ×V)} {vs:List (κ×Value)} (r:KV kvs vs) (k:κ) {y:V} {u:Value} (ry:RelV y u):KV (di kvs k y) (stored vs k u):=by
 unfold di stored
 rw [r.any k]
 by_cases e:(vs.any λkv=>decide (kv.1=k))=true
 ·rw [if_pos e,if_pos e]; exact r.repl k ry
 ·rw [if_neg e,if_neg e]; exact Paired.snoc r ⟨rfl,ry⟩
theorem KV.length {kvs:List (κ×V)} {vs:List (κ×Value)} (r:KV kvs vs):kvs.length=vs.length:=Paired.length r
end
theorem qc {P:Program} {w:World} {k:aI} {u:Value} (r:RelV (kV k) u):(dU P w).is k u=true:=by
 cases k with
 | inl i=>obtain ⟨t,e⟩:=(show ∃ t,u=Value.int i t from r); subst e; exact ZiT P w i t
 | inr x=>obtain ⟨t,e⟩:=(show ∃ t,u=Value.str x t from r); subst e; exact ZiS P w x t
theorem ZcG {P:Program} {w:World}:∀ {ks:List aI} {us:List Value},Vals (ks.map kV) us->ItemsAre (dU P w) ks us
 | [],_,r=>by rw [List.map_nil] at r; cases r; exact .nil
 | k::ks,_,r=>by
  rw [List.map_cons] at r
  cases r with
  | cons h t=>exact .cons (qc h) (ZcG t)
noncomputable abbrev KT (H:Hp):List (List aI×V)->List (List aI×Addr×Value)->Prop:=Paired λp q=>p.1=q.1/\H q.2.1=some (.tup (p.1.map kV))/\RelV p.2 q.2.2
theorem KT.val {H:Hp} {kvs:List (List aI×V)} {xs:List (List aI×Addr×Value)} (r:KT H kvs xs) (k:List aI):RelO (eN kvs k) ((atKey xs k).map (·.2)):=by
 induction r with
 | nil=>exact True.intro
 | @cons p q ps qs h t ih =>
  obtain ⟨h1,_,h2⟩:=h
  by_cases e:p.1=k
  ·have e':q.1=k:=h1.symm.trans e
   have b:atKey (q::qs) k=some q.2:=by simp [atKey,List.find?_cons,e']
   rw [kG e,b]; exact h2
  ·have e':¬ q.1=k:=λz=>e (h1.trans z)
   have b:atKey (q::qs) k=atKey qs k:=by simp [atKey,List.find?_cons,e']
   rw [kH e,b]; exact ih
theorem KT.repl {H:Hp} {kvs:List (List aI×V)} {xs:List (List aI×Addr×Value)} (r:KT H kvs xs) (k:List aI) {y:V} {u:Value} (ry:RelV y u) :
  KT H (kvs.map λkv=>if kv.1=k then (kv.1,y) else kv) (xs.map (putAt k u)):=by
 induction r with
 | nil=>exact .nil
 | @cons p q ps qs h t ih =>
  rw [List.map_cons,List.map_cons]
  refine .cons ?_ ih
  obtain ⟨h1,h2,h3⟩:=h
  unfold putAt
  by_cases e:p.1=k
  ·rw [if_pos e,if_pos (h1.symm.trans e)]; exact ⟨h1,h2,ry⟩
  ·rw [if_neg e,if_neg (λz=>e (h1.trans z))]; exact ⟨h1,h2,h3⟩
theorem KT.put {H:Hp} {kvs:List (List aI×V)} {xs:List (List aI×Addr×Value)} (r:KT H kvs xs) (k:List aI) {b:Addr} {y:V} {u:Value} (hb:H b=some (.tup (k.map kV))) (ry:RelV y u) :
  KT H (di kvs k y) (storedH xs k b u):=by
 have e:(kvs.any λkv=>decide (kv.1=k))=(atKey xs k).isSome:=by
  rw [n8,(r.val k).isSome_eq,Option.isSome_map]
 unfold di storedH
 rw [e]
 by_cases q:(atKey xs k).isSome=true
 ·rw [if_pos q,if_pos q]; exact r.repl k ry
 ·rw [if_neg q,if_neg q]; exact Paired.snoc r ⟨rfl,hb,ry⟩
theorem KT.keeps {H H':Hp} {kvs:List (List aI×V)} {xs:List (List aI×Addr×Value)} (r:KT H kvs xs) (ht:∀ b ys,H b=some (.tup ys)->H' b=some (.tup ys)):KT H' kvs xs :=
 Paired.mapP r λ_ _ z=>⟨z.1,ht _ _ z.2.1,z.2.2⟩
section
variable {P:Program} {w:World} {H:Hp} {h:Heap} {a:Addr}
theorem Zbn {u:HO} (ok:HOk P w H h) (e:Rd H a u):ObjOk P w H h a u:=e.ok ok
theorem uH {kvs:List (aI×V)} (ok:HOk P w H h) (e:Rd H a (.dK kvs)):kvs.length<=sizeLine/\(a == sysModules)=false/\∃ vs,KV kvs vs/\h.DictOf (dU P w) a vs :=
 show ObjOk P w H h a (.dK kvs) from Zbn ok e
theorem Zdy {kvs:List (aI×V)} (ok:HOk P w H h) (e:H a=some (.dK kvs)):kvs.length<=sizeLine/\(a == sysModules)=false/\∃ vs,KV kvs vs/\h.DictOf (dU P w) a vs:=uH ok (.inl e)
theorem uf {ks:List aI} (ok:HOk P w H h) (e:H a=some (.tup (ks.map kV))):(tupleKind (dU P w)).is h ks a:=by
 obtain ⟨_,its,r,o,h1,h2,n,h3⟩:=(show ObjOk P w H h a (.tup (ks.map kV)) from ok a _ e)
 exact ⟨o,its.toArray,n,h1,h2,h3,by simpa using ZcG r⟩
theorem uG {kvs:List (List aI×V)} (ok:HOk P w H h) (e:Rd H a (.dT kvs)):kvs.length<=sizeLine/\(a == sysModules)=false /\
  ∃ xs,KT H kvs xs/\h.DictOfH (tupleKind (dU P w)) a xs:=by
 obtain ⟨z,y,xs,r,o,es,ep,h1,h2,h3,h4,h5⟩:=(show ObjOk P w H h a (.dT kvs) from Zbn ok e)
 refine ⟨z,y,xs,r,o,es,ep,h1,h2,h3,h4,λx hx=>?_,h5⟩
 have all:∀ {l:List (List aI×V)} {m:List (List aI×Addr×Value)},KT H l m->∀ x∈m,(tupleKind (dU P w)).is h x.1 x.2.1:=by
  intro l m q
  induction q with
  | nil=>intro x hx; exact nomatch hx
  | @cons p q ps qs hq t ih =>
   intro x hx
   rcases List.mem_cons.mp hx with e | hx
   ·subst e
    exact uf ok (by rw [<- hq.1]; exact hq.2.1)
   ·exact ih x hx
 exact all r x hx
theorem ZnX {kvs:List (List aI×V)} (ok:HOk P w H h) (e:H a=some (.dT kvs)):kvs.length<=sizeLine/\(a == sysModules)=false /\
  ∃ xs,KT H kvs xs/\h.DictOfH (tupleKind (dU P w)) a xs:=uG ok (.inl e)
end
noncomputable def DGet (H:Hp) (a:Addr) (y:V) (r:Option V):Prop :=
 (∃ kvs k,Rd H a (.dK kvs)/\y=kV k/\r=eN kvs k)\/∃ kvs k b,Rd H a (.dT kvs)/\y=.ref b/\H b=some (.tup (k.map kV))/\r=eN kvs k
noncomputable def DPut (H:Hp) (a:Addr) (y v:V) (H':Hp):Prop :=
 (∃ kvs k,H a=some (.dK kvs)/\y=kV k/\kvs.length < sizeLine/\H'=upd H a (.dK (di kvs k v))) \/
 ∃ kvs k b,H a=some (.dT kvs)/\y=.ref b/\H b=some (.tup (k.map kV))/\kvs.length < sizeLine/\H'=upd H a (.dT (di kvs k v))
theorem DGet.k {H:Hp} {a:Addr} {kvs:List (aI×V)} {k:aI} (e:H a=some (.dK kvs)):DGet H a (kV k) (eN kvs k):=.inl ⟨kvs,k,.inl e,rfl,rfl⟩
theorem DPut.k {H:Hp} {a:Addr} {kvs:List (aI×V)} {k:aI} {v:V} (e:H a=some (.dK kvs)) (hl:kvs.length < sizeLine):DPut H a (kV k) v (upd H a (.dK (di kvs k v))):=.inl ⟨kvs,k,e,rfl,hl,rfl⟩
section
variable {X:Cx} {pins:List (Addr×Obj)} {σ:St} {H:Hp} {s:Shared} {a:Addr} {y v:V} {u r:Value} {o:Option V} {A:Around} {E:Value->Shared->Prop}
theorem Inv.big (I:Inv X pins σ H s):sysModules < s.heap.objs.size:=by
 have h:mainGlobals < s.heap.objs.size:=(I.mod.glob.keeps I.bk).lt
 exact Nat.lt_trans (by decide) h
theorem Zon {Q:Value->Shared->Prop} (hu:A.units+1 < cLine) (I:Inv X pins σ H s) (g:DGet H a y (some v)) (ry:RelV y u) (h:∀ w' s',Inv X pins σ H s'->RelV v w'->Q w' s') :
  wpAny (model X.prog X.w) A (getItem (.ref a) u) Q E s:=by
 rcases g with ⟨kvs,k,e,ey,l⟩ | ⟨kvs,k,b,e,ey,eb,l⟩
 ·subst ey
  obtain ⟨z,hd,vs,rel,dd⟩:=uH I.hok e
  obtain ⟨w',hw,rw'⟩:=RelO.some_of (v:=v) (o:=valueAt vs k) (by rw [l]; exact rel.val k)
  exact wpAny_getItem_of (qc ry) dd.mapOf hw (h w' _ (I.tok _) rw')
 ·subst ey
  cases (show u=Value.ref b from ry)
  obtain ⟨z,hd,xs,rel,dd⟩:=uG I.hok e
  obtain ⟨w',hw,rw'⟩:=RelO.some_of (v:=v) (o:=(atKey xs k).map (·.2)) (by rw [l]; exact rel.val k)
  obtain ⟨p,hp,hp2⟩:=Option.map_eq_some_iff.mp hw
  refine wpAny_getItem_heap (tupleKind_room_in1 hu) (uf I.hok eb) dd hp ?_
  rw [hp2]
  exact h w' _ (I.tok _) rw'
theorem uJ {h':Heap} {t':Nat} {ob:HO} (I:Inv X pins σ H s) (mu:nN (H a)) (hs:Heap.SameBut a s.heap h') (he:∃ q,h'.get? a=some q) (new:ObjOk X.prog X.w (upd H a ob) h' a ob) :
  Inv X pins σ (upd H a ob) { s with heap:=h',toks:=t' } :=
 I.write (x:=a) (e:=a) mu (.inl rfl) (λb q hb z=>(hs.2 b hb).trans z) he new
theorem Zdz {P:Program} {w:World} {H':Hp} {h':Heap} {kvs:List (aI×V)} {vs:List (aI×Value)} (z:kvs.length<=sizeLine) (hd:(a == sysModules)=false) (rel:KV kvs vs) (dd:h'.DictOf (dU P w) a vs) :
  ObjOk P w H' h' a (.dK kvs):=⟨z,hd,vs,rel,dd⟩
theorem Zod {H':Hp} {Q:Unit->Shared->Prop} (hu:A.units+1 < cLine) (I:Inv X pins σ H s) (g:DPut H a y v H') (ry:RelV y u) (rv:RelV v r) (h:∀ s',Inv X pins σ H' s'->Q () s') :
  wpAny (model X.prog X.w) A (setItem (.ref a) u r) Q E s:=by
 rcases g with ⟨kvs,k,e,ey,l,eH⟩ | ⟨kvs,k,b,e,ey,eb,l,eH⟩
 ·subst ey eH
  obtain ⟨z,hd,vs,rel,dd⟩:=Zdy I.hok e
  have hz:vs.length<=sizeLine:=by rw [<- rel.length]; exact z
  have hl:(di kvs k v).length<=sizeLine:=by have:=tZ kvs k v; omega
  refine wpAny_setItem_pairs (hsz:=hz) (qc ry) dd λh' dd' hs=>h _ ?_
  have he:∃ q,h'.get? a=some q:=let ⟨q,_,_,hq,_⟩:=dd'; ⟨q,hq⟩
  exact uJ I (by rw [e]; exact True.intro) hs he (Zdz hl hd (rel.put k rv) dd')
 ·subst ey eH
  cases (show u=Value.ref b from ry)
  obtain ⟨z,hd,xs,rel,dd⟩:=ZnX I.hok e
  have hz:xs.length<=sizeLine:=by rw [<- Paired.length rel]; exact z
  have hl:(di kvs k v).length<=sizeLine:=by have:=tZ kvs k v; omega
  refine wpAny_setItem_heap (hsz:=hz) (tupleKind_room_in1 hu) (uf I.hok eb) dd λh' dd' hs=>h _ ?_
  obtain ⟨q,es,ep,hq,h2,h3,h4,_,h5⟩:=dd'
  refine uJ I (by rw [e]; exact True.intro) hs ⟨q,hq⟩ ⟨hl,hd,_,(rel.put k eb rv).keeps λc ys ec=>?_,q,es,ep,hq,h2,h3,h4,h5⟩
  rw [aO (tO ec e (λz=>nomatch z))]
  exact ec
end
section
variable {X:Cx} {pins:List (Addr×Obj)} {σ:St} {H:Hp} {s:Shared} {a:Addr} {kvs:List (aI×V)} {k:aI} {u:Value} {A:Around} {E:Value->Shared->Prop}
end
noncomputable def ZeM (i:Expr):Prop:=∀ ov iv,subscripted i false ov iv=operate [ov,iv] (getItem ov iv)
theorem Zga {prog:Program} {w:World} {A:Around} {E:Value->Shared->Prop} {s:Shared} {env:Env} {value slice:Expr} {pos:Pos} {T id:String} {Q:Value->Shared->Prop}
  (hl:typeLookup (.type T) "__getitem__"=pure (some (.builtin id))) (hs:ZeM slice)
  (h:wpAny (model prog w) A (eval value env) (λo s₁=>wpAny (model prog w) A (eval slice env) (λi s₂=>s₂.TypeIs o T/\wpAny (model prog w) A (getItem o i) Q E s₂) E s₁) E s) :
  wpAny (model prog w) A (eval (.Subscript value slice pos) env) Q E s:=by
 refine Subscript_ (wpAny_mono h (λo s₁ h₁=>wpAny_mono h₁ (λi s₂ h₂=>?_) λ_ _ x=>x) λ_ _ x=>x)
 obtain ⟨hT,h₂⟩:=h₂
 unfold subscriptTail
 refine wpAny_bind ?_
 rw [getitemInPython_of_ne hT.not_modules]
 refine wpAny_bind (wpAny_specialOf hT hl ?_)
 have fin:wpAny (model prog w) A (subscripted slice false o i) (λr s₃=>wpAny (model prog w) A (letTemporaryGo value o r >>= λ_=>pure r) Q E s₃) E s₂:=by
  rw [hs o i]
  exact wpAny_operating (wpAny_mono h₂ (λr s₃ h₃=>wpAny_bind (wpAny_letTemporaryGo (wpAny_pure h₃))) λ_ _ x=>x)
 first
  | exact wpAny_pure (wpAny_bind fin)
  | exact wpAny_bind (wpAny_pure (wpAny_bind fin))
  | exact wpAny_bind fin
theorem Zn5 {X:Cx} {pins:List (Addr×Obj)} {σ:St} {H:Hp} {s:Shared} {a:Addr} {y:V} {o:Option V} (I:Inv X pins σ H s) (g:DGet H a y o):s.TypeIs (.ref a) "dict":=by
 rcases g with ⟨kvs,k,e,_,_⟩ | ⟨kvs,k,b,e,_,_,_⟩
 ·obtain ⟨_,_,vs,_,dd⟩:=uH I.hok e
  exact dd.typeIs
 ·obtain ⟨_,_,xs,_,dd⟩:=uG I.hok e
  exact dd.typeIs
noncomputable def Zf6 (td ty:TE):TE:=λσ H Q=>td σ H λx H1=>ty σ H1 λy H2=>∃ a v,x=.ref a/\DGet H2 a y (some v)/\Q v H2
noncomputable def ZgW (td ty tv:TE):TS:=λD σ H=>tv σ H λv H1=>td σ H1 λx H2=>ty σ H2 λy H3=>∃ a H4,x=.ref a/\DPut H3 a y v H4/\D.nx σ H4
section
variable {X:Cx} {o i e value:Expr} {pos pos' tpos:Pos} {td ty tv:TE}
theorem mQ (hu:X.A.units+1 < cLine) (ho:PE X o td) (hi:PE X i ty) (hs:ZeM i):PE X (.Subscript o i pos) (Zf6 td ty):=by
 intro pins s σ H Q I h
 refine Zga PySem.F.slot_dict_getitem.lookup hs (thn (ho pins s σ H _ I h) λu s1 ⟨x,H1,I1,rx,q1⟩=>thn (hi pins s1 σ H1 _ I1 q1) λiv s2 hz0=>?_)
 obtain ⟨y,H2,I2,ry,a,v,ex,g,q2⟩:=hz0
 subst ex
 obtain rfl:u=Value.ref a:=rx
 exact ⟨Zn5 I2 g,Zon hu I2 g ry λw' s3 I3 rw'=>⟨v,H2,I3,rw',q2⟩⟩
theorem tj (hu:X.A.units+1 < cLine) (ho:PE X o td) (hi:PE X i ty) (hv:PE X value tv) (hs:swapsWith value (some (.Subscript o i pos')) pos.line X.env=pure false) :
  PS X (.Assign [.Subscript o i pos'] value pos) (ZgW td ty tv):=by
 intro pins s σ H D I h
 refine wpAny_Assign_Subscript (thn (hv pins s σ H _ I h) λr s1 ⟨v,H1,I1,rv,q1⟩=>thn (ho pins s1 σ H1 _ I1 q1) λu s2 ⟨x,H2,I2,rx,q2⟩=>thn (hi pins s2 σ H2 _ I2 q2) λiv s3 hz0=>?_) hs
 obtain ⟨y,H3,I3,ry,a,H4,ex,g,q3⟩:=hz0
 subst ex
 obtain rfl:u=Value.ref a:=rx
 exact Zod hu I3 g ry rv λs4 I4=>⟨σ,H4,I4,q3⟩
end
theorem Zn1 {P:Program} {w:World} {H:Hp} (h:Heap) (hb:sysModules < h.objs.size):ObjOk P w H (h.push { cls:=.type "dict",data:=.dict #[] }) h.objs.size (.dK []) :=
 ⟨Nat.zero_le _,beq_eq_false_iff_ne.mpr (Ne.symm (Nat.ne_of_lt hb)),[],.nil,Heap.DictOf.new h⟩
section
variable {X:Cx} {pos:Pos}
end
noncomputable def rV:List (TE×TE)->St->Hp->(List (V×V)->Hp->Prop)->Prop
 | [],_,H,Q=>Q [] H
 | (tk,tv)::r,σ,H,Q=>tk σ H λx H1=>tv σ H1 λy H2=>rV r σ H2 λps H3=>Q ((x,y)::ps) H3
noncomputable abbrev VV:List (V×V)->List (Value×Value)->Prop:=Paired λp q=>RelV p.1 q.1/\RelV p.2 q.2
noncomputable def rh (X:Cx) (pos:Pos) (keys:List (Option Expr)) (values:List Expr) (trs:List (TE×TE)):Prop :=
 ∀ (pins:List (Addr×Obj)) (s:Shared) (σ:St) (H:Hp) (Q:List (V×V)->Hp->Prop),Inv X pins σ H s->rV trs σ H Q ->
  wpAny (model X.prog X.w) X.A (evalPairs (pairTrees keys values X.env pos)) (λvs s'=>∃ ps H',Inv X pins σ H' s'/\VV ps vs/\Q ps H') X.xe s
theorem ZhH {X:Cx} {pos:Pos}:rh X pos [] [] []:=λpins s σ H Q I h=>pairTrees_nil_walk ⟨[],H,I,.nil,h⟩
theorem tm {X:Cx} {pos:Pos} {k v:Expr} {ks:List (Option Expr)} {vs:List Expr} {tk tv:TE} {trs:List (TE×TE)} (hk:PE X k tk) (hv:PE X v tv) (hr:rh X pos ks vs trs) :
  rh X pos (some k::ks) (v::vs) ((tk,tv)::trs):=λpins s σ H Q I h =>
 pairTrees_cons_walk (thn (hk pins s σ H _ I h) λu s1 ⟨x,H1,I1,rx,q1⟩=>thn (hv pins s1 σ H1 _ I1 q1) λw2 s2 ⟨y,H2,I2,ry,q2⟩ =>
  thn (hr pins s2 σ H2 _ I2 q2) λws s3 ⟨ps,H3,I3,rel,q3⟩=>⟨(x,y)::ps,H3,I3,.cons ⟨rx,ry⟩ rel,q3⟩)
noncomputable def mW (kvs more:List (aI×V)):List (aI×V):=more.foldl (λacc kv=>di acc kv.1 kv.2) kvs
theorem KV.merge:∀ {more:List (aI×V)} {rs:List (aI×Value)} {kvs:List (aI×V)} {vs:List (aI×Value)},KV more rs->KV kvs vs->KV (mW kvs more) (merged vs rs):=by
 intro more rs kvs vs r
 unfold KV at r
 induction r generalizing kvs vs with
 | nil=>intro q; exact q
 | @cons p q ps qs h t ih =>
  intro r0
  have e:KV (di kvs p.1 p.2) (stored vs q.1 q.2):=by
   have:=r0.put p.1 h.2
   rw [<- h.1]; exact this
  exact ih e
theorem Zcy:∀ (more kvs:List (aI×V)),(mW kvs more).length<=kvs.length+more.length
 | [],kvs=>by show kvs.length<=kvs.length+0; omega
 | p::r,kvs=>by
  have h1:=Zcy r (di kvs p.1 p.2)
  have h2:=tZ kvs p.1 p.2
  show (mW (di kvs p.1 p.2) r).length<=_
  rw [List.length_cons]; omega
theorem Zd5 {P:Program} {w:World}:∀ {kvs:List (aI×V)} {ws:List (Value×Value)},VV (kvs.map λkv=>(kV kv.1,kv.2)) ws->∃ rs,Carries (dU P w) ws rs/\KV kvs rs
 | [],_,r=>by rw [List.map_nil] at r; cases r; exact ⟨[],True.intro,.nil⟩
 | p::kvs,_,r=>by
  rw [List.map_cons] at r
  cases r with
  | @cons a b as bs h t =>
   obtain ⟨rs,c,q⟩:=Zd5 (P:=P) (w:=w) t
   obtain ⟨b1,b2⟩:=b
   exact ⟨(p.1,b2)::rs,⟨qc h.1,rfl,c⟩,.cons ⟨rfl,h.2⟩ q⟩
noncomputable def Zf5 (trs:List (TE×TE)):TE:=λσ H Q=>∀ p,H p=none->rV trs σ (upd H p (.dK [])) λps H2=>H2 p=some (.dK [])/\∃ kvs:List (aI×V),ps=kvs.map (λkv=>(kV kv.1,kv.2))/\kvs.length<=15/\Q (.ref p) (upd H2 p (.dK (mW [] kvs)))
theorem ZhX {X:Cx} {pos:Pos} {keys:List (Option Expr)} {values:List Expr} {trs:List (TE×TE)} (h:rh X pos keys values trs) (hall:keys.all (·.isSome)=true) (hl:keys.length=values.length) (h0:keys≠[])
  (h15:keys.length<=15):PE X (.Dict keys values pos) (Zf5 trs):=by
 intro pins s σ H Q I q
 have hn:=I.hok.fresh (Nat.le_refl s.heap.objs.size)
 have I1:=I.laid (a:=s.heap.objs.size) (o:=.dK []) (h':=s.heap.push { cls:=.type "dict",data:=.dict #[] }) (t':=s.toks) (λ_ _ q=>Heap.get?_push_of_some _ q) (Nat.le_refl _) (Zn1 s.heap I.big)
 refine wpAny_Dict_walk (knd:=dU X.prog X.w) hall hl h0 h15 (thn (h pins _ σ _ _ I1 (q _ hn)) λws s2 hz0=>?_)
 obtain ⟨ps,H2,I2,rel,e,kvs,ep,lk,q2⟩:=hz0
 subst ep
 obtain ⟨rs,c,rk⟩:=Zd5 (P:=X.prog) (w:=X.w) rel
 obtain ⟨z,hd,vs0,r0,dd⟩:=Zdy I2.hok e
 cases r0
 refine ⟨rs,c,dd,λh' dd' hs=>⟨.ref s.heap.objs.size,_,?_,rfl,q2⟩⟩
 have hz:(mW [] kvs).length<=sizeLine:=by
  have h1:=Zcy kvs []
  rw [List.length_nil] at h1
  rw [sizeLine_eq]; omega
 have he:∃ q,h'.get? s.heap.objs.size=some q:=let ⟨q,_,_,hq,_⟩:=dd'; ⟨q,hq⟩
 exact uJ I2 (by rw [e]; exact True.intro) hs he (Zdz hz hd (rk.merge .nil) dd')
structure M2 (X:Cx) (o:Expr) (m:Str) (apos:Pos) (e f:Expr) (cpos:Pos):Prop where
 base:attributeBase o m X.env (eval o X.env)=eval o X.env
 few:((backTo cpos (starEach [e,f] X.env)).all (λx=>!x.1) && (backToKw cpos (keywordEach [] X.env)).all (λx=>x.1.isSome)
  && decide (([e,f]:List Expr).length+([]:List Keyword).length+(if ([]:List Keyword).isEmpty then 0 else 1) < 30))=true
 line:(apos.endLine == cpos.line)=true
 trees:backTo cpos (starEach [e,f] X.env)=[(false,eval e X.env),(false,eval f X.env)]
section
variable {X:Cx} {pins:List (Addr×Obj)} {σ:St} {H:Hp} {s:Shared} {a:Addr} {y d:V} {u r:Value} {o:Option V} {A:Around} {E:Value->Shared->Prop}
end
section
variable {X:Cx} {o e f:Expr} {apos cpos:Pos} {td ty tx:TE}
end
section
variable {X:Cx} {pins:List (Addr×Obj)} {σ:St} {H:Hp} {s:Shared} {a:Addr} {kvs:List (aI×V)} {A:Around} {E:Value->Shared->Prop}
end
section
variable {X:Cx} {pins:List (Addr×Obj)} {σ:St} {H:Hp} {s:Shared} {a:Addr} {y:V} {u:Value} {A:Around} {E:Value->Shared->Prop}
end
end L2
namespace Att
open PySem PySem.W PySem.Calls PyProof.Rows
theorem ints_of_wellAll {P:Params} {h:Heap}:∀ (ns:List Int) (vs:List Value),WellAll P h vs (ns.map WData.int)->IntsAre vs ns:=by
 intro ns
 induction ns with
 | nil =>
  intro vs w
  rw [List.map_nil] at w
  cases w
  exact .nil
 | cons n ns ih =>
  intro vs w
  rw [List.map_cons] at w
  cases w with
  | cons a b =>
   cases a
   exact .cons _ _ (ih _ b)
theorem script_of {l:OpenLaw} {n:Nat} (hn:l.most=some n) {P:Params} {h:Heap} {args:List WData} {vals:List Value}
  (hpre:l.row.toRowW.claim.pre args=true) (hwl:WellAll P h vals args) :
  ∃ a vs ns,vals=[Value.ref a]/\args=[WData.list (ns.map WData.int)]/\h.get? a=some { cls:=.type "list",data:=.seq vs.toArray }/\IntsAre vs ns/\ns.length<=n:=by
 have hsh:WShape.hasAll [] args [.list .int]=true:=(pre_splitW hpre).1
 have hc:l.pre.holds [] { args:=args }=true:=(pre_splitW hpre).2
 obtain ⟨d,r,rfl,h1,h2⟩:=hasAllW_cons hsh
 obtain rfl:=hasAllW_nil h2
 obtain ⟨xs,rfl,h3⟩:=hasW_list h1
 obtain ⟨ns,rfl⟩:=items_int h3
 have hlen:ns.length<=n:=by
  unfold OpenLaw.pre at hc
  have h4:(WTm.not (.lt (.lit (.int (n:Int))) (.len (.arg 0)))).holds [] { args:=[.list (ns.map .int)] }=true:=by
   have h4:=(holds_andW hc).1
   rw [hn] at h4
   exact h4
  have h5:=condW_of h4 (w_not (w_lt w_lit (w_len_list (w_arg rfl))))
  rw [List.length_map] at h5
  refine Nat.le_of_not_lt λq=>?_
  have q':(n:Int) < ((ns.length:Nat):Int):=by omega
  first
   | (rw [decide_eq_true q'] at h5; exact absurd h5 (by decide))
   | (simp at h5; omega)
 cases hwl with
 | cons w1 w2 =>
  cases w2
  cases w1 with
  | list ho hall=>exact ⟨_,_,ns,rfl,rfl,ho,ints_of_wellAll ns _ hall,hlen⟩
theorem post_true (l:OpenLaw) (args:List WData):l.row.toRowW.claim.post args (.bool true) args=true :=
 postW_of (r:=l.row.toRowW) (X:=(true == true))
  (show WShape.has [] (.bool true) .bool=true by first | rfl | decide | simp [WShape.has,WShape.arms,WShape.armsAll])
  (show (WTm.eq .res (.lit (.bool true))).value [] { args:=args,res:=some (.bool true),after:=args }=some (.bool (true == true)) from w_eq_bool (w_res rfl) w_lit) rfl
theorem attach_call {l:OpenLaw} {n:Nat} {q:Program} {loose:List Str} {XP:(Str->Option Value)->Heap->Prop} {YP:World->Heap->Prop} {d:DefRec}
  (hn:l.most=some n) (hdf:d.params.defaults=[])
  (call:∀ (w:World) (s₀ s₁:Shared) (mg mb:Str->Option Value) (fa:Addr) (o:Obj) (pm cd doc:Value) (a:Addr) (vs:List Value) (ns:List Int),
   Ground q loose [] XP w s₀ mg mb s₁.heap->YP w s₁.heap ->
   s₁.heap.get? fa=some o->o.data=.func (docDef d.name d.params d.body d.scope pm cd doc)->s₁.heap.CodeRec cd d.name->mg d.name=some (.ref fa) ->
   s₁.heap.get? a=some { cls:=.type "list",data:=.seq vs.toArray }->IntsAre vs ns->ns.length<=n->s₁.gens=#[] ->
   codeAny (model l.prog w) callerA (.call (.ref fa) ⟨[.ref a],[]⟩) (λr s'=>r=.ok (.ret (.bool true))/\OldK s₁.heap s'.heap/\s'.os=s₁.os/\AllBare s'.gens) s₁) :
  WalkO q loose XP YP l.row.toRowW d [] (λf vs=>PySem.call f vs):=by
 intro w s₀ s₁ mg mb G Y fa o pm cd doc dV kV ho hd hcd hD hmg hg args vals as hpre hlay hrd hwl hlo
 obtain rfl:dV=.none:=Dflts.none hD hdf
 obtain rfl:kV=.none:=Dflts.noKw hD
 obtain ⟨a,vs,ns,rfl,rfl,hobj,hints,hlen⟩:=script_of hn hpre hwl
 refine enter_call (codeAny_mono (call w s₀ s₁ mg mb fa o pm cd doc a vs ns G Y ho (fd_plain hd) hcd hmg hobj hints hlen hg) λr s' hq=>?_)
 obtain ⟨rfl,h2,h3,h4⟩:=hq
 exact ⟨.inl ⟨.bool true,.bool true,[],rfl,λ_=>rfl,.bool true,post_true l _,λ_=>⟨List.Pairwise.nil,λ_ hm=>(nomatch hm)⟩⟩,h2,h3,h4⟩
section
variable {prog:Program} {w:World} {A:Around} {E:Value->Shared->Prop} {s:Shared} {K:Frag}
end
end Att
namespace L2
open PySem PySem.Spec PyProof.Rows
theorem Zfs {vs:List Value} {ns:List Int} (h:IntsAre vs ns):Vals (ns.map V.int) vs:=by
 induction h with
 | nil=>exact .nil
 | cons n t h ih=>exact .cons ⟨t,rfl⟩ ih
noncomputable def ri (H:Hp):Prop:=∀ b,H b=none\/∃ o xs,H b=some (.frz o (.lst xs))
theorem Zjb {P:Program} {w:World} {K:PySem.W.Frag} {mg mb:Str->Option Value} {CX:d7} {k:Nat} {fa a:Addr} {fd:FuncData} {x:Str} {sp:Sp} {s₁:Shared} {vs:List Value} {ns:List Int}
  (KX:K.In s₁.heap) (hns:s₁.heap.Ns mainGlobals mg) (hb:s₁.heap.Ns builtinsNs mb) (hbb:∀ x:Str,x≠"__name__"->mb x=bootBuiltins x) (hlim:s₁.heap.NoLimit) (hdig:s₁.heap.NoDigits) (hg:s₁.gens=#[])
  (ha:s₁.heap.get? a=some { cls:=.type "list",data:=.seq vs.toArray }) (hi:IntsAre vs ns) (hl:ns.length<=sizeLine) (hr:Room k callerA)
  (F:∀ base:Heap,K.In base->base.Ns mainGlobals mg->FnOk P w K mg base CX k fa fd [x] sp) (hbind:∀ (s:Shared) (u:Value),BindsTo s fd ⟨[u],[]⟩ [(x,u)])
  (hsp:∀ H:Hp,ri H->SqL K H a (ns.map V.int)->sp [.ref a] H (λv _=>v=.bl true) λ_ _ _=>False)
  (hCX:∀ H e s',CX [] H s₁ (λ_ _ _=>False) e s'->False) :
  codeAny (model P w) callerA (.call (.ref fa) ⟨[.ref a],[]⟩) (λr s'=>r=.ok (.ret (.bool true))/\OldK s₁.heap s'.heap/\s'.os=s₁.os/\AllBare s'.gens) s₁:=by
 have rv:=Zfs hi
 have lenV:=hi.length
 -- from an abstract heap in which nothing but the script may be tracked
 have core:∀ H:Hp,ri H->SqL K H a (ns.map V.int)->HOk P w H s₁.heap->(∀ b,H b≠none->b=a)->(H a≠none->K.lookup a=none) ->
   codeAny (model P w) callerA (.call (.ref fa) ⟨[.ref a],[]⟩) (λr s'=>r=.ok (.ret (.bool true))/\OldK s₁.heap s'.heap/\s'.os=s₁.os/\AllBare s'.gens) s₁:=by
  intro H hO hS hok hA hK
  have base_of:∀ {b:Addr} {o:Obj},s₁.heap.get? b=some o->H b=none->(ir s₁.heap H).get? b=some o:=λe n=>ZjK e n
  have noA:∀ {b:Addr} {o:Obj} {es:Array DictEntry} {ep:Nat},s₁.heap.get? b=some o->o.data=.dict es ep->H b=none:=λ{b o es ep} e d=>by
   cases q:H b with
   | none=>rfl
   | some u =>
    have e':b=a:=hA b (by rw [q]; simp)
    subst e'
    rw [ha] at e; cases e
    have d':Data.seq vs.toArray _=Data.dict es ep:=d
    cases d'
  have nsK:∀ {b:Addr} {m:Str->Option Value},s₁.heap.Ns b m->(ir s₁.heap H).Ns b m:=λ{b m} hz0=>by
   obtain ⟨o,es,ep,e,d,r⟩:=hz0
   exact ⟨o,es,ep,base_of e (noA e d),d,r⟩
  have hKb:K.In (ir s₁.heap H):=λb o e=>base_of (KX b o e) (by
   cases q:H b with
   | none=>rfl
   | some u =>
    have e':b=a:=hA b (by rw [q]; simp)
    subst e'
    rw [hK (by rw [q]; simp)] at e; cases e)
  have hM:Mod K mg (ir s₁.heap H):=⟨hKb,nsK hns,⟨mb,nsK hb,hbb⟩,let ⟨mc,h1,h2⟩:=hlim; ⟨mc,nsK h1,h2⟩,let ⟨mc,h1,h2⟩:=hdig; ⟨mc,nsK h1,h2⟩⟩
  have e0:Env0 P w K mg (ir s₁.heap H) callerA [] s₁ H:=⟨rfl,hM,λb o e=>Zit e,Nat.le_of_eq (ZjJ _ _),trivial,λb hb=>absurd (show b∈([]:List Addr) from hb) (by simp),hok,.of_eq hg⟩
  refine codeAny_mono ((F _ hKb (nsK hns)).run callerA [] s₁ H ⟨[.ref a],[]⟩ [.ref a] [.ref a] _ _ hr e0 (hbind s₁ (.ref a)) (.cons rfl .nil) (hsp H hO hS)) λr s' h=>?_
  cases r with
  | error e=>exact (hCX H e s' h).elim
  | ok fl =>
   cases fl with
   | next=>exact False.elim h
   | brk=>exact False.elim h
   | cont=>exact False.elim h
   | ret u =>
    obtain ⟨v,H',os,bare,un,hok',r',q⟩:=h
    have q':v=.bl true:=q
    subst q'
    obtain rfl:u=Value.bool true:=r'
    refine ⟨rfl,OldK.of_keep λb o e=>?_,os,bare⟩
    cases q:H b with
    | none=>exact un.keep b o e q (by intro z; exact absurd (show b∈([]:List Addr) from z) (by simp)) (by simp)
    | some u =>
     rcases hO b with z | ⟨ob,xs,z⟩
     ·rw [q] at z; cases z
     ·have z2:=un.frzs b ob _ z
      obtain ⟨e1,_⟩:=hok b _ z
      obtain ⟨e2,_⟩:=hok' b _ z2
      rw [e] at e1; cases e1
      exact e2
 cases hk:K.lookup a with
 | some o =>
  -- the script is one of the module's own objects
  have e:=KX a o hk
  rw [ha] at e
  cases e
  refine core (λ_=>none) (λ_=>.inl rfl) (.inr ⟨_,vs.toArray,_,hk,rfl,rfl,rfl,by rw [List.size_toArray,lenV]; exact hl,by simpa using rv⟩) (λb u z=>by have z':(none:Option HO)=some u:=z; cases z') (λb z=>absurd rfl z) λz=>absurd rfl z
 | none =>
  refine core (λb=>if b=a then some (.frz { cls:=.type "list",data:=.seq vs.toArray } (.lst (ns.map V.int))) else none) (λb=>?_) (.inl (.inr ⟨{ cls:=.type "list",data:=.seq vs.toArray },if_pos rfl⟩)) (λb u z=>?_) (λb z=>?_) λ_=>hk
  ·by_cases hb:b=a
   ·exact .inr ⟨_,_,if_pos hb⟩
   ·exact .inl (if_neg hb)
  ·by_cases hb:b=a
   ·have z':=(if_pos hb).symm.trans z
    cases z'
    subst hb
    exact ⟨ha,by rw [List.length_map]; exact hl,vs,_,rv,ha⟩
   ·have z':=(if_neg hb).symm.trans z
    cases z'
  ·by_cases hb:b=a
   ·exact hb
   ·exact absurd (if_neg hb) z
noncomputable abbrev aH {K:PySem.W.Frag} {h:Heap} (_:K.In h):PySem.W.Frag:=K
theorem Zfk {l:PySem.W.OpenLaw} {n k:Nat} {q:Program} {loose:List Str} {XP:(Str->Option Value)->Heap->Prop} {YP:World->Heap->Prop} {d:DefRec} {K:Params->PySem.W.Frag} {CX:World->d7} {sp:World->Sp} {x:Str}
  (hn:l.most=some n) (hn2:n<=sizeLine) (hdf:d.params.defaults=[]) (hr:Room k callerA)
  (hY:∀ (w:World) (h:Heap),YP w h->(K w.params).In h)
  (F:∀ (w:World) (mg:Str->Option Value) (fa:Addr) (h:Heap),(K w.params).In h->h.Ns mainGlobals mg->mg d.name=some (.ref fa) ->
   ∃ fd:FuncData,(∀ (s:Shared) (u:Value),BindsTo s fd ⟨[u],[]⟩ [(x,u)]) /\
    ∀ base:Heap,(K w.params).In base->base.Ns mainGlobals mg->FnOk l.prog w (K w.params) mg base (CX w) k fa fd [x] (sp w))
  (hsp:∀ (w:World) (H:Hp) (a:Addr) (ns:List Int),ns.length<=n->ri H->SqL (K w.params) H a (ns.map V.int)->sp w [.ref a] H (λv _=>v=.bl true) λ_ _ _=>False)
  (hCX:∀ (w:World) (H:Hp) (s:Shared) (e:Value) (s':Shared),CX w [] H s (λ_ _ _=>False) e s'->False) :
  PySem.W.WalkO q loose XP YP l.row.toRowW d [] (λf vs=>PySem.call f vs):=by
 refine Att.attach_call hn hdf λw s₀ s₁ mg mb fa o pm cd doc a vs ns G Y ho hd hcd hmg hobj hints hlen hg=>?_
 have KX:=hY w _ Y
 obtain ⟨fd,hb,hF⟩:=F w mg fa _ KX G.T.g hmg
 exact Zjb KX G.T.g G.T.b G.T.builtins G.T.nolimit G.T.nodigits hg hobj hints (Nat.le_trans hlen hn2) hr hF hb (λH hO hS=>hsp w H a ns hlen hO hS) λH e s'=>hCX w H s₁ e s'
theorem Zfj {l:PySem.W.OpenLaw} {n k:Nat} {q:Program} {loose:List Str} {XP:(Str->Option Value)->Heap->Prop} {YP:World->Heap->Prop} {d:DefRec} {K:Params->PySem.W.Frag} {CX:d7} {sp:PySem.W.Frag->Sp} {x:Str}
  (hn:l.most=some n) (hn2:n<=sizeLine) (hdf:d.params.defaults=[]) (hr:Room k callerA)
  (hY:∀ (w:World) (h:Heap),YP w h->(K w.params).In h)
  (F:∀ (w:World) (mg:Str->Option Value) (fa:Addr) (h:Heap),(K w.params).In h->h.Ns mainGlobals mg->mg d.name=some (.ref fa) ->
   ∃ fd:FuncData,(∀ (s:Shared) (u:Value),BindsTo s fd ⟨[u],[]⟩ [(x,u)]) /\
    ∀ base:Heap,(K w.params).In base->base.Ns mainGlobals mg->FnOk l.prog w (K w.params) mg base CX k fa fd [x] (sp (K w.params)))
  (hsp:∀ (K:PySem.W.Frag) (H:Hp) (a:Addr) (ns:List Int),ns.length<=n->ri H->SqL K H a (ns.map V.int)->sp K [.ref a] H (λv _=>v=.bl true) λ_ _ _=>False)
  (hCX:∀ (H:Hp) (s:Shared) (e:Value) (s':Shared),CX [] H s (λ_ _ _=>False) e s'->False) :
  PySem.W.WalkO q loose XP YP l.row.toRowW d [] (λf vs=>PySem.call f vs) :=
 Zfk (K:=K) (CX:=λ_=>CX) (sp:=λw=>sp (K w.params)) hn hn2 hdf hr hY F (λw H a ns h1 h2 h3=>hsp (K w.params) H a ns h1 h2 h3) λ_ H s e s'=>hCX H s e s'
noncomputable def lG (s:Stmt):Arguments:=match s with
 | .FunctionDef _ a _ _ _ _ _ _ _ _=>a
 | _=>{ posonlyargs:=[],args:=[],vararg:=none,kwonlyargs:=[],kw_defaults:=[],kwarg:=none,defaults:=[] }
noncomputable def gi (s:Stmt):List Stmt:=match s with
 | .FunctionDef _ _ b _ _ _ _ _ _ _=>b
 | _=>[]
noncomputable def aD (s:Stmt):Scope:=match s with
 | .FunctionDef _ _ _ _ _ _ sc _ _ _=>sc
 | _=>{ kind:=.function,names:=[],isGenerator:=false,isCoroutine:=false }
noncomputable abbrev js:d7:=λ_ _ _ _ _ _=>False
noncomputable abbrev E0:XK:=λ_ _ _=>False
theorem Zb7 {X:Cx}:lW js X E0:=λ_ _ _ _ _ _ _ h=>h.elim
structure Fun (K:PySem.W.Frag) (x qual:Str) (st:Stmt) (f:Addr) (fd:FuncData):Prop where
 ex:∃ (oc:Value) (od:Option Addr) (kV doc pm:Value) (an:Option Addr) (cdv ct:Value) (osl:Array (Option Value)),
  fd=PySem.W.fnOf x qual (lG st) (gi st) (aD st) .none kV doc pm an cdv ct/\K.lookup f=some ⟨oc,od,.func fd,osl⟩/\PySem.W.codeIn K cdv qual=true
 kp:PySem.W.keepIn K (.ref f)=true
section
variable {P:Program} {w:World} {K:PySem.W.Frag} {mg:Str->Option Value} {base:Heap}
theorem Fun.ok {x qual:Str} {st:Stmt} {f:Addr} {fd:FuncData} {N ps:List Str} {k:Nat} {sp:Sp} (F:Fun K x qual st f fd) (S:FnScope N ps (aD st)) (len:∀ vs H Q E,sp vs H Q E->vs.length=ps.length)
  (hbody:∀ (cdv:Value) (A:Around) (outer:List Env) (s:Shared) (H:Hp) (vs:List V) (Q:VK) (E:XK),Room k (A.deeper (envOfC qual (aD st) s.heap.objs.size f cdv))->sp vs H Q E ->
   ∃ t,PSs (df js P w K mg base N qual (aD st) f cdv A outer s H E).nox (gi st) t/\t { nx:=λ_ H'=>Q .non H',rt:=Q } (start N vs) H):FnOk P w K mg base js (k+1) f fd ps sp:=by
 obtain ⟨oc,od,kV,doc,pm,an,cdv,ct,osl,rfl,lk,hcd⟩:=F.ex
 refine Zc5 lk hcd S len λA outer s H vs Q E hr hsp=>?_
 obtain ⟨t,h,q⟩:=hbody cdv A outer s H vs Q E hr hsp
 exact ⟨t,h.nox,q⟩
theorem Fun.binds {x qual:Str} {st:Stmt} {f:Addr} {fd:FuncData} {ps:List Str} (F:Fun K x qual st f fd)
  (h:∀ (kV doc pm:Value) (an:Option Addr) (cdv ct:Value) (us:List Value),us.length=ps.length->bindArgs (PySem.W.fnOf x qual (lG st) (gi st) (aD st) .none kV doc pm an cdv ct) ⟨us,[]⟩=pure (ps.zip us)):Binds K fd ps []:=by
 obtain ⟨oc,od,kV,doc,pm,an,cdv,ct,osl,rfl,lk,hcd⟩:=F.ex
 exact .all (h kV doc pm an cdv ct)
theorem Zj9 {x qual:Str} {st:Stmt} {f:Addr} {oc:Value} {od an:Option Addr} {osl:Array (Option Value)} {kV doc pm cdv ct:Value} (l:K.lookup f=some ⟨oc,od,.func (PySem.W.fnOf x qual (lG st) (gi st) (aD st) .none kV doc pm an cdv ct),osl⟩)
  (c:PySem.W.codeIn K cdv qual=true) (k:PySem.W.keepIn K (.ref f)=true):Fun K x qual st f (PySem.W.fnOf x qual (lG st) (gi st) (aD st) .none kV doc pm an cdv ct):=⟨⟨oc,od,kV,doc,pm,an,cdv,ct,osl,rfl,l,c⟩,k⟩
end
theorem ut {A:Around} {k:Nat} (hr:Room k A):A.units+1 < cLine:=Nat.lt_of_le_of_lt (Nat.add_le_add_left (by decide:1<=64) _) hr.units
section
variable {X:Cx}
theorem pv (i:Nat) {x:Str} {pos:Pos} (hN:X.N[i]?=some x:=by rfl) (hv:lU X.env.scope x:=by first | exact Or.inl rfl | exact Or.inr (Or.inl rfl) | exact Or.inr (Or.inr rfl)) (hd:(x == ("__debug__":Str))=false:=by decide)
  (hcd:(x == ("__classdict__":Str))=false:=by decide):PE X (.Name x pos) (gE i):=ZhQ hN hv hd hcd
end
theorem qe {c A B:Prop} [Decidable c] (h1:c->A) (h2:¬ c->B):if c then A else B:=by
 by_cases h:c
 ·rw [if_pos h]
  exact h1 h
 ·rw [if_neg h]
  exact h2 h
noncomputable def Same (H H':Hp):Prop:=∀ b o,H b=some o->H' b=some o
theorem Same.refl (H:Hp):Same H H:=λ_ _ h=>h
theorem Same.seq {K:PySem.W.Frag} {H H':Hp} {a:Addr} {xs:List V} (e:Same H H') (h:SqL K H a xs):SqL K H' a xs:=by
 rcases h with (h | ⟨o,h⟩) | h
 ·exact .inl (.inl (e _ _ h))
 ·exact .inl (.inr ⟨o,e _ _ h⟩)
 ·exact .inr h
structure Blk where
 cl:List (Str×Addr)
 C:Addr
 s:Shared
 H:Hp
 fp:List Addr
 pn:List (Addr×Obj)
noncomputable def bg (X:Cx) (N:List Str) (scope:Scope) (b:Blk):Cx where
 prog:=X.prog
 w:=X.w
 K:=X.K
 mg:=X.mg
 base:=X.base
 A:=X.A
 N:=N
 s₀:=b.s
 H₀:=b.H
 env:=compEnvC scope b.cl b.C X.env
 outer:=X.stack
 stack:=X.stack
 ex:=b.fp
 fn:=λx=>scope.names.lookup x == some .cell
 calm:=X.calm
 pn:=b.pn
 xe:=λ_ _=>False
noncomputable def bN (Nx ts:List Str) (ix:List Nat):List Str:=ts++ix.map λj=>(Nx[j]?).getD Str.empty
noncomputable def dm (n:Nat) (ix:List Nat) (σ:St):St:=List.replicate n none++ix.map λj=>(σ[j]?).getD none
structure BlkOk (Nx:List Str) (sc scope:Scope) (ix:List Nat):Prop where
 kind:scope.kind=.function
 cells:∀ y∈scope.names,y.2=.cell->scope.names.lookup y.1=some .cell
 locs:∀ y∈scope.names,y.2=.local->scope.names.lookup y.1=some .local
 frees:∀ y∈scope.names,y.2=.free->sc.names.lookup y.1=some .cell\/sc.names.lookup y.1=some .free
 caps:∀ j∈ix,j < Nx.length/\scope.names.lookup ((Nx[j]?).getD Str.empty)=some .free
theorem ux {env:Env} {f:Str×NameKind->List (Str×Addr)->Sem (ForInStep (List (Str×Addr)))}
  (h1:∀ n k r,k≠NameKind.free->f (n,k) r=pure (.yield r)) (h2:∀ n r c,env.cells.lookup n=some c->f (n,NameKind.free) r=pure (.yield ((n,c)::r))) :
  ∀ (names:List (Str×NameKind)) (acc:List (Str×Addr)),(∀ y∈names,y.2=.free->∃ c,env.cells.lookup y.1=some c)->(∀ x c,acc.lookup x=some c->env.cells.lookup x=some c) ->
   ∃ cl,forIn names acc f=pure cl/\(∀ x c,cl.lookup x=some c->env.cells.lookup x=some c)/\(∀ y∈names,y.2=.free->∃ c,cl.lookup y.1=some c)/\∀ x c,acc.lookup x=some c->∃ c',cl.lookup x=some c'
 | [],acc,_,ha=>⟨acc,rfl,ha,(λ_ h=>nomatch h),λx c h=>⟨c,h⟩⟩
 | (n,k)::names,acc,hn,ha=>by
  have hn':∀ y∈names,y.2=.free->∃ c,env.cells.lookup y.1=some c:=λy hy=>hn y (List.mem_cons_of_mem _ hy)
  by_cases hk:k=.free
  ·subst hk
   obtain ⟨c,hc⟩:=hn (n,.free) List.mem_cons_self rfl
   have ha':∀ x d,((n,c)::acc).lookup x=some d->env.cells.lookup x=some d:=λx d e=>by
    rw [List.lookup_cons] at e
    cases hx:x == n with
    | true =>
     rw [hx] at e
     have hxn:x=n:=by simpa using hx
     subst hxn
     cases e
     exact hc
    | false =>
     rw [hx] at e
     exact ha x d e
   obtain ⟨cl,e,p1,p2,p3⟩:=ux h1 h2 names ((n,c)::acc) hn' ha'
   refine ⟨cl,?_,p1,λy hy hf=>?_,λx d hx=>?_⟩
   ·rw [List.forIn_cons,h2 n acc c hc,pure_bind]
    exact e
   ·rcases List.mem_cons.mp hy with rfl | hy
    ·exact p3 n c (by simp)
    ·exact p2 y hy hf
   ·by_cases e1:x=n
    ·subst e1
     exact p3 x c (by simp)
    ·exact p3 x d (by rw [List.lookup_cons,beq_false_of_ne e1]; exact hx)
  ·obtain ⟨cl,e,p1,p2,p3⟩:=ux h1 h2 names acc hn' ha
   refine ⟨cl,?_,p1,λy hy hf=>?_,p3⟩
   ·rw [List.forIn_cons,h1 n k acc hk,pure_bind]
    exact e
   ·rcases List.mem_cons.mp hy with rfl | hy
    ·exact absurd hf hk
    ·exact p2 y hy hf
theorem qJ {scope:Scope} {env:Env} (hn:∀ y∈scope.names,y.2=.free->∃ c,env.cells.lookup y.1=some c) :
  ∃ cl,closureFor scope env=pure cl/\(∀ x c,cl.lookup x=some c->env.cells.lookup x=some c)/\∀ y∈scope.names,y.2=.free->∃ c,cl.lookup y.1=some c:=by
 unfold closureFor
 have key:=ux (env:=env) (f:=λ(x:Str×NameKind) (r:List (Str×Addr))=>match x with
  | (name,kind)=>if (kind == NameKind.free)=true then (do let a <- cellOf env name; pure (ForInStep.yield ((name,a)::r))) else pure (ForInStep.yield r))
  (λn k r hk=>by
   have hb:(k == NameKind.free)=false:=by simpa using hk
   show (if (k == NameKind.free)=true then _ else _)=_
   rw [hb]
   rfl)
  (λn r c hc=>by
   show (do let a <- cellOf env n; pure (ForInStep.yield ((n,a)::r)))=_
   unfold cellOf
   rw [hc]
   rfl) scope.names [] hn (λx c h=>by simp at h)
 obtain ⟨cl,e,p1,p2,_⟩:=key
 refine ⟨cl,?_,p1,p2⟩
 show (forIn scope.names [] _ >>= λr=>pure r)=pure cl
 exact (congrArg (λt=>t >>= λr=>pure r) e).trans (pure_bind _ _)
section
variable {X:Cx} {pins:List (Addr×Obj)} {σ:St} {H:Hp} {s:Shared}
theorem Zhh {scope:Scope} {env:Env} {x:Str} (h:scope.names.lookup x=some .free):(relabel scope env).names.lookup x=some .cell\/(relabel scope env).names.lookup x=some .free:=by
 unfold relabel
 show List.lookup x (scope.names.map _)=_\/List.lookup x (scope.names.map _)=_
 generalize scope.names=l at h
 induction l with
 | nil=>simp at h
 | cons p r ih =>
  obtain ⟨n,k⟩:=p
  rw [List.map_cons]
  cases hx:x == n with
  | true =>
   rw [List.lookup_cons,hx] at h
   have hk:k=.free:=by simpa using h
   subst hk
   by_cases hc:(NameKind.free == NameKind.free && env.scope.kind == .function && env.kindOf n == some .cell)=true
   ·refine .inl ?_
    show List.lookup x ((if (NameKind.free == NameKind.free && env.scope.kind == .function && env.kindOf n == some .cell)=true then (n,NameKind.cell) else (n,NameKind.free))::_)=_
    rw [if_pos hc,List.lookup_cons,hx]
   ·refine .inr ?_
    show List.lookup x ((if (NameKind.free == NameKind.free && env.scope.kind == .function && env.kindOf n == some .cell)=true then (n,NameKind.cell) else (n,NameKind.free))::_)=_
    rw [if_neg hc,List.lookup_cons,hx]
  | false =>
   rw [List.lookup_cons,hx] at h
   have key:∀ q:Str×NameKind,(q=(n,NameKind.cell)\/q=(n,k))->∀ l',List.lookup x (q::l')=List.lookup x l':=λq hq l'=>by
    rcases hq with rfl | rfl <;> rw [List.lookup_cons,hx]
   have hq:(if (k == NameKind.free && env.scope.kind == .function && env.kindOf n == some .cell)=true then (n,NameKind.cell) else (n,k))=(n,NameKind.cell)\/(if (k == NameKind.free && env.scope.kind == .function && env.kindOf n == some .cell)=true then (n,NameKind.cell) else (n,k))=(n,k):=by
    split
    ·exact .inl rfl
    ·exact .inr rfl
   rcases ih h with z | z
   ·exact .inl ((key _ hq _).trans z)
   ·exact .inr ((key _ hq _).trans z)
theorem Zhi {scope:Scope} {env:Env} {x:Str} (h:(relabel scope env).names.lookup x=some .cell\/(relabel scope env).names.lookup x=some .free):∃ y∈scope.names,y.1=x/\(y.2=.free\/y.2=.cell):=by
 unfold relabel at h
 have h':List.lookup x (scope.names.map λ(n,k)=>if (k == .free && env.scope.kind == .function && env.kindOf n == some .cell) then (n,NameKind.cell) else (n,k))=some .cell\/List.lookup x (scope.names.map λ(n,k)=>if (k == .free && env.scope.kind == .function && env.kindOf n == some .cell) then (n,NameKind.cell) else (n,k))=some .free:=h
 clear h
 generalize scope.names=l at h'
 induction l with
 | nil=>simp at h'
 | cons p r ih =>
  obtain ⟨n,k⟩:=p
  rw [List.map_cons] at h'
  cases hx:x == n with
  | true =>
   have hxn:x=n:=by simpa using hx
   by_cases hk:k=.free
   ·exact ⟨(n,k),List.mem_cons_self,hxn.symm,.inl hk⟩
   ·
    have hb:(k == NameKind.free)=false:=by simpa using hk
    have e:(if (k == NameKind.free && env.scope.kind == .function && env.kindOf n == some .cell)=true then (n,NameKind.cell) else (n,k))=(n,k):=by
     rw [hb]
     rfl
    have h2:List.lookup x ((n,k)::r.map λ(n,k)=>if (k == .free && env.scope.kind == .function && env.kindOf n == some .cell) then (n,NameKind.cell) else (n,k))=some .cell\/List.lookup x ((n,k)::r.map λ(n,k)=>if (k == .free && env.scope.kind == .function && env.kindOf n == some .cell) then (n,NameKind.cell) else (n,k))=some .free:=by
     rw [<- e]
     exact h'
    rw [List.lookup_cons,hx] at h2
    rcases h2 with z | z
    ·exact ⟨(n,k),List.mem_cons_self,hxn.symm,.inr (Option.some.inj z)⟩
    ·exact absurd (Option.some.inj z) hk
  | false =>
   have hq:∀ q:Str×NameKind,(q=(n,NameKind.cell)\/q=(n,k))->∀ l',List.lookup x (q::l')=List.lookup x l':=λq hq l'=>by
    rcases hq with rfl | rfl <;> rw [List.lookup_cons,hx]
   have hqq:(if (k == NameKind.free && env.scope.kind == .function && env.kindOf n == some .cell)=true then (n,NameKind.cell) else (n,k))=(n,NameKind.cell)\/(if (k == NameKind.free && env.scope.kind == .function && env.kindOf n == some .cell)=true then (n,NameKind.cell) else (n,k))=(n,k):=by
    split
    ·exact .inl rfl
    ·exact .inr rfl
   obtain ⟨y,hy,e⟩:=ih (by
    rcases h' with z | z
    ·exact .inl ((hq _ hqq _).symm.trans z)
    ·exact .inr ((hq _ hqq _).symm.trans z))
   exact ⟨y,List.mem_cons_of_mem _ hy,e⟩
theorem uT:∀ (names:List (Str×NameKind)) (h:Heap) (acc:List (Str×Addr)),
  (∀ x c,(cellsFrom h.objs.size names acc).lookup x=some c->acc.lookup x=some c\/(h.objs.size<=c/\(pushCells h names).IsCell c none/\(x,NameKind.cell)∈names)) /\
  (∀ x,((x,NameKind.cell)∈names\/∃ c,acc.lookup x=some c)->∃ c,(cellsFrom h.objs.size names acc).lookup x=some c) /\
  (∀ x c,(x,NameKind.cell)∈names->(cellsFrom h.objs.size names acc).lookup x=some c->h.objs.size<=c) /\
  ((∀ x c,acc.lookup x=some c->c < h.objs.size)->(∀ x y c,acc.lookup x=some c->acc.lookup y=some c->x=y)->∀ x y c,(cellsFrom h.objs.size names acc).lookup x=some c->(cellsFrom h.objs.size names acc).lookup y=some c->x=y):=by
 intro names
 induction names with
 | nil=>intro h acc; exact ⟨λx c e=>.inl e,λx e=>by rcases e with e | e; cases e; exact e,λx c e=>(by cases e),λ_ i=>i⟩
 | cons p r ih =>
  obtain ⟨name,kind⟩:=p
  intro h acc
  unfold cellsFrom pushCells
  by_cases hk:kind=.cell
  ·subst hk
   have hk':((NameKind.cell == NameKind.cell)=true):=rfl
   rw [if_pos hk',if_pos hk']
   have ih':=ih (h.push { cls:=.type "cell",data:=.cell none }) ((name,h.objs.size)::acc)
   rw [Heap.size_push] at ih'
   obtain ⟨i1,i2,i4,i3⟩:=ih'
   refine ⟨λx c e=>?_,λx e=>?_,λx c e1 e2=>?_,λhb hi=>i3 (λx c e=>?_) λx y c e1 e2=>?_⟩
   ·rcases i1 x c e with z | ⟨z1,z2,z3⟩
    ·rw [List.lookup_cons] at z
     cases hx:x == name with
     | true =>
      rw [hx] at z
      have hxn:x=name:=by simpa using hx
      cases z
      exact .inr ⟨Nat.le_refl _,⟨_,pushCells_keeps _ _ _ _ (Heap.get?_push_size _ rfl),rfl⟩,by rw [hxn]; exact List.mem_cons_self⟩
     | false=>rw [hx] at z; exact .inl z
    ·exact .inr ⟨by omega,z2,List.mem_cons_of_mem _ z3⟩
   ·refine i2 x ?_
    by_cases hx:x=name
    ·exact .inr ⟨h.objs.size,by rw [List.lookup_cons,hx]; simp⟩
    ·rcases e with e | ⟨c,e⟩
     ·rcases List.mem_cons.mp e with q | q
      ·exact absurd (congrArg Prod.fst q) hx
      ·exact .inl q
     ·exact .inr ⟨c,by rw [List.lookup_cons,beq_false_of_ne hx]; exact e⟩
   ·rcases i1 x c e2 with z | ⟨z,_,_⟩
    ·rw [List.lookup_cons] at z
     cases hx:x == name with
     | true=>rw [hx] at z; cases z; exact Nat.le_refl _
     | false =>
      have hxn:x≠name:=by simpa using hx
      rcases List.mem_cons.mp e1 with q | q
      ·exact absurd (congrArg Prod.fst q) hxn
      ·exact Nat.le_of_succ_le (i4 x c q e2)
    ·exact Nat.le_of_succ_le z
   ·rw [List.lookup_cons] at e
    cases hx:x == name with
    | true=>rw [hx] at e; cases e; exact Nat.lt_succ_self _
    | false=>rw [hx] at e; exact Nat.lt_succ_of_lt (hb x c e)
   ·rw [List.lookup_cons] at e1 e2
    cases hx:x == name with
    | true =>
     have hxn:x=name:=by simpa using hx
     rw [hx] at e1
     cases e1
     cases hy:y == name with
     | true =>
      have hyn:y=name:=by simpa using hy
      rw [hxn,hyn]
     | false=>rw [hy] at e2; exact absurd (hb y _ e2) (Nat.lt_irrefl _)
    | false =>
     rw [hx] at e1
     cases hy:y == name with
     | true=>rw [hy] at e2; cases e2; exact absurd (hb x _ e1) (Nat.lt_irrefl _)
     | false=>rw [hy] at e2; exact hi x y c e1 e2
  ·have hk':¬ ((kind == NameKind.cell)=true):=by simpa using hk
   rw [if_neg hk',if_neg hk']
   obtain ⟨i1,i2,i4,i3⟩:=ih h acc
   refine ⟨λx c e=>?_,λx e=>i2 x ?_,λx c e1 e2=>?_,i3⟩
   ·rcases i1 x c e with z | ⟨z1,z2,z3⟩
    ·exact .inl z
    ·exact .inr ⟨z1,z2,List.mem_cons_of_mem _ z3⟩
   ·rcases e with e | e
    ·rcases List.mem_cons.mp e with q | q
     ·exact absurd (congrArg Prod.snd q).symm hk
     ·exact .inl q
    ·exact .inr e
   ·rcases List.mem_cons.mp e1 with q | q
    ·exact absurd (congrArg Prod.snd q).symm hk
    ·exact i4 x c q e2
theorem rL {M:Model} {A:Around} {E:Value->Shared->Prop} {s:Shared} {scope:Scope} {globals:Addr} {cl:List (Str×Addr)} {qual:Str} {outer:Env} {Q:Env->Shared->Prop}
  (h:Q { scope:=scope,locals:=s.heap.objs.size,globals:=globals,cells:=cellsFrom (s.heap.objs.size+1) scope.names cl,qual:=qual,func:=none,code:=outer.code,frame:=outer.frame,builtins:=outer.builtins } { s with heap:=pushCells (s.heap.push { cls:=.type "dict",data:=.dict #[] }) scope.names }) :
  wpAny M A (newFunctionEnv scope globals cl [] qual none .none (some outer)) Q E s:=by
 simp only [newFunctionEnv,Option.isSome_some,if_true]
 refine wpAny_bind (wpAny_alloc ?_)
 refine wpAny_bind (wpAny_layCells _ (λname kind cells=>by cases hkc:kind == NameKind.cell <;> simp [hkc]) _ _ _ _ ?_)
 rw [show ({ s with heap:=s.heap.push { cls:=.type "dict",data:=.dict #[] } }:Shared).heap.objs.size=s.heap.objs.size+1 from Heap.size_push ..]
 rw [List.forIn_nil]
 exact wpAny_bind (wpAny_pure (wpAny_pure h))
theorem Zpl {Nx ts:List Str} {ix:List Nat} {i:Nat} {x:Str} (h:(bN Nx ts ix)[i]?=some x) (hi:ts.length<=i):∃ j,ix[i - ts.length]?=some j/\x=(Nx[j]?).getD Str.empty:=by
 unfold bN at h
 rw [List.getElem?_append_right hi,List.getElem?_map] at h
 cases e:ix[i - ts.length]? with
 | none=>rw [e] at h; cases h
 | some j=>rw [e] at h; exact ⟨j,rfl,(Option.some.inj h).symm⟩
theorem uj {scope:Scope} {cl:List (Str×Addr)} {fp:List Addr} {C:Addr} {h3:Heap} {tk:Nat} {m:Str->Option Value} {Nx ts:List Str} {ix:List Nat}
  (I:Inv X pins σ H s) (hNx:X.N=Nx) (ok:BlkOk Nx X.env.scope scope ix) (cs1:∀ x c,cl.lookup x=some c->X.env.cells.lookup x=some c\/(C < c/\h3.IsCell c none/\(x,NameKind.cell)∈scope.names)) (csI:∀ x y c,cl.lookup x=some c->cl.lookup y=some c->x=y) (cl2:∀ y∈scope.names,(y.2=.free\/y.2=.cell)->∃ c,cl.lookup y.1=some c) (csA:∀ x c,(x,NameKind.cell)∈scope.names->cl.lookup x=some c->C<=c)
  (hf:∀ b∈fp,gZ X pins H b) (hfs:∀ b∈fp,b < s.heap.objs.size) (hC:s.heap.objs.size<=C) (kp:∀ b o,s.heap.get? b=some o->h3.get? b=some o) (hns:h3.Ns C m) :
  Inv (bg X (bN Nx ts ix) scope ⟨cl,C,s,H,fp,X.pn++pins⟩) [] (dm ts.length ix σ) H { s with heap:=h3,toks:=tk }:=by
 have below:∀ {b:Addr},b < s.heap.objs.size->b≠C:=λhb=>Nat.ne_of_lt (Nat.lt_of_lt_of_le hb hC)
 have nstk:∀ b,b≠X.env.locals->b ∉ X.fs->b ∉ frs X.stack:=λb h1 h2 hb=>by
  rcases List.mem_cons.mp (I.stkSub b hb) with z | z
  ·exact h1 z
  ·exact h2 z
 refine ⟨⟨I.ok.mod,?_,I.ok.glob,I.ok.blt,hC,csI,λx hx=>?_,λx c hfn e=>Nat.le_trans hC (csA x c (PySem.mem_of_lookup (eq_of_beq hfn)) e),I.ok.hd,I.ok.frames,.inl rfl,λb hb=>⟨below (hfs b hb),λx c e=>by
  rcases cs1 x c e with z | ⟨z,_,_⟩
  ·exact (hf b hb).2.2.2.2.1 x c z
  ·exact Nat.ne_of_gt (Nat.lt_of_lt_of_le (hfs b hb) (Nat.le_trans hC (Nat.le_of_lt z)))⟩,I.bs,Nat.le_trans I.ok.bsz I.sz,λb o e hb=>?_,λb hb=>nstk b (hf b hb).2.1 (hf b hb).2.2.1,I.stack,I.stkFree⟩,
  rfl,I.bare,Un.kept kp,⟨m,hns,λi x v h1 h2 h3'=>?_⟩,λx c e=>?_,I.hok.fresh hC,λx c e=>by
  rcases cs1 x c e with z | ⟨z,_,_⟩
  ·exact I.freeC x c z
  ·exact I.hok.fresh (Nat.le_trans hC (Nat.le_of_lt z)),λp hp=>?_,I.hok.kept kp,?_⟩
 ·exact ok.kind
 ·have hx':(relabel scope X.env).names.lookup x=some .cell\/(relabel scope X.env).names.lookup x=some .free:=hx
  obtain ⟨y,hy,e1,e2⟩:=Zhi hx'
  obtain ⟨c,hc⟩:=cl2 y hy e2
  exact ⟨c,by rw [<- e1]; exact hc⟩
 ·rcases (hf b hb).2.2.2.1 with z | z
  ·exact I.ok.noex b o e z
  ·exact absurd (Nat.lt_of_lt_of_le (Heap.lt_size e) (Nat.le_trans I.ok.bsz z)) (Nat.lt_irrefl _)
 ·have hi:ts.length<=i:=by
   rcases Nat.lt_or_ge i ts.length with z | z
   ·exfalso
    have h2':(dm ts.length ix σ)[i]?=some (some v):=h2
    unfold dm at h2'
    rw [List.getElem?_append_left (by simpa using z),List.getElem?_replicate] at h2'
    split at h2' <;> cases h2'
   ·exact z
  obtain ⟨j,hj,ex⟩:=Zpl h1 hi
  have h2':(dm ts.length ix σ)[i]?=some (some v):=h2
  unfold dm at h2'
  rw [List.getElem?_append_right (by simpa using hi),List.getElem?_map,List.length_replicate,hj] at h2'
  have hσ:σ[j]?=some (some v):=by
   have q:(σ[j]?).getD none=some v:=Option.some.inj h2'
   cases e:σ[j]? with
   | none=>rw [e] at q; cases q
   | some w=>rw [e] at q; exact congrArg some q
  obtain ⟨hjl,hfree⟩:=ok.caps j (List.mem_of_getElem? hj)
  have hNj:X.N[j]?=some x:=by
   rw [hNx,ex,List.getElem?_eq_getElem hjl]
   rfl
  rw [<- ex] at hfree
  obtain ⟨c,hc⟩:=cl2 (x,.free) (PySem.mem_of_lookup hfree) (.inl rfl)
  have cl1:X.env.cells.lookup x=some c:=by
   rcases cs1 x c hc with z | ⟨_,_,z⟩
   ·exact z
   ·have:=ok.cells _ z rfl
    rw [hfree] at this
    cases this
  have kx:=ok.frees (x,.free) (PySem.mem_of_lookup hfree) rfl
  obtain ⟨m0,hn0,hl0⟩:=I.loc
  obtain ⟨u,ru,look⟩:=hl0 j x v hNj hσ (by rcases kx with z | z; exact .inr (.inl z); exact .inr (.inr z))
  refine ⟨u,ru,.inr ⟨Zhh hfree,c,hc,?_⟩⟩
  rcases look with ⟨k1,_⟩ | ⟨_,c',hc',z⟩
  ·have k1':X.env.scope.names.lookup x=some .local:=k1
   rcases kx with z | z
   ·rw [k1'] at z; cases z
   ·rw [k1'] at z; cases z
  ·have e:=cl1
   rw [hc'] at e
   cases e
   obtain ⟨o,ho,hd⟩:=z
   exact ⟨o,kp _ _ ho,hd⟩
 ·rcases cs1 x c e with z | ⟨_,z,_⟩
  ·obtain ⟨v,o,ho,hd⟩:=I.cell x c z
   exact ⟨v,o,kp _ _ ho,hd⟩
  ·exact ⟨_,z⟩
 ·have hp':p∈X.pn++pins:=by simpa [bg] using hp
  obtain ⟨e,n,ne,nf,d⟩:=I.pin p hp'
  exact ⟨kp _ _ e,n,below (Heap.lt_size e),nstk _ ne nf,d⟩
 ·show (dm ts.length ix σ).length=(bN Nx ts ix).length
  unfold dm bN
  simp
theorem Inv.track {D:Addr} {ys:List V} {its:List Value} {n:Nat} (I:Inv X pins σ H s) (hD:H D=none) (ho:s.heap.get? D=some { cls:=.type "list",data:=.seq its.toArray n }) (r:Vals ys its) (hz:ys.length<=sizeLine)
  (hL:D≠X.env.locals) (hs0:X.s₀.heap.objs.size<=D) (hc:∀ x c,X.env.cells.lookup x=some c->c≠D) (hp:∀ p∈X.pn++pins,p.1≠D):Inv X pins σ (upd H D (.lst ys)) s:=by
 have ne:∀ {b:Addr} {o:HO},H b=some o->b≠D:=λe=>dG e hD
 refine I.step (g':=s.gens) (d':=s.drawn) (t':=s.toks) (h':=s.heap) (ch:=[D]) (λb hb=>?_) (λb o _ _ _ e _=>e) (λb o _ _ _ e _=>⟨o.slots,e⟩) (λb o hb e n=>?_) (λb o _ e=>⟨o,e⟩)
  (λb xs e=>by rw [aO (ne e)]; exact e) (λb o u e=>by rw [aO (ne e)]; exact e) (λb ps e=>⟨#[],by rw [aO (ne e),e]; simp⟩) (λm hm=>hm) (λb u e=>?_) I.bare
 ·have e:b=D:=by simpa using hb
  subst e
  exact ⟨.inr hs0,hL,hc,hp⟩
 ·have hb':b≠D:=by simpa using hb
  rw [aO hb']
  exact n
 ·by_cases hb:b=D
  ·subst hb
   rw [bM] at e
   cases e
   exact ⟨hz,its,n,r,ho⟩
  ·rw [aO hb] at e
   exact (I.hok b u e).stay (λc v _ q=>q) (λc q=>by rw [aO (ne q)]; exact q) (λc xs q=>by rw [aO (ne q)]; exact q) λc ob xs _ q _=>by rw [aO (ne q)]; exact q
end
theorem ZoN {prog:Program} {w:World} {A:Around} {R:Result->Shared->Prop} {s:Shared} {elt target iter:Expr} {scope:Scope} {pos:Pos} {it acc:Value} {env:Env} (J:Nat->Shared->Prop)
  (step:∀ k s0,J k s0->wpAny (model prog w) A (pyNext it) (λgot s1=>match got with
   | none=>R (.ok .next) s1
   | some v=>wpAny (model prog w) A (letOwnedTupleGo target it v) (λ_ s2=>wpAny (model prog w) A (assign target env v) (λ_ s3=>wpAny (model prog w) A (eval elt env) (λy s4 =>
     wpAny (model prog w) A (call (.builtin "list.append") [acc,y]) (λ_ s5=>∃ j,j < k/\J j s5) (λ_ _=>False) s4) (λ_ _=>False) s3) (λ_ _=>False) s2) (λ_ _=>False) s1) (λ_ _=>False) s0)
  (k:Nat) (h:J k s):codeAny (model prog w) A (.compLoop (.ListComp elt [⟨target,iter,[],0⟩] scope pos) 0 it acc env) R s:=by
 refine codeAny_loop rfl J (λk0 s0 hJ=>?_) k h
 show wpAny _ _ ((compTurn (.ListComp elt [⟨target,iter,[],0⟩] scope pos) 0 it acc env).onRaise (λx=>do noteFrame x env; theTreesLotGoes x)) _ _ s0
 apply wpAny_noted
 rw [compTurn_list1]
 refine wpAny_bind (wpAny_standAt (wpAny_bind (wpAny_mono (step k0 s0 hJ) (λgot s1 h1=>?_) λ_ _ z=>z.elim)))
 cases got with
 | none=>exact wpAny_pure h1
 | some v =>
  refine wpAny_bind (wpAny_mono h1 (λ_ s2 h2=>?_) λ_ _ z=>z.elim)
  refine wpAny_bind (wpAny_mono h2 (λ_ s3 h3=>?_) λ_ _ z=>z.elim)
  refine wpAny_bind (wpAny_bind (wpAny_mono h3 (λy s4 h4=>?_) λ_ _ z=>z.elim))
  exact wpAny_bind (wpAny_mono h4 (λ_ s5 h5=>wpAny_pure (wpAny_pure ⟨rfl,h5⟩)) λ_ _ z=>z.elim)
noncomputable def iP (wi:TI) (n:Nat) (ix:List Nat) (g:Blk->TG) (te:Blk->TE):TE:=λσ H Q=>wi σ H λJ H1=>∀ b:Blk,∃ W:Nat->Nat->St->List V->Hp->Prop,(∃ m,W 0 m (dm n ix σ) [] H1)/\∀ i m τ ys H2,W i m τ ys H2 ->
 (J.stop i H2/\∀ p v H',H2 p=none->v=V.ref p->H'=upd H2 p (.lst ys)->Q v H') \/
 (J.go i H2/\ys.length < sizeLine/\∀ x H3,J.yld i H2 x H3->g b x τ H3 λτ2 H4=>te b τ2 H4 λy H5=>∃ m',m' < m/\W (i+1) m' τ2 (ys++[y]) H5)
section
variable {X:Cx} {pins:List (Addr×Obj)} {σ:St} {H:Hp} {s:Shared}
theorem ZcC {elt target iter:Expr} {scope:Scope} {pos:Pos} {Nx ts:List Str} {ix:List Nat} {g:Blk->TG} {te:Blk->TE} {cl:List (Str×Addr)} {s2:Shared} {itv:Value} {R:Value->Addr->Result->Shared->Prop}
  {E:Value->Shared->Prop} {Q:VK}
  (hc:X.calm=true) (hg:∀ b,PG (bg X (bN Nx ts ix) scope b) target (g b)) (he:∀ b,PE (bg X (bN Nx ts ix) scope b) elt (te b))
  (hNx:X.N=Nx) (ok:BlkOk Nx X.env.scope scope ix) (cl1:∀ x c,cl.lookup x=some c->X.env.cells.lookup x=some c) (cl2:∀ y∈scope.names,y.2=.free->∃ c,cl.lookup y.1=some c)
  (h2:lX X pins σ target (λJ H1=>∀ b:Blk,∃ W:Nat->Nat->St->List V->Hp->Prop,(∃ m,W 0 m (dm ts.length ix σ) [] H1)/\∀ i m τ ys H2,W i m τ ys H2 ->
   (J.stop i H2/\∀ p v H',H2 p=none->v=V.ref p->H'=upd H2 p (.lst ys)->Q v H') \/
   (J.go i H2/\ys.length < sizeLine/\∀ x H3,J.yld i H2 x H3->g b x τ H3 λτ2 H4=>te b τ2 H4 λy H5=>∃ m',m' < m/\W (i+1) m' τ2 (ys++[y]) H5)) itv s2)
  (hR:∀ (D C:Addr) (H':Hp) (s':Shared) (v:V),Inv X pins σ H' s'->v=.ref D->Q v H'->(∃ m,s'.heap.Ns C m)->H' C=none->C≠X.env.locals->X.s₀.heap.objs.size<=C->(∀ x c,X.env.cells.lookup x=some c->c≠C)->(∀ p∈X.pn++pins,p.1≠C) ->
   R (.ref D) C (.ok .next) s') :
  wpAny (model X.prog X.w) X.A (newList []) (λacc s₃=>wpAny (model X.prog X.w) X.A (newFunctionEnv scope X.env.globals cl [] X.env.qual none .none (some X.env)) (λcenv s₄ =>
   codeAny (model X.prog X.w) X.A (.compStart (.ListComp elt [⟨target,iter,[],0⟩] scope pos) 0 itv acc { cenv with scope:=relabel scope X.env }) (R acc cenv.locals) s₄) E s₃) E s2:=by
 obtain ⟨it,fp,tn,J,H1,e,I2,T,st2,f2,q2⟩:=h2
 subst e
 refine wpAny_newObj_type (rL ?_)
 dsimp only
 generalize hG:s2.heap.push { cls:=.type "list",dict:=none,data:=.seq ([]:List Value).toArray }=G
 have hGs:G.objs.size=s2.heap.objs.size+1:=by rw [<- hG,Heap.size_push]
 have hfs:∀ b∈fp,b < s2.heap.objs.size:=λb hb=>let ⟨o,e,_⟩:=T.obj _ _ st2 b hb; Heap.lt_size e
 have kpG:∀ b o,G.get? b=some o->(pushCells (G.push { cls:=.type "dict",data:=.dict #[] }) scope.names).get? b=some o:=λb o e=>pushCells_keeps _ _ _ _ (Heap.get?_push_of_some _ e)
 have hns3:(pushCells (G.push { cls:=.type "dict",data:=.dict #[] }) scope.names).Ns G.objs.size (λ_=>none):=(Heap.Ns.new G (.type "dict")).keeps (pushCells_keeps _ _)
 obtain ⟨sp1,sp2,sp4,sp3⟩:=uT scope.names (G.push { cls:=.type "dict",data:=.dict #[] }) cl
 rw [Heap.size_push] at sp1 sp2 sp3 sp4
 generalize hh3:pushCells (G.push { cls:=.type "dict",data:=.dict #[] }) scope.names=h3 at kpG hns3 sp1 ⊢
 have kp:∀ b o,s2.heap.get? b=some o->h3.get? b=some o:=λb o e=>kpG b o (by rw [<- hG]; exact Heap.get?_push_of_some _ e)
 have hD3:h3.get? s2.heap.objs.size=some { cls:=.type "list",data:=.seq ([]:List Value).toArray }:=kpG _ _ (by rw [<- hG]; exact Heap.get?_push_size _ rfl)
 have clB:∀ x c,cl.lookup x=some c->c < G.objs.size+1:=λx c e=>by
  obtain ⟨v,q⟩:=I2.cell x c (cl1 x c e)
  exact Nat.lt_succ_of_lt (Nat.lt_of_lt_of_le q.lt (by rw [hGs]; exact Nat.le_succ _))
 have csI:=sp3 clB λx y c e1 e2=>I2.ok.inj x y c (cl1 x c e1) (cl1 y c e2)
 have cs1:∀ x c,(cellsFrom (G.objs.size+1) scope.names cl).lookup x=some c->X.env.cells.lookup x=some c\/(G.objs.size < c/\h3.IsCell c none/\(x,NameKind.cell)∈scope.names):=λx c e=>by
  rcases sp1 x c e with z | ⟨z1,z2,z3⟩
  ·exact .inl (cl1 x c z)
  ·exact .inr ⟨by omega,z2,z3⟩
 have cs2:∀ y∈scope.names,(y.2=.free\/y.2=.cell)->∃ c,(cellsFrom (G.objs.size+1) scope.names cl).lookup y.1=some c:=λy hy hk=>by
  refine sp2 y.1 ?_
  rcases hk with z | z
  ·exact .inr (cl2 y hy z)
  ·exact .inl (by rw [<- z]; exact hy)
 have csA:∀ x c,(x,NameKind.cell)∈scope.names->(cellsFrom (G.objs.size+1) scope.names cl).lookup x=some c->G.objs.size<=c:=λx c e1 e2=>Nat.le_of_succ_le (sp4 x c e1 e2)
 generalize hcs:cellsFrom (G.objs.size+1) scope.names cl=cs at csI cs1 cs2 csA ⊢
 generalize hCe:G.objs.size=C at hns3 cs1 csA ⊢
 have hC:s2.heap.objs.size<=C:=by omega
 have hDC:s2.heap.objs.size≠C:=by omega
 let B:Blk:=⟨cs,C,s2,H1,fp,X.pn++pins⟩
 have I3:Inv (bg X (bN Nx ts ix) scope B) [] (dm ts.length ix σ) H1 { s2 with heap:=h3 }:=uj I2 hNx ok cs1 csI cs2 csA f2 hfs hC kp hns3
 have fC:H1 s2.heap.objs.size=none:=I2.hok.fresh (Nat.le_refl _)
 have cellIn:∀ x c,cs.lookup x=some c->c≠s2.heap.objs.size:=λx c e=>by
  rcases cs1 x c e with z | ⟨z,_,_⟩
  ·obtain ⟨v,q⟩:=I2.cell x c z
   exact Nat.ne_of_lt q.lt
  ·exact Nat.ne_of_gt (Nat.lt_of_le_of_lt hC z)
 have pinIn:∀ p∈X.pn++pins,p.1 < s2.heap.objs.size:=λp hp=>Heap.lt_size (I2.pin p hp).1
 have nofrs:s2.heap.objs.size ∉ frs X.stack:=λhb=>by
  rcases List.mem_cons.mp (I2.stkSub _ hb) with z | z
  ·exact absurd I2.lt (by rw [<- z]; exact Nat.lt_irrefl _)
  ·exact I2.nofs (Nat.le_refl _) z
 -- a state with the list at its place,pinned
 have pinD:∀ {τ:St} {H':Hp} {s':Shared} {ob:Obj},Inv (bg X (bN Nx ts ix) scope B) [] τ H' s'->s'.heap.get? s2.heap.objs.size=some ob->H' s2.heap.objs.size=none->(∀ v,ob.data≠.cell v)->Inv (bg X (bN Nx ts ix) scope B) [(s2.heap.objs.size,ob)] τ H' s' :=
  λ{τ H' s' ob} I' ho hn hd=>I'.pins_of λp hp=>by
   have e:p=(s2.heap.objs.size,ob):=by simpa using hp
   subst e
   exact ⟨ho,hn,hDC,nofrs,hd⟩
 obtain ⟨W,⟨m0,w0⟩,turn⟩:=q2 B
 have stat:∀ {H':Hp} {ob:Obj},(∀ b∈fp,H' b=none)->∀ b∈fp,gZ (bg X (bN Nx ts ix) scope B) [(s2.heap.objs.size,ob)] H' b:=λ{H' ob} hn b hb=>by
  refine ⟨hn b hb,Nat.ne_of_lt (Nat.lt_of_lt_of_le (hfs b hb) hC),λz=>?_,.inl hb,λx c e=>by
   rcases cs1 x c e with z | ⟨z,_,_⟩
   ·exact (f2 b hb).2.2.2.2.1 x c z
   ·exact Nat.ne_of_gt (Nat.lt_of_lt_of_le (hfs b hb) (Nat.le_trans hC (Nat.le_of_lt z))),λp hp=>?_⟩
  ·rcases List.mem_cons.mp (I2.stkSub _ z) with q | q
   ·exact (f2 b hb).2.1 q
   ·exact (f2 b hb).2.2.1 q
  ·rcases List.mem_append.mp hp with z | z
   ·exact (f2 b hb).2.2.2.2.2 p z
   ·have e:p=(s2.heap.objs.size,ob):=by simpa using z
    subst e
    exact Nat.ne_of_gt (hfs b hb)
 have loop:∀ s4:Shared,s4={ s2 with heap:=h3 } ->
   codeAny (model X.prog X.w) X.A (.compLoop (.ListComp elt [⟨target,iter,[],0⟩] scope pos) 0 (.ref it) (.ref s2.heap.objs.size) (compEnvC scope cs C X.env)) (R (.ref s2.heap.objs.size) C) s4:=by
  rintro s4 rfl
  refine ZoN (λk s'=>∃ i τ ys its n H',Inv (bg X (bN Nx ts ix) scope B) [(s2.heap.objs.size,({ cls:=.type "list",data:=.seq (List.toArray its) n }:Obj))] τ H' s'/\tn i s'.heap/\(∀ b∈fp,H' b=none)/\Vals ys its/\ys.length<=sizeLine/\W i k τ ys H') ?_ m0
   ⟨0,_,[],[],_,H1,pinD I3 hD3 fC (λv z=>by cases z),T.keep _ _ _ st2 λb hb o e=>kp b o e,λb hb=>(f2 b hb).1,.nil,Nat.zero_le _,w0⟩
  rintro k s5 ⟨i,τ,ys,its,n,H5,I5,st5,fr5,rv,hz,w5⟩
  rcases turn i k τ ys H5 w5 with ⟨stop,qn⟩ | ⟨go,hlt,step⟩
  ·refine thn (T.done (bg X (bN Nx ts ix) scope B) rfl rfl rfl hc i _ s5 τ H5 _ I5 (stat fr5) st5 stop) λgot s6 hz0=>?_
   obtain ⟨hr,I6⟩:=hz0
   subst hr
   obtain ⟨ho,hn,_,_,_⟩:=I6.pin (s2.heap.objs.size,({ cls:=.type "list",data:=.seq (List.toArray its) n }:Obj)) (List.mem_append_right _ (by simp))
   have I7:Inv X pins σ H5 s6:=I2.call' (ch:=fp) (H':=H5) (by exact I6.os) I6.base I6.hok I6.bare λb hb=>⟨(f2 b hb).2.2.2.1,(f2 b hb).2.1,(f2 b hb).2.2.2.2.1,(f2 b hb).2.2.2.2.2⟩
   have hs0:X.s₀.heap.objs.size<=s2.heap.objs.size:=I2.sz
   have I8:=I7.track hn ho rv hz (Nat.ne_of_gt I2.lt) hs0 (λx c e z=>by
    obtain ⟨v,q⟩:=I2.cell x c e
    exact absurd q.lt (by rw [z]; exact Nat.lt_irrefl _)) (λp hp=>Nat.ne_of_lt (pinIn p hp))
   obtain ⟨m6,hm6,_⟩:=I6.loc
   refine hR _ C _ s6 _ I8 rfl (qn _ _ _ hn rfl rfl) ⟨m6,hm6⟩ ?_ (λz=>?_) (Nat.le_trans hs0 hC) (λx c e z=>?_) λp hp=>Nat.ne_of_lt (Nat.lt_of_lt_of_le (pinIn p hp) hC)
   ·rw [aO (Ne.symm hDC)]
    exact I6.free
   ·exact absurd (Nat.lt_of_lt_of_le I2.lt hC) (by rw [z]; exact Nat.lt_irrefl _)
   ·obtain ⟨v,q⟩:=I2.cell x c e
    exact absurd (Nat.lt_of_lt_of_le q.lt hC) (by rw [z]; exact Nat.lt_irrefl _)
  ·refine thn (T.item (bg X (bN Nx ts ix) scope B) rfl rfl rfl hc i _ s5 τ H5 _ I5 (stat fr5) st5 go) λgot s6 hz0=>?_
   obtain ⟨u,hr,h6⟩:=hz0
   subst hr
   refine thn h6 λ_ s7 hz0=>?_
   obtain ⟨x,H7,I7,r7,y7,st7,fr7⟩:=hz0
   have I7':=I7.pinned (stat fr7) (T.obj _ _ st7)
   refine thn (hg B _ s7 τ H7 x u _ I7' r7 (step x H7 y7)) λ_ s8 hz0=>?_
   obtain ⟨τ8,H8,I8,q8⟩:=hz0
   refine thn (he B _ s8 τ8 H8 _ I8 q8) λy s9 hz0=>?_
   obtain ⟨vy,H9,I9,r9,m',hm',w9⟩:=hz0
   obtain ⟨ho,hn,_,_,_⟩:=I9.pin (s2.heap.objs.size,({ cls:=.type "list",data:=.seq (List.toArray its) n }:Obj)) (List.mem_append_right _ (List.mem_append_left _ (by simp)))
   have lenv:=rv.length
   refine wpAny_list_append_plain (l:=s2.heap.objs.size) ⟨n,ho⟩ (λh' hpl hsb=>?_) (by rw [List.size_toArray]; omega)
   obtain ⟨n',ho'⟩:=hpl
   have eobj:(its.toArray.push y)=List.toArray (its++[y]):=by simp
   rw [eobj] at ho'
   have I9':Inv (bg X (bN Nx ts ix) scope B) [] τ8 H9 s9:=I9.pins_of λp hp=>absurd hp (by simp)
   have I10:Inv (bg X (bN Nx ts ix) scope B) [] τ8 H9 { s9 with heap:=h' }:=I9'.turned (it:=s2.heap.objs.size) (t':=s9.toks) (λb o hb e=>(hsb.2 b hb).trans e) hn hDC (.inr (Nat.le_refl _)) cellIn (λp hp=>by
    have hp':p∈(X.pn++pins)++[]:=hp
    rw [List.append_nil] at hp'
    exact Nat.ne_of_lt (pinIn p hp'))
   refine ⟨m',hm',i+1,τ8,ys++[vy],its++[y],n',H9,pinD I10 ho' hn (λv z=>by cases z),?_,λb hb=>?_,rv.append (.cons r9 .nil),by rw [List.length_append]; show ys.length+1<=_; omega,w9⟩
   ·refine T.keep _ _ _ st7 λb hb o e=>?_
    have q:=(I9.pin (b,o) (List.mem_append_right _ (List.mem_append_right _ (gH hb e)))).1
    exact (hsb.2 b (Nat.ne_of_lt (hfs b hb))).trans q
   ·obtain ⟨o,e,d⟩:=T.obj _ _ st7 b hb
    exact (I9.pin (b,o) (List.mem_append_right _ (List.mem_append_right _ (gH hb e)))).2.1
 exact codeAny_compStart_list (loop _ rfl) (T.self X.A 0 _ _ _ (T.keep _ _ _ st2 λb hb o e=>kp b o e) (loop _ rfl))
theorem cQ {elt target iter:Expr} {scope:Scope} {pos:Pos} {wi:TI} {g:Blk->TG} {te:Blk->TE} (Nx:List Str) (ts:List Str) (ix:List Nat)
  (hc:X.calm=true) (hi:PI X target iter wi) (hg:∀ b,PG (bg X (bN Nx ts ix) scope b) target (g b)) (he:∀ b,PE (bg X (bN Nx ts ix) scope b) elt (te b))
  (hNx:X.N=Nx) (ok:BlkOk Nx X.env.scope scope ix) (hs:∀ x,foldedSetIterable iter X.env x=pure x:=by intro _; rfl) :
  PE X (.ListComp elt [⟨target,iter,[],0⟩] scope pos) (iP wi ts.length ix g te):=by
 intro pins s σ H Q I h
 obtain ⟨cl,hcl,cl1,cl2⟩:=qJ (scope:=scope) (env:=X.env) λy hy hf=>I.ok.has y.1 (ok.frees y hy hf)
 rw [eval_ListComp]
 refine wpAny_comprehension_free (use:=none) rfl hs hcl ok.kind ok.locs (thn (hi pins s σ H _ I h) λv s1 h1=>thn h1 λitv s2 h2=>?_)
 refine ZcC (R:=λacc C=>compPost (model X.prog X.w) X.A X.xe none (EP X pins σ Q) acc C) hc hg he hNx ok cl1 cl2 h2 ?_
 rintro D C H' s' v I' rfl q ⟨m,hm⟩ hn hL h0 hcl' hp
 exact ⟨m,hm,λh' hsb=>⟨.ref D,H',I'.turned (it:=C) (t':=s'.toks) (λb o hb e=>(hsb.2 b hb).trans e) hn hL (.inr h0) hcl' hp,rfl,q⟩⟩
theorem tf {elt target iter:Expr} {scope:Scope} {pos pos' spos:Pos} {wi:TI} {g:Blk->TG} {te:Blk->TE} {i:Nat} {x:Str} (Nx:List Str) (ts:List Str) (ix:List Nat)
  (hc:X.calm=true) (hN:X.N.Nodup) (hix:X.N[i]?=some x) (hx:X.env.scope.names.lookup x=some .local) (hi:PI X target iter wi) (hg:∀ b,PG (bg X (bN Nx ts ix) scope b) target (g b)) (he:∀ b,PE (bg X (bN Nx ts ix) scope b) elt (te b))
  (hNx:X.N=Nx) (ok:BlkOk Nx X.env.scope scope ix) (hsw:swapsWith (.ListComp elt [⟨target,iter,[],0⟩] scope pos) (some (.Name x pos')) spos.line X.env=pure true) (hs:∀ x,foldedSetIterable iter X.env x=pure x:=by intro _; rfl) :
  PS X (.Assign [.Name x pos'] (.ListComp elt [⟨target,iter,[],0⟩] scope pos) spos) (fA (iP wi ts.length ix g te) (eU i)):=by
 intro pins s σ H D0 I h
 obtain ⟨cl,hcl,cl1,cl2⟩:=qJ (scope:=scope) (env:=X.env) λy hy hf=>I.ok.has y.1 (ok.frees y hy hf)
 rw [exec_Assign_Name_used _ _ _ _ hsw]
 refine wpAny_bind (wpAny_standAt (wpAny_bind ?_))
 show wpAny _ X.A (do let _ <- comprehension (.ListComp elt [⟨target,iter,[],0⟩] scope pos) scope X.env _ (newList []) false (eval iter X.env) (some (assign (.Name x pos') X.env))) _ _ s
 refine wpAny_bind (thn (wpAny_comprehension_free (use:=some (assign (.Name x pos') X.env)) (Q:=λ_ s'=>SP X pins D0 .next s') rfl hs hcl ok.kind ok.locs (thn (hi pins s σ H _ I h) λv s1 h1=>thn h1 λitv s2 h2=>?_)) λ_ s' hq=>wpAny_pure (wpAny_pure hq))
 refine ZcC (R:=λacc C=>compPost (model X.prog X.w) X.A X.xe (some (assign (.Name x pos') X.env)) (λ_ s'=>SP X pins D0 .next s') acc C) (Q:=λx H1=>eU i x σ H1 D0.nx) hc hg he hNx ok cl1 cl2 h2 ?_
 rintro D C H' s' v I' rfl q ⟨m,hm⟩ hn hL h0 hcl' hp
 show wpAny _ X.A (assign (.Name x pos') X.env (.ref D)) _ _ _
 refine wpAny_assign_Name (ZaL I' hN hix (.inl hx) (show RelV (.ref D) (.ref D) from rfl) (λs'' I'' hch=>?_) (.inr hx))
 obtain ⟨a,hsb,ha⟩:=hch
 have haC:C≠a:=by
  rcases ha with z | z
  ·rw [z]; exact hL
  ·exact λe=>hcl' _ _ z e.symm
 exact ⟨m,hm.sameBut hsb haC,λh'' hs''=>⟨_,H',I''.turned (it:=C) (t':=s''.toks) (λb o hb e=>(hs''.2 b hb).trans e) hn hL (.inr h0) hcl' hp,q⟩⟩
end
mutual
/-- the value bears the datum -/
inductive Dn (H:Hp):V->PyData->Prop
 | non:Dn H .non .none
 | bl (b:Bool):Dn H (.bl b) (.bool b)
 | int (i:Int):Dn H (.int i) (.int i)
 | str (x:Str):Dn H (.str x) (.str x)
 | tup {a:Addr} {xs:List V} {ds:List PyData}:H a=some (.tup xs)->DnAll H xs ds->Dn H (.ref a) (.tuple ds)
 | lst {a:Addr} {xs:List V} {ds:List PyData}:H a=some (.lst xs)->DnAll H xs ds->Dn H (.ref a) (.list ds)
 | dct {a:Addr} {ks:List (aI×V)} {ds:List PyData}:Rd H a (.dK ks)->DnAll H (ks.map (·.2)) ds->Dn H (.ref a) (.dict ((ks.map λk=>match k.1 with | .inl i=>PyData.int i | .inr x=>PyData.str x).zip ds))
inductive DnAll (H:Hp):List V->List PyData->Prop
 | nil:DnAll H [] []
 | cons {v:V} {vs:List V} {d:PyData} {ds:List PyData}:Dn H v d->DnAll H vs ds->DnAll H (v::vs) (d::ds)
end
mutual
theorem Dn.mono {H H':Hp} (e:∀ b o,H b=some o->H' b=some o):∀ {v:V} {d:PyData},Dn H v d->Dn H' v d
 | _,_,.non=>.non
 | _,_,.bl b=>.bl b
 | _,_,.int i=>.int i
 | _,_,.str x=>.str x
 | _,_,.tup h r=>.tup (e _ _ h) (DnAll.mono e r)
 | _,_,.lst h r=>.lst (e _ _ h) (DnAll.mono e r)
 | _,_,.dct h r=>.dct (h.imp (e _ _) λ⟨o,h⟩=>⟨o,e _ _ h⟩) (DnAll.mono e r)
theorem DnAll.mono {H H':Hp} (e:∀ b o,H b=some o->H' b=some o):∀ {vs:List V} {ds:List PyData},DnAll H vs ds->DnAll H' vs ds
 | _,_,.nil=>.nil
 | _,_,.cons r t=>.cons (Dn.mono e r) (DnAll.mono e t)
end
theorem DnAll.ints {H:Hp}:∀ ns:List Int,DnAll H (ns.map V.int) (ns.map PyData.int)
 | []=>.nil
 | n::ns=>.cons (.int n) (DnAll.ints ns)
theorem DnAll.length {H:Hp} {vs:List V} {ds:List PyData} (h:DnAll H vs ds):vs.length=ds.length:=by
 induction vs generalizing ds with
 | nil=>cases h; rfl
 | cons v vs ih=>cases h with | cons r t=>exact congrArg (·+1) (ih t)
theorem DnAll.append {H:Hp} {vs ws:List V} {ds es:List PyData} (h:DnAll H vs ds) (s:DnAll H ws es):DnAll H (vs++ws) (ds++es):=by
 induction vs generalizing ds with
 | nil=>cases h; exact s
 | cons v vs ih=>cases h with | cons r t=>exact .cons r (ih t)
mutual
/-- data without dicts -/
theorem Dn.reads {P:Program} {w:World} {H:Hp} {h:Heap} (ok:HOk P w H h):∀ {v:V} {d:PyData} {u:Value},Dn H v d->d.hasDict=false->RelV v u->∃ as,Reads h u d as
 | _,_,_,.non,_,r=>by cases r; exact ⟨_,.none⟩
 | _,_,_,.bl b,_,r=>by cases r; exact ⟨_,.bool b⟩
 | _,_,_,.int i,_,r=>by obtain ⟨t,rfl⟩:=r; exact ⟨_,.int i t⟩
 | _,_,_,.str x,_,r=>by obtain ⟨t,rfl⟩:=r; exact ⟨_,.str x t⟩
 | _,_,_,.tup e rs,hd,r=>by
  cases r
  obtain ⟨z,its,rv,o,h1,h2,n,h3⟩:=ok _ _ e
  obtain ⟨as,q⟩:=DnAll.reads ok rs (by simpa [PyData.hasDict] using hd) rv
  exact ⟨_,.tuple h1 h2 h3 (by simpa using q)⟩
 | _,_,_,.lst e rs,hd,r=>by
  cases r
  obtain ⟨z,its,n,rv,h1⟩:=ok _ _ e
  obtain ⟨as,q⟩:=DnAll.reads ok rs (by simpa [PyData.hasDict] using hd) rv
  exact ⟨_,.list h1 rfl rfl (by simpa using q)⟩
 | _,_,_,.dct e rs,hd,r=>by simp [PyData.hasDict] at hd
theorem DnAll.reads {P:Program} {w:World} {H:Hp} {h:Heap} (ok:HOk P w H h):∀ {vs:List V} {ds:List PyData} {us:List Value},DnAll H vs ds->PyData.hasDictAll ds=false->Vals vs us->∃ as,ReadsAll h us ds as
 | _,_,_,.nil,_,r=>by cases r; exact ⟨_,.nil⟩
 | _,_,_,.cons p t,hd,r=>by
  cases r with
  | cons r1 r2 =>
   simp only [PyData.hasDictAll,Bool.or_eq_false_iff] at hd
   obtain ⟨as,q⟩:=Dn.reads ok p hd.1 r1
   obtain ⟨bs,q2⟩:=DnAll.reads ok t hd.2 r2
   exact ⟨_,.cons q q2⟩
end
section
variable {X:Cx}
theorem Zd6 {k:Nat} (hr:Room k X.A):CallR X (.builtin "repr") (λxs H Q=>∃ v d,xs=[v]/\Dn H v d/\d.hasDict=false/\d.showable=true/\d.depth<=32/\d.shown.length<=sizeLine/\Q (.str d.shown) H):=by
 intro pins s σ H xs us Q I r h
 obtain ⟨v,d,rfl,hd,hn,hs,hdp,hz,q⟩:=h
 obtain ⟨u,rfl,ru⟩:=eM r
 have hun:=hr.units
 have viaRef:∀ {a:Addr} {as:List Addr},Reads s.heap (.ref a) d as->wpAny (model X.prog X.w) X.A (call (.builtin "repr") [.ref a]) (EP X pins σ Q) X.xe s:=λ{a as} rd =>
  repr_of_reads' rd hs (PyData.noDict_hsm hn) hr.gd (by omega) (λ_ _ e=>e) (λh' u' tk hk=>⟨.str d.shown,H,I.kept hk,⟨_,rfl⟩,q⟩) hz
 obtain ⟨as,rd⟩:=Dn.reads I.hok hd hn ru
 cases rd with
 | none=>exact PySem.P.repr_of_none ⟨.str "None",H,I.tok _,⟨_,rfl⟩,q⟩
 | bool b=>exact PySem.P.repr_of_bool ⟨.str (if b then "True" else "False"),H,I.tok _,⟨_,rfl⟩,q⟩
 | int i t=>exact PySem.P.repr_of_int (by simpa [PyData.showable] using hs) ⟨.str (toString i),H,I.tok _,⟨_,rfl⟩,q⟩
 | str x t=>exact PySem.P.repr_of_str ⟨.str (reprText x),H,I.tok _,⟨_,rfl⟩,q⟩ hz
 | list h1 h2 h3 h4=>exact viaRef (.list h1 h2 h3 h4)
 | tuple h1 h2 h3 h4=>exact viaRef (.tuple h1 h2 h3 h4)
 | dict h1 h2 h3 h4 h5=>simp [PyData.hasDict] at hn
theorem Zik {k:Nat} (hr:Room k X.A):OpR X (compareOp .Eq) (λx y H Q=>∃ d e,Dn H x d/\Dn H y e/\SeqAt.shaped d=true/\SeqAt.shaped e=true/\Q (.bl (PyData.eqv d e)) H):=by
 intro pins s σ H x y v u Q I rx ry h
 obtain ⟨d,e,hd,he,sd,se,q⟩:=h
 obtain ⟨as,r1⟩:=Dn.reads I.hok hd (PyData.hasDict_of_canLay _ (SeqAt.canLay_of_shaped sd)) rx
 obtain ⟨bs,r2⟩:=Dn.reads I.hok he (PyData.hasDict_of_canLay _ (SeqAt.canLay_of_shaped se)) ry
 exact SeqAt.compareEq_shaped r1 r2 sd se hr.units ⟨.bl _,H,I,rfl,q⟩
theorem Zcc {k:Nat} (hr:Room k X.A):OpR X (compareOp .NotEq) (λx y H Q=>∃ d e,Dn H x d/\Dn H y e/\SeqAt.shaped d=true/\SeqAt.shaped e=true/\Q (.bl (!PyData.eqv d e)) H):=by
 intro pins s σ H x y v u Q I rx ry h
 obtain ⟨d,e,hd,he,sd,se,q⟩:=h
 obtain ⟨as,r1⟩:=Dn.reads I.hok hd (PyData.hasDict_of_canLay _ (SeqAt.canLay_of_shaped sd)) rx
 obtain ⟨bs,r2⟩:=Dn.reads I.hok he (PyData.hasDict_of_canLay _ (SeqAt.canLay_of_shaped se)) ry
 exact SeqAt.compareNe_shaped r1 r2 sd se hr.units ⟨.bl _,H,I,rfl,q⟩
end
structure Def (K:PySem.W.Frag) (mg:Str->Option Value) (x:Str) (st:Stmt) (ps:List Str):Prop where
 ex:∃ f fd,Fun K x x st f fd/\mg x=some (.ref f)/\Binds K fd ps []
structure Callee (P:Program) (w:World) (K:PySem.W.Frag) (mg:Str->Option Value) (base:Heap) (x:Str) (k:Nat) (ps:List Str) (sp:Sp):Prop where
 ex:∃ f fd,FnOk P w K mg base js k f fd ps sp/\mg x=some (.ref f)/\PySem.W.keepIn K (.ref f)=true/\Binds K fd ps []
section
variable {P:Program} {w:World} {K:PySem.W.Frag} {mg:Str->Option Value} {base:Heap}
theorem Def.ok {x:Str} {st:Stmt} {N ps:List Str} {k:Nat} {sp:Sp} (D:Def K mg x st ps) (S:FnScope N ps (aD st)) (len:∀ vs H Q E,sp vs H Q E->vs.length=ps.length)
  (hbody:∀ (f:Addr) (cdv:Value) (A:Around) (outer:List Env) (s:Shared) (H:Hp) (vs:List V) (Q:VK) (E:XK),Room k (A.deeper (envOfC x (aD st) s.heap.objs.size f cdv))->sp vs H Q E ->
   ∃ t,PSs (df js P w K mg base N x (aD st) f cdv A outer s H E).nox (gi st) t/\t { nx:=λ_ H'=>Q .non H',rt:=Q } (start N vs) H):Callee P w K mg base x (k+1) ps sp:=by
 obtain ⟨f,fd,F,hm,hb⟩:=D.ex
 exact ⟨f,fd,F.ok S len λcdv A outer s H vs Q E hr h=>hbody f cdv A outer s H vs Q E hr h,hm,F.kp,hb⟩
theorem bt {x:Str} {st:Stmt} {ps:List Str} {h:Heap} {f:Addr} {oc:Value} {od an:Option Addr} {osl:Array (Option Value)} {kV doc pm cdv ct:Value} (X:K.In h) (G:h.Ns mainGlobals mg)
  (a:PySem.W.nsIn K mainGlobals x=some (some (.ref f))) (l:K.lookup f=some ⟨oc,od,.func (PySem.W.fnOf x x (lG st) (gi st) (aD st) .none kV doc pm an cdv ct),osl⟩)
  (c:PySem.W.codeIn K cdv x=true) (k:PySem.W.keepIn K (.ref f)=true)
  (hb:∀ (kV doc pm:Value) (an:Option Addr) (cdv ct:Value) (us:List Value),us.length=ps.length->bindArgs (PySem.W.fnOf x x (lG st) (gi st) (aD st) .none kV doc pm an cdv ct) ⟨us,[]⟩=pure (ps.zip us)):Def K mg x st ps:=by
 have F:=Zj9 (st:=st) l c k
 exact ⟨f,_,F,PySem.W.mg_of X G a,F.binds hb⟩
end
section
variable {X:Cx} {x:Str} {k:Nat} {ps:List Str} {sp:Sp} {e:Expr} {es:List Expr} {t:TA} {p pos:Pos}
theorem Zb4 (C:Callee X.prog X.w X.K X.mg X.base x k ps sp) (hr:Room k X.A) (hg:Gl X x) (ha:PA X (e::es) t) (hdb:(x == ("__debug__":Str))=false:=by decide)
  (he:starEach (e::es) X.env=(false,eval e X.env)::starEach es X.env:=by rfl) (hpl:(backTo pos (starEach es X.env)).any (·.1)=false:=by rfl):PE X (.Call (.Name x p) (e::es) [] pos) (ZaE sp [] E0 t):=by
 obtain ⟨f,fd,F,hm,hk,hb⟩:=C.ex
 exact Zb5 F hr hg hm hk hb .nil Zb7 ha hdb he hpl
theorem ZhV {i:Int} (hg:Gl X x) (h:∃ t,X.mg x=some (.int i t)) (hd:(x == ("__debug__":Str))=false:=by decide):PE X (.Name x pos) (tC (.int i)):=by
 obtain ⟨t,e⟩:=h
 exact fG hg e ⟨t,rfl⟩ hd
end
noncomputable def Zf1 (t:TS):TS:=λD σ H=>∃ J:St->Hp->Prop,t { D with nx:=J } σ H/\∀ σ' H',J σ' H'->D.nx σ' H'
noncomputable def Zf0 (t:TT):TT:=λσ H Q=>∃ J:Bool->Hp->Prop,t σ H J/\∀ b H',J b H'->Q b H'
section
variable {X:Cx} {st:Stmt} {e:Expr}
theorem PS.join {t:TS} (h:PS X st t):PS X st (Zf1 t):=by
 rintro pins s σ H D I ⟨J,q,hJ⟩
 refine thn (h pins s σ H _ I q) λf s' z=>?_
 cases f with
 | next=>obtain ⟨σ',H',I',q'⟩:=z; exact ⟨σ',H',I',hJ _ _ q'⟩
 | brk=>exact z
 | cont=>exact z
 | ret u=>exact z
theorem PT.join {t:TT} (h:PT X e t):PT X e (Zf0 t):=by
 rintro pins s σ H Q I ⟨J,q,hJ⟩
 refine thn (h pins s σ H _ I q) λb s' ⟨H',I',q'⟩=>⟨H',I',hJ _ _ q'⟩
end
noncomputable def bU (c:Addr) (at' left:Int):List (aI×V):=[(Sum.inr "script",.ref c),(Sum.inr "at",.int at'),(Sum.inr "left",.int left)]
structure Pen (H:Hp) (p c:Addr) (ns:List Int) (m:Nat):Prop where
 ex:∃ (k:Nat) (left:Int),H p=some (.dK (bU c k left))/\k<=m/\0<=left
 cells:H c=some (.lst (ns.map V.int))
 len:ns.length<=63
theorem ne1:¬ ((Sum.inr ("script":Str):aI)=(Sum.inr ("at":Str):aI)):=by decide +kernel
theorem mU:¬ ((Sum.inr ("script":Str):aI)=(Sum.inr ("left":Str):aI)):=by decide +kernel
theorem tP:¬ ((Sum.inr ("at":Str):aI)=(Sum.inr ("left":Str):aI)):=by decide +kernel
theorem ZhN (c:Addr) (a l:Int):eN (bU c a l) (Sum.inr "script":aI)=some (.ref c):=kG rfl
theorem Zb1 (c:Addr) (a l:Int):eN (bU c a l) (Sum.inr "at":aI)=some (.int a):=by
 unfold bU
 rw [kH ne1,kG rfl]
theorem Zb0 (c:Addr) (a l:Int):eN (bU c a l) (Sum.inr "left":aI)=some (.int l):=by
 unfold bU
 rw [kH mU,kH tP,kG rfl]
theorem ZhP (c:Addr) (a l b:Int):di (bU c a l) (Sum.inr "at":aI) (.int b)=bU c b l:=by
 have h:((bU c a l).any λkv=>decide (kv.1=(Sum.inr "at":aI)))=true:=by rw [n8,Zb1]; rfl
 unfold di
 rw [if_pos h]
 unfold bU
 simp only [List.map_cons,List.map_nil,if_neg ne1,if_neg (Ne.symm tP),if_true]
theorem ZhO (c:Addr) (a l b:Int):di (bU c a l) (Sum.inr "left":aI) (.int b)=bU c a b:=by
 have h:((bU c a l).any λkv=>decide (kv.1=(Sum.inr "left":aI)))=true:=by rw [n8,Zb0]; rfl
 unfold di
 rw [if_pos h]
 unfold bU
 simp only [List.map_cons,List.map_nil,if_neg mU,if_neg tP,if_true]
section
variable {H:Hp} {p c:Addr} {a l b:Int}
theorem Zn6 (h:H p=some (.dK (bU c a l))):DGet H p (.str "script") (some (.ref c)):=by
 have q:=DGet.k (k:=(Sum.inr "script":aI)) h
 rw [ZhN] at q
 exact q
theorem Zn7 (h:H p=some (.dK (bU c a l))):DGet H p (.str "at") (some (.int a)):=by
 have q:=DGet.k (k:=(Sum.inr "at":aI)) h
 rw [Zb1] at q
 exact q
theorem uI (h:H p=some (.dK (bU c a l))):DGet H p (.str "left") (some (.int l)):=by
 have q:=DGet.k (k:=(Sum.inr "left":aI)) h
 rw [Zb0] at q
 exact q
theorem Zn0 (h:H p=some (.dK (bU c a l))):DPut H p (.str "at") (.int b) (upd H p (.dK (bU c b l))):=by
 have q:=DPut.k (k:=(Sum.inr "at":aI)) (v:=V.int b) h (by show 3 < sizeLine; decide)
 rw [ZhP] at q
 exact q
theorem Zdv (h:H p=some (.dK (bU c a l))):DPut H p (.str "left") (.int b) (upd H p (.dK (bU c a b))):=by
 have q:=DPut.k (k:=(Sum.inr "left":aI)) (v:=V.int b) h (by show 3 < sizeLine; decide)
 rw [ZhO] at q
 exact q
end
noncomputable def Kept (p:Addr) (H H':Hp):Prop:=∀ b o,H b=some o->b≠p->H' b=some o
theorem Kept.refl {p:Addr} {H:Hp}:Kept p H H:=λ_ _ h _=>h
theorem Kept.new {p q:Addr} {H H':Hp} {o:HO} (a:Kept p H H') (hq:H' q=none):Kept p H (upd H' q o):=λc u h n=>by
 have e:=a c u h n
 rw [aO (dG e hq)]
 exact e
theorem Kept.pen {p:Addr} {H H':Hp} {o:HO} (a:Kept p H H'):Kept p H (upd H' p o):=λc u h n=>by
 rw [aO n]
 exact a c u h n
theorem Same.new {q:Addr} {H H':Hp} {o:HO} (a:Same H H') (hq:H' q=none):Same H (upd H' q o):=λc u h=>by
 have e:=a c u h
 rw [aO (dG e hq)]
 exact e
noncomputable def ZaO:Sp:=λvs H Q _=>∃ (p c:Addr) (ns:List Int) (m:Nat) (most:Int),vs=[.ref p,.int most]/\Pen H p c ns m/\m<=500000/\0 < most/\most < 1073741824 /\
 ∀ (r:Int) (H':Hp),0<=r->r < most->Pen H' p c ns (m+1)->Kept p H H'->Q (.int r) H'
noncomputable def Zgg (K:PySem.W.Frag):Sp:=λvs H Q _=>∃ (a:Addr) (ns:List Int),vs=[.ref a]/\SqL K H a (ns.map V.int)/\ns.length<=63 /\
 ∀ (p c:Addr) (H':Hp),H p=none->Pen H' p c ns 0->Same H H'->Q (.ref p) H'
theorem Za2 (ns:List Int):SeqAt.shaped (.list (ns.map PyData.int))=true:=by
 have h1:PyData.canLayAll0 (ns.map PyData.int)=true:=by
  induction ns with
  | nil=>rfl
  | cons n r ih=>simp [PyData.canLayAll0,PyData.canLay0,ih]
 have h2:PyData.depthAll (ns.map PyData.int)=0:=by
  induction ns with
  | nil=>rfl
  | cons n r ih=>simp [PyData.depthAll,PyData.depth]; exact ih (by
    have:=h1
    simp [PyData.canLayAll0] at this
    exact this.2)
 simp [SeqAt.shaped,PyData.canLay0,PyData.depth,h1,h2]
theorem ZnG (ns:List Int):PyData.eqv (.list (ns.map PyData.int)) (.list [])=ns.isEmpty:=by
 cases ns with
 | nil=>rfl
 | cons n r=>rfl
section
variable {prog:Program} {w:World} {A:Around} {E:Value->Shared->Prop} {s:Shared} {r:Addr} {a b c:Int} {t u v:Tok} {n:Nat}
end
section
variable {X:Cx}
theorem ZiD:fillsNumberSlot (.type "tuple") "mul"=pure false :=
 PySem.fillsNumberSlot_seq (id:="tuple.__mul__") (r:=some (.builtin "tuple.__rmul__")) PySem.F.slot_tuple_mul.lookup (by decide +kernel) PySem.F.slot_tuple_rmul.lookup (by decide +kernel)
theorem Zhd:seqRepeat? (.type "tuple")=pure (some (.builtin "tuple.__mul__")):=by
 unfold seqRepeat?
 rw [PySem.seqSlot_of (T:="tuple") (name:="__mul__") (id:="tuple.__mul__") PySem.F.slot_tuple_mul.lookup (by decide +kernel),PySem.seqSlot_of (T:="tuple") (name:="__rmul__") (id:="tuple.__rmul__") PySem.F.slot_tuple_rmul.lookup (by decide +kernel)]; rfl
theorem Zg9 (x:Int) (t:Tok) (l:Addr) (items:Array Value) (n:Nat) (dd:Option Addr) (sl:Array (Option Value)) :
  Meets (Builtin.«int.__rmul__» ⟨[.int x t,.ref l],[]⟩) (λ_ R s=>s.heap.get? l=some { cls:=.type "tuple",dict:=dd,data:=.seq items n,slots:=sl }/\R (.ok (.ret Value.notImplemented)) s):=by
 refine .of_wp λprog w A R s h=>?_
 obtain ⟨hp,g,d,tk,os⟩:=s
 obtain ⟨hl,h⟩:=h
 wp_walk
 exact ⟨_,rfl,h⟩
theorem ZiK (x:Int) (t:Tok) (l:Addr) (items:Array Value) (n:Nat) (dd:Option Addr) (sl:Array (Option Value)) (h1:1 < x) (h2:x<=1000) (h3:items.isEmpty=false) (h4:items.size<=1000) :
  Meets (Builtin.«tuple.__mul__» ⟨[.ref l,.int x t],[]⟩) (λ_ R s=>s.heap.get? l=some { cls:=.type "tuple",dict:=dd,data:=.seq items n,slots:=sl } /\
   R (.ok (.ret (.ref s.heap.objs.size))) { s with heap:=s.heap.push { cls:=.type "tuple",data:=.seq ((List.replicate x.toNat items).foldl (·++·) #[]) } }):=by
 refine .of_wp λprog w A R s h=>?_
 obtain ⟨hp,g,d,tk,os⟩:=s
 obtain ⟨hl,h⟩:=h
 have hp0:0<=(items.size:Int) * x:=Int.mul_nonneg (by omega) (by omega)
 have hp1:(items.size:Int) * x<=1000 * 1000:=Int.mul_le_mul (by omega) h2 (by omega) (by omega)
 have hne:items.size≠0:=λe=>by simp [Array.isEmpty,e] at h3
 wp_walk
 refine wpAny_ite_split (λz=>absurd z (by simp; omega)) (λ_=>?_)
 refine wpAny_bind ?_
 unfold Builtin.Tuple.tupleItemsOf
 refine wpAny_bind (wpAny_seqItems hl rfl (wpAny_pure ?_))
 refine wpAny_ite_split (λz=>absurd z (by rw [h3]; simp; omega)) (λ_=>?_)
 refine wpAny_ite_split (λz=>absurd z (by rw [h3]; simp; omega)) (λ_=>?_)
 refine wpAny_ite_split (λz=>absurd z (by omega)) (λ_=>?_)
 refine wpAny_ite_split (λz=>absurd z (by unfold Builtin.Tuple.tupleTooMany; rw [sizeLine_eq]; simp; omega)) (λ_=>?_)
 unfold Builtin.Tuple.tupleExact
 have hlen:∀ k:Nat,((List.replicate k items).foldl (·++·) #[]).size=k * items.size:=λk=>by
  have key:∀ (k:Nat) (acc:Array Value),((List.replicate k items).foldl (·++·) acc).size=acc.size+k * items.size:=by
   intro k
   induction k with
   | zero=>intro acc; simp
   | succ k ih =>
    intro acc
    rw [List.replicate_succ,List.foldl_cons,ih,Array.size_append,Nat.succ_mul]
    omega
  simpa using key k #[]
 refine wpAny_bind (wpAny_newObj_type (wpAny_pure ⟨_,rfl,h⟩) ?_)
 show ((List.replicate x.toNat items).foldl (·++·) #[]).size<=sizeLine
 rw [hlen,sizeLine_eq]
 have hx:x.toNat<=1000:=by omega
 exact Nat.le_trans (Nat.mul_le_mul hx h4) (by decide)
noncomputable def Zby (K:PySem.W.Frag):R2:=λx y H Q=>∃ a k xs,x=.ref a/\y=.int k/\SqT K H a xs/\1 < k/\k<=1000/\xs≠[]/\xs.length<=1000/\∀ p,H p=none->Q (.ref p) (upd H p (.tup (List.replicate k.toNat xs).flatten))
theorem Zar {xs:List V} {us:List Value} (r:Vals xs us):∀ k:Nat,Vals (List.replicate k xs).flatten (List.replicate k us).flatten
 | 0=>.nil
 | k+1=>by
  rw [List.replicate_succ,List.replicate_succ,List.flatten_cons,List.flatten_cons]
  exact r.append (Zar r k)
theorem Zh9:OpR X (binaryOp .Mult) (Zby X.K):=by
 intro pins s σ H x y v u Q I rx ry h
 obtain ⟨a,k,xs,rfl,rfl,hq,h1,h2,hne,hl,q⟩:=h
 cases rx
 obtain ⟨t,rfl⟩:=ry
 obtain ⟨its,rv,p,hz⟩:=I.tuple hq
 obtain ⟨o,ho,hc,n,hd⟩:=p
 obtain ⟨oc,od,odd,osl⟩:=o
 have hc':oc=.type "tuple":=hc
 have hd':odd=.seq its.toArray n:=hd
 subst hc' hd'
 have hlen:=rv.length
 have hemp:its.toArray.isEmpty=false:=by
  cases its with
  | nil=>cases rv; exact absurd rfl hne
  | cons i r=>rfl
 have efl:(List.replicate k.toNat its.toArray).foldl (·++·) #[]=(List.replicate k.toNat its).flatten.toArray:=by
  have key:∀ (k:Nat) (acc:Array Value),(List.replicate k its.toArray).foldl (·++·) acc=acc++(List.replicate k its).flatten.toArray:=by
   intro k
   induction k with
   | zero=>intro acc; simp
   | succ k ih =>
    intro acc
    rw [List.replicate_succ,List.foldl_cons,ih,List.replicate_succ,List.flatten_cons]
    simp
  simpa using key k.toNat #[]
 refine wpAny_binaryOp_repeat_ref (T:="tuple") (U:="int") (by decide) ⟨_,ho,rfl⟩ (λs'=>typeIs_int s' k t) ZiD PySem.F.fills_int_mul PySem.F.slot_int_rmul Zhd PySem.F.slot_int_index.lookup ?_
 refine call_meets PySem.F.slot_int_rmul (typeIs_int s k t) PySem.F.entry_int_rmul (PySem.F.args_int_rmul_2 _ _) (Zg9 k t a its.toArray n od osl) ⟨ho,rfl,⟨_,ho,rfl⟩,?_⟩
 refine call_meets PySem.F.slot_tuple_mul ⟨_,ho,rfl⟩ PySem.F.entry_tuple_mul (PySem.F.args_tuple_mul_2 _ _) (ZiK k t a its.toArray n od osl h1 h2 hemp (by rw [List.size_toArray]; omega)) ⟨ho,?_⟩
 rw [efl]
 have hzz:(List.replicate k.toNat xs).flatten.length<=sizeLine:=by
  have hx:k.toNat<=1000:=by omega
  have e:(List.replicate k.toNat xs).flatten.length=k.toNat * xs.length:=by simp
  rw [e,sizeLine_eq]
  exact Nat.le_trans (Nat.mul_le_mul hx hl) (by decide)
 exact ⟨.ref s.heap.objs.size,_,I.laid (t':=s.toks) (λb o e=>Heap.get?_push_of_some _ e) (Nat.le_refl _) (show ObjOk X.prog X.w _ _ _ (.tup (List.replicate k.toNat xs).flatten) from ⟨hzz,_,Zar rv k.toNat,IsTup.new _ _⟩),rfl,q _ (I.hok.fresh (Nat.le_refl _))⟩
end
theorem Zcx {n:Nat} (h:n < 2 ^ 1900):n.log2 < 1900:=by
 by_cases h0:n=0
 ·rw [h0]; decide
 ·exact (Nat.log2_lt h0).mpr h
theorem Zgu {i:Int} (h:i.natAbs < 2 ^ 1900):(PyData.int i).shown.length<=1901:=by
 have e:=int_text_length_le (k:=1900) (by decide) (Zcx h)
 have q:(Str.ofString (toString i)).length<=1901:=by rw [PySem.ofString_length]; exact e
 simpa [PyData.shown] using q
theorem ZaX:∀ (ns:List Int),(∀ n∈ns,n.natAbs < 2 ^ 1900)->((PyData.shownAll (ns.map PyData.int)).map (·.length)).sum<=ns.length * 1901/\(PyData.shownAll (ns.map PyData.int)).length=ns.length
 | [],_=>⟨by simp [PyData.shownAll],rfl⟩
 | n::r,h=>by
  obtain ⟨h1,h2⟩:=ZaX r λx hx=>h x (List.mem_cons_of_mem _ hx)
  have h3:=Zgu (h n List.mem_cons_self)
  rw [List.map_cons,PyData.shownAll,List.map_cons,List.sum_cons,List.length_cons,List.length_cons,h2,Nat.succ_mul]
  exact ⟨by omega,rfl⟩
theorem ZaY:∀ (ns:List Int),(∀ n∈ns,n.natAbs < 2 ^ 1900)->PyData.showableAll (ns.map PyData.int)=true
 | [],_=>rfl
 | n::r,h=>by
  rw [List.map_cons,PyData.showableAll,ZaY r λx hx=>h x (List.mem_cons_of_mem _ hx),Bool.and_true]
  have q:=Zcx (h n List.mem_cons_self)
  simp only [PyData.showable,decide_eq_true_eq]
  omega
noncomputable def jG (lo:Int) (n:Nat):List Int:=(List.range n).map λ(k:Nat)=>lo+(k:Int)
theorem sF (lo:Int) (n:Nat):(jG lo n).length=n:=by
 unfold jG
 rw [List.length_map,List.length_range]
noncomputable def CMulG (i j:Int):Prop:=i.natAbs < 2 ^ 8000/\j.natAbs < 2 ^ 8000
noncomputable def ZeS (i j:Int):Prop:=j≠0/\j.natAbs < 2 ^ 8000
theorem Zeo {x:Int} (h:x.natAbs < 2 ^ 8000):Builtin.Int.intBits x<=8000:=by
 unfold Builtin.Int.intBits
 split
 ·exact Nat.zero_le _
 ·rename_i hx
  have h0:x.natAbs≠0:=by
   intro z
   have e:x=0:=Int.natAbs_eq_zero.mp z
   rw [e] at hx
   exact hx rfl
  exact (Nat.log2_lt h0).mpr h
theorem CMulG.ok {i j:Int} (h:CMulG i j):IntMulOk i j:=by
 have h1:=Zeo h.1
 have h2:=Zeo h.2
 unfold IntMulOk
 have e:Builtin.Int.intTooBig ((Builtin.Int.intBits i+Builtin.Int.intBits j:Nat):Int)=false:=by
  unfold Builtin.Int.intTooBig
  refine decide_eq_false ?_
  have hb:((16000:Nat):Int)<=(bitsLine:Int):=by decide
  omega
 intro z
 rw [Bool.and_eq_true] at z
 have z2:Builtin.Int.intTooBig ((Builtin.Int.intBits i+Builtin.Int.intBits j:Nat):Int)=true:=z.2
 rw [e] at z2
 cases z2
section
variable {X:Cx}
theorem Zih:OpR X (binaryOp .Mult) (rI CMulG λi j=>.int (i * j)):=jM λ_ _ _ _ _ _ _ hc q=>mul_int q hc.ok
theorem Zcf:OpR X (binaryOp .FloorDiv) (rI ZeS λi j=>.int (i.fdiv j)):=jM λi j _ _ _ _ _ hc q=>by
 refine floordiv_int hc.1 q (.inl (PyProof.noPylong_of_log2 ?_))
 by_cases h0:j.natAbs=0
 ·exact absurd (Int.natAbs_eq_zero.mp h0) hc.1
 ·exact Nat.lt_trans ((Nat.log2_lt h0).mpr hc.2) (by decide)
theorem jh:CallR X (.builtin "isinstance") (λxs H Q=>∃ x T t b,xs=[x,.ty T]/\TyOf X.K H x t/\PySem.W.kitOne X.K t (.type T)=some b/\Q (.bl b) H):=by
 intro pins s σ H xs us Q I r h
 obtain ⟨x,T,t,b,rfl,ty,e,q⟩:=h
 obtain ⟨u,c,rfl,ru,rc⟩:=mh r
 cases rc
 exact Zjw I ru ty e λtk=>⟨.bl b,H,I.tok tk,rfl,q⟩
end
end L2
namespace Gc
noncomputable def j9 (a b:Int):Int:=((Nat.gcd a.natAbs b.natAbs:Nat):Int)
noncomputable def den (t b:Int):Int:=if b < 0 then -j9 t b else j9 t b
noncomputable def jZ (t b:Int):Int:=t.fdiv (den t b)
noncomputable def i8 (t b:Int):Int:=b.fdiv (den t b)
theorem uv {t b:Int} (h:b≠0):0 < Nat.gcd t.natAbs b.natAbs:=Nat.gcd_pos_of_pos_right _ (by omega)
theorem ZdD {t b:Int} (h:b≠0):den t b≠0:=by
 have:=uv (t:=t) h
 unfold den j9
 split <;> omega
theorem qC (t b:Int):(den t b).natAbs=Nat.gcd t.natAbs b.natAbs:=by
 unfold den j9
 split <;> omega
theorem ZiX {t b:Int} (h:b≠0):t=den t b * jZ t b/\b=den t b * i8 t b/\0 < i8 t b/\Nat.gcd (jZ t b).natAbs (i8 t b).natAbs=1:=by
 have hd:=ZdD (t:=t) h
 have ha:=qC t b
 have hg:=uv (t:=t) h
 have d1:den t b ∣ t:=Int.natAbs_dvd_natAbs.mp (by rw [ha]; exact Nat.gcd_dvd_left _ _)
 have d2:den t b ∣ b:=Int.natAbs_dvd_natAbs.mp (by rw [ha]; exact Nat.gcd_dvd_right _ _)
 obtain ⟨x,hx⟩:=d1
 obtain ⟨y,hy⟩:=d2
 have e1:jZ t b=x:=by
  show t.fdiv (den t b)=x
  generalize den t b=d at hd hx
  rw [hx]
  exact Int.mul_fdiv_cancel_left _ hd
 have e2:i8 t b=y:=by
  show b.fdiv (den t b)=y
  generalize den t b=d at hd hy
  rw [hy]
  exact Int.mul_fdiv_cancel_left _ hd
 rw [e1,e2]
 refine ⟨hx,hy,?_,?_⟩
 ·have hb:(0 < b/\0 < den t b)\/(b < 0/\den t b < 0):=by
   unfold den j9
   split <;> omega
  rcases hb with ⟨p,q⟩ | ⟨p,q⟩
  ·rcases (show 0 < y\/y<=0 by omega) with z | z
   ·exact z
   ·exfalso
    have:=Int.mul_nonneg (Int.le_of_lt q) (show 0<=-y by omega)
    rw [Int.mul_neg,<- hy] at this
    omega
  ·rcases (show 0 < y\/y<=0 by omega) with z | z
   ·exact z
   ·exfalso
    have:=Int.mul_nonneg (show 0<=-den t b by omega) (show 0<=-y by omega)
    rw [Int.neg_mul_neg,<- hy] at this
    omega
 ·have h1:t.natAbs=Nat.gcd t.natAbs b.natAbs * x.natAbs:=by
   have:=congrArg Int.natAbs hx
   rw [Int.natAbs_mul,ha] at this
   exact this
  have h2:b.natAbs=Nat.gcd t.natAbs b.natAbs * y.natAbs:=by
   have:=congrArg Int.natAbs hy
   rw [Int.natAbs_mul,ha] at this
   exact this
  have h3:Nat.gcd t.natAbs b.natAbs=Nat.gcd t.natAbs b.natAbs * Nat.gcd x.natAbs y.natAbs:=by
   rw [<- Nat.gcd_mul_left,<- h1,<- h2]
  have h4:Nat.gcd t.natAbs b.natAbs * 1=Nat.gcd t.natAbs b.natAbs * Nat.gcd x.natAbs y.natAbs:=by rw [Nat.mul_one]; exact h3
  exact (Nat.eq_of_mul_eq_mul_left hg h4).symm
theorem ZiY {t b:Int} (h:b≠0):(jZ t b).natAbs<=t.natAbs/\(i8 t b).natAbs<=b.natAbs:=by
 obtain ⟨h1,h2,_,_⟩:=ZiX (t:=t) h
 have hg:=uv (t:=t) h
 have ha:=qC t b
 constructor
 ·have e:=congrArg Int.natAbs h1
  rw [Int.natAbs_mul,ha] at e
  rw [e]
  exact Nat.le_mul_of_pos_left _ hg
 ·have e:=congrArg Int.natAbs h2
  rw [Int.natAbs_mul,ha] at e
  rw [e]
  exact Nat.le_mul_of_pos_left _ hg
end Gc
namespace L2
open PySem PySem.Spec PyProof.Rows
inductive Tr (α:Type) where
 | ret (a:α)
 | draw (n:Int) (k:Int->Tr α)
 | fail
namespace Tr
variable {α β γ:Type}
noncomputable def bind:Tr α->(α->Tr β)->Tr β
 | .ret a,f=>f a
 | .draw n k,f=>.draw n λr=>(k r).bind f
 | .fail,_=>.fail
@[simp] theorem ret_bind (a:α) (f:α->Tr β):(Tr.ret a).bind f=f a:=rfl
@[simp] theorem draw_bind (n:Int) (k:Int->Tr α) (f:α->Tr β):(Tr.draw n k).bind f=.draw n λr=>(k r).bind f:=rfl
@[simp] theorem fail_bind (f:α->Tr β):(Tr.fail:Tr α).bind f=.fail:=rfl
@[simp] theorem bind_assoc:∀ (t:Tr α) (f:α->Tr β) (g:β->Tr γ),(t.bind f).bind g=t.bind λa=>(f a).bind g
 | .ret a,f,g=>rfl
 | .draw n k,f,g=>by simp only [draw_bind]; congr 1; funext r; exact bind_assoc (k r) f g
 | .fail,f,g=>rfl
noncomputable def of:Option α->Tr α
 | some a=>.ret a
 | none=>.fail
@[simp] theorem of_some (a:α):Tr.of (some a)=.ret a:=rfl
@[simp] theorem of_none:Tr.of (none:Option α)=.fail:=rfl
noncomputable def ok:Tr α->Nat->(Nat->α->Prop)->Prop
 | .ret a,m,Q=>Q m a
 | .draw n k,m,Q=>m < 400000/\0 < n/\n < 1073741824/\∀ r,0<=r->r < n->(k r).ok (m+1) Q
 | .fail,_,_=>False
theorem ok_mono:∀ {t:Tr α} {m:Nat} {Q Q':Nat->α->Prop},t.ok m Q->(∀ m a,Q m a->Q' m a)->t.ok m Q'
 | .ret a,m,_,_,h,hq=>hq m a h
 | .draw n k,m,_,_,⟨h1,h2,h3,h⟩,hq=>⟨h1,h2,h3,λr h0 h1=>ok_mono (h r h0 h1) hq⟩
theorem ok_bind:∀ {t:Tr α} {f:α->Tr β} {m:Nat} {Q:Nat->β->Prop},(t.bind f).ok m Q ↔ t.ok m λm' a=>(f a).ok m' Q
 | .ret a,f,m,Q=>Iff.rfl
 | .draw n k,f,m,Q=>by
  show (_/\_/\_/\∀ r,_) ↔ (_/\_/\_/\∀ r,_)
  refine and_congr_right λ_=>and_congr_right λ_=>and_congr_right λ_=>forall_congr' λr=>forall_congr' λ_=>forall_congr' λ_=>ok_bind
 | .fail,f,m,Q=>Iff.rfl
theorem ok_of {o:Option α} {m:Nat} {Q:Nat->α->Prop} (h:(Tr.of o).ok m Q):∃ a,o=some a/\Q m a:=by
 cases o with
 | none=>exact h.elim
 | some a=>exact ⟨a,rfl,h⟩
noncomputable def all:Tr α->Nat->(α->Prop)->Prop
 | .ret a,_,P=>P a
 | .draw w k,n+1,P=>0 < w/\w < 1073741824/\∀ r,0<=r->r < w->(k r).all n P
 | .draw _ _,0,_=>False
 | .fail,_,_=>False
theorem all_ok:∀ {t:Tr α} {n m:Nat} {P:α->Prop},t.all n P->m+n<=400000->t.ok m λm' a=>m'<=m+n/\P a
 | .ret a,n,m,P,h,hm=>⟨by omega,h⟩
 | .draw w k,n+1,m,P,⟨h1,h2,h⟩,hm=>⟨by omega,h1,h2,λr a b=>ok_mono (all_ok (h r a b) (by omega)) λm' x hz0=>by
  obtain ⟨p,q⟩:=hz0
  exact ⟨by omega,q⟩⟩
theorem all_mono:∀ {t:Tr α} {n n':Nat} {P P':α->Prop},t.all n P->n<=n'->(∀ a,P a->P' a)->t.all n' P'
 | .ret a,n,n',P,P',h,hn,hp=>hp a h
 | .draw w k,n+1,n'+1,P,P',⟨h1,h2,h⟩,hn,hp=>⟨h1,h2,λr a b=>all_mono (h r a b) (by omega) hp⟩
 | .draw w k,n+1,0,P,P',h,hn,hp=>by omega
theorem all_bind:∀ {t:Tr α} {f:α->Tr β} {n n':Nat} {P:α->Prop} {P':β->Prop},t.all n P->(∀ a,P a->(f a).all n' P')->(t.bind f).all (n+n') P'
 | .ret a,f,n,n',P,P',h,hf=>all_mono (hf a h) (by omega) λ_ x=>x
 | .draw w k,f,n+1,n',P,P',⟨h1,h2,h⟩,hf=>by
  have e:n+1+n'=(n+n')+1:=by omega
  rw [e]
  exact ⟨h1,h2,λr a b=>all_bind (h r a b) hf⟩
end Tr
noncomputable abbrev Sub (G H:Hp):Prop:=∀ b o,G b=some o->H b=some o
structure Pk where
 is:HO->Hp->Nat->Prop
 mono:∀ {o:HO} {G G':Hp} {m:Nat},Sub G G'->is o G m->is o G' m
structure Wd (PK:Pk) (pa:Addr) (m:Nat) (G H:Hp):Prop where
 sub:Sub G H
 gpa:G pa=none
 pen:∃ o,H pa=some o/\PK.is o G m
structure Stp (pa:Addr) (G H G' H':Hp):Prop where
 gs:Sub G G'
 gn:∀ b o,G' b=some o->G b=some o\/H b=none
 hk:∀ b o,H b=some o->b≠pa->H' b=some o
theorem Stp.refl {pa:Addr} {G H:Hp}:Stp pa G H G H:=⟨λ_ _ h=>h,λ_ _ h=>.inl h,λ_ _ h _=>h⟩
theorem Stp.trans {pa:Addr} {G H G1 H1 G2 H2:Hp} (a:Stp pa G H G1 H1) (b:Stp pa G1 H1 G2 H2) (hp:∃ o,H1 pa=some o):Stp pa G H G2 H2:=by
 refine ⟨λc o h=>b.gs c o (a.gs c o h),λc o h=>?_,λc o h n=>b.hk c o (a.hk c o h n) n⟩
 rcases b.gn c o h with z | z
 ·exact a.gn c o z
 ·refine .inr ?_
  cases e:H c with
  | none=>rfl
  | some u =>
   by_cases hc:c=pa
   ·subst hc
    obtain ⟨o',z'⟩:=hp
    rw [z'] at z; cases z
   ·rw [a.hk c u e hc] at z; cases z
section
variable {PK:Pk} {pa:Addr} {m:Nat} {G H:Hp}
theorem Wd.some (w:Wd PK pa m G H):∃ o,H pa=some o:=let ⟨o,h,_⟩:=w.pen; ⟨o,h⟩
theorem Wd.ne (w:Wd PK pa m G H) {p:Addr} (hp:H p=none):pa≠p:=λe=>by
 obtain ⟨o,h⟩:=w.some
 rw [e,hp] at h; cases h
theorem Sub.new {p:Addr} {o:HO} (hp:G p=none):Sub G (upd G p o):=λb u h=>by rw [aO (dG h hp)]; exact h
theorem Wd.gnone (w:Wd PK pa m G H) {p:Addr} (hp:H p=none):G p=none:=by
 cases e:G p with
 | none=>rfl
 | some o=>rw [w.sub p o e] at hp; cases hp
theorem Sub.upd2 {p:Addr} {o:HO} (s:Sub G H):Sub (upd G p o) (upd H p o):=λb u h=>by
 by_cases e:b=p
 ·subst e; rw [bM] at h ⊢; exact h
 ·rw [aO e] at h ⊢; exact s b u h
theorem Wd.new (w:Wd PK pa m G H) {p:Addr} {o:HO} (hp:H p=none):Wd PK pa m (upd G p o) (upd H p o)/\Stp pa G H (upd G p o) (upd H p o):=by
 have hg:=w.gnone hp
 have hne:=w.ne hp
 refine ⟨⟨w.sub.upd2,by rw [aO hne]; exact w.gpa,?_⟩,⟨Sub.new hg,λb u h=>?_,λb u h _=>by rw [aO (dG h hp)]; exact h⟩⟩
 ·obtain ⟨u,h,q⟩:=w.pen
  exact ⟨u,by rw [aO hne]; exact h,PK.mono (Sub.new hg) q⟩
 ·by_cases e:b=p
  ·subst e; exact .inr hp
  ·rw [aO e] at h; exact .inl h
theorem Wd.own (w:Wd PK pa m G H) {p:Addr} {o:HO} (hp:H p=none):Wd PK pa m G (upd H p o)/\Stp pa G H G (upd H p o):=by
 have hne:=w.ne hp
 refine ⟨⟨λb u h=>by rw [aO (dG (w.sub b u h) hp)]; exact w.sub b u h,w.gpa,?_⟩,⟨λ_ _ h=>h,λ_ _ h=>.inl h,λb u h _=>by rw [aO (dG h hp)]; exact h⟩⟩
 obtain ⟨u,h,q⟩:=w.pen
 exact ⟨u,by rw [aO hne]; exact h,q⟩
theorem Wd.freeze (w:Wd PK pa m G H) {p:Addr} {o:HO} (hp:H p=Option.some o) (hg:G p=none) (hne:pa≠p):Wd PK pa m (upd G p o) H:=by
 refine ⟨λb u h=>?_,by rw [aO hne]; exact w.gpa,?_⟩
 ·by_cases e:b=p
  ·subst e; rw [bM] at h; rw [hp]; exact h
  ·rw [aO e] at h; exact w.sub b u h
 ·obtain ⟨u,h,q⟩:=w.pen
  exact ⟨u,h,PK.mono (Sub.new hg) q⟩
noncomputable def Kn (PK:Pk) (pa:Addr) (m:Nat) (G H:Hp) (x:PyData) (Q:VK):Prop:=∀ v G' H',Stp pa G H G' H'->Wd PK pa m G' H'->Dn G' v x->Q v H'
variable {x:PyData} {Q:VK} {v:V} {vs:List V} {ds:List PyData} {p:Addr}
theorem Kn.here (k:Kn PK pa m G H x Q) (w:Wd PK pa m G H) (d:Dn G v x):Q v H:=k v G H .refl w d
theorem Kn.tup (k:Kn PK pa m G H (.tuple ds) Q) (w:Wd PK pa m G H) (d:DnAll G vs ds) (hp:H p=none):Q (.ref p) (upd H p (.tup vs)):=by
 obtain ⟨w1,s1⟩:=w.new (o:=.tup vs) hp
 exact k _ _ _ s1 w1 (.tup bM (DnAll.mono s1.gs d))
theorem Kn.lst (k:Kn PK pa m G H (.list ds) Q) (w:Wd PK pa m G H) (d:DnAll G vs ds) (hp:H p=none):Q (.ref p) (upd H p (.lst vs)):=by
 obtain ⟨w1,s1⟩:=w.new (o:=.lst vs) hp
 exact k _ _ _ s1 w1 (.lst bM (DnAll.mono s1.gs d))
theorem Kn.later {G1 H1:Hp} (k:Kn PK pa m G H x Q) (s:Stp pa G H G1 H1) (hp:∃ o,H1 pa=Option.some o):Kn PK pa m G1 H1 x Q:=λv G' H' s' w d=>k v G' H' (s.trans s' hp) w d
end
inductive Sl where
 | un | d (x:PyData) | own (xs:List PyData) | pen | dic (kvs:List (Int×PyData)) | fn (a:Addr)
inductive KD (G:Hp):List (aI×V)->List (Int×PyData)->Prop
 | nil:KD G [] []
 | cons {i:Int} {v:V} {d:PyData} {ks:List (aI×V)} {kvs:List (Int×PyData)}:Dn G v d->KD G ks kvs->KD G ((.inl i,v)::ks) ((i,d)::kvs)
theorem KD.mono {G G':Hp} (s:Sub G G') {ks:List (aI×V)} {kvs:List (Int×PyData)} (h:KD G ks kvs):KD G' ks kvs:=by
 induction h with
 | nil=>exact .nil
 | cons h _ ih=>exact .cons (h.mono s) ih
inductive SlOk (pa:Addr) (H₀ G H:Hp):Option V->Sl->Prop
 | un {o:Option V}:SlOk pa H₀ G H o .un
 | d {v:V} {x:PyData}:Dn G v x->SlOk pa H₀ G H (some v) (.d x)
 | own {p:Addr} {vs:List V} {xs:List PyData}:H p=some (.lst vs)->G p=none->H₀ p=none->DnAll G vs xs->SlOk pa H₀ G H (some (.ref p)) (.own xs)
 | pen:SlOk pa H₀ G H (some (.ref pa)) .pen
 | fn {a:Addr}:SlOk pa H₀ G H (some (.ref a)) (.fn a)
 | dic {p:Addr} {ks:List (aI×V)} {kvs:List (Int×PyData)}:H p=some (.dK ks)->G p=none->H₀ p=none->KD G ks kvs->SlOk pa H₀ G H (some (.ref p)) (.dic kvs)
structure Rl (PK:Pk) (pa:Addr) (G₀ H₀:Hp) (m:Nat) (σ:St) (ρ:List Sl) (G H:Hp):Prop where
 wd:Wd PK pa m G H
 st:Stp pa G₀ H₀ G H
 p0:∃ o,H₀ pa=some o
 sl:∀ (i:Nat) (s:Sl),ρ[i]?=some s->∃ o,σ[i]?=some o/\SlOk pa H₀ G H o s
 len:ρ.length=σ.length
 dj:∀ (i j:Nat) (xs ys:List PyData),i≠j->ρ[i]?=some (.own xs)->ρ[j]?=some (.own ys)->σ[i]?≠σ[j]?
 dj2:∀ (i j:Nat) (xs ys:List (Int×PyData)),i≠j->ρ[i]?=some (.dic xs)->ρ[j]?=some (.dic ys)->σ[i]?≠σ[j]?
section
variable {PK:Pk} {pa:Addr} {G₀ H₀ G H:Hp} {m:Nat} {σ:St} {ρ:List Sl}
theorem oj {α:Type} {l:List α} {k i:Nat} {x y:α} (h:(l.set k x)[i]?=some y) (hn:x≠y):k≠i/\l[i]?=some y:=by
 have hi:k≠i:=λe=>by
  subst e
  have hl:k < l.length:=by
   have:=(List.getElem?_eq_some_iff.mp h).1
   rwa [List.length_set] at this
  rw [List.getElem?_set_self hl] at h
  exact hn (Option.some.inj h)
 rw [List.getElem?_set_ne hi] at h
 exact ⟨hi,h⟩
theorem qB {α:Type} {T:α->Sl} {k:Nat} {x:Sl} {v:Option V} (dj:∀ (i j:Nat) (a b:α),i≠j->ρ[i]?=some (T a)->ρ[j]?=some (T b)->σ[i]?≠σ[j]?) (hn:∀ a,x≠T a) :
  ∀ (i j:Nat) (a b:α),i≠j->(ρ.set k x)[i]?=some (T a)->(ρ.set k x)[j]?=some (T b)->(σ.set k v)[i]?≠(σ.set k v)[j]?:=λi j a b hij h1 h2=>by
 obtain ⟨hi,h1⟩:=oj h1 (hn a)
 obtain ⟨hj,h2⟩:=oj h2 (hn b)
 rw [List.getElem?_set_ne hi,List.getElem?_set_ne hj]
 exact dj i j a b hij h1 h2
theorem ZdA {α:Type} {T:α->Sl} {k:Nat} {x:Sl} (dj:∀ (i j:Nat) (a b:α),i≠j->ρ[i]?=some (T a)->ρ[j]?=some (T b)->σ[i]?≠σ[j]?) (hn:∀ a,x≠T a) :
  ∀ (i j:Nat) (a b:α),i≠j->(ρ.set k x)[i]?=some (T a)->(ρ.set k x)[j]?=some (T b)->σ[i]?≠σ[j]?:=λi j a b hij h1 h2 =>
 dj i j a b hij (oj h1 (hn a)).2 (oj h2 (hn b)).2
theorem SlOk.step {G' H':Hp} {o:Option V} {s:Sl} (k:SlOk pa H₀ G H o s) (hp0:∃ o,H₀ pa=some o) (st:Stp pa G H G' H'):SlOk pa H₀ G' H' o s:=by
 cases k with
 | un=>exact .un
 | d h=>exact .d (h.mono st.gs)
 | pen=>exact .pen
 | fn=>exact .fn
 | @own p vs xs h1 h2 h3 h4 =>
  have hne:p≠pa:=λe=>by
   obtain ⟨u,hu⟩:=hp0
   rw [<- e,h3] at hu; cases hu
  refine .own (st.hk _ _ h1 hne) ?_ h3 (DnAll.mono st.gs h4)
  cases e:G' p with
  | none=>rfl
  | some u =>
   rcases st.gn p u e with z | z
   ·rw [h2] at z; cases z
   ·rw [h1] at z; cases z
 | @dic p ks kvs h1 h2 h3 h4 =>
  have hne:p≠pa:=λe=>by
   obtain ⟨u,hu⟩:=hp0
   rw [<- e,h3] at hu; cases hu
  refine .dic (st.hk _ _ h1 hne) ?_ h3 (h4.mono st.gs)
  cases e:G' p with
  | none=>rfl
  | some u =>
   rcases st.gn p u e with z | z
   ·rw [h2] at z; cases z
   ·rw [h1] at z; cases z
theorem Rl.step {G' H':Hp} {m':Nat} (r:Rl PK pa G₀ H₀ m σ ρ G H) (s:Stp pa G H G' H') (w:Wd PK pa m' G' H'):Rl PK pa G₀ H₀ m' σ ρ G' H' :=
 ⟨w,r.st.trans s r.wd.some,r.p0,λi sl h=>let ⟨o,h1,h2⟩:=r.sl i sl h; ⟨o,h1,h2.step r.p0 s⟩,r.len,r.dj,r.dj2⟩
theorem Rl.set (r:Rl PK pa G₀ H₀ m σ ρ G H) {v:V} {x:PyData} (d:Dn G v x) (k:Nat):Rl PK pa G₀ H₀ m (σ.set k (some v)) (ρ.set k (.d x)) G H:=by
 refine ⟨r.wd,r.st,r.p0,λi s h=>?_,by rw [List.length_set,List.length_set]; exact r.len,λi j xs ys hij h1 h2=>?_,qB r.dj2 λa h=>by cases h⟩
 ·by_cases e:k=i
  ·subst e
   have hl:k < ρ.length:=by
    have:=(List.getElem?_eq_some_iff.mp h).1
    rwa [List.length_set] at this
   rw [List.getElem?_set_self hl] at h
   cases h
   exact ⟨_,List.getElem?_set_self (by rw [<- r.len]; exact hl),.d d⟩
  ·rw [List.getElem?_set_ne e] at h ⊢
   exact r.sl i s h
 ·have hi:k≠i:=λe=>by
   subst e
   have hl:k < ρ.length:=by
    have:=(List.getElem?_eq_some_iff.mp h1).1
    rwa [List.length_set] at this
   rw [List.getElem?_set_self hl] at h1; cases h1
  have hj:k≠j:=λe=>by
   subst e
   have hl:k < ρ.length:=by
    have:=(List.getElem?_eq_some_iff.mp h2).1
    rwa [List.length_set] at this
   rw [List.getElem?_set_self hl] at h2; cases h2
  rw [List.getElem?_set_ne hi] at h1 ⊢
  rw [List.getElem?_set_ne hj] at h2 ⊢
  exact r.dj i j xs ys hij h1 h2
theorem Rl.setO (r:Rl PK pa G₀ H₀ m σ ρ G H) {p:Addr} {vs:List V} {xs:List PyData} (h1:H p=some (.lst vs)) (h2:G p=none) (h3:H₀ p=none) (h4:DnAll G vs xs)
  (hd:∀ (i:Nat) (ys:List PyData),ρ[i]?=some (.own ys)->σ[i]?≠some (some (.ref p))) (k:Nat):Rl PK pa G₀ H₀ m (σ.set k (some (.ref p))) (ρ.set k (.own xs)) G H:=by
 have up:∀ {i:Nat} {s:Sl},(ρ.set k (.own xs))[i]?=some s->i=k->s=.own xs/\(σ.set k (some (V.ref p)))[i]?=some (some (.ref p)):=λ{i s} h e=>by
  subst e
  have hl:i < ρ.length:=by
   have:=(List.getElem?_eq_some_iff.mp h).1
   rwa [List.length_set] at this
  rw [List.getElem?_set_self hl] at h
  cases h
  exact ⟨rfl,List.getElem?_set_self (by rw [<- r.len]; exact hl)⟩
 refine ⟨r.wd,r.st,r.p0,λi s h=>?_,by rw [List.length_set,List.length_set]; exact r.len,λi j ys zs hij e1 e2=>?_,qB r.dj2 λa h=>by cases h⟩
 ·by_cases e:i=k
  ·obtain ⟨e1,e2⟩:=up h e
   subst e1
   exact ⟨_,e2,.own h1 h2 h3 h4⟩
  ·rw [List.getElem?_set_ne (Ne.symm e)] at h ⊢
   exact r.sl i s h
 ·by_cases ei:i=k
  ·have q:=(up e1 ei).2
   have hj:k≠j:=λe=>hij (ei.trans e)
   rw [q]
   rw [List.getElem?_set_ne hj] at e2 ⊢
   exact λz=>hd j zs e2 z.symm
  ·rw [List.getElem?_set_ne (Ne.symm ei)] at e1 ⊢
   by_cases ej:j=k
   ·rw [(up e2 ej).2]
    exact hd i ys e1
   ·rw [List.getElem?_set_ne (Ne.symm ej)] at e2 ⊢
    exact r.dj i j ys zs hij e1 e2
theorem Rl.h0 (r:Rl PK pa G₀ H₀ m σ ρ G H) {p:Addr} (hp:H p=none):H₀ p=none:=by
 cases e:H₀ p with
 | none=>rfl
 | some u =>
  by_cases hc:p=pa
  ·subst hc
   obtain ⟨o,h⟩:=r.wd.some
   rw [hp] at h; cases h
  ·rw [r.st.hk p u e hc] at hp; cases hp
theorem Rl.apart (r:Rl PK pa G₀ H₀ m σ ρ G H) {p:Addr} (hp:H p=none) (i:Nat) (ys:List PyData) (h:ρ[i]?=some (.own ys)):σ[i]?≠some (some (.ref p)):=λe=>by
 obtain ⟨o,h1,h2⟩:=r.sl i _ h
 rw [e] at h1
 cases h1
 cases h2 with
 | own a _ _ _=>rw [hp] at a; cases a
theorem Rl.change (r:Rl PK pa G₀ H₀ m σ ρ G H) {k:Nat} {xs ys:List PyData} {p:Addr} {ws:List V} (hk:ρ[k]?=some (.own xs)) (hσ:σ[k]?=some (some (.ref p))) (d:DnAll G ws ys) :
  Rl PK pa G₀ H₀ m σ (ρ.set k (.own ys)) G (upd H p (.lst ws)):=by
 obtain ⟨o,h1,h2⟩:=r.sl k _ hk
 rw [hσ] at h1
 cases h1
 cases h2 with
 | @own _ vs _ a1 a2 a3 a4 =>
  have hne:pa≠p:=λe=>by
   obtain ⟨u,hu⟩:=r.p0
   rw [e,a3] at hu; cases hu
  have hl:k < ρ.length:=(List.getElem?_eq_some_iff.mp hk).1
  refine ⟨⟨λb o h=>?_,r.wd.gpa,?_⟩,⟨r.st.gs,r.st.gn,λb o h hb=>?_⟩,r.p0,λi s h=>?_,by rw [List.length_set]; exact r.len,λi j us ws hij e1 e2=>?_,ZdA r.dj2 λa h=>by cases h⟩
  ·rw [aO (λe=>by subst e; rw [a2] at h; cases h)]
   exact r.wd.sub b o h
  ·obtain ⟨u,h,q⟩:=r.wd.pen
   exact ⟨u,by rw [aO hne]; exact h,q⟩
  ·rw [aO (λe=>by subst e; rw [a3] at h; cases h)]
   exact r.st.hk b o h hb
  ·by_cases e:k=i
   ·subst e
    rw [List.getElem?_set_self hl] at h
    cases h
    exact ⟨_,hσ,.own bM a2 a3 d⟩
   ·rw [List.getElem?_set_ne e] at h
    obtain ⟨o,q1,q2⟩:=r.sl i s h
    refine ⟨o,q1,?_⟩
    cases q2 with
    | un=>exact .un
    | d z=>exact .d z
    | pen=>exact .pen
    | fn=>exact .fn
    | dic b1 b2 b3 b4=>exact .dic (by rw [aO (λe2=>by subst e2; rw [a1] at b1; cases b1)]; exact b1) b2 b3 b4
    | own b1 b2 b3 b4 =>
     refine .own ?_ b2 b3 b4
     rw [aO]
     ·exact b1
     ·intro e2
      subst e2
      exact r.dj k i _ _ e hk h (by rw [hσ,q1])
  ·by_cases ei:k=i
   ·subst ei
    rw [List.getElem?_set_ne hij] at e2
    exact r.dj k j _ _ hij hk e2
   ·rw [List.getElem?_set_ne ei] at e1
    by_cases ej:k=j
    ·subst ej
     exact r.dj i k _ _ hij e1 hk
    ·rw [List.getElem?_set_ne ej] at e2
     exact r.dj i j _ _ hij e1 e2
noncomputable def fz (k:Nat) (ρ:List Sl):List Sl:=match ρ[k]? with
 | some (.own xs)=>ρ.set k (.d (.list xs))
 | _=>ρ
theorem Rl.freeze (r:Rl PK pa G₀ H₀ m σ ρ G H) (k:Nat):∃ G',Sub G G'/\Rl PK pa G₀ H₀ m σ (fz k ρ) G' H:=by
 unfold fz
 split
 ·rename_i xs hk
  obtain ⟨o,h1,h2⟩:=r.sl k _ hk
  cases h2 with
  | @own p vs _ a1 a2 a3 a4 =>
   have hne:pa≠p:=λe=>by
    obtain ⟨u,hu⟩:=r.p0
    rw [e,a3] at hu; cases hu
   have hl:k < ρ.length:=(List.getElem?_eq_some_iff.mp hk).1
   have sb:Sub G (upd G p (.lst vs)):=Sub.new a2
   refine ⟨upd G p (.lst vs),sb,r.wd.freeze a1 a2 hne,⟨λb o h=>sb b o (r.st.gs b o h),λb o h=>?_,r.st.hk⟩,r.p0,λi s h=>?_,by rw [List.length_set]; exact r.len,λi j us ws hij e1 e2=>?_,ZdA r.dj2 λa h=>by cases h⟩
   ·by_cases e:b=p
    ·subst e; exact .inr a3
    ·rw [aO e] at h; exact r.st.gn b o h
   ·by_cases e:k=i
    ·subst e
     rw [List.getElem?_set_self hl] at h
     cases h
     exact ⟨_,h1,.d (.lst bM (DnAll.mono sb a4))⟩
    ·rw [List.getElem?_set_ne e] at h
     obtain ⟨o,q1,q2⟩:=r.sl i s h
     refine ⟨o,q1,?_⟩
     cases q2 with
     | un=>exact .un
     | d z=>exact .d (z.mono sb)
     | pen=>exact .pen
     | fn=>exact .fn
     | dic b1 b2 b3 b4=>exact .dic b1 (by rw [aO (λe2=>by subst e2; rw [a1] at b1; cases b1)]; exact b2) b3 (b4.mono sb)
     | own b1 b2 b3 b4 =>
      refine .own b1 ?_ b3 (DnAll.mono sb b4)
      rw [aO]
      ·exact b2
      ·intro e2
       subst e2
       exact r.dj k i _ _ e hk h (by rw [h1,q1])
   ·have hi:k≠i:=λe=>by subst e; rw [List.getElem?_set_self hl] at e1; cases e1
    have hj:k≠j:=λe=>by subst e; rw [List.getElem?_set_self hl] at e2; cases e2
    rw [List.getElem?_set_ne hi] at e1
    rw [List.getElem?_set_ne hj] at e2
    exact r.dj i j _ _ hij e1 e2
 ·exact ⟨G,λ_ _ h=>h,r⟩
end
noncomputable def TAe (PK:Pk) (i:List Sl->Tr PyData):TE:=λσ H Q=>∃ pa G₀ H₀ m ρ G,Rl PK pa G₀ H₀ m σ ρ G H/\(i ρ).ok m λm' x=>Kn PK pa m' G H x Q
noncomputable def TAt (PK:Pk) (i:List Sl->Tr Bool):TT:=λσ H Q=>∃ pa G₀ H₀ m ρ G,Rl PK pa G₀ H₀ m σ ρ G H/\(i ρ).ok m λm' b=>∀ G' H',Stp pa G H G' H'->Wd PK pa m' G' H'->Q b H'
noncomputable def TAd (PK:Pk) (i:List Sl->Tr (List PyData)):TA:=λσ H Q=>∃ pa G₀ H₀ m ρ G,Rl PK pa G₀ H₀ m σ ρ G H/\(i ρ).ok m λm' xs=>∀ vs G' H',Stp pa G H G' H'->Wd PK pa m' G' H'->DnAll G' vs xs->Q vs H'
noncomputable def Ko1 (PK:Pk) (pa:Addr) (m:Nat) (G H:Hp) (xs:List PyData) (Q:VK):Prop:=∀ p vs G' H',Stp pa G H G' H'->Wd PK pa m G' H'->H p=none->G' p=none->H' p=some (.lst vs)->DnAll G' vs xs->Q (.ref p) H'
noncomputable def jq (PK:Pk) (i:List Sl->Tr (List PyData)):TE:=λσ H Q=>∃ pa G₀ H₀ m ρ G,Rl PK pa G₀ H₀ m σ ρ G H/\(i ρ).ok m λm' xs=>Ko1 PK pa m' G H xs Q
inductive ArOk (pa:Addr) (G:Hp):V->Sl->Prop
 | d {v:V} {x:PyData}:Dn G v x->ArOk pa G v (.d x)
 | pen:ArOk pa G (.ref pa) .pen
 | fn {a:Addr}:ArOk pa G (.ref a) (.fn a)
inductive ArsOk (pa:Addr) (G:Hp):List V->List Sl->Prop
 | nil:ArsOk pa G [] []
 | cons {v:V} {vs:List V} {s:Sl} {ss:List Sl}:ArOk pa G v s->ArsOk pa G vs ss->ArsOk pa G (v::vs) (s::ss)
theorem ArsOk.length {pa:Addr} {G:Hp} {vs:List V} {ss:List Sl} (h:ArsOk pa G vs ss):vs.length=ss.length:=by
 induction h with
 | nil=>rfl
 | cons h t ih=>exact congrArg (·+1) ih
noncomputable def TAa (PK:Pk) (i:List Sl->Tr (List Sl)):TA:=λσ H Q=>∃ pa G₀ H₀ m ρ G,Rl PK pa G₀ H₀ m σ ρ G H/\(i ρ).ok m λm' as=>∀ vs G' H',Stp pa G H G' H'->Wd PK pa m' G' H'->ArsOk pa G' vs as->Q vs H'
inductive Re where
 | d (x:PyData) | own (xs:List PyData)
noncomputable def Re.val:Re->PyData
 | .d x=>x
 | .own xs=>.list xs
@[simp] theorem Re.val_d (x:PyData):(Re.d x).val=x:=rfl
@[simp] theorem Re.val_own (xs:List PyData):(Re.own xs).val=.list xs:=rfl
inductive Ou where
 | next (ρ:List Sl) | ret (r:Re) | brk (ρ:List Sl) | cont (ρ:List Sl)
noncomputable def ZpL (H₀ G H:Hp) (v:V):Re->Prop
 | .d x=>Dn G v x
 | .own xs=>∃ p vs,v=.ref p/\H p=some (.lst vs)/\G p=none/\H₀ p=none/\DnAll G vs xs
noncomputable def Kr (PK:Pk) (pa:Addr) (m:Nat) (G₀ H₀:Hp) (r:Re) (Q:VK):Prop:=∀ v G H,Stp pa G₀ H₀ G H->Wd PK pa m G H->ZpL H₀ G H v r->Q v H
noncomputable def Ko (PK:Pk) (pa:Addr) (G₀ H₀ Gs:Hp) (D:Ends) (m:Nat):Ou->Prop
 | .next ρ=>∀ σ G H,Sub Gs G->Rl PK pa G₀ H₀ m σ ρ G H->D.nx σ H
 | .ret r=>Kr PK pa m G₀ H₀ r D.rt
 | .brk ρ=>∀ σ G H,Sub Gs G->Rl PK pa G₀ H₀ m σ ρ G H->D.bk σ H
 | .cont ρ=>∀ σ G H,Sub Gs G->Rl PK pa G₀ H₀ m σ ρ G H->D.ct σ H
noncomputable def bC (PK:Pk) (i:List Sl->Tr Ou):TS:=λD σ H=>∃ pa G₀ H₀ m ρ G,Rl PK pa G₀ H₀ m σ ρ G H/\(i ρ).ok m (Ko PK pa G₀ H₀ G D)
theorem PE.imp {X:Cx} {e:Expr} {t t':TE} (h:PE X e t) (q:∀ σ H Q,t' σ H Q->t σ H Q):PE X e t':=λpins s σ H Q I z=>h pins s σ H Q I (q σ H Q z)
theorem PT.imp {X:Cx} {e:Expr} {t t':TT} (h:PT X e t) (q:∀ σ H Q,t' σ H Q->t σ H Q):PT X e t':=λpins s σ H Q I z=>h pins s σ H Q I (q σ H Q z)
theorem PW.imp {X:Cx} {e:Expr} {t t':TT} (h:PW X e t) (q:∀ σ H Q,t' σ H Q->t σ H Q):PW X e t':=λwh pins s σ H Q I z=>h wh pins s σ H Q I (q σ H Q z)
theorem PA.imp {X:Cx} {e:List Expr} {t t':TA} (h:PA X e t) (q:∀ σ H Q,t' σ H Q->t σ H Q):PA X e t':=λpos pins s σ H Q I z=>h pos pins s σ H Q I (q σ H Q z)
theorem PS.imp {X:Cx} {e:Stmt} {t t':TS} (h:PS X e t) (q:∀ D σ H,t' D σ H->t D σ H):PS X e t':=λpins s σ H D I z=>h pins s σ H D I (q D σ H z)
theorem PSs.imp {X:Cx} {e:List Stmt} {t t':TS} (h:PSs X e t) (q:∀ D σ H,t' D σ H->t D σ H):PSs X e t':=λpins s σ H D I z=>h pins s σ H D I (q D σ H z)
variable {PK:Pk} {X:Cx} {a b c e:Expr} {es:List Expr} {pos:Pos} {i j l:List Sl->Tr PyData}
theorem TAe.then {σ:St} {H:Hp} {β:Type} {k:PyData->Tr β} {Z:Nat->β->Prop} {Q:VK} {pa:Addr} {G₀ H₀ G:Hp} {m:Nat} {ρ:List Sl} (R:Rl PK pa G₀ H₀ m σ ρ G H) (h:((i ρ).bind k).ok m Z)
  (hq:∀ m1 x v G1 H1,Stp pa G H G1 H1->Wd PK pa m1 G1 H1->Rl PK pa G₀ H₀ m1 σ ρ G1 H1->Dn G1 v x->(k x).ok m1 Z->Q v H1):TAe PK i σ H Q:=by
 refine ⟨pa,G₀,H₀,m,ρ,G,R,Tr.ok_mono (Tr.ok_bind.mp h) λm1 x hx v G1 H1 s1 w1 d1=>?_⟩
 exact hq m1 x v G1 H1 s1 w1 (R.step s1 w1) d1 hx
noncomputable def aa (k:Nat):List Sl->Tr PyData:=λρ=>match ρ[k]? with
 | some (.d x)=>.ret x
 | _=>.fail
noncomputable def aC (d:PyData):List Sl->Tr PyData:=λ_=>.ret d
theorem ac {k:Nat} (h:PE X e (gE k)):PE X e (TAe PK (aa k)):=h.imp λσ H Q hz0=>by
 obtain ⟨pa,G₀,H₀,m,ρ,G,R,q⟩:=hz0
 unfold aa at q
 split at q
 ·rename_i x hx
  obtain ⟨o,h1,h2⟩:=R.sl k _ hx
  cases h2 with
  | d z=>exact ⟨_,h1,Kn.here q R.wd z⟩
 ·exact q.elim
theorem lN {v:V} {d:PyData} (h:PE X e (tC v)) (hd:∀ G,Dn G v d):PE X e (TAe PK (aC d)):=h.imp λσ H Q hz0=>by
 obtain ⟨pa,G₀,H₀,m,ρ,G,R,q⟩:=hz0
 exact Kn.here q R.wd (hd G)
theorem ak {n:Int} {k pos}:PE X (.Constant (.int n) k pos) (TAe PK (aC (.int n))):=lN cq λ_=>.int n
theorem fO {n:Bool} {k pos}:PE X (.Constant (.bool n) k pos) (TAe PK (aC (.bool n))):=lN Zh1 λ_=>.bl n
theorem dM {k pos}:PE X (.Constant .none k pos) (TAe PK (aC .none)):=lN tu λ_=>.non
theorem aK {x:Str} {k pos}:PE X (.Constant (.str x) k pos) (TAe PK (aC (.str x))):=lN dR λ_=>.str x
theorem fN {x:Str} {n:Int} (hg:Gl X x) (h:∃ t,X.mg x=some (.int n t)) (hd:(x == ("__debug__":Str))=false:=by decide):PE X (.Name x pos) (TAe PK (aC (.int n))):=lN (ZhV hg h hd) λ_=>.int n
noncomputable def b9 (r:R2) (f:PyData->PyData->Option PyData):Prop:=∀ (PK:Pk) (pa:Addr) (m:Nat) (G H:Hp) (x y:V) (dx dy dz:PyData) (Q:VK),Wd PK pa m G H->Dn G x dx->Dn G y dy->f dx dy=some dz->Kn PK pa m G H dz Q->r x y H Q
noncomputable def ah (f:PyData->PyData->Option PyData) (i j:List Sl->Tr PyData):List Sl->Tr PyData:=λρ=>(i ρ).bind λx=>(j ρ).bind λy=>Tr.of (f x y)
theorem qX {r:R2} {f:PyData->PyData->Option PyData} (hv:b9 r f):∀ σ H Q,TAe PK (ah f i j) σ H Q->jz r (TAe PK i) (TAe PK j) σ H Q:=by
 rintro σ H Q ⟨pa,G₀,H₀,m,ρ,G,R,q⟩
 refine TAe.then R q λm1 x v G1 H1 s1 w1 R1 d1 q1=>?_
 refine TAe.then R1 q1 λm2 y u G2 H2 s2 w2 R2 d2 q2=>?_
 obtain ⟨z,hz,k⟩:=Tr.ok_of q2
 exact hv PK pa m2 G2 H2 v u x y z Q w2 (d1.mono s2.gs) d2 hz (Kn.later k (s1.trans s2 w1.some) w2.some)
theorem aR {op:Operator} {r:R2} {f:PyData->PyData->Option PyData} (ho:OpR X (binaryOp op) r) (hv:b9 r f) (ha:PE X a (TAe PK i)) (hb:PE X b (TAe PK j)):PE X (.BinOp a op b pos) (TAe PK (ah f i j)) :=
 (cm ho ha hb).imp (qX hv)
theorem iC {op:CmpOp} {r:R2} {f:PyData->PyData->Option PyData} (ho:OpR X (compareOp op) r) (hv:b9 r f) (ha:PE X a (TAe PK i)) (hb:PE X b (TAe PK j)) (hm:behindInMarks op b=false):PE X (.Compare a [op] [b] pos) (TAe PK (ah f i j)) :=
 (ZhY ho ha hb hm).imp (qX hv)
theorem cz {r:R2} {f:PyData->PyData->Option PyData} (hr:IxR X r) (hv:b9 r f) (ha:PE X a (TAe PK i)) (hb:PE X b (TAe PK j)) (hs:ZeL b):PE X (.Subscript a b pos) (TAe PK (ah f i j)) :=
 (tw hr ha hb hs).imp (qX hv)
noncomputable def jx:PyData->Option Bool
 | .bool b=>some b
 | _=>none
@[simp] theorem Zqd (b:Bool):jx (.bool b)=some b:=rfl
noncomputable def aT (i:List Sl->Tr PyData):List Sl->Tr Bool:=λρ=>(i ρ).bind λx=>Tr.of (jx x)
theorem ZeJ:∀ σ H Q,TAt PK (aT i) σ H Q->mi (TAe PK i) σ H Q:=by
 rintro σ H Q ⟨pa,G₀,H₀,m,ρ,G,R,q⟩
 refine TAe.then R q λm1 x v G1 H1 s1 w1 R1 d1 q1=>?_
 obtain ⟨b,hb,k⟩:=Tr.ok_of q1
 cases d1 <;> simp only [jx] at hb <;> cases hb
 exact ⟨_,rfl,k G1 H1 s1 w1⟩
theorem ZaB {t t':TE} (h:∀ σ H Q,t' σ H Q->t σ H Q):∀ σ H Q,mi t' σ H Q->mi t σ H Q:=λσ H Q z=>h σ H _ z
theorem bi {op:CmpOp} {r:R2} {f:PyData->PyData->Option PyData} (ho:OpR X (compareOp op) r) (hv:b9 r f) (ha:PE X a (TAe PK i)) (hb:PE X b (TAe PK j)) (hm:behindInMarks op b=false):PT X (.Compare a [op] [b] pos) (TAt PK (aT (ah f i j))) :=
 (mO ho ha hb hm).imp λσ H Q z=>ZaB (qX hv) σ H Q (ZeJ σ H Q z)
noncomputable def Zaw:PyData->Option Bool
 | .bool b=>some b
 | .int n=>some (n != 0)
 | .none=>some false
 | .list xs=>some (!xs.isEmpty)
 | .tuple xs=>some (!xs.isEmpty)
 | _=>none
noncomputable def cJ (i:List Sl->Tr PyData):List Sl->Tr Bool:=λρ=>(i ρ).bind λx=>Tr.of (Zaw x)
theorem DnAll.isEmpty {H:Hp} {vs:List V} {ds:List PyData} (h:DnAll H vs ds):vs.isEmpty=ds.isEmpty:=by
 cases h <;> rfl
theorem cV (h:PE X e (TAe PK i)) (he:∀ whole,isTrue e X.env whole=(do let v <- whole; standAt e.pos; holding [v] (truthy v)):=by intro _; rfl):PT X e (TAt PK (cJ i)):=(ZhA h he).imp λσ H Q hz0=>by
 obtain ⟨pa,G₀,H₀,m,ρ,G,R,q⟩:=hz0
 refine TAe.then R q λm1 x v G1 H1 s1 w1 R1 d1 q1=>?_
 obtain ⟨b,hb,k⟩:=Tr.ok_of q1
 have fin:=k G1 H1 s1 w1
 cases d1 with
 | non=>cases hb; exact ⟨_,rfl,fin⟩
 | bl b=>cases hb; exact ⟨_,rfl,fin⟩
 | int n=>cases hb; exact ⟨_,rfl,fin⟩
 | str _=>cases hb
 | tup h1 h2=>cases hb; exact ⟨_,.inr (.inl ⟨_,SqT.of (w1.sub _ _ h1),rfl⟩),by rw [h2.isEmpty]; exact fin⟩
 | lst h1 h2=>cases hb; exact ⟨_,.inl ⟨_,SqL.of (w1.sub _ _ h1),rfl⟩,by rw [h2.isEmpty]; exact fin⟩
 | dct _ _=>cases hb
noncomputable def qZ (i j:List Sl->Tr Bool):List Sl->Tr Bool:=λρ=>(i ρ).bind λx=>if x=true then j ρ else .ret false
noncomputable def b7 (i j:List Sl->Tr Bool):List Sl->Tr Bool:=λρ=>(i ρ).bind λx=>if x=true then .ret true else j ρ
noncomputable def cA (i:List Sl->Tr Bool):List Sl->Tr Bool:=λρ=>(i ρ).bind λx=>.ret (!x)
variable {p q:List Sl->Tr Bool} {rest:List Expr}
theorem TAt.then {σ:St} {H:Hp} {β:Type} {k:Bool->Tr β} {Z:Nat->β->Prop} {Q:Bool->Hp->Prop} {pa:Addr} {G₀ H₀ G:Hp} {m:Nat} {ρ:List Sl} (R:Rl PK pa G₀ H₀ m σ ρ G H) (h:((p ρ).bind k).ok m Z)
  (hq:∀ m1 x G1 H1,Stp pa G H G1 H1->Wd PK pa m1 G1 H1->Rl PK pa G₀ H₀ m1 σ ρ G1 H1->(k x).ok m1 Z->Q x H1):TAt PK p σ H Q:=by
 refine ⟨pa,G₀,H₀,m,ρ,G,R,Tr.ok_mono (Tr.ok_bind.mp h) λm1 x hx G1 H1 s1 w1=>?_⟩
 exact hq m1 x G1 H1 s1 w1 (R.step s1 w1) hx
theorem Zey {G₀ H₀ G H G1 H1:Hp} {m:Nat} {σ:St} {ρ:List Sl} {pa:Addr} {Q:Bool->Hp->Prop} (R1:Rl PK pa G₀ H₀ m σ ρ G1 H1) (s1:Stp pa G H G1 H1) (h:(q ρ).ok m λm' b=>∀ G' H',Stp pa G H G' H'->Wd PK pa m' G' H'->Q b H'):TAt PK q σ H1 Q :=
 ⟨pa,G₀,H₀,m,ρ,G1,R1,Tr.ok_mono h λm2 b k G2 H2 s2 w2=>k G2 H2 (s1.trans s2 R1.wd.some) w2⟩
theorem qT {G₀ H₀ G H G1 H1:Hp} {m:Nat} {σ:St} {ρ:List Sl} {pa:Addr} {Q:VK} (R1:Rl PK pa G₀ H₀ m σ ρ G1 H1) (s1:Stp pa G H G1 H1) (h:(i ρ).ok m λm' x=>Kn PK pa m' G H x Q):TAe PK i σ H1 Q :=
 ⟨pa,G₀,H₀,m,ρ,G1,R1,Tr.ok_mono h λm2 b k=>Kn.later k s1 R1.wd.some⟩
theorem Zew (ha:PT X a (TAt PK p)):PW X (.BoolOp .And [a] pos) (TAt PK p):=Zhy ha
theorem eG (ha:PT X a (TAt PK p)):PW X (.BoolOp .Or [a] pos) (TAt PK p):=sW ha
theorem Zex (ha:PT X a (TAt PK p)) (hb:PW X (.BoolOp .And (b::rest) pos) (TAt PK q)):PW X (.BoolOp .And (a::b::rest) pos) (TAt PK (qZ p q)):=(Zhz ha hb).imp λσ H Q hz0=>by
 obtain ⟨pa,G₀,H₀,m,ρ,G,R,z⟩:=hz0
 refine TAt.then R z λm1 x G1 H1 s1 w1 R1 q1=>?_
 cases x with
 | true=>rw [if_pos rfl] at q1 ⊢; exact Zey R1 s1 q1
 | false=>rw [if_neg Bool.false_ne_true] at q1 ⊢; exact q1 G1 H1 s1 w1
theorem cH (ha:PT X a (TAt PK p)) (hb:PW X (.BoolOp .Or (b::rest) pos) (TAt PK q)):PW X (.BoolOp .Or (a::b::rest) pos) (TAt PK (b7 p q)):=(sX ha hb).imp λσ H Q hz0=>by
 obtain ⟨pa,G₀,H₀,m,ρ,G,R,z⟩:=hz0
 refine TAt.then R z λm1 x G1 H1 s1 w1 R1 q1=>?_
 cases x with
 | true=>rw [if_pos rfl] at q1 ⊢; exact q1 G1 H1 s1 w1
 | false=>rw [if_neg Bool.false_ne_true] at q1 ⊢; exact Zey R1 s1 q1
theorem dL (h:PW X e (TAt PK p)):PT X e (TAt PK p):=h.pt
theorem cI (ha:PT X a (TAt PK p)):PT X (.UnaryOp .Not a pos) (TAt PK (cA p)):=(sZ ha).imp λσ H Q hz0=>by
 obtain ⟨pa,G₀,H₀,m,ρ,G,R,z⟩:=hz0
 refine TAt.then R z λm1 x G1 H1 s1 w1 R1 q1=>?_
 exact q1 G1 H1 s1 w1
noncomputable def qY (i j:List Sl->Tr PyData):List Sl->Tr PyData:=λρ=>(aT i ρ).bind λx=>if x=true then j ρ else .ret (.bool false)
noncomputable def vp (i j:List Sl->Tr PyData):List Sl->Tr PyData:=λρ=>(aT i ρ).bind λx=>if x=true then .ret (.bool true) else j ρ
noncomputable def vq (i:List Sl->Tr PyData):List Sl->Tr PyData:=λρ=>(aT i ρ).bind λx=>.ret (.bool (!x))
theorem TAe.thenB {σ:St} {H:Hp} {β:Type} {k:Bool->Tr β} {Z:Nat->β->Prop} {Q:VK} {pa:Addr} {G₀ H₀ G:Hp} {m:Nat} {ρ:List Sl} (R:Rl PK pa G₀ H₀ m σ ρ G H) (h:((aT i ρ).bind k).ok m Z)
  (hq:∀ m1 c G1 H1,Stp pa G H G1 H1->Wd PK pa m1 G1 H1->Rl PK pa G₀ H₀ m1 σ ρ G1 H1->(k c).ok m1 Z->Q (.bl c) H1):TAe PK i σ H Q:=by
 unfold aT at h
 rw [Tr.bind_assoc] at h
 refine TAe.then R h λm1 x v G1 H1 s1 w1 R1 d1 q1=>?_
 rw [Tr.ok_bind] at q1
 obtain ⟨c,hb,q1⟩:=Tr.ok_of q1
 cases d1 <;> simp only [jx] at hb <;> cases hb
 exact hq m1 _ G1 H1 s1 w1 R1 q1
theorem vj {op} (h:PE X a (TAe PK i)):PE X (.BoolOp op [a] pos) (TAe PK i):=ZhS h
theorem ZeG (ha:PE X a (TAe PK i)) (hb:PE X (.BoolOp .And (b::rest) pos) (TAe PK j)):PE X (.BoolOp .And (a::b::rest) pos) (TAe PK (qY i j)):=(Zh2 ha hb).imp λσ H Q hz0=>by
 obtain ⟨pa,G₀,H₀,m,ρ,G,R,z⟩:=hz0
 refine TAe.thenB R z λm1 x G1 H1 s1 w1 R1 q1=>⟨x,rfl,?_⟩
 cases x with
 | true=>rw [if_pos rfl] at q1 ⊢; exact qT R1 s1 q1
 | false=>rw [if_neg Bool.false_ne_true] at q1 ⊢; exact (Kn.later q1 s1 w1.some).here w1 (.bl false)
theorem Zpz (ha:PE X a (TAe PK i)) (hb:PE X (.BoolOp .Or (b::rest) pos) (TAe PK j)):PE X (.BoolOp .Or (a::b::rest) pos) (TAe PK (vp i j)):=(ZhR ha hb).imp λσ H Q hz0=>by
 obtain ⟨pa,G₀,H₀,m,ρ,G,R,z⟩:=hz0
 refine TAe.thenB R z λm1 x G1 H1 s1 w1 R1 q1=>⟨x,rfl,?_⟩
 cases x with
 | true=>rw [if_pos rfl] at q1 ⊢; exact (Kn.later q1 s1 w1.some).here w1 (.bl true)
 | false=>rw [if_neg Bool.false_ne_true] at q1 ⊢; exact qT R1 s1 q1
theorem ZpA (ha:PE X a (TAe PK i)):PE X (.UnaryOp .Not a pos) (TAe PK (vq i)):=(ZhT ha).imp λσ H Q hz0=>by
 obtain ⟨pa,G₀,H₀,m,ρ,G,R,z⟩:=hz0
 refine TAe.thenB R z λm1 x G1 H1 s1 w1 R1 q1=>⟨x,rfl,?_⟩
 exact (Kn.later q1 s1 w1.some).here w1 (.bl _)
noncomputable def vv (p:List Sl->Tr Bool) (i j:List Sl->Tr PyData):List Sl->Tr PyData:=λρ=>(p ρ).bind λx=>if x=true then i ρ else j ρ
theorem ZpB (hc:PT X c (TAt PK p)) (ha:PE X a (TAe PK i)) (hb:PE X b (TAe PK j)):PE X (.IfExp c a b pos) (TAe PK (vv p i j)):=(ZhU hc ha hb).imp λσ H Q hz0=>by
 obtain ⟨pa,G₀,H₀,m,ρ,G,R,z⟩:=hz0
 refine TAt.then R z λm1 x G1 H1 s1 w1 R1 q1=>?_
 cases x with
 | true=>rw [if_pos rfl] at q1 ⊢; exact qT R1 s1 q1
 | false=>rw [if_neg Bool.false_ne_true] at q1 ⊢; exact qT R1 s1 q1
variable {is:List Sl->Tr (List PyData)}
noncomputable def ao:List Sl->Tr (List PyData):=λ_=>.ret []
noncomputable def ai (i:List Sl->Tr PyData) (is:List Sl->Tr (List PyData)):List Sl->Tr (List PyData):=λρ=>(i ρ).bind λx=>(is ρ).bind λxs=>.ret (x::xs)
theorem au:PA X [] (TAd PK ao):=bp.imp λσ H Q hz0=>by
 obtain ⟨pa,G₀,H₀,m,ρ,G,R,z⟩:=hz0
 exact z [] G H .refl R.wd .nil
theorem TAd.then {σ:St} {H:Hp} {β:Type} {k:List PyData->Tr β} {Z:Nat->β->Prop} {Q:List V->Hp->Prop} {pa:Addr} {G₀ H₀ G:Hp} {m:Nat} {ρ:List Sl} (R:Rl PK pa G₀ H₀ m σ ρ G H) (h:((is ρ).bind k).ok m Z)
  (hq:∀ m1 xs vs G1 H1,Stp pa G H G1 H1->Wd PK pa m1 G1 H1->Rl PK pa G₀ H₀ m1 σ ρ G1 H1->DnAll G1 vs xs->(k xs).ok m1 Z->Q vs H1):TAd PK is σ H Q:=by
 refine ⟨pa,G₀,H₀,m,ρ,G,R,Tr.ok_mono (Tr.ok_bind.mp h) λm1 x hx v G1 H1 s1 w1 d1=>?_⟩
 exact hq m1 x v G1 H1 s1 w1 (R.step s1 w1) d1 hx
theorem av (ha:PE X e (TAe PK i)) (hr:PA X es (TAd PK is)) (hs:starEach (e::es) X.env=(false,eval e X.env)::starEach es X.env:=by rfl):PA X (e::es) (TAd PK (ai i is)):=(aN ha hr hs).imp λσ H Q hz0=>by
 obtain ⟨pa,G₀,H₀,m,ρ,G,R,z⟩:=hz0
 refine TAe.then R z λm1 x v G1 H1 s1 w1 R1 d1 q1=>?_
 refine TAd.then R1 q1 λm2 xs vs G2 H2 s2 w2 R2 d2 q2=>?_
 exact q2 _ _ _ (s1.trans s2 w1.some) w2 (.cons (d1.mono s2.gs) d2)
noncomputable def small (n:Nat):Bool:=decide (n<=sizeLine)
noncomputable def nL (is:List Sl->Tr (List PyData)):List Sl->Tr PyData:=λρ=>(is ρ).bind λxs=>if small xs.length=true then .ret (.tuple xs) else .fail
noncomputable def bf (is:List Sl->Tr (List PyData)):List Sl->Tr PyData:=λρ=>(is ρ).bind λxs=>.ret (.list xs)
noncomputable def cB (is:List Sl->Tr (List PyData)):List Sl->Tr (List PyData):=λρ=>(is ρ).bind λxs=>if small xs.length=true then .ret xs else .fail
theorem gc {α:Type} {c:Bool} {t:Tr α} {m:Nat} {Q:Nat->α->Prop} (h:(if c=true then t else .fail).ok m Q):c=true/\t.ok m Q:=by
 cases c with
 | true=>exact ⟨rfl,h⟩
 | false=>exact h.elim
theorem vi {x1} (h:PA X es (TAd PK is)):PE X (.Tuple es x1 pos) (TAe PK (nL is)):=(pI h).imp λσ H Q hz0=>by
 obtain ⟨pa,G₀,H₀,m,ρ,G,R,z⟩:=hz0
 refine TAd.then R z λm1 xs vs G1 H1 s1 w1 R1 d1 q1=>?_
 obtain ⟨hs,k⟩:=gc q1
 exact ⟨by rw [d1.length]; exact of_decide_eq_true hs,λp hp=>(Kn.later k s1 w1.some).tup w1 d1 hp⟩
theorem Ko1.new {pa:Addr} {m:Nat} {G H:Hp} {xs:List PyData} {vs:List V} {Q:VK} {p:Addr} (k:Ko1 PK pa m G H xs Q) (w:Wd PK pa m G H) (d:DnAll G vs xs) (hp:H p=none):Q (.ref p) (upd H p (.lst vs)):=by
 obtain ⟨w1,s1⟩:=w.own (o:=.lst vs) hp
 exact k p vs G _ s1 w1 hp (w.gnone hp) bM d
theorem Ko1.later {pa:Addr} {m:Nat} {G H G1 H1:Hp} {xs:List PyData} {Q:VK} (k:Ko1 PK pa m G H xs Q) (s:Stp pa G H G1 H1) (hp:∃ o,H1 pa=some o):Ko1 PK pa m G1 H1 xs Q:=λp vs G' H' s' w' h1 h2 h3 h4=>by
 refine k p vs G' H' (s.trans s' hp) w' ?_ h2 h3 h4
 cases e:H p with
 | none=>rfl
 | some u =>
  by_cases hc:p=pa
  ·subst hc
   obtain ⟨o,z⟩:=hp
   rw [h1] at z; cases z
  ·rw [s.hk p u e hc] at h1; cases h1
theorem cN (h:PA X es (TAd PK is)):PE X (.List es pos) (jq PK (cB is)):=(jI h).imp λσ H Q hz0=>by
 obtain ⟨pa,G₀,H₀,m,ρ,G,R,z⟩:=hz0
 refine TAd.then R z λm1 xs vs G1 H1 s1 w1 R1 d1 q1=>?_
 obtain ⟨hs,k⟩:=gc q1
 exact ⟨by rw [d1.length]; exact of_decide_eq_true hs,λp hp=>(Ko1.later k s1 w1.some).new w1 d1 hp⟩
theorem Ko1.of {pa:Addr} {m:Nat} {G H:Hp} {xs:List PyData} {Q:VK} (k:Kn PK pa m G H (.list xs) Q) (hp:∃ o,H pa=some o):Ko1 PK pa m G H xs Q:=λp vs G' H' s w h1 h2 h3 h4=>by
 have hne:pa≠p:=λe=>by
  obtain ⟨o,z⟩:=hp
  rw [e,h1] at z; cases z
 have sb:Sub G' (upd G' p (.lst vs)):=Sub.new h2
 refine k _ (upd G' p (.lst vs)) H' ⟨λb o h=>sb b o (s.gs b o h),λb o h=>?_,s.hk⟩ (w.freeze h3 h2 hne) (.lst bM (DnAll.mono sb h4))
 by_cases e:b=p
 ·subst e; exact .inr h1
 ·rw [aO e] at h; exact s.gn b o h
theorem bu (h:PE X e (jq PK is)):PE X e (TAe PK (bf is)):=h.imp λσ H Q hz0=>by
 obtain ⟨pa,G₀,H₀,m,ρ,G,R,z⟩:=hz0
 refine ⟨pa,G₀,H₀,m,ρ,G,R,Tr.ok_mono (Tr.ok_bind.mp z) λm1 xs k=>Ko1.of k R.wd.some⟩
noncomputable def dZ (r:List V->Hp->VK->Prop) (f:List PyData->Option PyData):Prop:=∀ (PK:Pk) (pa:Addr) (m:Nat) (G H:Hp) (vs:List V) (ds:List PyData) (d:PyData) (Q:VK),Wd PK pa m G H->DnAll G vs ds->f ds=some d->Kn PK pa m G H d Q->r vs H Q
noncomputable def aM (f:List PyData->Option PyData) (is:List Sl->Tr (List PyData)):List Sl->Tr PyData:=λρ=>(is ρ).bind λxs=>Tr.of (f xs)
theorem ZpJ {r:List V->Hp->VK->Prop} {f:List PyData->Option PyData} (hv:dZ r f):∀ σ H Q,TAe PK (aM f is) σ H Q->kJ r (TAd PK is) σ H Q:=by
 rintro σ H Q ⟨pa,G₀,H₀,m,ρ,G,R,z⟩
 refine TAd.then R z λm1 xs vs G1 H1 s1 w1 R1 d1 q1=>?_
 obtain ⟨d,hd,k⟩:=Tr.ok_of q1
 exact hv PK pa m1 G1 H1 vs xs d Q w1 d1 hd (Kn.later k s1 w1.some)
theorem aU {t:TA} {r:List V->Hp->VK->Prop} {f:List PyData->Option PyData} (h:PE X e (kJ r (TAd PK is))) (hv:dZ r f):PE X e (TAe PK (aM f is)):=h.imp (ZpJ hv)
variable {as:List Sl->Tr (List Sl)}
noncomputable def ap:List Sl->Tr (List Sl):=λ_=>.ret []
noncomputable def am (i:List Sl->Tr PyData) (as:List Sl->Tr (List Sl)):List Sl->Tr (List Sl):=λρ=>(i ρ).bind λx=>(as ρ).bind λxs=>.ret (.d x::xs)
noncomputable def bA (k:Nat) (as:List Sl->Tr (List Sl)):List Sl->Tr (List Sl):=λρ=>match ρ[k]? with
 | some .pen=>(as ρ).bind λxs=>.ret (.pen::xs)
 | _=>.fail
theorem aw:PA X [] (TAa PK ap):=bp.imp λσ H Q hz0=>by
 obtain ⟨pa,G₀,H₀,m,ρ,G,R,z⟩:=hz0
 exact z [] G H .refl R.wd .nil
theorem TAa.then {σ:St} {H:Hp} {β:Type} {k:List Sl->Tr β} {Z:Nat->β->Prop} {Q:List V->Hp->Prop} {pa:Addr} {G₀ H₀ G:Hp} {m:Nat} {ρ:List Sl} (R:Rl PK pa G₀ H₀ m σ ρ G H) (h:((as ρ).bind k).ok m Z)
  (hq:∀ m1 xs vs G1 H1,Stp pa G H G1 H1->Wd PK pa m1 G1 H1->Rl PK pa G₀ H₀ m1 σ ρ G1 H1->ArsOk pa G1 vs xs->(k xs).ok m1 Z->Q vs H1):TAa PK as σ H Q:=by
 refine ⟨pa,G₀,H₀,m,ρ,G,R,Tr.ok_mono (Tr.ok_bind.mp h) λm1 x hx v G1 H1 s1 w1 d1=>?_⟩
 exact hq m1 x v G1 H1 s1 w1 (R.step s1 w1) d1 hx
theorem aq (ha:PE X e (TAe PK i)) (hr:PA X es (TAa PK as)) (hs:starEach (e::es) X.env=(false,eval e X.env)::starEach es X.env:=by rfl):PA X (e::es) (TAa PK (am i as)):=(aN ha hr hs).imp λσ H Q hz0=>by
 obtain ⟨pa,G₀,H₀,m,ρ,G,R,z⟩:=hz0
 refine TAe.then R z λm1 x v G1 H1 s1 w1 R1 d1 q1=>?_
 refine TAa.then R1 q1 λm2 xs vs G2 H2 s2 w2 R2 d2 q2=>?_
 exact q2 _ _ _ (s1.trans s2 w1.some) w2 (.cons (.d (d1.mono s2.gs)) d2)
theorem bF {k:Nat} (ha:PE X e (gE k)) (hr:PA X es (TAa PK as)) (hs:starEach (e::es) X.env=(false,eval e X.env)::starEach es X.env:=by rfl):PA X (e::es) (TAa PK (bA k as)):=(aN ha hr hs).imp λσ H Q hz0=>by
 obtain ⟨pa,G₀,H₀,m,ρ,G,R,z⟩:=hz0
 unfold bA at z
 split at z
 ·rename_i hk
  obtain ⟨o,h1,h2⟩:=R.sl k _ hk
  cases h2
  refine ⟨_,h1,?_⟩
  refine TAa.then R z λm2 xs vs G2 H2 s2 w2 R2 d2 q2=>?_
  exact q2 _ _ _ s2 w2 (.cons .pen d2)
 ·exact z.elim
noncomputable def vn (PK:Pk) (n:Nat) (f:List Sl->Tr Re):Sp:=λvs H Q _=>vs.length=n/\∃ pa m G as,Wd PK pa m G H/\ArsOk pa G vs as/\(f as).ok m λm' r=>Kr PK pa m' G H r Q
noncomputable def aB (f:List Sl->Tr Re) (as:List Sl->Tr (List Sl)):List Sl->Tr Re:=λρ=>(as ρ).bind f
noncomputable def az (f:List Sl->Tr Re):List Sl->Tr PyData:=λρ=>(f ρ).bind λr=>.ret r.val
noncomputable def q9 (PK:Pk) (i:List Sl->Tr Re):TE:=λσ H Q=>∃ pa G₀ H₀ m ρ G,Rl PK pa G₀ H₀ m σ ρ G H/\(i ρ).ok m λm' r=>Kr PK pa m' G H r Q
theorem Kr.later {pa:Addr} {m:Nat} {G H G1 H1:Hp} {r:Re} {Q:VK} (k:Kr PK pa m G H r Q) (s:Stp pa G H G1 H1) (hp:∃ o,H1 pa=some o):Kr PK pa m G1 H1 r Q:=λv G' H' s' w' d=>by
 refine k v G' H' (s.trans s' hp) w' ?_
 cases r with
 | d x=>exact d
 | own xs =>
  obtain ⟨p,vs,e,h1,h2,h3,h4⟩:=d
  refine ⟨p,vs,e,h1,h2,?_,h4⟩
  cases e:H p with
  | none=>rfl
  | some u =>
   by_cases hc:p=pa
   ·subst hc
    obtain ⟨o,z⟩:=hp
    rw [h3] at z; cases z
   ·rw [s.hk p u e hc] at h3; cases h3
theorem Kr.of {pa:Addr} {m:Nat} {G H:Hp} {r:Re} {Q:VK} (k:Kn PK pa m G H r.val Q) (hp:∃ o,H pa=some o):Kr PK pa m G H r Q:=λv G' H' s w d=>by
 cases r with
 | d x=>exact k v G' H' s w d
 | own xs =>
  obtain ⟨p,vs,rfl,h1,h2,h3,h4⟩:=d
  exact Ko1.of k hp p vs G' H' s w h3 h2 h1 h4
theorem aF {f:List Sl->Tr Re} (h:PE X e (q9 PK f)):PE X e (TAe PK (az f)):=h.imp (by
 intro σ H Q z
 obtain ⟨pa,G₀,H₀,m,ρ,G,R,z⟩:=z
 exact ⟨pa,G₀,H₀,m,ρ,G,R,Tr.ok_mono (Tr.ok_bind.mp z) λm1 r k=>Kr.of k R.wd.some⟩)
structure ACal (PK:Pk) (P:Program) (w:World) (K:PySem.W.Frag) (mg:Str->Option Value) (base:Heap) (x:Str) (k:Nat) (ps:List Str) (f:List Sl->Tr Re):Prop where
 cal:Callee P w K mg base x k ps (vn PK ps.length f)
 len:∀ as m Z,(f as).ok m Z->as.length=ps.length
theorem aG {x:Str} {k:Nat} {ps:List Str} {f:List Sl->Tr Re} {pp:Pos} (C:ACal PK X.prog X.w X.K X.mg X.base x k ps f) (hr:Room k X.A) (hg:Gl X x) (ha:PA X (e::es) (TAa PK as))
  (hdb:(x == ("__debug__":Str))=false:=by decide)
  (he:starEach (e::es) X.env=(false,eval e X.env)::starEach es X.env:=by rfl) (hpl:(backTo pos (starEach es X.env)).any (·.1)=false:=by rfl):PE X (.Call (.Name x pp) (e::es) [] pos) (q9 PK (aB f as)) :=
 (Zb4 C.cal hr hg ha hdb he hpl).imp λσ H Q hz0=>by
  obtain ⟨pa,G₀,H₀,m,ρ,G,R,z⟩:=hz0
  refine TAa.then R z λm1 xs vs G1 H1 s1 w1 R1 d1 q1=>?_
  show vn PK ps.length f (vs++[]) H1 Q E0
  rw [List.append_nil]
  exact ⟨by rw [d1.length]; exact C.len _ _ _ q1,pa,m1,G1,xs,w1,d1,Tr.ok_mono q1 λm2 r k=>Kr.later k s1 w1.some⟩
variable {PK:Pk} {X:Cx} {a b c e:Expr} {es:List Expr} {pos:Pos} {i j l:List Sl->Tr PyData} {is:List Sl->Tr (List PyData)} {as:List Sl->Tr (List Sl)} {f:List Sl->Tr Re} {p q:List Sl->Tr Bool} {st:Stmt} {sts:List Stmt} {s t u:List Sl->Tr Ou}
noncomputable def ay (s t:List Sl->Tr Ou):List Sl->Tr Ou:=λρ=>(s ρ).bind λo=>match o with
 | .next ρ'=>t ρ'
 | o=>.ret o
noncomputable def bn:List Sl->Tr Ou:=λρ=>.ret (.next ρ)
theorem Ko.later {pa:Addr} {G₀ H₀ Gs G:Hp} {D:Ends} {m:Nat} {o:Ou} (k:Ko PK pa G₀ H₀ Gs D m o) (sb:Sub Gs G):Ko PK pa G₀ H₀ G D m o:=by
 cases o with
 | next ρ=>exact λσ G' H s R=>k σ G' H (λb o h=>s b o (sb b o h)) R
 | ret r=>exact k
 | brk ρ=>exact λσ G' H s R=>k σ G' H (λb o h=>s b o (sb b o h)) R
 | cont ρ=>exact λσ G' H s R=>k σ G' H (λb o h=>s b o (sb b o h)) R
theorem Sub.refl {G:Hp}:Sub G G:=λ_ _ h=>h
theorem Sub.trans {G G1 G2:Hp} (a:Sub G G1) (b:Sub G1 G2):Sub G G2:=λc o h=>b c o (a c o h)
theorem bz:PSs X [] (bC PK bn):=jH.imp λD σ H hz0=>by
 obtain ⟨pa,G₀,H₀,m,ρ,G,R,z⟩:=hz0
 exact z σ G H .refl R
theorem ZpI:∀ D σ H,bC PK (ay s t) D σ H->rU (bC PK s) (bC PK t) D σ H:=by
 rintro D σ H ⟨pa,G₀,H₀,m,ρ,G,R,z⟩
 refine ⟨pa,G₀,H₀,m,ρ,G,R,Tr.ok_mono (Tr.ok_bind.mp z) λm1 o k=>?_⟩
 cases o with
 | next ρ'=>exact λσ' G' H' sb R'=>⟨pa,G₀,H₀,m1,ρ',G',R',Tr.ok_mono k λ_ _ k'=>Ko.later k' sb⟩
 | ret r=>exact k
 | brk ρ'=>exact k
 | cont ρ'=>exact k
theorem aA (h1:PS X st (bC PK s)) (h2:PSs X sts (bC PK t)):PSs X (st::sts) (bC PK (ay s t)):=(cG h1 h2).imp ZpI
theorem aE (h1:PS X st (bC PK s)):PSs X [st] (bC PK s):=fF h1
noncomputable def kj:List Sl->Tr Ou:=λ_=>.fail
theorem lL:PS X st (bC PK kj):=λ_ _ _ _ _ _ h=>by
 obtain ⟨pa,G₀,H₀,m,ρ,G,R,z⟩:=h
 exact z.elim
noncomputable def lT (i:List Sl->Tr PyData):List Sl->Tr Ou:=λρ=>(i ρ).bind λ_=>.ret (.next ρ)
theorem qP (he:PE X e (TAe PK i)) (hs:swapsWith e none pos.line X.env=pure false:=by rfl):PS X (.Expr e pos) (bC PK (lT i)):=(fY he hs).imp λD σ H hz0=>by
 obtain ⟨pa,G₀,H₀,m,ρ,G,R,z⟩:=hz0
 refine TAe.then R z λm1 x v G1 H1 s1 w1 R1 d1 q1=>?_
 exact q1 σ G1 H1 s1.gs R1
noncomputable def aW (i:List Sl->Tr PyData):List Sl->Tr Ou:=λρ=>(i ρ).bind λx=>.ret (.ret (.d x))
theorem ba (he:PE X e (TAe PK i)):PS X (.Return (some e) pos) (bC PK (aW i)):=(fX he).imp λD σ H hz0=>by
 obtain ⟨pa,G₀,H₀,m,ρ,G,R,z⟩:=hz0
 refine TAe.then R z λm1 x v G1 H1 s1 w1 R1 d1 q1=>?_
 exact q1 v G1 H1 R1.st w1 d1
noncomputable def vo (f:List Sl->Tr Re):List Sl->Tr Ou:=λρ=>(f ρ).bind λr=>.ret (.ret r)
theorem Zpv (he:PE X e (q9 PK f)):PS X (.Return (some e) pos) (bC PK (vo f)):=(fX he).imp (by
 intro D σ H z
 obtain ⟨pa,G₀,H₀,m,ρ,G,R,z⟩:=z
 exact ⟨pa,G₀,H₀,m,ρ,G,R,Tr.ok_mono (Tr.ok_bind.mp z) λm1 r k=>Kr.later k R.st R.wd.some⟩)
noncomputable def dO (k:Nat):List Sl->Tr Ou:=λρ=>match ρ[k]? with
 | some (.d x)=>.ret (.ret (.d x))
 | some (.own xs)=>.ret (.ret (.own xs))
 | _=>.fail
theorem gT {k:Nat} (he:PE X e (gE k)):PS X (.Return (some e) pos) (bC PK (dO k)):=(fX he).imp λD σ H hz0=>by
 obtain ⟨pa,G₀,H₀,m,ρ,G,R,z⟩:=hz0
 unfold dO at z
 split at z
 ·rename_i x hx
  obtain ⟨o,h1,h2⟩:=R.sl k _ hx
  cases h2 with
  | d d1=>exact ⟨_,h1,z _ G H R.st R.wd d1⟩
 ·rename_i xs hx
  obtain ⟨o,h1,h2⟩:=R.sl k _ hx
  cases h2 with
  | own a1 a2 a3 a4=>exact ⟨_,h1,z _ G H R.st R.wd ⟨_,_,rfl,a1,a2,a3,a4⟩⟩
 ·exact z.elim
noncomputable def bE (p:List Sl->Tr Bool) (s t:List Sl->Tr Ou):List Sl->Tr Ou:=λρ=>(p ρ).bind λx=>if x=true then s ρ else t ρ
theorem bR {xs ys:List Stmt} (hc:PT X c (TAt PK p)) (ha:PSs X xs (bC PK s)) (hb:PSs X ys (bC PK t)):PS X (.If c xs ys pos) (bC PK (bE p s t)):=(iT hc ha hb).imp λD σ H hz0=>by
 obtain ⟨pa,G₀,H₀,m,ρ,G,R,z⟩:=hz0
 refine TAt.then R z λm1 x G1 H1 s1 w1 R1 q1=>?_
 cases x with
 | true=>rw [if_pos rfl] at q1 ⊢; exact ⟨pa,G₀,H₀,m1,ρ,G1,R1,Tr.ok_mono q1 λ_ _ k'=>Ko.later k' s1.gs⟩
 | false=>rw [if_neg Bool.false_ne_true] at q1 ⊢; exact ⟨pa,G₀,H₀,m1,ρ,G1,R1,Tr.ok_mono q1 λ_ _ k'=>Ko.later k' s1.gs⟩
noncomputable def bv (k:Nat) (i:List Sl->Tr PyData):List Sl->Tr Ou:=λρ=>(i ρ).bind λx=>.ret (.next (ρ.set k (.d x)))
theorem bK {k:Nat} (h:PS X st (fA (TAe PK i) (eU k))):PS X st (bC PK (bv k i)):=h.imp λD σ H hz0=>by
 obtain ⟨pa,G₀,H₀,m,ρ,G,R,z⟩:=hz0
 refine TAe.then R z λm1 x v G1 H1 s1 w1 R1 d1 q1=>?_
 exact q1 _ G1 H1 s1.gs (R1.set d1 k)
noncomputable def iE (k:Nat) (is:List Sl->Tr (List PyData)):List Sl->Tr Ou:=λρ=>(is ρ).bind λx=>.ret (.next (ρ.set k (.own x)))
theorem ke {k:Nat} (h:PS X st (fA (jq PK is) (eU k))):PS X st (bC PK (iE k is)):=h.imp λD σ H hz0=>by
 obtain ⟨pa,G₀,H₀,m,ρ,G,R,z⟩:=hz0
 refine ⟨pa,G₀,H₀,m,ρ,G,R,Tr.ok_mono (Tr.ok_bind.mp z) λm1 xs k' p vs G1 H1 s1 w1 h1 h2 h3 h4=>?_⟩
 exact k' _ G1 H1 s1.gs ((R.step s1 w1).setO h3 h2 (R.h0 h1) h4 (λn ys e=>R.apart h1 n ys e) k)
noncomputable def gm (k:Nat) (i:List Sl->Tr PyData):List Sl->Tr Ou:=λρ=>match ρ[k]? with
 | some (.own xs)=>(i ρ).bind λx=>if small (xs.length+1)=true then .ret (.next (ρ.set k (.own (xs++[x])))) else .fail
 | _=>.fail
theorem DnAll.snoc {H:Hp} {vs:List V} {ds:List PyData} {v:V} {d:PyData} (h:DnAll H vs ds) (h1:Dn H v d):DnAll H (vs++[v]) (ds++[d]):=h.append (.cons h1 .nil)
theorem jj {k:Nat} {K:PySem.W.Frag} {st:Stmt} (h:PS X st (rX (tBM K "list" ZbR (gE k) (mj (TAe PK i) aP)))):PS X st (bC PK (gm k i)):=h.imp λD σ H hz0=>by
 obtain ⟨pa,G₀,H₀,m,ρ,G,R,z⟩:=hz0
 unfold gm at z
 split at z
 ·rename_i xs hx
  obtain ⟨o,h1,h2⟩:=R.sl k _ hx
  cases h2 with
  | @own p vs _ a1 a2 a3 a4 =>
   refine ⟨_,h1,.inl ⟨rfl,_,SqL.of a1⟩,?_⟩
   refine TAe.then R z λm1 x v G1 H1 s1 w1 R1 d1 q1=>?_
   obtain ⟨hs,q1⟩:=gc q1
   obtain ⟨o,h1',h2⟩:=R1.sl k _ hx
   rw [h1] at h1'
   cases h1'
   cases h2 with
   | @own _ vs1 _ b1 b2 b3 b4 =>
    have hs':xs.length+1<=sizeLine:=of_decide_eq_true hs
    refine ⟨p,vs1,v,rfl,rfl,b1,by rw [b4.length]; omega,?_⟩
    exact q1 σ G1 _ s1.gs (R1.change hx h1 (b4.snoc d1))
 ·exact z.elim
theorem DnAll.reverse {H:Hp} {vs:List V} {ds:List PyData} (h:DnAll H vs ds):DnAll H vs.reverse ds.reverse:=by
 induction vs generalizing ds with
 | nil=>cases h; exact .nil
 | cons v vs ih=>cases h with | cons r t=>rw [List.reverse_cons,List.reverse_cons]; exact DnAll.append (ih t) (.cons r .nil)
noncomputable def qV (k:Nat):List Sl->Tr Ou:=λρ=>match ρ[k]? with
 | some (.own xs)=>.ret (.next (ρ.set k (.own xs.reverse)))
 | _=>.fail
theorem Zpu {k:Nat} {K:PySem.W.Frag} (h:PS X st (rX (ZaF K "list" Zbx (gE k)))):PS X st (bC PK (qV k)):=h.imp λD σ H hz0=>by
 obtain ⟨pa,G₀,H₀,m,ρ,G,R,z⟩:=hz0
 unfold qV at z
 split at z
 ·rename_i xs hx
  obtain ⟨o,h1,h2⟩:=R.sl k _ hx
  cases h2 with
  | @own p vs _ a1 a2 a3 a4 =>
   refine ⟨_,h1,.inl ⟨rfl,_,SqL.of a1⟩,p,vs,rfl,rfl,a1,?_⟩
   exact z σ G _ .refl (R.change hx h1 a4.reverse)
 ·exact z.elim
noncomputable def iF (k:Nat) (s:List Sl->Tr Ou):List Sl->Tr Ou:=λρ=>s (fz k ρ)
theorem kg {k:Nat} (h:PS X st (bC PK s)):PS X st (bC PK (iF k s)):=h.imp λD σ H hz0=>by
 obtain ⟨pa,G₀,H₀,m,ρ,G,R,z⟩:=hz0
 obtain ⟨G',sb,R'⟩:=R.freeze k
 exact ⟨pa,G₀,H₀,m,_,G',R',Tr.ok_mono z λ_ _ k'=>Ko.later k' sb⟩
noncomputable def fQ (PK:Pk) (g:PyData->List Sl->Option (List Sl)):TG:=λv σ H Q=>∃ pa G₀ H₀ m ρ G x ρ',Rl PK pa G₀ H₀ m σ ρ G H/\Dn G v x/\g x ρ=some ρ'/\∀ σ',Rl PK pa G₀ H₀ m σ' ρ' G H->Q σ' H
noncomputable def ra (PK:Pk) (g:List PyData->List Sl->Option (List Sl)):iG:=λvs σ H Q=>∃ pa G₀ H₀ m ρ G xs ρ',Rl PK pa G₀ H₀ m σ ρ G H/\DnAll G vs xs/\g xs ρ=some ρ'/\∀ σ',Rl PK pa G₀ H₀ m σ' ρ' G H->Q σ' H
theorem PG.imp {tg:Expr} {t t':TG} (h:PG X tg t) (q:∀ v σ H Q,t' v σ H Q->t v σ H Q):PG X tg t':=λpins s σ H v u Q I r z=>h pins s σ H v u Q I r (q v σ H Q z)
theorem PGs.imp {tg:List Expr} {t t':iG} (h:PGs X tg t) (q:∀ v σ H Q,t' v σ H Q->t v σ H Q):PGs X tg t':=λpins s σ H v u Q I r z=>h pins s σ H v u Q I r (q v σ H Q z)
noncomputable def aj (k:Nat):PyData->List Sl->Option (List Sl):=λx ρ=>some (ρ.set k (.d x))
theorem bd {k:Nat} (h:PG X e (eU k)):PG X e (fQ PK (aj k)):=h.imp λv σ H Q hz0=>by
 obtain ⟨pa,G₀,H₀,m,ρ,G,x,ρ',R,d,e,q⟩:=hz0
 cases e
 exact q _ (R.set d k)
noncomputable def jc:List PyData->List Sl->Option (List Sl):=λxs ρ=>match xs with
 | []=>some ρ
 | _=>none
noncomputable def fk (g:PyData->List Sl->Option (List Sl)) (gs:List PyData->List Sl->Option (List Sl)):List PyData->List Sl->Option (List Sl):=λxs ρ=>match xs with
 | x::xs=>(g x ρ).bind λρ'=>gs xs ρ'
 | []=>none
theorem nJ:PGs X [] (ra PK jc):=ZbY.imp λvs σ H Q hz0=>by
 obtain ⟨pa,G₀,H₀,m,ρ,G,xs,ρ',R,d,e,q⟩:=hz0
 cases d with
 | nil=>cases e; exact ⟨rfl,q _ R⟩
 | cons _ _=>cases e
theorem gW {g:PyData->List Sl->Option (List Sl)} {gs:List PyData->List Sl->Option (List Sl)} (h1:PG X e (fQ PK g)) (h2:PGs X es (ra PK gs))
  (hs:(assignEach (e::es) X.env).map (·.2)=assign e X.env::(assignEach es X.env).map (·.2):=by rfl):PGs X (e::es) (ra PK (fk g gs)):=(pH h1 h2 hs).imp λvs σ H Q hz0=>by
 obtain ⟨pa,G₀,H₀,m,ρ,G,xs,ρ',R,d,e,q⟩:=hz0
 cases d with
 | nil=>cases e
 | cons d1 d2 =>
  have e':(g _ ρ).bind (λρ'=>gs _ ρ')=some ρ':=e
  cases h:g _ ρ with
  | none=>rw [h] at e'; cases e'
  | some ρ1 =>
   rw [h] at e'
   exact ⟨_,_,rfl,pa,G₀,H₀,m,ρ,G,_,ρ1,R,d1,h,λσ1 R1=>⟨pa,G₀,H₀,m,ρ1,G,_,ρ',R1,d2,e',q⟩⟩
noncomputable def ka (gs:List PyData->List Sl->Option (List Sl)):PyData->List Sl->Option (List Sl):=λx ρ=>match x with
 | .tuple xs=>gs xs ρ
 | _=>none
noncomputable def ql (n:Nat) (gs:List PyData->List Sl->Option (List Sl)):Prop:=∀ xs ρ ρ',gs xs ρ=some ρ'->xs.length=n
theorem nr:ql 0 jc:=λxs ρ ρ' h=>by cases xs with | nil=>rfl | cons _ _=>cases h
theorem gN {n:Nat} {g:PyData->List Sl->Option (List Sl)} {gs:List PyData->List Sl->Option (List Sl)} (h:ql n gs):ql (n+1) (fk g gs):=λxs ρ ρ' e=>by
 cases xs with
 | nil=>cases e
 | cons x xs =>
  have e':(g x ρ).bind (λρ'=>gs xs ρ')=some ρ':=e
  cases h1:g x ρ with
  | none=>rw [h1] at e'; cases e'
  | some ρ1 =>
   rw [h1] at e'
   exact congrArg (·+1) (h xs ρ1 ρ' e')
theorem nK {k:Nat} {gs:List PyData->List Sl->Option (List Sl)} {n:Nat} (hc:X.calm=true) (h:PGs X es (ra PK gs)) (hl:ql n gs)
  (hn:(assignEach es X.env).length=n:=by rfl) (hst:(assignEach es X.env).findIdx? (·.1)=none:=by rfl):PG X (.Tuple es k pos) (fQ PK (ka gs)):=(ZbZ hc h hn hst).imp λv σ H Q hz0=>by
 obtain ⟨pa,G₀,H₀,m,ρ,G,x,ρ',R,d,e,q⟩:=hz0
 cases d with
 | tup h1 h2=>exact ⟨_,_,rfl,SqT.of (R.wd.sub _ _ h1),by rw [h2.length]; exact hl _ _ _ e,pa,G₀,H₀,m,ρ,G,_,ρ',R,h2,e,q⟩
 | _=>cases e
noncomputable def kl (g:PyData->List Sl->Option (List Sl)) (i:List Sl->Tr PyData):List Sl->Tr Ou:=λρ=>(i ρ).bind λx=>(Tr.of (g x ρ)).bind λρ'=>.ret (.next ρ')
theorem nI {g:PyData->List Sl->Option (List Sl)} (h:PS X st (fA (TAe PK i) (fQ PK g))):PS X st (bC PK (kl g i)):=h.imp λD σ H hz0=>by
 obtain ⟨pa,G₀,H₀,m,ρ,G,R,z⟩:=hz0
 refine TAe.then R z λm1 x v G1 H1 s1 w1 R1 d1 q1=>?_
 rw [Tr.ok_bind] at q1
 obtain ⟨ρ',hg,q1⟩:=Tr.ok_of q1
 exact ⟨pa,G₀,H₀,m1,ρ,G1,x,ρ',R1,d1,hg,λσ' R'=>q1 σ' G1 H1 s1.gs R'⟩
noncomputable def lQ (k n:Nat) (is:List Sl->Tr (List PyData)):List Sl->Tr Ou:=λρ=>(is ρ).bind λxs=>match xs with
 | [x,y]=>.ret (.next ((ρ.set k (.d x)).set n (.d y)))
 | _=>.fail
theorem u9 {k n:Nat} (h:PS X st (ZaC k n (TAd PK is))):PS X st (bC PK (lQ k n is)):=h.imp λD σ H hz0=>by
 obtain ⟨pa,G₀,H₀,m,ρ,G,R,z⟩:=hz0
 refine TAd.then R z λm1 xs vs G1 H1 s1 w1 R1 d1 q1=>?_
 split at q1
 ·cases d1 with
  | cons e1 d1 =>
   cases d1 with
   | cons e2 d1 =>
    cases d1
    exact ⟨_,_,rfl,q1 _ G1 H1 s1.gs ((R1.set e1 k).set e2 n)⟩
 ·exact q1.elim
noncomputable def nO (PK:Pk) (pa:Addr) (J:It) (G:Hp) (xs:List PyData):Prop:=∀ m G2 H2,Sub G G2->Wd PK pa m G2 H2 ->
 (∀ (n:Nat) (d:PyData),xs[n]?=some d->J.go n H2/\∀ x H3,J.yld n H2 x H3->∃ G3,Stp pa G2 H2 G3 H3/\Wd PK pa m G3 H3/\Dn G3 x d)/\J.stop xs.length H2
noncomputable def gu (PK:Pk) (is:List Sl->Tr (List PyData)):TI:=λσ H R=>∃ pa G₀ H₀ m ρ G,Rl PK pa G₀ H₀ m σ ρ G H/\(is ρ).ok m λm' xs=>∀ J G' H',Stp pa G H G' H'->Wd PK pa m' G' H'->nO PK pa J G' xs->R J H'
theorem PI.imp {tg iter:Expr} {t t':TI} (h:PI X tg iter t) (q:∀ σ H R,t' σ H R->t σ H R):PI X tg iter t':=λpins s σ H R I z=>h pins s σ H R I (q σ H R z)
noncomputable def bJ (g:PyData->List Sl->Option (List Sl)) (s:List Sl->Tr Ou):List PyData->List Sl->Tr Ou
 | [],ρ=>.ret (.next ρ)
 | x::xs,ρ=>(Tr.of (g x ρ)).bind λρ1=>(s ρ1).bind λo=>match o with
  | .next ρ2=>bJ g s xs ρ2
  | .cont ρ2=>bJ g s xs ρ2
  | .brk ρ2=>.ret (.next ρ2)
  | .ret r=>.ret (.ret r)
noncomputable def fP (is:List Sl->Tr (List PyData)) (g:PyData->List Sl->Option (List Sl)) (s:List Sl->Tr Ou):List Sl->Tr Ou:=λρ=>(is ρ).bind λxs=>bJ g s xs ρ
theorem gU {tg iter:Expr} {body:List Stmt} {g:PyData->List Sl->Option (List Sl)} (hp:PassesOwn (model X.prog X.w) X.A X.env X.xe) (hc:X.calm=true) (hi:PI X tg iter (gu PK is)) (hg:PG X tg (fQ PK g)) (hb:PSs X body (bC PK s))
  (hs:∀ x,foldedSetIterable iter X.env x=pure x:=by intro _; rfl):PS X (.For tg iter body [] pos) (bC PK (fP is g s)):=(ZbT hp hc hi hg hb hs).imp λD σ H hz0=>by
 obtain ⟨pa,G₀,H₀,m,ρ,G,R,z⟩:=hz0
 refine ⟨pa,G₀,H₀,m,ρ,G,R,Tr.ok_mono (Tr.ok_bind.mp z) λm1 xs k J G1 H1 s1 w1 jo=>?_⟩
 let W:Nat->Nat->St->Hp->Prop:=λn mm σ H=>mm=xs.length - n/\n<=xs.length/\∃ m ρ G,Sub G1 G/\Rl PK pa G₀ H₀ m σ ρ G H/\(bJ g s (xs.drop n) ρ).ok m (Ko PK pa G₀ H₀ G1 D)
 refine ⟨W,⟨xs.length,rfl,Nat.zero_le _,m1,ρ,G1,λ_ _ h=>h,R.step s1 w1,Tr.ok_mono k λ_ _ k'=>Ko.later k' s1.gs⟩,?_⟩
 rintro n mm σ2 H2 ⟨rfl,hn,m2,ρ2,G2,sb,R2,k2⟩
 obtain ⟨j1,j2⟩:=jo m2 G2 H2 sb R2.wd
 by_cases hlt:n < xs.length
 ·have hx:xs[n]?=some xs[n]:=by simp [hlt]
  obtain ⟨jg,jy⟩:=j1 n _ hx
  refine .inr ⟨jg,W (n+1) (xs.length - (n+1)),λσ' H' h'=>⟨_,by omega,h'⟩,λx H3 y=>?_⟩
  obtain ⟨G3,s3,w3,d3⟩:=jy x H3 y
  rw [List.drop_eq_getElem_cons hlt] at k2
  unfold bJ at k2
  rw [Tr.ok_bind] at k2
  obtain ⟨ρ3,hg3,k3⟩:=Tr.ok_of k2
  refine ⟨pa,G₀,H₀,m2,ρ2,G3,_,ρ3,R2.step s3 w3,d3,hg3,λσ4 R4=>?_⟩
  refine ⟨pa,G₀,H₀,m2,ρ3,G3,R4,Tr.ok_mono (Tr.ok_bind.mp k3) λm5 o ko=>?_⟩
  have again:∀ ρ5,(bJ g s (xs.drop (n+1)) ρ5).ok m5 (Ko PK pa G₀ H₀ G1 D)->∀ σ5 G5 H5,Sub G3 G5->Rl PK pa G₀ H₀ m5 σ5 ρ5 G5 H5->W (n+1) (xs.length - (n+1)) σ5 H5:=λρ5 k5 σ5 G5 H5 sb5 R5 =>
   ⟨rfl,hlt,m5,ρ5,G5,(sb.trans s3.gs).trans sb5,R5,k5⟩
  cases o with
  | next ρ5=>exact again ρ5 ko
  | cont ρ5=>exact again ρ5 ko
  | brk ρ5=>exact λσ5 G5 H5 sb5 R5=>ko σ5 G5 H5 ((sb.trans s3.gs).trans sb5) R5
  | ret r=>exact ko
 ·have e:n=xs.length:=by omega
  subst e
  refine .inl ⟨j2,?_⟩
  rw [List.drop_length] at k2
  exact k2 σ2 G2 H2 sb R2
variable {PK:Pk} {X:Cx} {a b c e:Expr} {es:List Expr} {pos:Pos} {i j l:List Sl->Tr PyData} {is:List Sl->Tr (List PyData)} {as:List Sl->Tr (List Sl)} {f:List Sl->Tr Re} {p q:List Sl->Tr Bool} {st:Stmt} {sts:List Stmt} {s t u:List Sl->Tr Ou}
noncomputable def dg (p:List Sl->Tr Bool) (s:List Sl->Tr Ou):Nat->List Sl->Tr Ou
 | 0,_=>.fail
 | n+1,ρ=>(p ρ).bind λb=>if b=true then (s ρ).bind λo=>match o with
   | .next ρ2=>dg p s n ρ2
   | .cont ρ2=>dg p s n ρ2
   | .brk ρ2=>.ret (.next ρ2)
   | .ret r=>.ret (.ret r)
  else .ret (.next ρ)
theorem u7 {body:List Stmt} (n:Nat) (hp:PassesOwn (model X.prog X.w) X.A X.env X.xe) (hc:PT X c (TAt PK p)) (hb:PSs X body (bC PK s)):PS X (.While c body [] pos) (bC PK (dg p s n)):=(ZhE hp hc hb).imp λD σ H hz0=>by
 obtain ⟨pa,G₀,H₀,m,ρ,G,R,z⟩:=hz0
 let W:Nat->St->Hp->Prop:=λn σ H=>∃ m ρ G1,Sub G G1/\Rl PK pa G₀ H₀ m σ ρ G1 H/\(dg p s n ρ).ok m (Ko PK pa G₀ H₀ G D)
 refine ⟨W,⟨n,m,ρ,G,.refl,R,z⟩,?_⟩
 rintro n σ2 H2 ⟨m2,ρ2,G2,sb,R2,k2⟩
 cases n with
 | zero=>exact k2.elim
 | succ n =>
  unfold dg at k2
  refine TAt.then R2 k2 λm3 x G3 H3 s3 w3 R3 k3=>?_
  cases x with
  | false =>
   rw [if_neg Bool.false_ne_true] at k3 ⊢
   exact k3 σ2 G3 H3 (sb.trans s3.gs) R3
  | true =>
   rw [if_pos rfl] at k3 ⊢
   refine ⟨W n,λσ' H' h=>⟨n,by omega,h⟩,pa,G₀,H₀,m3,ρ2,G3,R3,Tr.ok_mono (Tr.ok_bind.mp k3) λm4 o ko=>?_⟩
   have again:∀ ρ5,(dg p s n ρ5).ok m4 (Ko PK pa G₀ H₀ G D)->∀ σ5 G5 H5,Sub G3 G5->Rl PK pa G₀ H₀ m4 σ5 ρ5 G5 H5->W n σ5 H5:=λρ5 k5 σ5 G5 H5 sb5 R5 =>
    ⟨m4,ρ5,G5,(sb.trans s3.gs).trans sb5,R5,k5⟩
   cases o with
   | next ρ5=>exact again ρ5 ko
   | cont ρ5=>exact again ρ5 ko
   | brk ρ5=>exact λσ5 G5 H5 sb5 R5=>ko σ5 G5 H5 ((sb.trans s3.gs).trans sb5) R5
   | ret r=>exact ko
noncomputable def uY:Sl->Sl
 | .own _=>.un
 | .dic _=>.un
 | s=>s
noncomputable def blk (n:Nat) (ix:List Nat) (ρ:List Sl):List Sl:=List.replicate n .un++ix.map λj=>uY ((ρ[j]?).getD .un)
theorem Rl.blk {pa:Addr} {G₀ H₀ G H:Hp} {m:Nat} {σ:St} {ρ:List Sl} (R:Rl PK pa G₀ H₀ m σ ρ G H) (n:Nat) (ix:List Nat):Rl PK pa G₀ H₀ m (dm n ix σ) (blk n ix ρ) G H:=by
 have key:∀ (k:Nat) (s:Sl),(L2.blk n ix ρ)[k]?=some s->(∃ o,(dm n ix σ)[k]?=some o/\SlOk pa H₀ G H o s)/\(∀ xs,s≠.own xs)/\∀ xs,s≠.dic xs:=λk s h=>by
  unfold L2.blk at h
  unfold dm
  by_cases hk:k < n
  ·rw [List.getElem?_append_left (by simpa using hk),List.getElem?_replicate,if_pos hk] at h
   rw [List.getElem?_append_left (by simpa using hk),List.getElem?_replicate,if_pos hk]
   cases h
   exact ⟨⟨_,rfl,.un⟩,(λxs h=>by cases h),λxs h=>by cases h⟩
  ·rw [List.getElem?_append_right (by simpa using Nat.le_of_not_lt hk),List.length_replicate,List.getElem?_map] at h
   rw [List.getElem?_append_right (by simpa using Nat.le_of_not_lt hk),List.length_replicate,List.getElem?_map]
   cases hj:ix[k - n]? with
   | none=>rw [hj] at h; cases h
   | some j =>
    rw [hj] at h
    have h':uY ((ρ[j]?).getD .un)=s:=Option.some.inj h
    subst h'
    show (∃ o,some ((σ[j]?).getD none)=some o/\_)/\_
    cases hr:ρ[j]? with
    | none=>exact ⟨⟨_,rfl,.un⟩,(λxs h=>by cases h),λxs h=>by cases h⟩
    | some s' =>
     obtain ⟨o,h1,h2⟩:=R.sl j s' hr
     rw [h1]
     cases h2 with
     | un=>exact ⟨⟨_,rfl,.un⟩,(λxs h=>by cases h),λxs h=>by cases h⟩
     | d z=>exact ⟨⟨_,rfl,.d z⟩,(λxs h=>by cases h),λxs h=>by cases h⟩
     | own _ _ _ _=>exact ⟨⟨_,rfl,.un⟩,(λxs h=>by cases h),λxs h=>by cases h⟩
     | dic _ _ _ _=>exact ⟨⟨_,rfl,.un⟩,(λxs h=>by cases h),λxs h=>by cases h⟩
     | pen=>exact ⟨⟨_,rfl,.pen⟩,(λxs h=>by cases h),λxs h=>by cases h⟩
     | fn=>exact ⟨⟨_,rfl,.fn⟩,(λxs h=>by cases h),λxs h=>by cases h⟩
 refine ⟨R.wd,R.st,R.p0,λk s h=>(key k s h).1,?_,λk n' xs ys _ h1 _=>absurd rfl ((key k _ h1).2.1 xs),λk n' xs ys _ h1 _=>absurd rfl ((key k _ h1).2.2 xs)⟩
 unfold L2.blk dm
 simp
noncomputable def jr (n:Nat) (g:PyData->List Sl->Option (List Sl)):Prop:=∀ x ρ ρ',g x ρ=some ρ'->ρ'.length=ρ.length/\∀ k,n<=k->ρ'[k]?=ρ[k]?
theorem bO {n k:Nat} (h:k < n):jr n (aj k):=λx ρ ρ' e=>by
 cases e
 exact ⟨List.length_set,λj hj=>List.getElem?_set_ne (by omega)⟩
noncomputable def ce (h:PyData->Tr PyData):List PyData->Tr (List PyData)
 | []=>.ret []
 | x::xs=>(h x).bind λy=>(ce h xs).bind λys=>.ret (y::ys)
noncomputable def b8 (is:List Sl->Tr (List PyData)) (n:Nat) (ix:List Nat) (g:PyData->List Sl->Option (List Sl)) (el:List Sl->Tr PyData):List Sl->Tr (List PyData):=λρ =>
 (is ρ).bind λxs=>if small xs.length=true then ce (λx=>(Tr.of (g x (blk n ix ρ))).bind el) xs else .fail
theorem Rl.weak {pa:Addr} {G₀ H₀ G H:Hp} {m:Nat} {σ:St} {ρ ρ':List Sl} (R:Rl PK pa G₀ H₀ m σ ρ' G H) (hl:ρ'.length=ρ.length) (h:∀ (k:Nat) (s:Sl),ρ[k]?=some s->s=.un\/ρ'[k]?=some s):Rl PK pa G₀ H₀ m σ ρ G H:=by
 refine ⟨R.wd,R.st,R.p0,λk s hk=>?_,hl.symm.trans R.len,λk n xs ys hkn h1 h2=>?_,λk n xs ys hkn h1 h2=>?_⟩
 ·rcases h k s hk with e | e
  ·subst e
   have hlt:k < σ.length:=by
    rw [<- R.len,hl]
    exact (List.getElem?_eq_some_iff.mp hk).1
   exact ⟨σ[k],by simp [hlt],.un⟩
  ·exact R.sl k s e
 ·rcases h k _ h1 with e | e
  ·cases e
  ·rcases h n _ h2 with e' | e'
   ·cases e'
   ·exact R.dj k n xs ys hkn e e'
 ·rcases h k _ h1 with e | e
  ·cases e
  ·rcases h n _ h2 with e' | e'
   ·cases e'
   ·exact R.dj2 k n xs ys hkn e e'
theorem ZcB {n:Nat} {ix:List Nat} {g:PyData->List Sl->Option (List Sl)} (hn:jr n g):∀ σ H Q,jq PK (b8 is n ix g i) σ H Q->iP (gu PK is) n ix (λ_=>fQ PK g) (λ_=>TAe PK i) σ H Q:=by
 rintro σ H Q ⟨pa,G₀,H₀,m,ρ,G,R,z⟩
 refine ⟨pa,G₀,H₀,m,ρ,G,R,Tr.ok_mono (Tr.ok_bind.mp z) λm1 xs k J G1 H1 s1 w1 jo=>λB=>?_⟩
 obtain ⟨hs,k⟩:=gc k
 have hs:xs.length<=sizeLine:=of_decide_eq_true hs
 let el:PyData->Tr PyData:=λx=>(Tr.of (g x (blk n ix ρ))).bind i
 let W:Nat->Nat->St->List V->Hp->Prop:=λk mm τ ys H2=>mm=xs.length - k/\k<=xs.length/\ys.length=k/\∃ m G2 ds,Sub G1 G2/\Stp pa G H G2 H2/\Rl PK pa G₀ H₀ m τ (blk n ix ρ) G2 H2 /\
  DnAll G2 ys ds/\(ce el (xs.drop k)).ok m λm' zs=>Ko1 PK pa m' G H (ds++zs) Q
 refine ⟨W,⟨xs.length,rfl,Nat.zero_le _,rfl,m1,G1,[],.refl,s1,(R.step s1 w1).blk n ix,.nil,k⟩,?_⟩
 rintro k mm τ ys H2 ⟨rfl,hk,hy,m2,G2,ds,sb,st2,R2,dn,k2⟩
 obtain ⟨j1,j2⟩:=jo m2 G2 H2 sb R2.wd
 by_cases hlt:k < xs.length
 ·have hx:xs[k]?=some xs[k]:=by simp [hlt]
  obtain ⟨jg,jy⟩:=j1 k _ hx
  refine .inr ⟨jg,by omega,λx H3 y=>?_⟩
  obtain ⟨G3,s3,w3,d3⟩:=jy x H3 y
  rw [List.drop_eq_getElem_cons hlt] at k2
  unfold ce at k2
  rw [Tr.ok_bind,Tr.ok_bind] at k2
  obtain ⟨ρ3,hg3,k3⟩:=Tr.ok_of k2
  refine ⟨pa,G₀,H₀,m2,_,G3,_,ρ3,R2.step s3 w3,d3,hg3,λτ4 R4=>?_⟩
  refine ⟨pa,G₀,H₀,m2,ρ3,G3,R4,Tr.ok_mono k3 λm5 yd k5=>?_⟩
  intro v G5 H5 s5 w5 d5
  have s35:=s3.trans s5 w3.some
  obtain ⟨pl,pk⟩:=hn _ _ _ hg3
  refine ⟨xs.length - (k+1),by omega,rfl,hlt,by rw [List.length_append,hy]; rfl,m5,G5,ds++[yd],sb.trans s35.gs,st2.trans s35 R2.wd.some,?_,(DnAll.mono s35.gs dn).snoc d5,?_⟩
  ·refine (R4.step s5 w5).weak pl λq sl hq=>?_
   by_cases hqn:q < n
   ·left
    unfold blk at hq
    rw [List.getElem?_append_left (by simpa using hqn),List.getElem?_replicate,if_pos hqn] at hq
    cases hq
    rfl
   ·right
    rw [pk q (Nat.le_of_not_lt hqn)]
    exact hq
  ·refine Tr.ok_mono (Tr.ok_bind.mp k5) λm6 zs k6=>?_
   rw [List.append_assoc]
   exact k6
 ·have e:k=xs.length:=by omega
  subst e
  refine .inl ⟨j2,λp v H' hp ev eH=>?_⟩
  subst ev eH
  rw [List.drop_length] at k2
  have k2':Ko1 PK pa m2 G H (ds++[]) Q:=k2
  rw [List.append_nil] at k2'
  exact (Ko1.later k2' st2 R2.wd.some).new R2.wd dn hp
theorem cW {n:Nat} {ix:List Nat} {g:PyData->List Sl->Option (List Sl)} (h:PE X e (iP (gu PK is) n ix (λ_=>fQ PK g) (λ_=>TAe PK i))) (hn:jr n g):PE X e (jq PK (b8 is n ix g i)):=h.imp (ZcB hn)
theorem Zf7 {te te':TE} {g:TG} (h:∀ σ H Q,te' σ H Q->te σ H Q):∀ D σ H,fA te' g D σ H->fA te g D σ H:=λD σ H z=>h σ H _ z
noncomputable def nv:Ou->Tr Re
 | .next _=>.ret (.d .none)
 | .ret r=>.ret r
 | _=>.fail
noncomputable def bo (n k:Nat) (s:List Sl->Tr Ou):List Sl->Tr Re:=λas=>if decide (as.length=n)=true then (s (as++List.replicate k .un)).bind nv else .fail
theorem Rl.start {pa:Addr} {G H:Hp} {m:Nat} {N:List Str} {vs:List V} {as:List Sl} {k:Nat} (w:Wd PK pa m G H) (ar:ArsOk pa G vs as) (hk:N.length - vs.length=k):Rl PK pa G H m (L2.start N vs) (as++List.replicate k .un) G H:=by
 have key:∀ {vs:List V} {as:List Sl},ArsOk pa G vs as->∀ (q:Nat) (s:Sl),as[q]?=some s->(∃ o,(vs.map some)[q]?=some o/\SlOk pa H G H o s)/\(∀ xs,s≠.own xs)/\∀ xs,s≠.dic xs:=by
  intro vs as h
  induction h with
  | nil=>intro q s h; simp at h
  | cons h1 h2 ih =>
   intro q s h
   cases q with
   | zero =>
    simp at h
    subst h
    cases h1 with
    | d z=>exact ⟨⟨_,rfl,.d z⟩,(λxs h=>by cases h),λxs h=>by cases h⟩
    | pen=>exact ⟨⟨_,rfl,.pen⟩,(λxs h=>by cases h),λxs h=>by cases h⟩
    | fn=>exact ⟨⟨_,rfl,.fn⟩,(λxs h=>by cases h),λxs h=>by cases h⟩
   | succ q =>
    obtain ⟨⟨o,p1,p2⟩,p3⟩:=ih q s (by simpa using h)
    exact ⟨⟨o,by simpa using p1,p2⟩,p3⟩
 have hl:=ar.length
 have key2:∀ (q:Nat) (s:Sl),(as++List.replicate k .un)[q]?=some s->(∃ o,(L2.start N vs)[q]?=some o/\SlOk pa H G H o s)/\(∀ xs,s≠.own xs)/\∀ xs,s≠.dic xs:=λq s h=>by
  unfold L2.start
  by_cases hq:q < as.length
  ·rw [List.getElem?_append_left hq] at h
   rw [List.getElem?_append_left (by rw [List.length_map,hl]; exact hq)]
   exact key ar q s h
  ·rw [List.getElem?_append_right (by omega),List.getElem?_replicate] at h
   rw [List.getElem?_append_right (by rw [List.length_map]; omega),List.getElem?_replicate,List.length_map,hl]
   split at h
   ·rename_i hq2
    cases h
    rw [if_pos (by omega)]
    exact ⟨⟨_,rfl,.un⟩,(λxs h=>by cases h),λxs h=>by cases h⟩
   ·cases h
 refine ⟨w,.refl,w.some,λq s h=>(key2 q s h).1,?_,λq n xs ys _ h1 _=>absurd rfl ((key2 q _ h1).2.1 xs),λq n xs ys _ h1 _=>absurd rfl ((key2 q _ h1).2.2 xs)⟩
 unfold L2.start
 simp [hl,hk]
 omega
theorem bD {P:Program} {w:World} {K:PySem.W.Frag} {mg:Str->Option Value} {base:Heap} {x:Str} {N ps:List Str} {kk k:Nat} (D:Def K mg x st ps) (S:FnScope N ps (aD st)) (hk:N.length - ps.length=k)
  (hbody:∀ (f:Addr) (cdv:Value) (A:Around) (outer:List Env) (sh:Shared) (H:Hp) (E:XK),Room kk (A.deeper (envOfC x (aD st) sh.heap.objs.size f cdv)) ->
   PSs (df js P w K mg base N x (aD st) f cdv A outer sh H E).nox (gi st) (bC PK s)):ACal PK P w K mg base x (kk+1) ps (bo ps.length k s):=by
 have len:∀ as m Z,(bo ps.length k s as).ok m Z->as.length=ps.length:=λas m Z h=>by
  unfold bo at h
  exact of_decide_eq_true (gc h).1
 refine ⟨D.ok S (λvs H Q E h=>h.1) λf cdv A outer sh H vs Q E hr hsp=>?_,len⟩
 obtain ⟨hv,pa,m,G,as,wd,ar,z⟩:=hsp
 refine ⟨_,hbody f cdv A outer sh H E hr,?_⟩
 unfold bo at z
 obtain ⟨_,z⟩:=gc z
 refine ⟨pa,G,H,m,_,G,Rl.start wd ar (by rw [hv]; exact hk),Tr.ok_mono (Tr.ok_bind.mp z) λm1 o ko=>?_⟩
 cases o with
 | next ρ=>exact λσ G1 H1 sb R1=>ko .non G1 H1 R1.st R1.wd .non
 | ret r=>exact ko
 | brk ρ=>exact ko.elim
 | cont ρ=>exact ko.elim
theorem ZhK {tg l:Expr} {tl:TE} (hl:PE X l tl):PI X tg l (λσ H R=>tl σ H λx H1=>∃ a,x=.ref a/\((∃ xs,SqL X.K H1 a xs/\R (nQ X.K a) H1)\/(∃ xs,SqT X.K H1 a xs/\R (rA X.K a) H1))):=by
 intro pins s σ H R I h
 refine thn (hl pins s σ H _ I h) λv s1 hz0=>?_
 obtain ⟨x,H1,I1,r1,q1⟩:=hz0
 obtain ⟨a,e,q⟩:=q1
 subst e
 cases r1
 rcases q with ⟨xs,hq,q⟩ | ⟨xs,hq,q⟩
 ·obtain ⟨its,rv,p,hz⟩:=I1.list hq
  refine wpAny_pyIter_list p.isList ?_
  refine ⟨s1.heap.objs.size,[s1.heap.objs.size],_,_,H1,rfl,I1.kept (t':=s1.toks) λb o e=>Heap.get?_push_of_some _ e,rR a _,⟨_,Heap.get?_push_size _ rfl,rfl,rfl⟩,λb hb=>?_,q⟩
  have e:b=s1.heap.objs.size:=by simpa using hb
  subst e
  exact I1.fpOk (Nat.le_refl _) (I1.hok.fresh (Nat.le_refl _))
 ·obtain ⟨its,rv,p,hz⟩:=I1.tuple hq
  refine wpAny_pyIter_tuple (show s1.heap.IsTuple a its.toArray from p) ?_
  refine ⟨s1.heap.objs.size,[s1.heap.objs.size],_,_,H1,rfl,I1.kept (t':=s1.toks) λb o e=>Heap.get?_push_of_some _ e,Zav a _,⟨_,Heap.get?_push_size _ rfl,rfl,rfl⟩,λb hb=>?_,q⟩
  have e:b=s1.heap.objs.size:=by simpa using hb
  subst e
  exact I1.fpOk (Nat.le_refl _) (I1.hok.fresh (Nat.le_refl _))
theorem DnAll.get {H:Hp}:∀ {vs:List V} {ds:List PyData} (n:Nat) {d:PyData},DnAll H vs ds->ds[n]?=some d->∃ v,vs[n]?=some v/\Dn H v d
 | _,_,_,_,.nil,e=>by simp at e
 | _,_,0,_,.cons g t,e=>by simp at e; subst e; exact ⟨_,rfl,g⟩
 | _,_,n+1,_,.cons g t,e=>by
  obtain ⟨v,h1,h2⟩:=DnAll.get n t (by simpa using e)
  exact ⟨v,by simpa using h1,h2⟩
theorem ZcE {K:PySem.W.Frag} {pa a:Addr} {G:Hp} {vs:List V} {xs:List PyData} (h:G a=some (.lst vs)) (d:DnAll G vs xs):nO PK pa (nQ K a) G xs:=λm G2 H2 sb w=>by
 have hq:SqL K H2 a vs:=SqL.of (w.sub _ _ (sb _ _ h))
 refine ⟨λn x hx=>?_,vs,hq,by rw [d.length]; exact Nat.le_refl _⟩
 obtain ⟨v,hv,dv⟩:=d.get n hx
 refine ⟨⟨vs,v,hq,hv⟩,λy H3 hz0=>?_⟩
 obtain ⟨e,hy⟩:=hz0
 subst e
 have:=hy vs hq
 rw [hv] at this
 cases this
 exact ⟨G2,.refl,w,dv.mono sb⟩
theorem ZcD {K:PySem.W.Frag} {pa a:Addr} {G:Hp} {vs:List V} {xs:List PyData} (h:G a=some (.tup vs)) (d:DnAll G vs xs):nO PK pa (rA K a) G xs:=λm G2 H2 sb w=>by
 have hq:SqT K H2 a vs:=SqT.of (w.sub _ _ (sb _ _ h))
 refine ⟨λn x hx=>?_,vs,hq,by rw [d.length]; exact Nat.le_refl _⟩
 obtain ⟨v,hv,dv⟩:=d.get n hx
 refine ⟨⟨vs,v,hq,hv⟩,λy H3 hz0=>?_⟩
 obtain ⟨e,hy⟩:=hz0
 subst e
 have:=hy vs hq
 rw [hv] at this
 cases this
 exact ⟨G2,.refl,w,dv.mono sb⟩
noncomputable def gM:PyData->Option (List PyData)
 | .list xs=>some xs
 | .tuple xs=>some xs
 | _=>none
@[simp] theorem Zqi (xs:List PyData):gM (.list xs)=some xs:=rfl
@[simp] theorem Zqh (xs:List PyData):gM (.tuple xs)=some xs:=rfl
noncomputable def lS (i:List Sl->Tr PyData):List Sl->Tr (List PyData):=λρ=>(i ρ).bind λx=>Tr.of (gM x)
theorem qS {tg l:Expr} (hl:PE X l (TAe PK i)):PI X tg l (gu PK (lS i)):=(ZhK hl).imp λσ H R0 hz0=>by
 obtain ⟨pa,G₀,H₀,m,ρ,G,R,z⟩:=hz0
 refine TAe.then R z λm1 x v G1 H1 s1 w1 R1 d1 q1=>?_
 obtain ⟨xs,hx,q1⟩:=Tr.ok_of q1
 cases d1 with
 | lst h1 h2=>cases hx; exact ⟨_,rfl,.inl ⟨_,SqL.of (w1.sub _ _ h1),q1 _ G1 H1 s1 w1 (ZcE h1 h2)⟩⟩
 | tup h1 h2=>cases hx; exact ⟨_,rfl,.inr ⟨_,SqT.of (w1.sub _ _ h1),q1 _ G1 H1 s1 w1 (ZcD h1 h2)⟩⟩
 | _=>cases hx
noncomputable def cD (lo hi:Int):List PyData:=(jG lo (hi - lo).toNat).map PyData.int
theorem Zjq {pa:Addr} {G:Hp} {lo:Int} {n:Nat}:nO PK pa (nP lo n) G ((jG lo n).map PyData.int):=λm G2 H2 sb w=>by
 refine ⟨λk x hx=>?_,by show n<=_; rw [List.length_map,sF]; exact Nat.le_refl _⟩
 have hk:k < n:=by
  have:=(List.getElem?_eq_some_iff.mp hx).1
  rwa [List.length_map,sF] at this
 refine ⟨hk,λy H3 hz0=>?_⟩
 obtain ⟨e1,e2⟩:=hz0
 subst e1 e2
 have:x=.int (lo+k):=by
  unfold jG at hx
  simp [hk] at hx
  exact hx.symm
 subst this
 exact ⟨G2,.refl,w,.int _⟩
noncomputable def ul (n:Int):Bool:=decide (-(2 ^ 62)<=n/\n < 2 ^ 62)
noncomputable def mH:List PyData->Option (List PyData)
 | [.int n]=>if ul n=true then some (cD 0 n) else none
 | _=>none
noncomputable def gk (is:List Sl->Tr (List PyData)):List Sl->Tr (List PyData):=λρ=>(is ρ).bind λxs=>Tr.of (mH xs)
theorem Zg8 {G:Hp} {vs:List V} {xs ys:List PyData} (d:DnAll G vs xs) (h:mH xs=some ys):∃ n:Int,vs=[.int n]/\-(2 ^ 62)<=n/\n < 2 ^ 62/\ys=cD 0 n:=by
 unfold mH at h
 split at h
 ·rename_i n
  split at h
  ·rename_i hn
   cases h
   cases d with
   | cons d1 d2 =>
    cases d2
    cases d1
    have:=of_decide_eq_true hn
    exact ⟨n,rfl,this.1,this.2,rfl⟩
  ·cases h
 ·cases h
theorem iB {tg e:Expr} (h:PI X tg e (ZcR (TAd PK is))):PI X tg e (gu PK (gk is)):=h.imp λσ H R0 hz0=>by
 obtain ⟨pa,G₀,H₀,m,ρ,G,R,z⟩:=hz0
 refine TAd.then R z λm1 xs vs G1 H1 s1 w1 R1 d1 q1=>?_
 obtain ⟨ys,hy,q1⟩:=Tr.ok_of q1
 obtain ⟨n,e,h1,h2,rfl⟩:=Zg8 d1 hy
 refine ⟨n,e,h1,h2,?_⟩
 have q:=q1 (nP 0 n.toNat) G1 H1 s1 w1
 unfold cD at q
 rw [Int.sub_zero] at q
 exact q Zjq
variable {PK:Pk} {X:Cx} {a b c e:Expr} {es:List Expr} {pos:Pos} {i j l:List Sl->Tr PyData} {is:List Sl->Tr (List PyData)}
noncomputable def fit (n:Int):Bool:=decide (n.natAbs < 2 ^ 8000)
noncomputable def eX:PyData->PyData->Option PyData
 | .int m,.int n=>some (.int (m+n))
 | .tuple xs,.tuple ys=>if (!xs.isEmpty && small (xs.length+ys.length))=true then some (.tuple (xs++ys)) else none
 | .list xs,.list ys=>if small (xs.length+ys.length)=true then some (.list (xs++ys)) else none
 | _,_=>none
noncomputable def sM (K:PySem.W.Frag):R2:=λx y H Q=>fW (λi j=>.int (i+j)) x y H Q\/ZbP K x y H Q\/oZ x y H Q
theorem pM:OpR X (binaryOp .Add) (sM X.K):=ib.or (Zil.or tK)
theorem n5 {K:PySem.W.Frag}:b9 (sM K) eX:=λPK pa m G H x y dx dy dz Q w hx hy hz k=>by
 unfold eX at hz
 split at hz
 ·cases hz; cases hx; cases hy
  exact .inl ⟨_,_,rfl,rfl,k.here w (.int _)⟩
 ·rename_i xs ys
  split at hz
  ·rename_i hc
   rw [Bool.and_eq_true] at hc
   have h1:xs.isEmpty=false:=by simpa using hc.1
   have h2:xs.length+ys.length<=sizeLine:=of_decide_eq_true hc.2
   cases hz
   cases hx with
   | tup a1 a2 =>
    cases hy with
    | tup b1 b2 =>
     refine .inr (.inl ⟨_,_,_,_,rfl,rfl,SqT.of (w.sub _ _ a1),SqT.of (w.sub _ _ b1),?_,by rw [a2.length,b2.length]; exact h2,λe=>?_,λe p hp=>k.tup w (a2.append b2) hp⟩)
     ·intro e
      rw [<- a2.isEmpty,e] at h1
      cases h1
     ·subst e
      cases b2
      refine k.here w ?_
      rw [List.append_nil]
      exact .tup a1 a2
  ·cases hz
 ·rename_i xs ys
  split at hz
  ·rename_i hc
   have h2:xs.length+ys.length<=sizeLine:=of_decide_eq_true hc
   cases hz
   cases hx with
   | lst a1 a2 =>
    cases hy with
    | lst b1 b2=>exact .inr (.inr ⟨_,_,_,_,rfl,rfl,w.sub _ _ a1,w.sub _ _ b1,by rw [a2.length,b2.length]; exact h2,λp hp=>k.lst w (a2.append b2) hp⟩)
  ·cases hz
 ·cases hz
noncomputable def g7:PyData->PyData->Option PyData
 | .int m,.int n=>some (.int (m - n))
 | _,_=>none
theorem kE:b9 (fW λi j=>.int (i - j)) g7:=λPK pa m G H x y dx dy dz Q w hx hy hz k=>by
 unfold g7 at hz
 split at hz
 ·cases hz; cases hx; cases hy
  exact ⟨_,_,rfl,rfl,k.here w (.int _)⟩
 ·cases hz
theorem DnAll.rep {H:Hp} {vs:List V} {ds:List PyData} (h:DnAll H vs ds):∀ k:Nat,DnAll H (List.replicate k vs).flatten (List.replicate k ds).flatten
 | 0=>.nil
 | k+1=>by
  rw [List.replicate_succ,List.replicate_succ,List.flatten_cons,List.flatten_cons]
  exact h.append (h.rep k)
noncomputable def sH (K:PySem.W.Frag):R2:=λx y H Q=>rI CMulG (λi j=>.int (i * j)) x y H Q\/Zby K x y H Q\/Zbz x y H Q
theorem jL:OpR X (binaryOp .Mult) (sH X.K):=Zih.or (Zh9.or Zia)
noncomputable def fJ:PyData->PyData->Option PyData
 | .int m,.int n=>if (fit m && fit n)=true then some (.int (m * n)) else none
 | .tuple xs,.int n=>if (decide (1 < n) && decide (n<=1000) && !xs.isEmpty && decide (xs.length<=1000))=true then some (.tuple (List.replicate n.toNat xs).flatten) else none
 | .list xs,.int n=>if (decide (-(2 ^ 63)<=n) && decide (n < 2 ^ 63) && small (xs.length * n.toNat))=true then some (.list (List.replicate n.toNat xs).flatten) else none
 | _,_=>none
theorem jw {K:PySem.W.Frag}:b9 (sH K) fJ:=λPK pa m G H x y dx dy dz Q w hx hy hz k=>by
 unfold fJ at hz
 split at hz
 ·split at hz
  ·rename_i hc
   rw [Bool.and_eq_true] at hc
   cases hz; cases hx; cases hy
   exact .inl ⟨_,_,rfl,rfl,⟨of_decide_eq_true hc.1,of_decide_eq_true hc.2⟩,k.here w (.int _)⟩
  ·cases hz
 ·split at hz
  ·rename_i hc
   simp only [Bool.and_eq_true,decide_eq_true_eq,Bool.not_eq_true'] at hc
   cases hz; cases hy
   cases hx with
   | tup a1 a2 =>
    refine .inr (.inl ⟨_,_,_,rfl,rfl,SqT.of (w.sub _ _ a1),hc.1.1.1,hc.1.1.2,?_,by rw [a2.length]; exact hc.2,λp hp=>k.tup w (a2.rep _) hp⟩)
    intro e
    have:=hc.1.2
    rw [<- a2.isEmpty,e] at this
    cases this
  ·cases hz
 ·split at hz
  ·rename_i hc
   simp only [Bool.and_eq_true,decide_eq_true_eq] at hc
   cases hz; cases hy
   cases hx with
   | lst a1 a2=>exact .inr (.inr ⟨_,_,_,rfl,rfl,w.sub _ _ a1,hc.1.1,hc.1.2,by rw [a2.length]; exact of_decide_eq_true hc.2,λp hp=>k.lst w (a2.rep _) hp⟩)
  ·cases hz
 ·cases hz
noncomputable def lC:PyData->PyData->Option PyData
 | .int m,.int n=>if (decide (n≠0) && fit n)=true then some (.int (m.fdiv n)) else none
 | _,_=>none
theorem Zam:b9 (rI ZeS λi j=>.int (i.fdiv j)) lC:=λPK pa m G H x y dx dy dz Q w hx hy hz k=>by
 unfold lC at hz
 split at hz
 ·split at hz
  ·rename_i hc
   rw [Bool.and_eq_true] at hc
   cases hz; cases hx; cases hy
   exact ⟨_,_,rfl,rfl,⟨of_decide_eq_true hc.1,of_decide_eq_true hc.2⟩,k.here w (.int _)⟩
  ·cases hz
 ·cases hz
noncomputable def i0:PyData->PyData->Option PyData
 | .int m,.int n=>if decide (n≠0)=true then some (.int (m.fmod n)) else none
 | _,_=>none
theorem nZ:b9 (rI (λ_ j=>j≠0) λi j=>.int (i.fmod j)) i0:=λPK pa m G H x y dx dy dz Q w hx hy hz k=>by
 unfold i0 at hz
 split at hz
 ·split at hz
  ·rename_i hc
   cases hz; cases hx; cases hy
   exact ⟨_,_,rfl,rfl,of_decide_eq_true hc,k.here w (.int _)⟩
  ·cases hz
 ·cases hz
noncomputable def iU:PyData->PyData->Option PyData
 | .int m,.int n=>if (decide (0<=n) && decide (n<=1000000) && decide (m.natAbs < 2 ^ 64))=true then some (.int (m ^ n.toNat)) else none
 | _,_=>none
theorem nY:b9 (rI ZeR λi j=>.int (i ^ j.toNat)) iU:=λPK pa m G H x y dx dy dz Q w hx hy hz k=>by
 unfold iU at hz
 split at hz
 ·split at hz
  ·rename_i hc
   simp only [Bool.and_eq_true,decide_eq_true_eq] at hc
   cases hz; cases hx; cases hy
   exact ⟨_,_,rfl,rfl,⟨hc.1.1,hc.1.2,hc.2⟩,k.here w (.int _)⟩
  ·cases hz
 ·cases hz
noncomputable def bG (f:Int->Int->Bool):PyData->PyData->Option PyData
 | .int m,.int n=>some (.bool (f m n))
 | _,_=>none
theorem cb {f:Int->Int->Bool}:b9 (fW λi j=>.bl (f i j)) (bG f):=λPK pa m G H x y dx dy dz Q w hx hy hz k=>by
 unfold bG at hz
 split at hz
 ·cases hz; cases hx; cases hy
  exact ⟨_,_,rfl,rfl,k.here w (.bl _)⟩
 ·cases hz
noncomputable def dJ:PyData->PyData->Option PyData
 | .str m,.str n=>some (.bool (m == n))
 | x,y=>if (SeqAt.shaped x && SeqAt.shaped y)=true then some (.bool (PyData.eqv x y)) else none
noncomputable def eC:PyData->PyData->Option PyData
 | .str m,.str n=>some (.bool (!(m == n)))
 | x,y=>if (SeqAt.shaped x && SeqAt.shaped y)=true then some (.bool (!PyData.eqv x y)) else none
noncomputable def ZbM:R2:=λx y H Q=>rEq x y H Q\/∃ d e,Dn H x d/\Dn H y e/\SeqAt.shaped d=true/\SeqAt.shaped e=true/\Q (.bl (PyData.eqv d e)) H
noncomputable def ZbB:R2:=λx y H Q=>rNe x y H Q\/∃ d e,Dn H x d/\Dn H y e/\SeqAt.shaped d=true/\SeqAt.shaped e=true/\Q (.bl (!PyData.eqv d e)) H
theorem fH {k:Nat} (hr:Room k X.A):OpR X (compareOp .Eq) ZbM:=Zch.or (Zik hr)
theorem gG {k:Nat} (hr:Room k X.A):OpR X (compareOp .NotEq) ZbB:=Zif.or (Zcc hr)
theorem fw:b9 ZbM dJ:=λPK pa m G H x y dx dy dz Q w hx hy hz k=>by
 unfold dJ at hz
 split at hz
 ·cases hz; cases hx; cases hy
  exact .inl ⟨rfl,by rw [qD]; exact k.here w (.bl _)⟩
 ·split at hz
  ·rename_i hc
   rw [Bool.and_eq_true] at hc
   cases hz
   exact .inr ⟨_,_,hx.mono w.sub,hy.mono w.sub,hc.1,hc.2,k.here w (.bl _)⟩
  ·cases hz
theorem gB:b9 ZbB eC:=λPK pa m G H x y dx dy dz Q w hx hy hz k=>by
 unfold eC at hz
 split at hz
 ·cases hz; cases hx; cases hy
  exact .inl ⟨rfl,by rw [qD]; exact k.here w (.bl _)⟩
 ·split at hz
  ·rename_i hc
   rw [Bool.and_eq_true] at hc
   cases hz
   exact .inr ⟨_,_,hx.mono w.sub,hy.mono w.sub,hc.1,hc.2,k.here w (.bl _)⟩
  ·cases hz
noncomputable def da:PyData->Bool
 | .none=>true
 | _=>false
noncomputable def io:PyData->PyData->Option PyData:=λx y=>if da y=true then some (.bool (da x)) else none
noncomputable def qh:PyData->PyData->Option PyData:=λx y=>if da y=true then some (.bool (!da x)) else none
theorem Dn.no {G:Hp} {v:V} {x:PyData} (h:Dn G v x):decide (v=.non)=da x:=by
 cases h <;> simp [da]
theorem me:b9 (λx y H Q=>y=.non/\Q (.bl (decide (x=.non))) H) io:=λPK pa m G H x y dx dy dz Q w hx hy hz k=>by
 unfold io at hz
 split at hz
 ·rename_i hc
  cases hz
  refine ⟨?_,by rw [hx.no]; exact k.here w (.bl _)⟩
  rw [<- hy.no] at hc
  exact of_decide_eq_true hc
 ·cases hz
theorem Zfl:b9 (λx y H Q=>y=.non/\Q (.bl (!decide (x=.non))) H) qh:=λPK pa m G H x y dx dy dz Q w hx hy hz k=>by
 unfold qh at hz
 split at hz
 ·rename_i hc
  cases hz
  refine ⟨?_,by rw [hx.no]; exact k.here w (.bl _)⟩
  rw [<- hy.no] at hc
  exact of_decide_eq_true hc
 ·cases hz
noncomputable def im:PyData->PyData->Option PyData
 | .list xs,.int n=>bx xs n
 | .tuple xs,.int n=>bx xs n
 | _,_=>none
theorem DnAll.at {H:Hp} {vs:List V} {ds:List PyData} {n:Int} {d:PyData} (h:DnAll H vs ds) (e:bx ds n=some d):∃ v,bx vs n=some v/\Dn H v d:=by
 unfold bx at e ⊢
 rw [<- h.length] at e
 cases hn:j8 vs.length n with
 | none=>rw [hn] at e; cases e
 | some j =>
  rw [hn] at e
  exact h.get j e
theorem md {K:PySem.W.Frag}:b9 (sI K) im:=λPK pa m G H x y dx dy dz Q w hx hy hz k=>by
 unfold im at hz
 split at hz
 ·cases hy
  cases hx with
  | lst a1 a2 =>
   obtain ⟨v,h1,h2⟩:=a2.at hz
   exact .inl ⟨_,_,_,v,rfl,rfl,SqL.of (w.sub _ _ a1),h1,k.here w h2⟩
 ·cases hy
  cases hx with
  | tup a1 a2 =>
   obtain ⟨v,h1,h2⟩:=a2.at hz
   exact .inr (.inl ⟨_,_,_,v,rfl,rfl,SqT.of (w.sub _ _ a1),h1,k.here w h2⟩)
 ·cases hz
noncomputable def ik:List PyData->Option PyData
 | [.list xs]=>some (.int xs.length)
 | [.tuple xs]=>some (.int xs.length)
 | _=>none
theorem mf {K:PySem.W.Frag}:dZ (λxs H Q=>∃ p ys,xs=[.ref p]/\(SqL K H p ys\/SqT K H p ys)/\Q (.int ys.length) H) ik:=λPK pa m G H vs ds d Q w hv hd k=>by
 unfold ik at hd
 split at hd
 ·cases hd
  cases hv with
  | cons h1 h2 =>
   cases h2
   cases h1 with
   | lst a1 a2=>exact ⟨_,_,rfl,.inl (SqL.of (w.sub _ _ a1)),by rw [a2.length]; exact k.here w (.int _)⟩
 ·cases hd
  cases hv with
  | cons h1 h2 =>
   cases h2
   cases h1 with
   | tup a1 a2=>exact ⟨_,_,rfl,.inr (SqT.of (w.sub _ _ a1)),by rw [a2.length]; exact k.here w (.int _)⟩
 ·cases hd
noncomputable def jl (n:Int):Int:=if n < 0 then -n else n
noncomputable def iD:List PyData->Option PyData
 | [.int n]=>some (.int (jl n))
 | _=>none
theorem kF:dZ (λxs H Q=>∃ i,xs=[.int i]/\Q (.int (if i < 0 then -i else i)) H) iD:=λPK pa m G H vs ds d Q w hv hd k=>by
 unfold iD at hd
 split at hd
 ·cases hd
  cases hv with
  | cons h1 h2=>cases h2; cases h1; exact ⟨_,rfl,k.here w (.int _)⟩
 ·cases hd
noncomputable def Zct (m n:Int):Int:=if n > m then n else m
noncomputable def Zcr (m n:Int):Int:=if n < m then n else m
noncomputable def ja:List PyData->Option PyData
 | [.int n]=>some (.int n)
 | [.bool n]=>some (.int (if n then 1 else 0))
 | _=>none
theorem Zap:dZ (λxs H Q=>(∃ i,xs=[.int i]/\Q (.int i) H)\/∃ k,xs=[.bl k]/\Q (.int (if k then 1 else 0)) H) ja:=λPK pa m G H vs ds d Q w hv hd k=>by
 unfold ja at hd
 split at hd
 ·cases hd
  cases hv with
  | cons h1 h2=>cases h2; cases h1; exact .inl ⟨_,rfl,k.here w (.int _)⟩
 ·cases hd
  cases hv with
  | cons h1 h2=>cases h2; cases h1; exact .inr ⟨_,rfl,k.here w (.int _)⟩
 ·cases hd
noncomputable def cK:List PyData->Option PyData
 | [.list xs]=>some (.tuple xs)
 | [.tuple xs]=>some (.tuple xs)
 | _=>none
theorem dq {K:PySem.W.Frag}:dZ (λxs H Q=>∃ p ys,xs=[.ref p]/\((SqL K H p ys/\∀ l,H l=none->Q (.ref l) (upd H l (.tup ys)))\/(SqT K H p ys/\Q (.ref p) H))) cK:=λPK pa m G H vs ds d Q w hv hd k=>by
 unfold cK at hd
 split at hd
 ·cases hd
  cases hv with
  | cons h1 h2 =>
   cases h2
   cases h1 with
   | lst a1 a2=>exact ⟨_,_,rfl,.inl ⟨SqL.of (w.sub _ _ a1),λp hp=>k.tup w a2 hp⟩⟩
 ·cases hd
  cases hv with
  | cons h1 h2 =>
   cases h2
   cases h1 with
   | tup a1 a2=>exact ⟨_,_,rfl,.inr ⟨SqT.of (w.sub _ _ a1),k.here w (.tup a1 a2)⟩⟩
 ·cases hd
noncomputable def mI (d:PyData):Bool:=!d.hasDict && d.showable && decide (d.depth<=32) && decide (d.shown.length<=sizeLine)
noncomputable def iS:List PyData->Option PyData
 | [d]=>if mI d=true then some (.str d.shown) else none
 | _=>none
theorem Zan:dZ (λxs H Q=>∃ v d,xs=[v]/\Dn H v d/\d.hasDict=false/\d.showable=true/\d.depth<=32/\d.shown.length<=sizeLine/\Q (.str d.shown) H) iS:=λPK pa m G H vs ds d Q w hv hd k=>by
 unfold iS at hd
 split at hd
 ·split at hd
  ·rename_i hc
   unfold mI at hc
   simp only [Bool.and_eq_true,decide_eq_true_eq,Bool.not_eq_true'] at hc
   cases hd
   cases hv with
   | cons h1 h2=>cases h2; exact ⟨_,_,rfl,h1.mono w.sub,hc.1.1.1,hc.1.1.2,hc.1.2,hc.2,k.here w (.str _)⟩
  ·cases hd
 ·cases hd
noncomputable def gD:PyData->String
 | .none=>"NoneType"
 | .bool _=>"bool"
 | .int _=>"int"
 | .str _=>"str"
 | .list _=>"list"
 | .tuple _=>"tuple"
 | .dict _=>"dict"
theorem Dn.ty {K:PySem.W.Frag} {G H:Hp} (sb:Sub G H) {v:V} {d:PyData} (h:Dn G v d):TyOf K H v (.type (gD d)):=by
 cases h with
 | non=>exact .non
 | bl b=>exact .bl b
 | int i=>exact .int i
 | str x=>exact .str x
 | tup h _=>exact .tup (sb _ _ h)
 | lst h _=>exact .lst (sb _ _ h)
 | dct h _=>exact h.elim (λh=>.dK (sb _ _ h)) λ⟨o,h⟩=>.frzD (sb _ _ h)
noncomputable def i9 (T:String) (t:String):Bool:=decide (t=T) || (decide (T="int") && decide (t="bool"))
noncomputable def gX (T:String) (i:List Sl->Tr PyData):List Sl->Tr PyData:=λρ=>(i ρ).bind λx=>.ret (.bool (i9 T (gD x)))
noncomputable def ZcJ (T:String):Prop:=T="int"\/T="bool"\/T="str"\/T="list"\/T="tuple"\/T="dict"
theorem Zjg {K:PySem.W.Frag} {T:String} (h:ZcJ T) (d:PyData):PySem.W.kitOne K (.type (gD d)) (.type T)=some (i9 T (gD d)):=by
 rcases h with rfl | rfl | rfl | rfl | rfl | rfl <;> cases d <;> rfl
theorem jk {T:String} {tc:TE} (hT:ZcJ T) (htc:tc=tC (.ty T)) (h:PE X e (kJ (λxs H Q=>∃ x T t b,xs=[x,.ty T]/\TyOf X.K H x t/\PySem.W.kitOne X.K t (.type T)=some b/\Q (.bl b) H) (mj (TAe PK i) (mj tc aP)))):PE X e (TAe PK (gX T i)):=h.imp λσ H Q hz0=>by
 obtain ⟨pa,G₀,H₀,m,ρ,G,R,z⟩:=hz0
 subst htc
 refine TAe.then R z λm1 x v G1 H1 s1 w1 R1 d1 q1=>?_
 exact ⟨v,T,_,_,rfl,d1.ty w1.sub,Zjg hT x,(Kn.later q1 s1 w1.some).here w1 (.bl _)⟩
noncomputable def gQ (xs:List PyData) (lo hi:Option Int):List PyData:=(xs.drop (HT.aQ xs.length 0 lo)).take (HT.aQ xs.length xs.length hi - HT.aQ xs.length 0 lo)
theorem DnAll.take {H:Hp}:∀ {vs:List V} {ds:List PyData} (n:Nat),DnAll H vs ds->DnAll H (vs.take n) (ds.take n)
 | _,_,0,_=>.nil
 | _,_,_+1,.nil=>.nil
 | _,_,n+1,.cons r t=>.cons r (DnAll.take n t)
theorem DnAll.drop {H:Hp}:∀ {vs:List V} {ds:List PyData} (n:Nat),DnAll H vs ds->DnAll H (vs.drop n) (ds.drop n)
 | _,_,0,r=>r
 | _,_,_+1,.nil=>.nil
 | _,_,n+1,.cons r t=>DnAll.drop n t
theorem DnAll.cut {H:Hp} {vs:List V} {ds:List PyData} (h:DnAll H vs ds) (lo hi:Option Int):DnAll H (fo vs lo hi) (gQ ds lo hi):=by
 unfold fo gQ
 rw [h.length]
 exact (h.drop _).take _
noncomputable abbrev fr:=List Sl->Tr (Option Int)
noncomputable def dP:fr:=λ_=>.ret none
noncomputable def dC (i:List Sl->Tr PyData):fr:=λρ=>(i ρ).bind λx=>match x with
 | .int n=>.ret (some n)
 | _=>.fail
noncomputable def TAp (PK:Pk) (i:fr):TO:=λσ H Q=>∃ pa G₀ H₀ m ρ G,Rl PK pa G₀ H₀ m σ ρ G H/\(i ρ).ok m λm' x=>∀ G' H',Stp pa G H G' H'->Wd PK pa m' G' H'->Q x H'
theorem PO.imp {e:Option Expr} {t t':TO} (h:PO X e t) (q:∀ σ H Q,t' σ H Q->t σ H Q):PO X e t':=λpins s σ H Q I z=>h pins s σ H Q I (q σ H Q z)
theorem eJ:PO X none (TAp PK dP):=ZbV.imp λσ H Q hz0=>by
 obtain ⟨pa,G₀,H₀,m,ρ,G,R,z⟩:=hz0
 exact z G H .refl R.wd
theorem eI (h:PE X e (TAe PK i)):PO X (some e) (TAp PK (dC i)):=(ZbU h).imp λσ H Q hz0=>by
 obtain ⟨pa,G₀,H₀,m,ρ,G,R,z⟩:=hz0
 refine TAe.then R z λm1 x v G1 H1 s1 w1 R1 d1 q1=>?_
 cases d1 with
 | int n=>exact ⟨n,rfl,q1 G1 H1 s1 w1⟩
 | _=>exact q1.elim
theorem ZjM {prog:Program} {w:World} {A:Around} {E:Value->Shared->Prop} {s:Shared} {t sl:Addr} {items:Array Value} {vl vu:Value} {lo hi:Option Int} {Q:Value->Shared->Prop} (ht:IsTup s.heap t items) (hs:s.heap.IsSliceOf sl vl vu .none) (pl:IsPart vl lo) (pu:IsPart vu hi)
  (hw:HT.aQ items.size 0 lo=0/\HT.aQ items.size items.size hi=items.size) (h:Q (.ref t) s):wpAny (model prog w) A (getItem (.ref t) (.ref sl)) Q E s:=by
 obtain ⟨os,hos,hcs,hds⟩:=id hs
 have hTs:s.TypeIs (.ref sl) "slice":=⟨os,hos,hcs⟩
 unfold getItem
 try with_reducible refine wpAny_holding ?_
 first | refine wpAny_bind (wpAny_pure ?_) | skip
 refine wpAny_bind (wpAny_sequenceKey ht.typeIs (by decide) ?_)
 refine wpAny_bind (wpAny_callSpecial?_slot (name:=Str.ofString "__getitem__") ht.typeIs PyProof.Rows.slot_tuple_getitem
  (wpAny_call_entry PyProof.Rows.slot_tuple_getitem ht.typeIs entry_tuple_getitem ?_ (args_tuple_getitem _ _)))
 show wpAny _ _ (Builtin.Tuple.tupleItemsOf (.ref t) >>= _) _ _ s
 refine wpAny_bind (tupleItemsOf_ ht ?_)
 refine wpAny_bind (wpAny_typeOf hTs ?_)
 rw [if_pos (by decide)]
 refine wpAny_bind (HT.ZaU hs pl pu ?_)
 have hyes:(((HT.aQ items.size 0 lo:Nat):Int) == 0 && (1:Int) == 1 && (HT.aQ items.size items.size hi - HT.aQ items.size 0 lo) == items.size)=true:=by
  rw [hw.1,hw.2]
  simp
 show wpAny _ _ (if (((HT.aQ items.size 0 lo:Nat):Int) == 0 && (1:Int) == 1 && (HT.aQ items.size items.size hi - HT.aQ items.size 0 lo) == items.size)=true then _ else _) _ _ s
 rw [if_pos hyes]
 refine wpAny_bind (m:=Builtin.Tuple.tupleIsExact (.ref t)) ?_
 unfold Builtin.Tuple.tupleIsExact
 refine wpAny_bind (wpAny_typeOf ht.typeIs ?_)
 refine wpAny_pure ?_
 rw [if_pos (by decide)]
 refine wpAny_bind (wpAny_rule ?_)
 exact wpAny_pure ⟨_,rfl,wpAny_pure h⟩
noncomputable def Zbr (K:PySem.W.Frag):V->Option Int->Option Int->Hp->VK->Prop:=λx lo hi H Q=>∃ a xs,x=.ref a/\SqT K H a xs/\(HT.aQ xs.length 0 lo=0/\HT.aQ xs.length xs.length hi=xs.length)/\Q (.ref a) H
theorem Zgo:SlR X (Zbr X.K):=by
 intro pins s σ H x v vl vu lo hi sl Q I rx hs pl pu h
 obtain ⟨a,xs,rfl,hx,hw,q⟩:=h
 cases rx
 obtain ⟨its,r,ht,hz⟩:=I.tuple hx
 have hlen:its.toArray.size=xs.length:=by rw [List.size_toArray]; exact r.length.symm
 refine ⟨"tuple",_,PyProof.Rows.slot_tuple_getitem.lookup,ht.typeIs,?_⟩
 exact ZjM ht hs pl pu (by rw [hlen]; exact hw) ⟨.ref a,H,I,rfl,q⟩
noncomputable def Zbv (K:PySem.W.Frag):V->Option Int->Option Int->Hp->VK->Prop:=λx lo hi H Q=>Zbu K x lo hi H Q\/Zbs K x lo hi H Q\/Zbr K x lo hi H Q
theorem Zgs:SlR X (Zbv X.K):=ZaV.or (Zgp.or Zgo)
noncomputable def ZaT (x:PyData) (lo hi:Option Int):Option PyData:=match x with
 | .list xs=>some (.list (gQ xs lo hi))
 | .tuple xs=>some (.tuple (gQ xs lo hi))
 | _=>none
theorem TAp.then {p:fr} {σ:St} {H:Hp} {β:Type} {k:Option Int->Tr β} {Z:Nat->β->Prop} {Q:Option Int->Hp->Prop} {pa:Addr} {G₀ H₀ G:Hp} {m:Nat} {ρ:List Sl} (R:Rl PK pa G₀ H₀ m σ ρ G H) (h:((p ρ).bind k).ok m Z)
  (hq:∀ m1 x G1 H1,Stp pa G H G1 H1->Wd PK pa m1 G1 H1->Rl PK pa G₀ H₀ m1 σ ρ G1 H1->(k x).ok m1 Z->Q x H1):TAp PK p σ H Q:=by
 refine ⟨pa,G₀,H₀,m,ρ,G,R,Tr.ok_mono (Tr.ok_bind.mp h) λm1 x hx G1 H1 s1 w1=>?_⟩
 exact hq m1 x G1 H1 s1 w1 (R.step s1 w1) hx
noncomputable def ints?:List PyData->Option (List Int)
 | []=>some []
 | .int n::xs=>(ints? xs).bind λns=>some (n::ns)
 | _=>none
@[simp] theorem ints?_map:∀ ns:List Int,ints? (ns.map PyData.int)=some ns
 | []=>rfl
 | n::ns=>by rw [List.map_cons,ints?,ints?_map ns]; rfl
theorem DnAll.ints_inv {H:Hp} {vs:List V} {ds:List PyData} {ns:List Int} (a:DnAll H vs ds) (h:ints? ds=some ns):vs=ns.map V.int/\ds=ns.map PyData.int:=by
 induction vs generalizing ds ns with
 | nil=>cases a; cases h; exact ⟨rfl,rfl⟩
 | cons v vs ih =>
  cases a with
  | cons g t =>
   cases g with
   | int n =>
    unfold ints? at h
    rename_i ds
    cases e:ints? ds with
    | none=>rw [e] at h; cases h
    | some ms =>
     rw [e] at h
     cases h
     obtain ⟨h1,h2⟩:=ih t e
     exact ⟨by rw [h1]; rfl,by rw [h2]; rfl⟩
   | _=>unfold ints? at h; cases h
section
variable {prog:Program} {w:World} {A:Around} {E:Value->Shared->Prop} {s:Shared}
noncomputable def ZeQ (b:Bool) (h:Heap) (it a:Addr) (k:Nat):Prop:=match b with
 | true=>h.IsListIter it a k
 | false=>h.IsTupleIter it a k
noncomputable def SqAt (b:Bool) (h:Heap) (a:Addr) (items:Array Value):Prop:=match b with
 | true=>h.IsList a items
 | false=>h.IsTuple a items
theorem SqAt.at {b:Bool} {h h':Heap} {a:Addr} {items:Array Value} (x:SqAt b h a items) (e:∀ o,h.get? a=some o->h'.get? a=some o):SqAt b h' a items:=by
 cases b with
 | true=>exact Heap.IsList.at x e
 | false=>exact Heap.IsTuple.at x e
noncomputable def ZcH (b:Bool) (l:Addr):Obj:=match b with
 | true=>{ cls:=.type "list_iterator",data:=.fields #[.ref l,.int 0 0] }
 | false=>{ cls:=.type "tuple_iterator",data:=.fields #[.ref l,.int 0 0] }
theorem pF {b:Bool} {l:Addr} {items:Array Value} {Q:Value->Shared->Prop} (hl:SqAt b s.heap l items) (hQ:Q (.ref s.heap.objs.size) { s with heap:=s.heap.push (ZcH b l) }):wpAny (model prog w) A (pyIter (.ref l)) Q E s:=by
 cases b with
 | true=>exact wpAny_pyIter_list hl hQ
 | false=>exact wpAny_pyIter_tuple hl hQ
theorem SqAt.push {b:Bool} {h:Heap} {l:Addr} {items:Array Value} (x:SqAt b h l items) (o:Obj):SqAt b (h.push o) l items:=x.at λ_ q=>Heap.get?_push_of_some _ q
theorem qf {b:Bool} {h:Heap} {it l:Addr} (e:h.get? it=some (ZcH b l)):ZeQ b h it l 0:=by
 cases b with
 | true=>exact ⟨_,e,rfl,rfl⟩
 | false=>exact ⟨_,e,rfl,rfl⟩
end
section
variable {X:Cx} {pins:List (Addr×Obj)} {σ:St} {H:Hp} {s:Shared} {h':Heap}
end
noncomputable def gh (b:Bool) (xs:List V):HO:=match b with
 | true=>.lst xs
 | false=>.tup xs
theorem oh {P:Program} {w:World} {H:Hp} {h:Heap} (ok:HOk P w H h) {b:Bool} {a:Addr} {xs:List V} (e:H a=some (gh b xs)):∃ its:List Value,Vals xs its/\SqAt b h a its.toArray:=by
 cases b with
 | true=>obtain ⟨_,its,n,r,q⟩:=ok a _ e; exact ⟨its,r,⟨_,q,rfl,n,rfl⟩⟩
 | false=>obtain ⟨_,its,r,q⟩:=ok a _ e; exact ⟨its,r,q⟩
end L2
namespace L2
open PySem PySem.Spec PyProof.Rows
open AutoSeq1 (wpAny_loadPart')
section
variable {X:Cx} {tg:Expr} {PK:Pk} {a b:Expr} {i j:List Sl->Tr PyData} {p pos:Pos}
theorem ZjI {G:Hp} {v:V} {x:PyData} {xs:List PyData} (d:Dn G v x) (h:gM x=some xs):∃ b a vs,v=.ref a/\G a=some (gh b vs)/\DnAll G vs xs:=by
 cases d with
 | lst h1 h2=>cases h; exact ⟨true,_,_,rfl,h1,h2⟩
 | tup h1 h2=>cases h; exact ⟨false,_,_,rfl,h1,h2⟩
 | _=>cases h
end
section
variable {prog:Program} {w:World} {A:Around} {E:Value->Shared->Prop} {s:Shared}
end
section
variable {X:Cx} {tg:Expr} {PK:Pk} {a b:Expr} {i j:List Sl->Tr PyData} {p pos:Pos}
end
end L2
namespace L2
open PySem PySem.Spec PyProof.Rows
section
variable {prog:Program} {w:World} {A:Around}
theorem nW (hh:A.handled=none) (b:Bool) (I ax:Addr) (hne:ax≠I) (items:Array Value):Walks prog w A I [I,ax] [I] items.size (λi v=>items[i]?=some v) (λi h=>ZeQ b h I ax i/\SqAt b h ax items):=by
 cases b with
 | true=>exact Walks.list hh I ax hne items
 | false=>exact Walks.tuple hh I ax hne items
end
theorem qj {ns:List Int} {us:List Value} (r:Vals (ns.map V.int) us) {i:Nat} {v:Value} (h:us[i]?=some v):∃ t,v=.int ((ns[i]?).getD 0) t:=by
 have hi:i < us.length:=(List.getElem?_eq_some_iff.mp h).1
 have hl:us.length=ns.length:=by rw [<- r.length,List.length_map]
 obtain ⟨u,e1,e2⟩:=r.get (i:=i) (x:=V.int ns[i]) (by simp [show i < ns.length by omega])
 rw [h] at e1
 cases e1
 obtain ⟨t,e2⟩:=e2
 exact ⟨t,by simp [show i < ns.length by omega,e2]⟩
section
variable {X:Cx} {PK:Pk}
theorem Zhn (bs:List Bool):((List.range bs.length).all λi=>(bs[i]?).getD true)=bs.all id:=by
 rw [Bool.eq_iff_iff,List.all_eq_true,List.all_eq_true]
 constructor
 ·intro h x hx
  obtain ⟨i,hi,rfl⟩:=List.getElem_of_mem hx
  have:=h i (List.mem_range.mpr hi)
  simpa [hi] using this
 ·intro h i hi
  have hi':=List.mem_range.mp hi
  simpa [hi'] using h _ (List.getElem_mem hi')
theorem Zhm (bs:List Bool):((List.range bs.length).any λi=>(bs[i]?).getD true)=bs.any id:=by
 rw [Bool.eq_iff_iff,List.any_eq_true,List.any_eq_true]
 constructor
 ·rintro ⟨i,hi,h⟩
  have hi':=List.mem_range.mp hi
  exact ⟨_,List.getElem_mem hi',by simpa [hi'] using h⟩
 ·rintro ⟨x,hx,h⟩
  obtain ⟨i,hi,rfl⟩:=List.getElem_of_mem hx
  exact ⟨i,List.mem_range.mpr hi,by simpa [hi] using h⟩
theorem Zen {bs:List Bool} {us:List Value} (r:Vals (bs.map V.bl) us) {i:Nat} {v:Value} (h:us[i]?=some v):v=.bool ((bs[i]?).getD true):=by
 have hi:i < us.length:=(List.getElem?_eq_some_iff.mp h).1
 have hl:us.length=bs.length:=by rw [<- r.length,List.length_map]
 obtain ⟨u,e1,e2⟩:=r.get (i:=i) (x:=V.bl bs[i]) (by simp [show i < bs.length by omega])
 rw [h] at e1
 cases e1
 cases e2
 simp [show i < bs.length by omega]
theorem qL (hc:X.calm=true):CallR X (.builtin "all") (λxs H Q=>∃ (b:Bool) (l:Addr) (bs:List Bool),xs=[.ref l]/\H l=some (gh b (bs.map V.bl))/\Q (.bl (bs.all id)) H):=by
 intro pins s σ H xs us Q I r h
 obtain ⟨b,l,bs,rfl,e1,q⟩:=h
 obtain ⟨u,rfl,ru⟩:=eM r
 cases ru
 obtain ⟨vs,rv,sq⟩:=oh I.hok e1
 have hlt:l < s.heap.objs.size:=I.hok.lt e1
 refine call_all_walk (pF sq ?_)
 refine ⟨s.heap.objs.size,[s.heap.objs.size,l],[s.heap.objs.size],vs.toArray.size,_,_,λi=>(bs[i]?).getD true,rfl,nW (A:=X.A.in1) (I.ok.hd hc) b _ l (Nat.ne_of_lt hlt) vs.toArray,
  ⟨qf (Heap.get?_push_size _ (by cases b <;> rfl)),sq.push _⟩,λi v s' Q' E' hP hQ=>?_,λh' tk hk=>?_⟩
 ·have e:=Zen rv (i:=i) (v:=v) (by simpa using hP)
  subst e
  exact wpAny_truthy_bool hQ
 ·have e:vs.toArray.size=bs.length:=by rw [List.size_toArray,<- rv.length,List.length_map]
  rw [e,Zhn]
  refine ⟨.bl _,H,I.kept (t':=tk) λc o e=>hk c o (λz=>?_) (Heap.get?_push_of_some _ e),rfl,q⟩
  have:c=s.heap.objs.size:=by simpa using z
  subst this
  exact Nat.lt_irrefl _ (Heap.lt_size e)
theorem ZoY (hc:X.calm=true):CallR X (.builtin "any") (λxs H Q=>∃ (b:Bool) (l:Addr) (bs:List Bool),xs=[.ref l]/\H l=some (gh b (bs.map V.bl))/\Q (.bl (bs.any id)) H):=by
 intro pins s σ H xs us Q I r h
 obtain ⟨b,l,bs,rfl,e1,q⟩:=h
 obtain ⟨u,rfl,ru⟩:=eM r
 cases ru
 obtain ⟨vs,rv,sq⟩:=oh I.hok e1
 have hlt:l < s.heap.objs.size:=I.hok.lt e1
 refine call_any_walk (pF sq ?_)
 refine ⟨s.heap.objs.size,[s.heap.objs.size,l],[s.heap.objs.size],vs.toArray.size,_,_,λi=>(bs[i]?).getD true,rfl,nW (A:=X.A.in1) (I.ok.hd hc) b _ l (Nat.ne_of_lt hlt) vs.toArray,
  ⟨qf (Heap.get?_push_size _ (by cases b <;> rfl)),sq.push _⟩,λi v s' Q' E' hP hQ=>?_,λh' tk hk=>?_⟩
 ·have e:=Zen rv (i:=i) (v:=v) (by simpa using hP)
  subst e
  exact wpAny_truthy_bool hQ
 ·have e:vs.toArray.size=bs.length:=by rw [List.size_toArray,<- rv.length,List.length_map]
  rw [e,Zhm]
  refine ⟨.bl _,H,I.kept (t':=tk) λc o e=>hk c o (λz=>?_) (Heap.get?_push_of_some _ e),rfl,q⟩
  have:c=s.heap.objs.size:=by simpa using z
  subst this
  exact Nat.lt_irrefl _ (Heap.lt_size e)
noncomputable def cM:List Int->Int
 | []=>0
 | [n]=>n
 | n::m::r=>Zct (cM (m::r)) n
noncomputable def dH:List Int->Int
 | []=>0
 | [n]=>n
 | n::m::r=>Zcr (dH (m::r)) n
theorem pX:∀ {ns:List Int},ns≠[]->cM ns∈ns/\∀ m∈ns,m<=cM ns
 | [],h=>absurd rfl h
 | [n],_=>⟨by simp [cM],by simp [cM]⟩
 | n::m::r,_=>by
  obtain ⟨h1,h2⟩:=pX (ns:=m::r) (by simp)
  unfold cM Zct
  split
  ·refine ⟨by simp,λk hk=>?_⟩
   rcases List.mem_cons.mp hk with rfl | hk
   ·exact Int.le_refl _
   ·have:=h2 k hk; omega
  ·refine ⟨List.mem_cons_of_mem _ h1,λk hk=>?_⟩
   rcases List.mem_cons.mp hk with rfl | hk
   ·omega
   ·exact h2 k hk
theorem pW:∀ {ns:List Int},ns≠[]->dH ns∈ns/\∀ m∈ns,dH ns<=m
 | [],h=>absurd rfl h
 | [n],_=>⟨by simp [dH],by simp [dH]⟩
 | n::m::r,_=>by
  obtain ⟨h1,h2⟩:=pW (ns:=m::r) (by simp)
  unfold dH Zcr
  split
  ·refine ⟨by simp,λk hk=>?_⟩
   rcases List.mem_cons.mp hk with rfl | hk
   ·exact Int.le_refl _
   ·have:=h2 k hk; omega
  ·refine ⟨List.mem_cons_of_mem _ h1,λk hk=>?_⟩
   rcases List.mem_cons.mp hk with rfl | hk
   ·omega
   ·exact h2 k hk
theorem Zev (f:Nat->Int):∀ k,argBest (λi j=>decide (f i > f j)) k<=k/\∀ j,j<=k->f j<=f (argBest (λi j=>decide (f i > f j)) k)
 | 0=>⟨Nat.le_refl _,λj hj=>by
  have:j=0:=by omega
  subst this
  exact Int.le_refl _⟩
 | k+1=>by
  obtain ⟨h1,h2⟩:=Zev f k
  unfold argBest
  by_cases hc:f (k+1) > f (argBest (λi j=>decide (f i > f j)) k)
  ·rw [if_pos (by simpa using hc)]
   refine ⟨Nat.le_refl _,λj hj=>?_⟩
   rcases Nat.lt_or_eq_of_le hj with h | h
   ·have:=h2 j (by omega); omega
   ·subst h; exact Int.le_refl _
  ·rw [if_neg (by simpa using hc)]
   refine ⟨by omega,λj hj=>?_⟩
   rcases Nat.lt_or_eq_of_le hj with h | h
   ·exact h2 j (by omega)
   ·subst h; omega
theorem Zeu (f:Nat->Int):∀ k,argBest (λi j=>decide (f i < f j)) k<=k/\∀ j,j<=k->f (argBest (λi j=>decide (f i < f j)) k)<=f j
 | 0=>⟨Nat.le_refl _,λj hj=>by
  have:j=0:=by omega
  subst this
  exact Int.le_refl _⟩
 | k+1=>by
  obtain ⟨h1,h2⟩:=Zeu f k
  unfold argBest
  by_cases hc:f (k+1) < f (argBest (λi j=>decide (f i < f j)) k)
  ·rw [if_pos (by simpa using hc)]
   refine ⟨Nat.le_refl _,λj hj=>?_⟩
   rcases Nat.lt_or_eq_of_le hj with h | h
   ·have:=h2 j (by omega); omega
   ·subst h; exact Int.le_refl _
  ·rw [if_neg (by simpa using hc)]
   refine ⟨by omega,λj hj=>?_⟩
   rcases Nat.lt_or_eq_of_le hj with h | h
   ·exact h2 j (by omega)
   ·subst h; omega
theorem uU (hc:X.calm=true):CallR X (.builtin "max") (λxs H Q=>∃ (b:Bool) (l:Addr) (ns:List Int),xs=[.ref l]/\H l=some (gh b (ns.map V.int))/\ns≠[]/\Q (.int (cM ns)) H):=by
 intro pins s σ H xs us Q I r h
 obtain ⟨b,l,ns,rfl,e1,hne,q⟩:=h
 obtain ⟨u,rfl,ru⟩:=eM r
 cases ru
 obtain ⟨vs,rv,sq⟩:=oh I.hok e1
 have hlt:l < s.heap.objs.size:=I.hok.lt e1
 have hsz:vs.toArray.size=ns.length:=by rw [List.size_toArray,<- rv.length,List.length_map]
 have hpos:0 < ns.length:=List.length_pos_iff.mpr hne
 refine call_max_walk (pF sq ?_)
 refine ⟨s.heap.objs.size,[s.heap.objs.size,l],[s.heap.objs.size],vs.toArray.size,_,_,λi j=>decide ((ns[i]?).getD 0 > (ns[j]?).getD 0),rfl,nW (A:=X.A.in1) (I.ok.hd hc) b _ l (Nat.ne_of_lt hlt) vs.toArray,
  ⟨qf (Heap.get?_push_size _ (by cases b <;> rfl)),sq.push _⟩,λc hc=>?_,by omega,CmpOf.ints_gt (λi=>(ns[i]?).getD 0) (λi v hv=>qj rv (by simpa using hv)),λv h' tk hv hk=>?_⟩
 ·rw [Heap.size_push]
  simp at hc
  rcases hc with rfl | rfl
  ·exact Nat.lt_succ_self _
  ·exact Nat.lt_succ_of_lt hlt
 ·obtain ⟨t,rfl⟩:=qj rv (by rw [<- List.getElem?_toArray]; exact hv)
  obtain ⟨b1,b2⟩:=Zev (λi=>(ns[i]?).getD 0) (vs.toArray.size - 1)
  obtain ⟨m1,m2⟩:=pX hne
  refine ⟨.int (cM ns),H,I.kept (t':=tk) λc o e=>hk c o (λz=>?_) (Heap.get?_push_of_some _ e),⟨t,?_⟩,q⟩
  ·have:c=s.heap.objs.size:=by simpa using z
   subst this
   exact Nat.lt_irrefl _ (Heap.lt_size e)
  ·congr 1
   obtain ⟨i,hi,ei⟩:=List.getElem_of_mem m1
   have h1:=b2 i (by omega)
   simp only [hi,List.getElem?_eq_getElem,Option.getD_some,ei] at h1
   have hb:argBest (λi j=>decide ((ns[i]?).getD 0 > (ns[j]?).getD 0)) (vs.toArray.size - 1) < ns.length:=by omega
   have h2:=m2 _ (List.getElem_mem hb)
   simp only [hb,List.getElem?_eq_getElem,Option.getD_some] at h1 ⊢
   omega
theorem Zd7 (hc:X.calm=true):CallR X (.builtin "min") (λxs H Q=>∃ (b:Bool) (l:Addr) (ns:List Int),xs=[.ref l]/\H l=some (gh b (ns.map V.int))/\ns≠[]/\Q (.int (dH ns)) H):=by
 intro pins s σ H xs us Q I r h
 obtain ⟨b,l,ns,rfl,e1,hne,q⟩:=h
 obtain ⟨u,rfl,ru⟩:=eM r
 cases ru
 obtain ⟨vs,rv,sq⟩:=oh I.hok e1
 have hlt:l < s.heap.objs.size:=I.hok.lt e1
 have hsz:vs.toArray.size=ns.length:=by rw [List.size_toArray,<- rv.length,List.length_map]
 have hpos:0 < ns.length:=List.length_pos_iff.mpr hne
 refine call_min_walk (pF sq ?_)
 refine ⟨s.heap.objs.size,[s.heap.objs.size,l],[s.heap.objs.size],vs.toArray.size,_,_,λi j=>decide ((ns[i]?).getD 0 < (ns[j]?).getD 0),rfl,nW (A:=X.A.in1) (I.ok.hd hc) b _ l (Nat.ne_of_lt hlt) vs.toArray,
  ⟨qf (Heap.get?_push_size _ (by cases b <;> rfl)),sq.push _⟩,λc hc=>?_,by omega,CmpOf.ints_lt (λi=>(ns[i]?).getD 0) (λi v hv=>qj rv (by simpa using hv)),λv h' tk hv hk=>?_⟩
 ·rw [Heap.size_push]
  simp at hc
  rcases hc with rfl | rfl
  ·exact Nat.lt_succ_self _
  ·exact Nat.lt_succ_of_lt hlt
 ·obtain ⟨t,rfl⟩:=qj rv (by rw [<- List.getElem?_toArray]; exact hv)
  obtain ⟨b1,b2⟩:=Zeu (λi=>(ns[i]?).getD 0) (vs.toArray.size - 1)
  obtain ⟨m1,m2⟩:=pW hne
  refine ⟨.int (dH ns),H,I.kept (t':=tk) λc o e=>hk c o (λz=>?_) (Heap.get?_push_of_some _ e),⟨t,?_⟩,q⟩
  ·have:c=s.heap.objs.size:=by simpa using z
   subst this
   exact Nat.lt_irrefl _ (Heap.lt_size e)
  ·congr 1
   obtain ⟨i,hi,ei⟩:=List.getElem_of_mem m1
   have h1:=b2 i (by omega)
   simp only [hi,List.getElem?_eq_getElem,Option.getD_some,ei] at h1
   have hb:argBest (λi j=>decide ((ns[i]?).getD 0 < (ns[j]?).getD 0)) (vs.toArray.size - 1) < ns.length:=by omega
   have h2:=m2 _ (List.getElem_mem hb)
   simp only [hb,List.getElem?_eq_getElem,Option.getD_some] at h1 ⊢
   omega
noncomputable def bools?:List PyData->Option (List Bool)
 | []=>some []
 | .bool n::xs=>(bools? xs).bind λns=>some (n::ns)
 | _=>none
@[simp] theorem bools?_map:∀ ns:List Bool,bools? (ns.map PyData.bool)=some ns
 | []=>rfl
 | n::ns=>by rw [List.map_cons,bools?,bools?_map ns]; rfl
theorem DnAll.bools_inv {H:Hp} {vs:List V} {ds:List PyData} {ns:List Bool} (a:DnAll H vs ds) (h:bools? ds=some ns):vs=ns.map V.bl/\ds=ns.map PyData.bool:=by
 induction vs generalizing ds ns with
 | nil=>cases a; cases h; exact ⟨rfl,rfl⟩
 | cons v vs ih =>
  cases a with
  | cons g t =>
   cases g with
   | bl n =>
    unfold bools? at h
    rename_i ds
    cases e:bools? ds with
    | none=>rw [e] at h; cases h
    | some ms =>
     rw [e] at h
     cases h
     obtain ⟨h1,h2⟩:=ih t e
     exact ⟨by rw [h1]; rfl,by rw [h2]; rfl⟩
   | _=>unfold bools? at h; cases h
noncomputable def gb {α:Type} (p:List PyData->Option α) (f:α->Option PyData):List PyData->Option PyData
 | [x]=>(gM x).bind λxs=>(p xs).bind f
 | _=>none
noncomputable def ig:List PyData->Option PyData:=gb ints? λns=>if (!ns.isEmpty)=true then some (.int (cM ns)) else none
noncomputable def la:List PyData->Option PyData:=gb ints? λns=>if (!ns.isEmpty)=true then some (.int (dH ns)) else none
noncomputable def kh:List PyData->Option PyData:=gb bools? λns=>some (.bool (ns.all id))
noncomputable def qR:List PyData->Option PyData:=gb bools? λns=>some (.bool (ns.any id))
theorem pO {α:Type} {p:List PyData->Option α} {f:α->Option PyData} {G:Hp} {vs:List V} {ds:List PyData} {d:PyData} (hv:DnAll G vs ds) (h:gb p f ds=some d):∃ b l us xs y,vs=[.ref l]/\G l=some (gh b us)/\DnAll G us xs/\p xs=some y/\f y=some d:=by
 unfold gb at h
 split at h
 ·rename_i x
  cases hx:gM x with
  | none=>rw [hx] at h; cases h
  | some xs =>
   rw [hx] at h
   have h':(p xs).bind f=some d:=h
   cases hp:p xs with
   | none=>rw [hp] at h'; cases h'
   | some y =>
    rw [hp] at h'
    cases hv with
    | cons h1 h2 =>
     cases h2
     obtain ⟨b,l,us,rfl,e1,e2⟩:=ZjI h1 hx
     exact ⟨b,l,us,xs,y,rfl,e1,e2,hp,h'⟩
 ·cases h
theorem rP:dZ (λxs H Q=>∃ (b:Bool) (l:Addr) (ns:List Int),xs=[.ref l]/\H l=some (gh b (ns.map V.int))/\ns≠[]/\Q (.int (cM ns)) H) ig:=λPK pa m G H vs ds d Q w hv hd k=>by
 obtain ⟨b,l,us,xs,ns,rfl,e1,e2,hp,hf⟩:=pO hv hd
 obtain ⟨rfl,rfl⟩:=e2.ints_inv hp
 split at hf
 ·rename_i hc
  cases hf
  exact ⟨b,l,ns,rfl,w.sub _ _ e1,(λz=>by subst z; cases hc),k.here w (.int _)⟩
 ·cases hf
theorem Zao:dZ (λxs H Q=>∃ (b:Bool) (l:Addr) (ns:List Int),xs=[.ref l]/\H l=some (gh b (ns.map V.int))/\ns≠[]/\Q (.int (dH ns)) H) la:=λPK pa m G H vs ds d Q w hv hd k=>by
 obtain ⟨b,l,us,xs,ns,rfl,e1,e2,hp,hf⟩:=pO hv hd
 obtain ⟨rfl,rfl⟩:=e2.ints_inv hp
 split at hf
 ·rename_i hc
  cases hf
  exact ⟨b,l,ns,rfl,w.sub _ _ e1,(λz=>by subst z; cases hc),k.here w (.int _)⟩
 ·cases hf
theorem n6:dZ (λxs H Q=>∃ (b:Bool) (l:Addr) (bs:List Bool),xs=[.ref l]/\H l=some (gh b (bs.map V.bl))/\Q (.bl (bs.all id)) H) kh:=λPK pa m G H vs ds d Q w hv hd k=>by
 obtain ⟨b,l,us,xs,ns,rfl,e1,e2,hp,hf⟩:=pO hv hd
 obtain ⟨rfl,rfl⟩:=e2.bools_inv hp
 cases hf
 exact ⟨b,l,ns,rfl,w.sub _ _ e1,k.here w (.bl _)⟩
theorem Zfr:dZ (λxs H Q=>∃ (b:Bool) (l:Addr) (bs:List Bool),xs=[.ref l]/\H l=some (gh b (bs.map V.bl))/\Q (.bl (bs.any id)) H) qR:=λPK pa m G H vs ds d Q w hv hd k=>by
 obtain ⟨b,l,us,xs,ns,rfl,e1,e2,hp,hf⟩:=pO hv hd
 obtain ⟨rfl,rfl⟩:=e2.bools_inv hp
 cases hf
 exact ⟨b,l,ns,rfl,w.sub _ _ e1,k.here w (.bl _)⟩
variable {a b c e:Expr} {pos:Pos} {i j l:List Sl->Tr PyData}
noncomputable def jn (f g:PyData->PyData->Option PyData) (i j l:List Sl->Tr PyData):List Sl->Tr PyData:=λρ=>(i ρ).bind λx=>(j ρ).bind λy=>(Tr.of (f x y)).bind λz=>(Tr.of (jx z)).bind λk =>
 if k=true then (l ρ).bind λu=>Tr.of (g y u) else .ret (.bool false)
theorem Zd1 {r r':R2} {f g:PyData->PyData->Option PyData} (hv:b9 r f) (hv':b9 r' g):∀ σ H Q,TAe PK (jn f g i j l) σ H Q->rY r r' (TAe PK i) (TAe PK j) (TAe PK l) σ H Q:=by
 rintro σ H Q ⟨pa,G₀,H₀,m,ρ,G,R,q⟩
 refine TAe.then R q λm1 x v G1 H1 s1 w1 R1 d1 q1=>?_
 refine TAe.then R1 q1 λm2 y u G2 H2 s2 w2 R2 d2 q2=>?_
 rw [Tr.ok_bind] at q2
 obtain ⟨z,hz,q3⟩:=Tr.ok_of q2
 rw [Tr.ok_bind] at q3
 obtain ⟨k,hk,q5⟩:=Tr.ok_of q3
 have s12:=s1.trans s2 w1.some
 refine hv PK pa m2 G2 H2 v u x y z _ w2 (d1.mono s2.gs) d2 hz λzz G3 H3 s3 w3 d3=>?_
 cases d3 <;> simp only [jx] at hk <;> cases hk
 refine ⟨_,rfl,?_⟩
 have s13:=s12.trans s3 w2.some
 cases k with
 | true =>
  rw [if_pos rfl] at q5 ⊢
  refine TAe.then (R2.step s3 w3) q5 λm4 t vt G4 H4 s4 w4 R4 d4 q4=>?_
  obtain ⟨zz,hzz,q4⟩:=Tr.ok_of q4
  exact hv' PK pa m4 G4 H4 u vt y t zz Q w4 (d2.mono (s3.gs.trans s4.gs)) d4 hzz (Kn.later q4 (s13.trans s4 w3.some) w4.some)
 | false =>
  rw [if_neg Bool.false_ne_true] at q5 ⊢
  exact (Kn.later q5 s13 w3.some).here w3 (.bl false)
theorem ZpD {op op':CmpOp} {r r':R2} {f g:PyData->PyData->Option PyData} (ho:OpR X (compareOp op) r) (hv:b9 r f) (ho':OpR X (compareOp op') r') (hv':b9 r' g) (ha:PE X a (TAe PK i)) (hb:PE X b (TAe PK j)) (hc:PE X c (TAe PK l))
  (hm:lastMarks [op,op'] [b,c]=false:=by with_unfolding_all rfl):PE X (.Compare a [op,op'] [b,c] pos) (TAe PK (jn f g i j l)):=(ZhZ ho ho' ha hb hc hm).imp (Zd1 hv hv')
theorem u3 {op op':CmpOp} {r r':R2} {f g:PyData->PyData->Option PyData} (ho:OpR X (compareOp op) r) (hv:b9 r f) (ho':OpR X (compareOp op') r') (hv':b9 r' g) (ha:PE X a (TAe PK i)) (hb:PE X b (TAe PK j)) (hc:PE X c (TAe PK l))
  (hm:lastMarks [op,op'] [b,c]=false:=by with_unfolding_all rfl):PT X (.Compare a [op,op'] [b,c] pos) (TAt PK (aT (jn f g i j l))) :=
 (ZhC ho ho' ha hb hc hm).imp λσ H Q z=>ZaB (Zd1 hv hv') σ H Q (ZeJ σ H Q z)
end
theorem Ziv {PK:Pk} {is:List Sl->Tr (List PyData)}:∀ σ H Q,TAe PK (bf is) σ H Q->jq PK is σ H Q:=by
 intro σ H Q z
 obtain ⟨pa,G₀,H₀,m,ρ,G,R,z⟩:=z
 exact ⟨pa,G₀,H₀,m,ρ,G,R,Tr.ok_mono (Tr.ok_bind.mp z) λm1 xs k=>Ko1.of k R.wd.some⟩
theorem u8 {PK:Pk} {X:Cx} {st:Stmt} {is:List Sl->Tr (List PyData)} {i:List Sl->Tr PyData} {n k:Nat} {ix:List Nat} {g:PyData->List Sl->Option (List Sl)} (h:PS X st (fA (iP (gu PK is) n ix (λ_=>fQ PK g) (λ_=>TAe PK i)) (eU k))) (hn:jr n g):PS X st (bC PK (bv k (bf (b8 is n ix g i)))) :=
 bK (h.imp (Zf7 λσ H Q z=>ZcB hn σ H Q (Ziv σ H Q z)))
variable {ρ:List Sl} {s t:List Sl->Tr Ou} {i j l:List Sl->Tr PyData} {is:List Sl->Tr (List PyData)} {as:List Sl->Tr (List Sl)} {f:List Sl->Tr Re} {p q:List Sl->Tr Bool} {k n:Nat} {x y d:PyData} {xs ys:List PyData} {sl:Sl}
theorem ZkQ:aa 0 (.d x::ρ)=.ret x:=rfl
theorem ZkP:aa (k+1) (sl::ρ)=aa k ρ:=rfl
theorem ZnD:aC d ρ=.ret d:=rfl
noncomputable def aJ (g:PyData->PyData->Option PyData) (x y:PyData):Tr PyData:=Tr.of (g x y)
noncomputable def Zet (g:PyData->PyData->Option PyData) (j:List Sl->Tr PyData) (ρ:List Sl) (x:PyData):Tr PyData:=(j ρ).bind (aJ g x)
theorem Zne {g:PyData->PyData->Option PyData}:ah g i j ρ=(i ρ).bind (Zet g j ρ):=rfl
theorem Znd {g:PyData->PyData->Option PyData}:Zet g j ρ x=(j ρ).bind (aJ g x):=rfl
theorem Znt (m n:Int):aJ eX (.int m) (.int n)=.ret (.int (m+n)):=rfl
theorem Znq (h1:xs.isEmpty=false) (h2:small (xs.length+ys.length)=true):aJ eX (.tuple xs) (.tuple ys)=.ret (.tuple (xs++ys)):=by
 simp [aJ,eX,h1,h2]
theorem Zde (h2:small (xs.length+ys.length)=true):aJ eX (.list xs) (.list ys)=.ret (.list (xs++ys)):=by
 simp [aJ,eX,h2]
theorem Zk3 (m n:Int):aJ g7 (.int m) (.int n)=.ret (.int (m - n)):=rfl
theorem Zl3 {m n:Int} (h1:fit m=true) (h2:fit n=true):aJ fJ (.int m) (.int n)=.ret (.int (m * n)):=by
 simp [aJ,fJ,h1,h2]
theorem Zdb {m n:Int} (h1:n≠0) (h2:fit n=true):aJ lC (.int m) (.int n)=.ret (.int (m.fdiv n)):=by
 simp [aJ,lC,h1,h2]
theorem uC {m n:Int} (h1:n≠0):aJ i0 (.int m) (.int n)=.ret (.int (m.fmod n)):=by
 simp [aJ,i0,h1]
theorem Zm4 {g:Int->Int->Bool} (m n:Int):aJ (bG g) (.int m) (.int n)=.ret (.bool (g m n)):=rfl
theorem ZmW (m n:Int):aJ dJ (.int m) (.int n)=.ret (.bool (m == n)):=rfl
theorem Zl2 (m n:Int):aJ eC (.int m) (.int n)=.ret (.bool (!(m == n))):=rfl
theorem ZmX (m n:Bool):aJ dJ (.bool m) (.bool n)=.ret (.bool (m == n)):=rfl
theorem ZmV (m n:Str):aJ dJ (.str m) (.str n)=.ret (.bool (m == n)):=rfl
theorem Zl1 (m n:Str):aJ eC (.str m) (.str n)=.ret (.bool (!(m == n))):=rfl
theorem Zmt:aJ io x .none=.ret (.bool (da x)):=rfl
theorem Zmq:aJ qh x .none=.ret (.bool (!da x)):=rfl
theorem Zmi (n:Int):aJ im (.list xs) (.int n)=Tr.of (bx xs n):=rfl
theorem Zmh (n:Int):aJ im (.tuple xs) (.int n)=Tr.of (bx xs n):=rfl
theorem u6 {α:Type} {xs:List α} {n:Int} {v:α} (h0:0<=n) (h:xs[n.toNat]?=some v):bx xs n=some v:=by
 have e:(n.toNat:Int)=n:=Int.toNat_of_nonneg h0
 rw [<- e]
 exact dB h
section
variable {α:Type} {a0 a1 a2 a3 a4 a5 a6 a7 a8:α} {r:List α}
theorem lK:bx (a0::r) 0=some a0:=dB (j:=0) rfl
theorem u4:bx (a0::a1::r) 1=some a1:=dB (j:=1) rfl
theorem Zps:bx (a0::a1::a2::r) 2=some a2:=dB (j:=2) rfl
theorem Zpr:bx (a0::a1::a2::a3::r) 3=some a3:=dB (j:=3) rfl
theorem Zpq:bx (a0::a1::a2::a3::a4::r) 4=some a4:=dB (j:=4) rfl
theorem Zpp:bx (a0::a1::a2::a3::a4::a5::r) 5=some a5:=dB (j:=5) rfl
theorem Zpo:bx (a0::a1::a2::a3::a4::a5::a6::r) 6=some a6:=dB (j:=6) rfl
theorem Zpn:bx (a0::a1::a2::a3::a4::a5::a6::a7::r) 7=some a7:=dB (j:=7) rfl
theorem Zpm:bx (a0::a1::a2::a3::a4::a5::a6::a7::a8::r) 8=some a8:=dB (j:=8) rfl
end
noncomputable def Zqg:PyData->Tr PyData
 | .int n=>.ret (.int (-n))
 | _=>.fail
noncomputable def rT (x:PyData):Tr Bool:=Tr.of (jx x)
theorem Zk2:aT i ρ=(i ρ).bind rT:=rfl
theorem ZkV (b:Bool):rT (.bool b)=.ret b:=rfl
noncomputable def kI (x:PyData):Tr Bool:=Tr.of (Zaw x)
theorem Zk1:cJ i ρ=(i ρ).bind kI:=rfl
theorem Zk0 (b:Bool):kI (.bool b)=.ret b:=rfl
theorem ZkZ (n:Int):kI (.int n)=.ret (n != 0):=rfl
theorem ZkY:kI (.list xs)=.ret (!xs.isEmpty):=rfl
theorem ZkW:kI (.tuple xs)=.ret (!xs.isEmpty):=rfl
theorem ZkX:kI .none=.ret false:=rfl
noncomputable def vc (q:List Sl->Tr Bool) (ρ:List Sl) (b:Bool):Tr Bool:=if b=true then q ρ else .ret false
noncomputable def tG (q:List Sl->Tr Bool) (ρ:List Sl) (b:Bool):Tr Bool:=if b=true then .ret true else q ρ
noncomputable def Zcl (b:Bool):Tr Bool:=.ret (!b)
theorem Znp:qZ p q ρ=(p ρ).bind (vc q ρ):=rfl
theorem ZlU:b7 p q ρ=(p ρ).bind (tG q ρ):=rfl
theorem ZlZ:cA p ρ=(p ρ).bind Zcl:=rfl
theorem Znn:vc q ρ true=q ρ:=rfl
theorem Zno:vc q ρ false=.ret false:=rfl
theorem ZlS:tG q ρ true=.ret true:=rfl
theorem ZlT:tG q ρ false=q ρ:=rfl
theorem ZlY (b:Bool):Zcl b=.ret (!b):=rfl
noncomputable def vb (j:List Sl->Tr PyData) (ρ:List Sl) (b:Bool):Tr PyData:=if b=true then j ρ else .ret (.bool false)
noncomputable def tF (j:List Sl->Tr PyData) (ρ:List Sl) (b:Bool):Tr PyData:=if b=true then .ret (.bool true) else j ρ
noncomputable def Zck (b:Bool):Tr PyData:=.ret (.bool (!b))
theorem Znm:qY i j ρ=(aT i ρ).bind (vb j ρ):=rfl
theorem ZlR:vp i j ρ=(aT i ρ).bind (tF j ρ):=rfl
theorem ZlX:vq i ρ=(aT i ρ).bind Zck:=rfl
theorem Znk:vb j ρ true=j ρ:=rfl
theorem Znl:vb j ρ false=.ret (.bool false):=rfl
theorem ZlP:tF j ρ true=.ret (.bool true):=rfl
theorem ZlQ:tF j ρ false=j ρ:=rfl
theorem ZlW (b:Bool):Zck b=.ret (.bool (!b)):=rfl
noncomputable def ur (i j:List Sl->Tr PyData) (ρ:List Sl) (b:Bool):Tr PyData:=if b=true then i ρ else j ρ
theorem ZmF:vv p i j ρ=(p ρ).bind (ur i j ρ):=rfl
theorem ZmD:ur i j ρ true=i ρ:=rfl
theorem ZmE:ur i j ρ false=j ρ:=rfl
noncomputable def qK (g:PyData->PyData->Option PyData) (l:List Sl->Tr PyData) (ρ:List Sl) (y:PyData) (k:Bool):Tr PyData:=if k=true then (l ρ).bind (aJ g y) else .ret (.bool false)
noncomputable def uR (g:PyData->PyData->Option PyData) (l:List Sl->Tr PyData) (ρ:List Sl) (y z:PyData):Tr PyData:=(rT z).bind (qK g l ρ y)
noncomputable def uS (f g:PyData->PyData->Option PyData) (l:List Sl->Tr PyData) (ρ:List Sl) (x y:PyData):Tr PyData:=(aJ f x y).bind (uR g l ρ y)
noncomputable def ch1 (f g:PyData->PyData->Option PyData) (j l:List Sl->Tr PyData) (ρ:List Sl) (x:PyData):Tr PyData:=(j ρ).bind (uS f g l ρ x)
theorem Zm5 {f g:PyData->PyData->Option PyData}:jn f g i j l ρ=(i ρ).bind (ch1 f g j l ρ):=rfl
theorem Zna {f g:PyData->PyData->Option PyData}:ch1 f g j l ρ x=(j ρ).bind (uS f g l ρ x):=rfl
theorem Zm9 {f g:PyData->PyData->Option PyData}:uS f g l ρ x y=(aJ f x y).bind (uR g l ρ y):=rfl
theorem Zm8 {g:PyData->PyData->Option PyData} (b:Bool):uR g l ρ y (.bool b)=qK g l ρ y b:=rfl
theorem Zm6 {g:PyData->PyData->Option PyData}:qK g l ρ y true=(l ρ).bind (aJ g y):=rfl
theorem Zm7 {g:PyData->PyData->Option PyData}:qK g l ρ y false=.ret (.bool false):=rfl
noncomputable def uQ (x:PyData) (xs:List PyData):Tr (List PyData):=.ret (x::xs)
noncomputable def ZdX (is:List Sl->Tr (List PyData)) (ρ:List Sl) (x:PyData):Tr (List PyData):=(is ρ).bind (uQ x)
theorem Zl0:ao ρ=.ret []:=rfl
theorem Zm3:ai i is ρ=(i ρ).bind (ZdX is ρ):=rfl
theorem Zm2:ZdX is ρ x=(is ρ).bind (uQ x):=rfl
theorem Zm1:uQ x xs=.ret (x::xs):=rfl
noncomputable def rS (xs:List PyData):Tr PyData:=if small xs.length=true then .ret (.tuple xs) else .fail
theorem ZkU:nL is ρ=(is ρ).bind rS:=rfl
theorem ZkT (h:small xs.length=true):rS xs=.ret (.tuple xs):=by unfold rS; rw [if_pos h]
noncomputable def Zcw (xs:List PyData):Tr PyData:=.ret (.list xs)
theorem Zl6:bf is ρ=(is ρ).bind Zcw:=rfl
theorem Zl5:Zcw xs=.ret (.list xs):=rfl
noncomputable def tX (xs:List PyData):Tr (List PyData):=if small xs.length=true then .ret xs else .fail
theorem Zl8:cB is ρ=(is ρ).bind tX:=rfl
theorem Zl7 (h:small xs.length=true):tX xs=.ret xs:=by unfold tX; rw [if_pos h]
theorem dF {n:Nat} (h:n<=10000):small n=true:=decide_eq_true (Nat.le_trans h (by decide))
noncomputable def bw (g:List PyData->Option PyData) (xs:List PyData):Tr PyData:=Tr.of (g xs)
theorem Znb {g:List PyData->Option PyData}:aM g is ρ=(is ρ).bind (bw g):=rfl
theorem Zma:bw ik [.list xs]=.ret (.int xs.length):=rfl
theorem Zl9:bw ik [.tuple xs]=.ret (.int xs.length):=rfl
theorem Znu (n:Int):bw iD [.int n]=.ret (.int (jl n)):=rfl
theorem Zmu (n:Int):bw ja [.int n]=.ret (.int n):=rfl
theorem Zmv (b:Bool):bw ja [.bool b]=.ret (.int (if b then 1 else 0)):=rfl
theorem ZkS:bw cK [.list xs]=.ret (.tuple xs):=rfl
theorem ZkR:bw cK [.tuple xs]=.ret (.tuple xs):=rfl
theorem ZlD (h:mI x=true):bw iS [x]=.ret (.str x.shown):=by
 simp [bw,iS,h]
theorem Zl4 (ns:List Int) (h:ns.isEmpty=false):bw ig [.list (ns.map .int)]=.ret (.int (cM ns)):=by
 have h':ns≠[]:=λz=>by subst z; cases h
 unfold bw ig gb
 simp [h']
theorem ny (ns:List Bool):bw kh [.list (ns.map .bool)]=.ret (.bool (ns.all id)):=by
 unfold bw kh gb
 simp
theorem Zdc (ns:List Bool):bw qR [.list (ns.map .bool)]=.ret (.bool (ns.any id)):=by
 unfold bw qR gb
 simp
noncomputable def ZcK (T:String) (x:PyData):Tr PyData:=.ret (.bool (i9 T (gD x)))
theorem Zms {T:String}:gX T i ρ=(i ρ).bind (ZcK T):=rfl
theorem Zmr {T:String}:ZcK T x=.ret (.bool (i9 T (gD x))):=rfl
noncomputable def sl3 (x:PyData) (lo:Option Int) (hi:Option Int):Tr PyData:=Tr.of (ZaT x lo hi)
noncomputable def ff (q:fr) (ρ:List Sl) (x:PyData) (lo:Option Int):Tr PyData:=(q ρ).bind (sl3 x lo)
theorem ZlM:dP ρ=.ret none:=rfl
noncomputable def pa1:PyData->Tr (Option Int)
 | .int n=>.ret (some n)
 | _=>.fail
theorem ZlL:dC i ρ=(i ρ).bind pa1:=by
 unfold dC
 refine congrArg (Tr.bind (i ρ)) (funext λx=>?_)
 cases x <;> rfl
theorem ZlK (n:Int):pa1 (.int n)=.ret (some n):=rfl
theorem Znz:ap ρ=.ret []:=rfl
noncomputable def ki (x:Sl) (xs:List Sl):Tr (List Sl):=.ret (x::xs)
noncomputable def aa1 (as:List Sl->Tr (List Sl)) (ρ:List Sl) (x:PyData):Tr (List Sl):=(as ρ).bind (ki (.d x))
theorem ZnA:am i as ρ=(i ρ).bind (aa1 as ρ):=rfl
theorem ZnC:aa1 as ρ x=(as ρ).bind (ki (.d x)):=rfl
theorem ZnB {xs:List Sl}:ki sl xs=.ret (sl::xs):=rfl
noncomputable def kW:Nat->List Sl->Tr Unit
 | 0,.pen::_=>.ret ()
 | k+1,_::ρ=>kW k ρ
 | _,_=>.fail
theorem ZlH:kW 0 (.pen::ρ)=.ret ():=rfl
theorem ZlG:kW (k+1) (sl::ρ)=kW k ρ:=rfl
noncomputable def aap (as:List Sl->Tr (List Sl)) (ρ:List Sl) (_:Unit):Tr (List Sl):=(as ρ).bind (ki .pen)
theorem Zny:bA k as ρ=(kW k ρ).bind (aap as ρ):=by
 have key:∀ (k:Nat) (σ:List Sl) (as:List Sl->Tr (List Sl)) (ρ:List Sl),(match σ[k]? with | some Sl.pen=>(as ρ).bind λxs=>Tr.ret (Sl.pen::xs) | _=>Tr.fail)=(kW k σ).bind (aap as ρ):=by
  intro k
  induction k with
  | zero =>
   intro σ as ρ
   cases σ with
   | nil=>rfl
   | cons s r=>cases s <;> rfl
  | succ k ih =>
   intro σ as ρ
   cases σ with
   | nil=>rfl
   | cons s r=>exact ih r as ρ
 exact key k ρ as ρ
theorem Znv (u:Unit):aap as ρ u=(as ρ).bind (ki .pen):=rfl
theorem Znc:aB f as ρ=(as ρ).bind f:=rfl
noncomputable def re1 (r:Re):Tr PyData:=.ret r.val
theorem ZlF:az f ρ=(f ρ).bind re1:=rfl
theorem ZlE (r:Re):re1 r=.ret r.val:=rfl
theorem uD {as:List Sl} (h:as.length=n):bo n k s as=(s (as++List.replicate k .un)).bind nv:=by
 unfold bo
 rw [if_pos (decide_eq_true h)]
theorem ZmU:nv (.next ρ)=.ret (.d .none):=rfl
theorem ZmT (r:Re):nv (.ret r)=.ret r:=rfl
noncomputable def mo (t:List Sl->Tr Ou):Ou->Tr Ou
 | .next ρ=>t ρ
 | o=>.ret o
theorem Zli:ay s t ρ=(s ρ).bind (mo t):=by
 unfold ay
 refine congrArg (Tr.bind (s ρ)) (funext λo=>?_)
 cases o <;> rfl
theorem Zlf:mo t (.next ρ)=t ρ:=rfl
theorem Zle (r:Re):mo t (.ret r)=.ret (.ret r):=rfl
theorem Zlh:mo t (.brk ρ)=.ret (.brk ρ):=rfl
theorem Zlg:mo t (.cont ρ)=.ret (.cont ρ):=rfl
theorem Zk9:bn ρ=.ret (.next ρ):=rfl
noncomputable def um (s t:List Sl->Tr Ou) (ρ:List Sl) (b:Bool):Tr Ou:=if b=true then s ρ else t ρ
theorem Zmy:bE p s t ρ=(p ρ).bind (um s t ρ):=rfl
theorem Zmw:um s t ρ true=s ρ:=rfl
theorem Zmx:um s t ρ false=t ρ:=rfl
noncomputable def Zbl (x:PyData):Tr Ou:=.ret (.ret (.d x))
theorem ZlC:aW i ρ=(i ρ).bind Zbl:=rfl
theorem ZlB:Zbl x=.ret (.ret (.d x)):=rfl
noncomputable def Zbk (r:Re):Tr Ou:=.ret (.ret r)
theorem ZlA:vo f ρ=(f ρ).bind Zbk:=rfl
theorem Zlz (r:Re):Zbk r=.ret (.ret r):=rfl
theorem Zly:dO 0 (.d x::ρ)=.ret (.ret (.d x)):=rfl
theorem Zlx:dO 0 (.own xs::ρ)=.ret (.ret (.own xs)):=rfl
theorem Zlw:dO (k+1) (sl::ρ)=dO k ρ:=rfl
noncomputable def Za4 (k:Nat) (ρ:List Sl) (x:PyData):Tr Ou:=.ret (.next (ρ.set k (.d x)))
theorem Zld:bv k i ρ=(i ρ).bind (Za4 k ρ):=rfl
theorem Zlc:Za4 k ρ x=.ret (.next (ρ.set k (.d x))):=rfl
noncomputable def Za3 (k:Nat) (ρ:List Sl) (x:List PyData):Tr Ou:=.ret (.next (ρ.set k (.own x)))
theorem Zlb:iE k is ρ=(is ρ).bind (Za3 k ρ):=rfl
theorem Zla:Za3 k ρ xs=.ret (.next (ρ.set k (.own xs))):=rfl
theorem ZiW {α:Type} {a b:α} {r:List α}:(a::r).set 0 b=b::r:=rfl
theorem ZiV {α:Type} {a b:α} {r:List α}:(a::r).set (k+1) b=a::r.set k b:=rfl
noncomputable def jK:Nat->List Sl->Tr (List PyData)
 | 0,.own xs::_=>.ret xs
 | k+1,_::ρ=>jK k ρ
 | _,_=>.fail
theorem ZlO:jK 0 (.own xs::ρ)=.ret xs:=rfl
theorem ZlN:jK (k+1) (sl::ρ)=jK k ρ:=rfl
theorem tE {β:Type} {g:List PyData->Tr β}:∀ (k:Nat) (σ:List Sl),(match σ[k]? with | some (Sl.own xs)=>g xs | _=>Tr.fail)=(jK k σ).bind g
 | 0,[]=>rfl
 | 0,s::r=>by cases s <;> rfl
 | k+1,[]=>rfl
 | k+1,s::r=>tE k r
noncomputable def qQ (k:Nat) (ρ:List Sl) (xs:List PyData) (x:PyData):Tr Ou:=if small (xs.length+1)=true then .ret (.next (ρ.set k (.own (xs++[x])))) else .fail
noncomputable def ZeB (k:Nat) (i:List Sl->Tr PyData) (ρ:List Sl) (xs:List PyData):Tr Ou:=(i ρ).bind (qQ k ρ xs)
theorem Znj:gm k i ρ=(jK k ρ).bind (ZeB k i ρ):=tE k ρ
theorem Zni:ZeB k i ρ xs=(i ρ).bind (qQ k ρ xs):=rfl
theorem Znh (h:small (xs.length+1)=true):qQ k ρ xs x=.ret (.next (ρ.set k (.own (xs++[x])))):=by unfold qQ; rw [if_pos h]
noncomputable def Zbj (k:Nat) (ρ:List Sl) (xs:List PyData):Tr Ou:=.ret (.next (ρ.set k (.own xs.reverse)))
theorem Zlv:qV k ρ=(jK k ρ).bind (Zbj k ρ):=tE k ρ
theorem Zlu:Zbj k ρ xs=.ret (.next (ρ.set k (.own xs.reverse))):=rfl
theorem ZmG:iF k s ρ=s (fz k ρ):=rfl
theorem Zj6:fz 0 (.own xs::ρ)=.d (.list xs)::ρ:=rfl
theorem Zj7:fz 0 (.d x::ρ)=.d x::ρ:=rfl
theorem Zj5:fz 0 (.pen::ρ)=.pen::ρ:=rfl
theorem Zj4:fz 0 (.un::ρ)=.un::ρ:=rfl
theorem Zj8:fz (k+1) (sl::ρ)=sl::fz k ρ:=by
 unfold fz
 rw [List.getElem?_cons_succ]
 cases h:ρ[k]? with
 | none=>rfl
 | some s=>cases s <;> rfl
noncomputable def tL (ρ:List Sl):Tr Ou:=.ret (.next ρ)
noncomputable def Zez (g:PyData->List Sl->Option (List Sl)) (ρ:List Sl) (x:PyData):Tr Ou:=(Tr.of (g x ρ)).bind tL
theorem Zng {g:PyData->List Sl->Option (List Sl)}:kl g i ρ=(i ρ).bind (Zez g ρ):=rfl
theorem Znf {g:PyData->List Sl->Option (List Sl)}:Zez g ρ x=(Tr.of (g x ρ)).bind tL:=rfl
theorem ZlV:tL ρ=.ret (.next ρ):=rfl
theorem ZjQ:aj k x ρ=some (ρ.set k (.d x)):=rfl
theorem ZjO {gs:List PyData->List Sl->Option (List Sl)}:ka gs (.tuple xs) ρ=gs xs ρ:=rfl
theorem ZjR:jc [] ρ=some ρ:=rfl
theorem ZjS {g:PyData->List Sl->Option (List Sl)} {gs:List PyData->List Sl->Option (List Sl)}:fk g gs (x::xs) ρ=(g x ρ).bind (gs xs):=rfl
theorem ZjP {α β:Type} {a:α} {g:α->Option β}:(some a).bind g=g a:=rfl
noncomputable def Zb9 (k n:Nat) (ρ:List Sl):List PyData->Tr Ou
 | [x,y]=>.ret (.next ((ρ.set k (.d x)).set n (.d y)))
 | _=>.fail
theorem ZlJ:lQ k n is ρ=(is ρ).bind (Zb9 k n ρ):=by
 unfold lQ
 refine congrArg (Tr.bind (is ρ)) (funext λxs=>?_)
 match xs with
 | []=>rfl
 | [_]=>rfl
 | [_,_]=>rfl
 | _::_::_::_=>rfl
theorem ZlI:Zb9 k n ρ [x,y]=.ret (.next ((ρ.set k (.d x)).set n (.d y))):=rfl
noncomputable def nk (x:PyData):Tr (List PyData):=Tr.of (gM x)
theorem Zmp:lS i ρ=(i ρ).bind nk:=rfl
theorem Zmo:nk (.list xs)=.ret xs:=rfl
theorem Zmn:nk (.tuple xs)=.ret xs:=rfl
noncomputable def fB (xs:List PyData):Tr (List PyData):=Tr.of (mH xs)
theorem Zlt:gk is ρ=(is ρ).bind fB:=rfl
theorem lx {n:Int} (h1:-1000000000000<=n) (h2:n<=1000000000000):ul n=true:=decide_eq_true (by omega)
theorem iy {n:Int} (h:ul n=true):fB [.int n]=.ret (cD 0 n):=by
 simp [fB,mH,h]
noncomputable def Zc2 (g:PyData->List Sl->Option (List Sl)) (s:List Sl->Tr Ou) (ρ:List Sl) (xs:List PyData):Tr Ou:=bJ g s xs ρ
theorem ZmN {g:PyData->List Sl->Option (List Sl)}:fP is g s ρ=(is ρ).bind (Zc2 g s ρ):=rfl
theorem ZmM {g:PyData->List Sl->Option (List Sl)}:Zc2 g s ρ xs=bJ g s xs ρ:=rfl
noncomputable def gO (g:PyData->List Sl->Option (List Sl)) (s:List Sl->Tr Ou) (xs:List PyData):Ou->Tr Ou
 | .next ρ=>bJ g s xs ρ
 | .cont ρ=>bJ g s xs ρ
 | .brk ρ=>.ret (.next ρ)
 | .ret r=>.ret (.ret r)
noncomputable def nt (g:PyData->List Sl->Option (List Sl)) (s:List Sl->Tr Ou) (xs:List PyData) (ρ:List Sl):Tr Ou:=(s ρ).bind (gO g s xs)
theorem Zkc {g:PyData->List Sl->Option (List Sl)}:bJ g s [] ρ=.ret (.next ρ):=rfl
theorem lA {g:PyData->List Sl->Option (List Sl)}:bJ g s (x::xs) ρ=(Tr.of (g x ρ)).bind (nt g s xs):=by
 rw [bJ]
 refine congrArg (Tr.bind (Tr.of (g x ρ))) (funext λρ1=>?_)
 unfold nt
 refine congrArg (Tr.bind (s ρ1)) (funext λo=>?_)
 cases o <;> rfl
theorem ZmL {g:PyData->List Sl->Option (List Sl)}:nt g s xs ρ=(s ρ).bind (gO g s xs):=rfl
theorem kc {g:PyData->List Sl->Option (List Sl)}:gO g s xs (.next ρ)=bJ g s xs ρ:=rfl
theorem ZmJ {g:PyData->List Sl->Option (List Sl)}:gO g s xs (.cont ρ)=bJ g s xs ρ:=rfl
theorem ZmK {g:PyData->List Sl->Option (List Sl)}:gO g s xs (.brk ρ)=.ret (.next ρ):=rfl
theorem ZmI {g:PyData->List Sl->Option (List Sl)} (r:Re):gO g s xs (.ret r)=.ret (.ret r):=rfl
noncomputable def bh (g:PyData->List Sl->Option (List Sl)) (el:List Sl->Tr PyData) (τ:List Sl) (x:PyData):Tr PyData:=(Tr.of (g x τ)).bind el
noncomputable def t4 (n:Nat) (ix:List Nat) (g:PyData->List Sl->Option (List Sl)) (el:List Sl->Tr PyData) (ρ:List Sl) (xs:List PyData):Tr (List PyData):=if small xs.length=true then ce (bh g el (blk n ix ρ)) xs else .fail
theorem Zmg {ix:List Nat} {g:PyData->List Sl->Option (List Sl)}:b8 is n ix g i ρ=(is ρ).bind (t4 n ix g i ρ):=rfl
theorem Zmf {ix:List Nat} {g:PyData->List Sl->Option (List Sl)} (h:small xs.length=true):t4 n ix g i ρ xs=ce (bh g i (blk n ix ρ)) xs:=by unfold t4; rw [if_pos h]
theorem Zme {τ:List Sl} {g:PyData->List Sl->Option (List Sl)}:bh g i τ x=(Tr.of (g x τ)).bind i:=rfl
theorem Zcv {h:PyData->Tr PyData} {n:Nat} {P:PyData->Prop}:∀ {xs:List PyData},(∀ x∈xs,(h x).all n P)->(ce h xs).all (xs.length * n) λys=>ys.length=xs.length/\∀ y∈ys,P y
 | [],_=>⟨rfl,λy hy=>by cases hy⟩
 | x::xs,hx=>by
  have e:(x::xs).length * n=n+(xs.length * n+0):=by rw [List.length_cons,Nat.succ_mul]; omega
  rw [e,ce]
  refine Tr.all_bind (hx x (by simp)) λy hy=>Tr.all_bind (Zcv λz hz=>hx z (List.mem_cons_of_mem _ hz)) λys hys=>?_
  exact ⟨by simp [hys.1],λz hz=>by
   rcases List.mem_cons.mp hz with rfl | hz
   ·exact hy
   ·exact hys.2 z hz⟩
theorem Zc1 {g:PyData->List Sl->Option (List Sl)} {n:Nat} (I:List PyData->List Sl->Prop) {Q:Ou->Prop} :
  ∀ {xs pre:List PyData} {ρ:List Sl},I pre ρ->(∀ pre x post ρ,pre++x::post=pre++x::post->I pre ρ->x∈xs->∃ ρ1,g x ρ=some ρ1/\(s ρ1).all n λo=>∃ ρ2,o=.next ρ2/\I (pre++[x]) ρ2)->(∀ ρ,I (pre++xs) ρ->Q (.next ρ))->(bJ g s xs ρ).all (xs.length * n) Q
 | [],pre,ρ,h0,_,hq=>hq ρ (by rw [List.append_nil]; exact h0)
 | x::xs,pre,ρ,h0,ht,hq=>by
  obtain ⟨ρ1,e,ha⟩:=ht pre x xs ρ rfl h0 (by simp)
  have en:(x::xs).length * n=n+xs.length * n:=by rw [List.length_cons,Nat.succ_mul]; omega
  rw [en,lA,e,Tr.of_some,Tr.ret_bind]
  unfold nt
  refine Tr.all_bind ha λo ⟨ρ2,eo,h2⟩=>?_
  subst eo
  rw [kc]
  exact Zc1 I h2 (λpre y post ρ e h hy=>ht pre y post ρ e h (List.mem_cons_of_mem _ hy)) (λρ h=>hq ρ (by rw [List.append_assoc] at h; exact h))
theorem ZnY {α:Type} {w:Int} {k:Int->Tr α} {n:Nat} {P:α->Prop} (h1:0 < w) (h2:w < 1073741824) (h:∀ r,0<=r->r < w->(k r).all n P):(Tr.draw w k).all (n+1) P:=⟨h1,h2,h⟩
noncomputable def tS (y:PyData) (ys:List PyData):Tr (List PyData):=.ret (y::ys)
noncomputable def mt1 (h:PyData->Tr PyData) (xs:List PyData) (y:PyData):Tr (List PyData):=(ce h xs).bind (tS y)
theorem ZiO {h:PyData->Tr PyData}:ce h []=.ret []:=rfl
theorem ZiP {h:PyData->Tr PyData} {x:PyData} {xs:List PyData}:ce h (x::xs)=(h x).bind (mt1 h xs):=rfl
theorem ZiR {h:PyData->Tr PyData} {y:PyData} {xs:List PyData}:mt1 h xs y=(ce h xs).bind (tS y):=rfl
theorem ZiQ {y:PyData} {ys:List PyData}:tS y ys=.ret (y::ys):=rfl
theorem pick {α:Type} {xs:List α} {r:Int} (h0:0<=r) (h1:r < xs.length):∃ v,bx xs r=some v/\v∈xs:=by
 have h:r.toNat < xs.length:=by omega
 exact ⟨xs[r.toNat],u6 h0 (by simp [h]),List.getElem_mem h⟩
end L2
namespace L2
open PySem
@[irreducible] noncomputable def Al {α:Type} (t:Tr α) (n:Nat) (P:α->Prop):Prop:=t.all n P
section
variable {α β:Type} {t:Tr α} {n n' N:Nat} {P:α->Prop} {P':β->Prop}
theorem Al.of (h:t.all n P):Al t n P:=by unfold Al; exact h
theorem Al.out (h:Al t n P):t.all n P:=by unfold Al at h; exact h
theorem cX {a:α} (h:P a):Al (.ret a) n P:=.of h
theorem bY {w:Int} {k:Int->Tr α} (h1:0 < w) (h2:w < 1073741824) (hN:n+1<=N) (h:∀ r,0<=r->r < w->Al (k r) n P):Al (.draw w k) N P:=.of (Tr.all_mono (ZnY h1 h2 λr a b=>(h r a b).out) hN λ_ h=>h)
theorem dY {f:α->Tr β} (h:Al t n P) (hN:n+n'<=N) (hf:∀ a,P a->Al (f a) n' P'):Al (t.bind f) N P':=.of (Tr.all_mono (Tr.all_bind h.out λa ha=>(hf a ha).out) hN λ_ h=>h)
theorem lM {Q:α->Prop} (h:Al t n P) (hN:n<=N) (hq:∀ a,P a->Q a):Al t N Q:=.of (Tr.all_mono h.out hN hq)
theorem vh {g:PyData->List Sl->Option (List Sl)} {s:List Sl->Tr Ou} {xs:List PyData} {ρ:List Sl} {Q:Ou->Prop} (I:List Sl->Prop) (h0:I ρ) (hN:xs.length * n<=N) (ht:∀ x ρ,x∈xs->I ρ->∃ ρ1,g x ρ=some ρ1/\Al (s ρ1) n λo=>∃ ρ2,o=.next ρ2/\I ρ2) (hq:∀ ρ,I ρ->Q (.next ρ)):Al (bJ g s xs ρ) N Q :=
 .of (Tr.all_mono (Zc1 (λ_ ρ=>I ρ) (pre:=[]) h0 (λpre x post ρ _ h hx=>let ⟨ρ1,e,a⟩:=ht x ρ hx h; ⟨ρ1,e,a.out⟩) λρ h=>hq ρ h) hN λ_ h=>h)
theorem vf {h:PyData->Tr PyData} {P:PyData->Prop} {xs:List PyData} {Q:List PyData->Prop} (hN:xs.length * n<=N) (hx:∀ x∈xs,Al (h x) n P) (hq:∀ ys,ys.length=xs.length->(∀ y∈ys,P y)->Q ys):Al (ce h xs) N Q :=
 .of (Tr.all_mono (Zcv λx m=>(hx x m).out) hN λys ⟨a,b⟩=>hq ys a b)
end
noncomputable def lw (lo hi:Int) (x:PyData):Prop:=∃ z:Int,x=.int z/\lo<=z/\z<=hi
theorem ZcN {lo hi:Int}:∀ {xs:List PyData},(∀ x∈xs,lw lo hi x)->∃ ns:List Int,xs=ns.map PyData.int/\∀ n∈ns,lo<=n/\n<=hi
 | [],_=>⟨[],rfl,λn hn=>by cases hn⟩
 | x::xs,h=>by
  obtain ⟨ns,e,hn⟩:=ZcN (xs:=xs) λy hy=>h y (List.mem_cons_of_mem _ hy)
  obtain ⟨z,rfl,h1,h2⟩:=h x (by simp)
  exact ⟨z::ns,by rw [e]; rfl,λn hn'=>by
   rcases List.mem_cons.mp hn' with rfl | hn'
   ·exact ⟨h1,h2⟩
   ·exact hn n hn'⟩
theorem dh {lo hi:Int}:(cD lo hi).length=(hi - lo).toNat:=by unfold cD; rw [List.length_map,sF]
theorem ZbX {xs:List PyData} {lo hi r:Int} (h:∀ x∈xs,lw lo hi x) (h0:0<=r) (h1:r < xs.length):∃ z:Int,bx xs r=some (.int z)/\lo<=z/\z<=hi:=by
 obtain ⟨v,e,m⟩:=pick h0 h1
 obtain ⟨z,rfl,a,b⟩:=h v m
 exact ⟨z,e,a,b⟩
end L2
namespace L2
open PySem PySem.Spec PyProof.Rows
variable {PK:Pk} {X:Cx} {a b c e:Expr} {es:List Expr} {pos:Pos} {i j l:List Sl->Tr PyData} {is:List Sl->Tr (List PyData)} {p q:List Sl->Tr Bool} {st:Stmt}
variable {PK:Pk} {X:Cx} {a b c e:Expr} {es:List Expr} {pos:Pos} {i j l:List Sl->Tr PyData} {as:List Sl->Tr (List Sl)}
variable {ρ:List Sl} {k:Nat} {xs:List PyData} {x:PyData} {sl:Sl} {f:List Sl->Tr Re}
theorem ZoM {prog:Program} {w:World} {A:Around} {R:Result->Shared->Prop} {s:Shared} {elt target iter cnd:Expr} {scope:Scope} {pos:Pos} {it acc:Value} {env:Env} (J:Nat->Shared->Prop)
  (step:∀ k s0,J k s0->wpAny (model prog w) A (pyNext it) (λgot s1=>match got with
   | none=>R (.ok .next) s1
   | some v=>wpAny (model prog w) A (letOwnedTupleGo target it v) (λ_ s2=>wpAny (model prog w) A (assign target env v) (λ_ s3=>wpAny (model prog w) A (isTrue cnd env (eval cnd env)) (λok s3'=>if ok=true then wpAny (model prog w) A (eval elt env) (λy s4 =>
     wpAny (model prog w) A (call (.builtin "list.append") [acc,y]) (λ_ s5=>∃ j,j < k/\J j s5) (λ_ _=>False) s4) (λ_ _=>False) s3' else ∃ j,j < k/\J j s3') (λ_ _=>False) s3) (λ_ _=>False) s2) (λ_ _=>False) s1) (λ_ _=>False) s0)
  (k:Nat) (h:J k s):codeAny (model prog w) A (.compLoop (.ListComp elt [⟨target,iter,[cnd],0⟩] scope pos) 0 it acc env) R s:=by
 refine codeAny_loop rfl J (λk0 s0 hJ=>?_) k h
 show wpAny _ _ ((compTurn (.ListComp elt [⟨target,iter,[cnd],0⟩] scope pos) 0 it acc env).onRaise (λx=>do noteFrame x env; theTreesLotGoes x)) _ _ s0
 apply wpAny_noted
 rw [compTurn_list]
 refine wpAny_bind (wpAny_standAt (wpAny_bind (wpAny_mono (step k0 s0 hJ) (λgot s1 h1=>?_) λ_ _ z=>z.elim)))
 cases got with
 | none=>exact wpAny_pure h1
 | some v =>
  refine wpAny_bind (wpAny_mono h1 (λ_ s2 h2=>?_) λ_ _ z=>z.elim)
  refine wpAny_bind (wpAny_mono h2 (λ_ s3 h3=>?_) λ_ _ z=>z.elim)
  refine wpAny_bind (wpAny_mono (wpAny_tests_one h3) (λok s3' h3'=>?_) λ_ _ z=>z.elim)
  cases ok with
  | false=>exact wpAny_pure ⟨rfl,h3'⟩
  | true =>
   refine wpAny_bind (wpAny_bind (wpAny_mono h3' (λy s4 h4=>?_) λ_ _ z=>z.elim))
   exact wpAny_bind (wpAny_mono h4 (λ_ s5 h5=>wpAny_pure (wpAny_pure ⟨rfl,h5⟩)) λ_ _ z=>z.elim)
noncomputable def rW (wi:TI) (n:Nat) (ix:List Nat) (g:Blk->TG) (tc:Blk->TT) (te:Blk->TE):TE:=λσ H Q=>wi σ H λJ H1=>∀ b:Blk,∃ W:Nat->Nat->St->List V->Hp->Prop,(∃ m,W 0 m (dm n ix σ) [] H1)/\∀ i m τ ys H2,W i m τ ys H2 ->
 (J.stop i H2/\∀ p v H',H2 p=none->v=V.ref p->H'=upd H2 p (.lst ys)->Q v H') \/
 (J.go i H2/\ys.length < sizeLine/\∀ x H3,J.yld i H2 x H3->g b x τ H3 λτ2 H4=>tc b τ2 H4 λok H4'=>if ok=true then te b τ2 H4' λy H5=>∃ m',m' < m/\W (i+1) m' τ2 (ys++[y]) H5 else ∃ m',m' < m/\W (i+1) m' τ2 ys H4')
section
variable {X:Cx} {pins:List (Addr×Obj)} {σ:St} {H:Hp} {s:Shared}
theorem Zi6 {elt target iter cnd:Expr} {scope:Scope} {pos:Pos} {Nx ts:List Str} {ix:List Nat} {g:Blk->TG} {tc:Blk->TT} {te:Blk->TE} {cl:List (Str×Addr)} {s2:Shared} {itv:Value} {R:Value->Addr->Result->Shared->Prop}
  {E:Value->Shared->Prop} {Q:VK}
  (hc:X.calm=true) (hg:∀ b,PG (bg X (bN Nx ts ix) scope b) target (g b)) (hcn:∀ b,PT (bg X (bN Nx ts ix) scope b) cnd (tc b)) (he:∀ b,PE (bg X (bN Nx ts ix) scope b) elt (te b))
  (hNx:X.N=Nx) (ok:BlkOk Nx X.env.scope scope ix) (cl1:∀ x c,cl.lookup x=some c->X.env.cells.lookup x=some c) (cl2:∀ y∈scope.names,y.2=.free->∃ c,cl.lookup y.1=some c)
  (h2:lX X pins σ target (λJ H1=>∀ b:Blk,∃ W:Nat->Nat->St->List V->Hp->Prop,(∃ m,W 0 m (dm ts.length ix σ) [] H1)/\∀ i m τ ys H2,W i m τ ys H2 ->
   (J.stop i H2/\∀ p v H',H2 p=none->v=V.ref p->H'=upd H2 p (.lst ys)->Q v H') \/
   (J.go i H2/\ys.length < sizeLine/\∀ x H3,J.yld i H2 x H3->g b x τ H3 λτ2 H4=>tc b τ2 H4 λok H4'=>if ok=true then te b τ2 H4' λy H5=>∃ m',m' < m/\W (i+1) m' τ2 (ys++[y]) H5 else ∃ m',m' < m/\W (i+1) m' τ2 ys H4')) itv s2)
  (hR:∀ (D C:Addr) (H':Hp) (s':Shared) (v:V),Inv X pins σ H' s'->v=.ref D->Q v H'->(∃ m,s'.heap.Ns C m)->H' C=none->C≠X.env.locals->X.s₀.heap.objs.size<=C->(∀ x c,X.env.cells.lookup x=some c->c≠C)->(∀ p∈X.pn++pins,p.1≠C) ->
   R (.ref D) C (.ok .next) s') :
  wpAny (model X.prog X.w) X.A (newList []) (λacc s₃=>wpAny (model X.prog X.w) X.A (newFunctionEnv scope X.env.globals cl [] X.env.qual none .none (some X.env)) (λcenv s₄ =>
   codeAny (model X.prog X.w) X.A (.compStart (.ListComp elt [⟨target,iter,[cnd],0⟩] scope pos) 0 itv acc { cenv with scope:=relabel scope X.env }) (R acc cenv.locals) s₄) E s₃) E s2:=by
 obtain ⟨it,fp,tn,J,H1,e,I2,T,st2,f2,q2⟩:=h2
 subst e
 refine wpAny_newObj_type (rL ?_)
 dsimp only
 generalize hG:s2.heap.push { cls:=.type "list",dict:=none,data:=.seq ([]:List Value).toArray }=G
 have hGs:G.objs.size=s2.heap.objs.size+1:=by rw [<- hG,Heap.size_push]
 have hfs:∀ b∈fp,b < s2.heap.objs.size:=λb hb=>let ⟨o,e,_⟩:=T.obj _ _ st2 b hb; Heap.lt_size e
 have kpG:∀ b o,G.get? b=some o->(pushCells (G.push { cls:=.type "dict",data:=.dict #[] }) scope.names).get? b=some o:=λb o e=>pushCells_keeps _ _ _ _ (Heap.get?_push_of_some _ e)
 have hns3:(pushCells (G.push { cls:=.type "dict",data:=.dict #[] }) scope.names).Ns G.objs.size (λ_=>none):=(Heap.Ns.new G (.type "dict")).keeps (pushCells_keeps _ _)
 obtain ⟨sp1,sp2,sp4,sp3⟩:=uT scope.names (G.push { cls:=.type "dict",data:=.dict #[] }) cl
 rw [Heap.size_push] at sp1 sp2 sp3 sp4
 generalize hh3:pushCells (G.push { cls:=.type "dict",data:=.dict #[] }) scope.names=h3 at kpG hns3 sp1 ⊢
 have kp:∀ b o,s2.heap.get? b=some o->h3.get? b=some o:=λb o e=>kpG b o (by rw [<- hG]; exact Heap.get?_push_of_some _ e)
 have hD3:h3.get? s2.heap.objs.size=some { cls:=.type "list",data:=.seq ([]:List Value).toArray }:=kpG _ _ (by rw [<- hG]; exact Heap.get?_push_size _ rfl)
 have clB:∀ x c,cl.lookup x=some c->c < G.objs.size+1:=λx c e=>by
  obtain ⟨v,q⟩:=I2.cell x c (cl1 x c e)
  exact Nat.lt_succ_of_lt (Nat.lt_of_lt_of_le q.lt (by rw [hGs]; exact Nat.le_succ _))
 have csI:=sp3 clB λx y c e1 e2=>I2.ok.inj x y c (cl1 x c e1) (cl1 y c e2)
 have cs1:∀ x c,(cellsFrom (G.objs.size+1) scope.names cl).lookup x=some c->X.env.cells.lookup x=some c\/(G.objs.size < c/\h3.IsCell c none/\(x,NameKind.cell)∈scope.names):=λx c e=>by
  rcases sp1 x c e with z | ⟨z1,z2,z3⟩
  ·exact .inl (cl1 x c z)
  ·exact .inr ⟨by omega,z2,z3⟩
 have cs2:∀ y∈scope.names,(y.2=.free\/y.2=.cell)->∃ c,(cellsFrom (G.objs.size+1) scope.names cl).lookup y.1=some c:=λy hy hk=>by
  refine sp2 y.1 ?_
  rcases hk with z | z
  ·exact .inr (cl2 y hy z)
  ·exact .inl (by rw [<- z]; exact hy)
 have csA:∀ x c,(x,NameKind.cell)∈scope.names->(cellsFrom (G.objs.size+1) scope.names cl).lookup x=some c->G.objs.size<=c:=λx c e1 e2=>Nat.le_of_succ_le (sp4 x c e1 e2)
 generalize hcs:cellsFrom (G.objs.size+1) scope.names cl=cs at csI cs1 cs2 csA ⊢
 generalize hCe:G.objs.size=C at hns3 cs1 csA ⊢
 have hC:s2.heap.objs.size<=C:=by omega
 have hDC:s2.heap.objs.size≠C:=by omega
 let B:Blk:=⟨cs,C,s2,H1,fp,X.pn++pins⟩
 have I3:Inv (bg X (bN Nx ts ix) scope B) [] (dm ts.length ix σ) H1 { s2 with heap:=h3 }:=uj I2 hNx ok cs1 csI cs2 csA f2 hfs hC kp hns3
 have fC:H1 s2.heap.objs.size=none:=I2.hok.fresh (Nat.le_refl _)
 have cellIn:∀ x c,cs.lookup x=some c->c≠s2.heap.objs.size:=λx c e=>by
  rcases cs1 x c e with z | ⟨z,_,_⟩
  ·obtain ⟨v,q⟩:=I2.cell x c z
   exact Nat.ne_of_lt q.lt
  ·exact Nat.ne_of_gt (Nat.lt_of_le_of_lt hC z)
 have pinIn:∀ p∈X.pn++pins,p.1 < s2.heap.objs.size:=λp hp=>Heap.lt_size (I2.pin p hp).1
 have nofrs:s2.heap.objs.size ∉ frs X.stack:=λhb=>by
  rcases List.mem_cons.mp (I2.stkSub _ hb) with z | z
  ·exact absurd I2.lt (by rw [<- z]; exact Nat.lt_irrefl _)
  ·exact I2.nofs (Nat.le_refl _) z
 -- a state with the list at its place,pinned
 have pinD:∀ {τ:St} {H':Hp} {s':Shared} {ob:Obj},Inv (bg X (bN Nx ts ix) scope B) [] τ H' s'->s'.heap.get? s2.heap.objs.size=some ob->H' s2.heap.objs.size=none->(∀ v,ob.data≠.cell v)->Inv (bg X (bN Nx ts ix) scope B) [(s2.heap.objs.size,ob)] τ H' s' :=
  λ{τ H' s' ob} I' ho hn hd=>I'.pins_of λp hp=>by
   have e:p=(s2.heap.objs.size,ob):=by simpa using hp
   subst e
   exact ⟨ho,hn,hDC,nofrs,hd⟩
 obtain ⟨W,⟨m0,w0⟩,turn⟩:=q2 B
 have stat:∀ {H':Hp} {ob:Obj},(∀ b∈fp,H' b=none)->∀ b∈fp,gZ (bg X (bN Nx ts ix) scope B) [(s2.heap.objs.size,ob)] H' b:=λ{H' ob} hn b hb=>by
  refine ⟨hn b hb,Nat.ne_of_lt (Nat.lt_of_lt_of_le (hfs b hb) hC),λz=>?_,.inl hb,λx c e=>by
   rcases cs1 x c e with z | ⟨z,_,_⟩
   ·exact (f2 b hb).2.2.2.2.1 x c z
   ·exact Nat.ne_of_gt (Nat.lt_of_lt_of_le (hfs b hb) (Nat.le_trans hC (Nat.le_of_lt z))),λp hp=>?_⟩
  ·rcases List.mem_cons.mp (I2.stkSub _ z) with q | q
   ·exact (f2 b hb).2.1 q
   ·exact (f2 b hb).2.2.1 q
  ·rcases List.mem_append.mp hp with z | z
   ·exact (f2 b hb).2.2.2.2.2 p z
   ·have e:p=(s2.heap.objs.size,ob):=by simpa using z
    subst e
    exact Nat.ne_of_gt (hfs b hb)
 have loop:∀ s4:Shared,s4={ s2 with heap:=h3 } ->
   codeAny (model X.prog X.w) X.A (.compLoop (.ListComp elt [⟨target,iter,[cnd],0⟩] scope pos) 0 (.ref it) (.ref s2.heap.objs.size) (compEnvC scope cs C X.env)) (R (.ref s2.heap.objs.size) C) s4:=by
  rintro s4 rfl
  refine ZoM (λk s'=>∃ i τ ys its n H',Inv (bg X (bN Nx ts ix) scope B) [(s2.heap.objs.size,({ cls:=.type "list",data:=.seq (List.toArray its) n }:Obj))] τ H' s'/\tn i s'.heap/\(∀ b∈fp,H' b=none)/\Vals ys its/\ys.length<=sizeLine/\W i k τ ys H') ?_ m0
   ⟨0,_,[],[],_,H1,pinD I3 hD3 fC (λv z=>by cases z),T.keep _ _ _ st2 λb hb o e=>kp b o e,λb hb=>(f2 b hb).1,.nil,Nat.zero_le _,w0⟩
  rintro k s5 ⟨i,τ,ys,its,n,H5,I5,st5,fr5,rv,hz,w5⟩
  rcases turn i k τ ys H5 w5 with ⟨stop,qn⟩ | ⟨go,hlt,step⟩
  ·refine thn (T.done (bg X (bN Nx ts ix) scope B) rfl rfl rfl hc i _ s5 τ H5 _ I5 (stat fr5) st5 stop) λgot s6 hz0=>?_
   obtain ⟨hr,I6⟩:=hz0
   subst hr
   obtain ⟨ho,hn,_,_,_⟩:=I6.pin (s2.heap.objs.size,({ cls:=.type "list",data:=.seq (List.toArray its) n }:Obj)) (List.mem_append_right _ (by simp))
   have I7:Inv X pins σ H5 s6:=I2.call' (ch:=fp) (H':=H5) (by exact I6.os) I6.base I6.hok I6.bare λb hb=>⟨(f2 b hb).2.2.2.1,(f2 b hb).2.1,(f2 b hb).2.2.2.2.1,(f2 b hb).2.2.2.2.2⟩
   have hs0:X.s₀.heap.objs.size<=s2.heap.objs.size:=I2.sz
   have I8:=I7.track hn ho rv hz (Nat.ne_of_gt I2.lt) hs0 (λx c e z=>by
    obtain ⟨v,q⟩:=I2.cell x c e
    exact absurd q.lt (by rw [z]; exact Nat.lt_irrefl _)) (λp hp=>Nat.ne_of_lt (pinIn p hp))
   obtain ⟨m6,hm6,_⟩:=I6.loc
   refine hR _ C _ s6 _ I8 rfl (qn _ _ _ hn rfl rfl) ⟨m6,hm6⟩ ?_ (λz=>?_) (Nat.le_trans hs0 hC) (λx c e z=>?_) λp hp=>Nat.ne_of_lt (Nat.lt_of_lt_of_le (pinIn p hp) hC)
   ·rw [aO (Ne.symm hDC)]
    exact I6.free
   ·exact absurd (Nat.lt_of_lt_of_le I2.lt hC) (by rw [z]; exact Nat.lt_irrefl _)
   ·obtain ⟨v,q⟩:=I2.cell x c e
    exact absurd (Nat.lt_of_lt_of_le q.lt hC) (by rw [z]; exact Nat.lt_irrefl _)
  ·refine thn (T.item (bg X (bN Nx ts ix) scope B) rfl rfl rfl hc i _ s5 τ H5 _ I5 (stat fr5) st5 go) λgot s6 hz0=>?_
   obtain ⟨u,hr,h6⟩:=hz0
   subst hr
   refine thn h6 λ_ s7 hz0=>?_
   obtain ⟨x,H7,I7,r7,y7,st7,fr7⟩:=hz0
   have I7':=I7.pinned (stat fr7) (T.obj _ _ st7)
   refine thn (hg B _ s7 τ H7 x u _ I7' r7 (step x H7 y7)) λ_ s8 hz0=>?_
   obtain ⟨τ8,H8,I8,q8⟩:=hz0
   refine thn (hcn B _ s8 τ8 H8 _ I8 q8) λokk s8' hz0=>?_
   obtain ⟨H8',I8',q8'⟩:=hz0
   cases okk with
   | false =>
    obtain ⟨m',hm',w9⟩:=q8'
    obtain ⟨ho,hn,_,_,_⟩:=I8'.pin (s2.heap.objs.size,({ cls:=.type "list",data:=.seq (List.toArray its) n }:Obj)) (List.mem_append_right _ (List.mem_append_left _ (by simp)))
    have I9':Inv (bg X (bN Nx ts ix) scope B) [] τ8 H8' s8':=I8'.pins_of λp hp=>absurd hp (by simp)
    refine ⟨m',hm',i+1,τ8,ys,its,n,H8',pinD I9' ho hn (λv z=>by cases z),?_,λb hb=>?_,rv,hz,w9⟩
    ·refine T.keep _ _ _ st7 λb hb o e=>?_
     exact (I8'.pin (b,o) (List.mem_append_right _ (List.mem_append_right _ (gH hb e)))).1
    ·obtain ⟨o,e,d⟩:=T.obj _ _ st7 b hb
     exact (I8'.pin (b,o) (List.mem_append_right _ (List.mem_append_right _ (gH hb e)))).2.1
   | true =>
   refine thn (he B _ s8' τ8 H8' _ I8' q8') λy s9 hz0=>?_
   obtain ⟨vy,H9,I9,r9,m',hm',w9⟩:=hz0
   obtain ⟨ho,hn,_,_,_⟩:=I9.pin (s2.heap.objs.size,({ cls:=.type "list",data:=.seq (List.toArray its) n }:Obj)) (List.mem_append_right _ (List.mem_append_left _ (by simp)))
   have lenv:=rv.length
   refine wpAny_list_append_plain (l:=s2.heap.objs.size) ⟨n,ho⟩ (λh' hpl hsb=>?_) (by rw [List.size_toArray]; omega)
   obtain ⟨n',ho'⟩:=hpl
   have eobj:(its.toArray.push y)=List.toArray (its++[y]):=by simp
   rw [eobj] at ho'
   have I9':Inv (bg X (bN Nx ts ix) scope B) [] τ8 H9 s9:=I9.pins_of λp hp=>absurd hp (by simp)
   have I10:Inv (bg X (bN Nx ts ix) scope B) [] τ8 H9 { s9 with heap:=h' }:=I9'.turned (it:=s2.heap.objs.size) (t':=s9.toks) (λb o hb e=>(hsb.2 b hb).trans e) hn hDC (.inr (Nat.le_refl _)) cellIn (λp hp=>by
    have hp':p∈(X.pn++pins)++[]:=hp
    rw [List.append_nil] at hp'
    exact Nat.ne_of_lt (pinIn p hp'))
   refine ⟨m',hm',i+1,τ8,ys++[vy],its++[y],n',H9,pinD I10 ho' hn (λv z=>by cases z),?_,λb hb=>?_,rv.append (.cons r9 .nil),by rw [List.length_append]; show ys.length+1<=_; omega,w9⟩
   ·refine T.keep _ _ _ st7 λb hb o e=>?_
    have q:=(I9.pin (b,o) (List.mem_append_right _ (List.mem_append_right _ (gH hb e)))).1
    exact (hsb.2 b (Nat.ne_of_lt (hfs b hb))).trans q
   ·obtain ⟨o,e,d⟩:=T.obj _ _ st7 b hb
    exact (I9.pin (b,o) (List.mem_append_right _ (List.mem_append_right _ (gH hb e)))).2.1
 exact codeAny_compStart_list (loop _ rfl) (T.self X.A 0 _ _ _ (T.keep _ _ _ st2 λb hb o e=>kp b o e) (loop _ rfl))
theorem Zb3 {elt target iter cnd:Expr} {scope:Scope} {pos:Pos} {wi:TI} {g:Blk->TG} {tc:Blk->TT} {te:Blk->TE} (Nx:List Str) (ts:List Str) (ix:List Nat)
  (hc:X.calm=true) (hi:PI X target iter wi) (hg:∀ b,PG (bg X (bN Nx ts ix) scope b) target (g b)) (hcn:∀ b,PT (bg X (bN Nx ts ix) scope b) cnd (tc b)) (he:∀ b,PE (bg X (bN Nx ts ix) scope b) elt (te b))
  (hNx:X.N=Nx) (ok:BlkOk Nx X.env.scope scope ix) (hs:∀ x,foldedSetIterable iter X.env x=pure x:=by intro _; rfl) :
  PE X (.ListComp elt [⟨target,iter,[cnd],0⟩] scope pos) (rW wi ts.length ix g tc te):=by
 intro pins s σ H Q I h
 obtain ⟨cl,hcl,cl1,cl2⟩:=qJ (scope:=scope) (env:=X.env) λy hy hf=>I.ok.has y.1 (ok.frees y hy hf)
 rw [eval_ListComp]
 refine wpAny_comprehension_free (use:=none) rfl hs hcl ok.kind ok.locs (thn (hi pins s σ H _ I h) λv s1 h1=>thn h1 λitv s2 h2=>?_)
 refine Zi6 (R:=λacc C=>compPost (model X.prog X.w) X.A X.xe none (EP X pins σ Q) acc C) hc hg hcn he hNx ok cl1 cl2 h2 ?_
 rintro D C H' s' v I' rfl q ⟨m,hm⟩ hn hL h0 hcl' hp
 exact ⟨m,hm,λh' hsb=>⟨.ref D,H',I'.turned (it:=C) (t':=s'.toks) (λb o hb e=>(hsb.2 b hb).trans e) hn hL (.inr h0) hcl' hp,rfl,q⟩⟩
end
section
variable {PK:Pk} {X:Cx} {e:Expr} {st:Stmt} {i:List Sl->Tr PyData} {is:List Sl->Tr (List PyData)} {p:List Sl->Tr Bool}
noncomputable def pY (y:Option PyData) (ys:List PyData):Tr (List PyData):=.ret (match y with
 | some y=>y::ys
 | none=>ys)
noncomputable def fi (h:PyData->Tr (Option PyData)):List PyData->Tr (List PyData)
 | []=>.ret []
 | x::xs=>(h x).bind λy=>(fi h xs).bind (pY y)
noncomputable def ly (p:List Sl->Tr Bool) (i:List Sl->Tr PyData) (τ:List Sl):Tr (Option PyData):=(p τ).bind λok=>if ok=true then (i τ).bind λy=>.ret (some y) else .ret none
noncomputable def lR (is:List Sl->Tr (List PyData)) (n:Nat) (ix:List Nat) (g:PyData->List Sl->Option (List Sl)) (p:List Sl->Tr Bool) (el:List Sl->Tr PyData):List Sl->Tr (List PyData):=λρ =>
 (is ρ).bind λxs=>if small xs.length=true then fi (λx=>(Tr.of (g x (blk n ix ρ))).bind (ly p el)) xs else .fail
theorem Zi5 {n:Nat} {ix:List Nat} {g:PyData->List Sl->Option (List Sl)} (hn:jr n g):∀ σ H Q,jq PK (lR is n ix g p i) σ H Q->rW (gu PK is) n ix (λ_=>fQ PK g) (λ_=>TAt PK p) (λ_=>TAe PK i) σ H Q:=by
 rintro σ H Q ⟨pa,G₀,H₀,m,ρ,G,R,z⟩
 refine ⟨pa,G₀,H₀,m,ρ,G,R,Tr.ok_mono (Tr.ok_bind.mp z) λm1 xs k J G1 H1 s1 w1 jo=>λB=>?_⟩
 obtain ⟨hs,k⟩:=gc k
 have hs:xs.length<=sizeLine:=of_decide_eq_true hs
 let el:PyData->Tr (Option PyData):=λx=>(Tr.of (g x (blk n ix ρ))).bind (ly p i)
 let W:Nat->Nat->St->List V->Hp->Prop:=λk mm τ ys H2=>mm=xs.length - k/\k<=xs.length/\ys.length<=k/\∃ m G2 ds,Sub G1 G2/\Stp pa G H G2 H2/\Rl PK pa G₀ H₀ m τ (blk n ix ρ) G2 H2 /\
  DnAll G2 ys ds/\(fi el (xs.drop k)).ok m λm' zs=>Ko1 PK pa m' G H (ds++zs) Q
 refine ⟨W,⟨xs.length,rfl,Nat.zero_le _,Nat.le_refl _,m1,G1,[],.refl,s1,(R.step s1 w1).blk n ix,.nil,k⟩,?_⟩
 rintro k mm τ ys H2 ⟨rfl,hk,hy,m2,G2,ds,sb,st2,R2,dn,k2⟩
 obtain ⟨j1,j2⟩:=jo m2 G2 H2 sb R2.wd
 by_cases hlt:k < xs.length
 ·have hx:xs[k]?=some xs[k]:=by simp [hlt]
  obtain ⟨jg,jy⟩:=j1 k _ hx
  refine .inr ⟨jg,by omega,λx H3 y=>?_⟩
  obtain ⟨G3,s3,w3,d3⟩:=jy x H3 y
  rw [List.drop_eq_getElem_cons hlt] at k2
  unfold fi at k2
  rw [Tr.ok_bind,Tr.ok_bind] at k2
  obtain ⟨ρ3,hg3,k3⟩:=Tr.ok_of k2
  refine ⟨pa,G₀,H₀,m2,_,G3,_,ρ3,R2.step s3 w3,d3,hg3,λτ4 R4=>?_⟩
  obtain ⟨pl,pk⟩:=hn _ _ _ hg3
  have hback:∀ (q:Nat) (sl:Sl),(blk n ix ρ)[q]?=some sl->sl=.un\/ρ3[q]?=some sl:=λq sl hq=>by
   by_cases hqn:q < n
   ·left
    unfold blk at hq
    rw [List.getElem?_append_left (by simpa using hqn),List.getElem?_replicate,if_pos hqn] at hq
    cases hq
    rfl
   ·right
    rw [pk q (Nat.le_of_not_lt hqn)]
    exact hq
  unfold ly at k3
  rw [Tr.ok_bind] at k3
  refine ⟨pa,G₀,H₀,m2,ρ3,G3,R4,Tr.ok_mono k3 λm4 ok k4 G4 H4 s4 w4=>?_⟩
  have R4':=R4.step s4 w4
  have s34:=s3.trans s4 w3.some
  cases ok with
  | false =>
   have k4':((fi el (xs.drop (k+1))).bind (pY none)).ok m4 λm' zs=>Ko1 PK pa m' G H (ds++zs) Q:=k4
   refine ⟨xs.length - (k+1),by omega,rfl,hlt,by omega,m4,G4,ds,sb.trans s34.gs,st2.trans s34 R2.wd.some,R4'.weak pl hback,DnAll.mono s34.gs dn,?_⟩
   exact Tr.ok_mono (Tr.ok_bind.mp k4') λm6 zs k6=>k6
  | true =>
   have k4':((i ρ3).bind λy=>.ret (some y)).ok m4 λm' y=>((fi el (xs.drop (k+1))).bind (pY y)).ok m' λm' zs=>Ko1 PK pa m' G H (ds++zs) Q:=k4
   rw [Tr.ok_bind] at k4'
   refine ⟨pa,G₀,H₀,m4,ρ3,G4,R4',Tr.ok_mono k4' λm5 yd k5=>?_⟩
   intro v G5 H5 s5 w5 d5
   have s35:=s34.trans s5 w4.some
   refine ⟨xs.length - (k+1),by omega,rfl,hlt,by rw [List.length_append]; show ys.length+1<=_; omega,m5,G5,ds++[yd],sb.trans s35.gs,st2.trans s35 R2.wd.some,(R4'.step s5 w5).weak pl hback,(DnAll.mono s35.gs dn).snoc d5,?_⟩
   have k5':((fi el (xs.drop (k+1))).bind (pY (some yd))).ok m5 λm' zs=>Ko1 PK pa m' G H (ds++zs) Q:=k5
   refine Tr.ok_mono (Tr.ok_bind.mp k5') λm6 zs k6=>?_
   rw [List.append_assoc]
   exact k6
 ·have e:k=xs.length:=by omega
  subst e
  refine .inl ⟨j2,λp v H' hp ev eH=>?_⟩
  subst ev eH
  rw [List.drop_length] at k2
  have k2':Ko1 PK pa m2 G H (ds++[]) Q:=k2
  rw [List.append_nil] at k2'
  exact (Ko1.later k2' st2 R2.wd.some).new R2.wd dn hp
theorem ZeC {n:Nat} {ix:List Nat} {g:PyData->List Sl->Option (List Sl)} (h:PE X e (rW (gu PK is) n ix (λ_=>fQ PK g) (λ_=>TAt PK p) (λ_=>TAe PK i))) (hn:jr n g):PE X e (jq PK (lR is n ix g p i)):=h.imp (Zi5 hn)
end
theorem BlkOk.leaf {Nx:List Str} {sc scope:Scope} (h1:scope.kind=.function) (h2:∀ y∈scope.names,y.2≠.cell/\y.2≠.free) (h3:∀ y∈scope.names,y.2=.local->scope.names.lookup y.1=some .local):BlkOk Nx sc scope [] :=
 ⟨h1,λy hy z=>absurd z (h2 y hy).1,h3,λy hy z=>absurd z (h2 y hy).2,λj hj=>by cases hj⟩
section
variable {X:Cx}
section
variable {ρ:List Sl} {is:List Sl->Tr (List PyData)} {n:Nat} {i:List Sl->Tr PyData} {p:List Sl->Tr Bool} {xs:List PyData} {x:PyData}
noncomputable def j6 (g:PyData->List Sl->Option (List Sl)) (p:List Sl->Tr Bool) (el:List Sl->Tr PyData) (τ:List Sl) (x:PyData):Tr (Option PyData):=(Tr.of (g x τ)).bind (ly p el)
noncomputable def t3 (n:Nat) (ix:List Nat) (g:PyData->List Sl->Option (List Sl)) (p:List Sl->Tr Bool) (el:List Sl->Tr PyData) (ρ:List Sl) (xs:List PyData):Tr (List PyData):=if small xs.length=true then fi (j6 g p el (blk n ix ρ)) xs else .fail
theorem Zmb {ix:List Nat} {g:PyData->List Sl->Option (List Sl)}:lR is n ix g p i ρ=(is ρ).bind (t3 n ix g p i ρ):=rfl
theorem Zmd {ix:List Nat} {g:PyData->List Sl->Option (List Sl)} (h:small xs.length=true):t3 n ix g p i ρ xs=fi (j6 g p i (blk n ix ρ)) xs:=by unfold t3; rw [if_pos h]
theorem Zmc {τ:List Sl} {g:PyData->List Sl->Option (List Sl)}:j6 g p i τ x=(Tr.of (g x τ)).bind (ly p i):=rfl
noncomputable def uo (y:PyData):Tr (Option PyData):=.ret (some y)
noncomputable def uq (i:List Sl->Tr PyData) (τ:List Sl) (b:Bool):Tr (Option PyData):=if b=true then (i τ).bind uo else .ret none
theorem Zmz {τ:List Sl}:ly p i τ=(p τ).bind (uq i τ):=rfl
theorem ZmB {τ:List Sl}:uq i τ true=(i τ).bind uo:=rfl
theorem ZmC {τ:List Sl}:uq i τ false=.ret none:=rfl
theorem ZmA:uo x=.ret (some x):=rfl
end
end
section
variable {PK:Pk} {X:Cx} {e:Expr} {as:List Sl->Tr (List Sl)}
end
section
variable {ρ:List Sl} {as:List Sl->Tr (List Sl)} {f:List PyData->Option PyData} {x:PyData} {xs:List PyData} {i j:List Sl->Tr PyData} {k:Nat} {p:List Sl->Tr Bool} {s:List Sl->Tr Ou}
end
end L2
namespace L2
open PySem PySem.Spec PyProof.Rows
open AutoSeq1 (wpAny_loadPart')
section
variable {prog:Program} {w:World} {A:Around} {E:Value->Shared->Prop} {s:Shared}
end
section
variable {prog:Program} {w:World} {A:Around} {E:Value->Shared->Prop} {s:Shared}
end
section
variable {X:Cx} {tg:Expr} {PK:Pk} {a b:Expr} {i j:List Sl->Tr PyData} {p pos:Pos}
end
end L2
namespace L2
open PySem PySem.Spec PyProof.Rows
section
variable {X:Cx} {tg:Expr} {PK:Pk} {e:Expr} {i j:List Sl->Tr PyData} {is:List Sl->Tr (List PyData)} {p pos:Pos}
end
section
variable {X:Cx} {PK:Pk} {i n:List Sl->Tr PyData}
end
section
variable {prog:Program} {w:World} {A:Around} {E:Value->Shared->Prop} {s:Shared}
end
section
variable {X:Cx} {PK:Pk} {e st:Expr} {te ts:TE} {i j:List Sl->Tr PyData} {p2 pos:Pos}
end
section
variable {prog:Program} {w:World} {A:Around} {R:Result->Shared->Prop} {I S:Addr} {fp wr:List Addr} {n:Nat} {P:Nat->Value->Prop} {St:Nat->Heap->Prop} {h0:Heap}
end
section
variable {prog:Program} {w:World} {A:Around} {E:Value->Shared->Prop} {s:Shared}
end
section
variable {X:Cx}
end
section
variable {X:Cx} {PK:Pk} {e:Expr} {is:List Sl->Tr (List PyData)}
end
section
variable {prog:Program} {w:World} {A:Around} {E:Value->Shared->Prop} {s:Shared}
end
section
variable {X:Cx}
end
section
variable {X:Cx} {PK:Pk} {a b:Expr} {pos:Pos} {j:List Sl->Tr PyData}
theorem uz {α β:Type}:∀ {t:Tr α} {m:Nat} {Z:Nat->β->Prop},(t.bind λ_=>(Tr.fail:Tr β)).ok m Z->False
 | .ret a,m,Z,h=>h
 | .draw n k,m,Z,h=>uz (t:=k 0) (h.2.2.2 0 (Int.le_refl _) h.2.1)
 | .fail,m,Z,h=>h
end
section
variable {prog:Program} {w:World} {A:Around} {E:Value->Shared->Prop} {s:Shared}
theorem ZoQ {t b:Addr} {ws:List Value} {Q:Value->Shared->Prop} (ht:IsTup s.heap t ([]:List Value).toArray) (hb:IsTup s.heap b ws.toArray) (h1:Q (.ref b) s):wpAny (model prog w) A (binaryOp .Add (.ref t) (.ref b)) Q E s:=by
 obtain ⟨⟨cls,dd,data,sl⟩,ho,hc,n,hd⟩:=id ht
 obtain ⟨⟨cls2,dd2,data2,ff⟩,ho2,hc2,n2,hd2⟩:=id hb
 simp only at hc hd hc2 hd2
 subst hc hd hc2 hd2
 exact concat_meets ⟨_,ho,rfl⟩ ⟨_,ho2,rfl⟩ noFill_tuple_add seq_tuple_add PySem.F.slot_tuple_add PySem.F.entry_tuple_add (PySem.F.args_tuple_add_2 _ _) (tuple_addW0 t b _ ws.toArray n n2 dd dd2 sl ff rfl) ⟨ho,ho2,h1⟩
end
section
variable {X:Cx}
noncomputable def ZbQ (K:PySem.W.Frag):R2:=λx y H Q=>∃ a b ys,x=.ref a/\y=.ref b/\SqT K H a []/\SqT K H b ys/\Q (.ref b) H
theorem Zim:OpR X (binaryOp .Add) (ZbQ X.K):=by
 intro pins s σ H x y v u Q I rx ry h
 obtain ⟨a,b,ys,rfl,rfl,ha,hb,q⟩:=h
 cases rx
 cases ry
 obtain ⟨its,r1,p1,_⟩:=I.tuple ha
 obtain ⟨its2,r2,p2,_⟩:=I.tuple hb
 cases r1
 exact ZoQ p1 p2 ⟨.ref b,H,I,rfl,q⟩
noncomputable def lO:PyData->PyData->Option PyData
 | .tuple [],.tuple ys=>some (.tuple ys)
 | x,y=>eX x y
noncomputable def sL (K:PySem.W.Frag):R2:=λx y H Q=>sM K x y H Q\/ZbQ K x y H Q
theorem Zio:OpR X (binaryOp .Add) (sL X.K):=pM.or Zim
theorem Zfn {K:PySem.W.Frag}:b9 (sL K) lO:=λPK pa m G H x y dx dy dz Q w hx hy hz k=>by
 unfold lO at hz
 split at hz
 ·cases hz
  cases hx with
  | tup a1 a2 =>
   cases a2
   cases hy with
   | tup b1 b2=>exact .inr ⟨_,_,_,rfl,rfl,SqT.of (w.sub _ _ a1),SqT.of (w.sub _ _ b1),k.here w (.tup b1 b2)⟩
 ·exact .inl (n5 PK pa m G H x y _ _ dz Q w hx hy hz k)
theorem Zns {ys:List PyData}:aJ lO (.tuple []) (.tuple ys)=.ret (.tuple ys):=rfl
theorem Znr {x:PyData} {xs ys:List PyData} (h:small ((x::xs).length+ys.length)=true):aJ lO (.tuple (x::xs)) (.tuple ys)=.ret (.tuple (x::xs++ys)):=by
 show Tr.of (eX (.tuple (x::xs)) (.tuple ys))=_
 unfold eX
 simp only [List.isEmpty_cons,Bool.not_false,Bool.true_and,h,if_true]
 rfl
end
section
variable {PK:Pk} {X:Cx} {a b:Expr} {pos:Pos} {i j:List Sl->Tr PyData}
noncomputable def Zpj (f:PyData->PyData->Option (List PyData)) (x y:PyData):Tr (List PyData):=Tr.of (f x y)
end
theorem t0 {α:Type} {n:Nat}:∀ {us:List α},us.length=n+1->∃ (a:α) (t:List α),us=a::t/\t.length=n
 | a::t,h=>⟨a,t,rfl,Nat.succ.inj h⟩
theorem Zi1 {α:Type} {us:List α} (h:us.length=0):us=[]:=List.eq_nil_of_length_eq_zero h
theorem bI {α:Type} {us:List α} (h:us.length=1):∃ a,us=[a]:=by
 obtain ⟨a,t,rfl,h2⟩:=t0 h
 exact ⟨a,by rw [Zi1 h2]⟩
theorem j4 {α:Type} {us:List α} (h:us.length=2):∃ a0 a1,us=[a0,a1]:=by
 obtain ⟨a0,t,rfl,h2⟩:=t0 h
 obtain ⟨a1,rfl⟩:=bI h2
 exact ⟨a0,a1,rfl⟩
theorem Zcz {α:Type} {us:List α} (h:us.length=3):∃ a0 a1 a2,us=[a0,a1,a2]:=by
 obtain ⟨a0,t,rfl,h2⟩:=t0 h
 obtain ⟨a1,a2,rfl⟩:=j4 h2
 exact ⟨a0,a1,a2,rfl⟩
section
variable {PK:Pk} {X:Cx} {pos:Pos} {n:Nat} {is:List Sl->Tr (List PyData)} {s t:List Sl->Tr Ou}
end
section
variable {PK:Pk} {X:Cx} {a b c d e:Expr} {pos:Pos} {i j l n:List Sl->Tr PyData}
open Classical in
noncomputable def gP (h:Heap) (dx:PyData) (u:Value):Bool:=decide (∃ y as,Reads h u y as/\y.canLay0=true/\PyData.eqv y dx=true)
open Classical in
theorem Zdg {h:Heap} {dx y:PyData} {u:Value} {as:List Addr} (r:Reads h u y as) (hy:y.canLay0=true):gP h dx u=PyData.eqv y dx:=by
 unfold gP
 cases he:PyData.eqv y dx with
 | true=>exact decide_eq_true ⟨y,as,r,hy,he⟩
 | false =>
  refine decide_eq_false λz=>?_
  obtain ⟨y',as',r',hy',e'⟩:=z
  have:=SeqAt.Reads.unique y y' u as as' hy r r'
  subst this
  rw [he] at e'; cases e'
theorem va {P:Program} {w:World} {H:Hp} {h:Heap} (ok:HOk P w H h) {dx:PyData}:∀ {vs:List V} {ds:List PyData} {us:List Value},DnAll H vs ds->ds.all SeqAt.shaped=true->Vals vs us->us.any (gP h dx)=ds.any λy=>PyData.eqv y dx
 | _,_,_,.nil,_,.nil=>rfl
 | _,_,_,.cons a t,f,.cons r rs=>by
  rw [List.all_cons,Bool.and_eq_true] at f
  obtain ⟨as,r1⟩:=Dn.reads ok a (PyData.hasDict_of_canLay _ (SeqAt.canLay_of_shaped f.1)) r
  rw [List.any_cons,List.any_cons,Zdg r1 (SeqAt.canLay_of_shaped f.1),va ok t f.2 rs]
theorem tU {P:Program} {w:World} {H:Hp} {s:Shared} (ok:HOk P w H s.heap) {A:Around} (hu:A.units+64 < cLine) {dx:PyData} {v:Value} {bs:List Addr} (rv:Reads s.heap v dx bs) (hx:SeqAt.shaped dx=true):∀ {vs:List V} {ds:List PyData} {us:List Value},DnAll H vs ds->ds.all SeqAt.shaped=true->Vals vs us->∀ u∈us,SeqAt.EqAt A s u v (gP s.heap dx u)
 | _,_,_,.nil,_,.nil=>λu hu=>by cases hu
 | _,_,_,.cons a t,f,.cons r rs=>λu hm=>by
  rw [List.all_cons,Bool.and_eq_true] at f
  rcases List.mem_cons.mp hm with rfl | hm
  ·obtain ⟨as,r1⟩:=Dn.reads ok a (PyData.hasDict_of_canLay _ (SeqAt.canLay_of_shaped f.1)) r
   rw [Zdg r1 (SeqAt.canLay_of_shaped f.1)]
   exact SeqAt.eqAt_reads _ _ A s _ _ _ _ r1 rv (SeqAt.canLay_of_shaped f.1) (SeqAt.canLay_of_shaped hx) (SeqAt.room_of_shaped f.1 hu)
  ·exact tU ok hu rv hx t f.2 rs u hm
noncomputable def oY (neg:Bool):R2:=λx y H Q=>∃ dx ds,Dn H x dx/\Dn H y (.list ds)/\SeqAt.shaped dx=true/\ds.all SeqAt.shaped=true/\Q (.bl (if neg then !(ds.any λz=>PyData.eqv z dx) else ds.any λz=>PyData.eqv z dx)) H
theorem Zij {k:Nat} (hr:Room k X.A):OpR X (compareOp .In) (oY false):=by
 intro pins s σ H x y v u Q I rx ry h
 obtain ⟨dx,ds,hx,hy,sx,sd,q⟩:=h
 cases hy with
 | lst e1 e2 =>
  cases ry
  obtain ⟨its,r,pl,hz⟩:=I.list (SqL.of e1)
  obtain ⟨as,rv⟩:=Dn.reads I.hok hx (PyData.hasDict_of_canLay _ (SeqAt.canLay_of_shaped sx)) rx
  have hu:X.A.in1.units+64 < cLine:=by have:=hr.un; show X.A.units+_+64 < _; omega
  refine SeqAt.in_listAt (gP s.heap dx) pl.isList (λw hw=>tU I.hok hu rv sx e2 sd r w (by simpa using hw)) ⟨.bl _,H,I,rfl,?_⟩
  rw [show its.toArray.any (gP s.heap dx)=its.any (gP s.heap dx) by simp,va I.hok e2 sd r]
  exact q
theorem Zie {k:Nat} (hr:Room k X.A):OpR X (compareOp .NotIn) (oY true):=by
 intro pins s σ H x y v u Q I rx ry h
 obtain ⟨dx,ds,hx,hy,sx,sd,q⟩:=h
 cases hy with
 | lst e1 e2 =>
  cases ry
  obtain ⟨its,r,pl,hz⟩:=I.list (SqL.of e1)
  obtain ⟨as,rv⟩:=Dn.reads I.hok hx (PyData.hasDict_of_canLay _ (SeqAt.canLay_of_shaped sx)) rx
  have hu:X.A.in1.units+64 < cLine:=by have:=hr.un; show X.A.units+_+64 < _; omega
  refine SeqAt.notIn_listAt (gP s.heap dx) pl.isList (λw hw=>tU I.hok hu rv sx e2 sd r w (by simpa using hw)) ⟨.bl _,H,I,rfl,?_⟩
  rw [show its.toArray.any (gP s.heap dx)=its.any (gP s.heap dx) by simp,va I.hok e2 sd r]
  exact q
noncomputable def nl (neg:Bool):PyData->PyData->Option PyData
 | x,.list ds=>if (SeqAt.shaped x && ds.all SeqAt.shaped)=true then some (.bool (if neg then !(ds.any λz=>PyData.eqv z x) else ds.any λz=>PyData.eqv z x)) else none
 | _,_=>none
theorem Zfm {neg:Bool}:b9 (oY neg) (nl neg):=λPK pa m G H x y dx dy dz Q w hx hy hz k=>by
 unfold nl at hz
 split at hz
 ·split at hz
  ·rename_i hc
   rw [Bool.and_eq_true] at hc
   cases hz
   exact ⟨_,_,hx.mono w.sub,hy.mono w.sub,hc.1,hc.2,k.here w (.bl _)⟩
  ·cases hz
 ·cases hz
end
end L2
set_option exponentiation.threshold 9000
namespace Tw
open PySem L2
noncomputable def nb (k:Nat) (n:Int):Prop:=n.natAbs < 2 ^ k
theorem pS {k:Nat} {n:Int} (h:nb k n) (hk:k<=8000):fit n=true:=decide_eq_true (Nat.lt_of_lt_of_le h (Nat.pow_le_pow_right (by decide) hk))
theorem pR {k l:Nat} {n:Int} (h:nb k n) (hk:k<=l):nb l n:=Nat.lt_of_lt_of_le h (Nat.pow_le_pow_right (by decide) hk)
theorem tQ {k:Nat} {n:Int} (h1:-(2 ^ k:Nat) < n) (h2:n < (2 ^ k:Nat)):nb k n:=by
 unfold nb
 omega
theorem Zcn {k:Nat} {n b:Int} (h:-b<=n/\n<=b) (hb:b < (2 ^ k:Nat)):nb k n:=tQ (by omega) (by omega)
noncomputable def ws (f:Int->Int):Nat->List Int->Int
 | _,[]=>0
 | k,w::l=>w * f k+ws f (k+1) l
section
variable (s:Shp)
end
noncomputable def tI (l:List Int):PyData:=.tuple (l.map PyData.int)
noncomputable def fD (fs:List (List Int)):PyData:=.tuple (fs.map tI)
end Tw
namespace L2
open PySem PySem.Spec PyProof.Rows
variable {ρ:List Sl} {s t:List Sl->Tr Ou} {i j l:List Sl->Tr PyData} {is:List Sl->Tr (List PyData)} {k n:Nat} {x y d:PyData} {xs ys:List PyData} {sl:Sl}
theorem rb2 {α β:Type} {a:α} {f:α->Tr β}:(Tr.ret a).bind f=f a:=Eq.trans (Tr.ret_bind a f) (Eq.refl _)
theorem Zpy {α:Type} {t:Tr α} {a:α} {P:α->Prop} {N:Nat} (h:t=.ret a) (hp:P a):Al t N P:=by rw [h]; exact cX hp
theorem Zc0 {s:List Sl->Tr Ou} {g:PyData->List Sl->Option (List Sl)} {n:Nat} {full:List PyData} (I:List PyData->List Sl->Prop) {Q:Ou->Prop} (ht:∀ pre x post ρ,full=pre++x::post->I pre ρ->∃ ρ1,g x ρ=some ρ1/\(s ρ1).all n λo=>∃ ρ2,o=.next ρ2/\I (pre++[x]) ρ2) (hq:∀ ρ,I full ρ->Q (.next ρ)) :
  ∀ {xs pre:List PyData} {ρ:List Sl},full=pre++xs->I pre ρ->(bJ g s xs ρ).all (xs.length * n) Q
 | [],pre,ρ,e,h0=>hq ρ (by rw [e,List.append_nil]; exact h0)
 | x::xs,pre,ρ,e0,h0=>by
  obtain ⟨ρ1,e,ha⟩:=ht pre x xs ρ e0 h0
  have en:(x::xs).length * n=n+xs.length * n:=by rw [List.length_cons,Nat.succ_mul]; omega
  rw [en,lA,e,Tr.of_some,Tr.ret_bind]
  unfold nt
  refine Tr.all_bind ha λo ⟨ρ2,eo,h2⟩=>?_
  subst eo
  rw [kc]
  exact Zc0 I ht hq (by rw [e0,List.append_assoc]; rfl) h2
theorem vg {n N:Nat} {g:PyData->List Sl->Option (List Sl)} {s:List Sl->Tr Ou} {xs:List PyData} {ρ:List Sl} {Q:Ou->Prop} (I:List PyData->List Sl->Prop) (h0:I [] ρ) (hN:xs.length * n<=N) (ht:∀ pre x post ρ,xs=pre++x::post->I pre ρ->∃ ρ1,g x ρ=some ρ1/\Al (s ρ1) n λo=>∃ ρ2,o=.next ρ2/\I (pre++[x]) ρ2) (hq:∀ ρ,I xs ρ->Q (.next ρ)):Al (bJ g s xs ρ) N Q :=
 .of (Tr.all_mono (Zc0 (full:=xs) I (λpre x post ρ e h=>let ⟨ρ1,e,a⟩:=ht pre x post ρ e h; ⟨ρ1,e,a.out⟩) hq (pre:=[]) rfl h0) hN λ_ h=>h)
theorem sE {lo hi:Int} {pre post:List PyData} {x:PyData} (h:cD lo hi=pre++x::post):x=.int (lo+pre.length)/\(pre.length:Int) < hi - lo:=by
 have h1:(cD lo hi)[pre.length]?=some x:=by rw [h]; simp
 have hl:pre.length < (cD lo hi).length:=(List.getElem?_eq_some_iff.mp h1).1
 rw [dh] at hl
 unfold cD jG at h1
 rw [List.map_map,List.getElem?_map,List.getElem?_range (by omega)] at h1
 refine ⟨?_,by omega⟩
 cases h1
 rfl
end L2
namespace Tw
open PySem L2
noncomputable abbrev rng (lo hi:Int):List Int:=jG lo (hi - lo).toNat
variable {α:Type}
noncomputable def f3 (lo a b c:Int) (t:Int->Int->Int->Option α):Option α:=(rng lo a).findSome? λu=>(rng (u+1) b).findSome? λv=>(rng (v+1) c).findSome? λw=>t u v w
structure Rp (d:PyData) (k n:Nat):Prop where
 hd:d.hasDict=false
 sh:d.showable=true
 dp:d.depth<=k
 ln:d.shown.length<=n
theorem Zg4 {d:PyData} {k n:Nat} (h:Rp d k n) (hk:k<=32) (hn:n<=10000000):mI d=true:=by
 unfold mI
 rw [h.hd,h.sh,decide_eq_true (Nat.le_trans h.dp hk),decide_eq_true (Nat.le_trans h.ln (Nat.le_trans hn (by rw [sizeLine_eq]; decide)))]
 rfl
theorem oW {d:PyData} {k n k' n':Nat} (h:Rp d k n) (hk:k<=k') (hn:n<=n'):Rp d k' n':=⟨h.hd,h.sh,Nat.le_trans h.dp hk,Nat.le_trans h.ln hn⟩
theorem Zg6 {i:Int} (h:nb 1900 i):Rp (.int i) 0 1901:=by
 have h1:=ZaY [i] λn hn=>by simp at hn; subst hn; exact h
 have h2:=(ZaX [i] λn hn=>by simp at hn; subst hn; exact h).1
 refine ⟨rfl,?_,Nat.zero_le _,?_⟩
 ·simp only [List.map_cons,List.map_nil,PyData.showableAll,Bool.and_true] at h1
  exact h1
 ·simp only [List.map_cons,List.map_nil,PyData.shownAll,List.sum_cons,List.sum_nil,List.length_cons,List.length_nil] at h2
  omega
theorem sD {k n:Nat}:∀ {xs:List PyData},(∀ x∈xs,Rp x k n)->PyData.hasDictAll xs=false/\PyData.showableAll xs=true/\PyData.depthAll xs<=k/\((PyData.shownAll xs).map (·.length)).sum<=xs.length * n/\(PyData.shownAll xs).length=xs.length
 | [],_=>⟨rfl,rfl,Nat.zero_le _,by simp [PyData.shownAll],rfl⟩
 | x::xs,h=>by
  obtain ⟨h1,h2,h3,h4,h5⟩:=sD (xs:=xs) λy hy=>h y (List.mem_cons_of_mem _ hy)
  have hx:=h x (by simp)
  refine ⟨?_,?_,?_,?_,?_⟩
  ·rw [PyData.hasDictAll,hx.hd,h1]; rfl
  ·rw [PyData.showableAll,hx.sh,h2]; rfl
  ·rw [PyData.depthAll]; have:=hx.dp; omega
  ·rw [PyData.shownAll,List.map_cons,List.sum_cons,List.length_cons,Nat.succ_mul]; have:=hx.ln; omega
  ·rw [PyData.shownAll,List.length_cons,List.length_cons,h5]
theorem Zg2 {xs:List PyData} {k n:Nat} (h:∀ x∈xs,Rp x k n):Rp (.tuple xs) (k+1) (xs.length * n+2 * xs.length+10):=by
 obtain ⟨h1,h2,h3,h4,h5⟩:=sD h
 have c3:=tupleText_len_le (PyData.shownAll xs)
 refine ⟨?_,?_,?_,?_⟩
 ·rw [PyData.hasDict,h1]
 ·rw [PyData.showable,h2]
 ·rw [PyData.depth]; omega
 ·rw [PyData.shown]; omega
theorem Zg5 {xs:List PyData} {k n:Nat} (h:∀ x∈xs,Rp x k n):Rp (.list xs) (k+1) (xs.length * n+2 * xs.length+10):=by
 obtain ⟨h1,h2,h3,h4,h5⟩:=sD h
 have c3:=listText_len_le (PyData.shownAll xs)
 refine ⟨?_,?_,?_,?_⟩
 ·rw [PyData.hasDict,h1]
 ·rw [PyData.showable,h2]
 ·rw [PyData.depth]; omega
 ·rw [PyData.shown]; omega
theorem euclid {p:List Sl->Tr Bool} {s:List Sl->Tr Ou} {E:Nat->Nat->List Sl} (hp:∀ a b:Nat,p (E a b)=.ret (decide (b≠0))) (hs:∀ a b:Nat,b≠0->s (E a b)=.ret (.next (E b (a % b)))) :
  ∀ n k a b:Nat,b < 2 ^ n->dg p s (2 * n+1+k) (E a b)=.ret (.next (E (Nat.gcd a b) 0)):=by
 have stop:∀ k a:Nat,dg p s (k+1) (E a 0)=.ret (.next (E a 0)):=λk a=>by
  rw [dg,hp,Tr.ret_bind]
  rfl
 have go:∀ k a b:Nat,b≠0->dg p s (k+1) (E a b)=dg p s k (E b (a % b)):=λk a b hb=>by
  rw [dg,hp,Tr.ret_bind,decide_eq_true hb,if_pos rfl,hs a b hb,Tr.ret_bind]
 intro n
 induction n with
 | zero =>
  intro k a b hb
  have e:b=0:=by simp at hb; exact hb
  subst e
  rw [Nat.gcd_zero_right,Nat.add_comm (2 * 0+1) k]
  exact stop k a
 | succ n ih =>
  intro k a b hb
  by_cases h0:b=0
  ·subst h0
   have e:2 * (n+1)+1+k=(2 * (n+1)+k)+1:=by omega
   rw [Nat.gcd_zero_right,e]
   exact stop _ a
  ·have e:2 * (n+1)+1+k=(2 * n+2+k)+1:=by omega
   rw [e,go _ a b h0]
   have hr:a % b < b:=Nat.mod_lt _ (Nat.pos_of_ne_zero h0)
   by_cases h1:a % b=0
   ·rw [h1]
    have e2:2 * n+2+k=(2 * n+1+k)+1:=by omega
    have eg:Nat.gcd a b=b:=by rw [Nat.gcd_comm,Nat.gcd_rec,h1,Nat.gcd_zero_left]
    rw [e2,eg]
    exact stop _ b
   ·have e2:2 * n+2+k=(2 * n+1+k)+1:=by omega
    rw [e2,go _ b (a % b) h1]
    have hlt:b % (a % b) < 2 ^ n:=by
     have h2:b % (a % b) < a % b:=Nat.mod_lt _ (Nat.pos_of_ne_zero h1)
     have h3:b % (a % b)+a % b<=b:=by
      have h4:=Nat.div_add_mod b (a % b)
      have h5:1<=b / (a % b):=(Nat.le_div_iff_mul_le (Nat.pos_of_ne_zero h1)).mpr (by omega)
      have h6:a % b<=(a % b) * (b / (a % b)):=Nat.le_mul_of_pos_right _ h5
      omega
     rw [Nat.pow_succ] at hb
     omega
    rw [ih k (a % b) (b % (a % b)) hlt]
    have eg:Nat.gcd a b=Nat.gcd (a % b) (b % (a % b)):=by
     rw [Nat.gcd_comm a b,Nat.gcd_rec b a,Nat.gcd_rec (a % b) b,Nat.gcd_comm]
    rw [eg]
theorem Zc6 (a b:Nat):(a:Int).fmod (b:Int)=((a % b:Nat):Int):=by
 rw [Int.fmod_eq_emod_of_nonneg _ (Int.natCast_nonneg b)]
 rfl
theorem ZeH (n:Int):jl n=(n.natAbs:Int):=by
 unfold jl
 split <;> omega
noncomputable def sj (t b:Int):PyData:=.tuple [.int (Gc.jZ t b),.int (Gc.i8 t b)]
theorem ZdE {t b:Int} {l:Nat} (hb:nb l b) (h0:b≠0):nb l (Gc.den t b):=by
 unfold nb
 rw [Gc.qC]
 exact Nat.lt_of_le_of_lt (Nat.gcd_le_right _ (by omega)) hb
noncomputable def pr (p:Int×Int):List Int:=[p.1,p.2]
end Tw
namespace L2
open PySem PySem.Spec PyProof.Rows
noncomputable def ge (h:Heap) (fs:List Addr):Heap:=⟨h.objs.mapIdx λi o=>if i∈fs then { o with data:=.freed } else o,h.life⟩
theorem iX {h:Heap} {fs:List Addr} {b:Addr} (hb:b∈fs):(ge h fs).get? b=none:=by
 unfold ge Heap.get?
 simp only [Array.getElem?_mapIdx]
 cases h.objs[b]? with
 | none=>rfl
 | some o=>simp [hb]
theorem dS {h:Heap} {fs:List Addr} {b:Addr} (hb:b ∉ fs):(ge h fs).get? b=h.get? b:=by
 unfold ge Heap.get?
 simp only [Array.getElem?_mapIdx]
 cases h.objs[b]? with
 | none=>rfl
 | some o=>simp [hb]
theorem pQ (h:Heap) (fs:List Addr):(ge h fs).StaysIn h:=λb o e=>by
 by_cases hb:b∈fs
 ·rw [iX hb] at e; cases e
 ·rw [dS hb] at e; exact e
theorem ffr {h base:Heap} {l:List Env} (hl:h.FunFrames base l) (fs:List Addr) (hf:∀ b∈frs l,b∈fs):h.FunFrames (ge h fs) l:=by
 induction l with
 | nil=>trivial
 | cons env rest ih =>
  obtain ⟨hk,⟨L,o,he,hn,ho,hd⟩,hr⟩:=hl
  have hm:∀ b∈frs rest,b∈frs (env::rest):=λb hb=>by
   unfold frs at hb ⊢
   rw [List.filterMap_cons,he]
   exact List.mem_cons_of_mem _ hb
  refine ⟨hk,⟨L,o,he,iX (hf L ?_),ho,hd⟩,ih hr λb hb=>hf b (hm b hb)⟩
  unfold frs
  rw [List.filterMap_cons,he]
  exact List.mem_cons_self
theorem HOk.tracked {P:Program} {w:World} {H:Hp} {h h':Heap} (x:HOk P w H h) (k:∀ b u,H b≠none->h.get? b=some u->h'.get? b=some u):HOk P w H h':=λa o e =>
 (x a o e).stay (λb u hb q=>k b u (λz=>by rcases hb with r | r <;> (first | (subst r; rw [z] at e; cases e) | (rw [z] at r; cases r))) q) (λ_ q=>q) (λ_ _ q=>q) λ_ _ _ _ q _=>q
theorem ObjOk.get {P:Program} {w:World} {H:Hp} {h:Heap} {a:Addr} {o:HO} (x:ObjOk P w H h a o):∃ u,h.get? a=some u:=by
 cases o with
 | lst xs=>obtain ⟨_,_,_,_,e⟩:=x; exact ⟨_,e⟩
 | tup xs=>obtain ⟨_,_,_,ob,e,_⟩:=x; exact ⟨_,e⟩
 | dK kvs=>obtain ⟨_,_,_,_,o,_,_,e,_⟩:=x; exact ⟨_,e⟩
 | dT kvs=>obtain ⟨_,_,_,_,o,_,_,e,_⟩:=x; exact ⟨_,e⟩
 | set S n=>obtain ⟨o,_,_,_,e,_⟩:=x; exact ⟨_,e⟩
 | ins C dx fs=>obtain ⟨_,_,_,e,_⟩:=x; exact ⟨_,e⟩
 | own y=>obtain ⟨_,e⟩:=x; exact ⟨_,e⟩
 | xd fs=>obtain ⟨_,⟨_,_,_,e,_⟩,_⟩:=x; exact ⟨_,e⟩
 | rng lo hi=>obtain ⟨_,_,_,e⟩:=x; exact ⟨_,e⟩
 | frz ob u=>obtain ⟨e,_⟩:=x; exact ⟨_,e⟩
 | tbl ps=>exact ⟨_,(show h.get? a=some _ from x)⟩
 | met f y=>exact ⟨_,(show h.get? a=some _ from x)⟩
 | ext φ=>obtain ⟨_,⟨_,e⟩,_⟩:=x; exact ⟨_,e⟩
 | cod ps=>obtain ⟨_,e,_⟩:=x; exact ⟨_,e⟩
noncomputable def cg (P:Program) (w:World):d7:=λouter H s E e s'=>∃ (ea t:Addr) (cls:Value) (b':Heap) (H':Hp),e=.ref ea/\s'.os=s.os/\AllBare s'.gens/\Un (frs outer) [] H H' s.heap s'.heap/\HOk P w H' s'.heap /\
 Heap.FlyingW b' outer ea cls (.ref t) s'.heap/\(∀ b o,s.heap.get? b=some o->b ∉ frs outer->∃ o',b'.get? b=some o')/\(∀ b,H' b≠none->∃ o',b'.get? b=some o')/\E cls none H'
theorem Zhp {P:Program} {w:World} {K:PySem.W.Frag} {mg:Str->Option Value} {base:Heap} {N:List Str} {qual:Str} {scope:Scope} {f:Addr} {cd:Value} {A:Around} {outer:List Env} {s₀:Shared} {H₀:Hp} {E:XK}
  {pins:List (Addr×Obj)} {σ:St} {H:Hp} {s:Shared} {h':Heap} {e:Addr} {cls:Value} {args:List Value}
  (I:Inv (df (cg P w) P w K mg base N qual scope f cd A outer s₀ H₀ E) pins σ H s) (hx:Heap.MadeExcOf s.heap h' e cls args) (hE:E cls none H) :
  (df (cg P w) P w K mg base N qual scope f cd A outer s₀ H₀ E).xe (.ref e) { s with heap:=h' }:=by
 let X:=df (cg P w) P w K mg base N qual scope f cd A outer s₀ H₀ E
 have hst:s.heap.FunFrames base (envOfC qual scope s₀.heap.objs.size f cd::outer):=I.stack
 have hfree:∀ b∈frs (envOfC qual scope s₀.heap.objs.size f cd::outer),H b=none:=I.stkFree
 have hfr:(A.deeper (envOfC qual scope s₀.heap.objs.size f cd)).frames=some (envOfC qual scope s₀.heap.objs.size f cd::outer):=I.ok.frames
 have hbase:Un (frs outer) [] H₀ H s₀.heap s.heap:=I.base
 obtain ⟨_,⟨L,oL,hL,_,hoL,_⟩,_⟩:=id hst
 have hLe:L=s₀.heap.objs.size:=(Option.some.inj hL).symm
 have hfs:∀ b,b∈frs (envOfC qual scope s₀.heap.objs.size f cd::outer) ↔ b=L\/b∈frs outer:=λb=>by
  unfold frs
  rw [List.filterMap_cons,hL]
  exact List.mem_cons
 show wpAny (model P w) (A.deeper (envOfC qual scope s₀.heap.objs.size f cd)) (leaving (envOfC qual scope s₀.heap.objs.size f cd) (.ref e)) (λ_ s''=>cg P w outer H₀ s₀ E (.ref e) s'') (λe' s''=>cg P w outer H₀ s₀ E e' s'') { s with heap:=h' }
 refine wpAny_leaves_madeW (s:={ s with heap:=h' }) (base:=ge s.heap (frs (envOfC qual scope s₀.heap.objs.size f cd::outer))) hfr hL (pQ _ _) (ffr hst _ λb hb=>hb) hx λh'' t fl tup tn ups=>?_
 have stay:∀ b o,s.heap.get? b=some o->b ∉ frs (envOfC qual scope s₀.heap.objs.size f cd::outer)->h''.get? b=some o:=λb o hb hn=>fl.1 b o (by rw [dS hn]; exact hb)
 have slot:∀ b o,s.heap.get? b=some o->b∈frs (envOfC qual scope s₀.heap.objs.size f cd::outer)->∃ sl,h''.get? b=some { o with slots:=sl }:=λb o hb hn=>by
  obtain ⟨_,o',ho',hd⟩:=hst.mem hn
  rw [hb] at ho'
  cases ho'
  exact ups b o (hx.keeps b o hb) hd
 have old:∀ b o,s₀.heap.get? b=some o->b≠L:=λb o hb z=>by
  have:=Heap.lt_size hb
  rw [z,hLe] at this
  exact absurd this (Nat.lt_irrefl _)
 have un:Un (frs outer) [] H₀ H s₀.heap h'':=by
  refine ⟨λb o hb hn hf hx=>?_,λb o hb hn hf hx=>?_,hbase.free,λb o hb hx=>?_,hbase.tups,hbase.frzs,hbase.tbls⟩
  ·exact stay b o (hbase.keep b o hb hn hf hx) λz=>((hfs b).mp z).elim (old b o hb) hf
  ·obtain ⟨sl,e1⟩:=hbase.slot b o hb hn hf hx
   obtain ⟨ff,e2⟩:=slot b _ e1 ((hfs b).mpr (.inr hf))
   exact ⟨ff,e2⟩
  ·obtain ⟨o',e1⟩:=hbase.there b o hb hx
   by_cases hq:b∈frs (envOfC qual scope s₀.heap.objs.size f cd::outer)
   ·obtain ⟨ff,e2⟩:=slot b _ e1 hq
    exact ⟨_,e2⟩
   ·exact ⟨o',stay b o' e1 hq⟩
 refine ⟨e,t,cls,_,H,rfl,I.os,I.bare,un,HOk.tracked I.hok λb u hb q=>stay b u q λz=>hb (hfree b z),fl,λb o hb hf=>?_,λb hb=>?_,hE⟩
 ·obtain ⟨o',e1⟩:=hbase.there b o hb (by simp)
  exact ⟨o',by rw [dS λz=>((hfs b).mp z).elim (old b o hb) hf]; exact e1⟩
 ·cases e1:H b with
  | none=>exact absurd e1 hb
  | some u =>
   obtain ⟨o',e2⟩:=(I.hok b u e1).get
   exact ⟨o',by rw [dS λz=>hb (hfree b z)]; exact e2⟩
theorem rebase {b' h:Heap} {l:List Env} {e:Addr} {cls a0:Value} (x:Heap.FlyingW b' l e cls a0 h):∃ T,b'.get? T=none/\(∃ oT ts,h.get? T=some oT/\oT.data=.fields ts)/\(∃ oe vs,h.get? e=some oe/\oe.cls=cls/\oe.data=.fields vs)/\Heap.FlyingW (ge h (e::T::frs l)) l e cls a0 h:=by
 obtain ⟨f1,f2,f3,oe,vs,T,oT,ts,he,hc,hd,h1,hT,hTe,hoT,hdT,h3⟩:=x
 refine ⟨T,hT,⟨oT,ts,hoT,hdT⟩,⟨oe,vs,he,hc.1,hd⟩,pQ _ _,iX (by simp),ffr f3 _ λb hb=>List.mem_cons_of_mem _ (List.mem_cons_of_mem _ hb),oe,vs,T,oT,ts,he,hc,hd,h1,iX (by simp),hTe,hoT,hdT,h3⟩
theorem lands {P:Program} {w:World} {A:Around} {env:Env} {outer:List Env} {L:Addr} {H:Hp} {s:Shared} {b':Heap} {e:Addr} {cls a0:Value} {Q:Unit->Shared->Prop} {E:Value->Shared->Prop}
  (hfr:A.frames=some (env::outer)) (hf:env.frame=some L) (hfl:Heap.FlyingW b' (env::outer) e cls a0 s.heap) (hok:HOk P w H s.heap) (hst:∀ b∈frs (env::outer),H b=none) (ht:∀ b,H b≠none->∃ o',b'.get? b=some o')
  (k:∀ h' T,b'.get? T=none->T ∉ frs (env::outer)->Un (frs (env::outer)) [e,T] H H s.heap h'->HOk P w H h'->Heap.FlyingW (ge s.heap (e::T::frs (env::outer))) (env::outer) e cls a0 h'->Q () { s with heap:=h' }) :
  wpAny (model P w) A (noteFrame (.ref e) env) (λ_ s₂=>wpAny (model P w) A (setFlight (.ref e) none) Q E s₂) E s:=by
 obtain ⟨T,hT,⟨oT,ts,hoT,hdT⟩,⟨oe,vs,hoe,hoc,hod⟩,fl⟩:=rebase hfl
 have nof:∀ {b:Addr} {o:Obj} {us:Array Value},s.heap.get? b=some o->o.data=.fields us->b ∉ frs (env::outer):=λ{b o us} h1 h2 z=>by
  obtain ⟨_,o',ho',hd⟩:=hfl.2.2.1.mem z
  rw [h1] at ho'
  cases ho'
  exact hd us h2
 refine wpAny_looks_onW hfr hf fl λh₄ held ups₄=>?_
 refine wpAny_landsW held λh₅ fl₅ ups₅=>?_
 have ups:=ups₄.trans ups₅
 have stay:∀ b o,s.heap.get? b=some o->b ∉ frs (env::outer)->b ∉ [e,T]->h₅.get? b=some o:=λb o hb hn hx=>fl₅.1 b o (by
  rw [dS]
  ·exact hb
  ·intro z
   rcases List.mem_cons.mp z with z | z
   ·exact hx (by simp [z])
   ·rcases List.mem_cons.mp z with z | z
    ·exact hx (by simp [z])
    ·exact hn z)
 have slot:∀ b o,s.heap.get? b=some o->b∈frs (env::outer)->∃ sl,h₅.get? b=some { o with slots:=sl }:=λb o hb hn=>by
  obtain ⟨_,o',ho',hd⟩:=hfl.2.2.1.mem hn
  rw [hb] at ho'
  cases ho'
  exact ups b o hb hd
 have non:∀ b,b'.get? b=none->H b=none:=λb hb=>by
  cases e1:H b with
  | none=>rfl
  | some u =>
   obtain ⟨o',e2⟩:=ht b (by rw [e1]; simp)
   rw [hb] at e2; cases e2
 have he:H e=none:=non e hfl.2.1
 have hTn:H T=none:=non T hT
 refine k h₅ T hT (nof hoT hdT) ⟨λb o hb hn hf hx=>stay b o hb hf hx,λb o hb hn hf hx=>slot b o hb hf,λb o hb hn hx=>hn,λb o hb hx=>?_,λ_ _ z=>z,λ_ _ _ z=>z,λb ps z=>⟨#[],by rw [z,Array.append_empty]⟩⟩
  (HOk.tracked hok λb u hb q=>stay b u q (λz=>hb (hst b z)) λz=>?_) fl₅
 ·by_cases hq:b∈frs (env::outer)
  ·obtain ⟨sl,e1⟩:=slot b o hb hq
   exact ⟨_,e1⟩
  ·exact ⟨o,stay b o hb hq hx⟩
 ·rcases List.mem_cons.mp z with z | z
  ·subst z; exact hb he
  ·rcases List.mem_cons.mp z with z | z
   ·subst z; exact hb hTn
   ·cases z
structure Xcl (K:PySem.W.Frag) (C:Addr) (bmB:List Value) (newId:String):Prop where
 ex:∃ (nm q:Str) (N:Addr) (bs bm:List Value) (hdct:Bool) (sn:List Str) (sub:List Value) (ab:Bool) (col:Option Bool) (dd:Option Addr) (k0 k1 k2 k3 k5:Option Value) (mN:Str->Option Value),
  K.lookup C=some (excClassObj nm q C N bs bm hdct sn sub ab col dd k0 k1 k2 k3 k5 newId)/\(∀ h:Heap,K.In h->h.Ns N mN/\OwnTail h bmB bm)/\mN "__init__"=none/\bm.contains (.type "BaseException")=true
theorem Zho {X:Cx} {pins:List (Addr×Obj)} {σ:St} {H:Hp} {s:Shared} {x:Str} {np cpos pos:Pos} {arg:Expr} {C:Addr} {B newId initId:String} {bmB:List Value} {t:TE} {Q:Flow->Shared->Prop}
  (F:ExcBaseFacts B newId initId bmB) (c:Xcl X.K C bmB newId) (hg:Gl X x) (hm:X.mg x=some (.ref C)) (hc:X.calm=true) (ha:PE X arg t) (I:Inv X pins σ H s)
  (h:t σ H λv H1=>∀ s1 h' e args,Inv X pins σ H1 s1->Heap.MadeExcOf s1.heap h' e (.ref C) args->X.xe (.ref e) { s1 with heap:=h' })
  (hs:starEach [arg] X.env=[(false,eval arg X.env)]:=by rfl) (hdb:(x == ("__debug__":Str))=false:=by decide) :
  wpAny (model X.prog X.w) X.A (exec (.Raise (some (.Call (.Name x np) [arg] [] cpos)) none pos) X.env) Q X.xe s:=by
 obtain ⟨nm,q,N,bs,bm,hdct,sn,sub,ab,col,dd,k0,k1,k2,k3,k5,mN,lk,hn,hni,hb⟩:=c.ex
 refine wpAny_Raise_call_subT (C:=C) (nm:=nm) (q:=q) (N:=N) (bs:=bs) (bm:=bm) (hdct:=hdct) (sn:=sn) (sub:=sub) (ab:=ab) (col:=col) (dd:=dd) (k0:=k0) (k1:=k1) (k2:=k2) (k3:=k3) (k5:=k5) (mN:=mN) F hb (I.ok.hd hc) (by rw [hs]; rfl) hni ?_
 refine t1 I hg hm ⟨rfl,?_⟩ (hd:=hdb)
 rw [hs]
 refine Calls.evalArgs_plain (Calls.spliced_cons (thn (ha pins s σ H _ I h) λu s1 hz0=>Calls.spliced_nil ?_))
 obtain ⟨v,H1,I1,r1,z⟩:=hz0
 have KX:X.K.In s1.heap:=I1.kIn
 exact ⟨rfl,by show 1<=sizeLine; decide,KX _ _ lk,(hn _ KX).1,(hn _ KX).2,λh' e hx=>z s1 h' e _ I1 hx⟩
theorem kU {P:Program} {w:World} {K:PySem.W.Frag} {mg:Str->Option Value} {base:Heap} {N:List Str} {qual:Str} {scope:Scope} {f:Addr} {cd:Value} {A:Around} {outer:List Env} {s₀:Shared} {H₀:Hp} {E:XK}
  {x msg:Str} {np cpos pos mp:Pos} {mk:Nat} {C:Addr} {B newId initId:String} {bmB:List Value}
  (F:ExcBaseFacts B newId initId bmB) (c:Xcl K C bmB newId) (hg:Gl (df (cg P w) P w K mg base N qual scope f cd A outer s₀ H₀ E) x) (hm:mg x=some (.ref C)) (hdb:(x == ("__debug__":Str))=false:=by decide) :
  PS (df (cg P w) P w K mg base N qual scope f cd A outer s₀ H₀ E) (.Raise (some (.Call (.Name x np) [.Constant (.str msg) mk mp] [] cpos)) none pos) (λ_ _ H=>E (.ref C) none H):=by
 intro pins s σ H D I h
 exact Zho F c hg hm rfl dR I (λs1 h' e args I1 hx=>Zhp I1 hx h) rfl hdb
theorem Un.skip {fs ex:List Addr} {H H1 H2:Hp} {h h1 h2:Heap} (a:Un fs [] H H1 h h1) (b:Un fs ex H1 H2 h1 h2) (hx:∀ c∈ex,h.get? c=none):Un fs [] H H2 h h2:=by
 have no:∀ {c:Addr} {o:Obj},h.get? c=some o->c ∉ ex:=λ{c o} e z=>by rw [hx c z] at e; cases e
 refine ⟨λc o e n f _=>?_,λc o e n f _=>?_,λc o e n _=>?_,λc o e _=>?_,λc xs e=>b.tups c xs (a.tups c xs e),λc o u e=>b.frzs c o u (a.frzs c o u e),λc ps e=>?_⟩
 ·exact b.keep c o (a.keep c o e n f (by simp)) (a.free c o e n (by simp)) f (no e)
 ·obtain ⟨sl,e1⟩:=a.slot c o e n f (by simp)
  obtain ⟨ff,e2⟩:=b.slot c _ e1 (a.free c o e n (by simp)) f (no e)
  exact ⟨ff,e2⟩
 ·obtain ⟨o',e1⟩:=a.there c o e (by simp)
  exact b.free c o' e1 (a.free c o e n (by simp)) (no e)
 ·obtain ⟨o',e1⟩:=a.there c o e (by simp)
  exact b.there c o' e1 (no e)
 ·obtain ⟨m1,e1⟩:=a.tbls c ps e
  obtain ⟨m2,e2⟩:=b.tbls c _ e1
  exact ⟨m1++m2,by rw [e2,Array.append_assoc]⟩
theorem Zd4 {X:Cx} {pins:List (Addr×Obj)} {σ:St} {H:Hp} {s s':Shared} {E:XK} {e:Value} {outer:List Env} {L:Addr} {Q:Unit->Shared->Prop} {EE:Value->Shared->Prop}
  (I:Inv X pins σ H s) (hstk:X.stack=X.env::outer) (hL:X.env.frame=some L) (hq:cg X.prog X.w X.stack H s E e s')
  (k:∀ (ea:Addr) (cls:Value) (H':Hp) (h':Heap),e=.ref ea->Inv X pins σ H' { s' with heap:=h' }->H' ea=none->(∃ oe,h'.get? ea=some oe/\oe.cls=cls)->(∃ b'' t,Heap.FlyingW b'' X.stack ea cls (.ref t) h'/\(∀ c,b''.get? c=none->c ∉ frs X.stack->s.heap.get? c=none)/\∀ b,H' b≠none->∃ o',b''.get? b=some o')->Un (frs X.stack) [] H H' s.heap h'->E cls none H'->Q () { s' with heap:=h' }) :
  wpAny (model X.prog X.w) X.A (noteFrame e X.env) (λ_ s₂=>wpAny (model X.prog X.w) X.A (setFlight e none) Q EE s₂) EE s':=by
 obtain ⟨ea,t,cls,b',H',rfl,os,bare,un,hok,fl,hb',ht,hE⟩:=hq
 have hst:∀ b∈frs X.stack,H b=none:=I.stkFree
 have funs:s.heap.FunFrames X.base X.stack:=I.stack
 have hst':∀ b∈frs X.stack,H' b=none:=λb hb=>by
  obtain ⟨_,o,ho,_⟩:=funs.mem hb
  exact un.free b o ho (hst b hb) (by simp)
 have hfr:X.A.frames=some X.stack:=I.ok.frames
 have notin:∀ c:Addr,b'.get? c=none->c ∉ frs X.stack->s.heap.get? c=none:=λc hc hf=>by
  cases e1:s.heap.get? c with
  | none=>rfl
  | some o =>
   obtain ⟨o',e2⟩:=hb' c o e1 hf
   rw [hc] at e2; cases e2
 have hea:ea ∉ frs X.stack:=λz=>by
  obtain ⟨_,o',ho',hd⟩:=fl.2.2.1.mem z
  obtain ⟨oe,vs,e1,_,e2,_⟩:=fl.first
  rw [e1] at ho'
  cases ho'
  exact hd vs e2
 rw [hstk] at hfr fl hst' un hea notin
 refine lands hfr hL fl hok hst' ht λh₅ T hT hTf un5 hok5 fl5=>?_
 have un':=un.skip un5 λc hc=>by
  rcases List.mem_cons.mp hc with z | z
  ·subst z; exact notin c fl.2.1 hea
  ·rcases List.mem_cons.mp z with z | z
   ·subst z; exact notin c hT hTf
   ·cases z
 rw [<- hstk] at un'
 have I5:Inv X pins σ H' { s' with heap:=h₅ }:=I.call' (s':={ s' with heap:=h₅ }) os un' hok5 bare λb hb=>absurd hb (by simp)
 have he:H' ea=none:=by
  cases e1:H' ea with
  | none=>rfl
  | some u =>
   obtain ⟨o',e2⟩:=ht ea (by rw [e1]; simp)
   rw [fl.2.1] at e2; cases e2
 refine k ea cls H' h₅ rfl I5 he fl5.there ⟨_,t,by rw [hstk]; exact fl5,λc hc hf=>?_,λb hb=>?_⟩ un' hE
 rotate_left
 ·cases e1:H' b with
  | none=>exact absurd e1 hb
  | some u =>
   obtain ⟨o',e2⟩:=(hok b u e1).get
   refine ⟨o',?_⟩
   rw [dS]
   ·exact e2
   ·intro z
    rcases List.mem_cons.mp z with z | z
    ·subst z; exact hb he
    ·rcases List.mem_cons.mp z with z | z
     ·subst z
      obtain ⟨o3,e3⟩:=ht b hb
      rw [hT] at e3; cases e3
     ·exact hb (hst' b z)
 by_cases h1:c=ea
 ·subst h1; exact notin c fl.2.1 hea
 ·by_cases h2:c=T
  ·subst h2; exact notin c hT hTf
  ·rw [dS (λz=>by
    rcases List.mem_cons.mp z with z | z
    ·exact h1 z
    ·rcases List.mem_cons.mp z with z | z
     ·exact h2 z
     ·rw [hstk] at hf; exact hf z)] at hc
   cases e1:s.heap.get? c with
   | none=>rfl
   | some o =>
    obtain ⟨o',e2⟩:=un.there c o e1 (by simp)
    rw [hc] at e2; cases e2
end L2
namespace L2
open PySem PySem.Spec PySem.Calls PyProof.Rows
section
variable {M:Model} {A:Around} {E:Value->Shared->Prop}
variable {nm q:Str} {C N:Addr} {bs bm:List Value} {hdct:Bool} {sn:List Str} {sub:List Value} {ab:Bool} {col:Option Bool} {dd:Option Addr} {k0 k1 k2 k3 k5:Option Value} {newId:String}
variable {nm' q':Str} {D N':Addr} {bs' bm':List Value} {hdct':Bool} {sn':List Str} {sub':List Value} {ab':Bool} {col':Option Bool} {dd':Option Addr} {j0 j1 j2 j3 j5:Option Value} {newId':String}
theorem Zkj {h:Heap} {g:Array GenState} {d:Drawn} {t:Nat} {os:OsState} {e:Addr} {oe:Obj} {Q:Bool->Shared->Prop}
  (hC:h.get? C=some (excClassObj nm q C N bs bm hdct sn sub ab col dd k0 k1 k2 k3 k5 newId)) (hD:h.get? D=some (excClassObj nm' q' D N' bs' bm' hdct' sn' sub' ab' col' dd' j0 j1 j2 j3 j5 newId')) (he:h.get? e=some oe) (hcls:oe.cls=.ref C)
  (hbase:bm'.contains (.type "BaseException")=true) (hin:bm.contains (.ref D)=true)
  (hq:Q true ⟨h,g,d,t,os⟩):wpAny M A (excMatches (.ref e) (.ref D)) Q E ⟨h,g,d,t,os⟩:=by
 have hcB:(Value.ref D::bm').contains (.type "BaseException")=true:=by rw [List.contains_cons,hbase,Bool.or_true]
 have hcC:(Value.ref C::bm).contains (.ref D)=true:=by rw [List.contains_cons,hin,Bool.or_true]
 have f:=tc_notTuple
 unfold excMatches
 repeat (first | (with_reducible refine wpAny_loadPart_at he ?_; rw [hcls]) | with_reducible refine wpAny_loadPart_at hD ?_ | (with_reducible refine wpAny_isSubtype_exc hD ?_; rw [hcB]) | (with_reducible refine wpAny_isSubtype_exc hC ?_; rw [hcC]) | wp_step)
 exact hq
end
section
variable {prog:Program} {w:World} {A:Around} {E:Value->Shared->Prop} {s:Shared} {env:Env}
theorem ZjL {e C D:Addr} {t:Expr} {n:Str} {b₀:Stmt} {suite:List Stmt} {pos:Pos} {rest:List ExceptHandler} {Q:Flow->Shared->Prop}
  {nm q:Str} {N:Addr} {bs bm:List Value} {hdct:Bool} {sn:List Str} {sub:List Value} {ab:Bool} {col:Option Bool} {dd:Option Addr} {k0 k1 k2 k3 k5:Option Value} {newId:String}
  {nm' q':Str} {N':Addr} {bs' bm':List Value} {hdct':Bool} {sn':List Str} {sub':List Value} {ab':Bool} {col':Option Bool} {dd':Option Addr} {j0 j1 j2 j3 j5:Option Value} {newId':String}
  (hbase:bm'.contains (.type "BaseException")=true) (hin:bm.contains (.ref D)=true)
  (h:wpAny (model prog w) (A.mark (some (.ref e))) (eval t env) (λc s₁=>c=.ref D/\s₁.heap.get? C=some (excClassObj nm q C N bs bm hdct sn sub ab col dd k0 k1 k2 k3 k5 newId)/\s₁.heap.get? D=some (excClassObj nm' q' D N' bs' bm' hdct' sn' sub' ab' col' dd' j0 j1 j2 j3 j5 newId')/\(∃ oe,s₁.heap.get? e=some oe/\oe.cls=.ref C) /\
   wpAny (model prog w) (A.mark (some (.ref e))) (setFlight (.ref e) none) (λ_ s₂ =>
     wpAny (model prog w) (A.mark (some (.ref e))) (storeName env n (.ref e)) (λ_ s₃ =>
      wpAny (model prog w) (A.mark (some (.ref e))) (execs (b₀::suite) env)
       (λf s₄=>wpAny (model prog w) A (do bindName env n .none; unbindBehindTheSuite env n pos) (λ_ s₅=>Q f s₅) E s₄)
       (AsSuiteRaised (model prog w) (A.mark (some (.ref e))) env n pos (notedBy (model prog w) (A.mark (some (.ref e))) env (cameBackBy (model prog w) A env E))) s₃) (notedBy (model prog w) (A.mark (some (.ref e))) env (cameBackBy (model prog w) A env E)) s₂) (notedBy (model prog w) (A.mark (some (.ref e))) env (cameBackBy (model prog w) A env E)) s₁) (notedBy (model prog w) (A.mark (some (.ref e))) env (cameBackBy (model prog w) A env E)) s) :
  wpAny (model prog w) A (handleBy (.ref e) env (.ExceptHandler (some t) (some n) (b₀::suite) pos::rest)) Q E s:=by
 refine wpAny_handleBy_cons (codeAny_handlers_test (wpAny_mono h (λc s₁ h₁=>?_) λ_ _ y=>y)) (by intro q; cases q)
 obtain ⟨rfl,hC,hD,⟨oe,he,hcls⟩,hk⟩:=h₁
 obtain ⟨hh,g,d,tk,os⟩:=s₁
 exact Zkj hC hD he hcls hbase hin (codeAny_handlers_suite_as hk)
end
end L2
namespace L2
open PySem PySem.Spec PyProof.Rows
section
variable {X:Cx} {pins:List (Addr×Obj)} {σ:St} {H:Hp} {s:Shared}
theorem Zi4 {A:Around} {E:Value->Shared->Prop} {x:Str} {u:Value} {pos:Pos} {Q:Value->Shared->Prop} (I:Inv X pins σ H s) (hg:Gl X x) (hm:X.mg x=some u) (h:Q u s)
  (hd:(x == ("__debug__":Str))=false:=by decide):wpAny (model X.prog X.w) A (eval (.Name x pos) X.env) Q E s :=
 Calls.Name_function_global I.ok.kind hg (Calls.loadGlobal_global (by rw [I.ok.glob]; exact I.mod.glob.keeps I.bk) hm h) hd
theorem ZiE {M:Model} {A:Around} {E:Value->Shared->Prop} {i:Nat} {x:Str} {pos:Pos} {Q:Unit->Shared->Prop} (I:Inv X pins σ H s) (hN:X.N.Nodup) (hi:X.N[i]?=some x) (hk:X.env.kindOf x=some .local)
  (h:∀ s',Inv X pins (σ.set i none) H s'->Q () s'):wpAny M A (do bindName X.env x .none; unbindBehindTheSuite X.env x pos) Q E s:=by
 obtain ⟨m,hn,hl⟩:=id I.loc
 have hcls:(X.env.scope.kind == .class || (X.env.scope.kind == .module && X.env.locals != X.env.globals))=false:=by rw [I.ok.kind]; rfl
 have hiσ:i < σ.length:=by rw [I.len]; exact (List.getElem?_eq_some_iff.mp hi).1
 have cne:=I.cne
 have tracked:∀ {a:Addr} {h':Heap},(∃ o,s.heap.get? a=some o/\H a=none)->Heap.SameBut a s.heap h'->HOk X.prog X.w H h':=λ{a h'} ha hs b ob e=>by
  obtain ⟨_,_,hfree⟩:=ha
  refine (I.hok b ob e).stay (λc w' hc q=>(hs.2 c ?_).trans q) (λ_ q=>q) (λ_ _ q=>q) λ_ _ _ _ q _=>q
  rintro rfl
  rcases hc with rfl | hc
  ·rw [hfree] at e; cases e
  ·rw [hfree] at hc; cases hc
 refine wpAny_nameGoes_keeps hk hn hcls λh' v hn' hs=>?_
 obtain ⟨oL,_,_,hoL,_⟩:=id hn
 refine h _ ⟨I.ok,I.os,I.bare,⟨λb o e n hb hx=>?_,λb o e n hb hx=>?_,I.base.free,λb o e hx=>?_,I.base.tups,I.base.frzs,I.base.tbls⟩,⟨_,hn',λj y v' e1 e2 e3=>?_⟩,λy c e=>?_,I.free,I.freeC,λp hp=>?_,tracked ⟨oL,hoL,I.free⟩ hs,by simpa using I.len⟩
 ·exact (hs.2 b (Nat.ne_of_lt (Nat.lt_of_lt_of_le (Heap.lt_size e) I.ok.above))).trans (I.base.keep b o e n hb hx)
 ·obtain ⟨sl,e1⟩:=I.base.slot b o e n hb hx
  exact ⟨sl,(hs.2 b (Nat.ne_of_lt (Nat.lt_of_lt_of_le (Heap.lt_size e) I.ok.above))).trans e1⟩
 ·obtain ⟨o',e1⟩:=I.base.there b o e hx
  exact ⟨o',(hs.2 b (Nat.ne_of_lt (Nat.lt_of_lt_of_le (Heap.lt_size e) I.ok.above))).trans e1⟩
 ·by_cases hj:j=i
  ·subst hj
   rw [List.getElem?_set_self hiσ] at e2
   cases e2
  ·rw [List.getElem?_set_ne (Ne.symm hj)] at e2
   obtain ⟨u',r',q⟩:=hl j y v' e1 e2 e3
   refine ⟨u',r',?_⟩
   rcases q with ⟨k,e⟩ | ⟨k,c,e,z⟩
   ·refine .inl ⟨k,?_⟩
    have:y≠x:=λe=>hj (tN hN e1 (e ▸ hi))
    simp [this,e]
   ·exact .inr ⟨k,c,e,z.sameBut hs (cne y c e)⟩
 ·obtain ⟨w',z⟩:=I.cell y c e
  exact ⟨w',z.sameBut hs (cne y c e)⟩
 ·obtain ⟨e,n,ne,nf,d⟩:=I.pin p hp
  exact ⟨(hs.2 p.1 ne).trans e,n,ne,nf,d⟩
noncomputable def eh (e:Addr) (cls:Value) (h:Heap):Prop:=∃ oe,h.get? e=some oe/\oe.cls=cls
theorem Zjc {A:Around} {H0:Hp} {s0:Shared} {b':Heap} {e t:Addr} {cls:Value} {Q:Unit->Shared->Prop} {E:Value->Shared->Prop}
  (I0:Inv X pins σ H0 s0) (I:Inv X pins σ H s) (un:Un (frs X.stack) [] H0 H s0.heap s.heap) (he:H e=none) (fl:Heap.FlyingW b' X.stack e cls (.ref t) s.heap) (hf:∀ c,b'.get? c=none->c ∉ frs X.stack->s0.heap.get? c=none)
  (hb:∀ b,H b≠none->∃ o',b'.get? b=some o') (hos:s.os=s0.os)
  (k:∀ h',Inv X pins σ (upd H e (.ext (eh e cls))) { s with heap:=h' }->Q () { s with heap:=h' }):wpAny (model X.prog X.w) A (setFlight (.ref e) none) Q E s:=by
 obtain ⟨T,hT,⟨oT,ts,hoT,hdT⟩,⟨oe,vs,hoe,hoc,hod⟩,fl'⟩:=rebase fl
 have hst:∀ b∈frs X.stack,H b=none:=I.stkFree
 have nof:∀ {b:Addr} {o:Obj} {us:Array Value},s.heap.get? b=some o->o.data=.fields us->b ∉ frs X.stack:=λ{b o us} h1 h2 z=>by
  obtain ⟨_,o',ho',hd⟩:=fl.2.2.1.mem z
  rw [h1] at ho'
  cases ho'
  exact hd us h2
 refine lands_againW fl' λh₅ fl₅ ups=>?_
 have stay:∀ b o,s.heap.get? b=some o->b ∉ frs X.stack->b ∉ [e,T]->h₅.get? b=some o:=λb o hb hn hx=>fl₅.1 b o (by
  rw [dS]
  ·exact hb
  ·intro z
   rcases List.mem_cons.mp z with z | z
   ·exact hx (by simp [z])
   ·rcases List.mem_cons.mp z with z | z
    ·exact hx (by simp [z])
    ·exact hn z)
 have slot:∀ b o,s.heap.get? b=some o->b∈frs X.stack->∃ sl,h₅.get? b=some { o with slots:=sl }:=λb o hb hn=>by
  obtain ⟨_,o',ho',hd⟩:=fl.2.2.1.mem hn
  rw [hb] at ho'
  cases ho'
  exact ups b o hb hd
 have hTn:H T=none:=by
  cases e1:H T with
  | none=>rfl
  | some u =>
   obtain ⟨o',e2⟩:=hb T (by rw [e1]; simp)
   rw [hT] at e2; cases e2
 have un5:Un (frs X.stack) [e,T] H H s.heap h₅:=⟨λb o hb hn hf hx=>stay b o hb hf hx,λb o hb hn hf hx=>slot b o hb hf,λb o hb hn hx=>hn,λb o hb hx=>by
  by_cases hq:b∈frs X.stack
  ·obtain ⟨sl,e1⟩:=slot b o hb hq
   exact ⟨_,e1⟩
  ·exact ⟨o,stay b o hb hq hx⟩,λ_ _ z=>z,λ_ _ _ z=>z,λb ps z=>⟨#[],by rw [z,Array.append_empty]⟩⟩
 have hok5:HOk X.prog X.w H h₅:=HOk.tracked I.hok λb u hb q=>stay b u q (λz=>hb (hst b z)) λz=>by
  rcases List.mem_cons.mp z with z | z
  ·subst z; exact hb he
  ·rcases List.mem_cons.mp z with z | z
   ·subst z; exact hb hTn
   ·cases z
 have un':=un.skip un5 λc hc=>by
  rcases List.mem_cons.mp hc with z | z
  ·subst z; exact hf c fl.2.1 (nof hoe hod)
  ·rcases List.mem_cons.mp z with z | z
   ·subst z; exact hf c hT (nof hoT hdT)
   ·cases z
 obtain ⟨oe5,hoe5,hoc5⟩:=fl₅.there
 have hs0:s0.heap.get? e=none:=hf e fl.2.1 (nof hoe hod)
 have ne0:∀ {b:Addr} {o:Obj},s0.heap.get? b=some o->b≠e:=λ{b o} h1 z=>by rw [z,hs0] at h1; cases h1
 have nH:∀ {b:Addr} {o:HO},H b=some o->b≠e:=λ{b o} h1 z=>by rw [z,he] at h1; cases h1
 have un2:Un (frs X.stack) [] H0 (upd H e (.ext (eh e cls))) s0.heap h₅:=⟨un'.keep,un'.slot,λb o hb hn hx=>by rw [aO (ne0 hb)]; exact un'.free b o hb hn hx,un'.there,
  λb xs z=>by rw [aO (nH (un'.tups b xs z))]; exact un'.tups b xs z,λb o u z=>by rw [aO (nH (un'.frzs b o u z))]; exact un'.frzs b o u z,λb ps z=>by
   obtain ⟨m,z⟩:=un'.tbls b ps z
   exact ⟨m,by rw [aO (nH z)]; exact z⟩⟩
 have hok2:HOk X.prog X.w (upd H e (.ext (eh e cls))) h₅:=λb o hb=>by
  by_cases hbe:b=e
  ·subst hbe
   rw [bM] at hb
   cases hb
   exact ⟨⟨oe5,hoe5,hoc5⟩,⟨oe5,hoe5⟩,λh1 h2 ⟨o1,e1,c1⟩ kk=>⟨o1,kk o1 e1,c1⟩⟩
  ·rw [aO hbe] at hb
   exact (hok5 b o hb).stay (λ_ _ _ q=>q) (λc z=>by rw [aO (nH z)]; exact z) (λc xs z=>by rw [aO (nH z)]; exact z) λc ob xs _ z _=>by rw [aO (nH z)]; exact z
 exact k h₅ (I0.call' (s':={ s with heap:=h₅ }) hos un2 hok2 I.bare λb hb=>absurd hb (by simp))
end
noncomputable abbrev Cx.marked (X:Cx) (ea:Addr):Cx:={ X with A:=X.A.mark (some (.ref ea)),calm:=false,xe:=λ_ _=>False }
theorem Inv.marked {X:Cx} {pins:List (Addr×Obj)} {σ:St} {H:Hp} {s:Shared} (I:Inv X pins σ H s) (ea:Addr):Inv (X.marked ea) pins σ H s :=
 ⟨⟨I.ok.mod,I.ok.kind,I.ok.glob,I.ok.blt,I.ok.above,I.ok.inj,I.ok.has,I.ok.cab,λz=>(by cases z),I.ok.frames,I.ok.stk,I.ok.exf,I.ok.bs,I.ok.bsz,I.ok.noex,I.ok.exfs,I.ok.funs,I.ok.frf⟩,I.os,I.bare,I.base,I.loc,I.cell,I.free,I.freeC,I.pin,I.hok,I.len⟩
theorem Inv.unmarked {X:Cx} {pins:List (Addr×Obj)} {σ:St} {H:Hp} {s:Shared} {ea:Addr} (I:Inv (X.marked ea) pins σ H s) (I0:X.Ok):Inv X pins σ H s :=
 ⟨I0,I.os,I.bare,I.base,I.loc,I.cell,I.free,I.freeC,I.pin,I.hok,I.len⟩
structure Under (K:PySem.W.Frag) (C D:Addr):Prop where
 ex:∃ (nm q:Str) (N:Addr) (bs bm:List Value) (hdct:Bool) (sn:List Str) (sub:List Value) (ab:Bool) (col:Option Bool) (dd:Option Addr) (k0 k1 k2 k3 k5:Option Value) (newId:String),K.lookup C=some (excClassObj nm q C N bs bm hdct sn sub ab col dd k0 k1 k2 k3 k5 newId)/\bm.contains (.ref D)=true
 top:∃ (nm q:Str) (N:Addr) (bs bm:List Value) (hdct:Bool) (sn:List Str) (sub:List Value) (ab:Bool) (col:Option Bool) (dd:Option Addr) (k0 k1 k2 k3 k5:Option Value) (newId:String),K.lookup D=some (excClassObj nm q D N bs bm hdct sn sub ab col dd k0 k1 k2 k3 k5 newId)/\bm.contains (.type "BaseException")=true
end L2
namespace PySem
noncomputable def clsNames:List Str:=["__getattribute__","__getattr__","__class__"]
inductive OwnTailN (h:Heap) (bmB:List Value):List Value->Prop
 | base:OwnTailN h bmB bmB
 | own {A:Addr} {c0:Value} {dd:Option Addr} {cd:ClassData} {sl:Array (Option Value)} {mA:Str->Option Value} {tl:List Value} :
   h.get? A=some { cls:=c0,dict:=dd,data:=.cls cd,slots:=sl }->h.Ns cd.ns mA->(∀ n∈clsNames,mA n=none)->OwnTailN h bmB tl->OwnTailN h bmB (.ref A::tl)
theorem OwnTailN.hasType {h:Heap} {bmB tl:List Value} (T:OwnTailN h bmB tl) {X:String} {b:Bool} (hb:bmB.contains (.type X)=b):tl.contains (.type X)=b:=by
 induction T with
 | base=>exact hb
 | own _ _ _ _ ih=>rw [List.contains_cons,ih]; rfl
section
variable {M:Model} {A:Around} {E:Value->Shared->Prop} {h:Heap} {g:Array GenState} {d:Drawn} {t:Nat} {os:OsState}
theorem wpAny_lookupAlong_tailN {bmB tl:List Value} {n:Str} {y:Option Value} {Q:Option Value->Shared->Prop} (hn:n∈clsNames) (T:OwnTailN h bmB tl) (hrest:lookupAlong bmB n=pure y) (hq:Q y ⟨h,g,d,t,os⟩) :
  wpAny M A (lookupAlong tl n) Q E ⟨h,g,d,t,os⟩:=by
 induction T with
 | base=>rw [hrest]; exact wpAny_pure hq
 | own hA hN hni _ ih =>
  rw [lookupAlong_cons]
  refine wpAny_bind (wpAny_classOwn_cls hA hN ?_)
  rw [hni n hn]
  exact ih
variable {nm q:Str} {C N:Addr} {bs bm bmB:List Value} {hdct:Bool} {sn:List Str} {sub:List Value} {ab:Bool} {col:Option Bool} {dd:Option Addr} {k0 k1 k2 k3 k5:Option Value} {B newId:String}
theorem wpAny_typeLookup_tailN {mN:Str->Option Value} {n:Str} {y:Option Value} {Q:Option Value->Shared->Prop} (hn:n∈clsNames)
  (hC:h.get? C=some (excClassObj nm q C N bs bm hdct sn sub ab col dd k0 k1 k2 k3 k5 newId)) (hN:h.Ns N mN) (hmN:∀ n∈clsNames,mN n=none) (T:OwnTailN h bmB bm) (hbm:mroOf (.type B)=pure bmB)
  (hB:typeLookup (.type B) n=pure y) (hq:Q y ⟨h,g,d,t,os⟩):wpAny M A (typeLookup (.ref C) n) Q E ⟨h,g,d,t,os⟩:=by
 have hrest:lookupAlong bmB n=pure y:=by rw [typeLookup_eq,hbm] at hB; exact hB
 rw [typeLookup_eq]
 refine wpAny_bind (wpAny_mroOf_exc hC ?_)
 rw [lookupAlong_cons]
 refine wpAny_bind (wpAny_classOwn_exc hC hN ?_)
 rw [hmN n hn]
 exact wpAny_lookupAlong_tailN hn T hrest hq
end
section
variable {prog:Program} {w:World} {A:Around} {E:Value->Shared->Prop} {h:Heap} {g:Array GenState} {d:Drawn} {t:Nat} {os:OsState} {a:Addr} {o:Obj}
 {nm q:Str} {C N:Addr} {bs bm bmB:List Value} {hdct:Bool} {sn:List Str} {sub:List Value} {ab:Bool} {col:Option Bool} {dd:Option Addr} {k0 k1 k2 k3 k5:Option Value} {B newId:String} {mN:Str->Option Value}
theorem class_get_exc {R:Result->Shared->Prop} (hC:h.get? C=some (excClassObj nm q C N bs bm hdct sn sub ab col dd k0 k1 k2 k3 k5 newId)) (hob:bm.contains (.type "object")=true)
  (hx:h.get? a=some o) (hc:o.cls=.ref C) (hq:R (.ok (.ret (.ref C))) ⟨h,g,d,t,os⟩) :
  codeAny (model prog w) A (.call (.builtin "getset_descriptor.__get__") ⟨[.builtin "object.__class__",.ref a,.ref C],[]⟩) R ⟨h,g,d,t,os⟩:=by
 have hT5:(⟨h,g,d,t,os⟩:Shared).TypeIs (.builtin "object.__class__") "getset_descriptor":=F.typeOf_object_class
 have hcB:(Value.ref C::bm).contains (.type (".".intercalate ("object.__class__".cutAt '.').dropLast))=true:=by
  rw [F.owner_object_class,List.contains_cons,hob]; rfl
 refine codeAny_call_builtin F.slot_gs_get.plain F.entry_gs_get (F.slot_gs_get.check _ _ _ _ _ _ _ _ hT5 (F.args_gs_get _ _ _) ?_)
 repeat (any_goals (first | assumption | (with_reducible refine wpAny_loadPart_at hx ?_; rw [hc]) | (with_reducible refine wpAny_isSubtype_exc hC ?_; rw [hcB]) | wp_step))
 refine ⟨Code.quiet_builtin _ (by decide +kernel),codeAny_builtin F.entry_object_class ?_⟩
 repeat (any_goals (first | assumption | (with_reducible refine wpAny_loadPart_at hx ?_; rw [hc]) | wp_step))
theorem class_entry_exc {tk:Tok} {Q:Fin->Shared->Prop} (hC:h.get? C=some (excClassObj nm q C N bs bm hdct sn sub ab col dd k0 k1 k2 k3 k5 newId)) (hob:bm.contains (.type "object")=true) (hN:h.Ns N mN)
  (hmN:∀ n∈clsNames,mN n=none) (T:OwnTailN h bmB bm) (hmro:mroOf (.type B)=pure bmB) (hlk:typeLookup (.type B) "__class__"=pure (some (.builtin "object.__class__"))) (hx:h.get? a=some o) (hc:o.cls=.ref C) (hq:Q (.done (.ret (.ref C))) ⟨h,g,d,t,os⟩) :
  wpAny (model prog w) A (Builtin.«object.__getattribute__» ⟨[.ref a,.str "__class__" tk],[]⟩) Q E ⟨h,g,d,t,os⟩:=by
 have hT5:(⟨h,g,d,t,os⟩:Shared).TypeIs (.builtin "object.__class__") "getset_descriptor":=F.typeOf_object_class
 have f5:=F.typeOf_object_class
 have f6:=F.slot_gs_get.lookup
 have f7:=F.slot_gs_set.lookup
 have hmA:("__class__":Str)∈clsNames:=.tail _ (.tail _ (.head _))
 repeat (any_goals (first | assumption | (with_reducible refine wpAny_loadPart_at hx ?_; rw [hc]) | with_reducible refine wpAny_typeLookup_tailN hmA hC hN hmN T hmro hlk ?_ | wp_step))
 refine class_get_exc hC hob hx hc ?_
 repeat (any_goals (first | assumption | wp_step))
theorem check_ga_exc {M:Model} {nameV:Value} {Q:Unit->Shared->Prop} (hC:h.get? C=some (excClassObj nm q C N bs bm hdct sn sub ab col dd k0 k1 k2 k3 k5 newId)) (hbase:bm.contains (.type "BaseException")=true)
  (hx:h.get? a=some o) (hc:o.cls=.ref C) (hq:Q () ⟨h,g,d,t,os⟩):wpAny M A (checkBuiltinCall "BaseException.__getattribute__" ⟨[.ref a,nameV],[]⟩) Q E ⟨h,g,d,t,os⟩:=by
 have hk:builtinKind "BaseException.__getattribute__"=some .slot:=by decide +kernel
 have hsplit:splitId "BaseException.__getattribute__"=some ("BaseException","__getattribute__"):=by decide +kernel
 have hcB:(Value.ref C::bm).contains (.type "BaseException")=true:=by rw [List.contains_cons,hbase]; rfl
 have ha:=F.args_bexc_ga (.ref a) nameV
 simp only [checkBuiltinCall,hk,hsplit]
 refine wpAny_bind ?_
 ·unfold isInstance
  repeat (first | (with_reducible refine wpAny_loadPart_at hx ?_; rw [hc]) | (with_reducible refine wpAny_isSubtype_exc hC ?_; rw [hcB]) | wp_step)
  exact hq
theorem class_by_exc {tk:Tok} {Q:Value->Shared->Prop} (FB:ExcAttrBase B bmB) (hC:h.get? C=some (excClassObj nm q C N bs bm hdct sn sub ab col dd k0 k1 k2 k3 k5 newId)) (hob:bmB.contains (.type "object")=true) (hN:h.Ns N mN)
  (hmN:∀ n∈clsNames,mN n=none) (T:OwnTailN h bmB bm) (hlk:typeLookup (.type B) "__class__"=pure (some (.builtin "object.__class__"))) (hx:h.get? a=some o) (hc:o.cls=.ref C) (hq:Q (.ref C) ⟨h,g,d,t,os⟩) :
  wpAny (model prog w) A (getAttrBy (.ref a) (.str "__class__" tk) false) Q E ⟨h,g,d,t,os⟩:=by
 have f3:=FB.ga.bind (.ref a)
 have hx2:(Value.builtin "BaseException.__getattribute__" == Value.builtin "object.__getattribute__")=false:=by decide +kernel
 have hx1:(onTheHeap (Value.ref C) && Value.builtin "BaseException.__getattribute__" == Value.builtin "object.__getattribute__")=false:=by rw [hx2]; rfl
 have hm1:("__getattribute__":Str)∈clsNames:=.head _
 have hm2:("__getattr__":Str)∈clsNames:=.tail _ (.head _)
 repeat (any_goals (first | assumption | (with_reducible refine wpAny_loadPart_at hx ?_; rw [hc]) | with_reducible refine wpAny_typeLookup_tailN hm1 hC hN hmN T FB.mro FB.ga.lookup ?_ | with_reducible refine wpAny_typeLookup_tailN hm2 hC hN hmN T FB.mro FB.noGetattr ?_ | wp_step))
 refine codeAny_call_builtin FB.ga.plain F.entry_bexc_ga (check_ga_exc hC (T.hasType FB.hasBase) hx hc (class_entry_exc hC (T.hasType hob) hN hmN T FB.mro hlk hx hc ?_))
 repeat (any_goals (first | assumption | wp_step))
theorem class_attr_exc {Q:Option Value->Shared->Prop} (FB:ExcAttrBase B bmB) (hC:h.get? C=some (excClassObj nm q C N bs bm hdct sn sub ab col dd k0 k1 k2 k3 k5 newId)) (hob:bmB.contains (.type "object")=true) (hN:h.Ns N mN)
  (hmN:∀ n∈clsNames,mN n=none) (T:OwnTailN h bmB bm) (hlk:typeLookup (.type B) "__class__"=pure (some (.builtin "object.__class__"))) (hx:h.get? a=some o) (hc:o.cls=.ref C) (hq:Q (some (.ref C)) ⟨h,g,d,t+1,os⟩) :
  wpAny (model prog w) A (getAttr? (.ref a) "__class__") Q E ⟨h,g,d,t,os⟩:=by
 unfold getAttr? getAttrBy?
 repeat (any_goals (first | assumption | with_reducible apply class_by_exc FB hC hob hN hmN T hlk hx hc | wp_step))
end
end PySem
namespace L2
open PySem PySem.Spec PyProof.Rows
structure Xci (K:PySem.W.Frag) (C:Addr) (bmB:List Value):Prop where
 ex:∃ (nm q:Str) (N:Addr) (bs bm:List Value) (hdct:Bool) (sn:List Str) (sub:List Value) (ab:Bool) (col:Option Bool) (dd:Option Addr) (k0 k1 k2 k3 k5:Option Value) (newId:String) (mN:Str->Option Value),
  K.lookup C=some (excClassObj nm q C N bs bm hdct sn sub ab col dd k0 k1 k2 k3 k5 newId)/\(∀ h:Heap,K.In h->h.Ns N mN/\OwnTailN h bmB bm)/\∀ n∈clsNames,mN n=none
theorem tY:typeLookup (.type "ValueError") "__class__"=pure (some (.builtin "object.__class__")):=by rw [typeLookup_type,builtinLookup_eq_fast]; kernel_rfl
theorem ue {K:PySem.W.Frag} {ea C:Addr} {B:String} {bmB:List Value} (c:Xci K C bmB) (FB:ExcAttrBase B bmB) (hob:bmB.contains (.type "object")=true) (hlk:typeLookup (.type B) "__class__"=pure (some (.builtin "object.__class__"))) :
  PySem.W.KitX K (.ref ea) (.ref C) (eh ea (.ref C)) where
 ty:=λM h _ p=>by
  obtain ⟨o,h1,h2⟩:=p
  exact h2 ▸ (PySem.W.Looks.ld h1).andThen .now
 it:=λ_ _ X _=>by
  obtain ⟨nm,q,N,bs,bm,hdct,sn,sub,ab,col,dd,k0,k1,k2,k3,k5,newId,mN,lk,_⟩:=c.ex
  intro A' Q' E' s' k q
  unfold isType loadHead
  exact wpAny_bind (wpAny_loadPart (k _ _ (X _ _ lk)) (wpAny_pure q))
 ne:=λh tp dd its n sl X htp=>by
  obtain ⟨nm,q,N,bs,bm,hdct,sn,sub,ab,col,dd',k0,k1,k2,k3,k5,newId,mN,lk,_⟩:=c.ex
  refine Bool.eq_false_iff.mpr λq=>?_
  have e:C=tp:=Value.ref.inj (beq_iff_eq.mp q)
  subst e
  have z:=(X _ _ lk).symm.trans htp
  have z2:=congrArg (λo=>(o.getD default).cls) z
  exact absurd z2 (by simp)
 ca:=λ{prog w A E Q s} X p k=>by
  obtain ⟨nm,q,N,bs,bm,hdct,sn,sub,ab,col,dd',k0,k1,k2,k3,k5,newId,mN,lk,hn,hmN⟩:=c.ex
  obtain ⟨h,g,d,t,os⟩:=s
  obtain ⟨o,h1,h2⟩:=p
  exact class_attr_exc FB (X _ _ lk) hob (hn _ X).1 hmN (hn _ X).2 hlk h1 h2 k
section
variable {X:Cx} {C:Addr} {B:String} {bmB:List Value}
theorem ZoV (c:Xci X.K C bmB) (FB:ExcAttrBase B bmB) (hob:bmB.contains (.type "object")=true) (hlk:typeLookup (.type B) "__class__"=pure (some (.builtin "object.__class__"))) :
  CallR X (.builtin "isinstance") (λxs H Q=>∃ ea D b,xs=[.ref ea,.ref D]/\H ea=some (.ext (eh ea (.ref C)))/\PySem.W.kitOne X.K (.ref C) (.ref D)=some b/\Q (.bl b) H):=by
 intro pins s σ H xs us Q I r h
 obtain ⟨ea,D,b,rfl,he,e,q⟩:=h
 obtain ⟨u,v,rfl,ru,rv⟩:=mh r
 cases ru
 cases rv
 have p:eh ea (.ref C) s.heap:=(I.hok ea _ he).1
 exact PySem.W.kia_one (ue c FB hob hlk) I.kIn p e (λz=>nomatch z) λtk=>⟨.bl b,H,I.tok tk,rfl,q⟩
theorem ZoU (c:Xci X.K C bmB) (FB:ExcAttrBase B bmB) (hob:bmB.contains (.type "object")=true) (hlk:typeLookup (.type B) "__class__"=pure (some (.builtin "object.__class__"))) :
  CallR X (.builtin "isinstance") (λxs H Q=>∃ ea T b,xs=[.ref ea,.ty T]/\H ea=some (.ext (eh ea (.ref C)))/\PySem.W.kitOne X.K (.ref C) (.type T)=some b/\Q (.bl b) H):=by
 intro pins s σ H xs us Q I r h
 obtain ⟨ea,T,b,rfl,he,e,q⟩:=h
 obtain ⟨u,v,rfl,ru,rv⟩:=mh r
 cases ru
 cases rv
 have p:eh ea (.ref C) s.heap:=(I.hok ea _ he).1
 exact PySem.W.kia_one (ue c FB hob hlk) I.kIn p e (λz=>nomatch z) λtk=>⟨.bl b,H,I.tok tk,rfl,q⟩
theorem Zas:∀ {ds:List Addr} {us:List Value},Vals (ds.map V.ref) us->us=ds.map Value.ref
 | [],_,r=>by cases r; rfl
 | d::ds,_,r=>by
  cases r with
  | cons r1 rr =>
   cases r1
   rw [Zas rr]
   rfl
theorem ZoT (c:Xci X.K C bmB) (FB:ExcAttrBase B bmB) (hob:bmB.contains (.type "object")=true) (hlk:typeLookup (.type B) "__class__"=pure (some (.builtin "object.__class__"))) :
  CallR X (.builtin "isinstance") (λxs H Q=>∃ (ea tp:Addr) (ds:List Addr) (b:Bool),xs=[.ref ea,.ref tp]/\H ea=some (.ext (eh ea (.ref C)))/\H tp=some (.tup (ds.map V.ref))/\PySem.W.kitAny X.K (.ref C) (ds.map Value.ref)=some b/\Q (.bl b) H):=by
 intro pins s σ H xs us Q I r h
 obtain ⟨ea,tp,ds,b,rfl,he,ht,e,q⟩:=h
 obtain ⟨u,v,rfl,ru,rv⟩:=mh r
 cases ru
 cases rv
 have p:eh ea (.ref C) s.heap:=(I.hok ea _ he).1
 obtain ⟨_,its,rr,o,ho,hoc,n,hod⟩:=(show ObjOk X.prog X.w H s.heap tp (.tup (ds.map V.ref)) from I.hok tp _ ht)
 have hits:=Zas rr
 subst hits
 obtain ⟨oc,od,odt,osl⟩:=o
 cases hoc
 cases hod
 exact PySem.W.kia_tup (ue c FB hob hlk) I.kIn p ho e (λz=>nomatch z) λtk=>⟨.bl b,H,I.tok tk,rfl,q⟩
end
structure CalleeX (P:Program) (w:World) (K:PySem.W.Frag) (mg:Str->Option Value) (base:Heap) (x:Str) (k:Nat) (ps:List Str) (sp:Sp):Prop where
 ex:∃ f fd,FnOk P w K mg base (cg P w) k f fd ps sp/\mg x=some (.ref f)/\PySem.W.keepIn K (.ref f)=true/\Binds K fd ps []
theorem Def.okX {P:Program} {w:World} {K:PySem.W.Frag} {mg:Str->Option Value} {base:Heap} {x:Str} {st:Stmt} {N ps:List Str} {k:Nat} {sp:Sp} (D:Def K mg x st ps) (S:FnScope N ps (aD st)) (len:∀ vs H Q E,sp vs H Q E->vs.length=ps.length)
  (hbody:∀ (f:Addr) (cdv:Value) (A:Around) (outer:List Env) (s:Shared) (H:Hp) (vs:List V) (Q:VK) (E:XK),Room k (A.deeper (envOfC x (aD st) s.heap.objs.size f cdv))->sp vs H Q E ->
   ∃ t,PSs (df (cg P w) P w K mg base N x (aD st) f cdv A outer s H E) (gi st) t/\t { nx:=λ_ H'=>Q .non H',rt:=Q } (start N vs) H):CalleeX P w K mg base x (k+1) ps sp:=by
 obtain ⟨f,fd,F,hm,hb⟩:=D.ex
 obtain ⟨oc,od,kV,doc,pm,an,cdv,ct,osl,rfl,lk,hcd⟩:=F.ex
 exact ⟨f,_,Zc5 lk hcd S len λA outer s H vs Q E hr hsp=>hbody f cdv A outer s H vs Q E hr hsp,hm,F.kp,hb⟩
end L2
namespace L2
open PySem PySem.Spec PyProof.Rows PySem.W
theorem Zpi:bootBuiltins "ValueError"=some (.type "ValueError"):=by decide +kernel
noncomputable def eW:List Value:=[.type "ValueError",.type "Exception",.type "BaseException",.type "object"]
noncomputable def oa (K:Frag) (bmB:List Value):List Value->Bool
 | []=>bmB == []
 | v::r=>(v::r) == bmB || match v with
  | .ref A=>(match K.lookup A with
   | some ⟨_,_,.cls cd,_⟩=>nsOkIn K cd.ns && (nsIn K cd.ns "__getattribute__" == some none && nsIn K cd.ns "__getattr__" == some none && nsIn K cd.ns "__class__" == some none) && oa K bmB r
   | _=>false)
  | _=>false
theorem ZdZ {m:Str->Option Value} (a:m "__getattribute__"=none) (b:m "__getattr__"=none) (c:m "__class__"=none):∀ n∈clsNames,m n=none:=by
 intro n hn
 unfold clsNames at hn
 simp only [List.mem_cons,List.not_mem_nil,or_false] at hn
 rcases hn with rfl | rfl | rfl
 ·exact a
 ·exact b
 ·exact c
theorem Zaz {K:Frag} {h:Heap} {bmB:List Value} (X:K.In h):∀ {l:List Value},oa K bmB l=true->OwnTailN h bmB l
 | [],e=>by rw [<- beq_iff_eq.mp e]; exact .base
 | v::r,e=>by
  unfold oa at e
  rcases Bool.or_eq_true_iff.mp e with q | q
  ·rw [beq_iff_eq.mp q]; exact .base
  ·split at q
   ·split at q
    ·rename_i ho
     simp only [Bool.and_eq_true,beq_iff_eq] at q
     exact .own (X _ _ ho) (.of_isNs (isNs_of_in X q.1.1)) (ZdZ (nsMap_none_of_in X q.1.1 q.1.2.1.1) (nsMap_none_of_in X q.1.1 q.1.2.1.2) (nsMap_none_of_in X q.1.1 q.1.2.2)) (Zaz X q.2)
    ·cases q
   ·cases q
noncomputable def gz (K:Frag) (C:Addr) (bmB:List Value) (newId:String):Bool:=match K.lookup C with
 | some ⟨.type "type",_,.cls cd,sl⟩=>(match cd.mro,sl.toList with
  | .ref C'::bm,[_,_,_,_,some (.builtin n),_]=>C' == C && n == newId && !cd.hasDel && tailIn K bmB bm && oa K bmB bm && nsOkIn K cd.ns && nsIn K cd.ns "__init__" == some none
    && nsIn K cd.ns "__getattribute__" == some none && nsIn K cd.ns "__getattr__" == some none && nsIn K cd.ns "__class__" == some none && bm.contains (.type "BaseException")
  | _,_=>false)
 | _=>false
noncomputable def pV (K:Frag) (C D:Addr):Bool:=match K.lookup C with
 | some ⟨_,_,.cls cd,_⟩=>cd.mro.tail.contains (.ref D)
 | _=>false
theorem Ziz {K:Frag} {N:Addr} {h h':Heap} {m:Str->Option Value} (X:K.In h) (X':K.In h') (e:nsOkIn K N=true) (n:h.Ns N m):h'.Ns N m:=by
 obtain ⟨o,es,ep,ho,r⟩:=n
 refine ⟨o,es,ep,?_,r⟩
 unfold nsOkIn at e
 cases hl:K.lookup N with
 | none=>rw [hl] at e; cases e
 | some u =>
  have h1:=X _ _ hl
  rw [ho] at h1
  cases h1
  exact X' _ _ hl
theorem nU {K:Frag} {h:Heap} {C:Addr} {bmB:List Value} {newId:String} (X:K.In h) (q:gz K C bmB newId=true) :
  ∃ (nm q:Str) (N:Addr) (bs bm:List Value) (hdct:Bool) (sn:List Str) (sub:List Value) (ab:Bool) (col:Option Bool) (dd:Option Addr) (k0 k1 k2 k3 k5:Option Value) (mN:Str->Option Value),
  K.lookup C=some (excClassObj nm q C N bs bm hdct sn sub ab col dd k0 k1 k2 k3 k5 newId)/\(∀ h:Heap,K.In h->h.Ns N mN/\OwnTail h bmB bm/\OwnTailN h bmB bm)/\mN "__init__"=none/\(∀ n∈clsNames,mN n=none)/\bm.contains (.type "BaseException")=true:=by
 unfold gz at q
 split at q
 ·rename_i dd cd sl ho
  split at q
  ·rename_i C' bm k0 k1 k2 k3 n k5 hm hs
   simp only [Bool.and_eq_true,beq_iff_eq,Bool.not_eq_true'] at q
   obtain ⟨⟨⟨⟨⟨⟨⟨⟨⟨⟨rfl,rfl⟩,hdel⟩,ht⟩,htn⟩,hok⟩,hni⟩,n1⟩,n2⟩,n3⟩,hb⟩:=q
   obtain ⟨nm,bs,mro,ns,qn,hd,sn,sub,ab,col,del⟩:=cd
   dsimp only at hm hdel hok hni n1 n2 n3
   subst hm hdel
   have hsl:sl=#[k0,k1,k2,k3,some (.builtin n),k5]:=by
    obtain ⟨l⟩:=sl
    simp only at hs
    rw [hs]
   subst hsl
   exact ⟨nm,qn,ns,bs,bm,hd,sn,sub,ab,col,dd,k0,k1,k2,k3,k5,_,ho,λh' X'=>⟨Ziz X X' hok (.of_isNs (isNs_of_in X hok)),tail_of_in X' ht,Zaz X' htn⟩,nsMap_none_of_in X hok hni,ZdZ (nsMap_none_of_in X hok n1) (nsMap_none_of_in X hok n2) (nsMap_none_of_in X hok n3),hb⟩
  ·cases q
 ·cases q
theorem Ze4 {K:Frag} {h:Heap} {C:Addr} {bmB:List Value} {newId:String} (X:K.In h) (q:gz K C bmB newId=true):Xcl K C bmB newId:=by
 obtain ⟨nm,q,N,bs,bm,hdct,sn,sub,ab,col,dd,k0,k1,k2,k3,k5,mN,lk,hn,hi,hc,hb⟩:=nU X q
 exact ⟨nm,q,N,bs,bm,hdct,sn,sub,ab,col,dd,k0,k1,k2,k3,k5,mN,lk,λh X=>⟨(hn h X).1,(hn h X).2.1⟩,hi,hb⟩
theorem Ze5 {K:Frag} {h:Heap} {C:Addr} {bmB:List Value} {newId:String} (X:K.In h) (q:gz K C bmB newId=true):Xci K C bmB:=by
 obtain ⟨nm,q,N,bs,bm,hdct,sn,sub,ab,col,dd,k0,k1,k2,k3,k5,mN,lk,hn,hi,hc,hb⟩:=nU X q
 exact ⟨nm,q,N,bs,bm,hdct,sn,sub,ab,col,dd,k0,k1,k2,k3,k5,newId,mN,lk,λh X=>⟨(hn h X).1,(hn h X).2.2⟩,hc⟩
theorem Zfv {K:Frag} {h:Heap} {C D:Addr} {bmB:List Value} {newId:String} (X:K.In h) (q:gz K C bmB newId=true) (q':gz K D bmB newId=true) (u:pV K C D=true):Under K C D:=by
 obtain ⟨nm,qq,N,bs,bm,hdct,sn,sub,ab,col,dd,k0,k1,k2,k3,k5,mN,lk,hn,hi,hc,hb⟩:=nU X q
 obtain ⟨nm',qq',N',bs',bm',hdct',sn',sub',ab',col',dd',j0,j1,j2,j3,j5,mN',lk',hn',hi',hc',hb'⟩:=nU X q'
 refine ⟨⟨nm,qq,N,bs,bm,hdct,sn,sub,ab,col,dd,k0,k1,k2,k3,k5,newId,lk,?_⟩,⟨nm',qq',N',bs',bm',hdct',sn',sub',ab',col',dd',j0,j1,j2,j3,j5,newId,lk',hb'⟩⟩
 unfold pV at u
 rw [lk] at u
 exact u
structure Exc (K:Frag) (C D:Addr) (ds:List Addr):Prop where
 cl:Xcl K C eW "ValueError.__new__"
 ci:Xci K C eW
 un:Under K C D
 vt:kitOne K (.ref C) (.type "ValueError")=some true
 any:kitAny K (.ref C) (ds.map Value.ref)=some false
theorem Zki {K:Frag} {h:Heap} {C D:Addr} {ds:List Addr} (X:K.In h) (q:gz K C eW "ValueError.__new__"=true) (q':gz K D eW "ValueError.__new__"=true) (u:pV K C D=true) (vt:kitOne K (.ref C) (.type "ValueError")=some true)
  (any:kitAny K (.ref C) (ds.map Value.ref)=some false):Exc K C D ds:=⟨Ze4 X q,Ze5 X q,Zfv X q q' u,vt,any⟩
theorem Zjh {K:Frag} {C:Addr}:kitOne K (.ref C) (.ref C)=some true:=by
 unfold kitOne
 rw [if_pos (beq_self_eq_true _)]
end L2
namespace L2
open PySem PySem.Spec PyProof.Rows
mutual
noncomputable def uu:PyData->Bool
 | .none=>false
 | .bool _=>false
 | .int _=>false
 | .str _=>false
 | .list _=>true
 | .tuple xs=>ZcV xs
 | .dict kvs=>ZcU kvs
noncomputable def ZcV:List PyData->Bool
 | []=>false
 | x::xs=>uu x || ZcV xs
noncomputable def ZcU:List (PyData×PyData)->Bool
 | []=>false
 | (_,v)::r=>uu v || ZcU r
end
noncomputable def Zhc (d:PyData):Bool:=(!d.hasDict || !uu d) && d.showable && decide (d.depth<=32) && decide (d.shown.length<=sizeLine)
noncomputable def Zqf:List PyData->Option PyData
 | [d]=>if Zhc d=true then some (.str d.shown) else none
 | _=>none
section
variable {PK:Pk} {X:Cx} {pos:Pos} {i j:List Sl->Tr PyData}
noncomputable def Zqj:PyData->PyData->Option PyData
 | .int k,v=>some (.dict [(.int k,v)])
 | _,_=>none
end
noncomputable def et:List PyData->Option PyData
 | [.int i]=>if i.natAbs.log2 < 1920 then some (.str (toString i)) else none
 | _=>none
theorem gC:dZ (λxs H Q=>∃ i,xs=[.int i]/\i.natAbs.log2 < 1920/\Q (.str (toString i)) H) et:=λPK pa m G H vs ds d Q w hv hd k=>by
 unfold et at hd
 split at hd
 ·split at hd
  ·rename_i hc
   cases hd
   cases hv with
   | cons h1 h2=>cases h2; cases h1; exact ⟨_,rfl,hc,k.here w (.str _)⟩
  ·cases hd
 ·cases hd
noncomputable def ZpF:PyData->PyData->Option (List PyData)
 | .list xs,.list ys=>if small (xs.length+ys.length)=true then some (xs++ys) else none
 | _,_=>none
theorem Zdd {xs ys:List PyData} (h:small (xs.length+ys.length)=true):Zpj ZpF (.list xs) (.list ys)=.ret (xs++ys):=by
 show Tr.of (if small (xs.length+ys.length)=true then some (xs++ys) else none)=_
 rw [if_pos h]
 rfl
theorem Zda {i:Int} (h:i.natAbs.log2 < 1920):bw et [.int i]=.ret (.str (toString i)):=by
 show Tr.of (if i.natAbs.log2 < 1920 then some (PyData.str (toString i)) else none)=_
 rw [if_pos h]
 rfl
end L2
namespace PySem
section
variable {prog:Program} {w:World} {A:Around} {E:Value->Shared->Prop} {s:Shared} {a:Addr} {o:Obj} {xs:Array Value} {k:Nat}
end
section
variable {prog:Program} {w:World} {A:Around} {E:Value->Shared->Prop} {s:Shared}
end
section
variable {prog:Program} {w:World} {A:Around} {E:Value->Shared->Prop} {s:Shared}
end
section
variable {K:Type} [DecidableEq K]
end
end PySem
namespace L2
open PySem PySem.Spec PyProof.Rows
section
variable {prog:Program} {w:World} {A:Around} {R:Result->Shared->Prop} {K:Type} [DecidableEq K] {knd:KeyKind prog w K} {kf:Nat->K}
end
section
variable {prog:Program} {w:World} {A:Around} {E:Value->Shared->Prop} {s:Shared} {K:Type} [DecidableEq K] {knd:KeyKind prog w K} {kf:Nat->K}
end
section
variable {PK:Pk} {X:Cx} {a:Expr} {p p2 pos pos2:Pos} {i:List Sl->Tr PyData}
end
noncomputable def plE:Expr->Bool
 | .Starred ..=>false
 | _=>true
theorem Zgc {e:Expr} {es:List Expr} {env:Env} (h:plE e=true):starEach (e::es) env=(false,eval e env)::starEach es env:=by
 cases e <;> first | rfl | cases h
section
variable {X:Cx} {PK:Pk} {e:Expr} {es:List Expr} {i:List Sl->Tr PyData} {is:List Sl->Tr (List PyData)}
theorem bB (ha:PE X e (TAe PK i)) (hr:PA X es (TAd PK is)) (hs:plE e=true:=by rfl):PA X (e::es) (TAd PK (ai i is)):=av ha hr (Zgc hs)
end
noncomputable def jB:List PyData->Option (List Str)
 | []=>some []
 | .str x::r=>(jB r).map (x::·)
 | _::_=>none
noncomputable def j7 (sep:Str) (ts:List Str):Bool:=decide (sep.length<=16/\(ts.map (·.length)).sum+ts.length<=1048576)
noncomputable def bW:PyData->PyData->Option PyData
 | .str sep,.list ds=>(jB ds).bind λts=>if j7 sep ts=true then some (.str (Txt.join sep ts)) else none
 | _,_=>none
noncomputable def ZbG:V->List V->Hp->VK->Prop:=λx vs H Q=>∃ sep l ts,x=.str sep/\vs=[.ref l]/\H l=some (.lst (ts.map V.str))/\j7 sep ts=true/\Q (.str (Txt.join sep ts)) H
theorem ZaJ:∀ {ts:List Str} {us:List Value},Vals (ts.map V.str) us->StrsAre us ts
 | [],_,.nil=>.nil
 | t::ts,_,.cons r h=>by
  obtain ⟨k,rfl⟩:=r
  exact .cons t k (ZaJ h)
section
variable {X:Cx}
theorem pU:kw X "str.join" ZbG:=by
 intro pins s σ H x vs v us Q I rx rv h
 obtain ⟨sep,l,ts,rfl,rfl,hH,hz,q⟩:=h
 obtain ⟨t,rfl⟩:=rx
 obtain ⟨u,rfl,ru⟩:=rv.one
 cases ru
 obtain ⟨z,its,n,r,hl,e⟩:=I.lstM hH
 have hz:=of_decide_eq_true hz
 refine join_listW (D:=l) (items:=its.toArray) ⟨_,e,rfl,n,rfl⟩ (ZaJ r) hz.1 hz.2 λt' k=>?_
 exact ⟨.str _,H,I.tok _,⟨_,rfl⟩,q⟩
end
theorem Zdw {G:Hp}:∀ {vs:List V} {ds:List PyData} {ts:List Str},DnAll G vs ds->jB ds=some ts->vs=ts.map V.str:=by
 intro vs ds
 induction ds generalizing vs with
 | nil=>intro ts h e; cases h; cases e; rfl
 | cons d ds ih =>
  intro ts h e
  cases h with
  | cons h1 h2 =>
   cases d with
   | str x =>
    cases h1
    unfold jB at e
    obtain ⟨ts',e1,rfl⟩:=Option.map_eq_some_iff.mp e
    rw [ih h2 e1]; rfl
   | _=>cases e
section
variable {X:Cx} {PK:Pk} {o e:Expr} {i j:List Sl->Tr PyData} {apos cpos:Pos} {sep:Str}
theorem fq (ho:PE X o (TAe PK (aC (.str sep)))) (he:PE X e (TAe PK j))
  (hbase:attributeBase o "join" X.env (eval o X.env)=eval o X.env:=by rfl)
  (hfew:((backTo cpos (starEach [e] X.env)).all (λx=>!x.1) && (backToKw cpos (keywordEach [] X.env)).all (λx=>x.1.isSome)
   && decide (([e]:List Expr).length+([]:List Keyword).length+(if ([]:List Keyword).isEmpty then 0 else 1) < 30))=true:=by rfl)
  (hline:(apos.endLine == cpos.line)=true:=by rfl) (hs:starEach [e] X.env=(false,eval e X.env)::starEach [] X.env:=by rfl) (hplain:(backTo cpos (starEach [] X.env)).any (·.1)=false:=by rfl) :
  PE X (.Call (.Attribute o "join" apos) [e] [] cpos) (TAe PK (ah bW (aC (.str sep)) j)) :=
 (gF PySem.F.plainAttrs_str PySem.F.slot_str_join PySem.F.type_str_join pU ho (aN he bp hs) hbase hfew hline hs hplain).imp λσ H Q hz0=>by
  obtain ⟨pa,G₀,H₀,m,ρ,G,R,q⟩:=hz0
  have R0:=R
  refine ⟨pa,G₀,H₀,m,ρ,G,R,?_⟩
  show Kn PK pa m G H (.str sep) _
  intro v G1 H1 s1 w1 d1
  cases d1
  refine ⟨rfl,?_⟩
  have q':((j ρ).bind λy=>Tr.of (bW (.str sep) y)).ok m λm' d=>Kn PK pa m' G H d Q:=q
  refine TAe.then (R.step s1 w1) q' λm2 y u G2 H2 s2 w2 R2 d2 q2=>?_
  obtain ⟨z,hz,k⟩:=Tr.ok_of q2
  cases y with
  | list ds =>
   obtain ⟨ts,e1,e2⟩:=Option.bind_eq_some_iff.mp (show (jB ds).bind (λts=>if j7 sep ts=true then some (PyData.str (Txt.join sep ts)) else none)=some z from hz)
   cases hc:j7 sep ts with
   | false=>rw [hc] at e2; cases e2
   | true =>
    rw [hc] at e2
    cases e2
    cases d2 with
    | lst h1 h2 =>
     have:=Zdw h2 e1
     subst this
     exact ⟨sep,_,ts,rfl,rfl,w2.sub _ _ h1,hc,(Kn.later k (s1.trans s2 w1.some) w2.some).here w2 (.str _)⟩
  | _=>cases hz
end
variable {PK:Pk} {X:Cx} {e:Expr}
variable {is:List Sl->Tr (List PyData)} {i:List Sl->Tr (List PyData)}
variable {PK:Pk} {X:Cx} {e:Expr}
variable {A:List Sl->Tr (List (List PyData))} {v i j:List Sl->Tr PyData} {t:List Sl->Tr Ou} {st3 st4:Stmt} {rest:List Stmt}
theorem Zh5 {P:Program} {w:World} {K:PySem.W.Frag} {mg:Str->Option Value} {base:Heap} {N:List Str} {qual:Str} {scope:Scope} {f:Addr} {cd:Value} {A:Around} {outer:List Env} {s₀:Shared} {H₀:Hp} {E E1:XK}
  {pins:List (Addr×Obj)} {σ:St} {H:Hp} {s s':Shared} {e:Value}
  (I:Inv (df (cg P w) P w K mg base N qual scope f cd A outer s₀ H₀ E) pins σ H s) (hq:cg P w (envOfC qual scope s₀.heap.objs.size f cd::outer) H s E1 e s') (hE:∀ cls H',E1 cls none H'->E cls none H') :
  (df (cg P w) P w K mg base N qual scope f cd A outer s₀ H₀ E).xe e s':=by
 have hst:s.heap.FunFrames base (envOfC qual scope s₀.heap.objs.size f cd::outer):=I.stack
 have hbase:Un (frs outer) [] H₀ H s₀.heap s.heap:=I.base
 obtain ⟨_,⟨L,oL,hL,_,hoL,_⟩,_⟩:=id hst
 have hLe:L=s₀.heap.objs.size:=(Option.some.inj hL).symm
 have hfs:∀ b,b∈frs (envOfC qual scope s₀.heap.objs.size f cd::outer) ↔ b=L\/b∈frs outer:=λb=>by
  unfold frs
  rw [List.filterMap_cons,hL]
  exact List.mem_cons
 have old:∀ b o,s₀.heap.get? b=some o->b≠L:=λb o hb z=>by
  have:=Heap.lt_size hb
  rw [z,hLe] at this
  exact absurd this (Nat.lt_irrefl _)
 show wpAny (model P w) (A.deeper (envOfC qual scope s₀.heap.objs.size f cd)) (leaving (envOfC qual scope s₀.heap.objs.size f cd) e) (λ_ s''=>cg P w outer H₀ s₀ E e s'') (λe' s''=>cg P w outer H₀ s₀ E e' s'') s'
 unfold leaving
 refine wpAny_bind (Zd4 (X:=df (cg P w) P w K mg base N qual scope f cd A outer s₀ H₀ E) (outer:=outer) (L:=L) I rfl hL hq λea cls H' h' eq I5 hea hcl fly un hE1=>?_)
 obtain ⟨b'',t,fl,hf,hbt⟩:=fly
 obtain ⟨f1,f2,⟨_,_,f3⟩,f4⟩:=fl
 refine ⟨ea,t,cls,b'',H',eq,I5.os,I5.bare,I5.base,I5.hok,⟨f1,f2,f3,f4⟩,λb o hb hn=>?_,hbt,hE cls H' hE1⟩
 cases e1:b''.get? b with
 | some o'=>exact ⟨o',rfl⟩
 | none =>
  obtain ⟨o',e2⟩:=hbase.there b o hb (by simp)
  have:=hf b e1 λz=>((hfs b).mp z).elim (old b o hb) hn
  rw [e2] at this
  cases this
theorem ZiB {e:Value} {a b:Env} (h:a.frame=b.frame):noteFrame e a=noteFrame e b:=by
 unfold noteFrame PySem.frameOf
 rw [h]
theorem Zhj {b' h:Heap} {l:List Env} {e L:Addr} {cls a0:Value} (x:Heap.HeldW b' l e cls a0 L h):∃ T,b'.get? T=none/\(∃ oT ts,h.get? T=some oT/\oT.data=.fields ts)/\(∃ oe vs,h.get? e=some oe/\oe.cls=cls/\oe.data=.fields vs)/\Heap.HeldW (ge h (e::T::frs l)) l e cls a0 L h:=by
 obtain ⟨f1,f2,f3,oe,vs,T,oT,ts,he,hc,hd,h1,hT,hTe,hoT,hdT,h3⟩:=x
 refine ⟨T,hT,⟨oT,ts,hoT,hdT⟩,⟨oe,vs,he,hc.1,hd⟩,pQ _ _,iX (by simp),ffr f3 _ λb hb=>List.mem_cons_of_mem _ (List.mem_cons_of_mem _ hb),oe,vs,T,oT,ts,he,hc,hd,h1,iX (by simp),hTe,hoT,hdT,h3⟩
noncomputable def rB (X:Cx) (E:XK) (L:Addr) (e:Value) (s':Shared):Prop:=∃ (pins:List (Addr×Obj)) (σ:St) (H':Hp) (ea t:Addr) (cls:Value) (b':Heap),e=.ref ea/\Inv X pins σ H' s'/\Heap.HeldW b' X.stack ea cls (.ref t) L s'.heap /\
 (∀ b o,X.s₀.heap.get? b=some o->b ∉ frs X.stack->b ∉ X.ex->∃ o',b'.get? b=some o')/\(∀ b,H' b≠none->∃ o',b'.get? b=some o')/\E cls none H'
noncomputable def rg (X:Cx) (E:XK) (L:Addr):Prop:=∀ (e:Value) (s':Shared),rB X E L e s'->X.xe e s'
theorem Zc7 {h base:Heap} {l:List Env} (f:h.FunFrames base l) {b:Addr} {o:Obj} {us:Array Value} (h1:h.get? b=some o) (h2:o.data=.fields us):b ∉ frs l:=λz=>by
 obtain ⟨_,o',ho',hd⟩:=f.mem z
 rw [h1] at ho'
 cases ho'
 exact hd us h2
theorem ZiA {X:Cx} {pins:List (Addr×Obj)} {σ:St} {H:Hp} {s s':Shared} {E:XK} {e:Value} {outer:List Env} {env0:Env} {L:Addr} {Q:Unit->Shared->Prop} {EE:Value->Shared->Prop}
  (I:Inv X pins σ H s) (hstk:X.stack=env0::outer) (hL0:env0.frame=some L) (hL:X.env.frame=some L) (hq:cg X.prog X.w X.stack H s E e s')
  (k:∀ h',rB X E L e { s' with heap:=h' }->Q () { s' with heap:=h' }):wpAny (model X.prog X.w) X.A (noteFrame e X.env) Q EE s':=by
 obtain ⟨ea,t,cls,b',H',rfl,os,bare,un,hok,fl,hb',ht,hE⟩:=hq
 rw [ZiB (hL.trans hL0.symm)]
 have hst:∀ b∈frs X.stack,H b=none:=I.stkFree
 have funs:s.heap.FunFrames X.base X.stack:=I.stack
 have hst':∀ b∈frs X.stack,H' b=none:=λb hb=>by
  obtain ⟨_,o,ho,_⟩:=funs.mem hb
  exact un.free b o ho (hst b hb) (by simp)
 have hfr:X.A.frames=some (env0::outer):=by rw [<- hstk]; exact I.ok.frames
 obtain ⟨T,hT,⟨oT,ts,hoT,hdT⟩,⟨oe,vs,hoe,hoc,hod⟩,fl'⟩:=rebase fl
 have nea:ea ∉ frs X.stack:=Zc7 fl.2.2.1 hoe hod
 have nT:T ∉ frs X.stack:=Zc7 fl.2.2.1 hoT hdT
 have notin:∀ c:Addr,b'.get? c=none->c ∉ frs X.stack->s.heap.get? c=none:=λc hc hf=>by
  cases e1:s.heap.get? c with
  | none=>rfl
  | some o =>
   obtain ⟨o',e2⟩:=hb' c o e1 hf
   rw [hc] at e2; cases e2
 have nob:∀ {c:Addr} {o:Obj},b'.get? c=some o->c≠ea/\c≠T:=λ{c o} hc=>⟨(λz=>by rw [z,fl.2.1] at hc; exact nomatch hc),(λz=>by rw [z,hT] at hc; exact nomatch hc)⟩
 refine wpAny_looks_onW hfr hL0 (by rw [<- hstk]; exact fl') λh₄ held ups=>?_
 rw [<- hstk] at held
 have stay:∀ b o,s'.heap.get? b=some o->b ∉ frs X.stack->b ∉ [ea,T]->h₄.get? b=some o:=λb o hb hn hx=>held.1 b o (by
  rw [dS]
  ·exact hb
  ·intro z
   rcases List.mem_cons.mp z with z | z
   ·exact hx (by simp [z])
   ·rcases List.mem_cons.mp z with z | z
    ·exact hx (by simp [z])
    ·exact hn z)
 have slot:∀ b o,s'.heap.get? b=some o->b∈frs X.stack->∃ sl,h₄.get? b=some { o with slots:=sl }:=λb o hb hn=>by
  obtain ⟨_,o',ho',hd⟩:=fl.2.2.1.mem hn
  rw [hb] at ho'
  cases ho'
  exact ups b o hb hd
 have un4:Un (frs X.stack) [ea,T] H' H' s'.heap h₄:=⟨λb o hb hn hf hx=>stay b o hb hf hx,λb o hb hn hf hx=>slot b o hb hf,λb o hb hn hx=>hn,λb o hb hx=>by
  by_cases hq:b∈frs X.stack
  ·obtain ⟨sl,e1⟩:=slot b o hb hq
   exact ⟨_,e1⟩
  ·exact ⟨o,stay b o hb hq hx⟩,λ_ _ z=>z,λ_ _ _ z=>z,λb ps z=>⟨#[],by rw [z,Array.append_empty]⟩⟩
 have hok4:HOk X.prog X.w H' h₄:=HOk.tracked hok λb u hb q=>stay b u q (λz=>hb (hst' b z)) λz=>by
  obtain ⟨o',e2⟩:=ht b hb
  rcases List.mem_cons.mp z with z | z
  ·exact (nob e2).1 z
  ·exact (nob e2).2 (by simpa using z)
 have un':=un.skip un4 λc hc=>by
  rcases List.mem_cons.mp hc with z | z
  ·subst z; exact notin c fl.2.1 nea
  ·have z:c=T:=by simpa using z
   subst z; exact notin c hT nT
 have I4:Inv X pins σ H' { s' with heap:=h₄ }:=I.call' (s':={ s' with heap:=h₄ }) os un' hok4 bare λb hb=>absurd hb (by simp)
 have out:∀ {b:Addr} {o2:Obj},b'.get? b=some o2->b ∉ frs X.stack->b ∉ ea::T::frs X.stack:=λ{b o2} e2 hf z=>by
  rcases List.mem_cons.mp z with z | z
  ·exact (nob e2).1 z
  ·rcases List.mem_cons.mp z with z | z
   ·exact (nob e2).2 z
   ·exact hf z
 refine k h₄ ⟨pins,σ,H',ea,t,cls,_,rfl,I4,held,λb o hb hf hx=>?_,λb hb=>?_,hE⟩
 ·obtain ⟨o1,e1⟩:=I.base.there b o hb hx
  obtain ⟨o2,e2⟩:=hb' b o1 e1 hf
  obtain ⟨o3,e3⟩:=un.there b o1 e1 (by simp)
  exact ⟨o3,by rw [dS (out e2 hf)]; exact e3⟩
 ·obtain ⟨o2,e2⟩:=ht b hb
  cases e1:H' b with
  | none=>exact absurd e1 hb
  | some u =>
   obtain ⟨o3,e3⟩:=(hok b u e1).get
   exact ⟨o3,by rw [dS (out e2 λz=>hb (hst' b z))]; exact e3⟩
theorem qk {P:Program} {w:World} {K:PySem.W.Frag} {mg:Str->Option Value} {base:Heap} {N:List Str} {qual:Str} {scope:Scope} {f:Addr} {cd:Value} {A:Around} {outer:List Env} {s₀:Shared} {H₀:Hp} {E:XK} :
  rg (df (cg P w) P w K mg base N qual scope f cd A outer s₀ H₀ E) E s₀.heap.objs.size:=by
 rintro e s' ⟨pins,σ,H',ea,t,cls,b',rfl,I,held,c1,c2,hE⟩
 obtain ⟨T,hT,⟨oT,ts,hoT,hdT⟩,⟨oe,vs,hoe,hoc,hod⟩,held'⟩:=Zhj held
 have hbase:Un (frs outer) [] H₀ H' s₀.heap s'.heap:=I.base
 have hL:(envOfC qual scope s₀.heap.objs.size f cd).frame=some s₀.heap.objs.size:=rfl
 have hfs:∀ b,b∈frs (envOfC qual scope s₀.heap.objs.size f cd::outer) ↔ b=s₀.heap.objs.size\/b∈frs outer:=λb=>by
  unfold frs
  rw [List.filterMap_cons,hL]
  exact List.mem_cons
 have old:∀ b o,s₀.heap.get? b=some o->b≠s₀.heap.objs.size:=λb o hb z=>absurd (Heap.lt_size hb) (by rw [z]; exact Nat.lt_irrefl _)
 have hfree:∀ b∈frs (envOfC qual scope s₀.heap.objs.size f cd::outer),H' b=none:=I.stkFree
 have nob:∀ {c:Addr} {o:Obj},b'.get? c=some o->c≠ea/\c≠T:=λ{c o} hc=>⟨(λz=>by rw [z,held.2.1] at hc; exact nomatch hc),(λz=>by rw [z,hT] at hc; exact nomatch hc)⟩
 have c1':∀ b o,s₀.heap.get? b=some o->b ∉ frs outer->b≠ea/\b≠T:=λb o hb hf=>by
  obtain ⟨o',e⟩:=c1 b o hb (λz=>((hfs b).mp z).elim (old b o hb) hf) (by show b ∉ ([]:List Addr); simp)
  exact nob e
 show wpAny (model P w) (A.deeper (envOfC qual scope s₀.heap.objs.size f cd)) (leaving (envOfC qual scope s₀.heap.objs.size f cd) (.ref ea)) (λ_ s''=>cg P w outer H₀ s₀ E (.ref ea) s'') (λe' s''=>cg P w outer H₀ s₀ E e' s'') s'
 unfold leaving
 refine wpAny_bind (wpAny_noteFrame_againW hL held'.2.2.2 (wpAny_landsW held' λh5 fl ups=>?_))
 have stay:∀ b o,s'.heap.get? b=some o->b ∉ frs (envOfC qual scope s₀.heap.objs.size f cd::outer)->b≠ea/\b≠T->h5.get? b=some o:=λb o hb hn hx=>fl.1 b o (by
  rw [dS]
  ·exact hb
  ·intro z
   rcases List.mem_cons.mp z with z | z
   ·exact hx.1 z
   ·rcases List.mem_cons.mp z with z | z
    ·exact hx.2 z
    ·exact hn z)
 have slot:∀ b o,s'.heap.get? b=some o->b∈frs (envOfC qual scope s₀.heap.objs.size f cd::outer)->∃ sl,h5.get? b=some { o with slots:=sl }:=λb o hb hn=>by
  obtain ⟨_,o',ho',hd⟩:=held.2.2.1.mem hn
  rw [hb] at ho'
  cases ho'
  exact ups b o hb hd
 have notf:∀ {b:Addr} {o:Obj},s₀.heap.get? b=some o->b ∉ frs outer->b ∉ frs (envOfC qual scope s₀.heap.objs.size f cd::outer):=λ{b o} hb hf z=>((hfs b).mp z).elim (old b o hb) hf
 obtain ⟨f1,f2,⟨_,_,f3⟩,f4⟩:=fl
 refine ⟨ea,t,cls,_,H',rfl,I.os,I.bare,⟨λb o hb hn hf hx=>?_,λb o hb hn hf hx=>?_,hbase.free,λb o hb hx=>?_,hbase.tups,hbase.frzs,hbase.tbls⟩,HOk.tracked I.hok λb u hb q=>?_,⟨f1,f2,f3,f4⟩,λb o hb hf=>?_,λb hb=>?_,hE⟩
 ·exact stay b o (hbase.keep b o hb hn hf hx) (notf hb hf) (c1' b o hb hf)
 ·obtain ⟨sl,e1⟩:=hbase.slot b o hb hn hf hx
  obtain ⟨ff,e2⟩:=slot b _ e1 ((hfs b).mpr (.inr hf))
  exact ⟨ff,e2⟩
 ·obtain ⟨o',e1⟩:=hbase.there b o hb hx
  by_cases hq:b∈frs outer
  ·obtain ⟨ff,e2⟩:=slot b _ e1 ((hfs b).mpr (.inr hq))
   exact ⟨_,e2⟩
  ·exact ⟨o',stay b o' e1 (notf hb hq) (c1' b o hb hq)⟩
 ·obtain ⟨o',e2⟩:=c2 b hb
  exact stay b u q (λz=>hb (hfree b z)) (nob e2)
 ·obtain ⟨o',e1⟩:=hbase.there b o hb (by simp)
  refine ⟨o',?_⟩
  rw [dS]
  ·exact e1
  ·intro z
   rcases List.mem_cons.mp z with z | z
   ·exact (c1' b o hb hf).1 z
   ·rcases List.mem_cons.mp z with z | z
    ·exact (c1' b o hb hf).2 z
    ·exact notf hb hf z
 ·obtain ⟨o2,e2⟩:=c2 b hb
  cases e1:H' b with
  | none=>exact absurd e1 hb
  | some u =>
   obtain ⟨o3,e3⟩:=(I.hok b u e1).get
   refine ⟨o3,?_⟩
   rw [dS]
   ·exact e3
   ·intro z
    rcases List.mem_cons.mp z with z | z
    ·exact (nob e2).1 z
    ·rcases List.mem_cons.mp z with z | z
     ·exact (nob e2).2 z
     ·exact hb (hfree b z)
theorem Zc8 {h h' base:Heap}:∀ {l:List Env},h.FunFrames base l->(∀ b∈frs l,∀ o,h.get? b=some o->h'.get? b=some o)->h'.FunFrames base l
 | [],_,_=>trivial
 | env::l,⟨a,⟨L,o,hL,hb,ho,hd⟩,r⟩,k=>by
  have e:frs (env::l)=L::frs l:=by unfold frs; rw [List.filterMap_cons,hL]
  exact ⟨a,⟨L,o,hL,hb,k L (by rw [e]; simp) o ho,hd⟩,Zc8 r λb hb=>k b (by rw [e]; exact List.mem_cons_of_mem _ hb)⟩
theorem Zfu {h:Heap} {a:Addr} {o:Obj} {f:Obj->Obj} (ho:h.get? a=some o) (hf:f o=o):h.update a f=h:=by
 obtain ⟨objs,l⟩:=h
 show Heap.mk (objs.modify a f) l=Heap.mk objs l
 congr 1
 apply Array.ext
 ·simp
 ·intro i h1 h2
  rw [Array.getElem_modify]
  split
  ·rename_i e
   subst e
   have:objs[a]?=some o:=by
    unfold Heap.get? at ho
    split at ho
    ·cases ho
    ·exact ho
   rw [Array.getElem?_eq_getElem h2] at this
   cases this
   exact hf
  ·rfl
theorem Zh4 {X:Cx} {pins:List (Addr×Obj)} {σ:St} {H':Hp} {s':Shared} {E:XK} {L C ea t:Addr} {cls:Value} {b' h':Heap} {cenv:Env} {what:String} {α:Type} (hX:rg X E L) (hcf:cenv.frame=some L)
  (I:Inv X pins σ H' s') (held:Heap.HeldW b' X.stack ea cls (.ref t) L s'.heap) (c1:∀ b o,X.s₀.heap.get? b=some o->b ∉ frs X.stack->b ∉ X.ex->∃ o',b'.get? b=some o') (c2:∀ b,H' b≠none->∃ o',b'.get? b=some o') (hE:E cls none H')
  (hC:∃ m,s'.heap.Ns C m) (hn:H' C=none) (hCL:C≠X.env.locals) (h0:X.s₀.heap.objs.size<=C) (hcl:∀ x c,X.env.cells.lookup x=some c->c≠C) (hp:∀ p∈X.pn++pins,p.1≠C) (hCf:C ∉ frs X.stack) (hsb:Heap.SameBut C s'.heap h') :
  wpAny (model X.prog X.w) X.A (PySem.passOn what (.ref ea) cenv:Sem α) (λ_ _=>False) X.xe { s' with heap:=h' }:=by
 obtain ⟨m,oC,es,ep,hoC,hdC,_⟩:=hC
 have I':Inv X pins σ H' { s' with heap:=h' }:=I.turned (it:=C) (t':=s'.toks) (λb o hb e=>(hsb.2 b hb).trans e) hn hCL (.inr h0) hcl hp
 obtain ⟨f1,f2,f3,oe,vs,T,oT,ts,he,hc,hd,h1,hT,hTe,hoT,hdT,h3⟩:=held
 have nC:∀ {b:Addr} {o:Obj} {us:Array Value},s'.heap.get? b=some o->o.data=.fields us->b≠C:=λ{b o us} e1 e2 z=>by
  rw [z,hoC] at e1
  cases e1
  rw [hdC] at e2
  cases e2
 have he':h'.get? ea=some oe:=(hsb.2 ea (nC he hd)).trans he
 have hT':h'.get? T=some oT:=(hsb.2 T (nC hoT hdT)).trans hoT
 have hsz3:3 < ts.size:=(Array.getElem?_eq_some_iff.mp h3).1
 have same:h'.update T (Obj.mapFields (·.setIfInBounds 3 ((some L).elim Value.none λf=>rawInt f)))=h':=Zfu hT' (by
  obtain ⟨c,d,dt,sl⟩:=oT
  have hdT:dt=.fields ts:=hdT
  subst hdT
  show Obj.mk c d (.fields (ts.setIfInBounds 3 (rawInt L))) sl=_
  congr 2
  apply Array.ext
  ·simp
  ·intro i q1 q2
   rw [Array.getElem_setIfInBounds]
   split
   ·rename_i e
    subst e
    rw [Array.getElem?_eq_getElem q2] at h3
    exact (Option.some.inj h3).symm
   ·rfl)
 unfold PySem.passOn
 refine wpAny_bind (wpAny_field he' hd h1 ?_)
 rw [if_neg (show ¬ ((Value.ref T == Value.none)=true) from by simp)]
 unfold setFlight
 refine wpAny_bind (wpAny_bind (wpAny_field he' hd h1 ?_))
 rw [if_pos (show (Value.ref T != Value.none)=true from by simp),hcf]
 refine wpAny_setField hT' hdT hsz3 ?_
 rw [same]
 have fr':h'.FunFrames b' X.stack:=Zc8 f3 λb hb o ho=>(hsb.2 b λz=>hCf (by rw [<- z]; exact hb)).trans ho
 have nob:∀ {c:Addr} {o:Obj},b'.get? c=some o->c≠ea/\c≠T:=λ{c o} hc=>⟨(λz=>by rw [z,f2] at hc; exact nomatch hc),(λz=>by rw [z,hT] at hc; exact nomatch hc)⟩
 refine wpAny_throw (hX _ _ ⟨pins,σ,H',ea,t,cls,ge h' (ea::T::frs X.stack),rfl,I',⟨pQ _ _,iX (by simp),ffr fr' _ λb hb=>List.mem_cons_of_mem _ (List.mem_cons_of_mem _ hb),oe,vs,T,oT,ts,he',hc,hd,h1,iX (by simp),hTe,hT',hdT,h3⟩,λb o hb hf hx=>?_,λb hb=>?_,hE⟩)
 ·obtain ⟨o2,e2⟩:=c1 b o hb hf hx
  obtain ⟨o3,e3⟩:=I'.base.there b o hb hx
  refine ⟨o3,?_⟩
  rw [dS]
  ·exact e3
  ·intro z
   rcases List.mem_cons.mp z with z | z
   ·exact (nob e2).1 z
   ·rcases List.mem_cons.mp z with z | z
    ·exact (nob e2).2 z
    ·exact hf z
 ·obtain ⟨o2,e2⟩:=c2 b hb
  cases e1:H' b with
  | none=>exact absurd e1 hb
  | some u =>
   obtain ⟨o3,e3⟩:=(I'.hok b u e1).get
   refine ⟨o3,?_⟩
   rw [dS]
   ·exact e3
   ·intro z
    rcases List.mem_cons.mp z with z | z
    ·exact (nob e2).1 z
    ·rcases List.mem_cons.mp z with z | z
     ·exact (nob e2).2 z
     ·exact hb (I'.stkFree b z)
noncomputable def lI (X:Cx) (N:List Str) (scope:Scope) (E:XK) (L:Addr) (b:Blk):Cx :=
 (bg X N scope b).wish λe s'=>(∃ (pins:List (Addr×Obj)) (σ:St) (H:Hp) (s:Shared),Inv (bg X N scope b) pins σ H s/\cg X.prog X.w X.stack H s E e s')\/rB (bg X N scope b) E L e s'
theorem pJ {X:Cx} {N:List Str} {scope:Scope} {E:XK} {L:Addr} {b:Blk}:lW (cg X.prog X.w) (lI X N scope E L b) E:=λpins σ H s e s' I h=>.inl ⟨pins,σ,H,s,I.unwish,h⟩
theorem Zb6 {X:Cx} {N:List Str} {scope:Scope} {E:XK} {L:Addr} {b:Blk}:rg (lI X N scope E L b) E L:=by
 rintro e s' ⟨pins,σ,H',ea,t,cls,b',h1,I,h2,h3,h4,h5⟩
 exact .inr ⟨pins,σ,H',ea,t,cls,b',h1,I.unwish,h2,h3,h4,h5⟩
theorem ZoL {prog:Program} {w:World} {A:Around} {R:Result->Shared->Prop} {s:Shared} {elt target iter:Expr} {scope:Scope} {pos:Pos} {it acc:Value} {env:Env} {EE:Value->Shared->Prop}
  (hE:∀ e s',EE e s'->notedBy (model prog w) A env (λx s''=>R (.error x) s'') e s') (J:Nat->Shared->Prop)
  (step:∀ k s0,J k s0->wpAny (model prog w) A (pyNext it) (λgot s1=>match got with
   | none=>R (.ok .next) s1
   | some v=>wpAny (model prog w) A (letOwnedTupleGo target it v) (λ_ s2=>wpAny (model prog w) A (assign target env v) (λ_ s3=>wpAny (model prog w) A (eval elt env) (λy s4 =>
     wpAny (model prog w) A (call (.builtin "list.append") [acc,y]) (λ_ s5=>∃ j,j < k/\J j s5) (λ_ _=>False) s4) EE s3) (λ_ _=>False) s2) (λ_ _=>False) s1) (λ_ _=>False) s0)
  (k:Nat) (h:J k s):codeAny (model prog w) A (.compLoop (.ListComp elt [⟨target,iter,[],0⟩] scope pos) 0 it acc env) R s:=by
 refine codeAny_loop rfl J (λk0 s0 hJ=>?_) k h
 show wpAny _ _ ((compTurn (.ListComp elt [⟨target,iter,[],0⟩] scope pos) 0 it acc env).onRaise (λx=>do noteFrame x env; theTreesLotGoes x)) _ _ s0
 apply wpAny_noted
 rw [compTurn_list1]
 refine wpAny_bind (wpAny_standAt (wpAny_bind (wpAny_mono (step k0 s0 hJ) (λgot s1 h1=>?_) λ_ _ z=>z.elim)))
 cases got with
 | none=>exact wpAny_pure h1
 | some v =>
  refine wpAny_bind (wpAny_mono h1 (λ_ s2 h2=>?_) λ_ _ z=>z.elim)
  refine wpAny_bind (wpAny_mono h2 (λ_ s3 h3=>?_) λ_ _ z=>z.elim)
  refine wpAny_bind (wpAny_bind (wpAny_mono h3 (λy s4 h4=>?_) λe s' z=>hE e s' z))
  exact wpAny_bind (wpAny_mono h4 (λ_ s5 h5=>wpAny_pure (wpAny_pure ⟨rfl,h5⟩)) λ_ _ z=>z.elim)
section
variable {X:Cx} {pins:List (Addr×Obj)} {σ:St} {H:Hp} {s:Shared}
theorem Zi7 {E0:XK} {L:Addr} {env0:Env} {outer:List Env} {elt target iter:Expr} {scope:Scope} {pos:Pos} {Nx ts:List Str} {ix:List Nat} {g:Blk->TG} {te:Blk->TE} {cl:List (Str×Addr)} {s2:Shared} {itv:Value} {R:Value->Env->Result->Shared->Prop}
  {E:Value->Shared->Prop} {Q:VK}
  (hc:X.calm=true) (hg:∀ b,PG (bg X (bN Nx ts ix) scope b) target (g b)) (he:∀ b,PE (lI X (bN Nx ts ix) scope E0 L b) elt (te b)) (hstk:X.stack=env0::outer) (hL0:env0.frame=some L) (hL:X.env.frame=some L)
  (hNx:X.N=Nx) (ok:BlkOk Nx X.env.scope scope ix) (cl1:∀ x c,cl.lookup x=some c->X.env.cells.lookup x=some c) (cl2:∀ y∈scope.names,y.2=.free->∃ c,cl.lookup y.1=some c)
  (h2:lX X pins σ target (λJ H1=>∀ b:Blk,∃ W:Nat->Nat->St->List V->Hp->Prop,(∃ m,W 0 m (dm ts.length ix σ) [] H1)/\∀ i m τ ys H2,W i m τ ys H2 ->
   (J.stop i H2/\∀ p v H',H2 p=none->v=V.ref p->H'=upd H2 p (.lst ys)->Q v H') \/
   (J.go i H2/\ys.length < sizeLine/\∀ x H3,J.yld i H2 x H3->g b x τ H3 λτ2 H4=>te b τ2 H4 λy H5=>∃ m',m' < m/\W (i+1) m' τ2 (ys++[y]) H5)) itv s2)
  (hR:∀ (D C:Addr) (cenv:Env) (H':Hp) (s':Shared) (v:V),cenv.locals=C->Inv X pins σ H' s'->v=.ref D->Q v H'->(∃ m,s'.heap.Ns C m)->H' C=none->C≠X.env.locals->X.s₀.heap.objs.size<=C->(∀ x c,X.env.cells.lookup x=some c->c≠C)->(∀ p∈X.pn++pins,p.1≠C) ->
   R (.ref D) cenv (.ok .next) s')
  (hRe:∀ (D C ea t:Addr) (cls:Value) (b':Heap) (cenv:Env) (H':Hp) (s':Shared),cenv.locals=C->cenv.frame=X.env.frame->Inv X pins σ H' s'->Heap.HeldW b' X.stack ea cls (.ref t) L s'.heap->(∀ b o,X.s₀.heap.get? b=some o->b ∉ frs X.stack->b ∉ X.ex->∃ o',b'.get? b=some o')->(∀ b,H' b≠none->∃ o',b'.get? b=some o')->E0 cls none H' ->
   (∃ m,s'.heap.Ns C m)->H' C=none->C≠X.env.locals->X.s₀.heap.objs.size<=C->(∀ x c,X.env.cells.lookup x=some c->c≠C)->(∀ p∈X.pn++pins,p.1≠C)->C ∉ frs X.stack->R (.ref D) cenv (.error (.ref ea)) s') :
  wpAny (model X.prog X.w) X.A (newList []) (λacc s₃=>wpAny (model X.prog X.w) X.A (newFunctionEnv scope X.env.globals cl [] X.env.qual none .none (some X.env)) (λcenv s₄ =>
   codeAny (model X.prog X.w) X.A (.compStart (.ListComp elt [⟨target,iter,[],0⟩] scope pos) 0 itv acc { cenv with scope:=relabel scope X.env }) (R acc cenv) s₄) E s₃) E s2:=by
 obtain ⟨it,fp,tn,J,H1,e,I2,T,st2,f2,q2⟩:=h2
 subst e
 refine wpAny_newObj_type (rL ?_)
 dsimp only
 generalize hG:s2.heap.push { cls:=.type "list",dict:=none,data:=.seq ([]:List Value).toArray }=G
 have hGs:G.objs.size=s2.heap.objs.size+1:=by rw [<- hG,Heap.size_push]
 have hfs:∀ b∈fp,b < s2.heap.objs.size:=λb hb=>let ⟨o,e,_⟩:=T.obj _ _ st2 b hb; Heap.lt_size e
 have kpG:∀ b o,G.get? b=some o->(pushCells (G.push { cls:=.type "dict",data:=.dict #[] }) scope.names).get? b=some o:=λb o e=>pushCells_keeps _ _ _ _ (Heap.get?_push_of_some _ e)
 have hns3:(pushCells (G.push { cls:=.type "dict",data:=.dict #[] }) scope.names).Ns G.objs.size (λ_=>none):=(Heap.Ns.new G (.type "dict")).keeps (pushCells_keeps _ _)
 obtain ⟨sp1,sp2,sp4,sp3⟩:=uT scope.names (G.push { cls:=.type "dict",data:=.dict #[] }) cl
 rw [Heap.size_push] at sp1 sp2 sp3 sp4
 generalize hh3:pushCells (G.push { cls:=.type "dict",data:=.dict #[] }) scope.names=h3 at kpG hns3 sp1 ⊢
 have kp:∀ b o,s2.heap.get? b=some o->h3.get? b=some o:=λb o e=>kpG b o (by rw [<- hG]; exact Heap.get?_push_of_some _ e)
 have hD3:h3.get? s2.heap.objs.size=some { cls:=.type "list",data:=.seq ([]:List Value).toArray }:=kpG _ _ (by rw [<- hG]; exact Heap.get?_push_size _ rfl)
 have clB:∀ x c,cl.lookup x=some c->c < G.objs.size+1:=λx c e=>by
  obtain ⟨v,q⟩:=I2.cell x c (cl1 x c e)
  exact Nat.lt_succ_of_lt (Nat.lt_of_lt_of_le q.lt (by rw [hGs]; exact Nat.le_succ _))
 have csI:=sp3 clB λx y c e1 e2=>I2.ok.inj x y c (cl1 x c e1) (cl1 y c e2)
 have cs1:∀ x c,(cellsFrom (G.objs.size+1) scope.names cl).lookup x=some c->X.env.cells.lookup x=some c\/(G.objs.size < c/\h3.IsCell c none/\(x,NameKind.cell)∈scope.names):=λx c e=>by
  rcases sp1 x c e with z | ⟨z1,z2,z3⟩
  ·exact .inl (cl1 x c z)
  ·exact .inr ⟨by omega,z2,z3⟩
 have cs2:∀ y∈scope.names,(y.2=.free\/y.2=.cell)->∃ c,(cellsFrom (G.objs.size+1) scope.names cl).lookup y.1=some c:=λy hy hk=>by
  refine sp2 y.1 ?_
  rcases hk with z | z
  ·exact .inr (cl2 y hy z)
  ·exact .inl (by rw [<- z]; exact hy)
 have csA:∀ x c,(x,NameKind.cell)∈scope.names->(cellsFrom (G.objs.size+1) scope.names cl).lookup x=some c->G.objs.size<=c:=λx c e1 e2=>Nat.le_of_succ_le (sp4 x c e1 e2)
 generalize hcs:cellsFrom (G.objs.size+1) scope.names cl=cs at csI cs1 cs2 csA ⊢
 generalize hCe:G.objs.size=C at hns3 cs1 csA ⊢
 have hC:s2.heap.objs.size<=C:=by omega
 have hDC:s2.heap.objs.size≠C:=by omega
 let B:Blk:=⟨cs,C,s2,H1,fp,X.pn++pins⟩
 have I3:Inv (bg X (bN Nx ts ix) scope B) [] (dm ts.length ix σ) H1 { s2 with heap:=h3 }:=uj I2 hNx ok cs1 csI cs2 csA f2 hfs hC kp hns3
 have fC:H1 s2.heap.objs.size=none:=I2.hok.fresh (Nat.le_refl _)
 have cellIn:∀ x c,cs.lookup x=some c->c≠s2.heap.objs.size:=λx c e=>by
  rcases cs1 x c e with z | ⟨z,_,_⟩
  ·obtain ⟨v,q⟩:=I2.cell x c z
   exact Nat.ne_of_lt q.lt
  ·exact Nat.ne_of_gt (Nat.lt_of_le_of_lt hC z)
 have pinIn:∀ p∈X.pn++pins,p.1 < s2.heap.objs.size:=λp hp=>Heap.lt_size (I2.pin p hp).1
 have nofrs:s2.heap.objs.size ∉ frs X.stack:=λhb=>by
  rcases List.mem_cons.mp (I2.stkSub _ hb) with z | z
  ·exact absurd I2.lt (by rw [<- z]; exact Nat.lt_irrefl _)
  ·exact I2.nofs (Nat.le_refl _) z
 -- a state with the list at its place,pinned
 have pinD:∀ {τ:St} {H':Hp} {s':Shared} {ob:Obj},Inv (bg X (bN Nx ts ix) scope B) [] τ H' s'->s'.heap.get? s2.heap.objs.size=some ob->H' s2.heap.objs.size=none->(∀ v,ob.data≠.cell v)->Inv (bg X (bN Nx ts ix) scope B) [(s2.heap.objs.size,ob)] τ H' s' :=
  λ{τ H' s' ob} I' ho hn hd=>I'.pins_of λp hp=>by
   have e:p=(s2.heap.objs.size,ob):=by simpa using hp
   subst e
   exact ⟨ho,hn,hDC,nofrs,hd⟩
 obtain ⟨W,⟨m0,w0⟩,turn⟩:=q2 B
 have stat:∀ {H':Hp} {ob:Obj},(∀ b∈fp,H' b=none)->∀ b∈fp,gZ (bg X (bN Nx ts ix) scope B) [(s2.heap.objs.size,ob)] H' b:=λ{H' ob} hn b hb=>by
  refine ⟨hn b hb,Nat.ne_of_lt (Nat.lt_of_lt_of_le (hfs b hb) hC),λz=>?_,.inl hb,λx c e=>by
   rcases cs1 x c e with z | ⟨z,_,_⟩
   ·exact (f2 b hb).2.2.2.2.1 x c z
   ·exact Nat.ne_of_gt (Nat.lt_of_lt_of_le (hfs b hb) (Nat.le_trans hC (Nat.le_of_lt z))),λp hp=>?_⟩
  ·rcases List.mem_cons.mp (I2.stkSub _ z) with q | q
   ·exact (f2 b hb).2.1 q
   ·exact (f2 b hb).2.2.1 q
  ·rcases List.mem_append.mp hp with z | z
   ·exact (f2 b hb).2.2.2.2.2 p z
   ·have e:p=(s2.heap.objs.size,ob):=by simpa using z
    subst e
    exact Nat.ne_of_gt (hfs b hb)
 have hCloc:C≠X.env.locals:=λz=>absurd (Nat.lt_of_lt_of_le I2.lt hC) (by rw [z]; exact Nat.lt_irrefl _)
 have hCf:C ∉ frs X.stack:=λz=>by
  obtain ⟨_,o,ho,_⟩:=I2.stack.mem z
  exact absurd (Nat.lt_of_lt_of_le (Heap.lt_size ho) hC) (Nat.lt_irrefl _)
 have fin:∀ (e:Value) (s':Shared),rB (bg X (bN Nx ts ix) scope B) E0 L e s'->R (.ref s2.heap.objs.size) { scope:=scope,locals:=C,globals:=X.env.globals,cells:=cs,qual:=X.env.qual,func:=none,code:=X.env.code,frame:=X.env.frame,builtins:=X.env.builtins } (.error e) s':=by
  rintro e s' ⟨pins',τ,H5,ea,t,cls,b',rfl,I6,held,c1,c2,hE⟩
  have I7:Inv X pins σ H5 s':=I2.call' (ch:=fp) (H':=H5) (by exact I6.os) I6.base I6.hok I6.bare λb hb=>⟨(f2 b hb).2.2.2.1,(f2 b hb).2.1,(f2 b hb).2.2.2.2.1,(f2 b hb).2.2.2.2.2⟩
  obtain ⟨m6,hm6,_⟩:=I6.loc
  refine hRe _ C ea t cls b' _ H5 s' rfl rfl I7 held (λb o hb hf hx=>?_) c2 hE ⟨m6,hm6⟩ I6.free hCloc (Nat.le_trans I2.sz hC) (λx c e z=>?_) (λp hp=>Nat.ne_of_lt (Nat.lt_of_lt_of_le (pinIn p hp) hC)) hCf
  ·obtain ⟨o1,e1⟩:=I2.base.there b o hb hx
   refine c1 b o1 e1 hf λz=>?_
   rcases (f2 b z).2.2.2.1 with q | q
   ·exact hx q
   ·exact absurd (Nat.lt_of_lt_of_le (Heap.lt_size hb) q) (Nat.lt_irrefl _)
  ·obtain ⟨v,q⟩:=I2.cell x c e
   exact absurd (Nat.lt_of_lt_of_le q.lt hC) (by rw [z]; exact Nat.lt_irrefl _)
 have errs:∀ (e:Value) (s':Shared),(lI X (bN Nx ts ix) scope E0 L B).xe e s'->notedBy (model X.prog X.w) X.A (compEnvC scope cs C X.env) (λx s''=>R (.ref s2.heap.objs.size) { scope:=scope,locals:=C,globals:=X.env.globals,cells:=cs,qual:=X.env.qual,func:=none,code:=X.env.code,frame:=X.env.frame,builtins:=X.env.builtins } (.error x) s'') e s':=by
  rintro e s' (⟨pins',τ,H5,s5,I5,hq⟩ | hh)
  ·exact ZiA (X:=bg X (bN Nx ts ix) scope B) I5 hstk hL0 hL hq λh' hh=>fin _ _ hh
  ·obtain ⟨pins',τ,H5,ea,t,cls,b',rfl,I6,held,c1,c2,hE⟩:=id hh
   exact wpAny_noteFrame_againW hL held.2.2.2 (fin _ _ hh)
 have loop:∀ s4:Shared,s4={ s2 with heap:=h3 } ->
   codeAny (model X.prog X.w) X.A (.compLoop (.ListComp elt [⟨target,iter,[],0⟩] scope pos) 0 (.ref it) (.ref s2.heap.objs.size) (compEnvC scope cs C X.env)) (R (.ref s2.heap.objs.size) { scope:=scope,locals:=C,globals:=X.env.globals,cells:=cs,qual:=X.env.qual,func:=none,code:=X.env.code,frame:=X.env.frame,builtins:=X.env.builtins }) s4:=by
  rintro s4 rfl
  refine ZoL (EE:=(lI X (bN Nx ts ix) scope E0 L B).xe) errs (λk s'=>∃ i τ ys its n H',Inv (bg X (bN Nx ts ix) scope B) [(s2.heap.objs.size,({ cls:=.type "list",data:=.seq (List.toArray its) n }:Obj))] τ H' s'/\tn i s'.heap/\(∀ b∈fp,H' b=none)/\Vals ys its/\ys.length<=sizeLine/\W i k τ ys H') ?_ m0
   ⟨0,_,[],[],_,H1,pinD I3 hD3 fC (λv z=>by cases z),T.keep _ _ _ st2 λb hb o e=>kp b o e,λb hb=>(f2 b hb).1,.nil,Nat.zero_le _,w0⟩
  rintro k s5 ⟨i,τ,ys,its,n,H5,I5,st5,fr5,rv,hz,w5⟩
  rcases turn i k τ ys H5 w5 with ⟨stop,qn⟩ | ⟨go,hlt,step⟩
  ·refine thn (T.done (bg X (bN Nx ts ix) scope B) rfl rfl rfl hc i _ s5 τ H5 _ I5 (stat fr5) st5 stop) λgot s6 hz0=>?_
   obtain ⟨hr,I6⟩:=hz0
   subst hr
   obtain ⟨ho,hn,_,_,_⟩:=I6.pin (s2.heap.objs.size,({ cls:=.type "list",data:=.seq (List.toArray its) n }:Obj)) (List.mem_append_right _ (by simp))
   have I7:Inv X pins σ H5 s6:=I2.call' (ch:=fp) (H':=H5) (by exact I6.os) I6.base I6.hok I6.bare λb hb=>⟨(f2 b hb).2.2.2.1,(f2 b hb).2.1,(f2 b hb).2.2.2.2.1,(f2 b hb).2.2.2.2.2⟩
   have hs0:X.s₀.heap.objs.size<=s2.heap.objs.size:=I2.sz
   have I8:=I7.track hn ho rv hz (Nat.ne_of_gt I2.lt) hs0 (λx c e z=>by
    obtain ⟨v,q⟩:=I2.cell x c e
    exact absurd q.lt (by rw [z]; exact Nat.lt_irrefl _)) (λp hp=>Nat.ne_of_lt (pinIn p hp))
   obtain ⟨m6,hm6,_⟩:=I6.loc
   refine hR _ C _ _ s6 _ rfl I8 rfl (qn _ _ _ hn rfl rfl) ⟨m6,hm6⟩ ?_ (λz=>?_) (Nat.le_trans hs0 hC) (λx c e z=>?_) λp hp=>Nat.ne_of_lt (Nat.lt_of_lt_of_le (pinIn p hp) hC)
   ·rw [aO (Ne.symm hDC)]
    exact I6.free
   ·exact absurd (Nat.lt_of_lt_of_le I2.lt hC) (by rw [z]; exact Nat.lt_irrefl _)
   ·obtain ⟨v,q⟩:=I2.cell x c e
    exact absurd (Nat.lt_of_lt_of_le q.lt hC) (by rw [z]; exact Nat.lt_irrefl _)
  ·refine thn (T.item (bg X (bN Nx ts ix) scope B) rfl rfl rfl hc i _ s5 τ H5 _ I5 (stat fr5) st5 go) λgot s6 hz0=>?_
   obtain ⟨u,hr,h6⟩:=hz0
   subst hr
   refine thn h6 λ_ s7 hz0=>?_
   obtain ⟨x,H7,I7,r7,y7,st7,fr7⟩:=hz0
   have I7':=I7.pinned (stat fr7) (T.obj _ _ st7)
   refine thn (hg B _ s7 τ H7 x u _ I7' r7 (step x H7 y7)) λ_ s8 hz0=>?_
   obtain ⟨τ8,H8,I8,q8⟩:=hz0
   refine thn (he B _ s8 τ8 H8 _ (I8.wish _) q8) λy s9 hz0=>?_
   obtain ⟨vy,H9,I9x,r9,m',hm',w9⟩:=hz0
   have I9:=I9x.unwish
   obtain ⟨ho,hn,_,_,_⟩:=I9.pin (s2.heap.objs.size,({ cls:=.type "list",data:=.seq (List.toArray its) n }:Obj)) (List.mem_append_right _ (List.mem_append_left _ (by simp)))
   have lenv:=rv.length
   refine wpAny_list_append_plain (l:=s2.heap.objs.size) ⟨n,ho⟩ (λh' hpl hsb=>?_) (by rw [List.size_toArray]; omega)
   obtain ⟨n',ho'⟩:=hpl
   have eobj:(its.toArray.push y)=List.toArray (its++[y]):=by simp
   rw [eobj] at ho'
   have I9':Inv (bg X (bN Nx ts ix) scope B) [] τ8 H9 s9:=I9.pins_of λp hp=>absurd hp (by simp)
   have I10:Inv (bg X (bN Nx ts ix) scope B) [] τ8 H9 { s9 with heap:=h' }:=I9'.turned (it:=s2.heap.objs.size) (t':=s9.toks) (λb o hb e=>(hsb.2 b hb).trans e) hn hDC (.inr (Nat.le_refl _)) cellIn (λp hp=>by
    have hp':p∈(X.pn++pins)++[]:=hp
    rw [List.append_nil] at hp'
    exact Nat.ne_of_lt (pinIn p hp'))
   refine ⟨m',hm',i+1,τ8,ys++[vy],its++[y],n',H9,pinD I10 ho' hn (λv z=>by cases z),?_,λb hb=>?_,rv.append (.cons r9 .nil),by rw [List.length_append]; show ys.length+1<=_; omega,w9⟩
   ·refine T.keep _ _ _ st7 λb hb o e=>?_
    have q:=(I9.pin (b,o) (List.mem_append_right _ (List.mem_append_right _ (gH hb e)))).1
    exact (hsb.2 b (Nat.ne_of_lt (hfs b hb))).trans q
   ·obtain ⟨o,e,d⟩:=T.obj _ _ st7 b hb
    exact (I9.pin (b,o) (List.mem_append_right _ (List.mem_append_right _ (gH hb e)))).2.1
 exact codeAny_compStart_list (loop _ rfl) (T.self X.A 0 _ _ _ (T.keep _ _ _ st2 λb hb o e=>kp b o e) (loop _ rfl))
noncomputable def ZdY (M:Model) (A:Around) (E:Value->Shared->Prop) (env:Env) (scope:Scope) (Q:Value->Shared->Prop) (acc:Value) (cenv:Env) (r:Result) (s':Shared):Prop :=
 match r with
 | .ok _=>∃ m,s'.heap.Ns cenv.locals m/\∀ h',Heap.SameBut cenv.locals s'.heap h'->Q acc { s' with heap:=h' }
 | .error x=>∃ m,s'.heap.Ns cenv.locals m/\∀ h',Heap.SameBut cenv.locals s'.heap h'->wpAny M A (PySem.passOn "comprehension.variables-let-go" x { cenv with scope:=relabel scope env }:Sem Value) (λ_ _=>False) E { s' with heap:=h' }
theorem ZoK {M:Model} {A:Around} {E:Value->Shared->Prop} {env:Env} {e:Expr} {scope:Scope} {pos:Pos} {newAcc first:Sem Value} {g:Comprehension} {gs:List Comprehension} {cl:List (Str×Addr)} {Q:Value->Shared->Prop}
  (hcl:clausesOf e=g::gs) (hs:∀ x,foldedSetIterable g.iter env x=pure x) (hclos:closureFor scope env=pure cl)
  (hkind:scope.kind=.function) (hnames:∀ x∈scope.names,x.2=.local->scope.names.lookup x.1=some .local)
  (h:wpAny M A first (λx s₁=>wpAny M A (pyIter x) (λit s₂=>wpAny M A newAcc (λacc s₃ =>
   wpAny M A (newFunctionEnv scope env.globals cl [] env.qual none .none (some env)) (λcenv s₄ =>
    codeAny M A (.compStart e 0 it acc { cenv with scope:=relabel scope env }) (ZdY M A E env scope Q acc cenv) s₄) E s₃) E s₂) E s₁) E s) :
  wpAny M A (comprehension e scope env pos newAcc false first none) Q E s:=by
 unfold comprehension
 rw [hclos,hcl]
 refine wpAny_bind (wpAny_mono h (λx s₁ h₁=>wpAny_bind (wpAny_standAt (wpAny_bind (wpAny_of_eq (hs x) (wpAny_bind (wpAny_holding (wpAny_mono h₁ (λit s₂ h₂ =>
  wpAny_standIf (wpAny_bind (wpAny_mono h₂ (λacc s₃ h₃=>wpAny_bind (wpAny_pure (wpAny_bind (wpAny_mono h₃ (λcenv s₄ h₄=>?_) λ_ _ h'=>h')))) λ_ _ h'=>h')))
   λ_ _ h'=>h'))))))) λ_ _ h'=>h')
 dsimp only
 have hv:∀ x∈(scope.names.filter λx=>(x.2 == .local || x.2 == .cell) && x.1 != (".0":Str)).reverse,x.2=.local ->
   Env.kindOf { cenv with scope:=relabel scope env } x.1=some .local:=λx hx hl=>lookup_relabel_local (hnames x (List.mem_filter.mp (List.mem_reverse.mp hx)).1 hl)
 refine wpAny_holding (wpAny_bind (wpAny_attempt (wpAny_holding (wpAny_run (codeAny_mono h₄ λr s' hr=>?_)))))
 cases r with
 | ok f =>
  obtain ⟨m,hn,hr⟩:=hr
  exact wpAny_bind (wpAny_holding (wpAny_comp_letGo (cenv:={ cenv with scope:=relabel scope env }) hkind _ s' m hv hn λh' m' _ hs'=>wpAny_pure (hr h' hs')))
 | error x =>
  obtain ⟨m,hn,hr⟩:=hr
  exact wpAny_bind (wpAny_holding (wpAny_comp_letGo (cenv:={ cenv with scope:=relabel scope env }) hkind _ s' m hv hn λh' m' _ hs'=>wpAny_mono (hr h' hs') (λ_ _ f=>f.elim) λ_ _ y=>y))
theorem kX {E0:XK} {L:Addr} {env0:Env} {outer:List Env} {elt target iter:Expr} {scope:Scope} {pos:Pos} {wi:TI} {g:Blk->TG} {te:Blk->TE} (Nx:List Str) (ts:List Str) (ix:List Nat)
  (hc:X.calm=true) (hX:rg X E0 L) (hstk:X.stack=env0::outer) (hL0:env0.frame=some L) (hL:X.env.frame=some L) (hi:PI X target iter wi) (hg:∀ b,PG (bg X (bN Nx ts ix) scope b) target (g b)) (he:∀ b,PE (lI X (bN Nx ts ix) scope E0 L b) elt (te b))
  (hNx:X.N=Nx) (ok:BlkOk Nx X.env.scope scope ix) (hs:∀ x,foldedSetIterable iter X.env x=pure x:=by intro _; rfl) :
  PE X (.ListComp elt [⟨target,iter,[],0⟩] scope pos) (iP wi ts.length ix g te):=by
 intro pins s σ H Q I h
 obtain ⟨cl,hcl,cl1,cl2⟩:=qJ (scope:=scope) (env:=X.env) λy hy hf=>I.ok.has y.1 (ok.frees y hy hf)
 rw [eval_ListComp]
 refine ZoK rfl hs hcl ok.kind ok.locs (thn (hi pins s σ H _ I h) λv s1 h1=>thn h1 λitv s2 h2=>?_)
 refine Zi7 (R:=λacc cenv=>ZdY (model X.prog X.w) X.A X.xe X.env scope (EP X pins σ Q) acc cenv) hc hg he hstk hL0 hL hNx ok cl1 cl2 h2 ?_ ?_
 ·rintro D C cenv H' s' v rfl I' rfl q ⟨m,hm⟩ hn hL h0 hcl' hp
  exact ⟨m,hm,λh' hsb=>⟨.ref D,H',I'.turned (it:=cenv.locals) (t':=s'.toks) (λb o hb e=>(hsb.2 b hb).trans e) hn hL (.inr h0) hcl' hp,rfl,q⟩⟩
 ·rintro D C ea t cls b' cenv H' s' rfl hfr I' held c1 c2 hE ⟨m,hm⟩ hn hCL h0 hcl' hp hCf
  exact ⟨m,hm,λh' hsb=>Zh4 hX (hfr.trans hL) I' held c1 c2 hE ⟨m,hm⟩ hn hCL h0 hcl' hp hCf hsb⟩
end
noncomputable def KxE (PK:Pk) (pa:Addr) (m:Nat) (G H:Hp) (C:Addr) (E:XK):Prop:=∀ G' H',Stp pa G H G' H'->Wd PK pa m G' H'->E (.ref C) none H'
theorem KxE.later {PK:Pk} {pa:Addr} {m:Nat} {G H G1 H1:Hp} {C:Addr} {E:XK} (k:KxE PK pa m G H C E) (s:Stp pa G H G1 H1) (hp:∃ o,H1 pa=some o):KxE PK pa m G1 H1 C E:=λG' H' s' w'=>k G' H' (s.trans s' hp) w'
noncomputable def KnX (PK:Pk) (pa:Addr) (m:Nat) (G H:Hp) (C:Addr) (E:XK) (Q:VK):Option PyData->Prop
 | some x=>Kn PK pa m G H x Q
 | none=>KxE PK pa m G H C E
noncomputable def ZeP (PK:Pk) (pa:Addr) (m:Nat) (G H:Hp) (C:Addr) (E:XK) (Q:VK):Option (List PyData)->Prop
 | some x=>Ko1 PK pa m G H x Q
 | none=>KxE PK pa m G H C E
noncomputable def KrX (PK:Pk) (pa:Addr) (m:Nat) (G H:Hp) (C:Addr) (E:XK) (Q:VK):Option Re->Prop
 | some x=>Kr PK pa m G H x Q
 | none=>KxE PK pa m G H C E
noncomputable def KoX (PK:Pk) (pa:Addr) (G₀ H₀ Gs:Hp) (D:Ends) (C:Addr) (E:XK) (m:Nat):Option Ou->Prop
 | some o=>Ko PK pa G₀ H₀ Gs D m o
 | none=>KxE PK pa m G₀ H₀ C E
noncomputable def TXe (PK:Pk) (C:Addr) (E:XK) (i:List Sl->Tr (Option PyData)):TE:=λσ H Q=>∃ pa G₀ H₀ m ρ G,Rl PK pa G₀ H₀ m σ ρ G H/\(i ρ).ok m λm' o=>KnX PK pa m' G H C E Q o
noncomputable def vx (PK:Pk) (C:Addr) (E:XK) (i:List Sl->Tr (Option (List PyData))):TE:=λσ H Q=>∃ pa G₀ H₀ m ρ G,Rl PK pa G₀ H₀ m σ ρ G H/\(i ρ).ok m λm' o=>ZeP PK pa m' G H C E Q o
noncomputable def dD (PK:Pk) (C:Addr) (E:XK) (i:List Sl->Tr (Option Ou)):TS:=λD σ H=>∃ pa G₀ H₀ m ρ G,Rl PK pa G₀ H₀ m σ ρ G H/\(i ρ).ok m λm' o=>KoX PK pa G₀ H₀ G D C E m' o
noncomputable def qU (PK:Pk) (n:Nat) (C:Addr) (f:List Sl->Tr (Option Re)):Sp:=λvs H Q E=>vs.length=n/\∃ pa m G as,Wd PK pa m G H/\ArsOk pa G vs as/\(f as).ok m λm' o=>KrX PK pa m' G H C E Q o
structure XCal (PK:Pk) (P:Program) (w:World) (K:PySem.W.Frag) (mg:Str->Option Value) (base:Heap) (x:Str) (k:Nat) (ps:List Str) (C:Addr) (f:List Sl->Tr (Option Re)):Prop where
 cal:CalleeX P w K mg base x k ps (qU PK ps.length C f)
 len:∀ as m Z,(f as).ok m Z->as.length=ps.length
noncomputable def cO {α β:Type} (t:Tr (Option α)) (k:α->Tr (Option β)):Tr (Option β):=t.bind λo=>match o with
 | none=>.ret none
 | some x=>k x
section
variable {PK:Pk} {X:Cx} {C:Addr} {E:XK} {e:Expr} {es:List Expr} {pos:Pos} {i:List Sl->Tr PyData} {j:List Sl->Tr (Option PyData)} {as:List Sl->Tr (List Sl)} {st:Stmt} {sts:List Stmt} {s:List Sl->Tr Ou} {u v:List Sl->Tr (Option Ou)}
theorem TXe.then {σ:St} {H:Hp} {β:Type} {k:PyData->Tr (Option β)} {Z:Nat->Option β->Prop} {Q:VK} {pa:Addr} {G₀ H₀ G:Hp} {m:Nat} {ρ:List Sl} (R:Rl PK pa G₀ H₀ m σ ρ G H) (h:(cO (j ρ) k).ok m Z) (hz:∀ m',Z m' none->KxE PK pa m' G H C E)
  (hq:∀ m1 x v G1 H1,Stp pa G H G1 H1->Wd PK pa m1 G1 H1->Rl PK pa G₀ H₀ m1 σ ρ G1 H1->Dn G1 v x->(k x).ok m1 Z->Q v H1):TXe PK C E j σ H Q:=by
 refine ⟨pa,G₀,H₀,m,ρ,G,R,Tr.ok_mono (Tr.ok_bind.mp h) λm1 o ho=>?_⟩
 cases o with
 | none=>exact hz m1 ho
 | some x=>exact λv G1 H1 s1 w1 d1=>hq m1 x v G1 H1 s1 w1 (R.step s1 w1) d1 ho
noncomputable def fc (f:List Sl->Tr (Option Re)) (as:List Sl->Tr (List Sl)):List Sl->Tr (Option PyData):=λρ=>(as ρ).bind λa=>(f a).bind λo=>.ret (o.map Re.val)
theorem fR {x:Str} {k:Nat} {ps:List Str} {f:List Sl->Tr (Option Re)} {pp:Pos} (F:XCal PK X.prog X.w X.K X.mg X.base x k ps C f) (hr:Room k X.A) (hg:Gl X x) (hx:lW (cg X.prog X.w) X E) (ha:PA X (e::es) (TAa PK as))
  (hdb:(x == ("__debug__":Str))=false:=by decide)
  (he:starEach (e::es) X.env=(false,eval e X.env)::starEach es X.env:=by rfl) (hpl:(backTo pos (starEach es X.env)).any (·.1)=false:=by rfl):PE X (.Call (.Name x pp) (e::es) [] pos) (TXe PK C E (fc f as)):=by
 obtain ⟨fa,fd,Fk,hm,hk,hb⟩:=F.cal.ex
 refine (Zb5 Fk hr hg hm hk hb .nil hx ha hdb he hpl).imp λσ H Q hz0=>?_
 obtain ⟨pa,G₀,H₀,m,ρ,G,R,z⟩:=hz0
 refine TAa.then R z λm1 xs vs G1 H1 s1 w1 R1 d1 q1=>?_
 show qU PK ps.length C f (vs++[]) H1 Q E
 rw [List.append_nil]
 have q1':=Tr.ok_bind.mp q1
 refine ⟨by rw [d1.length]; exact F.len _ _ _ q1',pa,m1,G1,xs,w1,d1,Tr.ok_mono q1' λm2 o k=>?_⟩
 cases o with
 | none=>exact KxE.later k s1 w1.some
 | some r=>exact Kr.of (Kn.later k s1 w1.some) w1.some
noncomputable def eL (s:List Sl->Tr Ou):List Sl->Tr (Option Ou):=λρ=>(s ρ).bind λx=>.ret (some x)
theorem ZeZ (h:PS X st (bC PK s)):PS X st (dD PK C E (eL s)):=h.imp λD σ H ⟨pa,G₀,H₀,m,ρ,G,R,z⟩=>⟨pa,G₀,H₀,m,ρ,G,R,Tr.ok_mono (Tr.ok_bind.mp z) λ_ _ k=>k⟩
theorem gy (h:PSs X sts (bC PK s)):PSs X sts (dD PK C E (eL s)):=h.imp λD σ H ⟨pa,G₀,H₀,m,ρ,G,R,z⟩=>⟨pa,G₀,H₀,m,ρ,G,R,Tr.ok_mono (Tr.ok_bind.mp z) λ_ _ k=>k⟩
noncomputable def l9 (k:Nat) (j:List Sl->Tr (Option PyData)):List Sl->Tr (Option Ou):=λρ=>cO (j ρ) λx=>.ret (some (.next (ρ.set k (.d x))))
theorem rE {k:Nat} (h:PS X st (fA (TXe PK C E j) (eU k))):PS X st (dD PK C E (l9 k j)):=h.imp λD σ H hz0=>by
 obtain ⟨pa,G₀,H₀,m,ρ,G,R,z⟩:=hz0
 refine TXe.then R z (λm' h=>KxE.later h R.st R.wd.some) λm1 x v G1 H1 s1 w1 R1 d1 q1=>?_
 exact q1 _ G1 H1 s1.gs (R1.set d1 k)
noncomputable def ma (j:List Sl->Tr (Option PyData)):List Sl->Tr (Option Ou):=λρ=>cO (j ρ) λx=>.ret (some (.ret (.d x)))
theorem rF (he:PE X e (TXe PK C E j)):PS X (.Return (some e) pos) (dD PK C E (ma j)):=(fX he).imp λD σ H hz0=>by
 obtain ⟨pa,G₀,H₀,m,ρ,G,R,z⟩:=hz0
 refine TXe.then R z (λm' h=>KxE.later h R.st R.wd.some) λm1 x v G1 H1 s1 w1 R1 d1 q1=>?_
 exact q1 v G1 H1 R1.st w1 d1
noncomputable def kD (j:List Sl->Tr (Option PyData)):List Sl->Tr (Option Ou):=λρ=>cO (j ρ) λ_=>.ret (some (.next ρ))
theorem nS (he:PE X e (TXe PK C E j)) (hs:swapsWith e none pos.line X.env=pure false:=by rfl):PS X (.Expr e pos) (dD PK C E (kD j)):=(fY he hs).imp λD σ H hz0=>by
 obtain ⟨pa,G₀,H₀,m,ρ,G,R,z⟩:=hz0
 refine TXe.then R z (λm' h=>KxE.later h R.st R.wd.some) λm1 x v G1 H1 s1 w1 R1 d1 q1=>?_
 exact q1 σ G1 H1 s1.gs R1
noncomputable def iO (p:List Sl->Tr Bool) (u v:List Sl->Tr (Option Ou)):List Sl->Tr (Option Ou):=λρ=>(p ρ).bind λb=>if b=true then u ρ else v ρ
theorem KoX.later {pa:Addr} {G₀ H₀ G G1:Hp} {D:Ends} {m:Nat} {o:Option Ou} (k:KoX PK pa G₀ H₀ G D C E m o) (sb:Sub G G1):KoX PK pa G₀ H₀ G1 D C E m o:=by
 cases o with
 | none=>exact k
 | some o=>exact Ko.later k sb
theorem kz {c:Expr} {p:List Sl->Tr Bool} {xs ys:List Stmt} (hc:PT X c (TAt PK p)) (ha:PSs X xs (dD PK C E u)) (hb:PSs X ys (dD PK C E v)):PS X (.If c xs ys pos) (dD PK C E (iO p u v)):=(iT hc ha hb).imp λD σ H hz0=>by
 obtain ⟨pa,G₀,H₀,m,ρ,G,R,z⟩:=hz0
 refine TAt.then R z λm1 x G1 H1 s1 w1 R1 q1=>?_
 cases x with
 | true=>rw [if_pos rfl] at q1 ⊢; exact ⟨pa,G₀,H₀,m1,ρ,G1,R1,Tr.ok_mono q1 λ_ _ k'=>KoX.later k' s1.gs⟩
 | false=>rw [if_neg Bool.false_ne_true] at q1 ⊢; exact ⟨pa,G₀,H₀,m1,ρ,G1,R1,Tr.ok_mono q1 λ_ _ k'=>KoX.later k' s1.gs⟩
noncomputable def iL:List Sl->Tr (Option Ou):=λ_=>.ret none
theorem ky (h:PS X st (λ_ _ H=>E (.ref C) none H)):PS X st (dD PK C E iL):=h.imp λD σ H ⟨pa,G₀,H₀,m,ρ,G,R,z⟩=>(show KxE PK pa m G₀ H₀ C E from z) G H R.st R.wd
noncomputable def dE (u v:List Sl->Tr (Option Ou)):List Sl->Tr (Option Ou):=λρ=>(u ρ).bind λo=>match o with
 | some (.next ρ')=>v ρ'
 | o=>.ret o
theorem Zfh:∀ D σ H,dD PK C E (dE u v) D σ H->rU (dD PK C E u) (dD PK C E v) D σ H:=by
 rintro D σ H ⟨pa,G₀,H₀,m,ρ,G,R,z⟩
 refine ⟨pa,G₀,H₀,m,ρ,G,R,Tr.ok_mono (Tr.ok_bind.mp z) λm1 o k=>?_⟩
 cases o with
 | none=>exact k
 | some o =>
  cases o with
  | next ρ'=>exact λσ' G' H' sb R'=>⟨pa,G₀,H₀,m1,ρ',G',R',Tr.ok_mono k λ_ _ k'=>KoX.later k' sb⟩
  | ret r=>exact k
  | brk ρ'=>exact k
  | cont ρ'=>exact k
theorem eZ (h1:PS X st (dD PK C E u)) (h2:PSs X sts (dD PK C E v)):PSs X (st::sts) (dD PK C E (dE u v)):=(cG h1 h2).imp Zfh
theorem gx (h1:PS X st (dD PK C E u)):PSs X [st] (dD PK C E u):=fF h1
noncomputable def nu:Option Ou->Tr (Option Re)
 | none=>.ret none
 | some o=>(nv o).bind λr=>.ret (some r)
noncomputable def eY (n k:Nat) (u:List Sl->Tr (Option Ou)):List Sl->Tr (Option Re):=λas=>if decide (as.length=n)=true then (u (as++List.replicate k .un)).bind nu else .fail
theorem iH {P:Program} {w:World} {K:PySem.W.Frag} {mg:Str->Option Value} {base:Heap} {x:Str} {N ps:List Str} {kk k:Nat} (D:Def K mg x st ps) (S:FnScope N ps (aD st)) (hk:N.length - ps.length=k)
  (hbody:∀ (f:Addr) (cdv:Value) (A:Around) (outer:List Env) (sh:Shared) (H:Hp) (E:XK),Room kk (A.deeper (envOfC x (aD st) sh.heap.objs.size f cdv)) ->
   PSs (df (cg P w) P w K mg base N x (aD st) f cdv A outer sh H E) (gi st) (dD PK C E u)):XCal PK P w K mg base x (kk+1) ps C (eY ps.length k u):=by
 have len:∀ as m Z,(eY ps.length k u as).ok m Z->as.length=ps.length:=λas m Z h=>by
  unfold eY at h
  exact of_decide_eq_true (gc h).1
 refine ⟨D.okX S (λvs H Q E h=>h.1) λf cdv A outer sh H vs Q E hr hsp=>?_,len⟩
 obtain ⟨hv,pa,m,G,as,wd,ar,z⟩:=hsp
 refine ⟨_,hbody f cdv A outer sh H E hr,?_⟩
 unfold eY at z
 obtain ⟨_,z⟩:=gc z
 refine ⟨pa,G,H,m,_,G,Rl.start wd ar (by rw [hv]; exact hk),Tr.ok_mono (Tr.ok_bind.mp z) λm1 o ko=>?_⟩
 cases o with
 | none=>exact ko
 | some o =>
  cases o with
  | next ρ=>exact λσ G1 H1 sb R1=>(show Kr PK pa m1 G H (.d .none) Q from ko) .non G1 H1 R1.st R1.wd .non
  | ret r=>exact ko
  | brk ρ=>exact (show False from ko).elim
  | cont ρ=>exact (show False from ko).elim
end
noncomputable def i6 (h:PyData->Tr (Option PyData)):List PyData->Tr (Option (List PyData))
 | []=>.ret (some [])
 | x::xs=>cO (h x) λy=>cO (i6 h xs) λys=>.ret (some (y::ys))
noncomputable def g6 (is:List Sl->Tr (List PyData)) (n:Nat) (ix:List Nat) (g:PyData->List Sl->Option (List Sl)) (el:List Sl->Tr (Option PyData)):List Sl->Tr (Option (List PyData)):=λρ =>
 (is ρ).bind λxs=>if small xs.length=true then i6 (λx=>(Tr.of (g x (blk n ix ρ))).bind el) xs else .fail
section
variable {PK:Pk} {X:Cx} {C:Addr} {E:XK} {e:Expr} {es:List Expr} {pos:Pos} {is:List Sl->Tr (List PyData)} {i j:List Sl->Tr (Option PyData)} {os:List Sl->Tr (Option (List PyData))}
theorem Zi8 {n:Nat} {ix:List Nat} {g:PyData->List Sl->Option (List Sl)} (hn:jr n g):∀ σ H Q,vx PK C E (g6 is n ix g i) σ H Q->iP (gu PK is) n ix (λ_=>fQ PK g) (λ_=>TXe PK C E i) σ H Q:=by
 rintro σ H Q ⟨pa,G₀,H₀,m,ρ,G,R,z⟩
 refine ⟨pa,G₀,H₀,m,ρ,G,R,Tr.ok_mono (Tr.ok_bind.mp z) λm1 xs k J G1 H1 s1 w1 jo=>λB=>?_⟩
 obtain ⟨hs,k⟩:=gc k
 have hs:xs.length<=sizeLine:=of_decide_eq_true hs
 let el:PyData->Tr (Option PyData):=λx=>(Tr.of (g x (blk n ix ρ))).bind i
 let W:Nat->Nat->St->List V->Hp->Prop:=λk mm τ ys H2=>mm=xs.length - k/\k<=xs.length/\ys.length=k/\∃ m G2 ds,Sub G1 G2/\Stp pa G H G2 H2/\Rl PK pa G₀ H₀ m τ (blk n ix ρ) G2 H2 /\
  DnAll G2 ys ds/\(i6 el (xs.drop k)).ok m λm' zs=>ZeP PK pa m' G H C E Q (zs.map (ds++·))
 refine ⟨W,⟨xs.length,rfl,Nat.zero_le _,rfl,m1,G1,[],.refl,s1,(R.step s1 w1).blk n ix,.nil,Tr.ok_mono k λm' o ko=>?_⟩,?_⟩
 ·cases o with
  | none=>exact ko
  | some zs=>exact ko
 rintro k mm τ ys H2 ⟨rfl,hk,hy,m2,G2,ds,sb,st2,R2,dn,k2⟩
 obtain ⟨j1,j2⟩:=jo m2 G2 H2 sb R2.wd
 by_cases hlt:k < xs.length
 ·have hx:xs[k]?=some xs[k]:=by simp [hlt]
  obtain ⟨jg,jy⟩:=j1 k _ hx
  refine .inr ⟨jg,by omega,λx H3 y=>?_⟩
  obtain ⟨G3,s3,w3,d3⟩:=jy x H3 y
  rw [List.drop_eq_getElem_cons hlt] at k2
  unfold i6 cO at k2
  rw [Tr.ok_bind,Tr.ok_bind] at k2
  obtain ⟨ρ3,hg3,k3⟩:=Tr.ok_of k2
  refine ⟨pa,G₀,H₀,m2,_,G3,_,ρ3,R2.step s3 w3,d3,hg3,λτ4 R4=>?_⟩
  refine ⟨pa,G₀,H₀,m2,ρ3,G3,R4,Tr.ok_mono k3 λm5 yd k5=>?_⟩
  cases yd with
  | none=>exact KxE.later (show KxE PK pa m5 G H C E from k5) (st2.trans s3 R2.wd.some) w3.some
  | some yd =>
   intro v G5 H5 s5 w5 d5
   have s35:=s3.trans s5 w3.some
   obtain ⟨pl,pk⟩:=hn _ _ _ hg3
   refine ⟨xs.length - (k+1),by omega,rfl,hlt,by rw [List.length_append,hy]; rfl,m5,G5,ds++[yd],sb.trans s35.gs,st2.trans s35 R2.wd.some,?_,(DnAll.mono s35.gs dn).snoc d5,?_⟩
   ·refine (R4.step s5 w5).weak pl λq sl hq=>?_
    by_cases hqn:q < n
    ·left
     unfold blk at hq
     rw [List.getElem?_append_left (by simpa using hqn),List.getElem?_replicate,if_pos hqn] at hq
     cases hq
     rfl
    ·right
     rw [pk q (Nat.le_of_not_lt hqn)]
     exact hq
   ·refine Tr.ok_mono (Tr.ok_bind.mp k5) λm6 zs k6=>?_
    cases zs with
    | none=>exact k6
    | some zs =>
     show Ko1 PK pa m6 G H ((ds++[yd])++zs) Q
     rw [List.append_assoc]
     exact k6
 ·have e:k=xs.length:=by omega
  subst e
  refine .inl ⟨j2,λp v H' hp ev eH=>?_⟩
  subst ev eH
  rw [List.drop_length] at k2
  have k2':Ko1 PK pa m2 G H (ds++[]) Q:=k2
  rw [List.append_nil] at k2'
  exact (Ko1.later k2' st2 R2.wd.some).new R2.wd dn hp
theorem kA {n:Nat} {ix:List Nat} {g:PyData->List Sl->Option (List Sl)} (h:PE X e (iP (gu PK is) n ix (λ_=>fQ PK g) (λ_=>TXe PK C E i))) (hn:jr n g):PE X e (vx PK C E (g6 is n ix g i)):=h.imp (Zi8 hn)
noncomputable def iN (os:List Sl->Tr (Option (List PyData))):List Sl->Tr (Option PyData):=λρ=>cO (os ρ) λxs=>.ret (some (.list xs))
theorem kC (h:PE X e (vx PK C E os)):PE X e (TXe PK C E (iN os)):=h.imp λσ H Q hz0=>by
 obtain ⟨pa,G₀,H₀,m,ρ,G,R,z⟩:=hz0
 refine ⟨pa,G₀,H₀,m,ρ,G,R,Tr.ok_mono (Tr.ok_bind.mp z) λm1 xs k=>?_⟩
 cases xs with
 | none=>exact k
 | some xs=>exact Ko1.of k R.wd.some
noncomputable def iM (f:List PyData->Option PyData) (j:List Sl->Tr (Option PyData)):List Sl->Tr (Option PyData):=λρ=>cO (j ρ) λx=>(Tr.of (f [x])).bind λz=>.ret (some z)
theorem kB {r:List V->Hp->VK->Prop} {f:List PyData->Option PyData} {call:Expr} (hv:dZ r f) (h:PE X call (kJ r (mj (TXe PK C E j) aP))):PE X call (TXe PK C E (iM f j)):=h.imp λσ H Q hz0=>by
 obtain ⟨pa,G₀,H₀,m,ρ,G,R,z⟩:=hz0
 refine TXe.then R z (λm' h=>h) λm1 x v G1 H1 s1 w1 R1 d1 q1=>?_
 have q1':=Tr.ok_bind.mp q1
 obtain ⟨d,hd,k⟩:=Tr.ok_of q1'
 exact hv PK pa m1 G1 H1 [v] [x] d Q w1 (.cons d1 .nil) hd (Kn.later k s1 w1.some)
end
section
variable {prog:Program} {w:World} {A:Around} {R:Result->Shared->Prop} {s:Shared}
end
section
variable {CX:d7} {P:Program} {w:World} {K:PySem.W.Frag} {mg:Str->Option Value} {base:Heap} {N:List Str} {scope:Scope} {cl:List (Str×Addr)} {q:Str} {f:Addr} {cd:Value} {A:Around} {outer:List Env} {s:Shared} {H:Hp} {E:XK} {σ:St}
end
section
variable {X:Cx} {pins:List (Addr×Obj)} {σ:St} {H:Hp} {s:Shared}
end
section
variable {X:Cx}
end
section
variable {P:Program} {w:World} {K:PySem.W.Frag} {mg:Str->Option Value} {base:Heap} {A:Around} {outer:List Env} {s s':Shared} {H H':Hp} {cs:List Addr} {h h':Heap}
end
section
variable {P:Program} {w:World} {K:PySem.W.Frag} {mg:Str->Option Value} {base:Heap}
end
section
variable {X:Cx} {pins:List (Addr×Obj)} {σ:St} {H:Hp} {s:Shared}
theorem ZcA {A:Around} {E:Value->Shared->Prop} {i:Nat} {x:Str} {v:V} {pos:Pos} {Q:Value->Shared->Prop} (I:Inv X pins σ H s) (hN:X.N[i]?=some x) (hv:lU X.env.scope x) (e:σ[i]?=some (some v)) (h:∀ u,RelV v u->Q u s)
  (hd:(x == ("__debug__":Str))=false:=by decide) (hcd:(x == ("__classdict__":Str))=false:=by decide):wpAny (model X.prog X.w) A (eval (.Name x pos) X.env) Q E s:=by
 obtain ⟨m,hn,hl⟩:=I.loc
 obtain ⟨u,r,l⟩:=hl i x v hN e hv
 rcases l with ⟨hk,hm⟩ | ⟨hk,c,hc,hcell⟩
 ·exact wpAny_Name (wpAny_loadName_local I.ok.kind hk hn hm (h u r)) hd
 ·rcases hk with hk | hk
  ·exact wpAny_Name (wpAny_loadName_cell I.ok.kind hk hc hcell (h u r)) hd
  ·exact wpAny_Name (wpAny_loadName_free I.ok.kind hk hc hcell (h u r) hcd) hd
end
section
variable {PK:Pk} {X:Cx} {e:Expr} {es:List Expr} {as:List Sl->Tr (List Sl)} {pos:Pos}
noncomputable def lP (k:Nat) (as:List Sl->Tr (List Sl)):List Sl->Tr (List Sl):=λρ=>match ρ[k]? with
 | some (.fn f)=>(as ρ).bind λxs=>.ret (.fn f::xs)
 | _=>.fail
theorem vm {k:Nat} (ha:PE X e (gE k)) (hr:PA X es (TAa PK as)) (hs:starEach (e::es) X.env=(false,eval e X.env)::starEach es X.env:=by rfl):PA X (e::es) (TAa PK (lP k as)):=(aN ha hr hs).imp λσ H Q hz0=>by
 obtain ⟨pa,G₀,H₀,m,ρ,G,R,z⟩:=hz0
 unfold lP at z
 split at z
 ·rename_i f hk
  obtain ⟨o,h1,h2⟩:=R.sl k _ hk
  cases h2
  refine ⟨_,h1,?_⟩
  refine TAa.then R z λm2 xs vs G2 H2 s2 w2 R2 d2 q2=>?_
  exact q2 _ G2 H2 s2 w2 (.cons .fn d2)
 ·exact z.elim
end
section
variable {X:Cx}
noncomputable def ZfQ (P:Program) (w:World) (K:PySem.W.Frag) (mg:Str->Option Value) (base:Heap) (k j:Nat) (t:TA) (C:Addr) (l i:Nat) (tb:Addr->TS):TS:=λD σ H=>∃ f fd ps sp,σ[j]?=some (some (.ref f))/\FnOk P w K mg base (cg P w) k f fd ps sp/\PySem.W.keepIn K (.ref f)=true/\Binds K fd ps [] /\
 t σ H λvs H1=>sp vs H1 (λv H'=>D.nx (σ.set l (some v)) H') λcls _ H'=>cls=.ref C/\∀ ea,H' ea=none ->
  tb ea { nx:=λσ' H2=>D.nx (σ'.set i none) H2,rt:=λ_ _=>False } (σ.set i (some (.ref ea))) (upd H' ea (.ext (eh ea (.ref C))))
theorem ZhF {k j l:Nat} {x y c n:Str} {C D' L:Addr} {outer:List Env} {i:Nat} {e:Expr} {es:List Expr} {t:TA} {tb:Addr->TS} {p cpos apos yp cp hpos pos:Pos} {b₀:Stmt} {suite:List Stmt}
  (hstk:X.stack=X.env::outer) (hL:X.env.frame=some L) (hN:X.N.Nodup) (hr:Room k X.A) (hj:X.N[j]?=some x) (hv:lU X.env.scope x) (hl:X.N[l]?=some y) (hly:l0 X.env.scope y) (hfy:X.fn y=true\/X.env.scope.names.lookup y=some .local)
  (ha:PA X.nox (e::es) t)
  (U:Under X.K C D') (hgc:Gl X c) (hmc:X.mg c=some (.ref D')) (hi:X.N[i]?=some n) (hn:X.env.kindOf n=some .local) (hln:l0 X.env.scope n) (hfn:X.fn n=true\/X.env.scope.names.lookup n=some .local) (hsu:∀ ea,PSs (X.marked ea) (b₀::suite) (tb ea))
  (hdb:(x == ("__debug__":Str))=false:=by decide) (hcd:(x == ("__classdict__":Str))=false:=by decide) (hdc:(c == ("__debug__":Str))=false:=by decide)
  (he:starEach (e::es) X.env=(false,eval e X.env)::starEach es X.env:=by rfl) (hpl:(backTo cpos (starEach es X.env)).any (·.1)=false:=by rfl) (hs:swapsWith (.Call (.Name x p) (e::es) [] cpos) (some (.Name y yp)) apos.line X.env=pure false:=by rfl) :
  PS X (.Try [.Assign [.Name y yp] (.Call (.Name x p) (e::es) [] cpos) apos] [.ExceptHandler (some (.Name c cp)) (some n) (b₀::suite) hpos] [] [] pos) (ZfQ X.prog X.w X.K X.mg X.base k j t C l i tb):=by
 intro pins s σ H D I h
 obtain ⟨f,fd,ps,sp,hf,F,hk,hb,h⟩:=h
 refine wpAny_Try_except (wpAny_execs_cons (wpAny_Assign_Name (wpAny_Call_Name_kw (ZcA I hj hv hf (λu r=>?_) hdb hcd)) hs))
 obtain rfl:u=.ref f:=r
 refine PySem.W.callWith_K (h₀:=X.base) I.ok.mod.kin hk (wpAny_mono (ha cpos pins s σ H _ (I.wish _) h) (λus s1 ⟨vs,H1,I1',r,q⟩=>⟨I1'.unwish.kIn,?_⟩) λ_ _ z=>z.elim) he hpl
 have I1:Inv X pins σ H1 s1:=I1'.unwish
 have hlen:us.length=ps.length:=by rw [<- r.length]; exact F.len _ _ _ _ q
 have hbb:=hb s1 us I1.kIn (by rw [List.append_nil]; exact hlen)
 rw [List.append_nil] at hbb
 refine wpAny_call (codeAny_mono (F.run X.A X.stack s1 H1 ⟨us,[]⟩ us vs _ _ hr I1.env0 hbb r q) λrr s' hq=>?_)
 cases rr with
 | ok fl =>
  cases fl with
  | ret u =>
   obtain ⟨v,H',I',r',q'⟩:=I1.after hq
   exact kK I' hN hl hly r' (λs2 I2=>wpAny_execs_nil (wpAny_execs_nil ⟨_,H',I2,q'⟩)) hfy
  | next=>exact False.elim hq
  | brk=>exact False.elim hq
  | cont=>exact False.elim hq
 | error ex =>
  have hq':cg X.prog X.w X.stack H1 s1 (λcls _ H'=>cls=.ref C/\∀ ea,H' ea=none ->
   tb ea { nx:=λσ' H2=>D.nx (σ'.set i none) H2,rt:=λ_ _=>False } (σ.set i (some (.ref ea))) (upd H' ea (.ext (eh ea (.ref C))))) ex s':=hq
  refine Zd4 I1 hstk hL hq' λea cls H' h' eq I5 hea hcl fly un hE=>?_
  subst eq
  obtain ⟨hcls,hE⟩:=hE
  subst hcls
  obtain ⟨b'',tt,fl,hf,hbt⟩:=fly
  obtain ⟨nm,q0,N0,bs,bm,hdct,sn,sub,ab,col,dd,k0,k1,k2,k3,k5,newId,lkC,hin⟩:=U.ex
  obtain ⟨nm',q',N',bs',bm',hdct',sn',sub',ab',col',dd',j0,j1,j2,j3,j5,newId',lkD,hbase⟩:=U.top
  have KX:=I5.kIn
  refine ZjL hbase hin (Zi4 I5 hgc hmc ⟨rfl,KX _ _ lkC,KX _ _ lkD,hcl,?_⟩ hdc)
  refine Zjc I1 I5 un hea fl hf hbt (I5.os.trans I1.os.symm) λh6 I6=>?_
  refine kK I6 hN hi hln (show RelV (.ref ea) (.ref ea) from rfl) (λs7 I7=>?_) hfn
  refine wpAny_mono (hsu ea pins s7 _ _ _ (I7.marked ea) (hE ea hea)) (λfl8 s8 h8=>?_) λ_ _ z=>z.elim
  cases fl8 with
  | next =>
   obtain ⟨σ8,H8,I8,q8⟩:=h8
   exact ZiE (I8.unmarked I5.ok) hN hi hn λs9 I9=>⟨_,_,I9,q8⟩
  | ret u=>obtain ⟨_,_,_,_,_,z⟩:=h8; exact z.elim
  | brk=>obtain ⟨_,_,_,z⟩:=h8; exact z.elim
  | cont=>obtain ⟨_,_,_,z⟩:=h8; exact z.elim
end
open PySem.Builtin PySem.Builtin.Str in
theorem Zgd {prog:Program} {w:World} {A:Around} {E:Value->Shared->Prop} {s:Shared} {x y:Str} {t u:Tok} {Q:Value->Shared->Prop} (hy:(y.length == 0)=false)
  (hq:∀ (l:List (Str×Tok)) (tk:Nat),l.map (·.1)=Txt.split x y->Q (.ref s.heap.objs.size) { s with toks:=tk,heap:=s.heap.push { cls:=.type "list",data:=.seq (strValues l).toArray } })
  (hsz:x.length<=sizeLine) (hsz2:(partsBetween x (occurrences x y 0 x.length (x.length+1)) y.length).length<=sizeLine) :
  wpAny (model prog w) A (call (.builtin "str.split") [.str x t,.str y u]) Q E s:=by
 cases h1:(decide (x.length < y.length) || decide (strKind x < strKind y))
 ·cases hf:(occurrences x y 0 x.length (x.length+1)).isEmpty
  ·refine call_meets F.slot_str_split (typeIs_str _ _ _) F.entry_str_split (F.args_str_split_2 _ _) (meets_str_split_sep x y t u h1 hy hf hsz hsz2) ?_
   show wants Q E _ { s with toks:=_,heap:=s.heap.push { cls:=.type "list",data:=.seq (strsFrom s.toks (partsBetween x (occurrences x y 0 x.length (x.length+1)) y.length)).toArray } }
   rw [strsFrom_eq]
   exact hq (numbered s.toks _) _ ((numbered_texts _ _).trans ((if_neg (ne_true_of_eq_false h1)).trans (if_neg (ne_true_of_eq_false hf))).symm)
  ·exact call_meets F.slot_str_split (typeIs_str _ _ _) F.entry_str_split (F.args_str_split_2 _ _) (meets_str_split_not_found x y t u h1 hy hf)
    (hq [(x,t)] s.toks ((if_neg (ne_true_of_eq_false h1)).trans (if_pos hf)).symm)
 ·exact call_meets F.slot_str_split (typeIs_str _ _ _) F.entry_str_split (F.args_str_split_2 _ _) (meets_str_split_cannot_occur x y t u h1)
   (hq [(x,t)] s.toks (if_pos h1).symm)
theorem Zaq:∀ l:List (Str×Tok),Vals ((l.map (·.1)).map V.str) (strValues l)
 | []=>.nil
 | (x,t)::l=>.cons ⟨t,rfl⟩ (Zaq l)
noncomputable def nM (r:V->List V->Hp->VK->Prop) (f:PyData->PyData->Option PyData):Prop:=∀ (PK:Pk) (pa:Addr) (m:Nat) (G H:Hp) (x y:V) (dx dy dz:PyData) (Q:VK),Wd PK pa m G H->Dn G x dx->Dn G y dy->f dx dy=some dz->Kn PK pa m G H dz Q->r x [y] H Q
section
variable {X:Cx} {PK:Pk} {o e:Expr} {i j:List Sl->Tr PyData} {apos cpos:Pos} {name:Str} {id:String} {r:V->List V->Hp->VK->Prop} {f:PyData->PyData->Option PyData}
theorem cy (slot:Slot "str" name id) (hty:typeOf (.builtin id)=pure (.type "method_descriptor")) (hm:kw X id r) (hv:nM r f) (hS:∀ dx dy dz,f dx dy=some dz->∃ x,dx=.str x) (ho:PE X o (TAe PK i)) (he:PE X e (TAe PK j))
  (hbase:attributeBase o name X.env (eval o X.env)=eval o X.env:=by rfl)
  (hfew:((backTo cpos (starEach [e] X.env)).all (λx=>!x.1) && (backToKw cpos (keywordEach [] X.env)).all (λx=>x.1.isSome)
   && decide (([e]:List Expr).length+([]:List Keyword).length+(if ([]:List Keyword).isEmpty then 0 else 1) < 30))=true:=by rfl)
  (hline:(apos.endLine == cpos.line)=true:=by rfl) (hs:starEach [e] X.env=(false,eval e X.env)::starEach [] X.env:=by rfl) (hplain:(backTo cpos (starEach [] X.env)).any (·.1)=false:=by rfl) :
  PE X (.Call (.Attribute o name apos) [e] [] cpos) (TAe PK (ah f i j)) :=
 (gF PySem.F.plainAttrs_str slot hty hm ho (aN he bp hs) hbase hfew hline hs hplain).imp λσ H Q hz0=>by
  obtain ⟨pa,G₀,H₀,m,ρ,G,R,q⟩:=hz0
  have q':((i ρ).bind λx=>(j ρ).bind λy=>Tr.of (f x y)).ok m λm' d=>Kn PK pa m' G H d Q:=q
  refine ⟨pa,G₀,H₀,m,ρ,G,R,Tr.ok_mono (Tr.ok_bind.mp q') λm1 dx q1 v G1 H1 s1 w1 d1=>?_⟩
  have R1:=R.step s1 w1
  have ty:∀ {dy dz},f dx dy=some dz->n9 X.K "str" v H1:=λ{dy dz} e=>by
   obtain ⟨x,rfl⟩:=hS dx dy dz e
   cases d1
   rfl
  have two:(∃ dy,(∃ dz,f dx dy=some dz))\/∀ dy,f dx dy=none:=by
   by_cases h:∃ dy,∃ dz,f dx dy=some dz
   ·exact .inl h
   ·refine .inr λdy=>?_
    cases e:f dx dy with
    | none=>rfl
    | some dz=>exact absurd ⟨dy,dz,e⟩ h
  rcases two with ⟨dy,dz,e⟩ | hn
  ·refine ⟨ty e,?_⟩
   refine TAe.then R1 q1 λm2 y u G2 H2 s2 w2 R2 d2 q2=>?_
   obtain ⟨z,hz,k⟩:=Tr.ok_of q2
   exact hv PK pa m2 G2 H2 v u dx y z Q w2 (d1.mono s2.gs) d2 hz (Kn.later k (s1.trans s2 w1.some) w2.some)
  ·have:((j ρ).bind λy=>(Tr.fail:Tr PyData)).ok m1 λm' d=>Kn PK pa m' G H d Q:=by
    have e:(λy=>Tr.of (f dx y))=λ_=>(Tr.fail:Tr PyData):=funext λy=>by rw [hn y]; rfl
    rw [e] at q1
    exact q1
   exact (uz this).elim
end
open PySem.Builtin.Str in
noncomputable def rZ (x y:Str):Bool:=decide (y.length≠0/\x.length<=1048576/\(partsBetween x (occurrences x y 0 x.length (x.length+1)) y.length).length<=1048576/\(Txt.split x y).length<=1048576)
noncomputable def cv:PyData->PyData->Option PyData
 | .str x,.str y=>if rZ x y=true then some (.list ((Txt.split x y).map PyData.str)) else none
 | _,_=>none
noncomputable def Zbq:V->List V->Hp->VK->Prop:=λx vs H Q=>∃ a b,x=.str a/\vs=[.str b]/\rZ a b=true/\∀ p,H p=none->Q (.ref p) (upd H p (.lst ((Txt.split a b).map V.str)))
theorem dI {n:Nat} (h:n<=1048576):n<=sizeLine:=Nat.le_trans h (by rw [sizeLine_eq]; decide)
section
variable {X:Cx}
theorem c9:kw X "str.split" Zbq:=by
 intro pins s σ H x vs v us Q I rx rv h
 obtain ⟨a,b,rfl,rfl,hok,q⟩:=h
 obtain ⟨t,rfl⟩:=rx
 obtain ⟨u,rfl,ru⟩:=rv.one
 obtain ⟨k,rfl⟩:=ru
 obtain ⟨h1,h2,h3,h4⟩:=of_decide_eq_true hok
 refine Zgd (by simpa using h1) (λl tk e=>?_) (dI h2) (dI h3)
 have hf:H s.heap.objs.size=none:=I.hok.fresh (Nat.le_refl _)
 refine ⟨.ref s.heap.objs.size,_,I.laid (t':=tk) (λb u e=>Heap.get?_push_of_some _ e) (Nat.le_refl _) ?_,rfl,q _ hf⟩
 refine ⟨by rw [List.length_map]; exact dI h4,strValues l,0,?_,Heap.get?_push_size _ rfl⟩
 rw [<- e]
 exact Zaq l
end
theorem Zdx {G:Hp}:∀ l:List Str,DnAll G (l.map V.str) (l.map PyData.str)
 | []=>.nil
 | x::l=>.cons (.str x) (Zdx l)
theorem cY:nM Zbq cv:=λPK pa m G H x y dx dy dz Q w hx hy hz k=>by
 unfold cv at hz
 split at hz
 ·rename_i a b
  split at hz
  ·rename_i hc
   cases hz
   cases hx
   cases hy
   exact ⟨a,b,rfl,rfl,hc,λp hp=>k.lst w (Zdx _) hp⟩
  ·cases hz
 ·cases hz
theorem cZ:∀ dx dy dz,cv dx dy=some dz->∃ x,dx=.str x:=λdx dy dz h=>by
 unfold cv at h
 split at h
 ·exact ⟨_,rfl⟩
 ·cases h
noncomputable def jF:PyData->PyData->Option PyData
 | .str x,.str y=>if decide (x.length<=1048576)=true then some (.str (Txt.removeprefix x y)) else none
 | _,_=>none
noncomputable def jt:PyData->PyData->Option PyData
 | .str x,.int n=>if PadOk n=true then some (.str (Txt.zfill x n)) else none
 | _,_=>none
noncomputable def Zbw:V->List V->Hp->VK->Prop:=λx vs H Q=>∃ a b,x=.str a/\vs=[.str b]/\a.length<=1048576/\Q (.str (Txt.removeprefix a b)) H
noncomputable def Zbp:V->List V->Hp->VK->Prop:=λx vs H Q=>∃ a n,x=.str a/\vs=[.int n]/\PadOk n=true/\Q (.str (Txt.zfill a n)) H
section
variable {X:Cx}
theorem ZiM:kw X "str.removeprefix" Zbw:=by
 intro pins s σ H x vs v us Q I rx rv h
 obtain ⟨a,b,rfl,rfl,hok,q⟩:=h
 obtain ⟨t,rfl⟩:=rx
 obtain ⟨u,rfl,ru⟩:=rv.one
 obtain ⟨k,rfl⟩:=ru
 exact PySem.SC.removeprefix (λt' k=>⟨.str _,H,I.tok _,⟨_,rfl⟩,q⟩) (dI hok)
theorem ZiL:kw X "str.zfill" Zbp:=by
 intro pins s σ H x vs v us Q I rx rv h
 obtain ⟨a,n,rfl,rfl,hok,q⟩:=h
 obtain ⟨t,rfl⟩:=rx
 obtain ⟨u,rfl,ru⟩:=rv.one
 obtain ⟨k,rfl⟩:=ru
 exact PySem.SC.zfill hok λt' k=>⟨.str _,H,I.tok _,⟨_,rfl⟩,q⟩
end
theorem Zfp:nM Zbw jF:=λPK pa m G H x y dx dy dz Q w hx hy hz k=>by
 unfold jF at hz
 split at hz
 ·split at hz
  ·rename_i hc
   cases hz
   cases hx
   cases hy
   exact ⟨_,_,rfl,rfl,of_decide_eq_true hc,k.here w (.str _)⟩
  ·cases hz
 ·cases hz
theorem Zhb:∀ dx dy dz,jF dx dy=some dz->∃ x,dx=.str x:=λdx dy dz h=>by
 unfold jF at h
 split at h
 ·exact ⟨_,rfl⟩
 ·cases h
theorem Zfo:nM Zbp jt:=λPK pa m G H x y dx dy dz Q w hx hy hz k=>by
 unfold jt at hz
 split at hz
 ·split at hz
  ·rename_i hc
   cases hz
   cases hx
   cases hy
   exact ⟨_,_,rfl,rfl,hc,k.here w (.str _)⟩
  ·cases hz
 ·cases hz
theorem ZeT:∀ dx dy dz,jt dx dy=some dz->∃ x,dx=.str x:=λdx dy dz h=>by
 unfold jt at h
 split at h
 ·exact ⟨_,rfl⟩
 ·cases h
theorem rO:nM ZbG bW:=λPK pa m G H x y dx dy dz Q w hx hy hz k=>by
 unfold bW at hz
 split at hz
 ·rename_i sep ds
  obtain ⟨ts,e1,e2⟩:=Option.bind_eq_some_iff.mp hz
  cases hc:j7 sep ts with
  | false=>rw [hc] at e2; cases e2
  | true =>
   rw [hc] at e2
   cases e2
   cases hx
   cases hy with
   | lst h1 h2 =>
    have:=Zdw h2 e1
    subst this
    exact ⟨sep,_,ts,rfl,rfl,w.sub _ _ h1,hc,k.here w (.str _)⟩
 ·cases hz
theorem ug:∀ dx dy dz,bW dx dy=some dz->∃ x,dx=.str x:=λdx dy dz h=>by
 unfold bW at h
 split at h
 ·exact ⟨_,rfl⟩
 ·cases h
noncomputable def Zhx:R2:=λx y H Q=>∃ i j,x=.str i/\y=.str j/\i.length+j.length<=sizeLine/\Q (.str (i++j)) H
noncomputable def aY:PyData->PyData->Option PyData
 | .str x,.str y=>if decide (x.length+y.length<=1048576)=true then some (.str (x++y)) else none
 | x,y=>lO x y
noncomputable def ZbS (K:PySem.W.Frag):R2:=λx y H Q=>Zhx x y H Q\/sL K x y H Q
theorem br {X:Cx}:OpR X (binaryOp .Add) (ZbS X.K):=Zin.or Zio
theorem bq {K:PySem.W.Frag}:b9 (ZbS K) aY:=λPK pa m G H x y dx dy dz Q w hx hy hz k=>by
 unfold aY at hz
 split at hz
 ·split at hz
  ·rename_i hc
   cases hz
   cases hx
   cases hy
   exact .inl ⟨_,_,rfl,rfl,dI (of_decide_eq_true hc),k.here w (.str _)⟩
  ·cases hz
 ·exact .inr (Zfn PK pa m G H x y _ _ dz Q w hx hy hz k)
noncomputable def cU:List PyData->Option PyData
 | [.str x]=>if decide (x.length<=1048576)=true then some (.int x.length) else none
 | xs=>ik xs
noncomputable def ZbF (K:PySem.W.Frag):List V->Hp->VK->Prop:=λxs H Q=>(∃ z,xs=[.str z]/\z.length<=sizeLine/\Q (.int z.length) H)\/(∃ p ys,xs=[.ref p]/\(SqL K H p ys\/SqT K H p ys)/\Q (.int ys.length) H)
theorem eF {X:Cx}:CallR X (.builtin "len") (ZbF X.K):=ZoS.or kd
theorem ek {K:PySem.W.Frag}:dZ (ZbF K) cU:=λPK pa m G H vs ds d Q w hv hd k=>by
 unfold cU at hd
 split at hd
 ·split at hd
  ·rename_i hc
   cases hd
   cases hv with
   | cons h1 h2=>cases h2; cases h1; exact .inl ⟨_,rfl,dI (of_decide_eq_true hc),k.here w (.int _)⟩
  ·cases hd
 ·exact .inr (mf PK pa m G H vs _ d Q w hv hd k)
noncomputable def bQ:PyData->PyData->Option PyData
 | .str z,.int n=>if decide (z.length<=1048576)=true then (bx z.cps.toList n).map λc=>.str ⟨#[c]⟩ else none
 | x,y=>im x y
theorem cP {K:PySem.W.Frag}:b9 (sI K) bQ:=λPK pa m G H x y dx dy dz Q w hx hy hz k=>by
 unfold bQ at hz
 split at hz
 ·split at hz
  ·rename_i hc
   obtain ⟨c,e,rfl⟩:=Option.map_eq_some_iff.mp hz
   cases hx
   cases hy
   exact .inr (.inr ⟨_,_,c,rfl,rfl,dI (of_decide_eq_true hc),e,k.here w (.str _)⟩)
  ·cases hz
 ·exact md PK pa m G H x y _ _ dz Q w hx hy hz k
open PySem.Builtin.Str in
noncomputable def jb (x y:Str):Bool:=!(occurrences x y 0 x.length 1).isEmpty
noncomputable def sJ (neg:Bool):R2:=λy x H Q=>∃ i j,y=.str i/\x=.str j/\Q (.bl (if neg then !jb j i else jb j i)) H
theorem Zii {X:Cx}:OpR X (compareOp .In) (sJ false):=by
 intro pins s σ H x y v u Q I rx ry h
 obtain ⟨i,j,rfl,rfl,q⟩:=h
 obtain ⟨t,rfl⟩:=rx
 obtain ⟨t',rfl⟩:=ry
 exact PySem.P.in_str ⟨.bl _,H,I,rfl,q⟩
theorem Zic {X:Cx}:OpR X (compareOp .NotIn) (sJ true):=by
 intro pins s σ H x y v u Q I rx ry h
 obtain ⟨i,j,rfl,rfl,q⟩:=h
 obtain ⟨t,rfl⟩:=rx
 obtain ⟨t',rfl⟩:=ry
 exact PySem.P.notIn_str ⟨.bl _,H,I,rfl,q⟩
noncomputable def iq (neg:Bool):PyData->PyData->Option PyData
 | .str y,.str x=>some (.bool (if neg then !jb x y else jb x y))
 | x,y=>nl neg x y
noncomputable def sK (neg:Bool):R2:=λx y H Q=>sJ neg x y H Q\/oY neg x y H Q
theorem tJ {X:Cx} {k:Nat} (hr:Room k X.A):OpR X (compareOp .In) (sK false):=Zii.or (Zij hr)
theorem Zid {X:Cx} {k:Nat} (hr:Room k X.A):OpR X (compareOp .NotIn) (sK true):=Zic.or (Zie hr)
theorem n0 {neg:Bool}:b9 (sK neg) (iq neg):=λPK pa m G H x y dx dy dz Q w hx hy hz k=>by
 unfold iq at hz
 split at hz
 ·cases hz
  cases hx
  cases hy
  exact .inl ⟨_,_,rfl,rfl,k.here w (.bl _)⟩
 ·exact .inr (Zfm PK pa m G H x y _ _ dz Q w hx hy hz k)
theorem Zb8 {v:Value} {lo:Option Int} (p:IsPart v lo):∃ l:Option (Int×Tok),v=partValue l/\l.map (·.1)=lo:=by
 cases p with
 | none=>exact ⟨none,rfl,rfl⟩
 | int i t=>exact ⟨some (i,t),rfl,rfl⟩
noncomputable def Zbt:V->Option Int->Option Int->Hp->VK->Prop:=λx lo hi H Q=>∃ z,x=.str z/\z.length<=sizeLine/\Q (.str (Txt.slice z lo hi)) H
theorem Zgq {X:Cx}:SlR X Zbt:=by
 intro pins s σ H x v vl vu lo hi sl Q I rx hs pl pu h
 obtain ⟨z,rfl,hz,q⟩:=h
 obtain ⟨t,rfl⟩:=rx
 obtain ⟨l,rfl,rfl⟩:=Zb8 pl
 obtain ⟨u,rfl,rfl⟩:=Zb8 pu
 refine ⟨"str",_,F.slot_str_getitem.lookup,typeIs_str _ _ _,wpAny_getItem_str_slice (l:=l) (u:=u) (st:=none) ?_ rfl ?_⟩
 ·exact hs
 ·exact post_val_or_str ⟨Nat.le_trans (Txt.slice_le z _ _) hz,λt' k=>⟨.str _,H,I.tok _,⟨_,rfl⟩,q⟩⟩
noncomputable def Zqe (x:PyData) (lo hi:Option Int):Option PyData:=match x with
 | .str z=>if decide (z.length<=1048576)=true then some (.str (Txt.slice z lo hi)) else none
 | _=>none
section
variable {X:Cx} {PK:Pk} {e:Expr} {i:List Sl->Tr PyData} {p q:fr} {lo hi:Option Expr} {p2 pos:Pos}
end
noncomputable def fE (x:Str) (n:Int):Str:=if (n == 1 || x.length == 0)=true then x else ⟨(List.replicate n.toNat x.cps).foldl (·++·) #[]⟩
theorem qr:∀ (l:List (Array Nat)) (a:Array Nat),(l.foldl (·++·) a).size=a.size+(l.map (·.size)).sum
 | [],a=>by simp
 | x::l,a=>by
  rw [List.foldl_cons,qr l,Array.size_append,List.map_cons,List.sum_cons]
  omega
noncomputable def ie:PyData->PyData->Option PyData
 | .str x,.int n=>if decide (0 < n/\n<=1048576/\x.length * n.toNat<=1048576)=true then some (.str (fE x n)) else none
 | x,y=>fJ x y
noncomputable def ZbD:R2:=λx y H Q=>∃ z n,x=.str z/\y=.int n/\0 < n/\n<=1048576/\z.length * n.toNat<=1048576/\Q (.str (fE z n)) H
theorem Zig {X:Cx}:OpR X (binaryOp .Mult) ZbD:=by
 intro pins s σ H x y v u Q I rx ry h
 obtain ⟨z,n,rfl,rfl,h0,h1,h2,q⟩:=h
 obtain ⟨t,rfl⟩:=rx
 obtain ⟨t',rfl⟩:=ry
 refine PySem.P.mul_str ?_ ?_ ?_ ?_
 ·rw [decide_eq_false (by omega),decide_eq_false (by omega)]; rfl
 ·intro _ _ hh
  have:(z.length:Int) * n<=1048576:=by
   have e:(n.toNat:Int)=n:=Int.toNat_of_nonneg (by omega)
   have:((z.length * n.toNat:Nat):Int)<=1048576:=by omega
   rw [Int.natCast_mul,e] at this
   exact this
  have h3:(z.length:Int)<=(2 ^ 63 - 1) / n:=Int.le_ediv_of_mul_le h0 (by omega)
  omega
 ·intro _ _
  exact decide_eq_false (λhh=>absurd (dI h2) (Nat.not_le.mpr hh))
 ·rw [if_neg (by omega)]
  unfold fE at q
  by_cases hc:(n == 1 || z.length == 0)=true
  ·rw [if_pos hc] at q ⊢
   exact ⟨.str z,H,I,⟨_,rfl⟩,q⟩
  ·rw [if_neg hc] at q ⊢
   refine ⟨?_,⟨.str _,H,I.tok _,⟨_,rfl⟩,q⟩⟩
   refine dI (Nat.le_trans (Nat.le_of_eq ?_) h2)
   show (Array.size _)=_
   rw [qr]
   simp [Str.length,Nat.mul_comm]
noncomputable def ZbE (K:PySem.W.Frag):R2:=λx y H Q=>ZbD x y H Q\/sH K x y H Q
theorem Zcd {X:Cx}:OpR X (binaryOp .Mult) (ZbE X.K):=Zig.or jL
theorem Zal {K:PySem.W.Frag}:b9 (ZbE K) ie:=λPK pa m G H x y dx dy dz Q w hx hy hz k=>by
 unfold ie at hz
 split at hz
 ·split at hz
  ·rename_i hc
   obtain ⟨h0,h1,h2⟩:=of_decide_eq_true hc
   cases hz
   cases hx
   cases hy
   exact .inl ⟨_,_,rfl,rfl,h0,h1,h2,k.here w (.str _)⟩
  ·cases hz
 ·exact .inr (jw PK pa m G H x y _ _ dz Q w hx hy hz k)
noncomputable def ip:List PyData->Option PyData
 | [.str x]=>if decide (x.length<=640)=true then (intText? x).map .int else none
 | xs=>ja xs
noncomputable def ZbK:List V->Hp->VK->Prop:=λxs H Q=>∃ x n,xs=[.str x]/\x.length<=640/\intText? x=some n/\Q (.int n) H
theorem ZoW {X:Cx}:CallR X (.type "int") ZbK:=by
 intro pins s σ H xs us Q I r h
 obtain ⟨x,n,rfl,hl,hn,q⟩:=h
 obtain ⟨u,rfl,t,rfl⟩:=eM r
 exact PySem.W.KIN.call_text hn hl ⟨.int n,H,I.tok _,⟨_,rfl⟩,q⟩
noncomputable def ZbL:List V->Hp->VK->Prop:=λxs H Q=>ZbK xs H Q\/((∃ i,xs=[.int i]/\Q (.int i) H)\/∃ k,xs=[.bl k]/\Q (.int (if k then 1 else 0)) H)
theorem uV {X:Cx}:CallR X (.type "int") ZbL:=ZoW.or Zd8
theorem rQ:dZ ZbL ip:=λPK pa m G H vs ds d Q w hv hd k=>by
 unfold ip at hd
 split at hd
 ·split at hd
  ·rename_i hc
   obtain ⟨n,e,rfl⟩:=Option.map_eq_some_iff.mp hd
   cases hv with
   | cons h1 h2=>cases h2; cases h1; exact .inl ⟨_,_,rfl,of_decide_eq_true hc,e,k.here w (.int _)⟩
  ·cases hd
 ·exact .inr (Zap PK pa m G H vs _ d Q w hv hd k)
noncomputable def vA (x:Str):It :=
 ⟨λi H=>i < x.cps.size,λi H v H'=>H'=H/\∃ c,x.cps[i]?=some c/\v=.str ⟨#[c]⟩,λi H=>i=x.cps.size⟩
theorem Zfy {P:Program} {w:World} {K:PySem.W.Frag} {tg:Expr} {x:Str} {t:Tok} (ty:String) (it:Addr) (hty:ty="str_ascii_iterator"\/ty="str_iterator") :
  Turn P w K tg (vA x) [it] it (λi h=>h.IsStrIter it ty x t i) where
 mem:=by simp
 obj:=λi h st b hb=>by
  obtain ⟨o,ho,hc,hd⟩:=st
  have e:b=it:=by simpa using hb
  subst e
  exact ⟨o,ho,λv z=>by rw [hd] at z; cases z⟩
 keep:=λi h h' st k=>by
  obtain ⟨o,ho,hc,hd⟩:=st
  exact ⟨o,k it (by simp) _ ho,hc,hd⟩
 item:=by
  intro X hP hw hK hc i pins s σ H E I hf st hg
  subst hP hw hK
  obtain ⟨f0,f1,f2,f3,f4,f5⟩:=hf it (by simp)
  have hg:i < x.cps.size:=hg
  have W:Walks X.prog X.w X.A it [it] [it] x.cps.size (SignAt x) (λi h=>h.IsStrIter it ty x t i):=by
   rcases hty with rfl | rfl
   ·exact Walks.strAscii (I.ok.hd hc) it x t
   ·exact Walks.strWide (I.ok.hd hc) it x t
  refine W.item i s _ _ hg st λv h' tk hv st' kk=>?_
  obtain ⟨c,u,hx,rfl⟩:=hv
  have I1:Inv X pins σ H { s with heap:=h',toks:=tk }:=I.turned (λb o hb e=>kk b o (by simpa using hb) e) f0 f1 f3 f4 f5
  obtain ⟨o,ho,hcl,hd⟩:=id st'
  exact ⟨_,rfl,qm (s:={ s with heap:=h',toks:=tk }) (n:=ty) ho hcl hd (by rcases hty with rfl | rfl <;> decide) ⟨.str ⟨#[c]⟩,H,I1,⟨u,rfl⟩,⟨rfl,c,hx,rfl⟩,st',λb hb=>(hf b hb).1⟩⟩
 done:=by
  intro X hP hw hK hc i pins s σ H E I hf st hg
  subst hP hw hK
  obtain ⟨f0,f1,f2,f3,f4,f5⟩:=hf it (by simp)
  have hg:i=x.cps.size:=hg
  subst hg
  have W:Walks X.prog X.w X.A it [it] [it] x.cps.size (SignAt x) (λi h=>h.IsStrIter it ty x t i):=by
   rcases hty with rfl | rfl
   ·exact Walks.strAscii (I.ok.hd hc) it x t
   ·exact Walks.strWide (I.ok.hd hc) it x t
  exact W.done s _ _ st λh' tk kk=>⟨rfl,I.turned (t':=tk) (λb o hb e=>kk b o (by simpa using hb) e) f0 f1 f3 f4 f5⟩
 self:=λ_ _ _ _ _ st h=>by
  rcases hty with rfl | rfl
  ·exact wpAny_pyIter_striter_ascii st h
  ·exact wpAny_pyIter_striter_wide st h
section
variable {X:Cx} {tg:Expr} {PK:Pk} {i:List Sl->Tr PyData}
noncomputable def db (x:Str):List PyData:=x.cps.toList.map λc=>.str ⟨#[c]⟩
theorem Zjp {pa:Addr} {G:Hp} {z:Str}:nO PK pa (vA z) G (db z):=λm G2 H2 sb w=>by
 refine ⟨λn x hx=>?_,by show _=_; unfold db; rw [List.length_map,Array.length_toList]⟩
 unfold db at hx
 rw [List.getElem?_map] at hx
 obtain ⟨c,hc,rfl⟩:=Option.map_eq_some_iff.mp hx
 rw [Array.getElem?_toList] at hc
 refine ⟨(Array.getElem?_eq_some_iff.mp hc).1,λy H3 hz0=>?_⟩
 obtain ⟨e,c',hc',rfl⟩:=hz0
 subst e
 rw [hc] at hc'
 cases hc'
 exact ⟨G2,.refl,w,.str _⟩
end
noncomputable def r8 (x:PyData) (lo hi:Option Int):Option PyData:=match x with
 | .str z=>if decide (z.length<=1048576)=true then some (.str (Txt.slice z lo hi)) else none
 | x=>ZaT x lo hi
noncomputable def dN (i:List Sl->Tr PyData) (p q:fr):List Sl->Tr PyData:=λρ=>(i ρ).bind λx=>(p ρ).bind λlo=>(q ρ).bind λhi=>Tr.of (r8 x lo hi)
section
variable {X:Cx} {PK:Pk} {e:Expr} {i:List Sl->Tr PyData} {p q:fr} {lo hi:Option Expr} {p2 pos:Pos} {tg:Expr}
theorem Zgr:SlR X (λx lo hi H Q=>Zbt x lo hi H Q\/Zbv X.K x lo hi H Q):=Zgq.or Zgs
theorem eK (he:PE X e (TAe PK i)) (hl:PO X lo (TAp PK p)) (hu:PO X hi (TAp PK q)):PE X (.Subscript e (.Slice lo hi none p2) pos) (TAe PK (dN i p q)):=(Zb2 Zgr he hl hu).imp λσ H Q hz0=>by
 obtain ⟨pa,G₀,H₀,m,ρ,G,R,z⟩:=hz0
 refine TAe.then R z λm1 x v G1 H1 s1 w1 R1 d1 q1=>?_
 refine TAp.then R1 q1 λm2 lo G2 H2 s2 w2 R2 q2=>?_
 refine TAp.then R2 q2 λm3 hi G3 H3 s3 w3 R3 q3=>?_
 obtain ⟨d,hd,k⟩:=Tr.ok_of q3
 have s13:=(s1.trans s2 w1.some).trans s3 w2.some
 have k':=Kn.later k s13 w3.some
 have d3:=d1.mono (s2.gs.trans s3.gs)
 cases d3 with
 | str z =>
  have hd':(if decide (z.length<=1048576)=true then some (PyData.str (Txt.slice z lo hi)) else none)=some d:=hd
  split at hd'
  ·rename_i hc
   cases hd'
   exact .inl ⟨_,rfl,dI (of_decide_eq_true hc),k'.here w3 (.str _)⟩
  ·cases hd'
 | lst a1 a2=>cases hd; exact .inr (.inl ⟨_,_,rfl,SqL.of (w3.sub _ _ a1),λp hp=>k'.lst w3 (a2.cut lo hi) hp⟩)
 | @tup a xs ds a1 a2 =>
  cases hd
  by_cases hw:HT.aQ xs.length 0 lo=0/\HT.aQ xs.length xs.length hi=xs.length
  ·refine .inr (.inr (.inr ⟨_,_,rfl,SqT.of (w3.sub _ _ a1),hw,k'.here w3 ?_⟩))
   have e:gQ ds lo hi=ds:=by
    unfold gQ
    rw [<- a2.length,hw.1,hw.2]
    simp
    rw [a2.length]
    simp
   rw [e]
   exact .tup a1 a2
  ·exact .inr (.inr (.inl ⟨_,_,rfl,SqT.of (w3.sub _ _ a1),hw,λp hp=>k'.tup w3 (a2.cut lo hi) hp⟩))
 | _=>cases hd
theorem ZhM {l:Expr} {tl:TE} (hl:PE X l tl):PI X tg l (λσ H R=>tl σ H λx H1=>(∃ z,x=.str z/\R (vA z) H1)\/∃ a,x=.ref a/\((∃ xs,SqL X.K H1 a xs/\R (nQ X.K a) H1)\/(∃ xs,SqT X.K H1 a xs/\R (rA X.K a) H1))):=by
 intro pins s σ H R I h
 refine thn (hl pins s σ H _ I h) λv s1 hz0=>?_
 obtain ⟨x,H1,I1,r1,q1⟩:=hz0
 rcases q1 with ⟨z,e,q⟩ | ⟨a,e,q⟩
 ·subst e
  obtain ⟨t,rfl⟩:=r1
  have fin:∀ ty,ty="str_ascii_iterator"\/ty="str_iterator"->lX X pins σ tg R (.ref s1.heap.objs.size) { s1 with heap:=s1.heap.push { cls:=.type ty,data:=.fields #[.str z t,.int 0 0] } }:=λty hty=>by
   refine ⟨s1.heap.objs.size,[s1.heap.objs.size],_,_,H1,rfl,I1.kept (t':=s1.toks) λb o e=>Heap.get?_push_of_some _ e,Zfy (t:=t) ty _ hty,⟨_,Heap.get?_push_size _ (by rcases hty with rfl | rfl <;> rfl),rfl,rfl⟩,λb hb=>?_,q⟩
   have e:b=s1.heap.objs.size:=by simpa using hb
   subst e
   exact I1.fpOk (Nat.le_refl _) (I1.hok.fresh (Nat.le_refl _))
  cases ha:z.cps.all (· < 128)
  ·exact wpAny_pyIter_wide ha (fin _ (.inr rfl))
  ·exact wpAny_pyIter_ascii ha (fin _ (.inl rfl))
 ·subst e
  cases r1
  rcases q with ⟨xs,hq,q⟩ | ⟨xs,hq,q⟩
  ·obtain ⟨its,rv,p,hz⟩:=I1.list hq
   refine wpAny_pyIter_list p.isList ?_
   refine ⟨s1.heap.objs.size,[s1.heap.objs.size],_,_,H1,rfl,I1.kept (t':=s1.toks) λb o e=>Heap.get?_push_of_some _ e,rR a _,⟨_,Heap.get?_push_size _ rfl,rfl,rfl⟩,λb hb=>?_,q⟩
   have e:b=s1.heap.objs.size:=by simpa using hb
   subst e
   exact I1.fpOk (Nat.le_refl _) (I1.hok.fresh (Nat.le_refl _))
  ·obtain ⟨its,rv,p,hz⟩:=I1.tuple hq
   refine wpAny_pyIter_tuple (show s1.heap.IsTuple a its.toArray from p) ?_
   refine ⟨s1.heap.objs.size,[s1.heap.objs.size],_,_,H1,rfl,I1.kept (t':=s1.toks) λb o e=>Heap.get?_push_of_some _ e,Zav a _,⟨_,Heap.get?_push_size _ rfl,rfl,rfl⟩,λb hb=>?_,q⟩
   have e:b=s1.heap.objs.size:=by simpa using hb
   subst e
   exact I1.fpOk (Nat.le_refl _) (I1.hok.fresh (Nat.le_refl _))
noncomputable def itA:PyData->Option (List PyData)
 | .str x=>some (db x)
 | x=>gM x
noncomputable def bL (i:List Sl->Tr PyData):List Sl->Tr (List PyData):=λρ=>(i ρ).bind λx=>Tr.of (itA x)
theorem b6 {l:Expr} (hl:PE X l (TAe PK i)):PI X tg l (gu PK (bL i)):=(ZhM hl).imp λσ H R0 hz0=>by
 obtain ⟨pa,G₀,H₀,m,ρ,G,R,z⟩:=hz0
 refine TAe.then R z λm1 x v G1 H1 s1 w1 R1 d1 q1=>?_
 obtain ⟨xs,hx,q1⟩:=Tr.ok_of q1
 cases d1 with
 | str z=>cases hx; exact .inl ⟨_,rfl,q1 _ G1 H1 s1 w1 Zjp⟩
 | lst h1 h2=>cases hx; exact .inr ⟨_,rfl,.inl ⟨_,SqL.of (w1.sub _ _ h1),q1 _ G1 H1 s1 w1 (ZcE h1 h2)⟩⟩
 | tup h1 h2=>cases hx; exact .inr ⟨_,rfl,.inr ⟨_,SqT.of (w1.sub _ _ h1),q1 _ G1 H1 s1 w1 (ZcD h1 h2)⟩⟩
 | _=>cases hx
end
section
variable {PK:Pk} {pa:Addr} {G₀ H₀ G H:Hp} {m:Nat} {σ:St} {ρ:List Sl}
theorem Rl.setG (r:Rl PK pa G₀ H₀ m σ ρ G H) {v:V} {s:Sl} (h:SlOk pa H₀ G H (some v) s) (hno:∀ xs,s≠.own xs) (hnd:∀ xs,s≠.dic xs) (k:Nat):Rl PK pa G₀ H₀ m (σ.set k (some v)) (ρ.set k s) G H:=by
 refine ⟨r.wd,r.st,r.p0,λi t ht=>?_,by rw [List.length_set,List.length_set]; exact r.len,qB r.dj hno,qB r.dj2 hnd⟩
 by_cases e:k=i
 ·subst e
  have hl:k < ρ.length:=by
   have:=(List.getElem?_eq_some_iff.mp ht).1
   rwa [List.length_set] at this
  rw [List.getElem?_set_self hl] at ht
  cases ht
  exact ⟨_,List.getElem?_set_self (by rw [<- r.len]; exact hl),h⟩
 ·rw [List.getElem?_set_ne e] at ht ⊢
  exact r.sl i t ht
end
noncomputable abbrev ft:=Addr×Addr×PyData
noncomputable def RowV (G:Hp) (v:V) (r:ft):Prop:=∃ p u,v=.ref p/\G p=some (.tup [.ref r.1,.ref r.2.1,u])/\Dn G u r.2.2
inductive RowsV (G:Hp):List V->List ft->Prop
 | nil:RowsV G [] []
 | cons {v:V} {r:ft} {vs:List V} {rs:List ft}:RowV G v r->RowsV G vs rs->RowsV G (v::vs) (r::rs)
theorem RowV.mono {G G':Hp} (s:Sub G G') {v:V} {r:ft} (h:RowV G v r):RowV G' v r:=by
 obtain ⟨p,u,e,h1,h2⟩:=h
 exact ⟨p,u,e,s _ _ h1,h2.mono s⟩
theorem RowsV.mono {G G':Hp} (s:Sub G G') {vs:List V} {rs:List ft} (h:RowsV G vs rs):RowsV G' vs rs:=by
 induction h with
 | nil=>exact .nil
 | cons h _ ih=>exact .cons (h.mono s) ih
theorem RowsV.len {G:Hp} {vs:List V} {rs:List ft} (h:RowsV G vs rs):vs.length=rs.length:=by
 induction h with
 | nil=>rfl
 | cons _ _ ih=>rw [List.length_cons,List.length_cons,ih]
theorem RowsV.append {G:Hp} {vs vs':List V} {rs rs':List ft} (h:RowsV G vs rs) (h':RowsV G vs' rs'):RowsV G (vs++vs') (rs++rs'):=by
 induction h with
 | nil=>exact h'
 | cons h _ ih=>exact .cons h ih
theorem RowsV.at {G:Hp} {vs:List V} {rs:List ft} (h:RowsV G vs rs):∀ {n:Nat} {r:ft},rs[n]?=some r->∃ v,vs[n]?=some v/\RowV G v r:=by
 induction h with
 | nil=>intro n r h; cases n <;> cases h
 | cons h _ ih =>
  intro n r hn
  cases n with
  | zero=>cases hn; exact ⟨_,rfl,h⟩
  | succ n=>exact ih hn
noncomputable abbrev km:=Addr×Addr×(List Sl->Tr PyData)
noncomputable def dw:List km->List Sl->Tr (List ft)
 | [],_=>.ret []
 | r::rs,ρ=>(r.2.2 ρ).bind λd=>(dw rs ρ).bind λds=>.ret ((r.1,r.2.1,d)::ds)
noncomputable def lV (PK:Pk) (rs:List km):TA:=λσ H Q=>∃ pa G₀ H₀ m ρ G,Rl PK pa G₀ H₀ m σ ρ G H/\(dw rs ρ).ok m λm' xs=>∀ vs G' H',Stp pa G H G' H'->Wd PK pa m' G' H'->RowsV G' vs xs->Q vs H'
section
variable {PK:Pk} {X:Cx} {e:Expr} {es:List Expr} {i:List Sl->Tr PyData} {rs:List km} {as:List Sl->Tr (List Sl)} {s t:List Sl->Tr Ou}
theorem u0:PA X [] (lV PK []):=bp.imp λσ H Q hz0=>by
 obtain ⟨pa,G₀,H₀,m,ρ,G,R,z⟩:=hz0
 exact z [] G H .refl R.wd .nil
theorem nG {x y:Str} {f g:Addr} {p q pos:Pos} {k:Nat} (hx:Gl X x) (hf:X.mg x=some (.ref f)) (hy:Gl X y) (hg:X.mg y=some (.ref g)) (he:PE X e (TAe PK i)) (hr:PA X es (lV PK rs))
  (hdx:(x == ("__debug__":Str))=false:=by decide) (hdy:(y == ("__debug__":Str))=false:=by decide)
  (h3:starEach [.Name x p,.Name y q,e] X.env=(false,eval (.Name x p) X.env)::starEach [.Name y q,e] X.env:=by rfl) (h2:starEach [.Name y q,e] X.env=(false,eval (.Name y q) X.env)::starEach [e] X.env:=by rfl) (h1:starEach [e] X.env=(false,eval e X.env)::starEach [] X.env:=by rfl)
  (hs:starEach (.Tuple [.Name x p,.Name y q,e] k pos::es) X.env=(false,eval (.Tuple [.Name x p,.Name y q,e] k pos) X.env)::starEach es X.env:=by rfl) :
  PA X (.Tuple [.Name x p,.Name y q,e] k pos::es) (lV PK ((f,g,i)::rs)) :=
 (aN (pI (aN (fG (v:=.ref f) hx hf rfl hdx) (aN (fG (v:=.ref g) hy hg rfl hdy) (aN he bp h1) h2) h3)) hr hs).imp λσ H Q hz0=>by
  obtain ⟨pa,G₀,H₀,m,ρ,G,R,z⟩:=hz0
  have z':((i ρ).bind λd=>(dw rs ρ).bind λds=>.ret ((f,g,d)::ds)).ok m _:=z
  refine TAe.then R z' λm1 d v G1 H1 s1 w1 R1 d1 q1=>?_
  refine ⟨by show 3<=sizeLine; decide,λp hp=>?_⟩
  obtain ⟨w2,s2⟩:=w1.new (o:=.tup [.ref f,.ref g,v]) hp
  refine ⟨pa,G₀,H₀,m1,ρ,_,R1.step s2 w2,Tr.ok_mono (Tr.ok_bind.mp q1) λm3 ds k vs G3 H3 s3 w3 rv=>?_⟩
  refine k (.ref p::vs) G3 H3 ((s1.trans s2 w1.some).trans s3 w2.some) w3 (.cons ⟨p,v,rfl,s3.gs _ _ bM,(d1.mono s2.gs).mono s3.gs⟩ rv)
noncomputable def iw (a b c:Nat) (s:List Sl->Tr Ou):List ft->List Sl->Tr Ou
 | [],ρ=>.ret (.next ρ)
 | r::rs,ρ=>(s (((ρ.set a (.fn r.1)).set b (.fn r.2.1)).set c (.d r.2.2))).bind λo=>match o with
   | .next ρ2=>iw a b c s rs ρ2
   | .cont ρ2=>iw a b c s rs ρ2
   | .brk ρ2=>.ret (.next ρ2)
   | .ret r=>.ret (.ret r)
noncomputable def jm (k a b c:Nat) (rs1 rs2 rs3:List km) (s t:List Sl->Tr Ou):List Sl->Tr Ou:=λρ=>if decide (k < ρ.length)=true then
 (dw rs1 ρ).bind λx1=>(dw rs2 (ρ.set k .un)).bind λx2=>(dw rs3 (ρ.set k .un)).bind λx3=>(iw a b c s (x1++x2++x3) (ρ.set k .un)).bind (seq1' t)
 else .fail
where seq1' (t:List Sl->Tr Ou):Ou->Tr Ou
 | .next ρ=>t ρ
 | o=>.ret o
theorem oX:∀ {rs:List km} {ρ:List Sl} {m:Nat} {Z:Nat->List ft->Prop},(dw rs ρ).ok m Z->(dw rs ρ).ok m λm xs=>xs.length=rs.length/\Z m xs
 | [],ρ,m,Z,h=>⟨rfl,h⟩
 | r::rs,ρ,m,Z,h=>by
  unfold dw at h ⊢
  rw [Tr.ok_bind] at h ⊢
  refine Tr.ok_mono h λm1 d h1=>?_
  rw [Tr.ok_bind] at h1 ⊢
  refine Tr.ok_mono (oX h1) λm2 ds h2=>?_
  exact ⟨by rw [List.length_cons,List.length_cons,h2.1],h2.2⟩
theorem Zpt {k a b c:Nat} {rs1 rs2 rs3:List km} {st2 st3 st4:Stmt} {rest:List Stmt} (h2:PS X st2 (fA (og (lV PK rs1)) (eU k))) (h3:PS X st3 (fA (jz oZ (gE k) (og (lV PK rs2))) (eU k)))
  (h4:PS X st4 (ZaD (ZcS X.K (jz oZ (gE k) (og (lV PK rs3)))) (ZcX X.K 3 (qo (eU a) (qo (eU b) (qo (eU c) ZcY)))) (bC PK s))) (hr:PSs X rest (bC PK t)) (hL:rs1.length+rs2.length+rs3.length<=1000) :
  PSs X (st2::st3::st4::rest) (bC PK (jm k a b c rs1 rs2 rs3 s t)):=(cG h2 (cG h3 (cG h4 hr))).imp λD σ H hz0=>by
 obtain ⟨pa,G₀,H₀,m,ρ,G,R,z⟩:=hz0
 unfold jm at z
 obtain ⟨hk,z⟩:=gc z
 have hk:=of_decide_eq_true hk
 have ss:(ρ.set k Sl.un).set k .un=ρ.set k .un:=List.set_set ..
 have line:∀ {n:Nat},n<=1000->n<=sizeLine:=λh=>Nat.le_trans h (by rw [sizeLine_eq]; decide)
 refine ⟨pa,G₀,H₀,m,ρ,G,R,Tr.ok_mono (oX (Tr.ok_bind.mp z)) λm1 x1 hz1 vs1 G1 H1 s1 w1 rv1=>?_⟩
 obtain ⟨l1,z1⟩:=hz1
 have hv1:=rv1.len
 refine ⟨line (by omega),λp hp=>?_⟩
 obtain ⟨w1',s1'⟩:=w1.new (o:=.lst vs1) hp
 have R1:Rl PK pa G₀ H₀ m1 (σ.set k (some (.ref p))) (ρ.set k .un) _ _:=((R.step s1 w1).step s1' w1').setG .un (λ_ h=>by cases h) (λ_ h=>by cases h) k
 have rv1':=rv1.mono s1'.gs
 have gp:upd G1 p (.lst vs1) p=some (.lst vs1):=bM
 generalize upd G1 p (.lst vs1)=G1' at *
 generalize upd H1 p (.lst vs1)=H1' at *
 have hkl:k < σ.length:=by rw [<- R.len]; exact hk
 -- rows=rows+[..]
 refine ⟨.ref p,List.getElem?_set_self hkl,?_⟩
 refine ⟨pa,G₀,H₀,m1,_,G1',R1,Tr.ok_mono (oX (Tr.ok_bind.mp z1)) λm2 x2 hz2 vs2 G2 H2 s2 w2 rv2=>?_⟩
 obtain ⟨l2,z2⟩:=hz2
 have hv2:=rv2.len
 refine ⟨line (by omega),λq hq=>?_⟩
 obtain ⟨w2',s2'⟩:=w2.new (o:=.lst vs2) hq
 have gq:upd G2 q (.lst vs2) q=some (.lst vs2):=bM
 have gp2:upd G2 q (.lst vs2) p=some (.lst vs1):=s2'.gs _ _ (s2.gs _ _ gp)
 have R2:=(R1.step s2 w2).step s2' w2'
 have rv2':=rv2.mono s2'.gs
 have rv12:=(rv1'.mono (s2.gs.trans s2'.gs)).append rv2'
 generalize upd G2 q (.lst vs2)=G2' at *
 generalize upd H2 q (.lst vs2)=H2' at *
 refine ⟨p,q,vs1,vs2,rfl,rfl,R2.wd.sub _ _ gp2,R2.wd.sub _ _ gq,line (by omega),λr hrr=>?_⟩
 obtain ⟨w3,s3⟩:=R2.wd.new (o:=.lst (vs1++vs2)) hrr
 have R3:Rl PK pa G₀ H₀ m2 ((σ.set k (some (.ref p))).set k (some (.ref r))) (ρ.set k .un) (upd G2' r (.lst (vs1++vs2))) (upd H2' r (.lst (vs1++vs2))):=by
  have:=(R2.step s3 w3).setG (v:=.ref r) .un (λ_ h=>by cases h) (λ_ h=>by cases h) k
  rw [ss] at this
  exact this
 have gr:upd G2' r (.lst (vs1++vs2)) r=some (.lst (vs1++vs2)):=bM
 have rv3:=rv12.mono s3.gs
 generalize upd G2' r (.lst (vs1++vs2))=G3 at *
 generalize upd H2' r (.lst (vs1++vs2))=H3 at *
 -- for a,b,c in rows+[..]
 refine ⟨.ref r,List.getElem?_set_self (by rw [List.length_set]; exact hkl),?_⟩
 refine ⟨pa,G₀,H₀,m2,_,G3,R3,Tr.ok_mono (oX (Tr.ok_bind.mp z2)) λm4 x3 hz3 vs3 G4 H4 s4 w4 rv4=>?_⟩
 obtain ⟨l3,z3⟩:=hz3
 have hv3:=rv4.len
 refine ⟨line (by omega),λo ho=>?_⟩
 obtain ⟨w5,s5⟩:=w4.new (o:=.lst vs3) ho
 have go5:upd G4 o (.lst vs3) o=some (.lst vs3):=bM
 have gr5:upd G4 o (.lst vs3) r=some (.lst (vs1++vs2)):=s5.gs _ _ (s4.gs _ _ gr)
 have R5:=(R3.step s4 w4).step s5 w5
 have rv5:=(rv3.mono (s4.gs.trans s5.gs)).append (rv4.mono s5.gs)
 generalize upd G4 o (.lst vs3)=G5 at *
 generalize upd H4 o (.lst vs3)=H5 at *
 refine ⟨r,o,vs1++vs2,vs3,rfl,rfl,R5.wd.sub _ _ gr5,R5.wd.sub _ _ go5,line (by rw [List.length_append]; omega),λl hl=>?_⟩
 obtain ⟨w6,s6⟩:=R5.wd.new (o:=.lst (vs1++vs2++vs3)) hl
 have R6:=R5.step s6 w6
 have gl:upd G5 l (.lst (vs1++vs2++vs3)) l=some (.lst (vs1++vs2++vs3)):=bM
 have rv6:=rv5.mono s6.gs
 have sG:Sub G (upd G5 l (.lst (vs1++vs2++vs3))):=((((s1.gs.trans s1'.gs).trans (s2.gs.trans s2'.gs)).trans s3.gs).trans (s4.gs.trans s5.gs)).trans s6.gs
 generalize upd G5 l (.lst (vs1++vs2++vs3))=G6 at *
 generalize upd H5 l (.lst (vs1++vs2++vs3))=H6 at *
 generalize hvs:vs1++vs2++vs3=vs at *
 generalize hxs:x1++x2++x3=xs at *
 refine ⟨l,rfl,⟨vs,SqL.of (R6.wd.sub _ _ gl)⟩,?_⟩
 have hlen:=rv6.len
 let W:Nat->Nat->St->Hp->Prop:=λn mm σ H=>mm=xs.length - n/\n<=xs.length/\∃ m ρ G,Sub G6 G/\Rl PK pa G₀ H₀ m σ ρ G H/\(iw a b c s (xs.drop n) ρ).ok m λm' o=>(jm.seq1' t o).ok m' (Ko PK pa G₀ H₀ G6 D)
 refine ⟨W,⟨xs.length,rfl,Nat.zero_le _,m4,_,G6,λ_ _ h=>h,R6,Tr.ok_mono (Tr.ok_bind.mp z3) λm' o k=>Tr.ok_mono k λ_ _ k'=>Ko.later k' sG⟩,?_⟩
 rintro n mm σ2 H2 ⟨rfl,hn,mz,ρ2,G2,sb,R2,k2⟩
 by_cases hlt:n < xs.length
 ·have hx:xs[n]?=some xs[n]:=by simp [hlt]
  obtain ⟨v,hv,hrow⟩:=(rv6.mono sb).at hx
  refine .inr ⟨⟨vs,v,SqL.of (R2.wd.sub _ _ (sb _ _ gl)),hv⟩,W (n+1) (xs.length - (n+1)),λσ' H' h'=>⟨_,by omega,h'⟩,λx H3 y=>?_⟩
  obtain ⟨e1,e2⟩:=y
  subst e1
  have e3:=e2 vs (SqL.of (R2.wd.sub _ _ (sb _ _ gl)))
  rw [hv] at e3
  cases e3
  obtain ⟨tp,u,rfl,gt,du⟩:=hrow
  rw [List.drop_eq_getElem_cons hlt] at k2
  unfold iw at k2
  have k3:=Tr.ok_bind.mp k2
  refine ⟨tp,_,rfl,SqT.of (R2.wd.sub _ _ gt),rfl,_,_,rfl,_,_,rfl,_,_,rfl,rfl,?_⟩
  have R3:=((R2.setG (v:=.ref xs[n].1) (s:=.fn xs[n].1) .fn (λ_ h=>by cases h) (λ_ h=>by cases h) a).setG (v:=.ref xs[n].2.1) (s:=.fn xs[n].2.1) .fn (λ_ h=>by cases h) (λ_ h=>by cases h) b).set du c
  refine ⟨pa,G₀,H₀,mz,_,G2,R3,Tr.ok_mono k3 λm5 o ko=>?_⟩
  have again:∀ ρ5,(iw a b c s (xs.drop (n+1)) ρ5).ok m5 (λm' o=>(jm.seq1' t o).ok m' (Ko PK pa G₀ H₀ G6 D))->∀ σ5 G5 H5,Sub G2 G5->Rl PK pa G₀ H₀ m5 σ5 ρ5 G5 H5->W (n+1) (xs.length - (n+1)) σ5 H5:=λρ5 k5 σ5 G5 H5 sb5 R5 =>
   ⟨rfl,hlt,m5,ρ5,G5,sb.trans sb5,R5,k5⟩
  cases o with
  | next ρ5=>exact again ρ5 ko
  | cont ρ5=>exact again ρ5 ko
  | brk ρ5=>exact λσ5 G5 H5 sb5 R5=>⟨pa,G₀,H₀,m5,ρ5,G5,R5,Tr.ok_mono ko λ_ _ k'=>Ko.later k' (sb.trans sb5)⟩
  | ret r=>exact ko
 ·have e:n=xs.length:=by omega
  subst e
  refine .inl ⟨⟨vs,SqL.of (R2.wd.sub _ _ (sb _ _ gl)),by omega⟩,?_⟩
  rw [List.drop_length] at k2
  exact ⟨pa,G₀,H₀,mz,ρ2,G2,R2,Tr.ok_mono k2 λ_ _ k'=>Ko.later k' sb⟩
noncomputable def jp (j:Nat) (tab:Addr->List Sl->Tr Re) (as:List Sl->Tr (List Sl)):List Sl->Tr Re:=λρ=>match ρ[j]? with
 | some (.fn a)=>(as ρ).bind (tab a)
 | _=>.fail
theorem ZeA {j k:Nat} {x:Str} {p pos:Pos} {tab:Addr->List Sl->Tr Re} (hT:∀ a,(∀ as,tab a as=.fail)\/∃ y ps kk,kk<=k/\X.mg y=some (.ref a)/\ACal PK X.prog X.w X.K X.mg X.base y kk ps (tab a)) (hr:Room k X.A)
  (ha:PA X (e::es) (TAa PK as)) (hj:X.N[j]?=some x:=by rfl) (hv:lU X.env.scope x:=by first | exact Or.inl rfl | exact Or.inr (Or.inl rfl) | exact Or.inr (Or.inr rfl))
  (hdb:(x == ("__debug__":Str))=false:=by decide) (hcd:(x == ("__classdict__":Str))=false:=by decide)
  (he:starEach (e::es) X.env=(false,eval e X.env)::starEach es X.env:=by rfl) (hpl:(backTo pos (starEach es X.env)).any (·.1)=false:=by rfl):PE X (.Call (.Name x p) (e::es) [] pos) (q9 PK (jp j tab as)):=by
 intro pins s σ H Q I h
 obtain ⟨pa,G₀,H₀,m,ρ,G,R,z⟩:=h
 unfold jp at z
 split at z
 ·rename_i a hs
  obtain ⟨o,h1,h2⟩:=R.sl j _ hs
  cases h2
  rcases hT a with hf | ⟨y,ps,kk,hkk,hy,C⟩
  ·have:((as ρ).bind λx=>(Tr.fail:Tr Re)).ok m λm' r=>Kr PK pa m' G H r Q:=by
    have e:tab a=λ_=>.fail:=funext hf
    rw [e] at z
    exact z
   exact (uz this).elim
  ·obtain ⟨f,fd,F,hm,hk,hb⟩:=C.cal.ex
   have e:f=a:=by rw [hy] at hm; cases hm; rfl
   subst e
   have ht:TAa PK as σ H λvs H1=>vn PK ps.length (tab f) (vs++[]) H1 Q E0:=by
    refine TAa.then R z λm1 xs vs G1 H1 s1 w1 R1 d1 q1=>?_
    rw [List.append_nil]
    exact ⟨by rw [d1.length]; exact C.len _ _ _ q1,pa,m1,G1,xs,w1,d1,Tr.ok_mono q1 λm2 r k=>Kr.later k s1 w1.some⟩
   refine wpAny_Call_Name_kw (ZcA I hj hv h1 (λu r=>?_) hdb hcd)
   obtain rfl:u=.ref f:=r
   refine PySem.W.callWith_K (h₀:=X.base) I.ok.mod.kin hk (thn (ha pos pins s σ H _ I ht) λus s1 ⟨vs,H1,I1,r,q⟩=>⟨I1.kIn,?_⟩) he hpl
   exact Zbf F (hr.mono hkk) hb .nil Zb7 I1 r q
 ·exact z.elim
end
theorem jJ {P:Program} {w:World} {K:PySem.W.Frag} {mg:Str->Option Value} {base:Heap} {N:List Str} {qual:Str} {scope:Scope} {f:Addr} {cd:Value} {A:Around} {outer:List Env} {s₀:Shared} {H₀:Hp} {E:XK} :
  lW (cg P w) (df (cg P w) P w K mg base N qual scope f cd A outer s₀ H₀ E) E:=λpins σ H s e s' I h=>Zh5 I h λ_ _ z=>z
theorem ZpC {X:Cx} {PK:Pk} {pos:Pos} {x y:Str} (hg:Gl X x) (h:∃ t,X.mg x=some (.str y t)) (hd:(x == ("__debug__":Str))=false:=by decide):PE X (.Name x pos) (TAe PK (aC (.str y))):=by
 obtain ⟨t,e⟩:=h
 exact lN (fG (v:=.str y) hg e ⟨t,rfl⟩ hd) λ_=>.str y
section
variable {PK:Pk} {X:Cx} {C:Addr} {E:XK} {a b:Expr} {i j:List Sl->Tr (Option PyData)} {k:Nat} {pos:Pos}
noncomputable def rK (i j:List Sl->Tr (Option PyData)):List Sl->Tr (Option PyData):=λρ=>cO (i ρ) λx=>cO (j ρ) λy=>.ret (some (.tuple [x,y]))
theorem Ze3 (ha:PE X a (TXe PK C E i)) (hb:PE X b (TXe PK C E j)) (hs:starEach [a,b] X.env=(false,eval a X.env)::starEach [b] X.env:=by rfl) (lz:starEach [b] X.env=(false,eval b X.env)::starEach [] X.env:=by rfl):PE X (.Tuple [a,b] k pos) (TXe PK C E (rK i j)) :=
 (pI (aN ha (aN hb bp lz) hs)).imp λσ H Q hz0=>by
  obtain ⟨pa,G₀,H₀,m,ρ,G,R,z⟩:=hz0
  refine TXe.then R z (λm' h=>h) λm1 x v G1 H1 s1 w1 R1 d1 q1=>?_
  refine TXe.then R1 q1 (λm' h=>KxE.later h s1 w1.some) λm2 y v2 G2 H2 s2 w2 R2 d2 q2=>?_
  exact ⟨by show 2<=sizeLine; decide,λp hp=>(Kn.later q2 (s1.trans s2 w1.some) w2.some).tup w2 (.cons (d1.mono s2.gs) (.cons d2 .nil)) hp⟩
end
variable {X:Cx} {i j:List Sl->Tr PyData} {ρ:List Sl}
variable {X:Cx} {i j:List Sl->Tr PyData} {ρ:List Sl}
noncomputable def ZbA:R2:=λx y H Q=>∃ p q xs,x=.ref p/\y=.ref q/\H p=some (.lst xs)/\H q=some (.lst [])/\Q (.bl (!xs.isEmpty)) H
theorem Zcb {k:Nat} (hr:Room k X.A):OpR X (compareOp .NotEq) ZbA:=by
 intro pins s σ H x y v u Q I rx ry h
 obtain ⟨p,q,xs,rfl,rfl,h1,h2,z⟩:=h
 cases rx
 cases ry
 obtain ⟨its,r,pl,hz⟩:=I.list (SqL.of h1)
 obtain ⟨its2,r2,pl2,hz2⟩:=I.list (SqL.of h2)
 have hu:X.A.units < cLine:=by have:=hr.un; omega
 cases r2
 cases r with
 | nil =>
  exact SeqAt.RcNeAt.lists (e:=λ_=>true) pl.isList pl2.isList rfl hu (λj h1=>absurd h1 (by simp)) X.prog X.w X.xe _ ⟨.bl _,H,I,rfl,z⟩
 | cons a b =>
  exact SeqAt.RcNeAt.lists_lengths pl.isList pl2.isList (by simp) hu X.prog X.w X.xe _ ⟨.bl _,H,I,rfl,z⟩
noncomputable def k9:PyData->PyData->Option PyData
 | .list xs,.list []=>some (.bool (!xs.isEmpty))
 | _,_=>none
theorem Zak:b9 ZbA k9:=λPK pa m G H x y dx dy dz Q w hx hy hz k=>by
 unfold k9 at hz
 split at hz
 ·cases hz
  cases hx with
  | lst a1 a2 =>
   cases hy with
   | lst b1 b2 =>
    cases b2
    exact ⟨_,_,_,rfl,rfl,w.sub _ _ a1,w.sub _ _ b1,by rw [a2.isEmpty]; exact k.here w (.bl _)⟩
 ·cases hz
theorem eE (xs:List PyData):aJ k9 (.list xs) (.list [])=.ret (.bool (!xs.isEmpty)):=rfl
section
variable {X:Cx} {PK:Pk} {a b:Expr} {ta tb:TE} {i j:List Sl->Tr PyData} {sep:Str} {k:Nat} {p1 p2 p3 pos:Pos}
theorem ZhW (ha:PE X a ta) (hb:PE X b tb) (hsep:sep.length<=1000) :
  PE X (.JoinedStr [.FormattedValue a (-1) none p1,.Constant (.str sep) k p2,.FormattedValue b (-1) none p3] pos) (λσ H Q=>ta σ H λx H1=>∃ i,x=.str i/\i.length<=262144/\tb σ H1 λy H2=>∃ j,y=.str j/\j.length<=262144/\Q (.str (((Str.empty++i)++sep)++j)) H2):=by
 intro pins s σ H Q I h
 refine JoinedStr_many (joinParts_cons (FormattedValue_plain (thn (ha pins s σ H _ I h) λv s1 hz0=>?_)))
 obtain ⟨x,H1,I1,r1,i,rfl,hi,q1⟩:=hz0
 obtain ⟨t,rfl⟩:=r1
 have e0:(Str.empty++i).length=i.length:=by rw [strLen_append]; exact Nat.zero_add _
 refine formatField_str (λt' tk=>⟨dI (by rw [e0]; omega),?_⟩) (dI (by omega))
 refine joinParts_cons (Calls.Constant_str ⟨dI (by rw [strLen_append,e0]; omega),?_⟩)
 refine joinParts_cons (FormattedValue_plain (thn (hb pins _ σ H1 _ (I1.tok _) q1) λv s2 hz0=>?_))
 obtain ⟨y,H2,I2,r2,j,rfl,hj,q2⟩:=hz0
 obtain ⟨t2,rfl⟩:=r2
 have e1:(((Str.empty++i)++sep)++j).length<=1048576:=by rw [strLen_append,strLen_append,e0]; omega
 refine formatField_str (λt' tk=>⟨dI e1,?_⟩) (dI (by omega))
 exact joinParts_nil ⟨.str _,H2,I2.tok _,⟨_,rfl⟩,q2⟩ (dI e1)
noncomputable def iQ:PyData->Option Str
 | .str x=>if decide (x.length<=262144)=true then some x else none
 | _=>none
theorem ZaK {G:Hp} {v:V} {x:PyData} {z:Str} (d:Dn G v x) (h:iQ x=some z):v=.str z/\z.length<=262144:=by
 unfold iQ at h
 split at h
 ·split at h
  ·rename_i hc
   cases h
   cases d
   exact ⟨rfl,of_decide_eq_true hc⟩
  ·cases h
 ·cases h
noncomputable def qW (sep:Str) (i j:List Sl->Tr PyData):List Sl->Tr PyData:=λρ=>(i ρ).bind λx=>(Tr.of (iQ x)).bind λu=>(j ρ).bind λy=>(Tr.of (iQ y)).bind λv=>.ret (.str (((Str.empty++u)++sep)++v))
theorem ZeF (ha:PE X a (TAe PK i)) (hb:PE X b (TAe PK j)) (hsep:sep.length<=1000:=by decide) :
  PE X (.JoinedStr [.FormattedValue a (-1) none p1,.Constant (.str sep) k p2,.FormattedValue b (-1) none p3] pos) (TAe PK (qW sep i j)):=(ZhW ha hb hsep).imp λσ H Q hz0=>by
 obtain ⟨pa,G₀,H₀,m,ρ,G,R,z⟩:=hz0
 refine TAe.then R z λm1 x v G1 H1 s1 w1 R1 d1 q1=>?_
 obtain ⟨u,hu,q1⟩:=Tr.ok_of (Tr.ok_bind.mp q1)
 obtain ⟨rfl,hl⟩:=ZaK d1 hu
 refine ⟨u,rfl,hl,?_⟩
 refine TAe.then R1 q1 λm2 y v2 G2 H2 s2 w2 R2 d2 q2=>?_
 obtain ⟨u2,hu2,q2⟩:=Tr.ok_of (Tr.ok_bind.mp q2)
 obtain ⟨rfl,hl2⟩:=ZaK d2 hu2
 exact ⟨u2,rfl,hl2,(Kn.later q2 (s1.trans s2 w1.some) w2.some).here w2 (.str _)⟩
end
noncomputable def ZbO:List V->Hp->VK->Prop:=λxs H Q=>∃ a b:Int,xs=[.int a,.int b]/\0 < b/\Builtin.divisionGoesByPylong a b=false/\∀ p,H p=none->Q (.ref p) (upd H p (.tup [.int (a.fdiv b),.int (a.fmod b)]))
theorem ZoX {X:Cx}:CallR X (.builtin "divmod") ZbO:=by
 intro pins s σ H xs us Q I r h
 obtain ⟨a,b,rfl,hb,hp,q⟩:=h
 obtain ⟨u1,u2,rfl,r1,r2⟩:=mh r
 obtain ⟨t,rfl⟩:=r1
 obtain ⟨t2,rfl⟩:=r2
 refine divmod_int (by omega) ?_ (.inl hp)
 refine ⟨.ref s.heap.objs.size,_,I.laid (t':=s.toks+1+1) (o:=.tup [.int (a.fdiv b),.int (a.fmod b)]) (λb o e=>Heap.get?_push_of_some _ e) (Nat.le_refl _) ?_,rfl,q _ (I.hok.fresh (Nat.le_refl _))⟩
 exact ⟨by show 2<=sizeLine; decide,[.int (a.fdiv b) s.toks,.int (a.fmod b) (s.toks+1)],.cons ⟨_,rfl⟩ (.cons ⟨_,rfl⟩ .nil),IsTup.new _ _⟩
noncomputable def nD:List PyData->Option PyData
 | [.int a,.int b]=>if (decide (0 < b) && !(Builtin.divisionGoesByPylong a b))=true then some (.tuple [.int (a.fdiv b),.int (a.fmod b)]) else none
 | _=>none
theorem Zfq:dZ ZbO nD:=λPK pa m G H vs ds d Q w hv hd k=>by
 unfold nD at hd
 split at hd
 ·split at hd
  ·rename_i hc
   rw [Bool.and_eq_true] at hc
   cases hd
   cases hv with
   | cons h1 h2 =>
    cases h2 with
    | cons h2 h3 =>
     cases h3
     cases h1
     cases h2
     exact ⟨_,_,rfl,of_decide_eq_true hc.1,by simpa using hc.2,λp hp=>k.tup w (.cons (.int _) (.cons (.int _) .nil)) hp⟩
  ·cases hd
 ·cases hd
end L2
namespace L2
open PySem PySem.Spec PyProof.Rows PySem.NumText PySem.W.KIN
noncomputable def digs (m:Nat):List Nat:=(Nat.toDigits 10 m).map Char.toNat
theorem iz {m:Nat} (h:m < 10):digs m=[m+48]:=by
 unfold digs
 rw [Nat.toDigits_of_lt_base h]
 have:∀ d:Nat,d < 10->(Nat.digitChar d).toNat=d+48:=by decide
 rw [List.map_cons,this m h]
 rfl
theorem lF {q d:Nat} (hq:0 < q) (hd:d < 10):digs (10 * q+d)=digs q++[d+48]:=by
 have t:Nat.toDigits 10 q++Nat.toDigits 10 d=Nat.toDigits 10 (10 * q+d):=Nat.toDigits_append_toDigits (by decide) hq hd
 rw [<- iz hd]
 unfold digs
 rw [<- t,List.map_append]
theorem ZdC (m:Nat):AllDigits (digs m):=by
 intro c hc
 obtain ⟨ch,hch,e⟩:=List.mem_map.mp hc
 have r:=digit_range (Nat.isDigit_of_mem_toDigits (by decide) (by decide) hch)
 rw [<- e]
 exact r
theorem Zn3 (m:Nat):digs m≠[]:=by
 by_cases h:m < 10
 ·rw [iz h]; simp
 ·have:m=10 * (m / 10)+m % 10:=by omega
  rw [this,lF (by omega) (by omega)]
  simp
theorem lE (k:Nat):∀ m,m < 10 ^ (k+1)->(digs m).length<=k+1:=by
 induction k with
 | zero=>intro m h; rw [iz (by simpa using h)]; exact Nat.le_refl _
 | succ k ih =>
  intro m h
  by_cases hm:m < 10
  ·rw [iz hm]; exact Nat.succ_le_succ (Nat.zero_le _)
  ·have e:m=10 * (m / 10)+m % 10:=by omega
   have hp:10 ^ (k+1+1)=10 ^ (k+1) * 10:=Nat.pow_succ ..
   have:=ih (m / 10) (by rw [hp] at h; omega)
   rw [e,lF (by omega) (by omega),List.length_append]
   show _+1<=_
   omega
theorem Zn4 (l:List Nat) (c:Nat):digitsVal (l++[c])=digitsVal l * 10+(c - 48):=by
 unfold digitsVal
 rw [List.foldl_append]
 rfl
theorem Zat {l:List Nat}:AllDigits l->l≠[]->l.head?≠some 48->0 < digitsVal l:=by
 intro ha hne hh
 have key:∀ (r:List Nat) (a:Nat),0 < a->0 < r.foldl (λacc c=>acc * 10+(c - 48)) a:=by
  intro r
  induction r with
  | nil=>intro a h; exact h
  | cons c r ih=>intro a h; exact ih (a * 10+(c - 48)) (by omega)
 cases l with
 | nil=>exact absurd rfl hne
 | cons c r =>
  have hc:=ha.head
  have:c≠48:=λe=>hh (by rw [e]; rfl)
  exact key r (0 * 10+(c - 48)) (by omega)
theorem ZdB (l:List Nat):AllDigits l->l≠[]->(l.head?≠some 48\/l=[48])->digs (digitsVal l)=l:=by
 have key:∀ n (l:List Nat),l.length=n->AllDigits l->l≠[]->l.head?≠some 48->digs (digitsVal l)=l:=by
  intro n
  induction n with
  | zero=>intro l hl _ hne; exact absurd (List.length_eq_zero_iff.mp hl) hne
  | succ n ih =>
   intro l hl ha hne hh
   have e:=(List.dropLast_concat_getLast hne).symm
   generalize l.dropLast=r at e
   generalize l.getLast hne=c at e
   subst e
   have hc:48<=c/\c<=57:=ha c (by simp)
   rw [Zn4]
   cases r with
   | nil =>
    show digs (0 * 10+(c - 48))=[c]
    rw [Nat.zero_mul,Nat.zero_add,iz (by omega)]
    congr 1
    omega
   | cons d r =>
    have ha':AllDigits (d::r):=λx hx=>ha x (List.mem_append_left _ hx)
    have hh':(d::r).head?≠some 48:=hh
    have hp:=Zat ha' (by simp) hh'
    have:=ih (d::r) (by simp at hl ⊢; omega) ha' (by simp) hh'
    rw [Nat.mul_comm,lF hp (by omega),this]
    congr 2
    omega
 intro ha hne h
 rcases h with h | h
 ·exact key _ l rfl ha hne h
 ·subst h
  exact iz (by decide)
noncomputable def eV (i:Int):List Nat:=if i < 0 then 45::digs i.natAbs else digs i.natAbs
noncomputable def aX (i:Int):Str:=⟨(eV i).toArray⟩
noncomputable def figs (l:List Nat):List Nat:=if l.head?=some 45 then l.tail else l
noncomputable def bZ (l:List Nat):Bool:=decide (1<=(figs l).length/\(figs l).length<=400) && (figs l).all (λc=>decide (48<=c/\c<=57)) && (decide ((figs l).head?≠some 48) || decide (l=[48]))
noncomputable def eP (l:List Nat):Int:=if l.head?=some 45 then -(digitsVal l.tail:Int) else (digitsVal l:Int)
theorem qi {l:List Nat} (h:bZ l=true):figs l≠[]/\(figs l).length<=400/\AllDigits (figs l)/\((figs l).head?≠some 48\/l=[48]):=by
 unfold bZ at h
 simp only [Bool.and_eq_true,Bool.or_eq_true,decide_eq_true_eq,List.all_eq_true] at h
 obtain ⟨⟨⟨h1,h2⟩,h3⟩,h4⟩:=h
 exact ⟨λe=>by rw [e] at h1; simp at h1,h2,λc hc=>h3 c hc,h4⟩
theorem Zn9 {l:List Nat} (h:bZ l=true):eV (eP l)=l:=by
 obtain ⟨h1,h2,h3,h4⟩:=qi h
 unfold figs at h1 h2 h3 h4
 unfold eV eP
 by_cases hm:l.head?=some 45
 ·rw [if_pos hm] at *
  cases l with
  | nil=>cases hm
  | cons c r =>
   have:c=45:=Option.some.inj hm
   subst this
   have h4':r.head?≠some 48:=h4.elim id λe=>by cases e
   have hp:=Zat (l:=r) h3 h1 h4'
   show (if (-(digitsVal r:Int)) < 0 then 45::digs (-(digitsVal r:Int)).natAbs else digs (-(digitsVal r:Int)).natAbs)=45::r
   rw [if_pos (by omega)]
   have e:(-(digitsVal r:Int)).natAbs=digitsVal r:=by omega
   rw [e,ZdB r h3 h1 (.inl h4')]
 ·rw [if_neg hm] at *
  rw [if_neg (by omega)]
  have e:((digitsVal l:Int)).natAbs=digitsVal l:=by omega
  rw [e,ZdB l h3 h1 h4]
theorem ZdI (i:Int):(Str.ofString (toString i))=aX i:=by
 unfold aX
 apply Str.ext'
 apply Array.toList_inj.mp
 rw [signs_ofString]
 show _=eV i
 cases i with
 | ofNat n =>
  show (Nat.repr n).toList.map Char.toNat=_
  rw [Nat.toList_repr]
  rfl
 | negSucc n =>
  show ("-"++Nat.repr (n+1)).toList.map Char.toNat=_
  rw [String.toList_append,List.map_append,Nat.toList_repr]
  have e:"-".toList.map Char.toNat=[45]:=by decide
  rw [e]
  unfold eV
  rw [if_pos (by omega)]
  rfl
theorem ZjB {w:Str} (h:bZ w.cps.toList=true):intText? w=some (eP w.cps.toList):=by
 obtain ⟨h1,h2,h3,h4⟩:=qi h
 have hl:w.length=w.cps.toList.length:=by simp [Str.length]
 unfold figs at h1 h2 h3
 unfold eP
 by_cases hm:w.cps.toList.head?=some 45
 ·rw [if_pos hm] at h1 h2 h3 ⊢
  have e:w.cps.toList=45::w.cps.toList.tail:=by
   cases hc:w.cps.toList with
   | nil=>rw [hc] at hm; cases hm
   | cons c r=>rw [hc] at hm; rw [Option.some.inj hm]; rfl
  refine intText_neg e h3 h1 ?_
  rw [hl,e]
  simp only [List.length_cons]
  omega
 ·rw [if_neg hm] at h1 h2 h3 ⊢
  exact intText_digits h3 h1 (by omega)
theorem Ziw {l:List Nat} (h:bZ l=true):l.length<=401:=by
 obtain ⟨h1,h2,h3,h4⟩:=qi h
 unfold figs at h2
 split at h2
 ·rw [List.length_tail] at h2; omega
 ·omega
noncomputable def padk (k:Nat) (r:Nat):List Nat:=List.replicate (k - (digs r).length) 48++digs r
theorem Zh6 {k r:Nat} (hk:0 < k) (h:r < 10 ^ (k+1)):padk (k+1) r=padk k (r / 10)++[r % 10+48]:=by
 unfold padk
 by_cases hr:r < 10
 ·have e0:r / 10=0:=by omega
  have e1:r % 10=r:=by omega
  rw [e0,e1,iz hr,iz (by decide)]
  show List.replicate (k+1 - 1) 48++[r+48]=List.replicate (k - 1) 48++[48]++[r+48]
  congr 1
  obtain ⟨j,rfl⟩:∃ j,k=j+1:=⟨k - 1,by omega⟩
  show List.replicate (j+1) 48=List.replicate j 48++[48]
  rw [List.replicate_succ']
 ·have e:r=10 * (r / 10)+r % 10:=by omega
  have e2:digs r=digs (r / 10)++[r % 10+48]:=by
   rw [e,lF (by omega) (by omega)]
   congr 2
   ·omega
   ·omega
  rw [e2,List.length_append]
  show List.replicate (k+1 - ((digs (r / 10)).length+1)) 48++_=_
  rw [Nat.add_sub_add_right,List.append_assoc]
theorem Zn2 (k:Nat):∀ q r,0 < q->r < 10 ^ (k+1)->digs (q * 10 ^ (k+1)+r)=digs q++padk (k+1) r:=by
 induction k with
 | zero =>
  intro q r hq hr
  have hr':r < 10:=by simpa using hr
  have e:q * 10 ^ (0+1)+r=10 * q+r:=by rw [Nat.zero_add,Nat.pow_one,Nat.mul_comm]
  rw [e,lF hq hr']
  congr 1
  unfold padk
  rw [iz hr']
  rfl
 | succ k ih =>
  intro q r hq hr
  have hp:10 ^ (k+1+1)=10 ^ (k+1) * 10:=Nat.pow_succ ..
  have hr2:r / 10 < 10 ^ (k+1):=by rw [hp] at hr; omega
  have e:q * 10 ^ (k+1+1)+r=10 * (q * 10 ^ (k+1)+r / 10)+r % 10:=by
   rw [hp,<- Nat.mul_assoc]
   generalize q * 10 ^ (k+1)=z
   omega
  have hpos:0 < q * 10 ^ (k+1)+r / 10:=Nat.add_pos_left (Nat.mul_pos hq (Nat.pow_pos (by decide))) _
  rw [e,lF hpos (by omega),ih q (r / 10) hq hr2,Zh6 (by omega) hr,List.append_assoc]
theorem lv (c:Nat):∀ (p:Str) (ps:List Str),(Str.join ⟨#[c]⟩ (p::ps)).cps.toList=p.cps.toList++(ps.map λq=>c::q.cps.toList).flatten
 | p,[]=>by simp [Str.join]
 | p,q::ps=>by
  have ih:=lv c q ps
  have e:Str.join ⟨#[c]⟩ (p::q::ps)=p++⟨#[c]⟩++Str.join ⟨#[c]⟩ (q::ps):=rfl
  rw [e,Str.cps_append,Str.cps_append,Array.toList_append,Array.toList_append,ih]
  simp
theorem ZcZ {c:Nat}:∀ {a b x y:List Nat},c ∉ a->c ∉ b->a++c::x=b++c::y->a=b/\x=y
 | [],[],x,y,_,_,h=>⟨rfl,List.tail_eq_of_cons_eq h⟩
 | [],d::b,x,y,_,hb,h=>absurd (List.mem_cons.mpr (.inl (List.head_eq_of_cons_eq h))) hb
 | d::a,[],x,y,ha,_,h=>absurd (List.mem_cons.mpr (.inl (List.head_eq_of_cons_eq h).symm)) ha
 | d::a,e::b,x,y,ha,hb,h=>by
  have h1:=List.head_eq_of_cons_eq h
  have h2:=List.tail_eq_of_cons_eq h
  obtain ⟨r1,r2⟩:=ZcZ (λm=>ha (List.mem_cons_of_mem _ m)) (λm=>hb (List.mem_cons_of_mem _ m)) h2
  exact ⟨by rw [h1,r1],r2⟩
theorem jC {a b:Str} (h:a.cps.toList=b.cps.toList):a=b:=Str.ext' (Array.toList_inj.mp h)
theorem ZcF {c:Nat}:∀ {ps qs:List Str},ps≠[]->qs≠[]->(∀ p∈ps,c ∉ p.cps.toList)->(∀ p∈qs,c ∉ p.cps.toList)->Str.join ⟨#[c]⟩ ps=Str.join ⟨#[c]⟩ qs->ps=qs
 | [],_,h,_,_,_,_=>absurd rfl h
 | _,[],_,h,_,_,_=>absurd rfl h
 | [p],[q],_,_,_,_,h=>by
  have h:p=q:=h
  rw [h]
 | [p],q::q'::qs,_,_,hp,hq,h=>by
  have h':=congrArg (λs:Str=>s.cps.toList) h
  simp only [lv] at h'
  exact absurd (by
   have:c∈p.cps.toList:=by
    have e:p.cps.toList=q.cps.toList++(List.map (λq=>c::q.cps.toList) (q'::qs)).flatten:=by simpa using h'
    rw [e]; simp
   exact this) (hp p (by simp))
 | p::p'::ps,[q],_,_,hp,hq,h=>by
  have h':=congrArg (λs:Str=>s.cps.toList) h
  simp only [lv] at h'
  exact absurd (by
   have:c∈q.cps.toList:=by
    have e:p.cps.toList++(List.map (λq=>c::q.cps.toList) (p'::ps)).flatten=q.cps.toList:=by simpa using h'
    rw [<- e]; simp
   exact this) (hq q (by simp))
 | p::p'::ps,q::q'::qs,_,_,hp,hq,h=>by
  have h':=congrArg (λs:Str=>s.cps.toList) h
  simp only [lv,List.map_cons,List.flatten_cons,List.cons_append] at h'
  obtain ⟨r1,r2⟩:=ZcZ (hp p (by simp)) (hq q (by simp)) h'
  have e:Str.join ⟨#[c]⟩ (p'::ps)=Str.join ⟨#[c]⟩ (q'::qs):=jC (by rw [lv,lv]; exact r2)
  have:=ZcF (by simp) (by simp) (λx hx=>hp x (List.mem_cons_of_mem _ hx)) (λx hx=>hq x (List.mem_cons_of_mem _ hx)) e
  rw [jC r1,this]
theorem ZaM (x y:Str):Txt.split x y≠[]:=λe=>by
 have:=split_pos x y
 rw [e] at this
 exact absurd this (by decide)
theorem Zgf {c:Nat} {ps:List Str} (h0:ps≠[]) (h:∀ p∈ps,c ∉ p.cps.toList):Txt.split (Str.join ⟨#[c]⟩ ps) ⟨#[c]⟩=ps :=
 ZcF (ZaM _ _) h0 (StrLaws.split_free _ c) h (StrLaws.join_split _ _)
end L2
namespace L2
open PySem PySem.Spec PyProof.Rows
variable {ρ:List Sl} {s t:List Sl->Tr Ou} {i j l:List Sl->Tr PyData} {is:List Sl->Tr (List PyData)} {as:List Sl->Tr (List Sl)} {k n:Nat} {x y d:PyData} {xs ys:List PyData} {sl:Sl} {a b:Str}
theorem bS {n:Nat} (h:n<=1048576):small n=true:=decide_eq_true (dI h)
theorem Zls (m n:Int):aJ aY (.int m) (.int n)=.ret (.int (m+n)):=rfl
theorem jd (h:a.length+b.length<=1048576):aJ aY (.str a) (.str b)=.ret (.str (a++b)):=by
 unfold aJ aY
 dsimp only
 rw [decide_eq_true h]; rfl
theorem kb (h2:small (xs.length+ys.length)=true):aJ aY (.list xs) (.list ys)=.ret (.list (xs++ys)):=by
 show aJ eX (.list xs) (.list ys)=_
 exact Zde h2
theorem Zlr:aJ aY (.tuple xs) (.tuple ys)=aJ lO (.tuple xs) (.tuple ys):=rfl
theorem Zlj (m n:Int):aJ ie (.int m) (.int n)=aJ fJ (.int m) (.int n):=rfl
theorem uA {n:Int} (h:0 < n/\n<=1048576/\a.length * n.toNat<=1048576):aJ ie (.str a) (.int n)=.ret (.str (fE a n)):=by
 unfold aJ ie
 dsimp only
 rw [decide_eq_true h]; rfl
theorem dc (h:a.length<=1048576):bw cU [.str a]=.ret (.int a.length):=by
 unfold bw cU
 dsimp only
 rw [decide_eq_true h]; rfl
theorem Zll:bw cU [.list xs]=.ret (.int xs.length):=rfl
theorem Zlk:bw cU [.tuple xs]=.ret (.int xs.length):=rfl
theorem uB {n:Int} (h:a.length<=1048576):aJ bQ (.str a) (.int n)=Tr.of ((bx a.cps.toList n).map λc=>.str ⟨#[c]⟩):=by
 unfold aJ bQ
 dsimp only
 rw [decide_eq_true h]; rfl
theorem Zln (n:Int):aJ bQ (.list xs) (.int n)=Tr.of (bx xs n):=rfl
theorem Zlm (n:Int):aJ bQ (.tuple xs) (.int n)=Tr.of (bx xs n):=rfl
theorem Zlq {neg:Bool}:aJ (iq neg) (.str a) (.str b)=.ret (.bool (if neg then !jb b a else jb b a)):=rfl
theorem Zlo (n:Int):bw ip [.int n]=.ret (.int n):=rfl
theorem Zlp (b:Bool):bw ip [.bool b]=.ret (.int (if b then 1 else 0)):=rfl
noncomputable def kL (x:PyData) (lo:Option Int) (hi:Option Int):Tr PyData:=Tr.of (r8 x lo hi)
noncomputable def sf (q:fr) (ρ:List Sl) (x:PyData) (lo:Option Int):Tr PyData:=(q ρ).bind (kL x lo)
noncomputable def ZaW (p q:fr) (ρ:List Sl) (x:PyData):Tr PyData:=(p ρ).bind (sf q ρ x)
theorem Zk8 {p q:fr}:dN i p q ρ=(i ρ).bind (ZaW p q ρ):=rfl
theorem Zk7 {p q:fr}:ZaW p q ρ x=(p ρ).bind (sf q ρ x):=rfl
theorem Zk6 {q:fr} {lo:Option Int}:sf q ρ x lo=(q ρ).bind (kL x lo):=rfl
theorem Zk5 {lo hi:Option Int}:kL (.list xs) lo hi=.ret (.list (gQ xs lo hi)):=rfl
theorem Zk4 {lo hi:Option Int}:kL (.tuple xs) lo hi=.ret (.tuple (gQ xs lo hi)):=rfl
theorem dk {lo hi:Option Int} (h:a.length<=1048576):kL (.str a) lo hi=.ret (.str (Txt.slice a lo hi)):=by
 unfold kL r8
 dsimp only
 rw [decide_eq_true h]; rfl
noncomputable def qg (x:PyData):Tr (List PyData):=Tr.of (itA x)
theorem Zmm:bL i ρ=(i ρ).bind qg:=rfl
theorem Zml:qg (.list xs)=.ret xs:=rfl
theorem Zmj:qg (.tuple xs)=.ret xs:=rfl
theorem Zmk:qg (.str a)=.ret (db a):=rfl
theorem Zge {c:Nat} (h:a.length<=500000):rZ a ⟨#[c]⟩=true:=by
 have h2:(Txt.split a ⟨#[c]⟩).length<=a.length+2:=(fact_split a ⟨#[c]⟩).2
 have h3:(Builtin.Str.partsBetween a (Builtin.Str.occurrences a ⟨#[c]⟩ 0 a.length (a.length+1)) (⟨#[c]⟩:Str).length).length<=a.length+2:=by
  rw [len_partsBetween]
  have:=StrLaws.occ_length_le a ⟨#[c]⟩ 0 a.length (a.length+1)
  omega
 exact decide_eq_true ⟨by show (1:Nat)≠0; decide,by omega,by omega,by omega⟩
theorem cr {c:Nat} (h:a.length<=500000):aJ cv (.str a) (.str ⟨#[c]⟩)=.ret (.list ((Txt.split a ⟨#[c]⟩).map PyData.str)):=by
 unfold aJ cv
 dsimp only
 rw [Zge h]; rfl
theorem nw (h:a.length<=1048576):aJ jF (.str a) (.str b)=.ret (.str (Txt.removeprefix a b)):=by
 unfold aJ jF
 dsimp only
 rw [decide_eq_true h]; rfl
theorem ZaI:∀ l:List Str,jB (l.map PyData.str)=some l
 | []=>rfl
 | x::l=>by
  have ih:=ZaI l
  rw [List.map_cons]
  unfold jB
  rw [ih]
  rfl
theorem ae {l:List Str} (h:a.length<=16/\(l.map (·.length)).sum+l.length<=1048576):aJ bW (.str a) (.list (l.map PyData.str))=.ret (.str (Txt.join a l)):=by
 unfold aJ bW
 dsimp only
 rw [ZaI]
 show Tr.of (if j7 a l=true then _ else _)=_
 rw [show j7 a l=true from decide_eq_true h]
 rfl
noncomputable def Zka (sep u v:Str):Tr PyData:=.ret (.str (((Str.empty++u)++sep)++v))
noncomputable def qp (sep u:Str) (y:PyData):Tr PyData:=(Tr.of (iQ y)).bind (Zka sep u)
noncomputable def Zkb (sep:Str) (j:List Sl->Tr PyData) (ρ:List Sl) (u:Str):Tr PyData:=(j ρ).bind (qp sep u)
noncomputable def uw (sep:Str) (j:List Sl->Tr PyData) (ρ:List Sl) (x:PyData):Tr PyData:=(Tr.of (iQ x)).bind (Zkb sep j ρ)
theorem ZmH:qW a i j ρ=(i ρ).bind (uw a j ρ):=rfl
theorem Zgb:Str.empty++a=a:=by
 apply jC
 rw [Str.cps_append]
 simp [Str.empty]
theorem ag (h:b.length<=262144):uw a j ρ (.str b)=(j ρ).bind (qp a b):=by
 unfold uw iQ
 dsimp only
 rw [decide_eq_true h]; rfl
theorem af {c:Str} (h:c.length<=262144):qp a b (.str c)=.ret (.str (b++a++c)):=by
 unfold qp iQ
 dsimp only
 rw [decide_eq_true h,if_pos rfl]
 show Tr.ret _=_
 rw [Zgb]
variable {X Y:Type} {u v:List Sl->Tr (Option Ou)} {xe:List Sl->Tr (Option PyData)} {xo:List Sl->Tr (Option (List PyData))} {fx:List Sl->Tr (Option Re)}
theorem Zkm {k:X->Tr (Option Y)}:cO (.ret none) k=.ret none:=rfl
theorem Zc9 {k:X->Tr (Option Y)} {z:X}:cO (.ret (some z)) k=k z:=rfl
noncomputable def rJ (o:Option Re):Tr (Option PyData):=.ret (o.map Re.val)
noncomputable def Zah (fx:List Sl->Tr (Option Re)) (as:List Sl):Tr (Option PyData):=(fx as).bind rJ
theorem ZkO:fc fx as ρ=(as ρ).bind (Zah fx):=rfl
theorem ZkC {sls:List Sl}:Zah fx sls=(fx sls).bind rJ:=rfl
theorem ZkB {o:Option Re}:rJ o=.ret (o.map Re.val):=rfl
noncomputable def Zab (o:Ou):Tr (Option Ou):=.ret (some o)
theorem ZkE:eL s ρ=(s ρ).bind Zab:=rfl
theorem Zkq {o:Ou}:Zab o=.ret (some o):=rfl
noncomputable def Zac (k:Nat) (ρ:List Sl) (x:PyData):Tr (Option Ou):=.ret (some (.next (ρ.set k (.d x))))
theorem ZkF:l9 k xe ρ=cO (xe ρ) (Zac k ρ):=rfl
theorem Zks:Zac k ρ x=.ret (some (.next (ρ.set k (.d x)))):=rfl
noncomputable def Zad (x:PyData):Tr (Option Ou):=.ret (some (.ret (.d x)))
theorem ZkH:ma xe ρ=cO (xe ρ) Zad:=rfl
theorem Zkt:Zad x=.ret (some (.ret (.d x))):=rfl
noncomputable def Zag (ρ:List Sl) (x:PyData):Tr (Option Ou):=.ret (some (.next ρ))
theorem ZkN:kD xe ρ=cO (xe ρ) (Zag ρ):=rfl
theorem ZkA:Zag ρ x=.ret (some (.next ρ)):=rfl
noncomputable def rH (u v:List Sl->Tr (Option Ou)) (ρ:List Sl) (b:Bool):Tr (Option Ou):=if b=true then u ρ else v ρ
theorem ZkM {p:List Sl->Tr Bool}:iO p u v ρ=(p ρ).bind (rH u v ρ):=rfl
theorem Zky:rH u v ρ true=u ρ:=rfl
theorem Zkz:rH u v ρ false=v ρ:=rfl
theorem ZkI:iL ρ=.ret none:=rfl
noncomputable def nR (v:List Sl->Tr (Option Ou)):Option Ou->Tr (Option Ou)
 | some (.next ρ')=>v ρ'
 | o=>.ret o
theorem ZkG:dE u v ρ=(u ρ).bind (nR v):=by
 unfold dE
 refine congrArg (Tr.bind (u ρ)) (funext λo=>?_)
 cases o with
 | none=>rfl
 | some o=>cases o <;> rfl
theorem Zko:nR v (some (.next ρ))=v ρ:=rfl
theorem Zkn {r:Re}:nR v (some (.ret r))=.ret (some (.ret r)):=rfl
theorem Zkp:nR v none=.ret none:=rfl
theorem Zm0 {sls:List Sl} (h:sls.length=n):eY n k u sls=(u (sls++List.replicate k .un)).bind nu:=by
 unfold eY
 rw [if_pos (decide_eq_true h)]
theorem ZmS:nu none=.ret none:=rfl
theorem ZmR:nu (some (.next ρ))=.ret (some (.d .none)):=rfl
theorem ZmQ {r:Re}:nu (some (.ret r))=.ret (some r):=rfl
noncomputable def Zaf (xs:List PyData):Tr (Option PyData):=.ret (some (.list xs))
theorem ZkK:iN xo ρ=cO (xo ρ) Zaf:=rfl
theorem Zkv:Zaf xs=.ret (some (.list xs)):=rfl
noncomputable def xsm (z:PyData):Tr (Option PyData):=.ret (some z)
noncomputable def Zae (f:List PyData->Option PyData) (x:PyData):Tr (Option PyData):=(bw f [x]).bind xsm
theorem ZkJ {f:List PyData->Option PyData}:iM f xe ρ=cO (xe ρ) (Zae f):=rfl
theorem Zku {f:List PyData->Option PyData}:Zae f x=(bw f [x]).bind xsm:=rfl
theorem Zkr:xsm x=.ret (some x):=rfl
noncomputable def d9 (g:PyData->List Sl->Option (List Sl)) (el:List Sl->Tr (Option PyData)) (τ:List Sl) (x:PyData):Tr (Option PyData):=(Tr.of (g x τ)).bind el
noncomputable def rG (n:Nat) (ix:List Nat) (g:PyData->List Sl->Option (List Sl)) (el:List Sl->Tr (Option PyData)) (ρ:List Sl) (xs:List PyData):Tr (Option (List PyData)):=if small xs.length=true then i6 (d9 g el (blk n ix ρ)) xs else .fail
theorem ZkL {ix:List Nat} {g:PyData->List Sl->Option (List Sl)}:g6 is n ix g xe ρ=(is ρ).bind (rG n ix g xe ρ):=rfl
theorem Zkx {ix:List Nat} {g:PyData->List Sl->Option (List Sl)} (h:small xs.length=true):rG n ix g xe ρ xs=i6 (d9 g xe (blk n ix ρ)) xs:=by unfold rG; rw [if_pos h]
theorem Zkw {τ:List Sl} {g:PyData->List Sl->Option (List Sl)}:d9 g xe τ x=(Tr.of (g x τ)).bind xe:=rfl
noncomputable def rD (x y:PyData):Tr (Option PyData):=.ret (some (.tuple [x,y]))
noncomputable def Zaa (xe:List Sl->Tr (Option PyData)) (ρ:List Sl) (x:PyData):Tr (Option PyData):=cO (xe ρ) (rD x)
theorem ZkD {xe2:List Sl->Tr (Option PyData)}:rK xe xe2 ρ=cO (xe ρ) (Zaa xe2 ρ):=rfl
theorem Zkl:Zaa xe ρ x=cO (xe ρ) (rD x):=rfl
theorem Zkk:rD x y=.ret (some (.tuple [x,y])):=rfl
noncomputable def lB:Nat->List Sl->Tr Addr
 | 0,.fn a::_=>.ret a
 | k+1,_::ρ=>lB k ρ
 | _,_=>.fail
theorem ZmP {f:Addr}:lB 0 (.fn f::ρ)=.ret f:=rfl
theorem ZmO:lB (k+1) (sl::ρ)=lB k ρ:=rfl
noncomputable def vk (as:List Sl->Tr (List Sl)) (ρ:List Sl) (f:Addr):Tr (List Sl):=(as ρ).bind (ki (.fn f))
theorem Znx:lP k as ρ=(lB k ρ).bind (vk as ρ):=by
 have key:∀ (k:Nat) (σ:List Sl),(match σ[k]? with | some (Sl.fn f)=>(as ρ).bind λxs=>Tr.ret (Sl.fn f::xs) | _=>Tr.fail)=(lB k σ).bind (vk as ρ):=by
  intro k
  induction k with
  | zero =>
   intro σ
   cases σ with
   | nil=>rfl
   | cons s r=>cases s <;> rfl
  | succ k ih =>
   intro σ
   cases σ with
   | nil=>rfl
   | cons s r=>exact ih r
 exact key k ρ
theorem Znw {f:Addr}:vk as ρ f=(as ρ).bind (ki (.fn f)):=rfl
noncomputable def Zdt (ρ:List Sl) (x:PyData):Tr Ou:=.ret (.next ρ)
theorem ZmZ:lT i ρ=(i ρ).bind (Zdt ρ):=rfl
theorem ZmY:Zdt ρ x=.ret (.next ρ):=rfl
end L2
namespace L2
open PySem PySem.Spec PyProof.Rows PySem.NumText PySem.W.KIN
theorem tT:("-":Str)=⟨#[45]⟩:=by decide +kernel
theorem tM:("":Str)=⟨#[]⟩:=by decide +kernel
theorem rC:("0":Str)=⟨#[48]⟩:=by decide +kernel
theorem ZiU:("-0":Str)=⟨#[45,48]⟩:=by decide +kernel
theorem Zkg:("0123456789":Str)=⟨#[48,49,50,51,52,53,54,55,56,57]⟩:=by decide +kernel
theorem dr:(" ":Str)=⟨#[32]⟩:=by decide +kernel
theorem jf:(",":Str)=⟨#[44]⟩:=by decide +kernel
theorem fU:("/":Str)=⟨#[47]⟩:=by decide +kernel
theorem gS:("@":Str)=⟨#[64]⟩:=by decide +kernel
theorem jO:("\n":Str)=⟨#[10]⟩:=by decide +kernel
theorem Zha (w:Str):(Txt.removeprefix w "-").cps.toList=figs w.cps.toList:=by
 rw [tT,StrLaws.removeprefix_eq]
 have h1:=StrLaws.subAt_one w 45 0
 have e:(⟨#[45]⟩:Str).length=1:=rfl
 have hl:w.length=w.cps.toList.length:=by simp [Str.length]
 unfold figs
 by_cases hm:w.cps.toList.head?=some 45
 ·have hm':w.cps.toList[0]?=some 45:=by rw [<- List.head?_eq_getElem?]; exact hm
  obtain ⟨h2,h3⟩:=h1.mpr hm'
  rw [decide_eq_true h2,h3,Bool.and_true,if_pos rfl,if_pos hm]
  show (w.cps.toList.drop 1).take (w.length - 1)=_
  rw [hl,List.take_of_length_le (by simp)]
  exact List.drop_one
 ·rw [if_neg hm,if_neg]
  intro hz
  rw [Bool.and_eq_true] at hz
  exact hm (by rw [List.head?_eq_getElem?]; exact h1.mp ⟨of_decide_eq_true hz.1,hz.2⟩)
theorem ZcQ (c:Nat):jb "0123456789" ⟨#[c]⟩=decide (48<=c/\c<=57):=by
 unfold jb
 rw [StrLaws.found_one,Zkg]
 by_cases h:48<=c/\c<=57
 ·rw [decide_eq_true h]
  obtain ⟨h1,h2⟩:=h
  refine decide_eq_true ?_
  show c∈[48,49,50,51,52,53,54,55,56,57]
  simp only [List.mem_cons,List.not_mem_nil,or_false]
  omega
 ·rw [decide_eq_false h]
  refine decide_eq_false ?_
  show ¬ c∈[48,49,50,51,52,53,54,55,56,57]
  simp only [List.mem_cons,List.not_mem_nil,or_false]
  omega
theorem Zbo (L:List Nat) (a:Nat):∀ n,a+n<=L.length->((List.range n).map (a+·)).filterMap (L[·]?)=(L.drop a).take n
 | 0,_=>by simp
 | n+1,h=>by
  rw [List.range_succ,List.map_append,List.filterMap_append,Zbo L a n (by omega),List.take_add_one]
  congr 1
  rw [List.getElem?_drop]
  have:L[a+n]?=some L[a+n]:=by simp
  simp only [List.map_cons,List.map_nil,this]
  simp [this]
theorem ZaR {x:Str} {l u:Option Int} {a b:Nat} (h:Builtin.Str.strSliceIndices l u 1 x.length=sliceRange a b 1) (hb:b<=x.length) (hab:a<=b):(Txt.slice x l u).cps.toList=(x.cps.toList.drop a).take (b - a):=by
 have hl:x.length=x.cps.toList.length:=by simp [Str.length]
 unfold Txt.slice
 rw [h,sliceRange_one]
 have e:=Zbo x.cps.toList a (b - a) (by omega)
 have e2:((List.range (b - a)).map (a+·)).filterMap (x.cps[·]?)=(x.cps.toList.drop a).take (b - a):=by
  rw [<- e]
  simp
 by_cases hc:((1:Int) == 1 && ((List.range (b - a)).map (a+·)).length == x.length)=true
 ·rw [if_pos hc]
  have:b - a=x.length:=by simpa using hc
  have ha:a=0:=by omega
  subst ha
  rw [List.drop_zero,List.take_of_length_le (by omega)]
 ·rw [if_neg hc]
  exact e2
theorem Zgm (w:Str):(Txt.slice w (some 1) none).cps.toList=w.cps.toList.tail:=by
 have hl:w.length=w.cps.toList.length:=by simp [Str.length]
 by_cases h0:w.length=0
 ·have:w.cps.toList=[]:=List.length_eq_zero_iff.mp (by omega)
  have h:=Txt.slice_le w (some 1) none
  have:(Txt.slice w (some 1) none).cps.toList=[]:=List.length_eq_zero_iff.mp (by unfold Str.length at h h0; rw [Array.length_toList]; omega)
  rw [this]
  simp [*]
 ·have e:Builtin.Str.strSliceIndices (some 1) none 1 w.length=sliceRange (1:Nat) (w.length:Nat) 1:=by
   unfold Builtin.Str.strSliceIndices
   simp only [show ¬ ((1:Int) < 0) by decide,if_false,show (1:Int) > 0 by decide,if_true]
   congr 1
   omega
  rw [ZaR e (Nat.le_refl _) (by omega),List.take_of_length_le (by rw [List.length_drop,<- hl]; omega),List.drop_one]
theorem Zgk (w:Str):(Txt.slice w none (some 1)).cps.toList=w.cps.toList.take 1:=by
 have hl:w.length=w.cps.toList.length:=by simp [Str.length]
 by_cases h0:w.length=0
 ·have:w.cps.toList=[]:=List.length_eq_zero_iff.mp (by omega)
  have h:=Txt.slice_le w none (some 1)
  have:(Txt.slice w none (some 1)).cps.toList=[]:=List.length_eq_zero_iff.mp (by unfold Str.length at h h0; rw [Array.length_toList]; omega)
  rw [this]
  simp [*]
 ·have e:Builtin.Str.strSliceIndices none (some 1) 1 w.length=sliceRange (0:Nat) (1:Nat) 1:=by
   unfold Builtin.Str.strSliceIndices
   simp only [show ¬ ((1:Int) < 0) by decide,if_false,show (1:Int) > 0 by decide,if_true]
   congr 1
   omega
  rw [ZaR e (by omega) (by decide)]
  rfl
theorem qE (i:Int):(aX i).length=(eV i).length:=by unfold aX; simp [Str.length]
theorem je (i:Int):(aX i).cps.toList=eV i:=by unfold aX; simp
theorem lH (r:Nat):eV (r:Int)=digs r:=by
 unfold eV
 rw [if_neg (by omega)]
 rfl
theorem ZeU (r:Nat) (h:r < 10 ^ 64):(Txt.zfill (aX r) 64).cps.toList=padk 64 r:=by
 have hl:(aX (r:Int)).length=(digs r).length:=by rw [qE,lH]
 have hd:(digs r).length<=64:=lE 63 r h
 unfold Txt.zfill padk
 by_cases hc:(64:Int)<=((aX (r:Int)).length:Int)
 ·rw [if_pos hc,je,lH]
  rw [hl] at hc
  have:64 - (digs r).length=0:=by omega
  rw [this]
  rfl
 ·rw [if_neg hc,hl]
  have e:∀ n,zfilled (aX (r:Int)) n=Builtin.Str.padded (aX (r:Int)) n 0 48:=by
   intro n
   unfold zfilled
   have h0:∃ c,(aX (r:Int)).cps[0]?=some c/\48<=c:=by
    rw [<- Array.getElem?_toList,je,lH]
    have hne:=Zn3 r
    have ha:=ZdC r
    cases hd:digs r with
    | nil=>exact absurd hd hne
    | cons c l=>exact ⟨c,rfl,(ha c (by rw [hd]; simp)).1⟩
   obtain ⟨c,h1,h2⟩:=h0
   rw [h1]
   split
   ·rename_i hz; have:=Option.some.inj hz; omega
   ·rename_i hz; have:=Option.some.inj hz; omega
   ·rfl
  rw [e]
  unfold Builtin.Str.padded
  simp only [Array.toList_append,Array.toList_replicate,je,lH,List.replicate_zero,List.append_nil]
  rfl
end L2
namespace L2
open PySem PySem.Spec PyProof.Rows PySem.NumText PySem.W.KIN Tw
theorem tjoin (a:Str) (ps:List Str):Txt.join a ps=Str.join a ps:=StrLaws.glued_eq_join a ps
theorem lr (l:List Str):(l.map λw=>w.length+1).sum=(l.map (·.length)).sum+l.length:=by
 induction l with
 | nil=>rfl
 | cons w l ih=>rw [List.map_cons,List.sum_cons,ih,List.map_cons,List.sum_cons,List.length_cons]; omega
theorem ml (c:Nat) (t:Str):((Txt.split t ⟨#[c]⟩).map λw=>w.length+1).sum=t.length+1:=by
 have h1:=StrLaws.join_split t ⟨#[c]⟩
 have h2:=size_glued ⟨#[c]⟩ (Txt.split t ⟨#[c]⟩)
 rw [StrLaws.glued_eq_join,h1] at h2
 have h3:=split_pos t ⟨#[c]⟩
 rw [lr]
 have e:(⟨#[c]⟩:Str).length=1:=rfl
 rw [e,Nat.mul_one] at h2
 omega
theorem Zi3 {l:List Str} {w:Str} (h:w∈l):w.length+1<=(l.map λw=>w.length+1).sum:=by
 induction l with
 | nil=>cases h
 | cons v l ih =>
  rw [List.map_cons,List.sum_cons]
  rcases List.mem_cons.mp h with rfl | h
  ·omega
  ·have:=ih h; omega
theorem cw {c:Nat} {t w:Str} (h:w∈Txt.split t ⟨#[c]⟩):w.length<=t.length:=by
 have:=Zi3 h
 rw [ml] at this
 omega
theorem cj (c:Nat) (t:Str):(Txt.split t ⟨#[c]⟩).length<=t.length+1:=by
 have h:=ml c t
 rw [lr] at h
 omega
theorem mn {c:Nat} {t:Str} (h:t.length<=500000):(⟨#[c]⟩:Str).length<=16/\((Txt.split t ⟨#[c]⟩).map (·.length)).sum+(Txt.split t ⟨#[c]⟩).length<=1048576:=by
 have h:=ml c t
 rw [lr] at h
 exact ⟨by show 1<=16; decide,by omega⟩
noncomputable def bb {α:Type} (f:Str->Option α):List Str->Option (List α)
 | []=>some []
 | x::xs=>(f x).bind λy=>(bb f xs).map (y::·)
theorem iA {α:Type} {f:Str->Option α} {x:Str} {l:List Str}:bb f (x::l)=(f x).bind λy=>(bb f l).map (y::·):=rfl
section
variable {α:Type} {f:Str->Option α} {g:α->PyData} {l:List Str}
theorem gj {x:Str} {as:List α}:bb f (x::l)=some as ↔ ∃ a as',f x=some a/\bb f l=some as'/\as=a::as':=by
 rw [iA]
 cases f x with
 | none=>simp
 | some a =>
  cases bb f l with
  | none=>simp
  | some as'=>simp [eq_comm]
theorem jP {h:PyData->Tr (Option PyData)}:∀ {l:List Str},(∀ x∈l,h (.str x)=.ret ((f x).map g))->i6 h (l.map PyData.str)=.ret ((bb f l).map λas=>as.map g)
 | [],_=>rfl
 | x::l,hx=>by
  have ih:=jP (l:=l) λy hy=>hx y (List.mem_cons_of_mem _ hy)
  rw [List.map_cons]
  rw [iA]
  unfold i6
  rw [hx x (by simp),ih]
  cases f x with
  | none=>rfl
  | some y =>
   show cO (.ret (some (g y))) _=_
   rw [Zc9]
   cases bb f l with
   | none=>rfl
   | some ys=>rfl
theorem jQ {h:PyData->Tr PyData}:∀ {l:List Str} {as:List α},(∀ x∈l,∀ a,f x=some a->h (.str x)=.ret (g a))->bb f l=some as->ce h (l.map PyData.str)=.ret (as.map g)
 | [],as,_,e=>by
  cases (show some ([]:List α)=some as from e)
  rfl
 | x::l,as,hx,e=>by
  obtain ⟨a,as',h1,h2,rfl⟩:=gj.mp e
  rw [List.map_cons]
  unfold ce
  rw [hx x (by simp) a h1,jQ (λz hz=>hx z (List.mem_cons_of_mem _ hz)) h2]
  rfl
theorem lb {h:PyData->Tr PyData}:∀ {l:List Str} {as:List α},(∀ x∈l,∀ a,f x=some a->h (g a)=.ret (.str x))->bb f l=some as->ce h (as.map g)=.ret (l.map PyData.str)
 | [],as,_,e=>by
  cases (show some ([]:List α)=some as from e)
  rfl
 | x::l,as,hx,e=>by
  obtain ⟨a,as',h1,h2,rfl⟩:=gj.mp e
  rw [List.map_cons]
  unfold ce
  rw [hx x (by simp) a h1,lb (λz hz=>hx z (List.mem_cons_of_mem _ hz)) h2]
  rfl
theorem tV {h:PyData->Tr PyData} {F:Str->PyData}:∀ {l:List Str},(∀ x∈l,h (.str x)=.ret (F x))->ce h (l.map PyData.str)=.ret (l.map F)
 | [],_=>rfl
 | x::l,hx=>by
  rw [List.map_cons]
  unfold ce
  rw [hx x (by simp),tV λz hz=>hx z (List.mem_cons_of_mem _ hz)]
  rfl
theorem dX:∀ {l:List Str} {as:List α},bb f l=some as->as.length=l.length
 | [],as,e=>by
  cases (show some ([]:List α)=some as from e)
  rfl
 | x::l,as,e=>by
  obtain ⟨a,as',h1,h2,rfl⟩:=gj.mp e
  rw [List.length_cons,List.length_cons,dX h2]
noncomputable def cE (g:α->PyData) (o:Option α):PyData:=match o with
 | some a=>g a
 | none=>.none
theorem tH:∀ {l:List Str} {as:List α},bb f l=some as->l.map (λx=>cE g (f x))=as.map g
 | [],as,e=>by
  cases (show some ([]:List α)=some as from e)
  rfl
 | x::l,as,e=>by
  obtain ⟨a,as',h1,h2,rfl⟩:=gj.mp e
  rw [List.map_cons,List.map_cons,tH h2,h1]
  rfl
theorem Zh8 {p:PyData->Bool} (hp:p .none=true) (hg:∀ x∈l,∀ a,f x=some a->p (g a)=false):(l.map (λx=>cE g (f x))).any p=(bb f l).isNone:=by
 induction l with
 | nil=>rfl
 | cons x l ih =>
  have ih:=ih λy hy=>hg y (List.mem_cons_of_mem _ hy)
  rw [List.map_cons,List.any_cons,ih]
  rw [iA]
  cases hx:f x with
  | none=>show (p .none || _)=true; rw [hp]; rfl
  | some a =>
   show (p (g a) || _)=_
   rw [hg x (by simp) a hx]
   cases bb f l <;> rfl
end
theorem Zbi {α:Type} {f:Str->Option α} {g:α->PyData} {k m:Nat} (hf:∀ w a,f w=some a->Rp (g a) k (m * (w.length+1))):∀ {l:List Str} {as:List α},bb f l=some as->PyData.hasDictAll (as.map g)=false/\PyData.showableAll (as.map g)=true/\PyData.depthAll (as.map g)<=k/\((PyData.shownAll (as.map g)).map (·.length)).sum<=m * (l.map λw=>w.length+1).sum/\(PyData.shownAll (as.map g)).length=l.length
 | [],as,e=>by
  cases (show some ([]:List α)=some as from e)
  exact ⟨rfl,rfl,Nat.zero_le _,by simp [PyData.shownAll],rfl⟩
 | x::l,as,e=>by
  obtain ⟨a,as',h1,h2,rfl⟩:=gj.mp e
  obtain ⟨i1,i2,i3,i4,i5⟩:=Zbi hf h2
  have hx:=hf x a h1
  rw [List.map_cons]
  refine ⟨?_,?_,?_,?_,?_⟩
  ·rw [PyData.hasDictAll,hx.hd,i1]; rfl
  ·rw [PyData.showableAll,hx.sh,i2]; rfl
  ·rw [PyData.depthAll]; have:=hx.dp; omega
  ·rw [PyData.shownAll,List.map_cons,List.sum_cons,List.map_cons,List.sum_cons,Nat.mul_add]; have:=hx.ln; omega
  ·rw [PyData.shownAll,List.length_cons,List.length_cons,i5]
theorem kT {α:Type} {f:Str->Option α} {g:α->PyData} {k m c:Nat} {t:Str} {as:List α} (hf:∀ w a,f w=some a->Rp (g a) k (m * (w.length+1))) (h:bb f (Txt.split t ⟨#[c]⟩)=some as):Rp (.tuple (as.map g)) (k+1) ((m+12) * (t.length+1)):=by
 obtain ⟨h1,h2,h3,h4,h5⟩:=Zbi hf h
 rw [ml] at h4
 have h6:=cj c t
 have c3:=tupleText_len_le (PyData.shownAll (as.map g))
 refine ⟨?_,?_,?_,?_⟩
 ·rw [PyData.hasDict,h1]
 ·rw [PyData.showable,h2]
 ·rw [PyData.depth]; omega
 ·rw [PyData.shown,Nat.add_mul]; omega
theorem Zg3 {d:PyData} {k n:Nat} (h:Rp d k n):Rp (.list [d]) (k+1) (n+20):=by
 refine oW (Zg5 (n:=n) (k:=k) (xs:=[d]) λx hx=>by rw [List.mem_singleton.mp hx]; exact h) (Nat.le_refl _) ?_
 show 1 * n+2 * 1+10<=n+20
 omega
noncomputable def aS (w:Str):Option Int:=if bZ w.cps.toList=true then some (eP w.cps.toList) else none
theorem k8 {w:Str} {i:Int} (h:aS w=some i):bZ w.cps.toList=true/\i=eP w.cps.toList:=by
 unfold aS at h
 split at h
 ·rename_i hc; exact ⟨hc,(Option.some.inj h).symm⟩
 ·cases h
theorem iW {w:Str} {i:Int} (h:aS w=some i):aX i=w:=by
 obtain ⟨h1,rfl⟩:=k8 h
 apply jC
 rw [je,Zn9 h1]
theorem Zft:∀ l:List Nat,AllDigits l->digitsVal l < 10 ^ l.length:=by
 have key:∀ (l:List Nat) (a:Nat),AllDigits l->l.foldl (λacc c=>acc * 10+(c - 48)) a < (a+1) * 10 ^ l.length:=by
  intro l
  induction l with
  | nil=>intro a _; show a < (a+1) * 1; omega
  | cons c l ih =>
   intro a h
   have hc:=h.head
   have h1:=ih (a * 10+(c - 48)) h.tail
   rw [List.foldl_cons,List.length_cons,Nat.pow_succ,Nat.mul_comm (10 ^ l.length) 10,<- Nat.mul_assoc]
   refine Nat.lt_of_lt_of_le h1 (Nat.mul_le_mul_right _ (by omega))
 intro l h
 have:=key l 0 h
 rw [Nat.zero_add,Nat.one_mul] at this
 exact this
theorem jN {w:Str} {i:Int} (h:aS w=some i):i.natAbs < 10 ^ 400:=by
 obtain ⟨h1,rfl⟩:=k8 h
 obtain ⟨h2,h3,h4,h5⟩:=qi h1
 have h6:=Zft _ h4
 have h7:(eP w.cps.toList).natAbs=digitsVal (figs w.cps.toList):=by
  unfold eP figs
  split <;> omega
 rw [h7]
 exact Nat.lt_of_lt_of_le h6 (Nat.pow_le_pow_right (by decide) h3)
theorem Zh7:10 ^ 400 < 2 ^ 1900:=by decide +kernel
theorem Zcj {w:Str} {i:Int} (h:aS w=some i):nb 1900 i:=Nat.lt_trans (jN h) Zh7
theorem pP {w:Str} {i:Int} (h:aS w=some i):Rp (.int i) 0 (1 * (w.length+1)):=by
 have h0:=Zg6 (Zcj h)
 refine ⟨h0.hd,h0.sh,h0.dp,?_⟩
 have e:(PyData.int i).shown=Str.ofString (toString i):=by rw [PyData.shown]
 rw [e,ZdI,iW h]
 omega
end L2
namespace Tw
open PySem PySem.Spec PyProof.Rows L2
noncomputable def ab (C n:Int):Prop:=-C<=n/\n<=C
end Tw
namespace L2
open PySem PySem.Spec PyProof.Rows
theorem bj {K:PySem.W.Frag} {x y qx qy:Str} {st st':Stmt} {f g:Addr} {fd gd:FuncData} (F:Fun K x qx st f fd) (G:Fun K y qy st' g gd) (h:x≠y):f≠g:=λe=>by
 subst e
 obtain ⟨oc,od,kV,doc,pm,an,cdv,ct,osl,h1,lk,hcd⟩:=F.ex
 obtain ⟨oc',od',kV',doc',pm',an',cdv',ct',osl',h1',lk',hcd'⟩:=G.ex
 rw [lk] at lk'
 have e:=Option.some.inj lk'
 injection e with _ _ e3 _
 injection e3 with e4
 rw [h1,h1'] at e4
 exact h (congrArg FuncData.name e4)
noncomputable def aV (cn:Addr×List Int):Pk where
 is:=λo G m=>∃ (k:Nat) (left:Int),o=.dK (bU cn.1 k left)/\k<=m/\0<=left/\G cn.1=some (.lst (cn.2.map V.int))/\cn.2.length<=63
 mono:=λs ⟨k,left,e,h1,h2,h3,h4⟩=>⟨k,left,e,h1,h2,s _ _ h3,h4⟩
theorem ZhD {ι:Type} {X:Cx} {e:List Stmt} {t:ι->TS} (h:∀ i,PSs X e (t i)):PSs X e (λD σ H=>∃ i,t i D σ H):=λpins s σ H D I z=>by
 obtain ⟨i,z⟩:=z
 exact h i pins s σ H D I z
noncomputable def p9:List Sl->Tr Re:=λas=>match as with
 | [.pen,.d (.int most)]=>.draw most λr=>.ret (.d (.int r))
 | _=>.fail
theorem Zdu {as:List Sl} {m:Nat} {Z:Nat->Re->Prop} (h:(p9 as).ok m Z):∃ most,as=[.pen,.d (.int most)]:=by
 unfold p9 at h
 split at h
 ·exact ⟨_,rfl⟩
 ·exact h.elim
theorem ZnZ {cn:Addr×List Int} {P:Program} {w:World} {K:PySem.W.Frag} {mg:Str->Option Value} {base:Heap} {x:Str} {k:Nat} {ps:List Str} (hp:ps.length=2) (C:Callee P w K mg base x k ps ZaO):ACal (aV cn) P w K mg base x k ps p9:=by
 refine ⟨?_,λas m Z h=>by obtain ⟨most,rfl⟩:=Zdu h; exact hp.symm⟩
 obtain ⟨f,fd,F,hm,hk,hb⟩:=C.ex
 refine ⟨f,fd,F.imp λvs H Q E h=>?_,hm,hk,hb⟩
 obtain ⟨hv,pa,m,G,as,wd,ar,z⟩:=h
 obtain ⟨most,rfl⟩:=Zdu z
 obtain ⟨h1,h2,h3,h4⟩:=z
 cases ar with
 | cons a1 ar =>
  cases ar with
  | cons a2 ar =>
   cases ar
   cases a1
   cases a2 with
   | d d2 =>
    cases d2
    obtain ⟨c,ns⟩:=cn
    obtain ⟨o,ho,kk,left,rfl,q1,q2,q3,q4⟩:=wd.pen
    replace q3:G c=some (.lst (ns.map V.int)):=q3
    refine ⟨pa,c,ns,m,most,rfl,⟨⟨kk,left,ho,q1,q2⟩,wd.sub _ _ q3,q4⟩,by omega,h2,h3,λr H' r0 r1 P' K'=>?_⟩
    refine h4 r r0 r1 (.int r) G H' ⟨λ_ _ q=>q,λ_ _ q=>.inl q,λb o e n=>K' b o e n⟩ ⟨λb o e=>K' b o (wd.sub b o e) (λz=>by subst z; rw [wd.gpa] at e; cases e),wd.gpa,?_⟩ (.int r)
    obtain ⟨⟨k2,l2,e2,g1,g2⟩,_,_⟩:=P'
    exact ⟨_,e2,k2,l2,rfl,g1,g2,q3,q4⟩
noncomputable def ZaN:PySem.W.Frag->Sp:=λK vs H Q _=>∃ (a:Addr) (ns:List Int),vs=[.ref a]/\SqL K H a (ns.map V.int)/\ns.length<=63/\∀ H',Q (.bl true) H'
theorem Zja {D:Ends} {p c:Addr} {ns:List Int} {H:Hp} {σ:St} {s:List Sl->Tr Ou} {n:Nat} (P:Pen H p c ns 0) (hσ:σ.length=n+2) (h1:σ[1]?=some (some (.ref p))) (hrt:∀ H',D.rt (.bl true) H')
  (h:(s (.un::.pen::List.replicate n .un)).ok 0 λ_ o=>o=.ret (.d (.bool true))):∃ cn,bC (aV cn) s D σ H:=by
 obtain ⟨⟨k,l,e,hk,hl⟩,hc,hn⟩:=P
 have npc:p≠c:=tO e hc (by intro z; cases z)
 have key:∀ (i:Nat) (sl:Sl),(Sl.un::.pen::List.replicate n .un)[i]?=some sl->sl=.un\/(i=1/\sl=.pen):=λi sl hi=>by
  match i with
  | 0=>simp at hi; exact .inl hi.symm
  | 1=>simp at hi; exact .inr ⟨rfl,hi.symm⟩
  | i+2 =>
   simp [List.getElem?_replicate] at hi
   exact .inl hi.2.symm
 refine ⟨(c,ns),p,λb=>if b=c then H c else none,H,0,_,λb=>if b=c then H c else none,⟨⟨λb o hb=>?_,if_neg npc,?_⟩,.refl,⟨_,e⟩,λi sl hi=>?_,by simp [hσ],λi j xs ys _ hi _=>?_,λi j xs ys _ hi _=>by rcases key i _ hi with z | ⟨_,z⟩ <;> cases z⟩,Tr.ok_mono h λm o ho=>?_⟩
 ·by_cases hbc:b=c
  ·subst hbc; simpa using hb
  ·simp [hbc] at hb
 ·exact ⟨_,e,k,l,rfl,hk,hl,by simp [hc],hn⟩
 ·have hlt:i < σ.length:=by
   have:=(List.getElem?_eq_some_iff.mp hi).1
   simp at this
   omega
  rcases key i sl hi with rfl | ⟨rfl,rfl⟩
  ·exact ⟨σ[i],by simp [hlt],.un⟩
  ·exact ⟨_,h1,.pen⟩
 ·rcases key i _ hi with z | ⟨_,z⟩ <;> cases z
 ·subst ho
  intro v G H' s' w' d
  cases (show Dn G v (.bool true) from d)
  exact hrt H'
end L2
namespace My
open PySem PySem.Spec PyProof.Rows L2
noncomputable def top (i:Nat):Stmt:=PySem.Challenge.pw_twomarks_k53_whole_texts_by_all_readers.main.body.getD i (.Pass ⟨0,0,0,0⟩)
noncomputable abbrev oE:Stmt:=top 11
noncomputable abbrev ZpU:List Str:=["thing"]
theorem ZgG:FnScope ZpU ["thing"] (aD oE):=⟨rfl,rfl,rfl,by decide +kernel,rfl,by decide +kernel,by decide +kernel⟩
noncomputable abbrev oD:Stmt:=top 12
noncomputable abbrev ZpT:List Str:=["thing","lowest","highest"]
theorem ZgF:FnScope ZpT ["thing","lowest","highest"] (aD oD):=⟨rfl,rfl,rfl,by decide +kernel,rfl,by decide +kernel,by decide +kernel⟩
noncomputable abbrev oG:Stmt:=top 14
noncomputable abbrev ZpW:List Str:=["one","other"]
theorem sw:FnScope ZpW ["one","other"] (aD oG):=⟨rfl,rfl,rfl,by decide +kernel,rfl,by decide +kernel,by decide +kernel⟩
noncomputable abbrev oF:Stmt:=top 15
noncomputable abbrev ZpV:List Str:=["thing","top","bottom"]
theorem sv:FnScope ZpV ["thing"] (aD oF):=⟨rfl,rfl,rfl,by decide +kernel,rfl,by decide +kernel,by decide +kernel⟩
noncomputable abbrev mB:Stmt:=top 25
noncomputable abbrev rm:List Str:=["thing"]
theorem ZgH:FnScope rm ["thing"] (aD mB):=⟨rfl,rfl,rfl,by decide +kernel,rfl,by decide +kernel,by decide +kernel⟩
noncomputable abbrev kR:Stmt:=top 26
noncomputable abbrev kr:List Str:=["thing"]
theorem ZgJ:FnScope kr ["thing"] (aD kR):=⟨rfl,rfl,rfl,by decide +kernel,rfl,by decide +kernel,by decide +kernel⟩
noncomputable abbrev mD:Stmt:=top 27
noncomputable abbrev ro:List Str:=["thing"]
theorem ZgI:FnScope ro ["thing"] (aD mD):=⟨rfl,rfl,rfl,by decide +kernel,rfl,by decide +kernel,by decide +kernel⟩
noncomputable abbrev oH:Stmt:=top 31
noncomputable abbrev ZpX:List Str:=["thing"]
theorem Za9:FnScope ZpX ["thing"] (aD oH):=⟨rfl,rfl,rfl,by decide +kernel,rfl,by decide +kernel,by decide +kernel⟩
noncomputable abbrev mC:Stmt:=top 32
noncomputable abbrev rn:List Str:=["word","figures"]
theorem Za8:FnScope rn ["word"] (aD mC):=⟨rfl,rfl,rfl,by decide +kernel,rfl,by decide +kernel,by decide +kernel⟩
noncomputable abbrev oz:Stmt:=top 33
noncomputable abbrev ZpQ:List Str:=["word"]
theorem Za7:FnScope ZpQ ["word"] (aD oz):=⟨rfl,rfl,rfl,by decide +kernel,rfl,by decide +kernel,by decide +kernel⟩
noncomputable abbrev kN:Stmt:=top 34
noncomputable abbrev kn:List Str:=["text","shop"]
theorem ol:FnScope kn ["text"] (aD kN):=⟨rfl,rfl,rfl,by decide +kernel,rfl,by decide +kernel,by decide +kernel⟩
noncomputable abbrev kP:Stmt:=top 35
noncomputable abbrev gw:List Str:=["text"]
theorem Za6:FnScope gw ["text"] (aD kP):=⟨rfl,rfl,rfl,by decide +kernel,rfl,by decide +kernel,by decide +kernel⟩
noncomputable abbrev oA:Stmt:=top 36
noncomputable abbrev ZpR:List Str:=["text","falls"]
theorem on:FnScope ZpR ["text"] (aD oA):=⟨rfl,rfl,rfl,by decide +kernel,rfl,by decide +kernel,by decide +kernel⟩
noncomputable abbrev kO:Stmt:=top 37
noncomputable abbrev kq:List Str:=["text","one"]
theorem om:FnScope kq ["text"] (aD kO):=⟨rfl,rfl,rfl,by decide +kernel,rfl,by decide +kernel,by decide +kernel⟩
noncomputable abbrev oB:Stmt:=top 38
noncomputable abbrev ZpS:List Str:=["word","parts"]
theorem oo:FnScope ZpS ["word"] (aD oB):=⟨rfl,rfl,rfl,by decide +kernel,rfl,by decide +kernel,by decide +kernel⟩
noncomputable abbrev kM:Stmt:=top 39
noncomputable abbrev gv:List Str:=["text"]
theorem Za5:FnScope gv ["text"] (aD kM):=⟨rfl,rfl,rfl,by decide +kernel,rfl,by decide +kernel,by decide +kernel⟩
noncomputable abbrev ow:Stmt:=top 43
noncomputable abbrev ZpN:List Str:=["number","parts","rest","part"]
theorem mq:FnScope ZpN ["number"] (aD ow):=⟨rfl,rfl,rfl,by decide +kernel,rfl,by decide +kernel,by decide +kernel⟩
noncomputable abbrev mx:Stmt:=top 44
noncomputable abbrev rj:List Str:=["shop"]
theorem ZgC:FnScope rj ["shop"] (aD mx):=⟨rfl,rfl,rfl,by decide +kernel,rfl,by decide +kernel,by decide +kernel⟩
noncomputable abbrev my:Stmt:=top 45
noncomputable abbrev lZ:List Str:=["rule"]
theorem ZgD:FnScope lZ ["rule"] (aD my):=⟨rfl,rfl,rfl,by decide +kernel,rfl,by decide +kernel,by decide +kernel⟩
noncomputable abbrev ox:Stmt:=top 46
noncomputable abbrev ZpO:List Str:=["falls"]
theorem ZgE:FnScope ZpO ["falls"] (aD ox):=⟨rfl,rfl,rfl,by decide +kernel,rfl,by decide +kernel,by decide +kernel⟩
noncomputable abbrev ou:Stmt:=top 47
noncomputable abbrev ZpM:List Str:=["one","top","bottom"]
theorem sr:FnScope ZpM ["one"] (aD ou):=⟨rfl,rfl,rfl,by decide +kernel,rfl,by decide +kernel,by decide +kernel⟩
noncomputable abbrev oy:Stmt:=top 48
noncomputable abbrev ZpP:List Str:=["entry","cost","level"]
theorem su:FnScope ZpP ["entry"] (aD oy):=⟨rfl,rfl,rfl,by decide +kernel,rfl,by decide +kernel,by decide +kernel⟩
noncomputable abbrev mw:Stmt:=top 49
noncomputable abbrev lY:List Str:=["table"]
theorem ZgB:FnScope lY ["table"] (aD mw):=⟨rfl,rfl,rfl,by decide +kernel,rfl,by decide +kernel,by decide +kernel⟩
noncomputable abbrev oM:Stmt:=top 51
noncomputable abbrev Zp1:List Str:=["_law_script"]
theorem ZgL:FnScope Zp1 ["_law_script"] (aD oM):=⟨rfl,rfl,rfl,by decide +kernel,rfl,by decide +kernel,by decide +kernel⟩
noncomputable abbrev oR:Stmt:=top 52
noncomputable abbrev Zp5:List Str:=["_law_pen_here","_law_most","_law_cells","_law_at","_law_cell","_law_prime","_law_mixed","_law_found"]
theorem g9:FnScope Zp5 ["_law_pen_here","_law_most"] (aD oR):=⟨rfl,rfl,rfl,by decide +kernel,rfl,by decide +kernel,by decide +kernel⟩
noncomputable abbrev oN:Stmt:=top 53
noncomputable abbrev Zp2:List Str:=["_law_pen_here","_law_way","_law_number_here"]
theorem sB:FnScope Zp2 ["_law_pen_here"] (aD oN):=⟨rfl,rfl,rfl,by decide +kernel,rfl,by decide +kernel,by decide +kernel⟩
noncomputable abbrev oS:Stmt:=top 54
noncomputable abbrev Zp6:List Str:=["_law_one","_law_other"]
theorem oq:FnScope Zp6 ["_law_one","_law_other"] (aD oS):=⟨rfl,rfl,rfl,by decide +kernel,rfl,by decide +kernel,by decide +kernel⟩
noncomputable abbrev oO:Stmt:=top 55
noncomputable abbrev Zp3:List Str:=["_law_top","_law_bottom","_law_both"]
theorem Zbc:FnScope Zp3 ["_law_top","_law_bottom"] (aD oO):=⟨rfl,rfl,rfl,by decide +kernel,rfl,by decide +kernel,by decide +kernel⟩
noncomputable abbrev mF:Stmt:=top 56
noncomputable abbrev rq:List Str:=["_law_word","_law_figures"]
theorem sA:FnScope rq ["_law_word"] (aD mF):=⟨rfl,rfl,rfl,by decide +kernel,rfl,by decide +kernel,by decide +kernel⟩
noncomputable abbrev mG:Stmt:=top 57
noncomputable abbrev rz:List Str:=["_law_text","_law_found","_law_word","_law_numbers"]
theorem ot:FnScope rz ["_law_text"] (aD mG):=⟨rfl,rfl,rfl,by decide +kernel,rfl,by decide +kernel,by decide +kernel⟩
noncomputable abbrev oP:Stmt:=top 58
noncomputable abbrev ZeN:List Str:=["_law_read","_law_text","_law_caught","_law_found","e"]
theorem mv:FnScope ZeN ["_law_read","_law_text"] (aD oP):=⟨rfl,rfl,rfl,by decide +kernel,rfl,by decide +kernel,by decide +kernel⟩
noncomputable abbrev oK:Stmt:=top 59
noncomputable abbrev Zp0:List Str:=["_law_read","_law_text","_law_due"]
theorem ZgK:FnScope Zp0 ["_law_read","_law_text","_law_due"] (aD oK):=⟨rfl,rfl,rfl,by decide +kernel,rfl,by decide +kernel,by decide +kernel⟩
noncomputable abbrev oU:Stmt:=top 60
noncomputable abbrev Zp7:List Str:=["_law_pen_here","_law_text","_law_way","_law_at","_law_signs","_law_own","_law_sign","_law_between","_law_words","_law_one","_law_odd"]
theorem fV:FnScope Zp7 ["_law_pen_here","_law_text"] (aD oU):=⟨rfl,rfl,rfl,by decide +kernel,rfl,by decide +kernel,by decide +kernel⟩
noncomputable abbrev kS:Stmt:=top 61
noncomputable abbrev ku:List Str:=["_law_days","_law_found"]
theorem Zba:FnScope ku ["_law_days"] (aD kS):=⟨rfl,rfl,rfl,by decide +kernel,rfl,by decide +kernel,by decide +kernel⟩
noncomputable abbrev oQ:Stmt:=top 62
noncomputable abbrev Zp4:List Str:=["_law_days","_law_one"]
theorem Zbd:FnScope Zp4 ["_law_days"] (aD oQ):=⟨rfl,rfl,rfl,by decide +kernel,rfl,by decide +kernel,by decide +kernel⟩
noncomputable abbrev mE:Stmt:=top 63
noncomputable abbrev rp:List Str:=["_law_text","_law_numbers"]
theorem Zbb:FnScope rp ["_law_text"] (aD mE):=⟨rfl,rfl,rfl,by decide +kernel,rfl,by decide +kernel,by decide +kernel⟩
noncomputable abbrev oI:Stmt:=top 64
noncomputable abbrev ZpY:List Str:=["_law_text","_law_found","_law_line","_law_day","_law_word","_law_parts","_law_cost"]
theorem jD:FnScope ZpY ["_law_text"] (aD oI):=⟨rfl,rfl,rfl,by decide +kernel,rfl,by decide +kernel,by decide +kernel⟩
noncomputable abbrev oJ:Stmt:=top 65
noncomputable abbrev ZpZ:List Str:=["_law_pen_here","_law_top","_law_bottom"]
theorem sy:FnScope ZpZ ["_law_pen_here"] (aD oJ):=⟨rfl,rfl,rfl,by decide +kernel,rfl,by decide +kernel,by decide +kernel⟩
noncomputable abbrev hI:Stmt:=top 66
noncomputable abbrev d6:List Str:=["_law_pen_here","_law_shop","_law_days","_law_k","_law_rule","_law_lines","_law_some","_law_found","_law_wide"]
theorem fh:FnScope d6 ["_law_pen_here"] (aD hI):=⟨rfl,rfl,rfl,by decide +kernel,rfl,by decide +kernel,by decide +kernel⟩
noncomputable abbrev oV:Stmt:=top 67
noncomputable abbrev Zp8:List Str:=["_law_text","_law_days","_law_rows","_law_read","_law_show","_law_due"]
theorem jE:FnScope Zp8 ["_law_text"] (aD oV):=⟨rfl,rfl,rfl,by decide +kernel,rfl,by decide +kernel,by decide +kernel⟩
noncomputable abbrev kQ:Stmt:=top 68
noncomputable abbrev rl:List Str:=["_law_script","_law_pen_here","_law_turn","_law_text","_law_one"]
theorem mr:FnScope rl ["_law_script"] (aD kQ):=⟨rfl,rfl,rfl,by decide +kernel,rfl,by decide +kernel,by decide +kernel⟩
structure Txt (K:PySem.W.Frag) (mg:Str->Option Value):Prop where
 c8:mg "len"=none
 iY:mg "abs"=none
 tR:mg "max"=none
 Zcp:mg "min"=none
 Zco:mg "repr"=none
 mV:mg "int"=none
 ZiF:mg "list"=none
 cS:mg "tuple"=none
 fI:mg "str"=none
 ZiH:mg "bool"=none
 ic:mg "range"=none
 gf:mg "isinstance"=none
 pT:mg "all"=none
 ZiI:mg "any"=none
 ZiJ:mg "ValueError"=none
 ZiG:mg "divmod"=none
 ZjT:∃ t,mg "TOP"=some (.int 0 t)
 Zj3:∃ t,mg "DEPTH"=some (.int 1 t)
 ZjU:∃ t,mg "SHOP_NUMBERS"=some (.int 9 t)
 ZjY:∃ t,mg "MOST_REACH"=some (.int 39 t)
 ZjZ:∃ t,mg "MOST_PRICE"=some (.int 1000000 t)
 ZjW:∃ t,mg "MOST_WEIGHTS"=some (.int 8 t)
 ZjX:∃ t,mg "MOST_WEIGHT"=some (.int 1000 t)
 Zj1:∃ t,mg "MOST_DAYS"=some (.int 6 t)
 Zj0:∃ t,mg "MOST_FIGURES"=some (.int 400 t)
 ZjV:∃ t,mg "PART_FIGURES"=some (.int 64 t)
 Zj2:∃ t,mg "FIGURES"=some (.str "0123456789" t)
 ZcW:∃ t,mg "PART"=some (.int 10000000000000000000000000000000000000000000000000000000000000000 t)
 Zoh:Def K mg "is_whole" oE ["thing"]
 Zog:Def K mg "is_whole_within" oD ["thing","lowest","highest"]
 Zoo:Def K mg "common_divisor" oG ["one","other"]
 Zoj:Def K mg "is_share" oF ["thing"]
 Zoi:Def K mg "is_shop" mB ["thing"]
 Zom:Def K mg "is_day" kR ["thing"]
 Zol:Def K mg "is_falls" mD ["thing"]
 ZdR:Def K mg "ask_text" oH ["thing"]
 Zok:Def K mg "is_number" mC ["word"]
 ZdP:Def K mg "read_number" oz ["word"]
 uL:Def K mg "read_shop" kN ["text"]
 uN:Def K mg "read_rule" kP ["text"]
 uO:Def K mg "read_falls" oA ["text"]
 uM:Def K mg "read_share" kO ["text"]
 ZdQ:Def K mg "read_entry" oB ["word"]
 uK:Def K mg "read_table" kM ["text"]
 Zob:Def K mg "show_number" ow ["number"]
 ZdL:Def K mg "show_shop" mx ["shop"]
 ZdN:Def K mg "show_rule" my ["rule"]
 ZdO:Def K mg "show_falls" ox ["falls"]
 ZdM:Def K mg "show_share" ou ["one"]
 Zoc:Def K mg "show_entry" oy ["entry"]
 ZdK:Def K mg "show_table" mw ["table"]
 Zov:Def K mg "_law_pen" oM ["_law_script"]
 ZoB:Def K mg "_law_draw" oR ["_law_pen_here","_law_most"]
 Zox:Def K mg "_law_number" oN ["_law_pen_here"]
 ZoC:Def K mg "_law_divisor" oS ["_law_one","_law_other"]
 Zoy:Def K mg "_law_lowest" oO ["_law_top","_law_bottom"]
 Zow:Def K mg "_law_number_of" mF ["_law_word"]
 ZoD:Def K mg "_law_days_of" mG ["_law_text"]
 Zoz:Def K mg "_law_heard" oP ["_law_read","_law_text"]
 Zou:Def K mg "_law_right" oK ["_law_read","_law_text","_law_due"]
 ZoE:Def K mg "_law_bent_text" oU ["_law_pen_here","_law_text"]
 Zor:Def K mg "_law_shop_of" kS ["_law_days"]
 ZoA:Def K mg "_law_falls_of" oQ ["_law_days"]
 Zot:Def K mg "_law_share_of" mE ["_law_text"]
 Zoq:Def K mg "_law_table_of" oI ["_law_text"]
 Zos:Def K mg "_law_share_text" oJ ["_law_pen_here"]
 Zop:Def K mg "_law_texts" hI ["_law_pen_here"]
 ZoF:Def K mg "_law_all_right" oV ["_law_text"]
 Zof:Def K mg "law" kQ ["_law_script"]
 Zff:∃ C D a0 a1 a2 a3 a4 a5 a6:Addr,mg "NoText"=some (.ref C)/\mg "ShopError"=some (.ref D)/\mg "NoBack"=some (.ref a0)/\mg "NoFall"=some (.ref a1)/\mg "NoLevel"=some (.ref a2)/\mg "NoMean"=some (.ref a3)/\mg "NoRow"=some (.ref a4)/\mg "NoShare"=some (.ref a5)/\mg "NoStand"=some (.ref a6)/\Exc K C D [a0,a1,a2,a3,a4,a5,a6]
theorem ZnE {K:PySem.W.Frag} {mg:Str->Option Value} {h:Heap} {C D a0 a1 a2 a3 a4 a5 a6:Addr} (X:K.In h) (G:h.Ns mainGlobals mg)
  (c:PySem.W.nsIn K mainGlobals "NoText"=some (some (.ref C))) (d:PySem.W.nsIn K mainGlobals "ShopError"=some (some (.ref D)))
  (z0:PySem.W.nsIn K mainGlobals "NoBack"=some (some (.ref a0))) (z1:PySem.W.nsIn K mainGlobals "NoFall"=some (some (.ref a1))) (z2:PySem.W.nsIn K mainGlobals "NoLevel"=some (some (.ref a2))) (z3:PySem.W.nsIn K mainGlobals "NoMean"=some (some (.ref a3))) (z4:PySem.W.nsIn K mainGlobals "NoRow"=some (some (.ref a4))) (z5:PySem.W.nsIn K mainGlobals "NoShare"=some (some (.ref a5))) (z6:PySem.W.nsIn K mainGlobals "NoStand"=some (some (.ref a6)))
  (q:gz K C eW "ValueError.__new__"=true) (q2:gz K D eW "ValueError.__new__"=true) (u:pV K C D=true) (v:PySem.W.kitOne K (.ref C) (.type "ValueError")=some true) (y:PySem.W.kitAny K (.ref C) [.ref a0,.ref a1,.ref a2,.ref a3,.ref a4,.ref a5,.ref a6]=some false) :
  ∃ C D a0 a1 a2 a3 a4 a5 a6:Addr,mg "NoText"=some (.ref C)/\mg "ShopError"=some (.ref D)/\mg "NoBack"=some (.ref a0)/\mg "NoFall"=some (.ref a1)/\mg "NoLevel"=some (.ref a2)/\mg "NoMean"=some (.ref a3)/\mg "NoRow"=some (.ref a4)/\mg "NoShare"=some (.ref a5)/\mg "NoStand"=some (.ref a6)/\Exc K C D [a0,a1,a2,a3,a4,a5,a6] :=
 ⟨C,D,a0,a1,a2,a3,a4,a5,a6,PySem.W.mg_of X G c,PySem.W.mg_of X G d,PySem.W.mg_of X G z0,PySem.W.mg_of X G z1,PySem.W.mg_of X G z2,PySem.W.mg_of X G z3,PySem.W.mg_of X G z4,PySem.W.mg_of X G z5,PySem.W.mg_of X G z6,Zki X q q2 u v y⟩
theorem Zfw {K:PySem.W.Frag} {mg:Str->Option Value} {h:Heap} (X:K.In h) (G:h.Ns mainGlobals mg)
  (z_len:PySem.W.nsIn K mainGlobals "len"=some none)
  (z_abs:PySem.W.nsIn K mainGlobals "abs"=some none)
  (z_max:PySem.W.nsIn K mainGlobals "max"=some none)
  (z_min:PySem.W.nsIn K mainGlobals "min"=some none)
  (z_repr:PySem.W.nsIn K mainGlobals "repr"=some none)
  (z_int:PySem.W.nsIn K mainGlobals "int"=some none)
  (z_list:PySem.W.nsIn K mainGlobals "list"=some none)
  (z_tuple:PySem.W.nsIn K mainGlobals "tuple"=some none)
  (z_str:PySem.W.nsIn K mainGlobals "str"=some none)
  (z_bool:PySem.W.nsIn K mainGlobals "bool"=some none)
  (z_range:PySem.W.nsIn K mainGlobals "range"=some none)
  (z_isinstance:PySem.W.nsIn K mainGlobals "isinstance"=some none)
  (z_all:PySem.W.nsIn K mainGlobals "all"=some none)
  (z_any:PySem.W.nsIn K mainGlobals "any"=some none)
  (z_ValueError:PySem.W.nsIn K mainGlobals "ValueError"=some none)
  (z_divmod:PySem.W.nsIn K mainGlobals "divmod"=some none)
  {t_TOP:Tok} (z_TOP:PySem.W.nsIn K mainGlobals "TOP"=some (some (.int 0 t_TOP)))
  {t_DEPTH:Tok} (z_DEPTH:PySem.W.nsIn K mainGlobals "DEPTH"=some (some (.int 1 t_DEPTH)))
  {t_SHOP_NUMBERS:Tok} (z_SHOP_NUMBERS:PySem.W.nsIn K mainGlobals "SHOP_NUMBERS"=some (some (.int 9 t_SHOP_NUMBERS)))
  {t_MOST_REACH:Tok} (z_MOST_REACH:PySem.W.nsIn K mainGlobals "MOST_REACH"=some (some (.int 39 t_MOST_REACH)))
  {t_MOST_PRICE:Tok} (z_MOST_PRICE:PySem.W.nsIn K mainGlobals "MOST_PRICE"=some (some (.int 1000000 t_MOST_PRICE)))
  {t_MOST_WEIGHTS:Tok} (z_MOST_WEIGHTS:PySem.W.nsIn K mainGlobals "MOST_WEIGHTS"=some (some (.int 8 t_MOST_WEIGHTS)))
  {t_MOST_WEIGHT:Tok} (z_MOST_WEIGHT:PySem.W.nsIn K mainGlobals "MOST_WEIGHT"=some (some (.int 1000 t_MOST_WEIGHT)))
  {t_MOST_DAYS:Tok} (z_MOST_DAYS:PySem.W.nsIn K mainGlobals "MOST_DAYS"=some (some (.int 6 t_MOST_DAYS)))
  {t_MOST_FIGURES:Tok} (z_MOST_FIGURES:PySem.W.nsIn K mainGlobals "MOST_FIGURES"=some (some (.int 400 t_MOST_FIGURES)))
  {t_PART_FIGURES:Tok} (z_PART_FIGURES:PySem.W.nsIn K mainGlobals "PART_FIGURES"=some (some (.int 64 t_PART_FIGURES)))
  {t_FIGURES:Tok} (z_FIGURES:PySem.W.nsIn K mainGlobals "FIGURES"=some (some (.str "0123456789" t_FIGURES)))
  {t_PART:Tok} (z_PART:PySem.W.nsIn K mainGlobals "PART"=some (some (.int 10000000000000000000000000000000000000000000000000000000000000000 t_PART)))
  (z_is_whole:Def K mg "is_whole" oE ["thing"])
  (z_is_whole_within:Def K mg "is_whole_within" oD ["thing","lowest","highest"])
  (z_common_divisor:Def K mg "common_divisor" oG ["one","other"])
  (z_is_share:Def K mg "is_share" oF ["thing"])
  (z_is_shop:Def K mg "is_shop" mB ["thing"])
  (z_is_day:Def K mg "is_day" kR ["thing"])
  (z_is_falls:Def K mg "is_falls" mD ["thing"])
  (z_ask_text:Def K mg "ask_text" oH ["thing"])
  (z_is_number:Def K mg "is_number" mC ["word"])
  (z_read_number:Def K mg "read_number" oz ["word"])
  (z_read_shop:Def K mg "read_shop" kN ["text"])
  (z_read_rule:Def K mg "read_rule" kP ["text"])
  (z_read_falls:Def K mg "read_falls" oA ["text"])
  (z_read_share:Def K mg "read_share" kO ["text"])
  (z_read_entry:Def K mg "read_entry" oB ["word"])
  (z_read_table:Def K mg "read_table" kM ["text"])
  (z_show_number:Def K mg "show_number" ow ["number"])
  (z_show_shop:Def K mg "show_shop" mx ["shop"])
  (z_show_rule:Def K mg "show_rule" my ["rule"])
  (z_show_falls:Def K mg "show_falls" ox ["falls"])
  (z_show_share:Def K mg "show_share" ou ["one"])
  (z_show_entry:Def K mg "show_entry" oy ["entry"])
  (z_show_table:Def K mg "show_table" mw ["table"])
  (z__law_pen:Def K mg "_law_pen" oM ["_law_script"])
  (z__law_draw:Def K mg "_law_draw" oR ["_law_pen_here","_law_most"])
  (z__law_number:Def K mg "_law_number" oN ["_law_pen_here"])
  (z__law_divisor:Def K mg "_law_divisor" oS ["_law_one","_law_other"])
  (z__law_lowest:Def K mg "_law_lowest" oO ["_law_top","_law_bottom"])
  (z__law_number_of:Def K mg "_law_number_of" mF ["_law_word"])
  (z__law_days_of:Def K mg "_law_days_of" mG ["_law_text"])
  (z__law_heard:Def K mg "_law_heard" oP ["_law_read","_law_text"])
  (z__law_right:Def K mg "_law_right" oK ["_law_read","_law_text","_law_due"])
  (z__law_bent_text:Def K mg "_law_bent_text" oU ["_law_pen_here","_law_text"])
  (z__law_shop_of:Def K mg "_law_shop_of" kS ["_law_days"])
  (z__law_falls_of:Def K mg "_law_falls_of" oQ ["_law_days"])
  (z__law_share_of:Def K mg "_law_share_of" mE ["_law_text"])
  (z__law_table_of:Def K mg "_law_table_of" oI ["_law_text"])
  (z__law_share_text:Def K mg "_law_share_text" oJ ["_law_pen_here"])
  (z__law_texts:Def K mg "_law_texts" hI ["_law_pen_here"])
  (z__law_all_right:Def K mg "_law_all_right" oV ["_law_text"])
  (z_law:Def K mg "law" kQ ["_law_script"])
  (z_err:∃ C D a0 a1 a2 a3 a4 a5 a6:Addr,mg "NoText"=some (.ref C)/\mg "ShopError"=some (.ref D)/\mg "NoBack"=some (.ref a0)/\mg "NoFall"=some (.ref a1)/\mg "NoLevel"=some (.ref a2)/\mg "NoMean"=some (.ref a3)/\mg "NoRow"=some (.ref a4)/\mg "NoShare"=some (.ref a5)/\mg "NoStand"=some (.ref a6)/\Exc K C D [a0,a1,a2,a3,a4,a5,a6])
  : Txt K mg:=⟨PySem.W.mg_none_of X G z_len,PySem.W.mg_none_of X G z_abs,PySem.W.mg_none_of X G z_max,PySem.W.mg_none_of X G z_min,PySem.W.mg_none_of X G z_repr,PySem.W.mg_none_of X G z_int,PySem.W.mg_none_of X G z_list,PySem.W.mg_none_of X G z_tuple,PySem.W.mg_none_of X G z_str,PySem.W.mg_none_of X G z_bool,PySem.W.mg_none_of X G z_range,PySem.W.mg_none_of X G z_isinstance,PySem.W.mg_none_of X G z_all,PySem.W.mg_none_of X G z_any,PySem.W.mg_none_of X G z_ValueError,PySem.W.mg_none_of X G z_divmod,⟨_,PySem.W.mg_of X G z_TOP⟩,⟨_,PySem.W.mg_of X G z_DEPTH⟩,⟨_,PySem.W.mg_of X G z_SHOP_NUMBERS⟩,⟨_,PySem.W.mg_of X G z_MOST_REACH⟩,⟨_,PySem.W.mg_of X G z_MOST_PRICE⟩,⟨_,PySem.W.mg_of X G z_MOST_WEIGHTS⟩,⟨_,PySem.W.mg_of X G z_MOST_WEIGHT⟩,⟨_,PySem.W.mg_of X G z_MOST_DAYS⟩,⟨_,PySem.W.mg_of X G z_MOST_FIGURES⟩,⟨_,PySem.W.mg_of X G z_PART_FIGURES⟩,⟨_,PySem.W.mg_of X G z_FIGURES⟩,⟨_,PySem.W.mg_of X G z_PART⟩,z_is_whole,z_is_whole_within,z_common_divisor,z_is_share,z_is_shop,z_is_day,z_is_falls,z_ask_text,z_is_number,z_read_number,z_read_shop,z_read_rule,z_read_falls,z_read_share,z_read_entry,z_read_table,z_show_number,z_show_shop,z_show_rule,z_show_falls,z_show_share,z_show_entry,z_show_table,z__law_pen,z__law_draw,z__law_number,z__law_divisor,z__law_lowest,z__law_number_of,z__law_days_of,z__law_heard,z__law_right,z__law_bent_text,z__law_shop_of,z__law_falls_of,z__law_share_of,z__law_table_of,z__law_share_text,z__law_texts,z__law_all_right,z_law,z_err⟩
theorem ZhG (a:Nat):∃ pr:Int,bx [V.int 2147483647,V.int 2147483629,V.int 2147483587,V.int 2147483579,V.int 2147483563,V.int 2147483549,V.int 2147483543] ((a:Int) % 7)=some (.int pr)/\2147483542 < pr/\pr<=2147483647:=by
 have e:(a:Int) % 7=((a % 7:Nat):Int):=by omega
 rw [e]
 have h:a % 7 < 7:=Nat.mod_lt _ (by decide)
 generalize a % 7=b at h
 match b,h with
 | 0,_=>exact ⟨_,dB rfl,by decide,by decide⟩
 | 1,_=>exact ⟨_,dB rfl,by decide,by decide⟩
 | 2,_=>exact ⟨_,dB rfl,by decide,by decide⟩
 | 3,_=>exact ⟨_,dB rfl,by decide,by decide⟩
 | 4,_=>exact ⟨_,dB rfl,by decide,by decide⟩
 | 5,_=>exact ⟨_,dB rfl,by decide,by decide⟩
 | 6,_=>exact ⟨_,dB rfl,by decide,by decide⟩
theorem ZoO (ns:List Int) (a:Nat) (h:ns≠[]):∃ z:Int,bx (ns.map V.int) ((a:Int) % ((ns.map V.int).length:Nat))=some (.int z):=by
 have hl:0 < ns.length:=List.length_pos_iff.mpr h
 have hl':(ns.map V.int).length=ns.length:=List.length_map ..
 have e:(a:Int) % ((ns.map V.int).length:Nat)=((a % ns.length:Nat):Int):=by rw [hl']; omega
 have hlt:a % ns.length < ns.length:=Nat.mod_lt _ hl
 rw [e]
 exact ⟨ns[a % ns.length],dB (by rw [List.getElem?_map,List.getElem?_eq_getElem hlt]; rfl)⟩
theorem Zpk {r pr a:Int} (h0:0<=r) (h1:r < pr) (h2:pr<=2147483647) (h3:0<=a) (h4:a<=500000):((r+7919) * (2 * a+3)+104729 * a+5).natAbs < 2 ^ 64:=by
 have p0:0<=(r+7919) * (2 * a+3):=Int.mul_nonneg (by omega) (by omega)
 have p1:(r+7919) * (2 * a+3)<=2147491566 * 1000003:=Int.mul_le_mul (by omega) (by omega) (by omega) (by omega)
 omega
section
variable {P:Program} {w:World} {K:PySem.W.Frag} {mg:Str->Option Value} {base:Heap}
theorem Zip (T:Txt K mg):Callee P w K mg base "_law_pen" 1 ["_law_script"] (Zgg K):=by
 refine T.Zov.ok ZgL (λvs H Q E h=>?_) (λf cdv A outer s H vs Q E hr h=>?_)
 ·obtain ⟨a,ns,rfl,_⟩:=h
  rfl
 ·obtain ⟨a,ns,rfl,hS,hlen,k⟩:=h
  have hu:=ut hr
  refine ⟨_,(fF (fX (ZhX (tm dR (bP (ZoR) rfl T.ZiF boot_list (aN (Zb2 ZaV (pv 0) ZbV (ZbU cq)) bp)) (tm dR cq (tm dR cq ZhH))) rfl rfl (by simp) (by decide)))),?_⟩
  intro p hp
  have s0:Same H (upd H p (.dK [])):=(Same.refl H).new hp
  refine ⟨_,rfl,63,rfl,a,_,rfl,s0.seq hS,λq hq=>⟨q,_,rfl,Or.inl (SqL.of bM),λc hc=>?_⟩⟩
  have s1:Same (upd H p (.dK [])) (upd (upd H p (.dK [])) q (.lst (fo (ns.map V.int) none (some 63)))):=(Same.refl _).new hq
  have s2:Same (upd H p (.dK [])) (upd (upd (upd H p (.dK [])) q (.lst (fo (ns.map V.int) none (some 63)))) c (.lst (fo (ns.map V.int) none (some 63)))):=s1.new hc
  have hcut:fo (ns.map V.int) none (some 63)=ns.map V.int:=by
   unfold fo
   have e:HT.aQ (ns.map V.int).length (ns.map V.int).length (some 63)=(ns.map V.int).length:=by
    have q:=HT.ZgU (ns.map V.int).length (ns.map V.int).length 63
    rw [List.length_map] at q ⊢
    exact q.trans (Nat.min_eq_right hlen)
   rw [e]
   show ((ns.map V.int).drop 0).take ((ns.map V.int).length - 0)=_
   rw [List.drop_zero,Nat.sub_zero,List.take_length]
  have hpc:c≠p:=λz=>by
   have q:=s1 p _ bM
   rw [z,q] at hc
   cases hc
  refine ⟨s2 _ _ bM,bU c 0 0,rfl,(by show 3<=15; decide),?_⟩
  refine k p c _ hp ⟨⟨0,0,?_,Nat.le_refl _,Int.le_refl _⟩,?_,hlen⟩ λb o e=>?_
  ·rw [bM]
   rfl
  ·rw [aO hpc,bM,hcut]
  ·rw [aO (dG e hp)]
   exact s2 b o (s0 b o e)
theorem Zir (T:Txt K mg):Callee P w K mg base "_law_draw" 1 ["_law_pen_here","_law_most"] ZaO:=by
 refine T.ZoB.ok g9 (λvs H Q E h=>?_) (λf cdv A outer s H vs Q E hr h=>?_)
 ·obtain ⟨p,c,ns,m,most,rfl,_⟩:=h
  rfl
 ·obtain ⟨p,c,ns,m,most,rfl,hP,hm,h0,h1,k⟩:=h
  have hu:=ut hr
  refine ⟨_,(cG (aZ (i:=2) g9.nd rfl (Or.inl rfl) (mQ hu (pv 0) dR (λ_ _=>rfl)))
 (cG (aZ (i:=3) g9.nd rfl (Or.inl rfl) (mQ hu (pv 0) dR (λ_ _=>rfl)))
 (cG (PS.join (iT (mO Zch (mQ hu (pv 0) dR (λ_ _=>rfl)) cq (nomark _)) (cG (tj hu (pv 0) dR (cm ib (pv 3) cq) rfl)
 (cG (aZ (i:=4) g9.nd rfl (Or.inl rfl) cq)
 (cG (PS.join (iT (mO (Zcc hr) (pv 2) (jI bp) (nomark _)) (fF (aZ (i:=4) g9.nd rfl (Or.inl rfl) (tw uh (pv 2) (cm iV (pv 3) (bc (kd) rfl T.c8 boot_len (aN (pv 2) bp))) (λ_ _=>rfl)))) jH))
 (cG (iT (PT.join (PW.pt (sX (mO Zce (pv 3) (bc (kd) rfl T.c8 boot_len (aN (pv 2) bp)) (nomark _)) (sW (mO hZ (bc (ji) rfl T.iY boot_abs (aN (pv 4) bp)) (cm k7 cq cq) (nomark _)))))) (cG (aZ (i:=5) g9.nd rfl (Or.inl rfl) (tw uh (jI (aN cq (aN cq (aN cq (aN cq (aN cq (aN cq (aN cq bp)))))))) (cm iV (pv 3) cq) (λ_ _=>rfl)))
 (cG (aZ (i:=6) g9.nd rfl (Or.inl rfl) (cm iV (cm k7 (cm ib (cm ib (cm mS (cm ib (cm iV (pv 4) (pv 5)) cq) (cm ib (cm mS cq (pv 3)) cq)) (cm mS cq (pv 3))) cq) cq) (pv 5)))
 (cG (aZ (i:=6) g9.nd rfl (Or.inl rfl) (cm iV (cm ib (cm mS (pv 6) (cm ib (cm ib (cm iV (pv 6) cq) (pv 3)) cq)) (cm mS cq (pv 3))) cq))
 (fF (fX (cm iV (cm Zcg (pv 6) cq) (pv 1))))))) jH)
 (fF (tj hu (pv 0) dR (bc (ji) rfl T.iY boot_abs (aN (pv 4) bp)) rfl)))))) jH))
 (cG (aZ (i:=7) g9.nd rfl (Or.inl rfl) (cm iV (mQ hu (pv 0) dR (λ_ _=>rfl)) (pv 1)))
 (cG (tj hu (pv 0) dR (cm Zcg (mQ hu (pv 0) dR (λ_ _=>rfl)) (pv 1)) rfl)
 (fF (fX (pv 7)))))))),?_⟩
  obtain ⟨⟨a,l,hd,ha,hl⟩,hc,hn⟩:=hP
  have npc:c≠p:=tO hc hd (by intro z; cases z)
  refine ⟨_,rfl,p,_,rfl,Zn6 hd,?_⟩
  refine ⟨_,rfl,p,_,rfl,Zn7 hd,?_⟩
  refine ⟨λσ' H'=>∃ (v4:Option V) (a':Nat) (l':Int),σ'=[some (.ref p),some (.int most),some (.ref c),some (.int a),v4,none,none,none]/\H' p=some (.dK (bU c a' l'))/\a'<=m+1/\0<=l'/\H' c=some (.lst (ns.map V.int))/\Kept p H H',?_,?_⟩
  ·refine ⟨_,rfl,p,_,rfl,uI hd,rfl,_,rfl,?_⟩
   refine qe (λhz=>?_) (λhz=>?_)
   ·refine ⟨_,rfl,_,_,rfl,rfl,_,rfl,p,_,rfl,Zn0 hd,?_⟩
    have hd1:(upd H p (.dK (bU c ((a:Int)+1) l))) p=some (.dK (bU c ((a+1:Nat):Int) l)):=by
     rw [bM]
     rfl
    have hc1:(upd H p (.dK (bU c ((a:Int)+1) l))) c=some (.lst (ns.map V.int)):=by
     rw [aO npc]
     exact hc
    have k1:Kept p H (upd H p (.dK (bU c ((a:Int)+1) l))):=Kept.refl.pen
    refine ⟨λσ' H'=>∃ (z:Int),σ'=[some (.ref p),some (.int most),some (.ref c),some (.int a),some (.int z),none,none,none]/\H' p=some (.dK (bU c ((a+1:Nat):Int) l))/\H' c=some (.lst (ns.map V.int))/\Kept p H H',?_,?_⟩
    ·refine ⟨_,rfl,Nat.zero_le _,λq hq=>?_⟩
     have hc2:=hc1
     have nq:∀ {b:Addr} {o:HO},(upd H p (.dK (bU c ((a:Int)+1) l))) b=some o->(upd (upd H p (.dK (bU c ((a:Int)+1) l))) q (.lst [])) b=some o:=λe=>by
      rw [aO (dG e hq)]
      exact e
     refine ⟨_,_,.lst (nq hc1) (DnAll.ints ns),.lst bM .nil,Za2 ns,Za2 [],_,rfl,?_⟩
     rw [ZnG]
     refine qe (λhne=>?_) (λ_=>?_)
     ·have hne':ns≠[]:=by
       rintro rfl
       cases hne
      obtain ⟨z,hz2⟩:=ZoO ns a hne'
      have hpos:0 < (((ns.map V.int).length:Nat):Int):=by
       rw [List.length_map]
       have:=List.length_pos_iff.mpr hne'
       omega
      refine ⟨_,rfl,_,rfl,_,rfl,c,_,rfl,.inl (SqL.of (nq hc1)),_,_,rfl,rfl,hpos,c,_,_,_,rfl,rfl,SqL.of (nq hc1),hz2,?_⟩
      exact ⟨z,rfl,nq hd1,nq hc1,k1.new hq⟩
     ·exact ⟨17,rfl,nq hd1,nq hc1,k1.new hq⟩
    ·rintro σ2 H2 ⟨z,rfl,hd2,hc2,k2⟩
     refine ⟨λ_ H'=>H'=H2,?_,?_⟩
     ·refine ⟨_,rfl,_,rfl,c,_,rfl,.inl (SqL.of hc2),_,_,rfl,rfl,_,rfl,?_⟩
      refine qe (λ_=>rfl) (λ_=>?_)
      refine ⟨_,rfl,z,rfl,_,_,rfl,rfl,⟨by decide,by decide,by decide⟩,_,_,rfl,rfl,_,rfl,rfl⟩
     ·rintro b H3 rfl
      refine qe (λ_=>?_) (λ_=>?_)
      ·refine ⟨by show 7<=sizeLine; decide,λq hq=>?_⟩
       obtain ⟨pr,hpr,g1,g2⟩:=ZhG a
       refine ⟨_,rfl,_,_,rfl,rfl,(by show (0:Int) < 7; decide),q,_,_,_,rfl,rfl,SqL.of bM,hpr,?_⟩
       have r0:0<=z % pr:=Int.emod_nonneg _ (by omega)
       have r1:z % pr < pr:=Int.emod_lt_of_pos _ (by omega)
       refine ⟨_,rfl,_,rfl,_,_,rfl,rfl,(by show (0:Int) < pr; omega),_,_,rfl,rfl,_,rfl,_,_,rfl,rfl,.inl ⟨by decide,by decide⟩,_,_,rfl,rfl,_,_,rfl,rfl,.inr ⟨by omega,by omega⟩,_,rfl,_,_,rfl,rfl,.inl ⟨by decide,by decide⟩,_,_,rfl,rfl,_,_,rfl,rfl,_,_,rfl,rfl,⟨by decide,by decide,Zpk r0 r1 g2 (by omega) (by omega)⟩,_,rfl,_,_,rfl,rfl,(by show (0:Int) < pr; omega),?_⟩
       generalize hM:(((z % pr+7919) * (2 * (a:Int)+3)+104729 * (a:Int)+5) ^ (5:Int).toNat) % pr=M
       have m0:0<=M:=by rw [<- hM]; exact Int.emod_nonneg _ (by omega)
       have m1:M < pr:=by rw [<- hM]; exact Int.emod_lt_of_pos _ (by omega)
       refine ⟨_,rfl,_,rfl,_,_,rfl,rfl,(by show (0:Int) < 65521; decide),_,rfl,_,_,rfl,rfl,_,_,rfl,rfl,_,_,rfl,rfl,.inl ⟨by omega,by omega⟩,_,rfl,_,_,rfl,rfl,.inl ⟨by decide,by decide⟩,_,_,rfl,rfl,_,_,rfl,rfl,(by show (0:Int) < 2147483497; decide),?_⟩
       refine ⟨_,rfl,_,_,rfl,rfl,⟨by decide,by decide⟩,_,rfl,_,_,rfl,rfl,h0,?_⟩
       refine k _ _ (Int.emod_nonneg _ (by omega)) (Int.emod_lt_of_pos _ h0) ⟨⟨a+1,l,?_,by omega,hl⟩,?_,hn⟩ (k2.new hq)
       ·rw [aO (dG hd2 hq)]
        exact hd2
       ·rw [aO (dG hc2 hq)]
        exact hc2
      ·refine ⟨_,rfl,z,rfl,_,rfl,p,_,rfl,Zdv hd2,?_⟩
       refine ⟨_,a+1,_,rfl,bM,by omega,?_,by rw [aO npc]; exact hc2,k2.pen⟩
       split <;> omega
   ·exact ⟨none,a,l,rfl,hd,by omega,hl,hc,Kept.refl⟩
  ·rintro σ2 H2 ⟨v4,a',l',rfl,hd2,ha2,hl2,hc2,k2⟩
   refine ⟨_,rfl,p,_,rfl,uI hd2,_,rfl,_,_,rfl,rfl,h0,?_⟩
   refine ⟨_,rfl,p,_,rfl,uI hd2,_,rfl,_,_,rfl,rfl,⟨h0,h1⟩,_,rfl,p,_,rfl,Zdv hd2,?_⟩
   refine ⟨_,rfl,?_⟩
   refine k _ _ (Int.emod_nonneg _ (by omega)) (Int.emod_lt_of_pos _ h0) ⟨⟨a',_,bM,ha2,Int.ediv_nonneg hl2 (by omega)⟩,?_,hn⟩ k2.pen
   rw [aO npc]
   exact hc2
end
section
variable {cn:Addr×List Int} {P:Program} {w:World} {K:PySem.W.Frag} {mg:Str->Option Value} {base:Heap}
noncomputable def ll:List Sl->Tr Re:=bo 1 0
 (aW (qY (gX "int" (aa 0)) (vq (gX "bool" (aa 0)))))
theorem uX (T:Txt K mg):ACal (aV cn) P w K mg base "is_whole" 1 ["thing"] ll:=bD T.Zoh ZgG rfl λf cdv A outer sh H E hr=>by
 exact (aE (ba (ZeG (jk (T:="int") (Or.inl rfl) rfl (bc jh rfl T.gf boot_isinstance (aN (ac (pv 0)) (aN (hV (v:=.ty "int") rfl T.mV boot_int rfl) bp)))) (vj (ZpA (jk (T:="bool") (Or.inr (Or.inl rfl)) rfl (bc jh rfl T.gf boot_isinstance (aN (ac (pv 0)) (aN (hV (v:=.ty "bool") rfl T.ZiH boot_bool rfl) bp)))))))))
noncomputable def rN:List Sl->Tr Bool :=
 (cJ (aa 1))
noncomputable def ud:List Sl->Tr Ou :=
 (lQ 0 1 (ai (aa 1) (ai (ah i0 (aa 0) (aa 1)) ao)))
noncomputable def qa:List Sl->Tr Re:=bo 2 0
 (ay (lQ 0 1 (ai (aM iD (ai (aa 0) ao)) (ai (aM iD (ai (aa 1) ao)) ao)))
 (ay (dg rN ud 100000)
 (dO 0)))
theorem Zph (T:Txt K mg):ACal (aV cn) P w K mg base "common_divisor" 1 ["one","other"] qa:=bD T.Zoo sw rfl λf cdv A outer sh H E hr=>by
 exact (aA (u9 (ti (i:=0) (j:=1) rfl sw.nd rfl rfl (by decide) rfl rfl (av (aU (t:=aP) (bc ji rfl T.iY boot_abs (av (ac (pv 0)) au)) kF) (av (aU (t:=aP) (bc ji rfl T.iY boot_abs (av (ac (pv 1)) au)) kF) au)) rfl))
 (aA (u7 100000 PassesOwn.never (cV (ac (pv 1)))
  (aE (u9 (ti (i:=0) (j:=1) rfl sw.nd rfl rfl (by decide) rfl rfl (av (ac (pv 1)) (av (aR pL nZ (ac (pv 0)) (ac (pv 1))) au)) rfl))))
 (aE (gT (pv 0)))))
noncomputable def jY:List Sl->Tr Re:=bo 1 0
 (bE (cA (cJ (gX "str" (aa 0))))
  kj
  bn)
theorem qO (T:Txt K mg):ACal (aV cn) P w K mg base "ask_text" 1 ["thing"] jY:=bD T.ZdR Za9 rfl λf cdv A outer sh H E hr=>by
 exact (aE (bR (cI (cV (jk (T:="str") (Or.inr (Or.inr (Or.inl rfl))) rfl (bc jh rfl T.gf boot_isinstance (aN (ac (pv 0)) (aN (hV (v:=.ty "str") rfl T.fI boot_str rfl) bp))))))
 (aE lL)
 bz))
noncomputable def iJ:List Sl->Tr (Option Re):=eY 1 0
 (iO (cA (cJ (gX "str" (aa 0)))) iL (eL bn))
theorem qG (T:Txt K mg) {C:Addr} (hC:mg "NoText"=some (.ref C)) (xc:Xcl K C eW "ValueError.__new__"):XCal (aV cn) P w K mg base "ask_text" 1 ["thing"] C iJ:=iH T.ZdR Za9 rfl λf cdv A outer sh H E hr=>by
 exact (gx (kz (cI (cV (jk (T:="str") (Or.inr (Or.inr (Or.inl rfl))) rfl (bc jh rfl T.gf boot_isinstance (aN (ac (pv 0)) (aN (hV (v:=.ty "str") rfl T.fI boot_str rfl) bp)))))) (gx (ky (kU F.excBase_ValueError xc rfl hC))) (gy bz)))
noncomputable def pE:List Sl->Tr PyData :=
 (ah (iq false) (aa 0) (aC (.str "0123456789")))
noncomputable def i7:List Sl->Tr Re:=bo 1 1
 (ay (bv 1 (ah jF (aa 0) (aC (.str "-"))))
 (ay (bE (b7 (cA (aT (jn (bG λi j=>decide (i<=j)) (bG λi j=>decide (i<=j)) (aC (.int 1)) (aM cU (ai (aa 1) ao)) (aC (.int 400))))) (cA (cJ (aM kh (ai (bf (b8 (bL (aa 1)) 1 [] (aj 0) pE)) ao)))))
  (aW (aC (.bool false)))
  bn)
 (aW (vp (ah eC (ah bQ (aa 1) (aC (.int 0))) (aC (.str "0"))) (ah dJ (aa 0) (aC (.str "0")))))))
theorem Zel (T:Txt K mg):ACal (aV cn) P w K mg base "is_number" 1 ["word"] i7:=bD T.Zok Za8 rfl λf cdv A outer sh H E hr=>by
 exact (aA (bK (aZ (i:=1) Za8.nd rfl (Or.inl rfl) (cy PySem.F.slot_str_removeprefix PySem.F.type_str_removeprefix ZiM Zfp Zhb (ac (pv 0)) aK)))
 (aA (bR (dL (cH (cI (u3 ia cb ia cb ak (aU (t:=aP) (bc eF rfl T.c8 boot_len (av (ac (pv 1)) au)) ek) (fN rfl T.Zj0))) (eG (cI (cV (aU (t:=aP) (bc (qL rfl) rfl T.pT boot_all (av (bu (cW (cQ rn ["sign"] [] rfl (b6 (ac (pv 1))) (λb=>(bd (a9 (i:=0) (show ((bN rn ["sign"] [])).Nodup by decide +kernel) rfl (Or.inl rfl)))) (λb=>(iC (tJ hr) n0 (ac (pv 0)) (ZpC rfl T.Zj2) (by with_unfolding_all rfl))) rfl (show BlkOk rn (aD mC) _ [] from ⟨rfl,by decide +kernel,by decide +kernel,by decide +kernel,by decide +kernel⟩)) (bO (by decide)))) au)) n6))))))
  (aE (ba fO))
  bz)
 (aE (ba (Zpz (iC (gG hr) gB (cz cx cP (ac (pv 1)) ak (λ_ _=>rfl)) aK (nomark _)) (vj (iC (fH hr) fw (ac (pv 0)) aK (nomark _))))))))
noncomputable def jv:List Sl->Tr Bool :=
 (aT (ah (bG λi j=>decide (i ≥ j)) (aa 2) (aC (.int 10000000000000000000000000000000000000000000000000000000000000000))))
noncomputable def nj:List Sl->Tr Ou :=
 (ay (kl (ka (fk (aj 2) (fk (aj 3) jc))) (aM nD (ai (aa 2) (ai (aC (.int 10000000000000000000000000000000000000000000000000000000000000000)) ao))))
 (gm 1 (ah jt (aM et (ai (aa 3) ao)) (aC (.int 64)))))
noncomputable def ii:List Sl->Tr Re:=bo 1 3
 (ay (iE 1 (cB ao))
 (ay (bv 2 (aM iD (ai (aa 0) ao)))
 (ay (dg jv nj 100000)
 (ay (gm 1 (aM et (ai (aa 2) ao)))
 (ay (qV 1)
 (iF 1 (aW (ah aY (vv (aT (ah (bG λi j=>decide (i < j)) (aa 0) (aC (.int 0)))) (aC (.str "-")) (aC (.str ""))) (ah bW (aC (.str "")) (aa 1))))))))))
theorem nF (T:Txt K mg):ACal (aV cn) P w K mg base "show_number" 1 ["number"] ii:=bD T.Zob mq rfl λf cdv A outer sh H E hr=>by
 exact (aA (ke (aZ (i:=1) mq.nd rfl (Or.inl rfl) (cN au)))
 (aA (bK (aZ (i:=2) mq.nd rfl (Or.inl rfl) (aU (t:=aP) (bc ji rfl T.iY boot_abs (av (ac (pv 0)) au)) kF)))
 (aA (u7 100000 PassesOwn.never (bi Zce cb (ac (pv 2)) (fN rfl T.ZcW) (nomark _))
  (aA (nI (mP (aU (t:=aP) (bc ZoX rfl T.ZiG boot_divmod (av (ac (pv 2)) (av (fN rfl T.ZcW) au))) Zfq) (nK rfl (gW (bd (a9 (i:=2) mq.nd rfl (Or.inl rfl))) (gW (bd (a9 (i:=3) mq.nd rfl (Or.inl rfl))) nJ)) (gN (gN nr)))))
 (aE (jj (fY (gF PySem.F.plainAttrs_list PySem.F.slot_list_append PySem.F.type_list_append iZ (pv 1) (aN (cy PySem.F.slot_str_zfill PySem.F.type_str_zfill ZiL Zfo ZeT (aU (t:=aP) (bP gR rfl T.fI boot_str (av (ac (pv 3)) au)) gC) (fN rfl T.ZjV)) bp)))))))
 (aA (jj (fY (gF PySem.F.plainAttrs_list PySem.F.slot_list_append PySem.F.type_list_append iZ (pv 1) (aN (aU (t:=aP) (bP gR rfl T.fI boot_str (av (ac (pv 2)) au)) gC) bp))))
 (aA (Zpu (fY (Zh0 PySem.F.plainAttrs_list PySem.F.slot_list_reverse PySem.F.type_list_reverse ZiN (pv 1))))
 (aE (kg (k:=1) (ba (aR br bq (ZpB (bi hZ cb (ac (pv 0)) ak (nomark _)) aK aK) (fq aK (ac (pv 1))))))))))))
noncomputable abbrev bV:=p9
theorem cf (T:Txt K mg):ACal (aV cn) P w K mg base "_law_draw" 1 ["_law_pen_here","_law_most"] bV:=ZnZ rfl (Zir T)
noncomputable def rM:List Sl->Tr Bool :=
 (aT (ah (bG λi j=>decide (i > j)) (aa 0) (aC (.int 0))))
noncomputable def t9:List Sl->Tr Ou :=
 (lQ 0 1 (ai (ah i0 (aa 1) (aa 0)) (ai (aa 0) ao)))
noncomputable def nh:List Sl->Tr Re:=bo 2 0
 (ay (bv 0 (aM iD (ai (aa 0) ao)))
 (ay (bv 1 (aM iD (ai (aa 1) ao)))
 (ay (dg rM t9 100000)
 (dO 1))))
theorem Zeh (T:Txt K mg):ACal (aV cn) P w K mg base "_law_divisor" 1 ["_law_one","_law_other"] nh:=bD T.ZoC oq rfl λf cdv A outer sh H E hr=>by
 exact (aA (bK (aZ (i:=0) oq.nd rfl (Or.inl rfl) (aU (t:=aP) (bc ji rfl T.iY boot_abs (av (ac (pv 0)) au)) kF)))
 (aA (bK (aZ (i:=1) oq.nd rfl (Or.inl rfl) (aU (t:=aP) (bc ji rfl T.iY boot_abs (av (ac (pv 1)) au)) kF)))
 (aA (u7 100000 PassesOwn.never (bi fZ cb (ac (pv 0)) ak (nomark _))
  (aE (u9 (ti (i:=0) (j:=1) rfl oq.nd rfl rfl (by decide) rfl rfl (av (aR pL nZ (ac (pv 1)) (ac (pv 0))) (av (ac (pv 0)) au)) rfl))))
 (aE (gT (pv 1))))))
noncomputable def pC:List Sl->Tr PyData :=
 (aa 0)
noncomputable def pK:List Sl->Tr Bool :=
 (aT (ah (iq true) (aa 0) (aC (.str "0123456789"))))
noncomputable def cT:List Sl->Tr Re:=bo 1 1
 (ay (bv 1 (aa 0))
 (ay (bE (aT (ah dJ (dN (aa 0) dP (dC (aC (.int 1)))) (aC (.str "-"))))
  (bv 1 (dN (aa 0) (dC (aC (.int 1))) dP))
  bn)
 (ay (bE (b7 (aT (ah dJ (aa 1) (aC (.str "")))) (b7 (aT (ah (bG λi j=>decide (i > j)) (aM cU (ai (aa 1) ao)) (aC (.int 400)))) (aT (ah k9 (bf (lR (bL (aa 1)) 1 [] (aj 0) pK pC)) (bf (cB ao))))))
  (aW (aC .none))
  bn)
 (ay (bE (b7 (aT (ah dJ (aa 0) (aC (.str "-0")))) (qZ (aT (ah (bG λi j=>decide (i > j)) (aM cU (ai (aa 1) ao)) (aC (.int 1)))) (aT (ah dJ (ah bQ (aa 1) (aC (.int 0))) (aC (.str "0"))))))
  (aW (aC .none))
  bn)
 (aW (aM ip (ai (aa 0) ao)))))))
theorem qN (T:Txt K mg):ACal (aV cn) P w K mg base "_law_number_of" 1 ["_law_word"] cT:=bD T.Zow sA rfl λf cdv A outer sh H E hr=>by
 exact (aA (bK (aZ (i:=1) sA.nd rfl (Or.inl rfl) (ac (pv 0))))
 (aA (bR (bi (fH hr) fw (eK (ac (pv 0)) eJ (eI ak)) aK (nomark _))
  (aE (bK (aZ (i:=1) sA.nd rfl (Or.inl rfl) (eK (ac (pv 0)) (eI ak) eJ))))
  bz)
 (aA (bR (dL (cH (bi (fH hr) fw (ac (pv 1)) aK (nomark _)) (cH (bi fZ cb (aU (t:=aP) (bc eF rfl T.c8 boot_len (av (ac (pv 1)) au)) ek) ak (nomark _)) (eG (bi (Zcb hr) Zak (bu (ZeC (Zb3 rq ["_law_sign"] [] rfl (b6 (ac (pv 1))) (λb=>(bd (a9 (i:=0) (show ((bN rq ["_law_sign"] [])).Nodup by decide +kernel) rfl (Or.inl rfl)))) (λb=>(bi (Zid hr) n0 (ac (pv 0)) aK (by with_unfolding_all rfl))) (λb=>(ac (pv 0))) rfl (show BlkOk rq (aD mF) _ [] from ⟨rfl,by decide +kernel,by decide +kernel,by decide +kernel,by decide +kernel⟩)) (bO (by decide)))) (bu (cN au)) (nomark _))))))
  (aE (ba dM))
  bz)
 (aA (bR (dL (cH (bi (fH hr) fw (ac (pv 0)) aK (nomark _)) (eG (dL (Zex (bi fZ cb (aU (t:=aP) (bc eF rfl T.c8 boot_len (av (ac (pv 1)) au)) ek) ak (nomark _)) (Zew (bi (fH hr) fw (cz cx cP (ac (pv 1)) ak (λ_ _=>rfl)) aK (nomark _))))))))
  (aE (ba dM))
  bz)
 (aE (ba (aU (t:=aP) (bP uV rfl T.mV boot_int (av (ac (pv 0)) au)) rQ)))))))
noncomputable def mL:List Sl->Tr PyData :=
 (aa 0)
noncomputable def mR:List Sl->Tr Bool :=
 (aT (ah (bG λi j=>decide (i > j)) (aM cU (ai (aa 0) ao)) (aC (.int 1))))
noncomputable def mK:List Sl->Tr PyData :=
 (ah bQ (aa 0) (aC (.int 0)))
noncomputable def jT:List Sl->Tr Re:=bo 1 1
 (ay (bE (b7 (aT (ah io (aa 0) (aC .none))) (b7 (aT (ah eC (aM cU (ai (aa 0) ao)) (aC (.int 9)))) (aT (ah k9 (bf (lR (bL (aa 0)) 1 [] (aj 0) mR mL)) (bf (cB ao))))))
  (aW (aC .none))
  bn)
 (ay (bv 1 (aM cK (ai (bf (b8 (bL (aa 0)) 1 [] (aj 0) mK)) ao)))
 (ay (bE (b7 (aT (ah (bG λi j=>decide (i < j)) (aM la (ai (aa 1) ao)) (aC (.int 0)))) (b7 (aT (ah (bG λi j=>decide (i > j)) (aM ig (ai (aa 1) ao)) (aC (.int 1000000)))) (aT (ah (bG λi j=>decide (i > j)) (ah aY (ah bQ (aa 1) (aC (.int 0))) (ah bQ (aa 1) (aC (.int 1)))) (aC (.int 39))))))
  (aW (aC .none))
  bn)
 (dO 1))))
theorem Zo9 (T:Txt K mg):ACal (aV cn) P w K mg base "_law_shop_of" 1 ["_law_days"] jT:=bD T.Zor Zba rfl λf cdv A outer sh H E hr=>by
 exact (aA (bR (dL (cH (bi mT me (ac (pv 0)) dM (nomark _)) (cH (bi (gG hr) gB (aU (t:=aP) (bc eF rfl T.c8 boot_len (av (ac (pv 0)) au)) ek) ak (nomark _)) (eG (bi (Zcb hr) Zak (bu (ZeC (Zb3 ku ["_law_one"] [] rfl (b6 (ac (pv 0))) (λb=>(bd (a9 (i:=0) (show ((bN ku ["_law_one"] [])).Nodup by decide +kernel) rfl (Or.inl rfl)))) (λb=>(bi fZ cb (aU (t:=aP) (bc eF rfl T.c8 boot_len (av (ac (pv 0)) au)) ek) ak (nomark _))) (λb=>(ac (pv 0))) rfl (show BlkOk ku (aD kS) _ [] from ⟨rfl,by decide +kernel,by decide +kernel,by decide +kernel,by decide +kernel⟩)) (bO (by decide)))) (bu (cN au)) (nomark _))))))
 (aE (ba dM))
 bz)
 (aA (bK (aZ (i:=1) Zba.nd rfl (Or.inl rfl) (aU (t:=aP) (bP dA rfl T.cS boot_tuple (av (bu (cW (cQ ku ["_law_one"] [] rfl (b6 (ac (pv 0))) (λb=>(bd (a9 (i:=0) (show ((bN ku ["_law_one"] [])).Nodup by decide +kernel) rfl (Or.inl rfl)))) (λb=>(cz cx cP (ac (pv 0)) ak (λ_ _=>rfl))) rfl (show BlkOk ku (aD kS) _ [] from ⟨rfl,by decide +kernel,by decide +kernel,by decide +kernel,by decide +kernel⟩)) (bO (by decide)))) au)) dq)))
 (aA (bR (dL (cH (bi hZ cb (aU (t:=aP) (bc (Zd7 rfl) rfl T.Zcp boot_min (av (ac (pv 1)) au)) Zao) ak (nomark _)) (cH (bi fZ cb (aU (t:=aP) (bc (uU rfl) rfl T.tR boot_max (av (ac (pv 1)) au)) rP) ak (nomark _)) (eG (bi fZ cb (aR br bq (cz cx cP (ac (pv 1)) ak (λ_ _=>rfl)) (cz cx cP (ac (pv 1)) ak (λ_ _=>rfl))) ak (nomark _))))))
  (aE (ba dM))
  bz)
 (aE (gT (pv 1))))))
noncomputable def fL:List Sl->Tr Ou :=
 (bE (b7 (aT (ah (bG λi j=>decide (i > j)) (aM cU (ai (aa 1) ao)) (aC (.int 8)))) (b7 (aT (ah (bG λi j=>decide (i < j)) (aM la (ai (aa 1) ao)) (aC (.int 0)))) (b7 (aT (ah (bG λi j=>decide (i > j)) (aM ig (ai (aa 1) ao)) (aC (.int 1000)))) (aT (ah dJ (aM ig (ai (aa 1) ao)) (aC (.int 0)))))))
  (aW (aC .none))
  bn)
noncomputable def ij:List Sl->Tr Re:=bo 1 1
 (ay (bE (b7 (aT (ah io (aa 0) (aC .none))) (aT (ah (bG λi j=>decide (i > j)) (aM cU (ai (aa 0) ao)) (aC (.int 6)))))
  (aW (aC .none))
  bn)
 (ay (fP (bL (aa 0)) (aj 1) fL)
 (dO 0)))
theorem Zpc (T:Txt K mg):ACal (aV cn) P w K mg base "_law_falls_of" 1 ["_law_days"] ij:=bD T.ZoA Zbd rfl λf cdv A outer sh H E hr=>by
 exact (aA (bR (dL (cH (bi mT me (ac (pv 0)) dM (nomark _)) (eG (bi fZ cb (aU (t:=aP) (bc eF rfl T.c8 boot_len (av (ac (pv 0)) au)) ek) ak (nomark _)))))
 (aE (ba dM))
 bz)
 (aA (gU PassesOwn.never rfl (b6 (ac (pv 0))) (bd (a9 (i:=1) Zbd.nd rfl (Or.inl rfl)))
  (aE (bR (dL (cH (bi fZ cb (aU (t:=aP) (bc eF rfl T.c8 boot_len (av (ac (pv 1)) au)) ek) ak (nomark _)) (cH (bi hZ cb (aU (t:=aP) (bc (Zd7 rfl) rfl T.Zcp boot_min (av (ac (pv 1)) au)) Zao) ak (nomark _)) (cH (bi fZ cb (aU (t:=aP) (bc (uU rfl) rfl T.tR boot_max (av (ac (pv 1)) au)) rP) ak (nomark _)) (eG (bi (fH hr) fw (aU (t:=aP) (bc (uU rfl) rfl T.tR boot_max (av (ac (pv 1)) au)) rP) ak (nomark _)))))))
  (aE (ba dM))
  bz)))
 (aE (gT (pv 0)))))
noncomputable def lj:List Sl->Tr Re:=bo 3 0
 (aW (qY (az (aB ll (am (aa 0) ap))) (jn (bG λi j=>decide (i<=j)) (bG λi j=>decide (i<=j)) (aa 1) (aa 0) (aa 2))))
theorem Zei (T:Txt K mg):ACal (aV cn) P w K mg base "is_whole_within" 2 ["thing","lowest","highest"] lj:=bD T.Zog ZgF rfl λf cdv A outer sh H E hr=>by
 exact (aE (ba (ZeG (aF (aG (uX T) (hr.mono (by decide)) rfl (aq (ac (pv 0)) aw))) (vj (ZpD ia cb ia cb (ac (pv 1)) (ac (pv 0)) (ac (pv 2)))))))
noncomputable def jV:List Sl->Tr Re:=bo 1 2
 (ay (bE (b7 (cA (cJ (gX "tuple" (aa 0)))) (aT (ah eC (aM ik (ai (aa 0) ao)) (aC (.int 2)))))
  (aW (aC (.bool false)))
  bn)
 (ay (kl (ka (fk (aj 1) (fk (aj 2) jc))) (aa 0))
 (ay (bE (b7 (cA (cJ (az (aB ll (am (aa 1) ap))))) (b7 (cA (cJ (az (aB ll (am (aa 2) ap))))) (aT (ah (bG λi j=>decide (i < j)) (aa 2) (aC (.int 1))))))
  (aW (aC (.bool false)))
  bn)
 (aW (ah dJ (az (aB qa (am (aa 1) (am (aa 2) ap)))) (aC (.int 1)))))))
theorem Zek (T:Txt K mg):ACal (aV cn) P w K mg base "is_share" 2 ["thing"] jV:=bD T.Zoj sv rfl λf cdv A outer sh H E hr=>by
 exact (aA (bR (dL (cH (cI (cV (jk (T:="tuple") (Or.inr (Or.inr (Or.inr (Or.inr (Or.inl rfl))))) rfl (bc jh rfl T.gf boot_isinstance (aN (ac (pv 0)) (aN (hV (v:=.ty "tuple") rfl T.cS boot_tuple rfl) bp)))))) (eG (bi (gG hr) gB (aU (t:=aP) (bc kd rfl T.c8 boot_len (av (ac (pv 0)) au)) mf) ak (nomark _)))))
 (aE (ba fO))
 bz)
 (aA (nI (mP (ac (pv 0)) (nK rfl (gW (bd (a9 (i:=1) sv.nd rfl (Or.inl rfl))) (gW (bd (a9 (i:=2) sv.nd rfl (Or.inl rfl))) nJ)) (gN (gN nr)))))
 (aA (bR (dL (cH (cI (cV (aF (aG (uX T) (hr.mono (by decide)) rfl (aq (ac (pv 1)) aw))))) (cH (cI (cV (aF (aG (uX T) (hr.mono (by decide)) rfl (aq (ac (pv 2)) aw))))) (eG (bi hZ cb (ac (pv 2)) ak (nomark _))))))
  (aE (ba fO))
  bz)
 (aE (ba (iC (fH hr) fw (aF (aG (Zph T) (hr.mono (by decide)) rfl (aq (ac (pv 1)) (aq (ac (pv 2)) aw)))) ak (nomark _)))))))
noncomputable def jS:List Sl->Tr Re:=bo 1 0
 (ay (bE (cA (cJ (az (aB i7 (am (aa 0) ap)))))
  kj
  bn)
 (aW (aM ip (ai (aa 0) ao))))
theorem qM (T:Txt K mg):ACal (aV cn) P w K mg base "read_number" 2 ["word"] jS:=bD T.ZdP Za7 rfl λf cdv A outer sh H E hr=>by
 exact (aA (bR (cI (cV (aF (aG (Zel T) (hr.mono (by decide)) rfl (aq (ac (pv 0)) aw)))))
 (aE lL)
 bz)
 (aE (ba (aU (t:=aP) (bP uV rfl T.mV boot_int (av (ac (pv 0)) au)) rQ))))
noncomputable def iI:List Sl->Tr (Option Re):=eY 1 0
 (dE (iO (cA (cJ (az (aB i7 (am (aa 0) ap))))) iL (eL bn))
 (eL (aW (aM ip (ai (aa 0) ao)))))
theorem qF (T:Txt K mg) {C:Addr} (hC:mg "NoText"=some (.ref C)) (xc:Xcl K C eW "ValueError.__new__"):XCal (aV cn) P w K mg base "read_number" 2 ["word"] C iI:=iH T.ZdP Za7 rfl λf cdv A outer sh H E hr=>by
 exact (eZ (kz (cI (cV (aF (aG (Zel T) (hr.mono (by decide)) rfl (aq (ac (pv 0)) aw))))) (gx (ky (kU F.excBase_ValueError xc rfl hC))) (gy bz))
 (gy (aE (ba (aU (t:=aP) (bP uV rfl T.mV boot_int (av (ac (pv 0)) au)) rQ)))))
noncomputable def pd:List Sl->Tr PyData :=
 (az (aB ii (am (aa 0) ap)))
noncomputable def mZ:List Sl->Tr Re:=bo 1 0
 (aW (ah bW (aC (.str " ")) (bf (b8 (bL (aa 0)) 1 [] (aj 0) pd))))
theorem Zo0 (T:Txt K mg):ACal (aV cn) P w K mg base "show_shop" 2 ["shop"] mZ:=bD T.ZdL ZgC rfl λf cdv A outer sh H E hr=>by
 exact (aE (ba (fq aK (bu (cW (cQ rj ["number"] [] rfl (b6 (ac (pv 0))) (λb=>(bd (a9 (i:=0) (show ((bN rj ["number"] [])).Nodup by decide +kernel) rfl (Or.inl rfl)))) (λb=>(aF (aG (nF T) (hr.mono (by decide)) rfl (aq (ac (pv 0)) aw)))) rfl (show BlkOk rj (aD mx) _ [] from ⟨rfl,by decide +kernel,by decide +kernel,by decide +kernel,by decide +kernel⟩)) (bO (by decide)))))))
noncomputable def pf:List Sl->Tr PyData :=
 (az (aB ii (am (aa 0) ap)))
noncomputable def pe:List Sl->Tr PyData :=
 (ah bW (aC (.str ",")) (bf (b8 (bL (aa 0)) 1 [] (aj 0) pf)))
noncomputable def lc:List Sl->Tr Re:=bo 1 0
 (aW (ah bW (aC (.str " ")) (bf (b8 (bL (aa 0)) 1 [] (aj 0) pe))))
theorem Zeb (T:Txt K mg):ACal (aV cn) P w K mg base "show_rule" 2 ["rule"] lc:=bD T.ZdN ZgD rfl λf cdv A outer sh H E hr=>by
 exact (aE (ba (fq aK (bu (cW (cQ lZ ["levels"] [] rfl (b6 (ac (pv 0))) (λb=>(bd (a9 (i:=0) (show ((bN lZ ["levels"] [])).Nodup by decide +kernel) rfl (Or.inl rfl)))) (λb=>(fq aK (bu (cW (cQ (bN lZ ["levels"] []) ["level"] [] rfl (b6 (ac (pv 0))) (λb=>(bd (a9 (i:=0) (show ((bN (bN lZ ["levels"] []) ["level"] [])).Nodup by decide +kernel) rfl (Or.inl rfl)))) (λb=>(aF (aG (nF T) (hr.mono (by decide)) rfl (aq (ac (pv 0)) aw)))) rfl (BlkOk.leaf rfl (by decide +kernel) (by decide +kernel))) (bO (by decide)))))) rfl (show BlkOk lZ (aD my) _ [] from ⟨rfl,by decide +kernel,by decide +kernel,by decide +kernel,by decide +kernel⟩)) (bO (by decide)))))))
noncomputable def jR:List Sl->Tr Re:=bo 1 2
 (ay (kl (ka (fk (aj 1) (fk (aj 2) jc))) (aa 0))
 (aW (qW "/" (az (aB ii (am (aa 1) ap))) (az (aB ii (am (aa 2) ap))))))
theorem Zea (T:Txt K mg):ACal (aV cn) P w K mg base "show_share" 2 ["one"] jR:=bD T.ZdM sr rfl λf cdv A outer sh H E hr=>by
 exact (aA (nI (mP (ac (pv 0)) (nK rfl (gW (bd (a9 (i:=1) sr.nd rfl (Or.inl rfl))) (gW (bd (a9 (i:=2) sr.nd rfl (Or.inl rfl))) nJ)) (gN (gN nr)))))
 (aE (ba (ZeF (aF (aG (nF T) (hr.mono (by decide)) rfl (aq (ac (pv 1)) aw))) (aF (aG (nF T) (hr.mono (by decide)) rfl (aq (ac (pv 2)) aw)))))))
noncomputable def li:List Sl->Tr Re:=bo 1 2
 (ay (bv 1 (az (aB bV (bA 0 (am (aC (.int 8)) ap)))))
 (ay (bE (aT (ah (bG λi j=>decide (i > j)) (aa 1) (aC (.int 5))))
  (ay (bv 2 (ah eX (ah fJ (az (aB bV (bA 0 (am (ah iU (aC (.int 10)) (aC (.int 6))) ap)))) (ah iU (aC (.int 10)) (aC (.int 6)))) (az (aB bV (bA 0 (am (ah iU (aC (.int 10)) (aC (.int 6))) ap))))))
 (aW (ah fJ (ah eX (aa 2) (ah fJ (ah iU (aC (.int 10)) (aC (.int 29))) (ah g7 (aa 1) (aC (.int 6))))) (ah g7 (aC (.int 1)) (ah fJ (aC (.int 2)) (az (aB bV (bA 0 (am (aC (.int 2)) ap)))))))))
  bn)
 (aW (ah g7 (az (aB bV (bA 0 (am (ah im (bf (cB (ai (aC (.int 7)) (ai (aC (.int 31)) (ai (aC (.int 2000)) ao))))) (ah i0 (aa 1) (aC (.int 3)))) ap)))) (ah im (bf (cB (ai (aC (.int 3)) (ai (aC (.int 15)) (ai (aC (.int 1000)) ao))))) (ah i0 (aa 1) (aC (.int 3))))))))
theorem uW (T:Txt K mg):ACal (aV cn) P w K mg base "_law_number" 2 ["_law_pen_here"] li:=bD T.Zox sB rfl λf cdv A outer sh H E hr=>by
 exact (aA (bK (aZ (i:=1) sB.nd rfl (Or.inl rfl) (aF (aG (cf T) (hr.mono (by decide)) rfl (bF (pv 0) (aq ak aw))))))
 (aA (bR (bi fZ cb (ac (pv 1)) ak (nomark _))
  (aA (bK (aZ (i:=2) sB.nd rfl (Or.inl rfl) (aR pM n5 (aR jL jw (aF (aG (cf T) (hr.mono (by decide)) rfl (bF (pv 0) (aq (aR k7 nY ak ak) aw)))) (aR k7 nY ak ak)) (aF (aG (cf T) (hr.mono (by decide)) rfl (bF (pv 0) (aq (aR k7 nY ak ak) aw)))))))
 (aE (ba (aR jL jw (aR pM n5 (ac (pv 2)) (aR jL jw (aR k7 nY ak ak) (aR kZ kE (ac (pv 1)) ak))) (aR kZ kE ak (aR jL jw ak (aF (aG (cf T) (hr.mono (by decide)) rfl (bF (pv 0) (aq ak aw))))))))))
  bz)
 (aE (ba (aR kZ kE (aF (aG (cf T) (hr.mono (by decide)) rfl (bF (pv 0) (aq (cz cx md (by refine bu ?_; refine cN ?_; refine bB ?_ ?_; exact ak; refine bB ?_ ?_; exact ak; refine bB ?_ ?_; exact ak; exact au) (aR pL nZ (ac (pv 1)) ak) (λ_ _=>rfl)) aw)))) (cz cx md (by refine bu ?_; refine cN ?_; refine bB ?_ ?_; exact ak; refine bB ?_ ?_; exact ak; refine bB ?_ ?_; exact ak; exact au) (aR pL nZ (ac (pv 1)) ak) (λ_ _=>rfl)))))))
noncomputable def ng:List Sl->Tr Re:=bo 2 1
 (ay (bv 2 (ah fJ (az (aB nh (am (aa 0) (am (aa 1) ap)))) (ah g7 (aC (.int 1)) (ah fJ (aC (.int 2)) (aM ja (ai (ah (bG λi j=>decide (i < j)) (aa 1) (aC (.int 0))) ao))))))
 (aW (nL (ai (ah lC (aa 0) (aa 2)) (ai (ah lC (aa 1) (aa 2)) ao)))))
theorem Zpb (T:Txt K mg):ACal (aV cn) P w K mg base "_law_lowest" 2 ["_law_top","_law_bottom"] ng:=bD T.Zoy Zbc rfl λf cdv A outer sh H E hr=>by
 exact (aA (bK (aZ (i:=2) Zbc.nd rfl (Or.inl rfl) (aR jL jw (aF (aG (Zeh T) (hr.mono (by decide)) rfl (aq (ac (pv 0)) (aq (ac (pv 1)) aw)))) (aR kZ kE ak (aR jL jw ak (aU (t:=aP) (bP Zd8 rfl T.mV boot_int (av (iC hZ cb (ac (pv 1)) ak (nomark _)) au)) Zap))))))
 (aE (ba (vi (av (aR Zcf Zam (ac (pv 0)) (ac (pv 2))) (av (aR Zcf Zam (ac (pv 1)) (ac (pv 2))) au))))))
noncomputable def pD:List Sl->Tr PyData :=
 (az (aB cT (am (aa 0) ap)))
noncomputable def gJ:List Sl->Tr Ou :=
 (ay (bv 3 (bf (b8 (bL (ah cv (aa 2) (aC (.str ",")))) 1 [] (aj 0) pD)))
 (ay (bE (aT (ah (iq false) (aC .none) (aa 3)))
  (aW (aC .none))
  bn)
 (gm 1 (aM cK (ai (aa 3) ao)))))
noncomputable def ni:List Sl->Tr Re:=bo 1 3
 (ay (iE 1 (cB ao))
 (ay (fP (bL (ah cv (aa 0) (aC (.str " ")))) (aj 2) gJ)
 (iF 1 (aW (aM cK (ai (aa 1) ao))))))
theorem Zpd (T:Txt K mg):ACal (aV cn) P w K mg base "_law_days_of" 2 ["_law_text"] ni:=bD T.ZoD ot rfl λf cdv A outer sh H E hr=>by
 exact (aA (ke (aZ (i:=1) ot.nd rfl (Or.inl rfl) (cN au)))
 (aA (gU PassesOwn.never rfl (b6 (cy PySem.F.slot_str_split PySem.F.type_str_split c9 cY cZ (ac (pv 0)) aK)) (bd (a9 (i:=2) ot.nd rfl (Or.inl rfl)))
  (aA (u8 (tf (i:=3) rz ["_law_one"] [] rfl ot.nd rfl rfl (b6 (cy PySem.F.slot_str_split PySem.F.type_str_split c9 cY cZ (ac (pv 2)) aK)) (λb=>(bd (a9 (i:=0) (show ((bN rz ["_law_one"] [])).Nodup by decide +kernel) rfl (Or.inl rfl)))) (λb=>(aF (aG (qN T) (hr.mono (by decide)) rfl (aq (ac (pv 0)) aw)))) rfl (show BlkOk rz (aD mG) _ [] from ⟨rfl,by decide +kernel,by decide +kernel,by decide +kernel,by decide +kernel⟩) rfl) (bO (by decide)))
 (aA (bR (bi (tJ hr) n0 dM (ac (pv 3)) (by with_unfolding_all rfl))
  (aE (ba dM))
  bz)
 (aE (jj (fY (gF PySem.F.plainAttrs_list PySem.F.slot_list_append PySem.F.type_list_append iZ (pv 1) (aN (aU (t:=aP) (bP dA rfl T.cS boot_tuple (av (ac (pv 3)) au)) dq) bp))))))))
 (aE (kg (k:=1) (ba (aU (t:=aP) (bP dA rfl T.cS boot_tuple (av (ac (pv 1)) au)) dq))))))
noncomputable def p6:List Sl->Tr Re:=bo 2 9
 (ay (bv 2 (az (aB bV (bA 0 (am (aC (.int 8)) ap)))))
 (ay (bv 3 (az (aB bV (bA 0 (am (ah aY (aM cU (ai (aa 1) ao)) (aC (.int 1))) ap)))))
 (ay (bv 4 (aC (.str " !\"#$&'()*+,-./0123456789:;<=>?@ABCDEFGHIJKLMNOPQRSTUVWXYZ[\\]^_`")))
 (ay (bv 4 (ah aY (aa 4) (aC (.str "abcdefghijklmnopqrstuvwxyz{|}~\n"))))
 (ay (bv 5 (aC (.str " ,-/@0123456789\n")))
 (ay (bv 6 (ah bQ (bf (cB (ai (ah bQ (aa 4) (az (aB bV (bA 0 (am (aM cU (ai (aa 4) ao)) ap))))) (ai (ah bQ (aa 5) (az (aB bV (bA 0 (am (aM cU (ai (aa 5) ao)) ap))))) ao)))) (az (aB bV (bA 0 (am (aC (.int 2)) ap))))))
 (ay (bE (aT (ah (bG λi j=>decide (i < j)) (aa 2) (aC (.int 2))))
  (aW (ah aY (ah aY (dN (aa 1) dP (dC (aa 3))) (aa 6)) (dN (aa 1) (dC (aa 3)) dP)))
  bn)
 (ay (bE (aT (ah dJ (aa 2) (aC (.int 2))))
  (aW (ah aY (dN (aa 1) dP (dC (aa 3))) (dN (aa 1) (dC (ah aY (aa 3) (aC (.int 1)))) dP)))
  bn)
 (ay (bE (aT (ah (bG λi j=>decide (i < j)) (aa 2) (aC (.int 5))))
  (aW (ah aY (ah aY (dN (aa 1) dP (dC (aa 3))) (aa 6)) (dN (aa 1) (dC (ah aY (aa 3) (aC (.int 1)))) dP)))
  bn)
 (ay (bv 7 (ah bQ (bf (cB (ai (aC (.str " ")) (ai (aC (.str ",")) (ai (aC (.str "\n")) (ai (aC (.str "/")) ao)))))) (az (aB bV (bA 0 (am (aC (.int 4)) ap))))))
 (ay (bv 8 (ah cv (aa 1) (aa 7)))
 (ay (bv 9 (az (aB bV (bA 0 (am (aM cU (ai (aa 8) ao)) ap)))))
 (ay (bE (aT (ah dJ (aa 2) (aC (.int 5))))
  (ay (bv 10 (bf (cB (ai (aC (.str "")) (ai (aC (.str "00")) (ai (aC (.str "01")) (ai (aC (.str "-0")) (ai (aC (.str "--1")) (ai (aC (.str "+1")) (ai (aC (.str "1_0")) (ai (aC (.str "x")) (ai (aC (.str "0x1")) (ai (aC (.str "1.0")) (ai (aC (.str "1e3")) (ai (aC (.str "1/2")) (ai (aC (.str "1@2")) (ai (aC (.str "-")) (ai (aC (.str "1,")) (ai (ah ie (aC (.str "7")) (aC (.int 4400))) ao)))))))))))))))))))
 (aW (ah bW (aa 7) (ah aY (ah aY (dN (aa 8) dP (dC (aa 9))) (bf (cB (ai (ah bQ (aa 10) (az (aB bV (bA 0 (am (aC (.int 16)) ap))))) ao)))) (dN (aa 8) (dC (ah aY (aa 9) (aC (.int 1)))) dP)))))
  bn)
 (ay (bE (aT (ah dJ (aa 2) (aC (.int 6))))
  (aW (ah bW (aa 7) (ah aY (dN (aa 8) dP (dC (aa 9))) (dN (aa 8) (dC (ah aY (aa 9) (aC (.int 1)))) dP))))
  bn)
 (aW (ah bW (aa 7) (ah aY (dN (aa 8) dP (dC (ah aY (aa 9) (aC (.int 1))))) (dN (aa 8) (dC (aa 9)) dP))))))))))))))))))
theorem Zpe (T:Txt K mg):ACal (aV cn) P w K mg base "_law_bent_text" 2 ["_law_pen_here","_law_text"] p6:=bD T.ZoE fV rfl λf cdv A outer sh H E hr=>by
 refine @L2.aA _ _ _ _ _ _ ?_ ?_; (refine @L2.bK _ _ _ _ _ ?_; (refine @L2.aZ _ _ (2) _ _ _ _ fV.nd rfl (Or.inl rfl) ?_ (by rfl) (by first   | exact .inl rfl   | exact .inr rfl   | assumption); (refine @L2.aF _ _ _ _ ?_; (refine @L2.aG _ _ _ _ _ _ _ _ _ _ _ (cf T) (hr.mono (by decide)) rfl ?_ (by decide) (by rfl) (by rfl); (refine @L2.bF _ _ _ _ _ _ (pv 0) ?_ (by rfl); (exact @L2.aq _ _ _ _ _ _ ak aw (by rfl))))))); (refine @L2.aA _ _ _ _ _ _ ?_ ?_; (refine @L2.bK _ _ _ _ _ ?_; (refine @L2.aZ _ _ (3) _ _ _ _ fV.nd rfl (Or.inl rfl) ?_ (by rfl) (by first   | exact .inl rfl   | exact .inr rfl   | assumption); (refine @L2.aF _ _ _ _ ?_; (refine @L2.aG _ _ _ _ _ _ _ _ _ _ _ (cf T) (hr.mono (by decide)) rfl ?_ (by decide) (by rfl) (by rfl); (refine @L2.bF _ _ _ _ _ _ (pv 0) ?_ (by rfl); (refine @L2.aq _ _ _ _ _ _ ?_ aw (by rfl); (refine @L2.aR _ _ _ _ _ _ _ _ _ _ br bq ?_ ak; (refine @L2.aU _ _ _ _ (aP) _ _ (by refine @L2.bc _ _ _ _ _ _ _ _ _ eF rfl T.c8 boot_len ?_ (by decide) (by decide) (by rfl) (by rfl); (refine @L2.av _ _ _ _ _ _ ?_ au (by rfl); (exact (ac (pv 1))))) ek)))))))); (refine @L2.aA _ _ _ _ _ _ ?_ ?_; (refine @L2.bK _ _ _ _ _ ?_; (exact @L2.aZ _ _ (4) _ _ _ _ fV.nd rfl (Or.inl rfl) aK (by rfl) (by first   | exact .inl rfl   | exact .inr rfl   | assumption))); (refine @L2.aA _ _ _ _ _ _ ?_ ?_; (refine @L2.bK _ _ _ _ _ ?_; (refine @L2.aZ _ _ (4) _ _ _ _ fV.nd rfl (Or.inl rfl) ?_ (by rfl) (by first   | exact .inl rfl   | exact .inr rfl   | assumption); (refine @L2.aR _ _ _ _ _ _ _ _ _ _ br bq ?_ aK; (exact (ac (pv 4)))))); (refine @L2.aA _ _ _ _ _ _ ?_ ?_; (refine @L2.bK _ _ _ _ _ ?_; (exact @L2.aZ _ _ (5) _ _ _ _ fV.nd rfl (Or.inl rfl) aK (by rfl) (by first   | exact .inl rfl   | exact .inr rfl   | assumption))); (refine @L2.aA _ _ _ _ _ _ ?_ ?_; (refine @L2.bK _ _ _ _ _ ?_; (refine @L2.aZ _ _ (6) _ _ _ _ fV.nd rfl (Or.inl rfl) ?_ (by rfl) (by first   | exact .inl rfl   | exact .inr rfl   | assumption); (refine @L2.cz _ _ _ _ _ _ _ _ _ cx cP ?_ ?_ (λ_ _=>rfl); (refine @L2.bu _ _ _ _ ?_; (refine @L2.cN _ _ _ _ _ ?_; (refine @L2.bB _ _ _ _ _ _ ?_ ?_ (by rfl); (refine @L2.cz _ _ _ _ _ _ _ _ _ cx cP ?_ ?_ (λ_ _=>rfl); (exact (ac (pv 4))); (refine @L2.aF _ _ _ _ ?_; (refine @L2.aG _ _ _ _ _ _ _ _ _ _ _ (cf T) (hr.mono (by decide)) rfl ?_ (by decide) (by rfl) (by rfl); (refine @L2.bF _ _ _ _ _ _ (pv 0) ?_ (by rfl); (refine @L2.aq _ _ _ _ _ _ ?_ aw (by rfl); (refine @L2.aU _ _ _ _ (aP) _ _ (by refine @L2.bc _ _ _ _ _ _ _ _ _ eF rfl T.c8 boot_len ?_ (by decide) (by decide) (by rfl) (by rfl); (refine @L2.av _ _ _ _ _ _ ?_ au (by rfl); (exact (ac (pv 4))))) ek)))))); (refine @L2.av _ _ _ _ _ _ ?_ au (by rfl); (refine @L2.cz _ _ _ _ _ _ _ _ _ cx cP ?_ ?_ (λ_ _=>rfl); (exact (ac (pv 5))); (refine @L2.aF _ _ _ _ ?_; (refine @L2.aG _ _ _ _ _ _ _ _ _ _ _ (cf T) (hr.mono (by decide)) rfl ?_ (by decide) (by rfl) (by rfl); (refine @L2.bF _ _ _ _ _ _ (pv 0) ?_ (by rfl); (refine @L2.aq _ _ _ _ _ _ ?_ aw (by rfl); (refine @L2.aU _ _ _ _ (aP) _ _ (by refine @L2.bc _ _ _ _ _ _ _ _ _ eF rfl T.c8 boot_len ?_ (by decide) (by decide) (by rfl) (by rfl); (refine @L2.av _ _ _ _ _ _ ?_ au (by rfl); (exact (ac (pv 5))))) ek)))))))))); (refine @L2.aF _ _ _ _ ?_; (refine @L2.aG _ _ _ _ _ _ _ _ _ _ _ (cf T) (hr.mono (by decide)) rfl ?_ (by decide) (by rfl) (by rfl); (refine @L2.bF _ _ _ _ _ _ (pv 0) ?_ (by rfl); (exact @L2.aq _ _ _ _ _ _ ak aw (by rfl)))))))); (refine @L2.aA _ _ _ _ _ _ ?_ ?_; (refine @L2.bR _ _ _ _ _ _ _ _ _ ?_ ?_ bz; (refine @L2.bi _ _ _ _ _ _ _ _ _ _ hZ cb ?_ ak (nomark _); (exact (ac (pv 2)))); (refine @L2.aE _ _ _ _ ?_; (refine @L2.ba _ _ _ _ _ ?_; (refine @L2.aR _ _ _ _ _ _ _ _ _ _ br bq ?_ ?_; (refine @L2.aR _ _ _ _ _ _ _ _ _ _ br bq ?_ ?_; (refine @L2.eK _ _ _ _ _ _ _ _ _ _ ?_ eJ ?_; (exact (ac (pv 1))); (refine @L2.eI _ _ _ _ ?_; (exact (ac (pv 3))))); (exact (ac (pv 6)))); (refine @L2.eK _ _ _ _ _ _ _ _ _ _ ?_ ?_ eJ; (exact (ac (pv 1))); (refine @L2.eI _ _ _ _ ?_; (exact (ac (pv 3))))))))); (refine @L2.aA _ _ _ _ _ _ ?_ ?_; (refine @L2.bR _ _ _ _ _ _ _ _ _ ?_ ?_ bz; (refine @L2.bi _ _ _ _ _ _ _ _ _ _ ?_ fw ?_ ak (nomark _); (exact (fH hr)); (exact (ac (pv 2)))); (refine @L2.aE _ _ _ _ ?_; (refine @L2.ba _ _ _ _ _ ?_; (refine @L2.aR _ _ _ _ _ _ _ _ _ _ br bq ?_ ?_; (refine @L2.eK _ _ _ _ _ _ _ _ _ _ ?_ eJ ?_; (exact (ac (pv 1))); (refine @L2.eI _ _ _ _ ?_; (exact (ac (pv 3))))); (refine @L2.eK _ _ _ _ _ _ _ _ _ _ ?_ ?_ eJ; (exact (ac (pv 1))); (refine @L2.eI _ _ _ _ ?_; (refine @L2.aR _ _ _ _ _ _ _ _ _ _ br bq ?_ ak; (exact (ac (pv 3)))))))))); (refine @L2.aA _ _ _ _ _ _ ?_ ?_; (refine @L2.bR _ _ _ _ _ _ _ _ _ ?_ ?_ bz; (refine @L2.bi _ _ _ _ _ _ _ _ _ _ hZ cb ?_ ak (nomark _); (exact (ac (pv 2)))); (refine @L2.aE _ _ _ _ ?_; (refine @L2.ba _ _ _ _ _ ?_; (refine @L2.aR _ _ _ _ _ _ _ _ _ _ br bq ?_ ?_; (refine @L2.aR _ _ _ _ _ _ _ _ _ _ br bq ?_ ?_; (refine @L2.eK _ _ _ _ _ _ _ _ _ _ ?_ eJ ?_; (exact (ac (pv 1))); (refine @L2.eI _ _ _ _ ?_; (exact (ac (pv 3))))); (exact (ac (pv 6)))); (refine @L2.eK _ _ _ _ _ _ _ _ _ _ ?_ ?_ eJ; (exact (ac (pv 1))); (refine @L2.eI _ _ _ _ ?_; (refine @L2.aR _ _ _ _ _ _ _ _ _ _ br bq ?_ ak; (exact (ac (pv 3)))))))))); (refine @L2.aA _ _ _ _ _ _ ?_ ?_; (refine @L2.bK _ _ _ _ _ ?_; (refine @L2.aZ _ _ (7) _ _ _ _ fV.nd rfl (Or.inl rfl) ?_ (by rfl) (by first   | exact .inl rfl   | exact .inr rfl   | assumption); (refine @L2.cz _ _ _ _ _ _ _ _ _ cx cP ?_ ?_ (λ_ _=>rfl); (refine @L2.bu _ _ _ _ ?_; (refine @L2.cN _ _ _ _ _ ?_; (refine @L2.bB _ _ _ _ _ _ aK ?_ (by rfl); (refine @L2.bB _ _ _ _ _ _ aK ?_ (by rfl); (refine @L2.av _ _ _ _ _ _ aK ?_ (by rfl); (exact @L2.av _ _ _ _ _ _ aK au (by rfl))))))); (refine @L2.aF _ _ _ _ ?_; (refine @L2.aG _ _ _ _ _ _ _ _ _ _ _ (cf T) (hr.mono (by decide)) rfl ?_ (by decide) (by rfl) (by rfl); (refine @L2.bF _ _ _ _ _ _ (pv 0) ?_ (by rfl); (exact @L2.aq _ _ _ _ _ _ ak aw (by rfl)))))))); (refine @L2.aA _ _ _ _ _ _ ?_ ?_; (refine @L2.bK _ _ _ _ _ ?_; (refine @L2.aZ _ _ (8) _ _ _ _ fV.nd rfl (Or.inl rfl) ?_ (by rfl) (by first   | exact .inl rfl   | exact .inr rfl   | assumption); (refine @L2.cy _ _ _ _ _ _ _ _ _ _ _ _ PySem.F.slot_str_split PySem.F.type_str_split c9 cY cZ ?_ ?_ (by rfl) (by rfl) (by rfl) (by rfl) (by rfl); (exact (ac (pv 1))); (exact (ac (pv 7)))))); (refine @L2.aA _ _ _ _ _ _ ?_ ?_; (refine @L2.bK _ _ _ _ _ ?_; (refine @L2.aZ _ _ (9) _ _ _ _ fV.nd rfl (Or.inl rfl) ?_ (by rfl) (by first   | exact .inl rfl   | exact .inr rfl   | assumption); (refine @L2.aF _ _ _ _ ?_; (refine @L2.aG _ _ _ _ _ _ _ _ _ _ _ (cf T) (hr.mono (by decide)) rfl ?_ (by decide) (by rfl) (by rfl); (refine @L2.bF _ _ _ _ _ _ (pv 0) ?_ (by rfl); (refine @L2.aq _ _ _ _ _ _ ?_ aw (by rfl); (refine @L2.aU _ _ _ _ (aP) _ _ (by refine @L2.bc _ _ _ _ _ _ _ _ _ eF rfl T.c8 boot_len ?_ (by decide) (by decide) (by rfl) (by rfl); (refine @L2.av _ _ _ _ _ _ ?_ au (by rfl); (exact (ac (pv 8))))) ek))))))); (refine @L2.aA _ _ _ _ _ _ ?_ ?_; (refine @L2.bR _ _ _ _ _ _ _ _ _ ?_ ?_ bz; (refine @L2.bi _ _ _ _ _ _ _ _ _ _ ?_ fw ?_ ak (nomark _); (exact (fH hr)); (exact (ac (pv 2)))); (refine @L2.aA _ _ _ _ _ _ ?_ ?_; (refine @L2.bK _ _ _ _ _ ?_; (refine @L2.aZ _ _ (10) _ _ _ _ fV.nd rfl (Or.inl rfl) ?_ (by rfl) (by first   | exact .inl rfl   | exact .inr rfl   | assumption); (refine @L2.bu _ _ _ _ ?_; (refine @L2.cN _ _ _ _ _ ?_; (refine @L2.bB _ _ _ _ _ _ aK ?_ (by rfl); (refine @L2.bB _ _ _ _ _ _ aK ?_ (by rfl); (refine @L2.bB _ _ _ _ _ _ aK ?_ (by rfl); (refine @L2.bB _ _ _ _ _ _ aK ?_ (by rfl); (refine @L2.bB _ _ _ _ _ _ aK ?_ (by rfl); (refine @L2.bB _ _ _ _ _ _ aK ?_ (by rfl); (refine @L2.bB _ _ _ _ _ _ aK ?_ (by rfl); (refine @L2.bB _ _ _ _ _ _ aK ?_ (by rfl); (refine @L2.bB _ _ _ _ _ _ aK ?_ (by rfl); (refine @L2.bB _ _ _ _ _ _ aK ?_ (by rfl); (refine @L2.bB _ _ _ _ _ _ aK ?_ (by rfl); (refine @L2.bB _ _ _ _ _ _ aK ?_ (by rfl); (refine @L2.bB _ _ _ _ _ _ aK ?_ (by rfl); (refine @L2.bB _ _ _ _ _ _ aK ?_ (by rfl); (refine @L2.av _ _ _ _ _ _ aK ?_ (by rfl); (refine @L2.av _ _ _ _ _ _ ?_ au (by rfl); (exact (aR Zcd Zal aK ak)))))))))))))))))))))); (refine @L2.aE _ _ _ _ ?_; (refine @L2.ba _ _ _ _ _ ?_; (refine @L2.cy _ _ _ _ _ _ _ _ _ _ _ _ PySem.F.slot_str_join PySem.F.type_str_join pU rO ug ?_ ?_ (by rfl) (by rfl) (by rfl) (by rfl) (by rfl); (exact (ac (pv 7))); (refine @L2.aR _ _ _ _ _ _ _ _ _ _ br bq ?_ ?_; (refine @L2.aR _ _ _ _ _ _ _ _ _ _ br bq ?_ ?_; (refine @L2.eK _ _ _ _ _ _ _ _ _ _ ?_ eJ ?_; (exact (ac (pv 8))); (refine @L2.eI _ _ _ _ ?_; (exact (ac (pv 9))))); (refine @L2.bu _ _ _ _ ?_; (refine @L2.cN _ _ _ _ _ ?_; (refine @L2.av _ _ _ _ _ _ ?_ au (by rfl); (refine @L2.cz _ _ _ _ _ _ _ _ _ cx cP ?_ ?_ (λ_ _=>rfl); (exact (ac (pv 10))); (refine @L2.aF _ _ _ _ ?_; (refine @L2.aG _ _ _ _ _ _ _ _ _ _ _ (cf T) (hr.mono (by decide)) rfl ?_ (by decide) (by rfl) (by rfl); (refine @L2.bF _ _ _ _ _ _ (pv 0) ?_ (by rfl); (exact @L2.aq _ _ _ _ _ _ ak aw (by rfl)))))))))); (refine @L2.eK _ _ _ _ _ _ _ _ _ _ ?_ ?_ eJ; (exact (ac (pv 8))); (refine @L2.eI _ _ _ _ ?_; (refine @L2.aR _ _ _ _ _ _ _ _ _ _ br bq ?_ ak; (exact (ac (pv 9)))))))))))); (refine @L2.aA _ _ _ _ _ _ ?_ ?_; (refine @L2.bR _ _ _ _ _ _ _ _ _ ?_ ?_ bz; (refine @L2.bi _ _ _ _ _ _ _ _ _ _ ?_ fw ?_ ak (nomark _); (exact (fH hr)); (exact (ac (pv 2)))); (refine @L2.aE _ _ _ _ ?_; (refine @L2.ba _ _ _ _ _ ?_; (refine @L2.cy _ _ _ _ _ _ _ _ _ _ _ _ PySem.F.slot_str_join PySem.F.type_str_join pU rO ug ?_ ?_ (by rfl) (by rfl) (by rfl) (by rfl) (by rfl); (exact (ac (pv 7))); (refine @L2.aR _ _ _ _ _ _ _ _ _ _ br bq ?_ ?_; (refine @L2.eK _ _ _ _ _ _ _ _ _ _ ?_ eJ ?_; (exact (ac (pv 8))); (refine @L2.eI _ _ _ _ ?_; (exact (ac (pv 9))))); (refine @L2.eK _ _ _ _ _ _ _ _ _ _ ?_ ?_ eJ; (exact (ac (pv 8))); (refine @L2.eI _ _ _ _ ?_; (refine @L2.aR _ _ _ _ _ _ _ _ _ _ br bq ?_ ak; (exact (ac (pv 9))))))))))); (refine @L2.aE _ _ _ _ ?_; (refine @L2.ba _ _ _ _ _ ?_; (refine @L2.cy _ _ _ _ _ _ _ _ _ _ _ _ PySem.F.slot_str_join PySem.F.type_str_join pU rO ug ?_ ?_ (by rfl) (by rfl) (by rfl) (by rfl) (by rfl); (exact (ac (pv 7))); (refine @L2.aR _ _ _ _ _ _ _ _ _ _ br bq ?_ ?_; (refine @L2.eK _ _ _ _ _ _ _ _ _ _ ?_ eJ ?_; (exact (ac (pv 8))); (refine @L2.eI _ _ _ _ ?_; (refine @L2.aR _ _ _ _ _ _ _ _ _ _ br bq ?_ ak; (exact (ac (pv 9)))))); (refine @L2.eK _ _ _ _ _ _ _ _ _ _ ?_ ?_ eJ; (exact (ac (pv 8))); (refine @L2.eI _ _ _ _ ?_; (exact (ac (pv 9))))))))))))))))))))))
noncomputable def mM:List Sl->Tr PyData :=
 (az (aB cT (am (aa 0) ap)))
noncomputable def fK:List Sl->Tr Re:=bo 1 1
 (ay (bv 1 (bf (b8 (bL (ah cv (aa 0) (aC (.str "/")))) 1 [] (aj 0) mM)))
 (ay (bE (b7 (aT (ah eC (aM cU (ai (aa 1) ao)) (aC (.int 2)))) (b7 (aT (ah (iq false) (aC .none) (aa 1))) (b7 (aT (ah (bG λi j=>decide (i < j)) (ah bQ (aa 1) (aC (.int 1))) (aC (.int 1)))) (aT (ah eC (az (aB nh (am (ah bQ (aa 1) (aC (.int 0))) (am (ah bQ (aa 1) (aC (.int 1))) ap)))) (aC (.int 1)))))))
  (aW (aC .none))
  bn)
 (aW (aM cK (ai (aa 1) ao)))))
theorem Zef (T:Txt K mg):ACal (aV cn) P w K mg base "_law_share_of" 2 ["_law_text"] fK:=bD T.Zot Zbb rfl λf cdv A outer sh H E hr=>by
 exact (aA (u8 (tf (i:=1) rp ["_law_word"] [] rfl Zbb.nd rfl rfl (b6 (cy PySem.F.slot_str_split PySem.F.type_str_split c9 cY cZ (ac (pv 0)) aK)) (λb=>(bd (a9 (i:=0) (show ((bN rp ["_law_word"] [])).Nodup by decide +kernel) rfl (Or.inl rfl)))) (λb=>(aF (aG (qN T) (hr.mono (by decide)) rfl (aq (ac (pv 0)) aw)))) rfl (show BlkOk rp (aD mE) _ [] from ⟨rfl,by decide +kernel,by decide +kernel,by decide +kernel,by decide +kernel⟩) rfl) (bO (by decide)))
 (aA (bR (dL (cH (bi (gG hr) gB (aU (t:=aP) (bc eF rfl T.c8 boot_len (av (ac (pv 1)) au)) ek) ak (nomark _)) (cH (bi (tJ hr) n0 dM (ac (pv 1)) (by with_unfolding_all rfl)) (cH (bi hZ cb (cz cx cP (ac (pv 1)) ak (λ_ _=>rfl)) ak (nomark _)) (eG (bi (gG hr) gB (aF (aG (Zeh T) (hr.mono (by decide)) rfl (aq (cz cx cP (ac (pv 1)) ak (λ_ _=>rfl)) (aq (cz cx cP (ac (pv 1)) ak (λ_ _=>rfl)) aw)))) ak (nomark _)))))))
  (aE (ba dM))
  bz)
 (aE (ba (aU (t:=aP) (bP dA rfl T.cS boot_tuple (av (ac (pv 1)) au)) dq)))))
noncomputable def sS:List Sl->Tr PyData :=
 (az (aB lj (am (aa 0) (am (aC (.int 0)) (am (aC (.int 1000000)) ap)))))
noncomputable def jU:List Sl->Tr Re:=bo 1 0
 (ay (bE (b7 (cA (cJ (gX "tuple" (aa 0)))) (aT (ah eC (aM ik (ai (aa 0) ao)) (aC (.int 9)))))
  (aW (aC (.bool false)))
  bn)
 (ay (bE (cA (cJ (aM kh (ai (bf (b8 (lS (aa 0)) 1 [] (aj 0) sS)) ao))))
  (aW (aC (.bool false)))
  bn)
 (aW (ah (bG λi j=>decide (i<=j)) (ah eX (ah im (aa 0) (aC (.int 0))) (ah im (aa 0) (aC (.int 1)))) (aC (.int 39))))))
theorem Zej (T:Txt K mg):ACal (aV cn) P w K mg base "is_shop" 3 ["thing"] jU:=bD T.Zoi ZgH rfl λf cdv A outer sh H E hr=>by
 exact (aA (bR (dL (cH (cI (cV (jk (T:="tuple") (Or.inr (Or.inr (Or.inr (Or.inr (Or.inl rfl))))) rfl (bc jh rfl T.gf boot_isinstance (aN (ac (pv 0)) (aN (hV (v:=.ty "tuple") rfl T.cS boot_tuple rfl) bp)))))) (eG (bi (gG hr) gB (aU (t:=aP) (bc kd rfl T.c8 boot_len (av (ac (pv 0)) au)) mf) (fN rfl T.ZjU) (nomark _)))))
 (aE (ba fO))
 bz)
 (aA (bR (cI (cV (aU (t:=aP) (bc (qL rfl) rfl T.pT boot_all (av (bu (cW (cQ rm ["number"] [] rfl (qS (ac (pv 0))) (λb=>(bd (a9 (i:=0) (show ((bN rm ["number"] [])).Nodup by decide +kernel) rfl (Or.inl rfl)))) (λb=>(aF (aG (Zei T) (hr.mono (by decide)) rfl (aq (ac (pv 0)) (aq ak (aq (fN rfl T.ZjZ) aw)))))) rfl (show BlkOk rm (aD mB) _ [] from ⟨rfl,by decide +kernel,by decide +kernel,by decide +kernel,by decide +kernel⟩)) (bO (by decide)))) au)) n6)))
  (aE (ba fO))
  bz)
 (aE (ba (iC ia cb (aR pM n5 (cz cx md (ac (pv 0)) (fN rfl T.ZjT) (λ_ _=>rfl)) (cz cx md (ac (pv 0)) (fN rfl T.Zj3) (λ_ _=>rfl))) (fN rfl T.ZjY) (nomark _))))))
noncomputable def sV:List Sl->Tr PyData :=
 (az (aB lj (am (aa 0) (am (aC (.int 0)) (am (aC (.int 1000)) ap)))))
noncomputable def sU:List Sl->Tr PyData :=
 (ah (bG λi j=>decide (i > j)) (aa 0) (aC (.int 0)))
noncomputable def jX:List Sl->Tr Re:=bo 1 0
 (ay (bE (b7 (cA (cJ (gX "tuple" (aa 0)))) (cA (aT (jn (bG λi j=>decide (i<=j)) (bG λi j=>decide (i<=j)) (aC (.int 1)) (aM ik (ai (aa 0) ao)) (aC (.int 8))))))
  (aW (aC (.bool false)))
  bn)
 (ay (bE (cA (cJ (aM kh (ai (bf (b8 (lS (aa 0)) 1 [] (aj 0) sV)) ao))))
  (aW (aC (.bool false)))
  bn)
 (aW (aM qR (ai (bf (b8 (lS (aa 0)) 1 [] (aj 0) sU)) ao)))))
theorem Zpg (T:Txt K mg):ACal (aV cn) P w K mg base "is_day" 3 ["thing"] jX:=bD T.Zom ZgJ rfl λf cdv A outer sh H E hr=>by
 exact (aA (bR (dL (cH (cI (cV (jk (T:="tuple") (Or.inr (Or.inr (Or.inr (Or.inr (Or.inl rfl))))) rfl (bc jh rfl T.gf boot_isinstance (aN (ac (pv 0)) (aN (hV (v:=.ty "tuple") rfl T.cS boot_tuple rfl) bp)))))) (eG (cI (u3 ia cb ia cb ak (aU (t:=aP) (bc kd rfl T.c8 boot_len (av (ac (pv 0)) au)) mf) (fN rfl T.ZjW))))))
 (aE (ba fO))
 bz)
 (aA (bR (cI (cV (aU (t:=aP) (bc (qL rfl) rfl T.pT boot_all (av (bu (cW (cQ kr ["weight"] [] rfl (qS (ac (pv 0))) (λb=>(bd (a9 (i:=0) (show ((bN kr ["weight"] [])).Nodup by decide +kernel) rfl (Or.inl rfl)))) (λb=>(aF (aG (Zei T) (hr.mono (by decide)) rfl (aq (ac (pv 0)) (aq ak (aq (fN rfl T.ZjX) aw)))))) rfl (show BlkOk kr (aD kR) _ [] from ⟨rfl,by decide +kernel,by decide +kernel,by decide +kernel,by decide +kernel⟩)) (bO (by decide)))) au)) n6)))
  (aE (ba fO))
  bz)
 (aE (ba (aU (t:=aP) (bc (ZoY rfl) rfl T.ZiI boot_any (av (bu (cW (cQ kr ["weight"] [] rfl (qS (ac (pv 0))) (λb=>(bd (a9 (i:=0) (show ((bN kr ["weight"] [])).Nodup by decide +kernel) rfl (Or.inl rfl)))) (λb=>(iC fZ cb (ac (pv 0)) ak (nomark _))) rfl (show BlkOk kr (aD kR) _ [] from ⟨rfl,by decide +kernel,by decide +kernel,by decide +kernel,by decide +kernel⟩)) (bO (by decide)))) au)) Zfr)))))
noncomputable def pA:List Sl->Tr PyData :=
 (az (aB jS (am (aa 0) ap)))
noncomputable def pz:List Sl->Tr PyData :=
 (aM cK (ai (bf (b8 (bL (ah cv (aa 0) (aC (.str ",")))) 1 [] (aj 0) pA)) ao))
noncomputable def lf:List Sl->Tr Re:=bo 1 0
 (ay (lT (az (aB jY (am (aa 0) ap))))
 (aW (aM cK (ai (bf (b8 (bL (ah cv (aa 0) (aC (.str " ")))) 1 [] (aj 0) pz)) ao))))
theorem Zed (T:Txt K mg):ACal (aV cn) P w K mg base "read_rule" 3 ["text"] lf:=bD T.uN Za6 rfl λf cdv A outer sh H E hr=>by
 exact (aA (qP (aF (aG (qO T) (hr.mono (by decide)) rfl (aq (ac (pv 0)) aw))))
 (aE (ba (aU (t:=aP) (bP dA rfl T.cS boot_tuple (av (bu (cW (cQ gw ["day"] [] rfl (b6 (cy PySem.F.slot_str_split PySem.F.type_str_split c9 cY cZ (ac (pv 0)) aK)) (λb=>(bd (a9 (i:=0) (show ((bN gw ["day"] [])).Nodup by decide +kernel) rfl (Or.inl rfl)))) (λb=>(aU (t:=aP) (bP dA rfl T.cS boot_tuple (av (bu (cW (cQ (bN gw ["day"] []) ["word"] [] rfl (b6 (cy PySem.F.slot_str_split PySem.F.type_str_split c9 cY cZ (ac (pv 0)) aK)) (λb=>(bd (a9 (i:=0) (show ((bN (bN gw ["day"] []) ["word"] [])).Nodup by decide +kernel) rfl (Or.inl rfl)))) (λb=>(aF (aG (qM T) (hr.mono (by decide)) rfl (aq (ac (pv 0)) aw)))) rfl (BlkOk.leaf rfl (by decide +kernel) (by decide +kernel))) (bO (by decide)))) au)) dq)) rfl (show BlkOk gw (aD kP) _ [] from ⟨rfl,by decide +kernel,by decide +kernel,by decide +kernel,by decide +kernel⟩)) (bO (by decide)))) au)) dq))))
noncomputable def o9:List Sl->Tr (Option PyData) :=
 (fc iI (am (aa 0) ap))
noncomputable def o8:List Sl->Tr (Option PyData) :=
 (iM cK (iN (g6 (bL (ah cv (aa 0) (aC (.str ",")))) 1 [] (aj 0) o9)))
noncomputable def gA:List Sl->Tr (Option Re):=eY 1 0
 (dE (kD (fc iJ (am (aa 0) ap)))
 (ma (iM cK (iN (g6 (bL (ah cv (aa 0) (aC (.str " ")))) 1 [] (aj 0) o8)))))
theorem ZdT (T:Txt K mg) {C:Addr} (hC:mg "NoText"=some (.ref C)) (xc:Xcl K C eW "ValueError.__new__"):XCal (aV cn) P w K mg base "read_rule" 3 ["text"] C gA:=iH T.uN Za6 rfl λf cdv A outer sh H E hr=>by
 exact (eZ (nS (fR (qG (cn:=cn) T hC xc) (hr.mono (by decide)) rfl jJ (aq (ac (pv 0)) aw)))
 (gx (rF (kB dq (bP dA rfl T.cS boot_tuple (aN (kC (kA (kX gw ["day"] [] rfl (qk) rfl rfl rfl (b6 (cy PySem.F.slot_str_split PySem.F.type_str_split c9 cY cZ (ac (pv 0)) aK)) (λb=>(bd (a9 (i:=0) (show ((bN gw ["day"] [])).Nodup by decide +kernel) rfl (Or.inl rfl)))) (λb=>(kB dq (bP dA rfl T.cS boot_tuple (aN (kC (kA (kX (bN gw ["day"] []) ["word"] [] rfl (Zb6) rfl rfl rfl (b6 (cy PySem.F.slot_str_split PySem.F.type_str_split c9 cY cZ (ac (pv 0)) aK)) (λb=>(bd (a9 (i:=0) (show ((bN (bN gw ["day"] []) ["word"] [])).Nodup by decide +kernel) rfl (Or.inl rfl)))) (λb=>(fR (qF (cn:=cn) T hC xc) (hr.mono (by decide)) rfl pJ (aq (ac (pv 0)) aw))) rfl (BlkOk.leaf rfl (by decide +kernel) (by decide +kernel))) (bO (by decide)))) bp)))) rfl (show BlkOk gw (aD kP) _ [] from ⟨rfl,by decide +kernel,by decide +kernel,by decide +kernel,by decide +kernel⟩)) (bO (by decide)))) bp))))))
noncomputable def pw:List Sl->Tr PyData :=
 (az (aB jS (am (aa 0) ap)))
noncomputable def le:List Sl->Tr Re:=bo 1 1
 (ay (lT (az (aB jY (am (aa 0) ap))))
 (ay (bv 1 (aM cK (ai (bf (b8 (bL (ah cv (aa 0) (aC (.str "/")))) 1 [] (aj 0) pw)) ao)))
 (ay (bE (cA (cJ (az (aB jV (am (aa 1) ap)))))
  kj
  bn)
 (dO 1))))
theorem Zec (T:Txt K mg):ACal (aV cn) P w K mg base "read_share" 3 ["text"] le:=bD T.uM om rfl λf cdv A outer sh H E hr=>by
 exact (aA (qP (aF (aG (qO T) (hr.mono (by decide)) rfl (aq (ac (pv 0)) aw))))
 (aA (bK (aZ (i:=1) om.nd rfl (Or.inl rfl) (aU (t:=aP) (bP dA rfl T.cS boot_tuple (av (bu (cW (cQ kq ["word"] [] rfl (b6 (cy PySem.F.slot_str_split PySem.F.type_str_split c9 cY cZ (ac (pv 0)) aK)) (λb=>(bd (a9 (i:=0) (show ((bN kq ["word"] [])).Nodup by decide +kernel) rfl (Or.inl rfl)))) (λb=>(aF (aG (qM T) (hr.mono (by decide)) rfl (aq (ac (pv 0)) aw)))) rfl (show BlkOk kq (aD kO) _ [] from ⟨rfl,by decide +kernel,by decide +kernel,by decide +kernel,by decide +kernel⟩)) (bO (by decide)))) au)) dq)))
 (aA (bR (cI (cV (aF (aG (Zek T) (hr.mono (by decide)) rfl (aq (ac (pv 1)) aw)))))
  (aE lL)
  bz)
 (aE (gT (pv 1))))))
noncomputable def o7:List Sl->Tr (Option PyData) :=
 (fc iI (am (aa 0) ap))
noncomputable def fv:List Sl->Tr (Option Re):=eY 1 1
 (dE (kD (fc iJ (am (aa 0) ap)))
 (dE (l9 1 (iM cK (iN (g6 (bL (ah cv (aa 0) (aC (.str "/")))) 1 [] (aj 0) o7))))
 (dE (iO (cA (cJ (az (aB jV (am (aa 1) ap))))) iL (eL bn))
 (eL (dO 1)))))
theorem ZdS (T:Txt K mg) {C:Addr} (hC:mg "NoText"=some (.ref C)) (xc:Xcl K C eW "ValueError.__new__"):XCal (aV cn) P w K mg base "read_share" 3 ["text"] C fv:=iH T.uM om rfl λf cdv A outer sh H E hr=>by
 exact (eZ (nS (fR (qG (cn:=cn) T hC xc) (hr.mono (by decide)) rfl jJ (aq (ac (pv 0)) aw)))
 (eZ (rE (aZ (i:=1) om.nd rfl (Or.inl rfl) (kB dq (bP dA rfl T.cS boot_tuple (aN (kC (kA (kX kq ["word"] [] rfl (qk) rfl rfl rfl (b6 (cy PySem.F.slot_str_split PySem.F.type_str_split c9 cY cZ (ac (pv 0)) aK)) (λb=>(bd (a9 (i:=0) (show ((bN kq ["word"] [])).Nodup by decide +kernel) rfl (Or.inl rfl)))) (λb=>(fR (qF (cn:=cn) T hC xc) (hr.mono (by decide)) rfl pJ (aq (ac (pv 0)) aw))) rfl (show BlkOk kq (aD kO) _ [] from ⟨rfl,by decide +kernel,by decide +kernel,by decide +kernel,by decide +kernel⟩)) (bO (by decide)))) bp)))))
 (eZ (kz (cI (cV (aF (aG (Zek T) (hr.mono (by decide)) rfl (aq (ac (pv 1)) aw))))) (gx (ky (kU F.excBase_ValueError xc rfl hC))) (gy bz))
 (gy (aE (gT (pv 1)))))))
noncomputable def m7:List Sl->Tr Re:=bo 1 0
 (vo (aB lc (am (aa 0) ap)))
theorem Zo1 (T:Txt K mg):ACal (aV cn) P w K mg base "show_falls" 3 ["falls"] m7:=bD T.ZdO ZgE rfl λf cdv A outer sh H E hr=>by
 exact (aE (Zpv (aG (Zeb T) (hr.mono (by decide)) rfl (aq (ac (pv 0)) aw))))
noncomputable def pZ:List Sl->Tr Re:=bo 1 2
 (ay (kl (ka (fk (aj 1) (fk (aj 2) jc))) (aa 0))
 (aW (qW "@" (az (aB jR (am (aa 1) ap))) (az (aB ii (am (aa 2) ap))))))
theorem Zo2 (T:Txt K mg):ACal (aV cn) P w K mg base "show_entry" 3 ["entry"] pZ:=bD T.Zoc su rfl λf cdv A outer sh H E hr=>by
 exact (aA (nI (mP (ac (pv 0)) (nK rfl (gW (bd (a9 (i:=1) su.nd rfl (Or.inl rfl))) (gW (bd (a9 (i:=2) su.nd rfl (Or.inl rfl))) nJ)) (gN (gN nr)))))
 (aE (ba (ZeF (aF (aG (Zea T) (hr.mono (by decide)) rfl (aq (ac (pv 1)) aw))) (aF (aG (nF T) (hr.mono (by decide)) rfl (aq (ac (pv 2)) aw)))))))
noncomputable def gg:List Sl->Tr Ou :=
 (ay (bv 5 (ah cv (aa 4) (aC (.str "@"))))
 (ay (bv 6 (az (aB fK (am (ah bQ (aa 5) (aC (.int 0))) ap))))
 (ay (bE (b7 (aT (ah eC (aM cU (ai (aa 5) ao)) (aC (.int 2)))) (b7 (aT (ah io (aa 6) (aC .none))) (aT (ah io (az (aB cT (am (ah bQ (aa 5) (aC (.int 1))) ap))) (aC .none)))))
  (aW (aC .none))
  bn)
 (gm 3 (nL (ai (aa 6) (ai (az (aB cT (am (ah bQ (aa 5) (aC (.int 1))) ap))) ao)))))))
noncomputable def gI:List Sl->Tr Ou :=
 (ay (iE 3 (cB ao))
 (ay (fP (bL (ah cv (aa 2) (aC (.str " ")))) (aj 4) gg)
 (iF 3 (gm 1 (aM cK (ai (aa 3) ao))))))
noncomputable def lg:List Sl->Tr Re:=bo 1 6
 (ay (iE 1 (cB ao))
 (ay (fP (bL (ah cv (aa 0) (aC (.str "\n")))) (aj 2) gI)
 (iF 1 (aW (aM cK (ai (aa 1) ao))))))
theorem Zo8 (T:Txt K mg):ACal (aV cn) P w K mg base "_law_table_of" 3 ["_law_text"] lg:=bD T.Zoq jD rfl λf cdv A outer sh H E hr=>by
 exact (aA (ke (aZ (i:=1) jD.nd rfl (Or.inl rfl) (cN au)))
 (aA (gU PassesOwn.never rfl (b6 (cy PySem.F.slot_str_split PySem.F.type_str_split c9 cY cZ (ac (pv 0)) aK)) (bd (a9 (i:=2) jD.nd rfl (Or.inl rfl)))
  (aA (ke (aZ (i:=3) jD.nd rfl (Or.inl rfl) (cN au)))
 (aA (gU PassesOwn.never rfl (b6 (cy PySem.F.slot_str_split PySem.F.type_str_split c9 cY cZ (ac (pv 2)) aK)) (bd (a9 (i:=4) jD.nd rfl (Or.inl rfl)))
  (aA (bK (aZ (i:=5) jD.nd rfl (Or.inl rfl) (cy PySem.F.slot_str_split PySem.F.type_str_split c9 cY cZ (ac (pv 4)) aK)))
 (aA (bK (aZ (i:=6) jD.nd rfl (Or.inl rfl) (aF (aG (Zef T) (hr.mono (by decide)) rfl (aq (cz cx cP (ac (pv 5)) ak (λ_ _=>rfl)) aw)))))
 (aA (bR (dL (cH (bi (gG hr) gB (aU (t:=aP) (bc eF rfl T.c8 boot_len (av (ac (pv 5)) au)) ek) ak (nomark _)) (cH (bi mT me (ac (pv 6)) dM (nomark _)) (eG (bi mT me (aF (aG (qN T) (hr.mono (by decide)) rfl (aq (cz cx cP (ac (pv 5)) ak (λ_ _=>rfl)) aw))) dM (nomark _))))))
  (aE (ba dM))
  bz)
 (aE (jj (fY (gF PySem.F.plainAttrs_list PySem.F.slot_list_append PySem.F.type_list_append iZ (pv 3) (aN (vi (av (ac (pv 6)) (av (aF (aG (qN T) (hr.mono (by decide)) rfl (aq (cz cx cP (ac (pv 5)) ak (λ_ _=>rfl)) aw))) au))) bp)))))))))
 (aE (kg (k:=3) (jj (fY (gF PySem.F.plainAttrs_list PySem.F.slot_list_append PySem.F.type_list_append iZ (pv 1) (aN (aU (t:=aP) (bP dA rfl T.cS boot_tuple (av (ac (pv 3)) au)) dq) bp)))))))))
 (aE (kg (k:=1) (ba (aU (t:=aP) (bP dA rfl T.cS boot_tuple (av (ac (pv 1)) au)) dq))))))
noncomputable def nc:List Sl->Tr Re:=bo 1 2
 (ay (kl (ka (fk (aj 1) (fk (aj 2) jc))) (az (aB ng (am (az (aB li (bA 0 ap))) (am (ah aY (aM iD (ai (az (aB li (bA 0 ap))) ao)) (aC (.int 1))) ap)))))
 (aW (ah aY (ah aY (aM et (ai (aa 1) ao)) (aC (.str "/"))) (aM et (ai (aa 2) ao)))))
theorem Zee (T:Txt K mg):ACal (aV cn) P w K mg base "_law_share_text" 3 ["_law_pen_here"] nc:=bD T.Zos sy rfl λf cdv A outer sh H E hr=>by
 exact (aA (nI (mP (aF (aG (Zpb T) (hr.mono (by decide)) rfl (aq (aF (aG (uW T) (hr.mono (by decide)) rfl (bF (pv 0) aw))) (aq (aR br bq (aU (t:=aP) (bc ji rfl T.iY boot_abs (av (aF (aG (uW T) (hr.mono (by decide)) rfl (bF (pv 0) aw))) au)) kF) ak) aw)))) (nK rfl (gW (bd (a9 (i:=1) sy.nd rfl (Or.inl rfl))) (gW (bd (a9 (i:=2) sy.nd rfl (Or.inl rfl))) nJ)) (gN (gN nr)))))
 (aE (ba (aR br bq (aR br bq (aU (t:=aP) (bP gR rfl T.fI boot_str (av (ac (pv 1)) au)) gC) aK) (aU (t:=aP) (bP gR rfl T.fI boot_str (av (ac (pv 2)) au)) gC)))))
noncomputable def sT:List Sl->Tr PyData :=
 (az (aB jX (am (aa 0) ap)))
noncomputable def jW:List Sl->Tr Re:=bo 1 0
 (ay (bE (b7 (cA (cJ (gX "tuple" (aa 0)))) (cA (aT (jn (bG λi j=>decide (i<=j)) (bG λi j=>decide (i<=j)) (aC (.int 1)) (aM ik (ai (aa 0) ao)) (aC (.int 6))))))
  (aW (aC (.bool false)))
  bn)
 (aW (aM kh (ai (bf (b8 (lS (aa 0)) 1 [] (aj 0) sT)) ao))))
theorem Zem (T:Txt K mg):ACal (aV cn) P w K mg base "is_falls" 4 ["thing"] jW:=bD T.Zol ZgI rfl λf cdv A outer sh H E hr=>by
 exact (aA (bR (dL (cH (cI (cV (jk (T:="tuple") (Or.inr (Or.inr (Or.inr (Or.inr (Or.inl rfl))))) rfl (bc jh rfl T.gf boot_isinstance (aN (ac (pv 0)) (aN (hV (v:=.ty "tuple") rfl T.cS boot_tuple rfl) bp)))))) (eG (cI (u3 ia cb ia cb ak (aU (t:=aP) (bc kd rfl T.c8 boot_len (av (ac (pv 0)) au)) mf) (fN rfl T.Zj1))))))
 (aE (ba fO))
 bz)
 (aE (ba (aU (t:=aP) (bc (qL rfl) rfl T.pT boot_all (av (bu (cW (cQ ro ["day"] [] rfl (qS (ac (pv 0))) (λb=>(bd (a9 (i:=0) (show ((bN ro ["day"] [])).Nodup by decide +kernel) rfl (Or.inl rfl)))) (λb=>(aF (aG (Zpg T) (hr.mono (by decide)) rfl (aq (ac (pv 0)) aw)))) rfl (show BlkOk ro (aD mD) _ [] from ⟨rfl,by decide +kernel,by decide +kernel,by decide +kernel,by decide +kernel⟩)) (bO (by decide)))) au)) n6))))
noncomputable def pq:List Sl->Tr PyData :=
 (az (aB jS (am (aa 0) ap)))
noncomputable def m9:List Sl->Tr Re:=bo 1 1
 (ay (lT (az (aB jY (am (aa 0) ap))))
 (ay (bv 1 (aM cK (ai (bf (b8 (bL (ah cv (aa 0) (aC (.str " ")))) 1 [] (aj 0) pq)) ao)))
 (ay (bE (cA (cJ (az (aB jU (am (aa 1) ap)))))
  kj
  bn)
 (dO 1))))
theorem Zo4 (T:Txt K mg):ACal (aV cn) P w K mg base "read_shop" 4 ["text"] m9:=bD T.uL ol rfl λf cdv A outer sh H E hr=>by
 exact (aA (qP (aF (aG (qO T) (hr.mono (by decide)) rfl (aq (ac (pv 0)) aw))))
 (aA (bK (aZ (i:=1) ol.nd rfl (Or.inl rfl) (aU (t:=aP) (bP dA rfl T.cS boot_tuple (av (bu (cW (cQ kn ["word"] [] rfl (b6 (cy PySem.F.slot_str_split PySem.F.type_str_split c9 cY cZ (ac (pv 0)) aK)) (λb=>(bd (a9 (i:=0) (show ((bN kn ["word"] [])).Nodup by decide +kernel) rfl (Or.inl rfl)))) (λb=>(aF (aG (qM T) (hr.mono (by decide)) rfl (aq (ac (pv 0)) aw)))) rfl (show BlkOk kn (aD kN) _ [] from ⟨rfl,by decide +kernel,by decide +kernel,by decide +kernel,by decide +kernel⟩)) (bO (by decide)))) au)) dq)))
 (aA (bR (cI (cV (aF (aG (Zej T) (hr.mono (by decide)) rfl (aq (ac (pv 1)) aw)))))
  (aE lL)
  bz)
 (aE (gT (pv 1))))))
noncomputable def o6:List Sl->Tr (Option PyData) :=
 (fc iI (am (aa 0) ap))
noncomputable def fS:List Sl->Tr (Option Re):=eY 1 1
 (dE (kD (fc iJ (am (aa 0) ap)))
 (dE (l9 1 (iM cK (iN (g6 (bL (ah cv (aa 0) (aC (.str " ")))) 1 [] (aj 0) o6))))
 (dE (iO (cA (cJ (az (aB jU (am (aa 1) ap))))) iL (eL bn))
 (eL (dO 1)))))
theorem ZoH (T:Txt K mg) {C:Addr} (hC:mg "NoText"=some (.ref C)) (xc:Xcl K C eW "ValueError.__new__"):XCal (aV cn) P w K mg base "read_shop" 4 ["text"] C fS:=iH T.uL ol rfl λf cdv A outer sh H E hr=>by
 exact (eZ (nS (fR (qG (cn:=cn) T hC xc) (hr.mono (by decide)) rfl jJ (aq (ac (pv 0)) aw)))
 (eZ (rE (aZ (i:=1) ol.nd rfl (Or.inl rfl) (kB dq (bP dA rfl T.cS boot_tuple (aN (kC (kA (kX kn ["word"] [] rfl (qk) rfl rfl rfl (b6 (cy PySem.F.slot_str_split PySem.F.type_str_split c9 cY cZ (ac (pv 0)) aK)) (λb=>(bd (a9 (i:=0) (show ((bN kn ["word"] [])).Nodup by decide +kernel) rfl (Or.inl rfl)))) (λb=>(fR (qF (cn:=cn) T hC xc) (hr.mono (by decide)) rfl pJ (aq (ac (pv 0)) aw))) rfl (show BlkOk kn (aD kN) _ [] from ⟨rfl,by decide +kernel,by decide +kernel,by decide +kernel,by decide +kernel⟩)) (bO (by decide)))) bp)))))
 (eZ (kz (cI (cV (aF (aG (Zej T) (hr.mono (by decide)) rfl (aq (ac (pv 1)) aw))))) (gx (ky (kU F.excBase_ValueError xc rfl hC))) (gy bz))
 (gy (aE (gT (pv 1)))))))
noncomputable def p4:List Sl->Tr Re:=bo 1 1
 (ay (bv 1 (ah cv (aa 0) (aC (.str "@"))))
 (ay (bE (aT (ah eC (aM cU (ai (aa 1) ao)) (aC (.int 2))))
  kj
  bn)
 (aW (nL (ai (az (aB le (am (ah bQ (aa 1) (aC (.int 0))) ap))) (ai (az (aB jS (am (ah bQ (aa 1) (aC (.int 1))) ap))) ao))))))
theorem Zo6 (T:Txt K mg):ACal (aV cn) P w K mg base "read_entry" 4 ["word"] p4:=bD T.ZdQ oo rfl λf cdv A outer sh H E hr=>by
 exact (aA (bK (aZ (i:=1) oo.nd rfl (Or.inl rfl) (cy PySem.F.slot_str_split PySem.F.type_str_split c9 cY cZ (ac (pv 0)) aK)))
 (aA (bR (bi (gG hr) gB (aU (t:=aP) (bc eF rfl T.c8 boot_len (av (ac (pv 1)) au)) ek) ak (nomark _))
  (aE lL)
  bz)
 (aE (ba (vi (av (aF (aG (Zec T) (hr.mono (by decide)) rfl (aq (cz cx cP (ac (pv 1)) ak (λ_ _=>rfl)) aw))) (av (aF (aG (qM T) (hr.mono (by decide)) rfl (aq (cz cx cP (ac (pv 1)) ak (λ_ _=>rfl)) aw))) au)))))))
noncomputable def ju:List Sl->Tr (Option Re):=eY 1 1
 (dE (eL (bv 1 (ah cv (aa 0) (aC (.str "@")))))
 (dE (iO (aT (ah eC (aM cU (ai (aa 1) ao)) (aC (.int 2)))) iL (eL bn))
 (ma (rK (fc fv (am (ah bQ (aa 1) (aC (.int 0))) ap)) (fc iI (am (ah bQ (aa 1) (aC (.int 1))) ap))))))
theorem ZoJ (T:Txt K mg) {C:Addr} (hC:mg "NoText"=some (.ref C)) (xc:Xcl K C eW "ValueError.__new__"):XCal (aV cn) P w K mg base "read_entry" 4 ["word"] C ju:=iH T.ZdQ oo rfl λf cdv A outer sh H E hr=>by
 exact (eZ (ZeZ (bK (aZ (i:=1) oo.nd rfl (Or.inl rfl) (cy PySem.F.slot_str_split PySem.F.type_str_split c9 cY cZ (ac (pv 0)) aK))))
 (eZ (kz (bi (gG hr) gB (aU (t:=aP) (bc eF rfl T.c8 boot_len (av (ac (pv 1)) au)) ek) ak (nomark _)) (gx (ky (kU F.excBase_ValueError xc rfl hC))) (gy bz))
 (gx (rF (Ze3 (fR (ZdS (cn:=cn) T hC xc) (hr.mono (by decide)) rfl jJ (aq (cz cx cP (ac (pv 1)) ak (λ_ _=>rfl)) aw)) (fR (qF (cn:=cn) T hC xc) (hr.mono (by decide)) rfl jJ (aq (cz cx cP (ac (pv 1)) ak (λ_ _=>rfl)) aw)))))))
noncomputable def pc:List Sl->Tr PyData :=
 (az (aB pZ (am (aa 0) ap)))
noncomputable def pb:List Sl->Tr PyData :=
 (ah bW (aC (.str " ")) (bf (b8 (bL (aa 0)) 1 [] (aj 0) pc)))
noncomputable def mY:List Sl->Tr Re:=bo 1 0
 (aW (ah bW (aC (.str "\n")) (bf (b8 (bL (aa 0)) 1 [] (aj 0) pb))))
theorem ZoZ (T:Txt K mg):ACal (aV cn) P w K mg base "show_table" 4 ["table"] mY:=bD T.ZdK ZgB rfl λf cdv A outer sh H E hr=>by
 exact (aE (ba (fq aK (bu (cW (cQ lY ["day"] [] rfl (b6 (ac (pv 0))) (λb=>(bd (a9 (i:=0) (show ((bN lY ["day"] [])).Nodup by decide +kernel) rfl (Or.inl rfl)))) (λb=>(fq aK (bu (cW (cQ (bN lY ["day"] []) ["entry"] [] rfl (b6 (ac (pv 0))) (λb=>(bd (a9 (i:=0) (show ((bN (bN lY ["day"] []) ["entry"] [])).Nodup by decide +kernel) rfl (Or.inl rfl)))) (λb=>(aF (aG (Zo2 T) (hr.mono (by decide)) rfl (aq (ac (pv 0)) aw)))) rfl (BlkOk.leaf rfl (by decide +kernel) (by decide +kernel))) (bO (by decide)))))) rfl (show BlkOk lY (aD mw) _ [] from ⟨rfl,by decide +kernel,by decide +kernel,by decide +kernel,by decide +kernel⟩)) (bO (by decide)))))))
noncomputable def sQ:List Sl->Tr PyData :=
 (az (aB bV (bA 1 (am (ah bQ (bf (cB (ai (aC (.int 9)) (ai (aC (.int 1000001)) ao)))) (az (aB bV (bA 1 (am (aC (.int 2)) ap))))) ap))))
noncomputable def sP:List Sl->Tr PyData :=
 (aM et (ai (az (aB bV (bA 1 (am (ah bQ (bf (cB (ai (aC (.int 4)) (ai (aC (.int 1001)) ao)))) (az (aB bV (bA 1 (am (aC (.int 2)) ap))))) ap)))) ao))
noncomputable def t8:List Sl->Tr Ou :=
 (gm 2 (ah bW (aC (.str ",")) (bf (b8 (gk (ai (ah aY (aC (.int 1)) (az (aB bV (bA 0 (am (aC (.int 8)) ap))))) ao)) 1 [0] (aj 0) sP))))
noncomputable def sO:List Sl->Tr PyData :=
 (aM et (ai (ah g7 (az (aB bV (bA 1 (am (aC (.int 30)) ap)))) (aC (.int 12))) ao))
noncomputable def t7:List Sl->Tr Ou :=
 (gm 4 (ah bW (aC (.str ",")) (bf (b8 (gk (ai (ah aY (aC (.int 1)) (az (aB bV (bA 0 (am (aC (.int 9)) ap))))) ao)) 1 [0] (aj 0) sO))))
noncomputable def sN:List Sl->Tr PyData :=
 (ah aY (ah aY (az (aB nc (bA 1 ap))) (aC (.str "@"))) (aM et (ai (ah g7 (az (aB bV (bA 1 (am (aC (.int 9)) ap)))) (aC (.int 3))) ao)))
noncomputable def t6:List Sl->Tr Ou :=
 (ay (bv 6 (bf (b8 (gk (ai (ah aY (aC (.int 1)) (az (aB bV (bA 0 (am (aC (.int 4)) ap))))) ao)) 1 [0] (aj 0) sN)))
 (gm 5 (ah bW (aC (.str " ")) (aa 6))))
noncomputable def pB:List Sl->Tr PyData :=
 (aM et (ai (aa 0) ao))
noncomputable def p5:List Sl->Tr Re:=bo 1 8
 (ay (bv 1 (bf (cB (ai (az (aB bV (bA 0 (am (aC (.int 20)) ap)))) (ai (az (aB bV (bA 0 (am (aC (.int 20)) ap)))) ao)))))
 (ay (bv 1 (ah aY (aa 1) (bf (b8 (gk (ai (aC (.int 7)) ao)) 1 [0] (aj 0) sQ))))
 (ay (iE 2 (cB ao))
 (ay (fP (gk (ai (ah aY (aC (.int 1)) (az (aB bV (bA 0 (am (aC (.int 6)) ap))))) ao)) (aj 3) t8)
 (ay (iE 4 (cB ao))
 (ay (fP (gk (ai (ah aY (aC (.int 1)) (az (aB bV (bA 0 (am (aC (.int 6)) ap))))) ao)) (aj 3) t7)
 (ay (iE 5 (cB ao))
 (ay (fP (gk (ai (ah aY (aC (.int 1)) (az (aB bV (bA 0 (am (aC (.int 3)) ap))))) ao)) (aj 3) t6)
 (ay (iF 4 (iF 2 (bv 7 (bf (cB (ai (ah bW (aC (.str " ")) (bf (b8 (bL (aa 1)) 1 [] (aj 0) pB))) (ai (ah bW (aC (.str " ")) (aa 2)) (ai (ah bW (aC (.str " ")) (aa 4)) (ai (az (aB nc (bA 0 ap))) ao)))))))))
 (ay (bv 8 (ah aY (aC (.str "1")) (ah ie (aC (.str "0")) (ah aY (aC (.int 398)) (az (aB bV (bA 0 (am (aC (.int 3)) ap))))))))
 (ay (bv 7 (ah aY (aa 7) (bf (cB (ai (ah aY (aC (.str "-")) (aa 8)) (ai (ah aY (aa 8) (aC (.str "/3"))) (ai (ah aY (aC (.str "1/7")) (dN (aa 8) (dC (aC (.int 1))) dP)) (ai (ah aY (aC (.str "0/1@")) (aa 8)) (ai (ah aY (aC (.str "0,1 -")) (aa 8)) (ai (ah aY (aa 8) (aC (.str "/7@1 0/1@0"))) ao))))))))))
 (iF 5 (aW (ah aY (aa 7) (bf (cB (ai (ah bW (aC (.str "\n")) (aa 5)) (ai (aM et (ai (az (aB li (bA 0 ap))) ao)) (ai (aM et (ai (az (aB bV (bA 0 (am (aC (.int 1002)) ap)))) ao)) (ai (aC (.str "0")) (ai (aC (.str "1")) ao)))))))))))))))))))))
theorem Zo7 (T:Txt K mg):ACal (aV cn) P w K mg base "_law_texts" 4 ["_law_pen_here"] p5:=bD T.Zop fh rfl λf cdv A outer sh H E hr=>by
 exact (aA (bK (aZ (i:=1) fh.nd rfl (Or.inl rfl) (bu (cN (av (aF (aG (cf T) (hr.mono (by decide)) rfl (bF (pv 0) (aq ak aw)))) (av (aF (aG (cf T) (hr.mono (by decide)) rfl (bF (pv 0) (aq ak aw)))) au))))))
 (aA (bK (aZ (i:=1) fh.nd rfl (Or.inl rfl) (aR br bq (ac (pv 1)) (bu (cW (cQ d6 ["_law_k"] [0] rfl (iB (hU rfl T.ic (av ak au))) (λb=>(bd (a9 (i:=0) (show ((bN d6 ["_law_k"] [0])).Nodup by decide +kernel) rfl (Or.inl rfl)))) (λb=>(aF (aG (cf T) (hr.mono (by decide)) rfl (bF (pv 1) (aq (cz cx cP (bu (cN (av ak (av ak au)))) (aF (aG (cf T) (hr.mono (by decide)) rfl (bF (pv 1) (aq ak aw)))) (λ_ _=>rfl)) aw))))) rfl (show BlkOk d6 (aD hI) _ [0] from ⟨rfl,by decide +kernel,by decide +kernel,by decide +kernel,by decide +kernel⟩)) (bO (by decide)))))))
 (aA (ke (aZ (i:=2) fh.nd rfl (Or.inl rfl) (cN au)))
 (aA (gU PassesOwn.never rfl (iB (hU rfl T.ic (av (aR br bq ak (aF (aG (cf T) (hr.mono (by decide)) rfl (bF (pv 0) (aq ak aw))))) au))) (bd (a9 (i:=3) fh.nd rfl (Or.inl rfl)))
  (aE (jj (fY (gF PySem.F.plainAttrs_list PySem.F.slot_list_append PySem.F.type_list_append iZ (pv 2) (aN (fq aK (bu (cW (cQ d6 ["_law_j"] [0] rfl (iB (hU rfl T.ic (av (aR br bq ak (aF (aG (cf T) (hr.mono (by decide)) rfl (bF (pv 0) (aq ak aw))))) au))) (λb=>(bd (a9 (i:=0) (show ((bN d6 ["_law_j"] [0])).Nodup by decide +kernel) rfl (Or.inl rfl)))) (λb=>(aU (t:=aP) (bP gR rfl T.fI boot_str (av (aF (aG (cf T) (hr.mono (by decide)) rfl (bF (pv 1) (aq (cz cx cP (bu (cN (av ak (av ak au)))) (aF (aG (cf T) (hr.mono (by decide)) rfl (bF (pv 1) (aq ak aw)))) (λ_ _=>rfl)) aw)))) au)) gC)) rfl (show BlkOk d6 (aD hI) _ [0] from ⟨rfl,by decide +kernel,by decide +kernel,by decide +kernel,by decide +kernel⟩)) (bO (by decide))))) bp))))))
 (aA (ke (aZ (i:=4) fh.nd rfl (Or.inl rfl) (cN au)))
 (aA (gU PassesOwn.never rfl (iB (hU rfl T.ic (av (aR br bq ak (aF (aG (cf T) (hr.mono (by decide)) rfl (bF (pv 0) (aq ak aw))))) au))) (bd (a9 (i:=3) fh.nd rfl (Or.inl rfl)))
  (aE (jj (fY (gF PySem.F.plainAttrs_list PySem.F.slot_list_append PySem.F.type_list_append iZ (pv 4) (aN (fq aK (bu (cW (cQ d6 ["_law_j"] [0] rfl (iB (hU rfl T.ic (av (aR br bq ak (aF (aG (cf T) (hr.mono (by decide)) rfl (bF (pv 0) (aq ak aw))))) au))) (λb=>(bd (a9 (i:=0) (show ((bN d6 ["_law_j"] [0])).Nodup by decide +kernel) rfl (Or.inl rfl)))) (λb=>(aU (t:=aP) (bP gR rfl T.fI boot_str (av (aR kZ kE (aF (aG (cf T) (hr.mono (by decide)) rfl (bF (pv 1) (aq ak aw)))) ak) au)) gC)) rfl (show BlkOk d6 (aD hI) _ [0] from ⟨rfl,by decide +kernel,by decide +kernel,by decide +kernel,by decide +kernel⟩)) (bO (by decide))))) bp))))))
 (aA (ke (aZ (i:=5) fh.nd rfl (Or.inl rfl) (cN au)))
 (aA (gU PassesOwn.never rfl (iB (hU rfl T.ic (av (aR br bq ak (aF (aG (cf T) (hr.mono (by decide)) rfl (bF (pv 0) (aq ak aw))))) au))) (bd (a9 (i:=3) fh.nd rfl (Or.inl rfl)))
  (aA (u8 (tf (i:=6) d6 ["_law_j"] [0] rfl fh.nd rfl rfl (iB (hU rfl T.ic (av (aR br bq ak (aF (aG (cf T) (hr.mono (by decide)) rfl (bF (pv 0) (aq ak aw))))) au))) (λb=>(bd (a9 (i:=0) (show ((bN d6 ["_law_j"] [0])).Nodup by decide +kernel) rfl (Or.inl rfl)))) (λb=>(aR br bq (aR br bq (aF (aG (Zee T) (hr.mono (by decide)) rfl (bF (pv 1) aw))) aK) (aU (t:=aP) (bP gR rfl T.fI boot_str (av (aR kZ kE (aF (aG (cf T) (hr.mono (by decide)) rfl (bF (pv 1) (aq ak aw)))) ak) au)) gC))) rfl (show BlkOk d6 (aD hI) _ [0] from ⟨rfl,by decide +kernel,by decide +kernel,by decide +kernel,by decide +kernel⟩) rfl) (bO (by decide)))
 (aE (jj (fY (gF PySem.F.plainAttrs_list PySem.F.slot_list_append PySem.F.type_list_append iZ (pv 5) (aN (fq aK (ac (pv 6))) bp)))))))
 (aA (kg (k:=4) (kg (k:=2) (bK (aZ (i:=7) fh.nd rfl (Or.inl rfl) (by refine bu ?_; refine cN ?_; refine bB ?_ ?_; exact (fq aK (bu (cW (cQ d6 ["_law_one"] [] rfl (b6 (ac (pv 1))) (λb=>(bd (a9 (i:=0) (show ((bN d6 ["_law_one"] [])).Nodup by decide +kernel) rfl (Or.inl rfl)))) (λb=>(aU (t:=aP) (bP gR rfl T.fI boot_str (av (ac (pv 0)) au)) gC)) rfl (show BlkOk d6 (aD hI) _ [] from ⟨rfl,by decide +kernel,by decide +kernel,by decide +kernel,by decide +kernel⟩)) (bO (by decide))))); refine bB ?_ ?_; exact (fq aK (ac (pv 2))); refine bB ?_ ?_; exact (fq aK (ac (pv 4))); refine bB ?_ ?_; exact (aF (aG (Zee T) (hr.mono (by decide)) rfl (bF (pv 0) aw))); exact au)))))
 (aA (bK (aZ (i:=8) fh.nd rfl (Or.inl rfl) (aR br bq aK (aR Zcd Zal aK (aR br bq ak (aF (aG (cf T) (hr.mono (by decide)) rfl (bF (pv 0) (aq ak aw)))))))))
 (aA (bK (aZ (i:=7) fh.nd rfl (Or.inl rfl) (aR br bq (ac (pv 7)) (by refine bu ?_; refine cN ?_; refine bB ?_ ?_; exact (aR br bq aK (ac (pv 8))); refine bB ?_ ?_; exact (aR br bq (ac (pv 8)) aK); refine bB ?_ ?_; exact (aR br bq aK (eK (ac (pv 8)) (eI ak) eJ)); refine bB ?_ ?_; exact (aR br bq aK (ac (pv 8))); refine bB ?_ ?_; exact (aR br bq aK (ac (pv 8))); refine bB ?_ ?_; exact (aR br bq (ac (pv 8)) aK); exact au))))
 (aE (kg (k:=5) (ba (aR br bq (ac (pv 7)) (by refine bu ?_; refine cN ?_; refine bB ?_ ?_; exact (fq aK (ac (pv 5))); refine bB ?_ ?_; exact (aU (t:=aP) (bP gR rfl T.fI boot_str (av (aF (aG (uW T) (hr.mono (by decide)) rfl (bF (pv 0) aw))) au)) gC); refine bB ?_ ?_; exact (aU (t:=aP) (bP gR rfl T.fI boot_str (av (aF (aG (cf T) (hr.mono (by decide)) rfl (bF (pv 0) (aq ak aw)))) au)) gC); refine bB ?_ ?_; exact aK; refine bB ?_ ?_; exact aK; exact au))))))))))))))))
noncomputable def na:List Sl->Tr Re:=bo 1 1
 (ay (bv 1 (az (aB lf (am (aa 0) ap))))
 (ay (bE (cA (cJ (az (aB jW (am (aa 1) ap)))))
  kj
  bn)
 (dO 1)))
theorem Zo5 (T:Txt K mg):ACal (aV cn) P w K mg base "read_falls" 5 ["text"] na:=bD T.uO on rfl λf cdv A outer sh H E hr=>by
 exact (aA (bK (aZ (i:=1) on.nd rfl (Or.inl rfl) (aF (aG (Zed T) (hr.mono (by decide)) rfl (aq (ac (pv 0)) aw)))))
 (aA (bR (cI (cV (aF (aG (Zem T) (hr.mono (by decide)) rfl (aq (ac (pv 1)) aw)))))
  (aE lL)
  bz)
 (aE (gT (pv 1)))))
noncomputable def fT:List Sl->Tr (Option Re):=eY 1 1
 (dE (l9 1 (fc gA (am (aa 0) ap)))
 (dE (iO (cA (cJ (az (aB jW (am (aa 1) ap))))) iL (eL bn))
 (eL (dO 1))))
theorem ZoI (T:Txt K mg) {C:Addr} (hC:mg "NoText"=some (.ref C)) (xc:Xcl K C eW "ValueError.__new__"):XCal (aV cn) P w K mg base "read_falls" 5 ["text"] C fT:=iH T.uO on rfl λf cdv A outer sh H E hr=>by
 exact (eZ (rE (aZ (i:=1) on.nd rfl (Or.inl rfl) (fR (ZdT (cn:=cn) T hC xc) (hr.mono (by decide)) rfl jJ (aq (ac (pv 0)) aw))))
 (eZ (kz (cI (cV (aF (aG (Zem T) (hr.mono (by decide)) rfl (aq (ac (pv 1)) aw))))) (gx (ky (kU F.excBase_ValueError xc rfl hC))) (gy bz))
 (gy (aE (gT (pv 1))))))
noncomputable def pj:List Sl->Tr PyData :=
 (az (aB p4 (am (aa 0) ap)))
noncomputable def ph:List Sl->Tr PyData :=
 (aM cK (ai (bf (b8 (bL (ah cv (aa 0) (aC (.str " ")))) 1 [] (aj 0) pj)) ao))
noncomputable def m8:List Sl->Tr Re:=bo 1 0
 (ay (lT (az (aB jY (am (aa 0) ap))))
 (aW (aM cK (ai (bf (b8 (bL (ah cv (aa 0) (aC (.str "\n")))) 1 [] (aj 0) ph)) ao))))
theorem Zo3 (T:Txt K mg):ACal (aV cn) P w K mg base "read_table" 5 ["text"] m8:=bD T.uK Za5 rfl λf cdv A outer sh H E hr=>by
 exact (aA (qP (aF (aG (qO T) (hr.mono (by decide)) rfl (aq (ac (pv 0)) aw))))
 (aE (ba (aU (t:=aP) (bP dA rfl T.cS boot_tuple (av (bu (cW (cQ gv ["line"] [] rfl (b6 (cy PySem.F.slot_str_split PySem.F.type_str_split c9 cY cZ (ac (pv 0)) aK)) (λb=>(bd (a9 (i:=0) (show ((bN gv ["line"] [])).Nodup by decide +kernel) rfl (Or.inl rfl)))) (λb=>(aU (t:=aP) (bP dA rfl T.cS boot_tuple (av (bu (cW (cQ (bN gv ["line"] []) ["word"] [] rfl (b6 (cy PySem.F.slot_str_split PySem.F.type_str_split c9 cY cZ (ac (pv 0)) aK)) (λb=>(bd (a9 (i:=0) (show ((bN (bN gv ["line"] []) ["word"] [])).Nodup by decide +kernel) rfl (Or.inl rfl)))) (λb=>(aF (aG (Zo6 T) (hr.mono (by decide)) rfl (aq (ac (pv 0)) aw)))) rfl (BlkOk.leaf rfl (by decide +kernel) (by decide +kernel))) (bO (by decide)))) au)) dq)) rfl (show BlkOk gv (aD kM) _ [] from ⟨rfl,by decide +kernel,by decide +kernel,by decide +kernel,by decide +kernel⟩)) (bO (by decide)))) au)) dq))))
noncomputable def o5:List Sl->Tr (Option PyData) :=
 (fc ju (am (aa 0) ap))
noncomputable def o4:List Sl->Tr (Option PyData) :=
 (iM cK (iN (g6 (bL (ah cv (aa 0) (aC (.str " ")))) 1 [] (aj 0) o5)))
noncomputable def g5:List Sl->Tr (Option Re):=eY 1 0
 (dE (kD (fc iJ (am (aa 0) ap)))
 (ma (iM cK (iN (g6 (bL (ah cv (aa 0) (aC (.str "\n")))) 1 [] (aj 0) o4)))))
theorem ZoG (T:Txt K mg) {C:Addr} (hC:mg "NoText"=some (.ref C)) (xc:Xcl K C eW "ValueError.__new__"):XCal (aV cn) P w K mg base "read_table" 5 ["text"] C g5:=iH T.uK Za5 rfl λf cdv A outer sh H E hr=>by
 exact (eZ (nS (fR (qG (cn:=cn) T hC xc) (hr.mono (by decide)) rfl jJ (aq (ac (pv 0)) aw)))
 (gx (rF (kB dq (bP dA rfl T.cS boot_tuple (aN (kC (kA (kX gv ["line"] [] rfl (qk) rfl rfl rfl (b6 (cy PySem.F.slot_str_split PySem.F.type_str_split c9 cY cZ (ac (pv 0)) aK)) (λb=>(bd (a9 (i:=0) (show ((bN gv ["line"] [])).Nodup by decide +kernel) rfl (Or.inl rfl)))) (λb=>(kB dq (bP dA rfl T.cS boot_tuple (aN (kC (kA (kX (bN gv ["line"] []) ["word"] [] rfl (Zb6) rfl rfl rfl (b6 (cy PySem.F.slot_str_split PySem.F.type_str_split c9 cY cZ (ac (pv 0)) aK)) (λb=>(bd (a9 (i:=0) (show ((bN (bN gv ["line"] []) ["word"] [])).Nodup by decide +kernel) rfl (Or.inl rfl)))) (λb=>(fR (ZoJ (cn:=cn) T hC xc) (hr.mono (by decide)) rfl pJ (aq (ac (pv 0)) aw))) rfl (BlkOk.leaf rfl (by decide +kernel) (by decide +kernel))) (bO (by decide)))) bp)))) rfl (show BlkOk gv (aD kM) _ [] from ⟨rfl,by decide +kernel,by decide +kernel,by decide +kernel,by decide +kernel⟩)) (bO (by decide)))) bp))))))
noncomputable def iu (t:Tr (Option Re)):Tr Re:=t.bind λo=>match o with
 | none=>.ret (.d (.str "no text"))
 | some r=>.ret (.d (.list [r.val]))
noncomputable def eQ (f_read_shop f_read_falls f_read_rule f_read_share f_read_table f_show_shop f_show_falls f_show_rule f_show_share f_show_table:Addr):List Sl->Tr Re:=λas=>match as with
 | [.fn a,.d x]=>iu (if a=f_read_shop then fS [.d x] else if a=f_read_falls then fT [.d x] else if a=f_read_rule then gA [.d x] else if a=f_read_share then fv [.d x] else if a=f_read_table then g5 [.d x] else .fail)
 | _=>.fail
theorem Zeg (T:Txt K mg) {f_read_shop f_read_falls f_read_rule f_read_share f_read_table f_show_shop f_show_falls f_show_rule f_show_share f_show_table:Addr} (h_read_shop:mg "read_shop"=some (.ref f_read_shop)) (h_read_falls:mg "read_falls"=some (.ref f_read_falls)) (h_read_rule:mg "read_rule"=some (.ref f_read_rule)) (h_read_share:mg "read_share"=some (.ref f_read_share)) (h_read_table:mg "read_table"=some (.ref f_read_table)) (h_show_shop:mg "show_shop"=some (.ref f_show_shop)) (h_show_falls:mg "show_falls"=some (.ref f_show_falls)) (h_show_rule:mg "show_rule"=some (.ref f_show_rule)) (h_show_share:mg "show_share"=some (.ref f_show_share)) (h_show_table:mg "show_table"=some (.ref f_show_table)):ACal (aV cn) P w K mg base "_law_heard" 7 ["_law_read","_law_text"] (eQ f_read_shop f_read_falls f_read_rule f_read_share f_read_table f_show_shop f_show_falls f_show_rule f_show_share f_show_table):=by
 have len:∀ as m Z,(eQ f_read_shop f_read_falls f_read_rule f_read_share f_read_table f_show_shop f_show_falls f_show_rule f_show_share f_show_table as).ok m Z->as.length=2:=λas m Z h=>by
  unfold eQ at h
  split at h
  ·rfl
  ·exact h.elim
 refine ⟨T.Zoz.ok mv (λvs H Q E h=>h.1) λf cdv A outer sh H vs Q E hr hsp=>?_,len⟩
 obtain ⟨hv,pa,m,G,as,wd,ar,z⟩:=hsp
 obtain ⟨C,D,a0,a1,a2,a3,a4,a5,a6,hC,hD,h0,h1,h2,h3,h4,h5,h6,xc⟩:=T.Zff
 refine ⟨_,cG (aZ (i:=2) mv.nd rfl (Or.inl rfl) tu)
  (cG (aZ (i:=3) mv.nd rfl (Or.inl rfl) tu)
  (cG (ZhF (i:=4) (j:=0) (l:=3) (k:=7 - 1) rfl rfl mv.nd (hr.mono (by decide)) rfl (Or.inl rfl) rfl (Or.inl rfl) (Or.inl rfl) (aq (PK:=(aV cn)) (ac (pv 1)) aw) xc.un rfl hD rfl rfl (Or.inl rfl) (Or.inl rfl) (λea=>fF (aZ (i:=2) mv.nd rfl (Or.inl rfl) (pv 4))))
  (cG (iT (ZhB (Zh3 (pv 2)) (nomark _)) (fF (fX (jI (aN (pv 3) bp)))) jH)
  (cG (iT (PW.pt (sX (sZ (sY (bc (ZoV xc.ci F.attrBase_ValueError (by decide +kernel) tY) rfl T.gf rfl (aN (pv 2) (aN (fG (v:=.ref C) rfl hC rfl) bp))))) (sW (sZ (sY (bc (ZoU xc.ci F.attrBase_ValueError (by decide +kernel) tY) rfl T.gf rfl (aN (pv 2) (aN (hV (v:=.ty "ValueError") rfl T.ZiJ Zpi rfl) bp)))))))) (fF (fX dR)) jH)
  (cG (iT (sY (bc (ZoT xc.ci F.attrBase_ValueError (by decide +kernel) tY) rfl T.gf rfl (aN (pv 2) (aN (pI (aN (fG (v:=.ref a0) rfl h0 rfl) (aN (fG (v:=.ref a1) rfl h1 rfl) (aN (fG (v:=.ref a2) rfl h2 rfl) (aN (fG (v:=.ref a3) rfl h3 rfl) (aN (fG (v:=.ref a4) rfl h4 rfl) (aN (fG (v:=.ref a5) rfl h5 rfl) (aN (fG (v:=.ref a6) rfl h6 rfl) bp)))))))) bp)))) (fF (fX dR)) jH)
  (fF (fX dR))))))),?_⟩
 unfold eQ at z
 split at z
 rotate_left
 ·exact z.elim
 rename_i a x
 cases ar with
 | @cons v0 vs0 _ _ r0 ar =>
 cases ar with
 | @cons v vs1 _ _ r1 ar =>
 cases ar
 cases r0
 cases r1 with
 | d dx =>
 have ar1:ArsOk pa G [v] [.d x]:=.cons (.d dx) .nil
 have R0:Rl (aV cn) pa G H m (L2.start ZeN [.ref a,v]) ([.fn a,.d x]++List.replicate 3 .un) G H:=Rl.start wd (.cons .fn ar1) rfl
 have go:∀ (fx:List Sl->Tr (Option Re)) (ps:List Str),ps.length=1->(iu (fx [.d x])).ok m (λm' r=>Kr (aV cn) pa m' G H r Q)->∀ (vs1:List V) (G1 H1:Hp),Stp pa G H G1 H1->Wd (aV cn) pa m G1 H1->ArsOk pa G1 vs1 [.d x]->∀ (Qn:VK) (En:XK),
   (∀ m2 r,Kr (aV cn) pa m2 G H (.d (.list [r])) Q->∀ v2 G2 H2,Stp pa G1 H1 G2 H2->Wd (aV cn) pa m2 G2 H2->Dn G2 v2 r->Qn v2 H2) ->
   (∀ m2,Kr (aV cn) pa m2 G H (.d (.str "no text")) Q->∀ G2 H2,Stp pa G1 H1 G2 H2->Wd (aV cn) pa m2 G2 H2->En (.ref C) none H2)->qU (aV cn) ps.length C fx vs1 H1 Qn En:=by
  intro fx ps hps z1 vs1 G1 H1 s1 w1 ar2 Qn En hn he
  refine ⟨by rw [ar2.length,hps]; rfl,pa,m,G1,[.d x],w1,ar2,Tr.ok_mono (Tr.ok_bind.mp z1) λm2 o ko=>?_⟩
  cases o with
  | none=>exact λG2 H2 s2 w2=>he m2 ko G2 H2 s2 w2
  | some r=>exact Kr.of (λv2 G2 H2 s2 w2 d2=>hn m2 r.val ko v2 G2 H2 s2 w2 d2) w1.some
 obtain ⟨fx,fd,ps,hps,FK,hk,hb,z1⟩:∃ (fx:List Sl->Tr (Option Re)) (fd:FuncData) (ps:List Str),ps.length=1/\FnOk P w K mg base (cg P w) (7 - 1) a fd ps (qU (aV cn) ps.length C fx)/\PySem.W.keepIn K (.ref a)=true/\Binds K fd ps []/\(iu (fx [.d x])).ok m (λm' r=>Kr (aV cn) pa m' G H r Q):=by
  by_cases e0:a=f_read_shop
  ·rw [if_pos e0] at z
   obtain ⟨f1,fd,FK,hm,hk,hb⟩:=(ZoH (P:=P) (w:=w) (base:=base) (cn:=cn) T hC xc.cl).cal.ex
   obtain rfl:f1=a:=by
    rw [e0]
    rw [h_read_shop] at hm
    cases hm
    rfl
   exact ⟨_,fd,_,rfl,FK.mono (by decide),hk,hb,z⟩
  ·rw [if_neg e0] at z
   by_cases e1:a=f_read_falls
   ·rw [if_pos e1] at z
    obtain ⟨f1,fd,FK,hm,hk,hb⟩:=(ZoI (P:=P) (w:=w) (base:=base) (cn:=cn) T hC xc.cl).cal.ex
    obtain rfl:f1=a:=by
     rw [e1]
     rw [h_read_falls] at hm
     cases hm
     rfl
    exact ⟨_,fd,_,rfl,FK.mono (by decide),hk,hb,z⟩
   ·rw [if_neg e1] at z
    by_cases e2:a=f_read_rule
    ·rw [if_pos e2] at z
     obtain ⟨f1,fd,FK,hm,hk,hb⟩:=(ZdT (P:=P) (w:=w) (base:=base) (cn:=cn) T hC xc.cl).cal.ex
     obtain rfl:f1=a:=by
      rw [e2]
      rw [h_read_rule] at hm
      cases hm
      rfl
     exact ⟨_,fd,_,rfl,FK.mono (by decide),hk,hb,z⟩
    ·rw [if_neg e2] at z
     by_cases e3:a=f_read_share
     ·rw [if_pos e3] at z
      obtain ⟨f1,fd,FK,hm,hk,hb⟩:=(ZdS (P:=P) (w:=w) (base:=base) (cn:=cn) T hC xc.cl).cal.ex
      obtain rfl:f1=a:=by
       rw [e3]
       rw [h_read_share] at hm
       cases hm
       rfl
      exact ⟨_,fd,_,rfl,FK.mono (by decide),hk,hb,z⟩
     ·rw [if_neg e3] at z
      by_cases e4:a=f_read_table
      ·rw [if_pos e4] at z
       obtain ⟨f1,fd,FK,hm,hk,hb⟩:=(ZoG (P:=P) (w:=w) (base:=base) (cn:=cn) T hC xc.cl).cal.ex
       obtain rfl:f1=a:=by
        rw [e4]
        rw [h_read_table] at hm
        cases hm
        rfl
       exact ⟨_,fd,_,rfl,FK.mono (by decide),hk,hb,z⟩
      ·rw [if_neg e4] at z
       exact (show False from z).elim
 refine ⟨a,fd,ps,_,rfl,FK,hk,hb,pa,G,H,m,_,G,(R0.set .non 2).set .non 3,λvs1 G1 H1 s1 w1 ar2=>?_⟩
 refine go fx ps hps z1 vs1 G1 H1 s1 w1 ar2 _ _ (λm2 r ko v2 G2 H2 s2 w2 d2=>?_) (λm2 ko G2 H2 s2 w2=>⟨rfl,λea hea=>?_⟩)
 ·refine ⟨.non,rfl,true,congrArg V.bl (decide_eq_true rfl),v2,rfl,?_⟩
  refine ⟨by show 1<=sizeLine; decide,λq hq=>?_⟩
  exact Kn.lst (Kn.later ko (s1.trans s2 w1.some) w2.some) w2 (.cons d2 .nil) hq
 ·refine ⟨.ref ea,rfl,.ref ea,rfl,false,congrArg V.bl (decide_eq_false nofun),?_⟩
  refine ⟨.ref ea,rfl,ea,C,true,rfl,bM,Zjh,true,rfl,?_⟩
  refine ⟨.ref ea,rfl,ea,"ValueError",true,rfl,bM,xc.vt,true,rfl,?_⟩
  refine ⟨.ref ea,rfl,by show 7<=sizeLine; decide,λp hp=>?_⟩
  have hne:ea≠p:=λe=>by rw [e,bM] at hp; cases hp
  obtain ⟨w3,s3⟩:=w2.own (o:=.ext (eh ea (.ref C))) hea
  obtain ⟨w4,s4⟩:=w3.own (o:=.tup [.ref a0,.ref a1,.ref a2,.ref a3,.ref a4,.ref a5,.ref a6]) hp
  have hat:upd (upd H2 ea (.ext (eh ea (.ref C)))) p (.tup [.ref a0,.ref a1,.ref a2,.ref a3,.ref a4,.ref a5,.ref a6]) ea=some (.ext (eh ea (.ref C))):=by rw [aO hne,bM]
  refine ⟨ea,p,[a0,a1,a2,a3,a4,a5,a6],false,rfl,hat,bM,xc.any,false,rfl,?_⟩
  exact ko (.str "no text") G2 _ ((s1.trans s2 w1.some).trans (s3.trans s4 w3.some) w2.some) w4 (.str _)
noncomputable def lh (f_read_shop f_read_falls f_read_rule f_read_share f_read_table f_show_shop f_show_falls f_show_rule f_show_share f_show_table:Addr):List Sl->Tr Re:=bo 3 0
 (ay (bE (aT (ah io (aa 2) (aC .none)))
  (aW (ah dJ (az (aB (eQ f_read_shop f_read_falls f_read_rule f_read_share f_read_table f_show_shop f_show_falls f_show_rule f_show_share f_show_table) (lP 0 (am (aa 1) ap)))) (aC (.str "no text"))))
  bn)
 (aW (ah dJ (aM iS (ai (az (aB (eQ f_read_shop f_read_falls f_read_rule f_read_share f_read_table f_show_shop f_show_falls f_show_rule f_show_share f_show_table) (lP 0 (am (aa 1) ap)))) ao)) (aM iS (ai (bf (cB (ai (aa 2) ao))) ao)))))
theorem Zpa (T:Txt K mg) {f_read_shop f_read_falls f_read_rule f_read_share f_read_table f_show_shop f_show_falls f_show_rule f_show_share f_show_table:Addr} (h_read_shop:mg "read_shop"=some (.ref f_read_shop)) (h_read_falls:mg "read_falls"=some (.ref f_read_falls)) (h_read_rule:mg "read_rule"=some (.ref f_read_rule)) (h_read_share:mg "read_share"=some (.ref f_read_share)) (h_read_table:mg "read_table"=some (.ref f_read_table)) (h_show_shop:mg "show_shop"=some (.ref f_show_shop)) (h_show_falls:mg "show_falls"=some (.ref f_show_falls)) (h_show_rule:mg "show_rule"=some (.ref f_show_rule)) (h_show_share:mg "show_share"=some (.ref f_show_share)) (h_show_table:mg "show_table"=some (.ref f_show_table)):ACal (aV cn) P w K mg base "_law_right" 8 ["_law_read","_law_text","_law_due"] (lh f_read_shop f_read_falls f_read_rule f_read_share f_read_table f_show_shop f_show_falls f_show_rule f_show_share f_show_table):=bD T.Zou ZgK rfl λf cdv A outer sh H E hr=>by
 exact (aA (bR (bi mT me (ac (pv 2)) dM (nomark _))
 (aE (ba (iC (fH hr) fw (aF (aG (Zeg T h_read_shop h_read_falls h_read_rule h_read_share h_read_table h_show_shop h_show_falls h_show_rule h_show_share h_show_table) (hr.mono (by decide)) rfl (vm (pv 0) (aq (ac (pv 1)) aw)))) aK (nomark _))))
 bz)
 (aE (ba (iC (fH hr) fw (aU (t:=aP) (bc (Zd6 hr) rfl T.Zco boot_repr (av (aF (aG (Zeg T h_read_shop h_read_falls h_read_rule h_read_share h_read_table h_show_shop h_show_falls h_show_rule h_show_share h_show_table) (hr.mono (by decide)) rfl (vm (pv 0) (aq (ac (pv 1)) aw)))) au)) Zan) (aU (t:=aP) (bc (Zd6 hr) rfl T.Zco boot_repr (av (bu (cN (av (ac (pv 2)) au))) au)) Zan) (nomark _)))))
noncomputable def cu (f_read_shop f_read_falls f_read_rule f_read_share f_read_table f_show_shop f_show_falls f_show_rule f_show_share f_show_table:Addr):Addr->List Sl->Tr Re:=λa=>if a=f_read_shop then m9 else if a=f_read_falls then na else if a=f_read_rule then lf else if a=f_read_share then le else if a=f_read_table then m8 else if a=f_show_shop then mZ else if a=f_show_falls then m7 else if a=f_show_rule then lc else if a=f_show_share then jR else if a=f_show_table then mY else  λ_=>.fail
theorem ZaA (T:Txt K mg) {f_read_shop f_read_falls f_read_rule f_read_share f_read_table f_show_shop f_show_falls f_show_rule f_show_share f_show_table:Addr} (h_read_shop:mg "read_shop"=some (.ref f_read_shop)) (h_read_falls:mg "read_falls"=some (.ref f_read_falls)) (h_read_rule:mg "read_rule"=some (.ref f_read_rule)) (h_read_share:mg "read_share"=some (.ref f_read_share)) (h_read_table:mg "read_table"=some (.ref f_read_table)) (h_show_shop:mg "show_shop"=some (.ref f_show_shop)) (h_show_falls:mg "show_falls"=some (.ref f_show_falls)) (h_show_rule:mg "show_rule"=some (.ref f_show_rule)) (h_show_share:mg "show_share"=some (.ref f_show_share)) (h_show_table:mg "show_table"=some (.ref f_show_table)):∀ a,(∀ as,cu f_read_shop f_read_falls f_read_rule f_read_share f_read_table f_show_shop f_show_falls f_show_rule f_show_share f_show_table a as=.fail)\/∃ y ps kk,kk<=5/\mg y=some (.ref a)/\ACal (aV cn) P w K mg base y kk ps (cu f_read_shop f_read_falls f_read_rule f_read_share f_read_table f_show_shop f_show_falls f_show_rule f_show_share f_show_table a):=by
 intro a
 unfold cu
 by_cases e0:a=f_read_shop
 ·rw [if_pos e0,e0]
  exact .inr ⟨_,_,_,by decide,h_read_shop,Zo4 T⟩
 rw [if_neg e0]
 by_cases e1:a=f_read_falls
 ·rw [if_pos e1,e1]
  exact .inr ⟨_,_,_,by decide,h_read_falls,Zo5 T⟩
 rw [if_neg e1]
 by_cases e2:a=f_read_rule
 ·rw [if_pos e2,e2]
  exact .inr ⟨_,_,_,by decide,h_read_rule,Zed T⟩
 rw [if_neg e2]
 by_cases e3:a=f_read_share
 ·rw [if_pos e3,e3]
  exact .inr ⟨_,_,_,by decide,h_read_share,Zec T⟩
 rw [if_neg e3]
 by_cases e4:a=f_read_table
 ·rw [if_pos e4,e4]
  exact .inr ⟨_,_,_,by decide,h_read_table,Zo3 T⟩
 rw [if_neg e4]
 by_cases e5:a=f_show_shop
 ·rw [if_pos e5,e5]
  exact .inr ⟨_,_,_,by decide,h_show_shop,Zo0 T⟩
 rw [if_neg e5]
 by_cases e6:a=f_show_falls
 ·rw [if_pos e6,e6]
  exact .inr ⟨_,_,_,by decide,h_show_falls,Zo1 T⟩
 rw [if_neg e6]
 by_cases e7:a=f_show_rule
 ·rw [if_pos e7,e7]
  exact .inr ⟨_,_,_,by decide,h_show_rule,Zeb T⟩
 rw [if_neg e7]
 by_cases e8:a=f_show_share
 ·rw [if_pos e8,e8]
  exact .inr ⟨_,_,_,by decide,h_show_share,Zea T⟩
 rw [if_neg e8]
 by_cases e9:a=f_show_table
 ·rw [if_pos e9,e9]
  exact .inr ⟨_,_,_,by decide,h_show_table,ZoZ T⟩
 rw [if_neg e9]
 exact .inl λ_=>rfl
noncomputable def gK (f_read_shop f_read_falls f_read_rule f_read_share f_read_table f_show_shop f_show_falls f_show_rule f_show_share f_show_table:Addr):List Sl->Tr Ou :=
 (bE (b7 (cA (cJ (az (aB (lh f_read_shop f_read_falls f_read_rule f_read_share f_read_table f_show_shop f_show_falls f_show_rule f_show_share f_show_table) (lP 3 (am (aa 0) (am (aa 5) ap))))))) (qZ (aT (ah qh (aa 5) (aC .none))) (aT (ah eC (az (jp 4 (cu f_read_shop f_read_falls f_read_rule f_read_share f_read_table f_show_shop f_show_falls f_show_rule f_show_share f_show_table) (am (az (jp 3 (cu f_read_shop f_read_falls f_read_rule f_read_share f_read_table f_show_shop f_show_falls f_show_rule f_show_share f_show_table) (am (aa 0) ap))) ap))) (aa 0)))))
  (aW (aC (.bool false)))
  bn)
noncomputable def p7 (f_read_shop f_read_falls f_read_rule f_read_share f_read_table f_show_shop f_show_falls f_show_rule f_show_share f_show_table:Addr):List Sl->Tr Re:=bo 1 5
 (ay (bv 1 (az (aB ni (am (aa 0) ap))))
 (jm 2 3 4 5 [(f_read_shop,f_show_shop,(az (aB jT (am (aa 1) ap)))),(f_read_falls,f_show_falls,(az (aB ij (am (aa 1) ap))))]
 [(f_read_rule,f_show_rule,(aa 1)),(f_read_share,f_show_share,(az (aB fK (am (aa 0) ap))))]
 [(f_read_table,f_show_table,(az (aB lg (am (aa 0) ap))))] (gK f_read_shop f_read_falls f_read_rule f_read_share f_read_table f_show_shop f_show_falls f_show_rule f_show_share f_show_table)
 (aW (aC (.bool true)))))
theorem Zpf (T:Txt K mg) {f_read_shop f_read_falls f_read_rule f_read_share f_read_table f_show_shop f_show_falls f_show_rule f_show_share f_show_table:Addr} (h_read_shop:mg "read_shop"=some (.ref f_read_shop)) (h_read_falls:mg "read_falls"=some (.ref f_read_falls)) (h_read_rule:mg "read_rule"=some (.ref f_read_rule)) (h_read_share:mg "read_share"=some (.ref f_read_share)) (h_read_table:mg "read_table"=some (.ref f_read_table)) (h_show_shop:mg "show_shop"=some (.ref f_show_shop)) (h_show_falls:mg "show_falls"=some (.ref f_show_falls)) (h_show_rule:mg "show_rule"=some (.ref f_show_rule)) (h_show_share:mg "show_share"=some (.ref f_show_share)) (h_show_table:mg "show_table"=some (.ref f_show_table)):ACal (aV cn) P w K mg base "_law_all_right" 9 ["_law_text"] (p7 f_read_shop f_read_falls f_read_rule f_read_share f_read_table f_show_shop f_show_falls f_show_rule f_show_share f_show_table):=bD T.ZoF jE rfl λf cdv A outer sh H E hr=>by
 exact (aA (bK (aZ (i:=1) jE.nd rfl (Or.inl rfl) (aF (aG (Zpd T) (hr.mono (by decide)) rfl (aq (ac (pv 0)) aw)))))
 (Zpt (aZ (i:=2) jE.nd rfl (Or.inl rfl) (jI (nG rfl h_read_shop rfl h_show_shop (aF (aG (Zo9 T) (hr.mono (by decide)) rfl (aq (ac (pv 1)) aw))) (nG rfl h_read_falls rfl h_show_falls (aF (aG (Zpc T) (hr.mono (by decide)) rfl (aq (ac (pv 1)) aw))) u0))))
 (aZ (i:=2) jE.nd rfl (Or.inl rfl) (cm tK (pv 2) (jI (nG rfl h_read_rule rfl h_show_rule (ac (pv 1)) (nG rfl h_read_share rfl h_show_share (aF (aG (Zef T) (hr.mono (by decide)) rfl (aq (ac (pv 0)) aw))) u0)))))
 (ZbT PassesOwn.never rfl (ZhL (cm tK (pv 2) (jI (nG rfl h_read_table rfl h_show_table (aF (aG (Zo8 T) (hr.mono (by decide)) rfl (aq (ac (pv 0)) aw))) u0)))) (ZbZ rfl (pH (a9 (i:=3) jE.nd rfl (Or.inl rfl)) (pH (a9 (i:=4) jE.nd rfl (Or.inl rfl)) (pH (a9 (i:=5) jE.nd rfl (Or.inl rfl)) ZbY))))
  (aE (bR (dL (cH (cI (cV (aF (aG (Zpa T h_read_shop h_read_falls h_read_rule h_read_share h_read_table h_show_shop h_show_falls h_show_rule h_show_share h_show_table) (hr.mono (by decide)) rfl (vm (pv 3) (aq (ac (pv 0)) (aq (ac (pv 5)) aw))))))) (eG (dL (Zex (bi Zib Zfl (ac (pv 5)) dM (nomark _)) (Zew (bi (gG hr) gB (aF (ZeA (j:=4) (ZaA T h_read_shop h_read_falls h_read_rule h_read_share h_read_table h_show_shop h_show_falls h_show_rule h_show_share h_show_table) (hr.mono (by decide)) (aq (aF (ZeA (j:=3) (ZaA T h_read_shop h_read_falls h_read_rule h_read_share h_read_table h_show_shop h_show_falls h_show_rule h_show_share h_show_table) (hr.mono (by decide)) (aq (ac (pv 0)) aw))) aw))) (ac (pv 0)) (nomark _))))))))
  (aE (ba fO))
  bz)))
 (aE (ba fO)) (Nat.le_of_ble_eq_true rfl)))
noncomputable def sR (f_read_shop f_read_falls f_read_rule f_read_share f_read_table f_show_shop f_show_falls f_show_rule f_show_share f_show_table:Addr):List Sl->Tr PyData :=
 (az (aB p6 (bA 1 (am (aa 2) ap))))
noncomputable def uc (f_read_shop f_read_falls f_read_rule f_read_share f_read_table f_show_shop f_show_falls f_show_rule f_show_share f_show_table:Addr):List Sl->Tr Ou :=
 (bE (cA (cJ (az (aB (p7 f_read_shop f_read_falls f_read_rule f_read_share f_read_table f_show_shop f_show_falls f_show_rule f_show_share f_show_table) (am (aa 4) ap)))))
  (aW (aC (.bool false)))
  bn)
noncomputable def ub (f_read_shop f_read_falls f_read_rule f_read_share f_read_table f_show_shop f_show_falls f_show_rule f_show_share f_show_table:Addr):List Sl->Tr Ou :=
 (fP (bL (ah aY (bf (cB (ai (aa 3) ao))) (bf (b8 (gk (ai (aC (.int 6)) ao)) 1 [1,3] (aj 0) (sR f_read_shop f_read_falls f_read_rule f_read_share f_read_table f_show_shop f_show_falls f_show_rule f_show_share f_show_table))))) (aj 4) (uc f_read_shop f_read_falls f_read_rule f_read_share f_read_table f_show_shop f_show_falls f_show_rule f_show_share f_show_table))
noncomputable def ua (f_read_shop f_read_falls f_read_rule f_read_share f_read_table f_show_shop f_show_falls f_show_rule f_show_share f_show_table:Addr):List Sl->Tr Ou :=
 (fP (bL (az (aB p5 (bA 1 ap)))) (aj 3) (ub f_read_shop f_read_falls f_read_rule f_read_share f_read_table f_show_shop f_show_falls f_show_rule f_show_share f_show_table))
noncomputable def p8 (f_read_shop f_read_falls f_read_rule f_read_share f_read_table f_show_shop f_show_falls f_show_rule f_show_share f_show_table:Addr):List Sl->Tr Ou :=
 (ay (fP (gk (ai (aC (.int 2)) ao)) (aj 2) (ua f_read_shop f_read_falls f_read_rule f_read_share f_read_table f_show_shop f_show_falls f_show_rule f_show_share f_show_table))
 (aW (aC (.bool true))))
noncomputable abbrev t5:List Sl:=.un::.pen::List.replicate 3 .un
theorem Ziq (T:Txt K mg) {f_read_shop f_read_falls f_read_rule f_read_share f_read_table f_show_shop f_show_falls f_show_rule f_show_share f_show_table:Addr} (h_read_shop:mg "read_shop"=some (.ref f_read_shop)) (h_read_falls:mg "read_falls"=some (.ref f_read_falls)) (h_read_rule:mg "read_rule"=some (.ref f_read_rule)) (h_read_share:mg "read_share"=some (.ref f_read_share)) (h_read_table:mg "read_table"=some (.ref f_read_table)) (h_show_shop:mg "show_shop"=some (.ref f_show_shop)) (h_show_falls:mg "show_falls"=some (.ref f_show_falls)) (h_show_rule:mg "show_rule"=some (.ref f_show_rule)) (h_show_share:mg "show_share"=some (.ref f_show_share)) (h_show_table:mg "show_table"=some (.ref f_show_table)) {f:Addr} {fd:FuncData} (F:Fun K "law" "law" kQ f fd) (hl:(p8 f_read_shop f_read_falls f_read_rule f_read_share f_read_table f_show_shop f_show_falls f_show_rule f_show_share f_show_table t5).ok 0 λ_ o=>o=.ret (.d (.bool true))):FnOk P w K mg base js 10 f fd ["_law_script"] (ZaN K):=by
 refine F.ok mr (λvs H Q E h=>?_) (λcdv A outer s H vs Q E hr h=>?_)
 ·obtain ⟨a,ns,rfl,_⟩:=h
  rfl
 ·obtain ⟨a,ns,rfl,hS,hlen,k⟩:=h
  have hu:=ut hr
  refine ⟨_,(cG (aZ (i:=1) mr.nd rfl (Or.inr rfl) (Zb4 (Zip T) (hr.mono (by decide)) rfl (aN (pv 0) bp)))
 (ZhD (t:=λcn=>bC (aV cn) (p8 f_read_shop f_read_falls f_read_rule f_read_share f_read_table f_show_shop f_show_falls f_show_rule f_show_share f_show_table)) λcn=>(by refine @L2.aA _ _ _ _ _ _ ?_ ?_; (refine @L2.gU _ _ _ _ _ _ _ _ _ PassesOwn.never rfl ?_ ?_ ?_ (by intro _; rfl); (refine @L2.iB _ _ _ _ _ ?_; (refine @L2.hU _ _ _ _ _ _ rfl T.ic ?_ (by rfl); (exact @L2.av _ _ _ _ _ _ ak au (by rfl)))); (refine @L2.bd _ _ _ _ ?_; (exact @L2.a9 _ _ (2) _ mr.nd rfl (Or.inl rfl) (by first   | exact .inl rfl   | exact .inr rfl   | assumption))); (refine @L2.aE _ _ _ _ ?_; (refine @L2.gU _ _ _ _ _ _ _ _ _ PassesOwn.never rfl ?_ ?_ ?_ (by intro _; rfl); (refine @L2.b6 _ _ _ _ _ ?_; (refine @L2.aF _ _ _ _ ?_; (refine @L2.aG _ _ _ _ _ _ _ _ _ _ _ (Zo7 T) (hr.mono (by decide)) rfl ?_ (by decide) (by rfl) (by rfl); (exact @L2.bF _ _ _ _ _ _ (pv 1) aw (by rfl))))); (refine @L2.bd _ _ _ _ ?_; (exact @L2.a9 _ _ (3) _ mr.nd rfl (Or.inr rfl) (by first   | exact .inl rfl   | exact .inr rfl   | assumption))); (refine @L2.aE _ _ _ _ ?_; (refine @L2.gU _ _ _ _ _ _ _ _ _ PassesOwn.never rfl ?_ ?_ ?_ (by intro _; rfl); (refine @L2.b6 _ _ _ _ _ ?_; (refine @L2.aR _ _ _ _ _ _ _ _ _ _ br bq ?_ ?_; (refine @L2.bu _ _ _ _ ?_; (refine @L2.cN _ _ _ _ _ ?_; (refine @L2.av _ _ _ _ _ _ ?_ au (by rfl); (exact (ac (pv 3)))))); (refine @L2.bu _ _ _ _ ?_; (refine @L2.cW _ _ _ _ _ _ _ _ ?_ ?_; (refine @L2.cQ _ _ _ _ _ _ _ _ _ rl ["_law_k"] [1,3] rfl ?_ (λb=>(bd (a9 (i:=0) (show ((bN rl ["_law_k"] [1,3])).Nodup by decide +kernel) rfl (Or.inl rfl)))) (λb=>(aF (aG (Zpe T) (hr.mono (by decide)) rfl (bF (pv 1) (aq (ac (pv 2)) aw))))) rfl (show BlkOk rl (aD kQ) _ [1,3] from ⟨rfl,by decide +kernel,by decide +kernel,by decide +kernel,by decide +kernel⟩) (by intro _; rfl); (refine @L2.iB _ _ _ _ _ ?_; (refine @L2.hU _ _ _ _ _ _ rfl T.ic ?_ (by rfl); (exact @L2.av _ _ _ _ _ _ ak au (by rfl))))); (exact (bO (by decide))))))); (refine @L2.bd _ _ _ _ ?_; (exact @L2.a9 _ _ (4) _ mr.nd rfl (Or.inl rfl) (by first   | exact .inl rfl   | exact .inr rfl   | assumption))); (refine @L2.aE _ _ _ _ ?_; (refine @L2.bR _ _ _ _ _ _ _ _ _ ?_ ?_ bz; (refine @L2.cI _ _ _ _ _ ?_; (refine @L2.cV _ _ _ _ ?_ (by intro _; rfl); (refine @L2.aF _ _ _ _ ?_; (refine @L2.aG _ _ _ _ _ _ _ _ _ _ _ (Zpf T h_read_shop h_read_falls h_read_rule h_read_share h_read_table h_show_shop h_show_falls h_show_rule h_show_share h_show_table) (hr.mono (by decide)) rfl ?_ (by decide) (by rfl) (by rfl); (refine @L2.aq _ _ _ _ _ _ ?_ aw (by rfl); (exact (ac (pv 4)))))))); (refine @L2.aE _ _ _ _ ?_; (exact (ba fO)))))))))); (refine @L2.aE _ _ _ _ ?_; (exact (ba fO)))))),?_⟩
  refine ⟨_,rfl,a,ns,rfl,hS,hlen,λp c H' hp hP hs=>?_⟩
  exact Zja (n:=3) hP rfl rfl (λH'=>k H') hl
end
end My
local macro_rules | `(tactic| simp_arith [$ls,*] $[$loc]?) => do let b : Lean.TSyntaxArray ``Lean.Parser.Tactic.simpLemma ← (("L2.ZkQ L2.ZkP L2.ZnD L2.Zne L2.Znd L2.Znt L2.Znq L2.Zde L2.Zk3 L2.Zm4 L2.ZmW L2.Zl2 L2.ZmX L2.ZmV L2.Zl1 L2.Zmt L2.Zmq L2.Zmi L2.Zmh L2.lK L2.u4 L2.Zps L2.Zpr L2.Zpq L2.Zpp L2.Zpo L2.Zpn L2.Zpm L2.Zk2 L2.ZkV L2.Zk1 L2.Zk0 L2.ZkZ L2.ZkY L2.ZkW L2.ZkX L2.Znp L2.ZlU L2.ZlZ L2.Znn L2.Zno L2.ZlS L2.ZlT L2.ZlY L2.Znm L2.ZlR L2.ZlX L2.Znk L2.Znl L2.ZlP L2.ZlQ L2.ZlW L2.ZmF L2.ZmD L2.ZmE L2.Zm5 L2.Zna L2.Zm9 L2.Zm8 L2.Zm6 L2.Zm7 L2.Zl0 L2.Zm3 L2.Zm2 L2.Zm1 L2.ZkU L2.ZkT L2.Zl6 L2.Zl5 L2.Zl8 L2.Zl7 L2.dF L2.Znb L2.Zma L2.Zl9 L2.Znu L2.Zmu L2.Zmv L2.ZkS L2.ZkR L2.Zl4 L2.ny L2.Zdc L2.Zms L2.Zmr L2.ZlM L2.ZlL L2.ZlK L2.Znz L2.ZnA L2.ZnC L2.ZnB L2.ZlH L2.ZlG L2.Zny L2.Znv L2.Znc L2.ZlF L2.ZlE L2.uD L2.ZmU L2.ZmT L2.Zli L2.Zlf L2.Zle L2.Zlh L2.Zlg L2.Zk9 L2.Zmy L2.Zmw L2.Zmx L2.ZlC L2.ZlB L2.ZlA L2.Zlz L2.Zly L2.Zlx L2.Zlw L2.Zld L2.Zlc L2.Zlb L2.Zla L2.ZiW L2.ZiV L2.ZlO L2.ZlN L2.Znj L2.Zni L2.Znh L2.Zlv L2.Zlu L2.ZmG L2.Zj6 L2.Zj7 L2.Zj5 L2.Zj4 L2.Zj8 L2.Zng L2.Znf L2.ZlV L2.ZjQ L2.ZjO L2.ZjR L2.ZjS L2.ZjP L2.ZlJ L2.ZlI L2.Zmp L2.Zmo L2.Zmn L2.Zlt L2.ZmN L2.ZmM L2.Zkc L2.ZmL L2.kc L2.ZmJ L2.ZmK L2.ZmI L2.Zmg L2.Zmf L2.Zme L2.ZiO L2.ZiP L2.ZiR L2.ZiQ L2.Zmb L2.Zmd L2.Zmc L2.Zmz L2.ZmB L2.ZmC L2.ZmA L2.Zns L2.Znr L2.Zls L2.jd L2.kb L2.Zlr L2.Zlj L2.uA L2.dc L2.Zll L2.Zlk L2.Zln L2.Zlm L2.Zlq L2.Zlo L2.Zlp L2.Zk8 L2.Zk7 L2.Zk6 L2.Zk5 L2.Zk4 L2.dk L2.Zmm L2.Zml L2.Zmj L2.Zmk L2.cr L2.nw L2.ZmH L2.Zkm L2.Zc9 L2.ZkO L2.ZkC L2.ZkB L2.ZkE L2.Zkq L2.ZkF L2.Zks L2.ZkH L2.Zkt L2.ZkN L2.ZkA L2.ZkM L2.Zky L2.Zkz L2.ZkI L2.ZkG L2.Zko L2.Zkn L2.Zkp L2.Zm0 L2.ZmS L2.ZmR L2.ZmQ L2.ZkK L2.Zkv L2.ZkJ L2.Zku L2.Zkr L2.ZkL L2.Zkx L2.Zkw L2.ZkD L2.Zkl L2.Zkk L2.ZmP L2.ZmO L2.Znx L2.Znw L2.ZmZ L2.ZmY L2.Zda L2.Zl3 L2.rb2 L2.Tr.of_some L2.Tr.bind_assoc L2.Tr.draw_bind List.cons_append List.nil_append List.replicate_succ List.replicate_zero List.length_cons List.length_nil L2.Re.val_d L2.Re.val_own L2.blk L2.uY List.map_cons List.map_nil List.getElem?_cons_zero List.getElem?_cons_succ Option.getD_some Nat.reduceAdd Nat.reduceLeDiff List.isEmpty_cons".splitOn " ").toArray.map fun s => Lean.mkIdent s.toName).mapM fun i => `(Lean.Parser.Tactic.simpLemma| $i:ident); `(tactic| simp only [$b,*, $ls,*] $[$loc]?)
namespace My
open PySem PySem.Spec PyProof.Rows L2
theorem lJ {a b:Str}:(a == b)=decide (a.cps.toList=b.cps.toList):=by
 by_cases h:a=b
 ·subst h; simp
 ·rw [beq_eq_false_iff_ne.mpr h,decide_eq_false λe=>h (jC e)]
theorem all_map {f:Nat->Bool} (l:List Nat):(l.map f).all id=l.all f:=by simp [List.all_map]
theorem Zgz (l:List Nat):ce (bh (aj 0) pE [.un]) (l.map λc=>.str ⟨#[c]⟩)=.ret ((l.map λc=>decide (48<=c/\c<=57)).map PyData.bool):=by
 induction l with
 | nil=>rfl
 | cons c l ih =>
  have e0:bh (aj 0) pE [.un] (.str ⟨#[c]⟩)=.ret (.bool (decide (48<=c/\c<=57))):=by
   simp_arith [pE,ae,ag,af,ZcQ]
   rfl
  rw [List.map_cons,ce,e0,Tr.ret_bind,ih]
  rfl
theorem uF {w:Str} (h:w.length<=500000):i7 [.d (.str w)]=.ret (.d (.bool (bZ w.cps.toList))):=by
 have hr:=Zha w
 have hle:=len_removeprefix w "-"
 generalize hf:Txt.removeprefix w "-"=f at *
 have h1:w.length<=1048576:=by omega
 have h2:f.length<=1048576:=by omega
 have hfl:f.length=(figs w.cps.toList).length:=by rw [<- hr]; simp [Str.length]
 have hs:small (db f).length=true:=bS (by unfold db; rw [List.length_map,Array.length_toList]; exact h2)
 have em:=Zgz f.cps.toList
 have ea:=ny (f.cps.toList.map λc=>decide (48<=c/\c<=57))
 rw [all_map] at ea
 unfold db at hs
 by_cases hA:1<=f.length/\f.length<=400
 ·have hA1:decide ((1:Int)<=(f.length:Int))=true:=decide_eq_true (by omega)
  have hA2:decide ((f.length:Int)<=400)=true:=decide_eq_true (by omega)
  cases hB:f.cps.toList.all (λc=>decide (48<=c/\c<=57)) with
  | false =>
   rw [hB] at ea
   simp_arith [i7,ae,ag,af,nw h1,hf,dc h2,hA1,hA2,db,hs,em,ea,Bool.not_true,Bool.not_false]
   unfold bZ
   rw [<- hr,hB]
   simp
  | true =>
   rw [hB] at ea
   cases hc:f.cps.toList with
   | nil=>rw [hfl,<- hr,hc] at hA; simp at hA
   | cons c r =>
    have e3:bx f.cps.toList 0=some c:=by rw [hc]; exact lK
    have e4:aJ bQ (.str f) (.int 0)=.ret (.str ⟨#[c]⟩):=by rw [uB h2,e3]; rfl
    have e5:((⟨#[c]⟩:Str) == "0")=decide (c=48):=by
     rw [lJ,rC]
     simp
    have e6:(w == "0")=decide (w.cps.toList=[48]):=by rw [lJ,rC]
    have e7:bZ w.cps.toList=(decide (c≠48) || decide (w.cps.toList=[48])):=by
     unfold bZ
     rw [<- hr,hB,hc]
     rw [decide_eq_true (by rw [hfl,<- hr,hc] at hA; exact hA)]
     simp
    simp_arith [i7,ae,ag,af,nw h1,hf,dc h2,hA1,hA2,db,hs,em,ea,Bool.not_true,Bool.not_false,e4,e5]
    rw [e7]
    by_cases hz:c=48
    ·rw [decide_eq_true hz,decide_eq_false (λh=>h hz)]
     simp_arith [ae,ag,af,Bool.not_true,e6,Bool.false_or]
    ·rw [decide_eq_false hz,decide_eq_true hz]
     simp_arith [ae,ag,af,Bool.not_false,Bool.true_or]
 ·have hn:bZ w.cps.toList=false:=by
   unfold bZ
   rw [<- hfl,decide_eq_false hA]
   rfl
  rw [hn]
  by_cases h3:1<=f.length
  ·have hA1:decide ((1:Int)<=(f.length:Int))=true:=decide_eq_true (by omega)
   have hA2:decide ((f.length:Int)<=400)=false:=decide_eq_false (by omega)
   simp_arith [i7,ae,ag,af,nw h1,hf,dc h2,hA1,hA2,Bool.not_false]
  ·have hA1:decide ((1:Int)<=(f.length:Int))=false:=decide_eq_false (by omega)
   simp_arith [i7,ae,ag,af,nw h1,hf,dc h2,hA1,Bool.not_false]
theorem uk {w:Str} (h:bZ w.cps.toList=true):bw ip [.str w]=.ret (.int (eP w.cps.toList)):=by
 have hl:=Ziw h
 have hl2:w.length<=640:=by unfold Str.length; rw [<- Array.length_toList]; omega
 unfold bw ip
 dsimp only
 rw [decide_eq_true hl2,if_pos rfl,ZjB h]
 rfl
theorem nV {w:Str} (h:w.length<=500000):iI [.d (.str w)]=.ret (if bZ w.cps.toList then some (.d (.int (eP w.cps.toList))) else none):=by
 cases hn:bZ w.cps.toList with
 | false =>
  simp_arith [iI,ae,ag,af,uF h,hn,Bool.not_false]
  rfl
 | true =>
  simp_arith [iI,ae,ag,af,uF h,hn,Bool.not_true,uk hn]
  rfl
theorem qz {w:Str} (h:w.length<=500000) (hn:bZ w.cps.toList=true):jS [.d (.str w)]=.ret (.d (.int (eP w.cps.toList))):=by
 simp_arith [jS,ae,ag,af,uF h,hn,Bool.not_true,uk hn]
theorem Zgy (l:List Nat):fi (j6 (aj 0) pK pC [.un]) (l.map λc=>.str ⟨#[c]⟩)=.ret ((l.filter λc=>!decide (48<=c/\c<=57)).map λc=>.str ⟨#[c]⟩):=by
 induction l with
 | nil=>rfl
 | cons c l ih =>
  have e0:j6 (aj 0) pK pC [.un] (.str ⟨#[c]⟩)=.ret (if (!decide (48<=c/\c<=57))=true then some (.str ⟨#[c]⟩) else none):=by
   simp_arith [pK,pC,ae,ag,af,ZcQ,if_true]
   cases hd:(!decide (48<=c/\c<=57)) with
   | false=>rfl
   | true=>rfl
  rw [List.map_cons,fi,e0,Tr.ret_bind,ih,Tr.ret_bind,List.filter_cons]
  cases hd:(!decide (48<=c/\c<=57)) with
  | false=>rfl
  | true=>rfl
theorem Zkf (l:List Nat):((l.filter λc=>!decide (48<=c/\c<=57)).map λc=>PyData.str ⟨#[c]⟩).isEmpty=l.all λc=>decide (48<=c/\c<=57):=by
 induction l with
 | nil=>rfl
 | cons c l ih =>
  rw [List.filter_cons,List.all_cons]
  cases hd:decide (48<=c/\c<=57) with
  | false=>rfl
  | true=>exact ih
theorem uE {w:Str} (h:w.length<=500000):cT [.d (.str w)]=.ret (.d (if bZ w.cps.toList then .int (eP w.cps.toList) else .none)):=by
 have h1:w.length<=1048576:=by omega
 have hb0:((Txt.slice w none (some 1)) == "-")=decide (w.cps.toList.head?=some 45):=by
  rw [lJ,Zgk,tT]
  cases w.cps.toList with
  | nil=>rfl
  | cons c r=>simp
 obtain ⟨F,hF,hl,hbr⟩:∃ F:Str,F.cps.toList=figs w.cps.toList/\F.length<=1048576/\((((Txt.slice w none (some 1)) == "-")=true/\Txt.slice w (some 1) none=F)\/((((Txt.slice w none (some 1)) == "-")=false)/\w=F)):=by
  by_cases hm:w.cps.toList.head?=some 45
  ·refine ⟨Txt.slice w (some 1) none,?_,Nat.le_trans (Txt.slice_le _ _ _) h1,.inl ⟨by rw [hb0,decide_eq_true hm],rfl⟩⟩
   rw [Zgm]; unfold figs; rw [if_pos hm]
  ·refine ⟨w,?_,h1,.inr ⟨by rw [hb0,decide_eq_false hm],rfl⟩⟩
   unfold figs; rw [if_neg hm]
 have hFl:F.length=F.cps.toList.length:=by simp [Str.length]
 have hs:small (F.cps.toList.map λc=>PyData.str ⟨#[c]⟩).length=true:=bS (by rw [List.length_map,<- hFl]; exact hl)
 have em:=Zgy F.cps.toList
 have ef:=Zkf F.cps.toList
 have en:(F == "")=decide (F.cps.toList=[]):=by rw [lJ,tM]
 have ew:(w == "-0")=decide (w.cps.toList=[45,48]):=by rw [lJ,ZiU]
 have hi:=λhn=>uk (w:=w) hn
 generalize hL:w.cps.toList=L at *
 -- what is told,by F's signs
 have key:bZ L=(!(decide (F.cps.toList=[])) && !decide (400 < F.cps.toList.length) && (F.cps.toList.all λc=>decide (48<=c/\c<=57)) && !(decide (L=[45,48])) && !(decide (1 < F.cps.toList.length) && decide (F.cps.toList.head?=some 48))):=by
  rw [hF]
  unfold bZ
  cases hc:figs L with
  | nil=>simp
  | cons c r =>
   have e1:decide (1<=(c::r).length/\(c::r).length<=400)=!decide (400 < (c::r).length):=by
    rw [List.length_cons]
    by_cases h4:r.length+1<=400
    ·rw [decide_eq_true ⟨by omega,h4⟩,decide_eq_false (by omega)]; rfl
    ·rw [decide_eq_false (λz=>h4 z.2),decide_eq_true (by omega)]; rfl
   have e0:decide (c::r=([]:List Nat))=false:=decide_eq_false (by simp)
   rw [e1,e0]
   have e2:(decide ((c::r).head?≠some 48) || decide (L=[48]))=(!decide (L=[45,48]) && !(decide (1 < (c::r).length) && decide ((c::r).head?=some 48))):=by
    have hL2:(L=c::r/\c≠45)\/L=45::c::r:=by
     unfold figs at hc
     by_cases hm:L.head?=some 45
     ·rw [if_pos hm] at hc
      cases L with
      | nil=>cases hm
      | cons a l =>
       have ha:a=45:=Option.some.inj hm
       rw [ha]
       exact .inr (by rw [show l=c::r from hc])
     ·rw [if_neg hm] at hc
      exact .inl ⟨hc,λe=>hm (by rw [hc,e]; rfl)⟩
    by_cases h48:c=48
    ·subst h48
     rcases hL2 with ⟨e,_⟩ | e <;> subst e <;> cases r <;> simp
    ·rcases hL2 with ⟨e,h45⟩ | e <;> subst e <;> simp [h48]
     exact .inl h45
   rw [e2]
   cases decide (400 < (c::r).length) <;> cases (c::r).all (λc=>decide (48<=c/\c<=57)) <;> simp
 have h400:decide ((F.length:Int) > 400)=decide (400 < F.cps.toList.length):=by
  rw [hFl]
  by_cases h4:400 < F.cps.toList.length
  ·rw [decide_eq_true h4,decide_eq_true (by omega)]
  ·rw [decide_eq_false h4,decide_eq_false (by omega)]
 have h1l:decide ((F.length:Int) > 1)=decide (1 < F.cps.toList.length):=by
  rw [hFl]
  by_cases h4:1 < F.cps.toList.length
  ·rw [decide_eq_true h4,decide_eq_true (by omega)]
  ·rw [decide_eq_false h4,decide_eq_false (by omega)]
 have e4:F.cps.toList≠[]->∃ c,F.cps.toList.head?=some c/\aJ bQ (.str F) (.int 0)=.ret (.str ⟨#[c]⟩)/\((⟨#[c]⟩:Str) == "0")=decide (c=48):=by
  intro hne
  cases hc:F.cps.toList with
  | nil=>exact absurd hc hne
  | cons c r =>
   refine ⟨c,rfl,?_,?_⟩
   ·rw [uB hl,hc,lK]; rfl
   ·rw [lJ,rC]; simp
 cases hc:bZ L with
 | true =>
  have hi':=hi hc
  rw [hc] at key
  have key':=key.symm
  simp only [Bool.and_eq_true,Bool.not_eq_true'] at key'
  obtain ⟨⟨⟨⟨k1,k2⟩,k3⟩,k4⟩,k5⟩:=key'
  obtain ⟨c,hc1,hc2,hc3⟩:=e4 (of_decide_eq_false k1)
  rw [hc1] at k5
  have k6:decide (some c=some 48)=decide (c=48):=by simp
  rw [k6] at k5
  rw [k3] at ef
  rcases hbr with ⟨hb,hsl⟩ | ⟨hb,hsl⟩
  ·by_cases hz:1 < F.cps.toList.length
   ·rw [decide_eq_true hz,Bool.true_and] at k5
    simp_arith [cT,ae,ag,af,dk h1,hb,hsl,en,k1,dc hl,h400,k2,db,hs,em,eE,ef,Bool.not_true,Bool.not_false,ew,k4,h1l,decide_eq_true hz,hc2,hc3,k5,hi',if_true]
   ·simp_arith [cT,ae,ag,af,dk h1,hb,hsl,en,k1,dc hl,h400,k2,db,hs,em,eE,ef,Bool.not_true,Bool.not_false,ew,k4,h1l,decide_eq_false hz,hi',if_true]
  ·subst hsl
   by_cases hz:1 < w.cps.toList.length
   ·rw [decide_eq_true hz,Bool.true_and] at k5
    simp_arith [cT,ae,ag,af,dk h1,hb,en,k1,dc hl,h400,k2,db,hs,em,eE,ef,Bool.not_true,Bool.not_false,ew,k4,h1l,decide_eq_true hz,hc2,hc3,k5,hi',if_true]
   ·simp_arith [cT,ae,ag,af,dk h1,hb,en,k1,dc hl,h400,k2,db,hs,em,eE,ef,Bool.not_true,Bool.not_false,ew,k4,h1l,decide_eq_false hz,hi',if_true]
 | false =>
  rw [hc] at key
  cases k1:decide (F.cps.toList=[]) with
  | true =>
   rcases hbr with ⟨hb,hsl⟩ | ⟨hb,hsl⟩
   ·simp_arith [cT,ae,ag,af,dk h1,hb,hsl,en,k1,if_false,Bool.false_eq_true]
   ·subst hsl
    simp_arith [cT,ae,ag,af,dk h1,hb,en,k1,if_false,Bool.false_eq_true]
  | false =>
   cases k2:decide (400 < F.cps.toList.length) with
   | true =>
    rcases hbr with ⟨hb,hsl⟩ | ⟨hb,hsl⟩
    ·simp_arith [cT,ae,ag,af,dk h1,hb,hsl,en,k1,dc hl,h400,k2,if_false,Bool.false_eq_true]
    ·subst hsl
     simp_arith [cT,ae,ag,af,dk h1,hb,en,k1,dc hl,h400,k2,if_false,Bool.false_eq_true]
   | false =>
    cases k3:F.cps.toList.all (λc=>decide (48<=c/\c<=57)) with
    | false =>
     rw [k3] at ef
     rcases hbr with ⟨hb,hsl⟩ | ⟨hb,hsl⟩
     ·simp_arith [cT,ae,ag,af,dk h1,hb,hsl,en,k1,dc hl,h400,k2,db,hs,em,eE,ef,Bool.not_false,if_false,Bool.false_eq_true]
     ·subst hsl
      simp_arith [cT,ae,ag,af,dk h1,hb,en,k1,dc hl,h400,k2,db,hs,em,eE,ef,Bool.not_false,if_false,Bool.false_eq_true]
    | true =>
     rw [k3] at ef
     cases k4:decide (L=[45,48]) with
     | true =>
      rcases hbr with ⟨hb,hsl⟩ | ⟨hb,hsl⟩
      ·simp_arith [cT,ae,ag,af,dk h1,hb,hsl,en,k1,dc hl,h400,k2,db,hs,em,eE,ef,Bool.not_true,ew,k4,if_false,Bool.false_eq_true]
      ·subst hsl
       simp_arith [cT,ae,ag,af,dk h1,hb,en,k1,dc hl,h400,k2,db,hs,em,eE,ef,Bool.not_true,ew,k4,if_false,Bool.false_eq_true]
     | false =>
      obtain ⟨c,hc1,hc2,hc3⟩:=e4 (of_decide_eq_false k1)
      rw [k1,k2,k3,k4,hc1] at key
      have k6:decide (some c=some 48)=decide (c=48):=by simp
      rw [k6] at key
      have k5:decide (1 < F.cps.toList.length)=true/\decide (c=48)=true:=by simpa using key
      rcases hbr with ⟨hb,hsl⟩ | ⟨hb,hsl⟩
      ·simp_arith [cT,ae,ag,af,dk h1,hb,hsl,en,k1,dc hl,h400,k2,db,hs,em,eE,ef,Bool.not_true,ew,k4,h1l,k5.1,hc2,hc3,k5.2,if_false,Bool.false_eq_true]
      ·subst hsl
       simp_arith [cT,ae,ag,af,dk h1,hb,en,k1,dc hl,h400,k2,db,hs,em,eE,ef,Bool.not_true,ew,k4,h1l,k5.1,hc2,hc3,k5.2,if_false,Bool.false_eq_true]
end My
namespace My
open PySem PySem.Spec PyProof.Rows L2 Tw
theorem qu {i:Int} (h:i.natAbs.log2 < 1920):bw et [.int i]=.ret (.str (aX i)):=by
 rw [Zda h]
 exact congrArg (λs=>Tr.ret (PyData.str s)) (ZdI i)
theorem tW {n k:Nat} (h:n < 2 ^ k) (hk:0 < k):n.log2 < k:=by
 by_cases h0:n=0
 ·subst h0; simpa using hk
 ·exact (Nat.log2_lt h0).mpr h
theorem Zjr (ps:List Str):(Str.join ⟨#[]⟩ ps).cps.toList=(ps.map λp=>p.cps.toList).flatten:=by
 induction ps with
 | nil=>rfl
 | cons p ps ih =>
  cases ps with
  | nil=>simp [Str.join]
  | cons q ps =>
   have e:Str.join ⟨#[]⟩ (p::q::ps)=p++⟨#[]⟩++Str.join ⟨#[]⟩ (q::ps):=rfl
   rw [e,Str.cps_append,Str.cps_append,Array.toList_append,Array.toList_append,ih]
   simp
theorem vz:(10000000000000000000000000000000000000000000000000000000000000000:Int)=((10 ^ 64:Nat):Int):=by decide
noncomputable def flt (ps:List Str):List Nat:=(ps.reverse.map λp=>p.cps.toList).flatten
theorem Zfi {i:Int}:∀ (n m:Nat) (ps:List Str) (J:Sl),m < 10 ^ (64 * (n+1))->ps.length+n<=100->(∀ p∈ps,p.length<=64)->∃ (m':Nat) (ps':List Str) (J':Sl),m' < 10 ^ 64/\digs m'++flt ps'=digs m++flt ps/\ps'.length<=ps.length+n/\(∀ p∈ps',p.length<=64)/\∀ fu,n < fu ->
  dg jv nj fu [.d (.int i),.own (ps.map PyData.str),.d (.int m),J]=.ret (.next [.d (.int i),.own (ps'.map PyData.str),.d (.int m'),J']):=by
 have stop:∀ (m:Nat) (ps:List Str) (J:Sl) (fu:Nat),m < 10 ^ 64->0 < fu->dg jv nj fu [.d (.int i),.own (ps.map PyData.str),.d (.int m),J]=.ret (.next [.d (.int i),.own (ps.map PyData.str),.d (.int m),J]):=by
  intro m ps J fu hm hf
  obtain ⟨f,rfl⟩:∃ f,fu=f+1:=⟨fu - 1,by omega⟩
  have e:jv [.d (.int i),.own (ps.map PyData.str),.d (.int m),J]=.ret false:=by
   have hd:decide ((m:Int) ≥ ((10 ^ 64:Nat):Int))=false:=decide_eq_false (by omega)
   simp_arith [jv,vz,ae,ag,af,hd]
  rw [dg,e]
  rfl
 intro n
 induction n with
 | zero =>
  intro m ps J hm hl hp
  exact ⟨m,ps,J,hm,rfl,by omega,hp,λfu hf=>stop m ps J fu hm hf⟩
 | succ n ih =>
  intro m ps J hm hl hp
  by_cases hs:m < 10 ^ 64
  ·exact ⟨m,ps,J,hs,rfl,by omega,hp,λfu hf=>stop m ps J fu hs (by omega)⟩
  ·have hq0:0 < m / 10 ^ 64:=Nat.div_pos (by omega) (Nat.pow_pos (by decide))
   have hr:m % 10 ^ 64 < 10 ^ 64:=Nat.mod_lt _ (Nat.pow_pos (by decide))
   have hq:m / 10 ^ 64 < 10 ^ (64 * (n+1)):=by
    refine Nat.div_lt_of_lt_mul ?_
    rw [<- Nat.pow_add]
    have:64+64 * (n+1)=64 * (n+1+1):=by omega
    rw [this]
    exact hm
   have hz:=ZeU (m % 10 ^ 64) hr
   have hzl:(Txt.zfill (aX ((m % 10 ^ 64:Nat):Int)) 64).length<=64:=by
    unfold Str.length
    rw [<- Array.length_toList,hz]
    unfold padk
    rw [List.length_append,List.length_replicate]
    have:=lE 63 _ hr
    omega
   obtain ⟨m',ps',J',h1,h2,h3,h4,h5⟩:=ih (m / 10 ^ 64) (ps++[Txt.zfill (aX ((m % 10 ^ 64:Nat):Int)) 64]) (.d (.int (m % 10 ^ 64:Nat))) hq (by simp; omega) (λp hp'=>by
    rcases List.mem_append.mp hp' with hp' | hp'
    ·exact hp p hp'
    ·rw [List.mem_singleton.mp hp']; exact hzl)
   refine ⟨m',ps',J',h1,?_,by simp at h3; omega,h4,λfu hf=>?_⟩
   ·rw [h2]
    have e:=Zn2 63 (m / 10 ^ 64) (m % 10 ^ 64) hq0 hr
    have e2:m / 10 ^ 64 * 10 ^ (63+1)+m % 10 ^ 64=m:=Nat.div_add_mod' m (10 ^ 64)
    rw [e2] at e
    rw [e,List.append_assoc]
    congr 1
    unfold flt
    rw [List.reverse_append,List.map_append,List.flatten_append]
    show (Txt.zfill (aX ((m % 10 ^ 64:Nat):Int)) 64).cps.toList++[]++_=_
    rw [hz,List.append_nil]
   ·obtain ⟨f,rfl⟩:∃ f,fu=f+1:=⟨fu - 1,by omega⟩
    have e:jv [.d (.int i),.own (ps.map PyData.str),.d (.int m),J]=.ret true:=by
     have hd:decide ((m:Int) ≥ ((10 ^ 64:Nat):Int))=true:=decide_eq_true (by omega)
     simp_arith [jv,vz,ae,ag,af,hd]
    have ed:bw nD [.int m,.int ((10 ^ 64:Nat):Int)]=.ret (.tuple [.int ((m / 10 ^ 64:Nat):Int),.int ((m % 10 ^ 64:Nat):Int)]):=by
     have hp:Builtin.divisionGoesByPylong (m:Int) ((10 ^ 64:Nat):Int)=false:=PyProof.noPylong_of_log2 (by decide +kernel)
     unfold bw nD
     dsimp only
     rw [hp,if_pos (by decide +kernel)]
     show Tr.ret _=_
     rw [show ((m:Int).fdiv ((10 ^ 64:Nat):Int))=((m / 10 ^ 64:Nat):Int) from (Int.ofNat_fdiv m (10 ^ 64)).symm,show ((m:Int).fmod ((10 ^ 64:Nat):Int))=((m % 10 ^ 64:Nat):Int) from (Int.ofNat_fmod m (10 ^ 64)).symm]
    have hr2:((m % 10 ^ 64:Nat):Int).natAbs.log2 < 1920:=by
     refine tW (Nat.lt_of_lt_of_le (show ((m % 10 ^ 64:Nat):Int).natAbs < 10 ^ 64 by omega) ?_) (by decide)
     decide +kernel
    have ez:aJ jt (.str (aX ((m % 10 ^ 64:Nat):Int))) (.int 64)=.ret (.str (Txt.zfill (aX ((m % 10 ^ 64:Nat):Int)) 64)):=by
     unfold aJ jt
     dsimp only
     rw [if_pos (by decide +kernel)]
     rfl
    have hsm:small ((ps.map PyData.str).length+1)=true:=dF (by rw [List.length_map]; omega)
    have eb:nj [.d (.int i),.own (ps.map PyData.str),.d (.int m),J]=.ret (.next [.d (.int i),.own ((ps++[Txt.zfill (aX ((m % 10 ^ 64:Nat):Int)) 64]).map PyData.str),.d (.int (m / 10 ^ 64:Nat)),.d (.int (m % 10 ^ 64:Nat))]):=by
     simp_arith [nj,vz,ae,ag,af,ed,qu hr2,ez,hsm,List.map_append]
    rw [dg,e,Tr.ret_bind,if_pos rfl,eb]
    exact h5 f (by omega)
theorem nz {i:Int} (h:i.natAbs < 10 ^ 448):ii [.d (.int i)]=.ret (.d (.str (aX i))):=by
 obtain ⟨m',ps',J',h1,h2,h3,h4,h5⟩:=Zfi (i:=i) 6 i.natAbs [] .un h (by decide) (λp hp=>by cases hp)
 have hw:=h5 100000 (by decide)
 rw [List.map_nil] at hw
 have hl2:((m':Nat):Int).natAbs.log2 < 1920:=by
  refine tW (Nat.lt_of_lt_of_le (show ((m':Nat):Int).natAbs < 10 ^ 64 by omega) ?_) (by decide)
  decide +kernel
 have h3':ps'.length<=6:=by simpa using h3
 have hsm:small ((ps'.map PyData.str).length+1)=true:=dF (by rw [List.length_map]; omega)
 have hrev:((ps'.map PyData.str)++[PyData.str (aX m')]).reverse=((aX m')::ps'.reverse).map PyData.str:=by simp
 have hlen:∀ l:List Str,(∀ p∈l,p.length<=64)->(l.map (·.length)).sum<=64 * l.length:=by
  intro l
  induction l with
  | nil=>intro _; exact Nat.le_refl _
  | cons p l ih =>
   intro hp
   have:=ih λq hq=>hp q (List.mem_cons_of_mem _ hq)
   have:=hp p (by simp)
   rw [List.map_cons,List.sum_cons,List.length_cons]
   omega
 have hd64:(aX (m':Int)).length<=64:=by
  rw [qE,lH]
  exact lE 63 m' h1
 have hj:("":Str).length<=16/\((aX (m':Int)::ps'.reverse).map (·.length)).sum+(aX (m':Int)::ps'.reverse).length<=1048576:=by
  refine ⟨by decide,?_⟩
  have:=hlen (aX (m':Int)::ps'.reverse) (λp hp=>by
   rcases List.mem_cons.mp hp with rfl | hp
   ·exact hd64
   ·exact h4 p (List.mem_reverse.mp hp))
  have e:(aX (m':Int)::ps'.reverse).length<=7:=by simp; omega
  omega
 have ejl:(Txt.join "" (aX (m':Int)::ps'.reverse)).cps.toList=digs i.natAbs:=by
  rw [tjoin,tM,Zjr,List.map_cons,List.flatten_cons,je,lH]
  have h2':digs m'++flt ps'=digs i.natAbs++flt []:=h2
  have e0:flt []=[]:=rfl
  rw [e0,List.append_nil] at h2'
  exact h2'
 have ejlen:(Txt.join "" (aX (m':Int)::ps'.reverse)).length<=1000:=by
  unfold Str.length
  rw [<- Array.length_toList,ejl]
  have:=lE 447 i.natAbs h
  omega
 have ha:jl i=((i.natAbs:Nat):Int):=by unfold jl; split <;> omega
 have ejn:aJ bW (.str "") (.list (PyData.str (aX (m':Int))::ps'.reverse.map PyData.str))=.ret (.str (Txt.join "" (aX (m':Int)::ps'.reverse))):=ae hj
 by_cases hn:i < 0
 ·have hadd:("-":Str).length+(Txt.join "" (aX (m':Int)::ps'.reverse)).length<=1048576:=by
   have:("-":Str).length=1:=by decide
   omega
  have er:("-":Str)++Txt.join "" (aX (m':Int)::ps'.reverse)=aX i:=by
   apply jC
   rw [Str.cps_append,Array.toList_append,ejl,je,tT]
   unfold eV
   rw [if_pos hn]
   rfl
  simp_arith [ii,ae,ag,af,ha,hw,qu hl2,hsm,hrev,ejn,decide_eq_true hn,jd hadd,er]
 ·have hadd:("":Str).length+(Txt.join "" (aX (m':Int)::ps'.reverse)).length<=1048576:=by
   have:("":Str).length=0:=by decide
   omega
  have er:("":Str)++Txt.join "" (aX (m':Int)::ps'.reverse)=aX i:=by
   apply jC
   rw [Str.cps_append,Array.toList_append,ejl,je,tM]
   unfold eV
   rw [if_neg hn]
   rfl
  simp_arith [ii,ae,ag,af,ha,hw,qu hl2,hsm,hrev,ejn,decide_eq_false hn,jd hadd,er]
noncomputable def fM:PyData->Bool
 | .str _=>true
 | _=>false
theorem ui (d:PyData):i9 "str" (gD d)=fM d:=by cases d <;> rfl
theorem iK (d:PyData):iJ [.d d]=.ret (if fM d=true then some (.d .none) else none):=by
 cases h:fM d with
 | false =>
  simp_arith [iJ,ae,ag,af,ui,h,Bool.not_false]
  rfl
 | true =>
  simp_arith [iJ,ae,ag,af,ui,h,Bool.not_true]
  rfl
theorem qA (t:Str):jY [.d (.str t)]=.ret (.d .none):=by
 have h:fM (.str t)=true:=rfl
 simp_arith [jY,ae,ag,af,ui,h,Bool.not_true]
noncomputable def bX (w:Str):Option (List Int):=bb aS (Txt.split w ⟨#[44]⟩)
noncomputable def bH (t:Str):Option (List (List Int)):=bb bX (Txt.split t ⟨#[32]⟩)
theorem Zoa {w:Str} {ns:List Int} (h:bX w=some ns):Rp (tI ns) 1 (13 * (w.length+1)):=kT (λw a h=>pP h) h
theorem Zbg {t:Str} {ds:List (List Int)} (h:bH t=some ds):Rp (fD ds) 2 (25 * (t.length+1)):=kT (λw a h=>Zoa h) h
theorem Zfd {w:Str} (h:w.length<=500000):d9 (aj 0) o9 [.un] (.str w)=.ret ((aS w).map PyData.int):=by
 simp_arith [o9,ae,ag,af,nV h]
 unfold aS
 cases bZ w.cps.toList <;> rfl
theorem Zfc {w:Str} (h:w.length<=500000):d9 (aj 0) o8 [.un] (.str w)=.ret ((bX w).map tI):=by
 have hs:small ((Txt.split w ⟨#[44]⟩).map PyData.str).length=true:=bS (by rw [List.length_map]; have:=cj 44 w; omega)
 have e:=jP (f:=aS) (g:=PyData.int) (h:=d9 (aj 0) o9 [.un]) (l:=Txt.split w ⟨#[44]⟩) λx hx=>Zfd (by have:=cw hx; omega)
 simp_arith [o8,jf,ae,ag,af,cr h,hs,e]
 unfold bX
 cases bb aS (Txt.split w ⟨#[44]⟩) <;> rfl
theorem Zaj {t:Str} (h:t.length<=500000):gA [.d (.str t)]=.ret ((bH t).map λds=>.d (fD ds)):=by
 have hs:small ((Txt.split t ⟨#[32]⟩).map PyData.str).length=true:=bS (by rw [List.length_map]; have:=cj 32 t; omega)
 have e:=jP (f:=bX) (g:=tI) (h:=d9 (aj 0) o8 [.un]) (l:=Txt.split t ⟨#[32]⟩) λx hx=>Zfc (by have:=cw hx; omega)
 simp_arith [gA,dr,ae,ag,af,iK,fM,if_true,Option.map_some,cr h,hs,e]
 unfold bH
 cases bb bX (Txt.split t ⟨#[32]⟩) <;> rfl
theorem Zhv {w:Str} {i:Int} (h:w.length<=500000) (hn:aS w=some i):bh (aj 0) pA [.un] (.str w)=.ret (.int i):=by
 obtain ⟨h1,rfl⟩:=k8 hn
 simp_arith [pA,ae,ag,af,qz h h1]
theorem Zhu {w:Str} {ns:List Int} (h:w.length<=500000) (hn:bX w=some ns):bh (aj 0) pz [.un] (.str w)=.ret (tI ns):=by
 have hs:small ((Txt.split w ⟨#[44]⟩).map PyData.str).length=true:=bS (by rw [List.length_map]; have:=cj 44 w; omega)
 have e:=jQ (f:=aS) (g:=PyData.int) (h:=bh (aj 0) pA [.un]) (l:=Txt.split w ⟨#[44]⟩) (λx hx a ha=>Zhv (by have:=cw hx; omega) ha) hn
 simp_arith [pz,jf,ae,ag,af,cr h,hs,e]
 rfl
theorem Zdo {t:Str} {ds:List (List Int)} (h:t.length<=500000) (hn:bH t=some ds):lf [.d (.str t)]=.ret (.d (fD ds)):=by
 have hs:small ((Txt.split t ⟨#[32]⟩).map PyData.str).length=true:=bS (by rw [List.length_map]; have:=cj 32 t; omega)
 have e:=jQ (f:=bX) (g:=tI) (h:=bh (aj 0) pz [.un]) (l:=Txt.split t ⟨#[32]⟩) (λx hx a ha=>Zhu (by have:=cw hx; omega) ha) hn
 simp_arith [lf,dr,ae,ag,af,qA,cr h,hs,e]
 rfl
theorem kY {i:Int} (h:i.natAbs < 10 ^ 400):i.natAbs < 10 ^ 448:=Nat.lt_trans h (Nat.pow_lt_pow_right (by decide) (by decide))
theorem ZgR {w:Str} {i:Int} (hn:aS w=some i):bh (aj 0) pf [.un] (.int i)=.ret (.str w):=by
 simp_arith [pf,ae,ag,af,nz (kY (jN hn)),iW hn]
theorem ZgQ {w:Str} {ns:List Int} (h:w.length<=500000) (hn:bX w=some ns):bh (aj 0) pe [.un] (tI ns)=.ret (.str w):=by
 have hl:=dX hn
 have hs:small (ns.map PyData.int).length=true:=bS (by rw [List.length_map,hl]; have:=cj 44 w; omega)
 have e:=lb (f:=aS) (g:=PyData.int) (h:=bh (aj 0) pf [.un]) (l:=Txt.split w ⟨#[44]⟩) (λx hx a ha=>ZgR ha) hn
 have ej:aJ bW (.str ⟨#[44]⟩) (.list ((Txt.split w ⟨#[44]⟩).map PyData.str))=.ret (.str w):=by
  rw [ae (mn h),tjoin,StrLaws.join_split]
 unfold tI
 simp_arith [pe,jf,ae,ag,af,hs,e,ej]
theorem Zdl {t:Str} {ds:List (List Int)} (h:t.length<=500000) (hn:bH t=some ds):lc [.d (fD ds)]=.ret (.d (.str t)):=by
 have hl:=dX hn
 have hs:small (ds.map tI).length=true:=bS (by rw [List.length_map,hl]; have:=cj 32 t; omega)
 have e:=lb (f:=bX) (g:=tI) (h:=bh (aj 0) pe [.un]) (l:=Txt.split t ⟨#[32]⟩) (λx hx a ha=>ZgQ (by have:=cw hx; omega) ha) hn
 have ej:aJ bW (.str ⟨#[32]⟩) (.list ((Txt.split t ⟨#[32]⟩).map PyData.str))=.ret (.str t):=by
  rw [ae (mn h),tjoin,StrLaws.join_split]
 unfold fD
 simp_arith [lc,dr,ae,ag,af,hs,e,ej]
theorem Zoe {w:Str} (h:w.length<=500000):bh (aj 0) pD [.un] (.str w)=.ret (cE PyData.int (aS w)):=by
 simp_arith [pD,ae,ag,af,uE h]
 unfold aS
 cases bZ w.cps.toList <;> rfl
theorem ZcL:SeqAt.shaped .none=true:=by decide
theorem ZcO (i:Int):SeqAt.shaped (.int i)=true:=rfl
theorem ZnF:PyData.eqv .none .none=true:=by simp [PyData.eqv]
theorem Zdf (i:Int):PyData.eqv (.int i) .none=false:=by simp [PyData.eqv]
theorem ZcP {l:List Str} {α:Type} {f:Str->Option α} {g:α->PyData} (hsh:∀ x∈l,∀ a,f x=some a->SeqAt.shaped (g a)=true) (hg:∀ x∈l,∀ a,f x=some a->PyData.eqv (g a) .none=false) :
  aJ (iq false) .none (.list (l.map λx=>cE g (f x)))=.ret (.bool (bb f l).isNone):=by
 have hall:(l.map λx=>cE g (f x)).all SeqAt.shaped=true:=by
  rw [List.all_eq_true]
  intro y hy
  obtain ⟨x,hx,rfl⟩:=List.mem_map.mp hy
  cases hfx:f x with
  | none=>exact ZcL
  | some a=>exact hsh x hx a hfx
 have he:=Zh8 (f:=f) (g:=g) (l:=l) (p:=λz=>PyData.eqv z .none) ZnF hg
 show Tr.of (nl false .none (.list _))=_
 unfold nl
 dsimp only
 rw [ZcL,hall,Bool.and_self,if_pos rfl]
 show Tr.ret (PyData.bool (List.any _ _))=_
 rw [he]
theorem ZnV {t:Str} (h:t.length<=500000):ni [.d (.str t)]=.ret (.d (cE fD (bH t))):=by
 have key:∀ (l:List Str),(∀ w∈l,w.length<=500000)->∀ (pre:List (List Int)) (J2 J3:Sl),pre.length+l.length<=1000000 ->
   bJ (aj 2) gJ (l.map PyData.str) [.d (.str t),.own (pre.map tI),J2,J3]=match bb bX l with
    | none=>.ret (.ret (.d .none))
    | some ds=>bJ (aj 2) gJ [] [.d (.str t),.own ((pre++ds).map tI),(match l.getLast? with | none=>J2 | some w=>.d (.str w)),(match ds.getLast? with | none=>J3 | some n=>.d (.list (n.map PyData.int)))]:=by
  intro l
  induction l with
  | nil =>
   intro _ pre J2 J3 _
   show _=bJ (aj 2) gJ [] [.d (.str t),.own ((pre++[]).map tI),J2,J3]
   rw [List.append_nil]
   rfl
  | cons w l ih =>
   intro hl pre J2 J3 hp
   have hw:=hl w (by simp)
   have hs:small ((Txt.split w ⟨#[44]⟩).map PyData.str).length=true:=bS (by rw [List.length_map]; have:=cj 44 w; omega)
   have e1:=tV (h:=bh (aj 0) pD [.un]) (F:=λx=>cE PyData.int (aS x)) (l:=Txt.split w ⟨#[44]⟩) λx hx=>Zoe (by have:=cw hx; omega)
   have e2:=ZcP (l:=Txt.split w ⟨#[44]⟩) (f:=aS) (g:=PyData.int) (λ_ _ a _=>ZcO a) (λ_ _ a _=>Zdf a)
   have eb:bJ (aj 2) gJ ((w::l).map PyData.str) [.d (.str t),.own (pre.map tI),J2,J3]=(gJ [.d (.str t),.own (pre.map tI),.d (.str w),J3]).bind (gO (aj 2) gJ (l.map PyData.str)):=by
    rw [List.map_cons,lA]
    rfl
   rw [eb,iA]
   cases hd:bX w with
   | none =>
    have hd':(bb aS (Txt.split w ⟨#[44]⟩)).isNone=true:=by unfold bX at hd; rw [hd]; rfl
    rw [hd'] at e2
    simp_arith [gJ,jf,ae,ag,af,cr hw,hs,e1,e2]
    rfl
   | some ns =>
    have hd':(bb aS (Txt.split w ⟨#[44]⟩)).isNone=false:=by unfold bX at hd; rw [hd]; rfl
    rw [hd'] at e2
    have e3:=tH (f:=aS) (g:=PyData.int) (l:=Txt.split w ⟨#[44]⟩) hd
    have lz:small ((pre.map tI).length+1)=true:=bS (by rw [List.length_map]; simp at hp; omega)
    rw [e3] at e1 e2
    have es:gJ [.d (.str t),.own (pre.map tI),.d (.str w),J3]=.ret (.next [.d (.str t),.own ((pre++[ns]).map tI),.d (.str w),.d (.list (ns.map PyData.int))]):=by
     simp_arith [gJ,jf,ae,ag,af,cr hw,hs,e1,e2,lz,List.map_append]
     rfl
    rw [es,Tr.ret_bind,kc,ih (λv hv=>hl v (List.mem_cons_of_mem _ hv)) (pre++[ns]) _ _ (by simp at hp ⊢; omega)]
    cases ha:bb bX l with
    | none=>rfl
    | some ds =>
     show bJ _ _ [] _=bJ _ _ [] _
     rw [List.append_assoc]
     congr 1
     have e5:(match l.getLast? with | none=>Sl.d (.str w) | some v=>.d (.str v))=(match (w::l).getLast? with | none=>J2 | some v=>.d (.str v)):=by
      rw [List.getLast?_cons]
      cases l.getLast? <;> rfl
     have e6:(match ds.getLast? with | none=>Sl.d (.list (ns.map PyData.int)) | some n=>.d (.list (n.map PyData.int)))=(match (ns::ds).getLast? with | none=>J3 | some n=>.d (.list (n.map PyData.int))):=by
      rw [List.getLast?_cons]
      cases ds.getLast? <;> rfl
     rw [e5,e6]
     rfl
 have hk:=key (Txt.split t ⟨#[32]⟩) (λw hw=>by have:=cw hw; omega) [] .un .un (by have:=cj 32 t; simp; omega)
 rw [List.map_nil] at hk
 unfold bH
 cases ha:bb bX (Txt.split t ⟨#[32]⟩) with
 | none =>
  rw [ha] at hk
  simp_arith [ni,dr,ae,ag,af,cr h,hk]
  rfl
 | some ds =>
  rw [ha] at hk
  simp_arith [ni,dr,ae,ag,af,cr h,hk]
  rfl
theorem ZnT {a b:Int} (hb:nb 8000 b):qa [.d (.int a),.d (.int b)]=.ret (.d (.int (Nat.gcd a.natAbs b.natAbs:Nat))):=by
 have key:=euclid (p:=rN) (s:=ud) (E:=λa b=>[.d (.int a),.d (.int b)]) (λa b=>by
  simp_arith [rN,ae,ag,af]
  by_cases h:b=0
  ·subst h; rfl
  ·rw [decide_eq_true h]
   congr 1
   simp [h]) (λa b h=>by
  have h':(b:Int)≠0:=by omega
  simp_arith [ud,ae,ag,af,uC h',Zc6]) 8000 83999 a.natAbs b.natAbs hb
 have e:2 * 8000+1+83999=100000:=rfl
 rw [e] at key
 simp_arith [qa,ae,ag,af,ZeH,key]
theorem Zds {a b:Int} (ha:nb 8000 a):nh [.d (.int a),.d (.int b)]=.ret (.d (.int (Nat.gcd a.natAbs b.natAbs:Nat))):=by
 have key:=euclid (p:=rM) (s:=t9) (E:=λa b=>[.d (.int b),.d (.int a)]) (λa b=>by
  simp_arith [rM,ae,ag,af]
  by_cases h:b=0
  ·subst h; rfl
  ·rw [decide_eq_true h]
   congr 1
   exact decide_eq_true (by omega)) (λa b h=>by
  have h':(b:Int)≠0:=by omega
  simp_arith [t9,ae,ag,af,uC h',Zc6]) 8000 83999 b.natAbs a.natAbs ha
 have e:2 * 8000+1+83999=100000:=rfl
 rw [e] at key
 rw [Nat.gcd_comm]
 simp_arith [nh,ae,ag,af,ZeH,key]
theorem nk:bw ja [.bool true]=.ret (.int 1):=rfl
theorem it0:bw ja [.bool false]=.ret (.int 0):=rfl
theorem ZnR {t b:Int} (h0:b≠0) (ht:nb 7000 t) (hb:nb 7000 b):ng [.d (.int t),.d (.int b)]=.ret (.d (sj t b)):=by
 have e:=Zds (a:=t) (b:=b) (pR ht (by decide))
 have hd:=Gc.ZdD (t:=t) h0
 have hf:=pS (ZdE (t:=t) hb h0) (by decide)
 have f0:fit (0:Int)=true:=by decide
 have f1:fit (1:Int)=true:=by decide
 have f2:fit (2:Int)=true:=by decide
 have fa:fit (1 - 2 * 0:Int)=true:=by decide
 have fb:fit (1 - 2 * 1:Int)=true:=by decide
 have fg:fit ((Nat.gcd t.natAbs b.natAbs:Nat):Int)=true:=by
  have q:=ZdE (t:=t) hb h0
  unfold nb at q
  rw [Gc.qC] at q
  exact pS (k:=7000) (by unfold nb; exact q) (by decide)
 unfold sj Gc.jZ Gc.i8
 by_cases hn:b < 0
 ·have ed:Gc.den t b=((Nat.gcd t.natAbs b.natAbs:Nat):Int) * (1 - 2 * 1):=by unfold Gc.den Gc.j9; rw [if_pos hn]; omega
  rw [ed] at hd hf ⊢
  simp_arith [ng,ae,ag,af,e,decide_eq_true hn,nk,↓reduceIte,f0,f1,f2,fb,fg,Zdb hd hf]
 ·have ed:Gc.den t b=((Nat.gcd t.natAbs b.natAbs:Nat):Int) * (1 - 2 * 0):=by unfold Gc.den Gc.j9; rw [if_neg hn]; omega
  rw [ed] at hd hf ⊢
  simp_arith [ng,ae,ag,af,e,decide_eq_false hn,it0,Bool.false_eq_true,↓reduceIte,f0,f1,f2,fa,fg,Zdb hd hf]
theorem fy:((((2:Nat):Int)) == 2)=true:=rfl
theorem Zjx (n:Int):i9 "int" (gD (.int n))=true:=rfl
theorem Zjy (n:Int):i9 "bool" (gD (.int n))=false:=rfl
theorem fj (xs:List PyData):i9 "tuple" (gD (.tuple xs))=true:=rfl
theorem qw (n:Int):ll [.d (.int n)]=.ret (.d (.bool true)):=by
 simp_arith [ll,ae,ag,af,Zjx,Zjy,Bool.not_false]
theorem lz:small 2=true:=dF (by decide)
theorem aL (n:Int):bV [.pen,.d (.int n)]=.draw n λr=>.ret (.d (.int r)):=rfl
theorem qt {n:Int} (h1:-1000000000<=n) (h2:n<=1000000000):fit n=true:=pS (k:=40) (Zcn (b:=1000000000) ⟨h1,h2⟩ (by decide)) (by decide)
theorem uP:Al (li [.pen]) 4 λr=>∃ z:Int,r=.d (.int z)/\-150000000000000000000000000000<=z/\z<=150000000000000000000000000000:=by
 have e6:aJ iU (.int 10) (.int 6)=.ret (.int 1000000):=rfl
 have e29:aJ iU (.int 10) (.int 29)=.ret (.int 100000000000000000000000000000):=rfl
 simp_arith [li,ae,ag,af,aL]
 refine bY (n:=3) (by decide) (by decide) (by decide) λw w0 w1=>?_
 try simp_arith [ae,ag,af,aL]
 by_cases h5:w > 5
 ·simp_arith [decide_eq_true h5,ae,ag,af,aL,e6]
  refine bY (n:=2) (by decide) (by decide) (by decide) λa a0 a1=>?_
  have f1:fit a=true:=qt (by omega) (by omega)
  have f2:fit (1000000:Int)=true:=by decide
  simp_arith [ae,ag,af,aL,e6,f1,f2]
  refine bY (n:=1) (by decide) (by decide) (by decide) λb b0 b1=>?_
  have f3:fit (100000000000000000000000000000:Int)=true:=by decide
  have f4:fit (w - 6)=true:=qt (by omega) (by omega)
  have f5:fit (2:Int)=true:=by decide
  simp_arith [ae,ag,af,aL,e29,f3,f4]
  refine bY (n:=0) (by decide) (by decide) (by decide) λc c0 c1=>?_
  have f6:fit c=true:=qt (by omega) (by omega)
  have f7:fit (1 - 2 * c)=true:=qt (by omega) (by omega)
  have hw:w=6\/w=7:=by omega
  have hc:c=0\/c=1:=by omega
  have f8:fit (a * 1000000+b+100000000000000000000000000000 * (w - 6))=true:=pS (k:=98) (Zcn (b:=150000000000000000000000000000) (by omega) (by decide)) (by decide)
  simp_arith [ae,ag,af,aL,f5,f6,f7,f8]
  refine cX ⟨_,rfl,?_⟩
  rcases hc with rfl | rfl <;> omega
 ·simp_arith [decide_eq_false h5,ae,ag,af,aL]
  have hj:w.fmod 3=0\/w.fmod 3=1\/w.fmod 3=2:=by
   have:w.fmod 3=w % 3:=Int.fmod_eq_emod_of_nonneg _ (by decide)
   omega
  have e3:=uC (m:=w) (n:=3) (by decide)
  rcases hj with h | h | h <;> rw [h] at e3
  ·simp_arith [ae,ag,af,aL,e3]
   refine bY (n:=0) (by decide) (by decide) (by decide) λa a0 a1=>?_
   try simp_arith [ae,ag,af,aL,e3]
   exact cX ⟨_,rfl,by omega,by omega⟩
  ·simp_arith [ae,ag,af,aL,e3]
   refine bY (n:=0) (by decide) (by decide) (by decide) λa a0 a1=>?_
   try simp_arith [ae,ag,af,aL,e3]
   exact cX ⟨_,rfl,by omega,by omega⟩
  ·simp_arith [ae,ag,af,aL,e3]
   refine bY (n:=0) (by decide) (by decide) (by decide) λa a0 a1=>?_
   try simp_arith [ae,ag,af,aL,e3]
   exact cX ⟨_,rfl,by omega,by omega⟩
noncomputable def eu:List Int->Bool
 | [a,b]=>decide (1<=b) && decide (Nat.gcd a.natAbs b.natAbs=1)
 | _=>false
theorem sk {ns:List Int} (h:eu ns=true):∃ a b,ns=[a,b]/\1<=b/\Nat.gcd a.natAbs b.natAbs=1:=by
 unfold eu at h
 split at h
 ·rename_i a b
  rw [Bool.and_eq_true] at h
  exact ⟨a,b,rfl,of_decide_eq_true h.1,of_decide_eq_true h.2⟩
 ·cases h
theorem Zdq {ns:List Int} (hn:∀ n∈ns,nb 7000 n):jV [.d (tI ns)]=.ret (.d (.bool (eu ns))):=by
 by_cases h2:ns.length=2
 ·obtain ⟨a,b,rfl⟩:∃ a b,ns=[a,b]:=by
   match ns,h2 with
   | [a,b],_=>exact ⟨a,b,rfl⟩
  have h1:=ZnT (a:=a) (b:=b) (pR (hn b (by simp)) (by decide))
  unfold tI
  by_cases hb:b < 1
  ·have e:eu [a,b]=false:=by
    show (decide (1<=b) && _)=false
    rw [decide_eq_false (by omega)]; rfl
   rw [e]
   simp_arith [jV,ae,ag,af,fj,fy,Bool.not_true,qw,decide_eq_true hb]
  ·have e:eu [a,b]=decide (Nat.gcd a.natAbs b.natAbs=1):=by
    show (decide (1<=b) && _)=_
    rw [decide_eq_true (by omega),Bool.true_and]
   have e2:(((Nat.gcd a.natAbs b.natAbs:Nat):Int) == 1)=decide (Nat.gcd a.natAbs b.natAbs=1):=by
    by_cases hg:Nat.gcd a.natAbs b.natAbs=1
    ·rw [decide_eq_true hg,hg]; rfl
    ·rw [decide_eq_false hg]
     exact beq_eq_false_iff_ne.mpr (by omega)
   rw [e]
   simp_arith [jV,ae,ag,af,fj,fy,Bool.not_true,qw,decide_eq_false hb,h1,e2]
 ·have e:eu ns=false:=by
   unfold eu
   split
   ·exact absurd rfl h2
   ·rfl
  have e2:(((ns.map PyData.int).length:Int) == 2)=false:=beq_eq_false_iff_ne.mpr (by rw [List.length_map]; omega)
  rw [e]
  unfold tI
  simp_arith [jV,ae,ag,af,fj,e2,Bool.not_true,Bool.not_false]
noncomputable def ck (t:Str):Option (List Int):=(bb aS (Txt.split t ⟨#[47]⟩)).bind λns=>if eu ns=true then some ns else none
theorem oi {t:Str} {ns:List Int} (h:ck t=some ns):bb aS (Txt.split t ⟨#[47]⟩)=some ns/\eu ns=true:=by
 unfold ck at h
 obtain ⟨ms,h1,h2⟩:=Option.bind_eq_some_iff.mp h
 split at h2
 ·rename_i hc
  cases h2
  exact ⟨h1,hc⟩
 ·cases h2
theorem Za0 {t:Str} {ns:List Int} (h:ck t=some ns):Rp (tI ns) 1 (13 * (t.length+1)):=kT (λw a h=>pP h) (oi h).1
theorem ve {l:List Str} {ns:List Int} (h:bb aS l=some ns):∀ n∈ns,nb 7000 n:=by
 induction l generalizing ns with
 | nil=>cases (show some ([]:List Int)=some ns from h); intro n hn; cases hn
 | cons w l ih =>
  obtain ⟨a,as',h1,h2,rfl⟩:=gj.mp h
  intro n hn
  rcases List.mem_cons.mp hn with rfl | hn
  ·exact pR (Zcj h1) (by decide)
  ·exact ih h2 n hn
theorem Zfb {w:Str} (h:w.length<=500000):d9 (aj 0) o7 [.un] (.str w)=.ret ((aS w).map PyData.int):=by
 simp_arith [o7,ae,ag,af,nV h]
 unfold aS
 cases bZ w.cps.toList <;> rfl
theorem Zai {t:Str} (h:t.length<=500000):fv [.d (.str t)]=.ret ((ck t).map λns=>.d (tI ns)):=by
 have hs:small ((Txt.split t ⟨#[47]⟩).map PyData.str).length=true:=bS (by rw [List.length_map]; have:=cj 47 t; omega)
 have e:=jP (f:=aS) (g:=PyData.int) (h:=d9 (aj 0) o7 [.un]) (l:=Txt.split t ⟨#[47]⟩) λx hx=>Zfb (by have:=cw hx; omega)
 unfold ck
 cases ha:bb aS (Txt.split t ⟨#[47]⟩) with
 | none =>
  rw [ha] at e
  simp_arith [fv,fU,ae,ag,af,iK,fM,if_true,Option.map_some,cr h,hs,e,Option.map_none]
  rfl
 | some ns =>
  rw [ha] at e
  have es:=Zdq (ve ha)
  unfold tI at es
  show _=Tr.ret (Option.map _ (if eu ns=true then some ns else none))
  cases hb:eu ns with
  | false =>
   rw [hb] at es
   simp_arith [fv,fU,ae,ag,af,iK,fM,if_true,Option.map_some,cr h,hs,e,es,Bool.not_false]
   rfl
  | true =>
   rw [hb] at es
   simp_arith [fv,fU,ae,ag,af,iK,fM,if_true,Option.map_some,cr h,hs,e,es,Bool.not_true]
   rfl
theorem Zht {w:Str} {i:Int} (h:w.length<=500000) (hn:aS w=some i):bh (aj 0) pw [.un] (.str w)=.ret (.int i):=by
 obtain ⟨h1,rfl⟩:=k8 hn
 simp_arith [pw,ae,ag,af,qz h h1]
theorem Zdn {t:Str} {ns:List Int} (h:t.length<=500000) (hn:ck t=some ns):le [.d (.str t)]=.ret (.d (tI ns)):=by
 obtain ⟨h1,h2⟩:=oi hn
 have hs:small ((Txt.split t ⟨#[47]⟩).map PyData.str).length=true:=bS (by rw [List.length_map]; have:=cj 47 t; omega)
 have e:=jQ (f:=aS) (g:=PyData.int) (h:=bh (aj 0) pw [.un]) (l:=Txt.split t ⟨#[47]⟩) (λx hx a ha=>Zht (by have:=cw hx; omega) ha) h1
 have es:=Zdq (ve h1)
 rw [h2] at es
 unfold tI at es
 simp_arith [le,fU,ae,ag,af,qA,cr h,hs,e,es,Bool.not_true]
 rfl
theorem nE {i:Int} (h:i.natAbs < 10 ^ 448):(aX i).length<=500:=by
 rw [qE]
 unfold eV
 have:=lE 447 _ h
 split
 ·rw [List.length_cons]; omega
 ·omega
theorem Zdk {a b:Int} (ha:a.natAbs < 10 ^ 448) (hb:b.natAbs < 10 ^ 448):jR [.d (.tuple [.int a,.int b])]=.ret (.d (.str (aX a++⟨#[47]⟩++aX b))):=by
 have h1:=nE ha
 have h2:=nE hb
 simp_arith [jR,fU,ae,ag,af,nz ha,nz hb,ag (a:=⟨#[47]⟩) (b:=aX a) (by omega),af (a:=⟨#[47]⟩) (b:=aX a) (c:=aX b) (by omega)]
theorem Za1 {t:Str} {ns:List Int} (hn:ck t=some ns):∃ a b,ns=[a,b]/\a.natAbs < 10 ^ 448/\b.natAbs < 10 ^ 448/\aX a++⟨#[47]⟩++aX b=t:=by
 obtain ⟨h1,h2⟩:=oi hn
 obtain ⟨a,b,rfl,h3,h4⟩:=sk h2
 have hl:=dX h1
 have hj:=StrLaws.join_split t ⟨#[47]⟩
 cases hs:Txt.split t ⟨#[47]⟩ with
 | nil=>rw [hs] at hl; cases hl
 | cons w0 r =>
  cases r with
  | nil=>rw [hs] at hl; cases hl
  | cons w1 r =>
   cases r with
   | cons w2 r=>rw [hs] at hl; simp at hl
   | nil =>
    rw [hs] at h1 hj
    obtain ⟨x,xs,k1,k2,k3⟩:=gj.mp h1
    obtain ⟨y,ys,k4,k5,k6⟩:=gj.mp k2
    cases (show some ([]:List Int)=some ys from k5)
    subst k6
    cases k3
    refine ⟨a,b,rfl,kY (jN k1),kY (jN k4),?_⟩
    rw [iW k1,iW k4]
    exact hj
theorem tq {P:PyData->Prop} {xs:List PyData} (h:∀ x∈xs,P x) {w:Int} (h0:0<=w) (h1:w < xs.length):∃ x,bx xs w=some x/\P x:=by
 have hl:w.toNat < xs.length:=by omega
 have e:xs[w.toNat]?=some xs[w.toNat]:=by simp [hl]
 exact ⟨_,u6 h0 e,h _ (List.getElem_mem hl)⟩
theorem qd {a:Str} {w:Int} (h0:0<=w) (h1:w < a.length) (hl:a.length<=1048576):∃ c,aJ bQ (.str a) (.int w)=.ret (.str ⟨#[c]⟩):=by
 have hw:w.toNat < a.cps.toList.length:=by rw [Array.length_toList]; show _ < a.length; omega
 have e:a.cps.toList[w.toNat]?=some a.cps.toList[w.toNat]:=by simp [hw]
 refine ⟨a.cps.toList[w.toNat],?_⟩
 rw [uB hl,u6 h0 e]
 rfl
noncomputable def gY (n:Nat) (d:PyData):Prop:=∃ u:Str,d=.str u/\u.length<=n
theorem qH (l:List Str) (lo hi:Option Int):∃ l':List Str,L2.gQ (l.map PyData.str) lo hi=l'.map PyData.str/\(l'.map λw=>w.length+1).sum<=(l.map λw=>w.length+1).sum:=by
 have tk:∀ (l:List Str) (n:Nat),((l.take n).map λw=>w.length+1).sum<=(l.map λw=>w.length+1).sum:=by
  intro l
  induction l with
  | nil=>intro n; simp
  | cons w l ih =>
   intro n
   cases n with
   | zero=>simp
   | succ n=>rw [List.take_succ_cons,List.map_cons,List.sum_cons,List.map_cons,List.sum_cons]; have:=ih n; omega
 have dp:∀ (l:List Str) (n:Nat),((l.drop n).map λw=>w.length+1).sum<=(l.map λw=>w.length+1).sum:=by
  intro l
  induction l with
  | nil=>intro n; simp
  | cons w l ih =>
   intro n
   cases n with
   | zero=>simp
   | succ n=>rw [List.drop_succ_cons,List.map_cons,List.sum_cons]; have:=ih n; omega
 unfold L2.gQ
 refine ⟨_,by rw [<- List.map_drop,<- List.map_take],Nat.le_trans (tk _ _) (dp _ _)⟩
theorem Zjs {sep:Str} (hs:sep.length=1) (l:List Str):(Txt.join sep l).length<=(l.map λw=>w.length+1).sum:=by
 have h2:=size_glued sep l
 rw [hs,Nat.mul_one] at h2
 have e:Txt.join sep l=PySem.Builtin.Str.glued sep l:=rfl
 rw [e,h2,lr]
 omega
theorem gL {sep:Str} (hs:sep.length=1) {l:List Str} (h:(l.map λw=>w.length+1).sum<=1048576):∃ u:Str,aJ bW (.str sep) (.list (l.map PyData.str))=.ret (.str u)/\u.length<=(l.map λw=>w.length+1).sum:=by
 refine ⟨Txt.join sep l,ae ⟨by omega,?_⟩,Zjs hs l⟩
 rw [<- lr]
 exact h
theorem qI (l:List Str):l.length<=(l.map λw=>w.length+1).sum:=by
 rw [lr]; omega
noncomputable def rb:Str:=" !\"#$&'()*+,-./0123456789:;<=>?@ABCDEFGHIJKLMNOPQRSTUVWXYZ[\\]^_`"++"abcdefghijklmnopqrstuvwxyz{|}~\n"
theorem sm:rb.length=95:=by decide +kernel
theorem tz:(" ,-/@0123456789\n":Str).length=16:=by decide +kernel
theorem ZnN:aJ aY (.str " !\"#$&'()*+,-./0123456789:;<=>?@ABCDEFGHIJKLMNOPQRSTUVWXYZ[\\]^_`") (.str "abcdefghijklmnopqrstuvwxyz{|}~\n")=.ret (.str rb):=jd (by decide +kernel)
theorem Zhg:aJ ie (.str "7") (.int 4400)=.ret (.str (fE "7" 4400)):=uA (by decide +kernel)
theorem Zhf:(fE "7" 4400).length=4400:=by
 unfold fE
 rw [if_neg (by decide +kernel)]
 show Array.size _=_
 rw [qr]
 have e:(List.replicate (4400:Int).toNat ("7":Str).cps).map (·.size)=List.replicate 4400 1:=by
  rw [List.map_replicate]
  congr 1
 rw [e]
 simp
theorem Ziu:∀ x∈[PyData.str "",.str "00",.str "01",.str "-0",.str "--1",.str "+1",.str "1_0",.str "x",.str "0x1",.str "1.0",.str "1e3",.str "1/2",.str "1@2",.str "-",.str "1,",.str (fE "7" 4400)],gY 4400 x:=by
 intro x hx
 simp only [List.mem_cons,List.not_mem_nil,or_false] at hx
 rcases hx with rfl | rfl | rfl | rfl | rfl | rfl | rfl | rfl | rfl | rfl | rfl | rfl | rfl | rfl | rfl | rfl
 all_goals first
  | exact ⟨_,rfl,by decide +kernel⟩
  | exact ⟨_,rfl,by rw [Zhf]; exact Nat.le_refl _⟩
theorem ZgT {t:Str} (h:t.length<=100000):Al (p6 [.pen,.d (.str t)]) 8 λr=>∃ u,r=.d (.str u)/\u.length<=2 * t.length+5000:=by
 have ht:t.length<=1048576:=by omega
 have h95:rb.length<=1048576:=by rw [sm]; decide
 have h16:(" ,-/@0123456789\n":Str).length<=1048576:=by rw [tz]; decide
 simp_arith [p6,ae,ag,af,aL]
 refine bY (n:=7) (by decide) (by decide) (by decide) λw w0 w1=>?_
 simp_arith [ae,ag,af,aL,dc ht]
 refine bY (n:=6) (by omega) (by omega) (by decide) λp p0 p1=>?_
 simp_arith [ae,ag,af,aL,ZnN,dc h95,sm]
 refine bY (n:=5) (by decide) (by decide) (by decide) λq q0 q1=>?_
 obtain ⟨c1,e1⟩:=qd (a:=rb) q0 (by rw [sm]; exact q1) h95
 simp_arith [ae,ag,af,aL,e1,dc h16,tz]
 refine bY (n:=4) (by decide) (by decide) (by decide) λr r0 r1=>?_
 obtain ⟨c2,e2⟩:=qd (a:=" ,-/@0123456789\n") r0 (by rw [tz]; exact r1) h16
 simp_arith [ae,ag,af,aL,e2]
 refine bY (n:=3) (by decide) (by decide) (by decide) λk k0 k1=>?_
 obtain ⟨_,e3,sg,rfl,hsg⟩:=tq (P:=gY 1) (xs:=[PyData.str ⟨#[c1]⟩,.str ⟨#[c2]⟩]) (λx hx=>by
  simp only [List.mem_cons,List.not_mem_nil,or_false] at hx
  rcases hx with rfl | rfl
  ·exact ⟨_,rfl,Nat.le_refl _⟩
  ·exact ⟨_,rfl,Nat.le_refl _⟩) k0 k1
 have a1:∀ lo hi,(Txt.slice t lo hi).length<=t.length:=λlo hi=>Txt.slice_le t lo hi
 have cat3:∀ lo hi lo' hi',∃ u,aJ aY (.str (Txt.slice t lo hi++sg)) (.str (Txt.slice t lo' hi'))=.ret (.str u)/\u.length<=2 * t.length+5000:=λlo hi lo' hi'=>by
  refine ⟨_,jd ?_,?_⟩ <;> (simp only [strLen_append]; have:=a1 lo hi; have:=a1 lo' hi'; omega)
 have cat2:∀ lo hi lo' hi',∃ u,aJ aY (.str (Txt.slice t lo hi)) (.str (Txt.slice t lo' hi'))=.ret (.str u)/\u.length<=2 * t.length+5000:=λlo hi lo' hi'=>by
  refine ⟨_,jd ?_,?_⟩ <;> (try simp only [strLen_append]) <;> (have:=a1 lo hi; have:=a1 lo' hi'; omega)
 have cat1:∀ lo hi,aJ aY (.str (Txt.slice t lo hi)) (.str sg)=.ret (.str (Txt.slice t lo hi++sg)):=λlo hi=>jd (by have:=a1 lo hi; omega)
 by_cases w2:w < 2
 ·obtain ⟨u,hu,hul⟩:=cat3 none (some p) (some p) none
  simp_arith [ae,ag,af,aL,e3,decide_eq_true w2,dk ht,cat1,hu]
  exact cX ⟨u,rfl,hul⟩
 by_cases w3:w=2
 ·have w3':(w == 2)=true:=beq_iff_eq.mpr w3
  obtain ⟨u,hu,hul⟩:=cat2 none (some p) (some (p+1)) none
  simp_arith [ae,ag,af,aL,e3,decide_eq_false w2,w3',dk ht,hu]
  exact cX ⟨u,rfl,hul⟩
 have w3':(w == 2)=false:=beq_eq_false_iff_ne.mpr w3
 by_cases w5:w < 5
 ·obtain ⟨u,hu,hul⟩:=cat3 none (some p) (some (p+1)) none
  simp_arith [ae,ag,af,aL,e3,decide_eq_false w2,w3',decide_eq_true w5,dk ht,cat1,hu]
  exact cX ⟨u,rfl,hul⟩
 simp_arith [ae,ag,af,aL,e3,decide_eq_false w2,w3',decide_eq_false w5]
 refine bY (n:=2) (by decide) (by decide) (by decide) λb b0 b1=>?_
 obtain ⟨_,e4,sep,⟨rfl,cc,hsep⟩⟩:=tq (P:=λd=>∃ u:Str,d=.str u/\∃ c,u=⟨#[c]⟩) (xs:=[PyData.str " ",.str ",",.str "\n", .str "/"]) (λx hx=>by
  simp only [List.mem_cons,List.not_mem_nil,or_false] at hx
  rcases hx with rfl | rfl | rfl | rfl
  ·exact ⟨_,rfl,_,dr⟩
  ·exact ⟨_,rfl,_,jf⟩
  ·exact ⟨_,rfl,_,jO⟩
  ·exact ⟨_,rfl,_,fU⟩) b0 b1
 subst hsep
 have hsum:=ml cc t
 have hpos:=split_pos t ⟨#[cc]⟩
 have hcnt:=cj cc t
 simp_arith [ae,ag,af,aL,e4,cr (a:=t) (c:=cc) (by omega),List.length_map]
 generalize Txt.split t ⟨#[cc]⟩=ws at *
 refine bY (n:=1) (by omega) (by omega) (by decide) λo o0 o1=>?_
 obtain ⟨l1,g1,n1⟩:=qH ws none (some o)
 obtain ⟨l2,g2,n2⟩:=qH ws (some (o+1)) none
 obtain ⟨l3,g3,n3⟩:=qH ws none (some (o+1))
 obtain ⟨l4,g4,n4⟩:=qH ws (some o) none
 have m1:=qI l1
 have m2:=qI l2
 have m3:=qI l3
 have m4:=qI l4
 by_cases w55:w=5
 ·have w5':(w == 5)=true:=beq_iff_eq.mpr w55
  simp_arith [ae,ag,af,aL,w5',g1,Zhg]
  refine bY (n:=0) (by decide) (by decide) (by decide) λz z0 z1=>?_
  obtain ⟨_,e5,od,rfl,hod⟩:=tq Ziu z0 z1
  have s1:small ((l1.map PyData.str).length+[PyData.str od].length)=true:=bS (by rw [List.length_map]; show _+1<=_; omega)
  have s2:small ((l1.map PyData.str++[PyData.str od]).length+(l2.map PyData.str).length)=true:=bS (by rw [List.length_append,List.length_map,List.length_map]; show _+1+_<=_; omega)
  have em:l1.map PyData.str++[PyData.str od]++l2.map PyData.str=(l1++[od]++l2).map PyData.str:=by simp
  have es:((l1++[od]++l2).map λw=>w.length+1).sum<=2 * (t.length+1)+4401:=by
   rw [List.map_append,List.map_append,List.sum_append,List.sum_append]
   show _+(od.length+1+0)+_<=_
   omega
  obtain ⟨u,hu,hul⟩:=gL (sep:=⟨#[cc]⟩) rfl (l:=l1++[od]++l2) (by omega)
  rw [<- em] at hu
  simp_arith [ae,ag,af,aL,e5,kb s1,kb s2,g1,g2,hu]
  exact cX ⟨u,rfl,by omega⟩
 have w5':(w == 5)=false:=beq_eq_false_iff_ne.mpr w55
 by_cases w66:w=6
 ·have w6':(w == 6)=true:=beq_iff_eq.mpr w66
  have s1:small ((l1.map PyData.str).length+(l2.map PyData.str).length)=true:=bS (by rw [List.length_map,List.length_map]; omega)
  have em:l1.map PyData.str++l2.map PyData.str=(l1++l2).map PyData.str:=by simp
  have es:((l1++l2).map λw=>w.length+1).sum<=2 * (t.length+1):=by
   rw [List.map_append,List.sum_append]
   omega
  obtain ⟨u,hu,hul⟩:=gL (sep:=⟨#[cc]⟩) rfl (l:=l1++l2) (by omega)
  rw [<- em] at hu
  simp_arith [ae,ag,af,aL,w5',w6',g1,g2,kb s1,hu]
  exact cX ⟨u,rfl,by omega⟩
 ·have w6':(w == 6)=false:=beq_eq_false_iff_ne.mpr w66
  have s1:small ((l3.map PyData.str).length+(l4.map PyData.str).length)=true:=bS (by rw [List.length_map,List.length_map]; omega)
  have em:l3.map PyData.str++l4.map PyData.str=(l3++l4).map PyData.str:=by simp
  have es:((l3++l4).map λw=>w.length+1).sum<=2 * (t.length+1):=by
   rw [List.map_append,List.sum_append]
   omega
  obtain ⟨u,hu,hul⟩:=gL (sep:=⟨#[cc]⟩) rfl (l:=l3++l4) (by omega)
  rw [<- em] at hu
  simp_arith [ae,ag,af,aL,w5',w6',g3,g4,kb s1,hu]
  exact cX ⟨u,rfl,by omega⟩
theorem Zn8 {k:Nat} {i:Int} (h:i.natAbs < 10 ^ (k+1)):(aX i).length<=k+2:=by
 rw [qE]
 unfold eV
 have:=lE k _ h
 split
 ·rw [List.length_cons]; omega
 ·omega
theorem g8 {k:Nat} {i:Int} (h:i.natAbs < 10 ^ (k+1)) (hk:k<=500):bw et [.int i]=.ret (.str (aX i))/\(aX i).length<=k+2:=by
 refine ⟨qu (tW (Nat.lt_of_lt_of_le h (Nat.le_trans (Nat.pow_le_pow_right (by decide) (show k+1<=501 by omega)) ?_)) (by decide)),Zn8 h⟩
 decide +kernel
theorem cat {a b:Str} (ha:a.length<=400000) (hb:b.length<=400000):aJ aY (.str a) (.str b)=.ret (.str (a++b)):=jd (by omega)
theorem ZaH {n:Nat} {ys:List PyData} (h:∀ y∈ys,gY n y):∃ us:List Str,ys=us.map PyData.str/\∀ u∈us,u.length<=n:=by
 induction ys with
 | nil=>exact ⟨[],rfl,λu hu=>by cases hu⟩
 | cons y ys ih =>
  obtain ⟨us,rfl,hus⟩:=ih λz hz=>h z (List.mem_cons_of_mem _ hz)
  obtain ⟨u,rfl,hu⟩:=h y (by simp)
  refine ⟨u::us,rfl,λv hv=>?_⟩
  rcases List.mem_cons.mp hv with rfl | hv
  ·exact hu
  ·exact hus v hv
theorem jA {n:Nat} {us:List Str} (h:∀ u∈us,u.length<=n):(us.map λw=>w.length+1).sum<=us.length * (n+1):=by
 induction us with
 | nil=>simp
 | cons u us ih =>
  rw [List.map_cons,List.sum_cons,List.length_cons,Nat.succ_mul]
  have:=ih λv hv=>h v (List.mem_cons_of_mem _ hv)
  have:=h u (by simp)
  omega
theorem Zhe {c:Str} {n:Int} (hc:c.length=1) (h0:0 < n) (h1:n<=100000):aJ ie (.str c) (.int n)=.ret (.str (fE c n))/\(fE c n).length<=n.toNat:=by
 refine ⟨uA ⟨h0,by omega,by rw [hc]; omega⟩,?_⟩
 unfold fE
 split
 ·rw [hc]; omega
 ·show Array.size _<=_
  rw [qr]
  simp only [List.map_replicate,List.sum_replicate_nat]
  have:c.cps.size=1:=hc
  rw [this]
  simp
theorem ZpH (n:Int):jl n=(n.natAbs:Int):=by unfold jl; split <;> omega
noncomputable abbrev cF:=Int×Int×Int
noncomputable def eD (e:cF):PyData:=.tuple [.tuple [.int e.1,.int e.2.1],.int e.2.2]
noncomputable def lD (es:List cF):PyData:=.tuple (es.map eD)
noncomputable def tD (ls:List (List cF)):PyData:=.tuple (ls.map lD)
noncomputable def b5 (w:Str):Option cF:=match Txt.split w ⟨#[64]⟩ with
 | [p,q]=>(ck p).bind λns=>match ns with
  | [a,b]=>(aS q).bind λl=>some (a,b,l)
  | _=>none
 | _=>none
noncomputable def eR (w:Str):Option (List cF):=bb b5 (Txt.split w ⟨#[32]⟩)
noncomputable def fe (t:Str):Option (List (List cF)):=bb eR (Txt.split t ⟨#[10]⟩)
theorem qv {w:Str} {e:cF} (h:b5 w=some e):∃ p q,Txt.split w ⟨#[64]⟩=[p,q]/\ck p=some [e.1,e.2.1]/\aS q=some e.2.2:=by
 unfold b5 at h
 split at h
 ·rename_i p q hs
  obtain ⟨ns,h1,h2⟩:=Option.bind_eq_some_iff.mp h
  split at h2
  ·rename_i a b
   obtain ⟨l,h3,h4⟩:=Option.bind_eq_some_iff.mp h2
   cases h4
   exact ⟨p,q,hs,h1,h3⟩
  ·cases h2
 ·cases h
theorem Zdh {w p q:Str} {a b l:Int} (hs:Txt.split w ⟨#[64]⟩=[p,q]) (h1:ck p=some [a,b]) (h2:aS q=some l):b5 w=some (a,b,l):=by
 unfold b5
 rw [hs]
 show (ck p).bind _=_
 rw [h1]
 show (aS q).bind _=_
 rw [h2]
 rfl
theorem ZnH {w:Str} {e:cF} (h:b5 w=some e):Rp (eD e) 2 (40 * (w.length+1)):=by
 obtain ⟨p,q,hs,h1,h2⟩:=qv h
 have hp:p.length<=w.length:=cw (c:=64) (by rw [hs]; simp)
 have hq:q.length<=w.length:=cw (c:=64) (by rw [hs]; simp)
 have r1:Rp (.tuple [.int e.1,.int e.2.1]) 1 (13 * (p.length+1)):=Za0 h1
 have r2:=pP h2
 refine oW (Zg2 (k:=1) (n:=13 * (w.length+1)) (xs:=[.tuple [.int e.1,.int e.2.1],.int e.2.2]) λx hx=>?_) (Nat.le_refl _) ?_
 ·simp only [List.mem_cons,List.not_mem_nil,or_false] at hx
  rcases hx with rfl | rfl
  ·exact oW r1 (Nat.le_refl _) (by omega)
  ·exact oW r2 (by omega) (by omega)
 ·show 2 * _+2 * 2+10<=_
  omega
theorem Zi0 {w:Str} {es:List cF} (h:eR w=some es):Rp (lD es) 3 (52 * (w.length+1)):=kT (λw a h=>ZnH h) h
theorem ZfN {t:Str} {ls:List (List cF)} (h:fe t=some ls):Rp (tD ls) 4 (64 * (t.length+1)):=kT (λw a h=>Zi0 h) h
theorem mU {n:Nat} (h:n≠2):((n:Int) == 2)=false:=beq_eq_false_iff_ne.mpr (by omega)
theorem Zfx {ws:List Str} (h:ws.length=2):∃ p q,ws=[p,q]:=by
 match ws,h with
 | [a,b],_=>exact ⟨a,b,rfl⟩
theorem Zdi {w:Str} (h:(Txt.split w ⟨#[64]⟩).length≠2):b5 w=none:=by
 cases he:b5 w with
 | none=>rfl
 | some e =>
  obtain ⟨p,q,hs,_⟩:=qv he
  rw [hs] at h
  exact absurd rfl h
theorem ZaZ {p:Str} {ns:List Int} (h:ck p=some ns):∃ a b,ns=[a,b]:=by
 obtain ⟨_,h2⟩:=oi h
 obtain ⟨a,b,rfl,_⟩:=sk h2
 exact ⟨a,b,rfl⟩
theorem Zfg {w:Str} (h:w.length<=500000):ju [.d (.str w)]=.ret ((b5 w).map λe=>.d (eD e)):=by
 have hsp:=cr (a:=w) (c:=64) h
 by_cases h2:(Txt.split w ⟨#[64]⟩).length=2
 ·have hl:∀ v∈Txt.split w ⟨#[64]⟩,v.length<=500000:=λv hv=>by have:=cw hv; omega
  obtain ⟨p,q,hs⟩:=Zfx h2
  rw [hs] at hsp hl
  have e1:=Zai (hl p (by simp))
  have e2:=nV (hl q (by simp))
  have eq:(if bZ q.cps.toList=true then some (Re.d (.int (eP q.cps.toList))) else none)=(aS q).map λi=>Re.d (.int i):=by
   unfold aS; cases bZ q.cps.toList <;> rfl
  rw [eq] at e2
  cases hp:ck p with
  | none =>
   have he:b5 w=none:=by unfold b5; rw [hs]; show (ck p).bind _=_; rw [hp]; rfl
   rw [hp] at e1
   rw [he]
   simp_arith [ju,gS,ae,ag,af,hsp,fy,Bool.not_true,e1,Option.map_none]
  | some ns =>
   obtain ⟨a,b,rfl⟩:=ZaZ hp
   rw [hp] at e1
   cases hq:aS q with
   | none =>
    have he:b5 w=none:=by unfold b5; rw [hs]; show (ck p).bind _=_; rw [hp]; show (aS q).bind _=_; rw [hq]; rfl
    rw [hq] at e2
    rw [he]
    simp_arith [ju,gS,ae,ag,af,hsp,fy,Bool.not_true,e1,e2,Option.map_none,Option.map_some]
   | some l =>
    rw [hq] at e2
    rw [Zdh hs hp hq]
    simp_arith [ju,gS,ae,ag,af,hsp,fy,Bool.not_true,e1,e2,Option.map_some]
    rfl
 ·have e2:=mU (n:=((Txt.split w ⟨#[64]⟩).map PyData.str).length) (by rw [List.length_map]; exact h2)
  rw [Zdi h2]
  simp_arith [ju,gS,ae,ag,af,hsp,e2,Bool.not_false,Option.map_none]
theorem Ze8 {w:Str} (h:w.length<=500000):d9 (aj 0) o5 [.un] (.str w)=.ret ((b5 w).map eD):=by
 simp_arith [o5,ae,ag,af,Zfg h,Option.map_map]
 rfl
theorem Ze7 {w:Str} (h:w.length<=500000):d9 (aj 0) o4 [.un] (.str w)=.ret ((eR w).map lD):=by
 have hs:small ((Txt.split w ⟨#[32]⟩).map PyData.str).length=true:=bS (by rw [List.length_map]; have:=cj 32 w; omega)
 have e:=jP (f:=b5) (g:=eD) (h:=d9 (aj 0) o5 [.un]) (l:=Txt.split w ⟨#[32]⟩) λx hx=>Ze8 (by have:=cw hx; omega)
 simp_arith [o4,dr,ae,ag,af,cr h,hs,e]
 unfold eR
 cases bb b5 (Txt.split w ⟨#[32]⟩) <;> rfl
theorem Ze6 {t:Str} (h:t.length<=500000):g5 [.d (.str t)]=.ret ((fe t).map λds=>.d (tD ds)):=by
 have hs:small ((Txt.split t ⟨#[10]⟩).map PyData.str).length=true:=bS (by rw [List.length_map]; have:=cj 10 t; omega)
 have e:=jP (f:=eR) (g:=lD) (h:=d9 (aj 0) o4 [.un]) (l:=Txt.split t ⟨#[10]⟩) λx hx=>Ze7 (by have:=cw hx; omega)
 simp_arith [g5,jO,ae,ag,af,iK,fM,if_true,Option.map_some,cr h,hs,e]
 unfold fe
 cases bb eR (Txt.split t ⟨#[10]⟩) <;> rfl
theorem Zhw {w:Str} {e:cF} (h:w.length<=500000) (hn:b5 w=some e):p4 [.d (.str w)]=.ret (.d (eD e)):=by
 obtain ⟨p,q,hs,h1,h2⟩:=qv hn
 have hp:p.length<=w.length:=cw (c:=64) (by rw [hs]; simp)
 have hq:q.length<=w.length:=cw (c:=64) (by rw [hs]; simp)
 have hsp:=cr (a:=w) (c:=64) h
 rw [hs] at hsp
 have e1:=Zdn (by omega) h1
 obtain ⟨h3,h4⟩:=k8 h2
 have e2:=qz (by omega) h3
 rw [<- h4] at e2
 simp_arith [p4,gS,ae,ag,af,hsp,fy,Bool.not_true,e1,e2]
 rfl
theorem Zhr {w:Str} {e:cF} (h:w.length<=500000) (hn:b5 w=some e):bh (aj 0) pj [.un] (.str w)=.ret (eD e):=by
 simp_arith [pj,ae,ag,af,Zhw h hn]
theorem Zhq {w:Str} {es:List cF} (h:w.length<=500000) (hn:eR w=some es):bh (aj 0) ph [.un] (.str w)=.ret (lD es):=by
 have hs:small ((Txt.split w ⟨#[32]⟩).map PyData.str).length=true:=bS (by rw [List.length_map]; have:=cj 32 w; omega)
 have e:=jQ (f:=b5) (g:=eD) (h:=bh (aj 0) pj [.un]) (l:=Txt.split w ⟨#[32]⟩) (λx hx a ha=>Zhr (by have:=cw hx; omega) ha) hn
 simp_arith [ph,dr,ae,ag,af,cr h,hs,e]
 rfl
theorem ZnO {t:Str} {ls:List (List cF)} (h:t.length<=500000) (hn:fe t=some ls):m8 [.d (.str t)]=.ret (.d (tD ls)):=by
 have hs:small ((Txt.split t ⟨#[10]⟩).map PyData.str).length=true:=bS (by rw [List.length_map]; have:=cj 10 t; omega)
 have e:=jQ (f:=eR) (g:=lD) (h:=bh (aj 0) ph [.un]) (l:=Txt.split t ⟨#[10]⟩) (λx hx a ha=>Zhq (by have:=cw hx; omega) ha) hn
 simp_arith [m8,jO,ae,ag,af,qA,cr h,hs,e]
 rfl
theorem ZgS {w:Str} {e:cF} (hn:b5 w=some e):pZ [.d (eD e)]=.ret (.d (.str w)):=by
 obtain ⟨p,q,hs,h1,h2⟩:=qv hn
 obtain ⟨a,b,k1,ha,hb,eb⟩:=Za1 h1
 obtain ⟨x,y,z⟩:=e
 cases k1
 have e1:=Zdk ha hb
 rw [eb] at e1
 have e2:=nz (kY (jN h2))
 rw [iW h2] at e2
 have hj:=StrLaws.join_split w ⟨#[64]⟩
 rw [hs] at hj
 have hj':p++⟨#[64]⟩++q=w:=hj
 have lp:p.length<=262144:=by
  rw [<- eb,strLen_append,strLen_append]
  have:=nE ha
  have:=nE hb
  show _+1+_<=_
  omega
 have lq:q.length<=262144:=by
  rw [<- iW h2]
  have:=nE (kY (jN h2))
  omega
 unfold eD
 simp_arith [pZ,gS,ae,ag,af,e1,e2,ag (a:=⟨#[64]⟩) lp,af (a:=⟨#[64]⟩) (b:=p) lq,hj']
theorem ZgO {w:Str} {e:cF} (hn:b5 w=some e):bh (aj 0) pc [.un] (eD e)=.ret (.str w):=by
 simp_arith [pc,ae,ag,af,ZgS hn]
theorem ZgN {w:Str} {es:List cF} (h:w.length<=500000) (hn:eR w=some es):bh (aj 0) pb [.un] (lD es)=.ret (.str w):=by
 have hl:=dX hn
 have hs:small (es.map eD).length=true:=bS (by rw [List.length_map,hl]; have:=cj 32 w; omega)
 have e:=lb (f:=b5) (g:=eD) (h:=bh (aj 0) pc [.un]) (l:=Txt.split w ⟨#[32]⟩) (λx hx a ha=>ZgO ha) hn
 have ej:aJ bW (.str ⟨#[32]⟩) (.list ((Txt.split w ⟨#[32]⟩).map PyData.str))=.ret (.str w):=by
  rw [ae (mn h),tjoin,StrLaws.join_split]
 unfold lD
 simp_arith [pb,dr,ae,ag,af,hs,e,ej]
theorem ZnJ {t:Str} {ls:List (List cF)} (h:t.length<=500000) (hn:fe t=some ls):mY [.d (tD ls)]=.ret (.d (.str t)):=by
 have hl:=dX hn
 have hs:small (ls.map lD).length=true:=bS (by rw [List.length_map,hl]; have:=cj 10 t; omega)
 have e:=lb (f:=eR) (g:=lD) (h:=bh (aj 0) pb [.un]) (l:=Txt.split t ⟨#[10]⟩) (λx hx a ha=>ZgN (by have:=cw hx; omega) ha) hn
 have ej:aJ bW (.str ⟨#[10]⟩) (.list ((Txt.split t ⟨#[10]⟩).map PyData.str))=.ret (.str t):=by
  rw [ae (mn h),tjoin,StrLaws.join_split]
 unfold tD
 simp_arith [mY,jO,ae,ag,af,hs,e,ej]
noncomputable def wI (a b n:Int):Bool:=decide (a<=n) && decide (n<=b)
theorem Zdj (n a b:Int):lj [.d (.int n),.d (.int a),.d (.int b)]=.ret (.d (.bool (wI a b n))):=by
 unfold wI
 by_cases h:a<=n
 ·simp_arith [lj,ae,ag,af,qw,decide_eq_true h,Bool.true_and]
 ·simp_arith [lj,ae,ag,af,qw,decide_eq_false h,Bool.false_and]
theorem mX {h:PyData->Tr PyData} {α:Type} {g:α->PyData} {f:α->Bool}:∀ {xs:List α},(∀ x∈xs,h (g x)=.ret (.bool (f x)))->ce h (xs.map g)=.ret ((xs.map f).map PyData.bool)
 | [],_=>rfl
 | x::xs,hx=>by
  rw [List.map_cons,ce,hx x (by simp),Tr.ret_bind,mX λy hy=>hx y (List.mem_cons_of_mem _ hy)]
  rfl
theorem vd {α:Type} {f:α->Bool} (l:List α):(l.map f).all id=l.all f:=by simp [List.all_map]
theorem Zpw {α:Type} {f:α->Bool} (l:List α):(l.map f).any id=l.any f:=by simp [List.any_map]
noncomputable def dQ (ns:List Int):Bool:=decide (ns.length=9) && ns.all (wI 0 1000000) && decide (ns.getD 0 0+ns.getD 1 0<=39)
theorem Zdp {ns:List Int} (hl:ns.length<=1000000):jU [.d (tI ns)]=.ret (.d (.bool (dQ ns))):=by
 have em:=mX (h:=bh (aj 0) sS [.un]) (g:=PyData.int) (f:=wI 0 1000000) (xs:=ns) λn _=>by
  simp_arith [sS,ae,ag,af,Zdj]
 have ea:=ny (ns.map (wI 0 1000000))
 rw [vd] at ea
 have hs:small (ns.map PyData.int).length=true:=bS (by rw [List.length_map]; omega)
 unfold tI
 by_cases h9:ns.length=9
 ·have e9:(((ns.map PyData.int).length:Int) == 9)=true:=by rw [List.length_map,h9]; rfl
  cases ha:ns.all (wI 0 1000000) with
  | false =>
   rw [ha] at ea
   have e:dQ ns=false:=by unfold dQ; rw [ha]; simp
   rw [e]
   simp_arith [jU,ae,ag,af,fj,e9,Bool.not_true,hs,em,ea,Bool.not_false]
  | true =>
   rw [ha] at ea
   have e:dQ ns=decide (ns.getD 0 0+ns.getD 1 0<=39):=by unfold dQ; rw [ha,decide_eq_true h9]; simp
   rw [e]
   have x0:bx (ns.map PyData.int) 0=some (.int (ns.getD 0 0)):=by
    match ns,h9 with
    | a::b::r,_=>exact lK
   have x1:bx (ns.map PyData.int) 1=some (.int (ns.getD 1 0)):=by
    match ns,h9 with
    | a::b::r,_=>exact u4
   simp_arith [jU,ae,ag,af,fj,e9,Bool.not_true,hs,em,ea,x0,x1]
 ·have e9:(((ns.map PyData.int).length:Int) == 9)=false:=beq_eq_false_iff_ne.mpr (by rw [List.length_map]; omega)
  have e:dQ ns=false:=by unfold dQ; rw [decide_eq_false h9]; rfl
  rw [e]
  simp_arith [jU,ae,ag,af,fj,e9,Bool.not_true,Bool.not_false]
noncomputable def de (ns:List Int):Bool:=decide (1<=ns.length/\ns.length<=8) && ns.all (wI 0 1000) && ns.any (λn=>decide (n > 0))
theorem ZnS {ns:List Int} (hl:ns.length<=1000000):jX [.d (tI ns)]=.ret (.d (.bool (de ns))):=by
 have em:=mX (h:=bh (aj 0) sV [.un]) (g:=PyData.int) (f:=wI 0 1000) (xs:=ns) λn _=>by
  simp_arith [sV,ae,ag,af,Zdj]
 have em2:=mX (h:=bh (aj 0) sU [.un]) (g:=PyData.int) (f:=λn=>decide (n > 0)) (xs:=ns) λn _=>by
  simp_arith [sU,ae,ag,af]
 have ea:=ny (ns.map (wI 0 1000))
 have eb:=Zdc (ns.map λn=>decide (n > 0))
 rw [vd] at ea
 rw [Zpw] at eb
 have hs:small (ns.map PyData.int).length=true:=bS (by rw [List.length_map]; omega)
 unfold tI
 by_cases h1:1<=ns.length
 ·have d1:decide ((1:Int)<=((ns.map PyData.int).length:Int))=true:=decide_eq_true (by rw [List.length_map]; omega)
  by_cases h8:ns.length<=8
  ·have d8:decide (((ns.map PyData.int).length:Int)<=8)=true:=decide_eq_true (by rw [List.length_map]; omega)
   cases ha:ns.all (wI 0 1000) with
   | false =>
    rw [ha] at ea
    have e:de ns=false:=by unfold de; rw [ha]; simp
    rw [e]
    simp_arith [jX,ae,ag,af,fj,d1,d8,Bool.not_true,hs,em,ea,Bool.not_false]
   | true =>
    rw [ha] at ea
    have e:de ns=ns.any (λn=>decide (n > 0)):=by unfold de; rw [ha,decide_eq_true ⟨h1,h8⟩]; simp
    rw [e]
    simp_arith [jX,ae,ag,af,fj,d1,d8,Bool.not_true,hs,em,ea,em2,eb]
  ·have d8:decide (((ns.map PyData.int).length:Int)<=8)=false:=decide_eq_false (by rw [List.length_map]; omega)
   have e:de ns=false:=by unfold de; rw [decide_eq_false λz=>h8 z.2]; rfl
   rw [e]
   simp_arith [jX,ae,ag,af,fj,d1,d8,Bool.not_true,Bool.not_false]
 ·have d1:decide ((1:Int)<=((ns.map PyData.int).length:Int))=false:=decide_eq_false (by rw [List.length_map]; omega)
  have e:de ns=false:=by unfold de; rw [decide_eq_false λz=>h1 z.1]; rfl
  rw [e]
  simp_arith [jX,ae,ag,af,fj,d1,Bool.not_true,Bool.not_false]
noncomputable def dW (ds:List (List Int)):Bool:=decide (1<=ds.length/\ds.length<=6) && ds.all de
theorem Zdr {ds:List (List Int)} (hl:ds.length<=1000000) (hd:∀ d∈ds,d.length<=1000000):jW [.d (fD ds)]=.ret (.d (.bool (dW ds))):=by
 have em:=mX (h:=bh (aj 0) sT [.un]) (g:=tI) (f:=de) (xs:=ds) λn hn=>by
  simp_arith [sT,ae,ag,af,ZnS (hd n hn)]
 have ea:=ny (ds.map de)
 rw [vd] at ea
 have hs:small (ds.map tI).length=true:=bS (by rw [List.length_map]; omega)
 unfold fD
 by_cases h1:1<=ds.length
 ·have d1:decide ((1:Int)<=((ds.map tI).length:Int))=true:=decide_eq_true (by rw [List.length_map]; omega)
  by_cases h8:ds.length<=6
  ·have d8:decide (((ds.map tI).length:Int)<=6)=true:=decide_eq_true (by rw [List.length_map]; omega)
   have e:dW ds=ds.all de:=by unfold dW; rw [decide_eq_true ⟨h1,h8⟩]; rfl
   rw [e]
   simp_arith [jW,ae,ag,af,fj,d1,d8,Bool.not_true,hs,em,ea]
  ·have d8:decide (((ds.map tI).length:Int)<=6)=false:=decide_eq_false (by rw [List.length_map]; omega)
   have e:dW ds=false:=by unfold dW; rw [decide_eq_false λz=>h8 z.2]; rfl
   rw [e]
   simp_arith [jW,ae,ag,af,fj,d1,d8,Bool.not_true,Bool.not_false]
 ·have d1:decide ((1:Int)<=((ds.map tI).length:Int))=false:=decide_eq_false (by rw [List.length_map]; omega)
  have e:dW ds=false:=by unfold dW; rw [decide_eq_false λz=>h1 z.1]; rfl
  rw [e]
  simp_arith [jW,ae,ag,af,fj,d1,Bool.not_true,Bool.not_false]
noncomputable def eO (t:Str):Option (List Int):=(bb aS (Txt.split t ⟨#[32]⟩)).bind λns=>if dQ ns=true then some ns else none
theorem si {t:Str} {ns:List Int} (h:eO t=some ns):bb aS (Txt.split t ⟨#[32]⟩)=some ns/\dQ ns=true:=by
 unfold eO at h
 obtain ⟨ms,h1,h2⟩:=Option.bind_eq_some_iff.mp h
 split at h2
 ·rename_i hc
  cases h2
  exact ⟨h1,hc⟩
 ·cases h2
theorem Zgw {t:Str} {ns:List Int} (h:eO t=some ns):Rp (tI ns) 1 (13 * (t.length+1)):=kT (λw a h=>pP h) (si h).1
theorem Ze9 {w:Str} (h:w.length<=500000):d9 (aj 0) o6 [.un] (.str w)=.ret ((aS w).map PyData.int):=by
 simp_arith [o6,ae,ag,af,nV h]
 unfold aS
 cases bZ w.cps.toList <;> rfl
theorem Zfa {t:Str} (h:t.length<=500000):fS [.d (.str t)]=.ret ((eO t).map λns=>.d (tI ns)):=by
 have hs:small ((Txt.split t ⟨#[32]⟩).map PyData.str).length=true:=bS (by rw [List.length_map]; have:=cj 32 t; omega)
 have e:=jP (f:=aS) (g:=PyData.int) (h:=d9 (aj 0) o6 [.un]) (l:=Txt.split t ⟨#[32]⟩) λx hx=>Ze9 (by have:=cw hx; omega)
 unfold eO
 cases ha:bb aS (Txt.split t ⟨#[32]⟩) with
 | none =>
  rw [ha] at e
  simp_arith [fS,dr,ae,ag,af,iK,fM,if_true,Option.map_some,cr h,hs,e,Option.map_none]
  rfl
 | some ns =>
  rw [ha] at e
  have hl:=dX ha
  have es:=Zdp (ns:=ns) (by rw [hl]; have:=cj 32 t; omega)
  unfold tI at es
  show _=Tr.ret (Option.map _ (if dQ ns=true then some ns else none))
  cases hb:dQ ns with
  | false =>
   rw [hb] at es
   simp_arith [fS,dr,ae,ag,af,iK,fM,if_true,Option.map_some,cr h,hs,e,es,Bool.not_false]
   rfl
  | true =>
   rw [hb] at es
   simp_arith [fS,dr,ae,ag,af,iK,fM,if_true,Option.map_some,cr h,hs,e,es,Bool.not_true]
   rfl
theorem Zhs {w:Str} {i:Int} (h:w.length<=500000) (hn:aS w=some i):bh (aj 0) pq [.un] (.str w)=.ret (.int i):=by
 obtain ⟨h1,rfl⟩:=k8 hn
 simp_arith [pq,ae,ag,af,qz h h1]
theorem ZnP {t:Str} {ns:List Int} (h:t.length<=500000) (hn:eO t=some ns):m9 [.d (.str t)]=.ret (.d (tI ns)):=by
 obtain ⟨h1,h2⟩:=si hn
 have hs:small ((Txt.split t ⟨#[32]⟩).map PyData.str).length=true:=bS (by rw [List.length_map]; have:=cj 32 t; omega)
 have e:=jQ (f:=aS) (g:=PyData.int) (h:=bh (aj 0) pq [.un]) (l:=Txt.split t ⟨#[32]⟩) (λx hx a ha=>Zhs (by have:=cw hx; omega) ha) h1
 have hl:=dX h1
 have es:=Zdp (ns:=ns) (by rw [hl]; have:=cj 32 t; omega)
 rw [h2] at es
 unfold tI at es
 simp_arith [m9,dr,ae,ag,af,qA,cr h,hs,e,es,Bool.not_true]
 rfl
theorem sC {t:Str} {ds:List (List Int)} (h:bH t=some ds):ds.length<=t.length+1/\∀ d∈ds,d.length<=t.length+1:=by
 have hl:=dX h
 refine ⟨by rw [hl]; exact cj 32 t,?_⟩
 have key:∀ {l:List Str} {as:List (List Int)},bb bX l=some as->(∀ w∈l,w.length<=t.length)->∀ d∈as,d.length<=t.length+1:=by
  intro l
  induction l with
  | nil=>intro as e _ d hd; cases (show some ([]:List (List Int))=some as from e); cases hd
  | cons w l ih =>
   intro as e hw d hd
   obtain ⟨a,as',h1,h2,rfl⟩:=gj.mp e
   rcases List.mem_cons.mp hd with rfl | hd
   ·have:=dX h1
    have:=cj 44 w
    have:=hw w (by simp)
    omega
   ·exact ih h2 (λv hv=>hw v (List.mem_cons_of_mem _ hv)) d hd
 exact key h λw hw=>cw hw
noncomputable def fm (t:Str):Option (List (List Int)):=(bH t).bind λds=>if dW ds=true then some ds else none
theorem uy {t:Str} {ds:List (List Int)} (h:fm t=some ds):bH t=some ds/\dW ds=true:=by
 unfold fm at h
 obtain ⟨ms,h1,h2⟩:=Option.bind_eq_some_iff.mp h
 split at h2
 ·rename_i hc
  cases h2
  exact ⟨h1,hc⟩
 ·cases h2
theorem Zkh {t:Str} {ds:List (List Int)} (h:fm t=some ds):Rp (fD ds) 2 (25 * (t.length+1)):=Zbg (uy h).1
theorem Zfe {t:Str} (h:t.length<=500000):fT [.d (.str t)]=.ret ((fm t).map λds=>.d (fD ds)):=by
 have e:=Zaj h
 unfold fm
 cases ha:bH t with
 | none =>
  rw [ha] at e
  simp_arith [fT,ae,ag,af,e,Option.map_none]
  rfl
 | some ds =>
  rw [ha] at e
  obtain ⟨k1,k2⟩:=sC ha
  have es:=Zdr (ds:=ds) (by omega) (λd hd=>by have:=k2 d hd; omega)
  show _=Tr.ret (Option.map _ (if dW ds=true then some ds else none))
  cases hb:dW ds with
  | false =>
   rw [hb] at es
   simp_arith [fT,ae,ag,af,e,Option.map_some,es,Bool.not_false]
   rfl
  | true =>
   rw [hb] at es
   simp_arith [fT,ae,ag,af,e,Option.map_some,es,Bool.not_true]
   rfl
theorem ZnQ {t:Str} {ds:List (List Int)} (h:t.length<=500000) (hn:fm t=some ds):na [.d (.str t)]=.ret (.d (fD ds)):=by
 obtain ⟨h1,h2⟩:=uy hn
 obtain ⟨k1,k2⟩:=sC h1
 have es:=Zdr (ds:=ds) (by omega) (λd hd=>by have:=k2 d hd; omega)
 rw [h2] at es
 simp_arith [na,ae,ag,af,Zdo h h1,es,Bool.not_true]
theorem ZnL {t:Str} {ds:List (List Int)} (h:t.length<=500000) (hn:bH t=some ds):m7 [.d (fD ds)]=.ret (.d (.str t)):=by
 simp_arith [m7,ae,ag,af,Zdl h hn]
theorem ZgP {w:Str} {i:Int} (hn:aS w=some i):bh (aj 0) pd [.un] (.int i)=.ret (.str w):=by
 simp_arith [pd,ae,ag,af,nz (kY (jN hn)),iW hn]
theorem ZnK {t:Str} {ns:List Int} (h:t.length<=500000) (hn:bb aS (Txt.split t ⟨#[32]⟩)=some ns):mZ [.d (tI ns)]=.ret (.d (.str t)):=by
 have hl:=dX hn
 have hs:small (ns.map PyData.int).length=true:=bS (by rw [List.length_map,hl]; have:=cj 32 t; omega)
 have e:=lb (f:=aS) (g:=PyData.int) (h:=bh (aj 0) pd [.un]) (l:=Txt.split t ⟨#[32]⟩) (λx hx a ha=>ZgP ha) hn
 have ej:aJ bW (.str ⟨#[32]⟩) (.list ((Txt.split t ⟨#[32]⟩).map PyData.str))=.ret (.str t):=by
  rw [ae (mn h),tjoin,StrLaws.join_split]
 unfold tI
 simp_arith [mZ,dr,ae,ag,af,hs,e,ej]
theorem Zix {w:Str} {n:Int} (h:aS w=some n) {c:Nat} (h1:c≠45) (h2:¬ (48<=c/\c<=57)):c ∉ w.cps.toList:=by
 rw [<- iW h,je]
 unfold eV
 have h:=ZdC n.natAbs
 split
 ·intro hm
  rcases List.mem_cons.mp hm with e | hm
  ·exact h1 e
  ·exact h2 (h c hm)
 ·intro hm
  exact h2 (h c hm)
noncomputable def one? (ns:List Int):Option Int:=match ns with
 | [n]=>some n
 | _=>none
theorem Ziy (w:Str):aS w=(bX w).bind one?:=by
 cases hn:aS w with
 | some n =>
  have hs:Txt.split w ⟨#[44]⟩=[w]:=by
   have:=Zgf (c:=44) (ps:=[w]) (by simp) (λp hp=>by rw [List.mem_singleton.mp hp]; exact Zix hn (by decide) (by decide))
   exact this
  unfold bX
  rw [hs,iA,hn]
  rfl
 | none =>
  cases hd:bX w with
  | none=>rfl
  | some ns =>
   show none=one? ns
   unfold one?
   split
   ·rename_i n
    have hl:=dX hd
    have hj:=StrLaws.join_split w ⟨#[44]⟩
    unfold bX at hd
    cases hs:Txt.split w ⟨#[44]⟩ with
    | nil=>rw [hs] at hl; cases hl
    | cons v r =>
     cases r with
     | cons v2 r=>rw [hs] at hl; simp at hl
     | nil =>
      rw [hs] at hj hd
      have e:v=w:=hj
      obtain ⟨a,as,k1,_,_⟩:=gj.mp hd
      rw [e,hn] at k1
      cases k1
   ·rfl
theorem ZdJ {w:Str} {ns:List Int} (h:bX w=some ns):ns≠[]:=by
 intro e
 have hl:=dX h
 have:=split_pos w ⟨#[44]⟩
 rw [e] at hl
 simp at hl
 rw [<- hl] at this
 exact absurd this (by decide)
noncomputable def ones (ds:List (List Int)):Bool:=ds.all λd=>decide (d.length=1)
noncomputable def eT (d:List Int):Int:=d.getD 0 0
theorem ZeE:∀ ws:List Str,bb aS ws=(bb bX ws).bind λds=>if ones ds=true then some (ds.map eT) else none
 | []=>rfl
 | w::ws=>by
  rw [iA,iA,Ziy,ZeE ws]
  cases hd:bX w with
  | none=>rfl
  | some ns =>
   have hne:=ZdJ hd
   match ns,hne with
   | [n],_ =>
    show ((bb bX ws).bind _).map _=((bb bX ws).map _).bind _
    cases bb bX ws with
    | none=>rfl
    | some ds =>
     show (if ones ds=true then some (ds.map eT) else none).map _=if ones ([n]::ds)=true then some (([n]::ds).map eT) else none
     have e:ones ([n]::ds)=ones ds:=by unfold ones; rw [List.all_cons]; rfl
     rw [e]
     cases ones ds <;> rfl
   | a::b::r,_ =>
    show none=((bb bX ws).map _).bind _
    cases bb bX ws with
    | none=>rfl
    | some ds =>
     show none=if ones ((a::b::r)::ds)=true then some (((a::b::r)::ds).map eT) else none
     have e:ones ((a::b::r)::ds)=false:=by
      unfold ones
      rw [List.all_cons,decide_eq_false (by simp)]
      rfl
     rw [e]
     rfl
theorem Zcs {ns:List Int} (h:ns≠[]):bw la [.tuple (ns.map PyData.int)]=.ret (.int (dH ns)):=by
 unfold bw la gb
 simp [h,gM]
theorem Zcu {ns:List Int} (h:ns≠[]):bw ig [.tuple (ns.map PyData.int)]=.ret (.int (cM ns)):=by
 unfold bw ig gb
 simp [h,gM]
theorem ZeD {ns:List Int} (h:ns≠[]) (b:Int):ns.all (wI 0 b)=(!decide (dH ns < 0) && !decide (cM ns > b)):=by
 obtain ⟨m1,m2⟩:=pW h
 obtain ⟨m3,m4⟩:=pX h
 rw [Bool.eq_iff_iff,List.all_eq_true]
 simp only [Bool.and_eq_true,Bool.not_eq_true',decide_eq_false_iff_not]
 unfold wI
 constructor
 ·intro hh
  have a1:=hh _ m1
  have a2:=hh _ m3
  simp only [Bool.and_eq_true,decide_eq_true_eq] at a1 a2
  exact ⟨by omega,by omega⟩
 ·rintro ⟨a1,a2⟩ n hn
  have:=m2 n hn
  have:=m4 n hn
  simp only [Bool.and_eq_true,decide_eq_true_eq]
  exact ⟨by omega,by omega⟩
theorem so1 {d:List Int}:j6 (aj 0) mR mL [.un] (tI d)=.ret (if decide (d.length > 1)=true then some (tI d) else none):=by
 unfold tI
 have e:decide (((d.map PyData.int).length:Int) > 1)=decide (d.length > 1):=by
  rw [List.length_map]
  by_cases h:d.length > 1
  ·rw [decide_eq_true h,decide_eq_true (by omega)]
  ·rw [decide_eq_false h,decide_eq_false (by omega)]
 simp_arith [mR,mL,ae,ag,af,e]
 cases decide (d.length > 1) <;> rfl
theorem so2:∀ ds:List (List Int),fi (j6 (aj 0) mR mL [.un]) (ds.map tI)=.ret ((ds.filter λd=>decide (d.length > 1)).map tI)
 | []=>rfl
 | d::ds=>by
  rw [List.map_cons,fi,so1,Tr.ret_bind,so2 ds,Tr.ret_bind,List.filter_cons]
  cases decide (d.length > 1) <;> rfl
theorem so3 {d:List Int} (h:d≠[]):bh (aj 0) mK [.un] (tI d)=.ret (.int (eT d)):=by
 unfold tI
 have e:bx (d.map PyData.int) 0=some (.int (eT d)):=by
  match d,h with
  | a::r,_=>exact lK
 simp_arith [mK,ae,ag,af,e]
theorem so4:∀ {ds:List (List Int)},(∀ d∈ds,d≠[])->ce (bh (aj 0) mK [.un]) (ds.map tI)=.ret ((ds.map eT).map PyData.int)
 | [],_=>rfl
 | d::ds,h=>by
  rw [List.map_cons,ce,so3 (h d (by simp)),Tr.ret_bind,so4 λe he=>h e (List.mem_cons_of_mem _ he)]
  rfl
theorem Zbh {t:Str} {ds:List (List Int)} (h:bH t=some ds):∀ d∈ds,d≠[]:=by
 have key:∀ {l:List Str} {as:List (List Int)},bb bX l=some as->∀ d∈as,d≠[]:=by
  intro l
  induction l with
  | nil=>intro as e d hd; cases (show some ([]:List (List Int))=some as from e); cases hd
  | cons w l ih =>
   intro as e d hd
   obtain ⟨a,as',h1,h2,rfl⟩:=gj.mp e
   rcases List.mem_cons.mp hd with rfl | hd
   ·exact ZdJ h1
   ·exact ih h2 d hd
 exact key h
theorem Zke {ds:List (List Int)} (h:∀ d∈ds,d≠[]):((ds.filter λd=>decide (d.length > 1)).map tI).isEmpty=ones ds:=by
 induction ds with
 | nil=>rfl
 | cons d ds ih =>
  have ih:=ih λe he=>h e (List.mem_cons_of_mem _ he)
  have hd:=h d (by simp)
  have:0 < d.length:=List.length_pos_iff.mpr hd
  unfold ones at ih ⊢
  rw [List.filter_cons,List.all_cons]
  by_cases h1:d.length > 1
  ·rw [decide_eq_true h1,decide_eq_false (by omega)]
   rfl
  ·rw [decide_eq_false h1,decide_eq_true (by omega)]
   exact ih
noncomputable def iR (ds:List (List Int)):Option (List Int):=if ones ds=true then (if dQ (ds.map eT)=true then some (ds.map eT) else none) else none
theorem Zgx (t:Str):eO t=(bH t).bind iR:=by
 unfold eO bH
 rw [ZeE]
 cases bb bX (Txt.split t ⟨#[32]⟩) with
 | none=>rfl
 | some ds =>
  show (if ones ds=true then some (ds.map eT) else none).bind _=iR ds
  unfold iR
  cases ones ds <;> rfl
theorem ZgA {ds:List (List Int)} (h:∀ d∈ds,d≠[]) (hl:ds.length<=1000000):(ay (bE (b7 (aT (ah io (aa 0) (aC .none))) (b7 (aT (ah eC (aM cU (ai (aa 0) ao)) (aC (.int 9)))) (aT (ah k9 (bf (lR (bL (aa 0)) 1 [] (aj 0) mR mL)) (bf (cB ao)))))) (aW (aC .none)) bn) (ay (bv 1 (aM cK (ai (bf (b8 (bL (aa 0)) 1 [] (aj 0) mK)) ao))) (ay (bE (b7 (aT (ah (bG λi j=>decide (i < j)) (aM la (ai (aa 1) ao)) (aC (.int 0)))) (b7 (aT (ah (bG λi j=>decide (i > j)) (aM ig (ai (aa 1) ao)) (aC (.int 1000000)))) (aT (ah (bG λi j=>decide (i > j)) (ah aY (ah bQ (aa 1) (aC (.int 0))) (ah bQ (aa 1) (aC (.int 1)))) (aC (.int 39)))))) (aW (aC .none)) bn) (dO 1)))) [.d (fD ds),.un]=.ret (.ret (.d (cE tI (iR ds)))):=by
 have hN:da (.tuple (ds.map tI))=false:=rfl
 have hs:small (ds.map tI).length=true:=bS (by rw [List.length_map]; omega)
 have ef:=so2 ds
 have ee:=Zke h
 unfold fD
 by_cases h9:ds.length=9
 ·have e9:(((ds.map tI).length:Int) == 9)=true:=by rw [List.length_map,h9]; rfl
  unfold iR
  cases ho:ones ds with
  | false =>
   rw [ho] at ee
   simp_arith [ae,ag,af,hN,e9,Bool.not_true,Bool.not_false,hs,ef,eE,ee]
   rfl
  | true =>
   rw [ho] at ee
   have em:=so4 h
   have hne:ds.map eT≠[]:=by intro e; have:=congrArg List.length e; rw [List.length_map,h9] at this; cases this
   have hl9:(ds.map eT).length=9:=by rw [List.length_map,h9]
   generalize ds.map eT=ns at *
   have emin:=Zcs hne
   have emax:=Zcu hne
   have hall:=ZeD hne 1000000
   have x0:bx (ns.map PyData.int) 0=some (.int (ns.getD 0 0)):=by
    match ns,hl9 with
    | a::b::r,_=>exact lK
   have x1:bx (ns.map PyData.int) 1=some (.int (ns.getD 1 0)):=by
    match ns,hl9 with
    | a::b::r,_=>exact u4
   have eS:dQ ns=(!decide (dH ns < 0) && !decide (cM ns > 1000000) && decide (ns.getD 0 0+ns.getD 1 0<=39)):=by
    unfold dQ
    rw [hall,decide_eq_true hl9,Bool.true_and]
   rw [eS]
   have e39:decide (ns.getD 0 0+ns.getD 1 0 > 39)=!decide (ns.getD 0 0+ns.getD 1 0<=39):=by
    by_cases hq:ns.getD 0 0+ns.getD 1 0<=39
    ·rw [decide_eq_true hq,decide_eq_false (by omega)]; rfl
    ·rw [decide_eq_false hq,decide_eq_true (by omega)]; rfl
   cases k1:decide (dH ns < 0) with
   | true =>
    simp_arith [ae,ag,af,hN,e9,Bool.not_true,hs,ef,eE,ee,em,emin,k1]
    rfl
   | false =>
    cases k2:decide (cM ns > 1000000) with
    | true =>
     simp_arith [ae,ag,af,hN,e9,Bool.not_true,hs,ef,eE,ee,em,emin,emax,k1,k2]
     rfl
    | false =>
     cases k3:decide (ns.getD 0 0+ns.getD 1 0<=39) with
     | true =>
      rw [k3] at e39
      simp_arith [ae,ag,af,hN,e9,Bool.not_true,hs,ef,eE,ee,em,emin,emax,k1,k2,x0,x1,e39]
      rfl
     | false =>
      rw [k3] at e39
      simp_arith [ae,ag,af,hN,e9,Bool.not_true,Bool.not_false,hs,ef,eE,ee,em,emin,emax,k1,k2,x0,x1,e39]
      rfl
 ·have e9:(((ds.map tI).length:Int) == 9)=false:=beq_eq_false_iff_ne.mpr (by rw [List.length_map]; omega)
  have e:iR ds=none:=by
   unfold iR
   cases ones ds with
   | false=>rfl
   | true =>
    have:dQ (ds.map eT)=false:=by unfold dQ; rw [List.length_map,decide_eq_false h9]; rfl
    rw [this]
    rfl
  rw [e]
  simp_arith [ae,ag,af,hN,e9,Bool.not_false]
  rfl
theorem fo1 {d:List Int} (h:d≠[]) (B:Sl):fL [B,.d (tI d)]=.ret (if de d=true then .next [B,.d (tI d)] else .ret (.d .none)):=by
 have hp:0 < d.length:=List.length_pos_iff.mpr h
 have emin:=Zcs h
 have emax:=Zcu h
 have hall:=ZeD h 1000
 obtain ⟨m3,m4⟩:=pX h
 have e8:decide (((d.map PyData.int).length:Int) > 8)=!decide (1<=d.length/\d.length<=8):=by
  rw [List.length_map]
  by_cases hq:d.length<=8
  ·have a1:decide (1<=d.length/\d.length<=8)=true:=decide_eq_true ⟨by omega,hq⟩
   have a2:decide ((d.length:Int) > 8)=false:=decide_eq_false (by omega)
   rw [a1,a2]; rfl
  ·have a1:decide (1<=d.length/\d.length<=8)=false:=decide_eq_false λz=>hq z.2
   have a2:decide ((d.length:Int) > 8)=true:=decide_eq_true (by omega)
   rw [a1,a2]; rfl
 have eany:d.any (λn=>decide (n > 0))=decide (cM d > 0):=by
  rw [Bool.eq_iff_iff,List.any_eq_true,decide_eq_true_eq]
  constructor
  ·rintro ⟨n,hn,hz⟩
   have:=m4 n hn
   have:=of_decide_eq_true hz
   omega
  ·intro hz
   exact ⟨_,m3,decide_eq_true hz⟩
 have eB:de d=(decide (1<=d.length/\d.length<=8) && (!decide (dH d < 0) && !decide (cM d > 1000)) && decide (cM d > 0)):=by
  unfold de
  rw [hall,eany]
 rw [eB]
 unfold tI
 cases k0:decide (1<=d.length/\d.length<=8) with
 | false =>
  rw [k0] at e8
  simp_arith [fL,ae,ag,af,e8,Bool.not_false]
  rfl
 | true =>
  rw [k0] at e8
  cases k1:decide (dH d < 0) with
  | true =>
   simp_arith [fL,ae,ag,af,e8,Bool.not_true,emin,k1]
   rfl
  | false =>
   have hmin:=of_decide_eq_false k1
   have hle:dH d<=cM d:=(pW h).2 _ m3
   cases k2:decide (cM d > 1000) with
   | true =>
    simp_arith [fL,ae,ag,af,e8,Bool.not_true,emin,emax,k1,k2]
    rfl
   | false =>
    by_cases k3:cM d > 0
    ·have k3':(cM d == 0)=false:=beq_eq_false_iff_ne.mpr (by omega)
     rw [decide_eq_true k3]
     simp_arith [fL,ae,ag,af,e8,Bool.not_true,emin,emax,k1,k2,k3']
     rfl
    ·have k3':(cM d == 0)=true:=beq_iff_eq.mpr (by omega)
     rw [decide_eq_false k3]
     simp_arith [fL,ae,ag,af,e8,Bool.not_true,emin,emax,k1,k2,k3']
     rfl
theorem fo2 {B:Sl}:∀ {ds:List (List Int)} {J:Sl},(∀ d∈ds,d≠[])->(ds.all de=false/\bJ (aj 1) fL (ds.map tI) [B,J]=.ret (.ret (.d .none)))\/(ds.all de=true/\∃ J',bJ (aj 1) fL (ds.map tI) [B,J]=.ret (.next [B,J']))
 | [],J,_=>.inr ⟨rfl,J,rfl⟩
 | d::ds,J,h=>by
  have e1:=fo1 (h d (by simp)) B
  have ef:bJ (aj 1) fL ((d::ds).map tI) [B,J]=(fL [B,.d (tI d)]).bind (gO (aj 1) fL (ds.map tI)):=by
   rw [List.map_cons,lA]
   rfl
  rw [ef,e1,List.all_cons]
  cases hd:de d with
  | false=>exact .inl ⟨rfl,rfl⟩
  | true =>
   have:=fo2 (B:=B) (ds:=ds) (J:=.d (tI d)) λe he=>h e (List.mem_cons_of_mem _ he)
   exact this
theorem Zgh {w:Str} (h:w.length<=500000):bh (aj 0) mM [.un] (.str w)=.ret (cE PyData.int (aS w)):=by
 simp_arith [mM,ae,ag,af,uE h]
 unfold aS
 cases bZ w.cps.toList <;> rfl
theorem Zdm {t:Str} (h:t.length<=500000):fK [.d (.str t)]=.ret (.d (cE tI (ck t))):=by
 have hs:small ((Txt.split t ⟨#[47]⟩).map PyData.str).length=true:=bS (by rw [List.length_map]; have:=cj 47 t; omega)
 have em:=tV (h:=bh (aj 0) mM [.un]) (F:=λx=>cE PyData.int (aS x)) (l:=Txt.split t ⟨#[47]⟩) λx hx=>Zgh (by have:=cw hx; omega)
 have ei:=ZcP (l:=Txt.split t ⟨#[47]⟩) (f:=aS) (g:=PyData.int) (λ_ _ a _=>ZcO a) (λ_ _ a _=>Zdf a)
 have hsp:=cr (a:=t) (c:=47) h
 by_cases h2:(Txt.split t ⟨#[47]⟩).length=2
 ·have e2:((((Txt.split t ⟨#[47]⟩).map λx=>cE PyData.int (aS x)).length:Int) == 2)=true:=by rw [List.length_map,h2]; rfl
  unfold ck
  cases ha:bb aS (Txt.split t ⟨#[47]⟩) with
  | none =>
   rw [ha] at ei
   simp_arith [fK,fU,ae,ag,af,hsp,hs,em,e2,Bool.not_true,ei,Option.isNone_none]
   rfl
  | some ns =>
   rw [ha] at ei
   have eo:=tH (f:=aS) (g:=PyData.int) (l:=Txt.split t ⟨#[47]⟩) ha
   have hl:=dX ha
   rw [h2] at hl
   obtain ⟨a,b,rfl⟩:∃ a b,ns=[a,b]:=by
    match ns,hl with
    | [a,b],_=>exact ⟨a,b,rfl⟩
   rw [eo] at em ei e2
   have em':ce (bh (aj 0) mM [.un]) ((Txt.split t ⟨#[47]⟩).map PyData.str)=.ret [.int a,.int b]:=em
   have ei':aJ (iq false) .none (.list [.int a,.int b])=.ret (.bool false):=ei
   have ed:=Zds (a:=a) (b:=b) (ve ha a (by simp) |> λz=>pR z (by decide))
   show _=Tr.ret (Re.d (cE tI (if eu [a,b]=true then some [a,b] else none)))
   by_cases hb:b < 1
   ·have e:eu [a,b]=false:=by
     show (decide (1<=b) && _)=false
     rw [decide_eq_false (by omega)]; rfl
    rw [e]
    simp_arith [fK,fU,ae,ag,af,hsp,hs,em',fy,Bool.not_true,ei',decide_eq_true hb]
    rfl
   ·have e:eu [a,b]=decide (Nat.gcd a.natAbs b.natAbs=1):=by
     show (decide (1<=b) && _)=_
     rw [decide_eq_true (by omega),Bool.true_and]
    have e3:(((Nat.gcd a.natAbs b.natAbs:Nat):Int) == 1)=decide (Nat.gcd a.natAbs b.natAbs=1):=by
     by_cases hg:Nat.gcd a.natAbs b.natAbs=1
     ·rw [decide_eq_true hg,hg]; rfl
     ·rw [decide_eq_false hg]
      exact beq_eq_false_iff_ne.mpr (by omega)
    rw [e]
    cases hg:decide (Nat.gcd a.natAbs b.natAbs=1) with
    | false =>
     rw [hg] at e3
     simp_arith [fK,fU,ae,ag,af,hsp,hs,em',fy,Bool.not_true,Bool.not_false,ei',decide_eq_false hb,ed,e3]
     rfl
    | true =>
     rw [hg] at e3
     simp_arith [fK,fU,ae,ag,af,hsp,hs,em',fy,Bool.not_true,ei',decide_eq_false hb,ed,e3]
     rfl
 ·have e2:((((Txt.split t ⟨#[47]⟩).map λx=>cE PyData.int (aS x)).length:Int) == 2)=false:=beq_eq_false_iff_ne.mpr (by rw [List.length_map]; omega)
  have e:ck t=none:=by
   unfold ck
   cases ha:bb aS (Txt.split t ⟨#[47]⟩) with
   | none=>rfl
   | some ns =>
    have:=dX ha
    show (if eu ns=true then some ns else none)=none
    rw [if_neg]
    intro hb
    obtain ⟨a,b,rfl,_⟩:=sk hb
    exact h2 this.symm
  rw [e]
  simp_arith [fK,fU,ae,ag,af,hsp,hs,em,e2,Bool.not_false]
  rfl
theorem to1 {w:Str} (h:w.length<=500000) {es:List cF} (hes:es.length<=1000000) (A B C J5 J6:Sl):gg [A,B,C,.own (es.map eD),.d (.str w),J5,J6]=.ret (match b5 w with | none=>.ret (.d .none) | some e=>.next [A,B,C,.own ((es++[e]).map eD),.d (.str w),.d (.list ((Txt.split w ⟨#[64]⟩).map PyData.str)),.d (.tuple [.int e.1,.int e.2.1])]):=by
 have hsp:=cr (a:=w) (c:=64) h
 have hpos:=split_pos w ⟨#[64]⟩
 obtain ⟨p,r,hs⟩:∃ p r,Txt.split w ⟨#[64]⟩=p::r:=by
  cases hc:Txt.split w ⟨#[64]⟩ with
  | nil=>exact absurd hc (ZaM _ _)
  | cons p r=>exact ⟨p,r,rfl⟩
 have hp:p.length<=500000:=by have:=cw (c:=64) (t:=w) (w:=p) (by rw [hs]; simp); omega
 have e1:=Zdm hp
 have hsm:small ((es.map eD).length+1)=true:=bS (by rw [List.length_map]; omega)
 by_cases h2:(Txt.split w ⟨#[64]⟩).length=2
 ·obtain ⟨q,rfl⟩:∃ q,r=[q]:=by
   rw [hs] at h2
   match r,h2 with
   | [q],_=>exact ⟨q,rfl⟩
  have hq:q.length<=500000:=by have:=cw (c:=64) (t:=w) (w:=q) (by rw [hs]; simp); omega
  have e2:=uE hq
  have q2:(if bZ q.cps.toList=true then PyData.int (eP q.cps.toList) else .none)=cE PyData.int (aS q):=by
   unfold aS; cases bZ q.cps.toList <;> rfl
  rw [q2] at e2
  rw [hs] at hsp ⊢
  cases hS:ck p with
  | none =>
   have he:b5 w=none:=by unfold b5; rw [hs]; show (ck p).bind _=_; rw [hS]; rfl
   rw [hS] at e1
   rw [he]
   have e1':fK [.d (.str p)]=.ret (.d .none):=e1
   have hN:da .none=true:=rfl
   simp_arith [gg,gS,ae,ag,af,hsp,e1',fy,Bool.not_true,hN]
  | some ns =>
   obtain ⟨a,b,rfl⟩:=ZaZ hS
   rw [hS] at e1
   have e1':fK [.d (.str p)]=.ret (.d (.tuple [.int a,.int b])):=e1
   have hN:da (.tuple [.int a,.int b])=false:=rfl
   cases hQ:aS q with
   | none =>
    have he:b5 w=none:=by unfold b5; rw [hs]; show (ck p).bind _=_; rw [hS]; show (aS q).bind _=_; rw [hQ]; rfl
    rw [hQ] at e2
    have e2':cT [.d (.str q)]=.ret (.d .none):=e2
    have hM:da .none=true:=rfl
    rw [he]
    simp_arith [gg,gS,ae,ag,af,hsp,e1',fy,Bool.not_true,hN,e2',hM]
   | some l =>
    rw [hQ] at e2
    have e2':cT [.d (.str q)]=.ret (.d (.int l)):=e2
    have hM:da (.int l)=false:=rfl
    have lz:small 2=true:=dF (by decide)
    rw [Zdh hs hS hQ]
    simp_arith [gg,gS,ae,ag,af,hsp,e1',fy,Bool.not_true,hN,e2',hM,lz,hsm]
    rw [List.map_append]
    rfl
 ·rw [Zdi h2]
  have e3:=mU (n:=(Txt.split w ⟨#[64]⟩).length) h2
  rw [hs] at hsp e3
  rw [List.length_cons] at e3
  rw [List.map_cons] at hsp
  have e3':((((r.map PyData.str).length+1:Nat):Int) == 2)=false:=by rw [List.length_map]; exact e3
  simp_arith [gg,gS,ae,ag,af,hsp,e1,e3',Bool.not_false]
theorem to2 {A B C:Sl}:∀ {ws:List Str} {es:List cF} {J4 J5 J6:Sl},(∀ w∈ws,w.length<=500000)->es.length+ws.length<=1000000 ->
  (bb b5 ws=none/\bJ (aj 4) gg (ws.map PyData.str) [A,B,C,.own (es.map eD),J4,J5,J6]=.ret (.ret (.d .none))) \/
  ∃ (ds:List cF) (K4 K5 K6:Sl),bb b5 ws=some ds/\bJ (aj 4) gg (ws.map PyData.str) [A,B,C,.own (es.map eD),J4,J5,J6]=.ret (.next [A,B,C,.own ((es++ds).map eD),K4,K5,K6])
 | [],es,J4,J5,J6,_,_=>.inr ⟨[],J4,J5,J6,rfl,by rw [List.append_nil]; rfl⟩
 | w::ws,es,J4,J5,J6,h,hl=>by
  rw [List.length_cons] at hl
  have e1:=to1 (h w (by simp)) (es:=es) (by omega) A B C J5 J6
  have ef:bJ (aj 4) gg ((w::ws).map PyData.str) [A,B,C,.own (es.map eD),J4,J5,J6]=(gg [A,B,C,.own (es.map eD),.d (.str w),J5,J6]).bind (gO (aj 4) gg (ws.map PyData.str)):=by
   rw [List.map_cons,lA]
   rfl
  rw [ef,e1,iA]
  cases he:b5 w with
  | none=>exact .inl ⟨rfl,rfl⟩
  | some e =>
   show _\/_
   rcases to2 (A:=A) (B:=B) (C:=C) (ws:=ws) (es:=es++[e]) (J4:=.d (.str w)) (J5:=.d (.list ((Txt.split w ⟨#[64]⟩).map PyData.str))) (J6:=.d (.tuple [.int e.1,.int e.2.1])) (λv hv=>h v (List.mem_cons_of_mem _ hv)) (by rw [List.length_append]; show es.length+1+_<=_; omega) with ⟨ha,hb⟩ | ⟨ds,K4,K5,K6,ha,hb⟩
   ·refine .inl ⟨by rw [ha]; rfl,?_⟩
    rw [Tr.ret_bind,kc]
    exact hb
   ·refine .inr ⟨e::ds,K4,K5,K6,by rw [ha]; rfl,?_⟩
    rw [Tr.ret_bind,kc,hb,List.append_assoc]
    rfl
theorem to3 {w:Str} (h:w.length<=500000) {ls:List (List cF)} (hls:ls.length<=1000000) (A J3 J4 J5 J6:Sl) :
  (eR w=none/\gI [A,.own (ls.map lD),.d (.str w),J3,J4,J5,J6]=.ret (.ret (.d .none))) \/
  ∃ (ds:List cF) (K3 K4 K5 K6:Sl),eR w=some ds/\gI [A,.own (ls.map lD),.d (.str w),J3,J4,J5,J6]=.ret (.next [A,.own ((ls++[ds]).map lD),.d (.str w),K3,K4,K5,K6]):=by
 have hsp:=cr (a:=w) (c:=32) h
 have hsm:small ((ls.map lD).length+1)=true:=bS (by rw [List.length_map]; omega)
 rcases to2 (A:=A) (B:=.own (ls.map lD)) (C:=.d (.str w)) (ws:=Txt.split w ⟨#[32]⟩) (es:=[]) (J4:=J4) (J5:=J5) (J6:=J6) (λv hv=>by have:=cw hv; omega) (by have:=cj 32 w; simp; omega) with ⟨ha,hb⟩ | ⟨ds,K4,K5,K6,ha,hb⟩
 ·refine .inl ⟨ha,?_⟩
  rw [List.map_nil] at hb
  simp_arith [gI,dr,ae,ag,af,hsp,hb]
 ·rw [List.map_nil,List.nil_append] at hb
  refine .inr ⟨ds,.d (.list (ds.map eD)),K4,K5,K6,ha,?_⟩
  simp_arith [gI,dr,ae,ag,af,hsp,hb,hsm]
  rw [List.map_append]
  rfl
theorem to4 {A:Sl}:∀ {ws:List Str} {ls:List (List cF)} {J2 J3 J4 J5 J6:Sl},(∀ w∈ws,w.length<=500000)->ls.length+ws.length<=1000000 ->
  (bb eR ws=none/\bJ (aj 2) gI (ws.map PyData.str) [A,.own (ls.map lD),J2,J3,J4,J5,J6]=.ret (.ret (.d .none))) \/
  ∃ (ds:List (List cF)) (K2 K3 K4 K5 K6:Sl),bb eR ws=some ds/\bJ (aj 2) gI (ws.map PyData.str) [A,.own (ls.map lD),J2,J3,J4,J5,J6]=.ret (.next [A,.own ((ls++ds).map lD),K2,K3,K4,K5,K6])
 | [],ls,J2,J3,J4,J5,J6,_,_=>.inr ⟨[],J2,J3,J4,J5,J6,rfl,by rw [List.append_nil]; rfl⟩
 | w::ws,ls,J2,J3,J4,J5,J6,h,hl=>by
  rw [List.length_cons] at hl
  have ef:bJ (aj 2) gI ((w::ws).map PyData.str) [A,.own (ls.map lD),J2,J3,J4,J5,J6]=(gI [A,.own (ls.map lD),.d (.str w),J3,J4,J5,J6]).bind (gO (aj 2) gI (ws.map PyData.str)):=by
   rw [List.map_cons,lA]
   rfl
  rw [ef,iA]
  rcases to3 (h w (by simp)) (ls:=ls) (by omega) A J3 J4 J5 J6 with ⟨ha,hb⟩ | ⟨ds,K3,K4,K5,K6,ha,hb⟩
  ·rw [ha,hb]
   exact .inl ⟨rfl,rfl⟩
  ·rw [ha,hb,Tr.ret_bind,kc]
   rcases to4 (A:=A) (ws:=ws) (ls:=ls++[ds]) (J2:=.d (.str w)) (J3:=K3) (J4:=K4) (J5:=K5) (J6:=K6) (λv hv=>h v (List.mem_cons_of_mem _ hv)) (by rw [List.length_append]; show ls.length+1+_<=_; omega) with ⟨ha,hb⟩ | ⟨es,L2,L3,L4,L5,L6,ha,hb⟩
   ·exact .inl ⟨by rw [ha]; rfl,hb⟩
   ·refine .inr ⟨ds::es,L2,L3,L4,L5,L6,by rw [ha]; rfl,?_⟩
    rw [hb,List.append_assoc]
    rfl
theorem ZnI {t:Str} (h:t.length<=500000):lg [.d (.str t)]=.ret (.d (cE tD (fe t))):=by
 have hsp:=cr (a:=t) (c:=10) h
 unfold fe
 rcases to4 (A:=.d (.str t)) (ws:=Txt.split t ⟨#[10]⟩) (ls:=[]) (J2:=.un) (J3:=.un) (J4:=.un) (J5:=.un) (J6:=.un) (λv hv=>by have:=cw hv; omega) (by have:=cj 10 t; simp; omega) with ⟨ha,hb⟩ | ⟨ds,K2,K3,K4,K5,K6,ha,hb⟩
 ·rw [List.map_nil] at hb
  rw [ha]
  simp_arith [lg,jO,ae,ag,af,hsp,hb]
  rfl
 ·rw [List.map_nil,List.nil_append] at hb
  rw [ha]
  simp_arith [lg,jO,ae,ag,af,hsp,hb]
  rfl
theorem ZnM {t:Str} (h:t.length<=500000):jT [.d (cE fD (bH t))]=.ret (.d (cE tI (eO t))):=by
 rw [Zgx]
 cases hr:bH t with
 | none =>
  have hN:da .none=true:=rfl
  simp_arith [jT,cE,ae,ag,af,hN]
  rfl
 | some ds =>
  have e:=ZgA (Zbh hr) (by have:=(sC hr).1; omega)
  show jT [.d (fD ds)]=.ret (.d (cE tI (iR ds)))
  unfold jT
  rw [uD (as:=[.d (fD ds)]) (n:=1) rfl,show ([.d (fD ds)]++List.replicate 1 .un:List Sl)=[.d (fD ds),.un] from rfl,e]
  rfl
theorem ZnU {t:Str} (h:t.length<=500000):ij [.d (cE fD (bH t))]=.ret (.d (cE fD (fm t))):=by
 unfold fm
 cases hr:bH t with
 | none =>
  have hN:da .none=true:=rfl
  simp_arith [ij,cE,ae,ag,af,hN]
  rfl
 | some ds =>
  have hN:da (fD ds)=false:=rfl
  have hne:=Zbh hr
  have hpos:1<=ds.length:=by
   have:=dX hr
   have:=split_pos t ⟨#[32]⟩
   omega
  show ij [.d (fD ds)]=.ret (.d (cE fD (if dW ds=true then some ds else none)))
  by_cases h6:ds.length<=6
  ·have e6:decide (((ds.map tI).length:Int) > 6)=false:=decide_eq_false (by rw [List.length_map]; omega)
   have eB:dW ds=ds.all de:=by unfold dW; rw [decide_eq_true ⟨hpos,h6⟩,Bool.true_and]
   rw [eB]
   unfold fD at hN ⊢
   rcases fo2 (B:=.d (.tuple (ds.map tI))) (ds:=ds) (J:=.un) hne with ⟨ha,hb⟩ | ⟨ha,J,hb⟩
   ·rw [ha]
    simp_arith [ij,ae,ag,af,hN,e6,hb]
    rfl
   ·rw [ha]
    simp_arith [ij,ae,ag,af,hN,e6,hb]
    rfl
  ·have e6:decide (((ds.map tI).length:Int) > 6)=true:=decide_eq_true (by rw [List.length_map]; omega)
   have eB:dW ds=false:=by unfold dW; rw [decide_eq_false λz=>h6 z.2]; rfl
   rw [eB]
   unfold fD at hN ⊢
   simp_arith [ij,ae,ag,af,hN,e6]
   rfl
theorem Zbe:Al (nc [.pen]) 8 λr=>∃ u:Str,r=.d (.str u)/\u.length<=67:=by
 have l1:("/":Str).length=1:=by decide +kernel
 simp_arith [nc,ae,ag,af,aL]
 refine dY (n:=4) (n':=4) uP (by decide) ?_
 rintro _ ⟨x,rfl,x0,x1⟩
 simp_arith [ae,ag,af,aL]
 refine dY (n:=4) (n':=0) uP (by decide) ?_
 rintro _ ⟨y,rfl,y0,y1⟩
 have hb0:((y.natAbs:Int))+1≠0:=by omega
 have big:(150000000000000000000000000001:Int) < (2 ^ 7000:Nat):=by decide +kernel
 have el:=ZnR (t:=x) (b:=(y.natAbs:Int)+1) hb0 (tQ (by omega) (by omega)) (tQ (by omega) (by omega))
 obtain ⟨b1,b2⟩:=Gc.ZiY (t:=x) hb0
 unfold sj at el
 generalize Gc.jZ x ((y.natAbs:Int)+1)=t at *
 generalize Gc.i8 x ((y.natAbs:Int)+1)=b at *
 obtain ⟨e1,n1⟩:=g8 (k:=31) (i:=t) (by omega) (by decide)
 obtain ⟨e2,n2⟩:=g8 (k:=31) (i:=b) (by omega) (by decide)
 have c1:=cat (a:=aX t) (b:=("/":Str)) (by omega) (by omega)
 have c2:=cat (a:=aX t++("/":Str)) (b:=aX b) (by rw [strLen_append]; omega) (by omega)
 simp_arith [ae,ag,af,aL,ZpH,el,e1,e2,c1,c2]
 exact cX ⟨_,rfl,by rw [strLen_append,strLen_append]; omega⟩
theorem xt1 (w:PyData):Al (bh (aj 0) sQ [.un,.pen] w) 2 (lw 0 1000000):=by
 simp_arith [sQ,ae,ag,af,aL]
 refine bY (n:=1) (by decide) (by decide) (by decide) λk k0 k1=>?_
 obtain ⟨y,hy,y0,y1⟩:=ZbX (xs:=[PyData.int 9,.int 1000001]) (lo:=9) (hi:=1000001) (by simp [lw]) k0 k1
 simp_arith [ae,ag,af,aL,hy]
 refine bY (n:=0) (by omega) (by omega) (by decide) λr r0 r1=>?_
 try simp_arith [ae,ag,af,aL]
 exact cX ⟨r,rfl,by omega,by omega⟩
theorem xt2 (w:PyData):Al (bh (aj 0) sP [.un,.pen] w) 2 (gY 5):=by
 simp_arith [sP,ae,ag,af,aL]
 refine bY (n:=1) (by decide) (by decide) (by decide) λk k0 k1=>?_
 obtain ⟨y,hy,y0,y1⟩:=ZbX (xs:=[PyData.int 4,.int 1001]) (lo:=4) (hi:=1001) (by simp [lw]) k0 k1
 simp_arith [ae,ag,af,aL,hy]
 refine bY (n:=0) (by omega) (by omega) (by decide) λr r0 r1=>?_
 obtain ⟨e1,e2⟩:=g8 (k:=3) (i:=r) (by omega) (by decide)
 simp_arith [ae,ag,af,aL,e1]
 exact cX ⟨_,rfl,e2⟩
theorem xt3 (w:PyData):Al (bh (aj 0) sO [.un,.pen] w) 1 (gY 3):=by
 simp_arith [sO,ae,ag,af,aL]
 refine bY (n:=0) (by decide) (by decide) (by decide) λr r0 r1=>?_
 obtain ⟨e1,e2⟩:=g8 (k:=1) (i:=r - 12) (by omega) (by decide)
 simp_arith [ae,ag,af,aL,e1]
 exact cX ⟨_,rfl,e2⟩
theorem xt4 (w:PyData):Al (bh (aj 0) sN [.un,.pen] w) 9 (gY 80):=by
 have l2:("@":Str).length=1:=by decide +kernel
 simp_arith [sN,ae,ag,af,aL]
 refine dY (n:=8) (n':=1) Zbe (by decide) ?_
 rintro _ ⟨u,rfl,hu⟩
 have c1:=cat (a:=u) (b:=("@":Str)) (by omega) (by omega)
 simp_arith [ae,ag,af,aL,c1]
 refine bY (n:=0) (by decide) (by decide) (by decide) λr r0 r1=>?_
 obtain ⟨e1,e2⟩:=g8 (k:=0) (i:=r - 3) (by omega) (by decide)
 have c2:=cat (a:=u++("@":Str)) (b:=aX (r - 3)) (by rw [strLen_append]; omega) (by omega)
 simp_arith [ae,ag,af,aL,e1,c2]
 exact cX ⟨_,rfl,by rw [strLen_append,strLen_append]; omega⟩
theorem xm {n k m:Nat} {q:List Sl->Tr PyData} (hq:∀ w,Al (bh (aj 0) q [.un,.pen] w) n (gY k)) {M:Int} (h0:0<=M) (h1:M<=m):Al (ce (bh (aj 0) q [.un,.pen]) (cD 0 M)) (m * n) λys=>∃ us:List Str,ys=us.map PyData.str/\us.length<=m/\∀ u∈us,u.length<=k:=by
 refine vf (n:=n) (P:=gY k) (by rw [dh]; exact Nat.mul_le_mul_right _ (by omega)) (λx _=>hq x) λys hl hys=>?_
 obtain ⟨us,rfl,hus⟩:=ZaH hys
 rw [List.length_map,dh] at hl
 exact ⟨us,rfl,by omega,hus⟩
theorem xl1 {ds:List Str} (hd:ds.length<=10) (J1 J3 J4 J5 J6 J7 J8:Sl):Al (t8 [.pen,J1,.own (ds.map PyData.str),J3,J4,J5,J6,J7,J8]) 17 λo=>∃ u:Str,o=.next [.pen,J1,.own ((ds++[u]).map PyData.str),J3,J4,J5,J6,J7,J8]/\u.length<=50:=by
 have hs:small ((ds.map PyData.str).length+1)=true:=dF (by rw [List.length_map]; omega)
 simp_arith [t8,ae,ag,af,aL]
 refine bY (n:=16) (by decide) (by decide) (by decide) λm m0 m1=>?_
 have r1:fB [.int (1+m)]=.ret (cD 0 (1+m)):=iy (lx (by omega) (by omega))
 have hsm:small (cD 0 (1+m)).length=true:=dF (by rw [dh]; omega)
 simp_arith [ae,ag,af,aL,r1,hsm]
 refine dY (n:=16) (n':=0) (xm (m:=8) xt2 (by omega) (by omega)) (by decide) ?_
 rintro _ ⟨us,rfl,hul,hus⟩
 have h1:=jA hus
 obtain ⟨u,hu,hu2⟩:=gL (sep:=⟨#[44]⟩) rfl (l:=us) (by omega)
 simp_arith [jf,ae,ag,af,aL,hu,hs]
 refine cX ⟨u,?_,by omega⟩
 rw [List.map_append]
 rfl
theorem xl2 {ds:List Str} (hd:ds.length<=10) (J1 J2 J3 J5 J6 J7 J8:Sl):Al (t7 [.pen,J1,J2,J3,.own (ds.map PyData.str),J5,J6,J7,J8]) 10 λo=>∃ u:Str,o=.next [.pen,J1,J2,J3,.own ((ds++[u]).map PyData.str),J5,J6,J7,J8]/\u.length<=50:=by
 have hs:small ((ds.map PyData.str).length+1)=true:=dF (by rw [List.length_map]; omega)
 simp_arith [t7,ae,ag,af,aL]
 refine bY (n:=9) (by decide) (by decide) (by decide) λm m0 m1=>?_
 have r1:fB [.int (1+m)]=.ret (cD 0 (1+m)):=iy (lx (by omega) (by omega))
 have hsm:small (cD 0 (1+m)).length=true:=dF (by rw [dh]; omega)
 simp_arith [ae,ag,af,aL,r1,hsm]
 refine dY (n:=9) (n':=0) (xm (m:=9) xt3 (by omega) (by omega)) (by decide) ?_
 rintro _ ⟨us,rfl,hul,hus⟩
 have h1:=jA hus
 obtain ⟨u,hu,hu2⟩:=gL (sep:=⟨#[44]⟩) rfl (l:=us) (by omega)
 simp_arith [jf,ae,ag,af,aL,hu,hs]
 refine cX ⟨u,?_,by omega⟩
 rw [List.map_append]
 rfl
theorem xl3 {ds:List Str} (hd:ds.length<=10) (J1 J2 J3 J4 J6 J7 J8:Sl):Al (t6 [.pen,J1,J2,J3,J4,.own (ds.map PyData.str),J6,J7,J8]) 37 λo=>∃ (u:Str) (K6:Sl),o=.next [.pen,J1,J2,J3,J4,.own ((ds++[u]).map PyData.str),K6,J7,J8]/\u.length<=400:=by
 have hs:small ((ds.map PyData.str).length+1)=true:=dF (by rw [List.length_map]; omega)
 simp_arith [t6,ae,ag,af,aL]
 refine bY (n:=36) (by decide) (by decide) (by decide) λm m0 m1=>?_
 have r1:fB [.int (1+m)]=.ret (cD 0 (1+m)):=iy (lx (by omega) (by omega))
 have hsm:small (cD 0 (1+m)).length=true:=dF (by rw [dh]; omega)
 simp_arith [ae,ag,af,aL,r1,hsm]
 refine dY (n:=36) (n':=0) (xm (m:=4) xt4 (by omega) (by omega)) (by decide) ?_
 rintro _ ⟨us,rfl,hul,hus⟩
 have h1:=jA hus
 obtain ⟨u,hu,hu2⟩:=gL (sep:=⟨#[32]⟩) rfl (l:=us) (by omega)
 simp_arith [dr,ae,ag,af,aL,hu,hs]
 refine cX ⟨u,.d (.list (us.map PyData.str)),?_,by omega⟩
 rw [List.map_append]
 rfl
theorem q5:∀ {ns:List Int},(∀ n∈ns,0<=n/\n<=1000000)->ce (bh (aj 0) pB [.un]) (ns.map PyData.int)=.ret ((ns.map aX).map PyData.str)
 | [],_=>rfl
 | n::ns,h=>by
  obtain ⟨e1,_⟩:=g8 (k:=7) (i:=n) (by have:=h n (by simp); omega) (by decide)
  have e2:bh (aj 0) pB [.un] (.int n)=.ret (.str (aX n)):=by
   simp_arith [pB,ae,ag,af,e1]
  rw [List.map_cons,ce,e2,Tr.ret_bind,q5 λm hm=>h m (List.mem_cons_of_mem _ hm)]
  rfl
theorem ZgM:Al (p5 [.pen]) 320 λr=>∃ us:List Str,r=.d (.list (us.map PyData.str))/\us.length<=15/\∀ u∈us,u.length<=2000:=by
 have cL:∀ (a:Str) (b:String),a.length<=400000->(b:Str).length<=10->aJ aY (.str a) (.str b)=.ret (.str (a++(b:Str))):=λa b h1 h2=>cat h1 (by omega)
 have cR:∀ (a:String) (b:Str),(a:Str).length<=10->b.length<=400000->aJ aY (.str a) (.str b)=.ret (.str ((a:Str)++b)):=λa b h1 h2=>cat (by omega) h2
 have l1:("1":Str).length=1:=by decide +kernel
 have l2:("-":Str).length=1:=by decide +kernel
 have l3:("/3":Str).length=2:=by decide +kernel
 have l4:("1/7":Str).length=3:=by decide +kernel
 have l5:("0/1@":Str).length=4:=by decide +kernel
 have l6:("0,1 -":Str).length=5:=by decide +kernel
 have l7:("/7@1 0/1@0":Str).length=10:=by decide +kernel
 have l8:("0":Str).length=1:=by decide +kernel
 have r7:fB [.int 7]=.ret (cD 0 7):=iy rfl
 have hs7:small (cD 0 7).length=true:=dF (by rw [dh]; decide)
 simp_arith [p5,ae,ag,af,aL]
 refine bY (n:=319) (by decide) (by decide) (by decide) λa a0 a1=>?_
 try simp_arith [ae,ag,af,aL]
 refine bY (n:=318) (by decide) (by decide) (by decide) λb b0 b1=>?_
 simp_arith [ae,ag,af,aL,r7,hs7]
 refine dY (n:=14) (n':=304) (vf (n:=2) (P:=lw 0 1000000) (Q:=λys=>∃ ps:List Int,ys=ps.map PyData.int/\ps.length=7/\∀ p∈ps,0<=p/\p<=1000000) (by rw [dh]; decide) (λx hx=>xt1 x) λys hl hys=>?_) (by decide) ?_
 ·obtain ⟨ps,rfl,hp⟩:=ZcN hys
  rw [List.length_map,dh] at hl
  exact ⟨ps,rfl,hl,hp⟩
 rintro _ ⟨ps,rfl,hpl,hp⟩
 have hns:∀ n∈a::b::ps,0<=n/\n<=1000000:=λn hn=>by
  rcases List.mem_cons.mp hn with rfl | hn
  ·omega
  rcases List.mem_cons.mp hn with rfl | hn
  ·omega
  exact hp n hn
 have eA:aJ aY (.list [.int a,.int b]) (.list (ps.map PyData.int))=.ret (.list ((a::b::ps).map PyData.int)):=kb (by rw [List.length_map,hpl]; exact dF (show 2+7<=10000 by decide))
 have hnl:(a::b::ps).length=9:=by simp [hpl]
 generalize a::b::ps=ns at *
 simp_arith [ae,ag,af,aL,eA]
 refine bY (n:=303) (by decide) (by decide) (by decide) λd d0 d1=>?_
 have rd:fB [.int (1+d)]=.ret (cD 0 (1+d)):=iy (lx (by omega) (by omega))
 simp_arith [ae,ag,af,aL,rd]
 refine dY (n:=102) (n':=200) (P:=λo=>∃ (ds:List Str) (J3:Sl),o=.next [.pen,.d (.list (ns.map PyData.int)),.own (ds.map PyData.str),J3,.un,.un,.un,.un,.un]/\ds.length<=6/\∀ u∈ds,u.length<=50) ?_ (by decide) ?_
 ·refine vg (n:=17) (λpre ρ=>∃ (ds:List Str) (J3:Sl),ρ=[.pen,.d (.list (ns.map PyData.int)),.own (ds.map PyData.str),J3,.un,.un,.un,.un,.un]/\ds.length=pre.length/\∀ u∈ds,u.length<=50) ⟨[],_,rfl,rfl,λ_ q=>by cases q⟩ (by rw [dh]; omega) ?_ ?_
  ·rintro pre x post ρ e ⟨ds,J3,rfl,hl,hn⟩
   obtain ⟨rfl,hpre⟩:=sE e
   refine ⟨_,rfl,lM (xl1 (by omega) _ _ _ _ _ _ _) (Nat.le_refl _) ?_⟩
   rintro _ ⟨u,rfl,hu⟩
   refine ⟨_,rfl,ds++[u],_,rfl,by simp [hl],λv hv=>?_⟩
   rcases List.mem_append.mp hv with hq | hq
   ·exact hn v hq
   ·rw [List.mem_singleton.mp hq]; exact hu
  ·rintro ρ ⟨ds,J3,rfl,hl,hn⟩
   exact ⟨ds,J3,rfl,by rw [hl,dh]; omega,hn⟩
 rintro _ ⟨ds,K3,rfl,hdl,hds⟩
 simp_arith [ae,ag,af,aL]
 refine bY (n:=199) (by decide) (by decide) (by decide) λe e0 e1=>?_
 have re:fB [.int (1+e)]=.ret (cD 0 (1+e)):=iy (lx (by omega) (by omega))
 simp_arith [ae,ag,af,aL,re]
 refine dY (n:=60) (n':=139) (P:=λo=>∃ (rs:List Str) (J3:Sl),o=.next [.pen,.d (.list (ns.map PyData.int)),.own (ds.map PyData.str),J3,.own (rs.map PyData.str),.un,.un,.un,.un]/\rs.length<=6/\∀ u∈rs,u.length<=50) ?_ (by decide) ?_
 ·refine vg (n:=10) (λpre ρ=>∃ (rs:List Str) (J3:Sl),ρ=[.pen,.d (.list (ns.map PyData.int)),.own (ds.map PyData.str),J3,.own (rs.map PyData.str),.un,.un,.un,.un]/\rs.length=pre.length/\∀ u∈rs,u.length<=50) ⟨[],_,rfl,rfl,λ_ q=>by cases q⟩ (by rw [dh]; omega) ?_ ?_
  ·rintro pre x post ρ e ⟨rs,J3,rfl,hl,hn⟩
   obtain ⟨rfl,hpre⟩:=sE e
   refine ⟨_,rfl,lM (xl2 (by omega) _ _ _ _ _ _ _) (Nat.le_refl _) ?_⟩
   rintro _ ⟨u,rfl,hu⟩
   refine ⟨_,rfl,rs++[u],_,rfl,by simp [hl],λv hv=>?_⟩
   rcases List.mem_append.mp hv with hq | hq
   ·exact hn v hq
   ·rw [List.mem_singleton.mp hq]; exact hu
  ·rintro ρ ⟨rs,J3,rfl,hl,hn⟩
   exact ⟨rs,J3,rfl,by rw [hl,dh]; omega,hn⟩
 rintro _ ⟨rs,K3,rfl,hrl,hrs⟩
 simp_arith [ae,ag,af,aL]
 refine bY (n:=138) (by decide) (by decide) (by decide) λf f0 f1=>?_
 have rf:fB [.int (1+f)]=.ret (cD 0 (1+f)):=iy (lx (by omega) (by omega))
 simp_arith [ae,ag,af,aL,rf]
 refine dY (n:=111) (n':=27) (P:=λo=>∃ (ls:List Str) (J3 J6:Sl),o=.next [.pen,.d (.list (ns.map PyData.int)),.own (ds.map PyData.str),J3,.own (rs.map PyData.str),.own (ls.map PyData.str),J6,.un,.un]/\ls.length<=3/\∀ u∈ls,u.length<=400) ?_ (by decide) ?_
 ·refine vg (n:=37) (λpre ρ=>∃ (ls:List Str) (J3 J6:Sl),ρ=[.pen,.d (.list (ns.map PyData.int)),.own (ds.map PyData.str),J3,.own (rs.map PyData.str),.own (ls.map PyData.str),J6,.un,.un]/\ls.length=pre.length/\∀ u∈ls,u.length<=400) ⟨[],_,_,rfl,rfl,λ_ q=>by cases q⟩ (by rw [dh]; omega) ?_ ?_
  ·rintro pre x post ρ e ⟨ls,J3,J6,rfl,hl,hn⟩
   obtain ⟨rfl,hpre⟩:=sE e
   refine ⟨_,rfl,lM (xl3 (by omega) _ _ _ _ _ _ _) (Nat.le_refl _) ?_⟩
   rintro _ ⟨u,K6,rfl,hu⟩
   refine ⟨_,rfl,ls++[u],_,_,rfl,by simp [hl],λv hv=>?_⟩
   rcases List.mem_append.mp hv with hq | hq
   ·exact hn v hq
   ·rw [List.mem_singleton.mp hq]; exact hu
  ·rintro ρ ⟨ls,J3,J6,rfl,hl,hn⟩
   exact ⟨ls,J3,J6,rfl,by rw [hl,dh]; omega,hn⟩
 rintro _ ⟨ls,K3,K6,rfl,hll,hls⟩
 have em:=q5 hns
 have hs9:small (ns.map PyData.int).length=true:=dF (by rw [List.length_map,hnl]; decide)
 have b1:=jA (n:=9) (us:=ns.map aX) λu hu=>by
  obtain ⟨n,hn,rfl⟩:=List.mem_map.mp hu
  exact (g8 (k:=7) (i:=n) (by have:=hns n hn; omega) (by decide)).2
 rw [List.length_map,hnl] at b1
 have b2:=jA hds
 have b3:=jA hrs
 have b4:=jA hls
 obtain ⟨S,hS,hS2⟩:=gL (sep:=⟨#[32]⟩) rfl (l:=ns.map aX) (by omega)
 obtain ⟨D,hD,hD2⟩:=gL (sep:=⟨#[32]⟩) rfl (l:=ds) (by omega)
 obtain ⟨R,hR,hR2⟩:=gL (sep:=⟨#[32]⟩) rfl (l:=rs) (by omega)
 obtain ⟨L,hL,hL2⟩:=gL (sep:=⟨#[10]⟩) rfl (l:=ls) (by omega)
 rw [<- dr] at hS hD hR
 rw [<- jO] at hL
 simp_arith [ae,ag,af,aL,em,hs9,hS,hD,hR]
 refine dY (n:=8) (n':=19) Zbe (by decide) ?_
 rintro _ ⟨H,rfl,hH⟩
 simp_arith [ae,ag,af,aL]
 refine bY (n:=18) (by decide) (by decide) (by decide) λg g0 g1=>?_
 obtain ⟨p1,q1⟩:=Zhe (c:="0") (n:=398+g) (by decide +kernel) (by omega) (by omega)
 generalize fE "0" (398+g)=Z at *
 have c1:=cR "1" Z (by omega) (by omega)
 generalize hW:(("1":Str)++Z)=W at *
 have hWl:W.length<=401:=by rw [<- hW,strLen_append]; omega
 have hsl:=Txt.slice_le W (some 1) none
 generalize hW1:Txt.slice W (some 1) none=W1 at *
 have c2:=cR "-" W (by omega) (by omega)
 have c3:=cL W "/3" (by omega) (by omega)
 have c4:=cR "1/7" W1 (by omega) (by omega)
 have c5:=cR "0/1@" W (by omega) (by omega)
 have c6:=cR "0,1 -" W (by omega) (by omega)
 have c7:=cL W "/7@1 0/1@0" (by omega) (by omega)
 simp_arith [ae,ag,af,aL,p1,c1,c2,dk (a:=W) (by omega),hW1,c3,c4,c5,c6,c7,hL,Zdd]
 refine dY (n:=4) (n':=14) uP (by decide) ?_
 rintro _ ⟨z,rfl,z0,z1⟩
 obtain ⟨e1,n1⟩:=g8 (k:=29) (i:=z) (by omega) (by decide)
 simp_arith [ae,ag,af,aL,e1]
 refine bY (n:=13) (by decide) (by decide) (by decide) λv v0 v1=>?_
 obtain ⟨e2,n2⟩:=g8 (k:=3) (i:=v) (by omega) (by decide)
 simp_arith [ae,ag,af,aL,e2,Zdd]
 refine cX ⟨[S,D,R,H,("-":Str)++W,W++("/3":Str),("1/7":Str)++W1,("0/1@":Str)++W,("0,1 -":Str)++W,W++("/7@1 0/1@0":Str),L,aX z,aX v,"0","1"],rfl,by simp,?_⟩
 intro u hu
 simp only [List.mem_cons,List.not_mem_nil,or_false] at hu
 rcases hu with rfl | rfl | rfl | rfl | rfl | rfl | rfl | rfl | rfl | rfl | rfl | rfl | rfl | rfl | rfl <;> (try simp only [strLen_append]) <;> omega
noncomputable def cC (f0 f1 f2 f3 f4 f5 f6 f7 f8 f9:Addr):Prop:=f1≠f0/\f2≠f0/\f2≠f1/\f3≠f0/\f3≠f1/\f3≠f2/\f4≠f0/\f4≠f1/\f4≠f2/\f4≠f3/\f5≠f0/\f5≠f1/\f5≠f2/\f5≠f3/\f5≠f4/\f6≠f0/\f6≠f1/\f6≠f2/\f6≠f3/\f6≠f4/\f6≠f5/\f7≠f0/\f7≠f1/\f7≠f2/\f7≠f3/\f7≠f4/\f7≠f5/\f7≠f6/\f8≠f0/\f8≠f1/\f8≠f2/\f8≠f3/\f8≠f4/\f8≠f5/\f8≠f6/\f8≠f7/\f9≠f0/\f9≠f1/\f9≠f2/\f9≠f3/\f9≠f4/\f9≠f5/\f9≠f6/\f9≠f7/\f9≠f8
noncomputable def hrd (o:Option PyData):PyData:=match o with
 | none=>.str "no text"
 | some d=>.list [d]
noncomputable def wN (o:Option PyData):PyData:=o.getD .none
theorem nX {α:Type} (g:α->PyData) (o:Option α):cE g o=wN (o.map g):=by cases o <;> rfl
theorem hs1:small 1=true:=dF (by decide)
section
variable {f0 f1 f2 f3 f4 f5 f6 f7 f8 f9:Addr}
theorem nn {x:Tr (Option Re)} {α:Type} {g:α->PyData} {v:Option α} (h:x=.ret (v.map λd=>.d (g d))):iu x=.ret (.d (hrd (v.map g))):=by
 rw [h]
 cases v <;> rfl
theorem ZjH (N:cC f0 f1 f2 f3 f4 f5 f6 f7 f8 f9) {t:Str} (h:t.length<=500000):eQ f0 f1 f2 f3 f4 f5 f6 f7 f8 f9 [.fn f0,.d (.str t)]=.ret (.d (hrd ((eO t).map tI))):=by
 obtain ⟨n10,n20,n21,n30,n31,n32,n40,n41,n42,n43,n50,n51,n52,n53,n54,n60,n61,n62,n63,n64,n65,n70,n71,n72,n73,n74,n75,n76,n80,n81,n82,n83,n84,n85,n86,n87,n90,n91,n92,n93,n94,n95,n96,n97,n98⟩:=N
 show iu (if f0=f0 then fS [.d (.str t)] else if f0=f1 then fT [.d (.str t)] else if f0=f2 then gA [.d (.str t)] else if f0=f3 then fv [.d (.str t)] else if f0=f4 then g5 [.d (.str t)] else .fail)=_
 rw [if_pos rfl]
 exact nn (Zfa h)
theorem ZjG (N:cC f0 f1 f2 f3 f4 f5 f6 f7 f8 f9) {t:Str} (h:t.length<=500000):eQ f0 f1 f2 f3 f4 f5 f6 f7 f8 f9 [.fn f1,.d (.str t)]=.ret (.d (hrd ((fm t).map fD))):=by
 obtain ⟨n10,n20,n21,n30,n31,n32,n40,n41,n42,n43,n50,n51,n52,n53,n54,n60,n61,n62,n63,n64,n65,n70,n71,n72,n73,n74,n75,n76,n80,n81,n82,n83,n84,n85,n86,n87,n90,n91,n92,n93,n94,n95,n96,n97,n98⟩:=N
 show iu (if f1=f0 then fS [.d (.str t)] else if f1=f1 then fT [.d (.str t)] else if f1=f2 then gA [.d (.str t)] else if f1=f3 then fv [.d (.str t)] else if f1=f4 then g5 [.d (.str t)] else .fail)=_
 rw [if_neg n10,if_pos rfl]
 exact nn (Zfe h)
theorem ZjF (N:cC f0 f1 f2 f3 f4 f5 f6 f7 f8 f9) {t:Str} (h:t.length<=500000):eQ f0 f1 f2 f3 f4 f5 f6 f7 f8 f9 [.fn f2,.d (.str t)]=.ret (.d (hrd ((bH t).map fD))):=by
 obtain ⟨n10,n20,n21,n30,n31,n32,n40,n41,n42,n43,n50,n51,n52,n53,n54,n60,n61,n62,n63,n64,n65,n70,n71,n72,n73,n74,n75,n76,n80,n81,n82,n83,n84,n85,n86,n87,n90,n91,n92,n93,n94,n95,n96,n97,n98⟩:=N
 show iu (if f2=f0 then fS [.d (.str t)] else if f2=f1 then fT [.d (.str t)] else if f2=f2 then gA [.d (.str t)] else if f2=f3 then fv [.d (.str t)] else if f2=f4 then g5 [.d (.str t)] else .fail)=_
 rw [if_neg n20,if_neg n21,if_pos rfl]
 exact nn (Zaj h)
theorem ZjE (N:cC f0 f1 f2 f3 f4 f5 f6 f7 f8 f9) {t:Str} (h:t.length<=500000):eQ f0 f1 f2 f3 f4 f5 f6 f7 f8 f9 [.fn f3,.d (.str t)]=.ret (.d (hrd ((ck t).map tI))):=by
 obtain ⟨n10,n20,n21,n30,n31,n32,n40,n41,n42,n43,n50,n51,n52,n53,n54,n60,n61,n62,n63,n64,n65,n70,n71,n72,n73,n74,n75,n76,n80,n81,n82,n83,n84,n85,n86,n87,n90,n91,n92,n93,n94,n95,n96,n97,n98⟩:=N
 show iu (if f3=f0 then fS [.d (.str t)] else if f3=f1 then fT [.d (.str t)] else if f3=f2 then gA [.d (.str t)] else if f3=f3 then fv [.d (.str t)] else if f3=f4 then g5 [.d (.str t)] else .fail)=_
 rw [if_neg n30,if_neg n31,if_neg n32,if_pos rfl]
 exact nn (Zai h)
theorem ZjD (N:cC f0 f1 f2 f3 f4 f5 f6 f7 f8 f9) {t:Str} (h:t.length<=500000):eQ f0 f1 f2 f3 f4 f5 f6 f7 f8 f9 [.fn f4,.d (.str t)]=.ret (.d (hrd ((fe t).map tD))):=by
 obtain ⟨n10,n20,n21,n30,n31,n32,n40,n41,n42,n43,n50,n51,n52,n53,n54,n60,n61,n62,n63,n64,n65,n70,n71,n72,n73,n74,n75,n76,n80,n81,n82,n83,n84,n85,n86,n87,n90,n91,n92,n93,n94,n95,n96,n97,n98⟩:=N
 show iu (if f4=f0 then fS [.d (.str t)] else if f4=f1 then fT [.d (.str t)] else if f4=f2 then gA [.d (.str t)] else if f4=f3 then fv [.d (.str t)] else if f4=f4 then g5 [.d (.str t)] else .fail)=_
 rw [if_neg n40,if_neg n41,if_neg n42,if_neg n43,if_pos rfl]
 exact nn (Ze6 h)
theorem ZfM (N:cC f0 f1 f2 f3 f4 f5 f6 f7 f8 f9):cu f0 f1 f2 f3 f4 f5 f6 f7 f8 f9 f0=m9:=by
 obtain ⟨n10,n20,n21,n30,n31,n32,n40,n41,n42,n43,n50,n51,n52,n53,n54,n60,n61,n62,n63,n64,n65,n70,n71,n72,n73,n74,n75,n76,n80,n81,n82,n83,n84,n85,n86,n87,n90,n91,n92,n93,n94,n95,n96,n97,n98⟩:=N
 unfold cu
 rw [if_pos rfl]
theorem ZfL (N:cC f0 f1 f2 f3 f4 f5 f6 f7 f8 f9):cu f0 f1 f2 f3 f4 f5 f6 f7 f8 f9 f1=na:=by
 obtain ⟨n10,n20,n21,n30,n31,n32,n40,n41,n42,n43,n50,n51,n52,n53,n54,n60,n61,n62,n63,n64,n65,n70,n71,n72,n73,n74,n75,n76,n80,n81,n82,n83,n84,n85,n86,n87,n90,n91,n92,n93,n94,n95,n96,n97,n98⟩:=N
 unfold cu
 rw [if_neg n10,if_pos rfl]
theorem ZfK (N:cC f0 f1 f2 f3 f4 f5 f6 f7 f8 f9):cu f0 f1 f2 f3 f4 f5 f6 f7 f8 f9 f2=lf:=by
 obtain ⟨n10,n20,n21,n30,n31,n32,n40,n41,n42,n43,n50,n51,n52,n53,n54,n60,n61,n62,n63,n64,n65,n70,n71,n72,n73,n74,n75,n76,n80,n81,n82,n83,n84,n85,n86,n87,n90,n91,n92,n93,n94,n95,n96,n97,n98⟩:=N
 unfold cu
 rw [if_neg n20,if_neg n21,if_pos rfl]
theorem ZfJ (N:cC f0 f1 f2 f3 f4 f5 f6 f7 f8 f9):cu f0 f1 f2 f3 f4 f5 f6 f7 f8 f9 f3=le:=by
 obtain ⟨n10,n20,n21,n30,n31,n32,n40,n41,n42,n43,n50,n51,n52,n53,n54,n60,n61,n62,n63,n64,n65,n70,n71,n72,n73,n74,n75,n76,n80,n81,n82,n83,n84,n85,n86,n87,n90,n91,n92,n93,n94,n95,n96,n97,n98⟩:=N
 unfold cu
 rw [if_neg n30,if_neg n31,if_neg n32,if_pos rfl]
theorem ZfI (N:cC f0 f1 f2 f3 f4 f5 f6 f7 f8 f9):cu f0 f1 f2 f3 f4 f5 f6 f7 f8 f9 f4=m8:=by
 obtain ⟨n10,n20,n21,n30,n31,n32,n40,n41,n42,n43,n50,n51,n52,n53,n54,n60,n61,n62,n63,n64,n65,n70,n71,n72,n73,n74,n75,n76,n80,n81,n82,n83,n84,n85,n86,n87,n90,n91,n92,n93,n94,n95,n96,n97,n98⟩:=N
 unfold cu
 rw [if_neg n40,if_neg n41,if_neg n42,if_neg n43,if_pos rfl]
theorem ZfH (N:cC f0 f1 f2 f3 f4 f5 f6 f7 f8 f9):cu f0 f1 f2 f3 f4 f5 f6 f7 f8 f9 f5=mZ:=by
 obtain ⟨n10,n20,n21,n30,n31,n32,n40,n41,n42,n43,n50,n51,n52,n53,n54,n60,n61,n62,n63,n64,n65,n70,n71,n72,n73,n74,n75,n76,n80,n81,n82,n83,n84,n85,n86,n87,n90,n91,n92,n93,n94,n95,n96,n97,n98⟩:=N
 unfold cu
 rw [if_neg n50,if_neg n51,if_neg n52,if_neg n53,if_neg n54,if_pos rfl]
theorem ZfG (N:cC f0 f1 f2 f3 f4 f5 f6 f7 f8 f9):cu f0 f1 f2 f3 f4 f5 f6 f7 f8 f9 f6=m7:=by
 obtain ⟨n10,n20,n21,n30,n31,n32,n40,n41,n42,n43,n50,n51,n52,n53,n54,n60,n61,n62,n63,n64,n65,n70,n71,n72,n73,n74,n75,n76,n80,n81,n82,n83,n84,n85,n86,n87,n90,n91,n92,n93,n94,n95,n96,n97,n98⟩:=N
 unfold cu
 rw [if_neg n60,if_neg n61,if_neg n62,if_neg n63,if_neg n64,if_neg n65,if_pos rfl]
theorem ZfF (N:cC f0 f1 f2 f3 f4 f5 f6 f7 f8 f9):cu f0 f1 f2 f3 f4 f5 f6 f7 f8 f9 f7=lc:=by
 obtain ⟨n10,n20,n21,n30,n31,n32,n40,n41,n42,n43,n50,n51,n52,n53,n54,n60,n61,n62,n63,n64,n65,n70,n71,n72,n73,n74,n75,n76,n80,n81,n82,n83,n84,n85,n86,n87,n90,n91,n92,n93,n94,n95,n96,n97,n98⟩:=N
 unfold cu
 rw [if_neg n70,if_neg n71,if_neg n72,if_neg n73,if_neg n74,if_neg n75,if_neg n76,if_pos rfl]
theorem ZfE (N:cC f0 f1 f2 f3 f4 f5 f6 f7 f8 f9):cu f0 f1 f2 f3 f4 f5 f6 f7 f8 f9 f8=jR:=by
 obtain ⟨n10,n20,n21,n30,n31,n32,n40,n41,n42,n43,n50,n51,n52,n53,n54,n60,n61,n62,n63,n64,n65,n70,n71,n72,n73,n74,n75,n76,n80,n81,n82,n83,n84,n85,n86,n87,n90,n91,n92,n93,n94,n95,n96,n97,n98⟩:=N
 unfold cu
 rw [if_neg n80,if_neg n81,if_neg n82,if_neg n83,if_neg n84,if_neg n85,if_neg n86,if_neg n87,if_pos rfl]
theorem ZfD (N:cC f0 f1 f2 f3 f4 f5 f6 f7 f8 f9):cu f0 f1 f2 f3 f4 f5 f6 f7 f8 f9 f9=mY:=by
 obtain ⟨n10,n20,n21,n30,n31,n32,n40,n41,n42,n43,n50,n51,n52,n53,n54,n60,n61,n62,n63,n64,n65,n70,n71,n72,n73,n74,n75,n76,n80,n81,n82,n83,n84,n85,n86,n87,n90,n91,n92,n93,n94,n95,n96,n97,n98⟩:=N
 unfold cu
 rw [if_neg n90,if_neg n91,if_neg n92,if_neg n93,if_neg n94,if_neg n95,if_neg n96,if_neg n97,if_neg n98,if_pos rfl]
theorem nB {rd:Addr} {t:Str} {v:Option PyData} (hv:∀ d,v=some d->da d=false/\bw iS [.list [d]]=.ret (.str (PyData.list [d]).shown)) (hh:eQ f0 f1 f2 f3 f4 f5 f6 f7 f8 f9 [.fn rd,.d (.str t)]=.ret (.d (hrd v))):lh f0 f1 f2 f3 f4 f5 f6 f7 f8 f9 [.fn rd,.d (.str t),.d (wN v)]=.ret (.d (.bool true)):=by
 cases v with
 | none =>
  have hN:da (wN none)=true:=rfl
  have hh':eQ f0 f1 f2 f3 f4 f5 f6 f7 f8 f9 [.fn rd,.d (.str t)]=.ret (.d (.str "no text")):=hh
  simp_arith [lh,ae,ag,af,hN,hh',beq_self_eq_true]
 | some d =>
  obtain ⟨h1,h2⟩:=hv d rfl
  have hN:da (wN (some d))=false:=h1
  have hw:wN (some d)=d:=rfl
  have hh':eQ f0 f1 f2 f3 f4 f5 f6 f7 f8 f9 [.fn rd,.d (.str t)]=.ret (.d (.list [d])):=hh
  rw [hw] at hN ⊢
  simp_arith [lh,ae,ag,af,hN,hh',h2,hs1,beq_self_eq_true]
theorem Zd9 {j:Nat} {tab:Addr->List Sl->Tr Re} {as:List Sl->Tr (List Sl)} {ρ:List Sl} {a:Addr} (h:ρ[j]?=some (.fn a)):jp j tab as ρ=(as ρ).bind (tab a):=by
 unfold jp
 rw [h]
theorem nA {rd sh:Addr} {t:Str} {v:Option PyData} (hr:lh f0 f1 f2 f3 f4 f5 f6 f7 f8 f9 [.fn rd,.d (.str t),.d (wN v)]=.ret (.d (.bool true)))
  (hv:∀ d,v=some d->da d=false/\cu f0 f1 f2 f3 f4 f5 f6 f7 f8 f9 rd [.d (.str t)]=.ret (.d d)/\cu f0 f1 f2 f3 f4 f5 f6 f7 f8 f9 sh [.d d]=.ret (.d (.str t))) (J1 J2:Sl):gK f0 f1 f2 f3 f4 f5 f6 f7 f8 f9 [.d (.str t),J1,J2,.fn rd,.fn sh,.d (wN v)]=.ret (.next [.d (.str t),J1,J2,.fn rd,.fn sh,.d (wN v)]):=by
 have c3:∀ {d:PyData} {tab:Addr->List Sl->Tr Re} {as:List Sl->Tr (List Sl)},jp 3 tab as [.d (.str t),J1,J2,.fn rd,.fn sh,.d d]=(as [.d (.str t),J1,J2,.fn rd,.fn sh,.d d]).bind (tab rd):=Zd9 rfl
 have c4:∀ {d:PyData} {tab:Addr->List Sl->Tr Re} {as:List Sl->Tr (List Sl)},jp 4 tab as [.d (.str t),J1,J2,.fn rd,.fn sh,.d d]=(as [.d (.str t),J1,J2,.fn rd,.fn sh,.d d]).bind (tab sh):=Zd9 rfl
 cases v with
 | none =>
  have hN:da .none=true:=rfl
  have hw:wN none=.none:=rfl
  rw [hw] at hr ⊢
  simp_arith [gK,ae,ag,af,hr,hN,Bool.not_true]
 | some d =>
  obtain ⟨h1,h2,h3⟩:=hv d rfl
  have hw:wN (some d)=d:=rfl
  rw [hw] at hr ⊢
  simp_arith [gK,ae,ag,af,hr,h1,c3,c4,h2,h3,beq_self_eq_true,Bool.not_true,Bool.not_false]
theorem Zg7 {a b c:Nat} {r1 r2 r3:List km} {s u:List Sl->Tr Ou} {A B C D E F:Sl}:jm 2 a b c r1 r2 r3 s u [A,B,C,D,E,F]=(dw r1 [A,B,C,D,E,F]).bind λx1=>(dw r2 [A,B,.un,D,E,F]).bind λx2=>(dw r3 [A,B,.un,D,E,F]).bind λx3=>(iw a b c s (x1++x2++x3) [A,B,.un,D,E,F]).bind (jm.seq1' u):=rfl
theorem mJ {d:PyData} {k n:Nat} (h:Rp d k n) (hk:k<=31) (hn:n<=9000000):bw iS [.list [d]]=.ret (.str (PyData.list [d]).shown):=ZlD (Zg4 (Zg3 h) (by omega) (by omega))
theorem Zgv {t:Str} {ns:List Int} (hn:ck t=some ns):jR [.d (tI ns)]=.ret (.d (.str t)):=by
 obtain ⟨a,b,rfl,ha,hb,e⟩:=Za1 hn
 rw [<- e]
 exact Zdk ha hb
theorem Zg1 (N:cC f0 f1 f2 f3 f4 f5 f6 f7 f8 f9) {t:Str} (h:t.length<=100000) (J1 J2:Sl):gK f0 f1 f2 f3 f4 f5 f6 f7 f8 f9 [.d (.str t),J1,J2,.fn f0,.fn f5,.d (wN ((eO t).map tI))]=.ret (.next [.d (.str t),J1,J2,.fn f0,.fn f5,.d (wN ((eO t).map tI))]):=by
 have h5:t.length<=500000:=by omega
 refine nA (nB (λd hd=>?_) (ZjH N h5)) (λd hd=>?_) J1 J2
 ·obtain ⟨x,hn,rfl⟩:=Option.map_eq_some_iff.mp hd
  exact ⟨rfl,mJ (Zgw hn) (by decide) (by omega)⟩
 ·obtain ⟨x,hn,rfl⟩:=Option.map_eq_some_iff.mp hd
  refine ⟨rfl,?_,?_⟩
  ·rw [ZfM N]
   exact ZnP h5 hn
  ·rw [ZfH N]
   exact ZnK h5 (si hn).1
theorem Zg0 (N:cC f0 f1 f2 f3 f4 f5 f6 f7 f8 f9) {t:Str} (h:t.length<=100000) (J1 J2:Sl):gK f0 f1 f2 f3 f4 f5 f6 f7 f8 f9 [.d (.str t),J1,J2,.fn f1,.fn f6,.d (wN ((fm t).map fD))]=.ret (.next [.d (.str t),J1,J2,.fn f1,.fn f6,.d (wN ((fm t).map fD))]):=by
 have h5:t.length<=500000:=by omega
 refine nA (nB (λd hd=>?_) (ZjG N h5)) (λd hd=>?_) J1 J2
 ·obtain ⟨x,hn,rfl⟩:=Option.map_eq_some_iff.mp hd
  exact ⟨rfl,mJ (Zkh hn) (by decide) (by omega)⟩
 ·obtain ⟨x,hn,rfl⟩:=Option.map_eq_some_iff.mp hd
  refine ⟨rfl,?_,?_⟩
  ·rw [ZfL N]
   exact ZnQ h5 hn
  ·rw [ZfG N]
   exact ZnL h5 (uy hn).1
theorem ZgZ (N:cC f0 f1 f2 f3 f4 f5 f6 f7 f8 f9) {t:Str} (h:t.length<=100000) (J1 J2:Sl):gK f0 f1 f2 f3 f4 f5 f6 f7 f8 f9 [.d (.str t),J1,J2,.fn f2,.fn f7,.d (wN ((bH t).map fD))]=.ret (.next [.d (.str t),J1,J2,.fn f2,.fn f7,.d (wN ((bH t).map fD))]):=by
 have h5:t.length<=500000:=by omega
 refine nA (nB (λd hd=>?_) (ZjF N h5)) (λd hd=>?_) J1 J2
 ·obtain ⟨x,hn,rfl⟩:=Option.map_eq_some_iff.mp hd
  exact ⟨rfl,mJ (Zbg hn) (by decide) (by omega)⟩
 ·obtain ⟨x,hn,rfl⟩:=Option.map_eq_some_iff.mp hd
  refine ⟨rfl,?_,?_⟩
  ·rw [ZfK N]
   exact Zdo h5 hn
  ·rw [ZfF N]
   exact Zdl h5 hn
theorem ZgY (N:cC f0 f1 f2 f3 f4 f5 f6 f7 f8 f9) {t:Str} (h:t.length<=100000) (J1 J2:Sl):gK f0 f1 f2 f3 f4 f5 f6 f7 f8 f9 [.d (.str t),J1,J2,.fn f3,.fn f8,.d (wN ((ck t).map tI))]=.ret (.next [.d (.str t),J1,J2,.fn f3,.fn f8,.d (wN ((ck t).map tI))]):=by
 have h5:t.length<=500000:=by omega
 refine nA (nB (λd hd=>?_) (ZjE N h5)) (λd hd=>?_) J1 J2
 ·obtain ⟨x,hn,rfl⟩:=Option.map_eq_some_iff.mp hd
  exact ⟨rfl,mJ (Za0 hn) (by decide) (by omega)⟩
 ·obtain ⟨x,hn,rfl⟩:=Option.map_eq_some_iff.mp hd
  refine ⟨rfl,?_,?_⟩
  ·rw [ZfJ N]
   exact Zdn h5 hn
  ·rw [ZfE N]
   exact Zgv hn
theorem ZgX (N:cC f0 f1 f2 f3 f4 f5 f6 f7 f8 f9) {t:Str} (h:t.length<=100000) (J1 J2:Sl):gK f0 f1 f2 f3 f4 f5 f6 f7 f8 f9 [.d (.str t),J1,J2,.fn f4,.fn f9,.d (wN ((fe t).map tD))]=.ret (.next [.d (.str t),J1,J2,.fn f4,.fn f9,.d (wN ((fe t).map tD))]):=by
 have h5:t.length<=500000:=by omega
 refine nA (nB (λd hd=>?_) (ZjD N h5)) (λd hd=>?_) J1 J2
 ·obtain ⟨x,hn,rfl⟩:=Option.map_eq_some_iff.mp hd
  exact ⟨rfl,mJ (ZfN hn) (by decide) (by omega)⟩
 ·obtain ⟨x,hn,rfl⟩:=Option.map_eq_some_iff.mp hd
  refine ⟨rfl,?_,?_⟩
  ·rw [ZfI N]
   exact ZnO h5 hn
  ·rw [ZfD N]
   exact ZnJ h5 hn
theorem ZnW (N:cC f0 f1 f2 f3 f4 f5 f6 f7 f8 f9) {t:Str} (h:t.length<=100000):p7 f0 f1 f2 f3 f4 f5 f6 f7 f8 f9 [.d (.str t)]=.ret (.d (.bool true)):=by
 have h5:t.length<=500000:=by omega
 have e1:=ZnV h5
 have e2:=ZnM h5
 have e3:=ZnU h5
 have e4:=Zdm h5
 have e5:=ZnI h5
 rw [nX] at e1
 rw [nX,nX] at e2 e3
 rw [nX] at e4 e5
 have k0:=Zg1 N h (.d (wN ((bH t).map fD))) .un
 have k1:=Zg0 N h (.d (wN ((bH t).map fD))) .un
 have k2:=ZgZ N h (.d (wN ((bH t).map fD))) .un
 have k3:=ZgY N h (.d (wN ((bH t).map fD))) .un
 have k4:=ZgX N h (.d (wN ((bH t).map fD))) .un
 have r1:dw [(f0,f5,(az (aB jT (am (aa 1) ap)))),(f1,f6,(az (aB ij (am (aa 1) ap))))] [.d (.str t),.d (wN ((bH t).map fD)),.un,.un,.un,.un]=.ret [(f0,f5,wN ((eO t).map tI)),(f1,f6,wN ((fm t).map fD))]:=by
  simp_arith [dw,ae,ag,af,e2,e3]
 have r2:dw [(f2,f7,(aa 1)),(f3,f8,(az (aB fK (am (aa 0) ap))))] [.d (.str t),.d (wN ((bH t).map fD)),.un,.un,.un,.un]=.ret [(f2,f7,wN ((bH t).map fD)),(f3,f8,wN ((ck t).map tI))]:=by
  simp_arith [dw,ae,ag,af,e4]
 have r3:dw [(f4,f9,(az (aB lg (am (aa 0) ap))))] [.d (.str t),.d (wN ((bH t).map fD)),.un,.un,.un,.un]=.ret [(f4,f9,wN ((fe t).map tD))]:=by
  simp_arith [dw,ae,ag,af,e5]
 have ef:iw 3 4 5 (gK f0 f1 f2 f3 f4 f5 f6 f7 f8 f9) [(f0,f5,wN ((eO t).map tI)),(f1,f6,wN ((fm t).map fD)),(f2,f7,wN ((bH t).map fD)),(f3,f8,wN ((ck t).map tI)),(f4,f9,wN ((fe t).map tD))] [.d (.str t),.d (wN ((bH t).map fD)),.un,.un,.un,.un]=.ret (.next [.d (.str t),.d (wN ((bH t).map fD)),.un,.fn f4,.fn f9,.d (wN ((fe t).map tD))]):=by
  simp only [iw,List.set,k0,k1,k2,k3,k4,Tr.ret_bind]
 unfold p7
 rw [uD (as:=[.d (.str t)]) (n:=1) rfl,show ([.d (.str t)]++List.replicate 5 .un:List Sl)=[.d (.str t),.un,.un,.un,.un,.un] from rfl]
 simp_arith [ae,ag,af,e1]
 rw [Zg7]
 simp only [List.set,r1,r2,r3,Tr.ret_bind,List.cons_append,List.nil_append,ef]
 simp_arith [jm.seq1',ae,ag,af]
theorem lq (N:cC f0 f1 f2 f3 f4 f5 f6 f7 f8 f9) {t:Str} (h:t.length<=100000) (w:PyData):Al (bh (aj 0) (sR f0 f1 f2 f3 f4 f5 f6 f7 f8 f9) [.un,.pen,.d (.str t)] w) 8 (gY (2 * t.length+5000)):=by
 simp_arith [sR,ae,ag,af,aL]
 refine dY (n:=8) (n':=0) (ZgT h) (by decide) ?_
 rintro _ ⟨u,rfl,hu⟩
 simp_arith [ae,ag,af,aL]
 exact cX ⟨u,rfl,hu⟩
theorem Zjf (N:cC f0 f1 f2 f3 f4 f5 f6 f7 f8 f9) {t:Str} (h:t.length<=100000) (A B J2 J3:Sl):uc f0 f1 f2 f3 f4 f5 f6 f7 f8 f9 [A,B,J2,J3,.d (.str t)]=.ret (.next [A,B,J2,J3,.d (.str t)]):=by
 have e:=ZnW N h
 simp_arith [uc,ae,ag,af,e,Bool.not_true]
theorem Zje (N:cC f0 f1 f2 f3 f4 f5 f6 f7 f8 f9) {t:Str} (h:t.length<=2000) (J2 J4:Sl):Al (ub f0 f1 f2 f3 f4 f5 f6 f7 f8 f9 [.un,.pen,J2,.d (.str t),J4]) 48 λo=>∃ K2 K3 K4:Sl,o=.next [.un,.pen,K2,K3,K4]:=by
 have r6:fB [.int 6]=.ret (cD 0 6):=iy rfl
 have hs6:small (cD 0 6).length=true:=dF (by rw [dh]; decide)
 simp_arith [ub,ae,ag,af,aL,r6,hs6,hs1]
 refine dY (n:=48) (n':=0) (vf (n:=8) (P:=gY 9000) (Q:=λys=>∃ us:List Str,ys=us.map PyData.str/\us.length<=6/\∀ u∈us,u.length<=9000) (by rw [dh]; decide) (λx hx=>?_) λys hl hys=>?_) (by decide) ?_
 ·refine lM (lq N (by omega) x) (Nat.le_refl _) ?_
  rintro _ ⟨u,rfl,hu⟩
  exact ⟨u,rfl,by omega⟩
 ·obtain ⟨us,rfl,hus⟩:=ZaH hys
  rw [List.length_map,dh] at hl
  exact ⟨us,rfl,by omega,hus⟩
 rintro _ ⟨us,rfl,hul,hus⟩
 have hsm:small (1+(us.map PyData.str).length)=true:=dF (by rw [List.length_map]; omega)
 have ea:aJ aY (.list [.str t]) (.list (us.map PyData.str))=.ret (.list ((t::us).map PyData.str)):=kb hsm
 simp_arith [ae,ag,af,aL,ea]
 refine vh (n:=0) (λρ=>∃ J4:Sl,ρ=[.un,.pen,J2,.d (.str t),J4]) ⟨_,rfl⟩ (by simp) ?_ ?_
 ·rintro x ρ hx ⟨K4,rfl⟩
  obtain ⟨u,hu,rfl⟩:∃ u∈t::us,PyData.str u=x:=List.mem_map.mp (show x∈(t::us).map PyData.str from hx)
  have hu':u.length<=100000:=by
   rcases List.mem_cons.mp hu with rfl | hu
   ·omega
   ·have:=hus u hu; omega
  refine ⟨_,rfl,?_⟩
  have e:=Zjf N hu' .un .pen J2 (.d (.str t))
  exact Zpy e ⟨_,rfl,_,rfl⟩
 ·rintro ρ ⟨K4,rfl⟩
  exact ⟨_,_,_,rfl⟩
theorem Zjd (N:cC f0 f1 f2 f3 f4 f5 f6 f7 f8 f9) (J2 J3 J4:Sl):Al (ua f0 f1 f2 f3 f4 f5 f6 f7 f8 f9 [.un,.pen,J2,J3,J4]) 1040 λo=>∃ K2 K3 K4:Sl,o=.next [.un,.pen,K2,K3,K4]:=by
 simp_arith [ua,ae,ag,af,aL]
 refine dY (n:=320) (n':=720) ZgM (by decide) ?_
 rintro _ ⟨us,rfl,hul,hus⟩
 simp_arith [ae,ag,af,aL]
 refine vh (n:=48) (λρ=>∃ J2 J3 J4:Sl,ρ=[.un,.pen,J2,J3,J4]) ⟨_,_,_,rfl⟩ (by rw [List.length_map]; omega) ?_ ?_
 ·rintro x ρ hx ⟨K2,K3,K4,rfl⟩
  obtain ⟨u,hu,rfl⟩:=List.mem_map.mp hx
  refine ⟨_,rfl,lM (Zje N (hus u hu) _ _) (Nat.le_refl _) ?_⟩
  rintro _ ⟨M2,M3,M4,rfl⟩
  exact ⟨_,rfl,_,_,_,rfl⟩
 ·rintro ρ ⟨K2,K3,K4,rfl⟩
  exact ⟨_,_,_,rfl⟩
theorem Zi9 (N:cC f0 f1 f2 f3 f4 f5 f6 f7 f8 f9):Al (p8 f0 f1 f2 f3 f4 f5 f6 f7 f8 f9 t5) 7000 λo=>o=.ret (.d (.bool true)):=by
 have r2:fB [.int 2]=.ret (cD 0 2):=iy rfl
 simp_arith [p8,t5,ae,ag,af,aL,r2]
 refine dY (n:=2080) (n':=0) (P:=λo=>∃ K2 K3 K4:Sl,o=.next [.un,.pen,K2,K3,K4]) ?_ (by decide) ?_
 ·refine vh (n:=1040) (λρ=>∃ J2 J3 J4:Sl,ρ=[.un,.pen,J2,J3,J4]) ⟨_,_,_,rfl⟩ (by rw [dh]; decide) ?_ ?_
  ·rintro x ρ hx ⟨J2,J3,J4,rfl⟩
   refine ⟨_,rfl,lM (Zjd N _ _ _) (Nat.le_refl _) ?_⟩
   rintro _ ⟨K2,K3,K4,rfl⟩
   exact ⟨_,rfl,_,_,_,rfl⟩
  ·rintro ρ ⟨J2,J3,J4,rfl⟩
   exact ⟨_,_,_,rfl⟩
 ·rintro _ ⟨J2,J3,J4,rfl⟩
  simp_arith [ae,ag,af,aL]
  exact cX rfl
end
end My
open PySem PySem.W PyProof.Rows L2
set_option maxRecDepth 100000 in
set_option maxHeartbeats 0 in
theorem PySem.Challenge.cw_twomarks_k53_whole_texts_by_all_readers_holds : PySem.Challenge.rw_twomarks_k53_whole_texts_by_all_readers.Holds := by
 refine My.hd ?_
 k_fill
 refine L2.Zfj (l:=PySem.Challenge.rw_twomarks_k53_whole_texts_by_all_readers) (n:=63) (k:=10) (x:="_law_script") (CX:=js) (sp:=L2.ZaN) rfl (by decide) rfl ⟨rfl,by decide,by decide,rfl⟩ (λw h Y=>PySem.W.kIn_of Y) ?F ?S ?C
 case F =>
  intro w mg fa h KX G hmg
  have d_is_whole:Def (L2.aH KX) mg "is_whole" My.oE ["thing"]:=by
   dsimp only [L2.aH]
   refine' L2.bt KX G ?a ?l ?c ?k ?b
   (case a=>k_is); (case l=>k_is); (case c=>k_is); (case k=>k_is)
   (case b=>intro _ _ _ _ _ _ us hl; obtain ⟨_,rfl⟩:=L2.bI hl; rfl)
  have d_is_whole_within:Def (L2.aH KX) mg "is_whole_within" My.oD ["thing","lowest","highest"]:=by
   dsimp only [L2.aH]
   refine' L2.bt KX G ?a ?l ?c ?k ?b
   (case a=>k_is); (case l=>k_is); (case c=>k_is); (case k=>k_is)
   (case b=>intro _ _ _ _ _ _ us hl; obtain ⟨_,_,_,rfl⟩:=L2.Zcz hl; rfl)
  have d_common_divisor:Def (L2.aH KX) mg "common_divisor" My.oG ["one","other"]:=by
   dsimp only [L2.aH]
   refine' L2.bt KX G ?a ?l ?c ?k ?b
   (case a=>k_is); (case l=>k_is); (case c=>k_is); (case k=>k_is)
   (case b=>intro _ _ _ _ _ _ us hl; obtain ⟨_,_,rfl⟩:=L2.j4 hl; rfl)
  have d_is_share:Def (L2.aH KX) mg "is_share" My.oF ["thing"]:=by
   dsimp only [L2.aH]
   refine' L2.bt KX G ?a ?l ?c ?k ?b
   (case a=>k_is); (case l=>k_is); (case c=>k_is); (case k=>k_is)
   (case b=>intro _ _ _ _ _ _ us hl; obtain ⟨_,rfl⟩:=L2.bI hl; rfl)
  have d_is_shop:Def (L2.aH KX) mg "is_shop" My.mB ["thing"]:=by
   dsimp only [L2.aH]
   refine' L2.bt KX G ?a ?l ?c ?k ?b
   (case a=>k_is); (case l=>k_is); (case c=>k_is); (case k=>k_is)
   (case b=>intro _ _ _ _ _ _ us hl; obtain ⟨_,rfl⟩:=L2.bI hl; rfl)
  have d_is_day:Def (L2.aH KX) mg "is_day" My.kR ["thing"]:=by
   dsimp only [L2.aH]
   refine' L2.bt KX G ?a ?l ?c ?k ?b
   (case a=>k_is); (case l=>k_is); (case c=>k_is); (case k=>k_is)
   (case b=>intro _ _ _ _ _ _ us hl; obtain ⟨_,rfl⟩:=L2.bI hl; rfl)
  have d_is_falls:Def (L2.aH KX) mg "is_falls" My.mD ["thing"]:=by
   dsimp only [L2.aH]
   refine' L2.bt KX G ?a ?l ?c ?k ?b
   (case a=>k_is); (case l=>k_is); (case c=>k_is); (case k=>k_is)
   (case b=>intro _ _ _ _ _ _ us hl; obtain ⟨_,rfl⟩:=L2.bI hl; rfl)
  have d_ask_text:Def (L2.aH KX) mg "ask_text" My.oH ["thing"]:=by
   dsimp only [L2.aH]
   refine' L2.bt KX G ?a ?l ?c ?k ?b
   (case a=>k_is); (case l=>k_is); (case c=>k_is); (case k=>k_is)
   (case b=>intro _ _ _ _ _ _ us hl; obtain ⟨_,rfl⟩:=L2.bI hl; rfl)
  have d_is_number:Def (L2.aH KX) mg "is_number" My.mC ["word"]:=by
   dsimp only [L2.aH]
   refine' L2.bt KX G ?a ?l ?c ?k ?b
   (case a=>k_is); (case l=>k_is); (case c=>k_is); (case k=>k_is)
   (case b=>intro _ _ _ _ _ _ us hl; obtain ⟨_,rfl⟩:=L2.bI hl; rfl)
  have d_read_number:Def (L2.aH KX) mg "read_number" My.oz ["word"]:=by
   dsimp only [L2.aH]
   refine' L2.bt KX G ?a ?l ?c ?k ?b
   (case a=>k_is); (case l=>k_is); (case c=>k_is); (case k=>k_is)
   (case b=>intro _ _ _ _ _ _ us hl; obtain ⟨_,rfl⟩:=L2.bI hl; rfl)
  have d_read_shop:Def (L2.aH KX) mg "read_shop" My.kN ["text"]:=by
   dsimp only [L2.aH]
   refine' L2.bt KX G ?a ?l ?c ?k ?b
   (case a=>k_is); (case l=>k_is); (case c=>k_is); (case k=>k_is)
   (case b=>intro _ _ _ _ _ _ us hl; obtain ⟨_,rfl⟩:=L2.bI hl; rfl)
  have d_read_rule:Def (L2.aH KX) mg "read_rule" My.kP ["text"]:=by
   dsimp only [L2.aH]
   refine' L2.bt KX G ?a ?l ?c ?k ?b
   (case a=>k_is); (case l=>k_is); (case c=>k_is); (case k=>k_is)
   (case b=>intro _ _ _ _ _ _ us hl; obtain ⟨_,rfl⟩:=L2.bI hl; rfl)
  have d_read_falls:Def (L2.aH KX) mg "read_falls" My.oA ["text"]:=by
   dsimp only [L2.aH]
   refine' L2.bt KX G ?a ?l ?c ?k ?b
   (case a=>k_is); (case l=>k_is); (case c=>k_is); (case k=>k_is)
   (case b=>intro _ _ _ _ _ _ us hl; obtain ⟨_,rfl⟩:=L2.bI hl; rfl)
  have d_read_share:Def (L2.aH KX) mg "read_share" My.kO ["text"]:=by
   dsimp only [L2.aH]
   refine' L2.bt KX G ?a ?l ?c ?k ?b
   (case a=>k_is); (case l=>k_is); (case c=>k_is); (case k=>k_is)
   (case b=>intro _ _ _ _ _ _ us hl; obtain ⟨_,rfl⟩:=L2.bI hl; rfl)
  have d_read_entry:Def (L2.aH KX) mg "read_entry" My.oB ["word"]:=by
   dsimp only [L2.aH]
   refine' L2.bt KX G ?a ?l ?c ?k ?b
   (case a=>k_is); (case l=>k_is); (case c=>k_is); (case k=>k_is)
   (case b=>intro _ _ _ _ _ _ us hl; obtain ⟨_,rfl⟩:=L2.bI hl; rfl)
  have d_read_table:Def (L2.aH KX) mg "read_table" My.kM ["text"]:=by
   dsimp only [L2.aH]
   refine' L2.bt KX G ?a ?l ?c ?k ?b
   (case a=>k_is); (case l=>k_is); (case c=>k_is); (case k=>k_is)
   (case b=>intro _ _ _ _ _ _ us hl; obtain ⟨_,rfl⟩:=L2.bI hl; rfl)
  have d_show_number:Def (L2.aH KX) mg "show_number" My.ow ["number"]:=by
   dsimp only [L2.aH]
   refine' L2.bt KX G ?a ?l ?c ?k ?b
   (case a=>k_is); (case l=>k_is); (case c=>k_is); (case k=>k_is)
   (case b=>intro _ _ _ _ _ _ us hl; obtain ⟨_,rfl⟩:=L2.bI hl; rfl)
  have d_show_shop:Def (L2.aH KX) mg "show_shop" My.mx ["shop"]:=by
   dsimp only [L2.aH]
   refine' L2.bt KX G ?a ?l ?c ?k ?b
   (case a=>k_is); (case l=>k_is); (case c=>k_is); (case k=>k_is)
   (case b=>intro _ _ _ _ _ _ us hl; obtain ⟨_,rfl⟩:=L2.bI hl; rfl)
  have d_show_rule:Def (L2.aH KX) mg "show_rule" My.my ["rule"]:=by
   dsimp only [L2.aH]
   refine' L2.bt KX G ?a ?l ?c ?k ?b
   (case a=>k_is); (case l=>k_is); (case c=>k_is); (case k=>k_is)
   (case b=>intro _ _ _ _ _ _ us hl; obtain ⟨_,rfl⟩:=L2.bI hl; rfl)
  have d_show_falls:Def (L2.aH KX) mg "show_falls" My.ox ["falls"]:=by
   dsimp only [L2.aH]
   refine' L2.bt KX G ?a ?l ?c ?k ?b
   (case a=>k_is); (case l=>k_is); (case c=>k_is); (case k=>k_is)
   (case b=>intro _ _ _ _ _ _ us hl; obtain ⟨_,rfl⟩:=L2.bI hl; rfl)
  have d_show_share:Def (L2.aH KX) mg "show_share" My.ou ["one"]:=by
   dsimp only [L2.aH]
   refine' L2.bt KX G ?a ?l ?c ?k ?b
   (case a=>k_is); (case l=>k_is); (case c=>k_is); (case k=>k_is)
   (case b=>intro _ _ _ _ _ _ us hl; obtain ⟨_,rfl⟩:=L2.bI hl; rfl)
  have d_show_entry:Def (L2.aH KX) mg "show_entry" My.oy ["entry"]:=by
   dsimp only [L2.aH]
   refine' L2.bt KX G ?a ?l ?c ?k ?b
   (case a=>k_is); (case l=>k_is); (case c=>k_is); (case k=>k_is)
   (case b=>intro _ _ _ _ _ _ us hl; obtain ⟨_,rfl⟩:=L2.bI hl; rfl)
  have d_show_table:Def (L2.aH KX) mg "show_table" My.mw ["table"]:=by
   dsimp only [L2.aH]
   refine' L2.bt KX G ?a ?l ?c ?k ?b
   (case a=>k_is); (case l=>k_is); (case c=>k_is); (case k=>k_is)
   (case b=>intro _ _ _ _ _ _ us hl; obtain ⟨_,rfl⟩:=L2.bI hl; rfl)
  have d__law_pen:Def (L2.aH KX) mg "_law_pen" My.oM ["_law_script"]:=by
   dsimp only [L2.aH]
   refine' L2.bt KX G ?a ?l ?c ?k ?b
   (case a=>k_is); (case l=>k_is); (case c=>k_is); (case k=>k_is)
   (case b=>intro _ _ _ _ _ _ us hl; obtain ⟨_,rfl⟩:=L2.bI hl; rfl)
  have d__law_draw:Def (L2.aH KX) mg "_law_draw" My.oR ["_law_pen_here","_law_most"]:=by
   dsimp only [L2.aH]
   refine' L2.bt KX G ?a ?l ?c ?k ?b
   (case a=>k_is); (case l=>k_is); (case c=>k_is); (case k=>k_is)
   (case b=>intro _ _ _ _ _ _ us hl; obtain ⟨_,_,rfl⟩:=L2.j4 hl; rfl)
  have d__law_number:Def (L2.aH KX) mg "_law_number" My.oN ["_law_pen_here"]:=by
   dsimp only [L2.aH]
   refine' L2.bt KX G ?a ?l ?c ?k ?b
   (case a=>k_is); (case l=>k_is); (case c=>k_is); (case k=>k_is)
   (case b=>intro _ _ _ _ _ _ us hl; obtain ⟨_,rfl⟩:=L2.bI hl; rfl)
  have d__law_divisor:Def (L2.aH KX) mg "_law_divisor" My.oS ["_law_one","_law_other"]:=by
   dsimp only [L2.aH]
   refine' L2.bt KX G ?a ?l ?c ?k ?b
   (case a=>k_is); (case l=>k_is); (case c=>k_is); (case k=>k_is)
   (case b=>intro _ _ _ _ _ _ us hl; obtain ⟨_,_,rfl⟩:=L2.j4 hl; rfl)
  have d__law_lowest:Def (L2.aH KX) mg "_law_lowest" My.oO ["_law_top","_law_bottom"]:=by
   dsimp only [L2.aH]
   refine' L2.bt KX G ?a ?l ?c ?k ?b
   (case a=>k_is); (case l=>k_is); (case c=>k_is); (case k=>k_is)
   (case b=>intro _ _ _ _ _ _ us hl; obtain ⟨_,_,rfl⟩:=L2.j4 hl; rfl)
  have d__law_number_of:Def (L2.aH KX) mg "_law_number_of" My.mF ["_law_word"]:=by
   dsimp only [L2.aH]
   refine' L2.bt KX G ?a ?l ?c ?k ?b
   (case a=>k_is); (case l=>k_is); (case c=>k_is); (case k=>k_is)
   (case b=>intro _ _ _ _ _ _ us hl; obtain ⟨_,rfl⟩:=L2.bI hl; rfl)
  have d__law_days_of:Def (L2.aH KX) mg "_law_days_of" My.mG ["_law_text"]:=by
   dsimp only [L2.aH]
   refine' L2.bt KX G ?a ?l ?c ?k ?b
   (case a=>k_is); (case l=>k_is); (case c=>k_is); (case k=>k_is)
   (case b=>intro _ _ _ _ _ _ us hl; obtain ⟨_,rfl⟩:=L2.bI hl; rfl)
  have d__law_heard:Def (L2.aH KX) mg "_law_heard" My.oP ["_law_read","_law_text"]:=by
   dsimp only [L2.aH]
   refine' L2.bt KX G ?a ?l ?c ?k ?b
   (case a=>k_is); (case l=>k_is); (case c=>k_is); (case k=>k_is)
   (case b=>intro _ _ _ _ _ _ us hl; obtain ⟨_,_,rfl⟩:=L2.j4 hl; rfl)
  have d__law_right:Def (L2.aH KX) mg "_law_right" My.oK ["_law_read","_law_text","_law_due"]:=by
   dsimp only [L2.aH]
   refine' L2.bt KX G ?a ?l ?c ?k ?b
   (case a=>k_is); (case l=>k_is); (case c=>k_is); (case k=>k_is)
   (case b=>intro _ _ _ _ _ _ us hl; obtain ⟨_,_,_,rfl⟩:=L2.Zcz hl; rfl)
  have d__law_bent_text:Def (L2.aH KX) mg "_law_bent_text" My.oU ["_law_pen_here","_law_text"]:=by
   dsimp only [L2.aH]
   refine' L2.bt KX G ?a ?l ?c ?k ?b
   (case a=>k_is); (case l=>k_is); (case c=>k_is); (case k=>k_is)
   (case b=>intro _ _ _ _ _ _ us hl; obtain ⟨_,_,rfl⟩:=L2.j4 hl; rfl)
  have d__law_shop_of:Def (L2.aH KX) mg "_law_shop_of" My.kS ["_law_days"]:=by
   dsimp only [L2.aH]
   refine' L2.bt KX G ?a ?l ?c ?k ?b
   (case a=>k_is); (case l=>k_is); (case c=>k_is); (case k=>k_is)
   (case b=>intro _ _ _ _ _ _ us hl; obtain ⟨_,rfl⟩:=L2.bI hl; rfl)
  have d__law_falls_of:Def (L2.aH KX) mg "_law_falls_of" My.oQ ["_law_days"]:=by
   dsimp only [L2.aH]
   refine' L2.bt KX G ?a ?l ?c ?k ?b
   (case a=>k_is); (case l=>k_is); (case c=>k_is); (case k=>k_is)
   (case b=>intro _ _ _ _ _ _ us hl; obtain ⟨_,rfl⟩:=L2.bI hl; rfl)
  have d__law_share_of:Def (L2.aH KX) mg "_law_share_of" My.mE ["_law_text"]:=by
   dsimp only [L2.aH]
   refine' L2.bt KX G ?a ?l ?c ?k ?b
   (case a=>k_is); (case l=>k_is); (case c=>k_is); (case k=>k_is)
   (case b=>intro _ _ _ _ _ _ us hl; obtain ⟨_,rfl⟩:=L2.bI hl; rfl)
  have d__law_table_of:Def (L2.aH KX) mg "_law_table_of" My.oI ["_law_text"]:=by
   dsimp only [L2.aH]
   refine' L2.bt KX G ?a ?l ?c ?k ?b
   (case a=>k_is); (case l=>k_is); (case c=>k_is); (case k=>k_is)
   (case b=>intro _ _ _ _ _ _ us hl; obtain ⟨_,rfl⟩:=L2.bI hl; rfl)
  have d__law_share_text:Def (L2.aH KX) mg "_law_share_text" My.oJ ["_law_pen_here"]:=by
   dsimp only [L2.aH]
   refine' L2.bt KX G ?a ?l ?c ?k ?b
   (case a=>k_is); (case l=>k_is); (case c=>k_is); (case k=>k_is)
   (case b=>intro _ _ _ _ _ _ us hl; obtain ⟨_,rfl⟩:=L2.bI hl; rfl)
  have d__law_texts:Def (L2.aH KX) mg "_law_texts" My.hI ["_law_pen_here"]:=by
   dsimp only [L2.aH]
   refine' L2.bt KX G ?a ?l ?c ?k ?b
   (case a=>k_is); (case l=>k_is); (case c=>k_is); (case k=>k_is)
   (case b=>intro _ _ _ _ _ _ us hl; obtain ⟨_,rfl⟩:=L2.bI hl; rfl)
  have d__law_all_right:Def (L2.aH KX) mg "_law_all_right" My.oV ["_law_text"]:=by
   dsimp only [L2.aH]
   refine' L2.bt KX G ?a ?l ?c ?k ?b
   (case a=>k_is); (case l=>k_is); (case c=>k_is); (case k=>k_is)
   (case b=>intro _ _ _ _ _ _ us hl; obtain ⟨_,rfl⟩:=L2.bI hl; rfl)
  have d_law:Def (L2.aH KX) mg "law" My.kQ ["_law_script"]:=by
   dsimp only [L2.aH]
   refine' L2.bt KX G ?a ?l ?c ?k ?b
   (case a=>k_is); (case l=>k_is); (case c=>k_is); (case k=>k_is)
   (case b=>intro _ _ _ _ _ _ us hl; obtain ⟨_,rfl⟩:=L2.bI hl; rfl)
  have x_err:∃ C D a0 a1 a2 a3 a4 a5 a6:Addr,mg "NoText"=some (.ref C)/\mg "ShopError"=some (.ref D)/\mg "NoBack"=some (.ref a0)/\mg "NoFall"=some (.ref a1)/\mg "NoLevel"=some (.ref a2)/\mg "NoMean"=some (.ref a3)/\mg "NoRow"=some (.ref a4)/\mg "NoShare"=some (.ref a5)/\mg "NoStand"=some (.ref a6)/\L2.Exc (L2.aH KX) C D [a0,a1,a2,a3,a4,a5,a6]:=by
   dsimp only [L2.aH]
   refine' My.ZnE KX G ?c ?d ?z0 ?z1 ?z2 ?z3 ?z4 ?z5 ?z6 ?q ?q2 ?u ?v ?y
   (case c=>k_is); (case d=>k_is); (case z0=>k_is); (case z1=>k_is); (case z2=>k_is); (case z3=>k_is); (case z4=>k_is); (case z5=>k_is); (case z6=>k_is)
   (case q=>kernel_rfl!); (case q2=>kernel_rfl!); (case u=>kernel_rfl!); (case v=>kit_is); (case y=>kit_is)
  have T:My.Txt (L2.aH KX) mg:=by
   dsimp only [L2.aH] at *
   refine' My.Zfw KX G ?z_len ?z_abs ?z_max ?z_min ?z_repr ?z_int ?z_list ?z_tuple ?z_str ?z_bool ?z_range ?z_isinstance ?z_all ?z_any ?z_ValueError ?z_divmod ?z_TOP ?z_DEPTH ?z_SHOP_NUMBERS ?z_MOST_REACH ?z_MOST_PRICE ?z_MOST_WEIGHTS ?z_MOST_WEIGHT ?z_MOST_DAYS ?z_MOST_FIGURES ?z_PART_FIGURES ?z_FIGURES ?z_PART d_is_whole d_is_whole_within d_common_divisor d_is_share d_is_shop d_is_day d_is_falls d_ask_text d_is_number d_read_number d_read_shop d_read_rule d_read_falls d_read_share d_read_entry d_read_table d_show_number d_show_shop d_show_rule d_show_falls d_show_share d_show_entry d_show_table d__law_pen d__law_draw d__law_number d__law_divisor d__law_lowest d__law_number_of d__law_days_of d__law_heard d__law_right d__law_bent_text d__law_shop_of d__law_falls_of d__law_share_of d__law_table_of d__law_share_text d__law_texts d__law_all_right d_law x_err
   (case z_len=>k_is)
   (case z_abs=>k_is)
   (case z_max=>k_is)
   (case z_min=>k_is)
   (case z_repr=>k_is)
   (case z_int=>k_is)
   (case z_list=>k_is)
   (case z_tuple=>k_is)
   (case z_str=>k_is)
   (case z_bool=>k_is)
   (case z_range=>k_is)
   (case z_isinstance=>k_is)
   (case z_all=>k_is)
   (case z_any=>k_is)
   (case z_ValueError=>k_is)
   (case z_divmod=>k_is)
   (case z_TOP=>k_is)
   (case z_DEPTH=>k_is)
   (case z_SHOP_NUMBERS=>k_is)
   (case z_MOST_REACH=>k_is)
   (case z_MOST_PRICE=>k_is)
   (case z_MOST_WEIGHTS=>k_is)
   (case z_MOST_WEIGHT=>k_is)
   (case z_MOST_DAYS=>k_is)
   (case z_MOST_FIGURES=>k_is)
   (case z_PART_FIGURES=>k_is)
   (case z_FIGURES=>k_is)
   (case z_PART=>k_is)
  obtain ⟨f_read_shop,fd_read_shop,F_read_shop,hm_read_shop,_⟩:=T.uL.ex
  obtain ⟨f_read_falls,fd_read_falls,F_read_falls,hm_read_falls,_⟩:=T.uO.ex
  obtain ⟨f_read_rule,fd_read_rule,F_read_rule,hm_read_rule,_⟩:=T.uN.ex
  obtain ⟨f_read_share,fd_read_share,F_read_share,hm_read_share,_⟩:=T.uM.ex
  obtain ⟨f_read_table,fd_read_table,F_read_table,hm_read_table,_⟩:=T.uK.ex
  obtain ⟨f_show_shop,fd_show_shop,F_show_shop,hm_show_shop,_⟩:=T.ZdL.ex
  obtain ⟨f_show_falls,fd_show_falls,F_show_falls,hm_show_falls,_⟩:=T.ZdO.ex
  obtain ⟨f_show_rule,fd_show_rule,F_show_rule,hm_show_rule,_⟩:=T.ZdN.ex
  obtain ⟨f_show_share,fd_show_share,F_show_share,hm_show_share,_⟩:=T.ZdM.ex
  obtain ⟨f_show_table,fd_show_table,F_show_table,hm_show_table,_⟩:=T.ZdK.ex
  obtain ⟨f,fd,F,hm,_⟩:=T.Zof.ex
  have e0:=hmg.symm.trans hm
  cases e0
  refine ⟨fd,?_,λbase _ _=>My.Ziq T hm_read_shop hm_read_falls hm_read_rule hm_read_share hm_read_table hm_show_shop hm_show_falls hm_show_rule hm_show_share hm_show_table F (L2.Tr.ok_mono (L2.Tr.all_ok (My.Zi9 ⟨(L2.bj F_read_falls F_read_shop (by decide +kernel)),(L2.bj F_read_rule F_read_shop (by decide +kernel)),(L2.bj F_read_rule F_read_falls (by decide +kernel)),(L2.bj F_read_share F_read_shop (by decide +kernel)),(L2.bj F_read_share F_read_falls (by decide +kernel)),(L2.bj F_read_share F_read_rule (by decide +kernel)),(L2.bj F_read_table F_read_shop (by decide +kernel)),(L2.bj F_read_table F_read_falls (by decide +kernel)),(L2.bj F_read_table F_read_rule (by decide +kernel)),(L2.bj F_read_table F_read_share (by decide +kernel)),(L2.bj F_show_shop F_read_shop (by decide +kernel)),(L2.bj F_show_shop F_read_falls (by decide +kernel)),(L2.bj F_show_shop F_read_rule (by decide +kernel)),(L2.bj F_show_shop F_read_share (by decide +kernel)),(L2.bj F_show_shop F_read_table (by decide +kernel)),(L2.bj F_show_falls F_read_shop (by decide +kernel)),(L2.bj F_show_falls F_read_falls (by decide +kernel)),(L2.bj F_show_falls F_read_rule (by decide +kernel)),(L2.bj F_show_falls F_read_share (by decide +kernel)),(L2.bj F_show_falls F_read_table (by decide +kernel)),(L2.bj F_show_falls F_show_shop (by decide +kernel)),(L2.bj F_show_rule F_read_shop (by decide +kernel)),(L2.bj F_show_rule F_read_falls (by decide +kernel)),(L2.bj F_show_rule F_read_rule (by decide +kernel)),(L2.bj F_show_rule F_read_share (by decide +kernel)),(L2.bj F_show_rule F_read_table (by decide +kernel)),(L2.bj F_show_rule F_show_shop (by decide +kernel)),(L2.bj F_show_rule F_show_falls (by decide +kernel)),(L2.bj F_show_share F_read_shop (by decide +kernel)),(L2.bj F_show_share F_read_falls (by decide +kernel)),(L2.bj F_show_share F_read_rule (by decide +kernel)),(L2.bj F_show_share F_read_share (by decide +kernel)),(L2.bj F_show_share F_read_table (by decide +kernel)),(L2.bj F_show_share F_show_shop (by decide +kernel)),(L2.bj F_show_share F_show_falls (by decide +kernel)),(L2.bj F_show_share F_show_rule (by decide +kernel)),(L2.bj F_show_table F_read_shop (by decide +kernel)),(L2.bj F_show_table F_read_falls (by decide +kernel)),(L2.bj F_show_table F_read_rule (by decide +kernel)),(L2.bj F_show_table F_read_share (by decide +kernel)),(L2.bj F_show_table F_read_table (by decide +kernel)),(L2.bj F_show_table F_show_shop (by decide +kernel)),(L2.bj F_show_table F_show_falls (by decide +kernel)),(L2.bj F_show_table F_show_rule (by decide +kernel)),(L2.bj F_show_table F_show_share (by decide +kernel))⟩).out (by decide)) λ_ _ h=>h.2)⟩
  obtain ⟨oc,od,kV,doc,pm,an,cdv,ct,osl,rfl,lk,hcd⟩:=F.ex
  exact λs u=>.of_eq rfl
 case S=>exact λK H a ns hl _ hS=>⟨a,ns,rfl,hS,hl,λ_=>rfl⟩
 case C=>exact λ_ _ _ _ z=>z
