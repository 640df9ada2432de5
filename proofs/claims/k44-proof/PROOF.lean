import PyProof.Rows.All
import Wide.All
import OpenK.AllK
import Wide.FinOn
import Lean
import PyProof.EqAt
import PyProof.EqKinds
import PyProof.TupleCall
import PySem.Challenge.RW_twomarks_k44_whole_orders_under_way
set_option Elab.async false
set_option linter.all false
set_option maxRecDepth 100000
set_option maxHeartbeats 0
noncomputable abbrev My.vw : PySem.Program := PySem.W.view
 PySem.Challenge.rw_twomarks_k44_whole_orders_under_way.row.prog [1, 2, 3, 5, 6, 8, 9, 10, 11, 12, 13, 14, 15, 16, 17, 18, 19, 20, 22, 24, 26, 27, 28, 29, 30, 31, 32, 33, 34, 35, 36, 37, 39, 40, 41, 42, 43, 44, 45, 46, 47, 48, 49, 50, 51, 52, 53, 54, 55, 56]
open PySem PySem.W in
theorem My.hd_l {p q:Program} {loose:List Str} {Xt:Shared->Bool} {α:Type} {Yf:Shared->α} {Ya:World->α} {N:Nat} (a:∀ w,(openEnds treeTable p w N).map (λs=>openSeen q loose (importedModules p.main.body) Xt true s)=some (openGood q loose)) (b:∀ w,(openEnds treeTable p w N).map Yf=some (Ya w)):LeftO p q loose Xt Yf Ya N:=λw=>by
 have h:=a w
 have g:=b w
 cases e:openEnds treeTable p w N with
 | none=>rw [e] at h;exact nomatch h
 | some s=>rw [e,Option.map_some] at h g;rw [Option.map_some,Option.some.inj h,Option.some.inj g]
theorem My.hd_b {A B C H:Prop} (f:A->B->C->H) (p:A∧B∧C):H:=f p.1 p.2.1 p.2.2
local macro_rules
 | `(tactic| o_head $H:term) => `(tactic| (
  refine My.hd_b (λa b c => PySem.W.holds_open (q := My.vw) (loose := [])
   (Xt := λs => PySem.W.xlAt My.vw [] s && PySem.W.recOk
    (PySem.W.RowW.records PySem.Challenge.rw_twomarks_k44_whole_orders_under_way.row.toRowW) s)
   (XP := PySem.W.XL My.vw []) (Yf := ($H).obs)
   (Ya := ($H).val) (YP := ($H).says) (N := 20000) (My.hd_l a b)
   ($H).of ($H).keeps (λs e => PySem.W.xl_of s
    (Bool.and_eq_true_iff.mp e).1) PySem.W.XL.keeps
   (by rfl) (by rfl) (by rfl)
   (λs e => PySem.W.recFacts_of
    (Bool.and_eq_true_iff.mp e).2)
   (by rfl) ?k1 (by decide +kernel)
   ⟨rfl, rfl, rfl, rfl, rfl, by decide +kernel⟩ ?hw c) ?hc
  (case k1 => assumption)))
open_top My.hd_0 for PySem.Challenge.rw_twomarks_k44_whole_orders_under_way
noncomputable def My.hd_1:=λb c=>My.hd_0 ⟨λw=>by kernel_rfl,b,c⟩
noncomputable def My.hd:=λc=>My.hd_1 (λw=>by kernel_rfl) c
set_option maxHeartbeats 4000000
namespace L2
open PySem PySem.Spec PyProof.Rows
noncomputable abbrev aZ:=Sum Int Str
noncomputable def jp:aZ->Value->Bool
 | .inl k,v=>Value.isInt k v
 | .inr x,v=>Value.isStrOf x v
noncomputable def Zi6 (w:World):aZ->Int
 | .inl k=>hashInt k
 | .inr x=>hashStr w x
theorem gx:∀ {k:aZ} {v:Value},jp k v=true->(∃ i t,k=Sum.inl i/\v=Value.int i t)\/(∃ x t,k=Sum.inr x/\v=Value.str x t)
 | .inl i,v,h=>by
  obtain ⟨t,e⟩:=Value.isInt_shape (k:=i) (v:=v) h
  exact .inl ⟨i,t,rfl,e⟩
 | .inr x,v,h=>by
  obtain ⟨t,e⟩:=Value.isStrOf_shape (x:=x) (v:=v) h
  exact .inr ⟨x,t,rfl,e⟩
theorem Zi5 (i:Int) (t:Tok):jp (.inl i) (.int i t)=true:=by simp [jp,Value.isInt]
theorem Zi4 (x:Str) (t:Tok):jp (.inr x) (.str x t)=true:=by simp [jp,Value.isStrOf]
theorem Zi3 (a b:Int):decide ((Sum.inl a:aZ)=Sum.inl b)=(a == b):=by
 by_cases e:a=b
 ·subst e; simp
 ·have h:¬ (Sum.inl a:aZ)=Sum.inl b:=λq=>e (Sum.inl.inj q)
  rw [decide_eq_false h]
  exact (beq_eq_false_iff_ne.mpr e).symm
theorem Zi0 (a b:Str):decide ((Sum.inr a:aZ)=Sum.inr b)=decide (a=b):=by
 by_cases e:a=b
 ·subst e; simp
 ·have h:¬ (Sum.inr a:aZ)=Sum.inr b:=λq=>e (Sum.inr.inj q)
  rw [decide_eq_false h,decide_eq_false e]
theorem Zi2 (a:Int) (b:Str):decide ((Sum.inl a:aZ)=Sum.inr b)=false:=decide_eq_false (λq=>nomatch q)
theorem Zi1 (a:Str) (b:Int):decide ((Sum.inr a:aZ)=Sum.inl b)=false:=decide_eq_false (λq=>nomatch q)
noncomputable def cU (prog:Program) (w:World):PySem.KeyKind prog w aZ where
 is:=jp
 hash:=Zi6 w
 inj:=λv a b ha hb=>by
  rcases gx ha with ⟨i,t,rfl,rfl⟩ | ⟨x,t,rfl,rfl⟩
  ·rcases gx hb with ⟨j,u,rfl,e⟩ | ⟨y,u,rfl,e⟩
   ·injection e with e1 _; rw [e1]
   ·exact nomatch e
  ·rcases gx hb with ⟨j,u,rfl,e⟩ | ⟨y,u,rfl,e⟩
   ·exact nomatch e
   ·injection e with e1 _; rw [e1]
 byValue:=λk v h=>by
  rcases gx h with ⟨i,t,rfl,rfl⟩ | ⟨x,t,rfl,rfl⟩ <;> rfl
 pyHash:=λhv h=>by
  rcases gx hv with ⟨i,t,rfl,rfl⟩ | ⟨x,t,rfl,rfl⟩
  ·exact wpAny_pyHash_int h
  ·exact wpAny_pyHash_str h
 eqBool:=λhu hv h=>by
  rcases gx hu with ⟨i,t,rfl,rfl⟩ | ⟨x,t,rfl,rfl⟩
  ·rcases gx hv with ⟨j,u,rfl,rfl⟩ | ⟨y,u,rfl,rfl⟩
   ·rw [Zi3] at h; exact wpAny_eqBool_int h
   ·rw [Zi2] at h; exact SeqAt.EqAt.int_str i t y u _ _ _ _ h
  ·rcases gx hv with ⟨j,u,rfl,rfl⟩ | ⟨y,u,rfl,rfl⟩
   ·rw [Zi1] at h; exact SeqAt.EqAt.str_int x t j u _ _ _ _ h
   ·rw [Zi0] at h; exact wpAny_eqBool_str h
 «strs»:=λk x t v h=>by
  rcases gx h with ⟨i,u,rfl,e⟩ | ⟨y,u,rfl,e⟩
  ·exact nomatch e
  ·injection e with e1 _
   subst e1
   cases v <;> rfl
theorem ZcH (prog:Program) (w:World) (i:Int) (t:Tok):(cU prog w).is (.inl i) (.int i t)=true:=Zi5 i t
theorem Ziz (prog:Program) (w:World) (x:Str) (t:Tok):(cU prog w).is (.inr x) (.str x t)=true:=Zi4 x t
inductive V where
 | non | bl (b:Bool) | int (i:Int) | str (x:Str) | byt (b:Array UInt8) | flt (b:UInt64) | ref (a:Addr) | ty (n:String)
 deriving DecidableEq
noncomputable def RelV:V->Value->Prop
 | .non,u=>u=Value.none
 | .bl b,u=>u=Value.bool b
 | .int i,u=>∃ t,u=Value.int i t
 | .str x,u=>∃ t,u=Value.str x t
 | .byt b,u=>∃ t,u=Value.bytes b t
 | .flt b,u=>∃ t,u=Value.float b t
 | .ref a,u=>u=Value.ref a
 | .ty n,u=>u=Value.type n
noncomputable abbrev Vals:List V->List Value->Prop:=Paired RelV
theorem Vals.length {xs:List V} {us:List Value} (r:Vals xs us):xs.length=us.length:=Paired.length r
theorem Vals.get {xs:List V} {us:List Value} {i:Nat} {x:V} (h:Vals xs us) (e:xs[i]?=some x):∃ u,us[i]?=some u/\RelV x u:=by
 induction h generalizing i with
 | nil=>cases e
 | cons r t ih=>cases i with | zero=>cases e; exact ⟨_,rfl,r⟩ | succ i=>exact ih (i:=i) e
theorem Vals.set {x:V} {u:Value} (r:RelV x u) {xs:List V} {us:List Value} (i:Nat) (h:Vals xs us):Vals (xs.set i x) (us.set i u):=by
 induction h generalizing i with
 | nil=>exact .nil
 | cons q t ih=>cases i with | zero=>exact .cons r t | succ i=>exact .cons q (ih i)
theorem Vals.append {xs ys:List V} {us ws:List Value} (h:Vals xs us) (s:Vals ys ws):Vals (xs++ys) (us++ws):=by
 induction h with
 | nil=>exact s
 | cons r t ih=>exact .cons r ih
theorem Vals.take {xs:List V} {us:List Value} (n:Nat) (h:Vals xs us):Vals (xs.take n) (us.take n):=by
 induction h generalizing n with
 | nil=>rw [List.take_nil,List.take_nil]; exact .nil
 | cons r t ih=>cases n with | zero=>exact .nil | succ n=>exact .cons r (ih n)
theorem Vals.drop {xs:List V} {us:List Value} (n:Nat) (h:Vals xs us):Vals (xs.drop n) (us.drop n):=by
 induction h generalizing n with
 | nil=>rw [List.drop_nil,List.drop_nil]; exact .nil
 | cons r t ih=>cases n with | zero=>exact .cons r t | succ n=>exact ih n
noncomputable def RelO:Option V->Option Value->Prop
 | some v,some u=>RelV v u
 | none,none=>True
 | _,_=>False
noncomputable def KV {κ:Type}:List (κ×V)->List (κ×Value)->Prop:=Paired λ(p:κ×V) (q:κ×Value)=>p.1=q.1/\RelV p.2 q.2
noncomputable def kV:aZ->V
 | .inl i=>.int i
 | .inr x=>.str x
inductive HO where
 /-- a list -/
 | lst (xs:List V)
 /-- a tuple (never changes) -/
 | tup (xs:List V)
 /-- a dict whose keys are ints and texts; one whose keys are tuples of ints and texts (the empty one is both) -/
 | dK (kvs:List (aZ×V)) | dT (kvs:List (List aZ×V))
 /-- a set of ints: its members,its size -/
 | set (S:Int->Bool) (n:Nat)
 /-- an instance of the class at C,its dict at dx,its attributes -/
 | ins (C dx:Addr) (fs:List (Str×V))
 /-- the dict of the instance at x -/
 | own (x:Addr)
 /-- the dict of an exception -/
 | xd (fs:List (Str×V))
 /-- a bound method,f of x -/
 | met (f x:Addr)
 /-- a range object lo,lo+1,.. below hi -/
 | rng (lo hi:Int)
 /-- a thing that is known to the object (the script; a dict while a loop walks it): read,never written while it is so -/
 | frz (o:Obj) (u:HO)
 /-- a code object's table -/
 | tbl (ps:Array Value)
 /-- any other thing,by what is true of its one object (a def of one's own: SetO a S n:=HO.ext λh=>..) -/
 | ext (φ:Heap->Prop)
 | cod (ps:Array Value)
noncomputable abbrev Hp:=Addr->Option HO
noncomputable def upd (H:Hp) (a:Addr) (o:HO):Hp:=λb=>if b=a then some o else H b
theorem bT {H:Hp} {a:Addr} {o:HO}:upd H a o a=some o:=by unfold upd; rw [if_pos rfl]
theorem az {H:Hp} {a b:Addr} {o:HO} (h:b≠a):upd H a o b=H b:=by unfold upd; rw [if_neg h]
theorem cw {H:Hp} {a b:Addr} {o:HO} (h:H a=some o) (h':H b=none):a≠b:=by
 intro e; subst e; rw [h] at h'; cases h'
section
variable (P:Program) (w:World)
noncomputable def ObjOk (H:Hp) (h:Heap) (a:Addr):HO->Prop
 | .lst xs=>xs.length<=sizeLine/\∃ (its:List Value) (n:Nat),Vals xs its/\h.get? a=some { cls:=.type "list",data:=.seq its.toArray n }
 | .tup xs=>xs.length<=sizeLine/\∃ its:List Value,Vals xs its/\IsTup h a its.toArray
 | .dK kvs=>kvs.length<=sizeLine/\(a == sysModules)=false/\∃ vs,KV kvs vs/\h.DictOf (cU P w) a vs
 | .dT kvs=>kvs.length<=sizeLine/\(a == sysModules)=false/\∃ xs:List (List aZ×Addr×Value),
   Paired (λ(p:List aZ×V) (q:List aZ×Addr×Value)=>p.1=q.1/\H q.2.1=some (.tup (p.1.map kV))/\RelV p.2 q.2.2) kvs xs /\
   ∃ o es ep,h.get? a=some o/\o.ExactDict/\o.data=.dict es ep/\es.toList=xs.map (entryOfKey (tupleKind (cU P w)))/\(xs.map (·.1)).Nodup
 | .set S n=>h.SetOf (intKind P w) a S n
 | .ins C dx fs=>H dx=some (.own a)/\fs.length<=1000/\dx≠a/\h.get? a=some (PySem.W.instObj C dx) /\
   ∃ mA,h.Ns1 dx mA/\(∀ f,RelO (fs.lookup f) (mA f))/\PySem.Within mA (fs.map (·.1))
 | .own _=>∃ o,h.get? a=some o
 | .xd fs=>∃ mA,h.Ns1 a mA/\∀ f,RelO (fs.lookup f) (mA f)
 | .rng lo hi=>∃ t u v,h.get? a=some { cls:=.type "range",data:=.fields #[.int lo t,.int hi u,.int 1 v] }
 | .frz o u=>h.get? a=some o/\ObjOk H h a u
 | .tbl ps=>h.get? a=some { cls:=.none,data:=.fields ps }
 | .met f x=>h.get? a=some (PySem.W.methodObj (.ref f) (.ref x))
 | .ext φ=>φ h/\(∃ o,h.get? a=some o)/\∀ h1 h2:Heap,φ h1->(∀ o,h1.get? a=some o->h2.get? a=some o)->φ h2
 | .cod ps=>∃ more:Array Value,h.get? a=some { cls:=.none,data:=.fields (ps++more) }/\PySem.TriplesOk (ps++more).toList/\∀ (po:Pos) (v:Value),codeAmong po (ps++more).toList=some v->∃ (c:Addr) (ob:Obj) (vs:Array Value) (q:Str) (t:Tok),v=.ref c/\H c=some (.frz ob (.own 0))/\ob.data=.fields vs/\vs[1]?=some (.str q t)
noncomputable def HOk (H:Hp) (h:Heap):Prop:=∀ a o,H a=some o->ObjOk P w H h a o
end
section
variable {P:Program} {w:World} {H H':Hp} {h h':Heap} {a:Addr} {o:HO}
theorem ObjOk.lt (x:ObjOk P w H h a o):a < h.objs.size:=by
 cases o with
 | lst xs=>obtain ⟨_,_,_,_,e⟩:=x; exact Heap.lt_size e
 | tup xs=>obtain ⟨_,_,_,p⟩:=x; exact p.lt
 | dK kvs=>obtain ⟨_,_,_,_,o,_,_,e,_⟩:=x; exact Heap.lt_size e
 | dT kvs=>obtain ⟨_,_,_,_,o,_,_,e,_⟩:=x; exact Heap.lt_size e
 | set S n=>obtain ⟨o,_,_,_,e,_⟩:=x; exact Heap.lt_size e
 | ins C dx fs=>obtain ⟨_,_,_,e,_⟩:=x; exact Heap.lt_size e
 | own y=>obtain ⟨_,e⟩:=x; exact Heap.lt_size e
 | xd fs=>obtain ⟨_,⟨_,_,_,e,_⟩,_⟩:=x; exact Heap.lt_size e
 | rng lo hi=>obtain ⟨_,_,_,e⟩:=x; exact Heap.lt_size e
 | frz ob u=>obtain ⟨e,_⟩:=x; exact Heap.lt_size e
 | tbl ps=>exact Heap.lt_size (show h.get? a=some _ from x)
 | met f y=>exact Heap.lt_size (show h.get? a=some _ from x)
 | ext φ=>obtain ⟨_,⟨_,e⟩,_⟩:=x; exact Heap.lt_size e
 | cod ps=>obtain ⟨_,e,_⟩:=x; exact Heap.lt_size e
theorem Paired.mapP {α β:Type} {F G:α->β->Prop} {l₁:List α} {l₂:List β} (h:Paired F l₁ l₂) (f:∀ a b,F a b->G a b):Paired G l₁ l₂:=by
 induction h with
 | nil=>exact .nil
 | cons r t ih=>exact .cons (f _ _ r) ih
theorem ObjOk.stay (x:ObjOk P w H h a o) (k:∀ b u,(b=a\/H b=some (.own a))->h.get? b=some u->h'.get? b=some u)
  (ho:∀ b,H b=some (.own a)->H' b=some (.own a)) (ht:∀ b xs,H b=some (.tup xs)->H' b=some (.tup xs)) (hf:∀ b ob u vs,H b=some (.frz ob u)->ob.data=.fields vs->H' b=some (.frz ob u)):ObjOk P w H' h' a o:=by
 induction o with
 | lst xs=>obtain ⟨z,its,n,r,e⟩:=x; exact ⟨z,its,n,r,k _ _ (.inl rfl) e⟩
 | tup xs=>obtain ⟨z,its,r,ob,e,c⟩:=x; exact ⟨z,its,r,ob,k _ _ (.inl rfl) e,c⟩
 | dK kvs=>obtain ⟨z,y,vs,r,ob,es,ep,e,c⟩:=x; exact ⟨z,y,vs,r,ob,es,ep,k _ _ (.inl rfl) e,c⟩
 | dT kvs =>
  obtain ⟨z,y,xs,r,ob,es,ep,e,c⟩:=x
  exact ⟨z,y,xs,Paired.mapP r λp q z=>⟨z.1,ht _ _ z.2.1,z.2.2⟩,ob,es,ep,k _ _ (.inl rfl) e,c⟩
 | set S n=>obtain ⟨ob,es,ep,t,e,c⟩:=x; exact ⟨ob,es,ep,t,k _ _ (.inl rfl) e,c⟩
 | ins C dx fs =>
  obtain ⟨d,z,ne,e,mA,⟨od,es,ep,e2,c⟩,r⟩:=x
  exact ⟨ho _ d,z,ne,k _ _ (.inl rfl) e,mA,⟨od,es,ep,k _ _ (.inr d) e2,c⟩,r⟩
 | own y=>obtain ⟨ob,e⟩:=x; exact ⟨ob,k _ _ (.inl rfl) e⟩
 | xd fs=>obtain ⟨mA,⟨od,es,ep,e,c⟩,r⟩:=x; exact ⟨mA,⟨od,es,ep,k _ _ (.inl rfl) e,c⟩,r⟩
 | rng lo hi=>obtain ⟨t,u,v,e⟩:=x; exact ⟨t,u,v,k _ _ (.inl rfl) e⟩
 | frz ob u ih=>obtain ⟨e,q⟩:=x; exact ⟨k _ _ (.inl rfl) e,ih q⟩
 | tbl ps =>
  have e:h.get? a=some { cls:=.none,data:=.fields ps }:=x
  show h'.get? a=some { cls:=.none,data:=.fields ps }
  exact k a _ (.inl rfl) e
 | met f y =>
  have e:h.get? a=some (PySem.W.methodObj (.ref f) (.ref y)):=x
  show h'.get? a=some (PySem.W.methodObj (.ref f) (.ref y))
  exact k a _ (.inl rfl) e
 | ext φ=>obtain ⟨p,⟨o,e⟩,st⟩:=x; exact ⟨st _ _ p λo q=>k _ _ (.inl rfl) q,⟨o,k _ _ (.inl rfl) e⟩,st⟩
 | cod ps =>
  obtain ⟨more,e,tr,al⟩:=x
  refine ⟨more,k _ _ (.inl rfl) e,tr,λpo v hv=>?_⟩
  obtain ⟨c,ob,vs,q,t,r1,r2,r3⟩:=al po v hv
  exact ⟨c,ob,vs,q,t,r1,hf _ _ _ _ r2 r3.1,r3⟩
theorem HOk.lt (x:HOk P w H h) (e:H a=some o):a < h.objs.size:=(x a o e).lt
theorem HOk.fresh (x:HOk P w H h) (e:h.objs.size<=a):H a=none:=by
 cases q:H a with
 | none=>rfl
 | some u=>exact absurd (Nat.lt_of_lt_of_le (x.lt q) e) (Nat.lt_irrefl _)
theorem HOk.kept (x:HOk P w H h) (k:∀ b u,h.get? b=some u->h'.get? b=some u):HOk P w H h':=λa o e =>
 (x a o e).stay (λb u _ q=>k b u q) (λ_ q=>q) (λ_ _ q=>q) λ_ _ _ _ q _=>q
theorem HOk.laid (x:HOk P w H h) (k:∀ b u,h.get? b=some u->h'.get? b=some u) (hp:h.objs.size<=a) (new:ObjOk P w (upd H a o) h' a o):HOk P w (upd H a o) h':=λb u e=>by
 have hn:=x.fresh hp
 by_cases hb:b=a
 ·subst hb; rw [bT] at e; cases e; exact new
 ·rw [az hb] at e
  exact (x b u e).stay (λc v _ q=>k c v q) (λc q=>by rw [az (cw q hn)]; exact q) (λc xs q=>by rw [az (cw q hn)]; exact q) λc ob xs _ q _=>by rw [az (cw q hn)]; exact q
end
noncomputable def Rd (H:Hp) (a:Addr) (u:HO):Prop:=H a=some u\/∃ o,H a=some (.frz o u)
theorem Rd.ok {P:Program} {w:World} {H:Hp} {h:Heap} {a:Addr} {u:HO} (r:Rd H a u) (x:HOk P w H h):ObjOk P w H h a u:=by
 rcases r with r | ⟨o,r⟩
 ·exact x a u r
 ·obtain ⟨_,q⟩:=x a _ r
  exact q
noncomputable def oD:Option HO->Prop
 | some (.lst _)=>True
 | some (.dK _)=>True
 | some (.dT _)=>True
 | some (.set _ _)=>True
 | some (.ins _ _ _)=>True
 | some (.ext _)=>True
 | _=>False
section
variable {P:Program} {w:World} {H:Hp} {h h':Heap} {x e:Addr} {o':HO}
theorem HOk.write (ok:HOk P w H h) (mu:oD (H x)) (he:e=x\/H e=some (.own x)) (k:∀ b u,b≠e->h.get? b=some u->h'.get? b=some u) (heo:∃ u,h'.get? e=some u)
  (new:ObjOk P w (upd H x o') h' x o'):HOk P w (upd H x o') h':=λb u q=>by
 have nown:∀ c y,H c=some (.own y)->c≠x:=λc y r z=>by subst z; rw [r] at mu; exact mu
 have ntup:∀ c xs,H c=some (.tup xs)->c≠x:=λc xs r z=>by subst z; rw [r] at mu; exact mu
 have nfrz:∀ c ob u,H c=some (.frz ob u)->c≠x:=λc ob u r z=>by subst z; rw [r] at mu; exact mu
 by_cases hb:b=x
 ·subst hb; rw [bT] at q; cases q; exact new
 ·rw [az hb] at q
  by_cases hbe:b=e
  ·have q':H b=some (.own x):=by
    rcases he with z | z
    ·exact absurd (hbe.trans z) hb
    ·rw [hbe]; exact z
   rw [q] at q'; cases q'
   obtain ⟨v,hv⟩:=heo
   exact ⟨v,by rw [hbe]; exact hv⟩
  ·refine (ok b u q).stay (λc v hc r=>k c v ?_ r) (λc r=>by rw [az (nown c b r)]; exact r) (λc xs r=>by rw [az (ntup c xs r)]; exact r) λc ob xs _ r _=>by rw [az (nfrz c ob xs r)]; exact r
   rcases hc with rfl | hc
   ·exact hbe
   ·rintro rfl
    rcases he with z | z
    ·exact nown c b hc z
    ·rw [hc] at z; cases z; exact hb rfl
end
structure Un (fs ex:List Addr) (H H':Hp) (h h':Heap):Prop where
 keep:∀ b o,h.get? b=some o->H b=none->b ∉ fs->b ∉ ex->h'.get? b=some o
 slot:∀ b o,h.get? b=some o->H b=none->b∈fs->b ∉ ex->∃ sl,h'.get? b=some { o with slots:=sl }
 free:∀ b o,h.get? b=some o->H b=none->b ∉ ex->H' b=none
 there:∀ b o,h.get? b=some o->b ∉ ex->∃ o',h'.get? b=some o'
 tups:∀ b xs,H b=some (.tup xs)->H' b=some (.tup xs)
 frzs:∀ b o u,H b=some (.frz o u)->H' b=some (.frz o u)
 tbls:∀ b ps,H b=some (.tbl ps)->∃ more,H' b=some (.tbl (ps++more))
section
variable {fs fs' ex ex':List Addr} {H H1 H2:Hp} {h h1 h2 h':Heap} {a x e:Addr} {o:HO}
theorem Un.any (u:Un fs ex H H1 h h1) {b:Addr} {ob:Obj} (q:h.get? b=some ob) (n:H b=none) (hx:b ∉ ex):∃ sl,h1.get? b=some { ob with slots:=sl }:=by
 by_cases hb:b∈fs
 ·exact u.slot b ob q n hb hx
 ·exact ⟨ob.slots,u.keep b ob q n hb hx⟩
theorem Un.kept (k:∀ b u,h.get? b=some u->h'.get? b=some u):Un fs ex H H h h' :=
 ⟨λb ob q _ _ _=>k b ob q,λb ob q _ _ _=>⟨ob.slots,k b ob q⟩,λ_ _ _ n _=>n,λb ob q _=>⟨ob,k b ob q⟩,λ_ _ q=>q,λ_ _ _ q=>q,λ_ ps q=>⟨#[],by rw [q]; simp⟩⟩
theorem Un.refl:Un fs ex H H h h:=Un.kept λ_ _ q=>q
theorem Un.laid (k:∀ b u,h.get? b=some u->h'.get? b=some u) (hp:h.objs.size<=a) (hn:H a=none):Un fs ex H (upd H a o) h h' where
 keep:=λb u q _ _ _=>k b u q
 slot:=λb u q _ _ _=>⟨u.slots,k b u q⟩
 free:=λb u q n _=>by rw [az (Nat.ne_of_lt (Nat.lt_of_lt_of_le (Heap.lt_size q) hp))]; exact n
 there:=λb u q _=>⟨u,k b u q⟩
 tups:=λb xs q=>by rw [az (cw q hn)]; exact q
 frzs:=λb u xs q=>by rw [az (cw q hn)]; exact q
 tbls:=λb ps q=>⟨#[],by rw [az (cw q hn),q]; simp⟩
theorem Un.write (mu:oD (H x)) (he:e=x\/H e=some (.own x)) (k:∀ b u,b≠e->h.get? b=some u->h'.get? b=some u) (heo:∃ u,h'.get? e=some u):Un fs ex H (upd H x o) h h':=by
 have hx:∀ b,H b=none->b≠x:=λb n z=>by subst z; rw [n] at mu; exact mu
 have hb:∀ b,H b=none->b≠e:=λb n z=>by
  subst z
  rcases he with r | r
  ·exact hx b n r
  ·rw [n] at r; cases r
 have hm:∀ b u,H b=some u->¬ oD (some u)->b≠x:=λb u q nm z=>by subst z; rw [q] at mu; exact nm mu
 refine ⟨λb u q n _ _=>k b u (hb b n) q,λb u q n _ _=>⟨u.slots,k b u (hb b n) q⟩,λb u q n _=>by rw [az (hx b n)]; exact n,λb u q _=>?_,
  λb xs q=>by rw [az (hm b _ q λz=>z)]; exact q,λb u xs q=>by rw [az (hm b _ q λz=>z)]; exact q,λb ps q=>⟨#[],by rw [az (hm b _ q λz=>z),q]; simp⟩⟩
 by_cases hbe:b=e
 ·subst hbe; exact heo
 ·exact ⟨u,k b u hbe q⟩
end
noncomputable def trk (h:Heap) (H:Hp):List Addr:=(List.range h.objs.size).filter λa=>(H a).isSome
noncomputable def fR (h:Heap) (H:Hp):Heap:=PySem.W.hideAll h (trk h H)
theorem Zjk (h:Heap) (H:Hp):(fR h H).objs.size=h.objs.size:=PySem.W.hideAll_size _ _
theorem Zjl {h:Heap} {H:Hp} {b:Addr} {o:Obj} (e:h.get? b=some o) (n:H b=none):(fR h H).get? b=some o :=
 PySem.W.hideAll_get _ e λhm=>by
  have q:(H b).isSome=true:=(List.mem_filter.mp hm).2
  rw [n] at q; simp at q
theorem Zil {h:Heap} {H:Hp} {b:Addr} {o:Obj} (e:(fR h H).get? b=some o):h.get? b=some o/\H b=none:=by
 have e':h.get? b=some o:=PySem.W.of_hideAll (trk h H) e
 refine ⟨e',?_⟩
 cases q:H b with
 | none=>rfl
 | some x =>
  have hm:b∈trk h H:=List.mem_filter.mpr ⟨List.mem_range.mpr (Heap.lt_size e'),by simp [q]⟩
  have z:(fR h H).get? b=none:=PySem.W.hideAll_none (trk h H) hm
  rw [z] at e; cases e
noncomputable def Zn2 (g h:Heap) (L:Addr):List (Addr×Obj):=(List.range h.objs.size).filterMap λa=>if a=L\/(g.get? a).isSome=true then none else (h.get? a).map λo=>(a,o)
noncomputable def rest (g h:Heap) (L d:Addr):List (Addr×Obj):=(Zn2 g h L).filter λp=>decide (p.1≠d)
structure Mod (K:PySem.W.Frag) (mg:Str->Option Value) (base:Heap):Prop where
 kin:K.In base
 glob:base.Ns mainGlobals mg
 blt:∃ mb,base.Ns builtinsNs mb/\∀ x:Str,x≠"__name__"->mb x=bootBuiltins x
 nolimit:base.NoLimit
 nodig:base.NoDigits
structure Cx where
 prog:Program
 w:World
 K:PySem.W.Frag
 mg:Str->Option Value
 base:Heap
 A:Around
 N:List Str
 s₀:Shared
 H₀:Hp
 env:Env
 outer:List Env
 stack:List Env
 ex:List Addr
 fn:Str->Bool
 calm:Bool
 pn:List (Addr×Obj)
 xe:Value->Shared->Prop
noncomputable def frs (l:List Env):List Addr:=l.filterMap (·.frame)
noncomputable abbrev Cx.fs (X:Cx):List Addr:=frs X.outer
noncomputable def jL (sc:Scope) (x:Str):Prop:=sc.names.lookup x=some .local\/sc.names.lookup x=some .cell\/sc.names.lookup x=some .free
noncomputable def lG (sc:Scope) (x:Str):Prop:=sc.names.lookup x=some .local\/sc.names.lookup x=some .cell
noncomputable def ZoJ (env:Env) (h:Heap) (m:Str->Option Value) (x:Str) (u:Value):Prop :=
 (env.kindOf x=some .local/\m x=some u)\/((env.kindOf x=some .cell\/env.kindOf x=some .free)/\∃ c,env.cells.lookup x=some c/\h.IsCell c (some u))
structure Cx.Ok (X:Cx):Prop where
 mod:Mod X.K X.mg X.base
 kind:X.env.scope.kind=.function
 glob:X.env.globals=mainGlobals
 blt:X.env.builtins=builtinsNs
 above:X.s₀.heap.objs.size<=X.env.locals
 inj:∀ x y c,X.env.cells.lookup x=some c->X.env.cells.lookup y=some c->x=y
 has:∀ x,(X.env.kindOf x=some .cell\/X.env.kindOf x=some .free)->∃ c,X.env.cells.lookup x=some c
 cab:∀ x c,X.fn x=true->X.env.cells.lookup x=some c->X.s₀.heap.objs.size<=c
 hd:X.calm=true->X.A.handled=none
 frames:X.A.frames=some X.stack
 stk:X.stack=X.outer\/(X.stack=X.env::X.outer/\X.env.frame=some X.env.locals)
 exf:∀ b∈X.ex,b≠X.env.locals/\∀ x c,X.env.cells.lookup x=some c->c≠b
 bs:∀ b o,X.base.get? b=some o->X.s₀.heap.get? b=some o/\X.H₀ b=none
 bsz:X.base.objs.size<=X.s₀.heap.objs.size
 noex:∀ b o,X.base.get? b=some o->b ∉ X.ex
 exfs:∀ b∈X.ex,b ∉ X.fs
 funs:X.s₀.heap.FunFrames X.base X.outer
 frf:∀ b∈X.fs,X.H₀ b=none
structure Inv (X:Cx) (pins:List (Addr×Obj)) (σ:List (Option V)) (H:Hp) (s:Shared):Prop where
 ok:X.Ok
 os:s.os=X.s₀.os
 bare:AllBare s.gens
 base:Un X.fs X.ex X.H₀ H X.s₀.heap s.heap
 loc:∃ m,s.heap.Ns X.env.locals m/\∀ (i:Nat) (x:Str) (v:V),X.N[i]?=some x->σ[i]?=some (some v)->jL X.env.scope x->∃ u,RelV v u/\ZoJ X.env s.heap m x u
 cell:∀ x c,X.env.cells.lookup x=some c->∃ v,s.heap.IsCell c v
 free:H X.env.locals=none
 freeC:∀ x c,X.env.cells.lookup x=some c->H c=none
 pin:∀ p∈X.pn++pins,s.heap.get? p.1=some p.2/\H p.1=none/\p.1≠X.env.locals/\p.1 ∉ X.fs/\∀ v,p.2.data≠.cell v
 hok:HOk X.prog X.w H s.heap
 len:σ.length=X.N.length
section
variable {X:Cx} {pins:List (Addr×Obj)} {σ:List (Option V)} {H H':Hp} {s:Shared} {h':Heap}
theorem Cx.Ok.nofr (ok:X.Ok) {b:Addr} {o:Obj} (e:X.base.get? b=some o):b ∉ X.fs:=λhb=>by
 have:=(ok.funs.mem hb).1
 rw [e] at this; cases this
theorem Inv.bs (I:Inv X pins σ H s):∀ b o,X.base.get? b=some o->s.heap.get? b=some o/\H b=none:=λb o e =>
 ⟨I.base.keep b o (I.ok.bs b o e).1 (I.ok.bs b o e).2 (I.ok.nofr e) (I.ok.noex b o e),I.base.free b o (I.ok.bs b o e).1 (I.ok.bs b o e).2 (I.ok.noex b o e)⟩
theorem Inv.bk (I:Inv X pins σ H s):∀ b o,X.base.get? b=some o->s.heap.get? b=some o:=λb o e=>(I.bs b o e).1
theorem Inv.mod (I:Inv X pins σ H s):Mod X.K X.mg X.base:=I.ok.mod
theorem Inv.kIn (I:Inv X pins σ H s):X.K.In s.heap:=I.ok.mod.kin.keeps I.bk
theorem Inv.lt (I:Inv X pins σ H s):X.env.locals < s.heap.objs.size:=let ⟨_,hn,_⟩:=I.loc; hn.lt
theorem Inv.sz (I:Inv X pins σ H s):X.s₀.heap.objs.size<=s.heap.objs.size:=Nat.le_trans I.ok.above (Nat.le_of_lt I.lt)
theorem Inv.nofs (I:Inv X pins σ H s) {a:Addr} (h:s.heap.objs.size<=a):a ∉ X.fs:=λhb=>by
 obtain ⟨_,o,ho,_⟩:=I.ok.funs.mem hb
 exact absurd (Nat.lt_of_lt_of_le (Heap.lt_size ho) (Nat.le_trans I.sz h)) (Nat.lt_irrefl _)
theorem Inv.cne (I:Inv X pins σ H s):∀ x c,X.env.cells.lookup x=some c->c≠X.env.locals:=λx c e z=>by
 obtain ⟨v,o,ho,hd⟩:=I.cell x c e
 obtain ⟨m,⟨o',es,ep,ho',hd',_⟩,_⟩:=I.loc
 rw [z,ho'] at ho; cases ho; rw [hd'] at hd; cases hd
theorem Inv.funs (I:Inv X pins σ H s):s.heap.FunFrames X.base X.outer:=by
 have all:∀ (l:List Env),(∀ b∈frs l,b∈X.fs)->X.s₀.heap.FunFrames X.base l->s.heap.FunFrames X.base l:=by
  intro l
  induction l with
  | nil=>intro _ _; trivial
  | cons env r ih =>
   intro hs hl
   obtain ⟨hk,⟨L,o,hf,hn,ho,hd⟩,hr⟩:=hl
   have hL:L∈X.fs:=hs L (by unfold frs; rw [List.filterMap_cons,hf]; exact List.mem_cons_self)
   obtain ⟨sl,e⟩:=I.base.slot L o ho (I.ok.frf L hL) hL λz=>I.ok.exfs L z hL
   exact ⟨hk,⟨L,_,hf,hn,e,hd⟩,ih (λb hb=>hs b (by unfold frs; rw [List.filterMap_cons,hf]; exact List.mem_cons_of_mem _ hb)) hr⟩
 exact all X.outer (λ_ hb=>hb) I.ok.funs
theorem Inv.stack (I:Inv X pins σ H s):s.heap.FunFrames X.base X.stack:=by
 rcases I.ok.stk with e | ⟨e,hf⟩
 ·rw [e]; exact I.funs
 ·rw [e]
  obtain ⟨m,hn,_⟩:=I.loc
  refine .cons (by rw [I.ok.kind]; decide) hf hn ?_ I.funs
  exact Heap.get?_none_of_le (Nat.le_trans I.ok.bsz I.ok.above)
theorem Inv.stkSub (I:Inv X pins σ H s):∀ b∈frs X.stack,b∈X.env.locals::X.fs:=λb hb=>by
 rcases I.ok.stk with e | ⟨e,hf⟩
 ·rw [e] at hb; exact List.mem_cons_of_mem _ hb
 ·rw [e] at hb
  unfold frs at hb
  rw [List.filterMap_cons,hf] at hb
  exact hb
theorem Inv.stkFree (I:Inv X pins σ H s):∀ b∈frs X.stack,H b=none:=λb hb=>by
 rcases List.mem_cons.mp (I.stkSub b hb) with e | hb
 ·rw [e]; exact I.free
 ·obtain ⟨_,o,ho,_⟩:=I.ok.funs.mem hb
  exact I.base.free b o ho (I.ok.frf b hb) λz=>I.ok.exfs b z hb
theorem Inv.step {g':Array GenState} {t':Nat} {d':Drawn} {ch:List Addr} (I:Inv X pins σ H s)
  (hch:∀ b∈ch,(b∈X.ex\/X.s₀.heap.objs.size<=b)/\b≠X.env.locals/\(∀ x c,X.env.cells.lookup x=some c->c≠b)/\∀ p∈X.pn++pins,p.1≠b)
  (keep:∀ b o,b≠X.env.locals->b ∉ X.fs->b ∉ ch->s.heap.get? b=some o->H b=none->h'.get? b=some o)
  (slot:∀ b o,b≠X.env.locals->b∈X.fs->b ∉ ch->s.heap.get? b=some o->H b=none->∃ sl,h'.get? b=some { o with slots:=sl }) (free:∀ b o,b ∉ ch->s.heap.get? b=some o->H b=none->H' b=none)
  (there:∀ b o,b ∉ ch->s.heap.get? b=some o->∃ o',h'.get? b=some o')
  (tups:∀ b xs,H b=some (.tup xs)->H' b=some (.tup xs)) (frzs:∀ b o u,H b=some (.frz o u)->H' b=some (.frz o u)) (tbls:∀ b ps,H b=some (.tbl ps)->∃ more,H' b=some (.tbl (ps++more)))
  (ns:∀ m,s.heap.Ns X.env.locals m->h'.Ns X.env.locals m) (hok:HOk X.prog X.w H' h') (hg:AllBare g') :
  Inv X pins σ H' { s with heap:=h',gens:=g',drawn:=d',toks:=t' }:=by
 have neL:∀ b o,X.s₀.heap.get? b=some o->b≠X.env.locals:=λb o e=>Nat.ne_of_lt (Nat.lt_of_lt_of_le (Heap.lt_size e) I.ok.above)
 have neC:∀ b o,X.s₀.heap.get? b=some o->b ∉ X.ex->b ∉ ch:=λb o e hx hb=>by
  rcases (hch b hb).1 with z | z
  ·exact hx z
  ·exact absurd (Nat.lt_of_lt_of_le (Heap.lt_size e) z) (Nat.lt_irrefl _)
 have cellK:∀ x c,X.env.cells.lookup x=some c->∀ v,s.heap.IsCell c v->h'.IsCell c v:=λx c e v hz0=>by
  obtain ⟨o,ho,hd⟩:=hz0
  have nch:c ∉ ch:=λz=>(hch c z).2.2.1 x c e rfl
  by_cases hc:c∈X.fs
  ·obtain ⟨sl,q⟩:=slot c o (I.cne x c e) hc nch ho (I.freeC x c e)
   exact ⟨_,q,hd⟩
  ·exact ⟨o,keep c o (I.cne x c e) hc nch ho (I.freeC x c e),hd⟩
 refine ⟨I.ok,I.os,hg,⟨λb o e n hb hx=>?_,λb o e n hb hx=>?_,λb o e n hx=>?_,λb o e hx=>?_,λb xs e=>tups b xs (I.base.tups b xs e),λb o xs e=>frzs b o xs (I.base.frzs b o xs e),λb ps e=>?_⟩,?_,λx c e=>?_,?_,λx c e=>?_,λp hp=>?_,hok,I.len⟩
 ·exact keep b o (neL b o e) hb (neC b o e hx) (I.base.keep b o e n hb hx) (I.base.free b o e n hx)
 ·obtain ⟨sl,e1⟩:=I.base.slot b o e n hb hx
  obtain ⟨sl',e2⟩:=slot b _ (neL b o e) hb (neC b o e hx) e1 (I.base.free b o e n hx)
  exact ⟨sl',e2⟩
 ·obtain ⟨o',e1⟩:=I.base.there b o e hx
  exact free b o' (neC b o e hx) e1 (I.base.free b o e n hx)
 ·obtain ⟨o',e1⟩:=I.base.there b o e hx
  exact there b o' (neC b o e hx) e1
 ·obtain ⟨m1,e1⟩:=I.base.tbls b ps e
  obtain ⟨m2,e2⟩:=tbls b _ e1
  exact ⟨m1++m2,by rw [e2,Array.append_assoc]⟩
 ·obtain ⟨m,hn,hl⟩:=I.loc
  refine ⟨m,ns m hn,λi x v e1 e2 e3=>?_⟩
  obtain ⟨u,r,l⟩:=hl i x v e1 e2 e3
  refine ⟨u,r,?_⟩
  rcases l with l | ⟨k,c,e,z⟩
  ·exact .inl l
  ·exact .inr ⟨k,c,e,cellK x c e _ z⟩
 ·obtain ⟨v,z⟩:=I.cell x c e
  exact ⟨v,cellK x c e v z⟩
 ·obtain ⟨m,⟨o,_,_,ho,_⟩,_⟩:=I.loc
  exact free _ o (λz=>(hch _ z).2.1 rfl) ho I.free
 ·obtain ⟨v,o,ho,hd⟩:=I.cell x c e
  exact free c o (λz=>(hch c z).2.2.1 x c e rfl) ho (I.freeC x c e)
 ·obtain ⟨e,n,ne,nf,d⟩:=I.pin p hp
  have nch:p.1 ∉ ch:=λz=>(hch p.1 z).2.2.2 p hp rfl
  exact ⟨keep p.1 p.2 ne nf nch e n,free p.1 p.2 nch e n,ne,nf,d⟩
theorem Inv.un {t':Nat} (I:Inv X pins σ H s) (u:Un X.fs [] H H' s.heap h') (hok:HOk X.prog X.w H' h'):Inv X pins σ H' { s with heap:=h',toks:=t' }:=by
 obtain ⟨m,⟨o,es,ep,ho,r⟩,_⟩:=id I.loc
 obtain ⟨sl,hL⟩:=u.any ho I.free (by simp)
 exact I.step (g':=s.gens) (d':=s.drawn) (ch:=[]) (λ_ z=>nomatch z) (λb o _ hb _ e n=>u.keep b o e n hb (by simp)) (λb o _ hb _ e n=>u.slot b o e n hb (by simp)) (λb o _ e n=>u.free b o e n (by simp)) (λb o _ e=>u.there b o e (by simp)) u.tups u.frzs u.tbls (λm' hm=>by
  obtain ⟨o',es',ep',ho',r'⟩:=hm
  rw [ho] at ho'; cases ho'
  exact ⟨_,es',ep',hL,r'⟩) hok I.bare
theorem Inv.call {g':Array GenState} {t':Nat} {d':Drawn} {ch:List Addr} (I:Inv X pins σ H s) (u:Un (frs X.stack) ch H H' s.heap h') (hok:HOk X.prog X.w H' h') (hg:AllBare g')
  (hch:∀ b∈ch,(b∈X.ex\/X.s₀.heap.objs.size<=b)/\b≠X.env.locals/\(∀ x c,X.env.cells.lookup x=some c->c≠b)/\∀ p∈X.pn++pins,p.1≠b) :
  Inv X pins σ H' { s with heap:=h',gens:=g',drawn:=d',toks:=t' }:=by
 obtain ⟨m,⟨o,es,ep,ho,r⟩,_⟩:=id I.loc
 obtain ⟨sl,hL⟩:=u.any ho I.free λz=>(hch _ z).2.1 rfl
 exact I.step (ch:=ch) hch (λb o hL hb hc e n=>u.keep b o e n (λz=>(List.mem_cons.mp (I.stkSub b z)).elim hL hb) hc) (λb o _ _ hc e n=>u.any e n hc) (λb o hc e n=>u.free b o e n hc) (λb o hc e=>u.there b o e hc) u.tups u.frzs u.tbls (λm' hm=>by
  obtain ⟨o',es',ep',ho',r'⟩:=hm
  rw [ho] at ho'; cases ho'
  exact ⟨_,es',ep',hL,r'⟩) hok hg
theorem Inv.turned {t':Nat} {it:Addr} (I:Inv X pins σ H s) (k:∀ b o,b≠it->s.heap.get? b=some o->h'.get? b=some o) (hn:H it=none) (hL:it≠X.env.locals)
  (h1:it∈X.ex\/X.s₀.heap.objs.size<=it) (h2:∀ x c,X.env.cells.lookup x=some c->c≠it) (h3:∀ p∈X.pn++pins,p.1≠it):Inv X pins σ H { s with heap:=h',toks:=t' }:=by
 have nit:∀ b u,H b=some u->b≠it:=λb u e z=>by rw [z,hn] at e; cases e
 refine I.step (g':=s.gens) (d':=s.drawn) (ch:=[it]) (λb hb=>?_) (λb o _ _ hc e _=>k b o (λz=>hc (by simp [z])) e) (λb o _ _ hc e _=>⟨o.slots,k b o (λz=>hc (by simp [z])) e⟩) (λ_ _ _ _ n=>n)
  (λb o hc e=>⟨o,k b o (λz=>hc (by simp [z])) e⟩) (λ_ _ e=>e) (λ_ _ _ e=>e) (λb ps e=>⟨#[],by rw [e]; simp⟩) (λm hm=>?_) (λb u e=>?_) I.bare
 ·have e:b=it:=by simpa using hb
  subst e
  exact ⟨h1,hL,h2,h3⟩
 ·obtain ⟨o,es,ep,ho,r⟩:=hm
  exact ⟨o,es,ep,k _ o (Ne.symm hL) ho,r⟩
 ·refine (I.hok b u e).stay (λc v hc q=>k c v ?_ q) (λ_ q=>q) (λ_ _ q=>q) λ_ _ _ _ q _=>q
  rcases hc with z | z
  ·rw [z]; exact nit b u e
  ·exact nit c _ z
theorem Inv.tok (I:Inv X pins σ H s) (t:Nat):Inv X pins σ H { s with toks:=t }:=I.un (h':=s.heap) (t':=t) Un.refl I.hok
theorem Inv.kept {t':Nat} (I:Inv X pins σ H s) (k:∀ b u,s.heap.get? b=some u->h'.get? b=some u):Inv X pins σ H { s with heap:=h',toks:=t' }:=I.un (Un.kept k) (I.hok.kept k)
theorem Inv.laid {a:Addr} {o:HO} {t':Nat} (I:Inv X pins σ H s) (k:∀ b u,s.heap.get? b=some u->h'.get? b=some u) (hp:s.heap.objs.size<=a) (new:ObjOk X.prog X.w (upd H a o) h' a o) :
  Inv X pins σ (upd H a o) { s with heap:=h',toks:=t' }:=I.un (Un.laid k hp (I.hok.fresh hp)) (I.hok.laid k hp new)
theorem Inv.write {x e:Addr} {o:HO} {t':Nat} (I:Inv X pins σ H s) (mu:oD (H x)) (he:e=x\/H e=some (.own x)) (k:∀ b u,b≠e->s.heap.get? b=some u->h'.get? b=some u) (heo:∃ u,h'.get? e=some u)
  (new:ObjOk X.prog X.w (upd H x o) h' x o):Inv X pins σ (upd H x o) { s with heap:=h',toks:=t' }:=I.un (Un.write mu he k heo) (I.hok.write mu he k heo new)
theorem Inv.pins_of {pins':List (Addr×Obj)} (I:Inv X pins σ H s) (h:∀ p∈pins',s.heap.get? p.1=some p.2/\H p.1=none/\p.1≠X.env.locals/\p.1 ∉ X.fs/\∀ v,p.2.data≠.cell v):Inv X pins' σ H s :=
 ⟨I.ok,I.os,I.bare,I.base,I.loc,I.cell,I.free,I.freeC,λp hp=>(List.mem_append.mp hp).elim (λz=>I.pin p (List.mem_append_left _ z)) (h p),I.hok,I.len⟩
theorem ZcB {N:List Str} (hN:N.Nodup) {i j:Nat} {x:Str} (a:N[i]?=some x) (b:N[j]?=some x):i=j:=by
 obtain ⟨h1,e1⟩:=List.getElem?_eq_some_iff.mp a
 obtain ⟨h2,e2⟩:=List.getElem?_eq_some_iff.mp b
 exact (List.getElem_inj hN).mp (e1.trans e2.symm)
theorem o9 {M:Model} {A:Around} {E:Value->Shared->Prop} {i:Nat} {x:Str} {v:V} {u:Value} {Q:Unit->Shared->Prop} (I:Inv X pins σ H s) (hN:X.N.Nodup) (hi:X.N[i]?=some x) (hx:lG X.env.scope x) (r:RelV v u)
  (h:∀ s',Inv X pins (σ.set i (some v)) H s'->(∃ a,Heap.SameBut a s.heap s'.heap/\(a=X.env.locals\/X.env.cells.lookup x=some a))->Q () s') (hf:X.fn x=true\/X.env.scope.names.lookup x=some .local:=by first | exact .inl rfl | exact .inr rfl | assumption):wpAny M A (storeName X.env x u) Q E s:=by
 obtain ⟨m,hn,hl⟩:=id I.loc
 have hcls:(X.env.scope.kind == .class || (X.env.scope.kind == .module && X.env.locals != X.env.globals))=false:=by rw [I.ok.kind]; rfl
 have hiσ:i < σ.length:=by rw [I.len]; exact (List.getElem?_eq_some_iff.mp hi).1
 have cne:=I.cne
 have tracked:∀ {a:Addr} {h':Heap},(∃ o,s.heap.get? a=some o/\H a=none)->Heap.SameBut a s.heap h'->HOk X.prog X.w H h':=λ{a h'} ha hs b ob e=>by
  obtain ⟨_,_,hfree⟩:=ha
  refine (I.hok b ob e).stay (λc w' hc q=>(hs.2 c ?_).trans q) (λ_ q=>q) (λ_ _ q=>q) λ_ _ _ _ q _=>q
  rintro rfl
  rcases hc with rfl | hc
  ·rw [hfree] at e; cases e
  ·rw [hfree] at hc; cases hc
 rcases hx with hk | hk
 ·refine wpAny_storeName_local hk hn (λh' hn' hs=>?_) hcls
  obtain ⟨oL,_,_,hoL,_⟩:=id hn
  refine h _ ⟨I.ok,I.os,I.bare,⟨λb o e n hb hx=>?_,λb o e n hb hx=>?_,I.base.free,λb o e hx=>?_,I.base.tups,I.base.frzs,I.base.tbls⟩,⟨_,hn',λj y v' e1 e2 e3=>?_⟩,λy c e=>?_,I.free,I.freeC,λp hp=>?_,tracked ⟨oL,hoL,I.free⟩ hs,by simpa using I.len⟩ ⟨_,hs,.inl rfl⟩
  ·exact (hs.2 b (Nat.ne_of_lt (Nat.lt_of_lt_of_le (Heap.lt_size e) I.ok.above))).trans (I.base.keep b o e n hb hx)
  ·obtain ⟨sl,e1⟩:=I.base.slot b o e n hb hx
   exact ⟨sl,(hs.2 b (Nat.ne_of_lt (Nat.lt_of_lt_of_le (Heap.lt_size e) I.ok.above))).trans e1⟩
  ·obtain ⟨o',e1⟩:=I.base.there b o e hx
   exact ⟨o',(hs.2 b (Nat.ne_of_lt (Nat.lt_of_lt_of_le (Heap.lt_size e) I.ok.above))).trans e1⟩
  ·by_cases hj:j=i
   ·subst hj
    rw [hi] at e1; cases e1
    rw [List.getElem?_set_self hiσ] at e2
    cases e2
    exact ⟨u,r,.inl ⟨hk,by simp⟩⟩
   ·rw [List.getElem?_set_ne (Ne.symm hj)] at e2
    obtain ⟨u',r',q⟩:=hl j y v' e1 e2 e3
    refine ⟨u',r',?_⟩
    rcases q with ⟨k,e⟩ | ⟨k,c,e,z⟩
    ·refine .inl ⟨k,?_⟩
     have:y≠x:=λe=>hj (ZcB hN e1 (e ▸ hi))
     simp [this,e]
    ·exact .inr ⟨k,c,e,z.sameBut hs (cne y c e)⟩
  ·obtain ⟨w',z⟩:=I.cell y c e
   exact ⟨w',z.sameBut hs (cne y c e)⟩
  ·obtain ⟨e,n,ne,nf,d⟩:=I.pin p hp
   exact ⟨(hs.2 p.1 ne).trans e,n,ne,nf,d⟩
 ·have hfn:X.fn x=true:=by
   rcases hf with z | z
   ·exact z
   ·rw [z] at hk; cases hk
  obtain ⟨c,hc⟩:=I.ok.has x (.inl hk)
  obtain ⟨w',z⟩:=I.cell x c hc
  refine wpAny_storeName_cell I.ok.kind hk hc z (λh' hc' hs=>?_)
  obtain ⟨oc,hoc,hocd⟩:=id z
  refine h { s with heap:=h' } ⟨I.ok,I.os,I.bare,⟨λb o e n hb hx=>?_,λb o e n hb hx=>?_,I.base.free,λb o e hx=>?_,I.base.tups,I.base.frzs,I.base.tbls⟩,⟨m,hn.sameBut hs (Ne.symm (cne x c hc)),λj y v' e1 e2 e3=>?_⟩,λy c' e=>?_,I.free,I.freeC,λp hp=>?_,tracked ⟨oc,hoc,I.freeC x c hc⟩ hs,by simpa using I.len⟩ ⟨c,hs,.inr hc⟩
  ·exact (hs.2 b (Nat.ne_of_lt (Nat.lt_of_lt_of_le (Heap.lt_size e) (I.ok.cab x c hfn hc)))).trans (I.base.keep b o e n hb hx)
  ·obtain ⟨sl,e1⟩:=I.base.slot b o e n hb hx
   exact ⟨sl,(hs.2 b (Nat.ne_of_lt (Nat.lt_of_lt_of_le (Heap.lt_size e) (I.ok.cab x c hfn hc)))).trans e1⟩
  ·obtain ⟨o',e1⟩:=I.base.there b o e hx
   exact ⟨o',(hs.2 b (Nat.ne_of_lt (Nat.lt_of_lt_of_le (Heap.lt_size e) (I.ok.cab x c hfn hc)))).trans e1⟩
  ·by_cases hj:j=i
   ·subst hj
    rw [hi] at e1; cases e1
    rw [List.getElem?_set_self hiσ] at e2
    cases e2
    exact ⟨u,r,.inr ⟨.inl hk,c,hc,hc'⟩⟩
   ·rw [List.getElem?_set_ne (Ne.symm hj)] at e2
    obtain ⟨u',r',q⟩:=hl j y v' e1 e2 e3
    refine ⟨u',r',?_⟩
    rcases q with q | ⟨k,c',e,z'⟩
    ·exact .inl q
    ·refine .inr ⟨k,c',e,z'.sameBut hs ?_⟩
     rintro rfl
     exact hj (ZcB hN e1 (I.ok.inj _ _ _ e hc ▸ hi))
  ·by_cases hcc:c'=c
   ·subst hcc; exact ⟨_,hc'⟩
   ·obtain ⟨w2,z2⟩:=I.cell y c' e
    exact ⟨w2,z2.sameBut hs hcc⟩
  ·obtain ⟨e,n,ne,nf,d⟩:=I.pin p hp
   refine ⟨(hs.2 p.1 ?_).trans e,n,ne,nf,d⟩
   intro q
   rw [q,hoc] at e
   have q':oc=p.2:=Option.some.inj e
   exact d w' (by rw [<- q']; exact hocd)
theorem jU {M:Model} {A:Around} {E:Value->Shared->Prop} {i:Nat} {x:Str} {v:V} {u:Value} {Q:Unit->Shared->Prop} (I:Inv X pins σ H s) (hN:X.N.Nodup) (hi:X.N[i]?=some x) (hx:lG X.env.scope x) (r:RelV v u)
  (h:∀ s',Inv X pins (σ.set i (some v)) H s'->Q () s') (hf:X.fn x=true\/X.env.scope.names.lookup x=some .local:=by first | exact .inl rfl | exact .inr rfl | assumption):wpAny M A (storeName X.env x u) Q E s :=
 o9 I hN hi hx r (λs' I' _=>h s' I') hf
theorem Inv.call' {s':Shared} {ch:List Addr} (I:Inv X pins σ H s) (ho:s'.os=s.os) (u:Un (frs X.stack) ch H H' s.heap s'.heap) (hok:HOk X.prog X.w H' s'.heap) (hg:AllBare s'.gens)
  (hch:∀ b∈ch,(b∈X.ex\/X.s₀.heap.objs.size<=b)/\b≠X.env.locals/\(∀ x c,X.env.cells.lookup x=some c->c≠b)/\∀ p∈X.pn++pins,p.1≠b):Inv X pins σ H' s':=by
 obtain ⟨h',g',d',t',o'⟩:=s'
 have e:o'=s.os:=ho
 subst e
 exact I.call (g':=g') (t':=t') (d':=d') u hok hg hch
end
noncomputable abbrev XK:=Value->Option Addr->Hp->Prop
noncomputable abbrev St:=List (Option V)
noncomputable abbrev VK:=V->Hp->Prop
noncomputable abbrev TE:=St->Hp->VK->Prop
noncomputable abbrev TT:=St->Hp->(Bool->Hp->Prop)->Prop
noncomputable abbrev TA:=St->Hp->(List V->Hp->Prop)->Prop
structure Ends where
 nx:St->Hp->Prop
 rt:VK
 bk:St->Hp->Prop:=λ_ _=>False
 ct:St->Hp->Prop:=λ_ _=>False
noncomputable abbrev TS:=Ends->St->Hp->Prop
noncomputable def EP (X:Cx) (pins:List (Addr×Obj)) (σ:St) (Q:VK) (u:Value) (s':Shared):Prop:=∃ v H',Inv X pins σ H' s'/\RelV v u/\Q v H'
noncomputable def TP (X:Cx) (pins:List (Addr×Obj)) (σ:St) (Q:Bool->Hp->Prop) (b:Bool) (s':Shared):Prop:=∃ H',Inv X pins σ H' s'/\Q b H'
noncomputable def AP (X:Cx) (pins:List (Addr×Obj)) (σ:St) (Q:List V->Hp->Prop) (us:List Value) (s':Shared):Prop:=∃ vs H',Inv X pins σ H' s'/\Vals vs us/\Q vs H'
noncomputable def SP (X:Cx) (pins:List (Addr×Obj)) (D:Ends) (f:Flow) (s':Shared):Prop :=
 match f with
 | .next=>∃ σ' H',Inv X pins σ' H' s'/\D.nx σ' H'
 | .brk=>∃ σ' H',Inv X pins σ' H' s'/\D.bk σ' H'
 | .cont=>∃ σ' H',Inv X pins σ' H' s'/\D.ct σ' H'
 | .ret u=>∃ v σ' H',Inv X pins σ' H' s'/\RelV v u/\D.rt v H'
noncomputable def PE (X:Cx) (e:Expr) (t:TE):Prop :=
 ∀ (pins:List (Addr×Obj)) (s:Shared) (σ:St) (H:Hp) (Q:VK),Inv X pins σ H s->t σ H Q->wpAny (model X.prog X.w) X.A (eval e X.env) (EP X pins σ Q) X.xe s
noncomputable def PT (X:Cx) (e:Expr) (t:TT):Prop :=
 ∀ (pins:List (Addr×Obj)) (s:Shared) (σ:St) (H:Hp) (Q:Bool->Hp->Prop),Inv X pins σ H s->t σ H Q->wpAny (model X.prog X.w) X.A (isTrue e X.env (eval e X.env)) (TP X pins σ Q) X.xe s
noncomputable def PW (X:Cx) (e:Expr) (t:TT):Prop :=
 ∀ (whole:Sem Value) (pins:List (Addr×Obj)) (s:Shared) (σ:St) (H:Hp) (Q:Bool->Hp->Prop),Inv X pins σ H s->t σ H Q->wpAny (model X.prog X.w) X.A (isTrue e X.env whole) (TP X pins σ Q) X.xe s
theorem PW.pt {X:Cx} {e:Expr} {t:TT} (h:PW X e t):PT X e t:=h _
noncomputable def PA (X:Cx) (es:List Expr) (t:TA):Prop :=
 ∀ (pos:Pos) (pins:List (Addr×Obj)) (s:Shared) (σ:St) (H:Hp) (Q:List V->Hp->Prop),Inv X pins σ H s->t σ H Q->wpAny (model X.prog X.w) X.A (spliced (backTo pos (starEach es X.env))) (AP X pins σ Q) X.xe s
noncomputable def PS (X:Cx) (st:Stmt) (t:TS):Prop :=
 ∀ (pins:List (Addr×Obj)) (s:Shared) (σ:St) (H:Hp) (D:Ends),Inv X pins σ H s->t D σ H->wpAny (model X.prog X.w) X.A (exec st X.env) (SP X pins D) X.xe s
noncomputable def PSs (X:Cx) (st:List Stmt) (t:TS):Prop :=
 ∀ (pins:List (Addr×Obj)) (s:Shared) (σ:St) (H:Hp) (D:Ends),Inv X pins σ H s->t D σ H->wpAny (model X.prog X.w) X.A (execs st X.env) (SP X pins D) X.xe s
theorem thn {α:Type} {t:Sem α} {Q Q':α->Shared->Prop} {M:Model} {A:Around} {E:Value->Shared->Prop} {s:Shared} (h:wpAny M A t Q E s) (hQ:∀ a s,Q a s->Q' a s):wpAny M A t Q' E s:=wpAny_mono h hQ λ_ _ x=>x
section
variable {X:Cx}
noncomputable def eh (i:Nat):TE:=λσ H Q=>∃ v,σ[i]?=some (some v)/\Q v H
noncomputable def tC (v:V):TE:=λ_ H Q=>Q v H
theorem ZhQ {i:Nat} {x:Str} {pos:Pos} (hN:X.N[i]?=some x) (hv:jL X.env.scope x) (hd:(x == ("__debug__":Str))=false:=by decide) (hcd:(x == ("__classdict__":Str))=false:=by decide):PE X (.Name x pos) (eh i):=by
 intro pins s σ H Q I h
 obtain ⟨v,e,h⟩:=h
 obtain ⟨m,hn,hl⟩:=I.loc
 obtain ⟨u,r,l⟩:=hl i x v hN e hv
 have fin:EP X pins σ Q u s:=⟨v,H,I,r,h⟩
 rcases l with ⟨hk,hm⟩ | ⟨hk,c,hc,hcell⟩
 ·exact wpAny_Name (wpAny_loadName_local I.ok.kind hk hn hm fin) hd
 ·rcases hk with hk | hk
  ·exact wpAny_Name (wpAny_loadName_cell I.ok.kind hk hc hcell fin) hd
  ·exact wpAny_Name (wpAny_loadName_free I.ok.kind hk hc hcell fin hcd) hd
theorem bP {i j pos}:PE X (.Constant (.int i) j pos) (tC (.int i)):=λ_ _ _ H _ I h=>wpAny_Constant_int ⟨.int i,H,I.tok _,⟨_,rfl⟩,h⟩
theorem ZhZ {b j pos}:PE X (.Constant (.bool b) j pos) (tC (.bl b)):=λ_ _ _ H _ I h=>Constant_bool ⟨.bl b,H,I,rfl,h⟩
noncomputable def Gl (X:Cx) (x:Str):Prop:=X.env.kindOf x=some .globalImplicit
theorem Zc5 {E:Value->Shared->Prop} {pins:List (Addr×Obj)} {s:Shared} {σ:St} {H:Hp} {x:Str} {u:Value} {pos:Pos} {Q:Value->Shared->Prop} (I:Inv X pins σ H s) (hg:Gl X x) (hm:X.mg x=some u) (h:Q u s)
  (hd:(x == ("__debug__":Str))=false:=by decide):wpAny (model X.prog X.w) X.A (eval (.Name x pos) X.env) Q E s :=
 Calls.Name_function_global I.ok.kind hg (Calls.loadGlobal_global (by rw [I.ok.glob]; exact I.mod.glob.keeps I.bk) hm h) hd
theorem jn {E:Value->Shared->Prop} {pins:List (Addr×Obj)} {s:Shared} {σ:St} {H:Hp} {x:Str} {u:Value} {pos:Pos} {Q:Value->Shared->Prop} (I:Inv X pins σ H s) (hg:Gl X x) (hm:X.mg x=none) (hv:bootBuiltins x=some u) (h:Q u s)
  (hn:x≠"__name__":=by decide) (hd:(x == ("__debug__":Str))=false:=by decide):wpAny (model X.prog X.w) X.A (eval (.Name x pos) X.env) Q E s:=by
 obtain ⟨mb,h1,h2⟩:=I.mod.blt
 exact Calls.Name_function_global I.ok.kind hg (Calls.loadGlobal_builtin (by rw [I.ok.glob]; exact I.mod.glob.keeps I.bk) hm (by rw [I.ok.blt]; exact h1.keeps I.bk) ((h2 x hn).trans hv) h) hd
theorem ZhU {x:Str} {v:V} {u:Value} {pos:Pos} (hg:Gl X x) (hm:X.mg x=some u) (r:RelV v u) (hd:(x == ("__debug__":Str))=false:=by decide):PE X (.Name x pos) (tC v) :=
 λ_ _ _ H _ I h=>Zc5 I hg hm ⟨v,H,I,r,h⟩ hd
variable {a b:Expr} {ta tb:TE} {pos:Pos}
variable {tA tB':TT} {rest:List Expr}
noncomputable def Zgs (t u:TT):TT:=λσ H Q=>t σ H λc H1=>if c=true then u σ H1 Q else Q false H1
theorem Zhz (ha:PT X a tA):PW X (.BoolOp .And [a] pos) tA:=by
 intro wh pins s σ H Q I h
 refine isTrue_and (thn (ha pins s σ H Q I h) λc s1 e=>?_)
 cases c with
 | true=>exact isTrue_and_nil e
 | false=>exact e
theorem ZhA (ha:PT X a tA) (hb:PW X (.BoolOp .And (b::rest) pos) tB'):PW X (.BoolOp .And (a::b::rest) pos) (Zgs tA tB'):=by
 intro wh pins s σ H Q I h
 refine isTrue_and (thn (ha pins s σ H _ I h) λc s1 hz0=>?_)
 obtain ⟨H1,I1,q1⟩:=hz0
 cases c with
 | true=>exact hb wh pins s1 σ H1 Q I1 q1
 | false=>exact ⟨H1,I1,q1⟩
noncomputable def tIf (t:TT) (ta tb:TE):TE:=λσ H Q=>t σ H λc H1=>if c=true then ta σ H1 Q else tb σ H1 Q
theorem ZhT {c:Expr} (hc:PT X c tA) (ha:PE X a ta) (hb:PE X b tb):PE X (.IfExp c a b pos) (tIf tA ta tb):=by
 intro pins s σ H Q I h
 refine wpAny_IfExp (thn (hc pins s σ H _ I h) λd s1 hz0=>?_)
 obtain ⟨H1,I1,q1⟩:=hz0
 cases d with
 | true=>exact ha pins s1 σ H1 Q I1 q1
 | false=>exact hb pins s1 σ H1 Q I1 q1
end
noncomputable def SqL (K:PySem.W.Frag) (H:Hp) (a:Addr) (xs:List V):Prop :=
 Rd H a (.lst xs) \/
  ∃ (o:Obj) (its:Array Value) (n:Nat),K.lookup a=some o/\o.cls=.type "list"/\o.dict=none/\o.data=.seq its n/\its.size<=sizeLine/\Vals xs its.toList
noncomputable def SqT (K:PySem.W.Frag) (H:Hp) (a:Addr) (xs:List V):Prop :=
 Rd H a (.tup xs) \/
  ∃ (o:Obj) (its:Array Value) (n:Nat),K.lookup a=some o/\o.cls=.type "tuple"/\o.data=.seq its n/\its.size<=sizeLine/\Vals xs its.toList
noncomputable def Zof:Value->Option V
 | .none=>some .non
 | .bool b=>some (.bl b)
 | .int i _=>some (.int i)
 | .str x _=>some (.str x)
 | .bytes b _=>some (.byt b)
 | .float b _=>some (.flt b)
 | .ref a=>some (.ref a)
 | .type n=>some (.ty n)
 | _=>none
theorem RelV.abs {x:V} {u:Value} (r:RelV x u):Zof u=some x:=by
 cases x with
 | non=>cases r; rfl
 | bl _=>cases r; rfl
 | int _=>obtain ⟨t,rfl⟩:=r; rfl
 | str _=>obtain ⟨t,rfl⟩:=r; rfl
 | byt _=>obtain ⟨t,rfl⟩:=r; rfl
 | flt _=>obtain ⟨t,rfl⟩:=r; rfl
 | ref _=>cases r; rfl
 | ty _=>cases r; rfl
theorem RelV.inj {x y:V} {u:Value} (r:RelV x u) (q:RelV y u):x=y:=Option.some.inj (r.abs.symm.trans q.abs)
theorem Vals.inj {xs ys:List V} {us:List Value} (h:Vals xs us) (h':Vals ys us):xs=ys:=by
 induction h generalizing ys with
 | nil=>cases h'; rfl
 | cons r t ih=>cases h' with | cons r' t'=>rw [r.inj r',ih t']
section
variable {X:Cx} {pins:List (Addr×Obj)} {σ:St} {H:Hp} {s:Shared} {a:Addr} {xs ys:List V}
theorem SqL.of {K:PySem.W.Frag} (h:H a=some (.lst xs)):SqL K H a xs:=.inl (.inl h)
theorem SqT.of {K:PySem.W.Frag} (h:H a=some (.tup xs)):SqT K H a xs:=.inl (.inl h)
theorem Inv.list (I:Inv X pins σ H s) (h:SqL X.K H a xs):∃ its:List Value,Vals xs its/\PlainL s.heap a its.toArray/\xs.length<=sizeLine:=by
 rcases h with h | ⟨o,its,n,hk,hc,hd,hs,hz,r⟩
 ·obtain ⟨z,its,n,r,e⟩:=h.ok I.hok
  exact ⟨its,r,⟨_,n,e,rfl,rfl,rfl⟩,z⟩
 ·refine ⟨its.toList,r,⟨o,n,I.kIn a o hk,hc,hd,by simpa using hs⟩,?_⟩
  have e:=r.length
  simp only [Array.length_toList] at e
  omega
theorem Inv.tuple (I:Inv X pins σ H s) (h:SqT X.K H a xs):∃ its:List Value,Vals xs its/\IsTup s.heap a its.toArray/\xs.length<=sizeLine:=by
 rcases h with h | ⟨o,its,n,hk,hc,hs,hz,r⟩
 ·obtain ⟨z,its,r,p⟩:=h.ok I.hok
  exact ⟨its,r,p,z⟩
 ·refine ⟨its.toList,r,⟨o,I.kIn a o hk,hc,n,by simpa using hs⟩,?_⟩
  have e:=r.length
  simp only [Array.length_toList] at e
  omega
theorem Inv.list_inj (I:Inv X pins σ H s) (h:SqL X.K H a xs) (h':SqL X.K H a ys):xs=ys:=by
 obtain ⟨its,r,⟨o,n,e,_,_,d⟩,_⟩:=I.list h
 obtain ⟨its',r',⟨o',n',e',_,_,d'⟩,_⟩:=I.list h'
 rw [e] at e'; cases e'
 rw [d] at d'
 injection d' with d1 _
 have:its=its':=by simpa using congrArg Array.toList d1
 subst this
 exact r.inj r'
theorem Inv.tuple_inj (I:Inv X pins σ H s) (h:SqT X.K H a xs) (h':SqT X.K H a ys):xs=ys:=by
 obtain ⟨its,r,⟨o,e,_,n,d⟩,_⟩:=I.tuple h
 obtain ⟨its',r',⟨o',e',_,n',d'⟩,_⟩:=I.tuple h'
 rw [e] at e'; cases e'
 rw [d] at d'
 injection d' with d1 _
 have:its=its':=by simpa using congrArg Array.toList d1
 subst this
 exact r.inj r'
end
noncomputable abbrev Cx.wish (X:Cx) (E:Value->Shared->Prop):Cx:={ X with xe:=E }
noncomputable abbrev Cx.nox (X:Cx):Cx:=X.wish λ_ _=>False
theorem Cx.Ok.wish {X:Cx} (ok:X.Ok) (E:Value->Shared->Prop):(X.wish E).Ok :=
 ⟨ok.mod,ok.kind,ok.glob,ok.blt,ok.above,ok.inj,ok.has,ok.cab,ok.hd,ok.frames,ok.stk,ok.exf,ok.bs,ok.bsz,ok.noex,ok.exfs,ok.funs,ok.frf⟩
theorem Cx.Ok.unwish {X:Cx} {E:Value->Shared->Prop} (ok:(X.wish E).Ok):X.Ok :=
 ⟨ok.mod,ok.kind,ok.glob,ok.blt,ok.above,ok.inj,ok.has,ok.cab,ok.hd,ok.frames,ok.stk,ok.exf,ok.bs,ok.bsz,ok.noex,ok.exfs,ok.funs,ok.frf⟩
section
variable {X:Cx} {pins:List (Addr×Obj)} {σ:St} {H:Hp} {s:Shared} {E:Value->Shared->Prop}
theorem Inv.wish (I:Inv X pins σ H s) (E:Value->Shared->Prop):Inv (X.wish E) pins σ H s:=⟨I.ok.wish E,I.os,I.bare,I.base,I.loc,I.cell,I.free,I.freeC,I.pin,I.hok,I.len⟩
theorem Inv.unwish (I:Inv (X.wish E) pins σ H s):Inv X pins σ H s:=⟨I.ok.unwish,I.os,I.bare,I.base,I.loc,I.cell,I.free,I.freeC,I.pin,I.hok,I.len⟩
theorem SP.unwish {D:Ends} {f:Flow} {s':Shared} (h:SP (X.wish E) pins D f s'):SP X pins D f s':=by
 cases f with
 | next=>obtain ⟨σ',H',I,q⟩:=h; exact ⟨σ',H',I.unwish,q⟩
 | brk=>obtain ⟨σ',H',I,q⟩:=h; exact ⟨σ',H',I.unwish,q⟩
 | cont=>obtain ⟨σ',H',I,q⟩:=h; exact ⟨σ',H',I.unwish,q⟩
 | ret u=>obtain ⟨v,σ',H',I,r,q⟩:=h; exact ⟨v,σ',H',I.unwish,r,q⟩
theorem PE.nox {e:Expr} {t:TE} (h:PE X.nox e t):PE X e t:=λpins s σ H Q I hw =>
 wpAny_mono (h pins s σ H Q (I.wish _) hw) (λ_ _ ⟨v,H',I',r,q⟩=>⟨v,H',I'.unwish,r,q⟩) λ_ _ z=>False.elim z
theorem PSs.nox {st:List Stmt} {t:TS} (h:PSs X.nox st t):PSs X st t:=λpins s σ H D I hw =>
 wpAny_mono (h pins s σ H D (I.wish _) hw) (λ_ _ q=>q.unwish) λ_ _ z=>False.elim z
end
section
variable {X:Cx} {st:Stmt} {rest:List Stmt} {t u:TS} {e:Expr} {te:TE} {pos:Pos}
noncomputable def Zgl:TS:=λD σ H=>D.nx σ H
noncomputable def ZaD (t u:TS):TS:=λD σ H=>t { D with nx:=u D } σ H
theorem mq:PSs X [] Zgl:=λ_ _ σ H _ I h=>wpAny_execs_nil ⟨σ,H,I,h⟩
theorem eQ (h1:PS X st t) (h2:PSs X rest u):PSs X (st::rest) (ZaD t u):=by
 intro pins s σ H D I h
 refine wpAny_execs_cons (thn (h1 pins s σ H { D with nx:=u D } I h) λf s1 q=>?_)
 cases f with
 | next =>
  obtain ⟨σ',H',I',q⟩:=q
  exact h2 pins s1 σ' H' D I' q
 | ret v=>exact q
 | brk=>exact q
 | cont=>exact q
theorem i6 (h1:PS X st t):PSs X [st] t:=by
 intro pins s σ H D I h
 refine wpAny_execs_cons (thn (h1 pins s σ H D I h) λf s1 q=>?_)
 cases f with
 | next=>exact wpAny_execs_nil q
 | ret v=>exact q
 | brk=>exact q
 | cont=>exact q
theorem Inv.quiet {pins:List (Addr×Obj)} {σ:St} {H:Hp} {s:Shared} (I:Inv X pins σ H s):interactive X.env=false:=by simp [interactive,I.ok.kind]
noncomputable def lN (te:TE):TS:=λD σ H=>te σ H λ_ H1=>D.nx σ H1
theorem io (he:PE X e te) (hs:swapsWith e none pos.line X.env=pure false:=by rfl):PS X (.Expr e pos) (lN te):=by
 intro pins s σ H D I h
 exact wpAny_Expr_any (thn (he pins s σ H _ I h) λv s1 ⟨x,H1,I1,r1,q1⟩=>⟨σ,H1,I1,q1⟩) I.quiet hs
noncomputable def Zgi (te:TE):TS:=λD σ H=>te σ H D.rt
theorem im (he:PE X e te):PS X (.Return (some e) pos) (Zgi te):=by
 intro pins s σ H D I h
 exact wpAny_Return_some (thn (he pins s σ H _ I h) λv s1 ⟨x,H1,I1,r1,q1⟩=>⟨x,σ,H1,I1,r1,q1⟩)
noncomputable def Zgp (c:TT) (t u:TS):TS:=λD σ H=>c σ H λb H1=>if b=true then t D σ H1 else u D σ H1
theorem mv {c:Expr} {a b:List Stmt} {tc:TT} (hc:PT X c tc) (ha:PSs X a t) (hb:PSs X b u):PS X (.If c a b pos) (Zgp tc t u):=by
 intro pins s σ H D I h
 refine wpAny_If (thn (hc pins s σ H _ I h) λd s1 hz0=>?_)
 obtain ⟨H1,I1,q1⟩:=hz0
 cases d with
 | true=>exact ha pins s1 σ H1 D I1 q1
 | false=>exact hb pins s1 σ H1 D I1 q1
end
noncomputable abbrev TG:=V->St->Hp->(St->Hp->Prop)->Prop
noncomputable abbrev gH:=List V->St->Hp->(St->Hp->Prop)->Prop
noncomputable def PG (X:Cx) (target:Expr) (t:TG):Prop :=
 ∀ (pins:List (Addr×Obj)) (s:Shared) (σ:St) (H:Hp) (v:V) (u:Value) (Q:St->Hp->Prop),Inv X pins σ H s->RelV v u->t v σ H Q ->
  wpAny (model X.prog X.w) X.A (assign target X.env u) (λ_ s'=>∃ σ' H',Inv X pins σ' H' s'/\Q σ' H') X.xe s
noncomputable def PGs (X:Cx) (ts:List Expr) (t:gH):Prop :=
 ∀ (pins:List (Addr×Obj)) (s:Shared) (σ:St) (H:Hp) (vs:List V) (us:List Value) (Q:St->Hp->Prop),Inv X pins σ H s->Vals vs us->t vs σ H Q ->
  wpAny (model X.prog X.w) X.A (assignInOrder ((assignEach ts X.env).map (·.2)) us) (λ_ s'=>∃ σ' H',Inv X pins σ' H' s'/\Q σ' H') X.xe s
noncomputable abbrev lu:=V->V->V->Hp->(Hp->Prop)->Prop
noncomputable def sg (X:Cx) (t:lu):Prop :=
 ∀ (pins:List (Addr×Obj)) (s:Shared) (σ:St) (H:Hp) (o i v:V) (ov iv u:Value) (Q:Hp->Prop),Inv X pins σ H s->RelV o ov->RelV i iv->RelV v u->t o i v H Q ->
  wpAny (model X.prog X.w) X.A (setItem ov iv u) (λ_ s'=>∃ H',Inv X pins σ H' s'/\Q H') X.xe s
noncomputable abbrev jM:=V->V->Hp->VK->Prop
noncomputable def ou (X:Cx) (op:Operator) (t:jM):Prop :=
 ∀ (pins:List (Addr×Obj)) (s:Shared) (σ:St) (H:Hp) (x y:V) (v u:Value) (Q:VK),Inv X pins σ H s->RelV x v->RelV y u->t x y H Q ->
  wpAny (model X.prog X.w) X.A (inplaceOp op v u) (EP X pins σ Q) X.xe s
section
variable {X:Cx} {pos:Pos}
noncomputable def eX (i:Nat):TG:=λv σ H Q=>Q (σ.set i (some v)) H
theorem aU {i:Nat} {x:Str} (hN:X.N.Nodup) (hi:X.N[i]?=some x) (hx:lG X.env.scope x) (hf:X.fn x=true\/X.env.scope.names.lookup x=some .local:=by first | exact .inl rfl | exact .inr rfl | assumption):PG X (.Name x pos) (eX i):=by
 intro pins s σ H v u Q I r h
 exact wpAny_assign_Name (jU I hN hi hx r (λs' I'=>⟨_,H,I',h⟩) hf)
noncomputable def ZjD:gH:=λvs σ H Q=>vs=[]/\Q σ H
noncomputable def ZjE (t:TG) (u:gH):gH:=λvs σ H Q=>∃ v r,vs=v::r/\t v σ H λσ' H'=>u r σ' H' Q
theorem ZhN:PGs X [] ZjD:=by
 intro pins s σ H vs us Q I r h
 obtain ⟨e,h⟩:=h
 subst e
 cases r
 exact assignInOrder_nil ⟨σ,H,I,h⟩
theorem ZhO {e:Expr} {es:List Expr} {t:TG} {u:gH} (h1:PG X e t) (h2:PGs X es u)
  (hs:(assignEach (e::es) X.env).map (·.2)=assign e X.env::(assignEach es X.env).map (·.2):=by rfl):PGs X (e::es) (ZjE t u):=by
 intro pins s σ H vs us Q I r h
 obtain ⟨v,vr,e1,h⟩:=h
 subst e1
 cases r with
 | cons r rr =>
  rw [hs]
  refine assignInOrder_cons (thn (h1 pins s σ H _ _ _ I r h) λ_ s1 hz0=>?_)
  obtain ⟨σ1,H1,I1,q1⟩:=hz0
  exact h2 pins s1 σ1 H1 _ _ Q I1 rr q1
noncomputable def ZjC (K:PySem.W.Frag) (n:Nat) (t:gH):TG:=λv σ H Q=>∃ a xs,v=.ref a/\SqT K H a xs/\xs.length=n/\t xs σ H Q
theorem ZhP {es:List Expr} {k:Nat} {t:gH} {n:Nat} (hc:X.calm=true) (h:PGs X es t)
  (hn:(assignEach es X.env).length=n:=by rfl) (hst:(assignEach es X.env).findIdx? (·.1)=none:=by rfl):PG X (.Tuple es k pos) (ZjC X.K n t):=by
 intro pins s σ H v u Q I r hw
 obtain ⟨a,xs,e1,hq,hl,hw⟩:=hw
 subst e1
 cases r
 obtain ⟨its,rv,ht,hz⟩:=I.tuple hq
 refine assign_Tuple_tuple (I.ok.hd hc) ht (by simp [hn,<- hl,rv.length]) hst λh' hx=>?_
 have I1:Inv X pins σ H { s with heap:=h' }:=I.kept (t':=s.toks) λb o e=>hx b o (Nat.ne_of_lt (Heap.lt_size e)) e
 exact h pins _ σ H xs _ Q I1 (by simpa using rv) hw
noncomputable def Zdv (to ti:TE) (t:lu):TG:=λv σ H Q=>to σ H λo H1=>ti σ H1 λi H2=>t o i v H2 λH3=>Q σ H3
theorem i8 {o i:Expr} {to ti:TE} {t:lu} (ho:PE X o to) (hi:PE X i ti) (hs:sg X t)
  (ha:∀ v,assign (.Subscript o i pos) X.env v=(do
   let ov <- holding [v] (eval o X.env)
   let iv <- holding [v,ov] (eval i X.env)
   standAt pos
   holding [v,ov,iv] (setItem ov iv v)
   release [v,ov,iv] []):=by intro _; rfl):PG X (.Subscript o i pos) (Zdv to ti t):=by
 intro pins s σ H v u Q I r h
 rw [ha]
 refine wpAny_bind (wpAny_holding (thn (ho pins s σ H _ I h) λov s1 hz0=>?_))
 obtain ⟨x,H1,I1,r1,q1⟩:=hz0
 refine wpAny_bind (wpAny_holding (thn (hi pins s1 σ H1 _ I1 q1) λiv s2 hz0=>?_))
 obtain ⟨y,H2,I2,r2,q2⟩:=hz0
 refine wpAny_bind (wpAny_standAt (wpAny_bind (wpAny_holding (thn (hs pins s2 σ H2 x y v ov iv u _ I2 r1 r2 r q2) λ_ s3 hz0=>?_))))
 obtain ⟨H3,I3,q3⟩:=hz0
 exact wpAny_release ⟨σ,H3,I3,q3⟩
noncomputable def eu (te:TE) (g:TG):TS:=λD σ H=>te σ H λx H1=>g x σ H1 D.nx
theorem fN {tg e:Expr} {te:TE} {g:TG} (he:PE X e te) (hg:PG X tg g) (hs:swapsWithSole [tg] e pos.line X.env=pure false:=by rfl) (hw:swappedStores [tg] e X.env=pure none:=by rfl)
  (h1:(assignEach [tg] X.env).map (·.2)=[assign tg X.env]:=by rfl):PS X (.Assign [tg] e pos) (eu te g):=by
 intro pins s σ H D I h
 refine wpAny_Assign_stores (thn (he pins s σ H _ I h) λv s1 hz0=>?_) hs hw
 obtain ⟨x,H1,I1,r1,q1⟩:=hz0
 rw [h1]
 exact thn (hg pins s1 σ H1 x v _ I1 r1 q1) λ_ s2 q=>q
theorem aJ {i:Nat} {x:Str} {e:Expr} {te:TE} {pos':Pos} (hN:X.N.Nodup) (hi:X.N[i]?=some x) (hx:lG X.env.scope x) (he:PE X e te) (hs:swapsWith e (some (.Name x pos')) pos.line X.env=pure false:=by rfl) (hf:X.fn x=true\/X.env.scope.names.lookup x=some .local:=by first | exact .inl rfl | exact .inr rfl | assumption) :
  PS X (.Assign [.Name x pos'] e pos) (eu te (eX i)):=by
 intro pins s σ H D I h
 refine wpAny_Assign_Name (thn (he pins s σ H _ I h) λv s1 hz0=>?_) hs
 obtain ⟨y,H1,I1,r1,q1⟩:=hz0
 exact jU I1 hN hi hx r1 (λs2 I2=>⟨_,H1,I2,q1⟩) hf
noncomputable def ZaE (i j:Nat) (ta:TA):TS:=λD σ H=>ta σ H λvs H1=>∃ v w,vs=[v,w]/\D.nx ((σ.set i (some v)).set j (some w)) H1
theorem mr {i j:Nat} {x y:Str} {a b:Expr} {ta:TA} {px py pt:Pos} {kt k2 pt2} (hc:X.calm=true) (hN:X.N.Nodup) (hi:X.N[i]?=some x) (hj:X.N[j]?=some y) (hij:i≠j)
  (hx:X.env.scope.names.lookup x=some .local) (hy:X.env.scope.names.lookup y=some .local) (ha:PA X [a,b] ta)
  (hw:swappedStores [.Tuple [.Name x px,.Name y py] kt pt] (.Tuple [a,b] k2 pt2) X.env=pure (some [x,y]))
  (hs:swapsWithSole [.Tuple [.Name x px,.Name y py] kt pt] (.Tuple [a,b] k2 pt2) pos.line X.env=pure false:=by rfl) :
  PS X (.Assign [.Tuple [.Name x px,.Name y py] kt pt] (.Tuple [a,b] k2 pt2) pos) (ZaE i j ta):=by
 intro pins s σ H D I h
 rw [exec_Assign_arm]
 refine wpAny_bind (wpAny_standAt ?_)
 rw [hs]
 refine wpAny_bind (wpAny_pure ?_)
 rw [if_neg (by decide)]
 refine wpAny_bind (Tuple_ (thn (ha _ pins s σ H _ I h) λus s1 hz0=>?_))
 obtain ⟨vs,H1,I1,r1,q1⟩:=hz0
 obtain ⟨v,w,e1,q1⟩:=q1
 subst e1
 obtain ⟨u1,u2,rfl,rv,rw'⟩:∃ u1 u2,us=[u1,u2]/\RelV v u1/\RelV w u2:=by
  cases r1 with
  | cons p q =>
   cases q with
   | cons p' q' =>
    cases q'
    exact ⟨_,_,rfl,p,p'⟩
 refine wpAny_newObj_type ?_ (by show 2<=sizeLine; decide)
 have I2:Inv X pins σ H1 { s1 with heap:=s1.heap.push { cls:=.type "tuple",data:=.seq [u1,u2].toArray } }:=I1.kept (t':=s1.toks) λb o e=>Heap.get?_push_of_some _ e
 rw [hw]
 refine wpAny_bind (wpAny_pure ?_)
 show wpAny (model X.prog X.w) X.A (do rule "assign.swapped-stores"; let items <- unpackItems (.ref s1.heap.objs.size) 2 none; assignInOrder [λv=>bindName X.env y v,λv=>bindName X.env x v] items.reverse; pure Flow.next) _ _ _
 refine wpAny_bind (wpAny_rule (wpAny_bind (unpackItems_tuple (items:=#[u1,u2]) (I.ok.hd hc) (IsTup.new s1.heap _) λh' hx'=>?_)))
 have I3:=I2.kept (h':=h') (t':=s1.toks) λb o e=>hx' b o (Nat.ne_of_lt (Heap.lt_size e)) e
 show wpAny _ _ (assignInOrder [λv=>bindName X.env y v,λv=>bindName X.env x v] [u2,u1] >>= λ_=>pure Flow.next) _ _ _
 refine wpAny_bind (assignInOrder_cons (wpAny_bindName (jU I3 hN hj (.inl hy) rw' (λs2 I4=>?_) (.inr hy))))
 refine assignInOrder_cons (wpAny_bindName (jU I4 hN hi (.inl hx) rv (λs3 I5=>assignInOrder_nil (wpAny_pure ?_)) (.inr hx)))
 rw [List.set_comm _ _ (Ne.symm hij)] at I5
 exact ⟨_,H1,I5,q1⟩
noncomputable def ZaJ (i:Nat) (te:TE) (ti:jM):TS:=λD σ H=>∃ x,σ[i]?=some (some x)/\te σ H λy H1=>ti x y H1 λz H2=>D.nx (σ.set i (some z)) H2
theorem Zcl {i:Nat} {x:Str} {e:Expr} {te:TE} {op:Operator} {ti:jM} {pos':Pos} (hN:X.N.Nodup) (hi:X.N[i]?=some x) (hx:lG X.env.scope x) (he:PE X e te) (ho:ou X op ti) (hf:X.fn x=true\/X.env.scope.names.lookup x=some .local:=by first | exact .inl rfl | exact .inr rfl | assumption) :
  PS X (.AugAssign (.Name x pos') op e pos) (ZaJ i te ti):=by
 intro pins s σ H D I h
 obtain ⟨v,e1,h⟩:=h
 obtain ⟨m,hn,hl⟩:=I.loc
 have vis:jL X.env.scope x:=by rcases hx with k | k; exact .inl k; exact .inr (.inl k)
 obtain ⟨u,r,l⟩:=hl i x v hi e1 vis
 refine wpAny_AugAssign_Name ?_
 have go:wpAny (model X.prog X.w) X.A (eval e X.env) (λw s₂=>wpAny (model X.prog X.w) X.A (inplaceOp op u w) (λr s₃=>wpAny (model X.prog X.w) X.A (storeName X.env x r) (λ_=>SP X pins D .next) X.xe s₃) X.xe s₂) X.xe s:=by
  refine thn (he pins s σ H _ I h) λw s1 hz0=>?_
  obtain ⟨y,H1,I1,r1,q1⟩:=hz0
  refine thn (ho pins s1 σ H1 v y u w _ I1 r r1 q1) λz s2 hz0=>?_
  obtain ⟨zv,H2,I2,r2,q2⟩:=hz0
  exact jU I2 hN hi hx r2 (λs3 I3=>⟨_,H2,I3,q2⟩) hf
 rcases l with ⟨hk,hm⟩ | ⟨hk,c,hc,hcell⟩
 ·exact wpAny_loadName_local I.ok.kind hk hn hm go
 ·rcases hk with hk | hk
  ·exact wpAny_loadName_cell I.ok.kind hk hc hcell go
  ·rcases hx with k | k
   ·have:X.env.scope.names.lookup x=some .free:=hk
    rw [k] at this; cases this
   ·have:X.env.scope.names.lookup x=some .free:=hk
    rw [k] at this; cases this
noncomputable def ZaI (to ti te:TE) (tget:V->V->Hp->VK->Prop) (tip:jM) (tset:lu):TS:=λD σ H=>to σ H λo H1=>ti σ H1 λi H2=>tget o i H2 λx H3=>te σ H3 λy H4=>tip x y H4 λz H5=>tset o i z H5 λH6=>D.nx σ H6
noncomputable def ZfB (X:Cx) (t:V->V->Hp->VK->Prop):Prop :=
 ∀ (pins:List (Addr×Obj)) (s:Shared) (σ:St) (H:Hp) (o i:V) (ov iv:Value) (Q:VK),Inv X pins σ H s->RelV o ov->RelV i iv->t o i H Q ->
  wpAny (model X.prog X.w) X.A (getItem ov iv) (EP X pins σ Q) X.xe s
theorem ZhI {o i e:Expr} {to ti te:TE} {tget:V->V->Hp->VK->Prop} {tip:jM} {tset:lu} {op:Operator} {tpos:Pos} (ho:PE X o to) (hi:PE X i ti) (hg:ZfB X tget) (he:PE X e te) (hp:ou X op tip) (hs:sg X tset)
  (ha:∀ ov iv new,augStore i ov iv new=(do holding [new,ov,iv] (setItem ov iv new); release [new,ov,iv] []; pure .next):=by intros; rfl):PS X (.AugAssign (.Subscript o i tpos) op e pos) (ZaI to ti te tget tip tset):=by
 intro pins s σ H D I h
 refine wpAny_AugAssign_SubscriptAny (thn (ho pins s σ H _ I h) λov s1 hz0=>?_) ha
 obtain ⟨x1,H1,I1,r1,q1⟩:=hz0
 refine thn (hi pins s1 σ H1 _ I1 q1) λiv s2 hz0=>?_
 obtain ⟨x2,H2,I2,r2,q2⟩:=hz0
 refine thn (hg pins s2 σ H2 x1 x2 ov iv _ I2 r1 r2 q2) λold s3 hz0=>?_
 obtain ⟨x3,H3,I3,r3,q3⟩:=hz0
 refine thn (he pins s3 σ H3 _ I3 q3) λv s4 hz0=>?_
 obtain ⟨x4,H4,I4,r4,q4⟩:=hz0
 refine thn (hp pins s4 σ H4 x3 x4 old v _ I4 r3 r4 q4) λnew s5 hz0=>?_
 obtain ⟨x5,H5,I5,r5,q5⟩:=hz0
 exact thn (hs pins s5 σ H5 x1 x2 x5 ov iv new _ I5 r1 r2 r5 q5) λ_ s6 hz0=>by
  obtain ⟨H6,I6,q6⟩:=hz0
  exact ⟨σ,H6,I6,q6⟩
noncomputable def ipI (f:Int->Int->Int):jM:=λx y H Q=>∃ i j,x=.int i/\y=.int j/\Q (.int (f i j)) H
theorem Zjf:ou X .Add (ipI λi j=>i+j):=by
 intro pins s σ H x y v u Q I r1 r2 h
 obtain ⟨i,j,e1,e2,q⟩:=h
 subst e1; subst e2
 obtain ⟨t,rfl⟩:=r1
 obtain ⟨t',rfl⟩:=r2
 exact iadd_int ⟨.int _,H,I.tok _,⟨_,rfl⟩,q⟩
end
section
variable {X:Cx} {pos:Pos}
noncomputable def Zgb (c:TT) (tb:TS):TS:=λD σ H=>∃ W:Nat->St->Hp->Prop,(∃ m,W m σ H)/\∀ m σ H,W m σ H ->
 c σ H λb H1=>if b=true then ∃ N:St->Hp->Prop,(∀ σ' H',N σ' H'->∃ m',m' < m/\W m' σ' H')/\tb { D with nx:=N,ct:=N,bk:=D.nx } σ H1 else D.nx σ H1
theorem ZhF {c:Expr} {body:List Stmt} {tc:TT} {tb:TS} (hp:PassesOwn (model X.prog X.w) X.A X.env X.xe) (hc:PT X c tc) (hb:PSs X body tb):PS X (.While c body [] pos) (Zgb tc tb):=by
 intro pins s σ H D I h
 obtain ⟨W,⟨m0,w0⟩,turn⟩:=h
 refine wpAny_While (codeAny_whileLoop (λn s'=>∃ σ' H',Inv X pins σ' H' s'/\W n σ' H') ?_ m0 ⟨σ,H,I,w0⟩)
 rintro n s1 ⟨σ1,H1,I1,w1⟩
 refine wpAny_passesOwn hp (thn (hc pins s1 σ1 H1 _ I1 (turn n σ1 H1 w1)) λb s2 hz0=>?_)
 obtain ⟨H2,I2,q2⟩:=hz0
 cases b with
 | true =>
  obtain ⟨N,hN,q2⟩:=q2
  rw [if_pos rfl]
  refine wpAny_passesOwn hp (thn (hb pins s2 σ1 H2 _ I2 q2) λf s3 q3=>?_)
  cases f with
  | next =>
   obtain ⟨σ3,H3,I3,n3⟩:=q3
   obtain ⟨m',hm,w3⟩:=hN σ3 H3 n3
   exact ⟨m',hm,σ3,H3,I3,w3⟩
  | cont =>
   obtain ⟨σ3,H3,I3,n3⟩:=q3
   obtain ⟨m',hm,w3⟩:=hN σ3 H3 n3
   exact ⟨m',hm,σ3,H3,I3,w3⟩
  | brk=>exact q3
  | ret v=>exact q3
 | false =>
  rw [if_neg Bool.false_ne_true]
  exact wpAny_execs_nil ⟨σ1,H2,I2,q2⟩
end
structure It where
 go:Nat->Hp->Prop
 yld:Nat->Hp->V->Hp->Prop
 stop:Nat->Hp->Prop
noncomputable def fm (X:Cx) (pins:List (Addr×Obj)) (H:Hp) (b:Addr):Prop :=
 H b=none/\b≠X.env.locals/\b ∉ X.fs/\(b∈X.ex\/X.s₀.heap.objs.size<=b)/\(∀ x c,X.env.cells.lookup x=some c->c≠b)/\∀ p∈X.pn++pins,p.1≠b
theorem Inv.fpOk {X:Cx} {pins:List (Addr×Obj)} {σ:St} {H H':Hp} {s:Shared} {b:Addr} (I:Inv X pins σ H s) (hb:s.heap.objs.size<=b) (hn:H' b=none):fm X pins H' b:=by
 refine ⟨hn,Nat.ne_of_gt (Nat.lt_of_lt_of_le I.lt hb),I.nofs hb,.inr (Nat.le_trans I.sz hb),λx c e z=>?_,λp hp z=>?_⟩
 ·obtain ⟨v,q⟩:=I.cell x c e
  exact absurd (Nat.lt_of_lt_of_le q.lt (by rw [z]; exact hb)) (Nat.lt_irrefl _)
 ·exact absurd (Nat.lt_of_lt_of_le (Heap.lt_size (I.pin p hp).1) (by rw [z]; exact hb)) (Nat.lt_irrefl _)
structure Turn (P:Program) (w:World) (K:PySem.W.Frag) (tg:Expr) (J:It) (fp:List Addr) (it:Addr) (tn:Nat->Heap->Prop):Prop where
 mem:it∈fp
 obj:∀ i h,tn i h->∀ b∈fp,∃ o,h.get? b=some o/\∀ v,o.data≠.cell v
 keep:∀ i h h',tn i h->(∀ b∈fp,∀ o,h.get? b=some o->h'.get? b=some o)->tn i h'
 item:∀ (X:Cx),X.prog=P->X.w=w->X.K=K->X.calm=true->∀ (i:Nat) (pins:List (Addr×Obj)) (s:Shared) (σ:St) (H:Hp) (E:Value->Shared->Prop),Inv X pins σ H s->(∀ b∈fp,fm X pins H b)->tn i s.heap->J.go i H ->
  wpAny (model P w) X.A (pyNext (.ref it)) (λr s1=>∃ u,r=some u /\
   wpAny (model P w) X.A (letOwnedTupleGo tg (.ref it) u) (λ_ s2=>∃ x H',Inv X pins σ H' s2/\RelV x u/\J.yld i H x H'/\tn (i+1) s2.heap/\∀ b∈fp,H' b=none) E s1) E s
 done:∀ (X:Cx),X.prog=P->X.w=w->X.K=K->X.calm=true->∀ (i:Nat) (pins:List (Addr×Obj)) (s:Shared) (σ:St) (H:Hp) (E:Value->Shared->Prop),Inv X pins σ H s->(∀ b∈fp,fm X pins H b)->tn i s.heap->J.stop i H ->
  wpAny (model P w) X.A (pyNext (.ref it)) (λr s1=>r=none/\Inv X pins σ H s1) E s
 self:∀ (A:Around) (i:Nat) (s:Shared) (Q:Value->Shared->Prop) (E:Value->Shared->Prop),tn i s.heap->Q (.ref it) s->wpAny (model P w) A (pyIter (.ref it)) Q E s
noncomputable abbrev TI:=St->Hp->(It->Hp->Prop)->Prop
noncomputable def lx (X:Cx) (pins:List (Addr×Obj)) (σ:St) (tg:Expr) (R:It->Hp->Prop) (itv:Value) (s2:Shared):Prop :=
 ∃ (it:Addr) (fp:List Addr) (tn:Nat->Heap->Prop) (J:It) (H':Hp),itv=.ref it/\Inv X pins σ H' s2/\Turn X.prog X.w X.K tg J fp it tn/\tn 0 s2.heap/\(∀ b∈fp,fm X pins H' b)/\R J H'
noncomputable def PI (X:Cx) (tg iter:Expr) (wi:TI):Prop :=
 ∀ (pins:List (Addr×Obj)) (s:Shared) (σ:St) (H:Hp) (R:It->Hp->Prop),Inv X pins σ H s->wi σ H R ->
  wpAny (model X.prog X.w) X.A (eval iter X.env) (λv s1=>wpAny (model X.prog X.w) X.A (pyIter v) (lx X pins σ tg R) X.xe s1) X.xe s
theorem kU {M:Model} {A:Around} {E:Value->Shared->Prop} {s:Shared} {tg:Expr} {it:Addr} {u:Value} {o:Obj} {n:String} {vs:Array Value} {Q:Unit->Shared->Prop} (ho:s.heap.get? it=some o) (hc:o.cls=.type n) (hd:o.data=.fields vs)
  (hn:["enumerate","zip","dict_itemiterator","dict_reverseitemiterator","odict_iterator","itertools.zip_longest","itertools.pairwise"].contains n=false) (hQ:Q () s):wpAny M A (letOwnedTupleGo tg (.ref it) u) Q E s:=by
 unfold letOwnedTupleGo
 cases tg <;> first
  | exact wpAny_pure hQ
  | (cases u <;> first
    | exact wpAny_pure hQ
    | (refine wpAny_bind (wpAny_load ho ?_)
       rw [hc,hd]
       show wpAny M A (if (["enumerate","zip","dict_itemiterator","dict_reverseitemiterator","odict_iterator","itertools.zip_longest","itertools.pairwise"].contains n && vs[0]? == some (rawInt _))=true then _ else _) Q E s
       rw [if_neg (by intro h; rw [hn,Bool.false_and] at h; cases h)]
       exact wpAny_pure hQ))
noncomputable def sm (K:PySem.W.Frag) (a:Addr):It :=
 ⟨λi H=>∃ xs x,SqL K H a xs/\xs[i]?=some x,λi H x H'=>H'=H/\∀ xs,SqL K H a xs->xs[i]?=some x,λi H=>∃ xs,SqL K H a xs/\xs.length<=i⟩
noncomputable def sj (K:PySem.W.Frag) (a:Addr):It :=
 ⟨λi H=>∃ xs x,SqT K H a xs/\xs[i]?=some x,λi H x H'=>H'=H/\∀ xs,SqT K H a xs->xs[i]?=some x,λi H=>∃ xs,SqT K H a xs/\xs.length<=i⟩
noncomputable def iJ (lo:Int) (n:Nat):It:=⟨λi _=>i < n,λi H x H'=>H'=H/\x=.int (lo+i),λi _=>n<=i⟩
theorem Zf0 {P:Program} {w:World} {K:PySem.W.Frag} {tg:Expr} (a it:Addr):Turn P w K tg (sm K a) [it] it (λi h=>h.IsListIter it a i) where
 mem:=by simp
 obj:=λi h st b hb=>by
  have e:b=it:=by simpa using hb
  subst e
  obtain ⟨o,e,c,d⟩:=st
  exact ⟨o,e,λv z=>by rw [d] at z; cases z⟩
 keep:=λi h h' st k=>st.at λo e=>k it (by simp) o e
 item:=by
  intro X hP hw hK hc i pins s σ H E I hf st hg
  subst hP hw hK
  obtain ⟨xs,x,hq,hx⟩:=hg
  obtain ⟨its,rv,p,hz⟩:=I.list hq
  obtain ⟨u,hu,ru⟩:=rv.get hx
  obtain ⟨f0,f1,f2,f3,f4,f5⟩:=hf it (by simp)
  refine wpAny_pyNext_list_item st p.isList (x:=u) (by simpa using hu) λh' st' sb=>?_
  have I1:Inv X pins σ H { s with heap:=h' }:=I.turned (t':=s.toks) (λb o hb e=>(sb.2 b hb).trans e) f0 f1 f3 f4 f5
  obtain ⟨o,e,c,d⟩:=id st'
  exact ⟨u,rfl,kU (s:={ s with heap:=h' }) e c d (by decide) ⟨x,H,I1,ru,⟨rfl,λys hy=>by rw [I.list_inj hy hq]; exact hx⟩,st',λb hb=>(hf b hb).1⟩⟩
 done:=by
  intro X hP hw hK hc i pins s σ H E I hf st hg
  subst hP hw hK
  obtain ⟨xs,hq,hx⟩:=hg
  obtain ⟨its,rv,p,hz⟩:=I.list hq
  obtain ⟨f0,f1,f2,f3,f4,f5⟩:=hf it (by simp)
  have hl:=rv.length
  exact wpAny_pyNext_list_end (I.ok.hd hc) st p.isList (by simp; omega) λh' eb=>⟨rfl,I.turned (t':=s.toks) (λb o hb e=>eb b o hb e) f0 f1 f3 f4 f5⟩
 self:=λ_ _ _ _ _ st h=>wpAny_pyIter_listiter st h
theorem ZfX {P:Program} {w:World} {K:PySem.W.Frag} {tg:Expr} (a it:Addr):Turn P w K tg (sj K a) [it] it (λi h=>h.IsTupleIter it a i) where
 mem:=by simp
 obj:=λi h st b hb=>by
  have e:b=it:=by simpa using hb
  subst e
  obtain ⟨o,e,c,d⟩:=st
  exact ⟨o,e,λv z=>by rw [d] at z; cases z⟩
 keep:=λi h h' st k=>st.at λo e=>k it (by simp) o e
 item:=by
  intro X hP hw hK hc i pins s σ H E I hf st hg
  subst hP hw hK
  obtain ⟨xs,x,hq,hx⟩:=hg
  obtain ⟨its,rv,p,hz⟩:=I.tuple hq
  obtain ⟨u,hu,ru⟩:=rv.get hx
  obtain ⟨f0,f1,f2,f3,f4,f5⟩:=hf it (by simp)
  refine wpAny_pyNext_tuple_item st (show s.heap.IsTuple a its.toArray from p) (x:=u) (by simpa using hu) λh' st' sb=>?_
  have I1:Inv X pins σ H { s with heap:=h' }:=I.turned (t':=s.toks) (λb o hb e=>(sb.2 b hb).trans e) f0 f1 f3 f4 f5
  obtain ⟨o,e,c,d⟩:=id st'
  exact ⟨u,rfl,kU (s:={ s with heap:=h' }) e c d (by decide) ⟨x,H,I1,ru,⟨rfl,λys hy=>by rw [I.tuple_inj hy hq]; exact hx⟩,st',λb hb=>(hf b hb).1⟩⟩
 done:=by
  intro X hP hw hK hc i pins s σ H E I hf st hg
  subst hP hw hK
  obtain ⟨xs,hq,hx⟩:=hg
  obtain ⟨its,rv,p,hz⟩:=I.tuple hq
  obtain ⟨f0,f1,f2,f3,f4,f5⟩:=hf it (by simp)
  have hl:=rv.length
  exact wpAny_pyNext_tuple_end (I.ok.hd hc) st (show s.heap.IsTuple a its.toArray from p) (by simp; omega) λh' eb=>⟨rfl,I.turned (t':=s.toks) (λb o hb e=>eb b o hb e) f0 f1 f3 f4 f5⟩
 self:=λ_ _ _ _ _ st h=>wpAny_pyIter_tupleiter st h
theorem ZfZ {P:Program} {w:World} {K:PySem.W.Frag} {tg:Expr} (it:Addr) (lo:Int) (n:Nat):Turn P w K tg (iJ lo n) [it] it (λi h=>IsRangeIter h it (lo+(i:Nat) * 1) ((n:Int) - (i:Nat)) 1) where
 mem:=by simp
 obj:=λi h st b hb=>by
  have e:b=it:=by simpa using hb
  subst e
  exact ⟨_,st,λv z=>by
   have z':Data.fields _=Data.cell v:=z
   cases z'⟩
 keep:=λi h h' st k=>k it (by simp) _ st
 item:=by
  intro X hP hw hK hc i pins s σ H E I hf st hg
  subst hP hw hK
  obtain ⟨f0,f1,f2,f3,f4,f5⟩:=hf it (by simp)
  have W:=Walks.range (prog:=X.prog) (w:=X.w) (I.ok.hd hc) it lo 1 n
  refine W.item i s _ _ hg st λv h' tk hv st' kk=>?_
  obtain ⟨t,rfl⟩:=hv
  have I1:Inv X pins σ H { s with heap:=h',toks:=tk }:=I.turned (λb o hb e=>kk b o (by simpa using hb) e) f0 f1 f3 f4 f5
  refine ⟨_,rfl,kU (s:={ s with heap:=h',toks:=tk }) (n:="range_iterator") st' rfl rfl (by decide) ⟨.int (lo+i),H,I1,⟨t,?_⟩,⟨rfl,rfl⟩,st',λb hb=>(hf b hb).1⟩⟩
  rw [Int.mul_one]
 done:=by
  intro X hP hw hK hc i pins s σ H E I hf st hg
  subst hP hw hK
  obtain ⟨f0,f1,f2,f3,f4,f5⟩:=hf it (by simp)
  exact wpAny_pyNext_range_end (I.ok.hd hc) st (by have:n<=i:=hg; omega) λh' eb=>⟨rfl,I.turned (t':=s.toks) (λb o hb e=>eb b o hb e) f0 f1 f3 f4 f5⟩
 self:=λ_ _ _ _ _ st h=>wpAny_pyIter_rangeiter st h
section
variable {X:Cx} {tg:Expr}
theorem ZbR {pins:List (Addr×Obj)} {σ:St} {H:Hp} {s:Shared} {R:It->Hp->Prop} {E:Value->Shared->Prop} {lo hi:Int} {t u v:Tok} {tk:Nat} (I:Inv X pins σ H s) (h1:-(2 ^ 62)<=lo) (h2:lo < 2 ^ 62) (h3:-(2 ^ 62)<=hi) (h4:hi < 2 ^ 62)
  (q:R (iJ lo (hi - lo).toNat) H):wpAny (model X.prog X.w) X.A (pyIter (.ref s.heap.objs.size)) (lx X pins σ tg R) E { s with heap:=s.heap.push { cls:=.type "range",data:=.fields #[.int lo t,.int hi u,.int 1 v] },toks:=tk }:=by
 refine wpAny_pyIter_range (IsRange.new ..) (small_one h1 h2 h3 h4) ?_
 have I1:Inv X pins σ H { s with heap:=s.heap.push { cls:=.type "range",data:=.fields #[.int lo t,.int hi u,.int 1 v] },toks:=tk }:=I.kept λb o e=>Heap.get?_push_of_some _ e
 refine ⟨(s.heap.push { cls:=.type "range",data:=.fields #[.int lo t,.int hi u,.int 1 v] }).objs.size,[(s.heap.push { cls:=.type "range",data:=.fields #[.int lo t,.int hi u,.int 1 v] }).objs.size],_,_,H,rfl,
  I1.kept (t':=tk) λb o e=>Heap.get?_push_of_some _ e,ZfZ _ lo (hi - lo).toNat,?_,λb hb=>?_,q⟩
 ·have e1:lo+((0:Nat):Int) * 1=lo:=by simp
  have e2:(((hi - lo).toNat:Nat):Int) - ((0:Nat):Int)=Builtin.Range.rangeSize lo hi 1:=by rw [rangeSize_one]; split <;> omega
  show IsRangeIter _ _ (lo+((0:Nat):Int) * 1) ((((hi - lo).toNat:Nat):Int) - ((0:Nat):Int)) 1
  rw [e1,e2]
  exact Heap.get?_push_size _ rfl
 ·have e:b=(s.heap.push { cls:=.type "range",data:=.fields #[.int lo t,.int hi u,.int 1 v] }).objs.size:=by simpa using hb
  subst e
  exact I1.fpOk (Nat.le_refl _) (I1.hok.fresh (Nat.le_refl _))
noncomputable def Zdq (ta:TA):TI:=λσ H R=>ta σ H λvs H1=>∃ j:Int,vs=[.int j]/\-(2 ^ 62)<=j/\j < 2 ^ 62/\R (iJ 0 j.toNat) H1
noncomputable def Zdp (ta:TA):TI:=λσ H R=>ta σ H λvs H1=>∃ i j:Int,vs=[.int i,.int j]/\(-(2 ^ 62)<=i/\i < 2 ^ 62/\-(2 ^ 62)<=j/\j < 2 ^ 62)/\R (iJ i (j - i).toNat) H1
theorem gO {a:Expr} {ta:TA} {p pos:Pos} (hg:Gl X "range") (hm:X.mg "range"=none) (ha:PA X [a] ta) (hs:starEach [a] X.env=[(false,eval a X.env)]:=by rfl):PI X tg (.Call (.Name "range" p) [a] [] pos) (Zdq ta):=by
 intro pins s σ H R I h
 refine Call_ (jn I hg hm boot_range (PyProof.Rows.callWith_type1 (thn (ha pos pins s σ H _ I h) λus s1 hz0=>?_) hs rfl))
 obtain ⟨vs,H1,I1,r1,q1⟩:=hz0
 obtain ⟨j,e,q1,q2,q⟩:=q1
 subst e
 cases r1 with
 | cons r rr =>
  cases rr
  obtain ⟨t,rfl⟩:=r
  exact call_range_1 (ZbR I1 (by omega) (by omega) q1 q2 (by simpa using q))
theorem qf {a b:Expr} {ta:TA} {p pos:Pos} (hg:Gl X "range") (hm:X.mg "range"=none) (ha:PA X [a,b] ta) (hs:starEach [a,b] X.env=[(false,eval a X.env),(false,eval b X.env)]:=by rfl) (hs2:starEach [b] X.env=[(false,eval b X.env)]:=by rfl) :
  PI X tg (.Call (.Name "range" p) [a,b] [] pos) (Zdp ta):=by
 intro pins s σ H R I h
 refine Call_ (jn I hg hm boot_range (PyProof.Rows.callWith_type1 (thn (ha pos pins s σ H _ I h) λus s1 hz0=>?_) (by rw [hs,hs2]) (by rw [hs2]; rfl)))
 obtain ⟨vs,H1,I1,r1,q1⟩:=hz0
 obtain ⟨i,j,e,⟨q1,q2,q3,q4⟩,q⟩:=q1
 subst e
 cases r1 with
 | cons r rr =>
  cases rr with
  | cons r' rr =>
   cases rr
   obtain ⟨t,rfl⟩:=r
   obtain ⟨t',rfl⟩:=r'
   exact call_range_2 (ZbR I1 q1 q2 q3 q4 q)
noncomputable def Zgr (wi:TI) (g:TG) (tb:TS):TS:=λD σ H=>wi σ H λJ H1=>∃ W:Nat->Nat->St->Hp->Prop,(∃ m,W 0 m σ H1)/\∀ i m σ H,W i m σ H ->
 (J.stop i H/\D.nx σ H)\/(J.go i H/\∃ N:St->Hp->Prop,(∀ σ' H',N σ' H'->∃ m',m' < m/\W (i+1) m' σ' H')/\∀ x H',J.yld i H x H'->g x σ H' λσ2 H2=>tb { D with nx:=N,ct:=N,bk:=D.nx } σ2 H2)
noncomputable def mx (fp:List Addr) (h:Heap):List (Addr×Obj):=fp.filterMap λb=>(h.get? b).map λo=>(b,o)
theorem fQ {fp:List Addr} {h:Heap} {b:Addr} {o:Obj} (hb:b∈fp) (e:h.get? b=some o):(b,o)∈mx fp h:=List.mem_filterMap.mpr ⟨b,hb,by rw [e]; rfl⟩
theorem Zik {fp:List Addr} {h:Heap} {p:Addr×Obj} (hp:p∈mx fp h):p.1∈fp/\h.get? p.1=some p.2:=by
 obtain ⟨b,hb,e⟩:=List.mem_filterMap.mp hp
 cases q:h.get? b with
 | none=>rw [q] at e; cases e
 | some o =>
  rw [q] at e
  have e':(b,o)=p:=Option.some.inj e
  subst e'
  exact ⟨hb,q⟩
theorem Inv.pinned {pins:List (Addr×Obj)} {σ:St} {H:Hp} {s:Shared} {fp:List Addr} (I:Inv X pins σ H s) (hf:∀ b∈fp,fm X pins H b) (ho:∀ b∈fp,∃ o,s.heap.get? b=some o/\∀ v,o.data≠.cell v):Inv X (pins++mx fp s.heap) σ H s :=
 I.pins_of λp hp=>(List.mem_append.mp hp).elim (λz=>I.pin p (List.mem_append_right _ z)) λz=>by
  obtain ⟨hb,e⟩:=Zik z
  obtain ⟨f0,f1,f2,_⟩:=hf p.1 hb
  obtain ⟨o,e',d⟩:=ho p.1 hb
  rw [e] at e'; cases e'
  exact ⟨e,f0,f1,f2,d⟩
theorem Inv.unpinned {pins pl:List (Addr×Obj)} {σ:St} {H:Hp} {s:Shared} (I:Inv X (pins++pl) σ H s):Inv X pins σ H s:=I.pins_of λp hp=>I.pin p (List.mem_append_right _ (List.mem_append_left _ hp))
theorem ZhH {iter:Expr} {body:List Stmt} {wi:TI} {g:TG} {tb:TS} {pos:Pos} (hp:PassesOwn (model X.prog X.w) X.A X.env X.xe) (hc:X.calm=true) (hi:PI X tg iter wi) (hg:PG X tg g) (hb:PSs X body tb)
  (hs:∀ x,foldedSetIterable iter X.env x=pure x:=by intro _; rfl):PS X (.For tg iter body [] pos) (Zgr wi g tb):=by
 intro pins s σ H D I h
 refine wpAny_For (thn (hi pins s σ H _ I h) λv s1 h1=>thn h1 λitv s2 h2=>?_) hs
 obtain ⟨it,fp,tn,J,H2,e,I2,T,st2,f2,W,⟨m0,w0⟩,turn⟩:=h2
 subst e
 -- what stays true of the iterator's objects through the loop
 have stat:∀ {H':Hp},(∀ b∈fp,H' b=none)->∀ b∈fp,fm X pins H' b:=λhn b hb=>⟨hn b hb,(f2 b hb).2⟩
 refine codeAny_forLoop_any (λn s'=>∃ i σ' H',Inv X pins σ' H' s'/\tn i s'.heap/\(∀ b∈fp,H' b=none)/\W i n σ' H') ?_ m0 ⟨0,σ,H2,I2,st2,λb hb=>(f2 b hb).1,w0⟩
 rintro n s3 ⟨i,σ3,H3,I3,st3,fr3,w3⟩
 rcases turn i n σ3 H3 w3 with ⟨stop,qn⟩ | ⟨go,N,hN,step⟩
 ·refine wpAny_passesOwn hp (thn (T.done X rfl rfl rfl hc i pins s3 σ3 H3 X.xe I3 (stat fr3) st3 stop) λr s4 hz0=>?_)
  obtain ⟨hr,I4⟩:=hz0
  subst hr
  exact wpAny_execs_nil ⟨σ3,H3,I4,qn⟩
 ·refine wpAny_passesOwn hp (thn (T.item X rfl rfl rfl hc i pins s3 σ3 H3 X.xe I3 (stat fr3) st3 go) λr s4 hz0=>?_)
  obtain ⟨u,hr,h4⟩:=hz0
  subst hr
  refine wpAny_passesOwn hp (thn h4 λ_ s5 hz0=>?_)
  obtain ⟨x,H5,I5,r5,y5,st5,fr5⟩:=hz0
  have I5':=I5.pinned (stat fr5) (T.obj _ _ st5)
  refine wpAny_passesOwn hp (thn (hg _ s5 σ3 H5 x u _ I5' r5 (step x H5 y5)) λ_ s6 hz0=>?_)
  obtain ⟨σ6,H6,I6,q6⟩:=hz0
  refine wpAny_passesOwn hp (thn (hb _ s6 σ6 H6 _ I6 q6) λf s7 q7=>?_)
  have again:∀ {σ7:St} {H7:Hp},Inv X (pins++mx fp s5.heap) σ7 H7 s7->N σ7 H7->∃ m,m < n/\∃ i σ' H',Inv X pins σ' H' s7/\tn i s7.heap/\(∀ b∈fp,H' b=none)/\W i m σ' H':=λ{σ7 H7} I7 n7=>by
   obtain ⟨m',hm,w7⟩:=hN σ7 H7 n7
   refine ⟨m',hm,i+1,σ7,H7,I7.unpinned,T.keep _ _ _ st5 λb hb o e=>(I7.pin (b,o) (List.mem_append_right _ (List.mem_append_right _ (fQ hb e)))).1,λb hb=>?_,w7⟩
   obtain ⟨o,e,d⟩:=T.obj _ _ st5 b hb
   exact (I7.pin (b,o) (List.mem_append_right _ (List.mem_append_right _ (fQ hb e)))).2.1
  cases f with
  | next=>obtain ⟨σ7,H7,I7,n7⟩:=q7; exact again I7 n7
  | cont=>obtain ⟨σ7,H7,I7,n7⟩:=q7; exact again I7 n7
  | brk=>obtain ⟨σ7,H7,I7,q7⟩:=q7; exact ⟨σ7,H7,I7.unpinned,q7⟩
  | ret v=>obtain ⟨x7,σ7,H7,I7,r7,q7⟩:=q7; exact ⟨x7,σ7,H7,I7.unpinned,r7,q7⟩
end
noncomputable abbrev R2:=V->V->Hp->VK->Prop
noncomputable def OpR (X:Cx) (f:Value->Value->Sem Value) (r:R2):Prop :=
 ∀ (pins:List (Addr×Obj)) (s:Shared) (σ:St) (H:Hp) (x y:V) (v u:Value) (Q:VK),Inv X pins σ H s->RelV x v->RelV y u->r x y H Q ->
  wpAny (model X.prog X.w) X.A (f v u) (EP X pins σ Q) X.xe s
noncomputable def r8 (X:Cx) (f:Value->Sem Value) (r:V->Hp->VK->Prop):Prop :=
 ∀ (pins:List (Addr×Obj)) (s:Shared) (σ:St) (H:Hp) (x:V) (v:Value) (Q:VK),Inv X pins σ H s->RelV x v->r x H Q ->
  wpAny (model X.prog X.w) X.A (f v) (EP X pins σ Q) X.xe s
noncomputable def dO (X:Cx) (f:Value) (r:List V->Hp->VK->Prop):Prop :=
 ∀ (pins:List (Addr×Obj)) (s:Shared) (σ:St) (H:Hp) (xs:List V) (us:List Value) (Q:VK),Inv X pins σ H s->Vals xs us->r xs H Q ->
  wpAny (model X.prog X.w) X.A (call f us) (EP X pins σ Q) X.xe s
noncomputable def Zol (X:Cx) (r:V->Hp->(Bool->Hp->Prop)->Prop):Prop :=
 ∀ (pins:List (Addr×Obj)) (s:Shared) (σ:St) (H:Hp) (x:V) (v:Value) (Q:Bool->Hp->Prop),Inv X pins σ H s->RelV x v->r x H Q ->
  wpAny (model X.prog X.w) X.A (truthy v) (TP X pins σ Q) X.xe s
noncomputable def ib (r:R2) (ta tb:TE):TE:=λσ H Q=>ta σ H λx H1=>tb σ H1 λy H2=>r x y H2 Q
noncomputable def tUn (r:V->Hp->VK->Prop) (ta:TE):TE:=λσ H Q=>ta σ H λx H1=>r x H1 Q
noncomputable def rI (C:Int->Int->Prop) (g:Int->Int->V):R2:=λx y H Q=>∃ i j,x=.int i/\y=.int j/\C i j/\Q (g i j) H
noncomputable def eP (g:Int->Int->V):R2:=λx y H Q=>∃ i j,x=.int i/\y=.int j/\Q (g i j) H
noncomputable def rU (g:Int->V):V->Hp->VK->Prop:=λx H Q=>∃ i,x=.int i/\Q (g i) H
section
variable {X:Cx} {a b c:Expr} {ta tb tc:TE} {pos:Pos}
theorem rC (ha:PE X a ta) (hb:PE X b tb) {pins:List (Addr×Obj)} {s:Shared} {σ:St} {H:Hp} {R:V->V->Hp->Prop} (I:Inv X pins σ H s)
  (h:ta σ H λx H1=>tb σ H1 λy H2=>R x y H2) {Q:Value->Shared->Prop} {f:Value->Value->Sem Value}
  (hf:∀ v u s2 x y H2,Inv X pins σ H2 s2->RelV x v->RelV y u->R x y H2->wpAny (model X.prog X.w) X.A (f v u) Q X.xe s2) :
  wpAny (model X.prog X.w) X.A (eval a X.env) (λv s₁=>wpAny (model X.prog X.w) X.A (eval b X.env) (λu s₂=>wpAny (model X.prog X.w) X.A (f v u) Q X.xe s₂) X.xe s₁) X.xe s:=by
 refine thn (ha pins s σ H _ I h) λv s1 hz0=>?_
 obtain ⟨x,H1,I1,r1,q1⟩:=hz0
 refine thn (hb pins s1 σ H1 _ I1 q1) λu s2 hz0=>?_
 obtain ⟨y,H2,I2,r2,q2⟩:=hz0
 exact hf v u s2 x y H2 I2 r1 r2 q2
theorem cq {op:Operator} {r:R2} (ho:OpR X (binaryOp op) r) (ha:PE X a ta) (hb:PE X b tb):PE X (.BinOp a op b pos) (ib r ta tb):=by
 intro pins s σ H Q I h
 exact wpAny_BinOp (rC ha hb I h λv u s2 x y H2 I2 rx ry q=>ho pins s2 σ H2 x y v u Q I2 rx ry q)
theorem ZhR {op:UnaryOp} {r:V->Hp->VK->Prop} (ho:r8 X (unaryOp op) r) (ha:PE X a ta):PE X (.UnaryOp op a pos) (tUn r ta):=by
 intro pins s σ H Q I h
 exact UnaryOp_ (thn (ha pins s σ H _ I h) λv s1 ⟨x,H1,I1,r1,q1⟩=>ho pins s1 σ H1 x v Q I1 r1 q1)
theorem gS {f:Value->Value->Sem Value} {C:Int->Int->Prop} {g:Int->Int->Int}
  (rule:∀ (i j:Int) (t u:Tok) (s:Shared) (Q:Value->Shared->Prop) (E:Value->Shared->Prop),C i j->Q (.int (g i j) s.toks) { s with toks:=s.toks+1 }->wpAny (model X.prog X.w) X.A (f (.int i t) (.int j u)) Q E s) :
  OpR X f (rI C λi j=>.int (g i j)):=by
 intro pins s σ H x y v u Q I rx ry h
 obtain ⟨i,j,rfl,rfl,hc,q⟩:=h
 obtain ⟨t,rfl⟩:=rx
 obtain ⟨t',rfl⟩:=ry
 exact rule i j t t' s _ _ hc ⟨.int (g i j),H,I.tok _,⟨_,rfl⟩,q⟩
theorem qp {f:Value->Value->Sem Value} {g:Int->Int->Int}
  (rule:∀ (i j:Int) (t u:Tok) (s:Shared) (Q:Value->Shared->Prop) (E:Value->Shared->Prop),Q (.int (g i j) s.toks) { s with toks:=s.toks+1 }->wpAny (model X.prog X.w) X.A (f (.int i t) (.int j u)) Q E s) :
  OpR X f (eP λi j=>.int (g i j)):=by
 intro pins s σ H x y v u Q I rx ry h
 obtain ⟨i,j,rfl,rfl,q⟩:=h
 obtain ⟨t,rfl⟩:=rx
 obtain ⟨t',rfl⟩:=ry
 exact rule i j t t' s _ _ ⟨.int (g i j),H,I.tok _,⟨_,rfl⟩,q⟩
theorem qq {f:Value->Value->Sem Value} {g:Int->Int->Bool}
  (rule:∀ (i j:Int) (t u:Tok) (s:Shared) (Q:Value->Shared->Prop) (E:Value->Shared->Prop),Q (.bool (g i j)) s->wpAny (model X.prog X.w) X.A (f (.int i t) (.int j u)) Q E s) :
  OpR X f (eP λi j=>.bl (g i j)):=by
 intro pins s σ H x y v u Q I rx ry h
 obtain ⟨i,j,rfl,rfl,q⟩:=h
 obtain ⟨t,rfl⟩:=rx
 obtain ⟨t',rfl⟩:=ry
 exact rule i j t t' s _ _ ⟨.bl (g i j),H,I,rfl,q⟩
noncomputable def ZoK (i j:Int):Prop:=0 < j/\j < 1073741824
noncomputable def ZfH (i j:Int):Prop:=0<=j/\j<=1000000/\i.natAbs < 2 ^ 64
noncomputable def CMul (i j:Int):Prop:=(-(2 ^ 64) < i/\i < 2 ^ 64)\/(-(2 ^ 64) < j/\j < 2 ^ 64)
theorem CMul.ok {i j:Int} (h:CMul i j):IntMulOk i j:=by
 rcases h with ⟨h1,h2⟩ | ⟨h1,h2⟩
 ·exact .of_left (intBits_le_64 h1 h2)
 ·exact .of_right (intBits_le_64 h1 h2)
theorem iq:OpR X (binaryOp .Add) (eP λi j=>.int (i+j)):=qp λ_ _ _ _ _ _ _ q=>add_int q
theorem cC:OpR X (binaryOp .Sub) (eP λi j=>.int (i - j)):=qp λ_ _ _ _ _ _ _ q=>sub_int q
theorem ql:OpR X (binaryOp .Mult) (rI CMul λi j=>.int (i * j)):=gS λ_ _ _ _ _ _ _ hc q=>mul_int q hc.ok
theorem qm:OpR X (binaryOp .FloorDiv) (rI ZoK λi j=>.int (i / j)):=gS λi j _ _ _ _ _ hc q=>by
 have h1:(0:Int) < j:=hc.1
 have h2:j < 1073741824:=hc.2
 exact floordiv_int (by omega) (by rw [Int.fdiv_eq_ediv_of_nonneg i (by omega)]; exact q) (.inl (PyProof.noPylong_small (by omega)))
theorem gR:OpR X (binaryOp .Mod) (rI (λ_ j=>0 < j) λi j=>.int (i % j)):=gS λi j _ _ _ _ _ hc q=>by
 have h1:(0:Int) < j:=hc
 exact mod_int' (by omega) (by rw [Int.fmod_eq_emod_of_nonneg i (by omega)]; exact q)
theorem jd:OpR X (binaryOp .Mod) (rI (λ_ j=>j≠0) λi j=>.int (i.fmod j)):=gS λ_ _ _ _ _ _ _ hc q=>mod_int' hc q
theorem kr:OpR X (binaryOp .Pow) (rI ZfH λi j=>.int (i ^ j.toNat)):=gS λ_ _ _ _ _ _ _ hc q=>pow_int_small hc.1 hc.2.1 hc.2.2 q
theorem Zjh:OpR X (inplaceOp .Add) (eP λi j=>.int (i+j)):=qp λ_ _ _ _ _ _ _ q=>iadd_int q
theorem unI {f:Value->Sem Value} {g:Int->Int}
  (rule:∀ (i:Int) (t:Tok) (s:Shared) (Q:Value->Shared->Prop) (E:Value->Shared->Prop),Q (.int (g i) s.toks) { s with toks:=s.toks+1 }->wpAny (model X.prog X.w) X.A (f (.int i t)) Q E s) :
  r8 X f (rU λi=>.int (g i)):=by
 intro pins s σ H x v Q I rx h
 obtain ⟨i,rfl,q⟩:=h
 obtain ⟨t,rfl⟩:=rx
 exact rule i t s _ _ ⟨.int (g i),H,I.tok _,⟨_,rfl⟩,q⟩
theorem ZfU:r8 X (unaryOp .USub) (rU λi=>.int (-i)):=unI λ_ _ _ _ _ q=>neg_int q
end
noncomputable def scal:V->V->Bool
 | .non,.non=>true | .non,.int _=>true | .int _,.non=>true | .non,.bl _=>true | .bl _,.non=>true | .non,.str _=>true | .str _,.non=>true
 | .int _,.int _=>true | .bl _,.bl _=>true | .str _,.str _=>true | .byt _,.byt _=>true
 | .int _,.str _=>true | .str _,.int _=>true | .bl _,.str _=>true | .str _,.bl _=>true
 | _,_=>false
noncomputable def rEq:R2:=λx y H Q=>scal x y=true/\Q (.bl (decide (x=y))) H
noncomputable def rNe:R2:=λx y H Q=>scal x y=true/\Q (.bl (!decide (x=y))) H
theorem Zek {i j:Int}:decide (V.int i=V.int j)=(i == j):=by
 rw [Bool.eq_iff_iff]
 simp
theorem Zem {i j:Bool}:decide (V.bl i=V.bl j)=(i == j):=by
 rw [Bool.eq_iff_iff]
 simp
theorem nS {i j:Str}:decide (V.str i=V.str j)=(i == j):=by
 rw [Bool.eq_iff_iff]
 simp
theorem Zel {i j:Array UInt8}:decide (V.byt i=V.byt j)=(i.toList == j.toList):=by
 rw [Bool.eq_iff_iff]
 cases i
 cases j
 simp
section
variable {X:Cx} {a b c:Expr} {ta tb tc:TE} {pos:Pos}
theorem bS {pins:List (Addr×Obj)} {σ:St} {H:Hp} {s:Shared} {Q:VK} {k k':Bool} (I:Inv X pins σ H s) (q:Q (.bl k) H) (e:k=k'):EP X pins σ Q (.bool k') s:=by
 subst e
 exact ⟨.bl k,H,I,rfl,q⟩
theorem Zia:OpR X (compareOp .Eq) rEq:=by
 intro pins s σ H x y v u Q I rx ry h
 obtain ⟨hs,q⟩:=h
 cases x with
 | non =>
  cases rx
  cases y with
  | non=>cases ry; exact PySem.EqNone.eq_none_none (bS I q (by simp))
  | bl j=>cases ry; exact PySem.EqNone.eq_none_bool (bS I q (by simp))
  | int j=>obtain ⟨t',rfl⟩:=ry; exact PySem.EqNone.eq_none_int (bS I q (by simp))
  | str j=>obtain ⟨t',rfl⟩:=ry; exact PySem.EqNone.eq_none_str (bS I q (by simp))
  | _=>exact absurd (show false=true from hs) Bool.false_ne_true
 | bl i =>
  cases rx
  cases y with
  | non=>cases ry; exact PySem.EqNone.eq_bool_none (bS I q (by simp))
  | bl j=>cases ry; exact eq_bool (bS I q Zem)
  | str j=>obtain ⟨t',rfl⟩:=ry; exact PySem.EqMixed.eq_bool_str (bS I q (by simp))
  | _=>exact absurd (show false=true from hs) Bool.false_ne_true
 | int i =>
  obtain ⟨t,rfl⟩:=rx
  cases y with
  | non=>cases ry; exact PySem.EqNone.eq_int_none (bS I q (by simp))
  | int j=>obtain ⟨t',rfl⟩:=ry; exact eq_int (bS I q Zek)
  | str j=>obtain ⟨t',rfl⟩:=ry; exact PySem.EqMixed.eq_int_str (bS I q (by simp))
  | _=>exact absurd (show false=true from hs) Bool.false_ne_true
 | str i =>
  obtain ⟨t,rfl⟩:=rx
  cases y with
  | non=>cases ry; exact PySem.EqNone.eq_str_none (bS I q (by simp))
  | bl j=>cases ry; exact PySem.EqMixed.eq_str_bool (bS I q (by simp))
  | int j=>obtain ⟨t',rfl⟩:=ry; exact PySem.EqMixed.eq_str_int (bS I q (by simp))
  | str j=>obtain ⟨t',rfl⟩:=ry; exact eq_str (bS I q nS)
  | _=>exact absurd (show false=true from hs) Bool.false_ne_true
 | byt i =>
  obtain ⟨t,rfl⟩:=rx
  cases y with
  | byt j=>obtain ⟨t',rfl⟩:=ry; exact PySem.W.eq_bytes (bS I q Zel)
  | _=>exact absurd (show false=true from hs) Bool.false_ne_true
 | _=>cases y <;> exact absurd (show false=true from hs) Bool.false_ne_true
theorem Zh6:OpR X (compareOp .NotEq) rNe:=by
 intro pins s σ H x y v u Q I rx ry h
 obtain ⟨hs,q⟩:=h
 cases x with
 | non =>
  cases rx
  cases y with
  | non=>cases ry; exact PySem.EqNone.ne_none_none (bS I q (by simp))
  | bl j=>cases ry; exact PySem.EqNone.ne_none_bool (bS I q (by simp))
  | int j=>obtain ⟨t',rfl⟩:=ry; exact PySem.EqNone.ne_none_int (bS I q (by simp))
  | str j=>obtain ⟨t',rfl⟩:=ry; exact PySem.EqNone.ne_none_str (bS I q (by simp))
  | _=>exact absurd (show false=true from hs) Bool.false_ne_true
 | bl i =>
  cases rx
  cases y with
  | non=>cases ry; exact PySem.EqNone.ne_bool_none (bS I q (by simp))
  | bl j=>cases ry; exact ne_bool (bS I q (congrArg not Zem))
  | str j=>obtain ⟨t',rfl⟩:=ry; exact PySem.EqMixed.ne_bool_str (bS I q (by simp))
  | _=>exact absurd (show false=true from hs) Bool.false_ne_true
 | int i =>
  obtain ⟨t,rfl⟩:=rx
  cases y with
  | non=>cases ry; exact PySem.EqNone.ne_int_none (bS I q (by simp))
  | int j=>obtain ⟨t',rfl⟩:=ry; exact ne_int (bS I q (congrArg not Zek))
  | str j=>obtain ⟨t',rfl⟩:=ry; exact PySem.EqMixed.ne_int_str (bS I q (by simp))
  | _=>exact absurd (show false=true from hs) Bool.false_ne_true
 | str i =>
  obtain ⟨t,rfl⟩:=rx
  cases y with
  | non=>cases ry; exact PySem.EqNone.ne_str_none (bS I q (by simp))
  | bl j=>cases ry; exact PySem.EqMixed.ne_str_bool (bS I q (by simp))
  | int j=>obtain ⟨t',rfl⟩:=ry; exact PySem.EqMixed.ne_str_int (bS I q (by simp))
  | str j=>obtain ⟨t',rfl⟩:=ry; exact ne_str (bS I q (congrArg not nS))
  | _=>exact absurd (show false=true from hs) Bool.false_ne_true
 | byt i =>
  obtain ⟨t,rfl⟩:=rx
  cases y with
  | byt j=>obtain ⟨t',rfl⟩:=ry; exact PySem.W.ne_bytes (bS I q (congrArg not Zel))
  | _=>exact absurd (show false=true from hs) Bool.false_ne_true
 | _=>cases y <;> exact absurd (show false=true from hs) Bool.false_ne_true
theorem ku:OpR X (compareOp .Lt) (eP λi j=>.bl (decide (i < j))):=qq λ_ _ _ _ _ _ _ q=>lt_int q
theorem fO:OpR X (compareOp .Gt) (eP λi j=>.bl (decide (j < i))):=qq λ_ _ _ _ _ _ _ q=>gt_int q
theorem Zh8:OpR X (compareOp .GtE) (eP λi j=>.bl (decide (j<=i))):=qq λ_ _ _ _ _ _ _ q=>ge_int q
theorem OpR.or {f:Value->Value->Sem Value} {r r':R2} (h:OpR X f r) (h':OpR X f r'):OpR X f (λx y H Q=>r x y H Q\/r' x y H Q):=by
 intro pins s σ H x y v u Q I rx ry q
 rcases q with q | q
 ·exact h pins s σ H x y v u Q I rx ry q
 ·exact h' pins s σ H x y v u Q I rx ry q
theorem nomark (b:Expr) {op:CmpOp} (h:op≠.In:=by decide) (h2:op≠.NotIn:=by decide):behindInMarks op b=false:=by
 have e1:(op == CmpOp.In)=false:=by cases op <;> first | rfl | exact absurd rfl h
 have e2:(op == CmpOp.NotIn)=false:=by cases op <;> first | rfl | exact absurd rfl h2
 cases b <;> first | rfl | (show (_ && (op == CmpOp.In || op == CmpOp.NotIn) && _)=false; rw [e1,e2,Bool.or_false,Bool.and_false,Bool.false_and])
theorem ZhX {op:CmpOp} {r:R2} (ho:OpR X (compareOp op) r) (ha:PE X a ta) (hb:PE X b tb) (hm:behindInMarks op b=false):PE X (.Compare a [op] [b] pos) (ib r ta tb):=by
 intro pins s σ H Q I h
 exact wpAny_Compare1 (rC ha hb I h λv u s2 x y H2 I2 rx ry q=>ho pins s2 σ H2 x y v u Q I2 rx ry q) hm
noncomputable def lM (t:TE):TT:=λσ H Q=>t σ H λx H'=>∃ k,x=.bl k/\Q k H'
theorem kh {op:CmpOp} {r:R2} (ho:OpR X (compareOp op) r) (ha:PE X a ta) (hb:PE X b tb) (hm:behindInMarks op b=false):PT X (.Compare a [op] [b] pos) (lM (ib r ta tb)):=by
 intro pins s σ H Q I h
 refine wpAny_isTrue_Compare1 (thn (ha pins s σ H _ I h) λv s1 ⟨x,H1,I1,r1,q1⟩=>thn (hb pins s1 σ H1 _ I1 q1) λu s2 ⟨y,H2,I2,r2,q2⟩ =>
  thn (ho pins s2 σ H2 x y v u _ I2 r1 r2 q2) λc s3 ⟨z,H3,I3,r3,k,e,q3⟩=>?_) hm
 subst e
 cases r3
 exact wpAny_truthy_bool ⟨H3,I3,q3⟩
noncomputable def ZfA (K:PySem.W.Frag) (x:V) (H:Hp) (k:Bool):Prop :=
 match x with
 | .non=>k=false
 | .bl b=>k=b
 | .int i=>k=(i != 0)
 | .str y=>y.length<=sizeLine/\k=((y.length:Int) != 0)
 | .byt y=>y.size<=sizeLine/\k=((y.size:Int) != 0)
 | .ref p=>(∃ xs,SqL K H p xs/\k=!xs.isEmpty)\/(∃ xs,SqT K H p xs/\k=!xs.isEmpty)\/∃ kvs,H p=some (.dK kvs)/\k=!kvs.isEmpty
 | _=>False
theorem Zje {κ:Type} {kvs:List (κ×V)} {vs:List (κ×Value)} (r:KV kvs vs):(!vs.isEmpty)=!kvs.isEmpty:=by
 cases r <;> rfl
theorem Zdj {xs:List V} {its:List Value} (r:Vals xs its):(!its.toArray.isEmpty)=!xs.isEmpty:=by
 cases r <;> simp
theorem gY:(sizeLine:Nat) < 2 ^ 63:=by rw [sizeLine_eq]; decide
theorem Zf3:Zol X (λx H Q=>∃ k,ZfA X.K x H k/\Q k H):=by
 intro pins s σ H x v Q I rx h
 obtain ⟨k,e,q⟩:=h
 have hl:=gY
 have hs:sizeLine=16777216:=sizeLine_eq
 cases x with
 | non =>
  cases rx
  have e':k=false:=e
  subst e'
  exact truthy_none ⟨H,I,q⟩
 | bl b =>
  cases rx
  have e':k=b:=e
  subst e'
  exact wpAny_truthy_bool ⟨H,I,q⟩
 | int i =>
  obtain ⟨t,rfl⟩:=rx
  have e':k=(i != 0):=e
  subst e'
  exact PySem.P.truthy_int ⟨H,I,q⟩
 | str y =>
  obtain ⟨t,rfl⟩:=rx
  obtain ⟨hy,e'⟩:y.length<=sizeLine/\k=((y.length:Int) != 0):=e
  subst e'
  exact PySem.P.truthy_str (by omega) ⟨H,I.tok _,q⟩
 | byt y =>
  obtain ⟨t,rfl⟩:=rx
  obtain ⟨hy,e'⟩:y.size<=sizeLine/\k=((y.size:Int) != 0):=e
  subst e'
  exact PySem.W.truthy_bytes (by omega) ⟨H,I.tok _,q⟩
 | ref p =>
  cases rx
  have e':(∃ xs,SqL X.K H p xs/\k=!xs.isEmpty)\/(∃ xs,SqT X.K H p xs/\k=!xs.isEmpty)\/∃ kvs,H p=some (.dK kvs)/\k=!kvs.isEmpty:=e
  rcases e' with ⟨xs,hx,e'⟩ | ⟨xs,hx,e'⟩ | ⟨kvs,hx,e'⟩
  ·subst e'
   obtain ⟨its,r,pl,hz⟩:=I.list hx
   have hlen:=r.length
   exact wpAny_truthy_list pl.isList (by simp only [List.size_toArray]; omega) ⟨H,I.tok _,by rw [Zdj r]; exact q⟩
  ·subst e'
   obtain ⟨its,r,pl,hz⟩:=I.tuple hx
   have hlen:=r.length
   exact truthy_tuple pl (by simp only [List.size_toArray]; omega) ⟨H,I.tok _,by rw [Zdj r]; exact q⟩
  ·subst e'
   obtain ⟨hz,hS,vs,r,m⟩:kvs.length<=sizeLine/\(p == sysModules)=false/\∃ vs,KV kvs vs/\s.heap.DictOf (cU X.prog X.w) p vs:=I.hok p _ hx
   have hlen:kvs.length=vs.length:=Paired.length r
   exact wpAny_truthy_dict hS m (by omega) ⟨H,I.tok _,by rw [Zje r]; exact q⟩
 | _=>exact (show False from e).elim
theorem ZhB (ha:PE X a ta) (he:∀ whole,isTrue a X.env whole=(do let v <- whole; standAt a.pos; holding [v] (truthy v))) :
  PT X a (λσ H Q=>ta σ H λx H'=>∃ k,ZfA X.K x H' k/\Q k H'):=by
 intro pins s σ H Q I h
 exact isTrue_plain (thn (ha pins s σ H _ I h) λv s1 ⟨x,H1,I1,r1,q1⟩=>Zf3 pins s1 σ H1 x v Q I1 r1 q1) (he _)
theorem fq {x:V} {us:List Value} (r:Vals [x] us):∃ u,us=[u]/\RelV x u:=by
 cases r with
 | cons r1 r2=>cases r2; exact ⟨_,rfl,r1⟩
theorem oR {x y:V} {us:List Value} (r:Vals [x,y] us):∃ u w',us=[u,w']/\RelV x u/\RelV y w':=by
 cases r with
 | cons r1 r2 =>
  cases r2 with
  | cons r3 r4=>cases r4; exact ⟨_,_,rfl,r1,r3⟩
theorem jC:dO X (.builtin "abs") (λxs H Q=>∃ i,xs=[.int i]/\Q (.int (if i < 0 then -i else i)) H):=by
 intro pins s σ H xs us Q I r h
 obtain ⟨i,rfl,q⟩:=h
 obtain ⟨u,rfl,t,rfl⟩:=fq r
 exact call_abs_int λu tk=>⟨.int (if i < 0 then -i else i),H,I.tok _,⟨_,rfl⟩,q⟩
theorem la (hc:X.calm=true):dO X (.builtin "max") (λxs H Q=>∃ i j,xs=[.int i,.int j]/\Q (.int (if j > i then j else i)) H):=by
 intro pins s σ H xs us Q I r h
 obtain ⟨i,j,rfl,q⟩:=h
 obtain ⟨u,w',rfl,⟨t,rfl⟩,⟨t',rfl⟩⟩:=oR r
 refine max_two_ints (I.ok.hd hc) λh' tk k=>⟨_,H,I.kept k,?_,q⟩
 by_cases hj:j > i
 ·rw [if_pos hj,if_pos hj]; exact ⟨_,rfl⟩
 ·rw [if_neg hj,if_neg hj]; exact ⟨_,rfl⟩
theorem Znl (hc:X.calm=true):dO X (.builtin "min") (λxs H Q=>∃ i j,xs=[.int i,.int j]/\Q (.int (if j < i then j else i)) H):=by
 intro pins s σ H xs us Q I r h
 obtain ⟨i,j,rfl,q⟩:=h
 obtain ⟨u,w',rfl,⟨t,rfl⟩,⟨t',rfl⟩⟩:=oR r
 refine min_two_ints (I.ok.hd hc) λh' tk k=>⟨_,H,I.kept k,?_,q⟩
 by_cases hj:j < i
 ·rw [if_pos hj,if_pos hj]; exact ⟨_,rfl⟩
 ·rw [if_neg hj,if_neg hj]; exact ⟨_,rfl⟩
theorem Zno:dO X (.type "int") (λxs H Q=>(∃ i,xs=[.int i]/\Q (.int i) H)\/∃ k,xs=[.bl k]/\Q (.int (if k then 1 else 0)) H):=by
 intro pins s σ H xs us Q I r h
 rcases h with ⟨i,rfl,q⟩ | ⟨k,rfl,q⟩
 ·obtain ⟨u,rfl,t,rfl⟩:=fq r
  exact call_int_int ⟨.int i,H,I,⟨_,rfl⟩,q⟩
 ·obtain ⟨u,rfl,r1⟩:=fq r
  cases r1
  exact call_int_bool ⟨.int (if k then 1 else 0),H,I.tok _,⟨_,rfl⟩,q⟩
end
section
variable {prog:Program} {w:World} {A:Around} {E:Value->Shared->Prop} {s:Shared} {K:PySem.W.Frag} {x dx C f:Addr} {mA:Str->Option Value} {name:Str} {v:Value}
end
theorem RelO.some_of {v:V} {o:Option Value} (r:RelO (some v) o):∃ u,o=some u/\RelV v u:=by
 cases o with
 | none=>exact (show False from r).elim
 | some u=>exact ⟨u,rfl,r⟩
section
variable {P:Program} {w:World} {H H':Hp} {h h':Heap} {a C dx:Addr} {fs fs':List (Str×V)}
end
section
variable {X:Cx} {pins:List (Addr×Obj)} {σ:St} {H:Hp} {s:Shared} {a C dx:Addr} {fs:List (Str×V)} {f:Str} {v:V} {A:Around} {E:Value->Shared->Prop}
end
section
variable {X:Cx} {o e value:Expr} {f:Str} {pos pos' tpos:Pos} {ta tv:TE}
end
section
variable {X:Cx} {pins:List (Addr×Obj)} {σ:St} {H:Hp} {s:Shared} {A:Around} {E:Value->Shared->Prop} {Q:Value->Shared->Prop} {c:Value} {b:Bool}
end
structure Room (k:Nat) (A:Around):Prop where
 hd:A.handled=none
 dp:A.depth+3 * k+5 < recursionLimit
 un:A.units+16 * k+200 < cLine
 gd:A.guards=some []
theorem Room.mono {j k:Nat} {A:Around} (r:Room k A) (h:j<=k):Room j A:=⟨r.hd,by have:=r.dp; omega,by have:=r.un; omega,r.gd⟩
theorem Room.deeper {k:Nat} {A:Around} (r:Room (k+1) A) (env:Env):Room k (A.deeper env) :=
 ⟨r.hd,by have:=r.dp; show A.depth+1+3 * k+5 < _; omega,by have:=r.un; show A.units+3+16 * k+200 < _; omega,r.gd⟩
theorem Room.depth {k:Nat} {A:Around} (r:Room k A):A.depth < recursionLimit:=by have:=r.dp; omega
theorem Room.units {k:Nat} {A:Around} (r:Room k A):A.units+64 < cLine:=by have:=r.un; omega
noncomputable def aY:TA:=λ_ H Q=>Q [] H
noncomputable def ie (ta:TE) (tr:TA):TA:=λσ H Q=>ta σ H λx H1=>tr σ H1 λxs H2=>Q (x::xs) H2
section
variable {X:Cx} {e:Expr} {es:List Expr} {te:TE} {t:TA} {pos:Pos}
theorem cT:PA X [] aY:=λ_ _ _ _ H Q I h=>Calls.spliced_nil ⟨[],H,I,.nil,h⟩
theorem cB (ha:PE X e te) (hr:PA X es t) (hs:starEach (e::es) X.env=(false,eval e X.env)::starEach es X.env:=by rfl):PA X (e::es) (ie te t):=by
 intro pos pins s σ H Q I h
 rw [hs]
 show wpAny _ _ (spliced ((false,eval e X.env)::backTo pos (starEach es X.env))) _ _ s
 refine Calls.spliced_cons (thn (ha pins s σ H _ I h) λu s1 hz0=>?_)
 obtain ⟨x,H1,I1,r1,q1⟩:=hz0
 exact thn (hr pos pins s1 σ H1 _ I1 q1) λus s2 hz0=>by
  obtain ⟨xs,H2,I2,r2,q2⟩:=hz0
  exact ⟨x::xs,H2,I2,.cons r1 r2,q2⟩
noncomputable def Zgd (t:TA):TE:=λσ H Q=>t σ H λxs H1=>xs.length<=sizeLine/\∀ p,H1 p=none->Q (.ref p) (upd H1 p (.tup xs))
noncomputable def Zgm (t:TA):TE:=λσ H Q=>t σ H λxs H1=>xs.length<=sizeLine/\∀ p,H1 p=none->Q (.ref p) (upd H1 p (.lst xs))
theorem ZhS {x1} (h:PA X es t):PE X (.Tuple es x1 pos) (Zgd t):=by
 intro pins s σ H Q I hq
 refine wpAny_Tuple_spliced (thn (h pos pins s σ H _ I hq) λus s1 ⟨xs,H1,I1,r,z,q⟩=>⟨by rw [<- r.length]; exact z,?_⟩)
 have hf:H1 s1.heap.objs.size=none:=I1.hok.fresh (Nat.le_refl _)
 refine ⟨.ref s1.heap.objs.size,upd H1 s1.heap.objs.size (.tup xs),I1.laid (t':=s1.toks) (λb u e=>Heap.get?_push_of_some _ e) (Nat.le_refl _) ?_,rfl,q _ hf⟩
 exact ⟨z,us,r,⟨_,Heap.get?_push_size _ rfl,rfl,_,rfl⟩⟩
theorem Zcr (h:PA X es t):PE X (.List es pos) (Zgm t):=by
 intro pins s σ H Q I hq
 refine wpAny_List_spliced (thn (h pos pins s σ H _ I hq) λus s1 ⟨xs,H1,I1,r,z,q⟩=>⟨by rw [<- r.length]; exact z,?_⟩)
 have hf:H1 s1.heap.objs.size=none:=I1.hok.fresh (Nat.le_refl _)
 refine ⟨.ref s1.heap.objs.size,upd H1 s1.heap.objs.size (.lst xs),I1.laid (t':=s1.toks) (λb u e=>Heap.get?_push_of_some _ e) (Nat.le_refl _) ?_,rfl,q _ hf⟩
 exact ⟨z,us,0,r,Heap.get?_push_size _ rfl⟩
end
noncomputable abbrev Sp:=List V->Hp->VK->XK->Prop
noncomputable abbrev eJ:=List Env->Hp->Shared->XK->Value->Shared->Prop
structure Env0 (P:Program) (w:World) (K:PySem.W.Frag) (mg:Str->Option Value) (base:Heap) (A:Around) (outer:List Env) (s:Shared) (H:Hp):Prop where
 frames:A.frames=some outer
 mod:Mod K mg base
 bs:∀ b o,base.get? b=some o->s.heap.get? b=some o/\H b=none
 bsz:base.objs.size<=s.heap.objs.size
 funs:s.heap.FunFrames base outer
 frf:∀ b∈frs outer,H b=none
 hok:HOk P w H s.heap
 bare:AllBare s.gens
noncomputable def CE (outer:List Env) (P:Program) (w:World) (H:Hp) (s:Shared) (Q:VK) (u:Value) (s':Shared):Prop :=
 ∃ v H',s'.os=s.os/\AllBare s'.gens/\Un (frs outer) [] H H' s.heap s'.heap/\HOk P w H' s'.heap/\RelV v u/\Q v H'
noncomputable def CR (CX:eJ) (outer:List Env) (P:Program) (w:World) (H:Hp) (s:Shared) (Q:VK) (E:XK) (r:Result) (s':Shared):Prop :=
 match r with
 | .ok (.ret u)=>CE outer P w H s Q u s'
 | .ok _=>False
 | .error e=>CX outer H s E e s'
structure FnOk (P:Program) (w:World) (K:PySem.W.Frag) (mg:Str->Option Value) (base:Heap) (CX:eJ) (k:Nat) (f:Addr) (fd:FuncData) (ps:List Str) (sp:Sp):Prop where
 len:∀ vs H Q E,sp vs H Q E->vs.length=ps.length
 run:∀ (A:Around) (outer:List Env) (s:Shared) (H:Hp) (args:Args) (us:List Value) (vs:List V) (Q:VK) (E:XK),Room k A->Env0 P w K mg base A outer s H->BindsTo s fd args (ps.zip us)->Vals vs us->sp vs H Q E ->
  codeAny (model P w) A (.call (.ref f) args) (CR CX outer P w H s Q E) s
theorem FnOk.imp {P:Program} {w:World} {K:PySem.W.Frag} {mg:Str->Option Value} {base:Heap} {CX:eJ} {k:Nat} {f:Addr} {fd:FuncData} {ps:List Str} {sp sp':Sp} (F:FnOk P w K mg base CX k f fd ps sp)
  (h:∀ vs H Q E,sp' vs H Q E->sp vs H Q E):FnOk P w K mg base CX k f fd ps sp' :=
 ⟨λvs H Q E q=>F.len vs H Q E (h _ _ _ _ q),λA outer s H args us vs Q E hr he hb hv hs=>F.run A outer s H args us vs Q E hr he hb hv (h _ _ _ _ hs)⟩
section
variable {X:Cx} {pins:List (Addr×Obj)} {σ:St} {H:Hp} {s s':Shared}
theorem Inv.env0 (I:Inv X pins σ H s):Env0 X.prog X.w X.K X.mg X.base X.A X.stack s H :=
 ⟨I.ok.frames,I.ok.mod,I.bs,Nat.le_trans I.ok.bsz I.sz,I.stack,I.stkFree,I.hok,I.bare⟩
theorem Inv.after {Q:VK} {u:Value} (I:Inv X pins σ H s) (h:CE X.stack X.prog X.w H s Q u s'):EP X pins σ Q u s':=by
 obtain ⟨v,H',os,bare,un,hok,r,q⟩:=h
 obtain ⟨hh,g,d,t,os'⟩:=s'
 obtain rfl:os'=s.os:=os
 exact ⟨v,H',I.call (h':=hh) (g':=g) (d':=d) (t':=t) (ch:=[]) un hok bare (λb z=>absurd z (by simp)),r,q⟩
end
noncomputable def oY (sp:Sp) (dvs:List V) (E:XK) (t:TA):TE:=λσ H Q=>t σ H λvs H1=>sp (vs++dvs) H1 Q E
noncomputable def Binds (K:PySem.W.Frag) (fd:FuncData) (ps:List Str) (ds:List Value):Prop :=
 ∀ (s:Shared) (us:List Value),K.In s.heap->(us++ds).length=ps.length->BindsTo s fd ⟨us,[]⟩ (ps.zip (us++ds))
theorem Binds.all {K:PySem.W.Frag} {fd:FuncData} {ps:List Str} (h:∀ us:List Value,us.length=ps.length->bindArgs fd ⟨us,[]⟩=pure (ps.zip us)):Binds K fd ps []:=λs us _ hl=>by
 rw [List.append_nil] at hl ⊢
 exact .of_eq (h us hl)
noncomputable def sf (CX:eJ) (X:Cx) (E:XK):Prop:=∀ (pins:List (Addr×Obj)) (σ:St) (H:Hp) (s:Shared) (e:Value) (s':Shared),Inv X pins σ H s->CX X.stack H s E e s'->X.xe e s'
section
variable {X:Cx} {CX:eJ} {k:Nat} {f C:Addr} {fd:FuncData} {ps:List Str} {sp:Sp} {dvs:List V} {ds:List Value} {E:XK} {x m:Str} {p pos apos:Pos} {e o:Expr} {es:List Expr} {ta:TE} {t:TA}
theorem Zhg {pins:List (Addr×Obj)} {σ:St} {H:Hp} {s:Shared} {Q:VK} {us:List Value} {vs:List V} (F:FnOk X.prog X.w X.K X.mg X.base CX k f fd ps sp) (hr:Room k X.A) (hb:Binds X.K fd ps ds) (hd:Vals dvs ds) (hx:sf CX X E)
  (I:Inv X pins σ H s) (r:Vals vs us) (h:sp (vs++dvs) H Q E):wpAny (model X.prog X.w) X.A (call (.ref f) us) (EP X pins σ Q) X.xe s:=by
 have r2:Vals (vs++dvs) (us++ds):=r.append hd
 have hl:(us++ds).length=ps.length:=by rw [<- r2.length]; exact F.len _ _ _ _ h
 refine wpAny_call (codeAny_mono (F.run X.A X.stack s H ⟨us,[]⟩ (us++ds) (vs++dvs) Q E hr I.env0 (hb s us I.kIn hl) r2 h) λr s' hq=>?_)
 cases r with
 | error e=>exact hx pins σ H s e s' I hq
 | ok fl =>
  cases fl with
  | ret u=>exact I.after hq
  | next=>exact False.elim hq
  | brk=>exact False.elim hq
  | cont=>exact False.elim hq
theorem ZhY (F:FnOk X.prog X.w X.K X.mg X.base CX k f fd ps sp) (hr:Room k X.A) (hg:Gl X x) (hm:X.mg x=some (.ref f)) (hk:PySem.W.keepIn X.K (.ref f)=true) (hb:Binds X.K fd ps ds) (hd:Vals dvs ds) (hx:sf CX X E)
  (ha:PA X (e::es) t) (hdb:(x == ("__debug__":Str))=false:=by decide) (he:starEach (e::es) X.env=(false,eval e X.env)::starEach es X.env:=by rfl) (hpl:(backTo pos (starEach es X.env)).any (·.1)=false:=by rfl) :
  PE X (.Call (.Name x p) (e::es) [] pos) (oY sp dvs E t):=by
 intro pins s σ H Q I h
 refine wpAny_Call_Name_kw (Zc5 I hg hm ?_ hdb)
 refine PySem.W.callWith_K (h₀:=X.base) I.ok.mod.kin hk (thn (ha pos pins s σ H _ I h) λus s1 ⟨vs,H1,I1,r,q⟩=>⟨I1.kIn,?_⟩) he hpl
 exact Zhg F hr hb hd hx I1 r q
end
noncomputable def PK (X:Cx) (kws:List Keyword) (t:TA):Prop :=
 ∀ (pos:Pos) (pins:List (Addr×Obj)) (s:Shared) (σ:St) (H:Hp) (Q:List V->Hp->Prop),Inv X pins σ H s->t σ H Q->wpAny (model X.prog X.w) X.A (evalAll ((backToKw pos (keywordEach kws X.env)).map (·.2))) (AP X pins σ Q) X.xe s
section
variable {X:Cx} {CX:eJ} {k:Nat} {f C:Addr} {fd:FuncData} {ps ks:List Str} {sp:Sp} {E:XK} {x m:Str} {p pos apos kpos:Pos} {e o:Expr} {es:List Expr} {kws:List Keyword} {te ta:TE} {t tk:TA} {nm:Option Str}
variable {g:List Value->List Value->List Value} {gV:List V->List V->List V}
end
structure FnScope (N P:List Str) (sc:Scope):Prop where
 kind:sc.kind=.function
 co:sc.isCoroutine=false
 gen:sc.isGenerator=false
 nd:N.Nodup
 pre:N.take P.length=P
 par:∀ x∈P,sc.names.lookup x=some .local\/sc.names.lookup x=some .cell
 nofree:∀ y∈sc.names,y.2≠.free
theorem ZeY {kindOf:Str->Option NameKind} {x:Str}:∀ {binds:List (Str×Value)} {m:Str->Option Value},(∀ v,(x,v) ∉ binds)->bindL kindOf binds m x=m x
 | [],_,_=>rfl
 | (n,v)::r,m,h=>by
  unfold bindL
  rw [ZeY λw hw=>h w (List.mem_cons_of_mem _ hw)]
  split
  ·have:x≠n:=by rintro rfl; exact h v List.mem_cons_self
   simp [this]
  ·rfl
theorem Ze0 {kindOf:Str->Option NameKind} {x:Str}:∀ {binds:List (Str×Value)} {m:Str->Option Value},(∀ v,(x,v) ∉ binds)->bindC kindOf binds m x=m x
 | [],_,_=>rfl
 | (n,v)::r,m,h=>by
  unfold bindC
  rw [Ze0 λw hw=>h w (List.mem_cons_of_mem _ hw)]
  split
  ·rfl
  ·have:x≠n:=by rintro rfl; exact h v List.mem_cons_self
   simp [this]
theorem ZeZ {kindOf:Str->Option NameKind} {x:Str} {v:Value}:∀ {P:List Str} {vs:List Value} {i:Nat} {m:Str->Option Value},P.Nodup->P[i]?=some x->vs[i]?=some v->kindOf x=some .local ->
  bindL kindOf (P.zip vs) m x=some v
 | [],_,_,_,_,h,_,_=>by simp at h
 | _::_,[],_,_,_,_,h,_=>by simp at h
 | p::P,w::vs,0,m,nd,h1,h2,hk=>by
  simp at h1 h2; subst h1; subst h2
  show bindL kindOf ((p,w)::P.zip vs) m p=_
  unfold bindL
  rw [ZeY λv hv=>(List.nodup_cons.mp nd).1 (List.of_mem_zip hv).1,if_pos hk]
  simp
 | p::P,w::vs,i+1,m,nd,h1,h2,hk=>by
  show bindL kindOf ((p,w)::P.zip vs) m x=_
  unfold bindL
  exact ZeZ (i:=i) (List.nodup_cons.mp nd).2 (by simpa using h1) (by simpa using h2) hk
theorem Ze1 {kindOf:Str->Option NameKind} {x:Str} {v:Value}:∀ {P:List Str} {vs:List Value} {i:Nat} {m:Str->Option Value},P.Nodup->P[i]?=some x->vs[i]?=some v->kindOf x≠some .local ->
  bindC kindOf (P.zip vs) m x=some v
 | [],_,_,_,_,h,_,_=>by simp at h
 | _::_,[],_,_,_,_,h,_=>by simp at h
 | p::P,w::vs,0,m,nd,h1,h2,hk=>by
  simp at h1 h2; subst h1; subst h2
  show bindC kindOf ((p,w)::P.zip vs) m p=_
  unfold bindC
  rw [Ze0 λv hv=>(List.nodup_cons.mp nd).1 (List.of_mem_zip hv).1,if_neg hk]
  simp
 | p::P,w::vs,i+1,m,nd,h1,h2,hk=>by
  show bindC kindOf ((p,w)::P.zip vs) m x=_
  unfold bindC
  exact Ze1 (i:=i) (List.nodup_cons.mp nd).2 (by simpa using h1) (by simpa using h2) hk
noncomputable def start (N:List Str) (vs:List V):St:=vs.map some++List.replicate (N.length - vs.length) none
noncomputable def eD (CX:eJ) (P:Program) (w:World) (K:PySem.W.Frag) (mg:Str->Option Value) (base:Heap) (N:List Str) (qual:Str) (scope:Scope) (f:Addr) (cd:Value) (A:Around) (outer:List Env) (s:Shared) (H:Hp) (E:XK):Cx where
 prog:=P
 w:=w
 K:=K
 mg:=mg
 base:=base
 A:=A.deeper (envOfC qual scope s.heap.objs.size f cd)
 N:=N
 s₀:=s
 H₀:=H
 env:=envOfC qual scope s.heap.objs.size f cd
 outer:=outer
 stack:=envOfC qual scope s.heap.objs.size f cd::outer
 ex:=[]
 calm:=true
 fn:=λ_=>true
 pn:=[]
 xe:=λe s'=>wpAny (model P w) (A.deeper (envOfC qual scope s.heap.objs.size f cd)) (leaving (envOfC qual scope s.heap.objs.size f cd) e) (λ_ s''=>CX outer H s E e s'') (λe' s''=>CX outer H s E e' s'') s'
theorem ZeG {sc:Scope} {n:Nat} {x:Str} (h:sc.names.lookup x=some .cell):∃ c,(cellsFrom n sc.names []).lookup x=some c:=by
 have q:=PySem.W.cellsFrom_some sc.names n [] (.inl h)
 exact Option.isSome_iff_exists.mp q
theorem Zdm {CX:eJ} {P:Program} {w:World} {K:PySem.W.Frag} {mg:Str->Option Value} {base:Heap} {N ps:List Str} {qual:Str} {scope:Scope} {f:Addr} {cd:Value} {A:Around} {outer:List Env} {s s1:Shared} {H:Hp} {E:XK} {us:List Value} {vs:List V}
  (S:FnScope N ps scope) (hd:A.handled=none) (e0:Env0 P w K mg base A outer s H) (hl:vs.length=ps.length) (r:Vals vs us)
  (x:InCallC s s.heap.objs.size (bindL (envOfC qual scope s.heap.objs.size f cd).kindOf (ps.zip us) λ_=>none) (cellsFrom (s.heap.objs.size+1) scope.names []) (bindC (envOfC qual scope s.heap.objs.size f cd).kindOf (ps.zip us) λ_=>none) s1) :
  Inv (eD CX P w K mg base N qual scope f cd A outer s H E) [] (start N vs) H s1:=by
 have hpl:ps.length<=N.length:=by have:=congrArg List.length S.pre; rw [List.length_take] at this; omega
 obtain ⟨h1,tk,rfl,hk⟩:=x.done
 have noA:∀ b:Addr,b ∉ (eD CX P w K mg base N qual scope f cd A outer s H E).ex:=λb z=>absurd (show b∈([]:List Addr) from z) (by simp)
 refine ⟨⟨e0.mod,S.kind,rfl,rfl,Nat.le_refl _,λy z c h1 h2=>?_,λy hy=>?_,λy c _ h=>?_,λ_=>hd,Around.frames_deeper e0.frames,.inr ⟨rfl,rfl⟩,λb z=>absurd z (noA b),e0.bs,e0.bsz,λb _ _=>noA b,λb z=>absurd z (noA b),e0.funs,e0.frf⟩,
  rfl,e0.bare,Un.kept hk,⟨_,x.toInCall.ns,λi y v h1 h2 h3=>?_⟩,λy c h=>⟨_,x.cell y c h⟩,e0.hok.fresh (Nat.le_refl _),λy c h=>?_,λp hp=>absurd (show p∈([]:List (Addr×Obj)) from hp) (by simp),e0.hok.kept hk,?_⟩
 ·exact name_of_addr x.apart (PySem.mem_of_lookup h1) (PySem.mem_of_lookup h2)
 ·have hy:scope.names.lookup y=some .cell\/scope.names.lookup y=some .free:=hy
  rcases hy with hy | hy
  ·exact ZeG hy
  ·exact absurd rfl (S.nofree _ (PySem.mem_of_lookup hy))
 ·exact Nat.le_of_lt (x.above y c (PySem.mem_of_lookup h))
 ·have hi:i < vs.length:=by
   unfold start at h2
   by_cases hi:i < vs.length
   ·exact hi
   ·rw [List.getElem?_append_right (by simpa using hi)] at h2
    rw [List.getElem?_replicate] at h2
    split at h2 <;> cases h2
  have ha:vs[i]?=some v:=by
   unfold start at h2
   rw [List.getElem?_append_left (by simpa using hi),List.getElem?_map] at h2
   cases e:vs[i]? with
   | none=>rw [e] at h2; cases h2
   | some a=>rw [e] at h2; cases h2; rfl
  obtain ⟨u,hu,rv⟩:=r.get ha
  have hp:ps[i]?=some y:=by
   rw [<- S.pre,List.getElem?_take_of_lt (by omega)]; exact h1
  have ndP:ps.Nodup:=by rw [<- S.pre]; exact S.nd.sublist (List.take_sublist _ _)
  refine ⟨u,rv,?_⟩
  rcases S.par y (List.mem_of_getElem? hp) with k | k
  ·exact .inl ⟨k,ZeZ ndP hp hu k⟩
  ·obtain ⟨c,e⟩:=ZeG (n:=s.heap.objs.size+1) k
   refine .inr ⟨.inl k,c,e,?_⟩
   have q:=x.cell y c e
   rw [Ze1 ndP hp hu (by show scope.names.lookup y≠_; rw [k]; decide)] at q
   exact q
 ·exact e0.hok.fresh (Nat.le_of_lt (x.above y c (PySem.mem_of_lookup h)))
 ·unfold start
  show _=N.length
  rw [List.length_append,List.length_map,List.length_replicate]
  omega
theorem ZjI {CX:eJ} {P:Program} {w:World} {K:PySem.W.Frag} {mg:Str->Option Value} {base:Heap} {k:Nat} {f:Addr} {name qual:Str} {params:Arguments} {body:List Stmt} {scope:Scope} {dV kV doc pm cdv ct oc:Value} {an od:Option Addr}
  {osl:Array (Option Value)} {N ps:List Str} {sp:Sp} (lk:K.lookup f=some ⟨oc,od,.func (PySem.W.fnOf name qual params body scope dV kV doc pm an cdv ct),osl⟩) (hcd:PySem.W.codeIn K cdv qual=true) (S:FnScope N ps scope)
  (len:∀ vs H Q E,sp vs H Q E->vs.length=ps.length)
  (hbody:∀ (A:Around) (outer:List Env) (s:Shared) (H:Hp) (vs:List V) (Q:VK) (E:XK),Room k (A.deeper (envOfC qual scope s.heap.objs.size f cdv))->sp vs H Q E ->
   ∃ t,PSs (eD CX P w K mg base N qual scope f cdv A outer s H E) body t/\t { nx:=λ_ H'=>Q .non H',rt:=Q } (start N vs) H) :
  FnOk P w K mg base CX (k+1) f (PySem.W.fnOf name qual params body scope dV kV doc pm an cdv ct) ps sp:=by
 refine ⟨len,λA outer s H args us vs Q E hr e0 hb r hsp=>?_⟩
 have hl:=len _ _ _ _ hsp
 have KX:K.In s.heap:=e0.mod.kin.keeps λb o e=>(e0.bs b o e).1
 have lim:s.heap.NoLimit:=e0.mod.nolimit.keeps λb o e=>(e0.bs b o e).1
 have hkind:∀ y∈ps.zip us,scope.names.lookup y.1=some .local\/(scope.names.lookup y.1=some .cell/\((cellsFrom (s.heap.objs.size+1) scope.names []).lookup y.1).isSome=true):=λ⟨n,v⟩ hy=>by
  rcases S.par n (List.of_mem_zip hy).1 with q | q
  ·exact .inl q
  ·exact .inr ⟨q,PySem.W.cellsFrom_some _ _ _ (.inl q)⟩
 refine codeAny_call_function hr.depth (KX _ _ lk) rfl S.co S.gen rfl (PySem.W.codeRec_of KX hcd) (hb _ _ _ _ ?_)
 refine wpAny_newFunctionEnv_cells S.kind hkind λenv he s1 x=>?_
 subst he
 refine ⟨lim.keeps x.toInCall.keep,codeAny_func ?_⟩
 obtain ⟨t,ht,hq⟩:=hbody A outer s H vs Q E (hr.deeper _) hsp
 have I:Inv (eD CX P w K mg base N qual scope f cdv A outer s H E) [] (start N vs) H s1:=Zdm S hr.hd e0 hl r x
 refine wpAny_mono (ht [] s1 (start N vs) H _ I hq) (λfl s' hs=>?_) λe s' hs=>hs
 have fin:∀ {σ':St} {H':Hp} {v:V} {u:Value},Inv (eD CX P w K mg base N qual scope f cdv A outer s H E) [] σ' H' s'->RelV v u->Q v H'->CE outer P w H s Q u s' :=
  λ{σ' H' v u} J rv q=>⟨v,H',J.os,J.bare,J.base,J.hok,rv,q⟩
 cases fl with
 | ret u =>
  obtain ⟨v,σ',H',J,rv,q⟩:=hs
  exact fin J rv q
 | next =>
  obtain ⟨σ',H',J,q⟩:=hs
  exact fin (v:=V.non) (u:=Value.none) J rfl q
 | brk =>
  obtain ⟨_,_,_,q⟩:=hs
  exact False.elim q
 | cont =>
  obtain ⟨_,_,_,q⟩:=hs
  exact False.elim q
section
variable {X:Cx} {x:Str} {p pos:Pos} {e:Expr} {es:List Expr} {t:TA} {id T:String} {r:List V->Hp->VK->Prop}
noncomputable def iQ (r:List V->Hp->VK->Prop) (t:TA):TE:=λσ H Q=>t σ H λvs H1=>r vs H1 Q
theorem bj (hc:dO X (.builtin id) r) (hg:Gl X x) (hm:X.mg x=none) (hv:bootBuiltins x=some (.builtin id)) (ha:PA X (e::es) t) (hn:x≠"__name__":=by decide) (hdb:(x == ("__debug__":Str))=false:=by decide)
  (he:starEach (e::es) X.env=(false,eval e X.env)::starEach es X.env:=by rfl) (hpl:(backTo pos (starEach es X.env)).any (·.1)=false:=by rfl):PE X (.Call (.Name x p) (e::es) [] pos) (iQ r t):=by
 intro pins s σ H Q I h
 refine wpAny_Call_Name_kw (jn I hg hm hv ?_ hn hdb)
 exact PyProof.Rows.callWith_builtin1 (thn (ha pos pins s σ H _ I h) λus s1 ⟨vs,H1,I1,r1,q1⟩=>hc pins s1 σ H1 vs us Q I1 r1 q1) he hpl
theorem gr (hc:dO X (.type T) r) (hg:Gl X x) (hm:X.mg x=none) (hv:bootBuiltins x=some (.type T)) (ha:PA X (e::es) t) (hn:x≠"__name__":=by decide) (hdb:(x == ("__debug__":Str))=false:=by decide)
  (he:starEach (e::es) X.env=(false,eval e X.env)::starEach es X.env:=by rfl) (hpl:(backTo pos (starEach es X.env)).any (·.1)=false:=by rfl):PE X (.Call (.Name x p) (e::es) [] pos) (iQ r t):=by
 intro pins s σ H Q I h
 refine wpAny_Call_Name_kw (jn I hg hm hv ?_ hn hdb)
 exact PyProof.Rows.callWith_type1 (thn (ha pos pins s σ H _ I h) λus s1 ⟨vs,H1,I1,r1,q1⟩=>hc pins s1 σ H1 vs us Q I1 r1 q1) he hpl
end
end L2
namespace HT
open PySem PyProof.Rows
noncomputable def cM:List Int->List Int->Bool
 | [],[]=>false
 | [],_::_=>true
 | _::_,[]=>false
 | x::xs,y::ys=>if x=y then cM xs ys else decide (x < y)
theorem Zc1 (x y:Int) (xs ys:List Int):cM (x::xs) (y::ys)=if x=y then cM xs ys else decide (x < y):=rfl
theorem Zc0:cM [] []=false:=rfl
theorem ZiO (y:Int) (ys:List Int):cM [] (y::ys)=true:=rfl
theorem ZiP (x:Int) (xs:List Int):cM (x::xs) []=false:=rfl
theorem ZlX (A:Around) (s:Shared) (a:Int) (t:Tok) (c:Int) (u:Tok):∃ e,SeqAt.EqAt A s (.int a t) (.int c u) e/\(e=true ↔ a=c) :=
 ⟨(a == c),SeqAt.EqAt.int_int a t c u,by simp⟩
theorem Zhu (A:Around) (s:Shared) (a:Int) (t:Tok) (c:Int) (u:Tok) (prog:Program) (w:World) (E:Value->Shared->Prop) (Q:Value->Shared->Prop) (h:Q (.bool (decide (a < c))) s) :
  wpAny (model prog w) A (richCompare .Lt (.int a t) (.int c u)) Q E s :=
 (PyProof.Rows.lt_int h:wpAny (model prog w) A (compareOp .Lt (.int a t) (.int c u)) Q E s)
section
open PySem.SeqAt
open PySem.AutoSeq1 (wpAny_loadPart')
open PySem.MeetsSeq PySem.MeetsSeq2 PySem.MeetsSeq3
theorem Zf2 (l b:Addr) (items items2:Array Value) (n n2:Nat) (dd dd2:Option Addr) (sl eO:Array (Option Value)) (ns ms:List Int) (hi:IntsAre items.toList ns) (hj:IntsAre items2.toList ms) :
  Meets (Builtin.«tuple.__lt__» ⟨[.ref l,.ref b],[]⟩)
   (λ_ R s=>s.heap.get? l=some { cls:=.type "tuple",dict:=dd,data:=.seq items n,slots:=sl }/\s.heap.get? b=some { cls:=.type "tuple",dict:=dd2,data:=.seq items2 n2,slots:=eO } /\
    R (.ok (.ret (.bool (cM ns ms)))) s) :=
 .of_wp λprog w A R s h=>by
  obtain ⟨hp,g,d,tk,os⟩:=s; obtain ⟨hl,hb,h⟩:=h
  have f2:=AutoSeq1.sub_tuple_tuple
  have z1:items.size=ns.length:=by rw [<- hi.length]; simp
  have z2:items2.size=ms.length:=by rw [<- hj.length]; simp
  wp_walk using wpAny_loadPart' hl,wpAny_loadPart' hb,wpAny_forIn_list _ (λrest b s'=>b.1=none/\s'=⟨hp,g,d,tk,os⟩/\∃ (vs ws:List Value) (ns' ms':List Int),rest=vs.zip ws /\
   IntsAre vs ns'/\IntsAre ws ms'/\ns'.length+items2.size=ms'.length+items.size/\R (.ok (.ret (.bool (cM ns' ms')))) ⟨hp,g,d,tk,os⟩) _
  case turn =>
   rintro ⟨y,x⟩ rest b s' ⟨hb',rfl,vs,ws,ns',ms',hz,hvi,hwi,hlen,hR⟩
   cases hvi with
   | nil=>rw [List.zip_nil_left] at hz; cases hz
   | cons a t hvi' =>
    cases hwi with
    | nil=>rw [List.zip_nil_right] at hz; cases hz
    | cons c u hwi' =>
     rw [List.zip_cons_cons] at hz
     injection hz with hyx hrest
     injection hyx with hy hx
     subst hy hx
     rw [Zc1] at hR
     simp only [List.length_cons] at hlen
     obtain ⟨e,he,hiff⟩:=ZlX A.in1 ⟨hp,g,d,tk,os⟩ a t c u
     refine wpAny_bind (he prog w _ _ ?_)
     cases e with
     | true =>
      rw [if_pos (hiff.mp rfl)] at hR
      wp_walk
      exact ⟨rfl,rfl,_,_,_,_,hrest,hvi',hwi',by omega,hR⟩
     | false =>
      rw [if_neg (λq=>absurd (hiff.mpr q) Bool.false_ne_true)] at hR
      have hri:=Zhu A.in1 ⟨hp,g,d,tk,os⟩ a t c u prog w
      wp_walk using hri
      exact ⟨_,rfl,by simpa using hR⟩
  case fin =>
   rintro ⟨b1,b2⟩ s' ⟨hb',rfl,vs,ws,ns',ms',hz,hvi,hwi,hlen,hR⟩
   simp only at hb'
   subst hb'
   have hv:cM ns' ms'=decide (items.size < items2.size):=by
    cases hvi with
    | nil =>
     cases hwi with
     | nil =>
      simp only [List.length_nil] at hlen
      rw [Zc0]
      exact (decide_eq_false (by omega)).symm
     | cons c u hw =>
      simp only [List.length_nil,List.length_cons] at hlen
      rw [ZiO]
      exact (decide_eq_true (by omega)).symm
    | cons a t hv =>
     cases hwi with
     | nil =>
      simp only [List.length_nil,List.length_cons] at hlen
      rw [ZiP]
      exact (decide_eq_false (by omega)).symm
     | cons c u hw =>
      rw [List.zip_cons_cons] at hz
      cases hz
   rw [hv] at hR
   wp_walk
   exact ⟨_,rfl,by simpa [Builtin.Tuple.tupleCompareSizes] using hR⟩
  case h =>
   exact ⟨rfl,rfl,items.toList,items2.toList,ns,ms,rfl,hi,hj,by omega,h⟩
end
section
variable {prog:Program} {w:World} {A:Around} {E:Value->Shared->Prop} {s:Shared}
theorem ZiJ {l b:Addr} {items items2:Array Value} {ns ms:List Int} {Q:Value->Shared->Prop} (hl:IsTup s.heap l items) (hb:IsTup s.heap b items2) (hi:IntsAre items.toList ns) (hj:IntsAre items2.toList ms)
  (hu:A.units < cLine) (h:Q (.bool (cM ns ms)) s):wpAny (model prog w) A (compareOp .Lt (.ref l) (.ref b)) Q E s:=by
 obtain ⟨⟨cls,dd,data,sl⟩,ho,hc,n,hd⟩:=id hl
 obtain ⟨⟨cls2,dd2,data2,eO⟩,ho2,hc2,n2,hd2⟩:=id hb
 simp only at hc hd hc2 hd2
 subst hc hd hc2 hd2
 exact richCompare_meets_room (op:=.Lt) ⟨_,ho,rfl⟩ ⟨_,ho2,rfl⟩ PySem.F.slot_tuple_lt PySem.F.entry_tuple_lt (PySem.F.args_tuple_lt_2 _ _) (Zf2 l b items items2 n n2 dd dd2 sl eO ns ms hi hj)
  ⟨ho,ho2,show Value.bool (cM ns ms)≠Value.notImplemented/\Q (.bool (cM ns ms)) s from ⟨(λx=>nomatch x),h⟩⟩ hu
theorem Zne {t b:Addr} {vs ws:List Value} {Q:Value->Shared->Prop} (ht:IsTup s.heap t vs.toArray) (hb:IsTup s.heap b ws.toArray) (hv:vs≠[])
  (h1:ws=[]->Q (.ref t) s) (h2:ws≠[]->Q (.ref s.heap.objs.size) { s with heap:=s.heap.push { cls:=.type "tuple",data:=.seq (vs++ws).toArray } })
  (hsz:vs.length+ws.length<=sizeLine):wpAny (model prog w) A (binaryOp .Add (.ref t) (.ref b)) Q E s:=by
 obtain ⟨⟨cls,dd,data,sl⟩,ho,hc,n,hd⟩:=id ht
 obtain ⟨⟨cls2,dd2,data2,eO⟩,ho2,hc2,n2,hd2⟩:=id hb
 simp only at hc hd hc2 hd2
 subst hc hd hc2 hd2
 have e:vs.toArray++ws.toArray=(vs++ws).toArray:=by simp
 by_cases hw:ws=[]
 ·exact concat_meets ⟨_,ho,rfl⟩ ⟨_,ho2,rfl⟩ noFill_tuple_add seq_tuple_add PySem.F.slot_tuple_add PySem.F.entry_tuple_add (PySem.F.args_tuple_add_2 _ _)
   (tuple_addW1 t b vs.toArray ws.toArray n n2 dd dd2 sl eO (by simpa using hv) (by simp [hw])) ⟨ho,ho2,h1 hw⟩
 ·refine concat_meets ⟨_,ho,rfl⟩ ⟨_,ho2,rfl⟩ noFill_tuple_add seq_tuple_add PySem.F.slot_tuple_add PySem.F.entry_tuple_add (PySem.F.args_tuple_add_2 _ _)
   (tuple_addW2 t b vs.toArray ws.toArray n n2 dd dd2 sl eO (by simpa using hv) (by simpa using hw) (by rw [List.size_toArray,List.size_toArray]; exact hsz)) ⟨ho,ho2,?_⟩
  rw [e]
  exact h2 hw
noncomputable def aA (n d:Nat):Option Int->Nat
 | none=>d
 | some v=>if v < 0 then (v+(n:Int)).toNat else min v.toNat n
theorem Zbt (n d:Nat):aA n d none=d:=rfl
theorem pR (n d k:Nat):aA n d (some (k:Int))=min k n:=by
 show (if (k:Int) < 0 then ((k:Int)+(n:Int)).toNat else min (k:Int).toNat n)=min k n
 rw [if_neg (by omega),Int.toNat_natCast]
theorem Zhd (n d:Nat) (hd:d<=n) (o:Option Int):aA n d o<=n:=by
 cases o with
 | none=>exact hd
 | some v =>
  show (if v < 0 then (v+(n:Int)).toNat else min v.toNat n)<=n
  by_cases hv:v < 0
  ·rw [if_pos hv]; omega
  ·rw [if_neg hv]; exact Nat.min_le_right _ _
theorem ZeF (v:Int) (n d:Nat):(if v < 0 then max (v+(n:Int)) 0 else min v (n:Int))=((aA n d (some v):Nat):Int):=by
 show (if v < 0 then max (v+(n:Int)) 0 else min v (n:Int))=(((if v < 0 then (v+(n:Int)).toNat else min v.toNat n):Nat):Int)
 by_cases hv:v < 0
 ·rw [if_pos hv,if_pos hv,Int.ofNat_toNat]
 ·rw [if_neg hv,if_neg hv]
  obtain ⟨k,rfl⟩:=Int.eq_ofNat_of_zero_le (Int.not_lt.mp hv)
  rw [Int.toNat_natCast,<- Lean.Omega.Int.ofNat_min]
theorem Zoc (lo hi:Option Int) (n:Nat):Builtin.Slice.sliceAdjust lo hi 1 (n:Int)=(((aA n 0 lo:Nat):Int),((aA n n hi:Nat):Int)):=by
 have h1:¬ ((1:Int) < 0):=by omega
 unfold Builtin.Slice.sliceAdjust
 simp only [h1,if_false]
 refine Prod.ext ?_ ?_
 ·cases lo with
  | none=>rfl
  | some v=>exact ZeF v n 0
 ·cases hi with
  | none=>rfl
  | some v=>exact ZeF v n n
theorem ZhK (i j:Nat):Builtin.Slice.slicePlaces (i:Int) (j:Int) 1=j - i:=by
 unfold Builtin.Slice.slicePlaces
 have h1:(1:Int) > 0:=by omega
 simp only [h1,if_true,Int.ediv_one]
 split <;> omega
theorem ZaV {v:Value} {o:Option Int} {Q:Option Int->Shared->Prop} (p:IsPart v o) (h:Q o s):wpAny (model prog w) A (Builtin.Slice.slicePartIndex v) Q E s:=by
 cases p with
 | none=>exact slicePart_none h
 | int i t=>exact slicePart_int h
theorem ZaX {sl:Addr} {vl vu:Value} {lo hi:Option Int} {n:Nat} {Q:Int×Int×Nat->Shared->Prop} (hs:s.heap.IsSliceOf sl vl vu .none) (pl:IsPart vl lo) (pu:IsPart vu hi)
  (h:Q (((aA n 0 lo:Nat):Int),1,aA n n hi - aA n 0 lo) s):wpAny (model prog w) A (Builtin.Slice.sliceApplied (.ref sl) (pure (n:Int))) Q E s:=by
 obtain ⟨os,hos,hcs,hds⟩:=id hs
 unfold Builtin.Slice.sliceApplied Builtin.Slice.sliceFields
 refine wpAny_bind (wpAny_bind (wpAny_field hos hds (x:=vl) rfl (wpAny_bind (wpAny_field hos hds (x:=vu) rfl (wpAny_bind (wpAny_field hos hds (x:=.none) rfl (wpAny_pure ?_)))))))
 refine wpAny_bind (slicePart_none ?_)
 show wpAny _ _ (if ((1:Int) == 0)=true then _ else _) _ _ s
 rw [if_neg (by decide)]
 refine wpAny_bind (ZaV pl (wpAny_bind (ZaV pu (wpAny_bind (wpAny_pure ?_)))))
 show wpAny _ _ (match Builtin.Slice.sliceAdjust lo hi 1 (n:Int) with | (lo,hi)=>pure (lo,(1:Int),Builtin.Slice.slicePlaces lo hi 1)) _ _ s
 rw [Zoc lo hi n]
 show wpAny _ _ (pure (((aA n 0 lo:Nat):Int),(1:Int),Builtin.Slice.slicePlaces ((aA n 0 lo:Nat):Int) ((aA n n hi:Nat):Int) 1)) _ _ s
 rw [ZhK]
 exact wpAny_pure h
theorem ZhL (xs:Array Value) (i k:Nat):((List.range k).filterMap λ(m:Nat)=>xs[((i:Int)+(m:Int) * 1).toNat]?).toArray=((xs.toList.drop i).take k).toArray:=by
 have e:(λ(m:Nat)=>xs[((i:Int)+(m:Int) * 1).toNat]?)=λm=>xs[i+m]?:=by
  funext m
  have:((i:Int)+(m:Int) * 1).toNat=i+m:=by omega
  rw [this]
 rw [e]
 have:=pick_run xs i k
 rw [List.filterMap_map] at this
 have e2:((λx=>xs[x]?) ∘ λx=>i+x)=λm=>xs[i+m]?:=rfl
 rw [e2] at this
 rw [this]
theorem Zjq {t sl:Addr} {items:Array Value} {vl vu:Value} {lo hi:Option Int} {Q:Value->Shared->Prop} (ht:IsTup s.heap t items) (hs:s.heap.IsSliceOf sl vl vu .none) (pl:IsPart vl lo) (pu:IsPart vu hi)
  (hw:¬ (aA items.size 0 lo=0/\aA items.size items.size hi=items.size))
  (h:Q (.ref s.heap.objs.size) { s with heap:=s.heap.push { cls:=.type "tuple",data:=.seq ((items.toList.drop (aA items.size 0 lo)).take (aA items.size items.size hi - aA items.size 0 lo)).toArray } })
  (hsz:items.size<=sizeLine):wpAny (model prog w) A (getItem (.ref t) (.ref sl)) Q E s:=by
 have htake:sizeOk (.seq ((items.toList.drop (aA items.size 0 lo)).take (aA items.size items.size hi - aA items.size 0 lo)).toArray):=by
  show ((items.toList.drop (aA items.size 0 lo)).take (aA items.size items.size hi - aA items.size 0 lo)).toArray.size<=sizeLine
  rw [List.size_toArray,List.length_take,List.length_drop,Array.length_toList]
  exact Nat.le_trans (Nat.min_le_right _ _) (Nat.le_trans (Nat.sub_le _ _) hsz)
 have hj:aA items.size items.size hi<=items.size:=Zhd _ _ (Nat.le_refl _) hi
 obtain ⟨os,hos,hcs,hds⟩:=id hs
 have hTs:s.TypeIs (.ref sl) "slice":=⟨os,hos,hcs⟩
 unfold getItem
 try with_reducible refine wpAny_holding ?_
 first | refine wpAny_bind (wpAny_pure ?_) | skip
 refine wpAny_bind (wpAny_sequenceKey ht.typeIs (by decide) ?_)
 refine wpAny_bind (wpAny_callSpecial?_slot (name:=Str.ofString "__getitem__") ht.typeIs PyProof.Rows.slot_tuple_getitem
  (wpAny_call_entry PyProof.Rows.slot_tuple_getitem ht.typeIs entry_tuple_getitem ?_ (args_tuple_getitem _ _)))
 show wpAny _ _ (Builtin.Tuple.tupleItemsOf (.ref t) >>= _) _ _ s
 refine wpAny_bind (tupleItemsOf_ ht ?_)
 refine wpAny_bind (wpAny_typeOf hTs ?_)
 rw [if_pos (by decide)]
 refine wpAny_bind (ZaX hs pl pu ?_)
 have hno:¬ ((((aA items.size 0 lo:Nat):Int) == 0 && (1:Int) == 1 && (aA items.size items.size hi - aA items.size 0 lo) == items.size)=true):=by
  intro q
  rw [Bool.and_eq_true,Bool.and_eq_true] at q
  have q1:((aA items.size 0 lo:Nat):Int)=0:=eq_of_beq q.1.1
  have q2:aA items.size items.size hi - aA items.size 0 lo=items.size:=eq_of_beq q.2
  exact hw ⟨by omega,by omega⟩
 show wpAny _ _ (if (((aA items.size 0 lo:Nat):Int) == 0 && (1:Int) == 1 && (aA items.size items.size hi - aA items.size 0 lo) == items.size)=true then _ else _) _ _ s
 rw [if_neg hno,ZhL]
 first
  | exact wpAny_bind (m:=Builtin.Tuple.tupleExact _) (wpAny_newObj_type (wpAny_pure ⟨_,rfl,wpAny_pure h⟩) htake)
  | exact wpAny_bind (m:=Builtin.Tuple.tupleExact _) (wpAny_newObj_type (wpAny_bind (wpAny_pure (wpAny_pure ⟨_,rfl,wpAny_pure h⟩))) htake)
  | exact wpAny_bind (wpAny_bind (m:=Builtin.Tuple.tupleExact _) (wpAny_newObj_type (wpAny_pure (wpAny_pure ⟨_,rfl,wpAny_pure h⟩)) htake))
  | exact wpAny_bind (wpAny_bind (m:=Builtin.Tuple.tupleExact _) (wpAny_newObj_type (wpAny_pure ⟨_,rfl,wpAny_pure h⟩) htake))
end
end HT
namespace L2
open PySem PySem.Spec PyProof.Rows
noncomputable abbrev TO:=St->Hp->(Option Int->Hp->Prop)->Prop
noncomputable def PO (X:Cx) (e:Option Expr) (t:TO):Prop :=
 ∀ (pins:List (Addr×Obj)) (s:Shared) (σ:St) (H:Hp) (Q:Option Int->Hp->Prop),Inv X pins σ H s->t σ H Q ->
  wpAny (model X.prog X.w) X.A (evalPart e X.env) (λu s'=>∃ o H',Inv X pins σ H' s'/\IsPart u o/\Q o H') X.xe s
noncomputable def Zgk:TO:=λ_ H Q=>Q none H
noncomputable def Zgj (t:TE):TO:=λσ H Q=>t σ H λx H1=>∃ i,x=.int i/\Q (some i) H1
theorem Zdn {ns:List Int}:∀ {us:List Value},Vals (ns.map V.int) us->IntsAre us ns:=by
 induction ns with
 | nil=>intro us r; rw [List.map_nil] at r; cases r; exact .nil
 | cons n ns ih =>
  intro us r
  rw [List.map_cons] at r
  cases r with
  | cons r1 r2 =>
   obtain ⟨t,e⟩:=r1
   subst e
   exact .cons n t (ih r2)
section
variable {X:Cx} {e:Expr} {te:TE} {lo hi:Option Expr} {tl th:TO} {pos p2:Pos}
theorem Zcn:PO X none Zgk:=by
 intro pins s σ H Q I h
 rw [evalPart_none]
 exact wpAny_pure ⟨none,H,I,.none,h⟩
theorem Zcm (h:PE X e te):PO X (some e) (Zgj te):=by
 intro pins s σ H Q I hw
 rw [evalPart_some]
 refine thn (h pins s σ H _ I hw) λu s1 hz0=>?_
 obtain ⟨x,H1,I1,r1,q1⟩:=hz0
 obtain ⟨i,rfl,q⟩:=q1
 obtain ⟨t,rfl⟩:=r1
 exact ⟨some i,H1,I1,.int i t,q⟩
noncomputable def SlR (X:Cx) (r:V->Option Int->Option Int->Hp->VK->Prop):Prop :=
 ∀ (pins:List (Addr×Obj)) (s:Shared) (σ:St) (H:Hp) (x:V) (v vl vu:Value) (lo hi:Option Int) (sl:Addr) (Q:VK),Inv X pins σ H s->RelV x v->s.heap.IsSliceOf sl vl vu .none->IsPart vl lo->IsPart vu hi->r x lo hi H Q ->
  ∃ T id,typeLookup (.type T) "__getitem__"=pure (some (.builtin id))/\s.TypeIs v T/\wpAny (model X.prog X.w) X.A (getItem v (.ref sl)) (EP X pins σ Q) X.xe s
theorem SlR.or {r r':V->Option Int->Option Int->Hp->VK->Prop} (h:SlR X r) (h':SlR X r'):SlR X (λx lo hi H Q=>r x lo hi H Q\/r' x lo hi H Q):=by
 intro pins s σ H x v vl vu lo hi sl Q I rx hs pl pu q
 rcases q with q | q
 ·exact h pins s σ H x v vl vu lo hi sl Q I rx hs pl pu q
 ·exact h' pins s σ H x v vl vu lo hi sl Q I rx hs pl pu q
noncomputable def tSl (r:V->Option Int->Option Int->Hp->VK->Prop) (te:TE) (tl th:TO):TE:=λσ H Q=>te σ H λx H1=>tl σ H1 λl H2=>th σ H2 λu H3=>r x l u H3 Q
theorem qg {r:V->Option Int->Option Int->Hp->VK->Prop} (hr:SlR X r) (he:PE X e te) (hl:PO X lo tl) (hu:PO X hi th):PE X (.Subscript e (.Slice lo hi none p2) pos) (tSl r te tl th):=by
 intro pins s σ H Q I h
 refine Subscript_ (thn (he pins s σ H _ I h) λv s1 hz0=>?_)
 obtain ⟨x,H1,I1,r1,q1⟩:=hz0
 refine wpAny_Slice (thn (hl pins s1 σ H1 _ I1 q1) λvl s2 ⟨l,H2,I2,pl,q2⟩=>thn (hu pins s2 σ H2 _ I2 q2) λvu s3 hz0=>?_)
 obtain ⟨u,H3,I3,pu,q3⟩:=hz0
 rw [evalPart_none]
 refine wpAny_pure ?_
 have I4:Inv X pins σ H3 { s3 with heap:=s3.heap.push { cls:=.type "slice",data:=.fields #[vl,vu,.none] } }:=I3.kept (t':=s3.toks) λb ob q=>Heap.get?_push_of_some _ q
 obtain ⟨T,id,hT,ht,hg⟩:=hr pins { s3 with heap:=s3.heap.push { cls:=.type "slice",data:=.fields #[vl,vu,.none] } } σ H3 x v vl vu l u s3.heap.objs.size Q I4 r1 (Heap.IsSliceOf.new ..) pl pu q3
 show wpAny (model X.prog X.w) X.A (subscriptTail e (.Slice lo hi none p2) v (.ref s3.heap.objs.size)) (EP X pins σ Q) X.xe { s3 with heap:=s3.heap.push { cls:=.type "slice",data:=.fields #[vl,vu,.none] } }
 exact tail_any (ops:=[.ref s3.heap.objs.size,v]) ht hT hg (by with_unfolding_all rfl)
noncomputable def e9 (xs:List V) (lo hi:Option Int):List V:=(xs.drop (HT.aA xs.length 0 lo)).take (HT.aA xs.length xs.length hi - HT.aA xs.length 0 lo)
theorem ZeB (xs:List V) (lo hi:Option Int):(e9 xs lo hi).length<=xs.length:=by
 unfold e9
 rw [List.length_take,List.length_drop]
 exact Nat.le_trans (Nat.min_le_right _ _) (Nat.sub_le _ _)
noncomputable def ZbV (K:PySem.W.Frag):V->Option Int->Option Int->Hp->VK->Prop:=λx lo hi H Q=>∃ a xs,x=.ref a/\SqT K H a xs /\
 ¬ (HT.aA xs.length 0 lo=0/\HT.aA xs.length xs.length hi=xs.length)/\∀ p,H p=none->Q (.ref p) (upd H p (.tup (e9 xs lo hi)))
theorem ZgF:SlR X (ZbV X.K):=by
 intro pins s σ H x v vl vu lo hi sl Q I rx hs pl pu h
 obtain ⟨a,xs,rfl,hx,hw,q⟩:=h
 cases rx
 obtain ⟨its,r,ht,hz⟩:=I.tuple hx
 have hlen:its.toArray.size=xs.length:=by rw [List.size_toArray]; exact r.length.symm
 refine ⟨"tuple",_,PyProof.Rows.slot_tuple_getitem.lookup,ht.typeIs,?_⟩
 refine HT.Zjq ht hs pl pu (by rw [hlen]; exact hw) ?_ (by rw [hlen]; exact hz)
 rw [hlen]
 refine ⟨.ref s.heap.objs.size,_,I.laid (t':=s.toks) (o:=.tup (e9 xs lo hi)) (λb ob q=>Heap.get?_push_of_some _ q) (Nat.le_refl _) ?_,rfl,q _ (I.hok.fresh (Nat.le_refl _))⟩
 exact ⟨Nat.le_trans (ZeB xs lo hi) hz,_,(r.drop (HT.aA xs.length 0 lo)).take (HT.aA xs.length xs.length hi - HT.aA xs.length 0 lo),IsTup.new _ _⟩
noncomputable def Zca (K:PySem.W.Frag):R2:=λx y H Q=>∃ a b xs ys,x=.ref a/\y=.ref b/\SqT K H a xs/\SqT K H b ys/\xs≠[]/\xs.length+ys.length<=sizeLine /\
 (ys=[]->Q (.ref a) H)/\(ys≠[]->∀ p,H p=none->Q (.ref p) (upd H p (.tup (xs++ys))))
theorem Vals.nil_iff {xs:List V} {us:List Value} (r:Vals xs us):us=[] ↔ xs=[]:=by
 cases r with
 | nil=>simp
 | cons _ _=>simp
theorem Zib:OpR X (binaryOp .Add) (Zca X.K):=by
 intro pins s σ H x y v u Q I rx ry h
 obtain ⟨a,b,xs,ys,rfl,rfl,ha,hb,hx,hz,q1,q2⟩:=h
 cases rx
 cases ry
 obtain ⟨its,r1,p1,_⟩:=I.tuple ha
 obtain ⟨its2,r2,p2,_⟩:=I.tuple hb
 refine HT.Zne p1 p2 (λz=>hx (r1.nil_iff.mp z)) (λz=>⟨.ref a,H,I,rfl,q1 (r2.nil_iff.mp z)⟩) (λz=>?_) (by rw [<- r1.length,<- r2.length]; exact hz)
 refine ⟨.ref s.heap.objs.size,_,I.laid (t':=s.toks) (o:=.tup (xs++ys)) (λb ob q=>Heap.get?_push_of_some _ q) (Nat.le_refl _) ?_,rfl,q2 (λw=>z (r2.nil_iff.mpr w)) _ (I.hok.fresh (Nat.le_refl _))⟩
 exact ⟨by rw [List.length_append]; exact hz,_,r1.append r2,IsTup.new _ _⟩
end
noncomputable def cV (n:Nat) (i:Int):Option Nat:=if 0<=i then (if i < n then some i.toNat else none) else if -(n:Int)<=i then some (i+n).toNat else none
noncomputable def bb {α:Type} (xs:List α) (i:Int):Option α:=(cV xs.length i).bind λj=>xs[j]?
theorem Zdh {n:Nat} {i:Int} {j:Nat} (h:cV n i=some j):seqIndex? i n=some j/\j < n/\-(n:Int)<=i/\i < n:=by
 unfold cV at h
 by_cases h0:0<=i
 ·rw [if_pos h0] at h
  by_cases h1:i < n
  ·rw [if_pos h1] at h
   have e:i.toNat=j:=Option.some.inj h
   exact ⟨by rw [seqIndex_of h0 h1,e],by omega,by omega,h1⟩
  ·rw [if_neg h1] at h; cases h
 ·rw [if_neg h0] at h
  by_cases h1:-(n:Int)<=i
  ·rw [if_pos h1] at h
   have e:(i+n).toNat=j:=Option.some.inj h
   exact ⟨by rw [seqIndex_neg (by omega) h1,e],by omega,h1,by omega⟩
  ·rw [if_neg h1] at h; cases h
theorem nX {α:Type} {xs:List α} {i:Int} {v:α} (h:bb xs i=some v):∃ j,seqIndex? i xs.length=some j/\xs[j]?=some v/\j < xs.length/\-(xs.length:Int)<=i/\i < xs.length:=by
 unfold bb at h
 cases e:cV xs.length i with
 | none=>rw [e] at h; cases h
 | some j =>
  rw [e] at h
  obtain ⟨h1,h2,h3,h4⟩:=Zdh e
  exact ⟨j,h1,h,h2,h3,h4⟩
theorem fH {α:Type} {xs:List α} {j:Nat} {v:α} (h:xs[j]?=some v):bb xs (j:Int)=some v:=by
 have hj:j < xs.length:=(List.getElem?_eq_some_iff.mp h).1
 have e:cV xs.length (j:Int)=some j:=by
  unfold cV
  rw [if_pos (by omega),if_pos (by omega)]; simp
 unfold bb; rw [e]; exact h
noncomputable def sa (b:Expr):Prop:=∀ o i,subscripted b false o i=operate [o,i] (getItem o i)
noncomputable def IxR (X:Cx) (r:R2):Prop :=
 ∀ (value slice:Expr) (pins:List (Addr×Obj)) (s:Shared) (σ:St) (H:Hp) (x y:V) (v u:Value) (Q:VK),Inv X pins σ H s->RelV x v->RelV y u->r x y H Q ->
  subscripted slice false v u=operate [v,u] (getItem v u)->wpAny (model X.prog X.w) X.A (subscriptTail value slice v u) (EP X pins σ Q) X.xe s
noncomputable def MtR (X:Cx) (id:String) (r:V->List V->Hp->VK->Prop):Prop :=
 ∀ (pins:List (Addr×Obj)) (s:Shared) (σ:St) (H:Hp) (x:V) (xs:List V) (v:Value) (us:List Value) (Q:VK),Inv X pins σ H s->RelV x v->Vals xs us->r x xs H Q ->
  wpAny (model X.prog X.w) X.A (call (.builtin id) (v::us)) (EP X pins σ Q) X.xe s
section
variable {X:Cx} {a b:Expr} {ta tb:TE} {pos:Pos}
theorem IxR.or {r r':R2} (h:IxR X r) (h':IxR X r'):IxR X (λx y H Q=>r x y H Q\/r' x y H Q):=by
 intro value slice pins s σ H x y v u Q I rx ry q hs
 rcases q with q | q
 ·exact h value slice pins s σ H x y v u Q I rx ry q hs
 ·exact h' value slice pins s σ H x y v u Q I rx ry q hs
theorem fv {r:R2} (hr:IxR X r) (ha:PE X a ta) (hb:PE X b tb) (hs:sa b):PE X (.Subscript a b pos) (ib r ta tb):=by
 intro pins s σ H Q I h
 exact Subscript_ (rC ha hb I h λv u s2 x y H2 I2 rx ry q=>hr a b pins s2 σ H2 x y v u Q I2 rx ry q (hs _ _))
noncomputable def pX (K:PySem.W.Frag):R2:=λx y H Q=>∃ p xs i v,x=.ref p/\y=.int i/\SqL K H p xs/\bb xs i=some v/\Q v H
noncomputable def Zb3 (K:PySem.W.Frag):R2:=λx y H Q=>∃ p xs i v,x=.ref p/\y=.int i/\SqT K H p xs/\bb xs i=some v/\Q v H
noncomputable def Zb4:R2:=λx y H Q=>∃ z i c,x=.str z/\y=.int i/\z.length<=sizeLine/\bb z.cps.toList i=some c/\Q (.str ⟨#[c]⟩) H
theorem fE:IxR X (pX X.K):=by
 intro value slice pins s σ H x y v u Q I rx ry h hs
 obtain ⟨p,xs,i,z,rfl,rfl,hq,he,q⟩:=h
 cases rx
 obtain ⟨t,rfl⟩:=ry
 obtain ⟨its,r,pl,hz⟩:=I.list hq
 obtain ⟨j,h1,h2,h3,h4,h5⟩:=nX he
 obtain ⟨w,ew,rw'⟩:=r.get h2
 have hl:=r.length
 have hn:=gY
 have fin:EP X pins σ Q w s:=⟨z,H,I,rw',q⟩
 by_cases h0:0<=i
 ·have hj:i.toNat=j:=by
   rw [seqIndex_of h0 h5] at h1
   exact Option.some.inj h1
  exact item_listR pl.isList h0 (by omega) (by rw [hj]; simpa using ew) fin hs
 ·have hj:(i+(its.toArray.size:Int)).toNat=j:=by
   rw [seqIndex_neg (by omega) h4] at h1
   rw [List.size_toArray,<- hl]
   exact Option.some.inj h1
  exact subscriptTail_builtinR (x:=w) pl.isList.typeIs slot_list_getitem.lookup
   (wpAny_getItem_list_neg (Q:=λr s'=>r=w/\EP X pins σ Q r s') pl.isList (by omega) (by rw [List.size_toArray] <;> omega) (by omega) (by rw [hj]; simpa using ew) ⟨rfl,fin⟩) hs
theorem Zjc:IxR X (Zb3 X.K):=by
 intro value slice pins s σ H x y v u Q I rx ry h hs
 obtain ⟨p,xs,i,z,rfl,rfl,hq,he,q⟩:=h
 cases rx
 obtain ⟨t,rfl⟩:=ry
 obtain ⟨its,r,pl,hz⟩:=I.tuple hq
 obtain ⟨j,h1,h2,h3,h4,h5⟩:=nX he
 obtain ⟨w,ew,rw'⟩:=r.get h2
 have hl:=r.length
 have hn:=gY
 have fin:EP X pins σ Q w s:=⟨z,H,I,rw',q⟩
 exact subscriptTail_builtinR (x:=w) pl.typeIs slot_tuple_getitem.lookup
  (getItem_tuple (j:=j) (Q:=λr s'=>r=w/\EP X pins σ Q r s') pl (by omega) (by omega) (by rw [List.size_toArray,<- hl]; exact h1) (by simpa using ew) ⟨rfl,fin⟩) hs
theorem Zjd:IxR X Zb4:=by
 intro value slice pins s σ H x y v u Q I rx ry h hs
 obtain ⟨z,i,c,rfl,rfl,hz,he,q⟩:=h
 obtain ⟨t,rfl⟩:=rx
 obtain ⟨t',rfl⟩:=ry
 obtain ⟨j,h1,h2,h3,h4,h5⟩:=nX he
 have hl:z.cps.toList.length=z.length:=by simp [Str.length]
 rw [hl] at h1 h4 h5
 have hn:=gY
 exact tail_any (typeIs_str s z t) slot_str_getitem.lookup (getItem_str (c:=c) (by
  have e1:decide (i < -(2 ^ 63:Int))=false:=decide_eq_false (by omega)
  have e2:decide (i ≥ 2 ^ 63)=false:=decide_eq_false (by omega)
  rw [e1,e2,Bool.or_false]) (by rw [h1]; simpa using h2) ⟨.str ⟨#[c]⟩,H,I.tok _,⟨_,rfl⟩,q⟩) hs
noncomputable def rIx (K:PySem.W.Frag):R2:=λx y H Q=>pX K x y H Q\/Zb3 K x y H Q\/Zb4 x y H Q
theorem bw:IxR X (rIx X.K):=fE.or (Zjc.or Zjd)
theorem ZiI (its:List Value) (n j:Nat) (u:Value):Obj.mapSeq (·.setIfInBounds j u) { cls:=.type "list",data:=.seq its.toArray n }={ cls:=.type "list",data:=.seq (its.set j u).toArray n }:=by
 simp [Obj.mapSeq]
theorem Inv.lst {pins:List (Addr×Obj)} {σ:St} {H:Hp} {s:Shared} {p:Addr} {xs:List V} (I:Inv X pins σ H s) (h:H p=some (.lst xs)) :
  ∃ (its:List Value) (n:Nat),Vals xs its/\s.heap.get? p=some { cls:=.type "list",data:=.seq its.toArray n }/\xs.length<=sizeLine:=by
 obtain ⟨z,its,n,r,e⟩:=I.hok p _ h
 exact ⟨its,n,r,e,z⟩
theorem Inv.lstUpd {pins:List (Addr×Obj)} {σ:St} {H:Hp} {s:Shared} {p:Addr} {xs ys:List V} {its its':List Value} {n n':Nat} {f:Obj->Obj} (I:Inv X pins σ H s) (h:H p=some (.lst xs))
  (ho:s.heap.get? p=some { cls:=.type "list",data:=.seq its.toArray n }) (hf:f { cls:=.type "list",data:=.seq its.toArray n }={ cls:=.type "list",data:=.seq its'.toArray n' }) (r:Vals ys its') (hz:ys.length<=sizeLine) (t:Nat) :
  Inv X pins σ (upd H p (.lst ys)) { s with heap:=s.heap.update p f,toks:=t }:=by
 have e:(s.heap.update p f).get? p=some { cls:=.type "list",data:=.seq its'.toArray n' }:=by
  rw [Heap.get?_update_self f ho (by rw [hf] <;> rfl),hf]
 refine I.write (x:=p) (e:=p) (by rw [h]; trivial) (.inl rfl) (λb u hb q=>(Heap.get?_update_other _ _ (Ne.symm hb)).trans q) ⟨_,e⟩ ?_
 exact ⟨hz,its',n',r,e⟩
noncomputable def pV:V->V->V->Hp->(Hp->Prop)->Prop:=λo i v H Q=>∃ p xs k j,o=.ref p/\i=.int k/\H p=some (.lst xs)/\cV xs.length k=some j/\Q (upd H p (.lst (xs.set j v)))
theorem ig:sg X pV:=by
 intro pins s σ H o i v ov iv u Q I ro ri rv h
 obtain ⟨p,xs,k,j,rfl,rfl,hp,hj,q⟩:=h
 cases ro
 obtain ⟨t,rfl⟩:=ri
 obtain ⟨its,n,r,ho,hz⟩:=I.lst hp
 obtain ⟨h1,h2,h3,h4⟩:=Zdh hj
 have hl:=r.length
 have hn:=gY
 have I':Inv X pins σ (upd H p (.lst (xs.set j v))) { s with heap:=s.heap.update p (Obj.mapSeq (·.setIfInBounds j u)) } :=
  I.lstUpd hp ho (ZiI its n j u) (r.set rv j) (by rw [List.length_set]; exact hz) s.toks
 by_cases h0:0<=k
 ·have hk:k.toNat=j:=by
   rw [seqIndex_of h0 h4] at h1
   exact Option.some.inj h1
  exact PySem.W.ki_setAt ho h0 (by omega) (by rw [List.size_toArray,<- hl]; exact h4) (by rw [hk]; exact ⟨_,I',q⟩)
 ·have hk:(k+(its.toArray.size:Int)).toNat=j:=by
   rw [seqIndex_neg (by omega) h3] at h1
   rw [List.size_toArray,<- hl]
   exact Option.some.inj h1
  exact PySem.W.ki_setBack ho (by omega) (by rw [List.size_toArray,<- hl]; exact h3) (by omega) (by rw [hk]; exact ⟨_,I',q⟩)
theorem Zez {n:Nat} {i:Int} (h:i < 0):max 0 (min (i+(n:Int)) n)=(((i+n).toNat:Nat):Int):=by
 rw [Int.min_eq_left (by omega),Int.ofNat_toNat,Int.max_comm]
theorem ZeA {n:Nat} {i:Int} (h:¬ i < 0):max 0 (min i (n:Int))=((min i.toNat n:Nat):Int):=by
 obtain ⟨k,rfl⟩:=Int.eq_ofNat_of_zero_le (Int.not_lt.mp h)
 rw [Int.toNat_natCast,<- Lean.Omega.Int.ofNat_min]
 exact Int.max_eq_right (Int.natCast_nonneg _)
theorem ZgC (lo hi:Option Int) (n:Nat):(sliceBounds lo hi none n).1=((HT.aA n 0 lo:Nat):Int)/\(sliceBounds lo hi none n).2.1=((HT.aA n n hi:Nat):Int)/\(sliceBounds lo hi none n).2.2=1:=by
 refine ⟨?_,?_,rfl⟩
 ·cases lo with
  | none=>simp [sliceBounds,HT.aA]
  | some i =>
   simp only [sliceBounds,HT.aA,Option.getD_none,show (1:Int) > 0 by decide,if_true]
   by_cases h:i < 0
   ·simp only [h,if_true]
    exact Zez h
   ·simp only [h,if_false]
    exact ZeA h
 ·cases hi with
  | none=>simp [sliceBounds,HT.aA]
  | some i =>
   simp only [sliceBounds,HT.aA,Option.getD_none,show (1:Int) > 0 by decide,if_true]
   by_cases h:i < 0
   ·simp only [h,if_true]
    exact Zez h
   ·simp only [h,if_false]
    exact ZeA h
theorem ZgD (its:List Value) (lo hi:Option Int):slicePick its.toArray lo hi none=((its.drop (HT.aA its.length 0 lo)).take (HT.aA its.length its.length hi - HT.aA its.length 0 lo)).toArray:=by
 obtain ⟨h1,h2,h3⟩:=ZgC lo hi its.toArray.size
 unfold slicePick
 rw [h1,h2,h3]
 simp only [sliceRange_one,pick_run,List.size_toArray] <;> rfl
noncomputable def ZbW (K:PySem.W.Frag):V->Option Int->Option Int->Hp->VK->Prop:=λx lo hi H Q=>∃ a xs,x=.ref a/\SqL K H a xs/\∀ p,H p=none->Q (.ref p) (upd H p (.lst (e9 xs lo hi)))
theorem ZaY:SlR X (ZbW X.K):=by
 intro pins s σ H x v vl vu lo hi sl Q I rx hs pl pu h
 obtain ⟨a,xs,rfl,hx,q⟩:=h
 cases rx
 obtain ⟨its,r,ht,hz⟩:=I.list hx
 have hlen:=r.length
 refine ⟨"list",_,slot_list_getitem.lookup,ht.isList.typeIs,?_⟩
 refine wpAny_getItem_list_slice ht.isList hs pl pu .none (by simp) ?_ (by rw [List.size_toArray] <;> omega)
 rw [ZgD,<- hlen]
 refine ⟨.ref s.heap.objs.size,_,I.laid (t':=s.toks) (o:=.lst (e9 xs lo hi)) (λb ob q=>Heap.get?_push_of_some _ q) (Nat.le_refl _) ?_,rfl,q _ (I.hok.fresh (Nat.le_refl _))⟩
 exact ⟨Nat.le_trans (ZeB xs lo hi) hz,_,0,(r.drop (HT.aA xs.length 0 lo)).take (HT.aA xs.length xs.length hi - HT.aA xs.length 0 lo),Heap.get?_push_size _ rfl⟩
theorem fb:dO X (.builtin "len") (λxs H Q=>∃ p ys,xs=[.ref p]/\(SqL X.K H p ys\/SqT X.K H p ys)/\Q (.int ys.length) H):=by
 intro pins s σ H xs us Q I r h
 obtain ⟨p,ys,rfl,hq,q⟩:=h
 obtain ⟨u,rfl,rx⟩:=fq r
 cases rx
 have hn:=gY
 rcases hq with hq | hq
 ·obtain ⟨its,r',pl,hz⟩:=I.list hq
  have hlen:=r'.length
  exact Calls.call_len_list pl.isList (by simp only [List.size_toArray] <;> omega) ⟨.int ys.length,H,I.tok _,⟨s.toks+1,by rw [List.size_toArray,hlen]⟩,q⟩
 ·obtain ⟨its,r',pl,hz⟩:=I.tuple hq
  have hlen:=r'.length
  exact len_tuple pl (by simp only [List.size_toArray] <;> omega) ⟨.int ys.length,H,I.tok _,⟨s.toks+1,by rw [List.size_toArray,hlen]⟩,q⟩
theorem Znm:dO X (.type "list") (λxs H Q=>∃ p ys,xs=[.ref p]/\(SqL X.K H p ys\/SqT X.K H p ys)/\∀ l,H l=none->Q (.ref l) (upd H l (.lst ys))):=by
 intro pins s σ H xs us Q I r h
 obtain ⟨p,ys,rfl,hq,q⟩:=h
 obtain ⟨u,rfl,rx⟩:=fq r
 cases rx
 have fin:∀ (its:List Value),Vals ys its->ys.length<=sizeLine->∀ (h':Heap) (c':Nat),(∀ b o',s.heap.get? b=some o'->h'.get? b=some o') ->
   h'.get? s.heap.objs.size=some { cls:=.type "list",dict:=none,data:=.seq its.toArray c',slots:=#[] }->EP X pins σ Q (.ref s.heap.objs.size) { s with heap:=h' }:=λits r' hz h' c' kp e =>
  ⟨.ref s.heap.objs.size,_,I.laid (t':=s.toks) kp (Nat.le_refl _) (show ObjOk X.prog X.w _ h' _ (.lst ys) from ⟨hz,its,c',r',e⟩),rfl,q _ (I.hok.fresh (Nat.le_refl _))⟩
 rcases hq with hq | hq
 ·obtain ⟨its,r',pl,hz⟩:=I.list hq
  have hlen:=r'.length
  obtain ⟨o,ho,hc,n,hd⟩:=pl.isList
  exact call_list_seq p (.inl rfl) ho hc hd (λh' c' kp e=>fin its r' hz h' c' kp e) (by simp only [List.size_toArray] <;> omega)
 ·obtain ⟨its,r',pl,hz⟩:=I.tuple hq
  have hlen:=r'.length
  obtain ⟨o,ho,hc,n,hd⟩:=pl
  exact call_list_seq p (.inr rfl) ho hc hd (λh' c' kp e=>fin its r' hz h' c' kp e) (by simp only [List.size_toArray] <;> omega)
theorem k9:dO X (.type "tuple") (λxs H Q=>∃ p ys,xs=[.ref p]/\((SqL X.K H p ys/\∀ l,H l=none->Q (.ref l) (upd H l (.tup ys)))\/(SqT X.K H p ys/\Q (.ref p) H))):=by
 intro pins s σ H xs us Q I r h
 obtain ⟨p,ys,rfl,h⟩:=h
 obtain ⟨u,rfl,rx⟩:=fq r
 cases rx
 rcases h with ⟨hq,q⟩ | ⟨hq,q⟩
 ·obtain ⟨its,r',pl,hz⟩:=I.list hq
  have hlen:=r'.length
  refine call_tuple_list pl.isList (λh' kp=>?_) (by simp only [List.size_toArray] <;> omega)
  have I1:Inv X pins σ H { s with heap:=h' }:=I.kept (t':=s.toks) kp
  have I2:Inv X pins σ (upd H h'.objs.size (.tup ys)) { s with heap:=h'.push { cls:=.type "tuple",data:=.seq its.toArray } } :=
   I1.laid (t':=s.toks) (λb o e=>Heap.get?_push_of_some _ e) (Nat.le_refl _) (show ObjOk X.prog X.w _ _ _ (.tup ys) from ⟨hz,its,r',IsTup.new _ _⟩)
  exact ⟨.ref h'.objs.size,_,I2,rfl,q _ (I1.hok.fresh (Nat.le_refl _))⟩
 ·obtain ⟨its,r',pl,hz⟩:=I.tuple hq
  exact call_tuple_same pl ⟨.ref p,H,I,rfl,q⟩
noncomputable def oT (K:PySem.W.Frag) (T:String) (x:V) (H:Hp):Prop:=match x with
 | .str _=>T="str"
 | .int _=>T="int"
 | .ref p=>(T="list"/\∃ xs,SqL K H p xs)\/(T="tuple"/\∃ o,K.lookup p=some o/\o.cls=.type "tuple"/\o.dict=none) \/
   (T="dict"/\((∃ kvs,H p=some (.dK kvs))\/∃ kvs,H p=some (.dT kvs)))\/(T="set"/\∃ S n,H p=some (.set S n))
 | _=>False
theorem Zau {pins:List (Addr×Obj)} {σ:St} {H:Hp} {s:Shared} {T:String} {x:V} {v:Value} (I:Inv X pins σ H s) (r:RelV x v) (ty:oT X.K T x H) :
  s.TypeIs v T/\∀ a,v=.ref a->∃ ob,s.heap.get? a=some ob/\ob.dict=none:=by
 cases x with
 | str z =>
  obtain ⟨t,rfl⟩:=r
  cases (show T="str" from ty)
  exact ⟨typeIs_str s z t,λ_ e=>nomatch e⟩
 | int i =>
  obtain ⟨t,rfl⟩:=r
  cases (show T="int" from ty)
  exact ⟨typeIs_int s i t,λ_ e=>nomatch e⟩
 | ref p =>
  cases r
  rcases ty with ⟨rfl,xs,hq⟩ | ⟨rfl,o,hk,hc,hd⟩ | ⟨rfl,hk⟩ | ⟨rfl,S,n,hk⟩
  ·obtain ⟨its,_,pl,_⟩:=I.list hq
   refine ⟨pl.isList.typeIs,λa e=>?_⟩
   cases e
   obtain ⟨o,n,e,c,hd,_⟩:=pl
   exact ⟨o,e,hd⟩
  ·refine ⟨⟨o,I.kIn p o hk,hc⟩,λa e=>?_⟩
   cases e
   exact ⟨o,I.kIn _ o hk,hd⟩
  ·have z:∃ o,s.heap.get? p=some o/\o.ExactDict:=by
    rcases hk with ⟨kvs,hk⟩ | ⟨kvs,hk⟩
    ·obtain ⟨_,_,_,_,o,_,_,e,ex,_⟩:=I.hok p _ hk
     exact ⟨o,e,ex⟩
    ·obtain ⟨_,_,_,_,o,_,_,e,ex,_⟩:=I.hok p _ hk
     exact ⟨o,e,ex⟩
   obtain ⟨o,e,ex⟩:=z
   refine ⟨⟨o,e,ex.1⟩,λa e2=>?_⟩
   cases e2
   exact ⟨o,e,ex.2.1⟩
  ·obtain ⟨o,_,_,_,e,ex,_⟩:=I.hok p _ hk
   refine ⟨⟨o,e,ex.1⟩,λa e2=>?_⟩
   cases e2
   exact ⟨o,e,ex.2.1⟩
 | _=>exact False.elim ty
noncomputable def ZaH (K:PySem.W.Frag) (T:String) (r:V->List V->Hp->VK->Prop) (to:TE):TE:=λσ H Q=>to σ H λx H1=>oT K T x H1/\r x [] H1 Q
noncomputable def oZ (K:PySem.W.Frag) (T:String) (r:V->List V->Hp->VK->Prop) (to:TE) (t:TA):TE:=λσ H Q=>to σ H λx H1=>oT K T x H1/\t σ H1 λxs H2=>r x xs H2 Q
variable {o e:Expr} {es:List Expr} {to:TE} {t:TA} {name:Str} {apos cpos:Pos} {T id:String} {r:V->List V->Hp->VK->Prop}
theorem Zcu (pa:PlainAttrs T) (slot:Slot T name id) (hty:typeOf (.builtin id)=pure (.type "method_descriptor")) (hm:MtR X id r) (ho:PE X o to)
  (hbase:attributeBase o name X.env (eval o X.env)=eval o X.env:=by rfl) (hline:(apos.endLine == cpos.line)=true:=by rfl):PE X (.Call (.Attribute o name apos) [] [] cpos) (ZaH X.K T r to):=by
 intro pins s σ H Q I h
 refine wpAny_Call_method0_late hbase hline (thn (ho pins s σ H _ I h) λv s1 hz0=>?_)
 obtain ⟨x,H1,I1,r1,ty,q1⟩:=hz0
 obtain ⟨h1,h2⟩:=Zau I1 r1 ty
 exact ⟨T,id,pa,slot,hty,h1,h2,Calls.callWith_builtin rfl (PySem.evalArgs_none (hm pins s1 σ H1 x [] v [] Q I1 r1 .nil q1))⟩
theorem mz (pa:PlainAttrs T) (slot:Slot T name id) (hty:typeOf (.builtin id)=pure (.type "method_descriptor")) (hm:MtR X id r) (ho:PE X o to) (ha:PA X (e::es) t)
  (hbase:attributeBase o name X.env (eval o X.env)=eval o X.env:=by rfl)
  (hfew:((backTo cpos (starEach (e::es) X.env)).all (λx=>!x.1) && (backToKw cpos (keywordEach [] X.env)).all (λx=>x.1.isSome)
   && decide ((e::es).length+([]:List Keyword).length+(if ([]:List Keyword).isEmpty then 0 else 1) < 30))=true:=by rfl)
  (hline:(apos.endLine == cpos.line)=true:=by rfl) (hs:starEach (e::es) X.env=(false,eval e X.env)::starEach es X.env:=by rfl) (hplain:(backTo cpos (starEach es X.env)).any (·.1)=false:=by rfl) :
  PE X (.Call (.Attribute o name apos) (e::es) [] cpos) (oZ X.K T r to t):=by
 intro pins s σ H Q I h
 refine wpAny_Call_method_late hbase hfew hline rfl (thn (ho pins s σ H _ I h) λv s1 hz0=>?_)
 obtain ⟨x,H1,I1,r1,ty,q1⟩:=hz0
 obtain ⟨h1,h2⟩:=Zau I1 r1 ty
 refine ⟨T,id,pa,slot,hty,h1,h2,?_⟩
 have hA:=ha cpos pins s1 σ H1 _ I1 q1
 rw [hs] at hA ⊢
 refine Calls.callWith_builtin (by show (false || (backTo cpos (starEach es X.env)).any (·.1))=false; rw [hplain] <;> rfl) (Calls.evalArgs_plain ?_)
 exact thn hA λus s2 hz0=>by
  obtain ⟨vs,H2,I2,r2,q2⟩:=hz0
  exact hm pins s2 σ H2 x vs v us Q I2 r1 r2 q2
end
noncomputable def si (X:Cx) (id:String) (r:V->List V->Hp->VK->Prop):Prop :=
 ∀ (pins:List (Addr×Obj)) (s:Shared) (σ:St) (H:Hp) (x:V) (xs:List V) (v:Value) (us:List Value) (Q:VK),Inv X pins σ H s->RelV x v->Vals xs us->r x xs H Q ->
  wpAny (model X.prog X.w) X.A (call (.builtin id) (v::us)) (EP X pins σ Q) X.xe s
theorem Vals.one {x:V} {us:List Value} (h:Vals [x] us):∃ u,us=[u]/\RelV x u:=by
 cases h with
 | cons r t=>cases t; exact ⟨_,rfl,r⟩
theorem Vals.zero:∀ {us:List Value},Vals [] us->us=[]
 | _,.nil=>rfl
theorem Vals.reverse {xs:List V} {us:List Value} (h:Vals xs us):Vals xs.reverse us.reverse:=by
 induction h with
 | nil=>exact .nil
 | cons r t ih=>rw [List.reverse_cons,List.reverse_cons]; exact Vals.append ih (.cons r .nil)
theorem Vals.rep {xs:List V} {us:List Value} (h:Vals xs us):∀ k:Nat,Vals (List.replicate k xs).flatten (List.replicate k us).flatten
 | 0=>.nil
 | k+1=>by
  rw [List.replicate_succ,List.replicate_succ,List.flatten_cons,List.flatten_cons]
  exact Vals.append h (Vals.rep h k)
theorem Zdz (its:List Value):∀ (k:Nat) (acc:List Value),
  List.foldl (λx1 x2=>x1++x2) acc.toArray (List.replicate k its.toArray)=(acc++(List.replicate k its).flatten).toArray
 | 0,acc=>by simp
 | k+1,acc=>by
  have e:acc.toArray++its.toArray=(acc++its).toArray:=by simp
  have e2:(acc++its)++(List.replicate k its).flatten=acc++(List.replicate (k+1) its).flatten:=by
   rw [List.replicate_succ,List.flatten_cons,List.append_assoc]
  rw [<- e2,<- Zdz its k (acc++its),<- e,List.replicate_succ,List.foldl_cons]
section
variable {X:Cx} {pins:List (Addr×Obj)} {σ:St} {H:Hp} {s:Shared} {l b:Addr} {xs ys zs:List V}
theorem Inv.lset {its its':List Value} {n:Nat} {f:Array Value->Array Value} {t':Nat} (I:Inv X pins σ H s) (hH:H l=some (.lst xs))
  (e:s.heap.get? l=some { cls:=.type "list",data:=.seq its.toArray n }) (hf:f its.toArray=its'.toArray) (hv:Vals ys its') (hz:ys.length<=sizeLine) :
  Inv X pins σ (upd H l (.lst ys)) { s with heap:=s.heap.update l (Obj.mapSeq f),toks:=t' }:=by
 have q:=PySem.IsL.update e f
 rw [hf] at q
 refine I.write (x:=l) (e:=l) (by rw [hH]; exact trivial) (.inl rfl) (λb' u hb hu=>(Heap.get?_update_other s.heap (Obj.mapSeq f) (Ne.symm hb)).trans hu) ⟨_,q⟩ ?_
 exact ⟨hz,its',_,hv,q⟩
theorem Inv.lnew {its:List Value} {t':Nat} (I:Inv X pins σ H s) (hv:Vals ys its) (hz:ys.length<=sizeLine) :
  Inv X pins σ (upd H s.heap.objs.size (.lst ys)) { s with heap:=s.heap.push { cls:=.type "list",data:=.seq its.toArray },toks:=t' } :=
 I.laid (λ_ _ q=>Heap.get?_push_of_some _ q) (Nat.le_refl _) ⟨hz,its,0,hv,Heap.get?_push_size _ rfl⟩
theorem Inv.fresh (I:Inv X pins σ H s):H s.heap.objs.size=none:=I.hok.fresh (Nat.le_refl _)
theorem Inv.lstM (I:Inv X pins σ H s) (hH:H l=some (.lst xs)):xs.length<=sizeLine/\∃ (its:List Value) (n:Nat),Vals xs its/\xs.length=its.length/\s.heap.get? l=some { cls:=.type "list",data:=.seq its.toArray n }:=by
 obtain ⟨z,its,n,r,e⟩:=I.hok l _ hH
 exact ⟨z,its,n,r,r.length,e⟩
theorem ZcA {n:Nat} (h:n<=sizeLine):Builtin.List.listTooLong n=false:=by
 unfold Builtin.List.listTooLong
 exact decide_eq_false (by omega)
end
section
variable {X:Cx}
noncomputable def Zcd:V->List V->Hp->VK->Prop:=λx vs H Q=>∃ l xs y,x=.ref l/\vs=[y]/\H l=some (.lst xs)/\xs.length < sizeLine/\Q .non (upd H l (.lst (xs++[y])))
theorem qv:si X "list.append" Zcd:=by
 intro pins s σ H x vs v us Q I rx rv h
 obtain ⟨l,xs,y,rfl,rfl,hH,hz,q⟩:=h
 cases rx
 obtain ⟨u,rfl,ru⟩:=rv.one
 obtain ⟨z,its,n,r,hl,e⟩:=I.lstM hH
 refine call_meets F.slot_list_append ⟨_,e,rfl⟩ F.entry_list_append (F.args_list_append_2 _ _) (PySem.list_append l its.toArray n u (by rw [List.size_toArray]; omega)) ⟨e,?_⟩
 refine ⟨.non,_,I.lset (its':=its++[u]) hH e (by simp) (r.append (.cons ru .nil)) ?_,rfl,q⟩
 rw [List.length_append,List.length_singleton]
 omega
noncomputable def Zb7:V->List V->Hp->VK->Prop:=λx vs H Q=>∃ l b xs zs,x=.ref l/\vs=[.ref b]/\H l=some (.lst xs)/\H b=some (.lst zs)/\xs.length+zs.length<=sizeLine/\Q .non (upd H l (.lst (xs++zs)))
theorem Zix:si X "list.extend" Zb7:=by
 intro pins s σ H x vs v us Q I rx rv h
 obtain ⟨l,b,xs,zs,rfl,rfl,hH,hB,hz,q⟩:=h
 cases rx
 obtain ⟨u,rfl,ru⟩:=rv.one
 cases ru
 obtain ⟨z,its,n,r,hl,e⟩:=I.lstM hH
 obtain ⟨z2,its2,n2,r2,hl2,e2⟩:=I.lstM hB
 have hsz:its.toArray.size+its2.toArray.size<=sizeLine:=by rw [List.size_toArray,List.size_toArray]; omega
 have hlong:¬ (!its.toArray.isEmpty && Builtin.List.listTooLong (its.toArray.size+its2.toArray.size))=true:=by
  rw [ZcA hsz,Bool.and_false]
  exact Bool.false_ne_true
 refine call_meets F.slot_list_extend ⟨_,e,rfl⟩ F.entry_list_extend (F.args_list_extend_2 _ _)
  (AutoSeq1.list_extend_list_list_0 l its.toArray n b its2.toArray n2 hlong (by rw [List.size_toArray]; omega) (by omega)) ⟨e,e2,?_⟩
 refine ⟨.non,_,I.lset (its':=its++its2) hH e (by simp) (r.append r2) ?_,rfl,q⟩
 rw [List.length_append]
 omega
noncomputable def ZbX:V->List V->Hp->VK->Prop:=λx vs H Q=>∃ l xs,x=.ref l/\vs=[]/\H l=some (.lst xs)/\Q .non (upd H l (.lst xs.reverse))
theorem ZcE:si X "list.reverse" ZbX:=by
 intro pins s σ H x vs v us Q I rx rv h
 obtain ⟨l,xs,rfl,rfl,hH,q⟩:=h
 cases rx
 have hus:=rv.zero
 subst hus
 obtain ⟨z,its,n,r,hl,e⟩:=I.lstM hH
 refine call_meets F.slot_list_reverse ⟨_,e,rfl⟩ F.entry_list_reverse (F.args_list_reverse_1 _) (AutoSeq1.list_reverse_list_0 l its.toArray n (by rw [List.size_toArray]; omega)) ⟨e,?_⟩
 refine ⟨.non,_,I.lset (its':=its.reverse) hH e (by simp) r.reverse ?_,rfl,q⟩
 rw [List.length_reverse]
 omega
noncomputable def Zcc:R2:=λx y H Q=>∃ l b xs zs,x=.ref l/\y=.ref b/\H l=some (.lst xs)/\H b=some (.lst zs)/\xs.length+zs.length<=sizeLine/\∀ p,H p=none->Q (.ref p) (upd H p (.lst (xs++zs)))
theorem Zid:OpR X (binaryOp .Add) Zcc:=by
 intro pins s σ H x y v u Q I rx ry h
 obtain ⟨l,b,xs,zs,rfl,rfl,hH,hB,hz,q⟩:=h
 cases rx
 cases ry
 obtain ⟨z,its,n,r,hl,e⟩:=I.lstM hH
 obtain ⟨z2,its2,n2,r2,hl2,e2⟩:=I.lstM hB
 refine PySem.P.add_list e e2 ?_ (by rw [List.size_toArray,List.size_toArray]; omega)
 have ea:its.toArray++its2.toArray=(its++its2).toArray:=by simp
 rw [ea]
 exact ⟨.ref _,_,I.lnew (t':=s.toks) (r.append r2) (by rw [List.length_append]; omega),rfl,q _ I.fresh⟩
noncomputable def pW:R2:=λx y H Q=>∃ l k xs,x=.ref l/\y=.int k/\H l=some (.lst xs)/\-(2 ^ 63)<=k/\k < 2 ^ 63/\xs.length * k.toNat<=sizeLine /\
 ∀ p,H p=none->Q (.ref p) (upd H p (.lst (List.replicate k.toNat xs).flatten))
theorem ZiR {α:Type} (xs:List α) (k:Nat):(List.replicate k xs).flatten.length=k * xs.length:=by
 induction k with
 | zero=>simp
 | succ k ih=>rw [List.replicate_succ,List.flatten_cons,List.length_append,ih,Nat.succ_mul,Nat.add_comm]
theorem qj:OpR X (binaryOp .Mult) pW:=by
 intro pins s σ H x y v u Q I rx ry h
 obtain ⟨l,k,xs,rfl,rfl,hH,h1,h2,hz,q⟩:=h
 cases rx
 obtain ⟨t,rfl⟩:=ry
 obtain ⟨z,its,n,r,hl,e⟩:=I.lstM hH
 have hlen:its.toArray.size * k.toNat<=sizeLine:=by rw [List.size_toArray,<- hl]; exact hz
 have hcap:¬ its.toArray.size * k.toNat > (2 ^ 63 - 1) / 8:=by
  have:(sizeLine:Nat)<=(2 ^ 63 - 1) / 8:=by decide
  omega
 have hfit:¬ (!Builtin.List.listFitsIndex k)=true:=by
  rw [fitsIndex_both h1 h2]
  exact Bool.false_ne_true
 have hlong:¬ Builtin.List.listTooLong (its.toArray.size * k.toNat)=true:=by
  rw [ZcA hlen]
  exact Bool.false_ne_true
 have hnew:List.foldl (λx1 x2=>x1++x2) #[] (List.replicate (if its.toArray.isEmpty=true then 0 else k.toNat) its.toArray)=(List.replicate k.toNat its).flatten.toArray:=by
  have f0:∀ m:Nat,List.foldl (λx1 x2=>x1++x2) #[] (List.replicate m its.toArray)=(List.replicate m its).flatten.toArray:=λm=>by
   have:=Zdz its m []
   rw [List.nil_append] at this
   exact this
  rw [f0]
  cases its with
  | nil=>simp
  | cons a r'=>rw [if_neg (by simp)]
 refine wpAny_binaryOp_repeat_ref (T:="list") (U:="int") (by decide) ⟨_,e,rfl⟩ (λs'=>typeIs_int s' k t) noFill_list_mul F.fills_int_mul F.slot_int_rmul repeat_list F.slot_int_index.lookup
  (call_meets F.slot_int_rmul (typeIs_int s k t) F.entry_int_rmul (F.args_int_rmul_2 _ _) (int___rmul___int_list k t l its.toArray n)
   ⟨e,rfl,⟨_,e,rfl⟩,call_meets F.slot_list_mul ⟨_,e,rfl⟩ F.entry_list_mul (F.args_list_mul_2 _ _) (AutoListH.list___mul___list_int_3 l its.toArray n k t hfit hcap hlong) ⟨e,?_⟩⟩)
 rw [hnew]
 exact ⟨.ref _,_,I.lnew (t':=s.toks) (r.rep k.toNat) (by rw [ZiR,Nat.mul_comm]; exact hz),rfl,q _ I.fresh⟩
end
section
variable {prog:Program} {w:World} {A:Around} {E:Value->Shared->Prop} {s:Shared}
end
section
variable {X:Cx}
end
section
variable {κ:Type} [DecidableEq κ]
noncomputable def eN (kvs:List (κ×V)) (k:κ):Option V:=(kvs.find? λkv=>decide (kv.1=k)).map (·.2)
noncomputable def gi (kvs:List (κ×V)) (k:κ) (v:V):List (κ×V) :=
 if (kvs.any λkv=>decide (kv.1=k))=true then kvs.map (λkv=>if kv.1=k then (kv.1,v) else kv) else kvs++[(k,v)]
theorem oS {p:κ×V} {r:List (κ×V)} {k:κ} (e:p.1=k):eN (p::r) k=some p.2:=by simp [eN,List.find?_cons,e]
theorem Zar {p:κ×V} {r:List (κ×V)} {k:κ} (e:¬ p.1=k):eN (p::r) k=eN r k:=by simp [eN,List.find?_cons,e]
theorem Zc2 (kvs:List (κ×V)) (k:κ) (v:V):(gi kvs k v).length<=kvs.length+1:=by
 unfold gi
 split
 ·rw [List.length_map]; omega
 ·rw [List.length_append,List.length_cons,List.length_nil]; omega
theorem KV.val {kvs:List (κ×V)} {vs:List (κ×Value)} (r:KV kvs vs) (k:κ):RelO (eN kvs k) (valueAt vs k):=by
 unfold KV at r
 induction r with
 | nil=>exact True.intro
 | @cons p q ps qs h t ih =>
  obtain ⟨h1,h2⟩:=h
  by_cases e:p.1=k
  ·have e':q.1=k:=h1.symm.trans e
   have b:valueAt (q::qs) k=some q.2:=by simp [valueAt,List.find?_cons,e']
   rw [oS e,b]; exact h2
  ·have e':¬ q.1=k:=λz=>e (h1.trans z)
   have b:valueAt (q::qs) k=valueAt qs k:=by simp [valueAt,List.find?_cons,e']
   rw [Zar e,b]; exact ih
theorem KV.any {kvs:List (κ×V)} {vs:List (κ×Value)} (r:KV kvs vs) (k:κ):(kvs.any λkv=>decide (kv.1=k))=vs.any λkv=>decide (kv.1=k):=by
 unfold KV at r
 induction r with
 | nil=>rfl
 | cons h t ih=>rw [List.any_cons,List.any_cons,ih,h.1]
theorem KV.repl {kvs:List (κ×V)} {vs:List (κ×Value)} (r:KV kvs vs) (k:κ) {y:V} {u:Value} (ry:RelV y u) :
  KV (kvs.map λkv=>if kv.1=k then (kv.1,y) else kv) (vs.map λkv=>if kv.1=k then (kv.1,u) else kv):=by
 unfold KV at r ⊢
 induction r with
 | nil=>exact .nil
 | @cons p q ps qs h t ih =>
  rw [List.map_cons,List.map_cons]
  refine .cons ?_ ih
  obtain ⟨h1,h2⟩:=h
  by_cases e:p.1=k
  ·rw [if_pos e,if_pos (h1.symm.trans e)]; exact ⟨h1,ry⟩
  ·rw [if_neg e,if_neg (λz=>e (h1.trans z))]; exact ⟨h1,h2⟩
theorem KV.put {kvs:List (κ×V)} {vs:List (κ×Value)} (r:KV kvs vs) (k:κ) {y:V} {u:Value} (ry:RelV y u):KV (gi kvs k y) (stored vs k u):=by
 unfold gi stored
 rw [r.any k]
 by_cases e:(vs.any λkv=>decide (kv.1=k))=true
 ·rw [if_pos e,if_pos e]; exact r.repl k ry
 ·rw [if_neg e,if_neg e]; exact Paired.snoc r ⟨rfl,ry⟩
end
theorem Zde {P:Program} {w:World} {k:aZ} {u:Value} (r:RelV (kV k) u):(cU P w).is k u=true:=by
 cases k with
 | inl i=>obtain ⟨t,e⟩:=(show ∃ t,u=Value.int i t from r); subst e; exact ZcH P w i t
 | inr x=>obtain ⟨t,e⟩:=(show ∃ t,u=Value.str x t from r); subst e; exact Ziz P w x t
theorem Zdi {P:Program} {w:World}:∀ {ks:List aZ} {us:List Value},Vals (ks.map kV) us->ItemsAre (cU P w) ks us
 | [],_,r=>by rw [List.map_nil] at r; cases r; exact .nil
 | k::ks,_,r=>by
  rw [List.map_cons] at r
  cases r with
  | cons h t=>exact .cons (Zde h) (Zdi t)
noncomputable abbrev KT (H:Hp):List (List aZ×V)->List (List aZ×Addr×Value)->Prop:=Paired λp q=>p.1=q.1/\H q.2.1=some (.tup (p.1.map kV))/\RelV p.2 q.2.2
theorem KT.val {H:Hp} {kvs:List (List aZ×V)} {xs:List (List aZ×Addr×Value)} (r:KT H kvs xs) (k:List aZ):RelO (eN kvs k) ((atKey xs k).map (·.2)):=by
 induction r with
 | nil=>exact True.intro
 | @cons p q ps qs h t ih =>
  obtain ⟨h1,_,h2⟩:=h
  by_cases e:p.1=k
  ·have e':q.1=k:=h1.symm.trans e
   have b:atKey (q::qs) k=some q.2:=by simp [atKey,List.find?_cons,e']
   rw [oS e,b]; exact h2
  ·have e':¬ q.1=k:=λz=>e (h1.trans z)
   have b:atKey (q::qs) k=atKey qs k:=by simp [atKey,List.find?_cons,e']
   rw [Zar e,b]; exact ih
section
variable {P:Program} {w:World} {H:Hp} {h:Heap} {a:Addr}
theorem ZbQ {u:HO} (ok:HOk P w H h) (e:Rd H a u):ObjOk P w H h a u:=e.ok ok
theorem Zed {kvs:List (aZ×V)} (ok:HOk P w H h) (e:Rd H a (.dK kvs)):kvs.length<=sizeLine/\(a == sysModules)=false/\∃ vs,KV kvs vs/\h.DictOf (cU P w) a vs :=
 show ObjOk P w H h a (.dK kvs) from ZbQ ok e
theorem Zdc {ks:List aZ} (ok:HOk P w H h) (e:H a=some (.tup (ks.map kV))):(tupleKind (cU P w)).is h ks a:=by
 obtain ⟨_,its,r,o,h1,h2,n,h3⟩:=(show ObjOk P w H h a (.tup (ks.map kV)) from ok a _ e)
 exact ⟨o,its.toArray,n,h1,h2,h3,by simpa using Zdi r⟩
theorem Zd6 {kvs:List (List aZ×V)} (ok:HOk P w H h) (e:Rd H a (.dT kvs)):kvs.length<=sizeLine/\(a == sysModules)=false /\
  ∃ xs,KT H kvs xs/\h.DictOfH (tupleKind (cU P w)) a xs:=by
 obtain ⟨z,y,xs,r,o,es,ep,h1,h2,h3,h4,h5⟩:=(show ObjOk P w H h a (.dT kvs) from ZbQ ok e)
 refine ⟨z,y,xs,r,o,es,ep,h1,h2,h3,h4,λx hx=>?_,h5⟩
 have all:∀ {l:List (List aZ×V)} {m:List (List aZ×Addr×Value)},KT H l m->∀ x∈m,(tupleKind (cU P w)).is h x.1 x.2.1:=by
  intro l m q
  induction q with
  | nil=>intro x hx; exact nomatch hx
  | @cons p q ps qs hq t ih =>
   intro x hx
   rcases List.mem_cons.mp hx with e | hx
   ·subst e
    exact Zdc ok (by rw [<- hq.1]; exact hq.2.1)
   ·exact ih x hx
 exact all r x hx
end
noncomputable def su (H:Hp) (a:Addr) (y:V) (r:Option V):Prop :=
 (∃ kvs k,Rd H a (.dK kvs)/\y=kV k/\r=eN kvs k)\/∃ kvs k b,Rd H a (.dT kvs)/\y=.ref b/\H b=some (.tup (k.map kV))/\r=eN kvs k
section
variable {X:Cx} {pins:List (Addr×Obj)} {σ:St} {H:Hp} {s:Shared} {a:Addr} {y v:V} {u r:Value} {o:Option V} {A:Around} {E:Value->Shared->Prop}
theorem Inv.big (I:Inv X pins σ H s):sysModules < s.heap.objs.size:=by
 have h:mainGlobals < s.heap.objs.size:=(I.mod.glob.keeps I.bk).lt
 exact Nat.lt_trans (by decide) h
theorem ZmD {Q:Value->Shared->Prop} (hu:A.units+1 < cLine) (I:Inv X pins σ H s) (g:su H a y (some v)) (ry:RelV y u) (h:∀ w' s',Inv X pins σ H s'->RelV v w'->Q w' s') :
  wpAny (model X.prog X.w) A (getItem (.ref a) u) Q E s:=by
 rcases g with ⟨kvs,k,e,ey,l⟩ | ⟨kvs,k,b,e,ey,eb,l⟩
 ·subst ey
  obtain ⟨z,hd,vs,rel,dd⟩:=Zed I.hok e
  obtain ⟨w',hw,rw'⟩:=RelO.some_of (v:=v) (o:=valueAt vs k) (by rw [l]; exact rel.val k)
  exact wpAny_getItem_of (Zde ry) dd.mapOf hw (h w' _ (I.tok _) rw')
 ·subst ey
  cases (show u=Value.ref b from ry)
  obtain ⟨z,hd,xs,rel,dd⟩:=Zd6 I.hok e
  obtain ⟨w',hw,rw'⟩:=RelO.some_of (v:=v) (o:=(atKey xs k).map (·.2)) (by rw [l]; exact rel.val k)
  obtain ⟨p,hp,hp2⟩:=Option.map_eq_some_iff.mp hw
  refine wpAny_getItem_heap (tupleKind_room_in1 hu) (Zdc I.hok eb) dd hp ?_
  rw [hp2]
  exact h w' _ (I.tok _) rw'
end
section
variable {X:Cx} {pins:List (Addr×Obj)} {σ:St} {H:Hp} {s:Shared} {a:Addr} {kvs:List (aZ×V)} {k:aZ} {u:Value} {A:Around} {E:Value->Shared->Prop}
end
noncomputable def ZfC (i:Expr):Prop:=∀ ov iv,subscripted i false ov iv=operate [ov,iv] (getItem ov iv)
theorem Zgv {prog:Program} {w:World} {A:Around} {E:Value->Shared->Prop} {s:Shared} {env:Env} {value slice:Expr} {pos:Pos} {T id:String} {Q:Value->Shared->Prop}
  (hl:typeLookup (.type T) "__getitem__"=pure (some (.builtin id))) (hs:ZfC slice)
  (h:wpAny (model prog w) A (eval value env) (λo s₁=>wpAny (model prog w) A (eval slice env) (λi s₂=>s₂.TypeIs o T/\wpAny (model prog w) A (getItem o i) Q E s₂) E s₁) E s) :
  wpAny (model prog w) A (eval (.Subscript value slice pos) env) Q E s:=by
 refine Subscript_ (wpAny_mono h (λo s₁ h₁=>wpAny_mono h₁ (λi s₂ h₂=>?_) λ_ _ x=>x) λ_ _ x=>x)
 obtain ⟨hT,h₂⟩:=h₂
 unfold subscriptTail
 refine wpAny_bind ?_
 rw [getitemInPython_of_ne hT.not_modules]
 refine wpAny_bind (wpAny_specialOf hT hl ?_)
 have fin:wpAny (model prog w) A (subscripted slice false o i) (λr s₃=>wpAny (model prog w) A (letTemporaryGo value o r >>= λ_=>pure r) Q E s₃) E s₂:=by
  rw [hs o i]
  exact wpAny_operating (wpAny_mono h₂ (λr s₃ h₃=>wpAny_bind (wpAny_letTemporaryGo (wpAny_pure h₃))) λ_ _ x=>x)
 first
  | exact wpAny_pure (wpAny_bind fin)
  | exact wpAny_bind (wpAny_pure (wpAny_bind fin))
  | exact wpAny_bind fin
theorem Zmm {X:Cx} {pins:List (Addr×Obj)} {σ:St} {H:Hp} {s:Shared} {a:Addr} {y:V} {o:Option V} (I:Inv X pins σ H s) (g:su H a y o):s.TypeIs (.ref a) "dict":=by
 rcases g with ⟨kvs,k,e,_,_⟩ | ⟨kvs,k,b,e,_,_,_⟩
 ·obtain ⟨_,_,vs,_,dd⟩:=Zed I.hok e
  exact dd.typeIs
 ·obtain ⟨_,_,xs,_,dd⟩:=Zd6 I.hok e
  exact dd.typeIs
noncomputable def ZaG (td ty:TE):TE:=λσ H Q=>td σ H λx H1=>ty σ H1 λy H2=>∃ a v,x=.ref a/\su H2 a y (some v)/\Q v H2
section
variable {X:Cx} {o i e value:Expr} {pos pos' tpos:Pos} {td ty tv:TE}
theorem Zct (hu:X.A.units+1 < cLine) (ho:PE X o td) (hi:PE X i ty) (hs:ZfC i):PE X (.Subscript o i pos) (ZaG td ty):=by
 intro pins s σ H Q I h
 refine Zgv PySem.F.slot_dict_getitem.lookup hs (thn (ho pins s σ H _ I h) λu s1 ⟨x,H1,I1,rx,q1⟩=>thn (hi pins s1 σ H1 _ I1 q1) λiv s2 hz0=>?_)
 obtain ⟨y,H2,I2,ry,a,v,ex,g,q2⟩:=hz0
 subst ex
 obtain rfl:u=Value.ref a:=rx
 exact ⟨Zmm I2 g,ZmD hu I2 g ry λw' s3 I3 rw'=>⟨v,H2,I3,rw',q2⟩⟩
end
section
variable {X:Cx} {pos:Pos}
end
structure M1 (X:Cx) (o:Expr) (m:Str) (apos:Pos) (e:Expr) (cpos:Pos):Prop where
 base:attributeBase o m X.env (eval o X.env)=eval o X.env
 few:((backTo cpos (starEach [e] X.env)).all (λx=>!x.1) && (backToKw cpos (keywordEach [] X.env)).all (λx=>x.1.isSome)
  && decide (([e]:List Expr).length+([]:List Keyword).length+(if ([]:List Keyword).isEmpty then 0 else 1) < 30))=true
 line:(apos.endLine == cpos.line)=true
 trees:backTo cpos (starEach [e] X.env)=[(false,eval e X.env)]
structure M2 (X:Cx) (o:Expr) (m:Str) (apos:Pos) (e f:Expr) (cpos:Pos):Prop where
 base:attributeBase o m X.env (eval o X.env)=eval o X.env
 few:((backTo cpos (starEach [e,f] X.env)).all (λx=>!x.1) && (backToKw cpos (keywordEach [] X.env)).all (λx=>x.1.isSome)
  && decide (([e,f]:List Expr).length+([]:List Keyword).length+(if ([]:List Keyword).isEmpty then 0 else 1) < 30))=true
 line:(apos.endLine == cpos.line)=true
 trees:backTo cpos (starEach [e,f] X.env)=[(false,eval e X.env),(false,eval f X.env)]
section
variable {X:Cx} {pins:List (Addr×Obj)} {σ:St} {H:Hp} {s:Shared} {a:Addr} {y d:V} {u r:Value} {o:Option V} {A:Around} {E:Value->Shared->Prop}
end
section
variable {X:Cx} {o e f:Expr} {apos cpos:Pos} {td ty tx:TE}
end
section
variable {X:Cx} {pins:List (Addr×Obj)} {σ:St} {H:Hp} {s:Shared} {a:Addr} {kvs:List (aZ×V)} {A:Around} {E:Value->Shared->Prop}
end
section
variable {X:Cx} {pins:List (Addr×Obj)} {σ:St} {H:Hp} {s:Shared} {a:Addr} {y:V} {u:Value} {A:Around} {E:Value->Shared->Prop}
end
end L2
namespace Att
open PySem PySem.W PySem.Calls PyProof.Rows
theorem ints_of_wellAll {P:Params} {h:Heap}:∀ (ns:List Int) (vs:List Value),WellAll P h vs (ns.map WData.int)->IntsAre vs ns:=by
 intro ns
 induction ns with
 | nil =>
  intro vs w
  rw [List.map_nil] at w
  cases w
  exact .nil
 | cons n ns ih =>
  intro vs w
  rw [List.map_cons] at w
  cases w with
  | cons a b =>
   cases a
   exact .cons _ _ (ih _ b)
theorem script_of {l:OpenLaw} {n:Nat} (hn:l.most=some n) {P:Params} {h:Heap} {args:List WData} {vals:List Value}
  (hpre:l.row.toRowW.claim.pre args=true) (hwl:WellAll P h vals args) :
  ∃ a vs ns,vals=[Value.ref a]/\args=[WData.list (ns.map WData.int)]/\h.get? a=some { cls:=.type "list",data:=.seq vs.toArray }/\IntsAre vs ns/\ns.length<=n:=by
 have hsh:WShape.hasAll [] args [.list .int]=true:=(pre_splitW hpre).1
 have hc:l.pre.holds [] { args:=args }=true:=(pre_splitW hpre).2
 obtain ⟨d,r,rfl,h1,h2⟩:=hasAllW_cons hsh
 obtain rfl:=hasAllW_nil h2
 obtain ⟨xs,rfl,h3⟩:=hasW_list h1
 obtain ⟨ns,rfl⟩:=items_int h3
 have hlen:ns.length<=n:=by
  unfold OpenLaw.pre at hc
  have h4:(WTm.not (.lt (.lit (.int (n:Int))) (.len (.arg 0)))).holds [] { args:=[.list (ns.map .int)] }=true:=by
   have h4:=(holds_andW hc).1
   rw [hn] at h4
   exact h4
  have h5:=condW_of h4 (w_not (w_lt w_lit (w_len_list (w_arg rfl))))
  rw [List.length_map] at h5
  refine Nat.le_of_not_lt λq=>?_
  have q':(n:Int) < ((ns.length:Nat):Int):=by omega
  first
   | (rw [decide_eq_true q'] at h5; exact absurd h5 (by decide))
   | (simp at h5; omega)
 cases hwl with
 | cons w1 w2 =>
  cases w2
  cases w1 with
  | list ho hall=>exact ⟨_,_,ns,rfl,rfl,ho,ints_of_wellAll ns _ hall,hlen⟩
theorem post_true (l:OpenLaw) (args:List WData):l.row.toRowW.claim.post args (.bool true) args=true :=
 postW_of (r:=l.row.toRowW) (X:=(true == true))
  (show WShape.has [] (.bool true) .bool=true by first | rfl | decide | simp [WShape.has,WShape.arms,WShape.armsAll])
  (show (WTm.eq .res (.lit (.bool true))).value [] { args:=args,res:=some (.bool true),after:=args }=some (.bool (true == true)) from w_eq_bool (w_res rfl) w_lit) rfl
theorem attach_call {l:OpenLaw} {n:Nat} {q:Program} {loose:List Str} {XP:(Str->Option Value)->Heap->Prop} {YP:World->Heap->Prop} {d:DefRec}
  (hn:l.most=some n) (hdf:d.params.defaults=[])
  (call:∀ (w:World) (s₀ s₁:Shared) (mg mb:Str->Option Value) (fa:Addr) (o:Obj) (pm cd doc:Value) (a:Addr) (vs:List Value) (ns:List Int),
   Ground q loose [] XP w s₀ mg mb s₁.heap->YP w s₁.heap ->
   s₁.heap.get? fa=some o->o.data=.func (docDef d.name d.params d.body d.scope pm cd doc)->s₁.heap.CodeRec cd d.name->mg d.name=some (.ref fa) ->
   s₁.heap.get? a=some { cls:=.type "list",data:=.seq vs.toArray }->IntsAre vs ns->ns.length<=n->s₁.gens=#[] ->
   codeAny (model l.prog w) callerA (.call (.ref fa) ⟨[.ref a],[]⟩) (λr s'=>r=.ok (.ret (.bool true))/\OldK s₁.heap s'.heap/\s'.os=s₁.os/\AllBare s'.gens) s₁) :
  WalkO q loose XP YP l.row.toRowW d [] (λf vs=>PySem.call f vs):=by
 intro w s₀ s₁ mg mb G Y fa o pm cd doc dV kV ho hd hcd hD hmg hg args vals as hpre hlay hrd hwl hlo
 obtain rfl:dV=.none:=Dflts.none hD hdf
 obtain rfl:kV=.none:=Dflts.noKw hD
 obtain ⟨a,vs,ns,rfl,rfl,hobj,hints,hlen⟩:=script_of hn hpre hwl
 refine enter_call (codeAny_mono (call w s₀ s₁ mg mb fa o pm cd doc a vs ns G Y ho (fd_plain hd) hcd hmg hobj hints hlen hg) λr s' hq=>?_)
 obtain ⟨rfl,h2,h3,h4⟩:=hq
 exact ⟨.inl ⟨.bool true,.bool true,[],rfl,λ_=>rfl,.bool true,post_true l _,λ_=>⟨List.Pairwise.nil,λ_ hm=>(nomatch hm)⟩⟩,h2,h3,h4⟩
section
variable {prog:Program} {w:World} {A:Around} {E:Value->Shared->Prop} {s:Shared} {K:Frag}
end
end Att
namespace L2
open PySem PySem.Spec PyProof.Rows
theorem ZfT {vs:List Value} {ns:List Int} (h:IntsAre vs ns):Vals (ns.map V.int) vs:=by
 induction h with
 | nil=>exact .nil
 | cons n t h ih=>exact .cons ⟨t,rfl⟩ ih
noncomputable def Zon (H:Hp):Prop:=∀ b,H b=none\/∃ o xs,H b=some (.frz o (.lst xs))
noncomputable abbrev KOf {K:PySem.W.Frag} {h:Heap} (_:K.In h):PySem.W.Frag:=K
noncomputable def eZ (s:Stmt):Arguments:=match s with
 | .FunctionDef _ a _ _ _ _ _ _ _ _=>a
 | _=>{ posonlyargs:=[],args:=[],vararg:=none,kwonlyargs:=[],kw_defaults:=[],kwarg:=none,defaults:=[] }
noncomputable def db (s:Stmt):List Stmt:=match s with
 | .FunctionDef _ _ b _ _ _ _ _ _ _=>b
 | _=>[]
noncomputable def ap (s:Stmt):Scope:=match s with
 | .FunctionDef _ _ _ _ _ _ sc _ _ _=>sc
 | _=>{ kind:=.function,names:=[],isGenerator:=false,isCoroutine:=false }
noncomputable abbrev cJ:eJ:=λ_ _ _ _ _ _=>False
noncomputable abbrev E0:XK:=λ_ _ _=>False
theorem Zh2 {X:Cx}:sf cJ X E0:=λ_ _ _ _ _ _ _ h=>h.elim
structure Fun (K:PySem.W.Frag) (x qual:Str) (st:Stmt) (f:Addr) (fd:FuncData):Prop where
 ex:∃ (oc:Value) (od:Option Addr) (kV doc pm:Value) (an:Option Addr) (cdv ct:Value) (osl:Array (Option Value)),
  fd=PySem.W.fnOf x qual (eZ st) (db st) (ap st) .none kV doc pm an cdv ct/\K.lookup f=some ⟨oc,od,.func fd,osl⟩/\PySem.W.codeIn K cdv qual=true
 kp:PySem.W.keepIn K (.ref f)=true
section
variable {P:Program} {w:World} {K:PySem.W.Frag} {mg:Str->Option Value} {base:Heap}
theorem Fun.ok {x qual:Str} {st:Stmt} {f:Addr} {fd:FuncData} {N ps:List Str} {k:Nat} {sp:Sp} (F:Fun K x qual st f fd) (S:FnScope N ps (ap st)) (len:∀ vs H Q E,sp vs H Q E->vs.length=ps.length)
  (hbody:∀ (cdv:Value) (A:Around) (outer:List Env) (s:Shared) (H:Hp) (vs:List V) (Q:VK) (E:XK),Room k (A.deeper (envOfC qual (ap st) s.heap.objs.size f cdv))->sp vs H Q E ->
   ∃ t,PSs (eD cJ P w K mg base N qual (ap st) f cdv A outer s H E).nox (db st) t/\t { nx:=λ_ H'=>Q .non H',rt:=Q } (start N vs) H):FnOk P w K mg base cJ (k+1) f fd ps sp:=by
 obtain ⟨oc,od,kV,doc,pm,an,cdv,ct,osl,rfl,lk,hcd⟩:=F.ex
 refine ZjI lk hcd S len λA outer s H vs Q E hr hsp=>?_
 obtain ⟨t,h,q⟩:=hbody cdv A outer s H vs Q E hr hsp
 exact ⟨t,h.nox,q⟩
theorem Fun.binds {x qual:Str} {st:Stmt} {f:Addr} {fd:FuncData} {ps:List Str} (F:Fun K x qual st f fd)
  (h:∀ (kV doc pm:Value) (an:Option Addr) (cdv ct:Value) (us:List Value),us.length=ps.length->bindArgs (PySem.W.fnOf x qual (eZ st) (db st) (ap st) .none kV doc pm an cdv ct) ⟨us,[]⟩=pure (ps.zip us)):Binds K fd ps []:=by
 obtain ⟨oc,od,kV,doc,pm,an,cdv,ct,osl,rfl,lk,hcd⟩:=F.ex
 exact .all (h kV doc pm an cdv ct)
theorem Zdw {x qual:Str} {st:Stmt} {f:Addr} {oc:Value} {od an:Option Addr} {osl:Array (Option Value)} {kV doc pm cdv ct:Value} (l:K.lookup f=some ⟨oc,od,.func (PySem.W.fnOf x qual (eZ st) (db st) (ap st) .none kV doc pm an cdv ct),osl⟩)
  (c:PySem.W.codeIn K cdv qual=true) (k:PySem.W.keepIn K (.ref f)=true):Fun K x qual st f (PySem.W.fnOf x qual (eZ st) (db st) (ap st) .none kV doc pm an cdv ct):=⟨⟨oc,od,kV,doc,pm,an,cdv,ct,osl,rfl,l,c⟩,k⟩
end
theorem kT {A:Around} {k:Nat} (hr:Room k A):A.units+1 < cLine:=Nat.lt_of_le_of_lt (Nat.add_le_add_left (by decide:1<=64) _) hr.units
section
variable {X:Cx}
theorem pv (i:Nat) {x:Str} {pos:Pos} (hN:X.N[i]?=some x:=by rfl) (hv:jL X.env.scope x:=by first | exact Or.inl rfl | exact Or.inr (Or.inl rfl) | exact Or.inr (Or.inr rfl)) (hd:(x == ("__debug__":Str))=false:=by decide)
  (hcd:(x == ("__classdict__":Str))=false:=by decide):PE X (.Name x pos) (eh i):=ZhQ hN hv hd hcd
end
theorem nD {c A B:Prop} [Decidable c] (h1:c->A) (h2:¬ c->B):if c then A else B:=by
 by_cases h:c
 ·rw [if_pos h]
  exact h1 h
 ·rw [if_neg h]
  exact h2 h
noncomputable def Same (H H':Hp):Prop:=∀ b o,H b=some o->H' b=some o
theorem Same.refl (H:Hp):Same H H:=λ_ _ h=>h
theorem Same.free {H H':Hp} (e:Same H H') {l:Addr} (h:H' l=Option.none):H l=Option.none:=by
 cases q:H l with
 | none=>rfl
 | some o =>
  rw [e l o q] at h
  cases h
theorem Same.seq {K:PySem.W.Frag} {H H':Hp} {a:Addr} {xs:List V} (e:Same H H') (h:SqL K H a xs):SqL K H' a xs:=by
 rcases h with (h | ⟨o,h⟩) | h
 ·exact .inl (.inl (e _ _ h))
 ·exact .inl (.inr ⟨o,e _ _ h⟩)
 ·exact .inr h
structure Blk where
 cl:List (Str×Addr)
 C:Addr
 s:Shared
 H:Hp
 fp:List Addr
 pn:List (Addr×Obj)
noncomputable def aW (X:Cx) (N:List Str) (scope:Scope) (b:Blk):Cx where
 prog:=X.prog
 w:=X.w
 K:=X.K
 mg:=X.mg
 base:=X.base
 A:=X.A
 N:=N
 s₀:=b.s
 H₀:=b.H
 env:=compEnvC scope b.cl b.C X.env
 outer:=X.stack
 stack:=X.stack
 ex:=b.fp
 fn:=λx=>scope.names.lookup x == some .cell
 calm:=X.calm
 pn:=b.pn
 xe:=λ_ _=>False
noncomputable def bN (Nx ts:List Str) (ix:List Nat):List Str:=ts++ix.map λj=>(Nx[j]?).getD Str.empty
noncomputable def cN (n:Nat) (ix:List Nat) (σ:St):St:=List.replicate n none++ix.map λj=>(σ[j]?).getD none
structure BlkOk (Nx:List Str) (sc scope:Scope) (ix:List Nat):Prop where
 kind:scope.kind=.function
 cells:∀ y∈scope.names,y.2=.cell->scope.names.lookup y.1=some .cell
 locs:∀ y∈scope.names,y.2=.local->scope.names.lookup y.1=some .local
 frees:∀ y∈scope.names,y.2=.free->sc.names.lookup y.1=some .cell\/sc.names.lookup y.1=some .free
 caps:∀ j∈ix,j < Nx.length/\scope.names.lookup ((Nx[j]?).getD Str.empty)=some .free
theorem qV {env:Env} {f:Str×NameKind->List (Str×Addr)->Sem (ForInStep (List (Str×Addr)))}
  (h1:∀ n k r,k≠NameKind.free->f (n,k) r=pure (.yield r)) (h2:∀ n r c,env.cells.lookup n=some c->f (n,NameKind.free) r=pure (.yield ((n,c)::r))) :
  ∀ (names:List (Str×NameKind)) (acc:List (Str×Addr)),(∀ y∈names,y.2=.free->∃ c,env.cells.lookup y.1=some c)->(∀ x c,acc.lookup x=some c->env.cells.lookup x=some c) ->
   ∃ cl,forIn names acc f=pure cl/\(∀ x c,cl.lookup x=some c->env.cells.lookup x=some c)/\(∀ y∈names,y.2=.free->∃ c,cl.lookup y.1=some c)/\∀ x c,acc.lookup x=some c->∃ c',cl.lookup x=some c'
 | [],acc,_,ha=>⟨acc,rfl,ha,(λ_ h=>nomatch h),λx c h=>⟨c,h⟩⟩
 | (n,k)::names,acc,hn,ha=>by
  have hn':∀ y∈names,y.2=.free->∃ c,env.cells.lookup y.1=some c:=λy hy=>hn y (List.mem_cons_of_mem _ hy)
  by_cases hk:k=.free
  ·subst hk
   obtain ⟨c,hc⟩:=hn (n,.free) List.mem_cons_self rfl
   have ha':∀ x d,((n,c)::acc).lookup x=some d->env.cells.lookup x=some d:=λx d e=>by
    rw [List.lookup_cons] at e
    cases hx:x == n with
    | true =>
     rw [hx] at e
     have hxn:x=n:=by simpa using hx
     subst hxn
     cases e
     exact hc
    | false =>
     rw [hx] at e
     exact ha x d e
   obtain ⟨cl,e,p1,p2,p3⟩:=qV h1 h2 names ((n,c)::acc) hn' ha'
   refine ⟨cl,?_,p1,λy hy hf=>?_,λx d hx=>?_⟩
   ·rw [List.forIn_cons,h2 n acc c hc,pure_bind]
    exact e
   ·rcases List.mem_cons.mp hy with rfl | hy
    ·exact p3 n c (by simp)
    ·exact p2 y hy hf
   ·by_cases e1:x=n
    ·subst e1
     exact p3 x c (by simp)
    ·exact p3 x d (by rw [List.lookup_cons,beq_false_of_ne e1]; exact hx)
  ·obtain ⟨cl,e,p1,p2,p3⟩:=qV h1 h2 names acc hn' ha
   refine ⟨cl,?_,p1,λy hy hf=>?_,p3⟩
   ·rw [List.forIn_cons,h1 n k acc hk,pure_bind]
    exact e
   ·rcases List.mem_cons.mp hy with rfl | hy
    ·exact absurd hf hk
    ·exact p2 y hy hf
theorem jB {scope:Scope} {env:Env} (hn:∀ y∈scope.names,y.2=.free->∃ c,env.cells.lookup y.1=some c) :
  ∃ cl,closureFor scope env=pure cl/\(∀ x c,cl.lookup x=some c->env.cells.lookup x=some c)/\∀ y∈scope.names,y.2=.free->∃ c,cl.lookup y.1=some c:=by
 unfold closureFor
 have key:=qV (env:=env) (f:=λ(x:Str×NameKind) (r:List (Str×Addr))=>match x with
  | (name,kind)=>if (kind == NameKind.free)=true then (do let a <- cellOf env name; pure (ForInStep.yield ((name,a)::r))) else pure (ForInStep.yield r))
  (λn k r hk=>by
   have hb:(k == NameKind.free)=false:=by simpa using hk
   show (if (k == NameKind.free)=true then _ else _)=_
   rw [hb]
   rfl)
  (λn r c hc=>by
   show (do let a <- cellOf env n; pure (ForInStep.yield ((n,a)::r)))=_
   unfold cellOf
   rw [hc]
   rfl) scope.names [] hn (λx c h=>by simp at h)
 obtain ⟨cl,e,p1,p2,_⟩:=key
 refine ⟨cl,?_,p1,p2⟩
 show (forIn scope.names [] _ >>= λr=>pure r)=pure cl
 exact (congrArg (λt=>t >>= λr=>pure r) e).trans (pure_bind _ _)
section
variable {X:Cx} {pins:List (Addr×Obj)} {σ:St} {H:Hp} {s:Shared}
theorem ZbM {scope:Scope} {env:Env} {x:Str} (h:scope.names.lookup x=some .free):(relabel scope env).names.lookup x=some .cell\/(relabel scope env).names.lookup x=some .free:=by
 unfold relabel
 show List.lookup x (scope.names.map _)=_\/List.lookup x (scope.names.map _)=_
 generalize scope.names=l at h
 induction l with
 | nil=>simp at h
 | cons p r ih =>
  obtain ⟨n,k⟩:=p
  rw [List.map_cons]
  cases hx:x == n with
  | true =>
   rw [List.lookup_cons,hx] at h
   have hk:k=.free:=by simpa using h
   subst hk
   by_cases hc:(NameKind.free == NameKind.free && env.scope.kind == .function && env.kindOf n == some .cell)=true
   ·refine .inl ?_
    show List.lookup x ((if (NameKind.free == NameKind.free && env.scope.kind == .function && env.kindOf n == some .cell)=true then (n,NameKind.cell) else (n,NameKind.free))::_)=_
    rw [if_pos hc,List.lookup_cons,hx]
   ·refine .inr ?_
    show List.lookup x ((if (NameKind.free == NameKind.free && env.scope.kind == .function && env.kindOf n == some .cell)=true then (n,NameKind.cell) else (n,NameKind.free))::_)=_
    rw [if_neg hc,List.lookup_cons,hx]
  | false =>
   rw [List.lookup_cons,hx] at h
   have key:∀ q:Str×NameKind,(q=(n,NameKind.cell)\/q=(n,k))->∀ l',List.lookup x (q::l')=List.lookup x l':=λq hq l'=>by
    rcases hq with rfl | rfl <;> rw [List.lookup_cons,hx]
   have hq:(if (k == NameKind.free && env.scope.kind == .function && env.kindOf n == some .cell)=true then (n,NameKind.cell) else (n,k))=(n,NameKind.cell)\/(if (k == NameKind.free && env.scope.kind == .function && env.kindOf n == some .cell)=true then (n,NameKind.cell) else (n,k))=(n,k):=by
    split
    ·exact .inl rfl
    ·exact .inr rfl
   rcases ih h with z | z
   ·exact .inl ((key _ hq _).trans z)
   ·exact .inr ((key _ hq _).trans z)
theorem Zht {scope:Scope} {env:Env} {x:Str} (h:(relabel scope env).names.lookup x=some .cell\/(relabel scope env).names.lookup x=some .free):∃ y∈scope.names,y.1=x/\(y.2=.free\/y.2=.cell):=by
 unfold relabel at h
 have h':List.lookup x (scope.names.map λ(n,k)=>if (k == .free && env.scope.kind == .function && env.kindOf n == some .cell) then (n,NameKind.cell) else (n,k))=some .cell\/List.lookup x (scope.names.map λ(n,k)=>if (k == .free && env.scope.kind == .function && env.kindOf n == some .cell) then (n,NameKind.cell) else (n,k))=some .free:=h
 clear h
 generalize scope.names=l at h'
 induction l with
 | nil=>simp at h'
 | cons p r ih =>
  obtain ⟨n,k⟩:=p
  rw [List.map_cons] at h'
  cases hx:x == n with
  | true =>
   have hxn:x=n:=by simpa using hx
   by_cases hk:k=.free
   ·exact ⟨(n,k),List.mem_cons_self,hxn.symm,.inl hk⟩
   ·
    have hb:(k == NameKind.free)=false:=by simpa using hk
    have e:(if (k == NameKind.free && env.scope.kind == .function && env.kindOf n == some .cell)=true then (n,NameKind.cell) else (n,k))=(n,k):=by
     rw [hb]
     rfl
    have h2:List.lookup x ((n,k)::r.map λ(n,k)=>if (k == .free && env.scope.kind == .function && env.kindOf n == some .cell) then (n,NameKind.cell) else (n,k))=some .cell\/List.lookup x ((n,k)::r.map λ(n,k)=>if (k == .free && env.scope.kind == .function && env.kindOf n == some .cell) then (n,NameKind.cell) else (n,k))=some .free:=by
     rw [<- e]
     exact h'
    rw [List.lookup_cons,hx] at h2
    rcases h2 with z | z
    ·exact ⟨(n,k),List.mem_cons_self,hxn.symm,.inr (Option.some.inj z)⟩
    ·exact absurd (Option.some.inj z) hk
  | false =>
   have hq:∀ q:Str×NameKind,(q=(n,NameKind.cell)\/q=(n,k))->∀ l',List.lookup x (q::l')=List.lookup x l':=λq hq l'=>by
    rcases hq with rfl | rfl <;> rw [List.lookup_cons,hx]
   have hqq:(if (k == NameKind.free && env.scope.kind == .function && env.kindOf n == some .cell)=true then (n,NameKind.cell) else (n,k))=(n,NameKind.cell)\/(if (k == NameKind.free && env.scope.kind == .function && env.kindOf n == some .cell)=true then (n,NameKind.cell) else (n,k))=(n,k):=by
    split
    ·exact .inl rfl
    ·exact .inr rfl
   obtain ⟨y,hy,e⟩:=ih (by
    rcases h' with z | z
    ·exact .inl ((hq _ hqq _).symm.trans z)
    ·exact .inr ((hq _ hqq _).symm.trans z))
   exact ⟨y,List.mem_cons_of_mem _ hy,e⟩
theorem rq:∀ (names:List (Str×NameKind)) (h:Heap) (acc:List (Str×Addr)),
  (∀ x c,(cellsFrom h.objs.size names acc).lookup x=some c->acc.lookup x=some c\/(h.objs.size<=c/\(pushCells h names).IsCell c none/\(x,NameKind.cell)∈names)) /\
  (∀ x,((x,NameKind.cell)∈names\/∃ c,acc.lookup x=some c)->∃ c,(cellsFrom h.objs.size names acc).lookup x=some c) /\
  (∀ x c,(x,NameKind.cell)∈names->(cellsFrom h.objs.size names acc).lookup x=some c->h.objs.size<=c) /\
  ((∀ x c,acc.lookup x=some c->c < h.objs.size)->(∀ x y c,acc.lookup x=some c->acc.lookup y=some c->x=y)->∀ x y c,(cellsFrom h.objs.size names acc).lookup x=some c->(cellsFrom h.objs.size names acc).lookup y=some c->x=y):=by
 intro names
 induction names with
 | nil=>intro h acc; exact ⟨λx c e=>.inl e,λx e=>by rcases e with e | e; cases e; exact e,λx c e=>(by cases e),λ_ i=>i⟩
 | cons p r ih =>
  obtain ⟨name,kind⟩:=p
  intro h acc
  unfold cellsFrom pushCells
  by_cases hk:kind=.cell
  ·subst hk
   have hk':((NameKind.cell == NameKind.cell)=true):=rfl
   rw [if_pos hk',if_pos hk']
   have ih':=ih (h.push { cls:=.type "cell",data:=.cell none }) ((name,h.objs.size)::acc)
   rw [Heap.size_push] at ih'
   obtain ⟨i1,i2,i4,i3⟩:=ih'
   refine ⟨λx c e=>?_,λx e=>?_,λx c e1 e2=>?_,λhb hi=>i3 (λx c e=>?_) λx y c e1 e2=>?_⟩
   ·rcases i1 x c e with z | ⟨z1,z2,z3⟩
    ·rw [List.lookup_cons] at z
     cases hx:x == name with
     | true =>
      rw [hx] at z
      have hxn:x=name:=by simpa using hx
      cases z
      exact .inr ⟨Nat.le_refl _,⟨_,pushCells_keeps _ _ _ _ (Heap.get?_push_size _ rfl),rfl⟩,by rw [hxn]; exact List.mem_cons_self⟩
     | false=>rw [hx] at z; exact .inl z
    ·exact .inr ⟨by omega,z2,List.mem_cons_of_mem _ z3⟩
   ·refine i2 x ?_
    by_cases hx:x=name
    ·exact .inr ⟨h.objs.size,by rw [List.lookup_cons,hx]; simp⟩
    ·rcases e with e | ⟨c,e⟩
     ·rcases List.mem_cons.mp e with q | q
      ·exact absurd (congrArg Prod.fst q) hx
      ·exact .inl q
     ·exact .inr ⟨c,by rw [List.lookup_cons,beq_false_of_ne hx]; exact e⟩
   ·rcases i1 x c e2 with z | ⟨z,_,_⟩
    ·rw [List.lookup_cons] at z
     cases hx:x == name with
     | true=>rw [hx] at z; cases z; exact Nat.le_refl _
     | false =>
      have hxn:x≠name:=by simpa using hx
      rcases List.mem_cons.mp e1 with q | q
      ·exact absurd (congrArg Prod.fst q) hxn
      ·exact Nat.le_of_succ_le (i4 x c q e2)
    ·exact Nat.le_of_succ_le z
   ·rw [List.lookup_cons] at e
    cases hx:x == name with
    | true=>rw [hx] at e; cases e; exact Nat.lt_succ_self _
    | false=>rw [hx] at e; exact Nat.lt_succ_of_lt (hb x c e)
   ·rw [List.lookup_cons] at e1 e2
    cases hx:x == name with
    | true =>
     have hxn:x=name:=by simpa using hx
     rw [hx] at e1
     cases e1
     cases hy:y == name with
     | true =>
      have hyn:y=name:=by simpa using hy
      rw [hxn,hyn]
     | false=>rw [hy] at e2; exact absurd (hb y _ e2) (Nat.lt_irrefl _)
    | false =>
     rw [hx] at e1
     cases hy:y == name with
     | true=>rw [hy] at e2; cases e2; exact absurd (hb x _ e1) (Nat.lt_irrefl _)
     | false=>rw [hy] at e2; exact hi x y c e1 e2
  ·have hk':¬ ((kind == NameKind.cell)=true):=by simpa using hk
   rw [if_neg hk',if_neg hk']
   obtain ⟨i1,i2,i4,i3⟩:=ih h acc
   refine ⟨λx c e=>?_,λx e=>i2 x ?_,λx c e1 e2=>?_,i3⟩
   ·rcases i1 x c e with z | ⟨z1,z2,z3⟩
    ·exact .inl z
    ·exact .inr ⟨z1,z2,List.mem_cons_of_mem _ z3⟩
   ·rcases e with e | e
    ·rcases List.mem_cons.mp e with q | q
     ·exact absurd (congrArg Prod.snd q).symm hk
     ·exact .inl q
    ·exact .inr e
   ·rcases List.mem_cons.mp e1 with q | q
    ·exact absurd (congrArg Prod.snd q).symm hk
    ·exact i4 x c q e2
theorem oJ {M:Model} {A:Around} {E:Value->Shared->Prop} {s:Shared} {scope:Scope} {globals:Addr} {cl:List (Str×Addr)} {qual:Str} {outer:Env} {Q:Env->Shared->Prop}
  (h:Q { scope:=scope,locals:=s.heap.objs.size,globals:=globals,cells:=cellsFrom (s.heap.objs.size+1) scope.names cl,qual:=qual,func:=none,code:=outer.code,frame:=outer.frame,builtins:=outer.builtins } { s with heap:=pushCells (s.heap.push { cls:=.type "dict",data:=.dict #[] }) scope.names }) :
  wpAny M A (newFunctionEnv scope globals cl [] qual none .none (some outer)) Q E s:=by
 simp only [newFunctionEnv,Option.isSome_some,if_true]
 refine wpAny_bind (wpAny_alloc ?_)
 refine wpAny_bind (wpAny_layCells _ (λname kind cells=>by cases hkc:kind == NameKind.cell <;> simp [hkc]) _ _ _ _ ?_)
 rw [show ({ s with heap:=s.heap.push { cls:=.type "dict",data:=.dict #[] } }:Shared).heap.objs.size=s.heap.objs.size+1 from Heap.size_push ..]
 rw [List.forIn_nil]
 exact wpAny_bind (wpAny_pure (wpAny_pure h))
theorem ZnS {Nx ts:List Str} {ix:List Nat} {i:Nat} {x:Str} (h:(bN Nx ts ix)[i]?=some x) (hi:ts.length<=i):∃ j,ix[i - ts.length]?=some j/\x=(Nx[j]?).getD Str.empty:=by
 unfold bN at h
 rw [List.getElem?_append_right hi,List.getElem?_map] at h
 cases e:ix[i - ts.length]? with
 | none=>rw [e] at h; cases h
 | some j=>rw [e] at h; exact ⟨j,rfl,(Option.some.inj h).symm⟩
theorem qL {scope:Scope} {cl:List (Str×Addr)} {fp:List Addr} {C:Addr} {h3:Heap} {tk:Nat} {m:Str->Option Value} {Nx ts:List Str} {ix:List Nat}
  (I:Inv X pins σ H s) (hNx:X.N=Nx) (ok:BlkOk Nx X.env.scope scope ix) (cs1:∀ x c,cl.lookup x=some c->X.env.cells.lookup x=some c\/(C < c/\h3.IsCell c none/\(x,NameKind.cell)∈scope.names)) (csI:∀ x y c,cl.lookup x=some c->cl.lookup y=some c->x=y) (cl2:∀ y∈scope.names,(y.2=.free\/y.2=.cell)->∃ c,cl.lookup y.1=some c) (csA:∀ x c,(x,NameKind.cell)∈scope.names->cl.lookup x=some c->C<=c)
  (hf:∀ b∈fp,fm X pins H b) (hfs:∀ b∈fp,b < s.heap.objs.size) (hC:s.heap.objs.size<=C) (kp:∀ b o,s.heap.get? b=some o->h3.get? b=some o) (hns:h3.Ns C m) :
  Inv (aW X (bN Nx ts ix) scope ⟨cl,C,s,H,fp,X.pn++pins⟩) [] (cN ts.length ix σ) H { s with heap:=h3,toks:=tk }:=by
 have below:∀ {b:Addr},b < s.heap.objs.size->b≠C:=λhb=>Nat.ne_of_lt (Nat.lt_of_lt_of_le hb hC)
 have nstk:∀ b,b≠X.env.locals->b ∉ X.fs->b ∉ frs X.stack:=λb h1 h2 hb=>by
  rcases List.mem_cons.mp (I.stkSub b hb) with z | z
  ·exact h1 z
  ·exact h2 z
 refine ⟨⟨I.ok.mod,?_,I.ok.glob,I.ok.blt,hC,csI,λx hx=>?_,λx c hfn e=>Nat.le_trans hC (csA x c (PySem.mem_of_lookup (eq_of_beq hfn)) e),I.ok.hd,I.ok.frames,.inl rfl,λb hb=>⟨below (hfs b hb),λx c e=>by
  rcases cs1 x c e with z | ⟨z,_,_⟩
  ·exact (hf b hb).2.2.2.2.1 x c z
  ·exact Nat.ne_of_gt (Nat.lt_of_lt_of_le (hfs b hb) (Nat.le_trans hC (Nat.le_of_lt z)))⟩,I.bs,Nat.le_trans I.ok.bsz I.sz,λb o e hb=>?_,λb hb=>nstk b (hf b hb).2.1 (hf b hb).2.2.1,I.stack,I.stkFree⟩,
  rfl,I.bare,Un.kept kp,⟨m,hns,λi x v h1 h2 h3'=>?_⟩,λx c e=>?_,I.hok.fresh hC,λx c e=>by
  rcases cs1 x c e with z | ⟨z,_,_⟩
  ·exact I.freeC x c z
  ·exact I.hok.fresh (Nat.le_trans hC (Nat.le_of_lt z)),λp hp=>?_,I.hok.kept kp,?_⟩
 ·exact ok.kind
 ·have hx':(relabel scope X.env).names.lookup x=some .cell\/(relabel scope X.env).names.lookup x=some .free:=hx
  obtain ⟨y,hy,e1,e2⟩:=Zht hx'
  obtain ⟨c,hc⟩:=cl2 y hy e2
  exact ⟨c,by rw [<- e1]; exact hc⟩
 ·rcases (hf b hb).2.2.2.1 with z | z
  ·exact I.ok.noex b o e z
  ·exact absurd (Nat.lt_of_lt_of_le (Heap.lt_size e) (Nat.le_trans I.ok.bsz z)) (Nat.lt_irrefl _)
 ·have hi:ts.length<=i:=by
   rcases Nat.lt_or_ge i ts.length with z | z
   ·exfalso
    have h2':(cN ts.length ix σ)[i]?=some (some v):=h2
    unfold cN at h2'
    rw [List.getElem?_append_left (by simpa using z),List.getElem?_replicate] at h2'
    split at h2' <;> cases h2'
   ·exact z
  obtain ⟨j,hj,ex⟩:=ZnS h1 hi
  have h2':(cN ts.length ix σ)[i]?=some (some v):=h2
  unfold cN at h2'
  rw [List.getElem?_append_right (by simpa using hi),List.getElem?_map,List.length_replicate,hj] at h2'
  have hσ:σ[j]?=some (some v):=by
   have q:(σ[j]?).getD none=some v:=Option.some.inj h2'
   cases e:σ[j]? with
   | none=>rw [e] at q; cases q
   | some w=>rw [e] at q; exact congrArg some q
  obtain ⟨hjl,hfree⟩:=ok.caps j (List.mem_of_getElem? hj)
  have hNj:X.N[j]?=some x:=by
   rw [hNx,ex,List.getElem?_eq_getElem hjl]
   rfl
  rw [<- ex] at hfree
  obtain ⟨c,hc⟩:=cl2 (x,.free) (PySem.mem_of_lookup hfree) (.inl rfl)
  have cl1:X.env.cells.lookup x=some c:=by
   rcases cs1 x c hc with z | ⟨_,_,z⟩
   ·exact z
   ·have:=ok.cells _ z rfl
    rw [hfree] at this
    cases this
  have kx:=ok.frees (x,.free) (PySem.mem_of_lookup hfree) rfl
  obtain ⟨m0,hn0,hl0⟩:=I.loc
  obtain ⟨u,ru,look⟩:=hl0 j x v hNj hσ (by rcases kx with z | z; exact .inr (.inl z); exact .inr (.inr z))
  refine ⟨u,ru,.inr ⟨ZbM hfree,c,hc,?_⟩⟩
  rcases look with ⟨k1,_⟩ | ⟨_,c',hc',z⟩
  ·have k1':X.env.scope.names.lookup x=some .local:=k1
   rcases kx with z | z
   ·rw [k1'] at z; cases z
   ·rw [k1'] at z; cases z
  ·have e:=cl1
   rw [hc'] at e
   cases e
   obtain ⟨o,ho,hd⟩:=z
   exact ⟨o,kp _ _ ho,hd⟩
 ·rcases cs1 x c e with z | ⟨_,z,_⟩
  ·obtain ⟨v,o,ho,hd⟩:=I.cell x c z
   exact ⟨v,o,kp _ _ ho,hd⟩
  ·exact ⟨_,z⟩
 ·have hp':p∈X.pn++pins:=by simpa [aW] using hp
  obtain ⟨e,n,ne,nf,d⟩:=I.pin p hp'
  exact ⟨kp _ _ e,n,below (Heap.lt_size e),nstk _ ne nf,d⟩
 ·show (cN ts.length ix σ).length=(bN Nx ts ix).length
  unfold cN bN
  simp
theorem Inv.track {D:Addr} {ys:List V} {its:List Value} {n:Nat} (I:Inv X pins σ H s) (hD:H D=none) (ho:s.heap.get? D=some { cls:=.type "list",data:=.seq its.toArray n }) (r:Vals ys its) (hz:ys.length<=sizeLine)
  (hL:D≠X.env.locals) (hs0:X.s₀.heap.objs.size<=D) (hc:∀ x c,X.env.cells.lookup x=some c->c≠D) (hp:∀ p∈X.pn++pins,p.1≠D):Inv X pins σ (upd H D (.lst ys)) s:=by
 have ne:∀ {b:Addr} {o:HO},H b=some o->b≠D:=λe=>cw e hD
 refine I.step (g':=s.gens) (d':=s.drawn) (t':=s.toks) (h':=s.heap) (ch:=[D]) (λb hb=>?_) (λb o _ _ _ e _=>e) (λb o _ _ _ e _=>⟨o.slots,e⟩) (λb o hb e n=>?_) (λb o _ e=>⟨o,e⟩)
  (λb xs e=>by rw [az (ne e)]; exact e) (λb o u e=>by rw [az (ne e)]; exact e) (λb ps e=>⟨#[],by rw [az (ne e),e]; simp⟩) (λm hm=>hm) (λb u e=>?_) I.bare
 ·have e:b=D:=by simpa using hb
  subst e
  exact ⟨.inr hs0,hL,hc,hp⟩
 ·have hb':b≠D:=by simpa using hb
  rw [az hb']
  exact n
 ·by_cases hb:b=D
  ·subst hb
   rw [bT] at e
   cases e
   exact ⟨hz,its,n,r,ho⟩
  ·rw [az hb] at e
   exact (I.hok b u e).stay (λc v _ q=>q) (λc q=>by rw [az (ne q)]; exact q) (λc xs q=>by rw [az (ne q)]; exact q) λc ob xs _ q _=>by rw [az (ne q)]; exact q
end
theorem Zna {prog:Program} {w:World} {A:Around} {R:Result->Shared->Prop} {s:Shared} {elt target iter:Expr} {scope:Scope} {pos:Pos} {it acc:Value} {env:Env} (J:Nat->Shared->Prop)
  (step:∀ k s0,J k s0->wpAny (model prog w) A (pyNext it) (λgot s1=>match got with
   | none=>R (.ok .next) s1
   | some v=>wpAny (model prog w) A (letOwnedTupleGo target it v) (λ_ s2=>wpAny (model prog w) A (assign target env v) (λ_ s3=>wpAny (model prog w) A (eval elt env) (λy s4 =>
     wpAny (model prog w) A (call (.builtin "list.append") [acc,y]) (λ_ s5=>∃ j,j < k/\J j s5) (λ_ _=>False) s4) (λ_ _=>False) s3) (λ_ _=>False) s2) (λ_ _=>False) s1) (λ_ _=>False) s0)
  (k:Nat) (h:J k s):codeAny (model prog w) A (.compLoop (.ListComp elt [⟨target,iter,[],0⟩] scope pos) 0 it acc env) R s:=by
 refine codeAny_loop rfl J (λk0 s0 hJ=>?_) k h
 show wpAny _ _ ((compTurn (.ListComp elt [⟨target,iter,[],0⟩] scope pos) 0 it acc env).onRaise (λx=>do noteFrame x env; theTreesLotGoes x)) _ _ s0
 apply wpAny_noted
 rw [compTurn_list1]
 refine wpAny_bind (wpAny_standAt (wpAny_bind (wpAny_mono (step k0 s0 hJ) (λgot s1 h1=>?_) λ_ _ z=>z.elim)))
 cases got with
 | none=>exact wpAny_pure h1
 | some v =>
  refine wpAny_bind (wpAny_mono h1 (λ_ s2 h2=>?_) λ_ _ z=>z.elim)
  refine wpAny_bind (wpAny_mono h2 (λ_ s3 h3=>?_) λ_ _ z=>z.elim)
  refine wpAny_bind (wpAny_bind (wpAny_mono h3 (λy s4 h4=>?_) λ_ _ z=>z.elim))
  exact wpAny_bind (wpAny_mono h4 (λ_ s5 h5=>wpAny_pure (wpAny_pure ⟨rfl,h5⟩)) λ_ _ z=>z.elim)
noncomputable def iP (wi:TI) (n:Nat) (ix:List Nat) (g:Blk->TG) (te:Blk->TE):TE:=λσ H Q=>wi σ H λJ H1=>∀ b:Blk,∃ W:Nat->Nat->St->List V->Hp->Prop,(∃ m,W 0 m (cN n ix σ) [] H1)/\∀ i m τ ys H2,W i m τ ys H2 ->
 (J.stop i H2/\∀ p v H',H2 p=none->v=V.ref p->H'=upd H2 p (.lst ys)->Q v H') \/
 (J.go i H2/\ys.length < sizeLine/\∀ x H3,J.yld i H2 x H3->g b x τ H3 λτ2 H4=>te b τ2 H4 λy H5=>∃ m',m' < m/\W (i+1) m' τ2 (ys++[y]) H5)
section
variable {X:Cx} {pins:List (Addr×Obj)} {σ:St} {H:Hp} {s:Shared}
theorem Zc6 {elt target iter:Expr} {scope:Scope} {pos:Pos} {Nx ts:List Str} {ix:List Nat} {g:Blk->TG} {te:Blk->TE} {cl:List (Str×Addr)} {s2:Shared} {itv:Value} {R:Value->Addr->Result->Shared->Prop}
  {E:Value->Shared->Prop} {Q:VK}
  (hc:X.calm=true) (hg:∀ b,PG (aW X (bN Nx ts ix) scope b) target (g b)) (he:∀ b,PE (aW X (bN Nx ts ix) scope b) elt (te b))
  (hNx:X.N=Nx) (ok:BlkOk Nx X.env.scope scope ix) (cl1:∀ x c,cl.lookup x=some c->X.env.cells.lookup x=some c) (cl2:∀ y∈scope.names,y.2=.free->∃ c,cl.lookup y.1=some c)
  (h2:lx X pins σ target (λJ H1=>∀ b:Blk,∃ W:Nat->Nat->St->List V->Hp->Prop,(∃ m,W 0 m (cN ts.length ix σ) [] H1)/\∀ i m τ ys H2,W i m τ ys H2 ->
   (J.stop i H2/\∀ p v H',H2 p=none->v=V.ref p->H'=upd H2 p (.lst ys)->Q v H') \/
   (J.go i H2/\ys.length < sizeLine/\∀ x H3,J.yld i H2 x H3->g b x τ H3 λτ2 H4=>te b τ2 H4 λy H5=>∃ m',m' < m/\W (i+1) m' τ2 (ys++[y]) H5)) itv s2)
  (hR:∀ (D C:Addr) (H':Hp) (s':Shared) (v:V),Inv X pins σ H' s'->v=.ref D->Q v H'->(∃ m,s'.heap.Ns C m)->H' C=none->C≠X.env.locals->X.s₀.heap.objs.size<=C->(∀ x c,X.env.cells.lookup x=some c->c≠C)->(∀ p∈X.pn++pins,p.1≠C) ->
   R (.ref D) C (.ok .next) s') :
  wpAny (model X.prog X.w) X.A (newList []) (λacc s₃=>wpAny (model X.prog X.w) X.A (newFunctionEnv scope X.env.globals cl [] X.env.qual none .none (some X.env)) (λcenv s₄ =>
   codeAny (model X.prog X.w) X.A (.compStart (.ListComp elt [⟨target,iter,[],0⟩] scope pos) 0 itv acc { cenv with scope:=relabel scope X.env }) (R acc cenv.locals) s₄) E s₃) E s2:=by
 obtain ⟨it,fp,tn,J,H1,e,I2,T,st2,f2,q2⟩:=h2
 subst e
 refine wpAny_newObj_type (oJ ?_)
 dsimp only
 generalize hG:s2.heap.push { cls:=.type "list",dict:=none,data:=.seq ([]:List Value).toArray }=G
 have hGs:G.objs.size=s2.heap.objs.size+1:=by rw [<- hG,Heap.size_push]
 have hfs:∀ b∈fp,b < s2.heap.objs.size:=λb hb=>let ⟨o,e,_⟩:=T.obj _ _ st2 b hb; Heap.lt_size e
 have kpG:∀ b o,G.get? b=some o->(pushCells (G.push { cls:=.type "dict",data:=.dict #[] }) scope.names).get? b=some o:=λb o e=>pushCells_keeps _ _ _ _ (Heap.get?_push_of_some _ e)
 have hns3:(pushCells (G.push { cls:=.type "dict",data:=.dict #[] }) scope.names).Ns G.objs.size (λ_=>none):=(Heap.Ns.new G (.type "dict")).keeps (pushCells_keeps _ _)
 obtain ⟨sp1,sp2,sp4,sp3⟩:=rq scope.names (G.push { cls:=.type "dict",data:=.dict #[] }) cl
 rw [Heap.size_push] at sp1 sp2 sp3 sp4
 generalize hh3:pushCells (G.push { cls:=.type "dict",data:=.dict #[] }) scope.names=h3 at kpG hns3 sp1 ⊢
 have kp:∀ b o,s2.heap.get? b=some o->h3.get? b=some o:=λb o e=>kpG b o (by rw [<- hG]; exact Heap.get?_push_of_some _ e)
 have hD3:h3.get? s2.heap.objs.size=some { cls:=.type "list",data:=.seq ([]:List Value).toArray }:=kpG _ _ (by rw [<- hG]; exact Heap.get?_push_size _ rfl)
 have clB:∀ x c,cl.lookup x=some c->c < G.objs.size+1:=λx c e=>by
  obtain ⟨v,q⟩:=I2.cell x c (cl1 x c e)
  exact Nat.lt_succ_of_lt (Nat.lt_of_lt_of_le q.lt (by rw [hGs]; exact Nat.le_succ _))
 have csI:=sp3 clB λx y c e1 e2=>I2.ok.inj x y c (cl1 x c e1) (cl1 y c e2)
 have cs1:∀ x c,(cellsFrom (G.objs.size+1) scope.names cl).lookup x=some c->X.env.cells.lookup x=some c\/(G.objs.size < c/\h3.IsCell c none/\(x,NameKind.cell)∈scope.names):=λx c e=>by
  rcases sp1 x c e with z | ⟨z1,z2,z3⟩
  ·exact .inl (cl1 x c z)
  ·exact .inr ⟨by omega,z2,z3⟩
 have cs2:∀ y∈scope.names,(y.2=.free\/y.2=.cell)->∃ c,(cellsFrom (G.objs.size+1) scope.names cl).lookup y.1=some c:=λy hy hk=>by
  refine sp2 y.1 ?_
  rcases hk with z | z
  ·exact .inr (cl2 y hy z)
  ·exact .inl (by rw [<- z]; exact hy)
 have csA:∀ x c,(x,NameKind.cell)∈scope.names->(cellsFrom (G.objs.size+1) scope.names cl).lookup x=some c->G.objs.size<=c:=λx c e1 e2=>Nat.le_of_succ_le (sp4 x c e1 e2)
 generalize hcs:cellsFrom (G.objs.size+1) scope.names cl=cs at csI cs1 cs2 csA ⊢
 generalize hCe:G.objs.size=C at hns3 cs1 csA ⊢
 have hC:s2.heap.objs.size<=C:=by omega
 have hDC:s2.heap.objs.size≠C:=by omega
 let B:Blk:=⟨cs,C,s2,H1,fp,X.pn++pins⟩
 have I3:Inv (aW X (bN Nx ts ix) scope B) [] (cN ts.length ix σ) H1 { s2 with heap:=h3 }:=qL I2 hNx ok cs1 csI cs2 csA f2 hfs hC kp hns3
 have fC:H1 s2.heap.objs.size=none:=I2.hok.fresh (Nat.le_refl _)
 have cellIn:∀ x c,cs.lookup x=some c->c≠s2.heap.objs.size:=λx c e=>by
  rcases cs1 x c e with z | ⟨z,_,_⟩
  ·obtain ⟨v,q⟩:=I2.cell x c z
   exact Nat.ne_of_lt q.lt
  ·exact Nat.ne_of_gt (Nat.lt_of_le_of_lt hC z)
 have pinIn:∀ p∈X.pn++pins,p.1 < s2.heap.objs.size:=λp hp=>Heap.lt_size (I2.pin p hp).1
 have nofrs:s2.heap.objs.size ∉ frs X.stack:=λhb=>by
  rcases List.mem_cons.mp (I2.stkSub _ hb) with z | z
  ·exact absurd I2.lt (by rw [<- z]; exact Nat.lt_irrefl _)
  ·exact I2.nofs (Nat.le_refl _) z
 -- a state with the list at its place,pinned
 have pinD:∀ {τ:St} {H':Hp} {s':Shared} {ob:Obj},Inv (aW X (bN Nx ts ix) scope B) [] τ H' s'->s'.heap.get? s2.heap.objs.size=some ob->H' s2.heap.objs.size=none->(∀ v,ob.data≠.cell v)->Inv (aW X (bN Nx ts ix) scope B) [(s2.heap.objs.size,ob)] τ H' s' :=
  λ{τ H' s' ob} I' ho hn hd=>I'.pins_of λp hp=>by
   have e:p=(s2.heap.objs.size,ob):=by simpa using hp
   subst e
   exact ⟨ho,hn,hDC,nofrs,hd⟩
 obtain ⟨W,⟨m0,w0⟩,turn⟩:=q2 B
 have stat:∀ {H':Hp} {ob:Obj},(∀ b∈fp,H' b=none)->∀ b∈fp,fm (aW X (bN Nx ts ix) scope B) [(s2.heap.objs.size,ob)] H' b:=λ{H' ob} hn b hb=>by
  refine ⟨hn b hb,Nat.ne_of_lt (Nat.lt_of_lt_of_le (hfs b hb) hC),λz=>?_,.inl hb,λx c e=>by
   rcases cs1 x c e with z | ⟨z,_,_⟩
   ·exact (f2 b hb).2.2.2.2.1 x c z
   ·exact Nat.ne_of_gt (Nat.lt_of_lt_of_le (hfs b hb) (Nat.le_trans hC (Nat.le_of_lt z))),λp hp=>?_⟩
  ·rcases List.mem_cons.mp (I2.stkSub _ z) with q | q
   ·exact (f2 b hb).2.1 q
   ·exact (f2 b hb).2.2.1 q
  ·rcases List.mem_append.mp hp with z | z
   ·exact (f2 b hb).2.2.2.2.2 p z
   ·have e:p=(s2.heap.objs.size,ob):=by simpa using z
    subst e
    exact Nat.ne_of_gt (hfs b hb)
 have loop:∀ s4:Shared,s4={ s2 with heap:=h3 } ->
   codeAny (model X.prog X.w) X.A (.compLoop (.ListComp elt [⟨target,iter,[],0⟩] scope pos) 0 (.ref it) (.ref s2.heap.objs.size) (compEnvC scope cs C X.env)) (R (.ref s2.heap.objs.size) C) s4:=by
  rintro s4 rfl
  refine Zna (λk s'=>∃ i τ ys its n H',Inv (aW X (bN Nx ts ix) scope B) [(s2.heap.objs.size,({ cls:=.type "list",data:=.seq (List.toArray its) n }:Obj))] τ H' s'/\tn i s'.heap/\(∀ b∈fp,H' b=none)/\Vals ys its/\ys.length<=sizeLine/\W i k τ ys H') ?_ m0
   ⟨0,_,[],[],_,H1,pinD I3 hD3 fC (λv z=>by cases z),T.keep _ _ _ st2 λb hb o e=>kp b o e,λb hb=>(f2 b hb).1,.nil,Nat.zero_le _,w0⟩
  rintro k s5 ⟨i,τ,ys,its,n,H5,I5,st5,fr5,rv,hz,w5⟩
  rcases turn i k τ ys H5 w5 with ⟨stop,qn⟩ | ⟨go,hlt,step⟩
  ·refine thn (T.done (aW X (bN Nx ts ix) scope B) rfl rfl rfl hc i _ s5 τ H5 _ I5 (stat fr5) st5 stop) λgot s6 hz0=>?_
   obtain ⟨hr,I6⟩:=hz0
   subst hr
   obtain ⟨ho,hn,_,_,_⟩:=I6.pin (s2.heap.objs.size,({ cls:=.type "list",data:=.seq (List.toArray its) n }:Obj)) (List.mem_append_right _ (by simp))
   have I7:Inv X pins σ H5 s6:=I2.call' (ch:=fp) (H':=H5) (by exact I6.os) I6.base I6.hok I6.bare λb hb=>⟨(f2 b hb).2.2.2.1,(f2 b hb).2.1,(f2 b hb).2.2.2.2.1,(f2 b hb).2.2.2.2.2⟩
   have hs0:X.s₀.heap.objs.size<=s2.heap.objs.size:=I2.sz
   have I8:=I7.track hn ho rv hz (Nat.ne_of_gt I2.lt) hs0 (λx c e z=>by
    obtain ⟨v,q⟩:=I2.cell x c e
    exact absurd q.lt (by rw [z]; exact Nat.lt_irrefl _)) (λp hp=>Nat.ne_of_lt (pinIn p hp))
   obtain ⟨m6,hm6,_⟩:=I6.loc
   refine hR _ C _ s6 _ I8 rfl (qn _ _ _ hn rfl rfl) ⟨m6,hm6⟩ ?_ (λz=>?_) (Nat.le_trans hs0 hC) (λx c e z=>?_) λp hp=>Nat.ne_of_lt (Nat.lt_of_lt_of_le (pinIn p hp) hC)
   ·rw [az (Ne.symm hDC)]
    exact I6.free
   ·exact absurd (Nat.lt_of_lt_of_le I2.lt hC) (by rw [z]; exact Nat.lt_irrefl _)
   ·obtain ⟨v,q⟩:=I2.cell x c e
    exact absurd (Nat.lt_of_lt_of_le q.lt hC) (by rw [z]; exact Nat.lt_irrefl _)
  ·refine thn (T.item (aW X (bN Nx ts ix) scope B) rfl rfl rfl hc i _ s5 τ H5 _ I5 (stat fr5) st5 go) λgot s6 hz0=>?_
   obtain ⟨u,hr,h6⟩:=hz0
   subst hr
   refine thn h6 λ_ s7 hz0=>?_
   obtain ⟨x,H7,I7,r7,y7,st7,fr7⟩:=hz0
   have I7':=I7.pinned (stat fr7) (T.obj _ _ st7)
   refine thn (hg B _ s7 τ H7 x u _ I7' r7 (step x H7 y7)) λ_ s8 hz0=>?_
   obtain ⟨τ8,H8,I8,q8⟩:=hz0
   refine thn (he B _ s8 τ8 H8 _ I8 q8) λy s9 hz0=>?_
   obtain ⟨vy,H9,I9,r9,m',hm',w9⟩:=hz0
   obtain ⟨ho,hn,_,_,_⟩:=I9.pin (s2.heap.objs.size,({ cls:=.type "list",data:=.seq (List.toArray its) n }:Obj)) (List.mem_append_right _ (List.mem_append_left _ (by simp)))
   have lenv:=rv.length
   refine wpAny_list_append_plain (l:=s2.heap.objs.size) ⟨n,ho⟩ (λh' hpl hsb=>?_) (by rw [List.size_toArray]; omega)
   obtain ⟨n',ho'⟩:=hpl
   have eobj:(its.toArray.push y)=List.toArray (its++[y]):=by simp
   rw [eobj] at ho'
   have I9':Inv (aW X (bN Nx ts ix) scope B) [] τ8 H9 s9:=I9.pins_of λp hp=>absurd hp (by simp)
   have I10:Inv (aW X (bN Nx ts ix) scope B) [] τ8 H9 { s9 with heap:=h' }:=I9'.turned (it:=s2.heap.objs.size) (t':=s9.toks) (λb o hb e=>(hsb.2 b hb).trans e) hn hDC (.inr (Nat.le_refl _)) cellIn (λp hp=>by
    have hp':p∈(X.pn++pins)++[]:=hp
    rw [List.append_nil] at hp'
    exact Nat.ne_of_lt (pinIn p hp'))
   refine ⟨m',hm',i+1,τ8,ys++[vy],its++[y],n',H9,pinD I10 ho' hn (λv z=>by cases z),?_,λb hb=>?_,rv.append (.cons r9 .nil),by rw [List.length_append]; show ys.length+1<=_; omega,w9⟩
   ·refine T.keep _ _ _ st7 λb hb o e=>?_
    have q:=(I9.pin (b,o) (List.mem_append_right _ (List.mem_append_right _ (fQ hb e)))).1
    exact (hsb.2 b (Nat.ne_of_lt (hfs b hb))).trans q
   ·obtain ⟨o,e,d⟩:=T.obj _ _ st7 b hb
    exact (I9.pin (b,o) (List.mem_append_right _ (List.mem_append_right _ (fQ hb e)))).2.1
 exact codeAny_compStart_list (loop _ rfl) (T.self X.A 0 _ _ _ (T.keep _ _ _ st2 λb hb o e=>kp b o e) (loop _ rfl))
theorem gq {elt target iter:Expr} {scope:Scope} {pos:Pos} {wi:TI} {g:Blk->TG} {te:Blk->TE} (Nx:List Str) (ts:List Str) (ix:List Nat)
  (hc:X.calm=true) (hi:PI X target iter wi) (hg:∀ b,PG (aW X (bN Nx ts ix) scope b) target (g b)) (he:∀ b,PE (aW X (bN Nx ts ix) scope b) elt (te b))
  (hNx:X.N=Nx) (ok:BlkOk Nx X.env.scope scope ix) (hs:∀ x,foldedSetIterable iter X.env x=pure x:=by intro _; rfl) :
  PE X (.ListComp elt [⟨target,iter,[],0⟩] scope pos) (iP wi ts.length ix g te):=by
 intro pins s σ H Q I h
 obtain ⟨cl,hcl,cl1,cl2⟩:=jB (scope:=scope) (env:=X.env) λy hy hf=>I.ok.has y.1 (ok.frees y hy hf)
 rw [eval_ListComp]
 refine wpAny_comprehension_free (use:=none) rfl hs hcl ok.kind ok.locs (thn (hi pins s σ H _ I h) λv s1 h1=>thn h1 λitv s2 h2=>?_)
 refine Zc6 (R:=λacc C=>compPost (model X.prog X.w) X.A X.xe none (EP X pins σ Q) acc C) hc hg he hNx ok cl1 cl2 h2 ?_
 rintro D C H' s' v I' rfl q ⟨m,hm⟩ hn hL h0 hcl' hp
 exact ⟨m,hm,λh' hsb=>⟨.ref D,H',I'.turned (it:=C) (t':=s'.toks) (λb o hb e=>(hsb.2 b hb).trans e) hn hL (.inr h0) hcl' hp,rfl,q⟩⟩
theorem qd {elt target iter:Expr} {scope:Scope} {pos pos' spos:Pos} {wi:TI} {g:Blk->TG} {te:Blk->TE} {i:Nat} {x:Str} (Nx:List Str) (ts:List Str) (ix:List Nat)
  (hc:X.calm=true) (hN:X.N.Nodup) (hix:X.N[i]?=some x) (hx:X.env.scope.names.lookup x=some .local) (hi:PI X target iter wi) (hg:∀ b,PG (aW X (bN Nx ts ix) scope b) target (g b)) (he:∀ b,PE (aW X (bN Nx ts ix) scope b) elt (te b))
  (hNx:X.N=Nx) (ok:BlkOk Nx X.env.scope scope ix) (hsw:swapsWith (.ListComp elt [⟨target,iter,[],0⟩] scope pos) (some (.Name x pos')) spos.line X.env=pure true) (hs:∀ x,foldedSetIterable iter X.env x=pure x:=by intro _; rfl) :
  PS X (.Assign [.Name x pos'] (.ListComp elt [⟨target,iter,[],0⟩] scope pos) spos) (eu (iP wi ts.length ix g te) (eX i)):=by
 intro pins s σ H D0 I h
 obtain ⟨cl,hcl,cl1,cl2⟩:=jB (scope:=scope) (env:=X.env) λy hy hf=>I.ok.has y.1 (ok.frees y hy hf)
 rw [exec_Assign_Name_used _ _ _ _ hsw]
 refine wpAny_bind (wpAny_standAt (wpAny_bind ?_))
 show wpAny _ X.A (do let _ <- comprehension (.ListComp elt [⟨target,iter,[],0⟩] scope pos) scope X.env _ (newList []) false (eval iter X.env) (some (assign (.Name x pos') X.env))) _ _ s
 refine wpAny_bind (thn (wpAny_comprehension_free (use:=some (assign (.Name x pos') X.env)) (Q:=λ_ s'=>SP X pins D0 .next s') rfl hs hcl ok.kind ok.locs (thn (hi pins s σ H _ I h) λv s1 h1=>thn h1 λitv s2 h2=>?_)) λ_ s' hq=>wpAny_pure (wpAny_pure hq))
 refine Zc6 (R:=λacc C=>compPost (model X.prog X.w) X.A X.xe (some (assign (.Name x pos') X.env)) (λ_ s'=>SP X pins D0 .next s') acc C) (Q:=λx H1=>eX i x σ H1 D0.nx) hc hg he hNx ok cl1 cl2 h2 ?_
 rintro D C H' s' v I' rfl q ⟨m,hm⟩ hn hL h0 hcl' hp
 show wpAny _ X.A (assign (.Name x pos') X.env (.ref D)) _ _ _
 refine wpAny_assign_Name (o9 I' hN hix (.inl hx) (show RelV (.ref D) (.ref D) from rfl) (λs'' I'' hch=>?_) (.inr hx))
 obtain ⟨a,hsb,ha⟩:=hch
 have haC:C≠a:=by
  rcases ha with z | z
  ·rw [z]; exact hL
  ·exact λe=>hcl' _ _ z e.symm
 exact ⟨m,hm.sameBut hsb haC,λh'' hs''=>⟨_,H',I''.turned (it:=C) (t':=s''.toks) (λb o hb e=>(hs''.2 b hb).trans e) hn hL (.inr h0) hcl' hp,q⟩⟩
end
theorem Zhs {scope:Scope} {env:Env} {x:Str} (h:scope.names.lookup x=some .cell\/scope.names.lookup x=some .free):(relabel scope env).names.lookup x=some .cell\/(relabel scope env).names.lookup x=some .free:=by
 rcases h with h | h
 ·refine .inl ?_
  unfold relabel
  show List.lookup x (scope.names.map _)=_
  generalize scope.names=l at h
  induction l with
  | nil=>simp at h
  | cons p r ih =>
   obtain ⟨n,k⟩:=p
   rw [List.map_cons]
   show List.lookup x ((if (k == NameKind.free && env.scope.kind == .function && env.kindOf n == some .cell)=true then (n,NameKind.cell) else (n,k))::_)=_
   cases hx:x == n with
   | true =>
    rw [List.lookup_cons,hx] at h
    have hk:k=.cell:=by simpa using h
    subst hk
    rw [if_neg (by rw [show (NameKind.cell == NameKind.free)=false from rfl]; simp),List.lookup_cons,hx]
   | false =>
    rw [List.lookup_cons,hx] at h
    split <;> rw [List.lookup_cons,hx] <;> exact ih h
 ·exact ZbM h
theorem BlkOk.nest {Nx:List Str} {sc scope:Scope} {env:Env} {ix:List Nat} (h:BlkOk Nx sc scope ix):BlkOk Nx (relabel sc env) scope ix :=
 ⟨h.kind,h.cells,h.locs,λy hy z=>Zhs (h.frees y hy z),h.caps⟩
mutual
/-- the value bears the datum -/
inductive Dn (H:Hp):V->PyData->Prop
 | non:Dn H .non .none
 | bl (b:Bool):Dn H (.bl b) (.bool b)
 | int (i:Int):Dn H (.int i) (.int i)
 | str (x:Str):Dn H (.str x) (.str x)
 | tup {a:Addr} {xs:List V} {ds:List PyData}:H a=some (.tup xs)->DnAll H xs ds->Dn H (.ref a) (.tuple ds)
 | lst {a:Addr} {xs:List V} {ds:List PyData}:H a=some (.lst xs)->DnAll H xs ds->Dn H (.ref a) (.list ds)
 | dct {a:Addr} {ks:List (aZ×V)} {ds:List PyData}:Rd H a (.dK ks)->DnAll H (ks.map (·.2)) ds->Dn H (.ref a) (.dict ((ks.map λk=>match k.1 with | .inl i=>PyData.int i | .inr x=>PyData.str x).zip ds))
inductive DnAll (H:Hp):List V->List PyData->Prop
 | nil:DnAll H [] []
 | cons {v:V} {vs:List V} {d:PyData} {ds:List PyData}:Dn H v d->DnAll H vs ds->DnAll H (v::vs) (d::ds)
end
mutual
theorem Dn.mono {H H':Hp} (e:∀ b o,H b=some o->H' b=some o):∀ {v:V} {d:PyData},Dn H v d->Dn H' v d
 | _,_,.non=>.non
 | _,_,.bl b=>.bl b
 | _,_,.int i=>.int i
 | _,_,.str x=>.str x
 | _,_,.tup h r=>.tup (e _ _ h) (DnAll.mono e r)
 | _,_,.lst h r=>.lst (e _ _ h) (DnAll.mono e r)
 | _,_,.dct h r=>.dct (h.imp (e _ _) λ⟨o,h⟩=>⟨o,e _ _ h⟩) (DnAll.mono e r)
theorem DnAll.mono {H H':Hp} (e:∀ b o,H b=some o->H' b=some o):∀ {vs:List V} {ds:List PyData},DnAll H vs ds->DnAll H' vs ds
 | _,_,.nil=>.nil
 | _,_,.cons r t=>.cons (Dn.mono e r) (DnAll.mono e t)
end
theorem DnAll.ints {H:Hp}:∀ ns:List Int,DnAll H (ns.map V.int) (ns.map PyData.int)
 | []=>.nil
 | n::ns=>.cons (.int n) (DnAll.ints ns)
theorem DnAll.length {H:Hp} {vs:List V} {ds:List PyData} (h:DnAll H vs ds):vs.length=ds.length:=by
 induction vs generalizing ds with
 | nil=>cases h; rfl
 | cons v vs ih=>cases h with | cons r t=>exact congrArg (·+1) (ih t)
theorem DnAll.append {H:Hp} {vs ws:List V} {ds es:List PyData} (h:DnAll H vs ds) (s:DnAll H ws es):DnAll H (vs++ws) (ds++es):=by
 induction vs generalizing ds with
 | nil=>cases h; exact s
 | cons v vs ih=>cases h with | cons r t=>exact .cons r (ih t)
mutual
/-- data without dicts -/
theorem Dn.reads {P:Program} {w:World} {H:Hp} {h:Heap} (ok:HOk P w H h):∀ {v:V} {d:PyData} {u:Value},Dn H v d->d.hasDict=false->RelV v u->∃ as,Reads h u d as
 | _,_,_,.non,_,r=>by cases r; exact ⟨_,.none⟩
 | _,_,_,.bl b,_,r=>by cases r; exact ⟨_,.bool b⟩
 | _,_,_,.int i,_,r=>by obtain ⟨t,rfl⟩:=r; exact ⟨_,.int i t⟩
 | _,_,_,.str x,_,r=>by obtain ⟨t,rfl⟩:=r; exact ⟨_,.str x t⟩
 | _,_,_,.tup e rs,hd,r=>by
  cases r
  obtain ⟨z,its,rv,o,h1,h2,n,h3⟩:=ok _ _ e
  obtain ⟨as,q⟩:=DnAll.reads ok rs (by simpa [PyData.hasDict] using hd) rv
  exact ⟨_,.tuple h1 h2 h3 (by simpa using q)⟩
 | _,_,_,.lst e rs,hd,r=>by
  cases r
  obtain ⟨z,its,n,rv,h1⟩:=ok _ _ e
  obtain ⟨as,q⟩:=DnAll.reads ok rs (by simpa [PyData.hasDict] using hd) rv
  exact ⟨_,.list h1 rfl rfl (by simpa using q)⟩
 | _,_,_,.dct e rs,hd,r=>by simp [PyData.hasDict] at hd
theorem DnAll.reads {P:Program} {w:World} {H:Hp} {h:Heap} (ok:HOk P w H h):∀ {vs:List V} {ds:List PyData} {us:List Value},DnAll H vs ds->PyData.hasDictAll ds=false->Vals vs us->∃ as,ReadsAll h us ds as
 | _,_,_,.nil,_,r=>by cases r; exact ⟨_,.nil⟩
 | _,_,_,.cons p t,hd,r=>by
  cases r with
  | cons r1 r2 =>
   simp only [PyData.hasDictAll,Bool.or_eq_false_iff] at hd
   obtain ⟨as,q⟩:=Dn.reads ok p hd.1 r1
   obtain ⟨bs,q2⟩:=DnAll.reads ok t hd.2 r2
   exact ⟨_,.cons q q2⟩
end
section
variable {X:Cx}
theorem nU {k:Nat} (hr:Room k X.A):dO X (.builtin "repr") (λxs H Q=>∃ v d,xs=[v]/\Dn H v d/\d.hasDict=false/\d.showable=true/\d.depth<=32/\d.shown.length<=sizeLine/\Q (.str d.shown) H):=by
 intro pins s σ H xs us Q I r h
 obtain ⟨v,d,rfl,hd,hn,hs,hdp,hz,q⟩:=h
 obtain ⟨u,rfl,ru⟩:=fq r
 have hun:=hr.units
 have viaRef:∀ {a:Addr} {as:List Addr},Reads s.heap (.ref a) d as->wpAny (model X.prog X.w) X.A (call (.builtin "repr") [.ref a]) (EP X pins σ Q) X.xe s:=λ{a as} rd =>
  repr_of_reads' rd hs (PyData.noDict_hsm hn) hr.gd (by omega) (λ_ _ e=>e) (λh' u' tk hk=>⟨.str d.shown,H,I.kept hk,⟨_,rfl⟩,q⟩) hz
 obtain ⟨as,rd⟩:=Dn.reads I.hok hd hn ru
 cases rd with
 | none=>exact PySem.P.repr_of_none ⟨.str "None",H,I.tok _,⟨_,rfl⟩,q⟩
 | bool b=>exact PySem.P.repr_of_bool ⟨.str (if b then "True" else "False"),H,I.tok _,⟨_,rfl⟩,q⟩
 | int i t=>exact PySem.P.repr_of_int (by simpa [PyData.showable] using hs) ⟨.str (toString i),H,I.tok _,⟨_,rfl⟩,q⟩
 | str x t=>exact PySem.P.repr_of_str ⟨.str (reprText x),H,I.tok _,⟨_,rfl⟩,q⟩ hz
 | list h1 h2 h3 h4=>exact viaRef (.list h1 h2 h3 h4)
 | tuple h1 h2 h3 h4=>exact viaRef (.tuple h1 h2 h3 h4)
 | dict h1 h2 h3 h4 h5=>simp [PyData.hasDict] at hn
theorem Zh9 {k:Nat} (hr:Room k X.A):OpR X (compareOp .Eq) (λx y H Q=>∃ d e,Dn H x d/\Dn H y e/\SeqAt.shaped d=true/\SeqAt.shaped e=true/\Q (.bl (PyData.eqv d e)) H):=by
 intro pins s σ H x y v u Q I rx ry h
 obtain ⟨d,e,hd,he,sd,se,q⟩:=h
 obtain ⟨as,r1⟩:=Dn.reads I.hok hd (PyData.hasDict_of_canLay _ (SeqAt.canLay_of_shaped sd)) rx
 obtain ⟨bs,r2⟩:=Dn.reads I.hok he (PyData.hasDict_of_canLay _ (SeqAt.canLay_of_shaped se)) ry
 exact SeqAt.compareEq_shaped r1 r2 sd se hr.units ⟨.bl _,H,I,rfl,q⟩
theorem Zh5 {k:Nat} (hr:Room k X.A):OpR X (compareOp .NotEq) (λx y H Q=>∃ d e,Dn H x d/\Dn H y e/\SeqAt.shaped d=true/\SeqAt.shaped e=true/\Q (.bl (!PyData.eqv d e)) H):=by
 intro pins s σ H x y v u Q I rx ry h
 obtain ⟨d,e,hd,he,sd,se,q⟩:=h
 obtain ⟨as,r1⟩:=Dn.reads I.hok hd (PyData.hasDict_of_canLay _ (SeqAt.canLay_of_shaped sd)) rx
 obtain ⟨bs,r2⟩:=Dn.reads I.hok he (PyData.hasDict_of_canLay _ (SeqAt.canLay_of_shaped se)) ry
 exact SeqAt.compareNe_shaped r1 r2 sd se hr.units ⟨.bl _,H,I,rfl,q⟩
theorem Znj:dO X (.type "range") (λxs H Q=>∃ i j:Int,xs=[.int i,.int j]/\∀ p,H p=none->Q (.ref p) (upd H p (.rng i j))):=by
 intro pins s σ H xs us Q I r h
 obtain ⟨i,j,rfl,q⟩:=h
 cases r with
 | cons r1 rr =>
  cases rr with
  | cons r2 rr =>
   cases rr
   obtain ⟨t,rfl⟩:=r1
   obtain ⟨u,rfl⟩:=r2
   refine call_range_2 ?_
   exact ⟨.ref s.heap.objs.size,_,I.laid (t':=s.toks+1) (λb o e=>Heap.get?_push_of_some _ e) (Nat.le_refl _) (show ObjOk X.prog X.w _ _ _ (.rng i j) from ⟨t,u,s.toks,Heap.get?_push_size _ rfl⟩),rfl,q _ (I.hok.fresh (Nat.le_refl _))⟩
end
structure Def (K:PySem.W.Frag) (mg:Str->Option Value) (x:Str) (st:Stmt) (ps:List Str):Prop where
 ex:∃ f fd,Fun K x x st f fd/\mg x=some (.ref f)/\Binds K fd ps []
structure Callee (P:Program) (w:World) (K:PySem.W.Frag) (mg:Str->Option Value) (base:Heap) (x:Str) (k:Nat) (ps:List Str) (sp:Sp):Prop where
 ex:∃ f fd,FnOk P w K mg base cJ k f fd ps sp/\mg x=some (.ref f)/\PySem.W.keepIn K (.ref f)=true/\Binds K fd ps []
section
variable {P:Program} {w:World} {K:PySem.W.Frag} {mg:Str->Option Value} {base:Heap}
theorem Def.ok {x:Str} {st:Stmt} {N ps:List Str} {k:Nat} {sp:Sp} (D:Def K mg x st ps) (S:FnScope N ps (ap st)) (len:∀ vs H Q E,sp vs H Q E->vs.length=ps.length)
  (hbody:∀ (f:Addr) (cdv:Value) (A:Around) (outer:List Env) (s:Shared) (H:Hp) (vs:List V) (Q:VK) (E:XK),Room k (A.deeper (envOfC x (ap st) s.heap.objs.size f cdv))->sp vs H Q E ->
   ∃ t,PSs (eD cJ P w K mg base N x (ap st) f cdv A outer s H E).nox (db st) t/\t { nx:=λ_ H'=>Q .non H',rt:=Q } (start N vs) H):Callee P w K mg base x (k+1) ps sp:=by
 obtain ⟨f,fd,F,hm,hb⟩:=D.ex
 exact ⟨f,fd,F.ok S len λcdv A outer s H vs Q E hr h=>hbody f cdv A outer s H vs Q E hr h,hm,F.kp,hb⟩
theorem Zmn {x:Str} {st:Stmt} {ps:List Str} {h:Heap} {f:Addr} {oc:Value} {od an:Option Addr} {osl:Array (Option Value)} {kV doc pm cdv ct:Value} (X:K.In h) (G:h.Ns mainGlobals mg)
  (a:PySem.W.nsIn K mainGlobals x=some (some (.ref f))) (l:K.lookup f=some ⟨oc,od,.func (PySem.W.fnOf x x (eZ st) (db st) (ap st) .none kV doc pm an cdv ct),osl⟩)
  (c:PySem.W.codeIn K cdv x=true) (k:PySem.W.keepIn K (.ref f)=true)
  (hb:∀ (kV doc pm:Value) (an:Option Addr) (cdv ct:Value) (us:List Value),us.length=ps.length->bindArgs (PySem.W.fnOf x x (eZ st) (db st) (ap st) .none kV doc pm an cdv ct) ⟨us,[]⟩=pure (ps.zip us)):Def K mg x st ps:=by
 have F:=Zdw (st:=st) l c k
 exact ⟨f,_,F,PySem.W.mg_of X G a,F.binds hb⟩
end
section
variable {X:Cx} {x:Str} {k:Nat} {ps:List Str} {sp:Sp} {e:Expr} {es:List Expr} {t:TA} {p pos:Pos}
theorem ki (C:Callee X.prog X.w X.K X.mg X.base x k ps sp) (hr:Room k X.A) (hg:Gl X x) (ha:PA X (e::es) t) (hdb:(x == ("__debug__":Str))=false:=by decide)
  (he:starEach (e::es) X.env=(false,eval e X.env)::starEach es X.env:=by rfl) (hpl:(backTo pos (starEach es X.env)).any (·.1)=false:=by rfl):PE X (.Call (.Name x p) (e::es) [] pos) (oY sp [] E0 t):=by
 obtain ⟨f,fd,F,hm,hk,hb⟩:=C.ex
 exact ZhY F hr hg hm hk hb .nil Zh2 ha hdb he hpl
theorem ZhV {i:Int} (hg:Gl X x) (h:∃ t,X.mg x=some (.int i t)) (hd:(x == ("__debug__":Str))=false:=by decide):PE X (.Name x pos) (tC (.int i)):=by
 obtain ⟨t,e⟩:=h
 exact ZhU hg e ⟨t,rfl⟩ hd
end
noncomputable def Zgo (t:TS):TS:=λD σ H=>∃ J:St->Hp->Prop,t { D with nx:=J } σ H/\∀ σ' H',J σ' H'->D.nx σ' H'
noncomputable def Zgn (t:TT):TT:=λσ H Q=>∃ J:Bool->Hp->Prop,t σ H J/\∀ b H',J b H'->Q b H'
section
variable {X:Cx} {st:Stmt} {e:Expr}
theorem PS.join {t:TS} (h:PS X st t):PS X st (Zgo t):=by
 rintro pins s σ H D I ⟨J,q,hJ⟩
 refine thn (h pins s σ H _ I q) λf s' z=>?_
 cases f with
 | next=>obtain ⟨σ',H',I',q'⟩:=z; exact ⟨σ',H',I',hJ _ _ q'⟩
 | brk=>exact z
 | cont=>exact z
 | ret u=>exact z
theorem PT.join {t:TT} (h:PT X e t):PT X e (Zgn t):=by
 rintro pins s σ H Q I ⟨J,q,hJ⟩
 refine thn (h pins s σ H _ I q) λb s' ⟨H',I',q'⟩=>⟨H',I',hJ _ _ q'⟩
end
section
variable {H:Hp} {p c:Addr} {a l b:Int}
end
noncomputable def Kept (p:Addr) (H H':Hp):Prop:=∀ b o,H b=some o->b≠p->H' b=some o
theorem Kept.refl {p:Addr} {H:Hp}:Kept p H H:=λ_ _ h _=>h
theorem Kept.pen {p:Addr} {H H':Hp} {o:HO} (a:Kept p H H'):Kept p H (upd H' p o):=λc u h n=>by
 rw [az n]
 exact a c u h n
theorem Same.new {q:Addr} {H H':Hp} {o:HO} (a:Same H H') (hq:H' q=none):Same H (upd H' q o):=λc u h=>by
 have e:=a c u h
 rw [az (cw e hq)]
 exact e
section
variable {prog:Program} {w:World} {A:Around} {E:Value->Shared->Prop} {s:Shared} {r:Addr} {a b c:Int} {t u v:Tok} {n:Nat}
end
section
variable {X:Cx}
theorem Zip:fillsNumberSlot (.type "tuple") "mul"=pure false :=
 PySem.fillsNumberSlot_seq (id:="tuple.__mul__") (r:=some (.builtin "tuple.__rmul__")) PySem.F.slot_tuple_mul.lookup (by decide +kernel) PySem.F.slot_tuple_rmul.lookup (by decide +kernel)
theorem Zhq:seqRepeat? (.type "tuple")=pure (some (.builtin "tuple.__mul__")):=by
 unfold seqRepeat?
 rw [PySem.seqSlot_of (T:="tuple") (name:="__mul__") (id:="tuple.__mul__") PySem.F.slot_tuple_mul.lookup (by decide +kernel),PySem.seqSlot_of (T:="tuple") (name:="__rmul__") (id:="tuple.__rmul__") PySem.F.slot_tuple_rmul.lookup (by decide +kernel)]; rfl
theorem Zho (x:Int) (t:Tok) (l:Addr) (items:Array Value) (n:Nat) (dd:Option Addr) (sl:Array (Option Value)) :
  Meets (Builtin.«int.__rmul__» ⟨[.int x t,.ref l],[]⟩) (λ_ R s=>s.heap.get? l=some { cls:=.type "tuple",dict:=dd,data:=.seq items n,slots:=sl }/\R (.ok (.ret Value.notImplemented)) s):=by
 refine .of_wp λprog w A R s h=>?_
 obtain ⟨hp,g,d,tk,os⟩:=s
 obtain ⟨hl,h⟩:=h
 wp_walk
 exact ⟨_,rfl,h⟩
theorem Ziw (x:Int) (t:Tok) (l:Addr) (items:Array Value) (n:Nat) (dd:Option Addr) (sl:Array (Option Value)) (h1:1 < x) (h2:x<=1000) (h3:items.isEmpty=false) (h4:items.size<=1000) :
  Meets (Builtin.«tuple.__mul__» ⟨[.ref l,.int x t],[]⟩) (λ_ R s=>s.heap.get? l=some { cls:=.type "tuple",dict:=dd,data:=.seq items n,slots:=sl } /\
   R (.ok (.ret (.ref s.heap.objs.size))) { s with heap:=s.heap.push { cls:=.type "tuple",data:=.seq ((List.replicate x.toNat items).foldl (·++·) #[]) } }):=by
 refine .of_wp λprog w A R s h=>?_
 obtain ⟨hp,g,d,tk,os⟩:=s
 obtain ⟨hl,h⟩:=h
 have hp0:0<=(items.size:Int) * x:=Int.mul_nonneg (by omega) (by omega)
 have hp1:(items.size:Int) * x<=1000 * 1000:=Int.mul_le_mul (by omega) h2 (by omega) (by omega)
 have hne:items.size≠0:=λe=>by simp [Array.isEmpty,e] at h3
 wp_walk
 refine wpAny_ite_split (λz=>absurd z (by simp; omega)) (λ_=>?_)
 refine wpAny_bind ?_
 unfold Builtin.Tuple.tupleItemsOf
 refine wpAny_bind (wpAny_seqItems hl rfl (wpAny_pure ?_))
 refine wpAny_ite_split (λz=>absurd z (by rw [h3]; simp; omega)) (λ_=>?_)
 refine wpAny_ite_split (λz=>absurd z (by rw [h3]; simp; omega)) (λ_=>?_)
 refine wpAny_ite_split (λz=>absurd z (by omega)) (λ_=>?_)
 refine wpAny_ite_split (λz=>absurd z (by unfold Builtin.Tuple.tupleTooMany; rw [sizeLine_eq]; simp; omega)) (λ_=>?_)
 unfold Builtin.Tuple.tupleExact
 have hlen:∀ k:Nat,((List.replicate k items).foldl (·++·) #[]).size=k * items.size:=λk=>by
  have key:∀ (k:Nat) (acc:Array Value),((List.replicate k items).foldl (·++·) acc).size=acc.size+k * items.size:=by
   intro k
   induction k with
   | zero=>intro acc; simp
   | succ k ih =>
    intro acc
    rw [List.replicate_succ,List.foldl_cons,ih,Array.size_append,Nat.succ_mul]
    omega
  simpa using key k #[]
 refine wpAny_bind (wpAny_newObj_type (wpAny_pure ⟨_,rfl,h⟩) ?_)
 show ((List.replicate x.toNat items).foldl (·++·) #[]).size<=sizeLine
 rw [hlen,sizeLine_eq]
 have hx:x.toNat<=1000:=by omega
 exact Nat.le_trans (Nat.mul_le_mul hx h4) (by decide)
noncomputable def ZbY (K:PySem.W.Frag):R2:=λx y H Q=>∃ a k xs,x=.ref a/\y=.int k/\SqT K H a xs/\1 < k/\k<=1000/\xs≠[]/\xs.length<=1000/\∀ p,H p=none->Q (.ref p) (upd H p (.tup (List.replicate k.toNat xs).flatten))
theorem Zaq {xs:List V} {us:List Value} (r:Vals xs us):∀ k:Nat,Vals (List.replicate k xs).flatten (List.replicate k us).flatten
 | 0=>.nil
 | k+1=>by
  rw [List.replicate_succ,List.replicate_succ,List.flatten_cons,List.flatten_cons]
  exact r.append (Zaq r k)
theorem Zh4:OpR X (binaryOp .Mult) (ZbY X.K):=by
 intro pins s σ H x y v u Q I rx ry h
 obtain ⟨a,k,xs,rfl,rfl,hq,h1,h2,hne,hl,q⟩:=h
 cases rx
 obtain ⟨t,rfl⟩:=ry
 obtain ⟨its,rv,p,hz⟩:=I.tuple hq
 obtain ⟨o,ho,hc,n,hd⟩:=p
 obtain ⟨oc,od,odd,osl⟩:=o
 have hc':oc=.type "tuple":=hc
 have hd':odd=.seq its.toArray n:=hd
 subst hc' hd'
 have hlen:=rv.length
 have hemp:its.toArray.isEmpty=false:=by
  cases its with
  | nil=>cases rv; exact absurd rfl hne
  | cons i r=>rfl
 have efl:(List.replicate k.toNat its.toArray).foldl (·++·) #[]=(List.replicate k.toNat its).flatten.toArray:=by
  have key:∀ (k:Nat) (acc:Array Value),(List.replicate k its.toArray).foldl (·++·) acc=acc++(List.replicate k its).flatten.toArray:=by
   intro k
   induction k with
   | zero=>intro acc; simp
   | succ k ih =>
    intro acc
    rw [List.replicate_succ,List.foldl_cons,ih,List.replicate_succ,List.flatten_cons]
    simp
  simpa using key k.toNat #[]
 refine wpAny_binaryOp_repeat_ref (T:="tuple") (U:="int") (by decide) ⟨_,ho,rfl⟩ (λs'=>typeIs_int s' k t) Zip PySem.F.fills_int_mul PySem.F.slot_int_rmul Zhq PySem.F.slot_int_index.lookup ?_
 refine call_meets PySem.F.slot_int_rmul (typeIs_int s k t) PySem.F.entry_int_rmul (PySem.F.args_int_rmul_2 _ _) (Zho k t a its.toArray n od osl) ⟨ho,rfl,⟨_,ho,rfl⟩,?_⟩
 refine call_meets PySem.F.slot_tuple_mul ⟨_,ho,rfl⟩ PySem.F.entry_tuple_mul (PySem.F.args_tuple_mul_2 _ _) (Ziw k t a its.toArray n od osl h1 h2 hemp (by rw [List.size_toArray]; omega)) ⟨ho,?_⟩
 rw [efl]
 have hzz:(List.replicate k.toNat xs).flatten.length<=sizeLine:=by
  have hx:k.toNat<=1000:=by omega
  have e:(List.replicate k.toNat xs).flatten.length=k.toNat * xs.length:=by simp
  rw [e,sizeLine_eq]
  exact Nat.le_trans (Nat.mul_le_mul hx hl) (by decide)
 exact ⟨.ref s.heap.objs.size,_,I.laid (t':=s.toks) (λb o e=>Heap.get?_push_of_some _ e) (Nat.le_refl _) (show ObjOk X.prog X.w _ _ _ (.tup (List.replicate k.toNat xs).flatten) from ⟨hzz,_,Zaq rv k.toNat,IsTup.new _ _⟩),rfl,q _ (I.hok.fresh (Nat.le_refl _))⟩
end
theorem ZcW {n:Nat} (h:n < 2 ^ 1900):n.log2 < 1900:=by
 by_cases h0:n=0
 ·rw [h0]; decide
 ·exact (Nat.log2_lt h0).mpr h
theorem ZgP {i:Int} (h:i.natAbs < 2 ^ 1900):(PyData.int i).shown.length<=1901:=by
 have e:=int_text_length_le (k:=1900) (by decide) (ZcW h)
 have q:(Str.ofString (toString i)).length<=1901:=by rw [PySem.ofString_length]; exact e
 simpa [PyData.shown] using q
theorem Za2:∀ (ns:List Int),(∀ n∈ns,n.natAbs < 2 ^ 1900)->((PyData.shownAll (ns.map PyData.int)).map (·.length)).sum<=ns.length * 1901/\(PyData.shownAll (ns.map PyData.int)).length=ns.length
 | [],_=>⟨by simp [PyData.shownAll],rfl⟩
 | n::r,h=>by
  obtain ⟨h1,h2⟩:=Za2 r λx hx=>h x (List.mem_cons_of_mem _ hx)
  have h3:=ZgP (h n List.mem_cons_self)
  rw [List.map_cons,PyData.shownAll,List.map_cons,List.sum_cons,List.length_cons,List.length_cons,h2,Nat.succ_mul]
  exact ⟨by omega,rfl⟩
theorem Za3:∀ (ns:List Int),(∀ n∈ns,n.natAbs < 2 ^ 1900)->PyData.showableAll (ns.map PyData.int)=true
 | [],_=>rfl
 | n::r,h=>by
  rw [List.map_cons,PyData.showableAll,Za3 r λx hx=>h x (List.mem_cons_of_mem _ hx),Bool.and_true]
  have q:=ZcW (h n List.mem_cons_self)
  simp only [PyData.showable,decide_eq_true_eq]
  omega
noncomputable def aB (lo:Int) (n:Nat):List Int:=(List.range n).map λ(k:Nat)=>lo+(k:Int)
theorem gh (lo:Int) (n:Nat):(aB lo n).length=n:=by
 unfold aB
 rw [List.length_map,List.length_range]
theorem ZbS {lo x:Int} {n:Nat} (h:x∈aB lo n):lo<=x/\x < lo+n:=by
 unfold aB at h
 obtain ⟨k,hk,rfl⟩:=List.mem_map.mp h
 have:=List.mem_range.mp hk
 omega
noncomputable def CMulG (i j:Int):Prop:=i.natAbs < 2 ^ 8000/\j.natAbs < 2 ^ 8000
noncomputable def ZfI (i j:Int):Prop:=j≠0/\j.natAbs < 2 ^ 8000
theorem ZeW {x:Int} (h:x.natAbs < 2 ^ 8000):Builtin.Int.intBits x<=8000:=by
 unfold Builtin.Int.intBits
 split
 ·exact Nat.zero_le _
 ·rename_i hx
  have h0:x.natAbs≠0:=by
   intro z
   have e:x=0:=Int.natAbs_eq_zero.mp z
   rw [e] at hx
   exact hx rfl
  exact (Nat.log2_lt h0).mpr h
theorem CMulG.ok {i j:Int} (h:CMulG i j):IntMulOk i j:=by
 have h1:=ZeW h.1
 have h2:=ZeW h.2
 unfold IntMulOk
 have e:Builtin.Int.intTooBig ((Builtin.Int.intBits i+Builtin.Int.intBits j:Nat):Int)=false:=by
  unfold Builtin.Int.intTooBig
  refine decide_eq_false ?_
  have hb:((16000:Nat):Int)<=(bitsLine:Int):=by decide
  omega
 intro z
 rw [Bool.and_eq_true] at z
 have z2:Builtin.Int.intTooBig ((Builtin.Int.intBits i+Builtin.Int.intBits j:Nat):Int)=true:=z.2
 rw [e] at z2
 cases z2
section
variable {X:Cx}
theorem Zh7:OpR X (binaryOp .Mult) (rI CMulG λi j=>.int (i * j)):=gS λ_ _ _ _ _ _ _ hc q=>mul_int q hc.ok
theorem kw:OpR X (binaryOp .FloorDiv) (rI ZfI λi j=>.int (i.fdiv j)):=gS λi j _ _ _ _ _ hc q=>by
 refine floordiv_int hc.1 q (.inl (PyProof.noPylong_of_log2 ?_))
 by_cases h0:j.natAbs=0
 ·exact absurd (Int.natAbs_eq_zero.mp h0) hc.1
 ·exact Nat.lt_trans ((Nat.log2_lt h0).mpr hc.2) (by decide)
end
end L2
namespace Gc
noncomputable def g7 (a b:Int):Int:=((Nat.gcd a.natAbs b.natAbs:Nat):Int)
noncomputable def den (t b:Int):Int:=if b < 0 then -g7 t b else g7 t b
noncomputable def eV (t b:Int):Int:=t.fdiv (den t b)
noncomputable def dS (t b:Int):Int:=b.fdiv (den t b)
theorem qU {t b:Int} (h:b≠0):0 < Nat.gcd t.natAbs b.natAbs:=Nat.gcd_pos_of_pos_right _ (by omega)
theorem rf {t b:Int} (h:b≠0):den t b≠0:=by
 have:=qU (t:=t) h
 unfold den g7
 split <;> omega
theorem rg (t b:Int):(den t b).natAbs=Nat.gcd t.natAbs b.natAbs:=by
 unfold den g7
 split <;> omega
theorem ZcU {t b:Int} (h:b≠0):t=den t b * eV t b/\b=den t b * dS t b/\0 < dS t b/\Nat.gcd (eV t b).natAbs (dS t b).natAbs=1:=by
 have hd:=rf (t:=t) h
 have ha:=rg t b
 have hg:=qU (t:=t) h
 have d1:den t b ∣ t:=Int.natAbs_dvd_natAbs.mp (by rw [ha]; exact Nat.gcd_dvd_left _ _)
 have d2:den t b ∣ b:=Int.natAbs_dvd_natAbs.mp (by rw [ha]; exact Nat.gcd_dvd_right _ _)
 obtain ⟨x,hx⟩:=d1
 obtain ⟨y,hy⟩:=d2
 have e1:eV t b=x:=by
  show t.fdiv (den t b)=x
  generalize den t b=d at hd hx
  rw [hx]
  exact Int.mul_fdiv_cancel_left _ hd
 have e2:dS t b=y:=by
  show b.fdiv (den t b)=y
  generalize den t b=d at hd hy
  rw [hy]
  exact Int.mul_fdiv_cancel_left _ hd
 rw [e1,e2]
 refine ⟨hx,hy,?_,?_⟩
 ·have hb:(0 < b/\0 < den t b)\/(b < 0/\den t b < 0):=by
   unfold den g7
   split <;> omega
  rcases hb with ⟨p,q⟩ | ⟨p,q⟩
  ·rcases (show 0 < y\/y<=0 by omega) with z | z
   ·exact z
   ·exfalso
    have:=Int.mul_nonneg (Int.le_of_lt q) (show 0<=-y by omega)
    rw [Int.mul_neg,<- hy] at this
    omega
  ·rcases (show 0 < y\/y<=0 by omega) with z | z
   ·exact z
   ·exfalso
    have:=Int.mul_nonneg (show 0<=-den t b by omega) (show 0<=-y by omega)
    rw [Int.neg_mul_neg,<- hy] at this
    omega
 ·have h1:t.natAbs=Nat.gcd t.natAbs b.natAbs * x.natAbs:=by
   have:=congrArg Int.natAbs hx
   rw [Int.natAbs_mul,ha] at this
   exact this
  have h2:b.natAbs=Nat.gcd t.natAbs b.natAbs * y.natAbs:=by
   have:=congrArg Int.natAbs hy
   rw [Int.natAbs_mul,ha] at this
   exact this
  have h3:Nat.gcd t.natAbs b.natAbs=Nat.gcd t.natAbs b.natAbs * Nat.gcd x.natAbs y.natAbs:=by
   rw [<- Nat.gcd_mul_left,<- h1,<- h2]
  have h4:Nat.gcd t.natAbs b.natAbs * 1=Nat.gcd t.natAbs b.natAbs * Nat.gcd x.natAbs y.natAbs:=by rw [Nat.mul_one]; exact h3
  exact (Nat.eq_of_mul_eq_mul_left hg h4).symm
theorem ZiM {t b:Int} (h:b≠0):(eV t b).natAbs<=t.natAbs/\(dS t b).natAbs<=b.natAbs:=by
 obtain ⟨h1,h2,_,_⟩:=ZcU (t:=t) h
 have hg:=qU (t:=t) h
 have ha:=rg t b
 constructor
 ·have e:=congrArg Int.natAbs h1
  rw [Int.natAbs_mul,ha] at e
  rw [e]
  exact Nat.le_mul_of_pos_left _ hg
 ·have e:=congrArg Int.natAbs h2
  rw [Int.natAbs_mul,ha] at e
  rw [e]
  exact Nat.le_mul_of_pos_left _ hg
end Gc
namespace L2
open PySem PySem.Spec PyProof.Rows
inductive Tr (α:Type) where
 | ret (a:α)
 | draw (n:Int) (k:Int->Tr α)
 | fail
namespace Tr
variable {α β γ:Type}
noncomputable def bind:Tr α->(α->Tr β)->Tr β
 | .ret a,f=>f a
 | .draw n k,f=>.draw n λr=>(k r).bind f
 | .fail,_=>.fail
@[simp] theorem ret_bind (a:α) (f:α->Tr β):(Tr.ret a).bind f=f a:=rfl
@[simp] theorem draw_bind (n:Int) (k:Int->Tr α) (f:α->Tr β):(Tr.draw n k).bind f=.draw n λr=>(k r).bind f:=rfl
@[simp] theorem fail_bind (f:α->Tr β):(Tr.fail:Tr α).bind f=.fail:=rfl
@[simp] theorem bind_assoc:∀ (t:Tr α) (f:α->Tr β) (g:β->Tr γ),(t.bind f).bind g=t.bind λa=>(f a).bind g
 | .ret a,f,g=>rfl
 | .draw n k,f,g=>by simp only [draw_bind]; congr 1; funext r; exact bind_assoc (k r) f g
 | .fail,f,g=>rfl
noncomputable def of:Option α->Tr α
 | some a=>.ret a
 | none=>.fail
@[simp] theorem of_some (a:α):Tr.of (some a)=.ret a:=rfl
@[simp] theorem of_none:Tr.of (none:Option α)=.fail:=rfl
noncomputable def ok:Tr α->Nat->(Nat->α->Prop)->Prop
 | .ret a,m,Q=>Q m a
 | .draw n k,m,Q=>m < 400000/\0 < n/\n < 1073741824/\∀ r,0<=r->r < n->(k r).ok (m+1) Q
 | .fail,_,_=>False
theorem ok_mono:∀ {t:Tr α} {m:Nat} {Q Q':Nat->α->Prop},t.ok m Q->(∀ m a,Q m a->Q' m a)->t.ok m Q'
 | .ret a,m,_,_,h,hq=>hq m a h
 | .draw n k,m,_,_,⟨h1,h2,h3,h⟩,hq=>⟨h1,h2,h3,λr h0 h1=>ok_mono (h r h0 h1) hq⟩
theorem ok_bind:∀ {t:Tr α} {f:α->Tr β} {m:Nat} {Q:Nat->β->Prop},(t.bind f).ok m Q ↔ t.ok m λm' a=>(f a).ok m' Q
 | .ret a,f,m,Q=>Iff.rfl
 | .draw n k,f,m,Q=>by
  show (_/\_/\_/\∀ r,_) ↔ (_/\_/\_/\∀ r,_)
  refine and_congr_right λ_=>and_congr_right λ_=>and_congr_right λ_=>forall_congr' λr=>forall_congr' λ_=>forall_congr' λ_=>ok_bind
 | .fail,f,m,Q=>Iff.rfl
theorem ok_of {o:Option α} {m:Nat} {Q:Nat->α->Prop} (h:(Tr.of o).ok m Q):∃ a,o=some a/\Q m a:=by
 cases o with
 | none=>exact h.elim
 | some a=>exact ⟨a,rfl,h⟩
noncomputable def all:Tr α->Nat->(α->Prop)->Prop
 | .ret a,_,P=>P a
 | .draw w k,n+1,P=>0 < w/\w < 1073741824/\∀ r,0<=r->r < w->(k r).all n P
 | .draw _ _,0,_=>False
 | .fail,_,_=>False
theorem all_ok:∀ {t:Tr α} {n m:Nat} {P:α->Prop},t.all n P->m+n<=400000->t.ok m λm' a=>m'<=m+n/\P a
 | .ret a,n,m,P,h,hm=>⟨by omega,h⟩
 | .draw w k,n+1,m,P,⟨h1,h2,h⟩,hm=>⟨by omega,h1,h2,λr a b=>ok_mono (all_ok (h r a b) (by omega)) λm' x hz0=>by
  obtain ⟨p,q⟩:=hz0
  exact ⟨by omega,q⟩⟩
theorem all_mono:∀ {t:Tr α} {n n':Nat} {P P':α->Prop},t.all n P->n<=n'->(∀ a,P a->P' a)->t.all n' P'
 | .ret a,n,n',P,P',h,hn,hp=>hp a h
 | .draw w k,n+1,n'+1,P,P',⟨h1,h2,h⟩,hn,hp=>⟨h1,h2,λr a b=>all_mono (h r a b) (by omega) hp⟩
 | .draw w k,n+1,0,P,P',h,hn,hp=>by omega
theorem all_bind:∀ {t:Tr α} {f:α->Tr β} {n n':Nat} {P:α->Prop} {P':β->Prop},t.all n P->(∀ a,P a->(f a).all n' P')->(t.bind f).all (n+n') P'
 | .ret a,f,n,n',P,P',h,hf=>all_mono (hf a h) (by omega) λ_ x=>x
 | .draw w k,f,n+1,n',P,P',⟨h1,h2,h⟩,hf=>by
  have e:n+1+n'=(n+n')+1:=by omega
  rw [e]
  exact ⟨h1,h2,λr a b=>all_bind (h r a b) hf⟩
end Tr
noncomputable abbrev Sub (G H:Hp):Prop:=∀ b o,G b=some o->H b=some o
structure Pk where
 is:HO->Hp->Nat->Prop
 mono:∀ {o:HO} {G G':Hp} {m:Nat},Sub G G'->is o G m->is o G' m
structure Wd (PK:Pk) (pa:Addr) (m:Nat) (G H:Hp):Prop where
 sub:Sub G H
 gpa:G pa=none
 pen:∃ o,H pa=some o/\PK.is o G m
structure Stp (pa:Addr) (G H G' H':Hp):Prop where
 gs:Sub G G'
 gn:∀ b o,G' b=some o->G b=some o\/H b=none
 hk:∀ b o,H b=some o->b≠pa->H' b=some o
theorem Stp.refl {pa:Addr} {G H:Hp}:Stp pa G H G H:=⟨λ_ _ h=>h,λ_ _ h=>.inl h,λ_ _ h _=>h⟩
theorem Stp.trans {pa:Addr} {G H G1 H1 G2 H2:Hp} (a:Stp pa G H G1 H1) (b:Stp pa G1 H1 G2 H2) (hp:∃ o,H1 pa=some o):Stp pa G H G2 H2:=by
 refine ⟨λc o h=>b.gs c o (a.gs c o h),λc o h=>?_,λc o h n=>b.hk c o (a.hk c o h n) n⟩
 rcases b.gn c o h with z | z
 ·exact a.gn c o z
 ·refine .inr ?_
  cases e:H c with
  | none=>rfl
  | some u =>
   by_cases hc:c=pa
   ·subst hc
    obtain ⟨o',z'⟩:=hp
    rw [z'] at z; cases z
   ·rw [a.hk c u e hc] at z; cases z
section
variable {PK:Pk} {pa:Addr} {m:Nat} {G H:Hp}
theorem Wd.some (w:Wd PK pa m G H):∃ o,H pa=some o:=let ⟨o,h,_⟩:=w.pen; ⟨o,h⟩
theorem Wd.ne (w:Wd PK pa m G H) {p:Addr} (hp:H p=none):pa≠p:=λe=>by
 obtain ⟨o,h⟩:=w.some
 rw [e,hp] at h; cases h
theorem Sub.new {p:Addr} {o:HO} (hp:G p=none):Sub G (upd G p o):=λb u h=>by rw [az (cw h hp)]; exact h
theorem Wd.gnone (w:Wd PK pa m G H) {p:Addr} (hp:H p=none):G p=none:=by
 cases e:G p with
 | none=>rfl
 | some o=>rw [w.sub p o e] at hp; cases hp
theorem Sub.upd2 {p:Addr} {o:HO} (s:Sub G H):Sub (upd G p o) (upd H p o):=λb u h=>by
 by_cases e:b=p
 ·subst e; rw [bT] at h ⊢; exact h
 ·rw [az e] at h ⊢; exact s b u h
theorem Wd.new (w:Wd PK pa m G H) {p:Addr} {o:HO} (hp:H p=none):Wd PK pa m (upd G p o) (upd H p o)/\Stp pa G H (upd G p o) (upd H p o):=by
 have hg:=w.gnone hp
 have hne:=w.ne hp
 refine ⟨⟨w.sub.upd2,by rw [az hne]; exact w.gpa,?_⟩,⟨Sub.new hg,λb u h=>?_,λb u h _=>by rw [az (cw h hp)]; exact h⟩⟩
 ·obtain ⟨u,h,q⟩:=w.pen
  exact ⟨u,by rw [az hne]; exact h,PK.mono (Sub.new hg) q⟩
 ·by_cases e:b=p
  ·subst e; exact .inr hp
  ·rw [az e] at h; exact .inl h
theorem Wd.own (w:Wd PK pa m G H) {p:Addr} {o:HO} (hp:H p=none):Wd PK pa m G (upd H p o)/\Stp pa G H G (upd H p o):=by
 have hne:=w.ne hp
 refine ⟨⟨λb u h=>by rw [az (cw (w.sub b u h) hp)]; exact w.sub b u h,w.gpa,?_⟩,⟨λ_ _ h=>h,λ_ _ h=>.inl h,λb u h _=>by rw [az (cw h hp)]; exact h⟩⟩
 obtain ⟨u,h,q⟩:=w.pen
 exact ⟨u,by rw [az hne]; exact h,q⟩
theorem Wd.freeze (w:Wd PK pa m G H) {p:Addr} {o:HO} (hp:H p=Option.some o) (hg:G p=none) (hne:pa≠p):Wd PK pa m (upd G p o) H:=by
 refine ⟨λb u h=>?_,by rw [az hne]; exact w.gpa,?_⟩
 ·by_cases e:b=p
  ·subst e; rw [bT] at h; rw [hp]; exact h
  ·rw [az e] at h; exact w.sub b u h
 ·obtain ⟨u,h,q⟩:=w.pen
  exact ⟨u,h,PK.mono (Sub.new hg) q⟩
noncomputable def Kn (PK:Pk) (pa:Addr) (m:Nat) (G H:Hp) (x:PyData) (Q:VK):Prop:=∀ v G' H',Stp pa G H G' H'->Wd PK pa m G' H'->Dn G' v x->Q v H'
variable {x:PyData} {Q:VK} {v:V} {vs:List V} {ds:List PyData} {p:Addr}
theorem Kn.here (k:Kn PK pa m G H x Q) (w:Wd PK pa m G H) (d:Dn G v x):Q v H:=k v G H .refl w d
theorem Kn.tup (k:Kn PK pa m G H (.tuple ds) Q) (w:Wd PK pa m G H) (d:DnAll G vs ds) (hp:H p=none):Q (.ref p) (upd H p (.tup vs)):=by
 obtain ⟨w1,s1⟩:=w.new (o:=.tup vs) hp
 exact k _ _ _ s1 w1 (.tup bT (DnAll.mono s1.gs d))
theorem Kn.lst (k:Kn PK pa m G H (.list ds) Q) (w:Wd PK pa m G H) (d:DnAll G vs ds) (hp:H p=none):Q (.ref p) (upd H p (.lst vs)):=by
 obtain ⟨w1,s1⟩:=w.new (o:=.lst vs) hp
 exact k _ _ _ s1 w1 (.lst bT (DnAll.mono s1.gs d))
theorem Kn.later {G1 H1:Hp} (k:Kn PK pa m G H x Q) (s:Stp pa G H G1 H1) (hp:∃ o,H1 pa=Option.some o):Kn PK pa m G1 H1 x Q:=λv G' H' s' w d=>k v G' H' (s.trans s' hp) w d
end
inductive Sl where
 | un | d (x:PyData) | own (xs:List PyData) | pen | dic (kvs:List (Int×PyData))
inductive KD (G:Hp):List (aZ×V)->List (Int×PyData)->Prop
 | nil:KD G [] []
 | cons {i:Int} {v:V} {d:PyData} {ks:List (aZ×V)} {kvs:List (Int×PyData)}:Dn G v d->KD G ks kvs->KD G ((.inl i,v)::ks) ((i,d)::kvs)
theorem KD.mono {G G':Hp} (s:Sub G G') {ks:List (aZ×V)} {kvs:List (Int×PyData)} (h:KD G ks kvs):KD G' ks kvs:=by
 induction h with
 | nil=>exact .nil
 | cons h _ ih=>exact .cons (h.mono s) ih
inductive SlOk (pa:Addr) (H₀ G H:Hp):Option V->Sl->Prop
 | un {o:Option V}:SlOk pa H₀ G H o .un
 | d {v:V} {x:PyData}:Dn G v x->SlOk pa H₀ G H (some v) (.d x)
 | own {p:Addr} {vs:List V} {xs:List PyData}:H p=some (.lst vs)->G p=none->H₀ p=none->DnAll G vs xs->SlOk pa H₀ G H (some (.ref p)) (.own xs)
 | pen:SlOk pa H₀ G H (some (.ref pa)) .pen
 | dic {p:Addr} {ks:List (aZ×V)} {kvs:List (Int×PyData)}:H p=some (.dK ks)->G p=none->H₀ p=none->KD G ks kvs->SlOk pa H₀ G H (some (.ref p)) (.dic kvs)
structure Rl (PK:Pk) (pa:Addr) (G₀ H₀:Hp) (m:Nat) (σ:St) (ρ:List Sl) (G H:Hp):Prop where
 wd:Wd PK pa m G H
 st:Stp pa G₀ H₀ G H
 p0:∃ o,H₀ pa=some o
 sl:∀ (i:Nat) (s:Sl),ρ[i]?=some s->∃ o,σ[i]?=some o/\SlOk pa H₀ G H o s
 len:ρ.length=σ.length
 dj:∀ (i j:Nat) (xs ys:List PyData),i≠j->ρ[i]?=some (.own xs)->ρ[j]?=some (.own ys)->σ[i]?≠σ[j]?
 dj2:∀ (i j:Nat) (xs ys:List (Int×PyData)),i≠j->ρ[i]?=some (.dic xs)->ρ[j]?=some (.dic ys)->σ[i]?≠σ[j]?
section
variable {PK:Pk} {pa:Addr} {G₀ H₀ G H:Hp} {m:Nat} {σ:St} {ρ:List Sl}
theorem lU {α:Type} {l:List α} {k i:Nat} {x y:α} (h:(l.set k x)[i]?=some y) (hn:x≠y):k≠i/\l[i]?=some y:=by
 have hi:k≠i:=λe=>by
  subst e
  have hl:k < l.length:=by
   have:=(List.getElem?_eq_some_iff.mp h).1
   rwa [List.length_set] at this
  rw [List.getElem?_set_self hl] at h
  exact hn (Option.some.inj h)
 rw [List.getElem?_set_ne hi] at h
 exact ⟨hi,h⟩
theorem Zef {α:Type} {T:α->Sl} {k:Nat} {x:Sl} {v:Option V} (dj:∀ (i j:Nat) (a b:α),i≠j->ρ[i]?=some (T a)->ρ[j]?=some (T b)->σ[i]?≠σ[j]?) (hn:∀ a,x≠T a) :
  ∀ (i j:Nat) (a b:α),i≠j->(ρ.set k x)[i]?=some (T a)->(ρ.set k x)[j]?=some (T b)->(σ.set k v)[i]?≠(σ.set k v)[j]?:=λi j a b hij h1 h2=>by
 obtain ⟨hi,h1⟩:=lU h1 (hn a)
 obtain ⟨hj,h2⟩:=lU h2 (hn b)
 rw [List.getElem?_set_ne hi,List.getElem?_set_ne hj]
 exact dj i j a b hij h1 h2
theorem Zee {α:Type} {T:α->Sl} {k:Nat} {x:Sl} (dj:∀ (i j:Nat) (a b:α),i≠j->ρ[i]?=some (T a)->ρ[j]?=some (T b)->σ[i]?≠σ[j]?) (hn:∀ a,x≠T a) :
  ∀ (i j:Nat) (a b:α),i≠j->(ρ.set k x)[i]?=some (T a)->(ρ.set k x)[j]?=some (T b)->σ[i]?≠σ[j]?:=λi j a b hij h1 h2 =>
 dj i j a b hij (lU h1 (hn a)).2 (lU h2 (hn b)).2
theorem SlOk.step {G' H':Hp} {o:Option V} {s:Sl} (k:SlOk pa H₀ G H o s) (hp0:∃ o,H₀ pa=some o) (st:Stp pa G H G' H'):SlOk pa H₀ G' H' o s:=by
 cases k with
 | un=>exact .un
 | d h=>exact .d (h.mono st.gs)
 | pen=>exact .pen
 | @own p vs xs h1 h2 h3 h4 =>
  have hne:p≠pa:=λe=>by
   obtain ⟨u,hu⟩:=hp0
   rw [<- e,h3] at hu; cases hu
  refine .own (st.hk _ _ h1 hne) ?_ h3 (DnAll.mono st.gs h4)
  cases e:G' p with
  | none=>rfl
  | some u =>
   rcases st.gn p u e with z | z
   ·rw [h2] at z; cases z
   ·rw [h1] at z; cases z
 | @dic p ks kvs h1 h2 h3 h4 =>
  have hne:p≠pa:=λe=>by
   obtain ⟨u,hu⟩:=hp0
   rw [<- e,h3] at hu; cases hu
  refine .dic (st.hk _ _ h1 hne) ?_ h3 (h4.mono st.gs)
  cases e:G' p with
  | none=>rfl
  | some u =>
   rcases st.gn p u e with z | z
   ·rw [h2] at z; cases z
   ·rw [h1] at z; cases z
theorem Rl.step {G' H':Hp} {m':Nat} (r:Rl PK pa G₀ H₀ m σ ρ G H) (s:Stp pa G H G' H') (w:Wd PK pa m' G' H'):Rl PK pa G₀ H₀ m' σ ρ G' H' :=
 ⟨w,r.st.trans s r.wd.some,r.p0,λi sl h=>let ⟨o,h1,h2⟩:=r.sl i sl h; ⟨o,h1,h2.step r.p0 s⟩,r.len,r.dj,r.dj2⟩
theorem Rl.set (r:Rl PK pa G₀ H₀ m σ ρ G H) {v:V} {x:PyData} (d:Dn G v x) (k:Nat):Rl PK pa G₀ H₀ m (σ.set k (some v)) (ρ.set k (.d x)) G H:=by
 refine ⟨r.wd,r.st,r.p0,λi s h=>?_,by rw [List.length_set,List.length_set]; exact r.len,λi j xs ys hij h1 h2=>?_,Zef r.dj2 λa h=>by cases h⟩
 ·by_cases e:k=i
  ·subst e
   have hl:k < ρ.length:=by
    have:=(List.getElem?_eq_some_iff.mp h).1
    rwa [List.length_set] at this
   rw [List.getElem?_set_self hl] at h
   cases h
   exact ⟨_,List.getElem?_set_self (by rw [<- r.len]; exact hl),.d d⟩
  ·rw [List.getElem?_set_ne e] at h ⊢
   exact r.sl i s h
 ·have hi:k≠i:=λe=>by
   subst e
   have hl:k < ρ.length:=by
    have:=(List.getElem?_eq_some_iff.mp h1).1
    rwa [List.length_set] at this
   rw [List.getElem?_set_self hl] at h1; cases h1
  have hj:k≠j:=λe=>by
   subst e
   have hl:k < ρ.length:=by
    have:=(List.getElem?_eq_some_iff.mp h2).1
    rwa [List.length_set] at this
   rw [List.getElem?_set_self hl] at h2; cases h2
  rw [List.getElem?_set_ne hi] at h1 ⊢
  rw [List.getElem?_set_ne hj] at h2 ⊢
  exact r.dj i j xs ys hij h1 h2
theorem Rl.setO (r:Rl PK pa G₀ H₀ m σ ρ G H) {p:Addr} {vs:List V} {xs:List PyData} (h1:H p=some (.lst vs)) (h2:G p=none) (h3:H₀ p=none) (h4:DnAll G vs xs)
  (hd:∀ (i:Nat) (ys:List PyData),ρ[i]?=some (.own ys)->σ[i]?≠some (some (.ref p))) (k:Nat):Rl PK pa G₀ H₀ m (σ.set k (some (.ref p))) (ρ.set k (.own xs)) G H:=by
 have up:∀ {i:Nat} {s:Sl},(ρ.set k (.own xs))[i]?=some s->i=k->s=.own xs/\(σ.set k (some (V.ref p)))[i]?=some (some (.ref p)):=λ{i s} h e=>by
  subst e
  have hl:i < ρ.length:=by
   have:=(List.getElem?_eq_some_iff.mp h).1
   rwa [List.length_set] at this
  rw [List.getElem?_set_self hl] at h
  cases h
  exact ⟨rfl,List.getElem?_set_self (by rw [<- r.len]; exact hl)⟩
 refine ⟨r.wd,r.st,r.p0,λi s h=>?_,by rw [List.length_set,List.length_set]; exact r.len,λi j ys zs hij e1 e2=>?_,Zef r.dj2 λa h=>by cases h⟩
 ·by_cases e:i=k
  ·obtain ⟨e1,e2⟩:=up h e
   subst e1
   exact ⟨_,e2,.own h1 h2 h3 h4⟩
  ·rw [List.getElem?_set_ne (Ne.symm e)] at h ⊢
   exact r.sl i s h
 ·by_cases ei:i=k
  ·have q:=(up e1 ei).2
   have hj:k≠j:=λe=>hij (ei.trans e)
   rw [q]
   rw [List.getElem?_set_ne hj] at e2 ⊢
   exact λz=>hd j zs e2 z.symm
  ·rw [List.getElem?_set_ne (Ne.symm ei)] at e1 ⊢
   by_cases ej:j=k
   ·rw [(up e2 ej).2]
    exact hd i ys e1
   ·rw [List.getElem?_set_ne (Ne.symm ej)] at e2 ⊢
    exact r.dj i j ys zs hij e1 e2
theorem Rl.h0 (r:Rl PK pa G₀ H₀ m σ ρ G H) {p:Addr} (hp:H p=none):H₀ p=none:=by
 cases e:H₀ p with
 | none=>rfl
 | some u =>
  by_cases hc:p=pa
  ·subst hc
   obtain ⟨o,h⟩:=r.wd.some
   rw [hp] at h; cases h
  ·rw [r.st.hk p u e hc] at hp; cases hp
theorem Rl.apart (r:Rl PK pa G₀ H₀ m σ ρ G H) {p:Addr} (hp:H p=none) (i:Nat) (ys:List PyData) (h:ρ[i]?=some (.own ys)):σ[i]?≠some (some (.ref p)):=λe=>by
 obtain ⟨o,h1,h2⟩:=r.sl i _ h
 rw [e] at h1
 cases h1
 cases h2 with
 | own a _ _ _=>rw [hp] at a; cases a
theorem Rl.change (r:Rl PK pa G₀ H₀ m σ ρ G H) {k:Nat} {xs ys:List PyData} {p:Addr} {ws:List V} (hk:ρ[k]?=some (.own xs)) (hσ:σ[k]?=some (some (.ref p))) (d:DnAll G ws ys) :
  Rl PK pa G₀ H₀ m σ (ρ.set k (.own ys)) G (upd H p (.lst ws)):=by
 obtain ⟨o,h1,h2⟩:=r.sl k _ hk
 rw [hσ] at h1
 cases h1
 cases h2 with
 | @own _ vs _ a1 a2 a3 a4 =>
  have hne:pa≠p:=λe=>by
   obtain ⟨u,hu⟩:=r.p0
   rw [e,a3] at hu; cases hu
  have hl:k < ρ.length:=(List.getElem?_eq_some_iff.mp hk).1
  refine ⟨⟨λb o h=>?_,r.wd.gpa,?_⟩,⟨r.st.gs,r.st.gn,λb o h hb=>?_⟩,r.p0,λi s h=>?_,by rw [List.length_set]; exact r.len,λi j us ws hij e1 e2=>?_,Zee r.dj2 λa h=>by cases h⟩
  ·rw [az (λe=>by subst e; rw [a2] at h; cases h)]
   exact r.wd.sub b o h
  ·obtain ⟨u,h,q⟩:=r.wd.pen
   exact ⟨u,by rw [az hne]; exact h,q⟩
  ·rw [az (λe=>by subst e; rw [a3] at h; cases h)]
   exact r.st.hk b o h hb
  ·by_cases e:k=i
   ·subst e
    rw [List.getElem?_set_self hl] at h
    cases h
    exact ⟨_,hσ,.own bT a2 a3 d⟩
   ·rw [List.getElem?_set_ne e] at h
    obtain ⟨o,q1,q2⟩:=r.sl i s h
    refine ⟨o,q1,?_⟩
    cases q2 with
    | un=>exact .un
    | d z=>exact .d z
    | pen=>exact .pen
    | dic b1 b2 b3 b4=>exact .dic (by rw [az (λe2=>by subst e2; rw [a1] at b1; cases b1)]; exact b1) b2 b3 b4
    | own b1 b2 b3 b4 =>
     refine .own ?_ b2 b3 b4
     rw [az]
     ·exact b1
     ·intro e2
      subst e2
      exact r.dj k i _ _ e hk h (by rw [hσ,q1])
  ·by_cases ei:k=i
   ·subst ei
    rw [List.getElem?_set_ne hij] at e2
    exact r.dj k j _ _ hij hk e2
   ·rw [List.getElem?_set_ne ei] at e1
    by_cases ej:k=j
    ·subst ej
     exact r.dj i k _ _ hij e1 hk
    ·rw [List.getElem?_set_ne ej] at e2
     exact r.dj i j _ _ hij e1 e2
noncomputable def fz (k:Nat) (ρ:List Sl):List Sl:=match ρ[k]? with
 | some (.own xs)=>ρ.set k (.d (.list xs))
 | _=>ρ
theorem Rl.freeze (r:Rl PK pa G₀ H₀ m σ ρ G H) (k:Nat):∃ G',Sub G G'/\Rl PK pa G₀ H₀ m σ (fz k ρ) G' H:=by
 unfold fz
 split
 ·rename_i xs hk
  obtain ⟨o,h1,h2⟩:=r.sl k _ hk
  cases h2 with
  | @own p vs _ a1 a2 a3 a4 =>
   have hne:pa≠p:=λe=>by
    obtain ⟨u,hu⟩:=r.p0
    rw [e,a3] at hu; cases hu
   have hl:k < ρ.length:=(List.getElem?_eq_some_iff.mp hk).1
   have sb:Sub G (upd G p (.lst vs)):=Sub.new a2
   refine ⟨upd G p (.lst vs),sb,r.wd.freeze a1 a2 hne,⟨λb o h=>sb b o (r.st.gs b o h),λb o h=>?_,r.st.hk⟩,r.p0,λi s h=>?_,by rw [List.length_set]; exact r.len,λi j us ws hij e1 e2=>?_,Zee r.dj2 λa h=>by cases h⟩
   ·by_cases e:b=p
    ·subst e; exact .inr a3
    ·rw [az e] at h; exact r.st.gn b o h
   ·by_cases e:k=i
    ·subst e
     rw [List.getElem?_set_self hl] at h
     cases h
     exact ⟨_,h1,.d (.lst bT (DnAll.mono sb a4))⟩
    ·rw [List.getElem?_set_ne e] at h
     obtain ⟨o,q1,q2⟩:=r.sl i s h
     refine ⟨o,q1,?_⟩
     cases q2 with
     | un=>exact .un
     | d z=>exact .d (z.mono sb)
     | pen=>exact .pen
     | dic b1 b2 b3 b4=>exact .dic b1 (by rw [az (λe2=>by subst e2; rw [a1] at b1; cases b1)]; exact b2) b3 (b4.mono sb)
     | own b1 b2 b3 b4 =>
      refine .own b1 ?_ b3 (DnAll.mono sb b4)
      rw [az]
      ·exact b2
      ·intro e2
       subst e2
       exact r.dj k i _ _ e hk h (by rw [h1,q1])
   ·have hi:k≠i:=λe=>by subst e; rw [List.getElem?_set_self hl] at e1; cases e1
    have hj:k≠j:=λe=>by subst e; rw [List.getElem?_set_self hl] at e2; cases e2
    rw [List.getElem?_set_ne hi] at e1
    rw [List.getElem?_set_ne hj] at e2
    exact r.dj i j _ _ hij e1 e2
 ·exact ⟨G,λ_ _ h=>h,r⟩
end
noncomputable def TAe (PK:Pk) (i:List Sl->Tr PyData):TE:=λσ H Q=>∃ pa G₀ H₀ m ρ G,Rl PK pa G₀ H₀ m σ ρ G H/\(i ρ).ok m λm' x=>Kn PK pa m' G H x Q
noncomputable def TAt (PK:Pk) (i:List Sl->Tr Bool):TT:=λσ H Q=>∃ pa G₀ H₀ m ρ G,Rl PK pa G₀ H₀ m σ ρ G H/\(i ρ).ok m λm' b=>∀ G' H',Stp pa G H G' H'->Wd PK pa m' G' H'->Q b H'
noncomputable def TAd (PK:Pk) (i:List Sl->Tr (List PyData)):TA:=λσ H Q=>∃ pa G₀ H₀ m ρ G,Rl PK pa G₀ H₀ m σ ρ G H/\(i ρ).ok m λm' xs=>∀ vs G' H',Stp pa G H G' H'->Wd PK pa m' G' H'->DnAll G' vs xs->Q vs H'
noncomputable def Ko1 (PK:Pk) (pa:Addr) (m:Nat) (G H:Hp) (xs:List PyData) (Q:VK):Prop:=∀ p vs G' H',Stp pa G H G' H'->Wd PK pa m G' H'->H p=none->G' p=none->H' p=some (.lst vs)->DnAll G' vs xs->Q (.ref p) H'
noncomputable def f8 (PK:Pk) (i:List Sl->Tr (List PyData)):TE:=λσ H Q=>∃ pa G₀ H₀ m ρ G,Rl PK pa G₀ H₀ m σ ρ G H/\(i ρ).ok m λm' xs=>Ko1 PK pa m' G H xs Q
inductive ArOk (pa:Addr) (G:Hp):V->Sl->Prop
 | d {v:V} {x:PyData}:Dn G v x->ArOk pa G v (.d x)
 | pen:ArOk pa G (.ref pa) .pen
inductive ArsOk (pa:Addr) (G:Hp):List V->List Sl->Prop
 | nil:ArsOk pa G [] []
 | cons {v:V} {vs:List V} {s:Sl} {ss:List Sl}:ArOk pa G v s->ArsOk pa G vs ss->ArsOk pa G (v::vs) (s::ss)
theorem ArsOk.length {pa:Addr} {G:Hp} {vs:List V} {ss:List Sl} (h:ArsOk pa G vs ss):vs.length=ss.length:=by
 induction h with
 | nil=>rfl
 | cons h t ih=>exact congrArg (·+1) ih
noncomputable def TAa (PK:Pk) (i:List Sl->Tr (List Sl)):TA:=λσ H Q=>∃ pa G₀ H₀ m ρ G,Rl PK pa G₀ H₀ m σ ρ G H/\(i ρ).ok m λm' as=>∀ vs G' H',Stp pa G H G' H'->Wd PK pa m' G' H'->ArsOk pa G' vs as->Q vs H'
inductive Re where
 | d (x:PyData) | own (xs:List PyData)
noncomputable def Re.val:Re->PyData
 | .d x=>x
 | .own xs=>.list xs
@[simp] theorem Re.val_d (x:PyData):(Re.d x).val=x:=rfl
@[simp] theorem Re.val_own (xs:List PyData):(Re.own xs).val=.list xs:=rfl
inductive Ou where
 | next (ρ:List Sl) | ret (r:Re) | brk (ρ:List Sl) | cont (ρ:List Sl)
noncomputable def Zom (H₀ G H:Hp) (v:V):Re->Prop
 | .d x=>Dn G v x
 | .own xs=>∃ p vs,v=.ref p/\H p=some (.lst vs)/\G p=none/\H₀ p=none/\DnAll G vs xs
noncomputable def Kr (PK:Pk) (pa:Addr) (m:Nat) (G₀ H₀:Hp) (r:Re) (Q:VK):Prop:=∀ v G H,Stp pa G₀ H₀ G H->Wd PK pa m G H->Zom H₀ G H v r->Q v H
noncomputable def Ko (PK:Pk) (pa:Addr) (G₀ H₀ Gs:Hp) (D:Ends) (m:Nat):Ou->Prop
 | .next ρ=>∀ σ G H,Sub Gs G->Rl PK pa G₀ H₀ m σ ρ G H->D.nx σ H
 | .ret r=>Kr PK pa m G₀ H₀ r D.rt
 | .brk ρ=>∀ σ G H,Sub Gs G->Rl PK pa G₀ H₀ m σ ρ G H->D.bk σ H
 | .cont ρ=>∀ σ G H,Sub Gs G->Rl PK pa G₀ H₀ m σ ρ G H->D.ct σ H
noncomputable def bq (PK:Pk) (i:List Sl->Tr Ou):TS:=λD σ H=>∃ pa G₀ H₀ m ρ G,Rl PK pa G₀ H₀ m σ ρ G H/\(i ρ).ok m (Ko PK pa G₀ H₀ G D)
theorem PE.imp {X:Cx} {e:Expr} {t t':TE} (h:PE X e t) (q:∀ σ H Q,t' σ H Q->t σ H Q):PE X e t':=λpins s σ H Q I z=>h pins s σ H Q I (q σ H Q z)
theorem PT.imp {X:Cx} {e:Expr} {t t':TT} (h:PT X e t) (q:∀ σ H Q,t' σ H Q->t σ H Q):PT X e t':=λpins s σ H Q I z=>h pins s σ H Q I (q σ H Q z)
theorem PA.imp {X:Cx} {e:List Expr} {t t':TA} (h:PA X e t) (q:∀ σ H Q,t' σ H Q->t σ H Q):PA X e t':=λpos pins s σ H Q I z=>h pos pins s σ H Q I (q σ H Q z)
theorem PS.imp {X:Cx} {e:Stmt} {t t':TS} (h:PS X e t) (q:∀ D σ H,t' D σ H->t D σ H):PS X e t':=λpins s σ H D I z=>h pins s σ H D I (q D σ H z)
theorem PSs.imp {X:Cx} {e:List Stmt} {t t':TS} (h:PSs X e t) (q:∀ D σ H,t' D σ H->t D σ H):PSs X e t':=λpins s σ H D I z=>h pins s σ H D I (q D σ H z)
variable {PK:Pk} {X:Cx} {a b c e:Expr} {es:List Expr} {pos:Pos} {i j l:List Sl->Tr PyData}
theorem TAe.then {σ:St} {H:Hp} {β:Type} {k:PyData->Tr β} {Z:Nat->β->Prop} {Q:VK} {pa:Addr} {G₀ H₀ G:Hp} {m:Nat} {ρ:List Sl} (R:Rl PK pa G₀ H₀ m σ ρ G H) (h:((i ρ).bind k).ok m Z)
  (hq:∀ m1 x v G1 H1,Stp pa G H G1 H1->Wd PK pa m1 G1 H1->Rl PK pa G₀ H₀ m1 σ ρ G1 H1->Dn G1 v x->(k x).ok m1 Z->Q v H1):TAe PK i σ H Q:=by
 refine ⟨pa,G₀,H₀,m,ρ,G,R,Tr.ok_mono (Tr.ok_bind.mp h) λm1 x hx v G1 H1 s1 w1 d1=>?_⟩
 exact hq m1 x v G1 H1 s1 w1 (R.step s1 w1) d1 hx
noncomputable def aa (k:Nat):List Sl->Tr PyData:=λρ=>match ρ[k]? with
 | some (.d x)=>.ret x
 | _=>.fail
noncomputable def aC (d:PyData):List Sl->Tr PyData:=λ_=>.ret d
theorem ac {k:Nat} (h:PE X e (eh k)):PE X e (TAe PK (aa k)):=h.imp λσ H Q hz0=>by
 obtain ⟨pa,G₀,H₀,m,ρ,G,R,q⟩:=hz0
 unfold aa at q
 split at q
 ·rename_i x hx
  obtain ⟨o,h1,h2⟩:=R.sl k _ hx
  cases h2 with
  | d z=>exact ⟨_,h1,Kn.here q R.wd z⟩
 ·exact q.elim
theorem rO {v:V} {d:PyData} (h:PE X e (tC v)) (hd:∀ G,Dn G v d):PE X e (TAe PK (aC d)):=h.imp λσ H Q hz0=>by
 obtain ⟨pa,G₀,H₀,m,ρ,G,R,q⟩:=hz0
 exact Kn.here q R.wd (hd G)
theorem am {n:Int} {k pos}:PE X (.Constant (.int n) k pos) (TAe PK (aC (.int n))):=rO bP λ_=>.int n
theorem oa {n:Bool} {k pos}:PE X (.Constant (.bool n) k pos) (TAe PK (aC (.bool n))):=rO ZhZ λ_=>.bl n
theorem dZ {x:Str} {n:Int} (hg:Gl X x) (h:∃ t,X.mg x=some (.int n t)) (hd:(x == ("__debug__":Str))=false:=by decide):PE X (.Name x pos) (TAe PK (aC (.int n))):=rO (ZhV hg h hd) λ_=>.int n
noncomputable def cR (r:R2) (f:PyData->PyData->Option PyData):Prop:=∀ (PK:Pk) (pa:Addr) (m:Nat) (G H:Hp) (x y:V) (dx dy dz:PyData) (Q:VK),Wd PK pa m G H->Dn G x dx->Dn G y dy->f dx dy=some dz->Kn PK pa m G H dz Q->r x y H Q
noncomputable def ad (f:PyData->PyData->Option PyData) (i j:List Sl->Tr PyData):List Sl->Tr PyData:=λρ=>(i ρ).bind λx=>(j ρ).bind λy=>Tr.of (f x y)
theorem oj {r:R2} {f:PyData->PyData->Option PyData} (hv:cR r f):∀ σ H Q,TAe PK (ad f i j) σ H Q->ib r (TAe PK i) (TAe PK j) σ H Q:=by
 rintro σ H Q ⟨pa,G₀,H₀,m,ρ,G,R,q⟩
 refine TAe.then R q λm1 x v G1 H1 s1 w1 R1 d1 q1=>?_
 refine TAe.then R1 q1 λm2 y u G2 H2 s2 w2 R2 d2 q2=>?_
 obtain ⟨z,hz,k⟩:=Tr.ok_of q2
 exact hv PK pa m2 G2 H2 v u x y z Q w2 (d1.mono s2.gs) d2 hz (Kn.later k (s1.trans s2 w1.some) w2.some)
theorem ak {op:Operator} {r:R2} {f:PyData->PyData->Option PyData} (ho:OpR X (binaryOp op) r) (hv:cR r f) (ha:PE X a (TAe PK i)) (hb:PE X b (TAe PK j)):PE X (.BinOp a op b pos) (TAe PK (ad f i j)) :=
 (cq ho ha hb).imp (oj hv)
theorem Zob {op:CmpOp} {r:R2} {f:PyData->PyData->Option PyData} (ho:OpR X (compareOp op) r) (hv:cR r f) (ha:PE X a (TAe PK i)) (hb:PE X b (TAe PK j)) (hm:behindInMarks op b=false):PE X (.Compare a [op] [b] pos) (TAe PK (ad f i j)) :=
 (ZhX ho ha hb hm).imp (oj hv)
theorem bx {r:R2} {f:PyData->PyData->Option PyData} (hr:IxR X r) (hv:cR r f) (ha:PE X a (TAe PK i)) (hb:PE X b (TAe PK j)) (hs:sa b):PE X (.Subscript a b pos) (TAe PK (ad f i j)) :=
 (fv hr ha hb hs).imp (oj hv)
noncomputable def lL:PyData->Option Bool
 | .bool b=>some b
 | _=>none
@[simp] theorem ZoM (b:Bool):lL (.bool b)=some b:=rfl
noncomputable def cQ (i:List Sl->Tr PyData):List Sl->Tr Bool:=λρ=>(i ρ).bind λx=>Tr.of (lL x)
theorem Zog:∀ σ H Q,TAt PK (cQ i) σ H Q->lM (TAe PK i) σ H Q:=by
 rintro σ H Q ⟨pa,G₀,H₀,m,ρ,G,R,q⟩
 refine TAe.then R q λm1 x v G1 H1 s1 w1 R1 d1 q1=>?_
 obtain ⟨b,hb,k⟩:=Tr.ok_of q1
 cases d1 <;> simp only [lL] at hb <;> cases hb
 exact ⟨_,rfl,k G1 H1 s1 w1⟩
theorem Zge {t t':TE} (h:∀ σ H Q,t' σ H Q->t σ H Q):∀ σ H Q,lM t' σ H Q->lM t σ H Q:=λσ H Q z=>h σ H _ z
theorem dq {op:CmpOp} {r:R2} {f:PyData->PyData->Option PyData} (ho:OpR X (compareOp op) r) (hv:cR r f) (ha:PE X a (TAe PK i)) (hb:PE X b (TAe PK j)) (hm:behindInMarks op b=false):PT X (.Compare a [op] [b] pos) (TAt PK (cQ (ad f i j))) :=
 (kh ho ha hb hm).imp λσ H Q z=>Zge (oj hv) σ H Q (Zog σ H Q z)
noncomputable def Zax:PyData->Option Bool
 | .bool b=>some b
 | .int n=>some (n != 0)
 | .none=>some false
 | .list xs=>some (!xs.isEmpty)
 | .tuple xs=>some (!xs.isEmpty)
 | _=>none
noncomputable def rP (i:List Sl->Tr PyData):List Sl->Tr Bool:=λρ=>(i ρ).bind λx=>Tr.of (Zax x)
theorem DnAll.isEmpty {H:Hp} {vs:List V} {ds:List PyData} (h:DnAll H vs ds):vs.isEmpty=ds.isEmpty:=by
 cases h <;> rfl
theorem ZnT (h:PE X e (TAe PK i)) (he:∀ whole,isTrue e X.env whole=(do let v <- whole; standAt e.pos; holding [v] (truthy v)):=by intro _; rfl):PT X e (TAt PK (rP i)):=(ZhB h he).imp λσ H Q hz0=>by
 obtain ⟨pa,G₀,H₀,m,ρ,G,R,q⟩:=hz0
 refine TAe.then R q λm1 x v G1 H1 s1 w1 R1 d1 q1=>?_
 obtain ⟨b,hb,k⟩:=Tr.ok_of q1
 have fin:=k G1 H1 s1 w1
 cases d1 with
 | non=>cases hb; exact ⟨_,rfl,fin⟩
 | bl b=>cases hb; exact ⟨_,rfl,fin⟩
 | int n=>cases hb; exact ⟨_,rfl,fin⟩
 | str _=>cases hb
 | tup h1 h2=>cases hb; exact ⟨_,.inr (.inl ⟨_,SqT.of (w1.sub _ _ h1),rfl⟩),by rw [h2.isEmpty]; exact fin⟩
 | lst h1 h2=>cases hb; exact ⟨_,.inl ⟨_,SqL.of (w1.sub _ _ h1),rfl⟩,by rw [h2.isEmpty]; exact fin⟩
 | dct _ _=>cases hb
variable {p q:List Sl->Tr Bool} {rest:List Expr}
theorem TAt.then {σ:St} {H:Hp} {β:Type} {k:Bool->Tr β} {Z:Nat->β->Prop} {Q:Bool->Hp->Prop} {pa:Addr} {G₀ H₀ G:Hp} {m:Nat} {ρ:List Sl} (R:Rl PK pa G₀ H₀ m σ ρ G H) (h:((p ρ).bind k).ok m Z)
  (hq:∀ m1 x G1 H1,Stp pa G H G1 H1->Wd PK pa m1 G1 H1->Rl PK pa G₀ H₀ m1 σ ρ G1 H1->(k x).ok m1 Z->Q x H1):TAt PK p σ H Q:=by
 refine ⟨pa,G₀,H₀,m,ρ,G,R,Tr.ok_mono (Tr.ok_bind.mp h) λm1 x hx G1 H1 s1 w1=>?_⟩
 exact hq m1 x G1 H1 s1 w1 (R.step s1 w1) hx
theorem Zfw {G₀ H₀ G H G1 H1:Hp} {m:Nat} {σ:St} {ρ:List Sl} {pa:Addr} {Q:VK} (R1:Rl PK pa G₀ H₀ m σ ρ G1 H1) (s1:Stp pa G H G1 H1) (h:(i ρ).ok m λm' x=>Kn PK pa m' G H x Q):TAe PK i σ H1 Q :=
 ⟨pa,G₀,H₀,m,ρ,G1,R1,Tr.ok_mono h λm2 b k=>Kn.later k s1 R1.wd.some⟩
noncomputable def rX (p:List Sl->Tr Bool) (i j:List Sl->Tr PyData):List Sl->Tr PyData:=λρ=>(p ρ).bind λx=>if x=true then i ρ else j ρ
theorem Zn9 (hc:PT X c (TAt PK p)) (ha:PE X a (TAe PK i)) (hb:PE X b (TAe PK j)):PE X (.IfExp c a b pos) (TAe PK (rX p i j)):=(ZhT hc ha hb).imp λσ H Q hz0=>by
 obtain ⟨pa,G₀,H₀,m,ρ,G,R,z⟩:=hz0
 refine TAt.then R z λm1 x G1 H1 s1 w1 R1 q1=>?_
 cases x with
 | true=>rw [if_pos rfl] at q1 ⊢; exact Zfw R1 s1 q1
 | false=>rw [if_neg Bool.false_ne_true] at q1 ⊢; exact Zfw R1 s1 q1
variable {is:List Sl->Tr (List PyData)}
noncomputable def ao:List Sl->Tr (List PyData):=λ_=>.ret []
noncomputable def ae (i:List Sl->Tr PyData) (is:List Sl->Tr (List PyData)):List Sl->Tr (List PyData):=λρ=>(i ρ).bind λx=>(is ρ).bind λxs=>.ret (x::xs)
theorem aq:PA X [] (TAd PK ao):=cT.imp λσ H Q hz0=>by
 obtain ⟨pa,G₀,H₀,m,ρ,G,R,z⟩:=hz0
 exact z [] G H .refl R.wd .nil
theorem TAd.then {σ:St} {H:Hp} {β:Type} {k:List PyData->Tr β} {Z:Nat->β->Prop} {Q:List V->Hp->Prop} {pa:Addr} {G₀ H₀ G:Hp} {m:Nat} {ρ:List Sl} (R:Rl PK pa G₀ H₀ m σ ρ G H) (h:((is ρ).bind k).ok m Z)
  (hq:∀ m1 xs vs G1 H1,Stp pa G H G1 H1->Wd PK pa m1 G1 H1->Rl PK pa G₀ H₀ m1 σ ρ G1 H1->DnAll G1 vs xs->(k xs).ok m1 Z->Q vs H1):TAd PK is σ H Q:=by
 refine ⟨pa,G₀,H₀,m,ρ,G,R,Tr.ok_mono (Tr.ok_bind.mp h) λm1 x hx v G1 H1 s1 w1 d1=>?_⟩
 exact hq m1 x v G1 H1 s1 w1 (R.step s1 w1) d1 hx
theorem ah (ha:PE X e (TAe PK i)) (hr:PA X es (TAd PK is)) (hs:starEach (e::es) X.env=(false,eval e X.env)::starEach es X.env:=by rfl):PA X (e::es) (TAd PK (ae i is)):=(cB ha hr hs).imp λσ H Q hz0=>by
 obtain ⟨pa,G₀,H₀,m,ρ,G,R,z⟩:=hz0
 refine TAe.then R z λm1 x v G1 H1 s1 w1 R1 d1 q1=>?_
 refine TAd.then R1 q1 λm2 xs vs G2 H2 s2 w2 R2 d2 q2=>?_
 exact q2 _ _ _ (s1.trans s2 w1.some) w2 (.cons (d1.mono s2.gs) d2)
noncomputable def small (n:Nat):Bool:=decide (n<=sizeLine)
noncomputable def cZ (is:List Sl->Tr (List PyData)):List Sl->Tr PyData:=λρ=>(is ρ).bind λxs=>if small xs.length=true then .ret (.tuple xs) else .fail
noncomputable def bX (is:List Sl->Tr (List PyData)):List Sl->Tr PyData:=λρ=>(is ρ).bind λxs=>.ret (.list xs)
noncomputable def dN (is:List Sl->Tr (List PyData)):List Sl->Tr (List PyData):=λρ=>(is ρ).bind λxs=>if small xs.length=true then .ret xs else .fail
theorem fx {α:Type} {c:Bool} {t:Tr α} {m:Nat} {Q:Nat->α->Prop} (h:(if c=true then t else .fail).ok m Q):c=true/\t.ok m Q:=by
 cases c with
 | true=>exact ⟨rfl,h⟩
 | false=>exact h.elim
theorem dA {x1} (h:PA X es (TAd PK is)):PE X (.Tuple es x1 pos) (TAe PK (cZ is)):=(ZhS h).imp λσ H Q hz0=>by
 obtain ⟨pa,G₀,H₀,m,ρ,G,R,z⟩:=hz0
 refine TAd.then R z λm1 xs vs G1 H1 s1 w1 R1 d1 q1=>?_
 obtain ⟨hs,k⟩:=fx q1
 exact ⟨by rw [d1.length]; exact of_decide_eq_true hs,λp hp=>(Kn.later k s1 w1.some).tup w1 d1 hp⟩
theorem Ko1.new {pa:Addr} {m:Nat} {G H:Hp} {xs:List PyData} {vs:List V} {Q:VK} {p:Addr} (k:Ko1 PK pa m G H xs Q) (w:Wd PK pa m G H) (d:DnAll G vs xs) (hp:H p=none):Q (.ref p) (upd H p (.lst vs)):=by
 obtain ⟨w1,s1⟩:=w.own (o:=.lst vs) hp
 exact k p vs G _ s1 w1 hp (w.gnone hp) bT d
theorem Ko1.later {pa:Addr} {m:Nat} {G H G1 H1:Hp} {xs:List PyData} {Q:VK} (k:Ko1 PK pa m G H xs Q) (s:Stp pa G H G1 H1) (hp:∃ o,H1 pa=some o):Ko1 PK pa m G1 H1 xs Q:=λp vs G' H' s' w' h1 h2 h3 h4=>by
 refine k p vs G' H' (s.trans s' hp) w' ?_ h2 h3 h4
 cases e:H p with
 | none=>rfl
 | some u =>
  by_cases hc:p=pa
  ·subst hc
   obtain ⟨o,z⟩:=hp
   rw [h1] at z; cases z
  ·rw [s.hk p u e hc] at h1; cases h1
theorem eG (h:PA X es (TAd PK is)):PE X (.List es pos) (f8 PK (dN is)):=(Zcr h).imp λσ H Q hz0=>by
 obtain ⟨pa,G₀,H₀,m,ρ,G,R,z⟩:=hz0
 refine TAd.then R z λm1 xs vs G1 H1 s1 w1 R1 d1 q1=>?_
 obtain ⟨hs,k⟩:=fx q1
 exact ⟨by rw [d1.length]; exact of_decide_eq_true hs,λp hp=>(Ko1.later k s1 w1.some).new w1 d1 hp⟩
theorem Ko1.of {pa:Addr} {m:Nat} {G H:Hp} {xs:List PyData} {Q:VK} (k:Kn PK pa m G H (.list xs) Q) (hp:∃ o,H pa=some o):Ko1 PK pa m G H xs Q:=λp vs G' H' s w h1 h2 h3 h4=>by
 have hne:pa≠p:=λe=>by
  obtain ⟨o,z⟩:=hp
  rw [e,h1] at z; cases z
 have sb:Sub G' (upd G' p (.lst vs)):=Sub.new h2
 refine k _ (upd G' p (.lst vs)) H' ⟨λb o h=>sb b o (s.gs b o h),λb o h=>?_,s.hk⟩ (w.freeze h3 h2 hne) (.lst bT (DnAll.mono sb h4))
 by_cases e:b=p
 ·subst e; exact .inr h1
 ·rw [az e] at h; exact s.gn b o h
theorem cE (h:PE X e (f8 PK is)):PE X e (TAe PK (bX is)):=h.imp λσ H Q hz0=>by
 obtain ⟨pa,G₀,H₀,m,ρ,G,R,z⟩:=hz0
 refine ⟨pa,G₀,H₀,m,ρ,G,R,Tr.ok_mono (Tr.ok_bind.mp z) λm1 xs k=>Ko1.of k R.wd.some⟩
noncomputable def fi (r:List V->Hp->VK->Prop) (f:List PyData->Option PyData):Prop:=∀ (PK:Pk) (pa:Addr) (m:Nat) (G H:Hp) (vs:List V) (ds:List PyData) (d:PyData) (Q:VK),Wd PK pa m G H->DnAll G vs ds->f ds=some d->Kn PK pa m G H d Q->r vs H Q
noncomputable def bd (f:List PyData->Option PyData) (is:List Sl->Tr (List PyData)):List Sl->Tr PyData:=λρ=>(is ρ).bind λxs=>Tr.of (f xs)
theorem Zoj {r:List V->Hp->VK->Prop} {f:List PyData->Option PyData} (hv:fi r f):∀ σ H Q,TAe PK (bd f is) σ H Q->iQ r (TAd PK is) σ H Q:=by
 rintro σ H Q ⟨pa,G₀,H₀,m,ρ,G,R,z⟩
 refine TAd.then R z λm1 xs vs G1 H1 s1 w1 R1 d1 q1=>?_
 obtain ⟨d,hd,k⟩:=Tr.ok_of q1
 exact hv PK pa m1 G1 H1 vs xs d Q w1 d1 hd (Kn.later k s1 w1.some)
theorem bn {t:TA} {r:List V->Hp->VK->Prop} {f:List PyData->Option PyData} (h:PE X e (iQ r (TAd PK is))) (hv:fi r f):PE X e (TAe PK (bd f is)):=h.imp (Zoj hv)
variable {as:List Sl->Tr (List Sl)}
noncomputable def aG:List Sl->Tr (List Sl):=λ_=>.ret []
noncomputable def ai (i:List Sl->Tr PyData) (as:List Sl->Tr (List Sl)):List Sl->Tr (List Sl):=λρ=>(i ρ).bind λx=>(as ρ).bind λxs=>.ret (.d x::xs)
noncomputable def cI (k:Nat) (as:List Sl->Tr (List Sl)):List Sl->Tr (List Sl):=λρ=>match ρ[k]? with
 | some .pen=>(as ρ).bind λxs=>.ret (.pen::xs)
 | _=>.fail
theorem aN:PA X [] (TAa PK aG):=cT.imp λσ H Q hz0=>by
 obtain ⟨pa,G₀,H₀,m,ρ,G,R,z⟩:=hz0
 exact z [] G H .refl R.wd .nil
theorem TAa.then {σ:St} {H:Hp} {β:Type} {k:List Sl->Tr β} {Z:Nat->β->Prop} {Q:List V->Hp->Prop} {pa:Addr} {G₀ H₀ G:Hp} {m:Nat} {ρ:List Sl} (R:Rl PK pa G₀ H₀ m σ ρ G H) (h:((as ρ).bind k).ok m Z)
  (hq:∀ m1 xs vs G1 H1,Stp pa G H G1 H1->Wd PK pa m1 G1 H1->Rl PK pa G₀ H₀ m1 σ ρ G1 H1->ArsOk pa G1 vs xs->(k xs).ok m1 Z->Q vs H1):TAa PK as σ H Q:=by
 refine ⟨pa,G₀,H₀,m,ρ,G,R,Tr.ok_mono (Tr.ok_bind.mp h) λm1 x hx v G1 H1 s1 w1 d1=>?_⟩
 exact hq m1 x v G1 H1 s1 w1 (R.step s1 w1) d1 hx
theorem aj (ha:PE X e (TAe PK i)) (hr:PA X es (TAa PK as)) (hs:starEach (e::es) X.env=(false,eval e X.env)::starEach es X.env:=by rfl):PA X (e::es) (TAa PK (ai i as)):=(cB ha hr hs).imp λσ H Q hz0=>by
 obtain ⟨pa,G₀,H₀,m,ρ,G,R,z⟩:=hz0
 refine TAe.then R z λm1 x v G1 H1 s1 w1 R1 d1 q1=>?_
 refine TAa.then R1 q1 λm2 xs vs G2 H2 s2 w2 R2 d2 q2=>?_
 exact q2 _ _ _ (s1.trans s2 w1.some) w2 (.cons (.d (d1.mono s2.gs)) d2)
theorem cY {k:Nat} (ha:PE X e (eh k)) (hr:PA X es (TAa PK as)) (hs:starEach (e::es) X.env=(false,eval e X.env)::starEach es X.env:=by rfl):PA X (e::es) (TAa PK (cI k as)):=(cB ha hr hs).imp λσ H Q hz0=>by
 obtain ⟨pa,G₀,H₀,m,ρ,G,R,z⟩:=hz0
 unfold cI at z
 split at z
 ·rename_i hk
  obtain ⟨o,h1,h2⟩:=R.sl k _ hk
  cases h2
  refine ⟨_,h1,?_⟩
  refine TAa.then R z λm2 xs vs G2 H2 s2 w2 R2 d2 q2=>?_
  exact q2 _ _ _ s2 w2 (.cons .pen d2)
 ·exact z.elim
noncomputable def rQ (PK:Pk) (n:Nat) (f:List Sl->Tr Re):Sp:=λvs H Q _=>vs.length=n/\∃ pa m G as,Wd PK pa m G H/\ArsOk pa G vs as/\(f as).ok m λm' r=>Kr PK pa m' G H r Q
noncomputable def aH (f:List Sl->Tr Re) (as:List Sl->Tr (List Sl)):List Sl->Tr Re:=λρ=>(as ρ).bind f
noncomputable def aE (f:List Sl->Tr Re):List Sl->Tr PyData:=λρ=>(f ρ).bind λr=>.ret r.val
noncomputable def on (PK:Pk) (i:List Sl->Tr Re):TE:=λσ H Q=>∃ pa G₀ H₀ m ρ G,Rl PK pa G₀ H₀ m σ ρ G H/\(i ρ).ok m λm' r=>Kr PK pa m' G H r Q
theorem Kr.later {pa:Addr} {m:Nat} {G H G1 H1:Hp} {r:Re} {Q:VK} (k:Kr PK pa m G H r Q) (s:Stp pa G H G1 H1) (hp:∃ o,H1 pa=some o):Kr PK pa m G1 H1 r Q:=λv G' H' s' w' d=>by
 refine k v G' H' (s.trans s' hp) w' ?_
 cases r with
 | d x=>exact d
 | own xs =>
  obtain ⟨p,vs,e,h1,h2,h3,h4⟩:=d
  refine ⟨p,vs,e,h1,h2,?_,h4⟩
  cases e:H p with
  | none=>rfl
  | some u =>
   by_cases hc:p=pa
   ·subst hc
    obtain ⟨o,z⟩:=hp
    rw [h3] at z; cases z
   ·rw [s.hk p u e hc] at h3; cases h3
theorem Kr.of {pa:Addr} {m:Nat} {G H:Hp} {r:Re} {Q:VK} (k:Kn PK pa m G H r.val Q) (hp:∃ o,H pa=some o):Kr PK pa m G H r Q:=λv G' H' s w d=>by
 cases r with
 | d x=>exact k v G' H' s w d
 | own xs =>
  obtain ⟨p,vs,rfl,h1,h2,h3,h4⟩:=d
  exact Ko1.of k hp p vs G' H' s w h3 h2 h1 h4
theorem aI {f:List Sl->Tr Re} (h:PE X e (on PK f)):PE X e (TAe PK (aE f)):=h.imp (by
 intro σ H Q z
 obtain ⟨pa,G₀,H₀,m,ρ,G,R,z⟩:=z
 exact ⟨pa,G₀,H₀,m,ρ,G,R,Tr.ok_mono (Tr.ok_bind.mp z) λm1 r k=>Kr.of k R.wd.some⟩)
structure ACal (PK:Pk) (P:Program) (w:World) (K:PySem.W.Frag) (mg:Str->Option Value) (base:Heap) (x:Str) (k:Nat) (ps:List Str) (f:List Sl->Tr Re):Prop where
 cal:Callee P w K mg base x k ps (rQ PK ps.length f)
 len:∀ as m Z,(f as).ok m Z->as.length=ps.length
theorem aM {x:Str} {k:Nat} {ps:List Str} {f:List Sl->Tr Re} {pp:Pos} (C:ACal PK X.prog X.w X.K X.mg X.base x k ps f) (hr:Room k X.A) (hg:Gl X x) (ha:PA X (e::es) (TAa PK as))
  (hdb:(x == ("__debug__":Str))=false:=by decide)
  (he:starEach (e::es) X.env=(false,eval e X.env)::starEach es X.env:=by rfl) (hpl:(backTo pos (starEach es X.env)).any (·.1)=false:=by rfl):PE X (.Call (.Name x pp) (e::es) [] pos) (on PK (aH f as)) :=
 (ki C.cal hr hg ha hdb he hpl).imp λσ H Q hz0=>by
  obtain ⟨pa,G₀,H₀,m,ρ,G,R,z⟩:=hz0
  refine TAa.then R z λm1 xs vs G1 H1 s1 w1 R1 d1 q1=>?_
  show rQ PK ps.length f (vs++[]) H1 Q E0
  rw [List.append_nil]
  exact ⟨by rw [d1.length]; exact C.len _ _ _ q1,pa,m1,G1,xs,w1,d1,Tr.ok_mono q1 λm2 r k=>Kr.later k s1 w1.some⟩
variable {PK:Pk} {X:Cx} {a b c e:Expr} {es:List Expr} {pos:Pos} {i j l:List Sl->Tr PyData} {is:List Sl->Tr (List PyData)} {as:List Sl->Tr (List Sl)} {f:List Sl->Tr Re} {p q:List Sl->Tr Bool} {st:Stmt} {sts:List Stmt} {s t u:List Sl->Tr Ou}
noncomputable def au (s t:List Sl->Tr Ou):List Sl->Tr Ou:=λρ=>(s ρ).bind λo=>match o with
 | .next ρ'=>t ρ'
 | o=>.ret o
noncomputable def fg:List Sl->Tr Ou:=λρ=>.ret (.next ρ)
theorem Ko.later {pa:Addr} {G₀ H₀ Gs G:Hp} {D:Ends} {m:Nat} {o:Ou} (k:Ko PK pa G₀ H₀ Gs D m o) (sb:Sub Gs G):Ko PK pa G₀ H₀ G D m o:=by
 cases o with
 | next ρ=>exact λσ G' H s R=>k σ G' H (λb o h=>s b o (sb b o h)) R
 | ret r=>exact k
 | brk ρ=>exact λσ G' H s R=>k σ G' H (λb o h=>s b o (sb b o h)) R
 | cont ρ=>exact λσ G' H s R=>k σ G' H (λb o h=>s b o (sb b o h)) R
theorem Sub.refl {G:Hp}:Sub G G:=λ_ _ h=>h
theorem Sub.trans {G G1 G2:Hp} (a:Sub G G1) (b:Sub G1 G2):Sub G G2:=λc o h=>b c o (a c o h)
theorem fX:PSs X [] (bq PK fg):=mq.imp λD σ H hz0=>by
 obtain ⟨pa,G₀,H₀,m,ρ,G,R,z⟩:=hz0
 exact z σ G H .refl R
theorem Zoh:∀ D σ H,bq PK (au s t) D σ H->ZaD (bq PK s) (bq PK t) D σ H:=by
 rintro D σ H ⟨pa,G₀,H₀,m,ρ,G,R,z⟩
 refine ⟨pa,G₀,H₀,m,ρ,G,R,Tr.ok_mono (Tr.ok_bind.mp z) λm1 o k=>?_⟩
 cases o with
 | next ρ'=>exact λσ' G' H' sb R'=>⟨pa,G₀,H₀,m1,ρ',G',R',Tr.ok_mono k λ_ _ k'=>Ko.later k' sb⟩
 | ret r=>exact k
 | brk ρ'=>exact k
 | cont ρ'=>exact k
theorem ay (h1:PS X st (bq PK s)) (h2:PSs X sts (bq PK t)):PSs X (st::sts) (bq PK (au s t)):=(eQ h1 h2).imp Zoh
theorem aK (h1:PS X st (bq PK s)):PSs X [st] (bq PK s):=i6 h1
noncomputable def rW:List Sl->Tr Ou:=λ_=>.fail
theorem Zfj:PS X st (bq PK rW):=λ_ _ _ _ _ _ h=>by
 obtain ⟨pa,G₀,H₀,m,ρ,G,R,z⟩:=h
 exact z.elim
noncomputable def oh (i:List Sl->Tr PyData):List Sl->Tr Ou:=λρ=>(i ρ).bind λ_=>.ret (.next ρ)
theorem Zfk (he:PE X e (TAe PK i)) (hs:swapsWith e none pos.line X.env=pure false:=by rfl):PS X (.Expr e pos) (bq PK (oh i)):=(io he hs).imp λD σ H hz0=>by
 obtain ⟨pa,G₀,H₀,m,ρ,G,R,z⟩:=hz0
 refine TAe.then R z λm1 x v G1 H1 s1 w1 R1 d1 q1=>?_
 exact q1 σ G1 H1 s1.gs R1
noncomputable def bQ (i:List Sl->Tr PyData):List Sl->Tr Ou:=λρ=>(i ρ).bind λx=>.ret (.ret (.d x))
theorem bW (he:PE X e (TAe PK i)):PS X (.Return (some e) pos) (bq PK (bQ i)):=(im he).imp λD σ H hz0=>by
 obtain ⟨pa,G₀,H₀,m,ρ,G,R,z⟩:=hz0
 refine TAe.then R z λm1 x v G1 H1 s1 w1 R1 d1 q1=>?_
 exact q1 v G1 H1 R1.st w1 d1
noncomputable def rT (f:List Sl->Tr Re):List Sl->Tr Ou:=λρ=>(f ρ).bind λr=>.ret (.ret r)
theorem ZnY (he:PE X e (on PK f)):PS X (.Return (some e) pos) (bq PK (rT f)):=(im he).imp (by
 intro D σ H z
 obtain ⟨pa,G₀,H₀,m,ρ,G,R,z⟩:=z
 exact ⟨pa,G₀,H₀,m,ρ,G,R,Tr.ok_mono (Tr.ok_bind.mp z) λm1 r k=>Kr.later k R.st R.wd.some⟩)
noncomputable def eI (k:Nat):List Sl->Tr Ou:=λρ=>match ρ[k]? with
 | some (.d x)=>.ret (.ret (.d x))
 | some (.own xs)=>.ret (.ret (.own xs))
 | _=>.fail
theorem iD {k:Nat} (he:PE X e (eh k)):PS X (.Return (some e) pos) (bq PK (eI k)):=(im he).imp λD σ H hz0=>by
 obtain ⟨pa,G₀,H₀,m,ρ,G,R,z⟩:=hz0
 unfold eI at z
 split at z
 ·rename_i x hx
  obtain ⟨o,h1,h2⟩:=R.sl k _ hx
  cases h2 with
  | d d1=>exact ⟨_,h1,z _ G H R.st R.wd d1⟩
 ·rename_i xs hx
  obtain ⟨o,h1,h2⟩:=R.sl k _ hx
  cases h2 with
  | own a1 a2 a3 a4=>exact ⟨_,h1,z _ G H R.st R.wd ⟨_,_,rfl,a1,a2,a3,a4⟩⟩
 ·exact z.elim
noncomputable def fh (p:List Sl->Tr Bool) (s t:List Sl->Tr Ou):List Sl->Tr Ou:=λρ=>(p ρ).bind λx=>if x=true then s ρ else t ρ
theorem fY {xs ys:List Stmt} (hc:PT X c (TAt PK p)) (ha:PSs X xs (bq PK s)) (hb:PSs X ys (bq PK t)):PS X (.If c xs ys pos) (bq PK (fh p s t)):=(mv hc ha hb).imp λD σ H hz0=>by
 obtain ⟨pa,G₀,H₀,m,ρ,G,R,z⟩:=hz0
 refine TAt.then R z λm1 x G1 H1 s1 w1 R1 q1=>?_
 cases x with
 | true=>rw [if_pos rfl] at q1 ⊢; exact ⟨pa,G₀,H₀,m1,ρ,G1,R1,Tr.ok_mono q1 λ_ _ k'=>Ko.later k' s1.gs⟩
 | false=>rw [if_neg Bool.false_ne_true] at q1 ⊢; exact ⟨pa,G₀,H₀,m1,ρ,G1,R1,Tr.ok_mono q1 λ_ _ k'=>Ko.later k' s1.gs⟩
noncomputable def aS (k:Nat) (i:List Sl->Tr PyData):List Sl->Tr Ou:=λρ=>(i ρ).bind λx=>.ret (.next (ρ.set k (.d x)))
theorem aX {k:Nat} (h:PS X st (eu (TAe PK i) (eX k))):PS X st (bq PK (aS k i)):=h.imp λD σ H hz0=>by
 obtain ⟨pa,G₀,H₀,m,ρ,G,R,z⟩:=hz0
 refine TAe.then R z λm1 x v G1 H1 s1 w1 R1 d1 q1=>?_
 exact q1 _ G1 H1 s1.gs (R1.set d1 k)
noncomputable def fZ (k:Nat) (is:List Sl->Tr (List PyData)):List Sl->Tr Ou:=λρ=>(is ρ).bind λx=>.ret (.next (ρ.set k (.own x)))
theorem iC {k:Nat} (h:PS X st (eu (f8 PK is) (eX k))):PS X st (bq PK (fZ k is)):=h.imp λD σ H hz0=>by
 obtain ⟨pa,G₀,H₀,m,ρ,G,R,z⟩:=hz0
 refine ⟨pa,G₀,H₀,m,ρ,G,R,Tr.ok_mono (Tr.ok_bind.mp z) λm1 xs k' p vs G1 H1 s1 w1 h1 h2 h3 h4=>?_⟩
 exact k' _ G1 H1 s1.gs ((R.step s1 w1).setO h3 h2 (R.h0 h1) h4 (λn ys e=>R.apart h1 n ys e) k)
noncomputable def lr (f:PyData->PyData->Option PyData) (k:Nat) (i:List Sl->Tr PyData):List Sl->Tr Ou:=λρ=>(aa k ρ).bind λx=>(i ρ).bind λy=>(Tr.of (f x y)).bind λz=>.ret (.next (ρ.set k (.d z)))
theorem Zfl {k:Nat} {r:R2} {g:PyData->PyData->Option PyData} (hv:cR r g) (h:PS X st (ZaJ k (TAe PK i) r)):PS X st (bq PK (lr g k i)):=h.imp λD σ H hz0=>by
 obtain ⟨pa,G₀,H₀,m,ρ,G,R,z⟩:=hz0
 unfold lr aa at z
 split at z
 ·rename_i x hx
  obtain ⟨o,h1,h2⟩:=R.sl k _ hx
  cases h2 with
  | d d0 =>
   refine ⟨_,h1,?_⟩
   refine TAe.then R z λm1 y v G1 H1 s1 w1 R1 d1 q1=>?_
   rw [Tr.ok_bind] at q1
   obtain ⟨w,hw,q1⟩:=Tr.ok_of q1
   refine hv PK pa m1 G1 H1 _ v x y w _ w1 (d0.mono s1.gs) d1 hw λu G2 H2 s2 w2 d2=>?_
   exact q1 _ G2 H2 (s1.gs.trans s2.gs) ((R1.step s2 w2).set d2 k)
 ·exact z.elim
noncomputable def jK (k:Nat) (i:List Sl->Tr PyData):List Sl->Tr Ou:=λρ=>match ρ[k]? with
 | some (.own xs)=>(i ρ).bind λx=>if small (xs.length+1)=true then .ret (.next (ρ.set k (.own (xs++[x])))) else .fail
 | _=>.fail
theorem DnAll.snoc {H:Hp} {vs:List V} {ds:List PyData} {v:V} {d:PyData} (h:DnAll H vs ds) (h1:Dn H v d):DnAll H (vs++[v]) (ds++[d]):=h.append (.cons h1 .nil)
theorem rG {k:Nat} {K:PySem.W.Frag} {st:Stmt} (h:PS X st (lN (oZ K "list" Zcd (eh k) (ie (TAe PK i) aY)))):PS X st (bq PK (jK k i)):=h.imp λD σ H hz0=>by
 obtain ⟨pa,G₀,H₀,m,ρ,G,R,z⟩:=hz0
 unfold jK at z
 split at z
 ·rename_i xs hx
  obtain ⟨o,h1,h2⟩:=R.sl k _ hx
  cases h2 with
  | @own p vs _ a1 a2 a3 a4 =>
   refine ⟨_,h1,.inl ⟨rfl,_,SqL.of a1⟩,?_⟩
   refine TAe.then R z λm1 x v G1 H1 s1 w1 R1 d1 q1=>?_
   obtain ⟨hs,q1⟩:=fx q1
   obtain ⟨o,h1',h2⟩:=R1.sl k _ hx
   rw [h1] at h1'
   cases h1'
   cases h2 with
   | @own _ vs1 _ b1 b2 b3 b4 =>
    have hs':xs.length+1<=sizeLine:=of_decide_eq_true hs
    refine ⟨p,vs1,v,rfl,rfl,b1,by rw [b4.length]; omega,?_⟩
    exact q1 σ G1 _ s1.gs (R1.change hx h1 (b4.snoc d1))
 ·exact z.elim
theorem DnAll.set {H:Hp}:∀ {vs:List V} {ds:List PyData} {v:V} {d:PyData} (n:Nat),DnAll H vs ds->Dn H v d->DnAll H (vs.set n v) (ds.set n d)
 | _,_,_,_,_,.nil,_=>.nil
 | _,_,_,_,0,.cons _ t,h=>.cons h t
 | _,_,_,_,n+1,.cons g t,h=>.cons g (DnAll.set n t h)
noncomputable def jG (k:Nat) (n i:List Sl->Tr PyData):List Sl->Tr Ou:=λρ=>(i ρ).bind λx=>match ρ[k]? with
 | some (.own xs)=>(n ρ).bind λy=>match y with
  | .int y=>(Tr.of (cV xs.length y)).bind λt=>.ret (.next (ρ.set k (.own (xs.set t x))))
  | _=>.fail
 | _=>.fail
theorem rF {k:Nat} {n:List Sl->Tr PyData} (h:PS X st (eu (TAe PK i) (Zdv (eh k) (TAe PK n) pV))):PS X st (bq PK (jG k n i)):=h.imp λD σ H hz0=>by
 obtain ⟨pa,G₀,H₀,m,ρ,G,R,z⟩:=hz0
 refine TAe.then R z λm1 x v G1 H1 s1 w1 R1 d1 q1=>?_
 split at q1
 ·rename_i xs hx
  obtain ⟨o,h1,h2⟩:=R1.sl k _ hx
  cases h2 with
  | @own p vs _ a1 a2 a3 a4 =>
   refine ⟨_,h1,?_⟩
   refine TAe.then R1 q1 λm2 y u G2 H2 s2 w2 R2 d2 q2=>?_
   obtain ⟨o,h1',h2⟩:=R2.sl k _ hx
   rw [h1] at h1'
   cases h1'
   cases h2 with
   | @own _ vs2 _ b1 b2 b3 b4 =>
    cases d2 with
    | int y =>
     rw [Tr.ok_bind] at q2
     obtain ⟨n',hn,q2⟩:=Tr.ok_of q2
     refine ⟨p,vs2,y,n',rfl,rfl,b1,by rw [b4.length]; exact hn,?_⟩
     exact q2 σ G2 _ (s1.gs.trans s2.gs) (R2.change hx h1 (b4.set n' (d1.mono s2.gs)))
    | _=>exact q2.elim
 ·exact q1.elim
theorem DnAll.reverse {H:Hp} {vs:List V} {ds:List PyData} (h:DnAll H vs ds):DnAll H vs.reverse ds.reverse:=by
 induction vs generalizing ds with
 | nil=>cases h; exact .nil
 | cons v vs ih=>cases h with | cons r t=>rw [List.reverse_cons,List.reverse_cons]; exact DnAll.append (ih t) (.cons r .nil)
noncomputable def li (k:Nat):List Sl->Tr Ou:=λρ=>match ρ[k]? with
 | some (.own xs)=>.ret (.next (ρ.set k (.own xs.reverse)))
 | _=>.fail
theorem Zfi {k:Nat} {K:PySem.W.Frag} (h:PS X st (lN (ZaH K "list" ZbX (eh k)))):PS X st (bq PK (li k)):=h.imp λD σ H hz0=>by
 obtain ⟨pa,G₀,H₀,m,ρ,G,R,z⟩:=hz0
 unfold li at z
 split at z
 ·rename_i xs hx
  obtain ⟨o,h1,h2⟩:=R.sl k _ hx
  cases h2 with
  | @own p vs _ a1 a2 a3 a4 =>
   refine ⟨_,h1,.inl ⟨rfl,_,SqL.of a1⟩,p,vs,rfl,rfl,a1,?_⟩
   exact z σ G _ .refl (R.change hx h1 a4.reverse)
 ·exact z.elim
noncomputable def jI (k:Nat) (s:List Sl->Tr Ou):List Sl->Tr Ou:=λρ=>s (fz k ρ)
theorem nZ {k:Nat} (h:PS X st (bq PK s)):PS X st (bq PK (jI k s)):=h.imp λD σ H hz0=>by
 obtain ⟨pa,G₀,H₀,m,ρ,G,R,z⟩:=hz0
 obtain ⟨G',sb,R'⟩:=R.freeze k
 exact ⟨pa,G₀,H₀,m,_,G',R',Tr.ok_mono z λ_ _ k'=>Ko.later k' sb⟩
noncomputable def d8 (PK:Pk) (g:PyData->List Sl->Option (List Sl)):TG:=λv σ H Q=>∃ pa G₀ H₀ m ρ G x ρ',Rl PK pa G₀ H₀ m σ ρ G H/\Dn G v x/\g x ρ=some ρ'/\∀ σ',Rl PK pa G₀ H₀ m σ' ρ' G H->Q σ' H
noncomputable def oo (PK:Pk) (g:List PyData->List Sl->Option (List Sl)):gH:=λvs σ H Q=>∃ pa G₀ H₀ m ρ G xs ρ',Rl PK pa G₀ H₀ m σ ρ G H/\DnAll G vs xs/\g xs ρ=some ρ'/\∀ σ',Rl PK pa G₀ H₀ m σ' ρ' G H->Q σ' H
theorem PG.imp {tg:Expr} {t t':TG} (h:PG X tg t) (q:∀ v σ H Q,t' v σ H Q->t v σ H Q):PG X tg t':=λpins s σ H v u Q I r z=>h pins s σ H v u Q I r (q v σ H Q z)
theorem PGs.imp {tg:List Expr} {t t':gH} (h:PGs X tg t) (q:∀ v σ H Q,t' v σ H Q->t v σ H Q):PGs X tg t':=λpins s σ H v u Q I r z=>h pins s σ H v u Q I r (q v σ H Q z)
noncomputable def af (k:Nat):PyData->List Sl->Option (List Sl):=λx ρ=>some (ρ.set k (.d x))
theorem aV {k:Nat} (h:PG X e (eX k)):PG X e (d8 PK (af k)):=h.imp λv σ H Q hz0=>by
 obtain ⟨pa,G₀,H₀,m,ρ,G,x,ρ',R,d,e,q⟩:=hz0
 cases e
 exact q _ (R.set d k)
noncomputable def bc:List PyData->List Sl->Option (List Sl):=λxs ρ=>match xs with
 | []=>some ρ
 | _=>none
noncomputable def aw (g:PyData->List Sl->Option (List Sl)) (gs:List PyData->List Sl->Option (List Sl)):List PyData->List Sl->Option (List Sl):=λxs ρ=>match xs with
 | x::xs=>(g x ρ).bind λρ'=>gs xs ρ'
 | []=>none
theorem dt:PGs X [] (oo PK bc):=ZhN.imp λvs σ H Q hz0=>by
 obtain ⟨pa,G₀,H₀,m,ρ,G,xs,ρ',R,d,e,q⟩:=hz0
 cases d with
 | nil=>cases e; exact ⟨rfl,q _ R⟩
 | cons _ _=>cases e
theorem bG {g:PyData->List Sl->Option (List Sl)} {gs:List PyData->List Sl->Option (List Sl)} (h1:PG X e (d8 PK g)) (h2:PGs X es (oo PK gs))
  (hs:(assignEach (e::es) X.env).map (·.2)=assign e X.env::(assignEach es X.env).map (·.2):=by rfl):PGs X (e::es) (oo PK (aw g gs)):=(ZhO h1 h2 hs).imp λvs σ H Q hz0=>by
 obtain ⟨pa,G₀,H₀,m,ρ,G,xs,ρ',R,d,e,q⟩:=hz0
 cases d with
 | nil=>cases e
 | cons d1 d2 =>
  have e':(g _ ρ).bind (λρ'=>gs _ ρ')=some ρ':=e
  cases h:g _ ρ with
  | none=>rw [h] at e'; cases e'
  | some ρ1 =>
   rw [h] at e'
   exact ⟨_,_,rfl,pa,G₀,H₀,m,ρ,G,_,ρ1,R,d1,h,λσ1 R1=>⟨pa,G₀,H₀,m,ρ1,G,_,ρ',R1,d2,e',q⟩⟩
noncomputable def bh (gs:List PyData->List Sl->Option (List Sl)):PyData->List Sl->Option (List Sl):=λx ρ=>match x with
 | .tuple xs=>gs xs ρ
 | _=>none
noncomputable def nI (n:Nat) (gs:List PyData->List Sl->Option (List Sl)):Prop:=∀ xs ρ ρ',gs xs ρ=some ρ'->xs.length=n
theorem dm:nI 0 bc:=λxs ρ ρ' h=>by cases xs with | nil=>rfl | cons _ _=>cases h
theorem bD {n:Nat} {g:PyData->List Sl->Option (List Sl)} {gs:List PyData->List Sl->Option (List Sl)} (h:nI n gs):nI (n+1) (aw g gs):=λxs ρ ρ' e=>by
 cases xs with
 | nil=>cases e
 | cons x xs =>
  have e':(g x ρ).bind (λρ'=>gs xs ρ')=some ρ':=e
  cases h1:g x ρ with
  | none=>rw [h1] at e'; cases e'
  | some ρ1 =>
   rw [h1] at e'
   exact congrArg (·+1) (h xs ρ1 ρ' e')
theorem dw {k:Nat} {gs:List PyData->List Sl->Option (List Sl)} {n:Nat} (hc:X.calm=true) (h:PGs X es (oo PK gs)) (hl:nI n gs)
  (hn:(assignEach es X.env).length=n:=by rfl) (hst:(assignEach es X.env).findIdx? (·.1)=none:=by rfl):PG X (.Tuple es k pos) (d8 PK (bh gs)):=(ZhP hc h hn hst).imp λv σ H Q hz0=>by
 obtain ⟨pa,G₀,H₀,m,ρ,G,x,ρ',R,d,e,q⟩:=hz0
 cases d with
 | tup h1 h2=>exact ⟨_,_,rfl,SqT.of (R.wd.sub _ _ h1),by rw [h2.length]; exact hl _ _ _ e,pa,G₀,H₀,m,ρ,G,_,ρ',R,h2,e,q⟩
 | _=>cases e
noncomputable def jJ (g:PyData->List Sl->Option (List Sl)) (i:List Sl->Tr PyData):List Sl->Tr Ou:=λρ=>(i ρ).bind λx=>(Tr.of (g x ρ)).bind λρ'=>.ret (.next ρ')
theorem n4 {g:PyData->List Sl->Option (List Sl)} (h:PS X st (eu (TAe PK i) (d8 PK g))):PS X st (bq PK (jJ g i)):=h.imp λD σ H hz0=>by
 obtain ⟨pa,G₀,H₀,m,ρ,G,R,z⟩:=hz0
 refine TAe.then R z λm1 x v G1 H1 s1 w1 R1 d1 q1=>?_
 rw [Tr.ok_bind] at q1
 obtain ⟨ρ',hg,q1⟩:=Tr.ok_of q1
 exact ⟨pa,G₀,H₀,m1,ρ,G1,x,ρ',R1,d1,hg,λσ' R'=>q1 σ' G1 H1 s1.gs R'⟩
noncomputable def iG (k n:Nat) (is:List Sl->Tr (List PyData)):List Sl->Tr Ou:=λρ=>(is ρ).bind λxs=>match xs with
 | [x,y]=>.ret (.next ((ρ.set k (.d x)).set n (.d y)))
 | _=>.fail
theorem nY {k n:Nat} (h:PS X st (ZaE k n (TAd PK is))):PS X st (bq PK (iG k n is)):=h.imp λD σ H hz0=>by
 obtain ⟨pa,G₀,H₀,m,ρ,G,R,z⟩:=hz0
 refine TAd.then R z λm1 xs vs G1 H1 s1 w1 R1 d1 q1=>?_
 split at q1
 ·cases d1 with
  | cons e1 d1 =>
   cases d1 with
   | cons e2 d1 =>
    cases d1
    exact ⟨_,_,rfl,q1 _ G1 H1 s1.gs ((R1.set e1 k).set e2 n)⟩
 ·exact q1.elim
noncomputable def jO (PK:Pk) (pa:Addr) (J:It) (G:Hp) (xs:List PyData):Prop:=∀ m G2 H2,Sub G G2->Wd PK pa m G2 H2 ->
 (∀ (n:Nat) (d:PyData),xs[n]?=some d->J.go n H2/\∀ x H3,J.yld n H2 x H3->∃ G3,Stp pa G2 H2 G3 H3/\Wd PK pa m G3 H3/\Dn G3 x d)/\J.stop xs.length H2
noncomputable def dC (PK:Pk) (is:List Sl->Tr (List PyData)):TI:=λσ H R=>∃ pa G₀ H₀ m ρ G,Rl PK pa G₀ H₀ m σ ρ G H/\(is ρ).ok m λm' xs=>∀ J G' H',Stp pa G H G' H'->Wd PK pa m' G' H'->jO PK pa J G' xs->R J H'
theorem PI.imp {tg iter:Expr} {t t':TI} (h:PI X tg iter t) (q:∀ σ H R,t' σ H R->t σ H R):PI X tg iter t':=λpins s σ H R I z=>h pins s σ H R I (q σ H R z)
noncomputable def bV (g:PyData->List Sl->Option (List Sl)) (s:List Sl->Tr Ou):List PyData->List Sl->Tr Ou
 | [],ρ=>.ret (.next ρ)
 | x::xs,ρ=>(Tr.of (g x ρ)).bind λρ1=>(s ρ1).bind λo=>match o with
  | .next ρ2=>bV g s xs ρ2
  | .cont ρ2=>bV g s xs ρ2
  | .brk ρ2=>.ret (.next ρ2)
  | .ret r=>.ret (.ret r)
noncomputable def dg (is:List Sl->Tr (List PyData)) (g:PyData->List Sl->Option (List Sl)) (s:List Sl->Tr Ou):List Sl->Tr Ou:=λρ=>(is ρ).bind λxs=>bV g s xs ρ
theorem dI {tg iter:Expr} {body:List Stmt} {g:PyData->List Sl->Option (List Sl)} (hp:PassesOwn (model X.prog X.w) X.A X.env X.xe) (hc:X.calm=true) (hi:PI X tg iter (dC PK is)) (hg:PG X tg (d8 PK g)) (hb:PSs X body (bq PK s))
  (hs:∀ x,foldedSetIterable iter X.env x=pure x:=by intro _; rfl):PS X (.For tg iter body [] pos) (bq PK (dg is g s)):=(ZhH hp hc hi hg hb hs).imp λD σ H hz0=>by
 obtain ⟨pa,G₀,H₀,m,ρ,G,R,z⟩:=hz0
 refine ⟨pa,G₀,H₀,m,ρ,G,R,Tr.ok_mono (Tr.ok_bind.mp z) λm1 xs k J G1 H1 s1 w1 jo=>?_⟩
 let W:Nat->Nat->St->Hp->Prop:=λn mm σ H=>mm=xs.length - n/\n<=xs.length/\∃ m ρ G,Sub G1 G/\Rl PK pa G₀ H₀ m σ ρ G H/\(bV g s (xs.drop n) ρ).ok m (Ko PK pa G₀ H₀ G1 D)
 refine ⟨W,⟨xs.length,rfl,Nat.zero_le _,m1,ρ,G1,λ_ _ h=>h,R.step s1 w1,Tr.ok_mono k λ_ _ k'=>Ko.later k' s1.gs⟩,?_⟩
 rintro n mm σ2 H2 ⟨rfl,hn,m2,ρ2,G2,sb,R2,k2⟩
 obtain ⟨j1,j2⟩:=jo m2 G2 H2 sb R2.wd
 by_cases hlt:n < xs.length
 ·have hx:xs[n]?=some xs[n]:=by simp [hlt]
  obtain ⟨jg,jy⟩:=j1 n _ hx
  refine .inr ⟨jg,W (n+1) (xs.length - (n+1)),λσ' H' h'=>⟨_,by omega,h'⟩,λx H3 y=>?_⟩
  obtain ⟨G3,s3,w3,d3⟩:=jy x H3 y
  rw [List.drop_eq_getElem_cons hlt] at k2
  unfold bV at k2
  rw [Tr.ok_bind] at k2
  obtain ⟨ρ3,hg3,k3⟩:=Tr.ok_of k2
  refine ⟨pa,G₀,H₀,m2,ρ2,G3,_,ρ3,R2.step s3 w3,d3,hg3,λσ4 R4=>?_⟩
  refine ⟨pa,G₀,H₀,m2,ρ3,G3,R4,Tr.ok_mono (Tr.ok_bind.mp k3) λm5 o ko=>?_⟩
  have again:∀ ρ5,(bV g s (xs.drop (n+1)) ρ5).ok m5 (Ko PK pa G₀ H₀ G1 D)->∀ σ5 G5 H5,Sub G3 G5->Rl PK pa G₀ H₀ m5 σ5 ρ5 G5 H5->W (n+1) (xs.length - (n+1)) σ5 H5:=λρ5 k5 σ5 G5 H5 sb5 R5 =>
   ⟨rfl,hlt,m5,ρ5,G5,(sb.trans s3.gs).trans sb5,R5,k5⟩
  cases o with
  | next ρ5=>exact again ρ5 ko
  | cont ρ5=>exact again ρ5 ko
  | brk ρ5=>exact λσ5 G5 H5 sb5 R5=>ko σ5 G5 H5 ((sb.trans s3.gs).trans sb5) R5
  | ret r=>exact ko
 ·have e:n=xs.length:=by omega
  subst e
  refine .inl ⟨j2,?_⟩
  rw [List.drop_length] at k2
  exact k2 σ2 G2 H2 sb R2
variable {PK:Pk} {X:Cx} {a b c e:Expr} {es:List Expr} {pos:Pos} {i j l:List Sl->Tr PyData} {is:List Sl->Tr (List PyData)} {as:List Sl->Tr (List Sl)} {f:List Sl->Tr Re} {p q:List Sl->Tr Bool} {st:Stmt} {sts:List Stmt} {s t u:List Sl->Tr Ou}
noncomputable def dP (p:List Sl->Tr Bool) (s:List Sl->Tr Ou):Nat->List Sl->Tr Ou
 | 0,_=>.fail
 | n+1,ρ=>(p ρ).bind λb=>if b=true then (s ρ).bind λo=>match o with
   | .next ρ2=>dP p s n ρ2
   | .cont ρ2=>dP p s n ρ2
   | .brk ρ2=>.ret (.next ρ2)
   | .ret r=>.ret (.ret r)
  else .ret (.next ρ)
theorem Zfg {body:List Stmt} (n:Nat) (hp:PassesOwn (model X.prog X.w) X.A X.env X.xe) (hc:PT X c (TAt PK p)) (hb:PSs X body (bq PK s)):PS X (.While c body [] pos) (bq PK (dP p s n)):=(ZhF hp hc hb).imp λD σ H hz0=>by
 obtain ⟨pa,G₀,H₀,m,ρ,G,R,z⟩:=hz0
 let W:Nat->St->Hp->Prop:=λn σ H=>∃ m ρ G1,Sub G G1/\Rl PK pa G₀ H₀ m σ ρ G1 H/\(dP p s n ρ).ok m (Ko PK pa G₀ H₀ G D)
 refine ⟨W,⟨n,m,ρ,G,.refl,R,z⟩,?_⟩
 rintro n σ2 H2 ⟨m2,ρ2,G2,sb,R2,k2⟩
 cases n with
 | zero=>exact k2.elim
 | succ n =>
  unfold dP at k2
  refine TAt.then R2 k2 λm3 x G3 H3 s3 w3 R3 k3=>?_
  cases x with
  | false =>
   rw [if_neg Bool.false_ne_true] at k3 ⊢
   exact k3 σ2 G3 H3 (sb.trans s3.gs) R3
  | true =>
   rw [if_pos rfl] at k3 ⊢
   refine ⟨W n,λσ' H' h=>⟨n,by omega,h⟩,pa,G₀,H₀,m3,ρ2,G3,R3,Tr.ok_mono (Tr.ok_bind.mp k3) λm4 o ko=>?_⟩
   have again:∀ ρ5,(dP p s n ρ5).ok m4 (Ko PK pa G₀ H₀ G D)->∀ σ5 G5 H5,Sub G3 G5->Rl PK pa G₀ H₀ m4 σ5 ρ5 G5 H5->W n σ5 H5:=λρ5 k5 σ5 G5 H5 sb5 R5 =>
    ⟨m4,ρ5,G5,(sb.trans s3.gs).trans sb5,R5,k5⟩
   cases o with
   | next ρ5=>exact again ρ5 ko
   | cont ρ5=>exact again ρ5 ko
   | brk ρ5=>exact λσ5 G5 H5 sb5 R5=>ko σ5 G5 H5 ((sb.trans s3.gs).trans sb5) R5
   | ret r=>exact ko
noncomputable def rB:Sl->Sl
 | .own _=>.un
 | .dic _=>.un
 | s=>s
noncomputable def blk (n:Nat) (ix:List Nat) (ρ:List Sl):List Sl:=List.replicate n .un++ix.map λj=>rB ((ρ[j]?).getD .un)
theorem Rl.blk {pa:Addr} {G₀ H₀ G H:Hp} {m:Nat} {σ:St} {ρ:List Sl} (R:Rl PK pa G₀ H₀ m σ ρ G H) (n:Nat) (ix:List Nat):Rl PK pa G₀ H₀ m (cN n ix σ) (blk n ix ρ) G H:=by
 have key:∀ (k:Nat) (s:Sl),(L2.blk n ix ρ)[k]?=some s->(∃ o,(cN n ix σ)[k]?=some o/\SlOk pa H₀ G H o s)/\(∀ xs,s≠.own xs)/\∀ xs,s≠.dic xs:=λk s h=>by
  unfold L2.blk at h
  unfold cN
  by_cases hk:k < n
  ·rw [List.getElem?_append_left (by simpa using hk),List.getElem?_replicate,if_pos hk] at h
   rw [List.getElem?_append_left (by simpa using hk),List.getElem?_replicate,if_pos hk]
   cases h
   exact ⟨⟨_,rfl,.un⟩,(λxs h=>by cases h),λxs h=>by cases h⟩
  ·rw [List.getElem?_append_right (by simpa using Nat.le_of_not_lt hk),List.length_replicate,List.getElem?_map] at h
   rw [List.getElem?_append_right (by simpa using Nat.le_of_not_lt hk),List.length_replicate,List.getElem?_map]
   cases hj:ix[k - n]? with
   | none=>rw [hj] at h; cases h
   | some j =>
    rw [hj] at h
    have h':rB ((ρ[j]?).getD .un)=s:=Option.some.inj h
    subst h'
    show (∃ o,some ((σ[j]?).getD none)=some o/\_)/\_
    cases hr:ρ[j]? with
    | none=>exact ⟨⟨_,rfl,.un⟩,(λxs h=>by cases h),λxs h=>by cases h⟩
    | some s' =>
     obtain ⟨o,h1,h2⟩:=R.sl j s' hr
     rw [h1]
     cases h2 with
     | un=>exact ⟨⟨_,rfl,.un⟩,(λxs h=>by cases h),λxs h=>by cases h⟩
     | d z=>exact ⟨⟨_,rfl,.d z⟩,(λxs h=>by cases h),λxs h=>by cases h⟩
     | own _ _ _ _=>exact ⟨⟨_,rfl,.un⟩,(λxs h=>by cases h),λxs h=>by cases h⟩
     | dic _ _ _ _=>exact ⟨⟨_,rfl,.un⟩,(λxs h=>by cases h),λxs h=>by cases h⟩
     | pen=>exact ⟨⟨_,rfl,.pen⟩,(λxs h=>by cases h),λxs h=>by cases h⟩
 refine ⟨R.wd,R.st,R.p0,λk s h=>(key k s h).1,?_,λk n' xs ys _ h1 _=>absurd rfl ((key k _ h1).2.1 xs),λk n' xs ys _ h1 _=>absurd rfl ((key k _ h1).2.2 xs)⟩
 unfold L2.blk cN
 simp
noncomputable def fj (n:Nat) (g:PyData->List Sl->Option (List Sl)):Prop:=∀ x ρ ρ',g x ρ=some ρ'->ρ'.length=ρ.length/\∀ k,n<=k->ρ'[k]?=ρ[k]?
noncomputable def oq (n:Nat) (g:List PyData->List Sl->Option (List Sl)):Prop:=∀ x ρ ρ',g x ρ=some ρ'->ρ'.length=ρ.length/\∀ k,n<=k->ρ'[k]?=ρ[k]?
theorem bZ {n k:Nat} (h:k < n):fj n (af k):=λx ρ ρ' e=>by
 cases e
 exact ⟨List.length_set,λj hj=>List.getElem?_set_ne (by omega)⟩
theorem gk {n:Nat}:oq n bc:=λx ρ ρ' e=>by
 cases x with
 | nil=>cases e; exact ⟨rfl,λ_ _=>rfl⟩
 | cons _ _=>cases e
theorem cS {n:Nat} {g:PyData->List Sl->Option (List Sl)} {gs:List PyData->List Sl->Option (List Sl)} (h1:fj n g) (h2:oq n gs):oq n (aw g gs):=λx ρ ρ' e=>by
 cases x with
 | nil=>cases e
 | cons x xs =>
  have e':(g x ρ).bind (λρ'=>gs xs ρ')=some ρ':=e
  cases h:g x ρ with
  | none=>rw [h] at e'; cases e'
  | some ρ1 =>
   rw [h] at e'
   obtain ⟨a1,a2⟩:=h1 x ρ ρ1 h
   obtain ⟨b1,b2⟩:=h2 xs ρ1 ρ' e'
   exact ⟨b1.trans a1,λk hk=>(b2 k hk).trans (a2 k hk)⟩
theorem gj {n:Nat} {gs:List PyData->List Sl->Option (List Sl)} (h2:oq n gs):fj n (bh gs):=λx ρ ρ' e=>by
 cases x with
 | tuple xs=>exact h2 xs ρ ρ' e
 | _=>cases e
noncomputable def bB (h:PyData->Tr PyData):List PyData->Tr (List PyData)
 | []=>.ret []
 | x::xs=>(h x).bind λy=>(bB h xs).bind λys=>.ret (y::ys)
noncomputable def de (is:List Sl->Tr (List PyData)) (n:Nat) (ix:List Nat) (g:PyData->List Sl->Option (List Sl)) (el:List Sl->Tr PyData):List Sl->Tr (List PyData):=λρ =>
 (is ρ).bind λxs=>if small xs.length=true then bB (λx=>(Tr.of (g x (blk n ix ρ))).bind el) xs else .fail
theorem Rl.weak {pa:Addr} {G₀ H₀ G H:Hp} {m:Nat} {σ:St} {ρ ρ':List Sl} (R:Rl PK pa G₀ H₀ m σ ρ' G H) (hl:ρ'.length=ρ.length) (h:∀ (k:Nat) (s:Sl),ρ[k]?=some s->s=.un\/ρ'[k]?=some s):Rl PK pa G₀ H₀ m σ ρ G H:=by
 refine ⟨R.wd,R.st,R.p0,λk s hk=>?_,hl.symm.trans R.len,λk n xs ys hkn h1 h2=>?_,λk n xs ys hkn h1 h2=>?_⟩
 ·rcases h k s hk with e | e
  ·subst e
   have hlt:k < σ.length:=by
    rw [<- R.len,hl]
    exact (List.getElem?_eq_some_iff.mp hk).1
   exact ⟨σ[k],by simp [hlt],.un⟩
  ·exact R.sl k s e
 ·rcases h k _ h1 with e | e
  ·cases e
  ·rcases h n _ h2 with e' | e'
   ·cases e'
   ·exact R.dj k n xs ys hkn e e'
 ·rcases h k _ h1 with e | e
  ·cases e
  ·rcases h n _ h2 with e' | e'
   ·cases e'
   ·exact R.dj2 k n xs ys hkn e e'
theorem qD {n:Nat} {ix:List Nat} {g:PyData->List Sl->Option (List Sl)} (hn:fj n g):∀ σ H Q,f8 PK (de is n ix g i) σ H Q->iP (dC PK is) n ix (λ_=>d8 PK g) (λ_=>TAe PK i) σ H Q:=by
 rintro σ H Q ⟨pa,G₀,H₀,m,ρ,G,R,z⟩
 refine ⟨pa,G₀,H₀,m,ρ,G,R,Tr.ok_mono (Tr.ok_bind.mp z) λm1 xs k J G1 H1 s1 w1 jo=>λB=>?_⟩
 obtain ⟨hs,k⟩:=fx k
 have hs:xs.length<=sizeLine:=of_decide_eq_true hs
 let el:PyData->Tr PyData:=λx=>(Tr.of (g x (blk n ix ρ))).bind i
 let W:Nat->Nat->St->List V->Hp->Prop:=λk mm τ ys H2=>mm=xs.length - k/\k<=xs.length/\ys.length=k/\∃ m G2 ds,Sub G1 G2/\Stp pa G H G2 H2/\Rl PK pa G₀ H₀ m τ (blk n ix ρ) G2 H2 /\
  DnAll G2 ys ds/\(bB el (xs.drop k)).ok m λm' zs=>Ko1 PK pa m' G H (ds++zs) Q
 refine ⟨W,⟨xs.length,rfl,Nat.zero_le _,rfl,m1,G1,[],.refl,s1,(R.step s1 w1).blk n ix,.nil,k⟩,?_⟩
 rintro k mm τ ys H2 ⟨rfl,hk,hy,m2,G2,ds,sb,st2,R2,dn,k2⟩
 obtain ⟨j1,j2⟩:=jo m2 G2 H2 sb R2.wd
 by_cases hlt:k < xs.length
 ·have hx:xs[k]?=some xs[k]:=by simp [hlt]
  obtain ⟨jg,jy⟩:=j1 k _ hx
  refine .inr ⟨jg,by omega,λx H3 y=>?_⟩
  obtain ⟨G3,s3,w3,d3⟩:=jy x H3 y
  rw [List.drop_eq_getElem_cons hlt] at k2
  unfold bB at k2
  rw [Tr.ok_bind,Tr.ok_bind] at k2
  obtain ⟨ρ3,hg3,k3⟩:=Tr.ok_of k2
  refine ⟨pa,G₀,H₀,m2,_,G3,_,ρ3,R2.step s3 w3,d3,hg3,λτ4 R4=>?_⟩
  refine ⟨pa,G₀,H₀,m2,ρ3,G3,R4,Tr.ok_mono k3 λm5 yd k5=>?_⟩
  intro v G5 H5 s5 w5 d5
  have s35:=s3.trans s5 w3.some
  obtain ⟨pl,pk⟩:=hn _ _ _ hg3
  refine ⟨xs.length - (k+1),by omega,rfl,hlt,by rw [List.length_append,hy]; rfl,m5,G5,ds++[yd],sb.trans s35.gs,st2.trans s35 R2.wd.some,?_,(DnAll.mono s35.gs dn).snoc d5,?_⟩
  ·refine (R4.step s5 w5).weak pl λq sl hq=>?_
   by_cases hqn:q < n
   ·left
    unfold blk at hq
    rw [List.getElem?_append_left (by simpa using hqn),List.getElem?_replicate,if_pos hqn] at hq
    cases hq
    rfl
   ·right
    rw [pk q (Nat.le_of_not_lt hqn)]
    exact hq
  ·refine Tr.ok_mono (Tr.ok_bind.mp k5) λm6 zs k6=>?_
   rw [List.append_assoc]
   exact k6
 ·have e:k=xs.length:=by omega
  subst e
  refine .inl ⟨j2,λp v H' hp ev eH=>?_⟩
  subst ev eH
  rw [List.drop_length] at k2
  have k2':Ko1 PK pa m2 G H (ds++[]) Q:=k2
  rw [List.append_nil] at k2'
  exact (Ko1.later k2' st2 R2.wd.some).new R2.wd dn hp
theorem gD {n:Nat} {ix:List Nat} {g:PyData->List Sl->Option (List Sl)} (h:PE X e (iP (dC PK is) n ix (λ_=>d8 PK g) (λ_=>TAe PK i))) (hn:fj n g):PE X e (f8 PK (de is n ix g i)):=h.imp (qD hn)
theorem o2 {te te':TE} {g:TG} (h:∀ σ H Q,te' σ H Q->te σ H Q):∀ D σ H,eu te' g D σ H->eu te g D σ H:=λD σ H z=>h σ H _ z
theorem ZnW {n k:Nat} {ix:List Nat} {g:PyData->List Sl->Option (List Sl)} (h:PS X st (eu (iP (dC PK is) n ix (λ_=>d8 PK g) (λ_=>TAe PK i)) (eX k))) (hn:fj n g):PS X st (bq PK (fZ k (de is n ix g i))) :=
 iC (h.imp (o2 (qD hn)))
noncomputable def nL:Ou->Tr Re
 | .next _=>.ret (.d .none)
 | .ret r=>.ret r
 | _=>.fail
noncomputable def bp (n k:Nat) (s:List Sl->Tr Ou):List Sl->Tr Re:=λas=>if decide (as.length=n)=true then (s (as++List.replicate k .un)).bind nL else .fail
theorem Rl.start {pa:Addr} {G H:Hp} {m:Nat} {N:List Str} {vs:List V} {as:List Sl} {k:Nat} (w:Wd PK pa m G H) (ar:ArsOk pa G vs as) (hk:N.length - vs.length=k):Rl PK pa G H m (L2.start N vs) (as++List.replicate k .un) G H:=by
 have key:∀ {vs:List V} {as:List Sl},ArsOk pa G vs as->∀ (q:Nat) (s:Sl),as[q]?=some s->(∃ o,(vs.map some)[q]?=some o/\SlOk pa H G H o s)/\(∀ xs,s≠.own xs)/\∀ xs,s≠.dic xs:=by
  intro vs as h
  induction h with
  | nil=>intro q s h; simp at h
  | cons h1 h2 ih =>
   intro q s h
   cases q with
   | zero =>
    simp at h
    subst h
    cases h1 with
    | d z=>exact ⟨⟨_,rfl,.d z⟩,(λxs h=>by cases h),λxs h=>by cases h⟩
    | pen=>exact ⟨⟨_,rfl,.pen⟩,(λxs h=>by cases h),λxs h=>by cases h⟩
   | succ q =>
    obtain ⟨⟨o,p1,p2⟩,p3⟩:=ih q s (by simpa using h)
    exact ⟨⟨o,by simpa using p1,p2⟩,p3⟩
 have hl:=ar.length
 have key2:∀ (q:Nat) (s:Sl),(as++List.replicate k .un)[q]?=some s->(∃ o,(L2.start N vs)[q]?=some o/\SlOk pa H G H o s)/\(∀ xs,s≠.own xs)/\∀ xs,s≠.dic xs:=λq s h=>by
  unfold L2.start
  by_cases hq:q < as.length
  ·rw [List.getElem?_append_left hq] at h
   rw [List.getElem?_append_left (by rw [List.length_map,hl]; exact hq)]
   exact key ar q s h
  ·rw [List.getElem?_append_right (by omega),List.getElem?_replicate] at h
   rw [List.getElem?_append_right (by rw [List.length_map]; omega),List.getElem?_replicate,List.length_map,hl]
   split at h
   ·rename_i hq2
    cases h
    rw [if_pos (by omega)]
    exact ⟨⟨_,rfl,.un⟩,(λxs h=>by cases h),λxs h=>by cases h⟩
   ·cases h
 refine ⟨w,.refl,w.some,λq s h=>(key2 q s h).1,?_,λq n xs ys _ h1 _=>absurd rfl ((key2 q _ h1).2.1 xs),λq n xs ys _ h1 _=>absurd rfl ((key2 q _ h1).2.2 xs)⟩
 unfold L2.start
 simp [hl,hk]
 omega
theorem bO {P:Program} {w:World} {K:PySem.W.Frag} {mg:Str->Option Value} {base:Heap} {x:Str} {N ps:List Str} {kk k:Nat} (D:Def K mg x st ps) (S:FnScope N ps (ap st)) (hk:N.length - ps.length=k)
  (hbody:∀ (f:Addr) (cdv:Value) (A:Around) (outer:List Env) (sh:Shared) (H:Hp) (E:XK),Room kk (A.deeper (envOfC x (ap st) sh.heap.objs.size f cdv)) ->
   PSs (eD cJ P w K mg base N x (ap st) f cdv A outer sh H E).nox (db st) (bq PK s)):ACal PK P w K mg base x (kk+1) ps (bp ps.length k s):=by
 have len:∀ as m Z,(bp ps.length k s as).ok m Z->as.length=ps.length:=λas m Z h=>by
  unfold bp at h
  exact of_decide_eq_true (fx h).1
 refine ⟨D.ok S (λvs H Q E h=>h.1) λf cdv A outer sh H vs Q E hr hsp=>?_,len⟩
 obtain ⟨hv,pa,m,G,as,wd,ar,z⟩:=hsp
 refine ⟨_,hbody f cdv A outer sh H E hr,?_⟩
 unfold bp at z
 obtain ⟨_,z⟩:=fx z
 refine ⟨pa,G,H,m,_,G,Rl.start wd ar (by rw [hv]; exact hk),Tr.ok_mono (Tr.ok_bind.mp z) λm1 o ko=>?_⟩
 cases o with
 | next ρ=>exact λσ G1 H1 sb R1=>ko .non G1 H1 R1.st R1.wd .non
 | ret r=>exact ko
 | brk ρ=>exact ko.elim
 | cont ρ=>exact ko.elim
theorem ZhM {tg l:Expr} {tl:TE} (hl:PE X l tl):PI X tg l (λσ H R=>tl σ H λx H1=>∃ a,x=.ref a/\((∃ xs,SqL X.K H1 a xs/\R (sm X.K a) H1)\/(∃ xs,SqT X.K H1 a xs/\R (sj X.K a) H1))):=by
 intro pins s σ H R I h
 refine thn (hl pins s σ H _ I h) λv s1 hz0=>?_
 obtain ⟨x,H1,I1,r1,q1⟩:=hz0
 obtain ⟨a,e,q⟩:=q1
 subst e
 cases r1
 rcases q with ⟨xs,hq,q⟩ | ⟨xs,hq,q⟩
 ·obtain ⟨its,rv,p,hz⟩:=I1.list hq
  refine wpAny_pyIter_list p.isList ?_
  refine ⟨s1.heap.objs.size,[s1.heap.objs.size],_,_,H1,rfl,I1.kept (t':=s1.toks) λb o e=>Heap.get?_push_of_some _ e,Zf0 a _,⟨_,Heap.get?_push_size _ rfl,rfl,rfl⟩,λb hb=>?_,q⟩
  have e:b=s1.heap.objs.size:=by simpa using hb
  subst e
  exact I1.fpOk (Nat.le_refl _) (I1.hok.fresh (Nat.le_refl _))
 ·obtain ⟨its,rv,p,hz⟩:=I1.tuple hq
  refine wpAny_pyIter_tuple (show s1.heap.IsTuple a its.toArray from p) ?_
  refine ⟨s1.heap.objs.size,[s1.heap.objs.size],_,_,H1,rfl,I1.kept (t':=s1.toks) λb o e=>Heap.get?_push_of_some _ e,ZfX a _,⟨_,Heap.get?_push_size _ rfl,rfl,rfl⟩,λb hb=>?_,q⟩
  have e:b=s1.heap.objs.size:=by simpa using hb
  subst e
  exact I1.fpOk (Nat.le_refl _) (I1.hok.fresh (Nat.le_refl _))
theorem DnAll.get {H:Hp}:∀ {vs:List V} {ds:List PyData} (n:Nat) {d:PyData},DnAll H vs ds->ds[n]?=some d->∃ v,vs[n]?=some v/\Dn H v d
 | _,_,_,_,.nil,e=>by simp at e
 | _,_,0,_,.cons g t,e=>by simp at e; subst e; exact ⟨_,rfl,g⟩
 | _,_,n+1,_,.cons g t,e=>by
  obtain ⟨v,h1,h2⟩:=DnAll.get n t (by simpa using e)
  exact ⟨v,by simpa using h1,h2⟩
theorem Zja {K:PySem.W.Frag} {pa a:Addr} {G:Hp} {vs:List V} {xs:List PyData} (h:G a=some (.lst vs)) (d:DnAll G vs xs):jO PK pa (sm K a) G xs:=λm G2 H2 sb w=>by
 have hq:SqL K H2 a vs:=SqL.of (w.sub _ _ (sb _ _ h))
 refine ⟨λn x hx=>?_,vs,hq,by rw [d.length]; exact Nat.le_refl _⟩
 obtain ⟨v,hv,dv⟩:=d.get n hx
 refine ⟨⟨vs,v,hq,hv⟩,λy H3 hz0=>?_⟩
 obtain ⟨e,hy⟩:=hz0
 subst e
 have:=hy vs hq
 rw [hv] at this
 cases this
 exact ⟨G2,.refl,w,dv.mono sb⟩
theorem Zi9 {K:PySem.W.Frag} {pa a:Addr} {G:Hp} {vs:List V} {xs:List PyData} (h:G a=some (.tup vs)) (d:DnAll G vs xs):jO PK pa (sj K a) G xs:=λm G2 H2 sb w=>by
 have hq:SqT K H2 a vs:=SqT.of (w.sub _ _ (sb _ _ h))
 refine ⟨λn x hx=>?_,vs,hq,by rw [d.length]; exact Nat.le_refl _⟩
 obtain ⟨v,hv,dv⟩:=d.get n hx
 refine ⟨⟨vs,v,hq,hv⟩,λy H3 hz0=>?_⟩
 obtain ⟨e,hy⟩:=hz0
 subst e
 have:=hy vs hq
 rw [hv] at this
 cases this
 exact ⟨G2,.refl,w,dv.mono sb⟩
noncomputable def g5:PyData->Option (List PyData)
 | .list xs=>some xs
 | .tuple xs=>some xs
 | _=>none
@[simp] theorem ZoQ (xs:List PyData):g5 (.list xs)=some xs:=rfl
@[simp] theorem ZoP (xs:List PyData):g5 (.tuple xs)=some xs:=rfl
noncomputable def d7 (i:List Sl->Tr PyData):List Sl->Tr (List PyData):=λρ=>(i ρ).bind λx=>Tr.of (g5 x)
theorem fe {tg l:Expr} (hl:PE X l (TAe PK i)):PI X tg l (dC PK (d7 i)):=(ZhM hl).imp λσ H R0 hz0=>by
 obtain ⟨pa,G₀,H₀,m,ρ,G,R,z⟩:=hz0
 refine TAe.then R z λm1 x v G1 H1 s1 w1 R1 d1 q1=>?_
 obtain ⟨xs,hx,q1⟩:=Tr.ok_of q1
 cases d1 with
 | lst h1 h2=>cases hx; exact ⟨_,rfl,.inl ⟨_,SqL.of (w1.sub _ _ h1),q1 _ G1 H1 s1 w1 (Zja h1 h2)⟩⟩
 | tup h1 h2=>cases hx; exact ⟨_,rfl,.inr ⟨_,SqT.of (w1.sub _ _ h1),q1 _ G1 H1 s1 w1 (Zi9 h1 h2)⟩⟩
 | _=>cases hx
noncomputable def ba (lo hi:Int):List PyData:=(aB lo (hi - lo).toNat).map PyData.int
theorem Zdg {pa:Addr} {G:Hp} {lo:Int} {n:Nat}:jO PK pa (iJ lo n) G ((aB lo n).map PyData.int):=λm G2 H2 sb w=>by
 refine ⟨λk x hx=>?_,by show n<=_; rw [List.length_map,gh]; exact Nat.le_refl _⟩
 have hk:k < n:=by
  have:=(List.getElem?_eq_some_iff.mp hx).1
  rwa [List.length_map,gh] at this
 refine ⟨hk,λy H3 hz0=>?_⟩
 obtain ⟨e1,e2⟩:=hz0
 subst e1 e2
 have:x=.int (lo+k):=by
  unfold aB at hx
  simp [hk] at hx
  exact hx.symm
 subst this
 exact ⟨G2,.refl,w,.int _⟩
noncomputable def eC (n:Int):Bool:=decide (-(2 ^ 62)<=n/\n < 2 ^ 62)
noncomputable def iY:List PyData->Option (List PyData)
 | [.int n]=>if eC n=true then some (ba 0 n) else none
 | _=>none
noncomputable def iX:List PyData->Option (List PyData)
 | [.int k,.int n]=>if (eC k && eC n)=true then some (ba k n) else none
 | _=>none
noncomputable def f7 (is:List Sl->Tr (List PyData)):List Sl->Tr (List PyData):=λρ=>(is ρ).bind λxs=>Tr.of (iY xs)
noncomputable def jH (is:List Sl->Tr (List PyData)):List Sl->Tr (List PyData):=λρ=>(is ρ).bind λxs=>Tr.of (iX xs)
theorem ZbH {G:Hp} {vs:List V} {xs ys:List PyData} (d:DnAll G vs xs) (h:iY xs=some ys):∃ n:Int,vs=[.int n]/\-(2 ^ 62)<=n/\n < 2 ^ 62/\ys=ba 0 n:=by
 unfold iY at h
 split at h
 ·rename_i n
  split at h
  ·rename_i hn
   cases h
   cases d with
   | cons d1 d2 =>
    cases d2
    cases d1
    have:=of_decide_eq_true hn
    exact ⟨n,rfl,this.1,this.2,rfl⟩
  ·cases h
 ·cases h
theorem ZbG {G:Hp} {vs:List V} {xs ys:List PyData} (d:DnAll G vs xs) (h:iX xs=some ys):∃ k n:Int,vs=[.int k,.int n]/\(-(2 ^ 62)<=k/\k < 2 ^ 62/\-(2 ^ 62)<=n/\n < 2 ^ 62)/\ys=ba k n:=by
 unfold iX at h
 split at h
 ·rename_i k n
  split at h
  ·rename_i hn
   cases h
   cases d with
   | cons d1 d2 =>
    cases d2 with
    | cons d2 d3 =>
     cases d3
     cases d1
     cases d2
     rw [Bool.and_eq_true] at hn
     have h1:=of_decide_eq_true hn.1
     have h2:=of_decide_eq_true hn.2
     exact ⟨k,n,rfl,⟨h1.1,h1.2,h2.1,h2.2⟩,rfl⟩
  ·cases h
 ·cases h
theorem hV {tg e:Expr} (h:PI X tg e (Zdq (TAd PK is))):PI X tg e (dC PK (f7 is)):=h.imp λσ H R0 hz0=>by
 obtain ⟨pa,G₀,H₀,m,ρ,G,R,z⟩:=hz0
 refine TAd.then R z λm1 xs vs G1 H1 s1 w1 R1 d1 q1=>?_
 obtain ⟨ys,hy,q1⟩:=Tr.ok_of q1
 obtain ⟨n,e,h1,h2,rfl⟩:=ZbH d1 hy
 refine ⟨n,e,h1,h2,?_⟩
 have q:=q1 (iJ 0 n.toNat) G1 H1 s1 w1
 unfold ba at q
 rw [Int.sub_zero] at q
 exact q Zdg
theorem rJ {tg e:Expr} (h:PI X tg e (Zdp (TAd PK is))):PI X tg e (dC PK (jH is)):=h.imp λσ H R0 hz0=>by
 obtain ⟨pa,G₀,H₀,m,ρ,G,R,z⟩:=hz0
 refine TAd.then R z λm1 xs vs G1 H1 s1 w1 R1 d1 q1=>?_
 obtain ⟨ys,hy,q1⟩:=Tr.ok_of q1
 obtain ⟨k,n,e,h1,rfl⟩:=ZbG d1 hy
 exact ⟨k,n,e,h1,q1 (iJ k (n - k).toNat) G1 H1 s1 w1 Zdg⟩
variable {PK:Pk} {X:Cx} {a b c e:Expr} {es:List Expr} {pos:Pos} {i j l:List Sl->Tr PyData} {is:List Sl->Tr (List PyData)}
noncomputable def fit (n:Int):Bool:=decide (n.natAbs < 2 ^ 8000)
noncomputable def aP:PyData->PyData->Option PyData
 | .int m,.int n=>some (.int (m+n))
 | .tuple xs,.tuple ys=>if (!xs.isEmpty && small (xs.length+ys.length))=true then some (.tuple (xs++ys)) else none
 | .list xs,.list ys=>if small (xs.length+ys.length)=true then some (.list (xs++ys)) else none
 | _,_=>none
noncomputable def pY (K:PySem.W.Frag):R2:=λx y H Q=>eP (λi j=>.int (i+j)) x y H Q\/Zca K x y H Q\/Zcc x y H Q
theorem bg:OpR X (binaryOp .Add) (pY X.K):=iq.or (Zib.or Zid)
theorem bf {K:PySem.W.Frag}:cR (pY K) aP:=λPK pa m G H x y dx dy dz Q w hx hy hz k=>by
 unfold aP at hz
 split at hz
 ·cases hz; cases hx; cases hy
  exact .inl ⟨_,_,rfl,rfl,k.here w (.int _)⟩
 ·rename_i xs ys
  split at hz
  ·rename_i hc
   rw [Bool.and_eq_true] at hc
   have h1:xs.isEmpty=false:=by simpa using hc.1
   have h2:xs.length+ys.length<=sizeLine:=of_decide_eq_true hc.2
   cases hz
   cases hx with
   | tup a1 a2 =>
    cases hy with
    | tup b1 b2 =>
     refine .inr (.inl ⟨_,_,_,_,rfl,rfl,SqT.of (w.sub _ _ a1),SqT.of (w.sub _ _ b1),?_,by rw [a2.length,b2.length]; exact h2,λe=>?_,λe p hp=>k.tup w (a2.append b2) hp⟩)
     ·intro e
      rw [<- a2.isEmpty,e] at h1
      cases h1
     ·subst e
      cases b2
      refine k.here w ?_
      rw [List.append_nil]
      exact .tup a1 a2
  ·cases hz
 ·rename_i xs ys
  split at hz
  ·rename_i hc
   have h2:xs.length+ys.length<=sizeLine:=of_decide_eq_true hc
   cases hz
   cases hx with
   | lst a1 a2 =>
    cases hy with
    | lst b1 b2=>exact .inr (.inr ⟨_,_,_,_,rfl,rfl,w.sub _ _ a1,w.sub _ _ b1,by rw [a2.length,b2.length]; exact h2,λp hp=>k.lst w (a2.append b2) hp⟩)
  ·cases hz
 ·cases hz
noncomputable def cm:PyData->PyData->Option PyData
 | .int m,.int n=>some (.int (m - n))
 | _,_=>none
theorem cz:cR (eP λi j=>.int (i - j)) cm:=λPK pa m G H x y dx dy dz Q w hx hy hz k=>by
 unfold cm at hz
 split at hz
 ·cases hz; cases hx; cases hy
  exact ⟨_,_,rfl,rfl,k.here w (.int _)⟩
 ·cases hz
theorem DnAll.rep {H:Hp} {vs:List V} {ds:List PyData} (h:DnAll H vs ds):∀ k:Nat,DnAll H (List.replicate k vs).flatten (List.replicate k ds).flatten
 | 0=>.nil
 | k+1=>by
  rw [List.replicate_succ,List.replicate_succ,List.flatten_cons,List.flatten_cons]
  exact h.append (h.rep k)
noncomputable def Zb1 (K:PySem.W.Frag):R2:=λx y H Q=>rI CMulG (λi j=>.int (i * j)) x y H Q\/ZbY K x y H Q\/pW x y H Q
theorem bL:OpR X (binaryOp .Mult) (Zb1 X.K):=Zh7.or (Zh4.or qj)
noncomputable def bu:PyData->PyData->Option PyData
 | .int m,.int n=>if (fit m && fit n)=true then some (.int (m * n)) else none
 | .tuple xs,.int n=>if (decide (1 < n) && decide (n<=1000) && !xs.isEmpty && decide (xs.length<=1000))=true then some (.tuple (List.replicate n.toNat xs).flatten) else none
 | .list xs,.int n=>if (decide (-(2 ^ 63)<=n) && decide (n < 2 ^ 63) && small (xs.length * n.toNat))=true then some (.list (List.replicate n.toNat xs).flatten) else none
 | _,_=>none
theorem bJ {K:PySem.W.Frag}:cR (Zb1 K) bu:=λPK pa m G H x y dx dy dz Q w hx hy hz k=>by
 unfold bu at hz
 split at hz
 ·split at hz
  ·rename_i hc
   rw [Bool.and_eq_true] at hc
   cases hz; cases hx; cases hy
   exact .inl ⟨_,_,rfl,rfl,⟨of_decide_eq_true hc.1,of_decide_eq_true hc.2⟩,k.here w (.int _)⟩
  ·cases hz
 ·split at hz
  ·rename_i hc
   simp only [Bool.and_eq_true,decide_eq_true_eq,Bool.not_eq_true'] at hc
   cases hz; cases hy
   cases hx with
   | tup a1 a2 =>
    refine .inr (.inl ⟨_,_,_,rfl,rfl,SqT.of (w.sub _ _ a1),hc.1.1.1,hc.1.1.2,?_,by rw [a2.length]; exact hc.2,λp hp=>k.tup w (a2.rep _) hp⟩)
    intro e
    have:=hc.1.2
    rw [<- a2.isEmpty,e] at this
    cases this
  ·cases hz
 ·split at hz
  ·rename_i hc
   simp only [Bool.and_eq_true,decide_eq_true_eq] at hc
   cases hz; cases hy
   cases hx with
   | lst a1 a2=>exact .inr (.inr ⟨_,_,_,rfl,rfl,w.sub _ _ a1,hc.1.1,hc.1.2,by rw [a2.length]; exact of_decide_eq_true hc.2,λp hp=>k.lst w (a2.rep _) hp⟩)
  ·cases hz
 ·cases hz
noncomputable def gB:PyData->PyData->Option PyData
 | .int m,.int n=>if (decide (n≠0) && fit n)=true then some (.int (m.fdiv n)) else none
 | _,_=>none
theorem jP:cR (rI ZfI λi j=>.int (i.fdiv j)) gB:=λPK pa m G H x y dx dy dz Q w hx hy hz k=>by
 unfold gB at hz
 split at hz
 ·split at hz
  ·rename_i hc
   rw [Bool.and_eq_true] at hc
   cases hz; cases hx; cases hy
   exact ⟨_,_,rfl,rfl,⟨of_decide_eq_true hc.1,of_decide_eq_true hc.2⟩,k.here w (.int _)⟩
  ·cases hz
 ·cases hz
noncomputable def fy:PyData->PyData->Option PyData
 | .int m,.int n=>if decide (n≠0)=true then some (.int (m.fmod n)) else none
 | _,_=>none
theorem iO:cR (rI (λ_ j=>j≠0) λi j=>.int (i.fmod j)) fy:=λPK pa m G H x y dx dy dz Q w hx hy hz k=>by
 unfold fy at hz
 split at hz
 ·split at hz
  ·rename_i hc
   cases hz; cases hx; cases hy
   exact ⟨_,_,rfl,rfl,of_decide_eq_true hc,k.here w (.int _)⟩
  ·cases hz
 ·cases hz
noncomputable def gm:PyData->PyData->Option PyData
 | .int m,.int n=>if (decide (0<=n) && decide (n<=1000000) && decide (m.natAbs < 2 ^ 64))=true then some (.int (m ^ n.toNat)) else none
 | _,_=>none
theorem oN:cR (rI ZfH λi j=>.int (i ^ j.toNat)) gm:=λPK pa m G H x y dx dy dz Q w hx hy hz k=>by
 unfold gm at hz
 split at hz
 ·split at hz
  ·rename_i hc
   simp only [Bool.and_eq_true,decide_eq_true_eq] at hc
   cases hz; cases hx; cases hy
   exact ⟨_,_,rfl,rfl,⟨hc.1.1,hc.1.2,hc.2⟩,k.here w (.int _)⟩
  ·cases hz
 ·cases hz
noncomputable def gF (i:List Sl->Tr PyData):List Sl->Tr PyData:=λρ=>(i ρ).bind λx=>match x with
 | .int n=>.ret (.int (-n))
 | _=>.fail
theorem jE (ha:PE X a (TAe PK i)):PE X (.UnaryOp .USub a pos) (TAe PK (gF i)):=(ZhR ZfU ha).imp λσ H Q hz0=>by
 obtain ⟨pa,G₀,H₀,m,ρ,G,R,z⟩:=hz0
 refine TAe.then R z λm1 x v G1 H1 s1 w1 R1 d1 q1=>?_
 cases d1 with
 | int n=>exact ⟨n,rfl,(Kn.later q1 s1 w1.some).here w1 (.int _)⟩
 | _=>exact q1.elim
noncomputable def dH (f:Int->Int->Bool):PyData->PyData->Option PyData
 | .int m,.int n=>some (.bool (f m n))
 | _,_=>none
theorem eM {f:Int->Int->Bool}:cR (eP λi j=>.bl (f i j)) (dH f):=λPK pa m G H x y dx dy dz Q w hx hy hz k=>by
 unfold dH at hz
 split at hz
 ·cases hz; cases hx; cases hy
  exact ⟨_,_,rfl,rfl,k.here w (.bl _)⟩
 ·cases hz
noncomputable def jv:PyData->PyData->Option PyData
 | .str m,.str n=>some (.bool (m == n))
 | x,y=>if (SeqAt.shaped x && SeqAt.shaped y)=true then some (.bool (PyData.eqv x y)) else none
noncomputable def ky:PyData->PyData->Option PyData
 | .str m,.str n=>some (.bool (!(m == n)))
 | x,y=>if (SeqAt.shaped x && SeqAt.shaped y)=true then some (.bool (!PyData.eqv x y)) else none
noncomputable def Zb8:R2:=λx y H Q=>rEq x y H Q\/∃ d e,Dn H x d/\Dn H y e/\SeqAt.shaped d=true/\SeqAt.shaped e=true/\Q (.bl (PyData.eqv d e)) H
noncomputable def ZbZ:R2:=λx y H Q=>rNe x y H Q\/∃ d e,Dn H x d/\Dn H y e/\SeqAt.shaped d=true/\SeqAt.shaped e=true/\Q (.bl (!PyData.eqv d e)) H
theorem qo {k:Nat} (hr:Room k X.A):OpR X (compareOp .Eq) Zb8:=Zia.or (Zh9 hr)
theorem Zcy {k:Nat} (hr:Room k X.A):OpR X (compareOp .NotEq) ZbZ:=Zh6.or (Zh5 hr)
theorem oO:cR Zb8 jv:=λPK pa m G H x y dx dy dz Q w hx hy hz k=>by
 unfold jv at hz
 split at hz
 ·cases hz; cases hx; cases hy
  exact .inl ⟨rfl,by rw [nS]; exact k.here w (.bl _)⟩
 ·split at hz
  ·rename_i hc
   rw [Bool.and_eq_true] at hc
   cases hz
   exact .inr ⟨_,_,hx.mono w.sub,hy.mono w.sub,hc.1,hc.2,k.here w (.bl _)⟩
  ·cases hz
theorem Zan:cR ZbZ ky:=λPK pa m G H x y dx dy dz Q w hx hy hz k=>by
 unfold ky at hz
 split at hz
 ·cases hz; cases hx; cases hy
  exact .inl ⟨rfl,by rw [nS]; exact k.here w (.bl _)⟩
 ·split at hz
  ·rename_i hc
   rw [Bool.and_eq_true] at hc
   cases hz
   exact .inr ⟨_,_,hx.mono w.sub,hy.mono w.sub,hc.1,hc.2,k.here w (.bl _)⟩
  ·cases hz
noncomputable def aO:PyData->PyData->Option PyData
 | .list xs,.int n=>bb xs n
 | .tuple xs,.int n=>bb xs n
 | _,_=>none
theorem DnAll.at {H:Hp} {vs:List V} {ds:List PyData} {n:Int} {d:PyData} (h:DnAll H vs ds) (e:bb ds n=some d):∃ v,bb vs n=some v/\Dn H v d:=by
 unfold bb at e ⊢
 rw [<- h.length] at e
 cases hn:cV vs.length n with
 | none=>rw [hn] at e; cases e
 | some j =>
  rw [hn] at e
  exact h.get j e
theorem bv {K:PySem.W.Frag}:cR (rIx K) aO:=λPK pa m G H x y dx dy dz Q w hx hy hz k=>by
 unfold aO at hz
 split at hz
 ·cases hy
  cases hx with
  | lst a1 a2 =>
   obtain ⟨v,h1,h2⟩:=a2.at hz
   exact .inl ⟨_,_,_,v,rfl,rfl,SqL.of (w.sub _ _ a1),h1,k.here w h2⟩
 ·cases hy
  cases hx with
  | tup a1 a2 =>
   obtain ⟨v,h1,h2⟩:=a2.at hz
   exact .inr (.inl ⟨_,_,_,v,rfl,rfl,SqT.of (w.sub _ _ a1),h1,k.here w h2⟩)
 ·cases hz
noncomputable def cP:List PyData->Option PyData
 | [.list xs]=>some (.int xs.length)
 | [.tuple xs]=>some (.int xs.length)
 | _=>none
theorem ga {K:PySem.W.Frag}:fi (λxs H Q=>∃ p ys,xs=[.ref p]/\(SqL K H p ys\/SqT K H p ys)/\Q (.int ys.length) H) cP:=λPK pa m G H vs ds d Q w hv hd k=>by
 unfold cP at hd
 split at hd
 ·cases hd
  cases hv with
  | cons h1 h2 =>
   cases h2
   cases h1 with
   | lst a1 a2=>exact ⟨_,_,rfl,.inl (SqL.of (w.sub _ _ a1)),by rw [a2.length]; exact k.here w (.int _)⟩
 ·cases hd
  cases hv with
  | cons h1 h2 =>
   cases h2
   cases h1 with
   | tup a1 a2=>exact ⟨_,_,rfl,.inr (SqT.of (w.sub _ _ a1)),by rw [a2.length]; exact k.here w (.int _)⟩
 ·cases hd
noncomputable def oe (n:Int):Int:=if n < 0 then -n else n
noncomputable def jF:List PyData->Option PyData
 | [.int n]=>some (.int (oe n))
 | _=>none
theorem oQ:fi (λxs H Q=>∃ i,xs=[.int i]/\Q (.int (if i < 0 then -i else i)) H) jF:=λPK pa m G H vs ds d Q w hv hd k=>by
 unfold jF at hd
 split at hd
 ·cases hd
  cases hv with
  | cons h1 h2=>cases h2; cases h1; exact ⟨_,rfl,k.here w (.int _)⟩
 ·cases hd
noncomputable def cx (m n:Int):Int:=if n > m then n else m
noncomputable def mI (m n:Int):Int:=if n < m then n else m
noncomputable def gW:List PyData->Option PyData
 | [.int m,.int n]=>some (.int (cx m n))
 | _=>none
noncomputable def mJ:List PyData->Option PyData
 | [.int m,.int n]=>some (.int (mI m n))
 | _=>none
theorem jR:fi (λxs H Q=>∃ i j,xs=[.int i,.int j]/\Q (.int (if j > i then j else i)) H) gW:=λPK pa m G H vs ds d Q w hv hd k=>by
 unfold gW at hd
 split at hd
 ·cases hd
  cases hv with
  | cons h1 h2=>cases h2 with | cons h2 h3=>cases h3; cases h1; cases h2; exact ⟨_,_,rfl,k.here w (.int _)⟩
 ·cases hd
theorem ZfR:fi (λxs H Q=>∃ i j,xs=[.int i,.int j]/\Q (.int (if j < i then j else i)) H) mJ:=λPK pa m G H vs ds d Q w hv hd k=>by
 unfold mJ at hd
 split at hd
 ·cases hd
  cases hv with
  | cons h1 h2=>cases h2 with | cons h2 h3=>cases h3; cases h1; cases h2; exact ⟨_,_,rfl,k.here w (.int _)⟩
 ·cases hd
noncomputable def nG:List PyData->Option PyData
 | [.int n]=>some (.int n)
 | [.bool n]=>some (.int (if n then 1 else 0))
 | _=>none
theorem ZfS:fi (λxs H Q=>(∃ i,xs=[.int i]/\Q (.int i) H)\/∃ k,xs=[.bl k]/\Q (.int (if k then 1 else 0)) H) nG:=λPK pa m G H vs ds d Q w hv hd k=>by
 unfold nG at hd
 split at hd
 ·cases hd
  cases hv with
  | cons h1 h2=>cases h2; cases h1; exact .inl ⟨_,rfl,k.here w (.int _)⟩
 ·cases hd
  cases hv with
  | cons h1 h2=>cases h2; cases h1; exact .inr ⟨_,rfl,k.here w (.int _)⟩
 ·cases hd
noncomputable def gJ:List PyData->Option PyData
 | [.list xs]=>some (.tuple xs)
 | [.tuple xs]=>some (.tuple xs)
 | _=>none
theorem jQ {K:PySem.W.Frag}:fi (λxs H Q=>∃ p ys,xs=[.ref p]/\((SqL K H p ys/\∀ l,H l=none->Q (.ref l) (upd H l (.tup ys)))\/(SqT K H p ys/\Q (.ref p) H))) gJ:=λPK pa m G H vs ds d Q w hv hd k=>by
 unfold gJ at hd
 split at hd
 ·cases hd
  cases hv with
  | cons h1 h2 =>
   cases h2
   cases h1 with
   | lst a1 a2=>exact ⟨_,_,rfl,.inl ⟨SqL.of (w.sub _ _ a1),λp hp=>k.tup w a2 hp⟩⟩
 ·cases hd
  cases hv with
  | cons h1 h2 =>
   cases h2
   cases h1 with
   | tup a1 a2=>exact ⟨_,_,rfl,.inr ⟨SqT.of (w.sub _ _ a1),k.here w (.tup a1 a2)⟩⟩
 ·cases hd
noncomputable def j6 (d:PyData):Bool:=!d.hasDict && d.showable && decide (d.depth<=32) && decide (d.shown.length<=sizeLine)
noncomputable def gL:List PyData->Option PyData
 | [d]=>if j6 d=true then some (.str d.shown) else none
 | _=>none
theorem lK:fi (λxs H Q=>∃ v d,xs=[v]/\Dn H v d/\d.hasDict=false/\d.showable=true/\d.depth<=32/\d.shown.length<=sizeLine/\Q (.str d.shown) H) gL:=λPK pa m G H vs ds d Q w hv hd k=>by
 unfold gL at hd
 split at hd
 ·split at hd
  ·rename_i hc
   unfold j6 at hc
   simp only [Bool.and_eq_true,decide_eq_true_eq,Bool.not_eq_true'] at hc
   cases hd
   cases hv with
   | cons h1 h2=>cases h2; exact ⟨_,_,rfl,h1.mono w.sub,hc.1.1.1,hc.1.1.2,hc.1.2,hc.2,k.here w (.str _)⟩
  ·cases hd
 ·cases hd
noncomputable def dG (xs:List PyData) (lo hi:Option Int):List PyData:=(xs.drop (HT.aA xs.length 0 lo)).take (HT.aA xs.length xs.length hi - HT.aA xs.length 0 lo)
theorem DnAll.take {H:Hp}:∀ {vs:List V} {ds:List PyData} (n:Nat),DnAll H vs ds->DnAll H (vs.take n) (ds.take n)
 | _,_,0,_=>.nil
 | _,_,_+1,.nil=>.nil
 | _,_,n+1,.cons r t=>.cons r (DnAll.take n t)
theorem DnAll.drop {H:Hp}:∀ {vs:List V} {ds:List PyData} (n:Nat),DnAll H vs ds->DnAll H (vs.drop n) (ds.drop n)
 | _,_,0,r=>r
 | _,_,_+1,.nil=>.nil
 | _,_,n+1,.cons r t=>DnAll.drop n t
theorem DnAll.cut {H:Hp} {vs:List V} {ds:List PyData} (h:DnAll H vs ds) (lo hi:Option Int):DnAll H (e9 vs lo hi) (dG ds lo hi):=by
 unfold e9 dG
 rw [h.length]
 exact (h.drop _).take _
noncomputable abbrev c6:=List Sl->Tr (Option Int)
noncomputable def dM:c6:=λ_=>.ret none
noncomputable def dB (i:List Sl->Tr PyData):c6:=λρ=>(i ρ).bind λx=>match x with
 | .int n=>.ret (some n)
 | _=>.fail
noncomputable def TAp (PK:Pk) (i:c6):TO:=λσ H Q=>∃ pa G₀ H₀ m ρ G,Rl PK pa G₀ H₀ m σ ρ G H/\(i ρ).ok m λm' x=>∀ G' H',Stp pa G H G' H'->Wd PK pa m' G' H'->Q x H'
theorem PO.imp {e:Option Expr} {t t':TO} (h:PO X e t) (q:∀ σ H Q,t' σ H Q->t σ H Q):PO X e t':=λpins s σ H Q I z=>h pins s σ H Q I (q σ H Q z)
theorem eF:PO X none (TAp PK dM):=Zcn.imp λσ H Q hz0=>by
 obtain ⟨pa,G₀,H₀,m,ρ,G,R,z⟩:=hz0
 exact z G H .refl R.wd
theorem eE (h:PE X e (TAe PK i)):PO X (some e) (TAp PK (dB i)):=(Zcm h).imp λσ H Q hz0=>by
 obtain ⟨pa,G₀,H₀,m,ρ,G,R,z⟩:=hz0
 refine TAe.then R z λm1 x v G1 H1 s1 w1 R1 d1 q1=>?_
 cases d1 with
 | int n=>exact ⟨n,rfl,q1 G1 H1 s1 w1⟩
 | _=>exact q1.elim
theorem Zjp {prog:Program} {w:World} {A:Around} {E:Value->Shared->Prop} {s:Shared} {t sl:Addr} {items:Array Value} {vl vu:Value} {lo hi:Option Int} {Q:Value->Shared->Prop} (ht:IsTup s.heap t items) (hs:s.heap.IsSliceOf sl vl vu .none) (pl:IsPart vl lo) (pu:IsPart vu hi)
  (hw:HT.aA items.size 0 lo=0/\HT.aA items.size items.size hi=items.size) (h:Q (.ref t) s):wpAny (model prog w) A (getItem (.ref t) (.ref sl)) Q E s:=by
 obtain ⟨os,hos,hcs,hds⟩:=id hs
 have hTs:s.TypeIs (.ref sl) "slice":=⟨os,hos,hcs⟩
 unfold getItem
 try with_reducible refine wpAny_holding ?_
 first | refine wpAny_bind (wpAny_pure ?_) | skip
 refine wpAny_bind (wpAny_sequenceKey ht.typeIs (by decide) ?_)
 refine wpAny_bind (wpAny_callSpecial?_slot (name:=Str.ofString "__getitem__") ht.typeIs PyProof.Rows.slot_tuple_getitem
  (wpAny_call_entry PyProof.Rows.slot_tuple_getitem ht.typeIs entry_tuple_getitem ?_ (args_tuple_getitem _ _)))
 show wpAny _ _ (Builtin.Tuple.tupleItemsOf (.ref t) >>= _) _ _ s
 refine wpAny_bind (tupleItemsOf_ ht ?_)
 refine wpAny_bind (wpAny_typeOf hTs ?_)
 rw [if_pos (by decide)]
 refine wpAny_bind (HT.ZaX hs pl pu ?_)
 have hyes:(((HT.aA items.size 0 lo:Nat):Int) == 0 && (1:Int) == 1 && (HT.aA items.size items.size hi - HT.aA items.size 0 lo) == items.size)=true:=by
  rw [hw.1,hw.2]
  simp
 show wpAny _ _ (if (((HT.aA items.size 0 lo:Nat):Int) == 0 && (1:Int) == 1 && (HT.aA items.size items.size hi - HT.aA items.size 0 lo) == items.size)=true then _ else _) _ _ s
 rw [if_pos hyes]
 refine wpAny_bind (m:=Builtin.Tuple.tupleIsExact (.ref t)) ?_
 unfold Builtin.Tuple.tupleIsExact
 refine wpAny_bind (wpAny_typeOf ht.typeIs ?_)
 refine wpAny_pure ?_
 rw [if_pos (by decide)]
 refine wpAny_bind (wpAny_rule ?_)
 exact wpAny_pure ⟨_,rfl,wpAny_pure h⟩
noncomputable def ZbU (K:PySem.W.Frag):V->Option Int->Option Int->Hp->VK->Prop:=λx lo hi H Q=>∃ a xs,x=.ref a/\SqT K H a xs/\(HT.aA xs.length 0 lo=0/\HT.aA xs.length xs.length hi=xs.length)/\Q (.ref a) H
theorem ZgE:SlR X (ZbU X.K):=by
 intro pins s σ H x v vl vu lo hi sl Q I rx hs pl pu h
 obtain ⟨a,xs,rfl,hx,hw,q⟩:=h
 cases rx
 obtain ⟨its,r,ht,hz⟩:=I.tuple hx
 have hlen:its.toArray.size=xs.length:=by rw [List.size_toArray]; exact r.length.symm
 refine ⟨"tuple",_,PyProof.Rows.slot_tuple_getitem.lookup,ht.typeIs,?_⟩
 exact Zjp ht hs pl pu (by rw [hlen]; exact hw) ⟨.ref a,H,I,rfl,q⟩
noncomputable def Zhw (K:PySem.W.Frag):V->Option Int->Option Int->Hp->VK->Prop:=λx lo hi H Q=>ZbW K x lo hi H Q\/ZbV K x lo hi H Q\/ZbU K x lo hi H Q
theorem ZaZ:SlR X (Zhw X.K):=ZaY.or (ZgF.or ZgE)
noncomputable def ZaW (x:PyData) (lo hi:Option Int):Option PyData:=match x with
 | .list xs=>some (.list (dG xs lo hi))
 | .tuple xs=>some (.tuple (dG xs lo hi))
 | _=>none
noncomputable def d4 (i:List Sl->Tr PyData) (p q:c6):List Sl->Tr PyData:=λρ=>(i ρ).bind λx=>(p ρ).bind λlo=>(q ρ).bind λhi=>Tr.of (ZaW x lo hi)
theorem TAp.then {p:c6} {σ:St} {H:Hp} {β:Type} {k:Option Int->Tr β} {Z:Nat->β->Prop} {Q:Option Int->Hp->Prop} {pa:Addr} {G₀ H₀ G:Hp} {m:Nat} {ρ:List Sl} (R:Rl PK pa G₀ H₀ m σ ρ G H) (h:((p ρ).bind k).ok m Z)
  (hq:∀ m1 x G1 H1,Stp pa G H G1 H1->Wd PK pa m1 G1 H1->Rl PK pa G₀ H₀ m1 σ ρ G1 H1->(k x).ok m1 Z->Q x H1):TAp PK p σ H Q:=by
 refine ⟨pa,G₀,H₀,m,ρ,G,R,Tr.ok_mono (Tr.ok_bind.mp h) λm1 x hx G1 H1 s1 w1=>?_⟩
 exact hq m1 x G1 H1 s1 w1 (R.step s1 w1) hx
theorem ff {p q:c6} {lo hi:Option Expr} {p2:Pos} (he:PE X e (TAe PK i)) (hl:PO X lo (TAp PK p)) (hu:PO X hi (TAp PK q)):PE X (.Subscript e (.Slice lo hi none p2) pos) (TAe PK (d4 i p q)):=(qg ZaZ he hl hu).imp λσ H Q hz0=>by
 obtain ⟨pa,G₀,H₀,m,ρ,G,R,z⟩:=hz0
 refine TAe.then R z λm1 x v G1 H1 s1 w1 R1 d1 q1=>?_
 refine TAp.then R1 q1 λm2 lo G2 H2 s2 w2 R2 q2=>?_
 refine TAp.then R2 q2 λm3 hi G3 H3 s3 w3 R3 q3=>?_
 obtain ⟨d,hd,k⟩:=Tr.ok_of q3
 have s13:=(s1.trans s2 w1.some).trans s3 w2.some
 have k':=Kn.later k s13 w3.some
 have d3:=d1.mono (s2.gs.trans s3.gs)
 cases d3 with
 | lst a1 a2=>cases hd; exact .inl ⟨_,_,rfl,SqL.of (w3.sub _ _ a1),λp hp=>k'.lst w3 (a2.cut lo hi) hp⟩
 | @tup a xs ds a1 a2 =>
  cases hd
  by_cases hw:HT.aA xs.length 0 lo=0/\HT.aA xs.length xs.length hi=xs.length
  ·refine .inr (.inr ⟨_,_,rfl,SqT.of (w3.sub _ _ a1),hw,k'.here w3 ?_⟩)
   have e:dG ds lo hi=ds:=by
    unfold dG
    rw [<- a2.length,hw.1,hw.2]
    simp
    rw [a2.length]
    exact List.take_length
   rw [e]
   exact .tup a1 a2
  ·exact .inr (.inl ⟨_,_,rfl,SqT.of (w3.sub _ _ a1),hw,λp hp=>k'.tup w3 (a2.cut lo hi) hp⟩)
 | _=>cases hd
noncomputable def ints?:List PyData->Option (List Int)
 | []=>some []
 | .int n::xs=>(ints? xs).bind λns=>some (n::ns)
 | _=>none
@[simp] theorem ints?_map:∀ ns:List Int,ints? (ns.map PyData.int)=some ns
 | []=>rfl
 | n::ns=>by rw [List.map_cons,ints?,ints?_map ns]; rfl
theorem DnAll.ints_inv {H:Hp} {vs:List V} {ds:List PyData} {ns:List Int} (a:DnAll H vs ds) (h:ints? ds=some ns):vs=ns.map V.int/\ds=ns.map PyData.int:=by
 induction vs generalizing ds ns with
 | nil=>cases a; cases h; exact ⟨rfl,rfl⟩
 | cons v vs ih =>
  cases a with
  | cons g t =>
   cases g with
   | int n =>
    unfold ints? at h
    rename_i ds
    cases e:ints? ds with
    | none=>rw [e] at h; cases h
    | some ms =>
     rw [e] at h
     cases h
     obtain ⟨h1,h2⟩:=ih t e
     exact ⟨by rw [h1]; rfl,by rw [h2]; rfl⟩
   | _=>unfold ints? at h; cases h
section
variable {prog:Program} {w:World} {A:Around} {E:Value->Shared->Prop} {s:Shared}
noncomputable def ItAt (b:Bool) (h:Heap) (it a:Addr) (k:Nat):Prop:=match b with
 | true=>h.IsListIter it a k
 | false=>h.IsTupleIter it a k
noncomputable def SqAt (b:Bool) (h:Heap) (a:Addr) (items:Array Value):Prop:=match b with
 | true=>h.IsList a items
 | false=>h.IsTuple a items
theorem ItAt.at {b:Bool} {h h':Heap} {it a:Addr} {k:Nat} (x:ItAt b h it a k) (e:∀ o,h.get? it=some o->h'.get? it=some o):ItAt b h' it a k:=by
 cases b with
 | true=>exact Heap.IsListIter.at x e
 | false=>obtain ⟨o,ho,r⟩:=(show h.IsTupleIter it a k from x); exact ⟨o,e o ho,r⟩
theorem SqAt.at {b:Bool} {h h':Heap} {a:Addr} {items:Array Value} (x:SqAt b h a items) (e:∀ o,h.get? a=some o->h'.get? a=some o):SqAt b h' a items:=by
 cases b with
 | true=>exact Heap.IsList.at x e
 | false=>exact Heap.IsTuple.at x e
theorem ItAt.there {b:Bool} {h:Heap} {it a:Addr} {k:Nat} (x:ItAt b h it a k):∃ o,h.get? it=some o/\∀ v,o.data≠.cell v:=by
 cases b with
 | true=>obtain ⟨o,ho,_,hd⟩:=(show h.IsListIter it a k from x); exact ⟨o,ho,λv z=>by rw [hd] at z; cases z⟩
 | false=>obtain ⟨o,ho,_,hd⟩:=(show h.IsTupleIter it a k from x); exact ⟨o,ho,λv z=>by rw [hd] at z; cases z⟩
theorem Ziq {it l:Addr} {i:Nat} {items:Array Value} {x:Value} {Q:Value->Shared->Prop} (hit:s.heap.IsTupleIter it l i) (hl:s.heap.IsTuple l items) (hx:items[i]?=some x)
  (hQ:∀ h',h'.IsTupleIter it l (i+1)->Heap.SameBut it s.heap h'->Q x { s with heap:=h' }):wpAny (model prog w) A (Builtin.SmallTypes.nextOf (.ref it)) Q E s:=by
 obtain ⟨o,ho,hc,hd⟩:=id hit; obtain ⟨ol,hol,_,nl,hdl⟩:=hl
 unfold Builtin.SmallTypes.nextOf
 refine wpAny_bind (wpAny_callSpecial?_slot (name:=Str.ofString "__next__") hit.typeIs F.slot_tuple_iterator_next (wpAny_call_entry F.slot_tuple_iterator_next hit.typeIs F.entry_tuple_iterator_next ?_ (F.args_tuple_iterator_next_1 _)))
 show wpAny _ _ (field (.ref it) 0 >>= _) _ _ s; refine wpAny_bind (wpAny_field ho hd (x:=.ref l) rfl ?_)
 show wpAny _ _ (if (Value.ref l == Value.none)=true then _ else _) _ _ s; rw [if_neg (show ¬ ((Value.ref l == Value.none)=true) from Bool.false_ne_true)]
 show wpAny _ _ (field (.ref it) 1 >>= _) _ _ s; refine wpAny_bind (wpAny_field ho hd (x:=.int i 0) rfl ?_)
 show wpAny _ _ (seqItems? (.ref l) >>= _) _ _ s; refine wpAny_bind (wpAny_seqItems hol hdl ?_); simp only [Int.toNat_natCast,hx]
 refine wpAny_bind (wpAny_setField ho hd (by simp) (wpAny_pure ⟨x,rfl,wpAny_pure (hQ _ ⟨_,Heap.get?_update_self _ ho (Obj.isFreed_of_fields (Obj.data_mapFields hd _)),(Obj.cls_mapFields ..).trans hc,?_⟩ (Heap.SameBut.update ..))⟩))
 rw [Obj.data_mapFields hd]; simp [rawInt]
theorem Zir {it l:Addr} {i:Nat} {items:Array Value} {Q:Value->Shared->Prop} (hh:A.handled=none) (hit:s.heap.IsTupleIter it l i) (hl:s.heap.IsTuple l items) (hx:items[i]?=none)
  (hE:∀ h' e,Heap.ExtBut it s.heap h'->(∃ o,h'.get? e=some o/\o.cls=.type "StopIteration")->E (.ref e) { s with heap:=h' }):wpAny (model prog w) A (Builtin.SmallTypes.nextOf (.ref it)) Q E s:=by
 obtain ⟨o,ho,hc,hd⟩:=id hit; obtain ⟨ol,hol,_,nl,hdl⟩:=hl
 unfold Builtin.SmallTypes.nextOf
 refine wpAny_bind (wpAny_callSpecial?_slot (name:=Str.ofString "__next__") hit.typeIs F.slot_tuple_iterator_next (wpAny_call_entry F.slot_tuple_iterator_next hit.typeIs F.entry_tuple_iterator_next ?_ (F.args_tuple_iterator_next_1 _)))
 show wpAny _ _ (field (.ref it) 0 >>= _) _ _ s; refine wpAny_bind (wpAny_field ho hd (x:=.ref l) rfl ?_)
 show wpAny _ _ (if (Value.ref l == Value.none)=true then _ else _) _ _ s; rw [if_neg (show ¬ ((Value.ref l == Value.none)=true) from Bool.false_ne_true)]
 show wpAny _ _ (field (.ref it) 1 >>= _) _ _ s; refine wpAny_bind (wpAny_field ho hd (x:=.int i 0) rfl ?_)
 show wpAny _ _ (seqItems? (.ref l) >>= _) _ _ s; refine wpAny_bind (wpAny_seqItems hol hdl ?_); simp only [Int.toNat_natCast,hx]
 refine wpAny_bind (wpAny_rule (wpAny_bind (wpAny_setField ho hd (by simp) ?_))); show wpAny _ _ (newExc (.type "StopIteration") [] >>= _) _ _ _
 refine wpAny_bind ?_; simp only [newExc,newTuple]; refine wpAny_bind (wpAny_newObj_type ?_ (by size_fits))
 refine wpAny_bind (m:=firstArgMember _ _) (wpAny_of_eq (a:=Value.none) (by first | rfl | (simp only [firstArgMember]; rfl)) ?_); refine wpAny_newObj_type ?_ (by size_fits); simp only [raiseNew]
 refine wpAny_bind (wpAny_handled ?_); first | rw [show A.in1.handled=none from hh] | rw [hh]
 refine wpAny_bind (wpAny_pure (wpAny_throw (hE _ _ (((Heap.SameBut.update ..).extBut.push _).push _) ⟨_,Heap.get?_push_size _ rfl,rfl⟩)))
theorem Zis {b:Bool} {it l:Addr} {i:Nat} {items:Array Value} {x:Value} {Q:Value->Shared->Prop} (hit:ItAt b s.heap it l i) (hl:SqAt b s.heap l items) (hx:items[i]?=some x)
  (hQ:∀ h',ItAt b h' it l (i+1)->Heap.SameBut it s.heap h'->Q x { s with heap:=h' }):wpAny (model prog w) A (Builtin.SmallTypes.nextOf (.ref it)) Q E s:=by
 cases b with
 | true=>exact wpAny_nextOf_list_item hit hl hx hQ
 | false=>exact Ziq hit hl hx hQ
theorem Zit {b:Bool} {it l:Addr} {i:Nat} {items:Array Value} {Q:Value->Shared->Prop} (hh:A.handled=none) (hit:ItAt b s.heap it l i) (hl:SqAt b s.heap l items) (hx:items[i]?=none)
  (hE:∀ h' e,Heap.ExtBut it s.heap h'->(∃ o,h'.get? e=some o/\o.cls=.type "StopIteration")->E (.ref e) { s with heap:=h' }):wpAny (model prog w) A (Builtin.SmallTypes.nextOf (.ref it)) Q E s:=by
 cases b with
 | true=>exact wpAny_nextOf_list_end hh hit hl hx hE
 | false=>exact Zir hh hit hl hx hE
theorem SqAt.bt {b:Bool} {h h':Heap} {a c:Addr} {items:Array Value} (x:SqAt b h a items) (e:Heap.ExtBut c h h') (n:a≠c):SqAt b h' a items:=x.at λo q=>e a o n q
noncomputable def gy (b:Bool) (l:Addr):Obj:=match b with
 | true=>{ cls:=.type "list_iterator",data:=.fields #[.ref l,.int 0 0] }
 | false=>{ cls:=.type "tuple_iterator",data:=.fields #[.ref l,.int 0 0] }
theorem kg {b:Bool} {l:Addr} {items:Array Value} {Q:Value->Shared->Prop} (hl:SqAt b s.heap l items) (hQ:Q (.ref s.heap.objs.size) { s with heap:=s.heap.push (gy b l) }):wpAny (model prog w) A (pyIter (.ref l)) Q E s:=by
 cases b with
 | true=>exact wpAny_pyIter_list hl hQ
 | false=>exact wpAny_pyIter_tuple hl hQ
theorem SqAt.push {b:Bool} {h:Heap} {l:Addr} {items:Array Value} (x:SqAt b h l items) (o:Obj):SqAt b (h.push o) l items:=x.at λ_ q=>Heap.get?_push_of_some _ q
theorem qK {b:Bool} {h:Heap} {it l:Addr} (e:h.get? it=some (gy b l)):ItAt b h it l 0:=by
 cases b with
 | true=>exact ⟨_,e,rfl,rfl⟩
 | false=>exact ⟨_,e,rfl,rfl⟩
end
section
variable {X:Cx} {pins:List (Addr×Obj)} {σ:St} {H:Hp} {s:Shared} {h':Heap}
theorem Inv.turns {t':Nat} {ch:List Addr} (I:Inv X pins σ H s) (k:∀ b o,b ∉ ch->s.heap.get? b=some o->h'.get? b=some o) (hf:∀ b∈ch,fm X pins H b):Inv X pins σ H { s with heap:=h',toks:=t' }:=by
 have nit:∀ b u,H b=some u->b ∉ ch:=λb u e z=>by rw [(hf b z).1] at e; cases e
 refine I.step (g':=s.gens) (d':=s.drawn) (ch:=ch) (λb hb=>?_) (λb o _ _ hc e _=>k b o hc e) (λb o _ _ hc e _=>⟨o.slots,k b o hc e⟩) (λ_ _ _ _ n=>n)
  (λb o hc e=>⟨o,k b o hc e⟩) (λ_ _ e=>e) (λ_ _ _ e=>e) (λb ps e=>⟨#[],by rw [e]; simp⟩) (λm hm=>?_) (λb u e=>?_) I.bare
 ·obtain ⟨_,f1,_,f3,f4,f5⟩:=hf b hb
  exact ⟨f3,f1,f4,f5⟩
 ·obtain ⟨o,es,ep,ho,r⟩:=hm
  exact ⟨o,es,ep,k _ o (λz=>(hf _ z).2.1 rfl) ho,r⟩
 ·refine (I.hok b u e).stay (λc v hc q=>k c v ?_ q) (λ_ q=>q) (λ_ _ q=>q) λ_ _ _ _ q _=>q
  rcases hc with z | z
  ·rw [z]; exact nit b u e
  ·exact nit c _ z
theorem Inv.pair {T:Addr} {x y:V} {u v:Value} (I:Inv X pins σ H s) (hT:H T=none) (ho:IsPair s.heap T u v) (r1:RelV x u) (r2:RelV y v)
  (hL:T≠X.env.locals) (hs0:X.s₀.heap.objs.size<=T) (hc:∀ x c,X.env.cells.lookup x=some c->c≠T) (hp:∀ p∈X.pn++pins,p.1≠T):Inv X pins σ (upd H T (.tup [x,y])) s:=by
 have ne:∀ {b:Addr} {o:HO},H b=some o->b≠T:=λe=>cw e hT
 refine I.step (g':=s.gens) (d':=s.drawn) (t':=s.toks) (h':=s.heap) (ch:=[T]) (λb hb=>?_) (λb o _ _ _ e _=>e) (λb o _ _ _ e _=>⟨o.slots,e⟩) (λb o hb e n=>?_) (λb o _ e=>⟨o,e⟩)
  (λb xs e=>by rw [az (ne e)]; exact e) (λb o u e=>by rw [az (ne e)]; exact e) (λb ps e=>⟨#[],by rw [az (ne e),e]; simp⟩) (λm hm=>hm) (λb u e=>?_) I.bare
 ·have e:b=T:=by simpa using hb
  subst e
  exact ⟨.inr hs0,hL,hc,hp⟩
 ·have hb':b≠T:=by simpa using hb
  rw [az hb']
  exact n
 ·by_cases hb:b=T
  ·subst hb
   rw [bT] at e
   cases e
   exact ⟨by show 2<=sizeLine; decide,[_,_],.cons r1 (.cons r2 .nil),⟨_,ho,rfl,_,rfl⟩⟩
  ·rw [az hb] at e
   exact (I.hok b u e).stay (λc v _ q=>q) (λc q=>by rw [az (ne q)]; exact q) (λc xs q=>by rw [az (ne q)]; exact q) λc ob xs _ q _=>by rw [az (ne q)]; exact q
end
noncomputable def cr (b:Bool) (xs:List V):HO:=match b with
 | true=>.lst xs
 | false=>.tup xs
theorem gb {P:Program} {w:World} {H:Hp} {h:Heap} (ok:HOk P w H h) {b:Bool} {a:Addr} {xs:List V} (e:H a=some (cr b xs)):∃ its:List Value,Vals xs its/\SqAt b h a its.toArray:=by
 cases b with
 | true=>obtain ⟨_,its,n,r,q⟩:=ok a _ e; exact ⟨its,r,⟨_,q,rfl,n,rfl⟩⟩
 | false=>obtain ⟨_,its,r,q⟩:=ok a _ e; exact ⟨its,r,q⟩
end L2
namespace L2
open PySem PySem.Spec PyProof.Rows
open AutoSeq1 (wpAny_loadPart')
section
variable {X:Cx} {tg:Expr} {PK:Pk} {a b:Expr} {i j:List Sl->Tr PyData} {p pos:Pos}
theorem Zds {G:Hp} {v:V} {x:PyData} {xs:List PyData} (d:Dn G v x) (h:g5 x=some xs):∃ b a vs,v=.ref a/\G a=some (cr b vs)/\DnAll G vs xs:=by
 cases d with
 | lst h1 h2=>cases h; exact ⟨true,_,_,rfl,h1,h2⟩
 | tup h1 h2=>cases h; exact ⟨false,_,_,rfl,h1,h2⟩
 | _=>cases h
theorem Zjj {b:Bool} {xs ys:List V} (h:some (cr b xs)=some (cr b ys)):xs=ys:=by
 cases b <;> (cases h; rfl)
end
theorem Zd8 {prog:Program} {w:World} {A:Around} (hh:A.handled=none) (b:Bool) (it l:Addr) (hne:l≠it) (items:Array Value):Draws prog w A it [it,l] items.size (λi v=>items[i]?=some v) (λi h=>ItAt b h it l i/\SqAt b h l items) where
 live:=λ_ _ st=>let ⟨o,ho,_⟩:=st.1.there; ⟨o,ho⟩
 frame:=λ_ _ _ st hk=>⟨st.1.at λo e=>hk it (by simp) o e,st.2.at λo e=>hk l (by simp) o e⟩
 item:=λi s Q E hi st hQ=>Zis st.1 st.2 (x:=items[i]) (by simp [hi]) λh' hit' hs'=>hQ _ h' s.toks (by simp [hi]) ⟨hit',st.2.bt hs'.extBut hne⟩ hs'
 done:=λs Q E st hE=>Zit hh st.1 st.2 (by simp) hE
theorem ZiF (b:Bool) (l:Addr) (items:Array Value) :
  Meets (Builtin.«enumerate.__new__» ⟨[.type "enumerate",.ref l],[]⟩) (λ_ R s=>SqAt b s.heap l items /\
   R (.ok (.ret (.ref (s.heap.push (gy b l)).objs.size))) { s with heap:=(s.heap.push (gy b l)).push { cls:=.type "enumerate",data:=.fields #[.none,.bool false,.ref s.heap.objs.size,rawInt 0,.none,.none] } }) :=
 .of_wp λprog w A R s h=>by
  obtain ⟨hp,g,d,tk,os⟩:=s
  obtain ⟨hl,h⟩:=h
  have hsub:=sub_enumerate
  have q:SqAt b (Shared.heap ⟨hp,g,d,tk,os⟩) l items:=hl
  have ho:∃ ob,hp.get? l=some ob:=by
   cases b with
   | true=>obtain ⟨ob,e,_⟩:=hl; exact ⟨ob,e⟩
   | false=>obtain ⟨ob,e,_⟩:=hl; exact ⟨ob,e⟩
  obtain ⟨ob,ho⟩:=ho
  wp_walk using wpAny_loadPart' ho
  refine wpAny_stack_any λst=>wpAny_pure ?_
  split
  ·rename_i c _ _ _ _ _
   cases (c == Value.type "enumerate")
   ·wp_walk using wpAny_loadPart' ho,kg q
    exact ⟨_,rfl,h⟩
   ·wp_walk using wpAny_loadPart' ho,kg q
    exact ⟨_,rfl,h⟩
  ·wp_walk using wpAny_loadPart' ho,kg q
   exact ⟨_,rfl,h⟩
section
variable {prog:Program} {w:World} {A:Around} {E:Value->Shared->Prop} {s:Shared}
theorem Znp {b:Bool} {l:Addr} {items:Array Value} {Q:Value->Shared->Prop} (hl:SqAt b s.heap l items)
  (h:∀ h',IsEnum h' (s.heap.objs.size+1) s.heap.objs.size 0 .none->ItAt b h' s.heap.objs.size l 0->(∀ c o,s.heap.get? c=some o->h'.get? c=some o)->Q (.ref (s.heap.objs.size+1)) { s with heap:=h' }) :
  wpAny (model prog w) A (call (.type "enumerate") [.ref l]) Q E s:=by
 refine callType_new F.called_enumerate (by decide) (F.typeCall_enumerate_1 _) (F.newCall_enumerate_1 _) (λobj=>F.args_object_init_2 obj _) F.entry_enumerate_new (ZiF b l items) ⟨hl,?_⟩
 have n1:(s.heap.push (gy b l)).objs.size=s.heap.objs.size+1:=Heap.size_push ..
 have a2:IsEnum ((s.heap.push (gy b l)).push { cls:=.type "enumerate",data:=.fields #[.none,.bool false,.ref s.heap.objs.size,rawInt 0,.none,.none] }) (s.heap.push (gy b l)).objs.size s.heap.objs.size 0 .none:=Heap.get?_push_size _ rfl
 have a1:((s.heap.push (gy b l)).push { cls:=.type "enumerate",data:=.fields #[.none,.bool false,.ref s.heap.objs.size,rawInt 0,.none,.none] }).get? s.heap.objs.size=some (gy b l):=Heap.get?_push_of_some _ (Heap.get?_push_size _ (by cases b <;> rfl))
 rw [n1] at a2
 show _/\_
 rw [n1]
 exact ⟨⟨_,a2,rfl⟩,h _ a2 (qK a1) λc o x=>Heap.get?_push_of_some _ (Heap.get?_push_of_some _ x)⟩
end
noncomputable def iK (b:Bool) (l:Addr):It :=
 ⟨λi H=>∃ xs x,H l=some (cr b xs)/\xs[i]?=some x,
  λi H v H'=>∃ xs x p,H l=some (cr b xs)/\xs[i]?=some x/\H p=none/\v=.ref p/\H'=upd H p (.tup [.int i,x]),
  λi H=>∃ xs,H l=some (cr b xs)/\xs.length=i⟩
theorem Zf1 {P:Program} {w:World} {K:PySem.W.Frag} {elts:List Expr} {x1:Nat} {pos:Pos} {b:Bool} {l:Addr} (e it:Addr) (hne:e≠it) :
  Turn P w K (.Tuple elts x1 pos) (iK b l) [e,it] e (λi h=>(∃ old,IsEnum h e it i old)/\ItAt b h it l i) where
 mem:=by simp
 obj:=λi h st c hb=>by
  obtain ⟨⟨old,he⟩,h1⟩:=st
  simp at hb
  rcases hb with rfl | rfl
  ·exact ⟨_,he,λv q=>by cases q⟩
  ·exact h1.there
 keep:=λi h h' st k=>by
  obtain ⟨⟨old,he⟩,h1⟩:=st
  exact ⟨⟨old,k _ (by simp) _ he⟩,h1.at λo q=>k _ (by simp) o q⟩
 item:=by
  intro X hP hw hK hc i pins s σ H E I hf st hg
  subst hP hw hK
  obtain ⟨xs,x,e1,hx⟩:=hg
  obtain ⟨⟨old,he⟩,h1⟩:=st
  obtain ⟨us,r1,q1⟩:=gb I.hok e1
  obtain ⟨u,hu,ru⟩:=r1.get hx
  have nl:∀ c∈[e,it],l≠c:=λc hc=>cw e1 (hf c hc).1
  have hlt:i < us.toArray.size:=by
   have:=(List.getElem?_eq_some_iff.mp hu).1
   simpa using this
  refine wpAny_pyNext_enum_itemD (Zd8 (A:=X.A.in1) (show X.A.in1.handled=none from I.ok.hd hc) b it l (nl it (by simp)) us.toArray) he ⟨h1,q1⟩ hlt hne (by simp only [List.mem_cons,List.not_mem_nil,or_false,not_or]; exact ⟨hne,(nl e (by simp)).symm⟩) λx' h' tk hP' ho st' hT hsz kk=>?_
  have hxu:x'=u:=by
   have q:us[i]?=some x':=by simpa using hP'
   rw [hu] at q
   cases q
   rfl
  subst hxu
  refine ⟨_,rfl,wpAny_letOwnedTupleGo_enum ho λh2' z2 sb=>?_⟩
  have lt:∀ {c:Addr} {o:Obj},s.heap.get? c=some o->s.heap.objs.size≠c:=λq=>Nat.ne_of_gt (Heap.lt_size q)
  have I1:Inv X pins σ H { s with heap:=h2',toks:=tk+1 }:=I.turns (ch:=[e,it]) (λc o hb q=>by
   simp at hb
   exact sb.extBut _ _ hb.1 (kk c o hb.1 hb.2 q)) hf
  have hTn:H s.heap.objs.size=none:=I.hok.fresh (Nat.le_refl _)
  have I2:=I1.pair (T:=s.heap.objs.size) (x:=.int i) (y:=x) hTn (sb.extBut _ _ (lt he) hT) ⟨tk,rfl⟩ ru (Nat.ne_of_gt I.lt) I.sz
   (λq cc ee hq=>by obtain ⟨vv,zz⟩:=I.cell q cc ee; exact absurd zz.lt (by rw [hq]; exact Nat.lt_irrefl _)) (λp hp hq=>absurd (Heap.lt_size (I.pin p hp).1) (by rw [hq]; exact Nat.lt_irrefl _))
  refine ⟨.ref s.heap.objs.size,_,I2,rfl,⟨xs,x,_,e1,hx,hTn,rfl,rfl⟩,⟨⟨_,z2⟩,st'.1.at λo q=>sb.extBut _ _ (Ne.symm hne) q⟩,λc hb=>?_⟩
  have hbn:c≠s.heap.objs.size:=by
   simp at hb
   obtain ⟨o1,g1,_⟩:=h1.there
   rcases hb with rfl | rfl
   ·exact (lt he).symm
   ·exact (lt g1).symm
  rw [az hbn]
  exact (hf c hb).1
 done:=by
  intro X hP hw hK hc i pins s σ H E I hf st hg
  subst hP hw hK
  obtain ⟨xs,e1,hend⟩:=hg
  obtain ⟨⟨old,he⟩,h1⟩:=st
  obtain ⟨us,r1,q1⟩:=gb I.hok e1
  have nl:∀ c∈[e,it],l≠c:=λc hc=>cw e1 (hf c hc).1
  have hsz:us.toArray.size=i:=by rw [List.size_toArray,<- r1.length]; exact hend
  subst hsz
  refine wpAny_pyNext_enum_endD (Zd8 (A:=X.A.in1) (show X.A.in1.handled=none from I.ok.hd hc) b it l (nl it (by simp)) us.toArray) he ⟨h1,q1⟩ λh' eb=>⟨rfl,?_⟩
  exact I.turns (ch:=[e,it]) (t':=s.toks) (λc o hb q=>by
   simp at hb
   exact eb c o hb.2 q) hf
 self:=λ_ _ _ _ _ st h=>by
  obtain ⟨⟨old,he⟩,_⟩:=st
  exact wpAny_pyIter_enum he h
section
variable {X:Cx} {tg:Expr} {PK:Pk} {a b:Expr} {i j:List Sl->Tr PyData} {p pos:Pos}
noncomputable def Zdr (ta:TE):TI:=λσ H R=>ta σ H λx H1=>∃ b l xs,x=.ref l/\H1 l=some (cr b xs)/\R (iK b l) H1
theorem gQ {elts:List Expr} {x1:Nat} {tpos:Pos} {ta:TE} (hc:X.calm=true) (hg:Gl X "enumerate") (hm:X.mg "enumerate"=none) (ha:PE X a ta)
  (hs:starEach [a] X.env=[(false,eval a X.env)]:=by rfl):PI X (.Tuple elts x1 tpos) (.Call (.Name "enumerate" p) [a] [] pos) (Zdr ta):=by
 intro pins s σ H R I h
 have hab:PA X [a] (ie ta aY):=cB ha cT (by rw [hs]; rfl)
 have h':ie ta aY σ H λvs H1=>∃ x,vs=[x]/\∃ b l xs,x=.ref l/\H1 l=some (cr b xs)/\R (iK b l) H1:=by
  have e:(λ(x:V) (H1:Hp)=>∃ b l xs,x=.ref l/\H1 l=some (cr b xs)/\R (iK b l) H1)=λx H1=>aY σ H1 λxs H2=>∃ y,x::xs=[y]/\∃ b l xs,y=.ref l/\H2 l=some (cr b xs)/\R (iK b l) H2:=by
   funext x H1
   apply propext
   constructor
   ·exact λq=>⟨x,rfl,q⟩
   ·rintro ⟨y,e,q⟩
    have e':x=y:=by simpa using e
    subst e'
    exact q
  have h0:ta σ H λx H1=>∃ b l xs,x=.ref l/\H1 l=some (cr b xs)/\R (iK b l) H1:=h
  rw [e] at h0
  exact h0
 refine Call_ (jn I hg hm boot_enumerate (PyProof.Rows.callWith_type1 (thn (hab pos pins s σ H _ I h') λus s1 hz0=>?_) (by rw [hs]; rfl) rfl))
 obtain ⟨vs,H1,I1,r1,q1⟩:=hz0
 obtain ⟨x,rfl,b,l,xs,rfl,e1,q⟩:=q1
 obtain ⟨u,rfl,ru⟩:=fq r1
 cases ru
 obtain ⟨us,ru,q1⟩:=gb I1.hok e1
 refine Znp q1 λh' z t1 kk=>?_
 have I2:Inv X pins σ H1 { s1 with heap:=h' }:=I1.kept (t':=s1.toks) kk
 refine wpAny_pyIter_enum z ⟨s1.heap.objs.size+1,[s1.heap.objs.size+1,s1.heap.objs.size],_,_,H1,rfl,I2,Zf1 _ _ (λq=>absurd (show (s1.heap.objs.size+1:Nat)=s1.heap.objs.size from q) (by omega)),⟨⟨_,z⟩,t1⟩,λc hb=>?_,q⟩
 have hle:s1.heap.objs.size<=c:=by
  simp at hb
  rcases hb with rfl | rfl <;> first | exact Nat.le_add_right _ _ | exact Nat.le_refl _
 exact I1.fpOk hle (I1.hok.fresh hle)
noncomputable def cG (xs:List PyData):List PyData:=(List.range xs.length).zipWith (λ(n:Nat) x=>.tuple [.int n,x]) xs
theorem Zjb {pa:Addr} {G:Hp} {b:Bool} {l:Addr} {us:List V} {xs:List PyData} (h1:G l=some (cr b us)) (d1:DnAll G us xs):jO PK pa (iK b l) G (cG xs):=λm G2 H2 sb w=>by
 have e1:H2 l=some (cr b us):=w.sub _ _ (sb _ _ h1)
 have hlen:(cG xs).length=xs.length:=by unfold cG; simp
 refine ⟨λn d hd=>?_,us,e1,by rw [hlen,d1.length]⟩
 have hn:n < xs.length:=by rw [<- hlen]; exact (List.getElem?_eq_some_iff.mp hd).1
 have hd':d=.tuple [.int n,xs[n]]:=by
  unfold cG at hd
  rw [List.getElem?_zipWith] at hd
  simp [hn] at hd
  exact hd.symm
 subst hd'
 obtain ⟨u,hu,du⟩:=d1.get n (show xs[n]?=some xs[n] by simp [hn])
 refine ⟨⟨us,u,e1,hu⟩,λx H3 hz0=>?_⟩
 obtain ⟨us',u',p,f1,hu',hp,ex,eH⟩:=hz0
 rw [e1] at f1
 have:=Zjj f1
 subst us'
 rw [hu] at hu'
 cases hu'
 subst ex eH
 obtain ⟨w3,s3⟩:=w.new (o:=.tup [.int n,u]) hp
 exact ⟨_,s3,w3,.tup bT (.cons (.int n) (.cons ((du.mono sb).mono s3.gs) .nil))⟩
noncomputable def fI (i:List Sl->Tr PyData):List Sl->Tr (List PyData):=λρ=>(i ρ).bind λx=>(Tr.of (g5 x)).bind λxs=>.ret (cG xs)
theorem hY {iter:Expr} (h:PI X tg iter (Zdr (TAe PK i))):PI X tg iter (dC PK (fI i)):=h.imp λσ H R0 hz0=>by
 obtain ⟨pa,G₀,H₀,m,ρ,G,R,z⟩:=hz0
 refine TAe.then R z λm1 x v G1 H1 s1 w1 R1 d1 q1=>?_
 rw [Tr.ok_bind] at q1
 obtain ⟨xs,hx,q1⟩:=Tr.ok_of q1
 obtain ⟨b1,l1,us,rfl,e1,f1⟩:=Zds d1 hx
 exact ⟨b1,l1,us,rfl,w1.sub _ _ e1,q1 _ G1 H1 s1 w1 (Zjb e1 f1)⟩
end
end L2
namespace L2
open PySem PySem.Spec PyProof.Rows
section
variable {prog:Program} {w:World} {A:Around}
theorem Zal (hh:A.handled=none) (b:Bool) (I ax:Addr) (hne:ax≠I) (items:Array Value):Walks prog w A I [I,ax] [I] items.size (λi v=>items[i]?=some v) (λi h=>ItAt b h I ax i/\SqAt b h ax items):=by
 cases b with
 | true=>exact Walks.list hh I ax hne items
 | false=>exact Walks.tuple hh I ax hne items
end
theorem qM {ns:List Int} {us:List Value} (r:Vals (ns.map V.int) us) {i:Nat} {v:Value} (h:us[i]?=some v):∃ t,v=.int ((ns[i]?).getD 0) t:=by
 have hi:i < us.length:=(List.getElem?_eq_some_iff.mp h).1
 have hl:us.length=ns.length:=by rw [<- r.length,List.length_map]
 obtain ⟨u,e1,e2⟩:=r.get (i:=i) (x:=V.int ns[i]) (by simp [show i < ns.length by omega])
 rw [h] at e1
 cases e1
 obtain ⟨t,e2⟩:=e2
 exact ⟨t,by simp [show i < ns.length by omega,e2]⟩
theorem ZhJ (ns:List Int):preSum (λi=>(ns[i]?).getD 0) ns.length=ns.sum:=by
 have key:∀ k,k<=ns.length->preSum (λi=>(ns[i]?).getD 0) k=(ns.take k).sum:=by
  intro k
  induction k with
  | zero=>intro _; simp [preSum]
  | succ k ih =>
   intro hk
   rw [preSum,ih (by omega),List.take_add_one,List.sum_append]
   simp [show k < ns.length by omega]
 rw [key _ (Nat.le_refl _),List.take_length]
section
variable {X:Cx} {PK:Pk}
theorem fV (hc:X.calm=true):dO X (.builtin "sum") (λxs H Q=>∃ (b:Bool) (l:Addr) (ns:List Int),xs=[.ref l]/\H l=some (cr b (ns.map V.int))/\Q (.int ns.sum) H):=by
 intro pins s σ H xs us Q I r h
 obtain ⟨b,l,ns,rfl,e1,q⟩:=h
 obtain ⟨u,rfl,ru⟩:=fq r
 cases ru
 obtain ⟨vs,rv,sq⟩:=gb I.hok e1
 have hlt:l < s.heap.objs.size:=I.hok.lt e1
 refine call_sum_walkG (kg sq ?_)
 refine ⟨s.heap.objs.size,[s.heap.objs.size,l],[s.heap.objs.size],vs.toArray.size,_,_,λi=>(ns[i]?).getD 0,rfl,Zal (A:=X.A.in1) (I.ok.hd hc) b _ l (Nat.ne_of_lt hlt) vs.toArray,
  ⟨qK (Heap.get?_push_size _ (by cases b <;> rfl)),sq.push _⟩,λc hc=>?_,λi v hv=>qM rv (by simpa using hv),λh' tk t' hk=>?_⟩
 ·rw [Heap.size_push]
  simp at hc
  rcases hc with rfl | rfl
  ·exact Nat.lt_succ_self _
  ·exact Nat.lt_succ_of_lt hlt
 ·refine ⟨.int ns.sum,H,I.kept (t':=tk) λc o e=>hk c o (λz=>?_) (Heap.get?_push_of_some _ e),⟨t',?_⟩,q⟩
  ·have:c=s.heap.objs.size:=by simpa using z
   subst this
   exact Nat.lt_irrefl _ (Heap.lt_size e)
  ·have e:vs.toArray.size=ns.length:=by rw [List.size_toArray,<- rv.length,List.length_map]
   rw [e,ZhJ]
noncomputable def eU:List Int->Int
 | []=>0
 | [n]=>n
 | n::m::r=>cx (eU (m::r)) n
theorem iy:∀ {ns:List Int},ns≠[]->eU ns∈ns/\∀ m∈ns,m<=eU ns
 | [],h=>absurd rfl h
 | [n],_=>⟨by simp [eU],by simp [eU]⟩
 | n::m::r,_=>by
  obtain ⟨h1,h2⟩:=iy (ns:=m::r) (by simp)
  unfold eU cx
  split
  ·refine ⟨by simp,λk hk=>?_⟩
   rcases List.mem_cons.mp hk with rfl | hk
   ·exact Int.le_refl _
   ·have:=h2 k hk; omega
  ·refine ⟨List.mem_cons_of_mem _ h1,λk hk=>?_⟩
   rcases List.mem_cons.mp hk with rfl | hk
   ·omega
   ·exact h2 k hk
theorem Ze3 (f:Nat->Int):∀ k,argBest (λi j=>decide (f i > f j)) k<=k/\∀ j,j<=k->f j<=f (argBest (λi j=>decide (f i > f j)) k)
 | 0=>⟨Nat.le_refl _,λj hj=>by
  have:j=0:=by omega
  subst this
  exact Int.le_refl _⟩
 | k+1=>by
  obtain ⟨h1,h2⟩:=Ze3 f k
  unfold argBest
  by_cases hc:f (k+1) > f (argBest (λi j=>decide (f i > f j)) k)
  ·rw [if_pos (by simpa using hc)]
   refine ⟨Nat.le_refl _,λj hj=>?_⟩
   rcases Nat.lt_or_eq_of_le hj with h | h
   ·have:=h2 j (by omega); omega
   ·subst h; exact Int.le_refl _
  ·rw [if_neg (by simpa using hc)]
   refine ⟨by omega,λj hj=>?_⟩
   rcases Nat.lt_or_eq_of_le hj with h | h
   ·exact h2 j (by omega)
   ·subst h; omega
theorem ZeJ (hc:X.calm=true):dO X (.builtin "max") (λxs H Q=>∃ (b:Bool) (l:Addr) (ns:List Int),xs=[.ref l]/\H l=some (cr b (ns.map V.int))/\ns≠[]/\Q (.int (eU ns)) H):=by
 intro pins s σ H xs us Q I r h
 obtain ⟨b,l,ns,rfl,e1,hne,q⟩:=h
 obtain ⟨u,rfl,ru⟩:=fq r
 cases ru
 obtain ⟨vs,rv,sq⟩:=gb I.hok e1
 have hlt:l < s.heap.objs.size:=I.hok.lt e1
 have hsz:vs.toArray.size=ns.length:=by rw [List.size_toArray,<- rv.length,List.length_map]
 have hpos:0 < ns.length:=List.length_pos_iff.mpr hne
 refine call_max_walk (kg sq ?_)
 refine ⟨s.heap.objs.size,[s.heap.objs.size,l],[s.heap.objs.size],vs.toArray.size,_,_,λi j=>decide ((ns[i]?).getD 0 > (ns[j]?).getD 0),rfl,Zal (A:=X.A.in1) (I.ok.hd hc) b _ l (Nat.ne_of_lt hlt) vs.toArray,
  ⟨qK (Heap.get?_push_size _ (by cases b <;> rfl)),sq.push _⟩,λc hc=>?_,by omega,CmpOf.ints_gt (λi=>(ns[i]?).getD 0) (λi v hv=>qM rv (by simpa using hv)),λv h' tk hv hk=>?_⟩
 ·rw [Heap.size_push]
  simp at hc
  rcases hc with rfl | rfl
  ·exact Nat.lt_succ_self _
  ·exact Nat.lt_succ_of_lt hlt
 ·obtain ⟨t,rfl⟩:=qM rv (by rw [<- List.getElem?_toArray]; exact hv)
  obtain ⟨b1,b2⟩:=Ze3 (λi=>(ns[i]?).getD 0) (vs.toArray.size - 1)
  obtain ⟨m1,m2⟩:=iy hne
  refine ⟨.int (eU ns),H,I.kept (t':=tk) λc o e=>hk c o (λz=>?_) (Heap.get?_push_of_some _ e),⟨t,?_⟩,q⟩
  ·have:c=s.heap.objs.size:=by simpa using z
   subst this
   exact Nat.lt_irrefl _ (Heap.lt_size e)
  ·congr 1
   obtain ⟨i,hi,ei⟩:=List.getElem_of_mem m1
   have h1:=b2 i (by omega)
   simp only [hi,List.getElem?_eq_getElem,Option.getD_some,ei] at h1
   have hb:argBest (λi j=>decide ((ns[i]?).getD 0 > (ns[j]?).getD 0)) (vs.toArray.size - 1) < ns.length:=by omega
   have h2:=m2 _ (List.getElem_mem hb)
   simp only [hb,List.getElem?_eq_getElem,Option.getD_some] at h1 ⊢
   omega
noncomputable def bools?:List PyData->Option (List Bool)
 | []=>some []
 | .bool n::xs=>(bools? xs).bind λns=>some (n::ns)
 | _=>none
@[simp] theorem bools?_map:∀ ns:List Bool,bools? (ns.map PyData.bool)=some ns
 | []=>rfl
 | n::ns=>by rw [List.map_cons,bools?,bools?_map ns]; rfl
noncomputable def ir {α:Type} (p:List PyData->Option α) (f:α->Option PyData):List PyData->Option PyData
 | [x]=>(g5 x).bind λxs=>(p xs).bind f
 | _=>none
noncomputable def cF:List PyData->Option PyData:=ir ints? λns=>some (.int ns.sum)
noncomputable def jh:List PyData->Option PyData:=ir ints? λns=>if (!ns.isEmpty)=true then some (.int (eU ns)) else none
theorem Zcz {α:Type} {p:List PyData->Option α} {f:α->Option PyData} {G:Hp} {vs:List V} {ds:List PyData} {d:PyData} (hv:DnAll G vs ds) (h:ir p f ds=some d):∃ b l us xs y,vs=[.ref l]/\G l=some (cr b us)/\DnAll G us xs/\p xs=some y/\f y=some d:=by
 unfold ir at h
 split at h
 ·rename_i x
  cases hx:g5 x with
  | none=>rw [hx] at h; cases h
  | some xs =>
   rw [hx] at h
   have h':(p xs).bind f=some d:=h
   cases hp:p xs with
   | none=>rw [hp] at h'; cases h'
   | some y =>
    rw [hp] at h'
    cases hv with
    | cons h1 h2 =>
     cases h2
     obtain ⟨b,l,us,rfl,e1,e2⟩:=Zds h1 hx
     exact ⟨b,l,us,xs,y,rfl,e1,e2,hp,h'⟩
 ·cases h
theorem fJ:fi (λxs H Q=>∃ (b:Bool) (l:Addr) (ns:List Int),xs=[.ref l]/\H l=some (cr b (ns.map V.int))/\Q (.int ns.sum) H) cF:=λPK pa m G H vs ds d Q w hv hd k=>by
 obtain ⟨b,l,us,xs,ns,rfl,e1,e2,hp,hf⟩:=Zcz hv hd
 obtain ⟨rfl,rfl⟩:=e2.ints_inv hp
 cases hf
 exact ⟨b,l,ns,rfl,w.sub _ _ e1,k.here w (.int _)⟩
theorem Zap:fi (λxs H Q=>∃ (b:Bool) (l:Addr) (ns:List Int),xs=[.ref l]/\H l=some (cr b (ns.map V.int))/\ns≠[]/\Q (.int (eU ns)) H) jh:=λPK pa m G H vs ds d Q w hv hd k=>by
 obtain ⟨b,l,us,xs,ns,rfl,e1,e2,hp,hf⟩:=Zcz hv hd
 obtain ⟨rfl,rfl⟩:=e2.ints_inv hp
 split at hf
 ·rename_i hc
  cases hf
  exact ⟨b,l,ns,rfl,w.sub _ _ e1,(λz=>by subst z; cases hc),k.here w (.int _)⟩
 ·cases hf
variable {a b c e:Expr} {pos:Pos} {i j l:List Sl->Tr PyData}
theorem Zjg:OpR X (inplaceOp .Mult) (rI CMulG λi j=>.int (i * j)):=gS λ_ _ _ _ _ _ _ hc q=>imul_int q hc.ok
theorem pip {op:Operator} {r:R2} (h:OpR X (inplaceOp op) r):ou X op r:=h
noncomputable def nH:PyData->PyData->Option PyData
 | .int m,.int n=>some (.int (m+n))
 | _,_=>none
theorem ZfP:cR (eP λi j=>.int (i+j)) nH:=λPK pa m G H x y dx dy dz Q w hx hy hz k=>by
 unfold nH at hz
 split at hz
 ·cases hz; cases hx; cases hy
  exact ⟨_,_,rfl,rfl,k.here w (.int _)⟩
 ·cases hz
noncomputable def kS:PyData->PyData->Option PyData
 | .int m,.int n=>if (fit m && fit n)=true then some (.int (m * n)) else none
 | _,_=>none
theorem ZfO:cR (rI CMulG λi j=>.int (i * j)) kS:=λPK pa m G H x y dx dy dz Q w hx hy hz k=>by
 unfold kS at hz
 split at hz
 ·split at hz
  ·rename_i hc
   rw [Bool.and_eq_true] at hc
   cases hz; cases hx; cases hy
   exact ⟨_,_,rfl,rfl,⟨of_decide_eq_true hc.1,of_decide_eq_true hc.2⟩,k.here w (.int _)⟩
  ·cases hz
 ·cases hz
end
theorem Zim {PK:Pk} {is:List Sl->Tr (List PyData)}:∀ σ H Q,TAe PK (bX is) σ H Q->f8 PK is σ H Q:=by
 intro σ H Q z
 obtain ⟨pa,G₀,H₀,m,ρ,G,R,z⟩:=z
 exact ⟨pa,G₀,H₀,m,ρ,G,R,Tr.ok_mono (Tr.ok_bind.mp z) λm1 xs k=>Ko1.of k R.wd.some⟩
theorem Zfh {PK:Pk} {X:Cx} {st:Stmt} {is:List Sl->Tr (List PyData)} {i:List Sl->Tr PyData} {n k:Nat} {ix:List Nat} {g:PyData->List Sl->Option (List Sl)} (h:PS X st (eu (iP (dC PK is) n ix (λ_=>d8 PK g) (λ_=>TAe PK i)) (eX k))) (hn:fj n g):PS X st (bq PK (aS k (bX (de is n ix g i)))) :=
 aX (h.imp (o2 λσ H Q z=>qD hn σ H Q (Zim σ H Q z)))
variable {ρ:List Sl} {s t:List Sl->Tr Ou} {i j l:List Sl->Tr PyData} {is:List Sl->Tr (List PyData)} {as:List Sl->Tr (List Sl)} {f:List Sl->Tr Re} {p q:List Sl->Tr Bool} {k n:Nat} {x y d:PyData} {xs ys:List PyData} {sl:Sl}
theorem ZjQ:aa 0 (.d x::ρ)=.ret x:=rfl
theorem ZjP:aa (k+1) (sl::ρ)=aa k ρ:=rfl
theorem ZlW:aC d ρ=.ret d:=rfl
noncomputable def aQ (g:PyData->PyData->Option PyData) (x y:PyData):Tr PyData:=Tr.of (g x y)
noncomputable def Ze2 (g:PyData->PyData->Option PyData) (j:List Sl->Tr PyData) (ρ:List Sl) (x:PyData):Tr PyData:=(j ρ).bind (aQ g x)
theorem ZlA {g:PyData->PyData->Option PyData}:ad g i j ρ=(i ρ).bind (Ze2 g j ρ):=rfl
theorem Zlz {g:PyData->PyData->Option PyData}:Ze2 g j ρ x=(j ρ).bind (aQ g x):=rfl
theorem ZlO (m n:Int):aQ aP (.int m) (.int n)=.ret (.int (m+n)):=rfl
theorem ZlN (h1:xs.isEmpty=false) (h2:small (xs.length+ys.length)=true):aQ aP (.tuple xs) (.tuple ys)=.ret (.tuple (xs++ys)):=by
 simp [aQ,aP,h1,h2]
theorem q9 (h2:small (xs.length+ys.length)=true):aQ aP (.list xs) (.list ys)=.ret (.list (xs++ys)):=by
 simp [aQ,aP,h2]
theorem ZjY (m n:Int):aQ cm (.int m) (.int n)=.ret (.int (m - n)):=rfl
theorem ZkJ {m n:Int} (h1:fit m=true) (h2:fit n=true):aQ bu (.int m) (.int n)=.ret (.int (m * n)):=by
 simp [aQ,bu,h1,h2]
theorem nQ {m n:Int} (h1:n≠0) (h2:fit n=true):aQ gB (.int m) (.int n)=.ret (.int (m.fdiv n)):=by
 simp [aQ,gB,h1,h2]
theorem ju {m n:Int} (h1:n≠0):aQ fy (.int m) (.int n)=.ret (.int (m.fmod n)):=by
 simp [aQ,fy,h1]
theorem Zlw {g:Int->Int->Bool} (m n:Int):aQ (dH g) (.int m) (.int n)=.ret (.bool (g m n)):=rfl
theorem Zlo (m n:Int):aQ jv (.int m) (.int n)=.ret (.bool (m == n)):=rfl
theorem ZkI (m n:Str):aQ ky (.str m) (.str n)=.ret (.bool (!(m == n))):=rfl
theorem Zk0 (n:Int):aQ aO (.list xs) (.int n)=Tr.of (bb xs n):=rfl
theorem dW (n:Int):aQ aO (.tuple xs) (.int n)=Tr.of (bb xs n):=rfl
theorem fW {α:Type} {xs:List α} {n:Int} {v:α} (h0:0<=n) (h:xs[n.toNat]?=some v):bb xs n=some v:=by
 have e:(n.toNat:Int)=n:=Int.toNat_of_nonneg h0
 rw [<- e]
 exact fH h
section
variable {α:Type} {a0 a1 a2 a3 a4 a5 a6 a7 a8:α} {r:List α}
theorem lf:bb (a0::r) 0=some a0:=fH (j:=0) rfl
theorem nW:bb (a0::a1::r) 1=some a1:=fH (j:=1) rfl
theorem rE:bb (a0::a1::a2::r) 2=some a2:=fH (j:=2) rfl
theorem Zfe:bb (a0::a1::a2::a3::r) 3=some a3:=fH (j:=3) rfl
theorem Zfd:bb (a0::a1::a2::a3::a4::r) 4=some a4:=fH (j:=4) rfl
theorem Zfc:bb (a0::a1::a2::a3::a4::a5::r) 5=some a5:=fH (j:=5) rfl
theorem Zfb:bb (a0::a1::a2::a3::a4::a5::a6::r) 6=some a6:=fH (j:=6) rfl
theorem Zfa:bb (a0::a1::a2::a3::a4::a5::a6::a7::r) 7=some a7:=fH (j:=7) rfl
theorem Ze9:bb (a0::a1::a2::a3::a4::a5::a6::a7::a8::r) 8=some a8:=fH (j:=8) rfl
end
noncomputable def ZcC:PyData->Tr PyData
 | .int n=>.ret (.int (-n))
 | _=>.fail
theorem ZkH:gF i ρ=(i ρ).bind ZcC:=by
 unfold gF
 refine congrArg (Tr.bind (i ρ)) (funext λx=>?_)
 cases x <;> rfl
theorem ZkG (n:Int):ZcC (.int n)=.ret (.int (-n)):=rfl
noncomputable def Zaw (x:PyData):Tr Bool:=Tr.of (lL x)
theorem ZjX:cQ i ρ=(i ρ).bind Zaw:=rfl
theorem ZjU (b:Bool):Zaw (.bool b)=.ret b:=rfl
noncomputable def Zay (x:PyData):Tr Bool:=Tr.of (Zax x)
theorem ZjW:rP i ρ=(i ρ).bind Zay:=rfl
theorem ZjV (n:Int):Zay (.int n)=.ret (n != 0):=rfl
noncomputable def qR (i j:List Sl->Tr PyData) (ρ:List Sl) (b:Bool):Tr PyData:=if b=true then i ρ else j ρ
theorem Zlf:rX p i j ρ=(p ρ).bind (qR i j ρ):=rfl
theorem Zld:qR i j ρ true=i ρ:=rfl
theorem Zle:qR i j ρ false=j ρ:=rfl
noncomputable def rn (x:PyData) (xs:List PyData):Tr (List PyData):=.ret (x::xs)
noncomputable def ZeE (is:List Sl->Tr (List PyData)) (ρ:List Sl) (x:PyData):Tr (List PyData):=(is ρ).bind (rn x)
theorem ZkF:ao ρ=.ret []:=rfl
theorem Zlv:ae i is ρ=(i ρ).bind (ZeE is ρ):=rfl
theorem Zlu:ZeE is ρ x=(is ρ).bind (rn x):=rfl
theorem Zlt:rn x xs=.ret (x::xs):=rfl
noncomputable def oU (xs:List PyData):Tr PyData:=if small xs.length=true then .ret (.tuple xs) else .fail
theorem ZjT:cZ is ρ=(is ρ).bind oU:=rfl
theorem ZjS (h:small xs.length=true):oU xs=.ret (.tuple xs):=by unfold oU; rw [if_pos h]
noncomputable def ZcT (xs:List PyData):Tr PyData:=.ret (.list xs)
theorem ZkN:bX is ρ=(is ρ).bind ZcT:=rfl
theorem ZkM:ZcT xs=.ret (.list xs):=rfl
noncomputable def qz (xs:List PyData):Tr (List PyData):=if small xs.length=true then .ret xs else .fail
theorem ZkP:dN is ρ=(is ρ).bind qz:=rfl
theorem ZkO (h:small xs.length=true):qz xs=.ret xs:=by unfold qz; rw [if_pos h]
theorem ce {n:Nat} (h:n<=10000):small n=true:=decide_eq_true (Nat.le_trans h (by decide))
noncomputable def bF (g:List PyData->Option PyData) (xs:List PyData):Tr PyData:=Tr.of (g xs)
theorem Zlx {g:List PyData->Option PyData}:bd g is ρ=(is ρ).bind (bF g):=rfl
theorem ZkQ:bF cP [.list xs]=.ret (.int xs.length):=rfl
theorem kX:bF cP [.tuple xs]=.ret (.int xs.length):=rfl
theorem ZlP (n:Int):bF jF [.int n]=.ret (.int (oe n)):=rfl
theorem ZkL (m n:Int):bF gW [.int m,.int n]=.ret (.int (cx m n)):=rfl
theorem ZkK (m n:Int):bF mJ [.int m,.int n]=.ret (.int (mI m n)):=rfl
theorem Zk4 (b:Bool):bF nG [.bool b]=.ret (.int (if b then 1 else 0)):=rfl
theorem ZjR:bF gJ [.list xs]=.ret (.tuple xs):=rfl
theorem ZdH (h:j6 x=true):bF gL [x]=.ret (.str x.shown):=by
 simp [bF,gL,h]
theorem kW (ns:List Int):bF cF [.list (ns.map .int)]=.ret (.int ns.sum):=by
 unfold bF cF ir
 simp
theorem qY (ns:List Int):bF cF [.tuple (ns.map .int)]=.ret (.int ns.sum):=by
 unfold bF cF ir
 simp
noncomputable def ft (x:PyData) (lo:Option Int) (hi:Option Int):Tr PyData:=Tr.of (ZaW x lo hi)
noncomputable def eO (q:c6) (ρ:List Sl) (x:PyData) (lo:Option Int):Tr PyData:=(q ρ).bind (ft x lo)
noncomputable def sl1 (p q:c6) (ρ:List Sl) (x:PyData):Tr PyData:=(p ρ).bind (eO q ρ x)
theorem Zj1 {p q:c6}:d4 i p q ρ=(i ρ).bind (sl1 p q ρ):=rfl
theorem Zj0 {p q:c6}:sl1 p q ρ x=(p ρ).bind (eO q ρ x):=rfl
theorem ZjZ {q:c6} {lo:Option Int}:eO q ρ x lo=(q ρ).bind (ft x lo):=rfl
theorem ZkB:dM ρ=.ret none:=rfl
noncomputable def pa1:PyData->Tr (Option Int)
 | .int n=>.ret (some n)
 | _=>.fail
theorem ZkA:dB i ρ=(i ρ).bind pa1:=by
 unfold dB
 refine congrArg (Tr.bind (i ρ)) (funext λx=>?_)
 cases x <;> rfl
theorem Zkz (n:Int):pa1 (.int n)=.ret (some n):=rfl
theorem ZlS:aG ρ=.ret []:=rfl
noncomputable def lg (x:Sl) (xs:List Sl):Tr (List Sl):=.ret (x::xs)
noncomputable def aa1 (as:List Sl->Tr (List Sl)) (ρ:List Sl) (x:PyData):Tr (List Sl):=(as ρ).bind (lg (.d x))
theorem ZlT:ai i as ρ=(i ρ).bind (aa1 as ρ):=rfl
theorem ZlV:aa1 as ρ x=(as ρ).bind (lg (.d x)):=rfl
theorem ZlU {xs:List Sl}:lg sl xs=.ret (sl::xs):=rfl
noncomputable def i9:Nat->List Sl->Tr Unit
 | 0,.pen::_=>.ret ()
 | k+1,_::ρ=>i9 k ρ
 | _,_=>.fail
theorem Zkw:i9 0 (.pen::ρ)=.ret ():=rfl
theorem Zkv:i9 (k+1) (sl::ρ)=i9 k ρ:=rfl
noncomputable def aap (as:List Sl->Tr (List Sl)) (ρ:List Sl) (_:Unit):Tr (List Sl):=(as ρ).bind (lg .pen)
theorem ZlR:cI k as ρ=(i9 k ρ).bind (aap as ρ):=by
 have key:∀ (k:Nat) (σ:List Sl) (as:List Sl->Tr (List Sl)) (ρ:List Sl),(match σ[k]? with | some Sl.pen=>(as ρ).bind λxs=>Tr.ret (Sl.pen::xs) | _=>Tr.fail)=(i9 k σ).bind (aap as ρ):=by
  intro k
  induction k with
  | zero =>
   intro σ as ρ
   cases σ with
   | nil=>rfl
   | cons s r=>cases s <;> rfl
  | succ k ih =>
   intro σ as ρ
   cases σ with
   | nil=>rfl
   | cons s r=>exact ih r as ρ
 exact key k ρ as ρ
theorem ZlQ (u:Unit):aap as ρ u=(as ρ).bind (lg .pen):=rfl
theorem Zly:aH f as ρ=(as ρ).bind f:=rfl
noncomputable def re1 (r:Re):Tr PyData:=.ret r.val
theorem Zku:aE f ρ=(f ρ).bind re1:=rfl
theorem Zkt (r:Re):re1 r=.ret r.val:=rfl
theorem Zls {as:List Sl} (h:as.length=n):bp n k s as=(s (as++List.replicate k .un)).bind nL:=by
 unfold bp
 rw [if_pos (decide_eq_true h)]
theorem Zll:nL (.next ρ)=.ret (.d .none):=rfl
theorem Zlk (r:Re):nL (.ret r)=.ret r:=rfl
noncomputable def pq (t:List Sl->Tr Ou):Ou->Tr Ou
 | .next ρ=>t ρ
 | o=>.ret o
theorem Zkc:au s t ρ=(s ρ).bind (pq t):=by
 unfold au
 refine congrArg (Tr.bind (s ρ)) (funext λo=>?_)
 cases o <;> rfl
theorem Zkb:pq t (.next ρ)=t ρ:=rfl
theorem Zka (r:Re):pq t (.ret r)=.ret (.ret r):=rfl
theorem Zj2:fg ρ=.ret (.next ρ):=rfl
noncomputable def qO (s t:List Sl->Tr Ou) (ρ:List Sl) (b:Bool):Tr Ou:=if b=true then s ρ else t ρ
theorem Zk8:fh p s t ρ=(p ρ).bind (qO s t ρ):=rfl
theorem Zk6:qO s t ρ true=s ρ:=rfl
theorem Zk7:qO s t ρ false=t ρ:=rfl
noncomputable def ZbK (x:PyData):Tr Ou:=.ret (.ret (.d x))
theorem Zks:bQ i ρ=(i ρ).bind ZbK:=rfl
theorem Zkr:ZbK x=.ret (.ret (.d x)):=rfl
noncomputable def ZbJ (r:Re):Tr Ou:=.ret (.ret r)
theorem Zkq:rT f ρ=(f ρ).bind ZbJ:=rfl
theorem Zkp (r:Re):ZbJ r=.ret (.ret r):=rfl
theorem Zko:eI 0 (.d x::ρ)=.ret (.ret (.d x)):=rfl
theorem Zkn:eI 0 (.own xs::ρ)=.ret (.ret (.own xs)):=rfl
theorem Zkm:eI (k+1) (sl::ρ)=eI k ρ:=rfl
noncomputable def lV (k:Nat) (ρ:List Sl) (x:PyData):Tr Ou:=.ret (.next (ρ.set k (.d x)))
theorem Zj9:aS k i ρ=(i ρ).bind (lV k ρ):=rfl
theorem Zj8:lV k ρ x=.ret (.next (ρ.set k (.d x))):=rfl
noncomputable def Za4 (k:Nat) (ρ:List Sl) (x:List PyData):Tr Ou:=.ret (.next (ρ.set k (.own x)))
theorem Zj7:fZ k is ρ=(is ρ).bind (Za4 k ρ):=rfl
theorem Zj6:Za4 k ρ xs=.ret (.next (ρ.set k (.own xs))):=rfl
theorem ZiL {α:Type} {a b:α} {r:List α}:(a::r).set 0 b=b::r:=rfl
theorem ZiK {α:Type} {a b:α} {r:List α}:(a::r).set (k+1) b=a::r.set k b:=rfl
noncomputable def rD (g:PyData->PyData->Option PyData) (k:Nat) (ρ:List Sl) (x y:PyData):Tr Ou:=(aQ g x y).bind (lV k ρ)
noncomputable def Ze8 (g:PyData->PyData->Option PyData) (k:Nat) (i:List Sl->Tr PyData) (ρ:List Sl) (x:PyData):Tr Ou:=(i ρ).bind (rD g k ρ x)
theorem ZlE {g:PyData->PyData->Option PyData}:lr g k i ρ=(aa k ρ).bind (Ze8 g k i ρ):=rfl
theorem ZlD {g:PyData->PyData->Option PyData}:Ze8 g k i ρ x=(i ρ).bind (rD g k ρ x):=rfl
theorem ZlC {g:PyData->PyData->Option PyData}:rD g k ρ x y=(aQ g x y).bind (lV k ρ):=rfl
theorem Zlg (m n:Int):aQ nH (.int m) (.int n)=.ret (.int (m+n)):=rfl
theorem Zk5 {m n:Int} (h1:fit m=true) (h2:fit n=true):aQ kS (.int m) (.int n)=.ret (.int (m * n)):=by
 simp [aQ,kS,h1,h2]
noncomputable def fw:Nat->List Sl->Tr (List PyData)
 | 0,.own xs::_=>.ret xs
 | k+1,_::ρ=>fw k ρ
 | _,_=>.fail
theorem ZkD:fw 0 (.own xs::ρ)=.ret xs:=rfl
theorem ZkC:fw (k+1) (sl::ρ)=fw k ρ:=rfl
theorem jc {β:Type} {g:List PyData->Tr β}:∀ (k:Nat) (σ:List Sl),(match σ[k]? with | some (Sl.own xs)=>g xs | _=>Tr.fail)=(fw k σ).bind g
 | 0,[]=>rfl
 | 0,s::r=>by cases s <;> rfl
 | k+1,[]=>rfl
 | k+1,s::r=>jc k r
noncomputable def n5 (k:Nat) (ρ:List Sl) (xs:List PyData) (x:PyData):Tr Ou:=if small (xs.length+1)=true then .ret (.next (ρ.set k (.own (xs++[x])))) else .fail
noncomputable def Zfq (k:Nat) (i:List Sl->Tr PyData) (ρ:List Sl) (xs:List PyData):Tr Ou:=(i ρ).bind (n5 k ρ xs)
theorem ZlJ:jK k i ρ=(fw k ρ).bind (Zfq k i ρ):=jc k ρ
theorem ZlI:Zfq k i ρ xs=(i ρ).bind (n5 k ρ xs):=rfl
theorem ZlH (h:small (xs.length+1)=true):n5 k ρ xs x=.ret (.next (ρ.set k (.own (xs++[x])))):=by unfold n5; rw [if_pos h]
noncomputable def ZbI (k:Nat) (ρ:List Sl) (xs:List PyData):Tr Ou:=.ret (.next (ρ.set k (.own xs.reverse)))
theorem Zkl:li k ρ=(fw k ρ).bind (ZbI k ρ):=jc k ρ
theorem Zkk:ZbI k ρ xs=.ret (.next (ρ.set k (.own xs.reverse))):=rfl
theorem Zlh:jI k s ρ=s (fz k ρ):=rfl
theorem ZjF:fz 0 (.own xs::ρ)=.d (.list xs)::ρ:=rfl
theorem ZjG:fz (k+1) (sl::ρ)=sl::fz k ρ:=by
 unfold fz
 rw [List.getElem?_cons_succ]
 cases h:ρ[k]? with
 | none=>rfl
 | some s=>cases s <;> rfl
noncomputable def qr (ρ:List Sl):Tr Ou:=.ret (.next ρ)
noncomputable def Zff (g:PyData->List Sl->Option (List Sl)) (ρ:List Sl) (x:PyData):Tr Ou:=(Tr.of (g x ρ)).bind qr
theorem ZlG {g:PyData->List Sl->Option (List Sl)}:jJ g i ρ=(i ρ).bind (Zff g ρ):=rfl
theorem ZlF {g:PyData->List Sl->Option (List Sl)}:Zff g ρ x=(Tr.of (g x ρ)).bind qr:=rfl
theorem ZkE:qr ρ=.ret (.next ρ):=rfl
theorem Zjt:af k x ρ=some (ρ.set k (.d x)):=rfl
theorem Zjr {gs:List PyData->List Sl->Option (List Sl)}:bh gs (.tuple xs) ρ=gs xs ρ:=rfl
theorem Zju:bc [] ρ=some ρ:=rfl
theorem Zjv {g:PyData->List Sl->Option (List Sl)} {gs:List PyData->List Sl->Option (List Sl)}:aw g gs (x::xs) ρ=(g x ρ).bind (gs xs):=rfl
theorem Zjs {α β:Type} {a:α} {g:α->Option β}:(some a).bind g=g a:=rfl
noncomputable def Zcv (k n:Nat) (ρ:List Sl):List PyData->Tr Ou
 | [x,y]=>.ret (.next ((ρ.set k (.d x)).set n (.d y)))
 | _=>.fail
theorem Zky:iG k n is ρ=(is ρ).bind (Zcv k n ρ):=by
 unfold iG
 refine congrArg (Tr.bind (is ρ)) (funext λxs=>?_)
 match xs with
 | []=>rfl
 | [_]=>rfl
 | [_,_]=>rfl
 | _::_::_::_=>rfl
theorem Zkx:Zcv k n ρ [x,y]=.ret (.next ((ρ.set k (.d x)).set n (.d y))):=rfl
noncomputable def gz (x:PyData):Tr (List PyData):=Tr.of (g5 x)
theorem Zk3:d7 i ρ=(i ρ).bind gz:=rfl
theorem Zk2:gz (.list xs)=.ret xs:=rfl
theorem Zk1:gz (.tuple xs)=.ret xs:=rfl
noncomputable def dQ (xs:List PyData):Tr (List PyData):=Tr.of (iY xs)
noncomputable def iZ (xs:List PyData):Tr (List PyData):=Tr.of (iX xs)
theorem Zkh:f7 is ρ=(is ρ).bind dQ:=rfl
theorem Zkg:jH is ρ=(is ρ).bind iZ:=rfl
theorem dE {n:Int} (h1:-1000000000000<=n) (h2:n<=1000000000000):eC n=true:=decide_eq_true (by omega)
theorem gC {n:Int} (h:eC n=true):dQ [.int n]=.ret (ba 0 n):=by
 simp [dQ,iY,h]
theorem nO {m n:Int} (h1:eC m=true) (h2:eC n=true):iZ [.int m,.int n]=.ret (ba m n):=by
 simp [iZ,iX,h1,h2]
noncomputable def ra (xs:List PyData):Tr (List PyData):=.ret (cG xs)
noncomputable def ZdT (x:PyData):Tr (List PyData):=(gz x).bind ra
theorem Zlp:fI i ρ=(i ρ).bind ZdT:=rfl
theorem Zlr:ZdT x=(gz x).bind ra:=rfl
theorem Zlq:ra xs=.ret (cG xs):=rfl
noncomputable def Zdy (g:PyData->List Sl->Option (List Sl)) (s:List Sl->Tr Ou) (ρ:List Sl) (xs:List PyData):Tr Ou:=bV g s xs ρ
theorem Zlj {g:PyData->List Sl->Option (List Sl)}:dg is g s ρ=(is ρ).bind (Zdy g s ρ):=rfl
theorem Zli {g:PyData->List Sl->Option (List Sl)}:Zdy g s ρ xs=bV g s xs ρ:=rfl
noncomputable def qW (g:PyData->List Sl->Option (List Sl)) (s:List Sl->Tr Ou) (xs:List PyData):Ou->Tr Ou
 | .next ρ=>bV g s xs ρ
 | .cont ρ=>bV g s xs ρ
 | .brk ρ=>.ret (.next ρ)
 | .ret r=>.ret (.ret r)
noncomputable def fS (g:PyData->List Sl->Option (List Sl)) (s:List Sl->Tr Ou) (xs:List PyData) (ρ:List Sl):Tr Ou:=(s ρ).bind (qW g s xs)
theorem dU {g:PyData->List Sl->Option (List Sl)}:bV g s (x::xs) ρ=(Tr.of (g x ρ)).bind (fS g s xs):=by
 rw [bV]
 refine congrArg (Tr.bind (Tr.of (g x ρ))) (funext λρ1=>?_)
 unfold fS
 refine congrArg (Tr.bind (s ρ1)) (funext λo=>?_)
 cases o <;> rfl
theorem g8 {g:PyData->List Sl->Option (List Sl)}:fS g s xs ρ=(s ρ).bind (qW g s xs):=rfl
theorem dF {g:PyData->List Sl->Option (List Sl)}:qW g s xs (.next ρ)=bV g s xs ρ:=rfl
noncomputable def c9 (g:PyData->List Sl->Option (List Sl)) (el:List Sl->Tr PyData) (τ:List Sl) (x:PyData):Tr PyData:=(Tr.of (g x τ)).bind el
noncomputable def qF (n:Nat) (ix:List Nat) (g:PyData->List Sl->Option (List Sl)) (el:List Sl->Tr PyData) (ρ:List Sl) (xs:List PyData):Tr (List PyData):=if small xs.length=true then bB (c9 g el (blk n ix ρ)) xs else .fail
theorem ZkW {ix:List Nat} {g:PyData->List Sl->Option (List Sl)}:de is n ix g i ρ=(is ρ).bind (qF n ix g i ρ):=rfl
theorem ZkV {ix:List Nat} {g:PyData->List Sl->Option (List Sl)} (h:small xs.length=true):qF n ix g i ρ xs=bB (c9 g i (blk n ix ρ)) xs:=by unfold qF; rw [if_pos h]
theorem ZkU {τ:List Sl} {g:PyData->List Sl->Option (List Sl)}:c9 g i τ x=(Tr.of (g x τ)).bind i:=rfl
theorem ZcL {h:PyData->Tr PyData} {n:Nat} {P:PyData->Prop}:∀ {xs:List PyData},(∀ x∈xs,(h x).all n P)->(bB h xs).all (xs.length * n) λys=>ys.length=xs.length/\∀ y∈ys,P y
 | [],_=>⟨rfl,λy hy=>by cases hy⟩
 | x::xs,hx=>by
  have e:(x::xs).length * n=n+(xs.length * n+0):=by rw [List.length_cons,Nat.succ_mul]; omega
  rw [e,bB]
  refine Tr.all_bind (hx x (by simp)) λy hy=>Tr.all_bind (ZcL λz hz=>hx z (List.mem_cons_of_mem _ hz)) λys hys=>?_
  exact ⟨by simp [hys.1],λz hz=>by
   rcases List.mem_cons.mp hz with rfl | hz
   ·exact hy
   ·exact hys.2 z hz⟩
theorem Zmk {α:Type} {w:Int} {k:Int->Tr α} {n:Nat} {P:α->Prop} (h1:0 < w) (h2:w < 1073741824) (h:∀ r,0<=r->r < w->(k r).all n P):(Tr.draw w k).all (n+1) P:=⟨h1,h2,h⟩
theorem pick {α:Type} {xs:List α} {r:Int} (h0:0<=r) (h1:r < xs.length):∃ v,bb xs r=some v/\v∈xs:=by
 have h:r.toNat < xs.length:=by omega
 exact ⟨xs[r.toNat],fW h0 (by simp [h]),List.getElem_mem h⟩
theorem ZcZ {α:Type} {xs:List α} (h:xs.length=7):∃ a b c d e f g,xs=[a,b,c,d,e,f,g]:=by
 rcases xs with _ | ⟨a,_ | ⟨b,_ | ⟨c,_ | ⟨d,_ | ⟨e,_ | ⟨f,_ | ⟨g,_ | ⟨k,xs⟩⟩⟩⟩⟩⟩⟩⟩
 ·cases h
 ·cases h
 ·cases h
 ·cases h
 ·cases h
 ·cases h
 ·cases h
 ·exact ⟨a,b,c,d,e,f,g,rfl⟩
 ·exact absurd h (by simp)
end L2
namespace L2
open PySem
@[irreducible] noncomputable def Al {α:Type} (t:Tr α) (n:Nat) (P:α->Prop):Prop:=t.all n P
section
variable {α β:Type} {t:Tr α} {n n' N:Nat} {P:α->Prop} {P':β->Prop}
theorem Al.of (h:t.all n P):Al t n P:=by unfold Al; exact h
theorem Al.out (h:Al t n P):t.all n P:=by unfold Al at h; exact h
theorem dJ {a:α} (h:P a):Al (.ret a) n P:=.of h
theorem dL {w:Int} {k:Int->Tr α} (h1:0 < w) (h2:w < 1073741824) (hN:n+1<=N) (h:∀ r,0<=r->r < w->Al (k r) n P):Al (.draw w k) N P:=.of (Tr.all_mono (Zmk h1 h2 λr a b=>(h r a b).out) hN λ_ h=>h)
theorem gE {f:α->Tr β} (h:Al t n P) (hN:n+n'<=N) (hf:∀ a,P a->Al (f a) n' P'):Al (t.bind f) N P':=.of (Tr.all_mono (Tr.all_bind h.out λa ha=>(hf a ha).out) hN λ_ h=>h)
theorem n8 {h:PyData->Tr PyData} {P:PyData->Prop} {xs:List PyData} {Q:List PyData->Prop} (hN:xs.length * n<=N) (hx:∀ x∈xs,Al (h x) n P) (hq:∀ ys,ys.length=xs.length->(∀ y∈ys,P y)->Q ys):Al (bB h xs) N Q :=
 .of (Tr.all_mono (ZcL λx m=>(hx x m).out) hN λys ⟨a,b⟩=>hq ys a b)
end
noncomputable def g6 (lo hi:Int) (x:PyData):Prop:=∃ z:Int,x=.int z/\lo<=z/\z<=hi
theorem nF {lo hi:Int}:∀ {xs:List PyData},(∀ x∈xs,g6 lo hi x)->∃ ns:List Int,xs=ns.map PyData.int/\∀ n∈ns,lo<=n/\n<=hi
 | [],_=>⟨[],rfl,λn hn=>by cases hn⟩
 | x::xs,h=>by
  obtain ⟨ns,e,hn⟩:=nF (xs:=xs) λy hy=>h y (List.mem_cons_of_mem _ hy)
  obtain ⟨z,rfl,h1,h2⟩:=h x (by simp)
  exact ⟨z::ns,by rw [e]; rfl,λn hn'=>by
   rcases List.mem_cons.mp hn' with rfl | hn'
   ·exact ⟨h1,h2⟩
   ·exact hn n hn'⟩
theorem cO {lo hi:Int}:(ba lo hi).length=(hi - lo).toNat:=by unfold ba; rw [List.length_map,gh]
theorem qe {xs:List PyData} {lo hi r:Int} (h:∀ x∈xs,g6 lo hi x) (h0:0<=r) (h1:r < xs.length):∃ z:Int,bb xs r=some (.int z)/\lo<=z/\z<=hi:=by
 obtain ⟨v,e,m⟩:=pick h0 h1
 obtain ⟨z,rfl,a,b⟩:=h v m
 exact ⟨z,e,a,b⟩
end L2
namespace L2
open PySem PySem.Spec PyProof.Rows
variable {PK:Pk} {X:Cx} {a b c e:Expr} {es:List Expr} {pos:Pos} {i j l:List Sl->Tr PyData} {is:List Sl->Tr (List PyData)} {p q:List Sl->Tr Bool} {st:Stmt}
variable {PK:Pk} {X:Cx} {a b c e:Expr} {es:List Expr} {pos:Pos} {i j l:List Sl->Tr PyData} {as:List Sl->Tr (List Sl)}
structure PkLow (PK:Pk):Prop where
 low:∀ {o o':HO} {G G':Hp} {m m':Nat},PK.is o G m->Sub G G'->PK.is o' G' m'->PK.is o' G m'
variable {ρ:List Sl} {k:Nat} {xs:List PyData} {x:PyData} {sl:Sl} {f:List Sl->Tr Re}
theorem Zm8 {prog:Program} {w:World} {A:Around} {R:Result->Shared->Prop} {s:Shared} {elt target iter cnd:Expr} {scope:Scope} {pos:Pos} {it acc:Value} {env:Env} (J:Nat->Shared->Prop)
  (step:∀ k s0,J k s0->wpAny (model prog w) A (pyNext it) (λgot s1=>match got with
   | none=>R (.ok .next) s1
   | some v=>wpAny (model prog w) A (letOwnedTupleGo target it v) (λ_ s2=>wpAny (model prog w) A (assign target env v) (λ_ s3=>wpAny (model prog w) A (isTrue cnd env (eval cnd env)) (λok s3'=>if ok=true then wpAny (model prog w) A (eval elt env) (λy s4 =>
     wpAny (model prog w) A (call (.builtin "list.append") [acc,y]) (λ_ s5=>∃ j,j < k/\J j s5) (λ_ _=>False) s4) (λ_ _=>False) s3' else ∃ j,j < k/\J j s3') (λ_ _=>False) s3) (λ_ _=>False) s2) (λ_ _=>False) s1) (λ_ _=>False) s0)
  (k:Nat) (h:J k s):codeAny (model prog w) A (.compLoop (.ListComp elt [⟨target,iter,[cnd],0⟩] scope pos) 0 it acc env) R s:=by
 refine codeAny_loop rfl J (λk0 s0 hJ=>?_) k h
 show wpAny _ _ ((compTurn (.ListComp elt [⟨target,iter,[cnd],0⟩] scope pos) 0 it acc env).onRaise (λx=>do noteFrame x env; theTreesLotGoes x)) _ _ s0
 apply wpAny_noted
 rw [compTurn_list]
 refine wpAny_bind (wpAny_standAt (wpAny_bind (wpAny_mono (step k0 s0 hJ) (λgot s1 h1=>?_) λ_ _ z=>z.elim)))
 cases got with
 | none=>exact wpAny_pure h1
 | some v =>
  refine wpAny_bind (wpAny_mono h1 (λ_ s2 h2=>?_) λ_ _ z=>z.elim)
  refine wpAny_bind (wpAny_mono h2 (λ_ s3 h3=>?_) λ_ _ z=>z.elim)
  refine wpAny_bind (wpAny_mono (wpAny_tests_one h3) (λok s3' h3'=>?_) λ_ _ z=>z.elim)
  cases ok with
  | false=>exact wpAny_pure ⟨rfl,h3'⟩
  | true =>
   refine wpAny_bind (wpAny_bind (wpAny_mono h3' (λy s4 h4=>?_) λ_ _ z=>z.elim))
   exact wpAny_bind (wpAny_mono h4 (λ_ s5 h5=>wpAny_pure (wpAny_pure ⟨rfl,h5⟩)) λ_ _ z=>z.elim)
noncomputable def oX (wi:TI) (n:Nat) (ix:List Nat) (g:Blk->TG) (tc:Blk->TT) (te:Blk->TE):TE:=λσ H Q=>wi σ H λJ H1=>∀ b:Blk,∃ W:Nat->Nat->St->List V->Hp->Prop,(∃ m,W 0 m (cN n ix σ) [] H1)/\∀ i m τ ys H2,W i m τ ys H2 ->
 (J.stop i H2/\∀ p v H',H2 p=none->v=V.ref p->H'=upd H2 p (.lst ys)->Q v H') \/
 (J.go i H2/\ys.length < sizeLine/\∀ x H3,J.yld i H2 x H3->g b x τ H3 λτ2 H4=>tc b τ2 H4 λok H4'=>if ok=true then te b τ2 H4' λy H5=>∃ m',m' < m/\W (i+1) m' τ2 (ys++[y]) H5 else ∃ m',m' < m/\W (i+1) m' τ2 ys H4')
section
variable {X:Cx} {pins:List (Addr×Obj)} {σ:St} {H:Hp} {s:Shared}
theorem ZiV {elt target iter cnd:Expr} {scope:Scope} {pos:Pos} {Nx ts:List Str} {ix:List Nat} {g:Blk->TG} {tc:Blk->TT} {te:Blk->TE} {cl:List (Str×Addr)} {s2:Shared} {itv:Value} {R:Value->Addr->Result->Shared->Prop}
  {E:Value->Shared->Prop} {Q:VK}
  (hc:X.calm=true) (hg:∀ b,PG (aW X (bN Nx ts ix) scope b) target (g b)) (hcn:∀ b,PT (aW X (bN Nx ts ix) scope b) cnd (tc b)) (he:∀ b,PE (aW X (bN Nx ts ix) scope b) elt (te b))
  (hNx:X.N=Nx) (ok:BlkOk Nx X.env.scope scope ix) (cl1:∀ x c,cl.lookup x=some c->X.env.cells.lookup x=some c) (cl2:∀ y∈scope.names,y.2=.free->∃ c,cl.lookup y.1=some c)
  (h2:lx X pins σ target (λJ H1=>∀ b:Blk,∃ W:Nat->Nat->St->List V->Hp->Prop,(∃ m,W 0 m (cN ts.length ix σ) [] H1)/\∀ i m τ ys H2,W i m τ ys H2 ->
   (J.stop i H2/\∀ p v H',H2 p=none->v=V.ref p->H'=upd H2 p (.lst ys)->Q v H') \/
   (J.go i H2/\ys.length < sizeLine/\∀ x H3,J.yld i H2 x H3->g b x τ H3 λτ2 H4=>tc b τ2 H4 λok H4'=>if ok=true then te b τ2 H4' λy H5=>∃ m',m' < m/\W (i+1) m' τ2 (ys++[y]) H5 else ∃ m',m' < m/\W (i+1) m' τ2 ys H4')) itv s2)
  (hR:∀ (D C:Addr) (H':Hp) (s':Shared) (v:V),Inv X pins σ H' s'->v=.ref D->Q v H'->(∃ m,s'.heap.Ns C m)->H' C=none->C≠X.env.locals->X.s₀.heap.objs.size<=C->(∀ x c,X.env.cells.lookup x=some c->c≠C)->(∀ p∈X.pn++pins,p.1≠C) ->
   R (.ref D) C (.ok .next) s') :
  wpAny (model X.prog X.w) X.A (newList []) (λacc s₃=>wpAny (model X.prog X.w) X.A (newFunctionEnv scope X.env.globals cl [] X.env.qual none .none (some X.env)) (λcenv s₄ =>
   codeAny (model X.prog X.w) X.A (.compStart (.ListComp elt [⟨target,iter,[cnd],0⟩] scope pos) 0 itv acc { cenv with scope:=relabel scope X.env }) (R acc cenv.locals) s₄) E s₃) E s2:=by
 obtain ⟨it,fp,tn,J,H1,e,I2,T,st2,f2,q2⟩:=h2
 subst e
 refine wpAny_newObj_type (oJ ?_)
 dsimp only
 generalize hG:s2.heap.push { cls:=.type "list",dict:=none,data:=.seq ([]:List Value).toArray }=G
 have hGs:G.objs.size=s2.heap.objs.size+1:=by rw [<- hG,Heap.size_push]
 have hfs:∀ b∈fp,b < s2.heap.objs.size:=λb hb=>let ⟨o,e,_⟩:=T.obj _ _ st2 b hb; Heap.lt_size e
 have kpG:∀ b o,G.get? b=some o->(pushCells (G.push { cls:=.type "dict",data:=.dict #[] }) scope.names).get? b=some o:=λb o e=>pushCells_keeps _ _ _ _ (Heap.get?_push_of_some _ e)
 have hns3:(pushCells (G.push { cls:=.type "dict",data:=.dict #[] }) scope.names).Ns G.objs.size (λ_=>none):=(Heap.Ns.new G (.type "dict")).keeps (pushCells_keeps _ _)
 obtain ⟨sp1,sp2,sp4,sp3⟩:=rq scope.names (G.push { cls:=.type "dict",data:=.dict #[] }) cl
 rw [Heap.size_push] at sp1 sp2 sp3 sp4
 generalize hh3:pushCells (G.push { cls:=.type "dict",data:=.dict #[] }) scope.names=h3 at kpG hns3 sp1 ⊢
 have kp:∀ b o,s2.heap.get? b=some o->h3.get? b=some o:=λb o e=>kpG b o (by rw [<- hG]; exact Heap.get?_push_of_some _ e)
 have hD3:h3.get? s2.heap.objs.size=some { cls:=.type "list",data:=.seq ([]:List Value).toArray }:=kpG _ _ (by rw [<- hG]; exact Heap.get?_push_size _ rfl)
 have clB:∀ x c,cl.lookup x=some c->c < G.objs.size+1:=λx c e=>by
  obtain ⟨v,q⟩:=I2.cell x c (cl1 x c e)
  exact Nat.lt_succ_of_lt (Nat.lt_of_lt_of_le q.lt (by rw [hGs]; exact Nat.le_succ _))
 have csI:=sp3 clB λx y c e1 e2=>I2.ok.inj x y c (cl1 x c e1) (cl1 y c e2)
 have cs1:∀ x c,(cellsFrom (G.objs.size+1) scope.names cl).lookup x=some c->X.env.cells.lookup x=some c\/(G.objs.size < c/\h3.IsCell c none/\(x,NameKind.cell)∈scope.names):=λx c e=>by
  rcases sp1 x c e with z | ⟨z1,z2,z3⟩
  ·exact .inl (cl1 x c z)
  ·exact .inr ⟨by omega,z2,z3⟩
 have cs2:∀ y∈scope.names,(y.2=.free\/y.2=.cell)->∃ c,(cellsFrom (G.objs.size+1) scope.names cl).lookup y.1=some c:=λy hy hk=>by
  refine sp2 y.1 ?_
  rcases hk with z | z
  ·exact .inr (cl2 y hy z)
  ·exact .inl (by rw [<- z]; exact hy)
 have csA:∀ x c,(x,NameKind.cell)∈scope.names->(cellsFrom (G.objs.size+1) scope.names cl).lookup x=some c->G.objs.size<=c:=λx c e1 e2=>Nat.le_of_succ_le (sp4 x c e1 e2)
 generalize hcs:cellsFrom (G.objs.size+1) scope.names cl=cs at csI cs1 cs2 csA ⊢
 generalize hCe:G.objs.size=C at hns3 cs1 csA ⊢
 have hC:s2.heap.objs.size<=C:=by omega
 have hDC:s2.heap.objs.size≠C:=by omega
 let B:Blk:=⟨cs,C,s2,H1,fp,X.pn++pins⟩
 have I3:Inv (aW X (bN Nx ts ix) scope B) [] (cN ts.length ix σ) H1 { s2 with heap:=h3 }:=qL I2 hNx ok cs1 csI cs2 csA f2 hfs hC kp hns3
 have fC:H1 s2.heap.objs.size=none:=I2.hok.fresh (Nat.le_refl _)
 have cellIn:∀ x c,cs.lookup x=some c->c≠s2.heap.objs.size:=λx c e=>by
  rcases cs1 x c e with z | ⟨z,_,_⟩
  ·obtain ⟨v,q⟩:=I2.cell x c z
   exact Nat.ne_of_lt q.lt
  ·exact Nat.ne_of_gt (Nat.lt_of_le_of_lt hC z)
 have pinIn:∀ p∈X.pn++pins,p.1 < s2.heap.objs.size:=λp hp=>Heap.lt_size (I2.pin p hp).1
 have nofrs:s2.heap.objs.size ∉ frs X.stack:=λhb=>by
  rcases List.mem_cons.mp (I2.stkSub _ hb) with z | z
  ·exact absurd I2.lt (by rw [<- z]; exact Nat.lt_irrefl _)
  ·exact I2.nofs (Nat.le_refl _) z
 -- a state with the list at its place,pinned
 have pinD:∀ {τ:St} {H':Hp} {s':Shared} {ob:Obj},Inv (aW X (bN Nx ts ix) scope B) [] τ H' s'->s'.heap.get? s2.heap.objs.size=some ob->H' s2.heap.objs.size=none->(∀ v,ob.data≠.cell v)->Inv (aW X (bN Nx ts ix) scope B) [(s2.heap.objs.size,ob)] τ H' s' :=
  λ{τ H' s' ob} I' ho hn hd=>I'.pins_of λp hp=>by
   have e:p=(s2.heap.objs.size,ob):=by simpa using hp
   subst e
   exact ⟨ho,hn,hDC,nofrs,hd⟩
 obtain ⟨W,⟨m0,w0⟩,turn⟩:=q2 B
 have stat:∀ {H':Hp} {ob:Obj},(∀ b∈fp,H' b=none)->∀ b∈fp,fm (aW X (bN Nx ts ix) scope B) [(s2.heap.objs.size,ob)] H' b:=λ{H' ob} hn b hb=>by
  refine ⟨hn b hb,Nat.ne_of_lt (Nat.lt_of_lt_of_le (hfs b hb) hC),λz=>?_,.inl hb,λx c e=>by
   rcases cs1 x c e with z | ⟨z,_,_⟩
   ·exact (f2 b hb).2.2.2.2.1 x c z
   ·exact Nat.ne_of_gt (Nat.lt_of_lt_of_le (hfs b hb) (Nat.le_trans hC (Nat.le_of_lt z))),λp hp=>?_⟩
  ·rcases List.mem_cons.mp (I2.stkSub _ z) with q | q
   ·exact (f2 b hb).2.1 q
   ·exact (f2 b hb).2.2.1 q
  ·rcases List.mem_append.mp hp with z | z
   ·exact (f2 b hb).2.2.2.2.2 p z
   ·have e:p=(s2.heap.objs.size,ob):=by simpa using z
    subst e
    exact Nat.ne_of_gt (hfs b hb)
 have loop:∀ s4:Shared,s4={ s2 with heap:=h3 } ->
   codeAny (model X.prog X.w) X.A (.compLoop (.ListComp elt [⟨target,iter,[cnd],0⟩] scope pos) 0 (.ref it) (.ref s2.heap.objs.size) (compEnvC scope cs C X.env)) (R (.ref s2.heap.objs.size) C) s4:=by
  rintro s4 rfl
  refine Zm8 (λk s'=>∃ i τ ys its n H',Inv (aW X (bN Nx ts ix) scope B) [(s2.heap.objs.size,({ cls:=.type "list",data:=.seq (List.toArray its) n }:Obj))] τ H' s'/\tn i s'.heap/\(∀ b∈fp,H' b=none)/\Vals ys its/\ys.length<=sizeLine/\W i k τ ys H') ?_ m0
   ⟨0,_,[],[],_,H1,pinD I3 hD3 fC (λv z=>by cases z),T.keep _ _ _ st2 λb hb o e=>kp b o e,λb hb=>(f2 b hb).1,.nil,Nat.zero_le _,w0⟩
  rintro k s5 ⟨i,τ,ys,its,n,H5,I5,st5,fr5,rv,hz,w5⟩
  rcases turn i k τ ys H5 w5 with ⟨stop,qn⟩ | ⟨go,hlt,step⟩
  ·refine thn (T.done (aW X (bN Nx ts ix) scope B) rfl rfl rfl hc i _ s5 τ H5 _ I5 (stat fr5) st5 stop) λgot s6 hz0=>?_
   obtain ⟨hr,I6⟩:=hz0
   subst hr
   obtain ⟨ho,hn,_,_,_⟩:=I6.pin (s2.heap.objs.size,({ cls:=.type "list",data:=.seq (List.toArray its) n }:Obj)) (List.mem_append_right _ (by simp))
   have I7:Inv X pins σ H5 s6:=I2.call' (ch:=fp) (H':=H5) (by exact I6.os) I6.base I6.hok I6.bare λb hb=>⟨(f2 b hb).2.2.2.1,(f2 b hb).2.1,(f2 b hb).2.2.2.2.1,(f2 b hb).2.2.2.2.2⟩
   have hs0:X.s₀.heap.objs.size<=s2.heap.objs.size:=I2.sz
   have I8:=I7.track hn ho rv hz (Nat.ne_of_gt I2.lt) hs0 (λx c e z=>by
    obtain ⟨v,q⟩:=I2.cell x c e
    exact absurd q.lt (by rw [z]; exact Nat.lt_irrefl _)) (λp hp=>Nat.ne_of_lt (pinIn p hp))
   obtain ⟨m6,hm6,_⟩:=I6.loc
   refine hR _ C _ s6 _ I8 rfl (qn _ _ _ hn rfl rfl) ⟨m6,hm6⟩ ?_ (λz=>?_) (Nat.le_trans hs0 hC) (λx c e z=>?_) λp hp=>Nat.ne_of_lt (Nat.lt_of_lt_of_le (pinIn p hp) hC)
   ·rw [az (Ne.symm hDC)]
    exact I6.free
   ·exact absurd (Nat.lt_of_lt_of_le I2.lt hC) (by rw [z]; exact Nat.lt_irrefl _)
   ·obtain ⟨v,q⟩:=I2.cell x c e
    exact absurd (Nat.lt_of_lt_of_le q.lt hC) (by rw [z]; exact Nat.lt_irrefl _)
  ·refine thn (T.item (aW X (bN Nx ts ix) scope B) rfl rfl rfl hc i _ s5 τ H5 _ I5 (stat fr5) st5 go) λgot s6 hz0=>?_
   obtain ⟨u,hr,h6⟩:=hz0
   subst hr
   refine thn h6 λ_ s7 hz0=>?_
   obtain ⟨x,H7,I7,r7,y7,st7,fr7⟩:=hz0
   have I7':=I7.pinned (stat fr7) (T.obj _ _ st7)
   refine thn (hg B _ s7 τ H7 x u _ I7' r7 (step x H7 y7)) λ_ s8 hz0=>?_
   obtain ⟨τ8,H8,I8,q8⟩:=hz0
   refine thn (hcn B _ s8 τ8 H8 _ I8 q8) λokk s8' hz0=>?_
   obtain ⟨H8',I8',q8'⟩:=hz0
   cases okk with
   | false =>
    obtain ⟨m',hm',w9⟩:=q8'
    obtain ⟨ho,hn,_,_,_⟩:=I8'.pin (s2.heap.objs.size,({ cls:=.type "list",data:=.seq (List.toArray its) n }:Obj)) (List.mem_append_right _ (List.mem_append_left _ (by simp)))
    have I9':Inv (aW X (bN Nx ts ix) scope B) [] τ8 H8' s8':=I8'.pins_of λp hp=>absurd hp (by simp)
    refine ⟨m',hm',i+1,τ8,ys,its,n,H8',pinD I9' ho hn (λv z=>by cases z),?_,λb hb=>?_,rv,hz,w9⟩
    ·refine T.keep _ _ _ st7 λb hb o e=>?_
     exact (I8'.pin (b,o) (List.mem_append_right _ (List.mem_append_right _ (fQ hb e)))).1
    ·obtain ⟨o,e,d⟩:=T.obj _ _ st7 b hb
     exact (I8'.pin (b,o) (List.mem_append_right _ (List.mem_append_right _ (fQ hb e)))).2.1
   | true =>
   refine thn (he B _ s8' τ8 H8' _ I8' q8') λy s9 hz0=>?_
   obtain ⟨vy,H9,I9,r9,m',hm',w9⟩:=hz0
   obtain ⟨ho,hn,_,_,_⟩:=I9.pin (s2.heap.objs.size,({ cls:=.type "list",data:=.seq (List.toArray its) n }:Obj)) (List.mem_append_right _ (List.mem_append_left _ (by simp)))
   have lenv:=rv.length
   refine wpAny_list_append_plain (l:=s2.heap.objs.size) ⟨n,ho⟩ (λh' hpl hsb=>?_) (by rw [List.size_toArray]; omega)
   obtain ⟨n',ho'⟩:=hpl
   have eobj:(its.toArray.push y)=List.toArray (its++[y]):=by simp
   rw [eobj] at ho'
   have I9':Inv (aW X (bN Nx ts ix) scope B) [] τ8 H9 s9:=I9.pins_of λp hp=>absurd hp (by simp)
   have I10:Inv (aW X (bN Nx ts ix) scope B) [] τ8 H9 { s9 with heap:=h' }:=I9'.turned (it:=s2.heap.objs.size) (t':=s9.toks) (λb o hb e=>(hsb.2 b hb).trans e) hn hDC (.inr (Nat.le_refl _)) cellIn (λp hp=>by
    have hp':p∈(X.pn++pins)++[]:=hp
    rw [List.append_nil] at hp'
    exact Nat.ne_of_lt (pinIn p hp'))
   refine ⟨m',hm',i+1,τ8,ys++[vy],its++[y],n',H9,pinD I10 ho' hn (λv z=>by cases z),?_,λb hb=>?_,rv.append (.cons r9 .nil),by rw [List.length_append]; show ys.length+1<=_; omega,w9⟩
   ·refine T.keep _ _ _ st7 λb hb o e=>?_
    have q:=(I9.pin (b,o) (List.mem_append_right _ (List.mem_append_right _ (fQ hb e)))).1
    exact (hsb.2 b (Nat.ne_of_lt (hfs b hb))).trans q
   ·obtain ⟨o,e,d⟩:=T.obj _ _ st7 b hb
    exact (I9.pin (b,o) (List.mem_append_right _ (List.mem_append_right _ (fQ hb e)))).2.1
 exact codeAny_compStart_list (loop _ rfl) (T.self X.A 0 _ _ _ (T.keep _ _ _ st2 λb hb o e=>kp b o e) (loop _ rfl))
theorem my {elt target iter cnd:Expr} {scope:Scope} {pos:Pos} {wi:TI} {g:Blk->TG} {tc:Blk->TT} {te:Blk->TE} (Nx:List Str) (ts:List Str) (ix:List Nat)
  (hc:X.calm=true) (hi:PI X target iter wi) (hg:∀ b,PG (aW X (bN Nx ts ix) scope b) target (g b)) (hcn:∀ b,PT (aW X (bN Nx ts ix) scope b) cnd (tc b)) (he:∀ b,PE (aW X (bN Nx ts ix) scope b) elt (te b))
  (hNx:X.N=Nx) (ok:BlkOk Nx X.env.scope scope ix) (hs:∀ x,foldedSetIterable iter X.env x=pure x:=by intro _; rfl) :
  PE X (.ListComp elt [⟨target,iter,[cnd],0⟩] scope pos) (oX wi ts.length ix g tc te):=by
 intro pins s σ H Q I h
 obtain ⟨cl,hcl,cl1,cl2⟩:=jB (scope:=scope) (env:=X.env) λy hy hf=>I.ok.has y.1 (ok.frees y hy hf)
 rw [eval_ListComp]
 refine wpAny_comprehension_free (use:=none) rfl hs hcl ok.kind ok.locs (thn (hi pins s σ H _ I h) λv s1 h1=>thn h1 λitv s2 h2=>?_)
 refine ZiV (R:=λacc C=>compPost (model X.prog X.w) X.A X.xe none (EP X pins σ Q) acc C) hc hg hcn he hNx ok cl1 cl2 h2 ?_
 rintro D C H' s' v I' rfl q ⟨m,hm⟩ hn hL h0 hcl' hp
 exact ⟨m,hm,λh' hsb=>⟨.ref D,H',I'.turned (it:=C) (t':=s'.toks) (λb o hb e=>(hsb.2 b hb).trans e) hn hL (.inr h0) hcl' hp,rfl,q⟩⟩
end
section
variable {PK:Pk} {X:Cx} {e:Expr} {st:Stmt} {i:List Sl->Tr PyData} {is:List Sl->Tr (List PyData)} {p:List Sl->Tr Bool}
noncomputable def kA (y:Option PyData) (ys:List PyData):Tr (List PyData):=.ret (match y with
 | some y=>y::ys
 | none=>ys)
noncomputable def cL (h:PyData->Tr (Option PyData)):List PyData->Tr (List PyData)
 | []=>.ret []
 | x::xs=>(h x).bind λy=>(cL h xs).bind (kA y)
noncomputable def jr (p:List Sl->Tr Bool) (i:List Sl->Tr PyData) (τ:List Sl):Tr (Option PyData):=(p τ).bind λok=>if ok=true then (i τ).bind λy=>.ret (some y) else .ret none
noncomputable def iH (is:List Sl->Tr (List PyData)) (n:Nat) (ix:List Nat) (g:PyData->List Sl->Option (List Sl)) (p:List Sl->Tr Bool) (el:List Sl->Tr PyData):List Sl->Tr (List PyData):=λρ =>
 (is ρ).bind λxs=>if small xs.length=true then cL (λx=>(Tr.of (g x (blk n ix ρ))).bind (jr p el)) xs else .fail
theorem ZiU {n:Nat} {ix:List Nat} {g:PyData->List Sl->Option (List Sl)} (hn:fj n g):∀ σ H Q,f8 PK (iH is n ix g p i) σ H Q->oX (dC PK is) n ix (λ_=>d8 PK g) (λ_=>TAt PK p) (λ_=>TAe PK i) σ H Q:=by
 rintro σ H Q ⟨pa,G₀,H₀,m,ρ,G,R,z⟩
 refine ⟨pa,G₀,H₀,m,ρ,G,R,Tr.ok_mono (Tr.ok_bind.mp z) λm1 xs k J G1 H1 s1 w1 jo=>λB=>?_⟩
 obtain ⟨hs,k⟩:=fx k
 have hs:xs.length<=sizeLine:=of_decide_eq_true hs
 let el:PyData->Tr (Option PyData):=λx=>(Tr.of (g x (blk n ix ρ))).bind (jr p i)
 let W:Nat->Nat->St->List V->Hp->Prop:=λk mm τ ys H2=>mm=xs.length - k/\k<=xs.length/\ys.length<=k/\∃ m G2 ds,Sub G1 G2/\Stp pa G H G2 H2/\Rl PK pa G₀ H₀ m τ (blk n ix ρ) G2 H2 /\
  DnAll G2 ys ds/\(cL el (xs.drop k)).ok m λm' zs=>Ko1 PK pa m' G H (ds++zs) Q
 refine ⟨W,⟨xs.length,rfl,Nat.zero_le _,Nat.le_refl _,m1,G1,[],.refl,s1,(R.step s1 w1).blk n ix,.nil,k⟩,?_⟩
 rintro k mm τ ys H2 ⟨rfl,hk,hy,m2,G2,ds,sb,st2,R2,dn,k2⟩
 obtain ⟨j1,j2⟩:=jo m2 G2 H2 sb R2.wd
 by_cases hlt:k < xs.length
 ·have hx:xs[k]?=some xs[k]:=by simp [hlt]
  obtain ⟨jg,jy⟩:=j1 k _ hx
  refine .inr ⟨jg,by omega,λx H3 y=>?_⟩
  obtain ⟨G3,s3,w3,d3⟩:=jy x H3 y
  rw [List.drop_eq_getElem_cons hlt] at k2
  unfold cL at k2
  rw [Tr.ok_bind,Tr.ok_bind] at k2
  obtain ⟨ρ3,hg3,k3⟩:=Tr.ok_of k2
  refine ⟨pa,G₀,H₀,m2,_,G3,_,ρ3,R2.step s3 w3,d3,hg3,λτ4 R4=>?_⟩
  obtain ⟨pl,pk⟩:=hn _ _ _ hg3
  have hback:∀ (q:Nat) (sl:Sl),(blk n ix ρ)[q]?=some sl->sl=.un\/ρ3[q]?=some sl:=λq sl hq=>by
   by_cases hqn:q < n
   ·left
    unfold blk at hq
    rw [List.getElem?_append_left (by simpa using hqn),List.getElem?_replicate,if_pos hqn] at hq
    cases hq
    rfl
   ·right
    rw [pk q (Nat.le_of_not_lt hqn)]
    exact hq
  unfold jr at k3
  rw [Tr.ok_bind] at k3
  refine ⟨pa,G₀,H₀,m2,ρ3,G3,R4,Tr.ok_mono k3 λm4 ok k4 G4 H4 s4 w4=>?_⟩
  have R4':=R4.step s4 w4
  have s34:=s3.trans s4 w3.some
  cases ok with
  | false =>
   have k4':((cL el (xs.drop (k+1))).bind (kA none)).ok m4 λm' zs=>Ko1 PK pa m' G H (ds++zs) Q:=k4
   refine ⟨xs.length - (k+1),by omega,rfl,hlt,by omega,m4,G4,ds,sb.trans s34.gs,st2.trans s34 R2.wd.some,R4'.weak pl hback,DnAll.mono s34.gs dn,?_⟩
   exact Tr.ok_mono (Tr.ok_bind.mp k4') λm6 zs k6=>k6
  | true =>
   have k4':((i ρ3).bind λy=>.ret (some y)).ok m4 λm' y=>((cL el (xs.drop (k+1))).bind (kA y)).ok m' λm' zs=>Ko1 PK pa m' G H (ds++zs) Q:=k4
   rw [Tr.ok_bind] at k4'
   refine ⟨pa,G₀,H₀,m4,ρ3,G4,R4',Tr.ok_mono k4' λm5 yd k5=>?_⟩
   intro v G5 H5 s5 w5 d5
   have s35:=s34.trans s5 w4.some
   refine ⟨xs.length - (k+1),by omega,rfl,hlt,by rw [List.length_append]; show ys.length+1<=_; omega,m5,G5,ds++[yd],sb.trans s35.gs,st2.trans s35 R2.wd.some,(R4'.step s5 w5).weak pl hback,(DnAll.mono s35.gs dn).snoc d5,?_⟩
   have k5':((cL el (xs.drop (k+1))).bind (kA (some yd))).ok m5 λm' zs=>Ko1 PK pa m' G H (ds++zs) Q:=k5
   refine Tr.ok_mono (Tr.ok_bind.mp k5') λm6 zs k6=>?_
   rw [List.append_assoc]
   exact k6
 ·have e:k=xs.length:=by omega
  subst e
  refine .inl ⟨j2,λp v H' hp ev eH=>?_⟩
  subst ev eH
  rw [List.drop_length] at k2
  have k2':Ko1 PK pa m2 G H (ds++[]) Q:=k2
  rw [List.append_nil] at k2'
  exact (Ko1.later k2' st2 R2.wd.some).new R2.wd dn hp
theorem n6 {n:Nat} {ix:List Nat} {g:PyData->List Sl->Option (List Sl)} (h:PE X e (oX (dC PK is) n ix (λ_=>d8 PK g) (λ_=>TAt PK p) (λ_=>TAe PK i))) (hn:fj n g):PE X e (f8 PK (iH is n ix g p i)):=h.imp (ZiU hn)
end
section
variable {X:Cx}
section
variable {ρ:List Sl} {is:List Sl->Tr (List PyData)} {n:Nat} {i:List Sl->Tr PyData} {p:List Sl->Tr Bool} {xs:List PyData} {x:PyData}
noncomputable def fB (g:PyData->List Sl->Option (List Sl)) (p:List Sl->Tr Bool) (el:List Sl->Tr PyData) (τ:List Sl) (x:PyData):Tr (Option PyData):=(Tr.of (g x τ)).bind (jr p el)
noncomputable def qC (n:Nat) (ix:List Nat) (g:PyData->List Sl->Option (List Sl)) (p:List Sl->Tr Bool) (el:List Sl->Tr PyData) (ρ:List Sl) (xs:List PyData):Tr (List PyData):=if small xs.length=true then cL (fB g p el (blk n ix ρ)) xs else .fail
theorem ZkR {ix:List Nat} {g:PyData->List Sl->Option (List Sl)}:iH is n ix g p i ρ=(is ρ).bind (qC n ix g p i ρ):=rfl
theorem ZkT {ix:List Nat} {g:PyData->List Sl->Option (List Sl)} (h:small xs.length=true):qC n ix g p i ρ xs=cL (fB g p i (blk n ix ρ)) xs:=by unfold qC; rw [if_pos h]
theorem ZkS {τ:List Sl} {g:PyData->List Sl->Option (List Sl)}:fB g p i τ x=(Tr.of (g x τ)).bind (jr p i):=rfl
noncomputable def qP (y:PyData):Tr (Option PyData):=.ret (some y)
noncomputable def qQ (i:List Sl->Tr PyData) (τ:List Sl) (b:Bool):Tr (Option PyData):=if b=true then (i τ).bind qP else .ret none
theorem Zk9 {τ:List Sl}:jr p i τ=(p τ).bind (qQ i τ):=rfl
theorem Zlb {τ:List Sl}:qQ i τ true=(i τ).bind qP:=rfl
theorem Zlc {τ:List Sl}:qQ i τ false=.ret none:=rfl
theorem Zla:qP x=.ret (some x):=rfl
end
end
section
variable {PK:Pk} {X:Cx} {e:Expr} {as:List Sl->Tr (List Sl)}
end
section
variable {ρ:List Sl} {as:List Sl->Tr (List Sl)} {f:List PyData->Option PyData} {x:PyData} {xs:List PyData} {i j:List Sl->Tr PyData} {k:Nat} {p:List Sl->Tr Bool} {s:List Sl->Tr Ou}
noncomputable def jY (k:Nat) (ρ:List Sl) (x:PyData) (xs:List PyData):PyData->Tr Ou
 | .int y=>(Tr.of (cV xs.length y)).bind λt=>.ret (.next (ρ.set k (.own (xs.set t x))))
 | _=>.fail
noncomputable def ph (k:Nat) (n:List Sl->Tr PyData) (ρ:List Sl) (x:PyData) (xs:List PyData):Tr Ou:=(n ρ).bind (jY k ρ x xs)
noncomputable def pj (k:Nat) (n:List Sl->Tr PyData) (ρ:List Sl) (x:PyData):Tr Ou:=(fw k ρ).bind (ph k n ρ x)
theorem Zj5:jG k j i ρ=(i ρ).bind (pj k j ρ):=by
 unfold jG
 refine congrArg (Tr.bind (i ρ)) (funext λx=>?_)
 rw [pj,<- jc k ρ]
 cases ρ[k]? with
 | none=>rfl
 | some sl =>
  cases sl with
  | own xs =>
   show ((j ρ).bind _:Tr Ou)=(j ρ).bind (jY k ρ x xs)
   refine congrArg (Tr.bind (j ρ)) (funext λy=>?_)
   cases y <;> rfl
  | _=>rfl
theorem Zj4 {n:List Sl->Tr PyData}:pj k n ρ x=(fw k ρ).bind (ph k n ρ x):=rfl
theorem Zj3 {n:List Sl->Tr PyData}:ph k n ρ x xs=(n ρ).bind (jY k ρ x xs):=rfl
theorem nN {y:Int} {t:Nat} (h:cV xs.length y=some t):jY k ρ x xs (.int y)=.ret (.next (ρ.set k (.own (xs.set t x)))):=by
 simp only [jY,h]
 rfl
end
end L2
namespace L2
open PySem PySem.Spec PyProof.Rows
open AutoSeq1 (wpAny_loadPart')
noncomputable def iL (hi:Int) (n:Nat):It:=⟨λi _=>i < n,λi H x H'=>H'=H/\x=.int (hi - i),λi _=>n<=i⟩
theorem ZfY {P:Program} {w:World} {K:PySem.W.Frag} {tg:Expr} (it:Addr) (hi:Int) (n:Nat):Turn P w K tg (iL hi n) [it] it (λi h=>IsRangeIter h it (hi+(i:Nat) * (-1)) ((n:Int) - (i:Nat)) (-1)) where
 mem:=by simp
 obj:=λi h st b hb=>by
  have e:b=it:=by simpa using hb
  subst e
  exact ⟨_,st,λv z=>by
   have z':Data.fields _=Data.cell v:=z
   cases z'⟩
 keep:=λi h h' st k=>k it (by simp) _ st
 item:=by
  intro X hP hw hK hc i pins s σ H E I hf st hg
  subst hP hw hK
  obtain ⟨f0,f1,f2,f3,f4,f5⟩:=hf it (by simp)
  have W:=Walks.range (prog:=X.prog) (w:=X.w) (I.ok.hd hc) it hi (-1) n
  refine W.item i s _ _ hg st λv h' tk hv st' kk=>?_
  obtain ⟨t,rfl⟩:=hv
  have I1:Inv X pins σ H { s with heap:=h',toks:=tk }:=I.turned (λb o hb e=>kk b o (by simpa using hb) e) f0 f1 f3 f4 f5
  refine ⟨_,rfl,kU (s:={ s with heap:=h',toks:=tk }) (n:="range_iterator") st' rfl rfl (by decide) ⟨.int (hi - i),H,I1,⟨t,?_⟩,⟨rfl,rfl⟩,st',λb hb=>(hf b hb).1⟩⟩
  have e:hi+(i:Int) * -1=hi - i:=by omega
  rw [e]
 done:=by
  intro X hP hw hK hc i pins s σ H E I hf st hg
  subst hP hw hK
  obtain ⟨f0,f1,f2,f3,f4,f5⟩:=hf it (by simp)
  exact wpAny_pyNext_range_end (I.ok.hd hc) st (by have:n<=i:=hg; omega) λh' eb=>⟨rfl,I.turned (t':=s.toks) (λb o hb e=>eb b o hb e) f0 f1 f3 f4 f5⟩
 self:=λ_ _ _ _ _ st h=>wpAny_pyIter_rangeiter st h
theorem ZiE (r:Addr) (a b c:Int) (t u v:Tok) (hs:¬ (!(Builtin.Range.rangeFitsLong a && Builtin.Range.rangeFitsLong b && Builtin.Range.rangeFitsLong c && Builtin.Range.rangeFitsLong (-c) && Builtin.Range.rangeFitsLong (a - c) && Builtin.Range.rangeFitsLong (Builtin.Range.rangeSize a b c)))=true) :
  Meets (Builtin.«range.__reversed__» ⟨[.ref r],[]⟩) (λ_ R s=>s.heap.get? r=some { cls:=.type "range",dict:=none,data:=.fields #[.int a t,.int b u,.int c v],slots:=#[] } /\
   R (.ok (.ret (.ref s.heap.objs.size))) { s with heap:=s.heap.push { cls:=.type "range_iterator",data:=.fields #[rawInt (a+(Builtin.Range.rangeSize a b c - 1) * c),rawInt (Builtin.Range.rangeSize a b c),rawInt (-c)] },toks:=s.toks }) :=
 .of_wp λprog w A R s h=>by
  obtain ⟨hp,g,d,tk,os⟩:=s
  obtain ⟨hl,h⟩:=h
  have hs':=hs
  rw [Bool.not_eq_true',Bool.not_eq_false] at hs'
  wp_walk
  rw [if_pos hs']
  exact ⟨_,rfl,h⟩
theorem jt {n:Int} (h1:-(2 ^ 63)<=n) (h2:n < 2 ^ 63):Builtin.Range.rangeFitsLong n=true:=by
 unfold Builtin.Range.rangeFitsLong
 simp
 omega
section
variable {prog:Program} {w:World} {A:Around} {E:Value->Shared->Prop} {s:Shared}
theorem Znb {r:Addr} {a b:Int} {t u v:Tok} {Q₁:Value->Shared->Prop} (hr:IsRange s.heap r a b 1 t u v) (ha:-(2 ^ 62)<=a) (ha':a < 2 ^ 62) (hb:-(2 ^ 62)<=b) (hb':b < 2 ^ 62)
  (h:Q₁ (.ref s.heap.objs.size) { s with heap:=s.heap.push { cls:=.type "range_iterator",data:=.fields #[rawInt (a+(Builtin.Range.rangeSize a b 1 - 1) * 1),rawInt (Builtin.Range.rangeSize a b 1),rawInt (-1)] } }) :
  codeAny (model prog w) A (.call (.builtin "reversed.__new__") ⟨[.type "reversed",.ref r],[]⟩) (wants Q₁ E) s:=by
 have hT:s.TypeIs (.ref r) "range":=⟨_,hr,rfl⟩
 refine codeAny_of_tree ?_
 show wpAny _ A.in1 (do checkBuiltinCall "reversed.__new__" ⟨[.type "reversed",.ref r],[]⟩; again (.builtin "reversed.__new__" ⟨[.type "reversed",.ref r],[]⟩)) _ _ s
 refine wpAny_bind (wpAny_of_eq (F.newCall_reversed_1 _) (wpAny_pure ⟨plainId_quiet F.plain_reversed_new _,codeAny_builtin F.entry_reversed_new ?_⟩))
 rw [Around.under_plainId F.plain_reversed_new _]
 unfold Builtin.«reversed.__new__»
 refine wpAny_bind (wpAny_of_eq (newClass_reversed _) ?_)
 try dsimp only
 refine wpAny_bind (wpAny_of_eq (a:=()) (by first | rfl | kernel_rfl) ?_)
 refine wpAny_bind (wpAny_of_eq (a:=()) (by first | rfl | kernel_rfl) ?_)
 try dsimp only
 refine wpAny_bind (wpAny_specialOf hT F.slot_range_reversed.lookup ?_)
 try dsimp only
 refine wpAny_bind (wpAny_of_eq (F.slot_range_reversed.bind _) ?_)
 try dsimp only
 first
 | rw [if_neg (show ¬ ((Value.builtin "range.__reversed__" == Value.none)=true) from Bool.false_ne_true)]
 | (show wpAny _ _ (if (Value.builtin "range.__reversed__" == Value.none)=true then _ else _) _ _ _; rw [if_neg (show ¬ ((Value.builtin "range.__reversed__" == Value.none)=true) from Bool.false_ne_true)])
 refine wpAny_bind (wpAny_rule ?_)
 have hsz:Builtin.Range.rangeSize a b 1=if a < b then b - a else 0:=rangeSize_one a b
 refine wpAny_bind (m:=runValue (.call (.builtin "range.__reversed__") ⟨[.ref r],[]⟩)) (show wpAny _ _ (call (.builtin "range.__reversed__") [.ref r]) _ _ _ from
  call_meets F.slot_range_reversed hT F.entry_range_reversed (F.args_range_reversed_1 _) (ZiE r a b 1 t u v ?_) ⟨hr,?_⟩)
 ·rw [Bool.not_eq_true',Bool.not_eq_false,jt (by omega) (by omega),jt (by omega) (by omega),jt (by decide) (by decide),jt (by decide) (by decide),jt (n:=a - 1) (by omega) (by omega),jt (n:=Builtin.Range.rangeSize a b 1) (by rw [hsz]; split <;> omega) (by rw [hsz]; split <;> omega)]
  rfl
 ·first
  | exact wpAny_pure h
  | exact wpAny_bind (wpAny_pure (wpAny_pure h))
theorem Zgu:isSubtype (.type "range_iterator") (.type "reversed")=pure false:=by rw [isSubtype_type]; kernel_rfl
theorem Zni {r:Addr} {a b:Int} {t u v:Tok} {Q:Value->Shared->Prop} (hr:IsRange s.heap r a b 1 t u v) (ha:-(2 ^ 62)<=a) (ha':a < 2 ^ 62) (hb:-(2 ^ 62)<=b) (hb':b < 2 ^ 62)
  (h:Q (.ref s.heap.objs.size) { s with heap:=s.heap.push { cls:=.type "range_iterator",data:=.fields #[rawInt (a+(Builtin.Range.rangeSize a b 1 - 1) * 1),rawInt (Builtin.Range.rangeSize a b 1),rawInt (-1)] } }):wpAny (model prog w) A (call (.type "reversed") [.ref r]) Q E s:=by
 refine callType_other (U:="range_iterator") (Q₁:=λobj s₁=>obj=.ref s.heap.objs.size/\s₁={ s with heap:=s.heap.push { cls:=.type "range_iterator",data:=.fields #[rawInt (a+(Builtin.Range.rangeSize a b 1 - 1) * 1),rawInt (Builtin.Range.rangeSize a b 1),rawInt (-1)] } }) (by decide +kernel) F.create_reversed ⟨_,_,F.mro_reversed⟩ F.made_reversed Zgu (F.typeCall_reversed_1 _) (Znb hr ha ha' hb hb' ⟨rfl,rfl⟩) ?_
 rintro obj s₁ ⟨rfl,rfl⟩
 exact ⟨⟨_,Heap.get?_push_size _ rfl,rfl⟩,h⟩
end
theorem Zcx:Manifest.owners.lookup (String.ofList ['d','e','s','r','e','v','e','r'].reverse)=some Manifest.sig_reversed:=by kernel_rfl
theorem ZgB:Slot "reversed" "__init__" "object.__init__" :=
 .of (owner:="object") (n:="__init__") (by rw [typeLookup_type,builtinLookup_eq_fast]; kernel_rfl) (by decide +kernel) (by decide +kernel) (by decide +kernel)
  (by first | exact .inl (by decide +kernel) | exact .inr (by decide +kernel)) (by rw [isSubtype_type]; kernel_rfl)
theorem jX:Slot "reversed" "__next__" "reversed.__next__" :=
 .of (owner:="reversed") (n:="__next__") (by rw [typeLookup_type,builtinLookup_eq_fast]; kernel_rfl) (by decide +kernel) (by decide +kernel) (by decide +kernel)
  (by first | exact .inl (by decide +kernel) | exact .inr (by decide +kernel)) (by rw [isSubtype_type]; kernel_rfl)
theorem ZdV:entryFor table "reversed.__next__"=some Builtin.«reversed.__next__»:=entryFor_of_tree (by kernel_rfl)
theorem Zfn (a:Value):argsOk "reversed.__next__" ⟨[a],[]⟩:=by
 unfold argsOk; rw [signature?_of (id:="reversed.__next__") (n:=['_','_','t','x','e','n','_','_']) (o:=['d','e','s','r','e','v','e','r']) (by kernel_rfl) Zcx]; kernel_rfl
theorem ZaT:Slot "reversed" "__iter__" "reversed.__iter__" :=
 .of (owner:="reversed") (n:="__iter__") (by rw [typeLookup_type,builtinLookup_eq_fast]; kernel_rfl) (by decide +kernel) (by decide +kernel) (by decide +kernel)
  (by first | exact .inl (by decide +kernel) | exact .inr (by decide +kernel)) (by rw [isSubtype_type]; kernel_rfl)
theorem Zn1 (a:Value):argsOk "reversed.__iter__" ⟨[a],[]⟩:=by
 unfold argsOk; rw [signature?_of (id:="reversed.__iter__") (n:=['_','_','r','e','t','i','_','_']) (o:=['d','e','s','r','e','v','e','r']) (by kernel_rfl) Zcx]; kernel_rfl
theorem ZlZ:entryFor table "reversed.__iter__"=some Builtin.«dict_keyiterator.__iter__» :=
 entryFor_alias (id':="dict_keyiterator.__iter__") (by kernel_rfl) (by first | rfl | decide +kernel | (unfold String.splitOn; simp +decide [String.splitOnAux])) (by decide +kernel) (by kernel_rfl)
theorem Zng:TypeCalled "reversed" "reversed.__new__" "object.__init__" :=
 ⟨by decide +kernel,by decide +kernel,⟨_,_,F.mro_reversed⟩,F.made_reversed,by decide +kernel,by rw [isSubtype_type]; kernel_rfl,ZgB⟩
theorem Zio:typeLookup (.type "tuple") "__reversed__"=pure none:=by rw [typeLookup_type,builtinLookup_eq_fast]; kernel_rfl
theorem ZiD (l:Addr) (items:Array Value) (hfit:(items.size:Int) < 2 ^ 63) :
  Meets (Builtin.«reversed.__new__» ⟨[.type "reversed",.ref l],[]⟩) (λ_ R s=>IsTup s.heap l items /\
   R (.ok (.ret (.ref s.heap.objs.size))) { s with heap:=s.heap.push { cls:=.type "reversed",data:=.fields #[.ref l,rawInt ((items.size:Int) - 1)] },toks:=s.toks+1+1 }) :=
 .of_wp λprog w A R s h=>by
  obtain ⟨hp,g,d,tk,os⟩:=s
  obtain ⟨hl,h⟩:=h
  have hl':(Shared.mk hp g d tk os).heap.IsTuple l items:=hl
  unfold Builtin.«reversed.__new__»
  refine wpAny_bind (wpAny_of_eq (newClass_reversed _) ?_)
  try dsimp only
  refine wpAny_bind (wpAny_of_eq (a:=()) (by first | rfl | kernel_rfl) ?_)
  refine wpAny_bind (wpAny_of_eq (a:=()) (by first | rfl | kernel_rfl) ?_)
  try dsimp only
  refine wpAny_bind (wpAny_specialOf hl'.typeIs Zio ?_)
  try dsimp only
  refine wpAny_bind ?_
  show wpAny _ _ (isInstance (Value.ref l) (.type "dict") >>= _) _ _ _
  refine wpAny_bind (wpAny_isInstance (T:="tuple") (b:=false) hl'.typeIs (by rw [isSubtype_type]; kernel_rfl) ?_)
  show wpAny _ _ (specialOf (Value.ref l) "__getitem__" >>= _) _ _ _
  refine wpAny_bind (wpAny_specialOf hl'.typeIs F.slot_tuple_getitem.lookup ?_)
  refine wpAny_pure ?_
  show wpAny _ _ (call (Value.builtin "len") [Value.ref l] >>= _) _ _ _
  refine wpAny_bind (len_tuple hl hfit ?_)
  refine wpAny_bind (wpAny_of_eq (a:=some (items.size:Int)) rfl ?_)
  show wpAny _ _ (newObj (.type "reversed") (.fields #[.ref l,rawInt ((items.size:Int) - 1)]) >>= _) _ _ _
  refine wpAny_bind (wpAny_newObj_type ?_)
  exact wpAny_pure ⟨_,rfl,h⟩
noncomputable def IsTRev (h:Heap) (a l:Addr) (i:Int):Prop:=∃ o,h.get? a=some o/\o.cls=.type "reversed"/\o.data=.fields #[.ref l,rawInt i]
theorem IsTRev.at {h h':Heap} {a l:Addr} {i:Int} (x:IsTRev h a l i) (e:∀ o,h.get? a=some o->h'.get? a=some o):IsTRev h' a l i:=let ⟨o,ho,r⟩:=x; ⟨o,e _ ho,r⟩
section
variable {prog:Program} {w:World} {A:Around} {E:Value->Shared->Prop} {s:Shared}
theorem Znh {l:Addr} {items:Array Value} {Q:Value->Shared->Prop} (hl:IsTup s.heap l items) (hfit:(items.size:Int) < 2 ^ 63)
  (h:Q (.ref s.heap.objs.size) { s with heap:=s.heap.push { cls:=.type "reversed",data:=.fields #[.ref l,rawInt ((items.size:Int) - 1)] },toks:=s.toks+1+1 }) :
  wpAny (model prog w) A (call (.type "reversed") [.ref l]) Q E s :=
 callType_new Zng (by decide) (F.typeCall_reversed_1 _) (F.newCall_reversed_1 _) (λobj=>F.args_object_init_2 obj _) F.entry_reversed_new (ZiD l items hfit) ⟨hl,⟨_,Heap.get?_push_size _ rfl,rfl⟩,h⟩
theorem Zhx {it l:Addr} {i:Nat} {items:Array Value} {x:Value} {Q:Option Value->Shared->Prop} (hit:IsTRev s.heap it l (i:Int)) (hl:IsTup s.heap l items) (hne:l≠it) (hx:items[i]?=some x) (hfit:(items.size:Int) < 2 ^ 63)
  (hQ:∀ h',IsTRev h' it l ((i:Int) - 1)->Heap.SameBut it s.heap h'->Q (some x) { s with heap:=h',toks:=s.toks+1 }):wpAny (model prog w) A (pyNext (.ref it)) Q E s:=by
 obtain ⟨o,ho,hc,hd⟩:=id hit
 have hT:s.TypeIs (.ref it) "reversed":=⟨o,ho,hc⟩
 have hl':s.heap.IsTuple l items:=hl
 have hlt:i < items.size:=(Array.getElem?_eq_some_iff.mp hx).1
 unfold pyNext
 refine wpAny_bind (wpAny_attempt (wpAny_callSpecial?_slot (name:=Str.ofString "__next__") hT jX
  (wpAny_call_entry jX hT ZdV ?_ (Zfn _))))
 unfold Builtin.«reversed.__next__»
 refine wpAny_bind (wpAny_of_eq (a:=(Value.ref it,[])) rfl ?_)
 try dsimp only
 refine wpAny_bind (wpAny_field ho hd (x:=.ref l) rfl ?_)
 refine wpAny_bind (wpAny_field ho hd (x:=rawInt (i:Int)) rfl ?_)
 show wpAny _ _ (if (i:Int) < 0 then _ else _) _ _ s
 rw [if_neg (by omega)]
 refine wpAny_bind (wpAny_specialOf hl'.typeIs F.slot_tuple_getitem.lookup ?_)
 show wpAny _ _ (mkInt (i:Int) >>= _) _ _ s
 refine wpAny_bind (wpAny_mkInt ?_)
 refine wpAny_bind (wpAny_attempt (getItem_tuple (j:=i) (x:=x) hl (by omega) (by omega) ?_ hx ?_))
 ·unfold seqIndex?
  simp
  omega
 ·dsimp only
  refine wpAny_bind (wpAny_field ho hd (x:=rawInt (i:Int)) rfl ?_)
  show wpAny _ _ (setField (.ref it) 1 (rawInt ((i:Int) - 1)) >>= _) _ _ _
  refine wpAny_bind (wpAny_setField ho hd (by simp) ?_)
  refine wpAny_pure ⟨x,rfl,wpAny_pure (hQ _ ?_ (Heap.SameBut.update ..))⟩
  exact ⟨_,Heap.get?_update_self _ ho (Obj.isFreed_of_fields (Obj.data_mapFields hd _)),(Obj.cls_mapFields ..).trans hc,by
   rw [Obj.data_mapFields hd]; simp⟩
theorem Zhy {it l:Addr} {Q:Option Value->Shared->Prop} (hh:A.handled=none) (hit:IsTRev s.heap it l (-1))
  (hQ:∀ h',Heap.ExtBut it s.heap h'->Q none { s with heap:=h' }):wpAny (model prog w) A (pyNext (.ref it)) Q E s:=by
 obtain ⟨o,ho,hc,hd⟩:=id hit
 have hT:s.TypeIs (.ref it) "reversed":=⟨o,ho,hc⟩
 unfold pyNext
 refine wpAny_bind (wpAny_attempt (wpAny_callSpecial?_slot (name:=Str.ofString "__next__") hT jX
  (wpAny_call_entry jX hT ZdV ?_ (Zfn _))))
 unfold Builtin.«reversed.__next__»
 refine wpAny_bind (wpAny_of_eq (a:=(Value.ref it,[])) rfl ?_)
 try dsimp only
 refine wpAny_bind (wpAny_field ho hd (x:=.ref l) rfl ?_)
 refine wpAny_bind (wpAny_field ho hd (x:=rawInt (-1)) rfl ?_)
 show wpAny _ _ (if (-1:Int) < 0 then _ else _) _ _ s
 rw [if_pos (by decide)]
 refine wpAny_bind (wpAny_rule ?_)
 refine wpAny_bind ?_
 show wpAny _ _ (setField (.ref it) 1 (rawInt (-1)) >>= _) _ _ _
 refine wpAny_bind (wpAny_setField ho hd (by simp) ?_)
 have ho2:=Heap.get?_update_self (Obj.mapFields λx_1=>x_1.setIfInBounds 1 (rawInt (-1))) ho (Obj.isFreed_of_fields (Obj.data_mapFields hd _))
 refine wpAny_setField ho2 (Obj.data_mapFields hd _) (by simp) ?_
 have eb:Heap.ExtBut it s.heap ((s.heap.update it (Obj.mapFields λx_1=>x_1.setIfInBounds 1 (rawInt (-1)))).update it (Obj.mapFields λx_1=>x_1.setIfInBounds 0 Value.none)):=λb o' hb e=>(Heap.SameBut.update _ _ _).extBut b o' hb ((Heap.SameBut.update _ _ _).extBut b o' hb e)
 show wpAny _ _ (newExc (.type "StopIteration") [] >>= _ >>= _) _ _ _
 refine wpAny_bind ?_
 refine wpAny_bind ?_
 simp only [newExc,newTuple]
 refine wpAny_bind (wpAny_newObj_type ?_ (by size_fits))
 refine wpAny_bind (m:=firstArgMember _ _) (wpAny_of_eq (a:=Value.none) (by first | rfl | (simp only [firstArgMember]; rfl)) ?_)
 refine wpAny_newObj_type ?_ (by size_fits)
 simp only [raiseNew]
 refine wpAny_bind (wpAny_handled ?_)
 first | rw [show A.in1.handled=none from hh] | rw [hh]
 refine wpAny_bind (wpAny_pure (wpAny_throw ?_))
 refine wpAny_bind (wpAny_isInstance (T:="StopIteration") (b:=true) ⟨_,Heap.get?_push_size _ rfl,rfl⟩ isSubtype_stop ?_)
 exact wpAny_pure (hQ _ ((eb.push _).push _))
theorem Zcj {it l:Addr} {i:Int} {Q:Value->Shared->Prop} (hit:IsTRev s.heap it l i) (h:Q (.ref it) s):wpAny (model prog w) A (pyIter (.ref it)) Q E s:=by
 obtain ⟨o,ho,hc,hd⟩:=id hit
 have hT:s.TypeIs (.ref it) "reversed":=⟨o,ho,hc⟩
 refine wpAny_pyIter_slot hT ZaT (wpAny_call_entry ZaT hT ZlZ ?_ (Zn1 _))
 show wpAny _ _ (ret (.ref it)) _ _ s
 exact wpAny_pure ⟨_,rfl,"reversed",_,hT,jX.lookup,h⟩
end
noncomputable def lH (b:Bool) (l:Addr) (n:Nat):It :=
 ⟨λi H=>i < n/\∃ xs,H l=some (cr b xs)/\xs.length=n,λi H x H'=>H'=H/\∃ xs,H l=some (cr b xs)/\xs[n - 1 - i]?=some x,λi _=>i=n⟩
noncomputable def RvAt (b:Bool) (h:Heap) (it l:Addr) (i:Int):Prop:=match b with
 | true=>h.IsRevIter it l i
 | false=>IsTRev h it l i
theorem RvAt.there {b:Bool} {h:Heap} {it l:Addr} {i:Int} (x:RvAt b h it l i):∃ o n vs,h.get? it=some o/\o.cls=.type n/\o.data=.fields vs/\["enumerate","zip","dict_itemiterator","dict_reverseitemiterator","odict_iterator","itertools.zip_longest","itertools.pairwise"].contains n=false:=by
 cases b with
 | true=>obtain ⟨o,h1,h2,h3⟩:=x; exact ⟨o,_,_,h1,h2,h3,by decide⟩
 | false=>obtain ⟨o,h1,h2,h3⟩:=x; exact ⟨o,_,_,h1,h2,h3,by decide⟩
theorem RvAt.at {b:Bool} {h h':Heap} {it l:Addr} {i:Int} (x:RvAt b h it l i) (e:∀ o,h.get? it=some o->h'.get? it=some o):RvAt b h' it l i:=by
 cases b with
 | true=>exact Heap.IsRevIter.at x e
 | false=>exact IsTRev.at x e
theorem Zav {P:Program} {w:World} {K:PySem.W.Frag} {tg:Expr} {b:Bool} {l:Addr} {n:Nat} (it:Addr) (hn:(n:Int) < 2 ^ 63):Turn P w K tg (lH b l n) [it] it (λi h=>RvAt b h it l ((n:Int) - 1 - (i:Nat))) where
 mem:=by simp
 obj:=λi h st c hb=>by
  have e:c=it:=by simpa using hb
  subst e
  obtain ⟨o,_,_,h1,_,h3,_⟩:=st.there
  exact ⟨o,h1,λv z=>by rw [h3] at z; cases z⟩
 keep:=λi h h' st k=>st.at λo e=>k it (by simp) o e
 item:=by
  intro X hP hw hK hc i pins s σ H E I hf st hg
  subst hP hw hK
  obtain ⟨hi,xs,e1,hlen⟩:=hg
  obtain ⟨us,r1,q1⟩:=gb I.hok e1
  obtain ⟨f0,f1,f2,f3,f4,f5⟩:=hf it (by simp)
  have hxl:n - 1 - i < xs.length:=by omega
  have hx:xs[n - 1 - i]?=some xs[n - 1 - i]:=List.getElem?_eq_getElem hxl
  obtain ⟨u,hu,ru⟩:=r1.get hx
  have ne:l≠it:=cw e1 f0
  have ei:(n:Int) - 1 - (i:Nat)=((n - 1 - i:Nat):Int):=by omega
  have ei2:((n - 1 - i:Nat):Int) - 1=(n:Int) - 1 - ((i+1:Nat):Int):=by omega
  rw [ei] at st
  have usz:us.toArray.size=n:=by rw [List.size_toArray,<- r1.length]; exact hlen
  have fin:∀ (h':Heap) (tk:Nat),RvAt b h' it l ((n:Int) - 1 - ((i+1:Nat):Int))->Heap.SameBut it s.heap h'->∃ u',some u=some u'/\wpAny (model X.prog X.w) X.A (letOwnedTupleGo tg (.ref it) u') (λ_ s2=>∃ x H',Inv X pins σ H' s2/\RelV x u'/\(lH b l n).yld i H x H'/\RvAt b s2.heap it l ((n:Int) - 1 - ((i+1:Nat):Int))/\∀ b∈[it],H' b=none) E { s with heap:=h',toks:=tk }:=λh' tk st' sb=>by
   have I1:Inv X pins σ H { s with heap:=h',toks:=tk }:=I.turned (λb o hb e=>(sb.2 b hb).trans e) f0 f1 f3 f4 f5
   obtain ⟨o,nm,vs,g1,g2,g3,g4⟩:=st'.there
   exact ⟨u,rfl,kU (s:={ s with heap:=h',toks:=tk }) g1 g2 g3 g4 ⟨_,H,I1,ru,⟨rfl,xs,e1,hx⟩,st',λb hb=>(hf b hb).1⟩⟩
  cases b with
  | true =>
   refine wpAny_pyNext_rev_item (i:=n - 1 - i) st q1 (x:=u) (by simpa using hu) λh' st' sb=>?_
   rw [ei2] at st'
   exact fin h' s.toks st' sb
  | false =>
   refine Zhx (i:=n - 1 - i) st q1 ne (x:=u) (by simpa using hu) (by rw [usz]; exact hn) λh' st' sb=>?_
   rw [ei2] at st'
   exact fin h' (s.toks+1) st' sb
 done:=by
  intro X hP hw hK hc i pins s σ H E I hf st hg
  subst hP hw hK
  obtain ⟨f0,f1,f2,f3,f4,f5⟩:=hf it (by simp)
  have hi:i=n:=hg
  subst hi
  have e:(i:Int) - 1 - (i:Nat)=-1:=by omega
  rw [e] at st
  cases b with
  | true=>exact wpAny_pyNext_rev_end (I.ok.hd hc) st λh' eb=>⟨rfl,I.turned (t':=s.toks) (λb o hb e=>eb b o hb e) f0 f1 f3 f4 f5⟩
  | false=>exact Zhy (I.ok.hd hc) st λh' eb=>⟨rfl,I.turned (t':=s.toks) (λb o hb e=>eb b o hb e) f0 f1 f3 f4 f5⟩
 self:=λ_ _ _ _ _ st h=>by
  cases b with
  | true=>exact wpAny_pyIter_revIter st h
  | false=>exact Zcj st h
section
variable {X:Cx} {tg:Expr} {PK:Pk} {a b:Expr} {i j:List Sl->Tr PyData} {p pos:Pos}
noncomputable def qS (ta:TE):TI:=λσ H R=>ta σ H λx H1=>(∃ b l xs,x=.ref l/\H1 l=some (cr b xs)/\R (lH b l xs.length) H1) \/
 (∃ l lo hi,x=.ref l/\H1 l=some (.rng lo hi)/\-(2 ^ 62)<=lo/\lo < 2 ^ 62/\-(2 ^ 62)<=hi/\hi < 2 ^ 62/\R (iL (lo+(hi - lo).toNat - 1) (hi - lo).toNat) H1)
theorem Zcp {ta:TE} (hg:Gl X "reversed") (hm:X.mg "reversed"=none) (ha:PE X a ta)
  (hs:starEach [a] X.env=[(false,eval a X.env)]:=by rfl):PI X tg (.Call (.Name "reversed" p) [a] [] pos) (qS ta):=by
 intro pins s σ H R I h
 have hab:PA X [a] (ie ta aY):=cB ha cT (by rw [hs]; rfl)
 have h':ie ta aY σ H λvs H1=>∃ x,vs=[x]/\((∃ b l xs,x=.ref l/\H1 l=some (cr b xs)/\R (lH b l xs.length) H1) \/
   (∃ l lo hi,x=.ref l/\H1 l=some (.rng lo hi)/\-(2 ^ 62)<=lo/\lo < 2 ^ 62/\-(2 ^ 62)<=hi/\hi < 2 ^ 62/\R (iL (lo+(hi - lo).toNat - 1) (hi - lo).toNat) H1)):=by
  have h0:ta σ H λx H1=>(∃ b l xs,x=.ref l/\H1 l=some (cr b xs)/\R (lH b l xs.length) H1) \/
   (∃ l lo hi,x=.ref l/\H1 l=some (.rng lo hi)/\-(2 ^ 62)<=lo/\lo < 2 ^ 62/\-(2 ^ 62)<=hi/\hi < 2 ^ 62/\R (iL (lo+(hi - lo).toNat - 1) (hi - lo).toNat) H1):=h
  refine cast (congrArg (ta σ H) ?_) h0
  funext x H1
  apply propext
  constructor
  ·exact λq=>⟨x,rfl,q⟩
  ·rintro ⟨y,e,q⟩
   have e':x=y:=by simpa using e
   subst e'
   exact q
 refine Call_ (jn I hg hm boot_reversed (PyProof.Rows.callWith_type1 (thn (hab pos pins s σ H _ I h') λus s1 hz0=>?_) (by rw [hs]; rfl) rfl))
 obtain ⟨vs,H1,I1,r1,q1⟩:=hz0
 obtain ⟨x,rfl,q1⟩:=q1
 obtain ⟨u,rfl,ru⟩:=fq r1
 have fp:∀ c∈[s1.heap.objs.size],fm X pins H1 c:=λc hb=>by
  have e:c=s1.heap.objs.size:=by simpa using hb
  subst e
  exact I1.fpOk (Nat.le_refl _) (I1.hok.fresh (Nat.le_refl _))
 have hn:=gY
 rcases q1 with ⟨b,l,xs,rfl,e1,q⟩ | ⟨l,lo,hi,rfl,e1,b1,b2,b3,b4,q⟩
 ·cases ru
  obtain ⟨us,r2,q2⟩:=gb I1.hok e1
  have usz:us.toArray.size=xs.length:=by rw [List.size_toArray,<- r2.length]
  have hz:xs.length<=sizeLine:=by
   cases b with
   | true=>exact (I1.hok _ _ e1).1
   | false=>exact (I1.hok _ _ e1).1
  cases b with
  | true =>
   refine call_reversed_list q2 (wpAny_pyIter_revIter ⟨_,Heap.get?_push_size _ rfl,rfl,rfl⟩ ?_)
   refine ⟨_,_,_,_,H1,rfl,I1.kept (t':=s1.toks) λb o e=>Heap.get?_push_of_some _ e,Zav (b:=true) (l:=l) (n:=xs.length) s1.heap.objs.size (by omega),?_,fp,q⟩
   refine ⟨_,Heap.get?_push_size _ rfl,rfl,?_⟩
   rw [usz]
   show Data.fields #[_,rawInt ((xs.length:Int) - 1)]=Data.fields #[_,rawInt ((xs.length:Int) - 1 - ((0:Nat):Int))]
   simp
  | false =>
   refine Znh q2 (by rw [usz]; omega) (Zcj ⟨_,Heap.get?_push_size _ rfl,rfl,rfl⟩ ?_)
   refine ⟨_,_,_,_,H1,rfl,I1.kept (t':=s1.toks+1+1) λb o e=>Heap.get?_push_of_some _ e,Zav (b:=false) (l:=l) (n:=xs.length) s1.heap.objs.size (by omega),?_,fp,q⟩
   refine ⟨_,Heap.get?_push_size _ rfl,rfl,?_⟩
   rw [usz]
   show Data.fields #[_,rawInt ((xs.length:Int) - 1)]=Data.fields #[_,rawInt ((xs.length:Int) - 1 - ((0:Nat):Int))]
   simp
 ·cases ru
  obtain ⟨t,u,v,e⟩:=I1.hok _ _ e1
  have hsz:Builtin.Range.rangeSize lo hi 1=((hi - lo).toNat:Int):=by rw [rangeSize_one]; split <;> omega
  refine Zni e b1 b2 b3 b4 (wpAny_pyIter_rangeiter (Heap.get?_push_size _ rfl) ?_)
  refine ⟨_,_,_,_,H1,rfl,I1.kept (t':=s1.toks) λb o e=>Heap.get?_push_of_some _ e,ZfY s1.heap.objs.size (lo+(hi - lo).toNat - 1) (hi - lo).toNat,?_,fp,q⟩
  rw [hsz]
  have e1:lo+(((hi - lo).toNat:Int) - 1) * 1=lo+(hi - lo).toNat - 1+((0:Nat):Int) * (-1):=by simp; omega
  have e2:((hi - lo).toNat:Int)=((hi - lo).toNat:Int) - ((0:Nat):Int):=by simp
  rw [e1]
  show IsRangeIter _ _ _ (((hi - lo).toNat:Int) - ((0:Nat):Int)) (-1)
  rw [<- e2]
  exact Heap.get?_push_size _ rfl
end
end L2
namespace L2
open PySem PySem.Spec PyProof.Rows
section
variable {X:Cx} {tg:Expr} {PK:Pk} {e:Expr} {i j:List Sl->Tr PyData} {is:List Sl->Tr (List PyData)} {p pos:Pos}
theorem Znk:dO X (.type "range") (λxs H Q=>∃ j:Int,xs=[.int j]/\∀ p,H p=none->Q (.ref p) (upd H p (.rng 0 j))):=by
 intro pins s σ H xs us Q I r h
 obtain ⟨j,rfl,q⟩:=h
 cases r with
 | cons r1 rr =>
  cases rr
  obtain ⟨t,rfl⟩:=r1
  refine call_range_1 ?_
  exact ⟨.ref s.heap.objs.size,_,I.laid (t':=s.toks+1+1) (λb o e=>Heap.get?_push_of_some _ e) (Nat.le_refl _) (show ObjOk X.prog X.w _ _ _ (.rng 0 j) from ⟨s.toks,t,s.toks+1,Heap.get?_push_size _ rfl⟩),rfl,q _ (I.hok.fresh (Nat.le_refl _))⟩
theorem Zdf {pa:Addr} {G:Hp} {lo:Int} {n:Nat}:jO PK pa (iL (lo+n - 1) n) G ((aB lo n).map PyData.int).reverse:=λm G2 H2 sb w=>by
 have hl:((aB lo n).map PyData.int).length=n:=by rw [List.length_map,gh]
 refine ⟨λk x hx=>?_,by show n<=_; rw [List.length_reverse,hl]; exact Nat.le_refl _⟩
 have hk:k < n:=by
  have:=(List.getElem?_eq_some_iff.mp hx).1
  rwa [List.length_reverse,hl] at this
 refine ⟨hk,λy H3 hz0=>?_⟩
 obtain ⟨e1,e2⟩:=hz0
 subst e1 e2
 have:x=.int (lo+n - 1 - k):=by
  rw [List.getElem?_reverse (by rw [hl]; exact hk),hl] at hx
  unfold aB at hx
  rw [List.map_map,List.getElem?_map,List.getElem?_range (by omega)] at hx
  cases hx
  show PyData.int (lo+((n - 1 - k:Nat):Int))=_
  congr 1
  omega
 subst this
 exact ⟨G2,.refl,w,.int _⟩
noncomputable def rS (is:List Sl->Tr (List PyData)):List Sl->Tr (List PyData):=λρ=>(is ρ).bind λxs=>(Tr.of (iY xs)).bind λys=>.ret ys.reverse
noncomputable def rR (is:List Sl->Tr (List PyData)):List Sl->Tr (List PyData):=λρ=>(is ρ).bind λxs=>(Tr.of (iX xs)).bind λys=>.ret ys.reverse
noncomputable def Zgh (t:TA):TE:=iQ (λxs H Q=>∃ j:Int,xs=[.int j]/\∀ p,H p=none->Q (.ref p) (upd H p (.rng 0 j))) t
noncomputable def Zgg (t:TA):TE:=iQ (λxs H Q=>∃ i j:Int,xs=[.int i,.int j]/\∀ p,H p=none->Q (.ref p) (upd H p (.rng i j))) t
theorem Zn5 {iter:Expr} (h:PI X tg iter (qS (Zgh (TAd PK is)))):PI X tg iter (dC PK (rS is)):=h.imp λσ H R0 hz0=>by
 obtain ⟨pa,G₀,H₀,m,ρ,G,R,z⟩:=hz0
 refine TAd.then R z λm1 xs vs G1 H1 s1 w1 R1 d1 q1=>?_
 rw [Tr.ok_bind] at q1
 obtain ⟨ys,hy,q1⟩:=Tr.ok_of q1
 obtain ⟨n,e,h1,h2,rfl⟩:=ZbH d1 hy
 refine ⟨n,e,λp hp=>?_⟩
 obtain ⟨w2,s2⟩:=w1.own (o:=.rng 0 n) hp
 refine .inr ⟨p,0,n,rfl,bT,by decide,by decide,h1,h2,?_⟩
 have q:=q1 (iL (0+(n - 0).toNat - 1) (n - 0).toNat) G1 _ (s1.trans s2 w1.some) w2
 unfold ba at q
 exact q Zdf
theorem Zn4 {iter:Expr} (h:PI X tg iter (qS (Zgg (TAd PK is)))):PI X tg iter (dC PK (rR is)):=h.imp λσ H R0 hz0=>by
 obtain ⟨pa,G₀,H₀,m,ρ,G,R,z⟩:=hz0
 refine TAd.then R z λm1 xs vs G1 H1 s1 w1 R1 d1 q1=>?_
 rw [Tr.ok_bind] at q1
 obtain ⟨ys,hy,q1⟩:=Tr.ok_of q1
 obtain ⟨k,n,e,⟨h1,h2,h3,h4⟩,rfl⟩:=ZbG d1 hy
 refine ⟨k,n,e,λp hp=>?_⟩
 obtain ⟨w2,s2⟩:=w1.own (o:=.rng k n) hp
 refine .inr ⟨p,k,n,rfl,bT,h1,h2,h3,h4,?_⟩
 exact q1 (iL (k+(n - k).toNat - 1) (n - k).toNat) G1 _ (s1.trans s2 w1.some) w2 Zdf
end
section
variable {X:Cx} {PK:Pk} {i n:List Sl->Tr PyData}
noncomputable def lm (k:Nat) (i:List Sl->Tr PyData):List Sl->Tr Ou:=λρ=>match ρ[k]? with
 | some (.own xs)=>(i ρ).bind λx=>match x with
  | .list ys=>if small (xs.length+ys.length)=true then .ret (.next (ρ.set k (.own (xs++ys)))) else .fail
  | _=>.fail
 | _=>.fail
theorem ZnZ {k:Nat} {K:PySem.W.Frag} {st:Stmt} (h:PS X st (lN (oZ K "list" Zb7 (eh k) (ie (TAe PK i) aY)))):PS X st (bq PK (lm k i)):=h.imp λD σ H hz0=>by
 obtain ⟨pa,G₀,H₀,m,ρ,G,R,z⟩:=hz0
 unfold lm at z
 split at z
 ·rename_i xs hx
  obtain ⟨o,h1,h2⟩:=R.sl k _ hx
  cases h2 with
  | @own p vs _ a1 a2 a3 a4 =>
   refine ⟨_,h1,.inl ⟨rfl,_,SqL.of a1⟩,?_⟩
   refine TAe.then R z λm1 x v G1 H1 s1 w1 R1 d1 q1=>?_
   cases d1 with
   | @lst l us ds b1 b2 =>
    obtain ⟨hs,q1⟩:=fx q1
    obtain ⟨o,h1',h2⟩:=R1.sl k _ hx
    rw [h1] at h1'
    cases h1'
    cases h2 with
    | @own _ vs1 _ c1 c2 c3 c4 =>
     have hs':xs.length+ds.length<=sizeLine:=of_decide_eq_true hs
     refine ⟨p,l,vs1,us,rfl,rfl,c1,w1.sub _ _ b1,by rw [c4.length,b2.length]; exact hs',?_⟩
     exact q1 σ G1 _ s1.gs (R1.change hx h1 (c4.append b2))
   | _=>exact q1.elim
 ·exact z.elim
end
section
variable {prog:Program} {w:World} {A:Around} {E:Value->Shared->Prop} {s:Shared}
end
section
variable {X:Cx} {PK:Pk} {e st:Expr} {te ts:TE} {i j:List Sl->Tr PyData} {p2 pos:Pos}
end
noncomputable abbrev hZ (h0 h:Heap):Prop:=∀ c o,h0.get? c=some o->h.get? c=some o
noncomputable def ZfG (prog:Program) (w:World) (A:Around) (h0:Heap) (P:Nat->Value->Prop) (bt:Nat->Nat->Bool):Prop :=
 ∀ i j vi vj (s:Shared) (Q:Value->Shared->Prop) (E:Value->Shared->Prop),j < i->hZ h0 s.heap->P i vi->P j vj->Q (.bool (bt i j)) s->wpAny (model prog w) A (richCompare .Lt vi vj) Q E s
theorem Zfo (bt:Nat->Nat->Bool):∀ j,argBest bt j<=j
 | 0=>Nat.le_refl _
 | j+1=>by
  have:=Zfo bt j
  unfold argBest
  split <;> omega
section
variable {prog:Program} {w:World} {A:Around} {R:Result->Shared->Prop} {I S:Addr} {fp wr:List Addr} {n:Nat} {P:Nat->Value->Prop} {St:Nat->Heap->Prop} {h0:Heap}
theorem mH:(toString "min"++toString ".loop":String)="min.loop":=by decide
theorem ZiB (W:Walks prog w A.in1 I fp wr n P St) (bt:Nat->Nat->Bool) (hcmp:ZfG prog w A.in1 h0 P bt) (hSf:S ∉ fp) (h0w:∀ c o,h0.get? c=some o->c ∉ wr/\c≠S) :
  ∀ (k j:Nat) (s:Shared) (vb:Value) (c:Nat),n - (j+1)=k->j+1<=n->hZ h0 s.heap->St (j+1) s.heap->P (argBest bt j) vb ->
  s.heap.get? S=some { cls:=.type "list",data:=.seq #[vb,vb] c } ->
  (∀ v h' tk,P (argBest bt (n - 1)) v->(∀ b o,b ∉ wr->b≠S->s.heap.get? b=some o->h'.get? b=some o)->R (.ok (.ret v)) { s with heap:=h',toks:=tk }) ->
  codeAny (model prog w) A (.builtin "min.loop" ⟨[.ref I,.none,.ref S],[]⟩) R s:=by
 have hSw:S ∉ wr:=λh=>hSf (W.sub _ h)
 intro k
 induction k with
 | zero =>
  intro j s vb c hk hj kp hst hPb hS hR
  have hin:j+1=n:=by omega
  refine codeAny_builtin F.entry_min_loop (by
   rw [Around.under_plainId F.plain_min_loop _]
   show wpAny _ A.in1 (seqItems? (.ref S) >>= _) _ _ s
   refine wpAny_bind (wpAny_seqItems hS rfl ?_)
   show wpAny _ A.in1 (tryCatch (pyNext (.ref I)) _ >>= _) _ _ s
   refine wpAny_bind (wpAny_tryCatch (W.done s _ _ (hin ▸ hst) λh' tk hk'=>?_))
   have hS':=hk' S _ hSw hS
   show wpAny _ A.in1 (updateSeq S (λ_=>#[]) >>= _) _ _ _
   refine wpAny_bind (wpAny_updateSeq hS' rfl (wpAny_bind (wpAny_letGo (wpAny_pure ?_))))
   exact hR vb _ tk (by rw [<- hin]; exact hPb) λb o hbw hbS e=>(Heap.get?_update_other _ _ (Ne.symm hbS)).trans (hk' b o hbw e))
 | succ k ih =>
  intro j s vb c hk hj kp hst hPb hS hR
  have hlt:j+1 < n:=by omega
  refine codeAny_builtin F.entry_min_loop (by
   rw [Around.under_plainId F.plain_min_loop _]
   show wpAny _ A.in1 (seqItems? (.ref S) >>= _) _ _ s
   refine wpAny_bind (wpAny_seqItems hS rfl ?_)
   show wpAny _ A.in1 (tryCatch (pyNext (.ref I)) _ >>= _) _ _ s
   refine wpAny_bind (wpAny_tryCatch (W.item (j+1) s _ _ hlt hst λv h' tk hP hst' hk'=>?_))
   have hS':=hk' S _ hSw hS
   have kp':hZ h0 h':=λc o e=>hk' c o (h0w c o e).1 (kp c o e)
   show wpAny _ A.in1 (tryCatch (holding [v,v] (richCompare .Lt v vb >>= _)) _ >>= _) _ _ _
   refine wpAny_bind (wpAny_tryCatch (wpAny_holding (wpAny_bind (hcmp (j+1) (argBest bt j) v vb _ _ _ (Nat.lt_succ_of_le (Zfo bt j)) kp' hP hPb (wpAny_bind (wpAny_holding (wpAny_truthy_bool (wpAny_bind (wpAny_letGo (wpAny_pure ?_))))))))))
   cases hb:bt (j+1) (argBest bt j) with
   | true =>
    simp only [if_true]
    refine wpAny_bind (wpAny_updateSeq hS' rfl (wpAny_bind (wpAny_letGo ?_)))
    rw [mH]
    refine wpAny_pure ⟨plainId_quiet F.plain_min_loop _,ih (j+1) _ v _ (by omega) hlt (λc o e=>(Heap.get?_update_other _ _ (Ne.symm (h0w c o e).2)).trans (kp' c o e)) (W.frame _ _ _ hst' λb hbf o e=>?_) (by simp only [argBest,hb,if_true]; exact hP) (Heap.get?_update_self _ hS' rfl)
     λv' h'' tk'' hP' hk''=>hR v' h'' tk'' hP' λb o hbw hbS e=>hk'' b o hbw hbS ((Heap.get?_update_other _ _ (Ne.symm hbS)).trans (hk' b o hbw e))⟩
    exact (Heap.get?_update_other _ _ (λh:S=b=>hSf (by rw [h]; exact hbf))).trans e
   | false =>
    simp only [Bool.false_eq_true,if_false]
    refine wpAny_bind (wpAny_letGo ?_)
    rw [mH]
    exact wpAny_pure ⟨plainId_quiet F.plain_min_loop _,ih (j+1) _ vb c (by omega) hlt kp' hst' (by simp only [argBest,hb,Bool.false_eq_true,if_false]; exact hPb) hS' λv' h'' tk'' hP' hk'' =>
     hR v' h'' tk'' hP' λb o hbw hbS e=>hk'' b o hbw hbS (hk' b o hbw e)⟩)
theorem ZiC (W:Walks prog w A.in1 I fp wr n P St) (bt:Nat->Nat->Bool) (hcmp:ZfG prog w A.in1 h0 P bt) (hSf:S ∉ fp) (h0w:∀ c o,h0.get? c=some o->c ∉ wr/\c≠S) (hn:0 < n) {s:Shared} {c:Nat} (kp:hZ h0 s.heap) (hst:St 0 s.heap)
  (hS:s.heap.get? S=some { cls:=.type "list",data:=.seq #[] c })
  (hR:∀ v h' tk,P (argBest bt (n - 1)) v->(∀ b o,b ∉ wr->b≠S->s.heap.get? b=some o->h'.get? b=some o)->R (.ok (.ret v)) { s with heap:=h',toks:=tk }) :
  codeAny (model prog w) A (.builtin "min.loop" ⟨[.ref I,.none,.ref S],[]⟩) R s:=by
 have hSw:S ∉ wr:=λh=>hSf (W.sub _ h)
 refine codeAny_builtin F.entry_min_loop (by
  rw [Around.under_plainId F.plain_min_loop _]
  show wpAny _ A.in1 (seqItems? (.ref S) >>= _) _ _ s
  refine wpAny_bind (wpAny_seqItems hS rfl ?_)
  show wpAny _ A.in1 (tryCatch (pyNext (.ref I)) _ >>= _) _ _ s
  refine wpAny_bind (wpAny_tryCatch (W.item 0 s _ _ hn hst λv h' tk hP hst' hk'=>?_))
  have hS':=hk' S _ hSw hS
  have kp':hZ h0 h':=λc o e=>hk' c o (h0w c o e).1 (kp c o e)
  show wpAny _ A.in1 (updateSeq S (λ_=>#[v,v]) >>= _) _ _ _
  refine wpAny_bind (wpAny_updateSeq hS' rfl ?_)
  rw [mH]
  refine wpAny_pure ⟨plainId_quiet F.plain_min_loop _,ZiB W bt hcmp hSf h0w _ 0 _ v _ rfl hn (λc o e=>(Heap.get?_update_other _ _ (Ne.symm (h0w c o e).2)).trans (kp' c o e)) (W.frame _ _ _ hst' λb hbf o e=>?_) hP (Heap.get?_update_self _ hS' rfl)
   λv' h'' tk'' hP' hk''=>hR v' h'' tk'' hP' λb o hbw hbS e=>hk'' b o hbw hbS ((Heap.get?_update_other _ _ (Ne.symm hbS)).trans (hk' b o hbw e))⟩
  exact (Heap.get?_update_other _ _ (λh:S=b=>hSf (by rw [h]; exact hbf))).trans e)
end
section
variable {prog:Program} {w:World} {A:Around} {E:Value->Shared->Prop} {s:Shared}
theorem ZiA {a b:Value} {Q:Value->Shared->Prop} {c:Bool} (hh:A.handled=none) (hcmp:∀ (s':Shared) (Q:Value->Shared->Prop) (E:Value->Shared->Prop),hZ s.heap s'.heap->Q (.bool c) s'->wpAny (model prog w) A.in1 (richCompare .Lt b a) Q E s')
  (h:∀ h' tk,hZ s.heap h'->Q (if c=true then b else a) { s with heap:=h',toks:=tk }):wpAny (model prog w) A (call (.builtin "min") [a,b]) Q E s:=by
 refine call_function_tree F.kind_min F.plain_min F.entry_min (F.args_min2 _ _) (by
  show wpAny _ A.in1 (Builtin.Builtins.bindParams "min" ["key","default"] 0 ⟨[],[]⟩ >>= _) _ _ s
  refine wpAny_bind (wpAny_of_eq (a:=[none,none]) rfl ?_)
  show wpAny _ A.in1 (newTuple [a,b] >>= _) _ _ s
  refine wpAny_bind (wpAny_newObj_type ?_)
  have hT:(s.heap.push { cls:=.type "tuple",data:=.seq #[a,b] }).IsTuple s.heap.objs.size #[a,b]:=⟨_,Heap.get?_push_size _ rfl,rfl,0,rfl⟩
  have hsz:(s.heap.push { cls:=.type "tuple",data:=.seq #[a,b] }).objs.size=s.heap.objs.size+1:=Heap.size_push ..
  have hgk:hZ s.heap (s.heap.push { cls:=.type "tuple",data:=.seq #[a,b] }):=λc o e=>Heap.get?_push_of_some _ e
  generalize (s.heap.push { cls:=.type "tuple",data:=.seq #[a,b] })=g at hT hsz hgk ⊢
  refine wpAny_bind (wpAny_pyIter_tuple hT (wpAny_bind (wpAny_newObj_type ?_)))
  rw [mH]
  have hlt:∀ {c:Nat} {o:Obj},s.heap.get? c=some o->c < s.heap.objs.size:=λe=>Heap.lt_size e
  have hsz2:∀ ob:Obj,(g.push ob).objs.size=s.heap.objs.size+2:=λob=>by rw [Heap.size_push,hsz]
  have W:=Walks.tuple (prog:=prog) (w:=w) (A:=A.in1) hh g.objs.size s.heap.objs.size (by rw [hsz]; exact Nat.ne_of_lt (Nat.lt_succ_self _)) #[a,b]
  refine wpAny_pure ⟨plainId_quiet F.plain_min_loop _,ZiC (A:=A) (h0:=s.heap) W (λi j=>if i=1/\j=0 then c else false) ?_ ?_ ?_ (show 0 < 2 by decide) ?_ ⟨?_,?_⟩ (Heap.get?_push_size _ rfl) ?_⟩
  ·intro i j vi vj s' Q' E' hji kp hi hj hq
   have hi2:i < 2:=by
    have:=(Array.getElem?_eq_some_iff.mp hi).1
    simpa using this
   have e1:i=1:=by omega
   have e2:j=0:=by omega
   subst e1 e2
   have e3:b=vi:=by simpa using hi
   have e4:a=vj:=by simpa using hj
   subst e3 e4
   exact hcmp s' Q' E' kp (by simpa using hq)
  ·intro hm
   have hm':(g.push { cls:=.type "tuple_iterator",data:=.fields #[.ref s.heap.objs.size,.int 0 0] }).objs.size∈[g.objs.size,s.heap.objs.size]:=hm
   rw [hsz2,hsz] at hm'
   simp at hm'
  ·intro (c:Nat) o e
   have hc:=hlt e
   refine ⟨λhm=>?_,?_⟩
   ·have hm':c=g.objs.size:=by simpa using hm
    rw [hm',hsz] at hc
    omega
   ·show c≠(g.push { cls:=.type "tuple_iterator",data:=.fields #[.ref s.heap.objs.size,.int 0 0] }).objs.size
    rw [hsz2]
    omega
  ·exact λc o e=>Heap.get?_push_of_some _ (Heap.get?_push_of_some _ (hgk c o e))
  ·exact ⟨_,Heap.get?_push_of_some _ (Heap.get?_push_size _ rfl),rfl,rfl⟩
  ·exact hT.at λo e=>Heap.get?_push_of_some _ (Heap.get?_push_of_some _ e)
  ·intro v h' tk hP hk
   have hv:v=if c=true then b else a:=by
    cases c with
    | true =>
     have e:argBest (λi j=>if i=1/\j=0 then true else false) ((#[a,b]:Array Value).size - 1)=1:=rfl
     rw [e] at hP
     simpa using hP.symm
    | false =>
     have e:argBest (λi j=>if i=1/\j=0 then false else false) ((#[a,b]:Array Value).size - 1)=0:=rfl
     rw [e] at hP
     simpa using hP.symm
   rw [hv]
   refine h h' tk λ(c:Nat) o e=>hk c o (λhm=>?_) ?_ (Heap.get?_push_of_some _ (Heap.get?_push_of_some _ (hgk c o e)))
   ·have hc:=hlt e
    have hm':c=g.objs.size:=by simpa using hm
    rw [hm',hsz] at hc
    omega
   ·have hc:=hlt e
    show c≠(g.push { cls:=.type "tuple_iterator",data:=.fields #[.ref s.heap.objs.size,.int 0 0] }).objs.size
    rw [hsz2]
    omega)
end
section
variable {X:Cx}
noncomputable def Zb2:List V->Hp->VK->Prop:=λxs H Q=>∃ a b ns ms,xs=[.ref a,.ref b]/\H a=some (.tup (ns.map V.int))/\H b=some (.tup (ms.map V.int))/\Q (if HT.cM ms ns=true then .ref b else .ref a) H
theorem ZeI {k:Nat} (hr:Room k X.A) (hc:X.calm=true):dO X (.builtin "min") Zb2:=by
 intro pins s σ H xs us Q I r h
 obtain ⟨a,b,ns,ms,rfl,ha,hb,q⟩:=h
 obtain ⟨u,w',rfl,ru,rw'⟩:=oR r
 cases ru
 cases rw'
 obtain ⟨u1,r1,p1⟩:=gb (b:=false) I.hok ha
 obtain ⟨u2,r2,p2⟩:=gb (b:=false) I.hok hb
 have i1:IntsAre u1.toArray.toList ns:=Zdn r1
 have i2:IntsAre u2.toArray.toList ms:=Zdn r2
 refine ZiA (c:=HT.cM ms ns) (I.ok.hd hc) (λs' Q' E' kp hq=>?_) λh' tk kp=>⟨_,H,I.kept kp,?_,q⟩
 ·have q1:IsTup s'.heap a u1.toArray:=SqAt.at (b:=false) p1 λo e=>kp a o e
  have q2:IsTup s'.heap b u2.toArray:=SqAt.at (b:=false) p2 λo e=>kp b o e
  exact HT.ZiJ q2 q1 i2 i1 (show X.A.units+1 < cLine from by have:=hr.units; omega) hq
 ·cases HT.cM ms ns
  ·exact rfl
  ·exact rfl
noncomputable def gU:List PyData->Option PyData
 | [.tuple xs,.tuple ys]=>(ints? xs).bind λns=>(ints? ys).bind λms=>some (if HT.cM ms ns=true then .tuple (ms.map PyData.int) else .tuple (ns.map PyData.int))
 | _=>none
theorem Zao:fi Zb2 gU:=λPK pa m G H vs ds d Q w hv hd k=>by
 unfold gU at hd
 split at hd
 ·rename_i xs ys
  cases e1:ints? xs with
  | none=>rw [e1] at hd; cases hd
  | some ns =>
   cases e2:ints? ys with
   | none=>rw [e1,e2] at hd; cases hd
   | some ms =>
    rw [e1,e2] at hd
    have hd':(if HT.cM ms ns=true then PyData.tuple (ms.map PyData.int) else .tuple (ns.map PyData.int))=d:=Option.some.inj hd
    cases hv with
    | cons h1 h2 =>
     cases h2 with
     | cons h2 h3 =>
      cases h3
      cases h1 with
      | @tup a us _ a1 a2 =>
       cases h2 with
       | @tup b ws _ b1 b2 =>
        obtain ⟨rfl,rfl⟩:=a2.ints_inv e1
        obtain ⟨rfl,rfl⟩:=b2.ints_inv e2
        refine ⟨a,b,ns,ms,rfl,w.sub _ _ a1,w.sub _ _ b1,?_⟩
        subst hd'
        cases hl:HT.cM ms ns
        ·rw [hl] at k
         exact k.here w (.tup a1 (DnAll.ints _))
        ·rw [hl] at k
         exact k.here w (.tup b1 (DnAll.ints _))
 ·cases hd
end
section
variable {X:Cx} {PK:Pk} {e:Expr} {is:List Sl->Tr (List PyData)}
end
section
variable {prog:Program} {w:World} {A:Around} {E:Value->Shared->Prop} {s:Shared}
end
noncomputable def ZnQ:List (List Int)->List Int
 | []=>[]
 | x::r=>r.foldl (λb y=>if HT.cM y b=true then y else b) x
section
variable {X:Cx}
noncomputable def tups?:List PyData->Option (List (List Int))
 | []=>some []
 | .tuple x::xs=>(ints? x).bind λns=>(tups? xs).bind λr=>some (ns::r)
 | _=>none
noncomputable def ZoO:List PyData->Option PyData
 | [.list xs]=>(tups? xs).bind λnss=>if nss.isEmpty=true then none else some (.tuple ((ZnQ nss).map PyData.int))
 | _=>none
end
section
variable {X:Cx} {PK:Pk} {a b:Expr} {pos:Pos} {j:List Sl->Tr PyData}
noncomputable def iz (xs:List PyData):PyData->Tr PyData
 | .int i=>Tr.of (bb xs i)
 | _=>.fail
noncomputable def iI (k:Nat) (j:List Sl->Tr PyData):List Sl->Tr PyData:=λρ=>(j ρ).bind λy=>match ρ[k]? with
 | some (.own xs)=>iz xs y
 | some (.d (.list xs))=>iz xs y
 | _=>.fail
theorem ZnV {G:Hp} {vs:List V} {xs:List PyData} {i:Int} {d:PyData} (h:DnAll G vs xs) (e:bb xs i=some d):∃ v,bb vs i=some v/\Dn G v d:=by
 unfold bb at e ⊢
 rw [h.length]
 cases hi:cV xs.length i with
 | none=>rw [hi] at e; cases e
 | some n =>
  rw [hi] at e
  exact h.get n e
theorem nM {α β:Type}:∀ {t:Tr α} {m:Nat} {Z:Nat->β->Prop},(t.bind λ_=>(Tr.fail:Tr β)).ok m Z->False
 | .ret a,m,Z,h=>h
 | .draw n k,m,Z,h=>nM (t:=k 0) (h.2.2.2 0 (Int.le_refl _) h.2.1)
 | .fail,m,Z,h=>h
theorem rN {k:Nat} (hb:PE X b (TAe PK j)) (ha:PE X a (eh k)) (hs:sa b):PE X (.Subscript a b pos) (TAe PK (iI k j)):=(fv fE ha hb hs).imp λσ H Q hz0=>by
 obtain ⟨pa,G₀,H₀,m,ρ,G,R,z⟩:=hz0
 have key:∀ xs:List PyData,(∃ (sl:Sl),ρ[k]?=some sl/\(sl=.own xs\/sl=.d (.list xs)))->((j ρ).bind λy=>iz xs y).ok m (λm1 x=>Kn PK pa m1 G H x Q)->ib (pX X.K) (eh k) (TAe PK j) σ H Q:=λxs ⟨sl,hsl,hx⟩ z=>by
  obtain ⟨o,h1,h2⟩:=R.sl k _ hsl
  have hp:∃ p,o=some (.ref p):=by
   rcases hx with rfl | rfl
   ·cases h2; exact ⟨_,rfl⟩
   ·cases h2 with
    | d q=>cases q; exact ⟨_,rfl⟩
  obtain ⟨p,rfl⟩:=hp
  refine ⟨_,h1,?_⟩
  refine TAe.then R z λm1 y u G1 H1 s1 w1 R1 d1 q1=>?_
  obtain ⟨o',h1',h2'⟩:=R1.sl k _ hsl
  rw [h1] at h1'
  cases h1'
  have hl:∃ vs,H1 p=some (.lst vs)/\DnAll G1 vs xs:=by
   rcases hx with rfl | rfl
   ·cases h2' with
    | own a1 a2 a3 a4=>exact ⟨_,a1,a4⟩
   ·cases h2' with
    | d q=>cases q with
     | lst b1 b2=>exact ⟨_,w1.sub _ _ b1,b2⟩
  obtain ⟨vs,e1,e2⟩:=hl
  cases d1 with
  | int i =>
   obtain ⟨d,hd,kq⟩:=Tr.ok_of q1
   obtain ⟨v,hv,dv⟩:=ZnV e2 hd
   exact ⟨p,vs,i,v,rfl,rfl,SqL.of e1,hv,kq v G1 H1 s1 w1 dv⟩
  | _=>exact q1.elim
 unfold iI at z
 cases hk:ρ[k]? with
 | none=>rw [hk] at z; exact (nM (t:=j ρ) z).elim
 | some sl =>
  rw [hk] at z
  cases sl with
  | own xs=>exact key xs ⟨_,hk,.inl rfl⟩ z
  | d x =>
   cases x with
   | list xs=>exact key xs ⟨_,hk,.inr rfl⟩ z
   | _=>exact (nM (t:=j ρ) z).elim
  | _=>exact (nM (t:=j ρ) z).elim
end
section
variable {prog:Program} {w:World} {A:Around} {E:Value->Shared->Prop} {s:Shared}
theorem Znf {t b:Addr} {ws:List Value} {Q:Value->Shared->Prop} (ht:IsTup s.heap t ([]:List Value).toArray) (hb:IsTup s.heap b ws.toArray) (h1:Q (.ref b) s):wpAny (model prog w) A (binaryOp .Add (.ref t) (.ref b)) Q E s:=by
 obtain ⟨⟨cls,dd,data,sl⟩,ho,hc,n,hd⟩:=id ht
 obtain ⟨⟨cls2,dd2,data2,eO⟩,ho2,hc2,n2,hd2⟩:=id hb
 simp only at hc hd hc2 hd2
 subst hc hd hc2 hd2
 exact concat_meets ⟨_,ho,rfl⟩ ⟨_,ho2,rfl⟩ noFill_tuple_add seq_tuple_add PySem.F.slot_tuple_add PySem.F.entry_tuple_add (PySem.F.args_tuple_add_2 _ _) (tuple_addW0 t b _ ws.toArray n n2 dd dd2 sl eO rfl) ⟨ho,ho2,h1⟩
end
section
variable {X:Cx}
noncomputable def Zcb (K:PySem.W.Frag):R2:=λx y H Q=>∃ a b ys,x=.ref a/\y=.ref b/\SqT K H a []/\SqT K H b ys/\Q (.ref b) H
theorem Zic:OpR X (binaryOp .Add) (Zcb X.K):=by
 intro pins s σ H x y v u Q I rx ry h
 obtain ⟨a,b,ys,rfl,rfl,ha,hb,q⟩:=h
 cases rx
 cases ry
 obtain ⟨its,r1,p1,_⟩:=I.tuple ha
 obtain ⟨its2,r2,p2,_⟩:=I.tuple hb
 cases r1
 exact Znf p1 p2 ⟨.ref b,H,I,rfl,q⟩
noncomputable def iF:PyData->PyData->Option PyData
 | .tuple [],.tuple ys=>some (.tuple ys)
 | x,y=>aP x y
noncomputable def Zce (K:PySem.W.Frag):R2:=λx y H Q=>pY K x y H Q\/Zcb K x y H Q
theorem Zie:OpR X (binaryOp .Add) (Zce X.K):=bg.or Zic
theorem ZfQ {K:PySem.W.Frag}:cR (Zce K) iF:=λPK pa m G H x y dx dy dz Q w hx hy hz k=>by
 unfold iF at hz
 split at hz
 ·cases hz
  cases hx with
  | tup a1 a2 =>
   cases a2
   cases hy with
   | tup b1 b2=>exact .inr ⟨_,_,_,rfl,rfl,SqT.of (w.sub _ _ a1),SqT.of (w.sub _ _ b1),k.here w (.tup b1 b2)⟩
 ·exact .inl (bf PK pa m G H x y _ _ dz Q w hx hy hz k)
theorem ZdR {ys:List PyData}:aQ iF (.tuple []) (.tuple ys)=.ret (.tuple ys):=rfl
theorem ZdQ {x:PyData} {xs ys:List PyData} (h:small ((x::xs).length+ys.length)=true):aQ iF (.tuple (x::xs)) (.tuple ys)=.ret (.tuple (x::xs++ys)):=by
 show Tr.of (aP (.tuple (x::xs)) (.tuple ys))=_
 unfold aP
 simp only [List.isEmpty_cons,Bool.not_false,Bool.true_and,h,if_true]
 rfl
end
section
variable {PK:Pk} {X:Cx} {a b:Expr} {pos:Pos} {i j:List Sl->Tr PyData}
noncomputable def r6 (r:R2) (f:PyData->PyData->Option (List PyData)):Prop:=∀ (PK:Pk) (pa:Addr) (m:Nat) (G H:Hp) (x y:V) (dx dy:PyData) (dz:List PyData) (Q:VK),Wd PK pa m G H->Dn G x dx->Dn G y dy->f dx dy=some dz->Ko1 PK pa m G H dz Q->r x y H Q
noncomputable def lp (f:PyData->PyData->Option (List PyData)) (i j:List Sl->Tr PyData):List Sl->Tr (List PyData):=λρ=>(i ρ).bind λx=>(j ρ).bind λy=>Tr.of (f x y)
theorem Zok {r:R2} {f:PyData->PyData->Option (List PyData)} (hv:r6 r f):∀ σ H Q,f8 PK (lp f i j) σ H Q->ib r (TAe PK i) (TAe PK j) σ H Q:=by
 rintro σ H Q ⟨pa,G₀,H₀,m,ρ,G,R,q⟩
 refine TAe.then R q λm1 x v G1 H1 s1 w1 R1 d1 q1=>?_
 refine TAe.then R1 q1 λm2 y u G2 H2 s2 w2 R2 d2 q2=>?_
 obtain ⟨z,hz,k⟩:=Tr.ok_of q2
 exact hv PK pa m2 G2 H2 v u x y z Q w2 (d1.mono s2.gs) d2 hz (Ko1.later k (s1.trans s2 w1.some) w2.some)
theorem Zfr {op:Operator} {r:R2} {f:PyData->PyData->Option (List PyData)} (ho:OpR X (binaryOp op) r) (hv:r6 r f) (ha:PE X a (TAe PK i)) (hb:PE X b (TAe PK j)):PE X (.BinOp a op b pos) (f8 PK (lp f i j)) :=
 (cq ho ha hb).imp (Zok hv)
noncomputable def il:PyData->PyData->Option (List PyData)
 | .list xs,.int k=>if (decide (-1000<=k) && decide (k<=1000) && decide (xs.length<=1000))=true then some (List.replicate k.toNat xs).flatten else none
 | _,_=>none
theorem Zec {G:Hp}:∀ {vs:List V} {ds:List PyData} {us:List V} {es:List PyData},DnAll G vs ds->DnAll G us es->DnAll G (vs++us) (ds++es)
 | _,_,_,_,.nil,h=>h
 | _,_,_,_,.cons a b,h=>.cons a (Zec b h)
theorem Zeb {G:Hp} {vs:List V} {ds:List PyData} (h:DnAll G vs ds):∀ k:Nat,DnAll G (List.replicate k vs).flatten (List.replicate k ds).flatten
 | 0=>.nil
 | k+1=>by
  rw [List.replicate_succ,List.replicate_succ,List.flatten_cons,List.flatten_cons]
  exact Zec h (Zeb h k)
theorem Zam:r6 pW il:=λPK pa m G H x y dx dy dz Q w hx hy hz k=>by
 unfold il at hz
 split at hz
 ·split at hz
  ·rename_i hc
   cases hz
   simp only [Bool.and_eq_true,decide_eq_true_eq] at hc
   cases hx with
   | lst a1 a2 =>
    cases hy
    refine ⟨_,_,_,rfl,rfl,w.sub _ _ a1,by omega,by omega,?_,λp hp=>?_⟩
    ·rw [a2.length]
     have h0:∀ z:Int,z<=1000->z.toNat<=1000:=λz hz=>by omega
     exact Nat.le_trans (Nat.mul_le_mul hc.2 (h0 _ hc.1.2)) (show 1000 * 1000<=sizeLine by decide)
    ·exact k.new w (Zeb a2 _) hp
  ·cases hz
 ·cases hz
noncomputable def lc (f:PyData->PyData->Option (List PyData)) (x y:PyData):Tr (List PyData):=Tr.of (f x y)
noncomputable def ZeX (f:PyData->PyData->Option (List PyData)) (j:List Sl->Tr PyData) (ρ:List Sl) (x:PyData):Tr (List PyData):=(j ρ).bind (lc f x)
theorem ZdP {f:PyData->PyData->Option (List PyData)} {ρ:List Sl}:lp f i j ρ=(i ρ).bind (ZeX f j ρ):=rfl
theorem ZdO {f:PyData->PyData->Option (List PyData)} {ρ:List Sl} {x:PyData}:ZeX f j ρ x=(j ρ).bind (lc f x):=rfl
theorem Zhr {xs:List PyData} {k:Int} (h:(decide (-1000<=k) && decide (k<=1000) && decide (xs.length<=1000))=true):lc il (.list xs) (.int k)=.ret (List.replicate k.toNat xs).flatten:=by
 simp only [lc,il,h,if_true]
 rfl
end
theorem kN {α:Type} {n:Nat}:∀ {us:List α},us.length=n+1->∃ (a:α) (t:List α),us=a::t/\t.length=n
 | a::t,h=>⟨a,t,rfl,Nat.succ.inj h⟩
theorem ZiQ {α:Type} {us:List α} (h:us.length=0):us=[]:=List.eq_nil_of_length_eq_zero h
theorem Zc4 {α:Type} {us:List α} (h:us.length=1):∃ a,us=[a]:=by
 obtain ⟨a,t,rfl,h2⟩:=kN h
 exact ⟨a,by rw [ZiQ h2]⟩
theorem qB {α:Type} {us:List α} (h:us.length=2):∃ a0 a1,us=[a0,a1]:=by
 obtain ⟨a0,t,rfl,h2⟩:=kN h
 obtain ⟨a1,rfl⟩:=Zc4 h2
 exact ⟨a0,a1,rfl⟩
theorem kO {α:Type} {us:List α} (h:us.length=3):∃ a0 a1 a2,us=[a0,a1,a2]:=by
 obtain ⟨a0,t,rfl,h2⟩:=kN h
 obtain ⟨a1,a2,rfl⟩:=qB h2
 exact ⟨a0,a1,a2,rfl⟩
theorem Zc3 {α:Type} {us:List α} (h:us.length=4):∃ a0 a1 a2 a3,us=[a0,a1,a2,a3]:=by
 obtain ⟨a0,t,rfl,h2⟩:=kN h
 obtain ⟨a1,a2,a3,rfl⟩:=kO h2
 exact ⟨a0,a1,a2,a3,rfl⟩
theorem ZiS {α:Type} {us:List α} (h:us.length=5):∃ a0 a1 a2 a3 a4,us=[a0,a1,a2,a3,a4]:=by
 obtain ⟨a0,t,rfl,h2⟩:=kN h
 obtain ⟨a1,a2,a3,a4,rfl⟩:=Zc3 h2
 exact ⟨a0,a1,a2,a3,a4,rfl⟩
section
variable {PK:Pk} {X:Cx} {pos:Pos} {n:Nat} {is:List Sl->Tr (List PyData)} {s t:List Sl->Tr Ou}
end
section
variable {PK:Pk} {X:Cx} {a b c d e:Expr} {pos:Pos} {i j l n:List Sl->Tr PyData}
end
end L2
set_option exponentiation.threshold 9000
namespace Tw
open PySem L2
noncomputable def nb (k:Nat) (n:Int):Prop:=n.natAbs < 2 ^ k
theorem aD {k:Nat} {n:Int} (h:nb k n) (hk:k<=8000):fit n=true:=decide_eq_true (Nat.lt_of_lt_of_le h (Nat.pow_le_pow_right (by decide) hk))
theorem aT {k l:Nat} {n:Int} (h:nb k n) (hk:k<=l):nb l n:=Nat.lt_of_lt_of_le h (Nat.pow_le_pow_right (by decide) hk)
theorem b9 {k l:Nat} {m n:Int} (h:nb k m) (h':nb l n):nb (k+l) (m * n):=by
 unfold nb at *
 rw [Int.natAbs_mul,Nat.pow_add]
 exact Nat.mul_lt_mul'' h h'
theorem c8 {k l:Nat} {m n:Int} (h:nb k m) (h':nb l n):nb (max k l+1) (m+n):=by
 have h1:=aT h (Nat.le_max_left k l)
 have h2:=aT h' (Nat.le_max_right k l)
 unfold nb at *
 rw [Nat.pow_succ,Nat.mul_two]
 exact Nat.lt_of_le_of_lt (Int.natAbs_add_le m n) (Nat.add_lt_add h1 h2)
theorem gv {k:Nat} {n:Int} (h:nb k n):nb k (-n):=by
 unfold nb at *
 omega
theorem gu {k l:Nat} {m n:Int} (h:nb k m) (h':nb l n):nb (max k l+1) (m - n):=by
 rw [Int.sub_eq_add_neg]
 exact c8 h (gv h')
theorem bR {k:Nat} {n:Int} (h1:-(2 ^ k:Nat) < n) (h2:n < (2 ^ k:Nat)):nb k n:=by
 unfold nb
 omega
theorem mC {k:Nat} {c:Prop} [Decidable c] {m n:Int} (h:nb k m) (h':nb k n):nb k (if c then m else n):=by split <;> assumption
noncomputable def ws (f:Int->Int):Nat->List Int->Int
 | _,[]=>0
 | k,w::l=>w * f k+ws f (k+1) l
theorem oG {f:Int->Int} {a b:Nat} (hf:∀ x:Int,0<=x->nb b (f x)):∀ {l:List Int} {k:Nat},(∀ w∈l,nb a w)->nb (a+b+l.length) (ws f k l)
 | [],k,h=>by unfold ws nb; exact Nat.pos_of_ne_zero (by simp)
 | w::l,k,h=>by
  unfold ws
  have h1:=b9 (h w (by simp)) (hf k (by omega))
  have h2:=oG hf (l:=l) (k:=k+1) λv hv=>h v (List.mem_cons_of_mem _ hv)
  refine aT (c8 h1 h2) ?_
  rw [List.length_cons]
  omega
theorem c7 {f g:Int->Int}:∀ {l:List Int} {k:Nat},(∀ x:Int,0<=x->f x=g x)->ws f k l=ws g k l
 | [],k,h=>rfl
 | w::l,k,h=>by
  unfold ws
  rw [h k (by omega),c7 h]
theorem ZaM {a:Nat}:∀ {l:List Int},(∀ w∈l,nb a w)->nb (a+l.length) l.sum
 | [],h=>by unfold nb; simp; exact Nat.pos_of_ne_zero (by simp)
 | w::l,h=>by
  rw [List.sum_cons]
  refine aT (c8 (h w (by simp)) (ZaM (l:=l) λv hv=>h v (List.mem_cons_of_mem _ hv))) ?_
  rw [List.length_cons]
  omega
structure Shp where
 top:Int
 depth:Int
 start:Int
 piece:Int
 keep:Int
 lack:Int
 lost:Int
 back:Int
 late:Int
noncomputable def Shp.l (s:Shp):List Int:=[s.top,s.depth,s.start,s.piece,s.keep,s.lack,s.lost,s.back,s.late]
@[irreducible] noncomputable def Shp.d (s:Shp):PyData:=.tuple (s.l.map PyData.int)
structure Shp.Ok (s:Shp):Prop where
 t0:0<=s.top
 d0:0<=s.depth
 td:s.top+s.depth<=100
 start0:0<=s.start
 start:nb 45 s.start
 piece:nb 45 s.piece
 keep:nb 45 s.keep
 lack:nb 45 s.lack
 lost:nb 45 s.lost
 back:nb 45 s.back
 late:nb 45 s.late
theorem ZgO (s:Shp):aQ aO s.d (.int 0)=.ret (.int s.top):=by unfold Shp.d; rw [dW]; exact congrArg Tr.of lf
theorem ZgN (s:Shp):aQ aO s.d (.int 1)=.ret (.int s.depth):=by unfold Shp.d; rw [dW]; exact congrArg Tr.of nW
theorem ZgM (s:Shp):aQ aO s.d (.int 2)=.ret (.int s.start):=by unfold Shp.d; rw [dW]; exact congrArg Tr.of rE
theorem Za1 (s:Shp):aQ aO s.d (.int 3)=.ret (.int s.piece):=by unfold Shp.d; rw [dW]; exact congrArg Tr.of Zfe
theorem ZgL (s:Shp):aQ aO s.d (.int 4)=.ret (.int s.keep):=by unfold Shp.d; rw [dW]; exact congrArg Tr.of Zfd
theorem ZgK (s:Shp):aQ aO s.d (.int 5)=.ret (.int s.lack):=by unfold Shp.d; rw [dW]; exact congrArg Tr.of Zfc
theorem ZgJ (s:Shp):aQ aO s.d (.int 6)=.ret (.int s.lost):=by unfold Shp.d; rw [dW]; exact congrArg Tr.of Zfb
theorem ZgI (s:Shp):aQ aO s.d (.int 7)=.ret (.int s.back):=by unfold Shp.d; rw [dW]; exact congrArg Tr.of Zfa
theorem ZgH (s:Shp):aQ aO s.d (.int 8)=.ret (.int s.late):=by unfold Shp.d; rw [dW]; exact congrArg Tr.of Ze9
section
variable (s:Shp)
noncomputable def Shp.nx (y f:Int):Int:=cx (y - f) (-s.depth)
noncomputable def Shp.day (y f:Int):Int:=(if s.nx y f > 0 then s.keep * s.nx y f else s.lack * -s.nx y f)+s.lost * (s.nx y f - (y - f))
noncomputable def Shp.fin (x:Int):Int:=if x > 0 then -s.back * x else s.late * -x
end
noncomputable def lI (l:List Int):PyData:=.list (l.map PyData.int)
noncomputable def tI (l:List Int):PyData:=.tuple (l.map PyData.int)
noncomputable def fD (fs:List (List Int)):PyData:=.tuple (fs.map tI)
end Tw
namespace L2
open PySem PySem.Spec PyProof.Rows
variable {ρ:List Sl} {s t:List Sl->Tr Ou} {i j l:List Sl->Tr PyData} {is:List Sl->Tr (List PyData)} {k n:Nat} {x y d:PyData} {xs ys:List PyData} {sl:Sl}
theorem rb2 {α β:Type} {a:α} {f:α->Tr β}:(Tr.ret a).bind f=f a:=Eq.trans (Tr.ret_bind a f) (Eq.refl _)
noncomputable def iV (xs:List PyData):Tr (List PyData):=.ret xs.reverse
theorem Zkf:iV xs=.ret xs.reverse:=rfl
noncomputable def Zbx (xs:List PyData):Tr (List PyData):=(dQ xs).bind iV
noncomputable def Zbw (xs:List PyData):Tr (List PyData):=(iZ xs).bind iV
theorem Zkj:rS is ρ=(is ρ).bind Zbx:=rfl
theorem Zki:rR is ρ=(is ρ).bind Zbw:=rfl
theorem Zke:Zbx xs=(dQ xs).bind iV:=rfl
theorem Zkd:Zbw xs=(iZ xs).bind iV:=rfl
noncomputable def qX (k:Nat) (ρ:List Sl) (xs:List PyData):PyData->Tr Ou
 | .list ys=>if small (xs.length+ys.length)=true then .ret (.next (ρ.set k (.own (xs++ys)))) else .fail
 | _=>.fail
noncomputable def ZdC (k:Nat) (i:List Sl->Tr PyData) (ρ:List Sl) (xs:List PyData):Tr Ou:=(i ρ).bind (qX k ρ xs)
theorem Zln:lm k i ρ=(fw k ρ).bind (ZdC k i ρ):=by
 refine Eq.trans ?_ (jc k ρ)
 unfold lm
 cases ρ[k]? with
 | none=>rfl
 | some sl =>
  cases sl with
  | own xs=>exact congrArg (Tr.bind (i ρ)) (funext λx=>by cases x <;> rfl)
  | _=>rfl
theorem Zlm:ZdC k i ρ xs=(i ρ).bind (qX k ρ xs):=rfl
theorem ZdI (h:small (xs.length+ys.length)=true):qX k ρ xs (.list ys)=.ret (.next (ρ.set k (.own (xs++ys)))):=by
 show (if small (xs.length+ys.length)=true then _ else _)=_
 rw [if_pos h]
theorem qZ (a b c d:Int):bF gU [.tuple [.int a,.int b],.tuple [.int c,.int d]]=.ret (if c < a\/c=a/\d < b then .tuple [.int c,.int d] else .tuple [.int a,.int b]):=by
 have h1:ints? [PyData.int a,.int b]=some [a,b]:=ints?_map [a,b]
 have h2:ints? [PyData.int c,.int d]=some [c,d]:=ints?_map [c,d]
 unfold bF gU
 simp only [h1,h2]
 show Tr.of (some _)=_
 rw [Tr.of_some]
 have e:HT.cM [c,d] [a,b]=true ↔ (c < a\/c=a/\d < b):=by
  simp only [HT.Zc1,HT.Zc0]
  by_cases hca:c=a
  ·subst hca
   by_cases hdb:d=b
   ·simp [hdb]
   ·simp [hdb]
  ·simp [hca]
 by_cases hc:(c < a\/c=a/\d < b)
 ·rw [if_pos (e.mpr hc),if_pos hc]; rfl
 ·rw [if_neg (λz=>hc (e.mp z)),if_neg hc]; rfl
theorem ZiG (ns:List Int) (h:ns≠[]):bF jh [.list (ns.map PyData.int)]=.ret (.int (eU ns)):=by
 unfold bF jh ir
 simp [h]
noncomputable def jq:Nat->List Sl->PyData->Tr PyData
 | 0,.own xs::_,y=>iz xs y
 | 0,.d (.list xs)::_,y=>iz xs y
 | k+1,_::ρ,y=>jq k ρ y
 | _,_,_=>.fail
theorem ZkZ:iI k j ρ=(j ρ).bind (jq k ρ):=by
 have key:∀ (k:Nat) (σ:List Sl) (y:PyData),(match σ[k]? with | some (Sl.own xs)=>iz xs y | some (Sl.d (.list xs))=>iz xs y | _=>Tr.fail)=jq k σ y:=by
  intro k
  induction k with
  | zero =>
   intro σ y
   cases σ with
   | nil=>rfl
   | cons s r =>
    cases s with
    | d x=>cases x <;> rfl
    | _=>rfl
  | succ k ih =>
   intro σ y
   cases σ with
   | nil=>rfl
   | cons s r=>exact ih r y
 unfold iI
 exact congrArg (Tr.bind (j ρ)) (funext λy=>key k ρ y)
theorem ZkY (n:Int):jq 0 (.own xs::ρ) (.int n)=Tr.of (bb xs n):=rfl
theorem ZkX:jq (k+1) (sl::ρ) y=jq k ρ y:=rfl
theorem Zn3 {α:Type} {t:Tr α} {P:α->Prop} (h:Al t 0 P):∃ a,t=.ret a/\P a:=by
 have h':=h.out
 cases t with
 | ret a=>exact ⟨a,rfl,h'⟩
 | draw w k=>exact h'.elim
 | fail=>exact h'.elim
theorem Zfv {α:Type} {t:Tr α} {a:α} (h:Al t 0 λb=>b=a):t=.ret a:=by
 obtain ⟨b,e,rfl⟩:=Zn3 h
 exact e
theorem Zdx {s:List Sl->Tr Ou} {g:PyData->List Sl->Option (List Sl)} {n:Nat} {full:List PyData} (I:List PyData->List Sl->Prop) {Q:Ou->Prop} (ht:∀ pre x post ρ,full=pre++x::post->I pre ρ->∃ ρ1,g x ρ=some ρ1/\(s ρ1).all n λo=>∃ ρ2,o=.next ρ2/\I (pre++[x]) ρ2) (hq:∀ ρ,I full ρ->Q (.next ρ)) :
  ∀ {xs pre:List PyData} {ρ:List Sl},full=pre++xs->I pre ρ->(bV g s xs ρ).all (xs.length * n) Q
 | [],pre,ρ,e,h0=>hq ρ (by rw [e,List.append_nil]; exact h0)
 | x::xs,pre,ρ,e0,h0=>by
  obtain ⟨ρ1,e,ha⟩:=ht pre x xs ρ e0 h0
  have en:(x::xs).length * n=n+xs.length * n:=by rw [List.length_cons,Nat.succ_mul]; omega
  rw [en,dU,e,Tr.of_some,Tr.ret_bind]
  unfold fS
  refine Tr.all_bind ha λo ⟨ρ2,eo,h2⟩=>?_
  subst eo
  rw [dF]
  exact Zdx I ht hq (by rw [e0,List.append_assoc]; rfl) h2
theorem Zfu {n N:Nat} {g:PyData->List Sl->Option (List Sl)} {s:List Sl->Tr Ou} {xs:List PyData} {ρ:List Sl} {Q:Ou->Prop} (I:List PyData->List Sl->Prop) (h0:I [] ρ) (hN:xs.length * n<=N) (ht:∀ pre x post ρ,xs=pre++x::post->I pre ρ->∃ ρ1,g x ρ=some ρ1/\Al (s ρ1) n λo=>∃ ρ2,o=.next ρ2/\I (pre++[x]) ρ2) (hq:∀ ρ,I xs ρ->Q (.next ρ)):Al (bV g s xs ρ) N Q :=
 .of (Tr.all_mono (Zdx (full:=xs) I (λpre x post ρ e h=>let ⟨ρ1,e,a⟩:=ht pre x post ρ e h; ⟨ρ1,e,a.out⟩) hq (pre:=[]) rfl h0) hN λ_ h=>h)
theorem ZbF {lo hi:Int} {pre post:List PyData} {x:PyData} (h:(ba lo hi).reverse=pre++x::post):x=.int (hi - 1 - pre.length)/\(pre.length:Int) < hi - lo:=by
 have h1:((ba lo hi).reverse)[pre.length]?=some x:=by rw [h]; simp
 have hl:pre.length < ((ba lo hi).reverse).length:=(List.getElem?_eq_some_iff.mp h1).1
 rw [List.length_reverse,cO] at hl
 rw [List.getElem?_reverse (by rw [cO]; exact hl),cO] at h1
 unfold ba aB at h1
 rw [List.map_map,List.getElem?_map,List.getElem?_range (by omega)] at h1
 refine ⟨?_,by omega⟩
 cases h1
 show PyData.int (lo+(((hi - lo).toNat - 1 - pre.length:Nat):Int))=_
 congr 1
 omega
theorem ZiH {h:PyData->Tr PyData} {f:Int->PyData} {lo hi:Int} (hx:∀ z:Int,lo<=z->z < hi->h (.int z)=.ret (f z)):bB h (ba lo hi)=.ret ((aB lo (hi - lo).toNat).map f):=by
 have key:∀ l:List Int,(∀ z∈l,lo<=z/\z < hi)->bB h (l.map PyData.int)=.ret (l.map f):=by
  intro l
  induction l with
  | nil=>intro _; rfl
  | cons z l ih =>
   intro hz
   have hh:=hz z (by simp)
   rw [List.map_cons,bB,hx z hh.1 hh.2,Tr.ret_bind,ih λy hy=>hz y (List.mem_cons_of_mem _ hy)]
   rfl
 unfold ba
 refine key _ λz hz=>?_
 have:=ZbS hz
 omega
theorem ZlY (xs:List PyData):(cG xs).length=xs.length:=by unfold cG; simp
end L2
namespace Tw
open PySem L2
noncomputable def bst (g:Int->Int) (top:Int):Nat->Int×Int
 | 0=>(g top,top)
 | n+1=>if (bst g top n).1 < g (top - ((n+1:Nat):Int)) then bst g top n else (g (top - ((n+1:Nat):Int)),top - ((n+1:Nat):Int))
theorem nV (g:Int->Int) (top:Int):∀ n:Nat,top - n<=(bst g top n).2/\(bst g top n).2<=top/\g (bst g top n).2=(bst g top n).1
 | 0=>by unfold bst; simp
 | n+1=>by
  have ih:=nV g top n
  unfold bst
  split
  ·exact ⟨by omega,ih.2.1,ih.2.2⟩
  ·exact ⟨Int.le_refl _,by omega,rfl⟩
theorem rA (g:Int->Int) (top:Int):∀ (n:Nat) (y:Int),top - n<=y->y<=top->(bst g top n).1<=g y
 | 0,y,h1,h2=>by
  have:y=top:=by omega
  subst this
  unfold bst
  exact Int.le_refl _
 | n+1,y,h1,h2=>by
  by_cases hy:y=top - ((n+1:Nat):Int)
  ·unfold bst
   split
   ·subst hy; omega
   ·subst hy; exact Int.le_refl _
  ·have ih:=rA g top n y (by omega) h2
   unfold bst
   split
   ·exact ih
   ·omega
noncomputable def pck (g:Int->Int) (top K x:Int):Int×Int :=
 match (top - x).toNat with
 | 0=>(g x,x)
 | n+1=>if K+(bst g top n).1 < g x then (K+(bst g top n).1,(bst g top n).2) else (g x,x)
noncomputable def cst (g:Int->Int) (top K P x:Int):Int:=(pck g top K x).1 - P * x
noncomputable def lvl (g:Int->Int) (top K x:Int):Int:=(pck g top K x).2
theorem qh (g:Int->Int) (top K:Int):pck g top K top=(g top,top):=by
 unfold pck
 rw [Int.sub_self]
 rfl
theorem qi (g:Int->Int) (top K:Int) (n:Nat):pck g top K (top - ((n+1:Nat):Int))=if K+(bst g top n).1 < g (top - ((n+1:Nat):Int)) then (K+(bst g top n).1,(bst g top n).2) else (g (top - ((n+1:Nat):Int)),top - ((n+1:Nat):Int)):=by
 unfold pck
 have e:(top - (top - ((n+1:Nat):Int))).toNat=n+1:=by omega
 rw [e]
theorem Zh1 {g:Int->Int} {top K x:Int} (hx:x<=top):(pck g top K x).1<=g x/\∀ y,x < y->y<=top->(pck g top K x).1<=K+g y:=by
 by_cases ht:x=top
 ·subst ht
  rw [qh]
  exact ⟨Int.le_refl _,λy h1 h2=>by omega⟩
 ·obtain ⟨n,hn⟩:∃ n:Nat,x=top - ((n+1:Nat):Int):=⟨(top - x - 1).toNat,by omega⟩
  subst hn
  rw [qi]
  split
  ·rename_i hc
   exact ⟨by dsimp only; omega,λy h1 h2=>by have:=rA g top n y (by omega) h2; dsimp only; omega⟩
  ·rename_i hc
   exact ⟨Int.le_refl _,λy h1 h2=>by have:=rA g top n y (by omega) h2; dsimp only; omega⟩
theorem ip {g:Int->Int} {top K x:Int} (hx:x<=top):x<=(pck g top K x).2/\(pck g top K x).2<=top/\(((pck g top K x).2=x/\(pck g top K x).1=g x)\/(x < (pck g top K x).2/\(pck g top K x).1=K+g (pck g top K x).2/\(pck g top K x).1 < g x)):=by
 by_cases ht:x=top
 ·subst ht
  rw [qh]
  exact ⟨Int.le_refl _,Int.le_refl _,.inl ⟨rfl,rfl⟩⟩
 ·obtain ⟨n,hn⟩:∃ n:Nat,x=top - ((n+1:Nat):Int):=⟨(top - x - 1).toNat,by omega⟩
  subst hn
  rw [qi]
  have hb:=nV g top n
  split
  ·rename_i hc
   exact ⟨by dsimp only; omega,hb.2.1,.inr ⟨by dsimp only; omega,by dsimp only; rw [hb.2.2],hc⟩⟩
  ·exact ⟨Int.le_refl _,by dsimp only; omega,.inl ⟨rfl,rfl⟩⟩
theorem Zh0 {g:Int->Int} {top K x:Int} {b:Nat} (hx:x<=top) (hg:∀ y,x<=y->y<=top->nb b (g y)) (hK:nb b K):nb (b+1) (pck g top K x).1:=by
 obtain ⟨h1,h2,h3⟩:=ip (g:=g) (K:=K) hx
 rcases h3 with ⟨e1,e2⟩ | ⟨e1,e2,e3⟩
 ·rw [e2]
  exact aT (hg x (Int.le_refl _) hx) (by omega)
 ·rw [e2]
  exact aT (c8 hK (hg _ h1 h2)) (by omega)
structure DayB (l:List Int):Prop where
 len:l.length<=16
 nb:∀ w∈l,nb 30 w
 w0:∀ w∈l,0<=w
 pos:0 < l.sum
theorem kZ {s:Shp} (h:s.Ok) {y f:Int} (hy:nb 20 y) (hf:nb 40 f):nb 100 (s.day y f):=by
 have hd:nb 7 s.depth:=by have:=h.t0; have:=h.d0; have:=h.td; exact bR (by show -128 < _; omega) (by show _ < 128; omega)
 have hn:nb 50 (s.nx y f):=by
  unfold Shp.nx cx
  exact mC (aT (gv hd) (by decide)) (aT (gu hy hf) (by decide))
 unfold Shp.day
 refine aT (c8 (mC (k:=95) (b9 h.keep hn) (b9 h.lack (gv hn))) (b9 h.lost (gu hn (gu hy hf)))) (by decide)
theorem o5 {day:List Int} (hd:DayB day):nb 46 day.sum:=aT (ZaM hd.nb) (by have:=hd.len; omega)
noncomputable abbrev rng (lo hi:Int):List Int:=aB lo (hi - lo).toNat
variable {α:Type}
theorem ZbT (lo:Int) (a b:Nat):aB lo (a+b)=aB lo a++aB (lo+a) b:=by
 unfold aB
 rw [List.range_add,List.map_append,List.map_map]
 congr 1
 apply List.map_congr_left
 intro k _
 show lo+((a+k:Nat):Int)=lo+(a:Int)+(k:Int)
 omega
noncomputable def f3 (lo a b c:Int) (t:Int->Int->Int->Option α):Option α:=(rng lo a).findSome? λu=>(rng (u+1) b).findSome? λv=>(rng (v+1) c).findSome? λw=>t u v w
noncomputable def enu:Nat->List Int->List PyData
 | _,[]=>[]
 | k,n::ns=>.tuple [.int k,.int n]::enu (k+1) ns
theorem ZdS:∀ (ns:List Int) (k:Nat),(List.range' k (ns.map PyData.int).length).zipWith (λ(n:Nat) x=>PyData.tuple [.int n,x]) (ns.map PyData.int)=enu k ns
 | [],k=>rfl
 | n::ns,k=>by
  rw [List.map_cons,List.length_cons,List.range'_succ,List.zipWith_cons_cons,ZdS ns (k+1)]
  rfl
theorem iB (ns:List Int):cG (ns.map PyData.int)=enu 0 ns:=by
 unfold cG
 rw [List.range_eq_range',ZdS]
theorem jw:∀ (ns:List Int) (k:Nat),(enu k ns).length=ns.length
 | [],k=>rfl
 | n::ns,k=>by rw [enu,List.length_cons,List.length_cons,jw ns]
noncomputable def bz:Nat->List Int->List Int
 | _,[]=>[]
 | k,n::ns=>if n > 0 then (k:Int)::bz (k+1) ns else bz (k+1) ns
theorem pb:∀ {ns:List Int} {k:Nat} {x:Int},x∈bz k ns->(k:Int)<=x/\x < k+ns.length
 | [],k,x,h=>by cases h
 | n::ns,k,x,h=>by
  unfold bz at h
  rw [List.length_cons]
  split at h
  ·rcases List.mem_cons.mp h with rfl | h
   ·omega
   ·have:=pb h
    omega
  ·have:=pb h
   omega
theorem lQ:∀ {ns:List Int} {k:Nat},(∃ n∈ns,n > 0)->bz k ns≠[]
 | [],k,h=>by obtain ⟨n,h,_⟩:=h; cases h
 | n::ns,k,h=>by
  unfold bz
  split
  ·simp
  ·rename_i hn
   obtain ⟨m,hm,hp⟩:=h
   rcases List.mem_cons.mp hm with rfl | hm
   ·exact absurd hp hn
   ·exact lQ ⟨m,hm,hp⟩
noncomputable def great (ls:List Int):Int:=eU (bz 0 ls)
noncomputable def reach (fs:List (List Int)):Int:=(fs.map great).sum
structure DayOk (most:Nat) (ls:List Int):Prop where
 len:ls.length<=most
 pos:∃ n∈ls,n > 0
 le:∀ n∈ls,0<=n/\n<=1001
theorem iR {ls:List Int} (h:∀ n∈ls,0<=n):∀ n∈ls,n<=ls.sum:=by
 induction ls with
 | nil=>intro n hn; cases hn
 | cons a l ih =>
  intro n hn
  have h0:0<=l.sum:=by
   clear ih hn
   have h':∀ n∈l,0<=n:=λm hm=>h m (List.mem_cons_of_mem _ hm)
   clear h
   induction l with
   | nil=>decide
   | cons b l ih2 =>
    rw [List.sum_cons]
    have:=h' b (by simp)
    have:=ih2 λm hm=>h' m (List.mem_cons_of_mem _ hm)
    omega
  have ha:=h a (by simp)
  rw [List.sum_cons]
  rcases List.mem_cons.mp hn with rfl | hn
  ·omega
  ·have:=ih (λm hm=>h m (List.mem_cons_of_mem _ hm)) n hn
   omega
theorem DayOk.B {m:Nat} {ls:List Int} (h:DayOk m ls) (hm:m<=16):DayB ls:=by
 refine ⟨Nat.le_trans h.len hm,λw hw=>?_,λw hw=>(h.le w hw).1,?_⟩
 ·have:=h.le w hw
  exact bR (by show -1073741824 < _; omega) (by show _ < 1073741824; omega)
 ·obtain ⟨n,hn,hp⟩:=h.pos
  have:=iR (λn hn=>(h.le n hn).1) n hn
  omega
theorem ZgG {a b c d e f g h i:Int}:PyData.tuple [.int a,.int b,.int c,.int d,.int e,.int f,.int g,.int h,.int i]=(Shp.mk a b c d e f g h i).d:=by
 unfold Shp.d
 rfl
theorem nE (l:List Int):gz (tI l)=.ret (l.map PyData.int):=rfl
theorem kR (l:List (List Int)):gz (fD l)=.ret (l.map tI):=rfl
structure Rp (d:PyData) (k n:Nat):Prop where
 hd:d.hasDict=false
 sh:d.showable=true
 dp:d.depth<=k
 ln:d.shown.length<=n
theorem ZbB {d:PyData} {k n:Nat} (h:Rp d k n) (hk:k<=32) (hn:n<=10000000):j6 d=true:=by
 unfold j6
 rw [h.hd,h.sh,decide_eq_true (Nat.le_trans h.dp hk),decide_eq_true (Nat.le_trans h.ln (Nat.le_trans hn (by rw [sizeLine_eq]; decide)))]
 rfl
theorem iW {d:PyData} {k n k' n':Nat} (h:Rp d k n) (hk:k<=k') (hn:n<=n'):Rp d k' n':=⟨h.hd,h.sh,Nat.le_trans h.dp hk,Nat.le_trans h.ln hn⟩
theorem pS {i:Int} (h:nb 1900 i):Rp (.int i) 0 1901:=by
 have h1:=Za3 [i] λn hn=>by simp at hn; subst hn; exact h
 have h2:=(Za2 [i] λn hn=>by simp at hn; subst hn; exact h).1
 refine ⟨rfl,?_,Nat.zero_le _,?_⟩
 ·simp only [List.map_cons,List.map_nil,PyData.showableAll,Bool.and_true] at h1
  exact h1
 ·simp only [List.map_cons,List.map_nil,PyData.shownAll,List.sum_cons,List.sum_nil,List.length_cons,List.length_nil] at h2
  omega
theorem ZbC {k n:Nat}:∀ {xs:List PyData},(∀ x∈xs,Rp x k n)->PyData.hasDictAll xs=false/\PyData.showableAll xs=true/\PyData.depthAll xs<=k/\((PyData.shownAll xs).map (·.length)).sum<=xs.length * n/\(PyData.shownAll xs).length=xs.length
 | [],_=>⟨rfl,rfl,Nat.zero_le _,by simp [PyData.shownAll],rfl⟩
 | x::xs,h=>by
  obtain ⟨h1,h2,h3,h4,h5⟩:=ZbC (xs:=xs) λy hy=>h y (List.mem_cons_of_mem _ hy)
  have hx:=h x (by simp)
  refine ⟨?_,?_,?_,?_,?_⟩
  ·rw [PyData.hasDictAll,hx.hd,h1]; rfl
  ·rw [PyData.showableAll,hx.sh,h2]; rfl
  ·rw [PyData.depthAll]; have:=hx.dp; omega
  ·rw [PyData.shownAll,List.map_cons,List.sum_cons,List.length_cons,Nat.succ_mul]; have:=hx.ln; omega
  ·rw [PyData.shownAll,List.length_cons,List.length_cons,h5]
theorem j4 {xs:List PyData} {k n:Nat} (h:∀ x∈xs,Rp x k n):Rp (.tuple xs) (k+1) (xs.length * n+2 * xs.length+10):=by
 obtain ⟨h1,h2,h3,h4,h5⟩:=ZbC h
 have c3:=tupleText_len_le (PyData.shownAll xs)
 refine ⟨?_,?_,?_,?_⟩
 ·rw [PyData.hasDict,h1]
 ·rw [PyData.showable,h2]
 ·rw [PyData.depth]; omega
 ·rw [PyData.shown]; omega
theorem euclid {p:List Sl->Tr Bool} {s:List Sl->Tr Ou} {E:Nat->Nat->List Sl} (hp:∀ a b:Nat,p (E a b)=.ret (decide (b≠0))) (hs:∀ a b:Nat,b≠0->s (E a b)=.ret (.next (E b (a % b)))) :
  ∀ n k a b:Nat,b < 2 ^ n->dP p s (2 * n+1+k) (E a b)=.ret (.next (E (Nat.gcd a b) 0)):=by
 have stop:∀ k a:Nat,dP p s (k+1) (E a 0)=.ret (.next (E a 0)):=λk a=>by
  rw [dP,hp,Tr.ret_bind]
  rfl
 have go:∀ k a b:Nat,b≠0->dP p s (k+1) (E a b)=dP p s k (E b (a % b)):=λk a b hb=>by
  rw [dP,hp,Tr.ret_bind,decide_eq_true hb,if_pos rfl,hs a b hb,Tr.ret_bind]
 intro n
 induction n with
 | zero =>
  intro k a b hb
  have e:b=0:=by simp at hb; exact hb
  subst e
  rw [Nat.gcd_zero_right,Nat.add_comm (2 * 0+1) k]
  exact stop k a
 | succ n ih =>
  intro k a b hb
  by_cases h0:b=0
  ·subst h0
   have e:2 * (n+1)+1+k=(2 * (n+1)+k)+1:=by omega
   rw [Nat.gcd_zero_right,e]
   exact stop _ a
  ·have e:2 * (n+1)+1+k=(2 * n+2+k)+1:=by omega
   rw [e,go _ a b h0]
   have hr:a % b < b:=Nat.mod_lt _ (Nat.pos_of_ne_zero h0)
   by_cases h1:a % b=0
   ·rw [h1]
    have e2:2 * n+2+k=(2 * n+1+k)+1:=by omega
    have eg:Nat.gcd a b=b:=by rw [Nat.gcd_comm,Nat.gcd_rec,h1,Nat.gcd_zero_left]
    rw [e2,eg]
    exact stop _ b
   ·have e2:2 * n+2+k=(2 * n+1+k)+1:=by omega
    rw [e2,go _ b (a % b) h1]
    have hlt:b % (a % b) < 2 ^ n:=by
     have h2:b % (a % b) < a % b:=Nat.mod_lt _ (Nat.pos_of_ne_zero h1)
     have h3:b % (a % b)+a % b<=b:=by
      have h4:=Nat.div_add_mod b (a % b)
      have h5:1<=b / (a % b):=(Nat.le_div_iff_mul_le (Nat.pos_of_ne_zero h1)).mpr (by omega)
      have h6:a % b<=(a % b) * (b / (a % b)):=Nat.le_mul_of_pos_right _ h5
      omega
     rw [Nat.pow_succ] at hb
     omega
    rw [ih k (a % b) (b % (a % b)) hlt]
    have eg:Nat.gcd a b=Nat.gcd (a % b) (b % (a % b)):=by
     rw [Nat.gcd_comm a b,Nat.gcd_rec b a,Nat.gcd_rec (a % b) b,Nat.gcd_comm]
    rw [eg]
theorem ZdA (a b:Nat):(a:Int).fmod (b:Int)=((a % b:Nat):Int):=by
 rw [Int.fmod_eq_emod_of_nonneg _ (Int.natCast_nonneg b)]
 rfl
theorem Zfy (n:Int):oe n=(n.natAbs:Int):=by
 unfold oe
 split <;> omega
noncomputable def cu (t b:Int):PyData:=.tuple [.int (Gc.eV t b),.int (Gc.dS t b)]
theorem ZcV {t b:Int} {k l:Nat} (ht:nb k t) (hb:nb l b) (h0:b≠0):nb k (Gc.eV t b)/\nb l (Gc.dS t b):=by
 obtain ⟨h1,h2⟩:=Gc.ZiM (t:=t) h0
 exact ⟨Nat.lt_of_le_of_lt h1 ht,Nat.lt_of_le_of_lt h2 hb⟩
theorem Zei {t b:Int} {l:Nat} (hb:nb l b) (h0:b≠0):nb l (Gc.den t b):=by
 unfold nb
 rw [Gc.rg]
 exact Nat.lt_of_le_of_lt (Nat.gcd_le_right _ (by omega)) hb
noncomputable def eY (c sc l:Int):PyData:=.tuple [cu c sc,.int l]
end Tw
namespace L2
open PySem PySem.Spec PyProof.Rows
variable {PK:Pk} {X:Cx} {st:Stmt} {i n:List Sl->Tr PyData}
noncomputable def Zb6 (K:PySem.W.Frag):V->V->Hp->VK->Prop:=λx y H Q=>∃ p xs i v,x=.ref p/\y=.int i/\SqL K H p xs/\0<=i/\bb xs i=some v/\Q v H
theorem Zjo:ZfB X (Zb6 X.K):=by
 intro pins s σ H x y v u Q I rx ry h
 obtain ⟨p,xs,i,z,rfl,rfl,hq,h0,he,q⟩:=h
 cases rx
 obtain ⟨t,rfl⟩:=ry
 obtain ⟨its,r,pl,hz⟩:=I.list hq
 obtain ⟨j,h1,h2,h3,h4,h5⟩:=nX he
 obtain ⟨w,ew,rw'⟩:=r.get h2
 have hl:=r.length
 have hn:=gY
 have fin:EP X pins σ Q w s:=⟨z,H,I,rw',q⟩
 have hj:i.toNat=j:=by
  rw [seqIndex_of h0 h5] at h1
  exact Option.some.inj h1
 exact wpAny_getItem_list pl.isList h0 (by omega) (by rw [hj]; simpa using ew) fin
noncomputable def qt (xs:List PyData):PyData->Option (Nat×Int)
 | .int y=>if 0<=y then (match xs[y.toNat]? with | some (.int a)=>some (y.toNat,a) | _=>none) else none
 | _=>none
noncomputable def Zdo:PyData->Option Int
 | .int b=>some b
 | _=>none
noncomputable def lq (g:Int->Int->Int) (k:Nat) (n i:List Sl->Tr PyData):List Sl->Tr Ou:=λρ=>match ρ[k]? with
 | some (.own xs)=>(n ρ).bind λy=>(Tr.of (qt xs y)).bind λja=>(i ρ).bind λz=>(Tr.of (Zdo z)).bind λb=>.ret (.next (ρ.set k (.own (xs.set ja.1 (.int (g ja.2 b))))))
 | _=>.fail
theorem Zn0 {k:Nat} {g:Int->Int->Int} (h:PS X st (ZaI (eh k) (TAe PK n) (TAe PK i) (Zb6 X.K) (ipI g) pV)):PS X st (bq PK (lq g k n i)):=h.imp λD σ H hz0=>by
 obtain ⟨pa,G₀,H₀,m,ρ,G,R,z⟩:=hz0
 unfold lq at z
 split at z
 ·rename_i xs hx
  obtain ⟨o,h1,h2⟩:=R.sl k _ hx
  cases h2 with
  | @own p vs _ a1 a2 a3 a4 =>
   refine ⟨_,h1,?_⟩
   refine TAe.then R z λm1 y v G1 H1 s1 w1 R1 d1 q1=>?_
   rw [Tr.ok_bind] at q1
   obtain ⟨ja,hja,q1⟩:=Tr.ok_of q1
   cases d1 with
   | int y =>
    have hy:∃ a,0<=y/\xs[y.toNat]?=some (.int a)/\ja=(y.toNat,a):=by
     have hja:(if 0<=y then (match xs[y.toNat]? with | some (.int a)=>some (y.toNat,a) | _=>none) else none)=some ja:=hja
     by_cases h0:0<=y
     ·rw [if_pos h0] at hja
      cases e:xs[y.toNat]? with
      | none=>rw [e] at hja; cases hja
      | some u =>
       rw [e] at hja
       cases u with
       | int a=>cases hja; exact ⟨a,h0,rfl,rfl⟩
       | _=>cases hja
     ·rw [if_neg h0] at hja; cases hja
    obtain ⟨a,h0,hat,rfl⟩:=hy
    obtain ⟨o,h1',h2⟩:=R1.sl k _ hx
    rw [h1] at h1'
    cases h1'
    cases h2 with
    | @own _ vs1 _ b1 b2 b3 b4 =>
     obtain ⟨va,hva,da⟩:=DnAll.get y.toNat b4 hat
     cases da
     refine ⟨p,vs1,y,.int a,rfl,rfl,SqL.of b1,h0,fW h0 hva,?_⟩
     refine TAe.then R1 q1 λm2 z2 u G2 H2 s2 w2 R2 d2 q2=>?_
     rw [Tr.ok_bind] at q2
     obtain ⟨b,hb,q2⟩:=Tr.ok_of q2
     cases d2 with
     | int b' =>
      cases hb
      obtain ⟨o,h1',h2⟩:=R2.sl k _ hx
      rw [h1] at h1'
      cases h1'
      cases h2 with
      | @own _ vs2 _ c1 c2 c3 c4 =>
       have hlt:y.toNat < xs.length:=(List.getElem?_eq_some_iff.mp hat).1
       refine ⟨a,b,rfl,rfl,p,vs2,y,y.toNat,rfl,rfl,c1,?_,?_⟩
       ·unfold cV
        rw [if_pos h0,if_pos (by rw [c4.length]; omega)]
       ·exact q2 σ G2 _ (s1.gs.trans s2.gs) (R2.change hx h1 (c4.set y.toNat (.int _)))
     | _=>cases hb
   | _=>cases hja
 ·exact z.elim
variable {ρ:List Sl} {k:Nat} {g:Int->Int->Int} {xs:List PyData} {sl:Sl}
noncomputable def ag3 (g:Int->Int->Int) (k:Nat) (xs:List PyData) (ρ:List Sl) (ja:Nat×Int) (b:Int):Tr Ou:=.ret (.next (ρ.set k (.own (xs.set ja.1 (.int (g ja.2 b))))))
noncomputable def rK (g:Int->Int->Int) (k:Nat) (xs:List PyData) (ρ:List Sl) (ja:Nat×Int) (z:PyData):Tr Ou:=(Tr.of (Zdo z)).bind (ag3 g k xs ρ ja)
noncomputable def rL (g:Int->Int->Int) (k:Nat) (i:List Sl->Tr PyData) (xs:List PyData) (ρ:List Sl) (ja:Nat×Int):Tr Ou:=(i ρ).bind (rK g k xs ρ ja)
noncomputable def rM (g:Int->Int->Int) (k:Nat) (i:List Sl->Tr PyData) (xs:List PyData) (ρ:List Sl) (y:PyData):Tr Ou:=(Tr.of (qt xs y)).bind (rL g k i xs ρ)
theorem ZlB (h:ρ[k]?=some (.own xs)):lq g k n i ρ=(n ρ).bind (rM g k i xs ρ):=by
 unfold lq
 rw [h]
 rfl
theorem ZlM {y:Int} {a:Int} (h0:0<=y) (h:xs[y.toNat]?=some (.int a)):rM g k i xs ρ (.int y)=rL g k i xs ρ (y.toNat,a):=by
 have e:qt xs (.int y)=some (y.toNat,a):=by
  show (if 0<=y then (match xs[y.toNat]? with | some (.int a)=>some (y.toNat,a) | _=>none) else none)=_
  rw [if_pos h0,h]
 unfold rM
 rw [e]
 rfl
theorem ZlL {ja:Nat×Int}:rL g k i xs ρ ja=(i ρ).bind (rK g k xs ρ ja):=rfl
theorem ZlK {ja:Nat×Int} (b:Int):rK g k xs ρ ja (.int b)=.ret (.next (ρ.set k (.own (xs.set ja.1 (.int (g ja.2 b)))))):=rfl
section
variable {PK:Pk} {X:Cx} {pos:Pos} {i j:List Sl->Tr PyData}
theorem Kn.dct {pa:Addr} {m:Nat} {G H:Hp} {ks:List (aZ×V)} {ds:List PyData} {Q:VK} {p:Addr} (k:Kn PK pa m G H (.dict ((ks.map λk=>match k.1 with | .inl i=>PyData.int i | .inr x=>PyData.str x).zip ds)) Q) (w:Wd PK pa m G H) (d:DnAll G (ks.map (·.2)) ds) (hp:H p=none):Q (.ref p) (upd H p (.dK ks)):=by
 obtain ⟨w1,s1⟩:=w.new (o:=.dK ks) hp
 exact k _ _ _ s1 w1 (.dct (.inl bT) (DnAll.mono s1.gs d))
end
end L2
namespace PySem
open Sem (wp)
section
variable {prog:Program} {w:World} {A:Around} {E:Value->Shared->Prop} {s:Shared} {a:Addr} {o:Obj} {xs:Array Value} {k:Nat}
end
section
variable {prog:Program} {w:World} {A:Around} {E:Value->Shared->Prop} {s:Shared}
end
section
variable {prog:Program} {w:World} {A:Around} {E:Value->Shared->Prop} {s:Shared}
end
section
variable {K:Type} [DecidableEq K]
end
end PySem
namespace L2
open PySem PySem.Spec PyProof.Rows
section
variable {prog:Program} {w:World} {A:Around} {R:Result->Shared->Prop} {K:Type} [DecidableEq K] {knd:KeyKind prog w K} {kf:Nat->K}
theorem sr {h h':Heap} {d:Addr} {kvs:List (K×Value)} (x:h.DictOf knd d kvs) (k:∀ o,h.get? d=some o->h'.get? d=some o):h'.DictOf knd d kvs :=
 let ⟨o,es,ep,ho,r⟩:=x; ⟨o,es,ep,k o ho,r⟩
end
section
variable {prog:Program} {w:World} {A:Around} {E:Value->Shared->Prop} {s:Shared} {K:Type} [DecidableEq K] {knd:KeyKind prog w K} {kf:Nat->K}
end
section
variable {PK:Pk} {X:Cx} {a:Expr} {p p2 pos pos2:Pos} {i:List Sl->Tr PyData}
end
section
variable {X:Cx} {PK:Pk} {e:Expr} {es:List Expr} {i:List Sl->Tr PyData} {is:List Sl->Tr (List PyData)}
end
section
variable {prog:Program} {w:World} {A:Around} {R:Result->Shared->Prop} {K:Type} [DecidableEq K] {knd:KeyKind prog w K} {kf:Nat->K} {lo:Int}
end
section
variable {prog:Program} {w:World} {A:Around} {E:Value->Shared->Prop} {s:Shared} {K:Type} [DecidableEq K] {knd:KeyKind prog w K} {kf:Nat->K} {lo:Int}
end
theorem ZiZ {ks:List (aZ×V)} {vs:List (aZ×Value)} (r:KV ks vs):ks.length=vs.length:=by
 induction r with
 | nil=>rfl
 | cons _ _ ih=>rw [List.length_cons,List.length_cons,ih]
section
variable {X:Cx} {tg:Expr}
end
variable {PK:Pk} {X:Cx} {is:List Sl->Tr (List PyData)} {ρ:List Sl}
noncomputable def dD (kvs:List (Int×PyData)):PyData:=.dict (kvs.map λkv=>(.int kv.1,kv.2))
noncomputable def gN (kvs:List (Int×PyData)) (k:Int) (v:PyData):List (Int×PyData) :=
 if (kvs.any λkv=>decide (kv.1=k))=true then kvs.map (λkv=>if kv.1=k then (kv.1,v) else kv) else kvs++[(k,v)]
section
variable {G:Hp} {ks:List (aZ×V)} {kvs:List (Int×PyData)}
theorem Zdd (i k:Int):decide ((Sum.inl i:aZ)=Sum.inl k)=decide (i=k):=by
 by_cases h:i=k
 ·subst h; simp
 ·rw [decide_eq_false h,decide_eq_false λe=>h (Sum.inl.inj e)]
theorem KD.any (h:KD G ks kvs) (k:Int):(ks.any λkv=>decide (kv.1=Sum.inl k))=kvs.any λkv=>decide (kv.1=k):=by
 induction h with
 | nil=>rfl
 | cons _ _ ih=>rw [List.any_cons,List.any_cons,ih]; dsimp only; rw [Zdd]
theorem KD.snoc (h:KD G ks kvs) {k:Int} {v:V} {d:PyData} (hd:Dn G v d):KD G (ks++[(.inl k,v)]) (kvs++[(k,d)]):=by
 induction h with
 | nil=>exact .cons hd .nil
 | cons h1 _ ih=>exact .cons h1 ih
theorem KD.map (h:KD G ks kvs) {k:Int} {v:V} {d:PyData} (hd:Dn G v d):KD G (ks.map λkv=>if kv.1=Sum.inl k then (kv.1,v) else kv) (kvs.map λkv=>if kv.1=k then (kv.1,d) else kv):=by
 induction h with
 | nil=>exact .nil
 | @cons i u x ks kvs h1 _ ih =>
  rw [List.map_cons,List.map_cons]
  by_cases hk:i=k
  ·subst hk
   rw [if_pos rfl,if_pos rfl]
   exact .cons hd ih
  ·rw [if_neg (λe=>hk (Sum.inl.inj e)),if_neg hk]
   exact .cons h1 ih
theorem KD.put (h:KD G ks kvs) (k:Int) {v:V} {d:PyData} (hd:Dn G v d):KD G (gi ks (.inl k) v) (gN kvs k d):=by
 unfold gi gN
 rw [h.any]
 split
 ·exact h.map hd
 ·exact h.snoc hd
theorem KD.vals (h:KD G ks kvs):DnAll G (ks.map (·.2)) (kvs.map (·.2)):=by
 induction h with
 | nil=>exact .nil
 | cons h1 _ ih=>exact .cons h1 ih
theorem KD.zip (h:KD G ks kvs):((ks.map λk=>match k.1 with | .inl i=>PyData.int i | .inr x=>PyData.str x).zip (kvs.map (·.2)))=kvs.map λkv=>(.int kv.1,kv.2):=by
 induction h with
 | nil=>rfl
 | cons h1 _ ih=>rw [List.map_cons,List.map_cons,List.zip_cons_cons,ih,List.map_cons]
end
section
variable {PK:Pk} {pa:Addr} {G₀ H₀ G H:Hp} {m:Nat} {σ:St} {ρ:List Sl}
end
variable {PK:Pk} {X:Cx} {a b c e:Expr} {es:List Expr} {pos:Pos} {i j l:List Sl->Tr PyData} {is:List Sl->Tr (List PyData)} {st:Stmt} {s:List Sl->Tr Ou}
noncomputable def ZoT (k:Nat) (n i:List Sl->Tr PyData):List Sl->Tr Ou:=λρ=>(i ρ).bind λx=>match ρ[k]? with
 | some (.dic xs)=>(n ρ).bind λy=>match y with
  | .int y=>if small (xs.length+1)=true then .ret (.next (ρ.set k (.dic (gN xs y x)))) else .fail
  | _=>.fail
 | _=>.fail
noncomputable def fF:PyData->PyData->Option PyData
 | .dict kvs,.int k=>(kvs.find? λkv=>match kv.1 with | .int i=>decide (i=k) | _=>false).map (·.2)
 | _,_=>none
theorem rh {G:Hp} {k:Int} {d:PyData}:∀ {ks:List (aZ×V)} {ds:List PyData},DnAll G (ks.map (·.2)) ds->fF (.dict ((ks.map λk=>match k.1 with | .inl i=>PyData.int i | .inr x=>PyData.str x).zip ds)) (.int k)=some d->∃ v,eN ks (.inl k)=some v/\Dn G v d
 | [],_,h,e=>by cases h; cases e
 | kv::ks,_,h,e=>by
  rw [List.map_cons] at h
  cases h with
  | @cons _ _ x ds h1 h2 =>
   rw [List.map_cons,List.zip_cons_cons] at e
   obtain ⟨q,v⟩:=kv
   cases q with
   | inl i =>
    by_cases hk:i=k
    ·subst hk
     refine ⟨v,oS rfl,?_⟩
     have e':some x=some d:=by
      rw [<- e]
      show _=Option.map _ (List.find? _ _)
      rw [List.find?_cons]
      simp
     cases e'
     exact h1
    ·have e2:fF (.dict ((ks.map λk=>match k.1 with | .inl i=>PyData.int i | .inr x=>PyData.str x).zip ds)) (.int k)=some d:=by
      rw [<- e]
      show Option.map _ (List.find? _ _)=Option.map _ (List.find? _ _)
      rw [List.find?_cons]
      simp [hk]
     obtain ⟨v',hv,dn⟩:=rh h2 e2
     refine ⟨v',?_,dn⟩
     rw [<- hv]
     unfold eN
     rw [List.find?_cons]
     dsimp only
     rw [Zdd,decide_eq_false hk]
   | inr y =>
    have e2:fF (.dict ((ks.map λk=>match k.1 with | .inl i=>PyData.int i | .inr x=>PyData.str x).zip ds)) (.int k)=some d:=by
     rw [<- e]
     show Option.map _ (List.find? _ _)=Option.map _ (List.find? _ _)
     rw [List.find?_cons]
    obtain ⟨v',hv,dn⟩:=rh h2 e2
    refine ⟨v',?_,dn⟩
    rw [<- hv]
    unfold eN
    rw [List.find?_cons]
    simp
theorem Rd.up {G H:Hp} (s:Sub G H) {a:Addr} {u:HO} (h:Rd G a u):Rd H a u:=h.imp (s _ _) λ⟨o,h⟩=>⟨o,s _ _ h⟩
theorem Zfx (h:PE X e (ZaG (TAe PK i) (TAe PK j))):PE X e (TAe PK (ad fF i j)):=h.imp λσ H Q hz0=>by
 obtain ⟨pa,G₀,H₀,m,ρ,G,R,q⟩:=hz0
 refine TAe.then R q λm1 x v G1 H1 s1 w1 R1 d1 q1=>?_
 refine TAe.then R1 q1 λm2 y u G2 H2 s2 w2 R2 d2 q2=>?_
 obtain ⟨z,hz,k⟩:=Tr.ok_of q2
 cases d1 with
 | dct r1 r2 =>
  cases d2 with
  | int n =>
   obtain ⟨v',hv,dn⟩:=rh r2 hz
   exact ⟨_,v',rfl,.inl ⟨_,.inl n,(r1.up s2.gs).up w2.sub,rfl,hv.symm⟩,(Kn.later k (s1.trans s2 w1.some) w2.some).here w2 (dn.mono s2.gs)⟩
  | _=>cases hz
 | _=>cases hz
section
variable {X:Cx} {pins:List (Addr×Obj)} {σ:St} {H:Hp} {s:Shared}
theorem Inv.trackD {D:Addr} {ys:List (aZ×V)} {us:List (aZ×Value)} (I:Inv X pins σ H s) (hD:H D=none) (ho:s.heap.DictOf (cU X.prog X.w) D us) (r:KV ys us) (hz:ys.length<=sizeLine) (hsys:(D == sysModules)=false)
  (hL:D≠X.env.locals) (hs0:X.s₀.heap.objs.size<=D) (hc:∀ x c,X.env.cells.lookup x=some c->c≠D) (hp:∀ p∈X.pn++pins,p.1≠D):Inv X pins σ (upd H D (.dK ys)) s:=by
 have ne:∀ {b:Addr} {o:HO},H b=some o->b≠D:=λe=>cw e hD
 refine I.step (g':=s.gens) (d':=s.drawn) (t':=s.toks) (h':=s.heap) (ch:=[D]) (λb hb=>?_) (λb o _ _ _ e _=>e) (λb o _ _ _ e _=>⟨o.slots,e⟩) (λb o hb e n=>?_) (λb o _ e=>⟨o,e⟩)
  (λb xs e=>by rw [az (ne e)]; exact e) (λb o u e=>by rw [az (ne e)]; exact e) (λb ps e=>⟨#[],by rw [az (ne e),e]; simp⟩) (λm hm=>hm) (λb u e=>?_) I.bare
 ·have e:b=D:=by simpa using hb
  subst e
  exact ⟨.inr hs0,hL,hc,hp⟩
 ·have hb':b≠D:=by simpa using hb
  rw [az hb']
  exact n
 ·by_cases hb:b=D
  ·subst hb
   rw [bT] at e
   cases e
   exact ⟨hz,hsys,us,r,ho⟩
  ·rw [az hb] at e
   exact (I.hok b u e).stay (λc v _ q=>q) (λc q=>by rw [az (ne q)]; exact q) (λc xs q=>by rw [az (ne q)]; exact q) λc ob xs _ q _=>by rw [az (ne q)]; exact q
end
theorem Zm7 (kx vx target iter:Expr) (scope:Scope) (pos:Pos) (it:Value) (D:Addr) (env:Env) :
  compTurn (.DictComp kx vx [⟨target,iter,[],0⟩] scope pos) 0 it (.ref D) env=(standAt iter.pos >>= λ_=>pyNext it >>= λr=>match r with
   | none=>pure (.done .next)
   | some v=>letOwnedTupleGo target it v >>= λ_=>assign target env v >>= λ_ =>
    (eval kx env >>= λkv=>holding [kv] (eval vx env) >>= λvv=>standAt { kx.pos with endLine:=vx.pos.endLine,endCol:=vx.pos.endCol } >>= λ_=>holding [kv,vv] (dictSet D kv vv)) >>= λ_ =>
     again (.compLoop (.DictComp kx vx [⟨target,iter,[],0⟩] scope pos) 0 it (.ref D) env)):=by rfl
theorem Zm9 {prog:Program} {w:World} {A:Around} {R:Result->Shared->Prop} {s:Shared} {kx vx target iter:Expr} {scope:Scope} {pos:Pos} {it:Value} {D:Addr} {env:Env} (J:Nat->Shared->Prop)
  (step:∀ k s0,J k s0->wpAny (model prog w) A (pyNext it) (λgot s1=>match got with
   | none=>R (.ok .next) s1
   | some v=>wpAny (model prog w) A (letOwnedTupleGo target it v) (λ_ s2=>wpAny (model prog w) A (assign target env v) (λ_ s3=>wpAny (model prog w) A (eval kx env) (λkv s4 =>
     wpAny (model prog w) A (eval vx env) (λy s5=>wpAny (model prog w) A (dictSet D kv y) (λ_ s6=>∃ j,j < k/\J j s6) (λ_ _=>False) s5) (λ_ _=>False) s4) (λ_ _=>False) s3) (λ_ _=>False) s2) (λ_ _=>False) s1) (λ_ _=>False) s0)
  (k:Nat) (h:J k s):codeAny (model prog w) A (.compLoop (.DictComp kx vx [⟨target,iter,[],0⟩] scope pos) 0 it (.ref D) env) R s:=by
 refine codeAny_loop rfl J (λk0 s0 hJ=>?_) k h
 show wpAny _ _ ((compTurn (.DictComp kx vx [⟨target,iter,[],0⟩] scope pos) 0 it (.ref D) env).onRaise (λx=>do noteFrame x env; theTreesLotGoes x)) _ _ s0
 apply wpAny_noted
 rw [Zm7]
 refine wpAny_bind (wpAny_standAt (wpAny_bind (wpAny_mono (step k0 s0 hJ) (λgot s1 h1=>?_) λ_ _ z=>z.elim)))
 cases got with
 | none=>exact wpAny_pure h1
 | some v =>
  refine wpAny_bind (wpAny_mono h1 (λ_ s2 h2=>?_) λ_ _ z=>z.elim)
  refine wpAny_bind (wpAny_mono h2 (λ_ s3 h3=>?_) λ_ _ z=>z.elim)
  refine wpAny_bind (wpAny_bind (wpAny_mono h3 (λkv s4 h4=>?_) λ_ _ z=>z.elim))
  refine wpAny_bind (wpAny_holding (wpAny_mono h4 (λy s5 h5=>?_) λ_ _ z=>z.elim))
  refine wpAny_bind (wpAny_standAt (wpAny_holding (wpAny_mono h5 (λ_ s6 h6=>?_) λ_ _ z=>z.elim)))
  exact wpAny_pure ⟨rfl,h6⟩
noncomputable def jT (wi:TI) (n:Nat) (ix:List Nat) (g:Blk->TG) (tk te:Blk->TE):TE:=λσ H Q=>wi σ H λJ H1=>∀ b:Blk,∃ W:Nat->Nat->St->List (aZ×V)->Hp->Prop,(∃ m,W 0 m (cN n ix σ) [] H1)/\∀ i m τ ys H2,W i m τ ys H2 ->
 (J.stop i H2/\∀ p v H',H2 p=none->v=V.ref p->H'=upd H2 p (.dK ys)->Q v H') \/
 (J.go i H2/\ys.length < sizeLine/\∀ x H3,J.yld i H2 x H3->g b x τ H3 λτ2 H4=>tk b τ2 H4 λkv H5=>te b τ2 H5 λy H6=>∃ (z:Int) (m':Nat),kv=.int z/\m' < m/\W (i+1) m' τ2 (gi ys (.inl z) y) H6)
section
variable {X:Cx} {pins:List (Addr×Obj)} {σ:St} {H:Hp} {s:Shared}
theorem Zeo {kx vx target iter:Expr} {scope:Scope} {pos:Pos} {Nx ts:List Str} {ix:List Nat} {g:Blk->TG} {tk te:Blk->TE} {cl:List (Str×Addr)} {s2:Shared} {itv:Value} {R:Value->Addr->Result->Shared->Prop}
  {E:Value->Shared->Prop} {Q:VK}
  (hc:X.calm=true) (hg:∀ b,PG (aW X (bN Nx ts ix) scope b) target (g b)) (hk:∀ b,PE (aW X (bN Nx ts ix) scope b) kx (tk b)) (he:∀ b,PE (aW X (bN Nx ts ix) scope b) vx (te b))
  (hNx:X.N=Nx) (ok:BlkOk Nx X.env.scope scope ix) (cl1:∀ x c,cl.lookup x=some c->X.env.cells.lookup x=some c) (cl2:∀ y∈scope.names,y.2=.free->∃ c,cl.lookup y.1=some c)
  (h2:lx X pins σ target (λJ H1=>∀ b:Blk,∃ W:Nat->Nat->St->List (aZ×V)->Hp->Prop,(∃ m,W 0 m (cN ts.length ix σ) [] H1)/\∀ i m τ ys H2,W i m τ ys H2 ->
   (J.stop i H2/\∀ p v H',H2 p=none->v=V.ref p->H'=upd H2 p (.dK ys)->Q v H') \/
   (J.go i H2/\ys.length < sizeLine/\∀ x H3,J.yld i H2 x H3->g b x τ H3 λτ2 H4=>tk b τ2 H4 λkv H5=>te b τ2 H5 λy H6=>∃ (z:Int) (m':Nat),kv=.int z/\m' < m/\W (i+1) m' τ2 (gi ys (.inl z) y) H6)) itv s2)
  (hR:∀ (D C:Addr) (H':Hp) (s':Shared) (v:V),Inv X pins σ H' s'->v=.ref D->Q v H'->(∃ m,s'.heap.Ns C m)->H' C=none->C≠X.env.locals->X.s₀.heap.objs.size<=C->(∀ x c,X.env.cells.lookup x=some c->c≠C)->(∀ p∈X.pn++pins,p.1≠C) ->
   R (.ref D) C (.ok .next) s') :
  wpAny (model X.prog X.w) X.A newDict (λacc s₃=>wpAny (model X.prog X.w) X.A (newFunctionEnv scope X.env.globals cl [] X.env.qual none .none (some X.env)) (λcenv s₄ =>
   codeAny (model X.prog X.w) X.A (.compStart (.DictComp kx vx [⟨target,iter,[],0⟩] scope pos) 0 itv acc { cenv with scope:=relabel scope X.env }) (R acc cenv.locals) s₄) E s₃) E s2:=by
 obtain ⟨it,fp,tn,J,H1,e,I2,T,st2,f2,q2⟩:=h2
 subst e
 refine wpAny_newObj_type (oJ ?_)
 dsimp only
 generalize hG:s2.heap.push { cls:=.type "dict",dict:=none,data:=.dict #[] }=G
 have hGs:G.objs.size=s2.heap.objs.size+1:=by rw [<- hG,Heap.size_push]
 have hfs:∀ b∈fp,b < s2.heap.objs.size:=λb hb=>let ⟨o,e,_⟩:=T.obj _ _ st2 b hb; Heap.lt_size e
 have kpG:∀ b o,G.get? b=some o->(pushCells (G.push { cls:=.type "dict",data:=.dict #[] }) scope.names).get? b=some o:=λb o e=>pushCells_keeps _ _ _ _ (Heap.get?_push_of_some _ e)
 have hns3:(pushCells (G.push { cls:=.type "dict",data:=.dict #[] }) scope.names).Ns G.objs.size (λ_=>none):=(Heap.Ns.new G (.type "dict")).keeps (pushCells_keeps _ _)
 obtain ⟨sp1,sp2,sp4,sp3⟩:=rq scope.names (G.push { cls:=.type "dict",data:=.dict #[] }) cl
 rw [Heap.size_push] at sp1 sp2 sp3 sp4
 generalize hh3:pushCells (G.push { cls:=.type "dict",data:=.dict #[] }) scope.names=h3 at kpG hns3 sp1 ⊢
 have kp:∀ b o,s2.heap.get? b=some o->h3.get? b=some o:=λb o e=>kpG b o (by rw [<- hG]; exact Heap.get?_push_of_some _ e)
 have hD3:h3.get? s2.heap.objs.size=some { cls:=.type "dict",data:=.dict #[] }:=kpG _ _ (by rw [<- hG]; exact Heap.get?_push_size _ rfl)
 have hDo:h3.DictOf (cU X.prog X.w) s2.heap.objs.size []:=sr (h:=G) (by rw [<- hG]; exact Heap.DictOf.new _) λo e=>kpG _ o e
 have clB:∀ x c,cl.lookup x=some c->c < G.objs.size+1:=λx c e=>by
  obtain ⟨v,q⟩:=I2.cell x c (cl1 x c e)
  exact Nat.lt_succ_of_lt (Nat.lt_of_lt_of_le q.lt (by rw [hGs]; exact Nat.le_succ _))
 have csI:=sp3 clB λx y c e1 e2=>I2.ok.inj x y c (cl1 x c e1) (cl1 y c e2)
 have cs1:∀ x c,(cellsFrom (G.objs.size+1) scope.names cl).lookup x=some c->X.env.cells.lookup x=some c\/(G.objs.size < c/\h3.IsCell c none/\(x,NameKind.cell)∈scope.names):=λx c e=>by
  rcases sp1 x c e with z | ⟨z1,z2,z3⟩
  ·exact .inl (cl1 x c z)
  ·exact .inr ⟨by omega,z2,z3⟩
 have cs2:∀ y∈scope.names,(y.2=.free\/y.2=.cell)->∃ c,(cellsFrom (G.objs.size+1) scope.names cl).lookup y.1=some c:=λy hy hk=>by
  refine sp2 y.1 ?_
  rcases hk with z | z
  ·exact .inr (cl2 y hy z)
  ·exact .inl (by rw [<- z]; exact hy)
 have csA:∀ x c,(x,NameKind.cell)∈scope.names->(cellsFrom (G.objs.size+1) scope.names cl).lookup x=some c->G.objs.size<=c:=λx c e1 e2=>Nat.le_of_succ_le (sp4 x c e1 e2)
 generalize hcs:cellsFrom (G.objs.size+1) scope.names cl=cs at csI cs1 cs2 csA ⊢
 generalize hCe:G.objs.size=C at hns3 cs1 csA ⊢
 have hC:s2.heap.objs.size<=C:=by omega
 have hDC:s2.heap.objs.size≠C:=by omega
 let B:Blk:=⟨cs,C,s2,H1,fp,X.pn++pins⟩
 have I3:Inv (aW X (bN Nx ts ix) scope B) [] (cN ts.length ix σ) H1 { s2 with heap:=h3 }:=qL I2 hNx ok cs1 csI cs2 csA f2 hfs hC kp hns3
 have fC:H1 s2.heap.objs.size=none:=I2.hok.fresh (Nat.le_refl _)
 have cellIn:∀ x c,cs.lookup x=some c->c≠s2.heap.objs.size:=λx c e=>by
  rcases cs1 x c e with z | ⟨z,_,_⟩
  ·obtain ⟨v,q⟩:=I2.cell x c z
   exact Nat.ne_of_lt q.lt
  ·exact Nat.ne_of_gt (Nat.lt_of_le_of_lt hC z)
 have pinIn:∀ p∈X.pn++pins,p.1 < s2.heap.objs.size:=λp hp=>Heap.lt_size (I2.pin p hp).1
 have nofrs:s2.heap.objs.size ∉ frs X.stack:=λhb=>by
  rcases List.mem_cons.mp (I2.stkSub _ hb) with z | z
  ·exact absurd I2.lt (by rw [<- z]; exact Nat.lt_irrefl _)
  ·exact I2.nofs (Nat.le_refl _) z
 -- a state with the list at its place,pinned
 have pinD:∀ {τ:St} {H':Hp} {s':Shared} {ob:Obj},Inv (aW X (bN Nx ts ix) scope B) [] τ H' s'->s'.heap.get? s2.heap.objs.size=some ob->H' s2.heap.objs.size=none->(∀ v,ob.data≠.cell v)->Inv (aW X (bN Nx ts ix) scope B) [(s2.heap.objs.size,ob)] τ H' s' :=
  λ{τ H' s' ob} I' ho hn hd=>I'.pins_of λp hp=>by
   have e:p=(s2.heap.objs.size,ob):=by simpa using hp
   subst e
   exact ⟨ho,hn,hDC,nofrs,hd⟩
 obtain ⟨W,⟨m0,w0⟩,turn⟩:=q2 B
 have stat:∀ {H':Hp} {ob:Obj},(∀ b∈fp,H' b=none)->∀ b∈fp,fm (aW X (bN Nx ts ix) scope B) [(s2.heap.objs.size,ob)] H' b:=λ{H' ob} hn b hb=>by
  refine ⟨hn b hb,Nat.ne_of_lt (Nat.lt_of_lt_of_le (hfs b hb) hC),λz=>?_,.inl hb,λx c e=>by
   rcases cs1 x c e with z | ⟨z,_,_⟩
   ·exact (f2 b hb).2.2.2.2.1 x c z
   ·exact Nat.ne_of_gt (Nat.lt_of_lt_of_le (hfs b hb) (Nat.le_trans hC (Nat.le_of_lt z))),λp hp=>?_⟩
  ·rcases List.mem_cons.mp (I2.stkSub _ z) with q | q
   ·exact (f2 b hb).2.1 q
   ·exact (f2 b hb).2.2.1 q
  ·rcases List.mem_append.mp hp with z | z
   ·exact (f2 b hb).2.2.2.2.2 p z
   ·have e:p=(s2.heap.objs.size,ob):=by simpa using z
    subst e
    exact Nat.ne_of_gt (hfs b hb)
 have loop:∀ s4:Shared,s4={ s2 with heap:=h3 } ->
   codeAny (model X.prog X.w) X.A (.compLoop (.DictComp kx vx [⟨target,iter,[],0⟩] scope pos) 0 (.ref it) (.ref s2.heap.objs.size) (compEnvC scope cs C X.env)) (R (.ref s2.heap.objs.size) C) s4:=by
  rintro s4 rfl
  refine Zm9 (λk s'=>∃ i τ ys us ob H',Inv (aW X (bN Nx ts ix) scope B) [(s2.heap.objs.size,(ob:Obj))] τ H' s'/\tn i s'.heap/\(∀ b∈fp,H' b=none)/\KV ys us/\s'.heap.DictOf (cU X.prog X.w) s2.heap.objs.size us/\ys.length<=sizeLine/\W i k τ ys H') ?_ m0
   ⟨0,_,[],[],_,H1,pinD I3 hD3 fC (λv z=>by cases z),T.keep _ _ _ st2 λb hb o e=>kp b o e,λb hb=>(f2 b hb).1,.nil,hDo,Nat.zero_le _,w0⟩
  rintro k s5 ⟨i,τ,ys,us,ob,H5,I5,st5,fr5,rv,hDO,hz,w5⟩
  rcases turn i k τ ys H5 w5 with ⟨stop,qn⟩ | ⟨go,hlt,step⟩
  ·have p5:=I5.pin (s2.heap.objs.size,ob) (List.mem_append_right _ (by simp))
   refine thn (T.done (aW X (bN Nx ts ix) scope B) rfl rfl rfl hc i _ s5 τ H5 _ I5 (stat fr5) st5 stop) λgot s6 hz0=>?_
   obtain ⟨hr,I6⟩:=hz0
   subst hr
   obtain ⟨ho,hn,_,_,_⟩:=I6.pin (s2.heap.objs.size,ob) (List.mem_append_right _ (by simp))
   have hDO6:s6.heap.DictOf (cU X.prog X.w) s2.heap.objs.size us:=sr hDO λo e=>by
    rw [p5.1] at e
    cases e
    exact ho
   have I7:Inv X pins σ H5 s6:=I2.call' (ch:=fp) (H':=H5) (by exact I6.os) I6.base I6.hok I6.bare λb hb=>⟨(f2 b hb).2.2.2.1,(f2 b hb).2.1,(f2 b hb).2.2.2.2.1,(f2 b hb).2.2.2.2.2⟩
   have hs0:X.s₀.heap.objs.size<=s2.heap.objs.size:=I2.sz
   have I8:=I7.trackD hn hDO6 rv hz (beq_eq_false_iff_ne.mpr (Nat.ne_of_gt I2.big)) (Nat.ne_of_gt I2.lt) hs0 (λx c e z=>by
    obtain ⟨v,q⟩:=I2.cell x c e
    exact absurd q.lt (by rw [z]; exact Nat.lt_irrefl _)) (λp hp=>Nat.ne_of_lt (pinIn p hp))
   obtain ⟨m6,hm6,_⟩:=I6.loc
   refine hR _ C _ s6 _ I8 rfl (qn _ _ _ hn rfl rfl) ⟨m6,hm6⟩ ?_ (λz=>?_) (Nat.le_trans hs0 hC) (λx c e z=>?_) λp hp=>Nat.ne_of_lt (Nat.lt_of_lt_of_le (pinIn p hp) hC)
   ·rw [az (Ne.symm hDC)]
    exact I6.free
   ·exact absurd (Nat.lt_of_lt_of_le I2.lt hC) (by rw [z]; exact Nat.lt_irrefl _)
   ·obtain ⟨v,q⟩:=I2.cell x c e
    exact absurd (Nat.lt_of_lt_of_le q.lt hC) (by rw [z]; exact Nat.lt_irrefl _)
  ·have p5:=I5.pin (s2.heap.objs.size,ob) (List.mem_append_right _ (by simp))
   refine thn (T.item (aW X (bN Nx ts ix) scope B) rfl rfl rfl hc i _ s5 τ H5 _ I5 (stat fr5) st5 go) λgot s6 hz0=>?_
   obtain ⟨u,hr,h6⟩:=hz0
   subst hr
   refine thn h6 λ_ s7 hz0=>?_
   obtain ⟨x,H7,I7,r7,y7,st7,fr7⟩:=hz0
   have I7':=I7.pinned (stat fr7) (T.obj _ _ st7)
   refine thn (hg B _ s7 τ H7 x u _ I7' r7 (step x H7 y7)) λ_ s8 hz0=>?_
   obtain ⟨τ8,H8,I8,q8⟩:=hz0
   refine thn (hk B _ s8 τ8 H8 _ I8 q8) λkv sk hz0=>?_
   obtain ⟨vk,Hk,Ik,rk,qk⟩:=hz0
   refine thn (he B _ sk τ8 Hk _ Ik qk) λy s9 hz0=>?_
   obtain ⟨vy,H9,I9,r9,zk,m',ek,hm',w9⟩:=hz0
   subst ek
   obtain ⟨tk9,rfl⟩:=rk
   obtain ⟨ho,hn,_,_,_⟩:=I9.pin (s2.heap.objs.size,ob) (List.mem_append_right _ (List.mem_append_left _ (by simp)))
   have hDO9:s9.heap.DictOf (cU X.prog X.w) s2.heap.objs.size us:=sr hDO λo e=>by
    rw [p5.1] at e
    cases e
    exact ho
   have lenv:ys.length=us.length:=ZiZ rv
   refine wpAny_dictSet_pairs (knd:=cU X.prog X.w) (k:=(Sum.inl zk:aZ)) (ZcH _ _ _ _) hDO9 (λh' hpl hsb=>?_) (by omega)
   obtain ⟨ob',es',ep',ho',hc',hd',_⟩:=hpl
   have hpl:h'.DictOf (cU X.prog X.w) s2.heap.objs.size (stored us (Sum.inl zk) y):=⟨ob',es',ep',ho',hc',hd',by assumption⟩
   have I9':Inv (aW X (bN Nx ts ix) scope B) [] τ8 H9 s9:=I9.pins_of λp hp=>absurd hp (by simp)
   have I10:Inv (aW X (bN Nx ts ix) scope B) [] τ8 H9 { s9 with heap:=h',toks:=s9.toks+1 }:=I9'.turned (it:=s2.heap.objs.size) (t':=s9.toks+1) (λb o hb e=>(hsb.2 b hb).trans e) hn hDC (.inr (Nat.le_refl _)) cellIn (λp hp=>by
    have hp':p∈(X.pn++pins)++[]:=hp
    rw [List.append_nil] at hp'
    exact Nat.ne_of_lt (pinIn p hp'))
   refine ⟨m',hm',i+1,τ8,gi ys (.inl zk) vy,stored us (Sum.inl zk) y,ob',H9,pinD I10 ho' hn (λv z=>by rw [hd'] at z; cases z),?_,λb hb=>?_,rv.put _ r9,hpl,by have:=Zc2 ys (Sum.inl zk:aZ) vy; omega,w9⟩
   ·refine T.keep _ _ _ st7 λb hb o e=>?_
    have q:=(I9.pin (b,o) (List.mem_append_right _ (List.mem_append_right _ (fQ hb e)))).1
    exact (hsb.2 b (Nat.ne_of_lt (hfs b hb))).trans q
   ·obtain ⟨o,e,d⟩:=T.obj _ _ st7 b hb
    exact (I9.pin (b,o) (List.mem_append_right _ (List.mem_append_right _ (fQ hb e)))).2.1
 exact codeAny_compStart_dict (loop _ rfl) (T.self X.A 0 _ _ _ (T.keep _ _ _ st2 λb hb o e=>kp b o e) (loop _ rfl))
theorem ZjM (kx vx gens scope pos) (env:Env):eval (.DictComp kx vx gens scope pos) env=comprehension (.DictComp kx vx gens scope pos) scope env (firstIterPos gens pos) newDict (firstAsync gens) (firstIter gens env):=by rw [eval]
theorem ZhW {kx vx target iter:Expr} {scope:Scope} {pos:Pos} {wi:TI} {g:Blk->TG} {tk te:Blk->TE} (Nx:List Str) (ts:List Str) (ix:List Nat)
  (hc:X.calm=true) (hi:PI X target iter wi) (hg:∀ b,PG (aW X (bN Nx ts ix) scope b) target (g b)) (hk:∀ b,PE (aW X (bN Nx ts ix) scope b) kx (tk b)) (he:∀ b,PE (aW X (bN Nx ts ix) scope b) vx (te b))
  (hNx:X.N=Nx) (ok:BlkOk Nx X.env.scope scope ix) (hs:∀ x,foldedSetIterable iter X.env x=pure x:=by intro _; rfl) :
  PE X (.DictComp kx vx [⟨target,iter,[],0⟩] scope pos) (jT wi ts.length ix g tk te):=by
 intro pins s σ H Q I h
 obtain ⟨cl,hcl,cl1,cl2⟩:=jB (scope:=scope) (env:=X.env) λy hy hf=>I.ok.has y.1 (ok.frees y hy hf)
 rw [ZjM]
 refine wpAny_comprehension_free (use:=none) rfl hs hcl ok.kind ok.locs (thn (hi pins s σ H _ I h) λv s1 h1=>thn h1 λitv s2 h2=>?_)
 refine Zeo (R:=λacc C=>compPost (model X.prog X.w) X.A X.xe none (EP X pins σ Q) acc C) hc hg hk he hNx ok cl1 cl2 h2 ?_
 rintro D C H' s' v I' rfl q ⟨m,hm⟩ hn hL h0 hcl' hp
 exact ⟨m,hm,λh' hsb=>⟨.ref D,H',I'.turned (it:=C) (t':=s'.toks) (λb o hb e=>(hsb.2 b hb).trans e) hn hL (.inr h0) hcl' hp,rfl,q⟩⟩
theorem ZhG {kx vx target iter:Expr} {scope:Scope} {pos pos' spos:Pos} {wi:TI} {g:Blk->TG} {tk te:Blk->TE} {i:Nat} {x:Str} (Nx:List Str) (ts:List Str) (ix:List Nat)
  (hc:X.calm=true) (hN:X.N.Nodup) (hix:X.N[i]?=some x) (hx:X.env.scope.names.lookup x=some .local) (hi:PI X target iter wi) (hg:∀ b,PG (aW X (bN Nx ts ix) scope b) target (g b)) (hk:∀ b,PE (aW X (bN Nx ts ix) scope b) kx (tk b)) (he:∀ b,PE (aW X (bN Nx ts ix) scope b) vx (te b))
  (hNx:X.N=Nx) (ok:BlkOk Nx X.env.scope scope ix) (hsw:swapsWith (.DictComp kx vx [⟨target,iter,[],0⟩] scope pos) (some (.Name x pos')) spos.line X.env=pure true) (hs:∀ x,foldedSetIterable iter X.env x=pure x:=by intro _; rfl) :
  PS X (.Assign [.Name x pos'] (.DictComp kx vx [⟨target,iter,[],0⟩] scope pos) spos) (eu (jT wi ts.length ix g tk te) (eX i)):=by
 intro pins s σ H D0 I h
 obtain ⟨cl,hcl,cl1,cl2⟩:=jB (scope:=scope) (env:=X.env) λy hy hf=>I.ok.has y.1 (ok.frees y hy hf)
 rw [exec_Assign_Name_used _ _ _ _ hsw]
 refine wpAny_bind (wpAny_standAt (wpAny_bind ?_))
 show wpAny _ X.A (do let _ <- comprehension (.DictComp kx vx [⟨target,iter,[],0⟩] scope pos) scope X.env _ newDict false (eval iter X.env) (some (assign (.Name x pos') X.env))) _ _ s
 refine wpAny_bind (thn (wpAny_comprehension_free (use:=some (assign (.Name x pos') X.env)) (Q:=λ_ s'=>SP X pins D0 .next s') rfl hs hcl ok.kind ok.locs (thn (hi pins s σ H _ I h) λv s1 h1=>thn h1 λitv s2 h2=>?_)) λ_ s' hq=>wpAny_pure (wpAny_pure hq))
 refine Zeo (R:=λacc C=>compPost (model X.prog X.w) X.A X.xe (some (assign (.Name x pos') X.env)) (λ_ s'=>SP X pins D0 .next s') acc C) (Q:=λx H1=>eX i x σ H1 D0.nx) hc hg hk he hNx ok cl1 cl2 h2 ?_
 rintro D C H' s' v I' rfl q ⟨m,hm⟩ hn hL h0 hcl' hp
 show wpAny _ X.A (assign (.Name x pos') X.env (.ref D)) _ _ _
 refine wpAny_assign_Name (o9 I' hN hix (.inl hx) (show RelV (.ref D) (.ref D) from rfl) (λs'' I'' hch=>?_) (.inr hx))
 obtain ⟨a,hsb,ha⟩:=hch
 have haC:C≠a:=by
  rcases ha with z | z
  ·rw [z]; exact hL
  ·exact λe=>hcl' _ _ z e.symm
 exact ⟨m,hm.sameBut hsb haC,λh'' hs''=>⟨_,H',I''.turned (it:=C) (t':=s''.toks) (λb o hb e=>(hs''.2 b hb).trans e) hn hL (.inr h0) hcl' hp,q⟩⟩
end
section
variable {PK:Pk} {X:Cx} {e:Expr} {is:List Sl->Tr (List PyData)} {kx i:List Sl->Tr PyData}
noncomputable def fU:List (Int×PyData)->List PyData->Option PyData
 | kvs,[]=>some (dD kvs)
 | kvs,.tuple [.int k,v]::ps=>fU (gN kvs k v) ps
 | _,_=>none
noncomputable def Zeq (i:List Sl->Tr PyData) (τ:List Sl):PyData->Tr PyData
 | .int z=>(i τ).bind λv=>.ret (.tuple [.int z,v])
 | _=>.fail
noncomputable def g9 (kx i:List Sl->Tr PyData) (τ:List Sl):Tr PyData:=(kx τ).bind (Zeq i τ)
noncomputable def gG (is:List Sl->Tr (List PyData)) (n:Nat) (ix:List Nat) (g:PyData->List Sl->Option (List Sl)) (kx i:List Sl->Tr PyData):List Sl->Tr PyData:=λρ =>
 (is ρ).bind λxs=>if small xs.length=true then (bB (λx=>(Tr.of (g x (blk n ix ρ))).bind (g9 kx i)) xs).bind λps=>Tr.of (fU [] ps) else .fail
theorem Zen {n:Nat} {ix:List Nat} {g:PyData->List Sl->Option (List Sl)} (hn:fj n g):∀ σ H Q,TAe PK (gG is n ix g kx i) σ H Q->jT (dC PK is) n ix (λ_=>d8 PK g) (λ_=>TAe PK kx) (λ_=>TAe PK i) σ H Q:=by
 rintro σ H Q ⟨pa,G₀,H₀,m,ρ,G,R,z⟩
 refine ⟨pa,G₀,H₀,m,ρ,G,R,Tr.ok_mono (Tr.ok_bind.mp z) λm1 xs k J G1 H1 s1 w1 jo=>λB=>?_⟩
 obtain ⟨hs,k⟩:=fx k
 have hs:xs.length<=sizeLine:=of_decide_eq_true hs
 let el:PyData->Tr PyData:=λx=>(Tr.of (g x (blk n ix ρ))).bind (g9 kx i)
 let W:Nat->Nat->St->List (aZ×V)->Hp->Prop:=λk mm τ ks H2=>mm=xs.length - k/\k<=xs.length/\ks.length<=k/\∃ m G2 kvs,Sub G1 G2/\Stp pa G H G2 H2/\Rl PK pa G₀ H₀ m τ (blk n ix ρ) G2 H2 /\
  KD G2 ks kvs/\((bB el (xs.drop k)).bind λzs=>Tr.of (fU kvs zs)).ok m λm' d=>Kn PK pa m' G H d Q
 refine ⟨W,⟨xs.length,rfl,Nat.zero_le _,Nat.le_refl _,m1,G1,[],.refl,s1,(R.step s1 w1).blk n ix,.nil,k⟩,?_⟩
 rintro k mm τ ks H2 ⟨rfl,hk,hy,m2,G2,kvs,sb,st2,R2,dn,k2⟩
 obtain ⟨j1,j2⟩:=jo m2 G2 H2 sb R2.wd
 by_cases hlt:k < xs.length
 ·have hx:xs[k]?=some xs[k]:=by simp [hlt]
  obtain ⟨jg,jy⟩:=j1 k _ hx
  refine .inr ⟨jg,by omega,λx H3 y=>?_⟩
  obtain ⟨G3,s3,w3,d3⟩:=jy x H3 y
  rw [List.drop_eq_getElem_cons hlt] at k2
  unfold bB at k2
  rw [Tr.ok_bind,Tr.ok_bind,Tr.ok_bind] at k2
  obtain ⟨ρ3,hg3,k3⟩:=Tr.ok_of k2
  refine ⟨pa,G₀,H₀,m2,_,G3,_,ρ3,R2.step s3 w3,d3,hg3,λτ4 R4=>?_⟩
  unfold g9 at k3
  refine ⟨pa,G₀,H₀,m2,ρ3,G3,R4,Tr.ok_mono (Tr.ok_bind.mp k3) λm5 kd k5=>?_⟩
  intro v G5 H5 s5 w5 d5
  have s35:=s3.trans s5 w3.some
  obtain ⟨pl,pk⟩:=hn _ _ _ hg3
  obtain ⟨z,rfl,k5⟩:∃ z:Int,kd=.int z/\((i ρ3).bind λv=>Tr.ret (PyData.tuple [.int z,v])).ok m5 λm' y=>((bB el (xs.drop (k+1))).bind λzs=>Tr.ret (y::zs)).ok m' λm' zs=>(Tr.of (fU kvs zs)).ok m' λm'' d=>Kn PK pa m'' G H d Q:=by
   cases kd with
   | int z=>exact ⟨z,rfl,k5⟩
   | _=>exact k5.elim
  have ev:v=.int z:=by cases d5; rfl
  refine ⟨pa,G₀,H₀,m5,ρ3,G5,R4.step s5 w5,Tr.ok_mono (Tr.ok_bind.mp k5) λm6 yd k6=>?_⟩
  intro u G6 H6 s6 w6 d6
  have s56:=s35.trans s6 w5.some
  have k8:((bB el (xs.drop (k+1))).bind λzs=>Tr.of (fU (gN kvs z yd) zs)).ok m6 λm' d=>Kn PK pa m' G H d Q:=by
   have k6':((bB el (xs.drop (k+1))).bind λzs=>Tr.ret (PyData.tuple [.int z,yd]::zs)).ok m6 λm' zs=>(Tr.of (fU kvs zs)).ok m' λm'' d=>Kn PK pa m'' G H d Q:=k6
   rw [Tr.ok_bind] at k6' ⊢
   exact Tr.ok_mono k6' λm' zs q=>q
  refine ⟨z,xs.length - (k+1),ev,by omega,rfl,hlt,by have:=Zc2 ks (Sum.inl z:aZ) u; omega,m6,G6,gN kvs z yd,sb.trans s56.gs,st2.trans s56 R2.wd.some,?_,(KD.mono s56.gs dn).put z d6,k8⟩
  refine ((R4.step s5 w5).step s6 w6).weak pl λq sl hq=>?_
  by_cases hqn:q < n
  ·left
   unfold blk at hq
   rw [List.getElem?_append_left (by simpa using hqn),List.getElem?_replicate,if_pos hqn] at hq
   cases hq
   rfl
  ·right
   rw [pk q (Nat.le_of_not_lt hqn)]
   exact hq
 ·have e:k=xs.length:=by omega
  subst e
  refine .inl ⟨j2,λp v H' hp ev eH=>?_⟩
  subst ev eH
  rw [List.drop_length] at k2
  have k2':Kn PK pa m2 G H (dD kvs) Q:=k2
  have k3:=Kn.later k2' st2 R2.wd.some
  refine Kn.dct (ks:=ks) (ds:=kvs.map (·.2)) ?_ R2.wd dn.vals hp
  exact Eq.mpr (congrArg (λz=>Kn PK pa m2 G2 H2 (PyData.dict z) Q) dn.zip) k3
theorem Zoa {n:Nat} {ix:List Nat} {g:PyData->List Sl->Option (List Sl)} (h:PE X e (jT (dC PK is) n ix (λ_=>d8 PK g) (λ_=>TAe PK kx) (λ_=>TAe PK i))) (hn:fj n g):PE X e (TAe PK (gG is n ix g kx i)):=h.imp (Zen hn)
theorem ZnX {st:Stmt} {n k:Nat} {ix:List Nat} {g:PyData->List Sl->Option (List Sl)} (h:PS X st (eu (jT (dC PK is) n ix (λ_=>d8 PK g) (λ_=>TAe PK kx) (λ_=>TAe PK i)) (eX k))) (hn:fj n g):PS X st (bq PK (aS k (gG is n ix g kx i))) :=
 aX (h.imp (o2 (Zen hn)))
end
section
variable {prog:Program} {w:World} {A:Around} {R:Result->Shared->Prop} {s:Shared}
theorem Znc {e:Expr} {env:Env}
  (h:wpAny (model prog w) (A.deeper env) (eval e env) (λv z=>R (.ok (.ret v)) z) (λx z=>wpAny (model prog w) (A.deeper env) (leaving env x) (λ_ y=>R (.error x) y) (λx' y=>R (.error x') y) z) s) :
  codeAny (model prog w) A (.expr e env) R s :=
 codeAny_of_tree (show wpAny _ (A.deeper env) (do point; ret (<- (eval e env).onRaise (leaving env))) _ _ s from
  wpAny_bind (wpAny_point (wpAny_bind (wpAny_onRaise (wpAny_mono h (λv z q=>wpAny_pure q) λ_ _ q=>q)))))
noncomputable def iA (scope:Scope) (cl:List (Str×Addr)) (q:Str) (L f:Addr) (cd:Value):Env :=
 { scope:=scope,locals:=L,globals:=mainGlobals,cells:=cl,qual:=q,func:=some f,code:=cd,frame:=some L,builtins:=builtinsNs }
theorem Znn {f c:Addr} {o oc:Obj} {fd:FuncData} {e:Expr} {ag:Args} {vs:Array Value} {q:Str} {t:Tok} (dep:A.depth < recursionLimit) (hf:s.heap.get? f=some o) (df:o.data=.func fd) (n1:fd.scope.isCoroutine=false) (n2:fd.scope.isGenerator=false) (hb:fd.body=.expr e)
  (hc:fd.code=.ref c) (gc:s.heap.get? c=some oc) (dc:oc.data=.fields vs) (hq:vs[1]?=some (.str q t))
  (h:wpAny (model prog w) A.in1 (bindArgs fd ag) (λbs z=>wpAny (model prog w) A.in1 (newFunctionEnv fd.scope fd.globals fd.closure bs (q++".<locals>.") (some f) (.ref c) none fd.builtins)
   (λenv y=>y.heap.NoLimit/\codeAny (model prog w) A (.expr e env) R y) (λx y=>R (.error x) y) z) (λx z=>R (.error x) z) s):codeAny (model prog w) A (.call (.ref f) ag) R s :=
 codeAny_of_tree (show wpAny _ A.in1 (callAny (.ref f) ag) _ _ s from by
  unfold callAny
  refine wpAny_bind (wpAny_load hf ?_)
  simp only [df,callFunction,n1,n2,hb,hc]
  refine wpAny_bind (m:=field (.ref c) 1) (wpAny_field gc dc hq (wpAny_bind (wpAny_pure (wpAny_bind (wpAny_mono h (λbs z k=>wpAny_bind (wpAny_mono k (λenv y k2=>?_) λ_ _ k'=>k')) λ_ _ k'=>k')))))
  exact wpAny_bind (wpAny_enterFrame k2.1 dep (wpAny_pure ⟨rfl,k2.2⟩)))
end
noncomputable def k7 (CX:eJ) (P:Program) (w:World) (K:PySem.W.Frag) (mg:Str->Option Value) (base:Heap) (N:List Str) (scope:Scope) (cl:List (Str×Addr)) (q:Str) (f:Addr) (cd:Value) (A:Around) (outer:List Env) (s:Shared) (H:Hp) (E:XK):Cx where
 prog:=P
 w:=w
 K:=K
 mg:=mg
 base:=base
 A:=A.deeper (iA scope cl q s.heap.objs.size f cd)
 N:=N
 s₀:=s
 H₀:=H
 env:=iA scope cl q s.heap.objs.size f cd
 outer:=outer
 stack:=iA scope cl q s.heap.objs.size f cd::outer
 ex:=[]
 calm:=true
 fn:=λ_=>false
 pn:=[]
 xe:=λe z=>wpAny (model P w) (A.deeper (iA scope cl q s.heap.objs.size f cd)) (leaving (iA scope cl q s.heap.objs.size f cd) e) (λ_ y=>CX outer H s E e y) (λe' y=>CX outer H s E e' y) z
structure CelOk (N:List Str) (cl:List (Str×Addr)) (σ:St) (H:Hp) (h:Heap):Prop where
 inj:∀ x y c,cl.lookup x=some c->cl.lookup y=some c->x=y
 is:∀ x c,cl.lookup x=some c->(∃ v,h.IsCell c v)/\H c=none
 at':∀ (i:Nat) (x:Str),N[i]?=some x->∃ c,cl.lookup x=some c/\∀ v,σ[i]?=some (some v)->∃ u,RelV v u/\h.IsCell c (some u)
 len:σ.length=N.length
section
variable {CX:eJ} {P:Program} {w:World} {K:PySem.W.Frag} {mg:Str->Option Value} {base:Heap} {N:List Str} {scope:Scope} {cl:List (Str×Addr)} {q:Str} {f:Addr} {cd:Value} {A:Around} {outer:List Env} {s:Shared} {H:Hp} {E:XK} {σ:St}
end
structure CodK (K:PySem.W.Frag) (c P:Addr):Prop where
 ex:∃ o vs file tf flags tg inF text tt,K.lookup c=some o/\o.cls=.type "code"/\o.data=.fields vs/\vs[11]?=some (.ref P)/\vs.getD 18 .none=.str file tf/\vs.getD 7 .none=.int flags tg/\vs.getD 9 .none=.bool inF/\vs.getD 10 .none=.int text tt
 ne:c≠P
structure BltK (h:Heap) (mg:Str->Option Value):Prop where
 ex:∃ bm o,mg "__builtins__"=some (.ref bm)/\bm≠builtinsNs/\h.get? bm=some o/\o.cls=.type "module"/\o.dict=some builtinsNs/\o.data=.plain
theorem Zft {po:Pos} {a b c:Value} (hab:∃ i t j u,a=.int i t/\b=.int j u):∀ l:List Value,PySem.TriplesOk l->∀ v,codeAmong po (l++[a,b,c])=some v->codeAmong po l=some v\/v=c
 | [],_,v,h=>by
  obtain ⟨i,t,j,u,rfl,rfl⟩:=hab
  rw [List.nil_append,codeAmong] at h
  split at h
  ·exact .inr (Option.some.inj h).symm
  ·cases h
 | .int i t::.int j u::d::r,k,v,h=>by
  rw [List.cons_append,List.cons_append,List.cons_append,codeAmong] at h
  rw [codeAmong]
  split at h
  ·rename_i q
   rw [if_pos q]
   exact .inl h
  ·rename_i q
   rw [if_neg q]
   exact Zft hab r k v h
 | .int i t::.int j u::[],k,v,h=>(k:False).elim
 | .int i t::[],k,v,h=>(k:False).elim
section
variable {X:Cx} {pins:List (Addr×Obj)} {σ:St} {H:Hp} {s:Shared}
theorem Inv.code {c P:Addr} {ps:Array Value} (I:Inv X pins σ H s) (ck:CodK X.K c P) (hP:H P=some (.cod ps)) :
  ∃ more,s.heap.IsCode c P (ps++more)/\s.heap.TableAt c P (ps++more)/\PySem.TriplesOk (ps++more).toList/\∀ (po:Pos) (v:Value),codeAmong po (ps++more).toList=some v->∃ (c:Addr) (ob:Obj) (vs:Array Value) (q:Str) (t:Tok),v=.ref c/\H c=some (.frz ob (.own 0))/\ob.data=.fields vs/\vs[1]?=some (.str q t):=by
 obtain ⟨o,vs,file,tf,flags,tg,inF,text,tt,e1,e2,e3,e4,e5,e6,e7,e8⟩:=ck.ex
 obtain ⟨more,t1,t2,t3⟩:=I.hok P _ hP
 have g:=I.kIn c o e1
 have e4':vs.getD 11 .none=.ref P:=by
  rw [Array.getD_eq_getD_getElem?,e4]
  rfl
 exact ⟨more,⟨o,vs,file,tf,flags,tg,inF,text,tt,_,g,e3,e4',e5,e6,e7,e8,t1,rfl,t2,ck.ne⟩,⟨⟨o,vs,g,e2,e3,e4⟩,t1⟩,t2,t3⟩
theorem Inv.lam {P f c:Addr} {ps more:Array Value} {h3:Heap} {tk:Nat} {fo oc:Obj} {H1:Hp} (I:Inv X pins σ H s) (hP:H P=some (.cod ps)) (kp:∀ b o,b≠P->s.heap.get? b=some o->h3.get? b=some o) (hf:s.heap.objs.size<=f) (gf:h3.get? f=some fo)
  (tb:h3.get? P=some { cls:=.none,data:=.fields (ps++more) }) (tr:PySem.TriplesOk (ps++more).toList)
  (hc:H1 c=some (.frz oc (.own 0))) (gc:h3.get? c=some oc) (hH:H1=H\/(s.heap.objs.size<=c/\c≠f/\H1=upd H c (.frz oc (.own 0))))
  (al:∀ (po:Pos) (v:Value),codeAmong po (ps++more).toList=some v->∃ (c:Addr) (ob:Obj) (vs:Array Value) (q:Str) (t:Tok),v=.ref c/\H1 c=some (.frz ob (.own 0))/\ob.data=.fields vs/\vs[1]?=some (.str q t)) :
  Inv X pins σ (upd H1 f (.frz fo (.own 0))) { s with heap:=h3,toks:=tk }/\H1 f=none:=by
 have nf:=I.hok.fresh hf
 have cf:H1 f=none:=by
  rcases hH with rfl | ⟨_,hne,rfl⟩
  ·exact nf
  ·rw [az (Ne.symm hne)]; exact nf
 have up:∀ b u,H b=some u->H1 b=some u:=λb u e=>by
  rcases hH with rfl | ⟨z,_,rfl⟩
  ·exact e
  ·rw [az (cw e (I.hok.fresh z))]; exact e
 have up2:∀ b u,H b=some u->upd H1 f (.frz fo (.own 0)) b=some u:=λb u e=>by rw [az (cw (up b u e) cf)]; exact up b u e
 have old:∀ b o,s.heap.get? b=some o->H b=none->upd H1 f (.frz fo (.own 0)) b=none:=λb o e n=>by
  have hb:=Heap.lt_size e
  rw [az (Nat.ne_of_lt (Nat.lt_of_lt_of_le hb hf))]
  rcases hH with rfl | ⟨z,_,rfl⟩
  ·exact n
  ·rw [az (Nat.ne_of_lt (Nat.lt_of_lt_of_le hb z))]; exact n
 have nP:∀ b,H b=none->b≠P:=λb n z=>by rw [z,hP] at n; cases n
 refine ⟨I.un (h':=h3) (t':=tk) ⟨λb o e n _ _=>kp b o (nP b n) e,λb o e n _ _=>⟨o.slots,kp b o (nP b n) e⟩,λb o e n _=>old b o e n,λb o e _=>?_,λb xs e=>up2 b _ e,λb o u e=>up2 b _ e,λb qs e=>⟨#[],by rw [up2 b _ e]; simp⟩⟩ λb u e=>?_,cf⟩
 ·by_cases hb:b=P
  ·exact ⟨_,by rw [hb]; exact tb⟩
  ·exact ⟨o,kp b o hb e⟩
 ·by_cases hb:b=f
  ·subst hb
   rw [bT] at e
   cases e
   exact ⟨gf,fo,gf⟩
  ·have e0:=e
   rw [az hb] at e
   have own1:∀ b' y,H b'=some (.own y)->upd H1 f (.frz fo (.own 0)) b'=some (.own y):=λb' y q=>up2 b' _ q
   by_cases hbP:b=P
   ·subst hbP
    have:u=.cod ps:=by
     have:=up b _ hP
     rw [this] at e
     exact (Option.some.inj e).symm
    subst this
    refine ⟨more,tb,tr,λpo v hv=>?_⟩
    obtain ⟨c',ob,vs,q,t,r1,r2,r3⟩:=al po v hv
    exact ⟨c',ob,vs,q,t,r1,by rw [az (cw r2 cf)]; exact r2,r3⟩
   ·have key:H b=some u\/(b=c/\u=.frz oc (.own 0)):=by
     rcases hH with rfl | ⟨z,_,rfl⟩
     ·exact .inl e
     ·by_cases q:b=c
      ·subst q
       rw [bT] at e
       exact .inr ⟨rfl,(Option.some.inj e).symm⟩
      ·rw [az q] at e
       exact .inl e
    rcases key with e1 | ⟨rfl,rfl⟩
    ·refine (I.hok b u e1).stay (λb' v hv q=>kp b' v (λz=>?_) q) (λb' q=>own1 b' _ q) (λb' xs q=>up2 b' _ q) λb' ob u' _ q _=>up2 b' _ q
     subst z
     rcases hv with z | z
     ·exact hbP z.symm
     ·rw [hP] at z; cases z
    ·exact ⟨gc,oc,gc⟩
end
section
variable {X:Cx}
end
end L2
namespace L2
open PySem PySem.Spec PySem.Calls PyProof.Rows
section
variable {M:Model} {A:Around} {E:Value->Shared->Prop}
variable {nm q:Str} {C N:Addr} {bs bm:List Value} {hdct:Bool} {sn:List Str} {sub:List Value} {ab:Bool} {col:Option Bool} {dd:Option Addr} {k0 k1 k2 k3 k5:Option Value} {newId:String}
variable {nm' q':Str} {D N':Addr} {bs' bm':List Value} {hdct':Bool} {sn':List Str} {sub':List Value} {ab':Bool} {col':Option Bool} {dd':Option Addr} {j0 j1 j2 j3 j5:Option Value} {newId':String}
end
section
variable {prog:Program} {w:World} {A:Around} {E:Value->Shared->Prop} {s:Shared} {env:Env}
end
end L2
namespace L2
open PySem PySem.Spec PyProof.Rows
section
variable {X:Cx} {pins:List (Addr×Obj)} {σ:St} {H:Hp} {s:Shared}
end
end L2
namespace PySem
section
variable {M:Model} {A:Around} {E:Value->Shared->Prop} {h:Heap} {g:Array GenState} {d:Drawn} {t:Nat} {os:OsState}
variable {nm q:Str} {C N:Addr} {bs bm bmB:List Value} {hdct:Bool} {sn:List Str} {sub:List Value} {ab:Bool} {col:Option Bool} {dd:Option Addr} {k0 k1 k2 k3 k5:Option Value} {B newId:String}
end
section
variable {prog:Program} {w:World} {A:Around} {E:Value->Shared->Prop} {h:Heap} {g:Array GenState} {d:Drawn} {t:Nat} {os:OsState} {a:Addr} {o:Obj}
 {nm q:Str} {C N:Addr} {bs bm bmB:List Value} {hdct:Bool} {sn:List Str} {sub:List Value} {ab:Bool} {col:Option Bool} {dd:Option Addr} {k0 k1 k2 k3 k5:Option Value} {B newId:String} {mN:Str->Option Value}
end
end PySem
namespace L2
open PySem PySem.Spec PyProof.Rows
section
variable {X:Cx} {C:Addr} {B:String} {bmB:List Value}
end
open Classical in
noncomputable def cut (cs:List Addr) (H:Hp):Hp:=λb=>if b∈cs then none else H b
open Classical in
noncomputable def glue (cs:List Addr) (H H':Hp):Hp:=λb=>if b∈cs then H b else H' b
theorem fG {cs:List Addr} {H:Hp} {b:Addr} (h:b∈cs):cut cs H b=none:=if_pos h
theorem cH {cs:List Addr} {H:Hp} {b:Addr} (h:b ∉ cs):cut cs H b=H b:=if_neg h
theorem nJ {cs:List Addr} {H H':Hp} {b:Addr} (h:b∈cs):glue cs H H' b=H b:=if_pos h
theorem gA {cs:List Addr} {H H':Hp} {b:Addr} (h:b ∉ cs):glue cs H H' b=H' b:=if_neg h
theorem rl {cs:List Addr} {H:Hp} {b:Addr} (n:H b=none):cut cs H b=none:=by
 by_cases z:b∈cs
 ·exact fG z
 ·rw [cH z]; exact n
noncomputable def Lent (cs:List Addr) (H:Hp):Prop:=∀ c∈cs,∃ (o:Obj) (v:Option Value),H c=some (.frz o (.own 0))/\o.data=.cell v
section
variable {P:Program} {w:World} {K:PySem.W.Frag} {mg:Str->Option Value} {base:Heap} {A:Around} {outer:List Env} {s s':Shared} {H H':Hp} {cs:List Addr} {h h':Heap}
theorem Lent.no {b:Addr} {u:HO} (L:Lent cs H) (e:H b=some u) (hu:∀ o v,u=.frz o (.own 0)->o.data≠.cell v):b ∉ cs:=λz=>by
 obtain ⟨o,v,e1,e2⟩:=L b z
 rw [e] at e1
 exact hu o v (Option.some.inj e1) e2
theorem HOk.cut (L:Lent cs H) (ok:HOk P w H h):HOk P w (L2.cut cs H) h:=λb u e=>by
 have hb:b ∉ cs:=λz=>by rw [fG z] at e; cases e
 rw [cH hb] at e
 refine (ok b u e).stay (λ_ _ _ q=>q) (λc q=>?_) (λc xs q=>?_) λc ob u' vs q d=>?_
 ·rw [cH (L.no q λo v z=>by cases z)]; exact q
 ·rw [cH (L.no q λo v z=>by cases z)]; exact q
 ·rw [cH (L.no q λo v z=>by cases z; rw [d]; intro z; cases z)]; exact q
theorem Env0.cut (e0:Env0 P w K mg base A outer s H) (L:Lent cs H):Env0 P w K mg base A outer s (L2.cut cs H) :=
 ⟨e0.frames,e0.mod,λb o e=>⟨(e0.bs b o e).1,by
  by_cases z:b∈cs
  ·exact fG z
  ·rw [cH z]; exact (e0.bs b o e).2⟩,e0.bsz,e0.funs,λb hb=>by
  by_cases z:b∈cs
  ·exact fG z
  ·rw [cH z]; exact e0.frf b hb,e0.hok.cut L,e0.bare⟩
theorem Un.glue (L:Lent cs H) (ok:HOk P w H s.heap) (un:Un (frs outer) [] (L2.cut cs H) H' s.heap h'):Un (frs outer) [] H (L2.glue cs H H') s.heap h' where
 keep:=λb o e n hb hx=>un.keep b o e (rl n) hb hx
 slot:=λb o e n hb hx=>un.slot b o e (rl n) hb hx
 free:=λb o e n hx=>by
  by_cases z:b∈cs
  ·rw [nJ z]; exact n
  ·rw [gA z]; exact un.free b o e (by rw [cH z]; exact n) hx
 there:=λb o e hx=>un.there b o e hx
 tups:=λb xs e=>by
  have z:=L.no e λo v q=>by cases q
  rw [gA z]; exact un.tups b xs (by rw [cH z]; exact e)
 frzs:=λb o u e=>by
  by_cases z:b∈cs
  ·rw [nJ z]; exact e
  ·rw [gA z]; exact un.frzs b o u (by rw [cH z]; exact e)
 tbls:=λb ps e=>by
  have z:=L.no e λo v q=>by cases q
  rw [gA z]; exact un.tbls b ps (by rw [cH z]; exact e)
theorem HOk.glue (L:Lent cs H) (e0:Env0 P w K mg base A outer s H) (un:Un (frs outer) [] (L2.cut cs H) H' s.heap h') (ok':HOk P w H' h'):HOk P w (L2.glue cs H H') h':=λb u e=>by
 have nC:∀ c∈cs,H' c=none:=λc hc=>by
  obtain ⟨o,v,e1,_⟩:=L c hc
  exact un.free c o (e0.hok c _ e1).1 (fG hc) (by simp)
 have up:∀ c u',H' c=some u'->c ∉ cs:=λc u' q z=>by rw [nC c z] at q; cases q
 by_cases hb:b∈cs
 ·rw [nJ hb] at e
  obtain ⟨o,v,e1,_⟩:=L b hb
  rw [e] at e1
  cases e1
  have g:=un.keep b o (e0.hok b _ e).1 (fG hb) (λz=>by have:=e0.frf b z; rw [e] at this; cases this) (by simp)
  exact ⟨g,o,g⟩
 ·rw [gA hb] at e
  exact (ok' b u e).stay (λ_ _ _ q=>q) (λc q=>by rw [gA (up c _ q)]; exact q) (λc xs q=>by rw [gA (up c _ q)]; exact q) λc ob u' vs q _=>by rw [gA (up c _ q)]; exact q
theorem CE.glue {Q:VK} {u:Value} (L:Lent cs H) (e0:Env0 P w K mg base A outer s H) (h:CE outer P w (L2.cut cs H) s (λv H'=>Q v (L2.glue cs H H')) u s'):CE outer P w H s Q u s':=by
 obtain ⟨v,H',os,bare,un,ok',r,q⟩:=h
 exact ⟨v,_,os,bare,un.glue L e0.hok,HOk.glue L e0 un ok',r,q⟩
end
section
variable {P:Program} {w:World} {K:PySem.W.Frag} {mg:Str->Option Value} {base:Heap}
end
section
variable {X:Cx} {pins:List (Addr×Obj)} {σ:St} {H:Hp} {s:Shared}
theorem ZiT {A:Around} {E:Value->Shared->Prop} {i:Nat} {x:Str} {v:V} {pos:Pos} {Q:Value->Shared->Prop} (I:Inv X pins σ H s) (hN:X.N[i]?=some x) (hv:jL X.env.scope x) (e:σ[i]?=some (some v)) (h:∀ u,RelV v u->Q u s)
  (hd:(x == ("__debug__":Str))=false:=by decide) (hcd:(x == ("__classdict__":Str))=false:=by decide):wpAny (model X.prog X.w) A (eval (.Name x pos) X.env) Q E s:=by
 obtain ⟨m,hn,hl⟩:=I.loc
 obtain ⟨u,r,l⟩:=hl i x v hN e hv
 rcases l with ⟨hk,hm⟩ | ⟨hk,c,hc,hcell⟩
 ·exact wpAny_Name (wpAny_loadName_local I.ok.kind hk hn hm (h u r)) hd
 ·rcases hk with hk | hk
  ·exact wpAny_Name (wpAny_loadName_cell I.ok.kind hk hc hcell (h u r)) hd
  ·exact wpAny_Name (wpAny_loadName_free I.ok.kind hk hc hcell (h u r) hcd) hd
end
open Classical in
noncomputable def lend (cs:List Addr) (h:Heap) (H:Hp):Hp:=λb=>if b∈cs then (h.get? b).map λo=>HO.frz o (.own 0) else H b
theorem qA {cs:List Addr} {h:Heap} {H:Hp} {b:Addr} (z:b∈cs):lend cs h H b=(h.get? b).map λo=>HO.frz o (.own 0):=if_pos z
theorem fA {cs:List Addr} {h:Heap} {H:Hp} {b:Addr} (z:b ∉ cs):lend cs h H b=H b:=if_neg z
noncomputable def cj (env:Env):List Addr:=env.cells.filterMap λp=>env.cells.lookup p.1
theorem iu {env:Env} {c:Addr} (h:c∈cj env):∃ x,env.cells.lookup x=some c:=by
 obtain ⟨p,_,e⟩:=List.mem_filterMap.mp h
 exact ⟨p.1,e⟩
theorem qN {env:Env} {x:Str} {c:Addr} (h:env.cells.lookup x=some c):c∈cj env:=List.mem_filterMap.mpr ⟨(x,c),PySem.mem_of_lookup h,h⟩
section
variable {X:Cx} {pins:List (Addr×Obj)} {σ:St} {H:Hp} {s:Shared}
theorem Inv.lent (I:Inv X pins σ H s):Lent (cj X.env) (lend (cj X.env) s.heap H):=λc hc=>by
 obtain ⟨x,e⟩:=iu hc
 obtain ⟨v,o,e1,e2⟩:=I.cell x c e
 exact ⟨o,v,by rw [qA hc,e1]; rfl,e2⟩
theorem Inv.lend_cut (I:Inv X pins σ H s):cut (cj X.env) (lend (cj X.env) s.heap H)=H:=funext λb=>by
 by_cases z:b∈cj X.env
 ·rw [fG z]
  obtain ⟨x,e⟩:=iu z
  exact (I.freeC x b e).symm
 ·rw [cH z,fA z]
theorem Inv.lend0 (I:Inv X pins σ H s) (hfn:∀ x,X.fn x=true):Env0 X.prog X.w X.K X.mg X.base X.A X.stack s (lend (cj X.env) s.heap H):=by
 have e0:=I.env0
 have big:∀ c∈cj X.env,X.s₀.heap.objs.size<=c:=λc hc=>by
  obtain ⟨x,e⟩:=iu hc
  exact I.ok.cab x c (hfn x) e
 have none':∀ b u,H b=some u->b ∉ cj X.env:=λb u e z=>by
  obtain ⟨x,q⟩:=iu z
  rw [I.freeC x b q] at e
  cases e
 refine ⟨e0.frames,e0.mod,λb o e=>⟨(e0.bs b o e).1,?_⟩,e0.bsz,e0.funs,λb hb=>?_,λb u e=>?_,e0.bare⟩
 ·rw [fA λz=>absurd (Nat.lt_of_lt_of_le (Heap.lt_size e) (Nat.le_trans I.ok.bsz (big b z))) (Nat.lt_irrefl _)]
  exact (e0.bs b o e).2
 ·have hz:b ∉ cj X.env:=λz=>by
   rcases List.mem_cons.mp (I.stkSub b hb) with q | q
   ·obtain ⟨x,e⟩:=iu z
    exact I.cne x b e q
   ·obtain ⟨_,o,ho,_⟩:=I.ok.funs.mem q
    exact absurd (Nat.lt_of_lt_of_le (Heap.lt_size ho) (big b z)) (Nat.lt_irrefl _)
  rw [fA hz]
  exact e0.frf b hb
 ·by_cases z:b∈cj X.env
  ·rw [qA z] at e
   cases g:s.heap.get? b with
   | none=>rw [g] at e; cases e
   | some o =>
    rw [g] at e
    cases e
    exact ⟨g,o,g⟩
  ·rw [fA z] at e
   exact (I.hok b u e).stay (λ_ _ _ q=>q) (λc q=>by rw [fA (none' c _ q)]; exact q) (λc xs q=>by rw [fA (none' c _ q)]; exact q) λc ob u' vs q _=>by rw [fA (none' c _ q)]; exact q
end
noncomputable def hI:List Nat->List Sl->Option (List PyData)
 | [],_=>some []
 | j::ix,ρ=>match ρ[j]? with
  | some (.d x)=>(hI ix ρ).map (x::·)
  | _=>none
theorem ZeH {PK:Pk} {pa:Addr} {G₀ H₀ G H:Hp} {m:Nat} {σ:St} {ρ:List Sl} (R:Rl PK pa G₀ H₀ m σ ρ G H):∀ {ix:List Nat} {xs:List PyData},hI ix ρ=some xs->∃ vs,DnAll G vs xs/\vs.length=ix.length/\∀ (i j:Nat),ix[i]?=some j->∃ v,vs[i]?=some v/\σ[j]?=some (some v)
 | [],xs,h=>by
  cases h
  exact ⟨[],.nil,rfl,λi j e=>by simp at e⟩
 | j::ix,xs,h=>by
  rw [hI] at h
  split at h
  ·rename_i x hx
   cases e:hI ix ρ with
   | none=>rw [e] at h; cases h
   | some ys =>
    rw [e] at h
    cases h
    obtain ⟨vs,d,hl,k⟩:=ZeH R e
    obtain ⟨o,ho,so⟩:=R.sl j _ hx
    cases so with
    | @d v _ dv =>
     refine ⟨v::vs,.cons dv d,by rw [List.length_cons,List.length_cons,hl],λi j' hi=>?_⟩
     cases i with
     | zero =>
      simp at hi
      subst hi
      exact ⟨v,rfl,ho⟩
     | succ i =>
      obtain ⟨u,h1,h2⟩:=k i j' (by simpa using hi)
      exact ⟨u,by simpa using h1,h2⟩
  ·cases h
theorem rH {pa:Addr} {G:Hp}:∀ {vs:List V} {xs:List PyData},DnAll G vs xs->ArsOk pa G vs (xs.map Sl.d)
 | _,_,.nil=>.nil
 | _,_,.cons h t=>.cons (.d h) (rH t)
structure LamScP (ps NF:List Str) (sc:Scope):Prop where
 kind:sc.kind=.function
 co:sc.isCoroutine=false
 gen:sc.isGenerator=false
 nd:(ps++NF).Nodup
 nc:∀ y∈sc.names,y.2≠.cell
 par:∀ x∈ps,sc.names.lookup x=some .local
 fr:∀ x,sc.names.lookup x=some .free->x∈NF
 all:∀ x∈NF,sc.names.lookup x=some .free
theorem Zaa:∀ {ps:List Str} {us:List Value} {i:Nat} {x:Str} {u:Value},ps.Nodup->ps[i]?=some x->us[i]?=some u->(ps.zip us).reverse.lookup x=some u
 | [],_,_,_,_,_,h,_=>by simp at h
 | _::_,[],_,_,_,_,_,h=>by simp at h
 | p::ps,w::us,i,x,u,nd,h1,h2=>by
  rw [List.nodup_cons] at nd
  rw [List.zip_cons_cons,List.reverse_cons,List.lookup_append]
  cases i with
  | zero =>
   simp at h1 h2
   subst h1
   subst h2
   have:(ps.zip us).reverse.lookup p=none:=by
    rw [List.lookup_eq_none_iff]
    intro y hy
    rw [List.mem_reverse] at hy
    have hm:=(List.of_mem_zip (a:=y.1) (b:=y.2) hy).1
    have:p≠y.1:=λe=>nd.1 (e ▸ hm)
    simpa using this
   rw [this]
   simp
  | succ i =>
   rw [Zaa (i:=i) nd.2 (by simpa using h1) (by simpa using h2)]
   rfl
section
variable {CX:eJ} {P:Program} {w:World} {K:PySem.W.Frag} {mg:Str->Option Value} {base:Heap} {ps NF:List Str} {scope:Scope} {cl:List (Str×Addr)} {q:Str} {f:Addr} {cd:Value} {A:Around} {outer:List Env} {s:Shared} {H:Hp} {E:XK} {σ:St} {vs:List V} {us:List Value}
theorem Zji {h':Heap} {tk:Nat} (S:LamScP ps NF scope) (hd:A.handled=none) (e0:Env0 P w K mg base A outer s H) (c:CelOk NF cl σ H s.heap) (r:Vals vs us) (hl:vs.length=ps.length)
  (hn:h'.Ns s.heap.objs.size (λx=>(ps.zip us).reverse.lookup x)) (hs:Heap.SameBut s.heap.objs.size (s.heap.push { cls:=.type "frame",data:=.dict #[] }) h') :
  Inv (k7 CX P w K mg base (ps++NF) scope cl q f cd A outer s H E) [] (vs.map some++σ) H { s with heap:=h',toks:=tk }:=by
 have kp:∀ b u,s.heap.get? b=some u->h'.get? b=some u:=λb u e=>hs.extBut b u (Nat.ne_of_lt (Heap.lt_size e)) (Heap.get?_push_of_some _ e)
 have noA:∀ b:Addr,b ∉ (k7 CX P w K mg base (ps++NF) scope cl q f cd A outer s H E).ex:=λb z=>absurd (show b∈([]:List Addr) from z) (by simp)
 have cellK:∀ {c':Addr} {v:Option Value},s.heap.IsCell c' v->h'.IsCell c' v:=λ{c' v} hz=>by
  obtain ⟨o,ho,hd⟩:=hz
  exact ⟨o,kp _ _ ho,hd⟩
 refine ⟨⟨e0.mod,S.kind,rfl,rfl,Nat.le_refl _,c.inj,λx hx=>?_,λx c' z=>(nomatch z),λ_=>hd,Around.frames_deeper e0.frames,.inr ⟨rfl,rfl⟩,λb z=>absurd z (noA b),e0.bs,e0.bsz,λb _ _=>noA b,λb z=>absurd z (noA b),e0.funs,e0.frf⟩,
  rfl,e0.bare,Un.kept kp,⟨_,hn,λi x v h1 h2 h3=>?_⟩,λx c' h=>?_,e0.hok.fresh (Nat.le_refl _),λx c' h=>(c.is x c' h).2,λp hp=>absurd (show p∈([]:List (Addr×Obj)) from hp) (by simp),e0.hok.kept kp,?_⟩
 ·have hx:scope.names.lookup x=some .cell\/scope.names.lookup x=some .free:=hx
  rcases hx with z | z
  ·exact absurd rfl (S.nc _ (PySem.mem_of_lookup z))
  ·obtain ⟨i,hi⟩:=List.mem_iff_getElem?.mp (S.fr x z)
   obtain ⟨c',e,_⟩:=c.at' i x hi
   exact ⟨c',e⟩
 ·have h1:(ps++NF)[i]?=some x:=h1
  by_cases hi:i < ps.length
  ·rw [List.getElem?_append_left hi] at h1
   rw [List.getElem?_append_left (by rw [List.length_map,hl]; exact hi),List.getElem?_map] at h2
   cases e:vs[i]? with
   | none=>rw [e] at h2; cases h2
   | some a =>
    rw [e] at h2
    cases h2
    obtain ⟨u,hu,rv⟩:=r.get e
    have hp:=S.par x (List.mem_of_getElem? h1)
    exact ⟨u,rv,.inl ⟨hp,Zaa (S.nd.sublist (List.sublist_append_left _ _)) h1 hu⟩⟩
  ·rw [List.getElem?_append_right (by omega)] at h1
   rw [List.getElem?_append_right (by rw [List.length_map,hl]; omega),List.length_map,hl] at h2
   obtain ⟨c',e,k⟩:=c.at' _ x h1
   obtain ⟨u,r,z⟩:=k v h2
   exact ⟨u,r,.inr ⟨.inr (S.all x (List.mem_of_getElem? h1)),c',e,cellK z⟩⟩
 ·obtain ⟨⟨v,z⟩,_⟩:=c.is x c' h
  exact ⟨v,cellK z⟩
 ·show (vs.map some++σ).length=(ps++NF).length
  rw [List.length_append,List.length_append,List.length_map,hl,c.len]
structure LamFdP (fd:FuncData) (ps:List Str) (e:Expr) (scope:Scope) (cl:List (Str×Addr)) (cd:Value):Prop where
 body:fd.body=.expr e
 sc:fd.scope=scope
 cl:fd.closure=cl
 cd:fd.code=cd
 gl:fd.globals=mainGlobals
 bl:fd.builtins=builtinsNs
 bi:∀ us:List Value,us.length=ps.length->bindArgs fd ⟨us,[]⟩=pure (ps.zip us)
theorem ZiY {k:Nat} {o oc:Obj} {fd:FuncData} {e:Expr} {c:Addr} {as:Array Value} {qn:Str} {t:Tok} {te:TE} {Q:VK} (hr:Room (k+1) A) (e0:Env0 P w K mg base A outer s H) (S:LamScP ps NF scope) (hf:s.heap.get? f=some o) (df:o.data=.func fd) (F:LamFdP fd ps e scope cl (.ref c))
  (gc:s.heap.get? c=some oc) (dc:oc.data=.fields as) (hq:as[1]?=some (.str qn t)) (C:CelOk NF cl σ H s.heap) (r:Vals vs us) (hl:vs.length=ps.length)
  (he:PE (k7 CX P w K mg base (ps++NF) scope cl (qn++".<locals>.") f (.ref c) A outer s H E) e te) (ht:te (vs.map some++σ) H Q):codeAny (model P w) A (.call (.ref f) ⟨us,[]⟩) (CR CX outer P w H s Q E) s:=by
 have lim:s.heap.NoLimit:=e0.mod.nolimit.keeps λb o e=>(e0.bs b o e).1
 refine Znn hr.depth hf df (by rw [F.sc]; exact S.co) (by rw [F.sc]; exact S.gen) F.body F.cd gc dc hq ?_
 rw [F.bi us (by rw [<- r.length,hl]),F.sc,F.gl,F.cl,F.bl]
 refine wpAny_pure (wpAny_newFunctionEnv S.nc (λx hx=>S.par x.1 (List.of_mem_zip (a:=x.1) (b:=x.2) hx).1) (λh' hn hs=>?_) S.kind)
 have kp:∀ b u,s.heap.get? b=some u->h'.get? b=some u:=λb u e=>hs.extBut b u (Nat.ne_of_lt (Heap.lt_size e)) (Heap.get?_push_of_some _ e)
 refine ⟨lim.keeps kp,Znc ?_⟩
 refine wpAny_mono (he [] _ _ H Q (Zji S hr.hd e0 C r hl hn hs) ht) (λu z hz=>?_) λx z hz=>hz
 obtain ⟨v,H',J,r,hQ⟩:=hz
 exact ⟨v,H',J.os,J.bare,J.base,J.hok,r,hQ⟩
end
noncomputable def gZ (as:List Arg):Arguments:=⟨[],as,none,[],[],none,[]⟩
noncomputable def ZaF (cells:List (Str×Addr)) (P:Addr) (ps:List Str) (e:Expr) (scope:Scope):TE:=λσ H Q=>(∃ ps,H P=some (.cod ps))/\∀ (f c:Addr) (cl:List (Str×Addr)) (fo oc:Obj) (fd:FuncData) (vs:Array Value) (q:Str) (t:Tok) (H1:Hp),
 LamFdP fd ps e scope cl (.ref c)->fo.data=.func fd->(∀ x c,cl.lookup x=some c->cells.lookup x=some c)->(∀ y∈scope.names,y.2=.free->∃ c,cl.lookup y.1=some c)->H1 c=some (.frz oc (.own 0))->oc.data=.fields vs->vs[1]?=some (.str q t) ->
 (H1=H\/(H c=none/\H1=upd H c (.frz oc (.own 0))))->H1 f=none->Q (.ref f) (upd H1 f (.frz fo (.own 0)))
noncomputable def ZoL (as:List Arg) (ps:List Str):Prop:=∀ fd:FuncData,fd.params=gZ as->fd.defaults=.none->fd.kwdefaults=.none->∀ us:List Value,us.length=ps.length->bindArgs fd ⟨us,[]⟩=pure (ps.zip us)
section
variable {X:Cx}
theorem Zcs {c0 P:Addr} {as:List Arg} {pn:List Str} {e:Expr} {scope:Scope} {pos:Pos} (ck:CodK X.K c0 P) (bk:BltK X.base X.mg) (hc0:X.env.code=.ref c0) (hbi:ZoL as pn) (hfr:∀ y∈scope.names,y.2=.free->X.env.kindOf y.1=some .cell\/X.env.kindOf y.1=some .free) :
  PE X (.Lambda (gZ as) e scope pos) (ZaF X.env.cells P pn e scope):=by
 intro pins s σ H Q I h
 obtain ⟨⟨ps,hP⟩,hQ⟩:=h
 obtain ⟨cl,hcl,cl1,cl2⟩:=jB (scope:=scope) (env:=X.env) λy hy hf=>I.ok.has y.1 (hfr y hy hf)
 obtain ⟨bm,bo,hbm,bne,bK,b1,b2,b3⟩:=bk.ex
 obtain ⟨mn,hg⟩:∃ mg,s.heap.Ns X.env.globals mg/\mg=X.mg:=⟨X.mg,by rw [I.ok.glob]; exact I.mod.glob.keeps I.bk,rfl⟩
 obtain ⟨hg,rfl⟩:=hg
 rw [arm_eval_Lambda]
 show wpAny _ X.A (do let dv <- evalAll []; let kdv <- holding dv (evalAllOpt []); makeFunction "<lambda>" (X.env.qual++"<lambda>") (gZ as) (.expr e) scope X.env dv kdv [] pos pos.line) _ _ s
 refine wpAny_bind (wpAny_pure (wpAny_bind (wpAny_holding (wpAny_pure ?_))))
 simp only [makeFunction,gZ,List.zip_nil_right,List.filterMap_nil,List.isEmpty_nil,if_true,pure_bind,hcl]
 -- the closure's tuple
 have go:∀ (ct:Value) (h1:Heap),(∀ b o,s.heap.get? b=some o->h1.get? b=some o)->s.heap.objs.size<=h1.objs.size->wpAny (model X.prog X.w) X.A (do
   let cd <- functionCode X.env pos pos.line "<lambda>" (X.env.qual++"<lambda>") (gZ as) scope (.expr e)
   let bl <- builtinsFor X.env.globals X.env.builtins
   let nm <- nsGet X.env.globals "__name__"
   newObj (.type "function") (.func { name:="<lambda>",qualname:=X.env.qual++"<lambda>",params:=gZ as,body:=.expr e,scope:=scope,globals:=X.env.globals,closure:=cl,closureTuple:=ct,code:=cd,builtins:=bl,defaults:=.none,kwdefaults:=.none,annotations:=none,pyModule:=nm.getD .none,doc:=.none })) (EP X pins σ Q) X.xe { s with heap:=h1 }:=by
  intro ct h1 kp1 hz1
  have I1:Inv X pins σ H { s with heap:=h1 }:=I.kept (t':=s.toks) kp1
  obtain ⟨more,ic,ta,tr,al⟩:=I1.code ck hP
  have fin:∀ (c:Addr) (oc:Obj) (vs:Array Value) (q:Str) (t:Tok) (h2:Heap) (tk:Nat) (more2:Array Value) (H1:Hp),(∀ b o,b≠P->h1.get? b=some o->h2.get? b=some o)->h1.objs.size<=h2.objs.size->h2.get? P=some { cls:=.none,data:=.fields (ps++more2) }->PySem.TriplesOk (ps++more2).toList ->
    H1 c=some (.frz oc (.own 0))->h2.get? c=some oc->oc.data=.fields vs->vs[1]?=some (.str q t)->(H1=H\/(s.heap.objs.size<=c/\H1=upd H c (.frz oc (.own 0)))) ->
    (∀ (po:Pos) (v:Value),codeAmong po (ps++more2).toList=some v->∃ (c:Addr) (ob:Obj) (vs:Array Value) (q:Str) (t:Tok),v=.ref c/\H1 c=some (.frz ob (.own 0))/\ob.data=.fields vs/\vs[1]?=some (.str q t)) ->
    wpAny (model X.prog X.w) X.A (do
     let bl <- builtinsFor X.env.globals X.env.builtins
     let nm <- nsGet X.env.globals "__name__"
     newObj (.type "function") (.func { name:="<lambda>",qualname:=X.env.qual++"<lambda>",params:=gZ as,body:=.expr e,scope:=scope,globals:=X.env.globals,closure:=cl,closureTuple:=ct,code:=.ref c,builtins:=bl,defaults:=.none,kwdefaults:=.none,annotations:=none,pyModule:=nm.getD .none,doc:=.none })) (EP X pins σ Q) X.xe { s with heap:=h2,toks:=tk }:=by
   intro c oc vs q t h2 tk more2 H1 kp2 hz2 tb tr2 hc gc dc hq hH al2
   have gP:∀ b o,X.K.lookup b=some o->b≠P:=λb o e z=>by
    have:=(I.bs b o (I.mod.kin b o e)).2
    rw [z,hP] at this
    cases this
   have hg2:h2.Ns X.env.globals X.mg:=by
    obtain ⟨o,es,ep,e1,e2⟩:=hg
    refine ⟨o,es,ep,kp2 _ o (λz=>?_) (kp1 _ o e1),e2⟩
    obtain ⟨o',_,_,e',_⟩:=I.mod.glob
    have:=(I.bs _ o' e').2
    rw [<- I.ok.glob,z,hP] at this
    cases this
   refine wpAny_bind (wpAny_builtinsFor (s:={ s with heap:=h2,toks:=tk }) hg2 hbm bne (kp2 bm bo (λz=>by have:=(I.bs bm bo bK).2; rw [z,hP] at this; cases this) (kp1 _ _ (I.bs bm bo bK).1)) b1 b2 b3 (wpAny_bind (wpAny_nsGet hg2 ?_)))
   simp only [newObj]
   refine wpAny_bind (wpAny_alloc (wpAny_pure ?_))
   generalize hfd:({ name:="<lambda>",qualname:=X.env.qual++"<lambda>",params:=gZ as,body:=.expr e,scope:=scope,globals:=X.env.globals,closure:=cl,closureTuple:=ct,code:=.ref c,builtins:=builtinsNs,defaults:=.none,kwdefaults:=.none,annotations:=none,pyModule:=(X.mg "__name__").getD .none,doc:=.none }:FuncData)=fd
   have hfo:h2.objs.size < (h2.push { cls:=.type "function",data:=.func fd }).objs.size:=by rw [Heap.size_push]; exact Nat.lt_succ_self _
   have gcl:=Heap.lt_size gc
   obtain ⟨J,nf⟩:=I.lam (P:=P) (f:=h2.objs.size) (c:=c) (ps:=ps) (more:=more2) (h3:=h2.push { cls:=.type "function",data:=.func fd }) (tk:=tk) (fo:={ cls:=.type "function",data:=.func fd }) (oc:=oc) (H1:=H1) hP
    (λb o hb e=>Heap.get?_push_of_some _ (kp2 b o hb (kp1 b o e))) (Nat.le_trans hz1 hz2) (Heap.get?_push_size _ rfl) (Heap.get?_push_of_some _ tb) tr2 hc (Heap.get?_push_of_some _ gc) (by
     rcases hH with z | ⟨z1,z2⟩
     ·exact .inl z
     ·exact .inr ⟨z1,Nat.ne_of_lt gcl,z2⟩) al2
   refine ⟨.ref h2.objs.size,_,J,rfl,hQ _ c cl _ oc fd vs q t H1 ⟨by rw [<- hfd],by rw [<- hfd],by rw [<- hfd],by rw [<- hfd],by rw [<- hfd]; exact I.ok.glob,by rw [<- hfd],hbi fd (by rw [<- hfd]) (by rw [<- hfd]) (by rw [<- hfd])⟩ rfl cl1 cl2 hc dc hq (by
     rcases hH with z | ⟨z1,z2⟩
     ·exact .inl z
     ·exact .inr ⟨I.hok.fresh z1,z2⟩) nf⟩
  cases hit:codeAmong pos (ps++more).toList with
  | some v =>
   obtain ⟨c,ob,vs,q,t,rfl,r2,r3,r4⟩:=al pos v hit
   refine wpAny_bind (wpAny_functionCode_hit hc0 ic hit ?_)
   exact fin c ob vs q t h1 s.toks more H (λb o _ e=>e) (Nat.le_refl _) ta.2 tr r2 (I1.hok c _ r2).1 r3 r4 (.inl rfl) al
  | none =>
   refine wpAny_bind (wpAny_functionCodeX hc0 ic ta hit λc h2 tk hx hge hlt ic2 hrec ta2 _=>?_)
   obtain ⟨c',oc,vs,t,e',gc,dc,hq⟩:=hrec
   cases e'
   have sz:h1.objs.size<=h2.objs.size:=Nat.le_trans hge (Nat.le_of_lt hlt)
   have hge':s.heap.objs.size<=c:=Nat.le_trans hz1 hge
   have tb:h2.get? P=some { cls:=.none,data:=.fields (ps++(more++#[rawInt pos.line,rawInt pos.col,.ref c])) }:=by
    rw [<- Array.append_assoc]
    exact ta2.2
   have tl:(ps++(more++#[rawInt pos.line,rawInt pos.col,.ref c])).toList=(ps++more).toList++[rawInt pos.line,rawInt pos.col,.ref c]:=by
    rw [<- Array.append_assoc]
    simp
   refine fin c oc vs _ t h2 tk (more++#[rawInt pos.line,rawInt pos.col,.ref c]) (upd H c (.frz oc (.own 0))) (λb o hb e=>hx b o hb e) sz tb (by rw [tl]; exact TriplesOk_snoc _ _ _ _ tr) bT gc dc hq (.inr ⟨hge',rfl⟩) λpo v hv=>?_
   rw [tl] at hv
   rcases Zft ⟨_,_,_,_,rfl,rfl⟩ _ tr v hv with z | rfl
   ·obtain ⟨c2,ob,vs2,q2,t2,r1,r2,r3⟩:=al po v z
    exact ⟨c2,ob,vs2,q2,t2,r1,by rw [az (cw r2 (I.hok.fresh hge'))]; exact r2,r3⟩
   ·exact ⟨c,oc,vs,_,t,rfl,bT,dc,hq⟩
 by_cases hce:cl.isEmpty=true
 ·simp only [hce,if_true,pure_bind]
  exact go .none s.heap (λ_ _ e=>e) (Nat.le_refl _)
 ·simp only [hce,if_false]
  refine wpAny_bind (wpAny_newObjAsIs_type ?_)
  exact go _ _ (λb o e=>Heap.get?_push_of_some _ e) (by rw [Heap.size_push]; exact Nat.le_succ _)
end
noncomputable abbrev TL:=(St->V->Hp->Prop)->St->Hp->Prop
noncomputable def PSL (X:Cx) (st:List Stmt) (T:TL):Prop :=
 ∀ (s:Shared) (σ:St) (H:Hp) (D:St->V->Hp->Prop),Inv X [] σ H s->T D σ H->wpAny (model X.prog X.w) X.A (execs st X.env) (λfl s'=>match fl with
  | .ret u=>∃ v σ' H',Inv X [] σ' H' s'/\RelV v u/\D σ' v H'
  | _=>False) X.xe s
section
variable {X:Cx} {st:Stmt} {rest:List Stmt} {t:TS} {T:TL} {e:Expr} {te:TE} {pos:Pos}
noncomputable def oW (te:TE):TL:=λD σ H=>te σ H λv H'=>D σ v H'
theorem Zck (he:PE X e te):PSL X [.Return (some e) pos] (oW te):=by
 intro s σ H D I h
 exact wpAny_execs_cons (wpAny_Return_some (thn (he [] s σ H _ I h) λv s1 ⟨x,H1,I1,r1,q1⟩=>⟨x,σ,H1,I1,r1,q1⟩))
noncomputable def oV (t:TS) (T:TL):TL:=λD σ H=>t { nx:=λσ' H'=>T D σ' H',rt:=λ_ _=>False } σ H
theorem ZhE (h1:PS X st t) (h2:PSL X rest T):PSL X (st::rest) (oV t T):=by
 intro s σ H D I h
 refine wpAny_execs_cons (thn (h1 [] s σ H _ I h) λf s1 q=>?_)
 cases f with
 | next =>
  obtain ⟨σ',H',I',q⟩:=q
  exact h2 s1 σ' H' D I' q
 | ret v =>
  obtain ⟨_,_,_,_,_,q⟩:=q
  exact q.elim
 | brk =>
  obtain ⟨_,_,_,q⟩:=q
  exact q.elim
 | cont =>
  obtain ⟨_,_,_,q⟩:=q
  exact q.elim
end
theorem PSL.nox {X:Cx} {st:List Stmt} {T:TL} (h:PSL X.nox st T):PSL X st T:=λs σ H D I hw =>
 wpAny_mono (h s σ H D (I.wish _) hw) (λfl s' q=>by
  cases fl with
  | ret u =>
   obtain ⟨v,σ',H',J,r,z⟩:=q
   exact ⟨v,σ',H',J.unwish,r,z⟩
  | next=>exact q
  | brk=>exact q
  | cont=>exact q) λ_ _ z=>False.elim z
structure CelsAt (N:List Str) (env:Env) (σ:St) (H₀ H3 H2:Hp):Prop where
 inj:∀ x y c,env.cells.lookup x=some c->env.cells.lookup y=some c->x=y
 lent:Lent (cj env) H2
 cut:cut (cj env) H2=H3
 fresh:∀ c∈cj env,H₀ c=none
 at':∀ (j:Nat) (y:Str) (v:V) (a:Addr),N[j]?=some y->σ[j]?=some (some v)->env.scope.names.lookup y=some .cell->env.cells.lookup y=some a->∃ o u,H2 a=some (.frz o (.own 0))/\o.data=.cell (some u)/\RelV v u
theorem ZjH {P:Program} {w:World} {K:PySem.W.Frag} {mg:Str->Option Value} {base:Heap} {k:Nat} {f:Addr} {name qual:Str} {params:Arguments} {body:List Stmt} {scope:Scope} {dV kV doc pm cdv ct oc:Value} {an od:Option Addr}
  {osl:Array (Option Value)} {N ps:List Str} {sp:Sp} (lk:K.lookup f=some ⟨oc,od,.func (PySem.W.fnOf name qual params body scope dV kV doc pm an cdv ct),osl⟩) (hcd:PySem.W.codeIn K cdv qual=true) (S:FnScope N ps scope)
  (len:∀ vs H Q E,sp vs H Q E->vs.length=ps.length)
  (hbody:∀ (A:Around) (outer:List Env) (s:Shared) (H:Hp) (vs:List V) (Q:VK) (E:XK),Room k (A.deeper (envOfC qual scope s.heap.objs.size f cdv))->sp vs H Q E ->
   ∃ T,PSL (eD cJ P w K mg base N qual scope f cdv A outer s H E) body T/\T (λσ v H3=>∀ H2,CelsAt N (envOfC qual scope s.heap.objs.size f cdv) σ H H3 H2->Q v H2) (start N vs) H) :
  FnOk P w K mg base cJ (k+1) f (PySem.W.fnOf name qual params body scope dV kV doc pm an cdv ct) ps sp:=by
 refine ⟨len,λA outer s H args us vs Q E hr e0 hb r hsp=>?_⟩
 have hl:=len _ _ _ _ hsp
 have KX:K.In s.heap:=e0.mod.kin.keeps λb o e=>(e0.bs b o e).1
 have lim:s.heap.NoLimit:=e0.mod.nolimit.keeps λb o e=>(e0.bs b o e).1
 have hkind:∀ y∈ps.zip us,scope.names.lookup y.1=some .local\/(scope.names.lookup y.1=some .cell/\((cellsFrom (s.heap.objs.size+1) scope.names []).lookup y.1).isSome=true):=λ⟨n,v⟩ hy=>by
  rcases S.par n (List.of_mem_zip hy).1 with q | q
  ·exact .inl q
  ·exact .inr ⟨q,PySem.W.cellsFrom_some _ _ _ (.inl q)⟩
 refine codeAny_call_function hr.depth (KX _ _ lk) rfl S.co S.gen rfl (PySem.W.codeRec_of KX hcd) (hb _ _ _ _ ?_)
 refine wpAny_newFunctionEnv_cells S.kind hkind λenv he s1 x=>?_
 subst he
 refine ⟨lim.keeps x.toInCall.keep,codeAny_func ?_⟩
 obtain ⟨T,ht,hq⟩:=hbody A outer s H vs Q E (hr.deeper _) hsp
 have I:Inv (eD cJ P w K mg base N qual scope f cdv A outer s H E) [] (start N vs) H s1:=Zdm S hr.hd e0 hl r x
 refine wpAny_mono (ht s1 (start N vs) H _ I hq) (λfl s' hs=>?_) λe s' hs=>hs
 cases fl with
 | next=>exact False.elim hs
 | brk=>exact False.elim hs
 | cont=>exact False.elim hs
 | ret u =>
  obtain ⟨v,σ',H',J,rv,q⟩:=hs
  have e1:=J.lend0 λ_=>rfl
  have big:∀ c∈cj (envOfC qual scope s.heap.objs.size f cdv),s.heap.objs.size<=c:=λc hc=>by
   obtain ⟨y,hy⟩:=iu hc
   exact J.ok.cab y c rfl hy
  have none':∀ b u,H' b=some u->b ∉ cj (envOfC qual scope s.heap.objs.size f cdv):=λb u e z=>by
   obtain ⟨y,hy⟩:=iu z
   have:=J.freeC y b hy
   rw [e] at this
   cases this
  have old:∀ b o,s.heap.get? b=some o->b ∉ cj (envOfC qual scope s.heap.objs.size f cdv):=λb o e z=>absurd (Nat.lt_of_lt_of_le (Heap.lt_size e) (big b z)) (Nat.lt_irrefl _)
  have un:Un (frs outer) [] H H' s.heap s'.heap:=J.base
  refine ⟨v,lend (cj (envOfC qual scope s.heap.objs.size f cdv)) s'.heap H',J.os,J.bare,⟨un.keep,un.slot,λb o e n hx=>?_,un.there,λb xs e=>?_,λb o u e=>?_,λb ps e=>?_⟩,e1.hok,rv,q _ ⟨J.ok.inj,J.lent,J.lend_cut,λc hc=>e0.hok.fresh (big c hc),λj y v' a h1 h2 h3 h4=>?_⟩⟩
  ·rw [fA (old b o e)]
   exact un.free b o e n hx
  ·have:=un.tups b xs e
   rw [fA (none' b _ this)]
   exact this
  ·have:=un.frzs b o u e
   rw [fA (none' b _ this)]
   exact this
  ·obtain ⟨more,this⟩:=un.tbls b ps e
   rw [fA (none' b _ this)]
   exact ⟨more,this⟩
  ·obtain ⟨m,hn,hl⟩:=J.loc
   obtain ⟨u',ru,l⟩:=hl j y v' h1 h2 (.inr (.inl h3))
   rcases l with ⟨z,_⟩ | ⟨_,a',z,⟨o,g1,g2⟩⟩
   ·have z:scope.names.lookup y=some .local:=z
    have h3:scope.names.lookup y=some .cell:=h3
    rw [h3] at z
    cases z
   ·have h4':(eD cJ P w K mg base N qual scope f cdv A outer s H E).env.cells.lookup y=some a:=h4
    rw [h4'] at z
    cases z
    exact ⟨o,u',by rw [qA (qN h4),g1]; rfl,g2,ru⟩
noncomputable def ot (o0:HO):Pk where
 is o _ _:=o=o0
 mono:=λ_ h=>h
mutual
theorem Dn.cutC {cs:List Addr} {G:Hp} (L:Lent cs G):∀ {v:V} {d:PyData},Dn G v d->Dn (L2.cut cs G) v d
 | _,_,.non=>.non
 | _,_,.bl b=>.bl b
 | _,_,.int i=>.int i
 | _,_,.str x=>.str x
 | _,_,.tup h r=>.tup (by rw [cH (L.no h λo v z=>by cases z)]; exact h) (DnAll.cutC L r)
 | _,_,.lst h r=>.lst (by rw [cH (L.no h λo v z=>by cases z)]; exact h) (DnAll.cutC L r)
 | _,_,.dct h r=>.dct (h.imp (λh=>by rw [cH (L.no h λo v z=>by cases z)]; exact h) λ⟨o,h⟩=>⟨o,by rw [cH (L.no h λo v z=>by cases z)]; exact h⟩) (DnAll.cutC L r)
theorem DnAll.cutC {cs:List Addr} {G:Hp} (L:Lent cs G):∀ {vs:List V} {ds:List PyData},DnAll G vs ds->DnAll (L2.cut cs G) vs ds
 | _,_,.nil=>.nil
 | _,_,.cons r t=>.cons (Dn.cutC L r) (DnAll.cutC L t)
end
noncomputable def rZ (P:Program) (w:World) (K:PySem.W.Frag) (mg:Str->Option Value) (base:Heap) (kk:Nat) (o:HO) (G:Hp) (F:List PyData->Option Int):Prop :=
 (∃ (oc:Value) (od:Option Addr) (fd:FuncData) (osl:Array (Option Value)),o=.frz ⟨oc,od,.func fd,osl⟩ (.own 0)) /\
 ∀ (f:Addr) (A:Around) (outer:List Env) (s:Shared) (H G':Hp) (vs:List V) (us:List Value) (xs:List PyData) (n:Int),Room kk A->Env0 P w K mg base A outer s H->Sub G G'->Sub G' H->G' f=none->H f=some o->Vals vs us->DnAll G' vs xs->F xs=some n ->
  codeAny (model P w) A (.call (.ref f) ⟨us,[]⟩) (CR cJ outer P w H s (λv H'=>v=.int n/\∀ b u,H b=some u->H' b=some u) E0) s
noncomputable def eK (n:Nat) (t:List Sl->Tr PyData) (caps:List PyData):List PyData->Option Int:=λxs=>if xs.length=n then
 match t ((xs++caps).map Sl.d) with
 | .ret (.int n)=>some n
 | _=>none
 else none
section
variable {P:Program} {w:World} {K:PySem.W.Frag} {mg:Str->Option Value} {base:Heap}
theorem ZfM {ps NF:List Str} {scope:Scope} {cl:List (Str×Addr)} {cs:List Addr} {c:Addr} {oc:Obj} {e:Expr} {fd:FuncData} {fc:Value} {fdd:Option Addr} {osl:Array (Option Value)} {as:Array Value} {q:Str} {tk:Tok} {kk:Nat} {t:List Sl->Tr PyData} {caps:List PyData} {cv:List V} {G:Hp}
  (S:LamScP ps NF scope) (F:LamFdP fd ps e scope cl (.ref c)) (dc:oc.data=.fields as) (hq:as[1]?=some (.str q tk)) (inj:∀ x y a,cl.lookup x=some a->cl.lookup y=some a->x=y)
  (gc:G c=some (.frz oc (.own 0))) (L:Lent cs G) (hcs:∀ x a,cl.lookup x=some a->a∈cs) (hcl:cv.length=NF.length)
  (cap:∀ (i:Nat) (x:Str),NF[i]?=some x->∃ a o,cl.lookup x=some a/\G a=some (.frz o (.own 0))/\∀ v,cv[i]?=some v->∃ u,RelV v u/\o.data=.cell (some u)) (hd:DnAll G cv caps)
  (he:∀ (f:Addr) (A:Around) (outer:List Env) (s:Shared) (H:Hp) (E:XK),Room kk (A.deeper (iA scope cl (q++".<locals>.") s.heap.objs.size f (.ref c)))->PE (k7 cJ P w K mg base (ps++NF) scope cl (q++".<locals>.") f (.ref c) A outer s H E).nox e (TAe (ot (.frz ⟨fc,fdd,.func fd,osl⟩ (.own 0))) t)) :
  rZ P w K mg base (kk+1) (.frz ⟨fc,fdd,.func fd,osl⟩ (.own 0)) G (eK ps.length t caps):=by
 refine ⟨⟨_,_,_,_,rfl⟩,λf A outer s H G' vs us xs n hr e0 sG sH gf hf r hv hn=>?_⟩
 have LG:Lent cs G':=λa ha=>by
  obtain ⟨o,v,e1,e2⟩:=L a ha
  exact ⟨o,v,sG _ _ e1,e2⟩
 have LH:Lent cs H:=λa ha=>by
  obtain ⟨o,v,e1,e2⟩:=LG a ha
  exact ⟨o,v,sH _ _ e1,e2⟩
 have cel:∀ {a:Addr} {o:Obj},H a=some (.frz o (.own 0))->s.heap.get? a=some o:=λz=>(e0.hok _ _ z).1
 have fcs:f ∉ cs:=LH.no hf λo v z=>by cases z; intro z; cases z
 have hl:vs.length=ps.length/\t ((xs++caps).map Sl.d)=.ret (.int n):=by
  unfold eK at hn
  split at hn
  ·rename_i h1
   split at hn
   ·rename_i n' h2
    cases hn
    exact ⟨by rw [hv.length]; exact h1,h2⟩
   ·cases hn
  ·cases hn
 have C:CelOk NF cl (cv.map some) (cut cs H) s.heap:=by
  refine ⟨inj,λx a z=>?_,λi x hx=>?_,by rw [List.length_map,hcl]⟩
  ·obtain ⟨o,v,e1,e2⟩:=LH a (hcs x a z)
   exact ⟨⟨v,o,cel e1,e2⟩,fG (hcs x a z)⟩
  ·obtain ⟨a,o,e1,e2,e3⟩:=cap i x hx
   refine ⟨a,e1,λv hv=>?_⟩
   rw [List.getElem?_map] at hv
   cases ev:cv[i]? with
   | none=>rw [ev] at hv; cases hv
   | some v' =>
    rw [ev] at hv
    cases hv
    obtain ⟨u,r,d⟩:=e3 v ev
    exact ⟨u,r,o,cel (sH _ _ (sG _ _ e2)),d⟩
 have nC:∀ {H':Hp} {h':Heap},Un (frs outer) [] (cut cs H) H' s.heap h'->∀ b∈cs,H' b=none:=λ{H' h'} un b hb=>by
  obtain ⟨o,v,e1,_⟩:=LH b hb
  exact un.free b o (cel e1) (fG hb) (by simp)
 have subC:Sub (cut cs G') (cut cs H):=λb o h=>by
  have hb:b ∉ cs:=λz=>by rw [fG z] at h; cases h
  rw [cH hb] at h ⊢
  exact sH b o h
 have wd:Wd (ot (.frz ⟨fc,fdd,.func fd,osl⟩ (.own 0))) f 0 (cut cs G') (cut cs H):=⟨subC,rl gf,_,by rw [cH fcs]; exact hf,rfl⟩
 have ar:ArsOk f (cut cs G') (vs++cv) ((xs++caps).map Sl.d):=rH (DnAll.cutC LG (hv.append (hd.mono sG)))
 have R:=Rl.start (N:=ps++NF) (k:=0) wd ar (by rw [List.length_append,List.length_append,hl.1,hcl,Nat.sub_self])
 have stt:L2.start (ps++NF) (vs++cv)=vs.map some++cv.map some:=by
  unfold L2.start
  rw [List.length_append,List.length_append,hl.1,hcl,Nat.sub_self]
  simp
 rw [stt] at R
 have e00:(xs++caps).map Sl.d++List.replicate 0 Sl.un=(xs++caps).map Sl.d:=by simp
 rw [e00] at R
 have run:=ZiY (CX:=cJ) (E:=E0) (Q:=λv H'=>v=.int n/\∀ b u,cut cs H b=some u->H' b=some u) hr (e0.cut LH) S (cel hf) rfl F (cel (sH _ _ (sG _ _ gc))) dc hq C r hl.1 (he f A outer s (cut cs H) _ (hr.deeper _)).nox ⟨f,_,_,_,_,_,R,by
  rw [hl.2]
  intro v G1 H1 s1 w1 d1
  cases d1
  refine ⟨rfl,λb u hb=>?_⟩
  by_cases z:b=f
  ·subst z
   obtain ⟨o1,h1,h2⟩:=w1.pen
   have h2:o1=.frz ⟨fc,fdd,.func fd,osl⟩ (.own 0):=h2
   subst h2
   rw [cH fcs,hf] at hb
   rw [h1]
   exact hb
  ·exact s1.hk b u hb z⟩
 refine codeAny_mono run λrr s' hz=>?_
 cases rr with
 | error x=>exact hz
 | ok fl =>
  cases fl with
  | next=>exact hz
  | brk=>exact hz
  | cont=>exact hz
  | ret u =>
   obtain ⟨v,H',os,bare,un,ok',r,rfl,q⟩:=hz
   refine CE.glue LH e0 ⟨.int n,H',os,bare,un,ok',r,rfl,λb u hb=>?_⟩
   by_cases z:b∈cs
   ·rw [nJ z]; exact hb
   ·rw [gA z]
    exact q b u (by rw [cH z]; exact hb)
end
structure DefK (K:PySem.W.Frag) (mg:Str->Option Value) (x:Str) (st:Stmt) (ps:List Str) (c0 Pt:Addr):Prop where
 ex:∃ (fa:Addr) (oc:Value) (od:Option Addr) (kV doc pm:Value) (an:Option Addr) (ct:Value) (osl:Array (Option Value)),mg x=some (.ref fa)/\K.lookup fa=some ⟨oc,od,.func (PySem.W.fnOf x x (eZ st) (db st) (ap st) .none kV doc pm an (.ref c0) ct),osl⟩ /\
  PySem.W.keepIn K (.ref fa)=true/\Binds K (PySem.W.fnOf x x (eZ st) (db st) (ap st) .none kV doc pm an (.ref c0) ct) ps []
 cd:PySem.W.codeIn K (.ref c0) x=true
 ck:CodK K c0 Pt
structure LamDP (Nx:List Str) (sc scope:Scope) (pl NF:List Str) (ix:List Nat):Prop where
 kind:scope.kind=.function
 co:scope.isCoroutine=false
 gen:scope.isGenerator=false
 nd:(pl++NF).Nodup
 nc:∀ y∈scope.names,y.2≠.cell
 par:∀ x∈pl,scope.names.lookup x=some .local
 fr:∀ y∈scope.names,y.2=.free->y.1∈NF
 all:∀ x∈NF,scope.names.lookup x=some .free/\sc.names.lookup x=some .cell
 nl:ix.map (λj=>Nx[j]?)=NF.map some
theorem LamDP.sc {Nx:List Str} {sc scope:Scope} {pl NF:List Str} {ix:List Nat} (d:LamDP Nx sc scope pl NF ix):LamScP pl NF scope :=
 ⟨d.kind,d.co,d.gen,d.nd,d.nc,d.par,λx h=>d.fr (x,.free) (PySem.mem_of_lookup h) rfl,λx h=>(d.all x h).1⟩
theorem LamDP.ln {Nx:List Str} {sc scope:Scope} {pl NF:List Str} {ix:List Nat} (d:LamDP Nx sc scope pl NF ix):ix.length=NF.length:=by
 have:=congrArg List.length d.nl
 rwa [List.length_map,List.length_map] at this
theorem LamDP.at' {Nx:List Str} {sc scope:Scope} {pl NF:List Str} {ix:List Nat} (d:LamDP Nx sc scope pl NF ix) (a:Nat) (y:Str) (h:NF[a]?=some y):∃ j,ix[a]?=some j/\Nx[j]?=some y:=by
 have:=congrArg (λl=>l[a]?) d.nl
 simp only [List.getElem?_map,h,Option.map_some] at this
 cases e:ix[a]? with
 | none=>rw [e] at this; cases this
 | some j =>
  rw [e] at this
  exact ⟨j,rfl,Option.some.inj this⟩
theorem LamDP.hfr {Nx:List Str} {sc scope:Scope} {pl NF:List Str} {ix:List Nat} (d:LamDP Nx sc scope pl NF ix):∀ y∈scope.names,y.2=.free->sc.names.lookup y.1=some .cell\/sc.names.lookup y.1=some .free:=λy hy hf=>.inl (d.all y.1 (d.fr y hy hf)).2
noncomputable def jf (n k j:Nat) (s:List Sl->Tr Ou) (ix:List Nat) (t:List Sl->Tr PyData):List Sl->Option (List PyData->Option Int):=λas=>match s (as++List.replicate k .un) with
 | .ret (.next ρ)=>(hI ix (fz j ρ)).map (eK n t)
 | _=>none
noncomputable def jV (P:Program) (w:World) (K:PySem.W.Frag) (mg:Str->Option Value) (base:Heap) (kb:Nat) (PK:Pk) (n:Nat) (mk:List Sl->Option (List PyData->Option Int)):Sp:=λvs H Q _=>vs.length=n/\∃ pa m G as F,Wd PK pa m G H/\ArsOk pa G vs as/\mk as=some F /\
 ∀ f o G2 H2,Stp pa G H G H2->Wd PK pa m G H2->H2 f=some o->Sub G G2->Sub G2 H2->G2 f=none->f≠pa->rZ P w K mg base kb o G2 F->Q (.ref f) H2
section
variable {P:Program} {w:World} {K:PySem.W.Frag} {mg:Str->Option Value} {base:Heap} {PK:Pk}
open Classical in
theorem ZcF {st:Stmt} {x:Str} {N ps pl NF:List Str} {ix:List Nat} {c0 Pt:Addr} {kk kb k j:Nat} {s:List Sl->Tr Ou} {t:List Sl->Tr PyData} {e:Expr} {scope:Scope}
  (D:DefK K mg x st ps c0 Pt) (S:FnScope N ps (ap st)) (hk:N.length - ps.length=k) (low:PkLow PK) (hPK:∀ o G m,PK.is o G m->∃ ps,G Pt=some (.cod ps)) (d:LamDP N (ap st) scope pl NF ix)
  (hbody:∀ (f:Addr) (A:Around) (outer:List Env) (sh:Shared) (H:Hp) (E:XK),Room kk (A.deeper (envOfC x (ap st) sh.heap.objs.size f (.ref c0))) ->
   PSL (eD cJ P w K mg base N x (ap st) f (.ref c0) A outer sh H E).nox (db st) (oV (bq PK s) (oW (ZaF (envOfC x (ap st) sh.heap.objs.size f (.ref c0)).cells Pt pl e scope))))
  (he:∀ (o0:HO) (cl:List (Str×Addr)) (q:Str) (f c:Addr) (A:Around) (outer:List Env) (s:Shared) (H:Hp) (E:XK),Room kb (A.deeper (iA scope cl q s.heap.objs.size f (.ref c)))->PE (k7 cJ P w K mg base (pl++NF) scope cl q f (.ref c) A outer s H E).nox e (TAe (ot o0) t)) :
  Callee P w K mg base x (kk+1) ps (jV P w K mg base (kb+1) PK ps.length (jf pl.length k j s ix t)):=by
 obtain ⟨fa,oc,od,kV,doc,pm,an,ct,osl,hm,lk,hkp,hbd⟩:=D.ex
 refine ⟨fa,_,?_,hm,hkp,hbd⟩
 refine ZjH lk D.cd S (λvs H Q E h=>h.1) λA outer sh H vs Q E hr h=>⟨_,(hbody fa A outer sh H E hr).nox,?_⟩
 obtain ⟨hv,pa,m,G,as,F,wd,ar,hF,hQ⟩:=h
 unfold jf at hF
 split at hF
 ·rename_i ρ' hs
  cases hc:hI ix (fz j ρ') with
  | none=>rw [hc] at hF; cases hF
  | some caps =>
   rw [hc] at hF
   cases hF
   refine ⟨pa,G,H,m,as++List.replicate k .un,G,Rl.start wd ar (by rw [hv]; exact hk),?_⟩
   rw [hs]
   intro σ' G1 H1 sb R1
   obtain ⟨G2,sb2,R2⟩:=R1.freeze j
   obtain ⟨cv,dv,hvl,hvs⟩:=ZeH R2 hc
   obtain ⟨o1,ho1,hi1⟩:=R1.wd.pen
   obtain ⟨ps0,hP0⟩:=hPK o1 G1 m hi1
   refine ⟨⟨ps0,R1.wd.sub _ _ hP0⟩,λf c cl fo oc' fd as' qn tk H1' a1 a2 a3 a4 a5 a6 a7 a8 a9 H2 ca=>?_⟩
   obtain ⟨fc,fdd,fdat,fsl⟩:=fo
   have a2:fdat=.func fd:=a2
   subst a2
   have up1:∀ b o,H1 b=some o->H1' b=some o:=λb o h=>by
    rcases a8 with rfl | ⟨n1,rfl⟩
    ·exact h
    ·rw [az (cw h n1)]; exact h
   have up:∀ b o,H1' b=some o->upd H1' f (.frz ⟨fc,fdd,.func fd,fsl⟩ (.own 0)) b=some o:=λb o h=>by rw [az (cw h a9)]; exact h
   have hcs:∀ b u,upd H1' f (.frz ⟨fc,fdd,.func fd,fsl⟩ (.own 0)) b=some u->b ∉ cj (envOfC x (ap st) sh.heap.objs.size fa (.ref c0))/\H2 b=some u:=λb u h=>by
    rw [<- ca.cut] at h
    have hb:b ∉ cj (envOfC x (ap st) sh.heap.objs.size fa (.ref c0)):=λz=>by rw [fG z] at h; cases h
    rw [cH hb] at h
    exact ⟨hb,h⟩
   have toH2:∀ b o,H1 b=some o->b ∉ cj (envOfC x (ap st) sh.heap.objs.size fa (.ref c0))/\H2 b=some o:=λb o h=>hcs b o (up b o (up1 b o h))
   have hf2:=hcs f _ bT
   have hc2:=hcs c _ (up c _ a5)
   have fne:f≠c:=λz=>by rw [z,a5] at a9; cases a9
   generalize hG:(λb=>if b∈cj (envOfC x (ap st) sh.heap.objs.size fa (.ref c0)) then H2 b else if b=c then some (.frz oc' (.own 0)) else G2 b:Hp)=G3
   have g_in:∀ b,b∈cj (envOfC x (ap st) sh.heap.objs.size fa (.ref c0))->G3 b=H2 b:=λb hb=>by rw [<- hG]; exact if_pos hb
   have g_c:G3 c=some (.frz oc' (.own 0)):=by rw [<- hG]; show (if _ then _ else _)=_; rw [if_neg hc2.1,if_pos rfl]
   have g_out:∀ b,b ∉ cj (envOfC x (ap st) sh.heap.objs.size fa (.ref c0))->b≠c->G3 b=G2 b:=λb hb hn=>by rw [<- hG]; show (if _ then _ else _)=_; rw [if_neg hb,if_neg hn]
   have s23:Sub G2 G3:=λb o h=>by
    have h1:=R2.wd.sub b o h
    have hb:=(toH2 b o h1).1
    by_cases z:b=c
    ·subst z
     have:=up1 b o h1
     rw [a5] at this
     cases this
     exact g_c
    ·rw [g_out b hb z]; exact h
   have s3H:Sub G3 H2:=λb o h=>by
    by_cases hb:b∈cj (envOfC x (ap st) sh.heap.objs.size fa (.ref c0))
    ·rw [g_in b hb] at h; exact h
    ·by_cases z:b=c
     ·subst z
      rw [g_c] at h
      cases h
      exact hc2.2
     ·rw [g_out b hb z] at h
      exact (toH2 b o (R2.wd.sub b o h)).2
   have g3f:G3 f=none:=by
    rw [g_out f hf2.1 fne]
    cases e:G2 f with
    | none=>rfl
    | some u =>
     have:=up1 f u (R2.wd.sub f u e)
     rw [a9] at this
     cases this
   have sG1:Sub G G1:=R1.st.gs
   have fpa:f≠pa:=λz=>by
    have:=up1 pa o1 ho1
    rw [<- z,a9] at this
    cases this
   have st2:Stp pa G H G H2:=⟨λ_ _ h=>h,λ_ _ h=>.inl h,λb o h hn=>(toH2 b o (R1.st.hk b o h hn)).2⟩
   have wd2:Wd PK pa m G H2:=⟨λb o h=>(toH2 b o (R1.wd.sub b o (sG1 b o h))).2,wd.gpa,o1,(toH2 pa o1 ho1).2,by
    obtain ⟨o0,ho0,hi0⟩:=wd.pen
    exact low.low hi0 sG1 hi1⟩
   refine hQ f _ G3 H2 st2 wd2 hf2.2 (λb o h=>s23 b o (sb2 b o (sG1 b o h))) s3H g3f fpa ?_
   refine ZfM d.sc a1 a6 a7 (λx y a h1 h2=>ca.inj x y a (a3 x a h1) (a3 y a h2)) g_c (λa ha=>?_) (λx a h=>qN (a3 x a h)) (by rw [hvl,d.ln]) (λi y hy=>?_) (dv.mono s23) λf A outer s H E hr=>he _ cl _ f c A outer s H E hr
   ·obtain ⟨o,v,e1,e2⟩:=ca.lent a ha
    exact ⟨o,v,by rw [g_in a ha]; exact e1,e2⟩
   ·obtain ⟨fr,cel⟩:=d.all y (List.mem_of_getElem? hy)
    obtain ⟨a,ha⟩:=a4 (y,.free) (PySem.mem_of_lookup fr) rfl
    obtain ⟨jx,hj,hNj⟩:=d.at' i y hy
    obtain ⟨v,h1,h2⟩:=hvs i jx hj
    obtain ⟨o,u,e3,e4,e5⟩:=ca.at' jx y v a hNj h2 cel (a3 y a ha)
    refine ⟨a,o,ha,by rw [g_in a (qN (a3 y a ha))]; exact e3,λv' hv'=>?_⟩
    rw [h1] at hv'
    cases hv'
    exact ⟨u,e5,e4⟩
 ·cases hF
end
section
variable {P:Program} {w:World} {K:PySem.W.Frag} {mg:Str->Option Value} {base:Heap}
noncomputable def fk (P:Program) (w:World) (K:PySem.W.Frag) (mg:Str->Option Value) (base:Heap) (kk:Nat) (o0:HO) (F:List PyData->Option Int):Pk where
 is o G _:=o=o0/\rZ P w K mg base kk o0 G F
 mono:=λs h=>⟨h.1,h.2.1,λf A outer s' H G' vs us xs n hr e0 sG=>h.2.2 f A outer s' H G' vs us xs n hr e0 λb o z=>sG b o (s b o z)⟩
end
theorem Znq {M:Model} {A:Around} {E:Value->Shared->Prop} {s:Shared} {env:Env} {pos:Pos} {f:Addr} {oc:Value} {od:Option Addr} {fd:FuncData} {osl:Array (Option Value)} {Q:Value->Shared->Prop} {e:Expr} {rest:List Expr}
  (h:wpAny M A (spliced (backTo pos (starEach (e::rest) env))) (λvs s₁=>s₁.heap.get? f=some ⟨oc,od,.func fd,osl⟩/\wpAny M A (call (.ref f) ([]++vs)) Q E s₁) E s)
  (he:starEach (e::rest) env=(false,eval e env)::starEach rest env) (hplain:(backTo pos (starEach rest env)).any (·.1)=false):wpAny M A (callWith pos (.ref f) [] (backTo pos (starEach (e::rest) env)) []) Q E s:=by
 rw [he] at h ⊢
 exact PySem.W.callWith_of (P:=λg=>g.get? f=some ⟨oc,od,.func fd,osl⟩) (by show ((false || (backTo pos (starEach rest env)).any (·.1)) || false)=false; rw [hplain]; rfl) (λg e=>⟨.frame,.inl rfl,(PySem.W.Looks.ld (part:=none) e).andThen .now⟩) (PySem.Calls.evalArgs_plain h)
noncomputable def og (F:List PyData->Option Int) (j:Nat) (i:List Sl->Tr (List PyData)):List Sl->Tr PyData:=λρ=>match ρ[j]? with
 | some .pen=>(i ρ).bind λxs=>Tr.of ((F xs).map PyData.int)
 | _=>.fail
theorem Zii {α:Type} {c:Prop} [Decidable c] {t:Tr α} {m:Nat} {Z:Nat->α->Prop} (h:(if c then t else Tr.fail).ok m Z):c/\t.ok m Z:=by
 by_cases q:c
 ·rw [if_pos q] at h; exact ⟨q,h⟩
 ·rw [if_neg q] at h; exact h.elim
section
variable {X:Cx}
theorem Zn7 {kk:Nat} {o0:HO} {F:List PyData->Option Int} {j:Nat} {x:Str} {e:Expr} {es:List Expr} {i:List Sl->Tr (List PyData)} {p pos:Pos} (hr:Room kk X.A) (hj:X.N[j]?=some x) (hv:jL X.env.scope x) (ha:PA X (e::es) (TAd (fk X.prog X.w X.K X.mg X.base kk o0 F) i))
  (hdb:(x == ("__debug__":Str))=false:=by decide) (hcd:(x == ("__classdict__":Str))=false:=by decide)
  (he:starEach (e::es) X.env=(false,eval e X.env)::starEach es X.env:=by rfl) (hpl:(backTo pos (starEach es X.env)).any (·.1)=false:=by rfl) :
  PE X (.Call (.Name x p) (e::es) [] pos) (TAe (fk X.prog X.w X.K X.mg X.base kk o0 F) (og F j i)):=by
 intro pins s σ H Q I h
 obtain ⟨pa,G₀,H₀,m,ρ,G,R,z⟩:=h
 unfold og at z
 split at z
 ·rename_i hx
  obtain ⟨o,h1,h2⟩:=R.sl j _ hx
  cases h2
  refine wpAny_Call_Name_kw (ZiT I hj hv h1 (λu r=>?_) hdb hcd)
  obtain rfl:u=.ref pa:=r
  obtain ⟨oP,hoP,eo,⟨oc,od,fd,osl,eW⟩,_⟩:=R.wd.pen
  refine Znq (oc:=oc) (od:=od) (fd:=fd) (osl:=osl) (thn (ha pos pins s σ H (λvs H1=>∃ G1 m1 xs n,Stp pa G H G1 H1/\Wd (fk X.prog X.w X.K X.mg X.base kk o0 F) pa m1 G1 H1/\DnAll G1 vs xs/\F xs=some n/\Kn (fk X.prog X.w X.K X.mg X.base kk o0 F) pa m1 G H (.int n) Q) I ⟨pa,G₀,H₀,m,ρ,G,R,Tr.ok_mono (Tr.ok_bind.mp z) λm1 xs q vs G1 H1 s1 w1 d1=>by
   obtain ⟨y,hy,k⟩:=Tr.ok_of q
   cases hF:F xs with
   | none=>rw [hF] at hy; cases hy
   | some n =>
    rw [hF] at hy
    cases hy
    exact ⟨G1,m1,xs,n,s1,w1,d1,hF,k⟩⟩) λus s1 hz=>?_) he hpl
  obtain ⟨vs,H1,I1,r,G1,m1,xs,n,st1,w1,d1,hF,kn⟩:=hz
  obtain ⟨o1,ho1,rfl,W⟩:=w1.pen
  refine ⟨by rw [eW] at ho1; exact (I1.hok pa _ ho1).1,?_⟩
  refine wpAny_call (codeAny_mono (W.2 pa X.A X.stack s1 H1 G1 vs us xs n hr I1.env0 (λ_ _ h=>h) w1.sub w1.gpa ho1 r d1 hF) λrr s' hq=>?_)
  cases rr with
  | error ex=>exact False.elim hq
  | ok fl =>
   cases fl with
   | next=>exact False.elim hq
   | brk=>exact False.elim hq
   | cont=>exact False.elim hq
   | ret u =>
    obtain ⟨v,H',os,bare,un,ok',r',rfl,kp⟩:=hq
    refine I1.after ⟨.int n,H',os,bare,un,ok',r',?_⟩
    have st2:Stp pa G1 H1 G1 H':=⟨λ_ _ h=>h,λ_ _ h=>.inl h,λb o h _=>kp b o h⟩
    exact kn (.int n) G1 H' (st1.trans st2 w1.some) ⟨λb o h=>kp b o (w1.sub b o h),w1.gpa,_,kp _ _ ho1,rfl,W⟩ (.int n)
 ·exact z.elim
noncomputable def om (PK:Pk) (js:List Sl->Tr (List PyData)) (te:TE):TA:=λσ H Q=>∃ pa G₀ H₀ m ρ G,Rl PK pa G₀ H₀ m σ ρ G H/\(js ρ).ok m λm' xs=>∀ vs G' H',Stp pa G H G' H'->Wd PK pa m' G' H'->DnAll G' vs xs->te σ H' λv H2=>Q (vs++[v]) H2
variable {PK:Pk} {e:Expr} {es:List Expr} {te:TE} {i:List Sl->Tr PyData} {js:List Sl->Tr (List PyData)}
theorem aw1 (h:PE X e te) (hs:starEach [e] X.env=(false,eval e X.env)::starEach [] X.env:=by rfl):PA X [e] (om PK ao te):=(cB h cT hs).imp λσ H Q hz=>by
 obtain ⟨pa,G₀,H₀,m,ρ,G,R,z⟩:=hz
 exact z [] G H .refl R.wd .nil
theorem hU (h:PE X e (TAe PK i)) (hr:PA X es (om PK js te)) (hs:starEach (e::es) X.env=(false,eval e X.env)::starEach es X.env:=by rfl):PA X (e::es) (om PK (ae i js) te):=(cB h hr hs).imp λσ H Q hz=>by
 obtain ⟨pa,G₀,H₀,m,ρ,G,R,z⟩:=hz
 refine TAe.then R z λm1 x v G1 H1 s1 w1 R1 d1 q1=>?_
 refine ⟨pa,G₀,H₀,m1,ρ,G1,R1,Tr.ok_mono (Tr.ok_bind.mp q1) λm2 xs q2 vs G2 H2 s2 w2 d2=>?_⟩
 exact q2 (v::vs) G2 H2 (s1.trans s2 w1.some) w2 (.cons (d1.mono s2.gs) d2)
noncomputable def lP (P:Program) (w:World) (K:PySem.W.Frag) (mg:Str->Option Value) (base:Heap) (kb n:Nat) (f:(List PyData->Option Int)->List Sl->Tr Re):Sp:=λvs H Q E=>vs.length=n/\∃ o0 F,rQ (fk P w K mg base kb o0 F) n (f F) vs H Q E
noncomputable def oi (nm:Nat) (mk:List Sl->Option (List PyData->Option Int)) (f:(List PyData->Option Int)->List Sl->Tr Re) (js js2:List Sl->Tr (List PyData)):List Sl->Tr Re:=λρ =>
 (js ρ).bind λxs=>(js2 ρ).bind λys=>if ys.length=nm then
  match mk (ys.map Sl.d) with
  | some F=>match f F (xs.map Sl.d++[.pen]) with
   | .ret (.d (.int n))=>.ret (.d (.int n))
   | _=>.fail
  | none=>.fail
  else .fail
theorem Zfm {pa:Addr} {G:Hp}:∀ {vs:List V} {xs:List PyData},DnAll G vs xs->ArsOk pa G (vs++[.ref pa]) (xs.map Sl.d++[.pen])
 | _,_,.nil=>.cons .pen .nil
 | _,_,.cons h t=>.cons (.d h) (Zfm t)
theorem Zfp {x:Str} {k kb nm:Nat} {ps:List Str} {f:(List PyData->Option Int)->List Sl->Tr Re} {mk:List Sl->Option (List PyData->Option Int)} {js2:List Sl->Tr (List PyData)} {pp pos:Pos}
  (C:Callee X.prog X.w X.K X.mg X.base x k ps (lP X.prog X.w X.K X.mg X.base kb ps.length f)) (hlen:∀ F as m Z,(f F as).ok m Z->as.length=ps.length) (hr:Room k X.A) (hg:Gl X x)
  (ha:PA X (e::es) (om PK js (oY (jV X.prog X.w X.K X.mg X.base kb PK nm mk) [] E0 (TAd PK js2))))
  (hdb:(x == ("__debug__":Str))=false:=by decide)
  (he:starEach (e::es) X.env=(false,eval e X.env)::starEach es X.env:=by rfl) (hpl:(backTo pos (starEach es X.env)).any (·.1)=false:=by rfl) :
  PE X (.Call (.Name x pp) (e::es) [] pos) (on PK (oi nm mk f js js2)) :=
 (ki C hr hg ha hdb he hpl).imp λσ H Q hz0=>by
  obtain ⟨pa,G₀,H₀,m,ρ,G,R,z⟩:=hz0
  refine ⟨pa,G₀,H₀,m,ρ,G,R,Tr.ok_mono (Tr.ok_bind.mp z) λm1 xs q1 vs G1 H1 s1 w1 d1=>?_⟩
  have R1:=R.step s1 w1
  refine ⟨pa,G₀,H₀,m1,ρ,G1,R1,Tr.ok_mono (Tr.ok_bind.mp q1) λm2 ys q2 us G2 H2 s2 w2 d2=>?_⟩
  obtain ⟨hn,q3⟩:=Zii q2
  show jV _ _ _ _ _ _ _ _ _ (us++[]) H2 _ E0
  rw [List.append_nil]
  split at q3
  ·rename_i F hF
   split at q3
   ·rename_i n hf
    refine ⟨by rw [d2.length]; exact hn,pa,m2,G2,_,F,w2,rH d2,hF,λf' o G3 H3 st wd hf' sG sH gf fpa W=>?_⟩
    have st12:Stp pa G H G2 H2:=s1.trans s2 w1.some
    have hok:(f F (xs.map Sl.d++[.pen])).ok m2 λm' r=>Kr (fk X.prog X.w X.K X.mg X.base kb o F) f' m' G3 H3 r Q:=by
     rw [hf]
     intro v' G' H' st' w' dv
     have dv:Dn G' v' (.int n):=dv
     cases dv
     obtain ⟨o',ho',rfl,_⟩:=w'.pen
     have kp:∀ b u,H3 b=some u->H' b=some u:=λb u h=>by
      by_cases zb:b=f'
      ·subst zb
       rw [hf'] at h
       rw [ho']
       exact h
      ·exact st'.hk b u h zb
     obtain ⟨op,hop,hip⟩:=wd.pen
     refine q3 (.int n) G2 H' ((st12.trans st w2.some).trans ⟨λ_ _ h=>h,λ_ _ h=>.inl h,λb u h _=>kp b u h⟩ wd.some) ⟨λb u h=>kp b u (wd.sub b u h),wd.gpa,op,kp _ _ hop,hip⟩ (.int n)
    have har:ArsOk f' G3 (vs++[.ref f']) (xs.map Sl.d++[.pen]):=Zfm (d1.mono λb o h=>sG b o (s2.gs b o h))
    have hl:(vs++[V.ref f']).length=ps.length:=by rw [har.length]; exact hlen _ _ _ _ hok
    show lP _ _ _ _ _ _ _ _ ((vs++[V.ref f'])++[]) H3 Q E0
    rw [List.append_nil]
    exact ⟨hl,o,F,hl,f',m2,G3,_,⟨sH,gf,o,hf',rfl,W⟩,har,hok⟩
   ·exact q3.elim
  ·exact q3.elim
end
noncomputable def PKs (ts:List Addr) (PK:Pk):Pk where
 is o G m:=PK.is o G m/\∀ t∈ts,∃ ps,G t=some (.cod ps)
 mono:=λs h=>⟨PK.mono s h.1,λt ht=>let ⟨ps,e⟩:=h.2 t ht; ⟨ps,s _ _ e⟩⟩
theorem PKs.low {ts:List Addr} {PK:Pk} (L:PkLow PK):PkLow (PKs ts PK):=⟨λh s h'=>⟨L.low h.1 s h'.1,h.2⟩⟩
section
variable {ts:List Addr} {PK:Pk}
theorem Wd.unS {pa:Addr} {m:Nat} {G H:Hp} (w:Wd (PKs ts PK) pa m G H):Wd PK pa m G H:=⟨w.sub,w.gpa,let ⟨o,h,k⟩:=w.pen; ⟨o,h,k.1⟩⟩
theorem Wd.reS {pa:Addr} {m m':Nat} {G H G' H':Hp} (w:Wd (PKs ts PK) pa m G H) (s:Sub G G') (w':Wd PK pa m' G' H'):Wd (PKs ts PK) pa m' G' H' :=
 ⟨w'.sub,w'.gpa,let ⟨o,h,k⟩:=w'.pen; ⟨o,h,k,λt ht=>let ⟨_,_,_,ke⟩:=w.pen; let ⟨ps,e⟩:=ke t ht; ⟨ps,s _ _ e⟩⟩⟩
theorem ACal.cods {P:Program} {w:World} {K:PySem.W.Frag} {mg:Str->Option Value} {base:Heap} {x:Str} {k:Nat} {ps:List Str} {f:List Sl->Tr Re} (C:ACal PK P w K mg base x k ps f):ACal (PKs ts PK) P w K mg base x k ps f:=by
 obtain ⟨C,len⟩:=C
 obtain ⟨g,fd,F,hm,hk,hb⟩:=C.ex
 refine ⟨⟨g,fd,F.imp λvs H Q E h=>?_,hm,hk,hb⟩,len⟩
 obtain ⟨hv,pa,m,G,as,wd,ar,z⟩:=h
 exact ⟨hv,pa,m,G,as,wd.unS,ar,Tr.ok_mono z λm' r h v G' H' s w' d=>h v G' H' s (wd.reS s.gs w') d⟩
end
theorem Zoe {st:Stmt} {P:Program} {w:World} {K:PySem.W.Frag} {mg:Str->Option Value} {base:Heap} {x:Str} {N ps:List Str} {kk k kb:Nat} {s:(List PyData->Option Int)->List Sl->Tr Ou} (D:Def K mg x st ps) (S:FnScope N ps (ap st)) (hk:N.length - ps.length=k)
  (hbody:∀ (o0:HO) (F:List PyData->Option Int) (f:Addr) (cdv:Value) (A:Around) (outer:List Env) (sh:Shared) (H:Hp) (E:XK),Room kk (A.deeper (envOfC x (ap st) sh.heap.objs.size f cdv)) ->
   PSs (eD cJ P w K mg base N x (ap st) f cdv A outer sh H E).nox (db st) (bq (fk P w K mg base kb o0 F) (s F))):Callee P w K mg base x (kk+1) ps (lP P w K mg base kb ps.length λF=>bp ps.length k (s F)):=by
 refine D.ok S (λvs H Q E h=>h.1) λf cdv A outer sh H vs Q E hr hsp=>?_
 obtain ⟨_,o0,F,hv,pa,m,G,as,wd,ar,z⟩:=hsp
 refine ⟨_,hbody o0 F f cdv A outer sh H E hr,?_⟩
 unfold bp at z
 obtain ⟨_,z⟩:=fx z
 refine ⟨pa,G,H,m,_,G,Rl.start wd ar (by rw [hv]; exact hk),Tr.ok_mono (Tr.ok_bind.mp z) λm1 o ko=>?_⟩
 cases o with
 | next ρ=>exact λσ G1 H1 sb R1=>ko .non G1 H1 R1.st R1.wd .non
 | ret r=>exact ko
 | brk ρ=>exact ko.elim
 | cont ρ=>exact ko.elim
theorem ZhD {X:Cx} {PK:Pk} {e:Expr} {te:TE} {pos:Pos} (he:PE X e te):PSL X [.Return (some e) pos] (oV (bq PK λρ=>.ret (.next ρ)) (oW te)):=λs σ H D I h=>Zck he s σ H D I (by
 obtain ⟨pa,G₀,H₀,m,ρ,G,R,z⟩:=h
 exact z σ G H (λ_ _ h=>h) R)
noncomputable def jW (ts:List Addr) (K:PySem.W.Frag):Sp:=λvs H Q _=>∃ (a:Addr) (ns:List Int),vs=[.ref a]/\SqL K H a (ns.map V.int)/\ns.length<=63/\(∀ t∈ts,H t=some (.cod #[]))/\∀ H',(∀ t∈ts,H' t=some (.cod #[]))->Q (.bl true) H'
noncomputable def tabs (ts:List Addr) (H0:Hp):Hp:=λb=>if b∈ts then some (.cod #[]) else H0 b
theorem ZaC {ts:List Addr} {H0:Hp} {b:Addr} (h:b∈ts):tabs ts H0 b=some (.cod #[]):=if_pos h
theorem jS {ts:List Addr} {H0:Hp} {b:Addr} (h:b ∉ ts):tabs ts H0 b=H0 b:=if_neg h
theorem ZiX {P:Program} {w:World} {K:PySem.W.Frag} {mg mb:Str->Option Value} {k:Nat} {fa a:Addr} {ts:List Addr} {fd:FuncData} {x:Str} {s₁:Shared} {vs:List Value} {ns:List Int}
  (KX:K.In s₁.heap) (hns:s₁.heap.Ns mainGlobals mg) (hb:s₁.heap.Ns builtinsNs mb) (hbb:∀ x:Str,x≠"__name__"->mb x=bootBuiltins x) (hlim:s₁.heap.NoLimit) (hdig:s₁.heap.NoDigits) (hg:s₁.gens=#[])
  (ha:s₁.heap.get? a=some { cls:=.type "list",data:=.seq vs.toArray }) (hi:IntsAre vs ns) (hl:ns.length<=sizeLine) (h63:ns.length<=63) (hr:Room k callerA)
  (tb:∀ t∈ts,s₁.heap.get? t=some { cls:=.none,data:=.fields #[] }) (hKP:∀ t∈ts,K.lookup t=none) (ck:∀ t∈ts,∃ c0,CodK K c0 t) (hBl:BltK s₁.heap mg)
  (F:∀ base:Heap,K.In base->base.Ns mainGlobals mg->BltK base mg->FnOk P w K mg base cJ k fa fd [x] (jW ts K)) (hbind:∀ (s:Shared) (u:Value),BindsTo s fd ⟨[u],[]⟩ [(x,u)]) :
  codeAny (model P w) callerA (.call (.ref fa) ⟨[.ref a],[]⟩) (λr s'=>r=.ok (.ret (.bool true))/\OldK s₁.heap s'.heap/\s'.os=s₁.os/\AllBare s'.gens) s₁:=by
 have rv:=ZfT hi
 have lenV:=hi.length
 have apl:a ∉ ts:=λz=>by
  rw [tb a z] at ha
  cases ha
 have core:∀ H0:Hp,Zon H0->SqL K H0 a (ns.map V.int)->HOk P w H0 s₁.heap->(∀ b,H0 b≠none->b=a)->(H0 a≠none->K.lookup a=none) ->
   codeAny (model P w) callerA (.call (.ref fa) ⟨[.ref a],[]⟩) (λr s'=>r=.ok (.ret (.bool true))/\OldK s₁.heap s'.heap/\s'.os=s₁.os/\AllBare s'.gens) s₁:=by
  intro H0 hO hS0 hok0 hA0 hK
  have hout:∀ b u,H0 b=some u->b ∉ ts:=λb u e z=>by
   have:=hA0 b (by rw [e]; simp)
   exact apl (this ▸ z)
  have hup:∀ b u,H0 b=some u->tabs ts H0 b=some u:=λb u e=>by rw [jS (hout b u e)]; exact e
  have hS:SqL K (tabs ts H0) a (ns.map V.int):=Same.seq (λb o e=>hup b o e) hS0
  have hok:HOk P w (tabs ts H0) s₁.heap:=λb u e=>by
   by_cases z:b∈ts
   ·rw [ZaC z] at e
    cases e
    exact ⟨#[],tb b z,trivial,λpo v hv=>by cases hv⟩
   ·rw [jS z] at e
    exact (hok0 b u e).stay (λ_ _ _ q=>q) (λc q=>hup c _ q) (λc xs q=>hup c _ q) λc ob u' vs q _=>hup c _ q
  have hA:∀ b,tabs ts H0 b≠none->b=a\/b∈ts:=λb h=>by
   by_cases z:b∈ts
   ·exact .inr z
   ·rw [jS z] at h
    exact .inl (hA0 b h)
  generalize hH:tabs ts H0=H at *
  have hPl:∀ t∈ts,H t=some (.cod #[]):=λt ht=>by rw [<- hH]; exact ZaC ht
  have hb0:∀ b u,H0 b=some u->H b=some u:=hup
  have base_of:∀ {b:Addr} {o:Obj},s₁.heap.get? b=some o->H b=none->(fR s₁.heap H).get? b=some o:=λe n=>Zjl e n
  have noA:∀ {b:Addr} {o:Obj} {es:Array DictEntry} {ep:Nat},s₁.heap.get? b=some o->o.data=.dict es ep->H b=none:=λ{b o es ep} e d=>by
   cases q:H b with
   | none=>rfl
   | some u =>
    rcases hA b (by rw [q]; simp) with e' | e'
    ·subst e'
     rw [ha] at e; cases e
     have d':Data.seq vs.toArray _=Data.dict es ep:=d
     cases d'
    ·rw [tb b e'] at e; cases e
     have d':Data.fields #[]=Data.dict es ep:=d
     cases d'
  have nsK:∀ {b:Addr} {m:Str->Option Value},s₁.heap.Ns b m->(fR s₁.heap H).Ns b m:=λ{b m} hz0=>by
   obtain ⟨o,es,ep,e,d,r⟩:=hz0
   exact ⟨o,es,ep,base_of e (noA e d),d,r⟩
  have hKb:K.In (fR s₁.heap H):=λb o e=>base_of (KX b o e) (by
   cases q:H b with
   | none=>rfl
   | some u =>
    rcases hA b (by rw [q]; simp) with e' | e'
    ·subst e'
     cases q0:H0 b with
     | none =>
      rw [<- hH,jS apl,q0] at q
      cases q
     | some u0=>rw [hK (by rw [q0]; simp)] at e; cases e
    ·rw [hKP b e'] at e; cases e)
  have hBb:BltK (fR s₁.heap H) mg:=by
   obtain ⟨bm,bo,b1,b2,b3,b4,b5,b6⟩:=hBl.ex
   refine ⟨bm,bo,b1,b2,base_of b3 ?_,b4,b5,b6⟩
   cases q:H bm with
   | none=>rfl
   | some u =>
    rcases hA bm (by rw [q]; simp) with e' | e'
    ·subst e'
     rw [ha] at b3; cases b3
     cases b6
    ·rw [tb bm e'] at b3; cases b3
     cases b6
  have hM:Mod K mg (fR s₁.heap H):=⟨hKb,nsK hns,⟨mb,nsK hb,hbb⟩,let ⟨mc,h1,h2⟩:=hlim; ⟨mc,nsK h1,h2⟩,let ⟨mc,h1,h2⟩:=hdig; ⟨mc,nsK h1,h2⟩⟩
  have e0:Env0 P w K mg (fR s₁.heap H) callerA [] s₁ H:=⟨rfl,hM,λb o e=>Zil e,Nat.le_of_eq (Zjk _ _),trivial,λb hb=>absurd (show b∈([]:List Addr) from hb) (by simp),hok,.of_eq hg⟩
  refine codeAny_mono ((F _ hKb (nsK hns) hBb).run callerA [] s₁ H ⟨[.ref a],[]⟩ [.ref a] [.ref a] (λv H'=>v=.bl true/\∀ t∈ts,H' t=some (.cod #[])) (λ_ _ _=>False) hr e0 (hbind s₁ (.ref a)) (.cons rfl .nil) ⟨a,ns,rfl,hS,h63,hPl,λH' q=>⟨rfl,q⟩⟩) λr s' h=>?_
  cases r with
  | error e=>exact False.elim h
  | ok fl =>
   cases fl with
   | next=>exact False.elim h
   | brk=>exact False.elim h
   | cont=>exact False.elim h
   | ret u =>
    obtain ⟨v,H',os,bare,un,hok',r',q',hP'⟩:=h
    have q':v=.bl true:=q'
    subst q'
    obtain rfl:u=Value.bool true:=r'
    have cases3:∀ b o,s₁.heap.get? b=some o->s'.heap.get? b=some o\/(b∈ts/\∃ more,s'.heap.get? b=some { cls:=.none,data:=.fields (#[]++more) }):=λb o e=>by
     by_cases z:b∈ts
     ·obtain ⟨more,t1,_⟩:=hok' b _ (hP' b z)
      exact .inr ⟨z,more,t1⟩
     ·left
      cases q:H b with
      | none=>exact un.keep b o e q (by intro z; exact absurd (show b∈([]:List Addr) from z) (by simp)) (by simp)
      | some u =>
       rcases hO b with z0 | ⟨ob,xs,z0⟩
       ·rw [<- hH,jS z,z0] at q; cases q
       ·have z1:=hb0 b _ z0
        have z2:=un.frzs b ob _ z1
        obtain ⟨e1,_⟩:=hok b _ z1
        obtain ⟨e2,_⟩:=hok' b _ z2
        rw [e] at e1; cases e1
        exact e2
    refine ⟨rfl,⟨λb o e=>?_,λb o e=>?_⟩,os,bare⟩
    ·rcases cases3 b o e with z | ⟨hz,more,z⟩
     ·exact .inl z
     ·rw [tb b hz] at e
      cases e
      obtain ⟨c0,ck⟩:=ck b hz
      obtain ⟨oc,vs',_,_,_,_,_,_,_,e1,e2,e3,e4,_⟩:=ck.ex
      exact .inr (.inl ⟨⟨c0,oc,vs',KX c0 oc e1,e2,e3,e4⟩,rfl,#[],more,rfl,z⟩)
    ·rcases cases3 b o e with z | ⟨_,more,z⟩
     ·exact ⟨_,z⟩
     ·exact ⟨_,z⟩
 cases hk:K.lookup a with
 | some o =>
  have e:=KX a o hk
  rw [ha] at e
  cases e
  refine core (λ_=>none) (λ_=>.inl rfl) (.inr ⟨_,vs.toArray,_,hk,rfl,rfl,rfl,by rw [List.size_toArray,lenV]; exact hl,by simpa using rv⟩) (λb u z=>by have z':(none:Option HO)=some u:=z; cases z') (λb z=>absurd rfl z) λz=>absurd rfl z
 | none =>
  refine core (λb=>if b=a then some (.frz { cls:=.type "list",data:=.seq vs.toArray } (.lst (ns.map V.int))) else none) (λb=>?_) (.inl (.inr ⟨{ cls:=.type "list",data:=.seq vs.toArray },if_pos rfl⟩)) (λb u z=>?_) (λb z=>?_) λ_=>hk
  ·by_cases hb:b=a
   ·exact .inr ⟨_,_,if_pos hb⟩
   ·exact .inl (if_neg hb)
  ·by_cases hb:b=a
   ·have z':=(if_pos hb).symm.trans z
    cases z'
    subst hb
    exact ⟨ha,by rw [List.length_map]; exact hl,vs,_,rv,ha⟩
   ·have z':=(if_neg hb).symm.trans z
    cases z'
  ·by_cases hb:b=a
   ·exact hb
   ·exact absurd (if_neg hb) z
variable {X:Cx} {PK:Pk} {e:Expr} {pos p2:Pos}
noncomputable def lh (k:Nat) (p q:c6):List Sl->Tr PyData:=λρ=>match ρ[k]? with
 | some (.own xs)=>(p ρ).bind λlo=>(q ρ).bind λhi=>.ret (.list (dG xs lo hi))
 | _=>.fail
theorem Zn8 {k:Nat} {p q:c6} {lo hi:Option Expr} (ha:PE X e (eh k)) (hl:PO X lo (TAp PK p)) (hu:PO X hi (TAp PK q)):PE X (.Subscript e (.Slice lo hi none p2) pos) (TAe PK (lh k p q)):=(qg ZaZ ha hl hu).imp λσ H Q hz0=>by
 obtain ⟨pa,G₀,H₀,m,ρ,G,R,z⟩:=hz0
 unfold lh at z
 split at z
 ·rename_i xs hx
  obtain ⟨o,h1,h2⟩:=R.sl k _ hx
  cases h2 with
  | @own a vs _ a1 a2 a3 a4 =>
   refine ⟨_,h1,?_⟩
   refine TAp.then R z λm2 lo G2 H2 s2 w2 R2 q2=>?_
   refine TAp.then R2 q2 λm3 hi G3 H3 s3 w3 R3 q3=>?_
   have s13:=s2.trans s3 w2.some
   have k':=Kn.later q3 s13 w3.some
   obtain ⟨o',h1',h2'⟩:=R3.sl k _ hx
   rw [h1] at h1'
   cases h1'
   cases h2' with
   | own b1 b2 b3 b4=>exact .inl ⟨_,_,rfl,SqL.of b1,λp hp=>k'.lst w3 (b4.cut lo hi) hp⟩
 ·exact z.elim
end L2
namespace Bar
variable (A:Nat->Nat->Int)
noncomputable def bY (f:Nat->Int):Nat->Int
 | 0=>0
 | n+1=>bY f n+f n
end Bar
namespace Tw
open PySem L2
theorem Zai {f g:Int->Int}:∀ {l:List Int} {k:Nat},(∀ w∈l,0<=w)->(∀ x:Int,0<=x->f x<=g x)->ws f k l<=ws g k l
 | [],k,_,_=>Int.le_refl _
 | w::l,k,hw,h=>by
  unfold ws
  have h1:=Int.mul_le_mul_of_nonneg_left (h k (by omega)) (hw w (by simp))
  have h2:=Zai (l:=l) (k:=k+1) (λv hv=>hw v (List.mem_cons_of_mem _ hv)) h
  omega
theorem gI {f g:Int->Int}:∀ {l:List Int} {k:Nat},ws (λx=>f x+g x) k l=ws f k l+ws g k l
 | [],k=>rfl
 | w::l,k=>by
  unfold ws
  rw [gI (l:=l),Int.mul_add]
  omega
theorem oH {f:Int->Int} {m:Int}:∀ {l:List Int} {k:Nat},ws (λx=>m * f x) k l=m * ws f k l
 | [],k=>by unfold ws; simp
 | w::l,k=>by
  unfold ws
  rw [oH (l:=l)]
  grind
noncomputable def bU:Nat->List Int->List (Int×Int)
 | _,[]=>[]
 | k,w::l=>if w > 0 then ((k:Int),w)::bU (k+1) l else bU (k+1) l
theorem lS:∀ (l:List Int) (k:Nat),(bU k l).length<=l.length
 | [],k=>Nat.le_refl _
 | w::l,k=>by
  have:=lS l (k+1)
  unfold bU
  rw [List.length_cons]
  split
  ·rw [List.length_cons]; omega
  ·omega
theorem lR:∀ {l:List Int} {k:Nat} {q:Int×Int},q∈bU k l->(k:Int)<=q.1/\q.1 < k+l.length/\q.2∈l
 | [],k,q,h=>by cases h
 | w::l,k,q,h=>by
  unfold bU at h
  rw [List.length_cons]
  split at h
  ·rcases List.mem_cons.mp h with rfl | h
   ·refine ⟨?_,?_,by simp⟩
    ·show (k:Int)<=(k:Int); omega
    ·show (k:Int) < _; omega
   ·obtain ⟨a,b,c⟩:=lR h
    exact ⟨by omega,by omega,List.mem_cons_of_mem _ c⟩
  ·obtain ⟨a,b,c⟩:=lR h
   exact ⟨by omega,by omega,List.mem_cons_of_mem _ c⟩
theorem ZaS {c:Int->Int}:∀ (l:List Int) (k:Nat),(∀ w∈l,0<=w)->((bU k l).map λq=>q.2 * c q.1).sum=ws c k l
 | [],k,_=>rfl
 | w::l,k,h=>by
  have ih:=ZaS (c:=c) l (k+1) λv hv=>h v (List.mem_cons_of_mem _ hv)
  unfold bU ws
  by_cases hw:w > 0
  ·rw [if_pos hw,List.map_cons,List.sum_cons,ih]
  ·have h0:=h w (by simp)
   have e:w=0:=by omega
   rw [if_neg hw,ih,e,Int.zero_mul,Int.zero_add]
theorem Zhn {lo hi:Int} (h:lo < hi):ba lo hi=.int lo::ba (lo+1) hi:=by
 unfold ba
 have e:(hi - lo).toNat=1+(hi - (lo+1)).toNat:=by omega
 rw [e,ZbT,List.map_append]
 have e1:aB lo 1=[lo]:=by unfold aB; simp
 rw [e1]
 rfl
theorem ZcM {h:PyData->Tr (Option PyData)} {F:Int×Int->PyData}:∀ (l:List Int) (k:Nat),(∀ (i:Nat) (v:Int),l[i]?=some v->h (.int ((k:Int)+i))=.ret (if v > 0 then some (F ((k:Int)+i,v)) else none))->cL h (ba k ((k:Int)+l.length))=.ret ((bU k l).map F)
 | [],k,_=>by
  have e:ba (k:Int) ((k:Int)+(([]:List Int).length:Int))=[]:=by unfold ba aB; simp
  rw [e]
  rfl
 | w::l,k,hh=>by
  have ih:=ZcM (h:=h) (F:=F) l (k+1) λi v hv=>by
   have:=hh (i+1) v (by rw [List.getElem?_cons_succ]; exact hv)
   have e:(((k+1:Nat)):Int)+(i:Int)=(k:Int)+((i+1:Nat):Int):=by omega
   rw [e]
   exact this
  have h0:=hh 0 w (by simp)
  have e0:(k:Int)+((0:Nat):Int)=k:=by omega
  rw [e0] at h0
  rw [Zhn (by rw [List.length_cons]; omega),cL,h0,Tr.ret_bind]
  have e1:(k:Int)+(((w::l).length:Nat):Int)=((k+1:Nat):Int)+(l.length:Int):=by rw [List.length_cons]; omega
  have e2:(k:Int)+1=((k+1:Nat):Int):=by omega
  have eS:bU k (w::l)=if w > 0 then ((k:Int),w)::bU (k+1) l else bU (k+1) l:=rfl
  rw [e1,e2,ih,Tr.ret_bind,eS]
  by_cases hw:w > 0
  ·rw [if_pos hw,if_pos hw]; rfl
  ·rw [if_neg hw,if_neg hw]; rfl
noncomputable abbrev Rw:=List Int×Int
noncomputable def bH (X:List Rw) (d:List Int):List Rw:=X.flatMap λp=>(bU 0 d).map λq=>(p.1++[q.1],p.2 * q.2)
noncomputable def tot (X:List Rw) (c:List Int->Int):Int:=(X.map λp=>p.2 * c p.1).sum
theorem ZaN:∀ a b:List Int,(a++b).sum=a.sum+b.sum
 | [],b=>by simp
 | x::a,b=>by rw [List.cons_append,List.sum_cons,List.sum_cons,ZaN a b]; omega
theorem Zf4 (X Y:List Rw) (c:List Int->Int):tot (X++Y) c=tot X c+tot Y c:=by
 unfold tot
 rw [List.map_append,ZaN]
theorem Zaz {r:List Int} {w:Int} {c:List Int->Int}:∀ l:List (Int×Int),tot (l.map λq=>(r++[q.1],w * q.2)) c=w * (l.map λq=>q.2 * c (r++[q.1])).sum
 | []=>by simp [tot]
 | q::l=>by
  have ih:=Zaz (r:=r) (w:=w) (c:=c) l
  unfold tot at ih ⊢
  rw [List.map_cons,List.map_cons,List.sum_cons,ih,List.map_cons,List.sum_cons,Int.mul_add,Int.mul_assoc]
theorem ZaB {d:List Int} (hd:∀ w∈d,0<=w) {c:List Int->Int}:∀ X:List Rw,tot (bH X d) c=tot X λr=>ws (λf=>c (r++[f])) 0 d
 | []=>rfl
 | p::X=>by
  have ih:=ZaB hd (c:=c) X
  have e:bH (p::X) d=((bU 0 d).map λq=>(p.1++[q.1],p.2 * q.2))++bH X d:=by unfold bH; rw [List.flatMap_cons]
  rw [e,Zf4,ih,Zaz,ZaS d 0 hd (c:=λf=>c (p.1++[f]))]
  unfold tot
  rw [List.map_cons,List.sum_cons]
noncomputable def av:List (List Int)->(List Int->Int)->Int
 | [],c=>c []
 | d::fs,c=>ws (λf=>av fs λr=>c (f::r)) 0 d
theorem ZaA:∀ {fs:List (List Int)} {X:List Rw} {c:List Int->Int},(∀ l∈fs,∀ w∈l,0<=w)->tot (fs.foldl bH X) c=tot X λr=>av fs λr'=>c (r++r')
 | [],X,c,_=>by
  unfold av
  simp
 | d::fs,X,c,h=>by
  rw [List.foldl_cons,ZaA λl hl=>h l (List.mem_cons_of_mem _ hl),ZaB (h d (by simp))]
  simp only [av,List.append_assoc,List.cons_append,List.nil_append]
theorem Zf5 {fs:List (List Int)} {c:List Int->Int} (h:∀ l∈fs,∀ w∈l,0<=w):tot (fs.foldl bH [([],1)]) c=av fs c:=by
 rw [ZaA h]
 unfold tot
 simp
noncomputable def prd:List (List Int)->Int
 | []=>1
 | d::fs=>prd fs * d.sum
theorem iN {a:Int}:∀ (l:List Int) (k:Nat),ws (λ_=>a) k l=a * l.sum
 | [],k=>by simp [ws]
 | w::l,k=>by
  unfold ws
  rw [iN l,List.sum_cons,Int.mul_add,Int.mul_comm]
theorem Ze7 {a:Int}:∀ {fs:List (List Int)} {c:List Int->Int},av fs (λr=>a+c r)=a * prd fs+av fs c
 | [],c=>by
  show a+c []=a * 1+c []
  omega
 | d::fs,c=>by
  show ws (λf=>av fs λr=>a+c (f::r)) 0 d=a * (prd fs * d.sum)+ws (λf=>av fs λr=>c (f::r)) 0 d
  have e:(λf=>av fs λr=>a+c (f::r))=λf=>a * prd fs+av fs λr=>c (f::r):=funext λf=>Ze7
  rw [e,gI,iN]
  grind
theorem h7 {f:Int->Int} {a b:Nat}:∀ {l:List Int} {k:Nat},(∀ w∈l,nb a w)->(∀ x:Int,(k:Int)<=x->x < k+l.length->nb b (f x))->nb (a+b+l.length) (ws f k l)
 | [],k,_,_=>by unfold ws nb; exact Nat.pos_of_ne_zero (by simp)
 | w::l,k,hw,hf=>by
  rw [List.length_cons] at hf ⊢
  have h1:=b9 (hw w (by simp)) (hf k (by omega) (by omega))
  have h2:=h7 (f:=f) (a:=a) (b:=b) (l:=l) (k:=k+1) (λv hv=>hw v (List.mem_cons_of_mem _ hv)) λx x1 x2=>hf x (by omega) (by omega)
  unfold ws
  exact aT (c8 h1 h2) (by omega)
noncomputable def cp (p:Rw):PyData:=.tuple [tI p.1,.int p.2]
theorem ma (d:List Int) (fs:List (List Int)):reach (d::fs)=great d+reach fs:=by
 unfold reach
 rw [List.map_cons,List.sum_cons]
theorem fM:∀ {fs:List (List Int)},(∀ l∈fs,∃ n∈l,n > 0)->0<=reach fs
 | [],_=>by decide
 | d::fs,h=>by
  have:=fM (fs:=fs) λl hl=>h l (List.mem_cons_of_mem _ hl)
  have h1:=(iy (lQ (k:=0) (h d (by simp)))).1
  have h2:=pb h1
  rw [ma]
  unfold great
  omega
theorem lT:∀ (l:List Int) (k:Nat),(bU k l).map (λq=>PyData.int q.1)=(bz k l).map PyData.int
 | [],k=>rfl
 | w::l,k=>by
  have ih:=lT l (k+1)
  unfold bU bz
  by_cases hw:w > 0
  ·rw [if_pos hw,if_pos hw,List.map_cons,List.map_cons,ih]
  ·rw [if_neg hw,if_neg hw,ih]
end Tw
namespace Tw
open PySem PySem.Spec PyProof.Rows L2
theorem Zjn {d:List Int} {f:Int} (h:f∈bz 0 d):f<=great d:=by
 unfold great
 exact (iy (List.ne_nil_of_mem h)).2 f h
end Tw
namespace L2
open PySem PySem.Spec PyProof.Rows
variable {F:List Int->Option Int} {KS:List (List Int)}
variable {X:Cx}
variable {X:Cx} {F:List Int->Option Int} {KS:List (List Int)}
end L2
namespace My
open PySem PySem.Spec PyProof.Rows L2 Tw
noncomputable def bM:List (List Int)->Int
 | []=>1
 | day::r=>day.sum * bM r
noncomputable def cD (f:Int->Int) (a:Int):Nat->Int
 | 0=>f a
 | n+1=>if f (a+(n+1:Nat)) < cD f a n then f (a+(n+1:Nat)) else cD f a n
section
variable (s:Shp)
noncomputable def bC (p:Int):Int:=if 0 < p then s.start+s.piece * p else 0
noncomputable def cK (x:Int):Int:=s.keep * cx x 0+s.lack * cx (0 - x) 0
noncomputable def fT (x:Int):Int:=s.late * cx (0 - x) 0 - s.back * cx x 0
noncomputable def fK (d:Nat):List (List Int)->Int->List Int->Int
 | [],x,way=>fT s (x+way.sum)
 | day::rest,x,way=>cD (λy=>bC s (y - (x+way.sum)) * bM (day::rest)+ws (λf=>cK s (x+way.headD 0 - f) * bM rest+fK d rest (x+way.headD 0 - f) (way.drop 1++[y - (x+way.sum)])) 0 day) (x+way.sum) (if d < (day::rest).length then (s.top - (x+way.sum)).toNat else 0)
end
end My
namespace L2
open PySem PySem.Spec PyProof.Rows
noncomputable def Zcq (c:Addr) (at' left:Int):HO:=.lst [.ref c,.int at',.int left]
structure Pen2 (H:Hp) (p c:Addr) (ns:List Int) (m:Nat):Prop where
 ex:∃ (k:Nat) (left:Int),H p=some (Zcq c k left)/\k<=m/\0<=left
 cells:H c=some (.lst (ns.map V.int))
 len:ns.length<=63
 ne:c≠p
noncomputable def ZaP:Sp:=λvs H Q _=>∃ (p c:Addr) (ns:List Int) (m:Nat) (most:Int),vs=[.ref p,.int most]/\Pen2 H p c ns m/\m<=500000/\0 < most/\most < 1073741824 /\
 ∀ (r:Int) (H':Hp),0<=r->r < most->Pen2 H' p c ns (m+1)->Kept p H H'->Q (.int r) H'
noncomputable def Zgw (K:PySem.W.Frag):Sp:=λvs H Q _=>∃ (a:Addr) (ns:List Int),vs=[.ref a]/\SqL K H a (ns.map V.int)/\ns.length<=63 /\
 ∀ (p c:Addr) (H':Hp),H p=none->Pen2 H' p c ns 0->Same H H'->Q (.ref p) H'
noncomputable def bI (cn:Addr×List Int):Pk where
 is:=λo G m=>∃ (k:Nat) (left:Int),o=Zcq cn.1 k left/\k<=m/\0<=left/\G cn.1=some (.lst (cn.2.map V.int))/\cn.2.length<=63
 mono:=λs ⟨k,left,e,h1,h2,h3,h4⟩=>⟨k,left,e,h1,h2,s _ _ h3,h4⟩
theorem Zco {cn:Addr×List Int}:PkLow (bI cn):=⟨λ⟨_,_,_,_,_,h3,_⟩ _ ⟨k,left,e,h1,h2,_,h4⟩=>⟨k,left,e,h1,h2,h3,h4⟩⟩
theorem ZhC {ι:Type} {X:Cx} {e:List Stmt} {t:ι->TS} (h:∀ i,PSs X e (t i)):PSs X e (λD σ H=>∃ i,t i D σ H):=λpins s σ H D I z=>by
 obtain ⟨i,z⟩:=z
 exact h i pins s σ H D I z
noncomputable def mY:List Sl->Tr Re:=λas=>match as with
 | [.pen,.d (.int most)]=>.draw most λr=>.ret (.d (.int r))
 | _=>.fail
theorem Zd9 {as:List Sl} {m:Nat} {Z:Nat->Re->Prop} (h:(mY as).ok m Z):∃ most,as=[.pen,.d (.int most)]:=by
 unfold mY at h
 split at h
 ·exact ⟨_,rfl⟩
 ·exact h.elim
theorem Zml {cn:Addr×List Int} {P:Program} {w:World} {K:PySem.W.Frag} {mg:Str->Option Value} {base:Heap} {x:Str} {k:Nat} {ps:List Str} (hp:ps.length=2) (C:Callee P w K mg base x k ps ZaP):ACal (bI cn) P w K mg base x k ps mY:=by
 refine ⟨?_,λas m Z h=>by obtain ⟨most,rfl⟩:=Zd9 h; exact hp.symm⟩
 obtain ⟨f,fd,F,hm,hk,hb⟩:=C.ex
 refine ⟨f,fd,F.imp λvs H Q E h=>?_,hm,hk,hb⟩
 obtain ⟨hv,pa,m,G,as,wd,ar,z⟩:=h
 obtain ⟨most,rfl⟩:=Zd9 z
 obtain ⟨h1,h2,h3,h4⟩:=z
 cases ar with
 | cons a1 ar =>
  cases ar with
  | cons a2 ar =>
   cases ar
   cases a1
   cases a2 with
   | d d2 =>
    cases d2
    obtain ⟨c,ns⟩:=cn
    obtain ⟨o,ho,kk,left,rfl,q1,q2,q3,q4⟩:=wd.pen
    replace q3:G c=some (.lst (ns.map V.int)):=q3
    have ncp:c≠pa:=λz=>by rw [z,wd.gpa] at q3; cases q3
    refine ⟨pa,c,ns,m,most,rfl,⟨⟨kk,left,ho,q1,q2⟩,wd.sub _ _ q3,q4,ncp⟩,by omega,h2,h3,λr H' r0 r1 P' K'=>?_⟩
    refine h4 r r0 r1 (.int r) G H' ⟨λ_ _ q=>q,λ_ _ q=>.inl q,λb o e n=>K' b o e n⟩ ⟨λb o e=>K' b o (wd.sub b o e) (λz=>by subst z; rw [wd.gpa] at e; cases e),wd.gpa,?_⟩ (.int r)
    obtain ⟨⟨k2,l2,e2,g1,g2⟩,_,_,_⟩:=P'
    exact ⟨_,e2,k2,l2,rfl,g1,g2,q3,q4⟩
theorem ZiW {ts:List Addr} {D:Ends} {p c:Addr} {ns:List Int} {H:Hp} {σ:St} {s:List Sl->Tr Ou} {n:Nat} (P:Pen2 H p c ns 0) (hT:∀ t∈ts,H t=some (.cod #[])) (hσ:σ.length=n+2) (h1:σ[1]?=some (some (.ref p))) (hrt:∀ H',(∀ t∈ts,H' t=some (.cod #[]))->D.rt (.bl true) H')
  (h:(s (.un::.pen::List.replicate n .un)).ok 0 λ_ o=>o=.ret (.d (.bool true))):∃ cn,bq (PKs ts (bI cn)) s D σ H:=by
 obtain ⟨⟨k,l,e,hk,hl⟩,hc,hn,ncp⟩:=P
 have npc:p≠c:=Ne.symm ncp
 have pts:p ∉ ts:=λz=>by
  have:=hT p z
  rw [e] at this
  cases this
 have key:∀ (i:Nat) (sl:Sl),(Sl.un::.pen::List.replicate n .un)[i]?=some sl->sl=.un\/(i=1/\sl=.pen):=λi sl hi=>by
  match i with
  | 0=>simp at hi; exact .inl hi.symm
  | 1=>simp at hi; exact .inr ⟨rfl,hi.symm⟩
  | i+2 =>
   simp [List.getElem?_replicate] at hi
   exact .inl hi.2.symm
 obtain ⟨G,gs,gp,gc,gt⟩:∃ G:Hp,Sub G H/\G p=none/\G c=some (.lst (ns.map V.int))/\∀ t∈ts,∃ ps,G t=some (.cod ps):=by
  refine ⟨λb=>if b=p then none else H b,λb o hb=>?_,if_pos rfl,?_,λt ht=>⟨#[],?_⟩⟩
  ·by_cases z:b=p
   ·simp [z] at hb
   ·simpa [z] using hb
  ·simp [ncp,hc]
  ·have:t≠p:=λz=>pts (z ▸ ht)
   simp [this,hT t ht]
 refine ⟨(c,ns),p,G,H,0,_,G,⟨⟨gs,gp,?_⟩,.refl,⟨_,e⟩,λi sl hi=>?_,by simp [hσ],λi j xs ys _ hi _=>?_,λi j xs ys _ hi _=>by rcases key i _ hi with z | ⟨_,z⟩ <;> cases z⟩,Tr.ok_mono h λm o ho=>?_⟩
 ·exact ⟨_,e,⟨k,l,rfl,hk,hl,gc,hn⟩,gt⟩
 ·have hlt:i < σ.length:=by
   have:=(List.getElem?_eq_some_iff.mp hi).1
   simp at this
   omega
  rcases key i sl hi with rfl | ⟨rfl,rfl⟩
  ·exact ⟨σ[i],by simp [hlt],.un⟩
  ·exact ⟨_,h1,.pen⟩
 ·rcases key i _ hi with z | ⟨_,z⟩ <;> cases z
 ·subst ho
  intro v G' H' s' w' d
  cases (show Dn G' v (.bool true) from d)
  exact hrt H' λt ht=>s'.hk _ _ (hT t ht) λz=>pts (z ▸ ht)
theorem ZfN {l:PySem.W.OpenLaw} {k:Nat} {q:Program} {loose:List Str} {XP:(Str->Option Value)->Heap->Prop} {d:DefRec} {K:Params->PySem.W.Frag} {as ts:List Addr} {e:∀ P:Params,as=(K P).map (λx=>x.fst)} {x:Str}
  (hn:l.most=some 63) (hdf:d.params.defaults=[]) (hr:Room k callerA)
  (F:∀ (w:World) (mg:Str->Option Value) (fa:Addr) (h:Heap),(K w.params).In h->h.Ns mainGlobals mg->mg d.name=some (.ref fa) ->
   ∃ (fd:FuncData) (us:List Addr),(∀ t∈us,t∈ts/\(K w.params).lookup t=none/\∃ c0,CodK (K w.params) c0 t)/\(∀ (s:Shared) (u:Value),BindsTo s fd ⟨[u],[]⟩ [(x,u)]) /\
    ∀ base:Heap,(K w.params).In base->base.Ns mainGlobals mg->BltK base mg->FnOk l.prog w (K w.params) mg base cJ k fa fd [x] (jW us (K w.params))) :
  PySem.W.WalkO q loose XP (PySem.W.kmHook K as e ts).says l.row.toRowW d [] (λf vs=>PySem.call f vs):=by
 refine Att.attach_call hn hdf λw s₀ s₁ mg mb fa o pm cd doc a vs ns G Y ho hd hcd hmg hobj hints hlen hg=>?_
 have KX:=PySem.W.km_in_of Y
 obtain ⟨fd,us,hu,hb,hF⟩:=F w mg fa _ KX G.T.g hmg
 exact ZiX KX G.T.g G.T.b G.T.builtins G.T.nolimit G.T.nodigits hg hobj hints (Nat.le_trans hlen (by decide)) hlen hr (λt ht=>PySem.W.km_tabs_of Y t (hu t ht).1) (λt ht=>(hu t ht).2.1) (λt ht=>(hu t ht).2.2) ⟨G.T.bmain⟩ hF hb
section
variable {K:PySem.W.Frag} {mg:Str->Option Value}
theorem Zmo {x:Str} {st:Stmt} {ps:List Str} {h:Heap} {f c0 Pt:Addr} {oc:Value} {od an cd:Option Addr} {osl cs:Array (Option Value)} {kV doc pm ct:Value} {vs:Array Value} (X:K.In h) (G:h.Ns mainGlobals mg)
  (a:PySem.W.nsIn K mainGlobals x=some (some (.ref f))) (l:K.lookup f=some ⟨oc,od,.func (PySem.W.fnOf x x (eZ st) (db st) (ap st) .none kV doc pm an (.ref c0) ct),osl⟩)
  (c:PySem.W.codeIn K (.ref c0) x=true) (k:PySem.W.keepIn K (.ref f)=true)
  (hb:∀ (kV doc pm:Value) (an:Option Addr) (cdv ct:Value) (us:List Value),us.length=ps.length->bindArgs (PySem.W.fnOf x x (eZ st) (db st) (ap st) .none kV doc pm an cdv ct) ⟨us,[]⟩=pure (ps.zip us))
  (e:K.lookup c0=some ⟨.type "code",cd,.fields vs,cs⟩)
  (v:∃ file tf flags tg inF text tt,vs[11]?=some (.ref Pt)/\vs.getD 18 .none=.str file tf/\vs.getD 7 .none=.int flags tg/\vs.getD 9 .none=.bool inF/\vs.getD 10 .none=.int text tt)
  (hP:K.lookup Pt=none):DefK K mg x st ps c0 Pt:=by
 have F:=Zdw (st:=st) l c k
 obtain ⟨file,tf,flags,tg,inF,text,tt,v1,v2,v3,v4,v5⟩:=v
 have ne:c0≠Pt:=λz=>by
  subst z
  rw [hP] at e
  cases e
 exact ⟨⟨f,oc,od,kV,doc,pm,an,ct,osl,PySem.W.mg_of X G a,l,k,F.binds hb⟩,c,⟨_,vs,file,tf,flags,tg,inF,text,tt,e,rfl,rfl,v1,v2,v3,v4,v5⟩,ne⟩
end
section
variable {K:PySem.W.Frag} {mg:Str->Option Value}
noncomputable def Tb (K:PySem.W.Frag) (ts:List Addr) (t:Addr):Prop:=t∈ts/\K.lookup t=none/\∃ c0,CodK K c0 t
theorem Zej {x:Str} {st:Stmt} {ps:List Str} {h:Heap} {ts:List Addr} {f c0 Pt:Addr} {oc:Value} {od an cd:Option Addr} {osl cs:Array (Option Value)} {kV doc pm ct:Value} {vs:Array Value} (X:K.In h) (G:h.Ns mainGlobals mg)
  (a:PySem.W.nsIn K mainGlobals x=some (some (.ref f))) (l:K.lookup f=some ⟨oc,od,.func (PySem.W.fnOf x x (eZ st) (db st) (ap st) .none kV doc pm an (.ref c0) ct),osl⟩)
  (c:PySem.W.codeIn K (.ref c0) x=true) (k:PySem.W.keepIn K (.ref f)=true)
  (hb:∀ (kV doc pm:Value) (an:Option Addr) (cdv ct:Value) (us:List Value),us.length=ps.length->bindArgs (PySem.W.fnOf x x (eZ st) (db st) (ap st) .none kV doc pm an cdv ct) ⟨us,[]⟩=pure (ps.zip us))
  (e:K.lookup c0=some ⟨.type "code",cd,.fields vs,cs⟩)
  (v:∃ file tf flags tg inF text tt,vs[11]?=some (.ref Pt)/\vs.getD 18 .none=.str file tf/\vs.getD 7 .none=.int flags tg/\vs.getD 9 .none=.bool inF/\vs.getD 10 .none=.int text tt)
  (m:(ts.contains Pt)=true) (hP:K.lookup Pt=none):∃ c0 Pt,DefK K mg x st ps c0 Pt/\Tb K ts Pt:=by
 have D:=Zmo (st:=st) (ps:=ps) X G a l c k hb e v hP
 exact ⟨c0,Pt,D,by simpa using m,hP,c0,D.ck⟩
theorem ZfW {q:Program} {w:World} {k:Nat} {x x1 x2:Str} {st1 st2:Stmt} {ps1 ps2:List Str} {ts:List Addr} {fa:Addr} {fd:FuncData} (h1:∃ c0 Pt,DefK K mg x1 st1 ps1 c0 Pt/\Tb K ts Pt) (h2:∃ c0 Pt,DefK K mg x2 st2 ps2 c0 Pt/\Tb K ts Pt)
  (hb:∀ (s:Shared) (u:Value),BindsTo s fd ⟨[u],[]⟩ [(x,u)])
  (U:∀ (c1 P1 c2 P2:Addr),DefK K mg x1 st1 ps1 c1 P1->DefK K mg x2 st2 ps2 c2 P2->∀ base:Heap,BltK base mg->FnOk q w K mg base cJ k fa fd [x] (jW [P1,P2] K)) :
  ∃ (fd:FuncData) (us:List Addr),(∀ t∈us,t∈ts/\K.lookup t=none/\∃ c0,CodK K c0 t)/\(∀ (s:Shared) (u:Value),BindsTo s fd ⟨[u],[]⟩ [(x,u)]) /\
   ∀ base:Heap,K.In base->base.Ns mainGlobals mg->BltK base mg->FnOk q w K mg base cJ k fa fd [x] (jW us K):=by
 obtain ⟨c1,P1,D1,M1⟩:=h1
 obtain ⟨c2,P2,D2,M2⟩:=h2
 refine ⟨fd,[P1,P2],λt ht=>?_,hb,λbase _ _ BK=>U c1 P1 c2 P2 D1 D2 base BK⟩
 simp only [List.mem_cons,List.not_mem_nil,or_false] at ht
 rcases ht with rfl | rfl
 ·exact M1
 ·exact M2
end
end L2
namespace My
open PySem PySem.Spec PyProof.Rows L2
noncomputable def top (i:Nat):Stmt:=PySem.Challenge.pw_twomarks_k44_whole_orders_under_way.main.body.getD i (.Pass ⟨0,0,0,0⟩)
noncomputable abbrev Zbh:Stmt:=top 5
noncomputable abbrev Zox:List Str:=["one","other"]
theorem pB:FnScope Zox ["one","other"] (ap Zbh):=⟨rfl,rfl,rfl,by decide +kernel,rfl,by decide +kernel,by decide +kernel⟩
noncomputable abbrev Zba:Stmt:=top 6
noncomputable abbrev Zoq:List Str:=["top","bottom","divisor"]
theorem pz:FnScope Zoq ["top","bottom"] (ap Zba):=⟨rfl,rfl,rfl,by decide +kernel,rfl,by decide +kernel,by decide +kernel⟩
noncomputable abbrev pI:Stmt:=top 17
noncomputable abbrev lB:List Str:=["day"]
theorem ZgZ:FnScope lB ["day"] (ap pI):=⟨rfl,rfl,rfl,by decide +kernel,rfl,by decide +kernel,by decide +kernel⟩
noncomputable abbrev Zbc:Stmt:=top 18
noncomputable abbrev Zos:List Str:=["shop","level","fall"]
theorem ZgX:FnScope Zos ["shop","level","fall"] (ap Zbc):=⟨rfl,rfl,rfl,by decide +kernel,rfl,by decide +kernel,by decide +kernel⟩
noncomputable abbrev Zbf:Stmt:=top 19
noncomputable abbrev Zov:List Str:=["shop","level","fall","stock","sold_never","held"]
theorem lX:FnScope Zov ["shop","level","fall"] (ap Zbf):=⟨rfl,rfl,rfl,by decide +kernel,rfl,by decide +kernel,by decide +kernel⟩
noncomputable abbrev Zbe:Stmt:=top 20
noncomputable abbrev Zou:List Str:=["shop","stock"]
theorem Zg1:FnScope Zou ["shop","stock"] (ap Zbe):=⟨rfl,rfl,rfl,by decide +kernel,rfl,by decide +kernel,by decide +kernel⟩
noncomputable abbrev Zbi:Stmt:=top 22
noncomputable abbrev Zoy:List Str:=["shop","low","by_level","scale","picks","best","stock","own","cost","level"]
theorem gK:FnScope Zoy ["shop","low","by_level","scale"] (ap Zbi):=⟨rfl,rfl,rfl,by decide +kernel,rfl,by decide +kernel,by decide +kernel⟩
noncomputable abbrev pJ:Stmt:=top 24
noncomputable abbrev oy:List Str:=["shop","falls","t"]
theorem Zg0:FnScope oy ["shop","falls","t"] (ap pJ):=⟨rfl,rfl,rfl,by decide +kernel,rfl,by decide +kernel,by decide +kernel⟩
noncomputable abbrev Zbj:Stmt:=top 26
noncomputable abbrev Zoz:List Str:=["shop","falls","stock"]
theorem Zg2:FnScope Zoz ["shop","falls","stock"] (ap Zbj):=⟨rfl,rfl,rfl,by decide +kernel,rfl,by decide +kernel,by decide +kernel⟩
noncomputable abbrev Zbb:Stmt:=top 27
noncomputable abbrev Zor:List Str:=["days","scale","day"]
theorem lW:FnScope Zor ["days"] (ap Zbb):=⟨rfl,rfl,rfl,by decide +kernel,rfl,by decide +kernel,by decide +kernel⟩
noncomputable abbrev Za8:Stmt:=top 28
noncomputable abbrev Zoo:List Str:=["days","weights","day","longer","fallen","weight","fall","own"]
theorem ge:FnScope Zoo ["days"] (ap Za8):=⟨rfl,rfl,rfl,by decide +kernel,rfl,by decide +kernel,by decide +kernel⟩
noncomputable abbrev pF:Stmt:=top 29
noncomputable abbrev lz:List Str:=["shop","weights","stock"]
theorem ZgV:FnScope lz ["shop","weights","stock"] (ap pF):=⟨rfl,rfl,rfl,by decide +kernel,rfl,by decide +kernel,by decide +kernel⟩
noncomputable abbrev pE:Stmt:=top 30
noncomputable abbrev ly:List Str:=["shop","weights","stock"]
theorem ZgU:FnScope ly ["shop","weights","stock"] (ap pE):=⟨rfl,rfl,rfl,by decide +kernel,rfl,by decide +kernel,by decide +kernel⟩
noncomputable abbrev pG:Stmt:=top 31
noncomputable abbrev lA:List Str:=["day","ahead","level"]
theorem ZgW:FnScope lA ["day","ahead","level"] (ap pG):=⟨rfl,rfl,rfl,by decide +kernel,rfl,by decide +kernel,by decide +kernel⟩
noncomputable abbrev Zbg:Stmt:=top 32
noncomputable abbrev Zow:List Str:=["shop","falls","days","ahead","low","scale","later","weights","by_level","level","total"]
theorem ii:FnScope Zow ["shop","falls","days","ahead","low"] (ap Zbg):=⟨rfl,rfl,rfl,by decide +kernel,rfl,by decide +kernel,by decide +kernel⟩
noncomputable abbrev pH:Stmt:=top 33
noncomputable abbrev ow:List Str:=["falls","t","stock"]
theorem ZgY:FnScope ow ["falls","t","stock"] (ap pH):=⟨rfl,rfl,rfl,by decide +kernel,rfl,by decide +kernel,by decide +kernel⟩
noncomputable abbrev pK:Stmt:=top 34
noncomputable abbrev oz:List Str:=["shop","falls","orders","stock","weights","low"]
theorem pA:FnScope oz ["shop","falls","orders","stock"] (ap pK):=⟨rfl,rfl,rfl,by decide +kernel,rfl,by decide +kernel,by decide +kernel⟩
noncomputable abbrev l5:Stmt:=top 35
noncomputable abbrev f9:List Str:=["shop","falls","days","stock","orders","ahead","told","t","low","scale","picks"]
theorem gg:FnScope f9 ["shop","falls","days","stock"] (ap l5):=⟨rfl,rfl,rfl,by decide +kernel,rfl,by decide +kernel,by decide +kernel⟩
noncomputable abbrev Zbd:Stmt:=top 36
noncomputable abbrev Zot:List Str:=["shop","falls","days","stock","told","total","t"]
theorem jZ:FnScope Zot ["shop","falls","days","stock"] (ap Zbd):=⟨rfl,rfl,rfl,by decide +kernel,rfl,by decide +kernel,by decide +kernel⟩
noncomputable abbrev Za9:Stmt:=top 37
noncomputable abbrev Zop:List Str:=["shop","falls","days","stock","told","total"]
theorem pr:FnScope Zop ["shop","falls","days","stock"] (ap Za9):=⟨rfl,rfl,rfl,by decide +kernel,rfl,by decide +kernel,by decide +kernel⟩
noncomputable abbrev Zbn:Stmt:=top 39
noncomputable abbrev ZoD:List Str:=["_law_script"]
theorem Zg4:FnScope ZoD ["_law_script"] (ap Zbn):=⟨rfl,rfl,rfl,by decide +kernel,rfl,by decide +kernel,by decide +kernel⟩
noncomputable abbrev Zbr:Stmt:=top 40
noncomputable abbrev ZoH:List Str:=["_law_pen_here","_law_many","_law_digit","_law_at","_law_cell","_law_mixed_here"]
theorem iS:FnScope ZoH ["_law_pen_here","_law_many"] (ap Zbr):=⟨rfl,rfl,rfl,by decide +kernel,rfl,by decide +kernel,by decide +kernel⟩
noncomputable abbrev pO:Stmt:=top 41
noncomputable abbrev oB:List Str:=["_law_pen_here","_law_most","_law_behind","_law_bound","_law_weights"]
theorem lZ:FnScope oB ["_law_pen_here","_law_most"] (ap pO):=⟨rfl,rfl,rfl,by decide +kernel,rfl,by decide +kernel,by decide +kernel⟩
noncomputable abbrev pN:Stmt:=top 42
noncomputable abbrev jN:List Str:=["_law_falls"]
theorem Zg6:FnScope jN ["_law_falls"] (ap pN):=⟨rfl,rfl,rfl,by decide +kernel,rfl,by decide +kernel,by decide +kernel⟩
noncomputable abbrev pM:Stmt:=top 43
noncomputable abbrev oA:List Str:=["_law_pen_here","_law_bound","_law_found"]
theorem pD:FnScope oA ["_law_pen_here"] (ap pM):=⟨rfl,rfl,rfl,by decide +kernel,rfl,by decide +kernel,by decide +kernel⟩
noncomputable abbrev pQ:Stmt:=top 44
noncomputable abbrev oC:List Str:=["_law_pen_here","_law_falls","_law_more","_law_top","_law_depth","_law_stock"]
theorem iT:FnScope oC ["_law_pen_here"] (ap pQ):=⟨rfl,rfl,rfl,by decide +kernel,rfl,by decide +kernel,by decide +kernel⟩
noncomputable abbrev Zbo:Stmt:=top 45
noncomputable abbrev ZoE:List Str:=["_law_shop","_law_pieces"]
theorem Zg5:FnScope ZoE ["_law_shop","_law_pieces"] (ap Zbo):=⟨rfl,rfl,rfl,by decide +kernel,rfl,by decide +kernel,by decide +kernel⟩
noncomputable abbrev Zbm:Stmt:=top 46
noncomputable abbrev ZoC:List Str:=["_law_shop","_law_rest"]
theorem Zg3:FnScope ZoC ["_law_shop","_law_rest"] (ap Zbm):=⟨rfl,rfl,rfl,by decide +kernel,rfl,by decide +kernel,by decide +kernel⟩
noncomputable abbrev Zbq:Stmt:=top 47
noncomputable abbrev ZoG:List Str:=["_law_shop","_law_rest"]
theorem Zg7:FnScope ZoG ["_law_shop","_law_rest"] (ap Zbq):=⟨rfl,rfl,rfl,by decide +kernel,rfl,by decide +kernel,by decide +kernel⟩
noncomputable abbrev Zbs:Stmt:=top 48
noncomputable abbrev ZoI:List Str:=["_law_falls","_law_t","_law_found","_law_one"]
theorem l0:FnScope ZoI ["_law_falls","_law_t"] (ap Zbs):=⟨rfl,rfl,rfl,by decide +kernel,rfl,by decide +kernel,by decide +kernel⟩
noncomputable abbrev Zbl:Stmt:=top 49
noncomputable abbrev ZoB:List Str:=["_law_top","_law_bottom_here","_law_one","_law_other"]
theorem pC:FnScope ZoB ["_law_top","_law_bottom_here"] (ap Zbl):=⟨rfl,rfl,rfl,by decide +kernel,rfl,by decide +kernel,by decide +kernel⟩
noncomputable abbrev pL:Stmt:=top 50
noncomputable abbrev lD:List Str:=["_law_falls","_law_rows_here","_law_one","_law_more","_law_row","_law_many"]
theorem ij:FnScope lD ["_law_falls"] (ap pL):=⟨rfl,rfl,rfl,by decide +kernel,rfl,by decide +kernel,by decide +kernel⟩
noncomputable abbrev ik:Stmt:=top 51
noncomputable abbrev lC:List Str:=["_law_table","_law_stock","_law_falls","_law_lowest"]
theorem Za6:FnScope lC ["_law_table","_law_stock","_law_falls"] (ap ik):=⟨rfl,rfl,rfl,by decide +kernel,rfl,by decide +kernel,by decide +kernel⟩
noncomputable abbrev iU:Stmt:=top 52
noncomputable abbrev ZfD:List Str:=["_law_shop","_law_key"]
theorem Zg9:FnScope ZfD ["_law_shop","_law_key"] (ap iU):=⟨rfl,rfl,rfl,by decide +kernel,rfl,by decide +kernel,by decide +kernel⟩
noncomputable abbrev Zbp:Stmt:=top 53
noncomputable abbrev ZoF:List Str:=["_law_key","_law_t","_law_counted","_law_row","_law_number","_law_fall"]
theorem lY:FnScope ZoF ["_law_key","_law_t","_law_counted","_law_row"] (ap Zbp):=⟨rfl,rfl,rfl,by decide +kernel,rfl,by decide +kernel,by decide +kernel⟩
noncomputable abbrev Zbk:Stmt:=top 54
noncomputable abbrev ZoA:List Str:=["_law_shop","_law_days","_law_stock","_law_row","_law_way","_law_coming","_law_lies","_law_paid","_law_t","_law_counted"]
theorem fL:FnScope ZoA ["_law_shop","_law_days","_law_stock","_law_row","_law_way"] (ap Zbk):=⟨rfl,rfl,rfl,by decide +kernel,rfl,by decide +kernel,by decide +kernel⟩
noncomputable abbrev pP:Stmt:=top 55
noncomputable abbrev lF:List Str:=["_law_shop","_law_falls","_law_days","_law_stock","_law_way"]
theorem Zg8:FnScope lF ["_law_shop","_law_falls","_law_days","_law_stock","_law_way"] (ap pP):=⟨rfl,rfl,rfl,by decide +kernel,rfl,by decide +kernel,by decide +kernel⟩
noncomputable abbrev l7:Stmt:=top 56
noncomputable abbrev ox:List Str:=["_law_script","_law_pen_here","_law_keys","_law_shop","_law_falls","_law_stock","_law_bottom_here","_law_days","_law_table","_law_told_here","_law_kept","_law_cost_here","_law_key"]
theorem eA:FnScope ox ["_law_script"] (ap l7):=⟨rfl,rfl,rfl,by decide +kernel,rfl,by decide +kernel,by decide +kernel⟩
structure Txt (K:PySem.W.Frag) (mg:Str->Option Value):Prop where
 eT:mg "len"=none
 je:mg "abs"=none
 iw:mg "max"=none
 qu:mg "min"=none
 mE:mg "repr"=none
 Ziv:mg "int"=none
 Ziu:mg "list"=none
 kz:mg "tuple"=none
 eB:mg "range"=none
 fP:mg "sum"=none
 gT:mg "enumerate"=none
 ZoN:mg "ValueError"=none
 ZcD:mg "reversed"=none
 nK:∃ t,mg "TOP"=some (.int 0 t)
 Zdu:∃ t,mg "DEPTH"=some (.int 1 t)
 Zjw:∃ t,mg "START"=some (.int 2 t)
 Zdt:∃ t,mg "PIECE"=some (.int 3 t)
 ZjA:∃ t,mg "KEEP"=some (.int 4 t)
 Zjz:∃ t,mg "LACK"=some (.int 5 t)
 Zjx:∃ t,mg "LOST"=some (.int 6 t)
 ZjB:∃ t,mg "BACK"=some (.int 7 t)
 Zjy:∃ t,mg "LATE"=some (.int 8 t)
 ZmJ:Def K mg "common_divisor" Zbh ["one","other"]
 Zmw:Def K mg "share" Zba ["top","bottom"]
 ZmC:Def K mg "greatest_seen" pI ["day"]
 Zmy:Def K mg "next_stock" Zbc ["shop","level","fall"]
 ZmH:Def K mg "day_cost" Zbf ["shop","level","fall"]
 ZmF:Def K mg "end_cost" Zbe ["shop","stock"]
 ZmK:Def K mg "cheapest_from" Zbi ["shop","low","by_level","scale"]
 ZmE:Def K mg "free_from" pJ ["shop","falls","t"]
 ZmL:Def K mg "ask_free" Zbj ["shop","falls","stock"]
 Zmx:Def K mg "scale_of" Zbb ["days"]
 Zmq:Def K mg "weights_together" Za8 ["days"]
 Zms:Def K mg "weighed_day" pF ["shop","weights","stock"]
 Zmr:Def K mg "weighed_end" pE ["shop","weights","stock"]
 Zmt:Def K mg "weighed_ahead" pG ["day","ahead","level"]
 ZmI:Def K mg "counted_sums" Zbg ["shop","falls","days","ahead","low"]
 ZmA:Def K mg "least_counted" pH ["falls","t","stock"]
 ZmG:Def K mg "end_ahead" pK ["shop","falls","orders","stock"]
 Zmv:Def K mg "short_days" l5 ["shop","falls","days","stock"]
 Zmz:Def K mg "least_late" Zbd ["shop","falls","days","stock"]
 Zmu:Def K mg "short_table" Za9 ["shop","falls","days","stock"]
 ZmR:Def K mg "_law_pen" Zbn ["_law_script"]
 ZmW:Def K mg "_law_draw" Zbr ["_law_pen_here","_law_many"]
 ZmX:Def K mg "_law_day" pO ["_law_pen_here","_law_most"]
 ZmU:Def K mg "_law_greatest" pN ["_law_falls"]
 ZmQ:Def K mg "_law_prices" pM ["_law_pen_here"]
 Zm0:Def K mg "_law_asked" pQ ["_law_pen_here"]
 ZmS:Def K mg "_law_order" Zbo ["_law_shop","_law_pieces"]
 ZmP:Def K mg "_law_rest_cost" Zbm ["_law_shop","_law_rest"]
 ZmV:Def K mg "_law_end" Zbq ["_law_shop","_law_rest"]
 ZmZ:Def K mg "_law_bottom" Zbs ["_law_falls","_law_t"]
 ZmN:Def K mg "_law_share" Zbl ["_law_top","_law_bottom_here"]
 ZmO:Def K mg "_law_rows" pL ["_law_falls"]
 ZoR:Def K mg "_law_told" ik ["_law_table","_law_stock","_law_falls"]
 ZoS:Def K mg "_law_any" iU ["_law_shop","_law_key"]
 ZmT:Def K mg "_law_mixed" Zbp ["_law_key","_law_t","_law_counted","_law_row"]
 ZmM:Def K mg "_law_walked" Zbk ["_law_shop","_law_days","_law_stock","_law_row","_law_way"]
 ZmY:Def K mg "_law_cost" pP ["_law_shop","_law_falls","_law_days","_law_stock","_law_way"]
 ZmB:Def K mg "law" l7 ["_law_script"]
theorem Znd (ns:List Int) (a:Nat) (h:ns≠[]):∃ z:Int,bb (ns.map V.int) ((a:Int) % ((ns.map V.int).length:Nat))=some (.int z):=by
 have hl:0 < ns.length:=List.length_pos_iff.mpr h
 have hl':(ns.map V.int).length=ns.length:=List.length_map ..
 have e:(a:Int) % ((ns.map V.int).length:Nat)=((a % ns.length:Nat):Int):=by rw [hl']; omega
 have hlt:a % ns.length < ns.length:=Nat.mod_lt _ hl
 rw [e]
 exact ⟨ns[a % ns.length],fH (by rw [List.getElem?_map,List.getElem?_eq_getElem hlt]; rfl)⟩
section
variable {P:Program} {w:World} {K:PySem.W.Frag} {mg:Str->Option Value} {base:Heap}
theorem Zig (T:Txt K mg):Callee P w K mg base "_law_pen" 1 ["_law_script"] (Zgw K):=by
 refine T.ZmR.ok Zg4 (λvs H Q E h=>?_) (λf cdv A outer s H vs Q E hr h=>?_)
 ·obtain ⟨a,ns,rfl,_⟩:=h
  rfl
 ·obtain ⟨a,ns,rfl,hS,hlen,k⟩:=h
  have hu:=kT hr
  refine ⟨_,(i6 (im (Zcr (cB (gr (Znm) rfl T.Ziu boot_list (cB (qg ZaY (pv 0) Zcn (Zcm bP)) cT)) (cB bP (cB bP cT)))))),?_⟩
  refine ⟨_,rfl,63,rfl,a,_,rfl,hS,λq hq=>⟨q,_,rfl,Or.inl (SqL.of bT),λc hc=>⟨by show 3<=sizeLine; decide,λp hp=>?_⟩⟩⟩
  have hcut:e9 (ns.map V.int) none (some 63)=ns.map V.int:=by
   unfold e9
   have e:HT.aA (ns.map V.int).length (ns.map V.int).length (some 63)=(ns.map V.int).length:=by
    have q:=HT.pR (ns.map V.int).length (ns.map V.int).length 63
    rw [List.length_map] at q ⊢
    exact q.trans (Nat.min_eq_right hlen)
   rw [e]
   show ((ns.map V.int).drop 0).take ((ns.map V.int).length - 0)=_
   rw [List.drop_zero,Nat.sub_zero,List.take_length]
  have s1:Same H (upd H q (.lst (e9 (ns.map V.int) none (some 63)))):=(Same.refl _).new hq
  have s2:=s1.new (o:=.lst (e9 (ns.map V.int) none (some 63))) hc
  have s3:=s2.new (o:=.lst [.ref c,.int 0,.int 0]) hp
  have npc:c≠p:=λz=>by
   rw [<- z,bT] at hp
   cases hp
  refine k p c _ (s2.free hp) ⟨⟨0,0,bT,Nat.le_refl _,Int.le_refl _⟩,?_,hlen,npc⟩ s3
  rw [az npc,bT,hcut]
theorem ZnR {z a:Int} (h3:0<=a) (h4:a<=500000):(z % 2147483629+52009 * a+43).natAbs < 2 ^ 64:=by
 have:=Int.emod_nonneg z (by decide:(2147483629:Int)≠0)
 have:=Int.emod_lt_of_pos z (by decide:(0:Int) < 2147483629)
 omega
theorem Zij (T:Txt K mg):Callee P w K mg base "_law_draw" 1 ["_law_pen_here","_law_many"] ZaP:=by
 refine T.ZmW.ok iS (λvs H Q E h=>?_) (λf cdv A outer s H vs Q E hr h=>?_)
 ·obtain ⟨p,c,ns,m,most,rfl,_⟩:=h
  rfl
 ·obtain ⟨p,c,ns,m,most,rfl,hP,hm,h0,h1,k⟩:=h
  have hu:=kT hr
  refine ⟨_,(eQ (mv (kh fO (fv fE (pv 0) bP (λ_ _=>rfl)) bP (nomark _)) (eQ (aJ (i:=2) iS.nd rfl (Or.inl rfl) (cq gR (fv fE (pv 0) bP (λ_ _=>rfl)) (pv 1)))
 (eQ (fN (cq qm (fv fE (pv 0) bP (λ_ _=>rfl)) (pv 1)) (i8 (pv 0) bP ig))
 (i6 (im (pv 2))))) mq)
 (eQ (aJ (i:=3) iS.nd rfl (Or.inl rfl) (fv fE (pv 0) bP (λ_ _=>rfl)))
 (eQ (fN (cq iq (pv 3) bP) (i8 (pv 0) bP ig))
 (eQ (aJ (i:=4) iS.nd rfl (Or.inl rfl) (cq iq (cq ql bP (pv 3)) bP))
 (eQ (PS.join (mv (kh fO (bj (fb) rfl T.eT boot_len (cB (fv fE (pv 0) bP (λ_ _=>rfl)) cT)) bP (nomark _)) (i6 (aJ (i:=4) iS.nd rfl (Or.inl rfl) (fv fE (fv fE (pv 0) bP (λ_ _=>rfl)) (cq gR (pv 3) (bj (fb) rfl T.eT boot_len (cB (fv fE (pv 0) bP (λ_ _=>rfl)) cT))) (λ_ _=>rfl)))) mq))
 (eQ (mv (PT.join (PW.pt (ZhA (kh ku (pv 3) (bj (fb) rfl T.eT boot_len (cB (fv fE (pv 0) bP (λ_ _=>rfl)) cT)) (nomark _)) (Zhz (kh Zh8 (bj (jC) rfl T.je boot_abs (cB (pv 4) cT)) (cq kr bP bP) (nomark _)))))) (eQ (fN (cq qm (bj (jC) rfl T.je boot_abs (cB (pv 4) cT)) (pv 1)) (i8 (pv 0) bP ig))
 (i6 (im (cq gR (bj (jC) rfl T.je boot_abs (cB (pv 4) cT)) (pv 1))))) mq)
 (eQ (aJ (i:=5) iS.nd rfl (Or.inl rfl) (cq gR (cq kr (cq iq (cq iq (cq gR (pv 4) bP) (cq ql bP (pv 3))) bP) bP) bP))
 (i6 (im (cq gR (cq qm (cq gR (cq ql (pv 5) (cq iq (cq iq (cq gR (pv 5) bP) (pv 3)) bP)) bP) bP) (pv 1))))))))))),?_⟩
  obtain ⟨⟨a,l,hd,ha,hl⟩,hc,hn,npc⟩:=hP
  have hd':H p=some (.lst [.ref c,.int a,.int l]):=hd
  have x2:bb [V.ref c,.int (a:Int),.int l] 2=some (.int l):=rE
  have x1:bb [V.ref c,.int (a:Int),.int l] 1=some (.int (a:Int)):=nW
  refine ⟨_,rfl,p,_,_,_,rfl,rfl,SqL.of hd',x2,_,_,rfl,rfl,_,rfl,?_⟩
  refine nD (λhz=>?_) (λhz=>?_)
  ·refine ⟨_,rfl,p,_,_,_,rfl,rfl,SqL.of hd',x2,_,rfl,_,_,rfl,rfl,h0,?_⟩
   refine ⟨_,rfl,p,_,_,_,rfl,rfl,SqL.of hd',x2,_,rfl,_,_,rfl,rfl,⟨h0,h1⟩,_,rfl,p,_,2,2,rfl,rfl,hd',rfl,?_⟩
   refine ⟨_,rfl,k _ _ (Int.emod_nonneg _ (by omega)) (Int.emod_lt_of_pos _ h0) ⟨⟨a,l / most,bT,by omega,Int.ediv_nonneg hl (by omega)⟩,by rw [az npc]; exact hc,hn,npc⟩ Kept.refl.pen⟩
  ·refine ⟨_,rfl,p,_,_,_,rfl,rfl,SqL.of hd',x1,?_⟩
   refine ⟨_,rfl,_,_,rfl,rfl,_,rfl,p,_,1,1,rfl,rfl,hd',rfl,?_⟩
   have hd1:(upd H p (.lst ([V.ref c,.int (a:Int),.int l].set 1 (.int ((a:Int)+1))))) p=some (.lst [.ref c,.int ((a:Int)+1),.int l]):=bT
   have hc1:(upd H p (.lst ([V.ref c,.int (a:Int),.int l].set 1 (.int ((a:Int)+1))))) c=some (.lst (ns.map V.int)):=by
    rw [az npc]
    exact hc
   have k1:Kept p H (upd H p (.lst ([V.ref c,.int (a:Int),.int l].set 1 (.int ((a:Int)+1))))):=Kept.refl.pen
   generalize upd H p (.lst ([V.ref c,.int (a:Int),.int l].set 1 (.int ((a:Int)+1))))=H1 at hd1 hc1 k1
   have y0:bb [V.ref c,.int ((a:Int)+1),.int l] 0=some (.ref c):=lf
   refine ⟨_,rfl,_,_,rfl,rfl,.inl ⟨by decide,by decide⟩,_,_,rfl,rfl,?_⟩
   refine ⟨λσ' H'=>∃ (z:Int),σ'=[some (.ref p),some (.int most),none,some (.int a),some (.int z),none]/\H' p=some (.lst [.ref c,.int ((a:Int)+1),.int l])/\H' c=some (.lst (ns.map V.int))/\Kept p H H',?_,?_⟩
   ·refine ⟨_,rfl,p,_,_,_,rfl,rfl,SqL.of hd1,y0,c,_,rfl,.inl (SqL.of hc1),_,_,rfl,rfl,_,rfl,?_⟩
    refine nD (λhne=>?_) (λ_=>?_)
    ·have hpos:0 < (((ns.map V.int).length:Nat):Int):=of_decide_eq_true hne
     have hne':ns≠[]:=by
      rintro rfl
      cases hpos
     obtain ⟨z,hz2⟩:=Znd ns a hne'
     refine ⟨_,rfl,p,_,_,_,rfl,rfl,SqL.of hd1,y0,_,rfl,_,rfl,p,_,_,_,rfl,rfl,SqL.of hd1,y0,c,_,rfl,.inl (SqL.of hc1),_,_,rfl,rfl,hpos,c,_,_,_,rfl,rfl,SqL.of hc1,hz2,?_⟩
     exact ⟨z,rfl,hd1,hc1,k1⟩
    ·exact ⟨_,rfl,hd1,hc1,k1⟩
   ·rintro σ2 H2 ⟨z,rfl,hd2,hc2,k2⟩
    refine ⟨λ_ H'=>H'=H2,?_,?_⟩
    ·refine ⟨_,rfl,_,rfl,p,_,_,_,rfl,rfl,SqL.of hd2,y0,c,_,rfl,.inl (SqL.of hc2),_,_,rfl,rfl,_,rfl,?_⟩
     refine nD (λ_=>?_) (λ_=>rfl)
     exact ⟨_,rfl,z,rfl,_,_,rfl,rfl,⟨by decide,by decide,by decide⟩,_,_,rfl,rfl,_,rfl,rfl⟩
    ·rintro b H3 rfl
     have ab:0<=(if z < 0 then -z else z):=by split <;> omega
     refine nD (λ_=>?_) (λ_=>?_)
     ·refine ⟨_,rfl,z,rfl,_,rfl,_,_,rfl,rfl,⟨h0,h1⟩,_,rfl,p,_,2,2,rfl,rfl,hd2,rfl,?_⟩
      refine ⟨_,rfl,z,rfl,_,rfl,_,_,rfl,rfl,h0,?_⟩
      refine k _ _ (Int.emod_nonneg _ (by omega)) (Int.emod_lt_of_pos _ h0) ⟨⟨a+1,_,bT,by omega,Int.ediv_nonneg ab (by omega)⟩,by rw [az npc]; exact hc2,hn,npc⟩ k2.pen
     ·refine ⟨_,rfl,_,_,rfl,rfl,(by show (0:Int) < 2147483629; decide),_,rfl,_,_,rfl,rfl,.inl ⟨by decide,by decide⟩,_,_,rfl,rfl,_,_,rfl,rfl,_,_,rfl,rfl,⟨by decide,by decide,ZnR (by omega) (by omega)⟩,_,_,rfl,rfl,(by show (0:Int) < 2147483647; decide),?_⟩
      have m0:0<=((z % 2147483629+52009 * (a:Int)+43) ^ (3:Int).toNat) % 2147483647:=Int.emod_nonneg _ (by decide)
      have m1:((z % 2147483629+52009 * (a:Int)+43) ^ (3:Int).toNat) % 2147483647 < 2147483647:=Int.emod_lt_of_pos _ (by decide)
      refine ⟨_,rfl,_,rfl,_,_,rfl,rfl,(by show (0:Int) < 65423; decide),_,rfl,_,_,rfl,rfl,_,_,rfl,rfl,_,_,rfl,rfl,.inl ⟨Int.lt_of_lt_of_le (by decide) m0,Int.lt_trans m1 (by decide)⟩,?_⟩
      refine ⟨_,_,rfl,rfl,(by show (0:Int) < 2147483587; decide),?_⟩
      refine ⟨_,_,rfl,rfl,⟨by decide,by decide⟩,_,rfl,_,_,rfl,rfl,h0,?_⟩
      exact k _ _ (Int.emod_nonneg _ (by omega)) (Int.emod_lt_of_pos _ h0) ⟨⟨a+1,l,hd2,by omega,hl⟩,hc2,hn,npc⟩ k2
end
section
variable {cn:Addr×List Int} {P:Program} {w:World} {K:PySem.W.Frag} {mg:Str->Option Value} {base:Heap}
noncomputable def oM:List Sl->Tr Bool :=
 (rP (aa 1))
noncomputable def qI:List Sl->Tr Ou :=
 (iG 0 1 (ae (aa 1) (ae (ad fy (aa 0) (aa 1)) ao)))
noncomputable def m7:List Sl->Tr Re:=bp 2 0
 (au (iG 0 1 (ae (bd jF (ae (aa 0) ao)) (ae (bd jF (ae (aa 1) ao)) ao)))
 (au (dP oM qI 100000)
 (eI 0)))
theorem ZnF (T:Txt K mg):ACal (bI cn) P w K mg base "common_divisor" 1 ["one","other"] m7:=bO T.ZmJ pB rfl λf cdv A outer sh H E hr=>by
 exact (ay (nY (mr (i:=0) (j:=1) rfl pB.nd rfl rfl (by decide) rfl rfl (ah (bn (t:=aY) (bj jC rfl T.je boot_abs (ah (ac (pv 0)) aq)) oQ) (ah (bn (t:=aY) (bj jC rfl T.je boot_abs (ah (ac (pv 1)) aq)) oQ) aq)) rfl))
 (ay (Zfg 100000 PassesOwn.never (ZnT (ac (pv 1)))
  (aK (nY (mr (i:=0) (j:=1) rfl pB.nd rfl rfl (by decide) rfl rfl (ah (ac (pv 1)) (ah (ak jd iO (ac (pv 0)) (ac (pv 1))) aq)) rfl))))
 (aK (iD (pv 0)))))
noncomputable def ka:List Sl->Tr PyData :=
 (aa 0)
noncomputable def km:List Sl->Tr Bool :=
 (cQ (ad (dH λi j=>decide (i > j)) (aa 1) (aC (.int 0))))
noncomputable def kJ:List Sl->Tr Re:=bp 1 0
 (bQ (bd jh (ae (bX (iH (fI (aa 0)) 2 [] (bh (aw (af 0) (aw (af 1) bc))) km ka)) ao)))
theorem ZeR (T:Txt K mg):ACal (bI cn) P w K mg base "greatest_seen" 1 ["day"] kJ:=bO T.ZmC ZgZ rfl λf cdv A outer sh H E hr=>by
 exact (aK (bW (bn (t:=aY) (bj (ZeJ rfl) rfl T.iw boot_max (ah (cE (n6 (my lB ["fall","weight"] [] rfl (hY (gQ rfl rfl T.gT (ac (pv 0)))) (λb=>(dw rfl (bG (aV (aU (i:=0) (show ((bN lB ["fall","weight"] [])).Nodup by decide +kernel) rfl (Or.inl rfl))) (bG (aV (aU (i:=1) (show ((bN lB ["fall","weight"] [])).Nodup by decide +kernel) rfl (Or.inl rfl))) dt)) (bD (bD dm)))) (λb=>(dq fO eM (ac (pv 1)) am (nomark _))) (λb=>(ac (pv 0))) rfl (show BlkOk lB (ap pI) _ [] from ⟨rfl,by decide +kernel,by decide +kernel,by decide +kernel,by decide +kernel⟩)) (gj (cS (bZ (by decide)) (cS (bZ (by decide)) gk))))) aq)) Zap)))
noncomputable def mL:List Sl->Tr Re:=bp 3 0
 (bQ (bd gW (ae (ad cm (aa 1) (aa 2)) (ae (gF (ad aO (aa 0) (aC (.int 1)))) ao))))
theorem Znu (T:Txt K mg):ACal (bI cn) P w K mg base "next_stock" 1 ["shop","level","fall"] mL:=bO T.Zmy ZgX rfl λf cdv A outer sh H E hr=>by
 exact (aK (bW (bn (t:=aY) (bj (la rfl) rfl T.iw boot_max (ah (ak cC cz (ac (pv 1)) (ac (pv 2))) (ah (jE (bx bw bv (ac (pv 0)) (dZ rfl T.Zdu) (λ_ _=>rfl))) aq))) jR)))
noncomputable def kK:List Sl->Tr Re:=bp 2 0
 (au (fh (cQ (ad (dH λi j=>decide (i > j)) (aa 1) (aC (.int 0))))
  (bQ (ad bu (gF (ad aO (aa 0) (aC (.int 7)))) (aa 1)))
  fg)
 (bQ (ad bu (ad aO (aa 0) (aC (.int 8))) (gF (aa 1)))))
theorem ZnB (T:Txt K mg):ACal (bI cn) P w K mg base "end_cost" 1 ["shop","stock"] kK:=bO T.ZmF Zg1 rfl λf cdv A outer sh H E hr=>by
 exact (ay (fY (dq fO eM (ac (pv 1)) am (nomark _))
 (aK (bW (ak bL bJ (jE (bx bw bv (ac (pv 0)) (dZ rfl T.ZjB) (λ_ _=>rfl))) (ac (pv 1)))))
 fX)
 (aK (bW (ak bL bJ (bx bw bv (ac (pv 0)) (dZ rfl T.Zjy) (λ_ _=>rfl)) (jE (ac (pv 1)))))))
noncomputable def Zda:List Sl->Tr Ou :=
 (au (aS 7 (cZ (ae (ad aO (aa 2) (ad cm (aa 6) (aa 1))) (ae (aa 6) ao))))
 (au (jJ (bh (aw (af 8) (aw (af 9) bc))) (bd gU (ae (aa 7) (ae (cZ (ae (ad aP (ad bu (aa 3) (ad aO (aa 0) (aC (.int 2)))) (ad aO (aa 5) (aC (.int 0)))) (ae (ad aO (aa 5) (aC (.int 1))) ao))) ao))))
 (au (jK 4 (cZ (ae (ad cm (aa 8) (ad bu (ad bu (aa 3) (ad aO (aa 0) (aC (.int 3)))) (aa 6))) (ae (aa 9) ao))))
 (aS 5 (bd gU (ae (aa 7) (ae (aa 5) ao)))))))
noncomputable def m8:List Sl->Tr Re:=bp 4 6
 (au (fZ 4 (dN ao))
 (au (aS 5 (cZ (ae (ad aO (aa 2) (gF (aC (.int 1)))) (ae (ad aO (aa 0) (aC (.int 0))) ao))))
 (au (dg (rR (ae (aa 1) (ae (ad aP (ad aO (aa 0) (aC (.int 0))) (aC (.int 1))) ao))) (af 6) Zda)
 (au (li 4)
 (eI 4)))))
theorem ZnG (T:Txt K mg):ACal (bI cn) P w K mg base "cheapest_from" 1 ["shop","low","by_level","scale"] m8:=bO T.ZmK gK rfl λf cdv A outer sh H E hr=>by
 exact (ay (iC (aJ (i:=4) gK.nd rfl (Or.inl rfl) (eG aq)))
 (ay (aX (aJ (i:=5) gK.nd rfl (Or.inl rfl) (dA (ah (bx bw bv (ac (pv 2)) (jE am) (λ_ _=>rfl)) (ah (bx bw bv (ac (pv 0)) (dZ rfl T.nK) (λ_ _=>rfl)) aq)))))
 (ay (dI PassesOwn.never rfl (Zn4 (Zcp rfl T.ZcD (gr Znj rfl T.eB boot_range (ah (ac (pv 1)) (ah (ak bg bf (bx bw bv (ac (pv 0)) (dZ rfl T.nK) (λ_ _=>rfl)) am) aq))))) (aV (aU (i:=6) gK.nd rfl (Or.inl rfl)))
  (ay (aX (aJ (i:=7) gK.nd rfl (Or.inl rfl) (dA (ah (bx bw bv (ac (pv 2)) (ak cC cz (ac (pv 6)) (ac (pv 1))) (λ_ _=>rfl)) (ah (ac (pv 6)) aq)))))
 (ay (n4 (fN (bn (t:=aY) (bj (ZeI hr rfl) rfl T.qu boot_min (ah (ac (pv 7)) (ah (dA (ah (ak bg bf (ak bL bJ (ac (pv 3)) (bx bw bv (ac (pv 0)) (dZ rfl T.Zjw) (λ_ _=>rfl))) (bx bw bv (ac (pv 5)) am (λ_ _=>rfl))) (ah (bx bw bv (ac (pv 5)) am (λ_ _=>rfl)) aq))) aq))) Zao) (dw rfl (bG (aV (aU (i:=8) gK.nd rfl (Or.inl rfl))) (bG (aV (aU (i:=9) gK.nd rfl (Or.inl rfl))) dt)) (bD (bD dm)))))
 (ay (rG (io (mz PySem.F.plainAttrs_list PySem.F.slot_list_append PySem.F.type_list_append qv (pv 4) (cB (dA (ah (ak cC cz (ac (pv 8)) (ak bL bJ (ak bL bJ (ac (pv 3)) (bx bw bv (ac (pv 0)) (dZ rfl T.Zdt) (λ_ _=>rfl))) (ac (pv 6)))) (ah (ac (pv 9)) aq))) cT))))
 (aK (aX (aJ (i:=5) gK.nd rfl (Or.inl rfl) (bn (t:=aY) (bj (ZeI hr rfl) rfl T.qu boot_min (ah (ac (pv 7)) (ah (ac (pv 5)) aq))) Zao))))))))
 (ay (Zfi (io (Zcu PySem.F.plainAttrs_list PySem.F.slot_list_reverse PySem.F.type_list_reverse ZcE (pv 4))))
 (aK (iD (pv 4)))))))
noncomputable def nj:List Sl->Tr Ou :=
 (lr kS 1 (bd cF (ae (aa 2) ao)))
noncomputable def gX:List Sl->Tr Re:=bp 1 2
 (au (aS 1 (aC (.int 1)))
 (au (dg (d7 (aa 0)) (af 2) nj)
 (eI 1)))
theorem lb (T:Txt K mg):ACal (bI cn) P w K mg base "scale_of" 1 ["days"] gX:=bO T.Zmx lW rfl λf cdv A outer sh H E hr=>by
 exact (ay (aX (aJ (i:=1) lW.nd rfl (Or.inl rfl) am))
 (ay (dI PassesOwn.never rfl (fe (ac (pv 0))) (aV (aU (i:=2) lW.nd rfl (Or.inl rfl)))
  (aK (Zfl ZfO (Zcl (i:=1) lW.nd rfl (Or.inl rfl) (bn (t:=aY) (bj (fV rfl) rfl T.fP boot_sum (ah (ac (pv 2)) aq)) fJ) (pip Zjg)))))
 (aK (iD (pv 1)))))
noncomputable def nh:List Sl->Tr Ou :=
 (lq (λi j=>i+j) 3 (ad aP (aa 4) (aa 6)) (ad bu (aa 5) (aa 7)))
noncomputable def ng:List Sl->Tr Ou :=
 (dg (fI (aa 2)) (bh (aw (af 6) (aw (af 7) bc))) nh)
noncomputable def na:List Sl->Tr Ou :=
 (au (fZ 3 (lp il (bX (dN (ae (aC (.int 0)) ao))) (ad cm (ad aP (bd cP (ae (aa 1) ao)) (bd cP (ae (aa 2) ao))) (aC (.int 1)))))
 (au (dg (fI (aa 1)) (bh (aw (af 4) (aw (af 5) bc))) ng)
 (jI 3 (aS 1 (aa 3)))))
noncomputable def ji:List Sl->Tr Re:=bp 1 7
 (au (aS 1 (bX (dN (ae (aC (.int 1)) ao))))
 (au (dg (d7 (aa 0)) (af 2) na)
 (eI 1)))
theorem rz (T:Txt K mg):ACal (bI cn) P w K mg base "weights_together" 1 ["days"] ji:=bO T.Zmq ge rfl λf cdv A outer sh H E hr=>by
 exact (ay (aX (aJ (i:=1) ge.nd rfl (Or.inl rfl) (cE (eG (ah am aq)))))
 (ay (dI PassesOwn.never rfl (fe (ac (pv 0))) (aV (aU (i:=2) ge.nd rfl (Or.inl rfl)))
  (ay (iC (aJ (i:=3) ge.nd rfl (Or.inl rfl) (Zfr qj Zam (cE (eG (ah am aq))) (ak cC cz (ak bg bf (bn (t:=aY) (bj fb rfl T.eT boot_len (ah (ac (pv 1)) aq)) ga) (bn (t:=aY) (bj fb rfl T.eT boot_len (ah (ac (pv 2)) aq)) ga)) am))))
 (ay (dI PassesOwn.never rfl (hY (gQ rfl rfl T.gT (ac (pv 1)))) (dw rfl (bG (aV (aU (i:=4) ge.nd rfl (Or.inl rfl))) (bG (aV (aU (i:=5) ge.nd rfl (Or.inl rfl))) dt)) (bD (bD dm)))
  (aK (dI PassesOwn.never rfl (hY (gQ rfl rfl T.gT (ac (pv 2)))) (dw rfl (bG (aV (aU (i:=6) ge.nd rfl (Or.inl rfl))) (bG (aV (aU (i:=7) ge.nd rfl (Or.inl rfl))) dt)) (bD (bD dm)))
  (aK (Zn0 (ZhI (pv 3) (ak bg bf (ac (pv 4)) (ac (pv 6))) Zjo (ak bL bJ (ac (pv 5)) (ac (pv 7))) Zjf ig))))))
 (aK (nZ (k:=3) (aX (aJ (i:=1) ge.nd rfl (Or.inl rfl) (ac (pv 3)))))))))
 (aK (iD (pv 1)))))
noncomputable def mf:List Sl->Tr PyData :=
 (ad bu (aa 1) (ad fF (aa 2) (ad cm (aa 3) (aa 0))))
noncomputable def mB:List Sl->Tr Bool :=
 (cQ (ad (dH λi j=>decide (i > j)) (aa 1) (aC (.int 0))))
noncomputable def kB:List Sl->Tr Re:=bp 3 0
 (bQ (bd cF (ae (bX (iH (fI (aa 0)) 2 [1,2] (bh (aw (af 0) (aw (af 1) bc))) mB mf)) ao)))
theorem Zns (T:Txt K mg):ACal (bI cn) P w K mg base "weighed_ahead" 1 ["day","ahead","level"] kB:=bO T.Zmt ZgW rfl λf cdv A outer sh H E hr=>by
 exact (aK (bW (bn (t:=aY) (bj (fV rfl) rfl T.fP boot_sum (ah (cE (n6 (my lA ["fall","weight"] [1,2] rfl (hY (gQ rfl rfl T.gT (ac (pv 0)))) (λb=>(dw rfl (bG (aV (aU (i:=0) (show ((bN lA ["fall","weight"] [1,2])).Nodup by decide +kernel) rfl (Or.inl rfl))) (bG (aV (aU (i:=1) (show ((bN lA ["fall","weight"] [1,2])).Nodup by decide +kernel) rfl (Or.inl rfl))) dt)) (bD (bD dm)))) (λb=>(dq fO eM (ac (pv 1)) am (nomark _))) (λb=>(ak bL bJ (ac (pv 1)) (Zfx (Zct (kT hr) (ac (pv 2)) (ak cC cz (ac (pv 3)) (ac (pv 0))) (λ_ _=>rfl))))) rfl (show BlkOk lA (ap pG) _ [1,2] from ⟨rfl,by decide +kernel,by decide +kernel,by decide +kernel,by decide +kernel⟩)) (gj (cS (bZ (by decide)) (cS (bZ (by decide)) gk))))) aq)) fJ)))
noncomputable abbrev di:=mY
theorem dY (T:Txt K mg):ACal (bI cn) P w K mg base "_law_draw" 1 ["_law_pen_here","_law_many"] di:=Zml rfl (Zij T)
noncomputable def j8:List Sl->Tr PyData :=
 (aa 0)
noncomputable def kj:List Sl->Tr Bool :=
 (cQ (ad (dH λi j=>decide (i > j)) (ad aO (aa 1) (aa 0)) (aC (.int 0))))
noncomputable def qb:List Sl->Tr PyData :=
 (bd jh (ae (bX (iH (f7 (ae (bd cP (ae (aa 0) ao)) ao)) 1 [0] (af 0) kj j8)) ao))
noncomputable def kH:List Sl->Tr Re:=bp 1 0
 (bQ (bd cF (ae (bX (de (d7 (aa 0)) 1 [] (af 0) qb)) ao)))
theorem ZeQ (T:Txt K mg):ACal (bI cn) P w K mg base "_law_greatest" 1 ["_law_falls"] kH:=bO T.ZmU Zg6 rfl λf cdv A outer sh H E hr=>by
 exact (aK (bW (bn (t:=aY) (bj (fV rfl) rfl T.fP boot_sum (ah (cE (gD (gq jN ["_law_one"] [] rfl (fe (ac (pv 0))) (λb=>(aV (aU (i:=0) (show ((bN jN ["_law_one"] [])).Nodup by decide +kernel) rfl (Or.inr rfl)))) (λb=>(bn (t:=aY) (bj (ZeJ rfl) rfl T.iw boot_max (ah (cE (n6 (my (bN jN ["_law_one"] []) ["_law_fall"] [0] rfl (hV (gO rfl T.eB (ah (bn (t:=aY) (bj fb rfl T.eT boot_len (ah (ac (pv 0)) aq)) ga) aq))) (λb=>(aV (aU (i:=0) (show ((bN (bN jN ["_law_one"] []) ["_law_fall"] [0])).Nodup by decide +kernel) rfl (Or.inl rfl)))) (λb=>(dq fO eM (bx bw bv (ac (pv 1)) (ac (pv 0)) (λ_ _=>rfl)) am (nomark _))) (λb=>(ac (pv 0))) rfl (BlkOk.nest ⟨rfl,by decide +kernel,by decide +kernel,by decide +kernel,by decide +kernel⟩)) (bZ (by decide)))) aq)) Zap)) rfl (show BlkOk jN (ap pN) _ [] from ⟨rfl,by decide +kernel,by decide +kernel,by decide +kernel,by decide +kernel⟩)) (bZ (by decide)))) aq)) fJ)))
noncomputable def kF:List Sl->Tr Re:=bp 2 0
 (bQ (ad bu (ad aP (ad aO (aa 0) (aC (.int 2))) (ad bu (ad aO (aa 0) (aC (.int 3))) (aa 1))) (bd nG (ae (ad (dH λi j=>decide (i > j)) (aa 1) (aC (.int 0))) ao))))
noncomputable def mQ:List Sl->Tr Re:=bp 2 0
 (bQ (ad aP (ad bu (ad aO (aa 0) (aC (.int 4))) (bd gW (ae (aa 1) (ae (aC (.int 0)) ao)))) (ad bu (ad aO (aa 0) (aC (.int 5))) (bd gW (ae (ad cm (aC (.int 0)) (aa 1)) (ae (aC (.int 0)) ao))))))
noncomputable def mS:List Sl->Tr Re:=bp 2 0
 (bQ (ad cm (ad bu (ad aO (aa 0) (aC (.int 8))) (bd gW (ae (ad cm (aC (.int 0)) (aa 1)) (ae (aC (.int 0)) ao)))) (ad bu (ad aO (aa 0) (aC (.int 7))) (bd gW (ae (aa 1) (ae (aC (.int 0)) ao))))))
noncomputable def nr:List Sl->Tr Ou :=
 (aS 2 (ad bu (aa 2) (bd cF (ae (aa 3) ao))))
noncomputable def kI:List Sl->Tr Re:=bp 2 2
 (au (aS 2 (aC (.int 1)))
 (au (dg (d7 (d4 (aa 0) (dB (aa 1)) dM)) (af 3) nr)
 (eI 2)))
theorem Zny (T:Txt K mg):ACal (bI cn) P w K mg base "_law_bottom" 1 ["_law_falls","_law_t"] kI:=bO T.ZmZ l0 rfl λf cdv A outer sh H E hr=>by
 exact (ay (aX (aJ (i:=2) l0.nd rfl (Or.inl rfl) am))
 (ay (dI PassesOwn.never rfl (fe (ff (ac (pv 0)) (eE (ac (pv 1))) eF)) (aV (aU (i:=3) l0.nd rfl (Or.inl rfl)))
  (aK (aX (aJ (i:=2) l0.nd rfl (Or.inl rfl) (ak bL bJ (ac (pv 2)) (bn (t:=aY) (bj (fV rfl) rfl T.fP boot_sum (ah (ac (pv 3)) aq)) fJ))))))
 (aK (iD (pv 2)))))
noncomputable def oK:List Sl->Tr Bool :=
 (cQ (ad (dH λi j=>decide (i > j)) (aa 3) (aC (.int 0))))
noncomputable def qH:List Sl->Tr Ou :=
 (iG 2 3 (ae (aa 3) (ae (ad fy (aa 2) (aa 3)) ao)))
noncomputable def mO:List Sl->Tr Re:=bp 2 2
 (au (iG 2 3 (ae (bd jF (ae (aa 0) ao)) (ae (aa 1) ao)))
 (au (dP oK qH 100000)
 (bQ (cZ (ae (ad gB (aa 0) (aa 2)) (ae (ad gB (aa 1) (aa 2)) ao))))))
theorem Znv (T:Txt K mg):ACal (bI cn) P w K mg base "_law_share" 1 ["_law_top","_law_bottom_here"] mO:=bO T.ZmN pC rfl λf cdv A outer sh H E hr=>by
 exact (ay (nY (mr (i:=2) (j:=3) rfl pC.nd rfl rfl (by decide) rfl rfl (ah (bn (t:=aY) (bj jC rfl T.je boot_abs (ah (ac (pv 0)) aq)) oQ) (ah (ac (pv 1)) aq)) rfl))
 (ay (Zfg 100000 PassesOwn.never (dq fO eM (ac (pv 3)) am (nomark _))
  (aK (nY (mr (i:=2) (j:=3) rfl pC.nd rfl rfl (by decide) rfl rfl (ah (ac (pv 3)) (ah (ak jd iO (ac (pv 2)) (ac (pv 3))) aq)) rfl))))
 (aK (bW (dA (ah (ak kw jP (ac (pv 0)) (ac (pv 2))) (ah (ak kw jP (ac (pv 1)) (ac (pv 2))) aq)))))))
noncomputable def i5:List Sl->Tr PyData :=
 (cZ (ae (ad iF (aa 2) (cZ (ae (aa 0) ao))) (ae (ad bu (aa 3) (aa 1)) ao)))
noncomputable def jb:List Sl->Tr Bool :=
 (cQ (ad (dH λi j=>decide (i > j)) (aa 1) (aC (.int 0))))
noncomputable def np:List Sl->Tr Ou :=
 (lm 3 (bX (iH (fI (aa 2)) 2 [4,5] (bh (aw (af 0) (aw (af 1) bc))) jb i5)))
noncomputable def kQ:List Sl->Tr Ou :=
 (au (fZ 3 (dN ao))
 (au (dg (d7 (aa 1)) (bh (aw (af 4) (aw (af 5) bc))) np)
 (jI 3 (aS 1 (aa 3)))))
noncomputable def mP:List Sl->Tr Re:=bp 1 5
 (au (aS 1 (bX (dN (ae (cZ (ae (cZ ao) (ae (aC (.int 1)) ao))) ao))))
 (au (dg (d7 (aa 0)) (af 2) kQ)
 (eI 1)))
noncomputable def nq:List Sl->Tr Ou :=
 (aS 4 (ad fy (ad aP (ad aP (ad bu (aa 4) (aC (.int 31))) (aa 5)) (aC (.int 1))) (aC (.int 2147483647))))
noncomputable def kG:List Sl->Tr Re:=bp 4 2
 (au (aS 4 (ad aP (ad aP (aa 0) (ad bu (aC (.int 7919)) (aa 1))) (ad bu (aC (.int 104729)) (ad aP (aa 2) (aC (.int 60))))))
 (au (dg (d7 (aa 3)) (af 5) nq)
 (bQ (ad gB (ad fy (ad gm (aa 4) (aC (.int 3))) (aC (.int 2147483629))) (aC (.int 7))))))
noncomputable def jl:List Sl->Tr Re:=bp 2 1
 (au (fh (cQ (ad jv (aa 1) (aC (.int 0))))
  rW
  fg)
 (au (aS 2 (aE (aH m7 (ai (aa 0) (ai (aa 1) aG)))))
 (au (fh (cQ (ad (dH λi j=>decide (i < j)) (aa 1) (aC (.int 0))))
  (aS 2 (gF (aa 2)))
  fg)
 (bQ (cZ (ae (ad gB (aa 0) (aa 2)) (ae (ad gB (aa 1) (aa 2)) ao)))))))
theorem ZeN (T:Txt K mg):ACal (bI cn) P w K mg base "share" 2 ["top","bottom"] jl:=bO T.Zmw pz rfl λf cdv A outer sh H E hr=>by
 exact (ay (fY (dq (qo hr) oO (ac (pv 1)) am (nomark _))
 (aK Zfj)
 fX)
 (ay (aX (aJ (i:=2) pz.nd rfl (Or.inl rfl) (aI (aM (ZnF T) (hr.mono (by decide)) rfl (aj (ac (pv 0)) (aj (ac (pv 1)) aN))))))
 (ay (fY (dq ku eM (ac (pv 1)) am (nomark _))
  (aK (aX (aJ (i:=2) pz.nd rfl (Or.inl rfl) (jE (ac (pv 2))))))
  fX)
 (aK (bW (dA (ah (ak kw jP (ac (pv 0)) (ac (pv 2))) (ah (ak kw jP (ac (pv 1)) (ac (pv 2))) aq))))))))
noncomputable def kL:List Sl->Tr Re:=bp 3 3
 (au (aS 3 (aE (aH mL (ai (aa 0) (ai (aa 1) (ai (aa 2) aG))))))
 (au (aS 4 (ad cm (aa 3) (ad cm (aa 1) (aa 2))))
 (au (aS 5 (rX (cQ (ad (dH λi j=>decide (i > j)) (aa 3) (aC (.int 0)))) (ad bu (ad aO (aa 0) (aC (.int 4))) (aa 3)) (ad bu (ad aO (aa 0) (aC (.int 5))) (gF (aa 3)))))
 (bQ (ad aP (aa 5) (ad bu (ad aO (aa 0) (aC (.int 6))) (aa 4)))))))
theorem ZnD (T:Txt K mg):ACal (bI cn) P w K mg base "day_cost" 2 ["shop","level","fall"] kL:=bO T.ZmH lX rfl λf cdv A outer sh H E hr=>by
 exact (ay (aX (aJ (i:=3) lX.nd rfl (Or.inl rfl) (aI (aM (Znu T) (hr.mono (by decide)) rfl (aj (ac (pv 0)) (aj (ac (pv 1)) (aj (ac (pv 2)) aN)))))))
 (ay (aX (aJ (i:=4) lX.nd rfl (Or.inl rfl) (ak cC cz (ac (pv 3)) (ak cC cz (ac (pv 1)) (ac (pv 2))))))
 (ay (aX (aJ (i:=5) lX.nd rfl (Or.inl rfl) (Zn9 (dq fO eM (ac (pv 3)) am (nomark _)) (ak bL bJ (bx bw bv (ac (pv 0)) (dZ rfl T.ZjA) (λ_ _=>rfl)) (ac (pv 3))) (ak bL bJ (bx bw bv (ac (pv 0)) (dZ rfl T.Zjz) (λ_ _=>rfl)) (jE (ac (pv 3)))))))
 (aK (bW (ak bg bf (ac (pv 5)) (ak bL bJ (bx bw bv (ac (pv 0)) (dZ rfl T.Zjx) (λ_ _=>rfl)) (ac (pv 4)))))))))
noncomputable def qc:List Sl->Tr PyData :=
 (aE (aH kJ (ai (aa 0) aG)))
noncomputable def mW:List Sl->Tr Re:=bp 3 0
 (bQ (ad cm (bd cF (ae (bX (de (d7 (d4 (aa 1) (dB (aa 2)) dM)) 1 [] (af 0) qc)) ao)) (ad aO (aa 0) (aC (.int 1)))))
theorem ZnA (T:Txt K mg):ACal (bI cn) P w K mg base "free_from" 2 ["shop","falls","t"] mW:=bO T.ZmE Zg0 rfl λf cdv A outer sh H E hr=>by
 exact (aK (bW (ak cC cz (bn (t:=aY) (bj (fV rfl) rfl T.fP boot_sum (ah (cE (gD (gq oy ["day"] [] rfl (fe (ff (ac (pv 1)) (eE (ac (pv 2))) eF)) (λb=>(aV (aU (i:=0) (show ((bN oy ["day"] [])).Nodup by decide +kernel) rfl (Or.inl rfl)))) (λb=>(aI (aM (ZeR T) (hr.mono (by decide)) rfl (aj (ac (pv 0)) aN)))) rfl (show BlkOk oy (ap pJ) _ [] from ⟨rfl,by decide +kernel,by decide +kernel,by decide +kernel,by decide +kernel⟩)) (bZ (by decide)))) aq)) fJ) (bx bw bv (ac (pv 0)) (dZ rfl T.Zdu) (λ_ _=>rfl)))))
noncomputable def pZ:List Sl->Tr PyData :=
 (ad bu (aa 1) (aE (aH kK (ai (aa 2) (ai (ad cm (aa 3) (aa 0)) aG)))))
noncomputable def mK:List Sl->Tr Re:=bp 3 0
 (bQ (bd cF (ae (bX (de (fI (aa 1)) 2 [0,2] (bh (aw (af 0) (aw (af 1) bc))) pZ)) ao)))
theorem Znr (T:Txt K mg):ACal (bI cn) P w K mg base "weighed_end" 2 ["shop","weights","stock"] mK:=bO T.Zmr ZgU rfl λf cdv A outer sh H E hr=>by
 exact (aK (bW (bn (t:=aY) (bj (fV rfl) rfl T.fP boot_sum (ah (cE (gD (gq ly ["fallen","weight"] [0,2] rfl (hY (gQ rfl rfl T.gT (ac (pv 1)))) (λb=>(dw rfl (bG (aV (aU (i:=0) (show ((bN ly ["fallen","weight"] [0,2])).Nodup by decide +kernel) rfl (Or.inl rfl))) (bG (aV (aU (i:=1) (show ((bN ly ["fallen","weight"] [0,2])).Nodup by decide +kernel) rfl (Or.inl rfl))) dt)) (bD (bD dm)))) (λb=>(ak bL bJ (ac (pv 1)) (aI (aM (ZnB T) (hr.mono (by decide)) rfl (aj (ac (pv 2)) (aj (ak cC cz (ac (pv 3)) (ac (pv 0))) aN)))))) rfl (show BlkOk ly (ap pE) _ [0,2] from ⟨rfl,by decide +kernel,by decide +kernel,by decide +kernel,by decide +kernel⟩)) (gj (cS (bZ (by decide)) (cS (bZ (by decide)) gk))))) aq)) fJ)))
noncomputable def qa:List Sl->Tr PyData :=
 (aE (aH kJ (ai (aa 0) aG)))
noncomputable def kE:List Sl->Tr Re:=bp 3 0
 (bQ (ad cm (aa 2) (bd cF (ae (bX (de (d7 (d4 (aa 0) dM (dB (aa 1)))) 1 [] (af 0) qa)) ao))))
theorem ZeP (T:Txt K mg):ACal (bI cn) P w K mg base "least_counted" 2 ["falls","t","stock"] kE:=bO T.ZmA ZgY rfl λf cdv A outer sh H E hr=>by
 exact (aK (bW (ak cC cz (ac (pv 2)) (bn (t:=aY) (bj (fV rfl) rfl T.fP boot_sum (ah (cE (gD (gq ow ["day"] [] rfl (fe (ff (ac (pv 0)) eF (eE (ac (pv 1))))) (λb=>(aV (aU (i:=0) (show ((bN ow ["day"] [])).Nodup by decide +kernel) rfl (Or.inl rfl)))) (λb=>(aI (aM (ZeR T) (hr.mono (by decide)) rfl (aj (ac (pv 0)) aN)))) rfl (show BlkOk ow (ap pH) _ [] from ⟨rfl,by decide +kernel,by decide +kernel,by decide +kernel,by decide +kernel⟩)) (bZ (by decide)))) aq)) fJ))))
noncomputable def Zcg:List Sl->Tr PyData :=
 (aE (aH di (cI 1 (ai (aa 2) aG))))
noncomputable def mT:List Sl->Tr Re:=bp 2 3
 (au (aS 2 (ad aO (bX (dN (ae (aC (.int 0)) (ae (aC (.int 0)) (ae (aC (.int 1)) (ae (aC (.int 3)) ao)))))) (aE (aH di (cI 0 (ai (aC (.int 4)) aG))))))
 (au (aS 3 (ad aO (bX (dN (ae (aC (.int 2)) (ae (aC (.int 4)) (ae (aC (.int 20)) (ae (aC (.int 1001)) ao)))))) (aE (aH di (cI 0 (ai (aC (.int 4)) aG))))))
 (au (aS 4 (bX (de (f7 (ae (aE (aH di (cI 0 (ai (aa 1) aG)))) ao)) 1 [0,3] (af 0) Zcg)))
 (bQ (bd gJ (ae (ad aP (ad aP (aa 4) (bX (dN (ae (ad aP (aC (.int 1)) (aE (aH di (cI 0 (ai (ad cm (aa 3) (aC (.int 1))) aG))))) ao)))) (ad bu (bX (dN (ae (aC (.int 0)) ao))) (aa 2))) ao))))))
theorem Znx (T:Txt K mg):ACal (bI cn) P w K mg base "_law_day" 2 ["_law_pen_here","_law_most"] mT:=bO T.ZmX lZ rfl λf cdv A outer sh H E hr=>by
 exact (ay (aX (aJ (i:=2) lZ.nd rfl (Or.inl rfl) (bx bw bv (cE (eG (ah am (ah am (ah am (ah am aq)))))) (aI (aM (dY T) (hr.mono (by decide)) rfl (cY (pv 0) (aj am aN)))) (λ_ _=>rfl))))
 (ay (aX (aJ (i:=3) lZ.nd rfl (Or.inr rfl) (bx bw bv (cE (eG (ah am (ah am (ah am (ah am aq)))))) (aI (aM (dY T) (hr.mono (by decide)) rfl (cY (pv 0) (aj am aN)))) (λ_ _=>rfl))))
 (ay (Zfh (qd (i:=4) oB ["_law_k"] [0,3] rfl lZ.nd rfl rfl (hV (gO rfl T.eB (ah (aI (aM (dY T) (hr.mono (by decide)) rfl (cY (pv 0) (aj (ac (pv 1)) aN)))) aq))) (λb=>(aV (aU (i:=0) (show ((bN oB ["_law_k"] [0,3])).Nodup by decide +kernel) rfl (Or.inl rfl)))) (λb=>(aI (aM (dY T) (hr.mono (by decide)) rfl (cY (pv 1) (aj (ac (pv 2)) aN))))) rfl (show BlkOk oB (ap pO) _ [0,3] from ⟨rfl,by decide +kernel,by decide +kernel,by decide +kernel,by decide +kernel⟩) rfl) (bZ (by decide)))
 (aK (bW (bn (t:=aY) (gr k9 rfl T.kz boot_tuple (ah (ak bg bf (ak bg bf (ac (pv 4)) (cE (eG (ah (ak bg bf am (aI (aM (dY T) (hr.mono (by decide)) rfl (cY (pv 0) (aj (ak cC cz (ac (pv 3)) am) aN))))) aq)))) (ak bL bJ (cE (eG (ah am aq))) (ac (pv 2)))) aq)) jQ))))))
noncomputable def Zcf:List Sl->Tr PyData :=
 (aE (aH di (cI 1 (ai (aa 2) aG))))
noncomputable def mR:List Sl->Tr Re:=bp 1 2
 (au (aS 1 (ad aO (bX (dN (ae (aC (.int 3)) (ae (aC (.int 10)) (ae (aC (.int 60)) (ae (ad aP (ad gm (aC (.int 10)) (aC (.int 6))) (aC (.int 1))) ao)))))) (aE (aH di (cI 0 (ai (aC (.int 4)) aG))))))
 (au (fZ 2 (de (f7 (ae (aC (.int 7)) ao)) 1 [0,1] (af 0) Zcf))
 (au (fh (cQ (ad jv (aE (aH di (cI 0 (ai (aC (.int 3)) aG)))) (aC (.int 0))))
  (jG 2 (aC (.int 0)) (aC (.int 0)))
  fg)
 (au (fh (cQ (ad jv (aE (aH di (cI 0 (ai (aC (.int 3)) aG)))) (aC (.int 0))))
  (jG 2 (aC (.int 3)) (ad fy (ad bu (iI 2 (aC (.int 3))) (aC (.int 3))) (aC (.int 1000001))))
  fg)
 (jI 2 (bQ (bd gJ (ae (aa 2) ao))))))))
theorem Znw (T:Txt K mg):ACal (bI cn) P w K mg base "_law_prices" 2 ["_law_pen_here"] mR:=bO T.ZmQ pD rfl λf cdv A outer sh H E hr=>by
 exact (ay (aX (aJ (i:=1) pD.nd rfl (Or.inr rfl) (bx bw bv (cE (eG (ah am (ah am (ah am (ah (ak bg bf (ak kr oN am am) am) aq)))))) (aI (aM (dY T) (hr.mono (by decide)) rfl (cY (pv 0) (aj am aN)))) (λ_ _=>rfl))))
 (ay (ZnW (qd (i:=2) oA ["_law_k"] [0,1] rfl pD.nd rfl rfl (hV (gO rfl T.eB (ah am aq))) (λb=>(aV (aU (i:=0) (show ((bN oA ["_law_k"] [0,1])).Nodup by decide +kernel) rfl (Or.inl rfl)))) (λb=>(aI (aM (dY T) (hr.mono (by decide)) rfl (cY (pv 1) (aj (ac (pv 2)) aN))))) rfl (show BlkOk oA (ap pM) _ [0,1] from ⟨rfl,by decide +kernel,by decide +kernel,by decide +kernel,by decide +kernel⟩) rfl) (bZ (by decide)))
 (ay (fY (dq (qo hr) oO (aI (aM (dY T) (hr.mono (by decide)) rfl (cY (pv 0) (aj am aN)))) am (nomark _))
  (aK (rF (fN am (i8 (pv 2) am ig))))
  fX)
 (ay (fY (dq (qo hr) oO (aI (aM (dY T) (hr.mono (by decide)) rfl (cY (pv 0) (aj am aN)))) am (nomark _))
  (aK (rF (fN (ak jd iO (ak bL bJ (rN am (pv 2) (λ_ _=>rfl)) am) am) (i8 (pv 2) am ig))))
  fX)
 (aK (nZ (k:=2) (bW (bn (t:=aY) (gr k9 rfl T.kz boot_tuple (ah (ac (pv 2)) aq)) jQ))))))))
noncomputable def j7:List Sl->Tr PyData :=
 (ad cm (aa 1) (aE (aH kH (ai (d4 (aa 2) dM (dB (aa 0))) aG))))
noncomputable def pe:List Sl->Tr Ou :=
 (aS 3 (bX (de (f7 (ae (bd cP (ae (aa 2) ao)) ao)) 1 [1,2] (af 0) j7)))
noncomputable def h8:List Sl->Tr PyData :=
 (ad aO (ad aO (ad aO (aa 3) (aa 0)) (ad cm (aa 1) (ad aO (aa 4) (aa 0)))) (aC (.int 1)))
noncomputable abbrev nz:List Sl->Option (List PyData->Option Int):=jf 3 1 3 pe [0,3] h8
theorem ZnO {c0 Pt:Addr} {ts:List Addr} (T:Txt K mg) (D:DefK K mg "_law_told" ik ["_law_table","_law_stock","_law_falls"] c0 Pt) (BK:BltK base mg) (hm:Pt∈ts):Callee P w K mg base "_law_told" 2 ["_law_table","_law_stock","_law_falls"] (jV P w K mg base 2 (PKs ts (bI cn)) 3 nz):=by
 refine' ZcF (kk:=1) (kb:=1) (pl:=["_law_t","_law_counted","_law_row"]) (NF:=["_law_table","_law_lowest"]) D Za6 rfl (PKs.low Zco) (λo G m h=>h.2 _ hm) ?d (λf A outer sh H E hr=>?b) (λo0 cl q f c A outer s H E hr=>?e)
 case b=>exact (ZhE (aX (aJ (i:=3) Za6.nd rfl (Or.inr rfl) (cE (gD (gq lC ["_law_t"] [1,2] rfl (hV (gO rfl T.eB (ah (bn (t:=aY) (bj fb rfl T.eT boot_len (ah (ac (pv 2)) aq)) ga) aq))) (λb=>(aV (aU (i:=0) (show ((bN lC ["_law_t"] [1,2])).Nodup by decide +kernel) rfl (Or.inl rfl)))) (λb=>(ak cC cz (ac (pv 1)) (aI (aM (ACal.cods (ZeQ T)) (hr.mono (by decide)) rfl (aj (ff (ac (pv 2)) eF (eE (ac (pv 0)))) aN))))) rfl (show BlkOk lC (ap ik) _ [1,2] from ⟨rfl,by decide +kernel,by decide +kernel,by decide +kernel,by decide +kernel⟩)) (bZ (by decide)))))) (Zck (Zcs D.ck BK rfl (by intro fd; cases fd; rintro rfl rfl rfl us hl; obtain ⟨_,_,_,rfl⟩:=L2.kO hl; rfl) (show LamDP lC (ap ik) _ ["_law_t","_law_counted","_law_row"] ["_law_table","_law_lowest"] [0,3] from ⟨rfl,rfl,rfl,by decide +kernel,by decide +kernel,by decide +kernel,by decide +kernel,by decide +kernel,by decide +kernel⟩).hfr)))
 case e=>exact (bx bw bv (bx bw bv (bx bw bv (ac (pv 3)) (ac (pv 0)) (λ_ _=>rfl)) (ak cC cz (ac (pv 1)) (bx bw bv (ac (pv 4)) (ac (pv 0)) (λ_ _=>rfl))) (λ_ _=>rfl)) am (λ_ _=>rfl))
 case d=>exact ⟨rfl,rfl,rfl,by decide +kernel,by decide +kernel,by decide +kernel,by decide +kernel,by decide +kernel,by decide +kernel⟩
theorem ZnN (T:Txt K mg) {o0:HO}:ACal (ot o0) P w K mg base "_law_mixed" 1 ["_law_key","_law_t","_law_counted","_law_row"] kG:=bO T.ZmT lY rfl λf cdv A outer sh H E hr=>by
 exact (ay (aX (aJ (i:=4) lY.nd rfl (Or.inl rfl) (ak bg bf (ak bg bf (ac (pv 0)) (ak bL bJ am (ac (pv 1)))) (ak bL bJ am (ak bg bf (ac (pv 2)) am)))))
 (ay (dI PassesOwn.never rfl (fe (ac (pv 3))) (aV (aU (i:=5) lY.nd rfl (Or.inl rfl)))
  (aK (aX (aJ (i:=4) lY.nd rfl (Or.inl rfl) (ak jd iO (ak bg bf (ak bg bf (ak bL bJ (ac (pv 4)) am) (ac (pv 5))) am) am)))))
 (aK (bW (ak kw jP (ak jd iO (ak kr oN (ac (pv 4)) am) am) am)))))
noncomputable def ZgA:List Sl->Tr Ou :=
 λρ=>.ret (.next ρ)
noncomputable def h9:List Sl->Tr PyData :=
 (ad aP (aa 1) (ad fy (aE (aH kG (ai (aa 3) (ai (aa 0) (ai (aa 1) (ai (aa 2) aG)))))) (ad aP (ad cm (ad aO (aa 4) (aC (.int 0))) (aa 1)) (aC (.int 1)))))
noncomputable abbrev nA:List Sl->Option (List PyData->Option Int):=jf 3 0 0 ZgA [1,0] h9
theorem ZnP {c0 Pt:Addr} {ts:List Addr} (T:Txt K mg) (D:DefK K mg "_law_any" iU ["_law_shop","_law_key"] c0 Pt) (BK:BltK base mg) (hm:Pt∈ts):Callee P w K mg base "_law_any" 2 ["_law_shop","_law_key"] (jV P w K mg base 2 (PKs ts (bI cn)) 2 nA):=by
 refine' ZcF (kk:=1) (kb:=1) (pl:=["_law_t","_law_counted","_law_row"]) (NF:=["_law_key","_law_shop"]) D Zg9 rfl (PKs.low Zco) (λo G m h=>h.2 _ hm) ?d (λf A outer sh H E hr=>?b) (λo0 cl q f c A outer s H E hr=>?e)
 case b=>exact (ZhD (Zcs D.ck BK rfl (by intro fd; cases fd; rintro rfl rfl rfl us hl; obtain ⟨_,_,_,rfl⟩:=L2.kO hl; rfl) (show LamDP ZfD (ap iU) _ ["_law_t","_law_counted","_law_row"] ["_law_key","_law_shop"] [1,0] from ⟨rfl,rfl,rfl,by decide +kernel,by decide +kernel,by decide +kernel,by decide +kernel,by decide +kernel,by decide +kernel⟩).hfr))
 case e=>exact (ak bg bf (ac (pv 1)) (ak jd iO (aI (aM (ZnN T) (hr.mono (by decide)) rfl (aj (ac (pv 3)) (aj (ac (pv 0)) (aj (ac (pv 1)) (aj (ac (pv 2)) aN)))))) (ak bg bf (ak cC cz (bx bw bv (ac (pv 4)) am (λ_ _=>rfl)) (ac (pv 1))) am)))
 case d=>exact ⟨rfl,rfl,rfl,by decide +kernel,by decide +kernel,by decide +kernel,by decide +kernel,by decide +kernel,by decide +kernel⟩
noncomputable def kM:List Sl->Tr Re:=bp 3 0
 (fh (cQ (ad (dH λi j=>decide (i < j)) (aa 2) (aE (aH mW (ai (aa 0) (ai (aa 1) (ai (aC (.int 0)) aG)))))))
  rW
  fg)
theorem ZeS (T:Txt K mg):ACal (bI cn) P w K mg base "ask_free" 3 ["shop","falls","stock"] kM:=bO T.ZmL Zg2 rfl λf cdv A outer sh H E hr=>by
 exact (aK (fY (dq ku eM (ac (pv 2)) (aI (aM (ZnA T) (hr.mono (by decide)) rfl (aj (ac (pv 0)) (aj (ac (pv 1)) (aj am aN))))) (nomark _))
 (aK Zfj)
 fX))
noncomputable def p9:List Sl->Tr PyData :=
 (ad bu (aa 1) (aE (aH kL (ai (aa 2) (ai (aa 3) (ai (aa 0) aG))))))
noncomputable def jj:List Sl->Tr Re:=bp 3 0
 (bQ (bd cF (ae (bX (de (fI (aa 1)) 2 [0,2] (bh (aw (af 0) (aw (af 1) bc))) p9)) ao)))
theorem ZeK (T:Txt K mg):ACal (bI cn) P w K mg base "weighed_day" 3 ["shop","weights","stock"] jj:=bO T.Zms ZgV rfl λf cdv A outer sh H E hr=>by
 exact (aK (bW (bn (t:=aY) (bj (fV rfl) rfl T.fP boot_sum (ah (cE (gD (gq lz ["fallen","weight"] [0,2] rfl (hY (gQ rfl rfl T.gT (ac (pv 1)))) (λb=>(dw rfl (bG (aV (aU (i:=0) (show ((bN lz ["fallen","weight"] [0,2])).Nodup by decide +kernel) rfl (Or.inl rfl))) (bG (aV (aU (i:=1) (show ((bN lz ["fallen","weight"] [0,2])).Nodup by decide +kernel) rfl (Or.inl rfl))) dt)) (bD (bD dm)))) (λb=>(ak bL bJ (ac (pv 1)) (aI (aM (ZnD T) (hr.mono (by decide)) rfl (aj (ac (pv 2)) (aj (ac (pv 3)) (aj (ac (pv 0)) aN))))))) rfl (show BlkOk lz (ap pF) _ [0,2] from ⟨rfl,by decide +kernel,by decide +kernel,by decide +kernel,by decide +kernel⟩)) (gj (cS (bZ (by decide)) (cS (bZ (by decide)) gk))))) aq)) fJ)))
noncomputable def ml:List Sl->Tr PyData :=
 (aa 0)
noncomputable def kc:List Sl->Tr PyData :=
 (aE (aH mK (ai (aa 1) (ai (aa 2) (ai (aa 0) aG)))))
noncomputable def mX:List Sl->Tr Re:=bp 4 2
 (au (aS 4 (aE (aH ji (ai (d4 (aa 1) (dB (aa 2)) dM) aG))))
 (au (aS 5 (aE (aH kE (ai (aa 1) (ai (aa 2) (ai (aa 3) aG))))))
 (bQ (gG (jH (ae (aa 5) (ae (ad aP (ad aO (aa 0) (aC (.int 0))) (aC (.int 1))) ao))) 1 [0,4] (af 0) ml kc))))
theorem ZnC (T:Txt K mg):ACal (bI cn) P w K mg base "end_ahead" 3 ["shop","falls","orders","stock"] mX:=bO T.ZmG pA rfl λf cdv A outer sh H E hr=>by
 exact (ay (aX (aJ (i:=4) pA.nd rfl (Or.inr rfl) (aI (aM (rz T) (hr.mono (by decide)) rfl (aj (ff (ac (pv 1)) (eE (ac (pv 2))) eF) aN)))))
 (ay (aX (aJ (i:=5) pA.nd rfl (Or.inl rfl) (aI (aM (ZeP T) (hr.mono (by decide)) rfl (aj (ac (pv 1)) (aj (ac (pv 2)) (aj (ac (pv 3)) aN)))))))
 (aK (bW (Zoa (ZhW oz ["counted"] [0,4] rfl (rJ (qf rfl T.eB (ah (ac (pv 5)) (ah (ak bg bf (bx bw bv (ac (pv 0)) (dZ rfl T.nK) (λ_ _=>rfl)) am) aq)))) (λb=>(aV (aU (i:=0) (show ((bN oz ["counted"] [0,4])).Nodup by decide +kernel) rfl (Or.inl rfl)))) (λb=>(ac (pv 0))) (λb=>(aI (aM (Znr T) (hr.mono (by decide)) rfl (aj (ac (pv 1)) (aj (ac (pv 2)) (aj (ac (pv 0)) aN)))))) rfl (show BlkOk oz (ap pK) _ [0,4] from ⟨rfl,by decide +kernel,by decide +kernel,by decide +kernel,by decide +kernel⟩)) (bZ (by decide)))))))
noncomputable def Zch:List Sl->Tr PyData :=
 (aE (aH mT (cI 1 (ai (aC (.int 3)) aG))))
noncomputable def mU:List Sl->Tr Re:=bp 1 5
 (au (aS 1 (bd gJ (ae (bX (de (f7 (ae (ad aP (aC (.int 2)) (aE (aH di (cI 0 (ai (aC (.int 3)) aG))))) ao)) 1 [0] (af 0) Zch)) ao)))
 (au (aS 2 (aE (aH di (cI 0 (ai (aC (.int 3)) aG)))))
 (au (aS 3 (aE (aH di (cI 0 (ai (aC (.int 6)) aG)))))
 (au (aS 4 (ad aP (aE (aH kH (ai (aa 1) aG))) (aa 2)))
 (au (aS 5 (ad cm (aE (aH di (cI 0 (ai (ad aP (ad aP (aa 3) (aa 2)) (aC (.int 1))) aG)))) (aa 2)))
 (bQ (cZ (ae (ad aP (cZ (ae (aa 3) (ae (aa 4) ao))) (aE (aH mR (cI 0 aG)))) (ae (aa 1) (ae (aa 5) ao))))))))))
theorem Znz (T:Txt K mg):ACal (bI cn) P w K mg base "_law_asked" 3 ["_law_pen_here"] mU:=bO T.Zm0 iT rfl λf cdv A outer sh H E hr=>by
 exact (ay (aX (aJ (i:=1) iT.nd rfl (Or.inl rfl) (bn (t:=aY) (gr k9 rfl T.kz boot_tuple (ah (cE (gD (gq oC ["_law_k"] [0] rfl (hV (gO rfl T.eB (ah (ak bg bf am (aI (aM (dY T) (hr.mono (by decide)) rfl (cY (pv 0) (aj am aN))))) aq))) (λb=>(aV (aU (i:=0) (show ((bN oC ["_law_k"] [0])).Nodup by decide +kernel) rfl (Or.inl rfl)))) (λb=>(aI (aM (Znx T) (hr.mono (by decide)) rfl (cY (pv 1) (aj am aN))))) rfl (show BlkOk oC (ap pQ) _ [0] from ⟨rfl,by decide +kernel,by decide +kernel,by decide +kernel,by decide +kernel⟩)) (bZ (by decide)))) aq)) jQ)))
 (ay (aX (aJ (i:=2) iT.nd rfl (Or.inl rfl) (aI (aM (dY T) (hr.mono (by decide)) rfl (cY (pv 0) (aj am aN))))))
 (ay (aX (aJ (i:=3) iT.nd rfl (Or.inl rfl) (aI (aM (dY T) (hr.mono (by decide)) rfl (cY (pv 0) (aj am aN))))))
 (ay (aX (aJ (i:=4) iT.nd rfl (Or.inl rfl) (ak bg bf (aI (aM (ZeQ T) (hr.mono (by decide)) rfl (aj (ac (pv 1)) aN))) (ac (pv 2)))))
 (ay (aX (aJ (i:=5) iT.nd rfl (Or.inl rfl) (ak cC cz (aI (aM (dY T) (hr.mono (by decide)) rfl (cY (pv 0) (aj (ak bg bf (ak bg bf (ac (pv 3)) (ac (pv 2))) am) aN)))) (ac (pv 2)))))
 (aK (bW (dA (ah (ak bg bf (dA (ah (ac (pv 3)) (ah (ac (pv 4)) aq))) (aI (aM (Znw T) (hr.mono (by decide)) rfl (cY (pv 0) aN)))) (ah (ac (pv 1)) (ah (ac (pv 5)) aq)))))))))))
noncomputable def nw:List Sl->Tr Ou :=
 (au (aS 10 (ad aP (ad bu (ad bu (aa 5) (ad aO (aa 0) (aC (.int 3)))) (aa 9)) (ad bu (aa 6) (aE (aH jj (ai (aa 0) (ai (aa 7) (ai (aa 9) aG))))))))
 (jK 8 (ad aP (aa 10) (aE (aH kB (ai (ad aO (aa 1) (aC (.int 0))) (ai (aa 3) (ai (aa 9) aG))))))))
noncomputable def mZ:List Sl->Tr Re:=bp 5 6
 (au (aS 5 (aE (aH gX (ai (aa 1) aG))))
 (au (aS 6 (aE (aH gX (ai (d4 (aa 1) (dB (ad aP (aa 2) (aC (.int 1)))) dM) aG))))
 (au (aS 7 (aE (aH ji (ai (d4 (aa 1) dM (dB (ad aP (aa 2) (aC (.int 1))))) aG))))
 (au (fZ 8 (dN ao))
 (au (dg (jH (ae (aa 4) (ae (ad aP (ad aO (aa 0) (aC (.int 0))) (aC (.int 1))) ao))) (af 9) nw)
 (eI 8))))))
theorem ZnE (T:Txt K mg):ACal (bI cn) P w K mg base "counted_sums" 4 ["shop","falls","days","ahead","low"] mZ:=bO T.ZmI ii rfl λf cdv A outer sh H E hr=>by
 exact (ay (aX (aJ (i:=5) ii.nd rfl (Or.inl rfl) (aI (aM (lb T) (hr.mono (by decide)) rfl (aj (ac (pv 1)) aN)))))
 (ay (aX (aJ (i:=6) ii.nd rfl (Or.inl rfl) (aI (aM (lb T) (hr.mono (by decide)) rfl (aj (ff (ac (pv 1)) (eE (ak bg bf (ac (pv 2)) am)) eF) aN)))))
 (ay (aX (aJ (i:=7) ii.nd rfl (Or.inl rfl) (aI (aM (rz T) (hr.mono (by decide)) rfl (aj (ff (ac (pv 1)) eF (eE (ak bg bf (ac (pv 2)) am))) aN)))))
 (ay (iC (aJ (i:=8) ii.nd rfl (Or.inl rfl) (eG aq)))
 (ay (dI PassesOwn.never rfl (rJ (qf rfl T.eB (ah (ac (pv 4)) (ah (ak bg bf (bx bw bv (ac (pv 0)) (dZ rfl T.nK) (λ_ _=>rfl)) am) aq)))) (aV (aU (i:=9) ii.nd rfl (Or.inl rfl)))
  (ay (aX (aJ (i:=10) ii.nd rfl (Or.inl rfl) (ak bg bf (ak bL bJ (ak bL bJ (ac (pv 5)) (bx bw bv (ac (pv 0)) (dZ rfl T.Zdt) (λ_ _=>rfl))) (ac (pv 9))) (ak bL bJ (ac (pv 6)) (aI (aM (ZeK T) (hr.mono (by decide)) rfl (aj (ac (pv 0)) (aj (ac (pv 7)) (aj (ac (pv 9)) aN)))))))))
 (aK (rG (io (mz PySem.F.plainAttrs_list PySem.F.slot_list_append PySem.F.type_list_append qv (pv 8) (cB (ak bg bf (ac (pv 10)) (aI (aM (Zns T) (hr.mono (by decide)) rfl (aj (bx bw bv (ac (pv 1)) am (λ_ _=>rfl)) (aj (ac (pv 3)) (aj (ac (pv 9)) aN)))))) cT)))))))
 (aK (iD (pv 8))))))))
theorem ZnM (T:Txt K mg) {o0:HO} {F:List PyData->Option Int}:ACal (fk P w K mg base 2 o0 F) P w K mg base "_law_end" 1 ["_law_shop","_law_rest"] mS:=bO T.ZmV Zg7 rfl λf cdv A outer sh H E hr=>by
 exact (aK (bW (ak cC cz (ak bL bJ (bx bw bv (ac (pv 0)) am (λ_ _=>rfl)) (bn (t:=aY) (bj (la rfl) rfl T.iw boot_max (ah (ak cC cz am (ac (pv 1))) (ah am aq))) jR)) (ak bL bJ (bx bw bv (ac (pv 0)) am (λ_ _=>rfl)) (bn (t:=aY) (bj (la rfl) rfl T.iw boot_max (ah (ac (pv 1)) (ah am aq))) jR)))))
theorem ZnK (T:Txt K mg) {o0:HO} {F:List PyData->Option Int}:ACal (fk P w K mg base 2 o0 F) P w K mg base "_law_rest_cost" 1 ["_law_shop","_law_rest"] mQ:=bO T.ZmP Zg3 rfl λf cdv A outer sh H E hr=>by
 exact (aK (bW (ak bg bf (ak bL bJ (bx bw bv (ac (pv 0)) am (λ_ _=>rfl)) (bn (t:=aY) (bj (la rfl) rfl T.iw boot_max (ah (ac (pv 1)) (ah am aq))) jR)) (ak bL bJ (bx bw bv (ac (pv 0)) am (λ_ _=>rfl)) (bn (t:=aY) (bj (la rfl) rfl T.iw boot_max (ah (ak cC cz am (ac (pv 1))) (ah am aq))) jR)))))
theorem ZnL (T:Txt K mg) {o0:HO} {F:List PyData->Option Int}:ACal (fk P w K mg base 2 o0 F) P w K mg base "_law_order" 1 ["_law_shop","_law_pieces"] kF:=bO T.ZmS Zg5 rfl λf cdv A outer sh H E hr=>by
 exact (aK (bW (ak bL bJ (ak bg bf (bx bw bv (ac (pv 0)) am (λ_ _=>rfl)) (ak bL bJ (bx bw bv (ac (pv 0)) am (λ_ _=>rfl)) (ac (pv 1)))) (bn (t:=aY) (gr Zno rfl T.Ziv boot_int (ah (Zob fO eM (ac (pv 1)) am (nomark _)) aq)) ZfS))))
theorem ZnJ (T:Txt K mg) {o0:HO} {F:List PyData->Option Int}:ACal (fk P w K mg base 2 o0 F) P w K mg base "_law_rows" 1 ["_law_falls"] mP:=bO T.ZmO ij rfl λf cdv A outer sh H E hr=>by
 exact (ay (aX (aJ (i:=1) ij.nd rfl (Or.inl rfl) (cE (eG (ah (dA (ah (dA aq) (ah am aq))) aq)))))
 (ay (dI PassesOwn.never rfl (fe (ac (pv 0))) (aV (aU (i:=2) ij.nd rfl (Or.inl rfl)))
  (ay (iC (aJ (i:=3) ij.nd rfl (Or.inl rfl) (eG aq)))
 (ay (dI PassesOwn.never rfl (fe (ac (pv 1))) (dw rfl (bG (aV (aU (i:=4) ij.nd rfl (Or.inr rfl))) (bG (aV (aU (i:=5) ij.nd rfl (Or.inr rfl))) dt)) (bD (bD dm)))
  (aK (ZnZ (io (mz PySem.F.plainAttrs_list PySem.F.slot_list_extend PySem.F.type_list_extend Zix (pv 3) (cB (cE (n6 (my lD ["_law_fall","_law_weight"] [4,5] rfl (hY (gQ rfl rfl T.gT (ac (pv 2)))) (λb=>(dw rfl (bG (aV (aU (i:=0) (show ((bN lD ["_law_fall","_law_weight"] [4,5])).Nodup by decide +kernel) rfl (Or.inl rfl))) (bG (aV (aU (i:=1) (show ((bN lD ["_law_fall","_law_weight"] [4,5])).Nodup by decide +kernel) rfl (Or.inl rfl))) dt)) (bD (bD dm)))) (λb=>(dq fO eM (ac (pv 1)) am (nomark _))) (λb=>(dA (ah (ak Zie ZfQ (ac (pv 2)) (dA (ah (ac (pv 0)) aq))) (ah (ak bL bJ (ac (pv 3)) (ac (pv 1))) aq)))) rfl (show BlkOk lD (ap pL) _ [4,5] from ⟨rfl,by decide +kernel,by decide +kernel,by decide +kernel,by decide +kernel⟩)) (gj (cS (bZ (by decide)) (cS (bZ (by decide)) gk))))) cT))))))
 (aK (nZ (k:=3) (aX (aJ (i:=1) ij.nd rfl (Or.inl rfl) (ac (pv 3)))))))))
 (aK (iD (pv 1)))))
noncomputable def kP (F:List PyData->Option Int):List Sl->Tr Ou :=
 (au (aS 6 (ad aP (aa 6) (iI 5 (aa 8))))
 (au (aS 9 (ad aP (aa 6) (bd cF (ae (lh 5 (dB (ad aP (aa 8) (aC (.int 1)))) dM) ao))))
 (au (fh (cQ (ad (dH λi j=>decide (i < j)) (ad aP (aa 8) (aa 1)) (bd cP (ae (aa 3) ao))))
  (au (jG 5 (ad aP (aa 8) (aa 1)) (ad cm (og F 4 (ae (aa 8) (ae (aa 9) (ae (d4 (aa 3) dM (dB (aa 8))) ao)))) (aa 9)))
 (aS 7 (ad aP (aa 7) (aE (aH kF (ai (aa 0) (ai (iI 5 (ad aP (aa 8) (aa 1))) aG)))))))
  fg)
 (au (aS 6 (ad cm (aa 6) (ad aO (aa 3) (aa 8))))
 (aS 7 (ad aP (aa 7) (aE (aH mQ (ai (aa 0) (ai (aa 6) aG))))))))))
noncomputable def mM (F:List PyData->Option Int):List Sl->Tr Re:=bp 5 5
 (au (fZ 5 (lp il (bX (dN (ae (aC (.int 0)) ao))) (ad aP (bd cP (ae (aa 3) ao)) (aa 1))))
 (au (aS 6 (aa 2))
 (au (aS 7 (aC (.int 0)))
 (au (dg (f7 (ae (bd cP (ae (aa 3) ao)) ao)) (af 8) (kP F))
 (bQ (ad aP (aa 7) (aE (aH mS (ai (aa 0) (ai (aa 6) aG))))))))))
theorem ZnI (T:Txt K mg) {o0:HO} {F:List PyData->Option Int}:ACal (fk P w K mg base 2 o0 F) P w K mg base "_law_walked" 3 ["_law_shop","_law_days","_law_stock","_law_row","_law_way"] (mM F):=bO T.ZmM fL rfl λf cdv A outer sh H E hr=>by
 exact (ay (iC (aJ (i:=5) fL.nd rfl (Or.inl rfl) (Zfr qj Zam (cE (eG (ah am aq))) (ak bg bf (bn (t:=aY) (bj fb rfl T.eT boot_len (ah (ac (pv 3)) aq)) ga) (ac (pv 1))))))
 (ay (aX (aJ (i:=6) fL.nd rfl (Or.inl rfl) (ac (pv 2))))
 (ay (aX (aJ (i:=7) fL.nd rfl (Or.inl rfl) am))
 (ay (dI PassesOwn.never rfl (hV (gO rfl T.eB (ah (bn (t:=aY) (bj fb rfl T.eT boot_len (ah (ac (pv 3)) aq)) ga) aq))) (aV (aU (i:=8) fL.nd rfl (Or.inl rfl)))
  (ay (aX (aJ (i:=6) fL.nd rfl (Or.inl rfl) (ak bg bf (ac (pv 6)) (rN (ac (pv 8)) (pv 5) (λ_ _=>rfl)))))
 (ay (aX (aJ (i:=9) fL.nd rfl (Or.inl rfl) (ak bg bf (ac (pv 6)) (bn (t:=aY) (bj (fV rfl) rfl T.fP boot_sum (ah (Zn8 (pv 5) (eE (ak bg bf (ac (pv 8)) am)) eF) aq)) fJ))))
 (ay (fY (dq ku eM (ak bg bf (ac (pv 8)) (ac (pv 1))) (bn (t:=aY) (bj fb rfl T.eT boot_len (ah (ac (pv 3)) aq)) ga) (nomark _))
  (ay (rF (fN (ak cC cz (Zn7 (j:=4) (hr.mono (by decide)) rfl (Or.inl rfl) (ah (ac (pv 8)) (ah (ac (pv 9)) (ah (ff (ac (pv 3)) eF (eE (ac (pv 8)))) aq)))) (ac (pv 9))) (i8 (pv 5) (ak bg bf (ac (pv 8)) (ac (pv 1))) ig)))
 (aK (aX (aJ (i:=7) fL.nd rfl (Or.inl rfl) (ak bg bf (ac (pv 7)) (aI (aM (ZnL T) (hr.mono (by decide)) rfl (aj (ac (pv 0)) (aj (rN (ak bg bf (ac (pv 8)) (ac (pv 1))) (pv 5) (λ_ _=>rfl)) aN)))))))))
  fX)
 (ay (aX (aJ (i:=6) fL.nd rfl (Or.inl rfl) (ak cC cz (ac (pv 6)) (bx bw bv (ac (pv 3)) (ac (pv 8)) (λ_ _=>rfl)))))
 (aK (aX (aJ (i:=7) fL.nd rfl (Or.inl rfl) (ak bg bf (ac (pv 7)) (aI (aM (ZnK T) (hr.mono (by decide)) rfl (aj (ac (pv 0)) (aj (ac (pv 6)) aN)))))))))))))
 (aK (bW (ak bg bf (ac (pv 7)) (aI (aM (ZnM T) (hr.mono (by decide)) rfl (aj (ac (pv 0)) (aj (ac (pv 6)) aN)))))))))))
noncomputable def j9 (F:List PyData->Option Int):List Sl->Tr PyData :=
 (ad bu (aa 1) (aE (aH (mM F) (ai (aa 2) (ai (aa 3) (ai (aa 4) (ai (aa 0) (cI 5 aG))))))))
noncomputable def gw (F:List PyData->Option Int):List Sl->Tr Re:=bp 5 0
 (bQ (bd cF (ae (bX (de (d7 (aE (aH mP (ai (aa 1) aG)))) 2 [0,2,3,4] (bh (aw (af 0) (aw (af 1) bc))) (j9 F))) ao)))
theorem ZcX (F:List PyData->Option Int) (as:List Sl) (m:Nat) (Z:Nat->Re->Prop) (h:(gw F as).ok m Z):as.length=5:=by
 unfold gw bp at h
 exact of_decide_eq_true (fx h).1
theorem ZeU (T:Txt K mg):Callee P w K mg base "_law_cost" 4 ["_law_shop","_law_falls","_law_days","_law_stock","_law_way"] (lP P w K mg base 2 5 λF=>gw F):=Zoe T.ZmY Zg8 rfl λo0 F f cdv A outer sh H E hr=>by
 exact (aK (bW (bn (t:=aY) (bj (fV rfl) rfl T.fP boot_sum (ah (cE (gD (gq lF ["_law_row","_law_many"] [0,2,3,4] rfl (fe (aI (aM (ZnJ T) (hr.mono (by decide)) rfl (aj (ac (pv 1)) aN)))) (λb=>(dw rfl (bG (aV (aU (i:=0) (show ((bN lF ["_law_row","_law_many"] [0,2,3,4])).Nodup by decide +kernel) rfl (Or.inl rfl))) (bG (aV (aU (i:=1) (show ((bN lF ["_law_row","_law_many"] [0,2,3,4])).Nodup by decide +kernel) rfl (Or.inl rfl))) dt)) (bD (bD dm)))) (λb=>(ak bL bJ (ac (pv 1)) (aI (aM (ZnI T) (hr.mono (by decide)) rfl (aj (ac (pv 2)) (aj (ac (pv 3)) (aj (ac (pv 4)) (aj (ac (pv 0)) (cY (pv 5) aN))))))))) rfl (show BlkOk lF (ap pP) _ [0,2,3,4] from ⟨rfl,by decide +kernel,by decide +kernel,by decide +kernel,by decide +kernel⟩)) (gj (cS (bZ (by decide)) (cS (bZ (by decide)) gk))))) aq)) fJ)))
noncomputable def mj:List Sl->Tr PyData :=
 (cZ (ae (aE (aH jl (ai (aa 0) (ai (aa 2) aG)))) (ae (aa 1) ao)))
noncomputable def mi:List Sl->Tr PyData :=
 (ad aP (aa 3) (aa 0))
noncomputable def mh:List Sl->Tr PyData :=
 (aa 1)
noncomputable def ni:List Sl->Tr Ou :=
 (au (aS 8 (aE (aH kE (ai (aa 1) (ai (aa 7) (ai (aa 3) aG))))))
 (au (aS 9 (aE (aH gX (ai (d4 (aa 1) (dB (aa 7)) dM) aG))))
 (au (aS 10 (aE (aH m8 (ai (aa 0) (ai (aa 8) (ai (aE (aH mZ (ai (aa 0) (ai (d4 (aa 1) (dB (aa 7)) dM) (ai (aa 2) (ai (aa 5) (ai (aa 8) aG))))))) (ai (aa 9) aG)))))))
 (au (jK 6 (bd gJ (ae (bX (de (d7 (aa 10)) 2 [9] (bh (aw (af 0) (aw (af 1) bc))) mj)) ao)))
 (aS 5 (gG (fI (aa 10)) 3 [8] (bh (aw (af 0) (aw (bh (aw (af 1) (aw (af 2) bc))) bc))) mi mh))))))
noncomputable def kC:List Sl->Tr Re:=bp 4 7
 (au (aS 4 (ad cm (bd cP (ae (aa 1) ao)) (aa 2)))
 (au (aS 5 (aE (aH mX (ai (aa 0) (ai (aa 1) (ai (aa 4) (ai (aa 3) aG)))))))
 (au (fZ 6 (dN ao))
 (au (dg (rS (ae (aa 4) ao)) (af 7) ni)
 (au (li 6)
 (jI 6 (bQ (cZ (ae (aa 6) (ae (ad fF (aa 5) (aa 3)) ao))))))))))
theorem ZeM (T:Txt K mg):ACal (bI cn) P w K mg base "short_days" 5 ["shop","falls","days","stock"] kC:=bO T.Zmv gg rfl λf cdv A outer sh H E hr=>by
 exact (ay (aX (aJ (i:=4) gg.nd rfl (Or.inl rfl) (ak cC cz (bn (t:=aY) (bj fb rfl T.eT boot_len (ah (ac (pv 1)) aq)) ga) (ac (pv 2)))))
 (ay (aX (aJ (i:=5) gg.nd rfl (Or.inl rfl) (aI (aM (ZnC T) (hr.mono (by decide)) rfl (aj (ac (pv 0)) (aj (ac (pv 1)) (aj (ac (pv 4)) (aj (ac (pv 3)) aN))))))))
 (ay (iC (aJ (i:=6) gg.nd rfl (Or.inl rfl) (eG aq)))
 (ay (dI PassesOwn.never rfl (Zn5 (Zcp rfl T.ZcD (gr Znk rfl T.eB boot_range (ah (ac (pv 4)) aq)))) (aV (aU (i:=7) gg.nd rfl (Or.inl rfl)))
  (ay (aX (aJ (i:=8) gg.nd rfl (Or.inr rfl) (aI (aM (ZeP T) (hr.mono (by decide)) rfl (aj (ac (pv 1)) (aj (ac (pv 7)) (aj (ac (pv 3)) aN)))))))
 (ay (aX (aJ (i:=9) gg.nd rfl (Or.inr rfl) (aI (aM (lb T) (hr.mono (by decide)) rfl (aj (ff (ac (pv 1)) (eE (ac (pv 7))) eF) aN)))))
 (ay (aX (aJ (i:=10) gg.nd rfl (Or.inl rfl) (aI (aM (ZnG T) (hr.mono (by decide)) rfl (aj (ac (pv 0)) (aj (ac (pv 8)) (aj (aI (aM (ZnE T) (hr.mono (by decide)) rfl (aj (ac (pv 0)) (aj (ff (ac (pv 1)) (eE (ac (pv 7))) eF) (aj (ac (pv 2)) (aj (ac (pv 5)) (aj (ac (pv 8)) aN))))))) (aj (ac (pv 9)) aN))))))))
 (ay (rG (io (mz PySem.F.plainAttrs_list PySem.F.slot_list_append PySem.F.type_list_append qv (pv 6) (cB (bn (t:=aY) (gr k9 rfl T.kz boot_tuple (ah (cE (gD (gq f9 ["cost","level"] [9] rfl (fe (ac (pv 10))) (λb=>(dw rfl (bG (aV (aU (i:=0) (show ((bN f9 ["cost","level"] [9])).Nodup by decide +kernel) rfl (Or.inl rfl))) (bG (aV (aU (i:=1) (show ((bN f9 ["cost","level"] [9])).Nodup by decide +kernel) rfl (Or.inl rfl))) dt)) (bD (bD dm)))) (λb=>(dA (ah (aI (aM (ZeN T) (hr.mono (by decide)) rfl (aj (ac (pv 0)) (aj (ac (pv 2)) aN)))) (ah (ac (pv 1)) aq)))) rfl (show BlkOk f9 (ap l5) _ [9] from ⟨rfl,by decide +kernel,by decide +kernel,by decide +kernel,by decide +kernel⟩)) (gj (cS (bZ (by decide)) (cS (bZ (by decide)) gk))))) aq)) jQ) cT))))
 (aK (ZnX (ZhG (i:=5) f9 ["at","cost","level"] [8] rfl gg.nd rfl rfl (hY (gQ rfl rfl T.gT (ac (pv 10)))) (λb=>(dw rfl (bG (aV (aU (i:=0) (show ((bN f9 ["at","cost","level"] [8])).Nodup by decide +kernel) rfl (Or.inl rfl))) (bG (dw rfl (bG (aV (aU (i:=1) (show ((bN f9 ["at","cost","level"] [8])).Nodup by decide +kernel) rfl (Or.inl rfl))) (bG (aV (aU (i:=2) (show ((bN f9 ["at","cost","level"] [8])).Nodup by decide +kernel) rfl (Or.inl rfl))) dt)) (bD (bD dm))) dt)) (bD (bD dm)))) (λb=>(ak bg bf (ac (pv 3)) (ac (pv 0)))) (λb=>(ac (pv 1))) rfl (show BlkOk f9 (ap l5) _ [8] from ⟨rfl,by decide +kernel,by decide +kernel,by decide +kernel,by decide +kernel⟩) rfl) (gj (cS (bZ (by decide)) (cS (gj (cS (bZ (by decide)) (cS (bZ (by decide)) gk))) gk))))))))))
 (ay (Zfi (io (Zcu PySem.F.plainAttrs_list PySem.F.slot_list_reverse PySem.F.type_list_reverse ZcE (pv 6))))
 (aK (nZ (k:=6) (bW (dA (ah (ac (pv 6)) (ah (Zfx (Zct (kT hr) (ac (pv 5)) (ac (pv 3)) (λ_ _=>rfl))) aq)))))))))))
noncomputable def nk:List Sl->Tr Ou :=
 (lr nH 5 (ad bu (aE (aH gX (ai (d4 (aa 1) (dB (ad aP (aa 6) (aC (.int 1)))) dM) aG))) (aE (aH jj (ai (aa 0) (ai (aE (aH ji (ai (d4 (aa 1) dM (dB (ad aP (aa 6) (aC (.int 1))))) aG))) (ai (aa 3) aG)))))))
noncomputable def kD:List Sl->Tr Re:=bp 4 3
 (au (oh (aE (aH kM (ai (aa 0) (ai (aa 1) (ai (aa 3) aG))))))
 (au (jJ (bh (aw (af 4) (aw (af 5) bc))) (aE (aH kC (ai (aa 0) (ai (aa 1) (ai (aa 2) (ai (aa 3) aG)))))))
 (au (dg (f7 (ae (aa 2) ao)) (af 6) nk)
 (rT (aH jl (ai (aa 5) (ai (aE (aH gX (ai (aa 1) aG))) aG)))))))
theorem ZeO (T:Txt K mg):ACal (bI cn) P w K mg base "least_late" 6 ["shop","falls","days","stock"] kD:=bO T.Zmz jZ rfl λf cdv A outer sh H E hr=>by
 exact (ay (Zfk (aI (aM (ZeS T) (hr.mono (by decide)) rfl (aj (ac (pv 0)) (aj (ac (pv 1)) (aj (ac (pv 3)) aN))))))
 (ay (n4 (fN (aI (aM (ZeM T) (hr.mono (by decide)) rfl (aj (ac (pv 0)) (aj (ac (pv 1)) (aj (ac (pv 2)) (aj (ac (pv 3)) aN)))))) (dw rfl (bG (aV (aU (i:=4) jZ.nd rfl (Or.inl rfl))) (bG (aV (aU (i:=5) jZ.nd rfl (Or.inl rfl))) dt)) (bD (bD dm)))))
 (ay (dI PassesOwn.never rfl (hV (gO rfl T.eB (ah (ac (pv 2)) aq))) (aV (aU (i:=6) jZ.nd rfl (Or.inl rfl)))
  (aK (Zfl ZfP (Zcl (i:=5) jZ.nd rfl (Or.inl rfl) (ak bL bJ (aI (aM (lb T) (hr.mono (by decide)) rfl (aj (ff (ac (pv 1)) (eE (ak bg bf (ac (pv 6)) am)) eF) aN))) (aI (aM (ZeK T) (hr.mono (by decide)) rfl (aj (ac (pv 0)) (aj (aI (aM (rz T) (hr.mono (by decide)) rfl (aj (ff (ac (pv 1)) eF (eE (ak bg bf (ac (pv 6)) am))) aN))) (aj (ac (pv 3)) aN)))))) (pip Zjh)))))
 (aK (ZnY (aM (ZeN T) (hr.mono (by decide)) rfl (aj (ac (pv 5)) (aj (aI (aM (lb T) (hr.mono (by decide)) rfl (aj (ac (pv 1)) aN))) aN))))))))
noncomputable def jk:List Sl->Tr Re:=bp 4 2
 (au (oh (aE (aH kM (ai (aa 0) (ai (aa 1) (ai (aa 3) aG))))))
 (au (jJ (bh (aw (af 4) (aw (af 5) bc))) (aE (aH kC (ai (aa 0) (ai (aa 1) (ai (aa 2) (ai (aa 3) aG)))))))
 (bQ (bd gJ (ae (aa 4) ao)))))
theorem ZeL (T:Txt K mg):ACal (bI cn) P w K mg base "short_table" 6 ["shop","falls","days","stock"] jk:=bO T.Zmu pr rfl λf cdv A outer sh H E hr=>by
 exact (ay (Zfk (aI (aM (ZeS T) (hr.mono (by decide)) rfl (aj (ac (pv 0)) (aj (ac (pv 1)) (aj (ac (pv 3)) aN))))))
 (ay (n4 (fN (aI (aM (ZeM T) (hr.mono (by decide)) rfl (aj (ac (pv 0)) (aj (ac (pv 1)) (aj (ac (pv 2)) (aj (ac (pv 3)) aN)))))) (dw rfl (bG (aV (aU (i:=4) pr.nd rfl (Or.inl rfl))) (bG (aV (aU (i:=5) pr.nd rfl (Or.inl rfl))) dt)) (bD (bD dm)))))
 (aK (bW (bn (t:=aY) (gr k9 rfl T.kz boot_tuple (ah (ac (pv 4)) aq)) jQ)))))
noncomputable def Zci:List Sl->Tr PyData :=
 (aE (aH di (cI 1 (ai (ad gm (aC (.int 10)) (aC (.int 9))) aG))))
noncomputable def nv:List Sl->Tr Ou :=
 (fh (cQ (ad (dH λi j=>decide (i < j)) (ad bu (aE (oi 2 nA (λF=>gw F) (ae (aa 3) (ae (aa 4) (ae (aa 7) (ae (aa 5) ao)))) (ae (aa 3) (ae (aa 12) ao)))) (ad aO (aa 9) (aC (.int 1)))) (ad bu (ad aO (aa 9) (aC (.int 0))) (aa 6))))
  (bQ (aC (.bool false)))
  fg)
noncomputable def nu:List Sl->Tr Ou :=
 (au (aS 8 (aE (aH jk (ai (aa 3) (ai (aa 4) (ai (aa 7) (ai (aa 5) aG)))))))
 (au (aS 9 (aE (aH kD (ai (aa 3) (ai (aa 4) (ai (aa 7) (ai (aa 5) aG)))))))
 (au (aS 10 (bd gL (ae (cZ (ae (aa 8) (ae (aa 9) ao))) ao)))
 (au (aS 11 (aE (oi 3 nz (λF=>gw F) (ae (aa 3) (ae (aa 4) (ae (aa 7) (ae (aa 5) ao)))) (ae (aa 8) (ae (aa 5) (ae (aa 4) ao))))))
 (au (fh (cQ (ad ky (bd gL (ae (aa 9) ao)) (bd gL (ae (aE (aH mO (ai (aa 11) (ai (aa 6) aG)))) ao))))
  (bQ (aC (.bool false)))
  fg)
 (au (dg (d7 (aa 2)) (af 12) nv)
 (fh (cQ (ad ky (bd gL (ae (cZ (ae (aE (aH jk (ai (aa 3) (ai (aa 4) (ai (aa 7) (ai (aa 5) aG)))))) (ae (aE (aH kD (ai (aa 3) (ai (aa 4) (ai (aa 7) (ai (aa 5) aG)))))) ao))) ao)) (aa 10)))
  (bQ (aC (.bool false)))
  fg)))))))
noncomputable def mV:List Sl->Tr Ou :=
 (au (aS 2 (bX (de (f7 (ae (aC (.int 4)) ao)) 1 [1] (af 0) Zci)))
 (au (jJ (bh (aw (af 3) (aw (af 4) (aw (af 5) bc)))) (aE (aH mU (cI 1 aG))))
 (au (aS 6 (aE (aH kI (ai (aa 4) (ai (aC (.int 0)) aG)))))
 (au (dg (jH (ae (aC (.int 1)) (ae (ad aP (bd mJ (ae (aC (.int 3)) (ae (ad cm (bd cP (ae (aa 4) ao)) (aC (.int 1))) ao))) (aC (.int 1))) ao))) (af 7) nu)
 (bQ (aC (.bool true)))))))
noncomputable abbrev qG:List Sl:=.un::.pen::List.replicate 11 .un
theorem Zih (T:Txt K mg) {f:Addr} {fd:FuncData} (Fl:Fun K "law" "law" l7 f fd) {c1 P1 c2 P2:Addr} (D1:DefK K mg "_law_told" ik ["_law_table","_law_stock","_law_falls"] c1 P1) (D2:DefK K mg "_law_any" iU ["_law_shop","_law_key"] c2 P2) (BK:BltK base mg) (hl:(mV qG).ok 0 λ_ o=>o=.ret (.d (.bool true))):FnOk P w K mg base cJ 7 f fd ["_law_script"] (jW [P1,P2] K):=by
 refine Fl.ok eA (λvs H Q E h=>?_) (λcdv A outer s H vs Q E hr h=>?_)
 ·obtain ⟨a,ns,rfl,_⟩:=h
  rfl
 ·obtain ⟨a,ns,rfl,hS,hlen,hT,k⟩:=h
  have hu:=kT hr
  refine ⟨_,(eQ (aJ (i:=1) eA.nd rfl (Or.inr rfl) (ki (Zig T) (hr.mono (by decide)) rfl (cB (pv 0) cT)))
 (ZhC (t:=λcn=>bq (PKs [P1,P2] (bI cn)) mV) λcn=>(ay (Zfh (qd (i:=2) ox ["_law_k"] [1] rfl eA.nd rfl rfl (hV (gO rfl T.eB (ah am aq))) (λb=>(aV (aU (i:=0) (show ((bN ox ["_law_k"] [1])).Nodup by decide +kernel) rfl (Or.inl rfl)))) (λb=>(aI (aM (ACal.cods (dY T)) (hr.mono (by decide)) rfl (cY (pv 1) (aj (ak kr oN am am) aN))))) rfl (show BlkOk ox (ap l7) _ [1] from ⟨rfl,by decide +kernel,by decide +kernel,by decide +kernel,by decide +kernel⟩) rfl) (bZ (by decide)))
 (ay (n4 (fN (aI (aM (ACal.cods (Znz T)) (hr.mono (by decide)) rfl (cY (pv 1) aN))) (dw rfl (bG (aV (aU (i:=3) eA.nd rfl (Or.inl rfl))) (bG (aV (aU (i:=4) eA.nd rfl (Or.inl rfl))) (bG (aV (aU (i:=5) eA.nd rfl (Or.inl rfl))) dt))) (bD (bD (bD dm))))))
 (ay (aX (aJ (i:=6) eA.nd rfl (Or.inl rfl) (aI (aM (ACal.cods (Zny T)) (hr.mono (by decide)) rfl (aj (ac (pv 4)) (aj am aN))))))
 (ay (dI PassesOwn.never rfl (rJ (qf rfl T.eB (ah am (ah (ak bg bf (bn (t:=aY) (bj (Znl rfl) rfl T.qu boot_min (ah am (ah (ak cC cz (bn (t:=aY) (bj fb rfl T.eT boot_len (ah (ac (pv 4)) aq)) ga) am) aq))) ZfR) am) aq)))) (aV (aU (i:=7) eA.nd rfl (Or.inl rfl)))
  (ay (aX (aJ (i:=8) eA.nd rfl (Or.inl rfl) (aI (aM (ACal.cods (ZeL T)) (hr.mono (by decide)) rfl (aj (ac (pv 3)) (aj (ac (pv 4)) (aj (ac (pv 7)) (aj (ac (pv 5)) aN))))))))
 (ay (aX (aJ (i:=9) eA.nd rfl (Or.inl rfl) (aI (aM (ACal.cods (ZeO T)) (hr.mono (by decide)) rfl (aj (ac (pv 3)) (aj (ac (pv 4)) (aj (ac (pv 7)) (aj (ac (pv 5)) aN))))))))
 (ay (aX (aJ (i:=10) eA.nd rfl (Or.inl rfl) (bn (t:=aY) (bj (nU hr) rfl T.mE boot_repr (ah (dA (ah (ac (pv 8)) (ah (ac (pv 9)) aq))) aq)) lK)))
 (ay (aX (aJ (i:=11) eA.nd rfl (Or.inl rfl) (aI (Zfp (ZeU T) ZcX (hr.mono (by decide)) rfl (hU (ac (pv 3)) (hU (ac (pv 4)) (hU (ac (pv 7)) (hU (ac (pv 5)) (aw1 (ki (ZnO T D1 BK (.head _)) (hr.mono (by decide)) rfl (ah (ac (pv 8)) (ah (ac (pv 5)) (ah (ac (pv 4)) aq)))))))))))))
 (ay (fY (dq (Zcy hr) Zan (bn (t:=aY) (bj (nU hr) rfl T.mE boot_repr (ah (ac (pv 9)) aq)) lK) (bn (t:=aY) (bj (nU hr) rfl T.mE boot_repr (ah (aI (aM (ACal.cods (Znv T)) (hr.mono (by decide)) rfl (aj (ac (pv 11)) (aj (ac (pv 6)) aN)))) aq)) lK) (nomark _))
  (aK (bW oa))
  fX)
 (ay (dI PassesOwn.never rfl (fe (ac (pv 2))) (aV (aU (i:=12) eA.nd rfl (Or.inl rfl)))
  (aK (fY (dq ku eM (ak bL bJ (aI (Zfp (ZeU T) ZcX (hr.mono (by decide)) rfl (hU (ac (pv 3)) (hU (ac (pv 4)) (hU (ac (pv 7)) (hU (ac (pv 5)) (aw1 (ki (ZnP T D2 BK (.tail _ (.head _))) (hr.mono (by decide)) rfl (ah (ac (pv 3)) (ah (ac (pv 12)) aq)))))))))) (bx bw bv (ac (pv 9)) am (λ_ _=>rfl))) (ak bL bJ (bx bw bv (ac (pv 9)) am (λ_ _=>rfl)) (ac (pv 6))) (nomark _))
  (aK (bW oa))
  fX)))
 (aK (fY (dq (Zcy hr) Zan (bn (t:=aY) (bj (nU hr) rfl T.mE boot_repr (ah (dA (ah (aI (aM (ACal.cods (ZeL T)) (hr.mono (by decide)) rfl (aj (ac (pv 3)) (aj (ac (pv 4)) (aj (ac (pv 7)) (aj (ac (pv 5)) aN)))))) (ah (aI (aM (ACal.cods (ZeO T)) (hr.mono (by decide)) rfl (aj (ac (pv 3)) (aj (ac (pv 4)) (aj (ac (pv 7)) (aj (ac (pv 5)) aN)))))) aq))) aq)) lK) (ac (pv 10)) (nomark _))
  (aK (bW oa))
  fX)))))))))
 (aK (bW oa)))))))),?_⟩
  refine ⟨_,rfl,a,ns,rfl,hS,hlen,λp c H' hp hP hs=>?_⟩
  exact ZiW (n:=11) hP (λt ht=>hs _ _ (hT t ht)) rfl rfl (λH' q=>k H' q) hl
end
end My
local macro_rules | `(tactic| simp_arith only [$ls,*] $[$loc]?) => do let b : Lean.TSyntaxArray ``Lean.Parser.Tactic.simpLemma ← (("L2.ZjQ L2.ZjP L2.ZlW L2.ZlA L2.Zlz L2.ZlO L2.ZlN L2.q9 L2.ZjY L2.Zlw L2.Zlo L2.ZkI L2.Zk0 L2.dW L2.lf L2.nW L2.rE L2.Zfe L2.Zfd L2.Zfc L2.Zfb L2.Zfa L2.Ze9 L2.ZkH L2.ZkG L2.ZjX L2.ZjU L2.ZjW L2.ZjV L2.Zlf L2.Zld L2.Zle L2.ZkF L2.Zlv L2.Zlu L2.Zlt L2.ZjT L2.ZjS L2.ZkN L2.ZkM L2.ZkP L2.ZkO L2.ce L2.Zlx L2.ZkQ L2.kX L2.ZlP L2.ZkL L2.ZkK L2.Zk4 L2.ZjR L2.kW L2.qY L2.Zj1 L2.Zj0 L2.ZjZ L2.ZkB L2.ZkA L2.Zkz L2.ZlS L2.ZlT L2.ZlV L2.ZlU L2.Zkw L2.Zkv L2.ZlR L2.ZlQ L2.Zly L2.Zku L2.Zkt L2.Zls L2.Zll L2.Zlk L2.Zkc L2.Zkb L2.Zka L2.Zj2 L2.Zk8 L2.Zk6 L2.Zk7 L2.Zks L2.Zkr L2.Zkq L2.Zkp L2.Zko L2.Zkn L2.Zkm L2.Zj9 L2.Zj8 L2.Zj7 L2.Zj6 L2.ZiL L2.ZiK L2.ZlE L2.ZlD L2.ZlC L2.Zlg L2.ZkD L2.ZkC L2.ZlJ L2.ZlI L2.ZlH L2.Zkl L2.Zkk L2.Zlh L2.ZjF L2.ZjG L2.ZlG L2.ZlF L2.ZkE L2.Zjt L2.Zjr L2.Zju L2.Zjv L2.Zjs L2.Zky L2.Zkx L2.Zk3 L2.Zk2 L2.Zk1 L2.Zkh L2.Zkg L2.Zlp L2.Zlr L2.Zlq L2.Zlj L2.Zli L2.g8 L2.dF L2.ZkW L2.ZkV L2.ZkU L2.ZkR L2.ZkT L2.ZkS L2.Zk9 L2.Zlb L2.Zlc L2.Zla L2.Zj5 L2.Zj4 L2.Zj3 L2.ZdR L2.ZdQ L2.Zkf L2.Zkj L2.Zki L2.Zke L2.Zkd L2.Zln L2.Zlm L2.qZ L2.ZkZ L2.ZkY L2.ZkX Tw.ZgO Tw.ZgN Tw.ZgM Tw.Za1 Tw.ZgL Tw.ZgK Tw.ZgJ Tw.ZgI Tw.ZgH L2.ZdI L2.ZkJ L2.Zk5 L2.rb2 L2.Tr.of_some L2.Tr.bind_assoc L2.Tr.draw_bind List.cons_append List.nil_append List.replicate_succ List.replicate_zero List.length_cons List.length_nil L2.Re.val_d L2.Re.val_own L2.blk L2.rB List.map_cons List.map_nil List.getElem?_cons_zero List.getElem?_cons_succ Option.getD_some Nat.reduceAdd Nat.reduceLeDiff List.isEmpty_cons".splitOn " ").toArray.map fun s => Lean.mkIdent s.toName).mapM fun i => `(Lean.Parser.Tactic.simpLemma| $i:ident); `(tactic| simp -implicitDefEqProofs only [$b,*, $ls,*] $[$loc]?)
namespace My
open PySem PySem.Spec PyProof.Rows L2 Tw
theorem Zl7 (s:Shp) (y f:Int):mL [.d s.d,.d (.int y),.d (.int f)]=.ret (.d (.int (s.nx y f))):=by
 simp_arith only [mL,Shp.nx]
theorem Zmf {s:Shp} (h:s.Ok) {x:Int} (hx:nb 20 x):kK [.d s.d,.d (.int x)]=.ret (.d (.int (s.fin x))):=by
 have f1:=aD (gv h.back) (by decide)
 have f2:=aD h.late (by decide)
 have f3:=aD hx (by decide)
 have f4:=aD (gv hx) (by decide)
 by_cases hp:x > 0
 ·simp_arith only [kK,decide_eq_true hp,f1,f3,Shp.fin,if_pos hp]
 ·simp_arith only [kK,decide_eq_false hp,f2,f4,Shp.fin,if_neg hp]
theorem Zmh {s:Shp} (h:s.Ok) {y f:Int} (hy:nb 20 y) (hf:nb 40 f):kL [.d s.d,.d (.int y),.d (.int f)]=.ret (.d (.int (s.day y f))):=by
 have hd:nb 7 s.depth:=by have:=h.t0; have:=h.d0; have:=h.td; exact bR (by show -128 < _; omega) (by show _ < 128; omega)
 have hn:nb 50 (s.nx y f):=by
  unfold Shp.nx cx
  exact mC (aT (gv hd) (by decide)) (aT (gu hy hf) (by decide))
 have f1:=aD h.keep (by decide)
 have f2:=aD hn (by decide)
 have f3:=aD (gv hn) (by decide)
 have f4:=aD h.lack (by decide)
 have f5:=aD h.lost (by decide)
 have f6:=aD (gu hn (gu hy hf)) (by decide)
 have e:=Zl7 s y f
 by_cases hp:s.nx y f > 0
 ·simp_arith only [kL,e,decide_eq_true hp,f1,f2,f5,f6,Shp.day,if_pos hp]
 ·simp_arith only [kL,e,decide_eq_false hp,f3,f4,f5,f6,Shp.day,if_neg hp]
theorem ZnU {xs:List PyData} {v:PyData} (h:xs[xs.length - 1]?=some v):bb xs (-1)=some v:=by
 have hl:xs≠[]:=λe=>by subst e; cases h
 have hp:0 < xs.length:=List.length_pos_iff.mpr hl
 obtain ⟨k,hk⟩:=Nat.exists_eq_succ_of_ne_zero (Nat.ne_of_gt hp)
 unfold bb cV
 have e0:(-1:Int)+(xs.length:Int)=(k:Int):=by rw [hk]; show (-1:Int)+((k:Int)+1)=k; rw [Int.add_comm,Int.add_assoc]; exact Int.add_zero _
 have e:((-1:Int)+(xs.length:Int)).toNat=xs.length - 1:=by rw [e0,hk]; exact Int.toNat_natCast k
 rw [if_neg (by decide),if_pos (by omega)]
 show xs[((-1:Int)+(xs.length:Int)).toNat]?=some v
 rw [e]
 exact h
noncomputable def dh (g:Int->Int) (top K P x:Int):PyData:=.tuple [.int (cst g top K P x),.int (lvl g top K x)]
theorem Zhp {lo hi:Int} {F:Int->PyData}:((List.range (hi - lo).toNat).map λ(i:Nat)=>F (hi - 1 - i)).reverse=(aB lo (hi - lo).toNat).map F:=by
 unfold aB
 rw [List.map_map]
 apply List.ext_getElem?
 intro i
 by_cases hi':i < (hi - lo).toNat
 ·rw [List.getElem?_reverse (by simpa using hi'),List.length_map,List.length_range,List.getElem?_map,List.getElem?_map,List.getElem?_range (by omega),List.getElem?_range hi']
  show some (F (hi - 1 - (((hi - lo).toNat - 1 - i:Nat):Int)))=some (F (lo+(i:Int)))
  congr 2
  omega
 ·rw [List.getElem?_eq_none (by simpa using hi'),List.getElem?_eq_none (by simpa using hi')]
theorem Zmj {s:Shp} (h:s.Ok) {low:Int} (hl:low<=s.top) (hl0:-1000<=low) {g:Int->Int} {b:Nat} (hg:∀ x,low<=x->x<=s.top->nb b (g x)) {sc:Int} (hs:nb b sc) (hK:0<=sc * s.start) (hb:b<=3000) :
  m8 [.d s.d,.d (.int low),.d (lI ((aB low (s.top+1 - low).toNat).map g)),.d (.int sc)]=.ret (.own ((aB low (s.top+1 - low).toNat).map (dh g s.top (sc * s.start) (sc * s.piece)))):=by
 have:=h.t0
 have:=h.d0
 have:=h.td
 have hn:0 < (s.top+1 - low).toNat:=by omega
 have hlen:(((aB low (s.top+1 - low).toNat).map g).map PyData.int).length=(s.top+1 - low).toNat:=by rw [List.length_map,List.length_map,gh]
 have hat:∀ x,low<=x->x<=s.top->(((aB low (s.top+1 - low).toNat).map g).map PyData.int)[(x - low).toNat]?=some (.int (g x)):=λx h1 h2=>by
  unfold aB
  rw [List.map_map,List.map_map,List.getElem?_map,List.getElem?_range (by omega)]
  show some (PyData.int (g (low+((x - low).toNat:Int))))=_
  congr 3
  omega
 have hlast:bb (((aB low (s.top+1 - low).toNat).map g).map PyData.int) (-1)=some (.int (g s.top)):=ZnU (by
  rw [hlen]
  have:=hat s.top hl (Int.le_refl _)
  have e:(s.top - low).toNat=(s.top+1 - low).toNat - 1:=by
   obtain ⟨k,hk⟩:=Int.eq_ofNat_of_zero_le (Int.sub_nonneg_of_le hl)
   have hk2:s.top+1 - low=((k+1:Nat):Int):=by omega
   rw [hk,hk2]
   rfl
  rw [e] at this
  exact this)
 have r1:eC low=true:=dE (by omega) (by omega)
 have r2:eC (s.top+1)=true:=dE (by omega) (by omega)
 have f1:=aD hs (by omega)
 have f2:=aD h.start (by decide)
 have f3:=aD h.piece (by decide)
 have f4:=aD (b9 hs h.piece) (by omega)
 apply Zfv
 simp_arith only [m8,lI,hlast,nO r1 r2]
 refine gE (n:=0) (n':=0) (P:=λo=>∃ J5 J6 J7 J8 J9:Sl,o=.next [.d s.d,.d (.int low),.d (.list (((aB low (s.top+1 - low).toNat).map g).map PyData.int)),.d (.int sc),.own ((List.range (s.top+1 - low).toNat).map λ(i:Nat)=>dh g s.top (sc * s.start) (sc * s.piece) (s.top+1 - 1 - i)),J5,J6,J7,J8,J9]) ?_ (by decide) ?_
 ·refine Zfu (n:=0) (λpre ρ=>∃ J6 J7 J8 J9:Sl,ρ=[.d s.d,.d (.int low),.d (.list (((aB low (s.top+1 - low).toNat).map g).map PyData.int)),.d (.int sc),.own ((List.range pre.length).map λ(i:Nat)=>dh g s.top (sc * s.start) (sc * s.piece) (s.top+1 - 1 - i)),.d (.tuple [.int (bst g s.top (pre.length - 1)).1,.int (bst g s.top (pre.length - 1)).2]),J6,J7,J8,J9]) ⟨.un,.un,.un,.un,rfl⟩ (by simp) ?_ ?_
  ·rintro pre x post ρ e ⟨J6,J7,J8,J9,rfl⟩
   obtain ⟨rfl,hpre⟩:=ZbF e
   refine ⟨_,rfl,?_⟩
   generalize hk:pre.length=k at hpre ⊢
   have hx1:low<=s.top+1 - 1 - (k:Int):=by omega
   have hx2:s.top+1 - 1 - (k:Int)<=s.top:=by omega
   have ha:bb (((aB low (s.top+1 - low).toNat).map g).map PyData.int) (s.top+1 - 1 - (k:Int) - low)=some (.int (g (s.top+1 - 1 - (k:Int)))):=fW (by omega) (hat _ hx1 hx2)
   have hxn:nb 20 (s.top+1 - 1 - (k:Int)):=bR (by show -1048576 < _; omega) (by show _ < 1048576; omega)
   have f5:=aD hxn (by decide)
   have hsm:small (((List.range k).map λ(i:Nat)=>dh g s.top (sc * s.start) (sc * s.piece) (s.top+1 - 1 - i)).length+1)=true:=ce (by rw [List.length_map,List.length_range]; omega)
   have el:(pre++[PyData.int (s.top+1 - 1 - (k:Int))]).length=k+1:=by rw [List.length_append,hk]; rfl
   have m1:bF gU [.tuple [.int (g (s.top+1 - 1 - (k:Int))),.int (s.top+1 - 1 - (k:Int))],.tuple [.int (sc * s.start+(bst g s.top (k - 1)).1),.int (bst g s.top (k - 1)).2]]=.ret (.tuple [.int (pck g s.top (sc * s.start) (s.top+1 - 1 - (k:Int))).1,.int (pck g s.top (sc * s.start) (s.top+1 - 1 - (k:Int))).2]):=by
    rw [qZ]
    cases k with
    | zero =>
     have ex:s.top+1 - 1 - ((0:Nat):Int)=s.top:=by simp
     rw [ex,qh,if_neg]
     show ¬ (sc * s.start+g s.top < g s.top\/sc * s.start+g s.top=g s.top/\s.top < s.top)
     omega
    | succ n =>
     have ex:s.top+1 - 1 - ((n+1:Nat):Int)=s.top - ((n+1:Nat):Int):=by omega
     rw [ex,qi,Nat.add_sub_cancel]
     have hb:=(nV g s.top n).1
     by_cases hc:sc * s.start+(bst g s.top n).1 < g (s.top - ((n+1:Nat):Int))
     ·rw [if_pos (.inl hc),if_pos hc]
     ·rw [if_neg (by omega),if_neg hc]
   have m2:bF gU [.tuple [.int (g (s.top+1 - 1 - (k:Int))),.int (s.top+1 - 1 - (k:Int))],.tuple [.int (bst g s.top (k - 1)).1,.int (bst g s.top (k - 1)).2]]=.ret (.tuple [.int (bst g s.top k).1,.int (bst g s.top k).2]):=by
    rw [qZ]
    cases k with
    | zero =>
     have ex:s.top+1 - 1 - ((0:Nat):Int)=s.top:=by simp
     rw [ex,if_neg]
     ·rfl
     ·show ¬ (g s.top < g s.top\/g s.top=g s.top/\s.top < s.top)
      omega
    | succ n =>
     have ex:s.top+1 - 1 - ((n+1:Nat):Int)=s.top - ((n+1:Nat):Int):=by omega
     rw [ex,Nat.add_sub_cancel]
     have hb:=(nV g s.top n).1
     rw [bst]
     by_cases hc:(bst g s.top n).1 < g (s.top - ((n+1:Nat):Int))
     ·rw [if_pos (.inl hc),if_pos hc]
     ·rw [if_neg (by omega),if_neg hc]
   simp_arith only [Zda,ha,m1,m2,f1,f2,f3,f4,f5,hsm]
   rw [el,List.range_succ,List.map_append]
   exact dJ ⟨_,rfl,_,_,_,_,rfl⟩
  ·rintro ρ ⟨J6,J7,J8,J9,rfl⟩
   rw [List.length_reverse,cO]
   exact ⟨_,J6,J7,J8,J9,rfl⟩
 ·rintro _ ⟨J5,J6,J7,J8,J9,rfl⟩
  simp_arith only [List.isEmpty_cons]
  rw [Zhp]
  exact dJ rfl
theorem Zmc {a b:Int} (hb:nb 8000 b):m7 [.d (.int a),.d (.int b)]=.ret (.d (.int (Nat.gcd a.natAbs b.natAbs:Nat))):=by
 have key:=euclid (p:=oM) (s:=qI) (E:=λa b=>[.d (.int a),.d (.int b)]) (λa b=>by
  simp_arith only [oM]
  by_cases h:b=0
  ·subst h; rfl
  ·rw [decide_eq_true h]
   congr 1
   simp [h]) (λa b h=>by
  have h':(b:Int)≠0:=by omega
  simp_arith only [qI,ju h',ZdA]) 8000 83999 a.natAbs b.natAbs hb
 have e:2 * 8000+1+83999=100000:=rfl
 rw [e] at key
 simp_arith only [m7,Zfy,key]
theorem ZdZ {t b:Int} (h0:b≠0) (hb:nb 7000 b):jl [.d (.int t),.d (.int b)]=.ret (.d (cu t b)):=by
 have e:=Zmc (a:=t) (b:=b) (aT hb (by decide))
 have e0:(b == 0)=false:=beq_eq_false_iff_ne.mpr h0
 have hd:=Gc.rf (t:=t) h0
 have hf:=aD (Zei (t:=t) hb h0) (by decide)
 unfold cu Gc.eV Gc.dS
 by_cases hn:b < 0
 ·have ed:Gc.den t b=-((Nat.gcd t.natAbs b.natAbs:Nat):Int):=by unfold Gc.den Gc.g7; rw [if_pos hn]
  rw [ed] at hd hf ⊢
  simp_arith only [jl,e0,e,decide_eq_true hn,nQ hd hf]
 ·have ed:Gc.den t b=((Nat.gcd t.natAbs b.natAbs:Nat):Int):=by unfold Gc.den Gc.g7; rw [if_neg hn]
  rw [ed] at hd hf ⊢
  simp_arith only [jl,e0,e,decide_eq_false hn,nQ hd hf]
end My
namespace My
open PySem PySem.Spec PyProof.Rows L2 Tw Bar
noncomputable def br (n:Nat) (r:Nat->Int):List PyData:=((List.range n).map r).map PyData.int
theorem pU (n:Nat) (r:Nat->Int):(br n r).length=n:=by unfold br; rw [List.length_map,List.length_map,List.length_range]
theorem l9 {n:Nat} {r:Nat->Int} {j:Nat} (h:j < n):(br n r)[j]?=some (.int (r j)):=by
 unfold br
 rw [List.getElem?_map,List.getElem?_map,List.getElem?_range h]
 rfl
theorem Zhm {n:Nat} {r:Nat->Int} {j:Nat} (h:j < n) (v:Int):(br n r).set j (.int v)=br n λq=>if q=j then v else r q:=by
 apply List.ext_getElem?
 intro q
 rw [List.getElem?_set]
 by_cases e:j=q
 ·subst e
  rw [if_pos rfl,if_pos (by rw [pU]; exact h),l9 h,if_pos rfl]
 ·rw [if_neg e]
  by_cases hq:q < n
  ·rw [l9 hq,l9 hq,if_neg (λz=>e z.symm)]
  ·rw [List.getElem?_eq_none (by rw [pU]; omega),List.getElem?_eq_none (by rw [pU]; omega)]
theorem l8 {n:Nat} {r r':Nat->Int} (h:∀ j,j < n->r j=r' j):br n r=br n r':=by
 unfold br
 congr 1
 exact List.map_congr_left λj hj=>h j (List.mem_range.mp hj)
noncomputable def cvN (a b:List Int) (k:Nat):Int:=ws (λi=>ws (λj=>if (i+j).toNat=k then 1 else 0) 0 b) 0 a
noncomputable def cy (a b:List Int):List Int:=(List.range (a.length+b.length - 1)).map (cvN a b)
theorem Zex (a b:List Int):(cy a b).length=a.length+b.length - 1:=by unfold cy; rw [List.length_map,List.length_range]
theorem o8 (f g:Nat->Int):∀ n:Nat,Bar.bY (λj=>f j+g j) n=Bar.bY f n+Bar.bY g n
 | 0=>rfl
 | n+1=>by rw [Bar.bY,Bar.bY,Bar.bY,o8 f g n]; omega
theorem o7 (f:Nat->Int) (c:Int):∀ n:Nat,Bar.bY (λj=>c * f j) n=c * Bar.bY f n
 | 0=>by rw [Bar.bY,Bar.bY,Int.mul_zero]
 | n+1=>by rw [Bar.bY,Bar.bY,o7 f c n,Int.mul_add]
theorem o6 {f:Nat->Int}:∀ n:Nat,(∀ j,j < n->f j=0)->Bar.bY f n=0
 | 0,_=>rfl
 | n+1,h=>by rw [Bar.bY,o6 n λj hj=>h j (by omega),h n (by omega)]; rfl
theorem Zgt {g n:Nat} (h:g < n) (v:Nat->Int):Bar.bY (λj=>(if g=j then 1 else 0) * v j) n=v g:=by
 have key:∀ m:Nat,Bar.bY (λj=>(if g=j then 1 else 0) * v j) m=if g < m then v g else 0:=by
  intro m
  induction m with
  | zero=>rfl
  | succ m ih =>
   rw [Bar.bY,ih]
   by_cases e:g=m
   ·subst e
    rw [if_neg (by omega),if_pos rfl,if_pos (by omega),Int.one_mul]
    omega
   ·rw [if_neg e]
    by_cases e2:g < m
    ·rw [if_pos e2,if_pos (by omega)]
     simp
    ·rw [if_neg e2,if_neg (by omega)]
     simp
 rw [key,if_pos h]
theorem ZaO {n:Nat} {ix:Int->Nat} (v:Nat->Int):∀ (l:List Int) (k:Nat),(∀ q:Nat,q < l.length->ix ((k+q:Nat):Int) < n)->Bar.bY (λj=>ws (λf=>if ix f=j then 1 else 0) k l * v j) n=ws (λf=>v (ix f)) k l
 | [],k,_=>by
  rw [o6 n λj _=>by rw [ws,Int.zero_mul]]
  rfl
 | w::l,k,h=>by
  have ih:=ZaO v l (k+1) λq hq=>by
   have:=h (q+1) (by rw [List.length_cons]; omega)
   rw [show k+(q+1)=k+1+q by omega] at this
   exact this
  have e:(λj=>ws (λf=>if ix f=j then 1 else 0) k (w::l) * v j)=λj=>w * ((if ix (k:Int)=j then 1 else 0) * v j)+ws (λf=>if ix f=j then 1 else 0) (k+1) l * v j:=funext λj=>by rw [ws,Int.add_mul,Int.mul_assoc]
  have h0:=h 0 (by simp)
  rw [Nat.add_zero] at h0
  rw [e,o8,o7,Zgt h0,ih]
  rfl
theorem ZfJ (f:Int->Int) (c:Nat->Int):∀ (n k:Nat),ws f k ((List.range n).map c)=Bar.bY (λj=>c j * f ((k+j:Nat):Int)) n:=by
 intro n
 induction n generalizing c with
 | zero=>intro k; rfl
 | succ n ih =>
  intro k
  have e:Bar.bY (λj=>c j * f ((k+j:Nat):Int)) (n+1)=c 0 * f ((k:Nat):Int)+Bar.bY (λj=>c (j+1) * f ((k+1+j:Nat):Int)) n:=by
   have:∀ m:Nat,Bar.bY (λj=>c j * f ((k+j:Nat):Int)) (m+1)=c 0 * f ((k:Nat):Int)+Bar.bY (λj=>c (j+1) * f ((k+1+j:Nat):Int)) m:=by
    intro m
    induction m with
    | zero=>show 0+c 0 * f ((k+0:Nat):Int)=c 0 * f (k:Int)+0; rw [Nat.add_zero]; omega
    | succ m ihm =>
     rw [Bar.bY,ihm,Bar.bY,show k+(m+1)=k+1+m by omega]
     omega
   exact this n
  rw [List.range_succ_eq_map,List.map_cons,List.map_map,ws,e]
  have:=ih (c ∘ Nat.succ) (k+1)
  rw [this]
  rfl
theorem ZfK (f:Int->Int) (a b:List Int) (hb:0 < b.length):ws f 0 (cy a b)=ws (λi=>ws (λj=>f (i+j)) 0 b) 0 a:=by
 unfold cy
 rw [ZfJ]
 have key:∀ (l:List Int) (k:Nat),k+l.length<=a.length->Bar.bY (λq=>ws (λi=>ws (λj=>if (i+j).toNat=q then 1 else 0) 0 b) k l * f ((0+q:Nat):Int)) (a.length+b.length - 1)=ws (λi=>ws (λj=>f (i+j)) 0 b) k l:=by
  intro l
  induction l with
  | nil =>
   intro k _
   rw [o6 _ λj _=>by rw [ws,Int.zero_mul]]
   rfl
  | cons w l ih =>
   intro k hk
   rw [List.length_cons] at hk
   have e:(λq=>ws (λi=>ws (λj=>if (i+j).toNat=q then 1 else 0) 0 b) k (w::l) * f ((0+q:Nat):Int))=λq=>w * (ws (λj=>if ((k:Int)+j).toNat=q then 1 else 0) 0 b * f ((0+q:Nat):Int))+ws (λi=>ws (λj=>if (i+j).toNat=q then 1 else 0) 0 b) (k+1) l * f ((0+q:Nat):Int):=funext λq=>by rw [ws,Int.add_mul,Int.mul_assoc]
   rw [e,o8,o7,ZaO (ix:=λj=>((k:Int)+j).toNat) (λq=>f ((0+q:Nat):Int)) b 0 (λq hq=>by show ((k:Int)+((0+q:Nat):Int)).toNat < _; omega),ih (k+1) (by omega),ws]
   congr 2
   refine c7 λx hx=>?_
   show f ((0+((k:Int)+x).toNat:Nat):Int)=f ((k:Int)+x)
   congr 1
   omega
 exact key a 0 (by omega)
noncomputable def cb (fs:List (List Int)):List Int:=fs.foldl cy [1]
noncomputable def sv:List (List Int)->(Int->Int)->Int
 | [],f=>f 0
 | d::fs,f=>ws (λi=>sv fs λj=>f (i+j)) 0 d
theorem o3:∀ {fs:List (List Int)} {f g:Int->Int},(∀ x,0<=x->f x=g x)->sv fs f=sv fs g
 | [],f,g,h=>h 0 (by decide)
 | d::fs,f,g,h=>c7 λi hi=>o3 λj hj=>h _ (by omega)
theorem Zah (f:Int->Int):∀ (fs:List (List Int)) (a:List Int),(∀ l∈fs,0 < l.length)->ws f 0 (fs.foldl cy a)=ws (λi=>sv fs λj=>f (i+j)) 0 a
 | [],a,_=>c7 λi _=>by show f i=f (i+0); rw [Int.add_zero]
 | d::fs,a,h=>by
  rw [List.foldl_cons,Zah f fs (cy a d) λl hl=>h l (List.mem_cons_of_mem _ hl),ZfK _ _ _ (h d (by simp))]
  refine c7 λi _=>c7 λj _=>o3 λq _=>?_
  rw [Int.add_assoc]
theorem oE (f:Int->Int) {fs:List (List Int)} (h:∀ l∈fs,0 < l.length):ws f 0 (cb fs)=sv fs f:=by
 unfold cb
 rw [Zah f fs [1] h]
 show 1 * (sv fs λj=>f (((0:Nat):Int)+j))+0=_
 rw [Int.one_mul,Int.add_zero]
 refine o3 λx _=>?_
 show f (0+x)=f x
 rw [Int.zero_add]
theorem sc1 (W:Sl):∀ (fs:List (List Int)) (b:Nat) (D:Int) (J:Sl),nb b D->(∀ l∈fs,DayB l)->b+46 * fs.length<=8000->∃ K:Sl,bV (af 2) nj (fs.map tI) [W,.d (.int D),J]=.ret (.next [W,.d (.int (D * prd fs)),K])
 | [],b,D,J,_,_,_=>⟨J,by rw [prd,Int.mul_one]; rfl⟩
 | d::fs,b,D,J,h,hf,hl=>by
  rw [List.length_cons,Nat.mul_succ] at hl
  have hd:=hf d (by simp)
  have sn:=o5 hd
  obtain ⟨K,e⟩:=sc1 W fs (b+46) (D * d.sum) (.d (tI d)) (b9 h sn) (λq hq=>hf q (List.mem_cons_of_mem _ hq)) (by omega)
  refine ⟨K,?_⟩
  have f1:=aD h (by omega)
  have f2:=aD sn (by decide)
  have es:bF cF [tI d]=.ret (.int d.sum):=qY d
  have et:nj [W,.d (.int D),.d (tI d)]=.ret (.next [W,.d (.int (D * d.sum)),.d (tI d)]):=by
   simp_arith only [nj,es,f1,f2]
  have eg:af 2 (tI d) [W,.d (.int D),J]=some [W,.d (.int D),.d (tI d)]:=rfl
  have ep:D * d.sum * prd fs=D * prd (d::fs):=by rw [prd,Int.mul_assoc,Int.mul_comm d.sum]
  rw [List.map_cons,dU,eg,Tr.of_some,Tr.ret_bind,g8,et,Tr.ret_bind,dF,e,ep]
theorem kY {fs:List (List Int)} (hf:∀ l∈fs,DayB l) (hl:fs.length<=10):gX [.d (fD fs)]=.ret (.d (.int (prd fs))):=by
 obtain ⟨K,e⟩:=sc1 (.d (fD fs)) fs 1 1 .un (by show (1:Int).natAbs < 2 ^ 1; decide) hf (by omega)
 rw [Int.one_mul] at e
 unfold fD at e
 simp_arith only [gX,fD,e]
theorem wt1 (D W Y:Sl) {n i:Nat} {a:Int} {A:Nat} (ha:nb A a) (hA:A<=8000):∀ (l:List Int) (k:Nat) (r:Nat->Int) (J6 J7:Sl),i+k+l.length<=n->(∀ w∈l,nb 30 w)->∃ K6 K7:Sl,bV (bh (aw (af 6) (aw (af 7) bc))) nh (enu k l) [D,W,Y,.own (br n r),.d (.int i),.d (.int a),J6,J7]=.ret (.next [D,W,Y,.own (br n λj=>r j+a * ws (λf=>if ((i:Int)+f).toNat=j then 1 else 0) k l),.d (.int i),.d (.int a),K6,K7])
 | [],k,r,J6,J7,_,_=>⟨J6,J7,by
  have e:br n (λj=>r j+a * ws (λf=>if ((i:Int)+f).toNat=j then 1 else 0) k [])=br n r:=l8 λj _=>by rw [ws,Int.mul_zero,Int.add_zero]
  rw [e]
  rfl⟩
 | w::l,k,r,J6,J7,hn,hw=>by
  rw [List.length_cons] at hn
  have hj:((i:Int)+(k:Int)).toNat < n:=by omega
  obtain ⟨K6,K7,e⟩:=wt1 D W Y (n:=n) (i:=i) ha hA l (k+1) (λj=>if j=((i:Int)+(k:Int)).toNat then r ((i:Int)+(k:Int)).toNat+a * w else r j) (.d (.int k)) (.d (.int w)) (by omega) λq hq=>hw q (List.mem_cons_of_mem _ hq)
  refine ⟨K6,K7,?_⟩
  have f1:=aD ha hA
  have f2:=aD (hw w (by simp)) (by decide)
  have h0:_=_:=ZlM (g:=λi j=>i+j) (k:=3) (i:=ad bu (aa 5) (aa 7)) (ρ:=[D,W,Y,.own (br n r),.d (.int i),.d (.int a),.d (.int k),.d (.int w)]) (xs:=br n r) (y:=(i:Int)+k) (a:=r ((i:Int)+(k:Int)).toNat) (by omega) (l9 hj)
  have et:nh [D,W,Y,.own (br n r),.d (.int i),.d (.int a),.d (.int k),.d (.int w)]=.ret (.next [D,W,Y,.own (br n λj=>if j=((i:Int)+(k:Int)).toNat then r ((i:Int)+(k:Int)).toNat+a * w else r j),.d (.int i),.d (.int a),.d (.int k),.d (.int w)]):=by
   unfold nh
   rw [ZlB (xs:=br n r) rfl]
   have en:(ad aP (aa 4) (aa 6)) [D,W,Y,.own (br n r),.d (.int i),.d (.int a),.d (.int k),.d (.int w)]=.ret (.int ((i:Int)+k)):=by
    simp_arith only [List.isEmpty_cons]
   rw [en,Tr.ret_bind,h0,ZlL]
   have ew:(ad bu (aa 5) (aa 7)) [D,W,Y,.own (br n r),.d (.int i),.d (.int a),.d (.int k),.d (.int w)]=.ret (.int (a * w)):=by
    simp_arith only [f1,f2]
   rw [ew,Tr.ret_bind,ZlK,Zhm hj]
   rfl
  have eg:(bh (aw (af 6) (aw (af 7) bc))) (.tuple [.int (k:Int),.int w]) [D,W,Y,.own (br n r),.d (.int i),.d (.int a),J6,J7]=some [D,W,Y,.own (br n r),.d (.int i),.d (.int a),.d (.int k),.d (.int w)]:=rfl
  have er:(br n λj=>(if j=((i:Int)+(k:Int)).toNat then r ((i:Int)+(k:Int)).toNat+a * w else r j)+a * ws (λf=>if ((i:Int)+f).toNat=j then 1 else 0) (k+1) l)=br n λj=>r j+a * ws (λf=>if ((i:Int)+f).toNat=j then 1 else 0) k (w::l):=l8 λj hj=>by
   rw [ws]
   by_cases q:j=((i:Int)+(k:Int)).toNat
   ·rw [if_pos q,if_pos q.symm,<- q,Int.mul_one,Int.mul_add]
    omega
   ·rw [if_neg q,if_neg (λe=>q e.symm),Int.mul_zero,Int.zero_add]
  rw [enu,dU,eg,Tr.of_some,Tr.ret_bind,g8,et,Tr.ret_bind,dF,e,er]
theorem wt2 (D W:Sl) {b:List Int} (hb:DayB b) {n A:Nat} (hA:A<=8000):∀ (l:List Int) (k:Nat) (r:Nat->Int) (J4 J5 J6 J7:Sl),k+l.length+b.length<=n+1->(∀ w∈l,nb A w)->∃ K4 K5 K6 K7:Sl,bV (bh (aw (af 4) (aw (af 5) bc))) ng (enu k l) [D,W,.d (tI b),.own (br n r),J4,J5,J6,J7]=.ret (.next [D,W,.d (tI b),.own (br n λj=>r j+ws (λi=>ws (λf=>if (i+f).toNat=j then 1 else 0) 0 b) k l),K4,K5,K6,K7])
 | [],k,r,J4,J5,J6,J7,_,_=>⟨J4,J5,J6,J7,by
  have e:br n (λj=>r j+ws (λi=>ws (λf=>if (i+f).toNat=j then 1 else 0) 0 b) k [])=br n r:=l8 λj _=>by rw [ws,Int.add_zero]
  rw [e]
  rfl⟩
 | w::l,k,r,J4,J5,J6,J7,hn,hw=>by
  rw [List.length_cons] at hn
  obtain ⟨L6,L7,e0⟩:=wt1 D W (.d (tI b)) (n:=n) (i:=k) (hw w (by simp)) hA b 0 r J6 J7 (by omega) hb.nb
  obtain ⟨K4,K5,K6,K7,e⟩:=wt2 D W hb (n:=n) hA l (k+1) (λj=>r j+w * ws (λf=>if ((k:Int)+f).toNat=j then 1 else 0) 0 b) (.d (.int k)) (.d (.int w)) L6 L7 (by omega) λq hq=>hw q (List.mem_cons_of_mem _ hq)
  refine ⟨K4,K5,K6,K7,?_⟩
  have ee:cG (b.map PyData.int)=enu 0 b:=iB b
  have et:ng [D,W,.d (tI b),.own (br n r),.d (.int k),.d (.int w),J6,J7]=.ret (.next [D,W,.d (tI b),.own (br n λj=>r j+w * ws (λf=>if ((k:Int)+f).toNat=j then 1 else 0) 0 b),.d (.int k),.d (.int w),L6,L7]):=by
   unfold tI at e0
   simp_arith only [ng,tI,ee,e0]
  have eg:(bh (aw (af 4) (aw (af 5) bc))) (.tuple [.int (k:Int),.int w]) [D,W,.d (tI b),.own (br n r),J4,J5,J6,J7]=some [D,W,.d (tI b),.own (br n r),.d (.int k),.d (.int w),J6,J7]:=rfl
  have er:(br n λj=>r j+w * ws (λf=>if ((k:Int)+f).toNat=j then 1 else 0) 0 b+ws (λi=>ws (λf=>if (i+f).toNat=j then 1 else 0) 0 b) (k+1) l)=br n λj=>r j+ws (λi=>ws (λf=>if (i+f).toNat=j then 1 else 0) 0 b) k (w::l):=l8 λj hj=>by
   rw [ws,Int.add_assoc]
  rw [enu,dU,eg,Tr.of_some,Tr.ret_bind,g8,et,Tr.ret_bind,dF,e,er]
theorem Zew {a b:List Int} {A:Nat} (ha:∀ w∈a,nb A w) (hb:DayB b):∀ w∈cy a b,nb (A+a.length+63) w:=λw hw=>by
 obtain ⟨k,-,rfl⟩:=List.mem_map.mp hw
 have hl:=hb.len
 refine aT (oG (b:=30+1+b.length) (λx _=>oG (b:=1) (λy _=>?_) hb.nb) ha) (by omega)
 by_cases e:(x+y).toNat=k
 ·rw [if_pos e]; show (1:Int).natAbs < 2 ^ 1; decide
 ·rw [if_neg e]; show (0:Int).natAbs < 2 ^ 1; decide
theorem ZbL {n:Nat} (h:n<=1000):lc il (.list [.int 0]) (.int (n:Int))=.ret (br n λ_=>0):=by
 rw [Zhr (by simp; omega),Int.toNat_natCast]
 unfold br
 congr 1
 clear h
 induction n with
 | zero=>rfl
 | succ m ih=>rw [List.replicate_succ',List.flatten_append,ih,List.range_succ,List.map_append,List.map_append]; rfl
theorem wt3 (D:Sl):∀ (fs:List (List Int)) (a:List Int) (A:Nat) (J2 J3 J4 J5 J6 J7:Sl),0 < a.length->(∀ l∈fs,DayB l/\0 < l.length)->(∀ w∈a,nb A w)->A+600 * fs.length<=8000->a.length+16 * fs.length<=500->∃ K2 K3 K4 K5 K6 K7:Sl,bV (af 2) na (fs.map tI) [D,.d (lI a),J2,J3,J4,J5,J6,J7]=.ret (.next [D,.d (lI (fs.foldl cy a)),K2,K3,K4,K5,K6,K7])
 | [],a,A,J2,J3,J4,J5,J6,J7,_,_,_,_,_=>⟨J2,J3,J4,J5,J6,J7,rfl⟩
 | b::fs,a,A,J2,J3,J4,J5,J6,J7,a0,hf,ha,hA,hl=>by
  rw [List.length_cons,Nat.mul_succ] at hA hl
  obtain ⟨hb,b0⟩:=hf b (by simp)
  have hbl:=hb.len
  have hc:(cy a b).length=a.length+b.length - 1:=Zex a b
  obtain ⟨L4,L5,L6,L7,e0⟩:=wt2 D (.d (lI a)) hb (n:=a.length+b.length - 1) (A:=A) (by omega) a 0 (λ_=>0) J4 J5 J6 J7 (by omega) ha
  obtain ⟨K2,K3,K4,K5,K6,K7,e⟩:=wt3 D fs (cy a b) (A+a.length+63) (.d (tI b)) (.d (lI (cy a b))) L4 L5 L6 L7 (by omega) (λl hl=>hf l (List.mem_cons_of_mem _ hl)) (Zew ha hb) (by omega) (by omega)
  refine ⟨K2,K3,K4,K5,K6,K7,?_⟩
  have ea:cG (a.map PyData.int)=enu 0 a:=iB a
  have er:br (a.length+b.length - 1) (λj=>(0:Int)+ws (λi=>ws (λf=>if (i+f).toNat=j then 1 else 0) 0 b) 0 a)=(cy a b).map PyData.int:=by
   unfold br cy
   congr 1
   exact List.map_congr_left λj _=>by rw [Int.zero_add]; rfl
  rw [er] at e0
  have hrep:=ZbL (n:=a.length+b.length - 1) (by omega)
  rw [show ((a.length+b.length - 1:Nat):Int)=(a.length:Int)+b.length - 1 by omega] at hrep
  have l1:(a.map PyData.int).length=a.length:=List.length_map _
  have l2:(b.map PyData.int).length=b.length:=List.length_map _
  have et:na [D,.d (lI a),.d (tI b),J3,J4,J5,J6,J7]=.ret (.next [D,.d (lI (cy a b)),.d (tI b),.d (lI (cy a b)),L4,L5,L6,L7]):=by
   unfold tI lI at e0
   simp_arith only [na,tI,lI,ZdP,ZdO,ea,l1,l2,hrep,e0]
  have eg:af 2 (tI b) [D,.d (lI a),J2,J3,J4,J5,J6,J7]=some [D,.d (lI a),.d (tI b),J3,J4,J5,J6,J7]:=rfl
  rw [List.map_cons,dU,eg,Tr.of_some,Tr.ret_bind,g8,et,Tr.ret_bind,dF,e]
  rfl
theorem rb {fs:List (List Int)} (hf:∀ l∈fs,DayB l/\0 < l.length) (hl:fs.length<=10):ji [.d (fD fs)]=.ret (.d (lI (cb fs))):=by
 obtain ⟨K2,K3,K4,K5,K6,K7,e⟩:=wt3 (.d (fD fs)) fs [1] 1 .un .un .un .un .un .un (by decide) hf (by intro w hw; rw [List.mem_singleton] at hw; subst hw; show (1:Int).natAbs < 2 ^ 1; decide) (by omega) (by show 1+_<=_; omega)
 unfold fD lI at e
 simp_arith only [ji,fD,lI,cb]
 exact e ▸ rfl
theorem gM (lo:Int) (n:Nat):aB lo (n+1)=lo::aB (lo+1) n:=by
 rw [Nat.add_comm n 1,ZbT]
 show [lo+((0:Nat):Int)]++_=_
 rw [show lo+((0:Nat):Int)=lo by omega]
 rfl
noncomputable def cX (lo:Int) (n:Nat) (f:Int->Int):PyData:=dD ((aB lo n).map λx=>(x,.int (f x)))
theorem Zeh (f:Int->Int):∀ (n:Nat) (lo:Int) (kvs:List (Int×PyData)),(∀ p∈kvs,p.1 < lo)->fU kvs ((aB lo n).map λx=>.tuple [.int x,.int (f x)])=some (dD (kvs++(aB lo n).map λx=>(x,.int (f x))))
 | 0,lo,kvs,_=>by
  show some (dD kvs)=some (dD (kvs++[]))
  rw [List.append_nil]
 | n+1,lo,kvs,h=>by
  rw [gM,List.map_cons,List.map_cons,fU]
  have e:gN kvs lo (.int (f lo))=kvs++[(lo,.int (f lo))]:=by
   unfold gN
   rw [if_neg]
   intro z
   obtain ⟨p,hp,e⟩:=List.any_eq_true.mp z
   have:=h p hp
   have:=of_decide_eq_true e
   omega
  rw [e,Zeh f n (lo+1) _ λp hp=>by
   rcases List.mem_append.mp hp with hp | hp
   ·have:=h p hp; omega
   ·rw [List.mem_singleton] at hp; subst hp; show lo < lo+1; omega]
  rw [List.append_assoc]
  rfl
theorem Zep (f:Int->Int) (lo:Int) (n:Nat):fU [] ((aB lo n).map λx=>.tuple [.int x,.int (f x)])=some (cX lo n f):=Zeh f n lo [] (by simp)
theorem rj {f:Int->Int}:∀ {n:Nat} {lo x:Int},lo<=x->x < lo+n->fF (cX lo n f) (.int x)=some (.int (f x))
 | 0,lo,x,h1,h2=>absurd h2 (by omega)
 | n+1,lo,x,h1,h2=>by
  unfold cX dD
  rw [gM,List.map_cons,List.map_cons,fF]
  by_cases e:lo=x
  ·subst e
   rw [List.find?_cons_of_pos (by simp)]
   rfl
  ·rw [List.find?_cons_of_neg (by simp [e])]
   have ih:=rj (f:=f) (n:=n) (lo:=lo+1) (x:=x) (by omega) (by omega)
   unfold cX dD at ih
   rw [fF] at ih
   exact ih
theorem qw {h:PyData->Tr PyData} {f:Int->Int}:∀ (l:List Int) (k:Nat),(∀ (w:Int) (x:Int),w∈l->(k:Int)<=x->x < k+l.length->h (.tuple [.int x,.int w])=.ret (.int (w * f x)))->∃ ys:List Int,bB h (enu k l)=.ret (ys.map PyData.int)/\ys.sum=ws f k l/\ys.length=l.length
 | [],k,_=>⟨[],rfl,rfl,rfl⟩
 | w::l,k,hh=>by
  obtain ⟨ys,e1,e2,e3⟩:=qw (h:=h) (f:=f) l (k+1) λv x hv x1 x2=>hh v x (List.mem_cons_of_mem _ hv) (by omega) (by rw [List.length_cons]; omega)
  refine ⟨w * f k::ys,?_,by rw [List.sum_cons,e2,ws],by rw [List.length_cons,List.length_cons,e3]⟩
  rw [enu,bB,hh w k (by simp) (by omega) (by rw [List.length_cons]; omega),Tr.ret_bind,e1]
  rfl
theorem ZcN {h:PyData->Tr (Option PyData)} {f:Int->Int}:∀ (l:List Int) (k:Nat),(∀ w∈l,0<=w)->(∀ (w:Int) (x:Int),w∈l->(0 < w->x∈bz k l)->(k:Int)<=x->h (.tuple [.int x,.int w])=.ret (if w > 0 then some (.int (w * f x)) else none))->∃ ys:List Int,cL h (enu k l)=.ret (ys.map PyData.int)/\ys.sum=ws f k l
 | [],k,_,_=>⟨[],rfl,rfl⟩
 | w::l,k,h0,hh=>by
  obtain ⟨ys,e1,e2⟩:=ZcN (h:=h) (f:=f) l (k+1) (λv hv=>h0 v (List.mem_cons_of_mem _ hv)) λv x hv x1 x2=>hh v x (List.mem_cons_of_mem _ hv) (λv0=>by
   rw [bz]
   by_cases hw:w > 0
   ·rw [if_pos hw]; exact List.mem_cons_of_mem _ (x1 v0)
   ·rw [if_neg hw]; exact x1 v0) (by omega)
  have w0:=h0 w (by simp)
  have e0:=hh w k (by simp) (λv0=>by rw [bz,if_pos v0]; simp) (by omega)
  by_cases hw:w > 0
  ·rw [if_pos hw] at e0
   refine ⟨w * f k::ys,?_,by rw [List.sum_cons,e2,ws]⟩
   rw [enu,cL,e0,Tr.ret_bind,e1]
   rfl
  ·rw [if_neg hw] at e0
   have:w=0:=by omega
   subst this
   refine ⟨ys,?_,by rw [e2,ws,Int.zero_mul,Int.zero_add]⟩
   rw [enu,cL,e0,Tr.ret_bind,e1]
   rfl
theorem ZdX {s:Shp} (h:s.Ok) {wt:List Int} {A:Nat} (hw:∀ w∈wt,nb A w) (hA:A<=8000) (hl:wt.length<=200) {y:Int} (hy:nb 20 y):jj [.d s.d,.d (lI wt),.d (.int y)]=.ret (.d (.int (ws (λf=>s.day y f) 0 wt))):=by
 have hs:small (enu 0 wt).length=true:=ce (by rw [jw]; omega)
 obtain ⟨ys,e1,e2,-⟩:=qw (h:=c9 (bh (aw (af 0) (aw (af 1) bc))) p9 [.un,.un,.d s.d,.d (.int y)]) (f:=λf=>s.day y f) wt 0 λw x hx x1 x2=>by
  have hf:nb 40 x:=bR (by show -((2 ^ 40:Nat):Int) < x; have:((2 ^ 40:Nat):Int)=1099511627776:=rfl; omega) (by show x < ((2 ^ 40:Nat):Int); have:((2 ^ 40:Nat):Int)=1099511627776:=rfl; omega)
  have e:=Zmh h hy hf
  have f1:=aD (hw w hx) hA
  have f2:=aD (kZ h hy hf) (by decide)
  simp_arith only [p9,e,f1,f2]
 have es:bF cF [.list (ys.map PyData.int)]=.ret (.int (ws (λf=>s.day y f) 0 wt)):=by rw [kW,e2]
 have ee:cG (wt.map PyData.int)=enu 0 wt:=iB wt
 simp_arith only [jj,lI,ee,hs,e1,es]
theorem ZdB {s:Shp} (h:s.Ok) {x:Int} (hx:nb 20 x):nb 65 (s.fin x):=by
 unfold Shp.fin
 exact mC (k:=65) (b9 (gv h.back) hx) (b9 h.late (gv hx))
theorem Zl1 {s:Shp} (h:s.Ok) {wt:List Int} {A:Nat} (hw:∀ w∈wt,nb A w) (hA:A<=8000) (hl:wt.length<=200) {y:Int} (hy:nb 10 y):mK [.d s.d,.d (lI wt),.d (.int y)]=.ret (.d (.int (ws (λf=>s.fin (y - f)) 0 wt))):=by
 have hs:small (enu 0 wt).length=true:=ce (by rw [jw]; omega)
 obtain ⟨ys,e1,e2,-⟩:=qw (h:=c9 (bh (aw (af 0) (aw (af 1) bc))) pZ [.un,.un,.d s.d,.d (.int y)]) (f:=λf=>s.fin (y - f)) wt 0 λw x hx x1 x2=>by
  have hf:nb 19 x:=bR (by show -((2 ^ 19:Nat):Int) < x; have:((2 ^ 19:Nat):Int)=524288:=rfl; omega) (by show x < ((2 ^ 19:Nat):Int); have:((2 ^ 19:Nat):Int)=524288:=rfl; omega)
  have hyx:nb 20 (y - x):=aT (gu hy hf) (by decide)
  have e:=Zmf h hyx
  have f1:=aD (hw w hx) hA
  have f2:=aD (ZdB h hyx) (by decide)
  simp_arith only [pZ,e,f1,f2]
 have es:bF cF [.list (ys.map PyData.int)]=.ret (.int (ws (λf=>s.fin (y - f)) 0 wt)):=by rw [kW,e2]
 have ee:cG (wt.map PyData.int)=enu 0 wt:=iB wt
 simp_arith only [mK,lI,ee,hs,e1,es]
theorem Zl2 {day:List Int} (hd:DayB day) {lo:Int} {n:Nat} {f:Int->Int} {b:Nat} (hf:∀ x,lo<=x->x < lo+n->nb b (f x)) (hb:b<=8000) {y:Int} (y1:∀ x∈bz 0 day,lo<=y - x) (y2:y < lo+n):kB [.d (tI day),.d (cX lo n f),.d (.int y)]=.ret (.d (.int (ws (λx=>f (y - x)) 0 day))):=by
 have hs:small (enu 0 day).length=true:=ce (by rw [jw]; have:=hd.len; omega)
 obtain ⟨ys,e1,e2⟩:=ZcN (h:=fB (bh (aw (af 0) (aw (af 1) bc))) mB mf [.un,.un,.d (cX lo n f),.d (.int y)]) (f:=λx=>f (y - x)) day 0 hd.w0 λw x hx x1 x2=>by
  by_cases hw:w > 0
  ·have l1:=y1 x (x1 hw)
   have eg:aQ fF (cX lo n f) (.int (y - x))=.ret (.int (f (y - x))):=by
    unfold aQ
    rw [rj l1 (by omega)]
    rfl
   have f1:=aD (hd.nb w hx) (by decide)
   have f2:=aD (hf (y - x) l1 (by omega)) hb
   simp_arith only [mB,mf,decide_eq_true hw,if_pos hw,eg,f1,f2]
  ·simp_arith only [mB,mf,decide_eq_false hw,if_neg hw]
 have es:bF cF [.list (ys.map PyData.int)]=.ret (.int (ws (λx=>f (y - x)) 0 day)):=by rw [kW,e2]
 have ee:cG (day.map PyData.int)=enu 0 day:=iB day
 simp_arith only [kB,nE,ee,hs,e1,es]
theorem Zey (xs:List PyData) (t:Nat) (h:t<=xs.length):ft (.tuple xs) none (some (t:Int))=.ret (.tuple (xs.take t)):=by
 show Tr.ret (PyData.tuple (L2.dG xs none (some (t:Int))))=_
 unfold L2.dG
 rw [HT.pR,HT.Zbt,Nat.min_eq_left h,List.drop_zero,Nat.sub_zero]
theorem Zm3 (xs:List PyData) (t:Nat):ft (.tuple xs) (some (t:Int)) none=.ret (.tuple (xs.drop t)):=by
 show Tr.ret (PyData.tuple (L2.dG xs (some (t:Int)) none))=_
 unfold L2.dG
 rw [HT.pR,HT.Zbt]
 rcases Nat.le_total t xs.length with hle | hle
 ·rw [Nat.min_eq_left hle,List.take_of_length_le (by rw [List.length_drop]; exact Nat.le_refl _)]
 ·rw [Nat.min_eq_right hle,List.drop_eq_nil_of_le (Nat.le_refl _),List.drop_eq_nil_of_le hle]
  simp
theorem jA (fs:List (List Int)) (t:Nat):ft (fD fs) (some (t:Int)) none=.ret (fD (fs.drop t)):=by
 unfold fD
 rw [Zm3,List.map_drop]
theorem nT (fs:List (List Int)) {t:Nat} (h:t<=fs.length):ft (fD fs) none (some (t:Int))=.ret (fD (fs.take t)):=by
 unfold fD
 rw [Zey _ _ (by rw [List.length_map]; exact h),List.map_take]
structure FOk (fs:List (List Int)):Prop where
 b:∀ l∈fs,DayB l/\∃ n∈l,n > 0
 len:fs.length<=6
theorem FOk.B {fs:List (List Int)} (h:FOk fs):∀ l∈fs,DayB l:=λl hl=>(h.b l hl).1
theorem FOk.drop {fs:List (List Int)} (h:FOk fs) (t:Nat):FOk (fs.drop t):=⟨λl hl=>h.b l (List.mem_of_mem_drop hl),by rw [List.length_drop]; have:=h.len; omega⟩
theorem FOk.take {fs:List (List Int)} (h:FOk fs) (t:Nat):FOk (fs.take t):=⟨λl hl=>h.b l (List.mem_of_mem_take hl),by rw [List.length_take]; have:=h.len; omega⟩
theorem FOk.P {fs:List (List Int)} (h:FOk fs):∀ l∈fs,DayB l/\0 < l.length:=λl hl=>⟨(h.b l hl).1,by obtain ⟨n,hn,-⟩:=(h.b l hl).2; exact List.length_pos_of_mem hn⟩
theorem qx {h:PyData->Tr PyData} {f:List Int->Int}:∀ {fs:List (List Int)},(∀ l∈fs,h (tI l)=.ret (.int (f l)))->bB h (fs.map tI)=.ret ((fs.map f).map PyData.int)
 | [],_=>rfl
 | l::fs,hl=>by
  have ih:=qx (h:=h) (f:=f) (fs:=fs) λq hq=>hl q (List.mem_cons_of_mem _ hq)
  rw [List.map_cons,bB,hl l (by simp),Tr.ret_bind,ih]
  rfl
theorem qE (q:List Sl->Tr PyData) (x:PyData):c9 (af 0) q [.un] x=q [.d x]:=rfl
theorem ZcO {q:List Sl->Tr PyData} (hq:∀ l:List Int,(∃ n∈l,n > 0)->l.length<=100->c9 (af 0) q [.un] (tI l)=.ret (.int (great l))) {fs:List (List Int)} (hf:FOk fs):bB (c9 (af 0) q [.un]) (fs.map tI)=.ret ((fs.map great).map PyData.int) :=
 qx λl hl=>hq l (hf.b l hl).2 (by have:=(hf.b l hl).1.len; omega)
theorem ZcJ {ls:List Int} (h:∃ n∈ls,n > 0):bF jh [.list ((bz 0 ls).map PyData.int)]=.ret (.int (great ls)):=ZiG _ (lQ (k:=0) h)
theorem Za5:∀ (ns:List Int) (k:Nat),cL (fB (bh (aw (af 0) (aw (af 1) bc))) km ka [.un,.un]) (enu k ns)=.ret ((bz k ns).map PyData.int)
 | [],k=>rfl
 | n::ns,k=>by
  have ih:=Za5 ns (k+1)
  have e0:fB (bh (aw (af 0) (aw (af 1) bc))) km ka [.un,.un] (.tuple [.int k,.int n])=.ret (if n > 0 then some (.int k) else none):=by
   by_cases h:n > 0
   ·simp_arith only [km,ka,decide_eq_true h,if_pos h]
   ·simp_arith only [km,ka,decide_eq_false h,if_neg h]
  rw [enu,cL,e0,Tr.ret_bind,ih,Tr.ret_bind,bz]
  unfold kA
  by_cases h:n > 0
  ·rw [if_pos h,if_pos h]; rfl
  ·rw [if_neg h,if_neg h]
theorem Zd3 {ls:List Int} (h:∃ n∈ls,n > 0) (hl:ls.length<=100):kJ [.d (tI ls)]=.ret (.d (.int (great ls))):=by
 have hs:small (enu 0 ls).length=true:=ce (by rw [jw]; omega)
 simp_arith only [kJ,nE,iB,hs,Za5,ZcJ h]
theorem Zmd {s:Shp} {fs:List (List Int)} (hf:FOk fs) (t:Nat):mW [.d s.d,.d (fD fs),.d (.int t)]=.ret (.d (.int (reach (fs.drop t) - s.depth))):=by
 have hm:=ZcO (q:=qc) (λl h1 h2=>by
  have e:=Zd3 h1 h2
  rw [qE]
  simp_arith only [qc,e]) (hf.drop t)
 have hs:small ((fs.drop t).map tI).length=true:=ce (by rw [List.length_map]; have:=(hf.drop t).len; omega)
 have er:(List.map great (fs.drop t)).sum=reach (fs.drop t):=rfl
 simp_arith only [mW,jA,kR,hs,hm,er]
theorem Zd5 {s:Shp} {fs:List (List Int)} (hf:FOk fs) {x:Int} (hx:reach fs - s.depth<=x):kM [.d s.d,.d (fD fs),.d (.int x)]=.ret (.d .none):=by
 have e:=Zmd (s:=s) hf 0
 rw [List.drop_zero,Int.natCast_zero] at e
 have hn:¬ x < reach fs - s.depth:=by omega
 simp_arith only [kM,e,decide_eq_false hn]
theorem Zd2 {fs:List (List Int)} (hf:FOk fs) {t:Nat} (ht:t<=fs.length) (x:Int):kE [.d (fD fs),.d (.int t),.d (.int x)]=.ret (.d (.int (x - reach (fs.take t)))):=by
 have hm:=ZcO (q:=qa) (λl h1 h2=>by
  have e:=Zd3 h1 h2
  rw [qE]
  simp_arith only [qa,e]) (hf.take t)
 have hs:small ((fs.take t).map tI).length=true:=ce (by rw [List.length_map]; have:=(hf.take t).len; omega)
 have er:(List.map great (fs.take t)).sum=reach (fs.take t):=rfl
 simp_arith only [kE,nT _ ht,kR,hs,hm,er]
theorem ZdL {is:List Sl->Tr (List PyData)} {n:Nat} {ix:List Nat} {g:PyData->List Sl->Option (List Sl)} {kx i:List Sl->Tr PyData} {ρ:List Sl} {xs ps:List PyData} {d:PyData} (h1:is ρ=.ret xs) (hs:small xs.length=true) (h2:bB (λx=>(Tr.of (g x (blk n ix ρ))).bind (g9 kx i)) xs=.ret ps) (h3:fU [] ps=some d):gG is n ix g kx i ρ=.ret d:=by
 unfold gG
 rw [h1,Tr.ret_bind,if_pos hs,h2,Tr.ret_bind,h3]
 rfl
theorem Zad:∀ (fs:List (List Int)) (a:List Int) (A:Nat),0 < a.length->(∀ l∈fs,DayB l/\0 < l.length)->(∀ w∈a,nb A w)->a.length+16 * fs.length<=200->(∀ w∈fs.foldl cy a,nb (A+270 * fs.length) w)/\(fs.foldl cy a).length<=a.length+16 * fs.length
 | [],a,A,_,_,ha,_=>⟨λw hw=>aT (ha w hw) (by omega),by show a.length<=_; omega⟩
 | b::fs,a,A,a0,hf,ha,hl=>by
  rw [List.length_cons,Nat.mul_succ] at hl
  obtain ⟨hb,b0⟩:=hf b (by simp)
  have hbl:=hb.len
  have hc:(cy a b).length=a.length+b.length - 1:=Zex a b
  obtain ⟨i1,i2⟩:=Zad fs (cy a b) (A+a.length+63) (by omega) (λl hl=>hf l (List.mem_cons_of_mem _ hl)) (Zew ha hb) (by omega)
  refine ⟨λw hw=>aT (i1 w hw) ?_,?_⟩
  ·rw [List.length_cons]; omega
  ·rw [List.foldl_cons,List.length_cons]; omega
theorem dR:∀ {fs:List (List Int)},(∀ l∈fs,DayB l)->nb (1+46 * fs.length) (prd fs)
 | [],_=>by show (1:Int).natAbs < 2 ^ 1; decide
 | d::fs,h=>by
  rw [prd,List.length_cons]
  exact aT (b9 (dR λl hl=>h l (List.mem_cons_of_mem _ hl)) (o5 (h d (by simp)))) (by omega)
theorem oF {f:Int->Int} (hf:∀ x:Int,0<=f x):∀ {l:List Int} {k:Nat},(∀ w∈l,0<=w)->0<=ws f k l
 | [],k,_=>Int.le_refl 0
 | w::l,k,h=>by
  rw [ws]
  exact Int.add_nonneg (Int.mul_nonneg (h w (by simp)) (hf k)) (oF hf λv hv=>h v (List.mem_cons_of_mem _ hv))
theorem Zm1 {a b:List Int} (ha:∀ w∈a,0<=w) (hb:∀ w∈b,0<=w):∀ w∈cy a b,0<=w:=λw hw=>by
 obtain ⟨k,-,rfl⟩:=List.mem_map.mp hw
 refine oF (λx=>oF (λy=>?_) hb) ha
 by_cases e:(x+y).toNat=k
 ·rw [if_pos e]; decide
 ·rw [if_neg e]; decide
theorem Zac:∀ (fs:List (List Int)) (a:List Int),(∀ l∈fs,DayB l)->(∀ w∈a,0<=w)->∀ w∈fs.foldl cy a,0<=w
 | [],a,_,ha=>ha
 | b::fs,a,hf,ha=>Zac fs (cy a b) (λl hl=>hf l (List.mem_cons_of_mem _ hl)) (Zm1 ha (hf b (by simp)).w0)
theorem ZcI:∀ {l:List Int},(∀ w∈l,0<=w)->0<=l.sum/\∀ w∈l,w<=l.sum
 | [],_=>⟨Int.le_refl 0,λw hw=>by cases hw⟩
 | x::l,h=>by
  obtain ⟨i1,i2⟩:=ZcI (l:=l) λv hv=>h v (List.mem_cons_of_mem _ hv)
  have h0:=h x (by simp)
  rw [List.sum_cons]
  refine ⟨by omega,λw hw=>?_⟩
  rcases List.mem_cons.mp hw with rfl | hw
  ·omega
  ·have:=i2 w hw; omega
theorem ZaK:∀ fs:List (List Int),sv fs (λ_=>1)=prd fs
 | []=>rfl
 | d::fs=>by
  rw [sv,prd,<- ZaK fs]
  exact iN d 0
theorem iM {fs:List (List Int)} (hf:FOk fs):(∀ w∈cb fs,nb 280 w)/\(cb fs).length<=100:=by
 have hl:=hf.len
 obtain ⟨i1,i2⟩:=Zad fs [1] 1 (by decide) hf.P (by intro w hw; rw [List.mem_singleton] at hw; subst hw; show (1:Int).natAbs < 2 ^ 1; decide) (by show 1+_<=_; omega)
 have i3:(cb fs).length<=1+16 * fs.length:=i2
 have h0:∀ w∈cb fs,0<=w:=Zac fs [1] hf.B (by simp)
 have hs:(cb fs).sum=prd fs:=by
  have e:=oE (λ_=>1) (fs:=fs) λl hl=>(hf.P l hl).2
  rw [iN,Int.one_mul,ZaK] at e
  exact e
 have hp:=dR hf.B
 refine ⟨λw hw=>?_,by omega⟩
 have a1:=h0 w hw
 have a2:=(ZcI h0).2 w hw
 rw [hs] at a2
 refine aT (k:=1+46 * fs.length) ?_ (by omega)
 unfold nb at hp ⊢
 omega
noncomputable def dX (s:Shp) (fs:List (List Int)) (c:Int):Int:=ws (λf=>s.fin (c - f)) 0 (cb fs)
theorem Zmg {s:Shp} (h:s.Ok) {fs:List (List Int)} (hf:FOk fs) {o:Nat} (ho:o<=fs.length) {x:Int} (x1:-300<=x - reach (fs.take o)) (x2:x - reach (fs.take o)<=s.top+1):mX [.d s.d,.d (fD fs),.d (.int o),.d (.int x)]=.ret (.d (cX (x - reach (fs.take o)) (s.top+1 - (x - reach (fs.take o))).toNat (dX s (fs.drop o)))):=by
 have t0:=h.t0; have d0:=h.d0; have td:=h.td
 have ew:=rb (hf.drop o).P (by have:=(hf.drop o).len; omega)
 have el:=Zd2 hf ho x
 obtain ⟨w1,w2⟩:=iM (hf.drop o)
 generalize hlo:x - reach (fs.take o)=lo at *
 have r1:eC lo=true:=dE (by omega) (by omega)
 have r2:eC (s.top+1)=true:=dE (by omega) (by omega)
 have hs:small (ba lo (s.top+1)).length=true:=ce (by rw [cO]; omega)
 have ed:gG (jH (ae (aa 5) (ae (ad aP (ad aO (aa 0) (aC (.int 0))) (aC (.int 1))) ao))) 1 [0,4] (af 0) ml kc [.d s.d,.d (fD fs),.d (.int o),.d (.int x),.d (lI (cb (fs.drop o))),.d (.int lo)]=.ret (cX lo (s.top+1 - lo).toNat (dX s (fs.drop o))) :=
  ZdL (xs:=ba lo (s.top+1)) (by simp_arith only [nO r1 r2]) hs (ZiH (f:=λc=>.tuple [.int c,.int (dX s (fs.drop o) c)]) λz z1 z2=>by
   have ee:=Zl1 h w1 (by decide) (by omega) (y:=z) (bR (by show -1024 < z; omega) (by show z < 1024; omega))
   show g9 ml kc [.d (.int z),.d s.d,.d (lI (cb (fs.drop o)))]=_
   unfold g9
   have e1:ml [.d (.int z),.d s.d,.d (lI (cb (fs.drop o)))]=.ret (.int z):=rfl
   have e2:kc [.d (.int z),.d s.d,.d (lI (cb (fs.drop o)))]=.ret (.int (dX s (fs.drop o) z)):=by
    simp_arith only [kc,ee]
    rfl
   rw [e1,Tr.ret_bind,Zeq,e2,Tr.ret_bind]) (Zep _ _ _)
 simp_arith only [mX,jA,ew,el,ed]
noncomputable def csm (s:Shp) (d:Nat) (fs:List (List Int)) (F:Int->Int) (y:Int):Int:=prd fs * s.piece * y+prd (fs.drop (d+1)) * ws (λf=>s.day y f) 0 (cb (fs.take (d+1)))+ws (λx=>F (y - x)) 0 (fs.headD [])
theorem ZeD {S:PyData} {day:PyData} {fsD A W:PyData} {Dd L:Sl} {sc pc lt:Int} {P Q:Int->Int} (hS:aQ aO S (.int 3)=.ret (.int pc)) (hD:aQ aO fsD (.int 0)=.ret day) (f1:fit sc=true) (f2:fit pc=true) (f3:fit (sc * pc)=true) (f4:fit lt=true):∀ (n:Nat) (lo:Int) (acc:List PyData) (J9 J10:Sl),acc.length+n<=900->(∀ y,lo<=y->y < lo+n->jj [.d S,.d W,.d (.int y)]=.ret (.d (.int (P y)))/\kB [.d day,.d A,.d (.int y)]=.ret (.d (.int (Q y)))/\fit y=true/\fit (P y)=true)->∃ K9 K10:Sl,bV (af 9) nw ((aB lo n).map PyData.int) [.d S,.d fsD,Dd,.d A,L,.d (.int sc),.d (.int lt),.d W,.own acc,J9,J10]=.ret (.next [.d S,.d fsD,Dd,.d A,L,.d (.int sc),.d (.int lt),.d W,.own (acc++(aB lo n).map λy=>.int (sc * pc * y+lt * P y+Q y)),K9,K10])
 | 0,lo,acc,J9,J10,_,_=>⟨J9,J10,by
  show Tr.ret (Ou.next _)=.ret (.next [_,_,_,_,_,_,_,_,.own (acc++[]),_,_])
  rw [List.append_nil]⟩
 | n+1,lo,acc,J9,J10,hl,h=>by
  have hsm:small (acc.length+1)=true:=ce (by omega)
  obtain ⟨h1,h2,h3,h4⟩:=h lo (by omega) (by omega)
  obtain ⟨K9,K10,e⟩:=ZeD hS hD f1 f2 f3 f4 (Dd:=Dd) (L:=L) (W:=W) (A:=A) (P:=P) (Q:=Q) n (lo+1) (acc++[.int (sc * pc * lo+lt * P lo+Q lo)]) (.d (.int lo)) (.d (.int (sc * pc * lo+lt * P lo))) (by rw [List.length_append]; show acc.length+1+n<=900; omega) λy y1 y2=>h y (by omega) (by omega)
  refine ⟨K9,K10,?_⟩
  have et:nw [.d S,.d fsD,Dd,.d A,L,.d (.int sc),.d (.int lt),.d W,.own acc,.d (.int lo),J10]=.ret (.next [.d S,.d fsD,Dd,.d A,L,.d (.int sc),.d (.int lt),.d W,.own (acc++[.int (sc * pc * lo+lt * P lo+Q lo)]),.d (.int lo),.d (.int (sc * pc * lo+lt * P lo))]):=by
   simp_arith only [nw,hS,hD,f1,f2,f3,f4,h1,h2,h3,h4,hsm]
  have eg:af 9 (.int lo) [.d S,.d fsD,Dd,.d A,L,.d (.int sc),.d (.int lt),.d W,.own acc,J9,J10]=some [.d S,.d fsD,Dd,.d A,L,.d (.int sc),.d (.int lt),.d W,.own acc,.d (.int lo),J10]:=rfl
  rw [gM,List.map_cons,dU,eg,Tr.of_some,Tr.ret_bind,g8,et,Tr.ret_bind,dF,e,List.map_cons,List.append_assoc]
  rfl
theorem Zmi {s:Shp} (h:s.Ok) {day:List Int} {rest:List (List Int)} (hf:FOk (day::rest)) {d:Nat} (hd:d+1<=rest.length+1) {lo':Int} {n':Nat} {F:Int->Int} {b:Nat} (hF:∀ x,lo'<=x->x < lo'+n'->nb b (F x)) (hb:b<=8000) {low:Int} (l1:-300<=low) (l2:low<=s.top+1) (hlo:∀ x∈bz 0 day,lo'<=low - x) (hhi:s.top < lo'+n') :
  mZ [.d s.d,.d (fD (day::rest)),.d (.int d),.d (cX lo' n' F),.d (.int low)]=.ret (.own ((aB low (s.top+1 - low).toNat).map λy=>.int (csm s d (day::rest) F y))):=by
 have t0:=h.t0; have d0:=h.d0; have td:=h.td
 have hlen:=hf.len
 rw [List.length_cons] at hlen
 have es:=kY hf.B (by rw [List.length_cons]; omega)
 have el:=kY (hf.drop (d+1)).B (by have:=(hf.drop (d+1)).len; omega)
 have ew:=rb (hf.take (d+1)).P (by have:=(hf.take (d+1)).len; omega)
 obtain ⟨w1,w2⟩:=iM (hf.take (d+1))
 have p1:=dR hf.B
 have p2:=dR (hf.drop (d+1)).B
 have q1:((day::rest).drop (d+1)).length<=6:=(hf.drop (d+1)).len
 have r1:eC low=true:=dE (by omega) (by omega)
 have r2:eC (s.top+1)=true:=dE (by omega) (by omega)
 have hdd:DayB day:=(hf.b day (by simp)).1
 have hD:aQ aO (fD (day::rest)) (.int 0)=.ret (tI day):=by
  unfold fD
  rw [dW,List.map_cons]
  exact congrArg Tr.of lf
 have c1:ft (fD (day::rest)) (some ((d:Int)+1)) none=.ret (fD ((day::rest).drop (d+1))):=jA (day::rest) (d+1)
 have c2:ft (fD (day::rest)) none (some ((d:Int)+1))=.ret (fD ((day::rest).take (d+1))):=nT (day::rest) (t:=d+1) (by rw [List.length_cons]; exact hd)
 obtain ⟨K9,K10,eL⟩:=ZeD (S:=s.d) (fsD:=fD (day::rest)) (A:=cX lo' n' F) (W:=lI (cb ((day::rest).take (d+1)))) (Dd:=.d (.int d)) (L:=.d (.int low)) (P:=λy=>ws (λf=>s.day y f) 0 (cb ((day::rest).take (d+1)))) (Q:=λy=>ws (λx=>F (y - x)) 0 day) (sc:=prd (day::rest)) (lt:=prd ((day::rest).drop (d+1))) (Za1 s) hD (aD p1 (by rw [List.length_cons]; omega)) (aD h.piece (by decide)) (aD (b9 p1 h.piece) (by rw [List.length_cons]; omega)) (aD p2 (by omega)) (s.top+1 - low).toNat low [] .un .un (by show 0+_<=_; omega) λy y1 y2=>by
  have hy:nb 20 y:=bR (by show -1048576 < y; omega) (by show y < 1048576; omega)
  refine ⟨ZdX h w1 (by decide) (by omega) hy,Zl2 hdd hF hb (λx hx=>by have:=hlo x hx; omega) (by omega),aD hy (by decide),?_⟩
  exact aD (h7 (a:=280) (b:=100) w1 λx x1 x2=>kZ h hy (bR (by show -1099511627776 < x; omega) (by show x < 1099511627776; omega))) (by omega)
 have er:ba low (s.top+1)=(aB low (s.top+1 - low).toNat).map PyData.int:=rfl
 simp_arith only [mZ,es,c1,el,c2,ew,nO r1 r2,er,eL]
 rfl
noncomputable def aF (s:Shp) (d:Nat):List (List Int)->Int->Int
 | []=>dX s []
 | day::rest=>if rest.length < d then dX s (day::rest) else cst (csm s d (day::rest) (aF s d rest)) s.top (prd (day::rest) * s.start) (prd (day::rest) * s.piece)
noncomputable def aL (s:Shp) (d:Nat):List (List Int)->Int->Int
 | []=>λ_=>0
 | day::rest=>lvl (csm s d (day::rest) (aF s d rest)) s.top (prd (day::rest) * s.start)
theorem ll {s:Shp} {d:Nat}:∀ {fs:List (List Int)},fs.length<=d->aF s d fs=dX s fs
 | [],_=>rfl
 | day::rest,h=>by
  rw [List.length_cons] at h
  rw [aF,if_pos (by omega)]
theorem rY {s:Shp} {d:Nat} {day:List Int} {rest:List (List Int)} (h:d<=rest.length):aF s d (day::rest)=cst (csm s d (day::rest) (aF s d rest)) s.top (prd (day::rest) * s.start) (prd (day::rest) * s.piece):=by
 rw [aF,if_neg (by omega)]
theorem ZdW {s:Shp} (h:s.Ok) {fs:List (List Int)} (hf:FOk fs) {c:Int} (c1:-500<=c) (c2:c<=s.top):nb 450 (dX s fs c):=by
 have t0:=h.t0; have d0:=h.d0; have td:=h.td
 obtain ⟨w1,w2⟩:=iM hf
 exact aT (h7 (a:=280) (b:=65) w1 λx x1 x2=>ZdB h (bR (by show -1048576 < _; omega) (by show _ < 1048576; omega))) (by omega)
theorem ZeC {s:Shp} (h:s.Ok) {d:Nat} {day:List Int} {rest:List (List Int)} (hf:FOk (day::rest)) {F:Int->Int} {k:Nat} (hF:∀ x,-500+16 * (rest.length:Int)<=x->x<=s.top->nb (712+160 * k) (F x)) {y:Int} (y1:-500+16 * ((rest.length:Int)+1)<=y) (y2:y<=s.top):nb (760+160 * k) (csm s d (day::rest) F y):=by
 have t0:=h.t0; have d0:=h.d0; have td:=h.td
 have hlen:=hf.len
 obtain ⟨w1,w2⟩:=iM (hf.take (d+1))
 have hy:nb 20 y:=bR (by show -1048576 < y; omega) (by show y < 1048576; omega)
 have p1:=dR hf.B
 have p2:=dR (hf.drop (d+1)).B
 have q1:((day::rest).drop (d+1)).length<=6:=(hf.drop (d+1)).len
 have hdd:DayB day:=(hf.b day (by simp)).1
 have hdl:=hdd.len
 have a1:=b9 (b9 p1 h.piece) hy
 have a2:=b9 p2 (h7 (k:=0) (f:=λf=>s.day y f) (a:=280) (b:=100) w1 λx x1 x2=>kZ h hy (bR (by show -1099511627776 < x; omega) (by show x < 1099511627776; omega)))
 have a3:=h7 (k:=0) (f:=λx=>F (y - x)) (a:=30) (b:=712+160 * k) hdd.nb λx x1 x2=>hF (y - x) (by omega) (by omega)
 unfold csm
 exact aT (c8 (c8 a1 a2) a3) (by omega)
theorem lj {s:Shp} (h:s.Ok) {d:Nat}:∀ {fs:List (List Int)},FOk fs->∀ y,-500+16 * (fs.length:Int)<=y->y<=s.top->nb (712+160 * fs.length) (aF s d fs y)
 | [],hf,y,y1,y2=>aT (ZdW h hf (by rw [List.length_nil] at y1; omega) y2) (by omega)
 | day::rest,hf,y,y1,y2=>by
  rw [List.length_cons] at y1
  by_cases hd:rest.length < d
  ·rw [aF,if_pos hd]
   exact aT (ZdW h hf (by omega) y2) (by omega)
  ·rw [aF,if_neg hd]
   have t0:=h.t0; have d0:=h.d0; have td:=h.td
   have hr:FOk rest:=hf.drop 1
   have hlen:=hf.len
   rw [List.length_cons] at hlen ⊢
   have ih:=lj h (d:=d) hr
   have hc:∀ z,y<=z->z<=s.top->nb (760+160 * rest.length) (csm s d (day::rest) (aF s d rest) z):=λz z1 z2=>ZeC h hf ih (by omega) z2
   have p1:=dR hf.B
   rw [List.length_cons] at p1
   have hx:nb 20 y:=bR (by show -1048576 < _; omega) (by show _ < 1048576; omega)
   unfold cst
   have k1:=Zh0 (b:=760+160 * rest.length) (K:=prd (day::rest) * s.start) y2 hc (aT (b9 p1 h.start) (by omega))
   exact aT (gu k1 (b9 (b9 p1 h.piece) hx)) (by omega)
theorem md:∀ (fs:List (List Int)) (t:Nat),reach (fs.take t)+reach (fs.drop t)=reach fs
 | [],t=>by rw [List.take_nil,List.drop_nil]; rfl
 | d::fs,0=>by rw [List.take_zero,List.drop_zero]; show 0+_=_; omega
 | d::fs,t+1=>by
  rw [List.take_succ_cons,List.drop_succ_cons,ma,ma,<- md fs t]
  omega
theorem ZbN {fs:List (List Int)} {t:Nat} {day:List Int} {rest:List (List Int)} (h:fs.drop t=day::rest):reach (fs.take (t+1))=reach (fs.take t)+great day:=by
 have e1:=md fs t
 have e2:=md fs (t+1)
 have e3:fs.drop (t+1)=rest:=by rw [<- List.drop_drop,h]; rfl
 rw [h,ma] at e1
 rw [e3] at e2
 omega
noncomputable def lw (fs:List (List Int)) (x:Int) (t:Nat):Int:=x - reach (fs.take t)
noncomputable def nn (s:Shp) (fs:List (List Int)) (x:Int) (t:Nat):Nat:=(s.top+1 - lw fs x t).toNat
noncomputable def fu (s:Shp) (d:Nat) (fs:List (List Int)) (x:Int) (t:Nat):PyData:=.tuple ((aB (lw fs x t) (nn s fs x t)).map λy=>eY (aF s d (fs.drop t) y) (prd (fs.drop t)) (aL s d (fs.drop t) y))
noncomputable def cA (s:Shp) (d:Nat) (fs:List (List Int)) (x:Int) (o:Nat):Nat->List PyData
 | 0=>[]
 | p+1=>cA s d fs x o p++[fu s d fs x (o - (p+1))]
theorem pT (s:Shp) (d:Nat) (fs:List (List Int)) (x:Int) (o:Nat):∀ p,(cA s d fs x o p).length=p
 | 0=>rfl
 | p+1=>by rw [cA,List.length_append,pT s d fs x o p]; rfl
theorem jm {s:Shp} {fs:List (List Int)} (hf:FOk fs) {x:Int} (x1:reach fs - s.depth<=x) (t:Nat):-s.depth<=lw fs x t:=by
 have e:=md fs t
 have:=fM (fs:=fs.drop t) λl hl=>(hf.b l (List.mem_of_mem_drop hl)).2
 unfold lw
 omega
theorem m9 {fs:List (List Int)} (hf:FOk fs) (x:Int) (t:Nat):lw fs x t<=x:=by
 have:=fM (fs:=fs.take t) λl hl=>(hf.b l (List.mem_of_mem_take hl)).2
 unfold lw
 omega
theorem ZdU {g:Int->Int} {top K P B:Int} (hB:B≠0) (hn:nb 7000 B):∀ l:List Int,bB (c9 (bh (aw (af 0) (aw (af 1) bc))) mj [.un,.un,.d (.int B)]) (l.map (dh g top K P))=.ret (l.map λx=>eY (cst g top K P x) B (lvl g top K x))
 | []=>rfl
 | x::l=>by
  have ih:=ZdU (g:=g) (top:=top) (K:=K) (P:=P) hB hn l
  have e0:c9 (bh (aw (af 0) (aw (af 1) bc))) mj [.un,.un,.d (.int B)] (dh g top K P x)=.ret (eY (cst g top K P x) B (lvl g top K x)):=by
   have e2:=ZdZ (t:=cst g top K P x) hB hn
   simp_arith only [mj,dh,e2]
   rfl
  rw [List.map_cons,bB,e0,Tr.ret_bind,ih]
  rfl
theorem Zeg {g:Int->Int} {top K P lo:Int}:∀ (n k:Nat),bB (λx=>(Tr.of (bh (aw (af 0) (aw (bh (aw (af 1) (aw (af 2) bc))) bc)) x [.un,.un,.un,.d (.int lo)])).bind (g9 mi mh)) ((List.range' k n).zipWith (λ(i:Nat) x=>PyData.tuple [.int i,x]) ((aB (lo+k) n).map (dh g top K P)))=.ret ((aB (lo+k) n).map λc=>.tuple [.int c,.int (cst g top K P c)])
 | 0,k=>rfl
 | n+1,k=>by
  have ih:=Zeg (g:=g) (top:=top) (K:=K) (P:=P) (lo:=lo) n (k+1)
  rw [show lo+((k+1:Nat):Int)=lo+k+1 by omega] at ih
  rw [gM,List.map_cons,List.range'_succ,List.zipWith_cons_cons,bB]
  have e0:(Tr.of (bh (aw (af 0) (aw (bh (aw (af 1) (aw (af 2) bc))) bc)) (.tuple [.int (k:Int),dh g top K P (lo+k)]) [.un,.un,.un,.d (.int lo)])).bind (g9 mi mh)=.ret (.tuple [.int (lo+k),.int (cst g top K P (lo+k))]):=rfl
  rw [e0,Tr.ret_bind,ih]
  rfl
theorem Zd7 {fs:List (List Int)} {t:Nat} (h:t < fs.length):∃ day,fs.drop t=day::fs.drop (t+1):=⟨fs[t],List.drop_eq_getElem_cons h⟩
theorem i7:∀ {fs:List (List Int)},(∀ l∈fs,DayB l)->0 < prd fs
 | [],_=>by show (0:Int) < 1; decide
 | d::fs,h=>by
  rw [prd]
  exact Int.mul_pos (i7 λl hl=>h l (List.mem_cons_of_mem _ hl)) (h d (by simp)).pos
theorem ZgT {s:Shp} (h:s.Ok) {fs:List (List Int)} (hf:FOk fs) {d:Nat} {x:Int} (x1:reach fs - s.depth<=x) (x2:x<=s.top) {t:Nat} (ht:t+d < fs.length) (O:Sl) (acc:List PyData) (ha:acc.length<=100) (J8 J9 J10:Sl) :
  ∃ K8 K9 K10:Sl,ni [.d s.d,.d (fD fs),.d (.int d),.d (.int x),O,.d (cX (lw fs x (t+1)) (nn s fs x (t+1)) (aF s d (fs.drop (t+1)))),.own acc,.d (.int t),J8,J9,J10]=.ret (.next [.d s.d,.d (fD fs),.d (.int d),.d (.int x),O,.d (cX (lw fs x t) (nn s fs x t) (aF s d (fs.drop t))),.own (acc++[fu s d fs x t]),.d (.int t),K8,K9,K10]):=by
 have t0:=h.t0; have d0:=h.d0; have td:=h.td
 obtain ⟨day,hD⟩:=Zd7 (show t < fs.length by omega)
 have hF:=hf.drop t
 have hFl:=hF.len
 have hr:FOk (fs.drop (t+1)):=hf.drop (t+1)
 have l1:=jm hf x1 t
 have l2:=m9 hf x t
 have l3:=jm hf x1 (t+1)
 have l4:=m9 hf x (t+1)
 have hw:lw fs x (t+1)=lw fs x t - great day:=by have:=ZbN hD; unfold lw; omega
 have c1:=Zd2 hf (t:=t) (by omega) x
 have c2:=kY hF.B (by omega)
 have hrl:(fs.drop (t+1)).length=fs.length - (t+1):=List.length_drop
 rw [hD] at hF c2
 have hlen:=hF.len
 rw [List.length_cons] at hlen
 have c3:=Zmi h hF (d:=d) (by omega) (lo':=lw fs x (t+1)) (n':=nn s fs x (t+1)) (F:=aF s d (fs.drop (t+1))) (b:=712+160 * (fs.drop (t+1)).length) (λz z1 z2=>lj h hr z (by omega) (by unfold nn at z2; omega)) (by omega) (low:=lw fs x t) (by omega) (by omega) (λz hz=>by have:=Zjn hz; omega) (by unfold nn; omega)
 have p0:=i7 hF.B
 have p1:=dR hF.B
 rw [List.length_cons] at p1
 have c4:=Zmj h (low:=lw fs x t) (by omega) (by omega) (g:=csm s d (day::fs.drop (t+1)) (aF s d (fs.drop (t+1)))) (b:=760+160 * (fs.drop (t+1)).length) (λz z1 z2=>ZeC h hF (lj h hr) (by omega) z2) (sc:=prd (day::fs.drop (t+1))) (aT p1 (by omega)) (Int.mul_nonneg (Int.le_of_lt p0) h.start0) (by omega)
 have em:(aB (lw fs x t) (s.top+1 - lw fs x t).toNat).map (λy=>PyData.int (csm s d (day::fs.drop (t+1)) (aF s d (fs.drop (t+1))) y))=((aB (lw fs x t) (s.top+1 - lw fs x t).toNat).map (csm s d (day::fs.drop (t+1)) (aF s d (fs.drop (t+1))))).map PyData.int:=by rw [List.map_map]; rfl
 rw [em] at c3
 have c5:=ZdU (g:=csm s d (day::fs.drop (t+1)) (aF s d (fs.drop (t+1)))) (top:=s.top) (K:=prd (day::fs.drop (t+1)) * s.start) (P:=prd (day::fs.drop (t+1)) * s.piece) (Int.ne_of_gt p0) (aT p1 (by omega)) (aB (lw fs x t) (s.top+1 - lw fs x t).toNat)
 have e6:aF s d (fs.drop t)=cst (csm s d (day::fs.drop (t+1)) (aF s d (fs.drop (t+1)))) s.top (prd (day::fs.drop (t+1)) * s.start) (prd (day::fs.drop (t+1)) * s.piece):=by rw [hD]; exact rY (by omega)
 have erow:fu s d fs x t=.tuple ((aB (lw fs x t) (s.top+1 - lw fs x t).toNat).map λy=>eY (cst (csm s d (day::fs.drop (t+1)) (aF s d (fs.drop (t+1)))) s.top (prd (day::fs.drop (t+1)) * s.start) (prd (day::fs.drop (t+1)) * s.piece) y) (prd (day::fs.drop (t+1))) (lvl (csm s d (day::fs.drop (t+1)) (aF s d (fs.drop (t+1)))) s.top (prd (day::fs.drop (t+1)) * s.start) y)):=by
  unfold fu nn
  rw [e6,hD]
  rfl
 rw [erow,e6]
 unfold nn
 have cf:=jA fs t
 rw [hD] at cf
 have hlow:x - reach (fs.take t)=lw fs x t:=rfl
 rw [hlow] at c1
 unfold nn at c3
 generalize csm s d (day::fs.drop (t+1)) (aF s d (fs.drop (t+1)))=g at *
 generalize hK:prd (day::fs.drop (t+1))=B at *
 have hsm:small ((aB (lw fs x t) (s.top+1 - lw fs x t).toNat).map (dh g s.top (B * s.start) (B * s.piece))).length=true:=ce (by rw [List.length_map,gh]; omega)
 have hsm2:small (acc.length+1)=true:=ce (by omega)
 have hsm3:small (cG ((aB (lw fs x t) (s.top+1 - lw fs x t).toNat).map (dh g s.top (B * s.start) (B * s.piece)))).length=true:=ce (by rw [ZlY,List.length_map,gh]; omega)
 have ed:=Zeg (g:=g) (top:=s.top) (K:=B * s.start) (P:=B * s.piece) (lo:=lw fs x t) (s.top+1 - lw fs x t).toNat 0
 rw [Int.natCast_zero,Int.add_zero] at ed
 have ee:cG ((aB (lw fs x t) (s.top+1 - lw fs x t).toNat).map (dh g s.top (B * s.start) (B * s.piece)))=(List.range' 0 (s.top+1 - lw fs x t).toNat).zipWith (λ(i:Nat) x=>PyData.tuple [.int i,x]) ((aB (lw fs x t) (s.top+1 - lw fs x t).toNat).map (dh g s.top (B * s.start) (B * s.piece))):=by
  unfold cG
  rw [List.length_map,gh,List.range_eq_range']
 rw [<- ee] at ed
 have edc:∀ X5 X6:Sl,gG (fI (aa 10)) 3 [8] (bh (aw (af 0) (aw (bh (aw (af 1) (aw (af 2) bc))) bc))) mi mh [.d s.d,.d (fD fs),.d (.int d),.d (.int x),O,X5,X6,.d (.int t),.d (.int (lw fs x t)),.d (.int B),.d (.list ((aB (lw fs x t) (s.top+1 - lw fs x t).toNat).map (dh g s.top (B * s.start) (B * s.piece))))]=.ret (cX (lw fs x t) (s.top+1 - lw fs x t).toNat (cst g s.top (B * s.start) (B * s.piece))):=λX5 X6 =>
  ZdL (xs:=cG ((aB (lw fs x t) (s.top+1 - lw fs x t).toNat).map (dh g s.top (B * s.start) (B * s.piece)))) (by simp_arith only [List.isEmpty_cons]) hsm3 ed (Zep _ _ _)
 unfold lI at c4
 refine ⟨.d (.int (lw fs x t)),.d (.int B),.d (.list ((aB (lw fs x t) (s.top+1 - lw fs x t).toNat).map (dh g s.top (B * s.start) (B * s.piece)))),?_⟩
 simp_arith only [ni,c1,cf,c2,c3,c4,hsm,c5,hsm2,edc]
theorem Zd0 {s:Shp} (h:s.Ok) {fs:List (List Int)} (hf:FOk fs) {d:Nat} (d1:d<=fs.length) {x:Int} (x1:reach fs - s.depth<=x) (x2:x<=s.top) :
  kC [.d s.d,.d (fD fs),.d (.int d),.d (.int x)]=.ret (.d (.tuple [.list (cA s d fs x (fs.length - d) (fs.length - d)).reverse,.int (aF s d fs x)])):=by
 have t0:=h.t0; have d0:=h.d0; have td:=h.td
 have hl:=hf.len
 generalize ho:fs.length - d=o
 have ho':(fs.length:Int) - d=(o:Int):=by omega
 have l1:=jm hf x1 o
 have l2:=m9 hf x o
 have ea:=Zmg h hf (o:=o) (by omega) (x:=x) (by unfold lw at l1; omega) (by unfold lw at l2; omega)
 have hend:dX s (fs.drop o)=aF s d (fs.drop o):=(ll (by rw [List.length_drop]; omega)).symm
 rw [hend] at ea
 have hln:bF cP [fD fs]=.ret (.int fs.length):=by
  unfold fD
  rw [kX,List.length_map]
 have r1:dQ [.int (o:Int)]=.ret (ba 0 (o:Int)):=gC (dE (by omega) (by omega))
 apply Zfv
 simp_arith only [kC,hln,ho',ea,r1,iV]
 refine gE (n:=0) (n':=0) (P:=λz=>∃ J7 J8 J9 J10:Sl,z=.next [.d s.d,.d (fD fs),.d (.int d),.d (.int x),.d (.int o),.d (cX (lw fs x 0) (nn s fs x 0) (aF s d fs)),.own (cA s d fs x o o),J7,J8,J9,J10]) ?_ (by decide) ?_
 ·refine Zfu (n:=0) (λpre ρ=>pre.length<=o/\∃ J7 J8 J9 J10:Sl,ρ=[.d s.d,.d (fD fs),.d (.int d),.d (.int x),.d (.int o),.d (cX (lw fs x (o - pre.length)) (nn s fs x (o - pre.length)) (aF s d (fs.drop (o - pre.length)))),.own (cA s d fs x o pre.length),J7,J8,J9,J10]) ⟨Nat.zero_le _,.un,.un,.un,.un,rfl⟩ (by simp) ?_ ?_
  ·rintro pre v post ρ e ⟨hp,J7,J8,J9,J10,rfl⟩
   obtain ⟨rfl,hpl⟩:=ZbF e
   have ht:(o:Int) - 1 - pre.length=((o - (pre.length+1):Nat):Int):=by omega
   rw [ht]
   refine ⟨_,rfl,?_⟩
   have hq:o - pre.length=o - (pre.length+1)+1:=by omega
   obtain ⟨K8,K9,K10,et⟩:=ZgT h hf (d:=d) x1 x2 (t:=o - (pre.length+1)) (by omega) (.d (.int o)) (cA s d fs x o pre.length) (by rw [pT]; omega) J8 J9 J10
   rw [<- hq] at et
   show Al (ni [.d s.d,.d (fD fs),.d (.int d),.d (.int x),.d (.int o),.d (cX (lw fs x (o - pre.length)) (nn s fs x (o - pre.length)) (aF s d (fs.drop (o - pre.length)))),.own (cA s d fs x o pre.length),.d (.int ((o - (pre.length+1):Nat):Int)),J8,J9,J10]) _ _
   rw [et]
   refine dJ ⟨_,rfl,?_,.d (.int ((o - (pre.length+1):Nat):Int)),K8,K9,K10,?_⟩
   ·rw [List.length_append]; show pre.length+1<=o; omega
   ·rw [List.length_append]
    rfl
  ·rintro ρ ⟨hp,J7,J8,J9,J10,rfl⟩
   refine ⟨J7,J8,J9,J10,?_⟩
   rw [List.length_reverse,cO,show ((o:Int) - 0).toNat=o by omega,Nat.sub_self,List.drop_zero]
 ·rintro _ ⟨J7,J8,J9,J10,rfl⟩
  have eg:aQ fF (cX (lw fs x 0) (nn s fs x 0) (aF s d fs)) (.int x)=.ret (.int (aF s d fs x)):=by
   have e0:lw fs x 0=x:=by unfold lw; rw [List.take_zero]; show x - 0=x; omega
   unfold aQ nn
   rw [e0,rj (Int.le_refl x) (by omega)]
   rfl
  simp_arith only [eg]
  exact dJ rfl
noncomputable def drB (ρ:List Sl) (_:PyData):Tr Ou:=.ret (.next ρ)
theorem ZdJ {i:List Sl->Tr PyData} {ρ:List Sl}:oh i ρ=(i ρ).bind (drB ρ):=rfl
theorem ZdK {ρ:List Sl} {x:PyData}:drB ρ x=.ret (.next ρ):=rfl
noncomputable def dk (s:Shp) (fs:List (List Int)) (x:Int):Nat->Int
 | 0=>0
 | t+1=>dk s fs x t+prd (fs.drop (t+1)) * ws (λf=>s.day x f) 0 (cb (fs.take (t+1)))
noncomputable def ci (s:Shp) (d:Nat) (fs:List (List Int)) (x:Int):Int:=aF s d fs x+dk s fs x d
theorem ZcY {s:Shp} (h:s.Ok) {fs:List (List Int)} (hf:FOk fs) {x:Int} (hx:nb 20 x) (Dd T:Sl) (c:Int):∀ (n k:Nat) (J:Sl),k+n<=fs.length->∃ K:Sl,bV (af 6) nk ((aB k n).map PyData.int) [.d s.d,.d (fD fs),Dd,.d (.int x),T,.d (.int (c+dk s fs x k)),J]=.ret (.next [.d s.d,.d (fD fs),Dd,.d (.int x),T,.d (.int (c+dk s fs x (k+n))),K])
 | 0,k,J,_=>⟨J,rfl⟩
 | n+1,k,J,hk=>by
  obtain ⟨K,e⟩:=ZcY h hf hx Dd T c n (k+1) (.d (.int k)) (by omega)
  refine ⟨K,?_⟩
  have e1:=kY (hf.drop (k+1)).B (by have:=(hf.drop (k+1)).len; omega)
  have e2:=rb (hf.take (k+1)).P (by have:=(hf.take (k+1)).len; omega)
  obtain ⟨w1,w2⟩:=iM (hf.take (k+1))
  have e3:=ZdX h w1 (by decide) (by omega) hx
  have c1:ft (fD fs) (some ((k:Int)+1)) none=.ret (fD (fs.drop (k+1))):=jA fs (k+1)
  have c2:ft (fD fs) none (some ((k:Int)+1))=.ret (fD (fs.take (k+1))):=nT fs (t:=k+1) (by omega)
  have p2:=dR (hf.drop (k+1)).B
  have q1:(fs.drop (k+1)).length<=6:=(hf.drop (k+1)).len
  have f1:=aD p2 (by omega)
  have f2:=aD (h7 (k:=0) (f:=λf=>s.day x f) (a:=280) (b:=100) w1 λz x1 x2=>kZ h hx (bR (by show -1099511627776 < z; omega) (by show z < 1099511627776; omega))) (by omega)
  have et:nk [.d s.d,.d (fD fs),Dd,.d (.int x),T,.d (.int (c+dk s fs x k)),.d (.int k)]=.ret (.next [.d s.d,.d (fD fs),Dd,.d (.int x),T,.d (.int (c+dk s fs x (k+1))),.d (.int k)]):=by
   simp_arith only [nk,c1,e1,c2,e2,e3,f1,f2,dk,Int.add_assoc]
  have eg:af 6 (.int (k:Int)) [.d s.d,.d (fD fs),Dd,.d (.int x),T,.d (.int (c+dk s fs x k)),J]=some [.d s.d,.d (fD fs),Dd,.d (.int x),T,.d (.int (c+dk s fs x k)),.d (.int k)]:=rfl
  rw [show ((k+1:Nat):Int)=(k:Int)+1 by omega] at e
  rw [gM,List.map_cons,dU,eg,Tr.of_some,Tr.ret_bind,g8,et,Tr.ret_bind,dF,e,show k+1+n=k+(n+1) by omega]
theorem Zmb {s:Shp} (h:s.Ok) {fs:List (List Int)} (hf:FOk fs) {d:Nat} (d1:d<=fs.length) {x:Int} (x1:reach fs - s.depth<=x) (x2:x<=s.top) :
  kD [.d s.d,.d (fD fs),.d (.int d),.d (.int x)]=.ret (.d (cu (ci s d fs x) (prd fs))):=by
 have t0:=h.t0; have d0:=h.d0; have td:=h.td
 have hl:=hf.len
 have hr:=fM (fs:=fs) λl hl=>(hf.b l hl).2
 have hx:nb 20 x:=bR (by show -1048576 < x; omega) (by show x < 1048576; omega)
 have e1:=Zd5 hf x1
 have e2:=Zd0 h hf d1 x1 x2
 obtain ⟨K,e3⟩:=ZcY h hf hx (.d (.int d)) (.d (.list (cA s d fs x (fs.length - d) (fs.length - d)).reverse)) (aF s d fs x) d 0 .un (by omega)
 have e4:=kY hf.B (by omega)
 have r1:dQ [.int (d:Int)]=.ret (ba 0 (d:Int)):=gC (dE (by omega) (by omega))
 have er:ba 0 (d:Int)=(aB ((0:Nat):Int) d).map PyData.int:=by
  unfold ba
  rw [show ((d:Int) - 0).toNat=d by omega]
  rfl
 have p1:=dR hf.B
 have e5:=ZdZ (t:=aF s d fs x+dk s fs x d) (b:=prd fs) (Int.ne_of_gt (i7 hf.B)) (aT p1 (by omega))
 have ez:aF s d fs x+dk s fs x 0=aF s d fs x:=Int.add_zero _
 rw [ez,Nat.zero_add] at e3
 simp_arith only [kD,ZdJ,ZdK,e1,e2,r1,er,e3,e4,e5]
 rfl
theorem Zl3 {s:Shp} (h:s.Ok) {fs:List (List Int)} (hf:FOk fs) {d:Nat} (d1:d<=fs.length) {x:Int} (x1:reach fs - s.depth<=x) (x2:x<=s.top) :
  jk [.d s.d,.d (fD fs),.d (.int d),.d (.int x)]=.ret (.d (.tuple (cA s d fs x (fs.length - d) (fs.length - d)).reverse)):=by
 have e1:=Zd5 hf x1
 have e2:=Zd0 h hf d1 x1 x2
 simp_arith only [jk,ZdJ,ZdK,e1,e2]
theorem Zm4 {g:Int->Int} {top K P x y:Int} (h1:x<=y) (h2:y<=top):cst g top K P x<=g y+(if x < y then K else 0) - P * x:=by
 unfold cst
 obtain ⟨p1,p2⟩:=Zh1 (g:=g) (K:=K) (show x<=top by omega)
 by_cases e:x < y
 ·rw [if_pos e]; have:=p2 y e h2; omega
 ·rw [if_neg e]
  have:y=x:=by omega
  subst this
  omega
theorem Zm6 {g:Int->Int} {top K P x:Int} (hx:x<=top):∃ y,x<=y/\y<=top/\cst g top K P x=g y+(if x < y then K else 0) - P * x:=by
 obtain ⟨h1,h2,h3⟩:=ip (g:=g) (K:=K) hx
 refine ⟨(pck g top K x).2,h1,h2,?_⟩
 unfold cst
 rcases h3 with ⟨e1,e2⟩ | ⟨e1,e2,-⟩
 ·rw [if_neg (by omega),e2,e1]; omega
 ·rw [if_pos e1,e2]; omega
theorem Zes (s:Shp) (y f w:Int):s.day (y - f) w=s.day y (f+w):=by
 have e:y - f - w=y - (f+w):=by omega
 unfold Shp.day Shp.nx
 rw [e]
theorem lJ {day:List Int} {T:List (List Int)} (h:∀ l∈day::T,0 < l.length) (f:Int->Int):ws f 0 (cb (day::T))=ws (λi=>ws (λj=>f (i+j)) 0 (cb T)) 0 day:=by
 rw [oE f h,sv]
 exact c7 λi _=>(oE _ λl hl=>h l (List.mem_cons_of_mem _ hl)).symm
end My
namespace My
open PySem PySem.Spec PyProof.Rows L2 Tw
theorem Zmp (s:Shp) (y f:Int):s.keep * cx (s.nx y f) 0+s.lack * cx (0 - s.nx y f) 0+s.lost * (s.nx y f - y+f)=s.day y f:=by
 unfold Shp.day
 have e:s.nx y f - y+f=s.nx y f - (y - f):=by omega
 rw [e]
 generalize s.nx y f=z
 unfold cx
 by_cases hz:z > 0
 ·rw [if_neg (by omega),if_pos (by omega),if_pos hz,Int.mul_zero,Int.add_zero]
 ·rw [if_neg hz]
  by_cases h0:z=0
  ·subst h0; simp
  ·rw [if_pos (by omega),if_neg (by omega),Int.mul_zero,Int.zero_add]
   have e2:0 - z=-z:=by omega
   rw [e2]
theorem ZjJ (s:Shp) (x:Int):s.late * cx (0 - x) 0 - s.back * cx x 0=s.fin x:=by
 unfold Shp.fin cx
 by_cases hx:x > 0
 ·rw [if_pos (by omega),if_neg (by omega),if_pos hx,Int.mul_zero,Int.neg_mul]
  omega
 ·rw [if_neg hx]
  by_cases h0:x=0
  ·subst h0; simp
  ·rw [if_neg (by omega),if_pos (by omega),Int.mul_zero,Int.sub_zero]
   have e2:0 - x=-x:=by omega
   rw [e2]
theorem Zin (s:Shp) (y f:Int):cx (y - f) (0 - s.depth)=s.nx y f:=by
 unfold Shp.nx
 have e:0 - s.depth=-s.depth:=by omega
 rw [e]
theorem Zl9 {t b:Int} (hb:0 < b) (nB:nb 7000 b):mO [.d (.int t),.d (.int b)]=.ret (.d (cu t b)):=by
 obtain ⟨z,rfl⟩:∃ z:Nat,b=(z:Int):=⟨b.toNat,by omega⟩
 have key:=euclid (p:=oK) (s:=qH) (E:=λa b'=>[.d (.int t),.d (.int z),.d (.int a),.d (.int b')]) (λa b=>by
  simp_arith only [oK]
  by_cases h:b=0
  ·subst h; rfl
  ·rw [decide_eq_true h]
   congr 1
   simp
   omega) (λa b h=>by
  have h':(b:Int)≠0:=by omega
  simp_arith only [qH,ju h',ZdA]) 8000 83999 t.natAbs z (Nat.lt_of_lt_of_le (show z < 2 ^ 7000 from by unfold nb at nB; rwa [Int.natAbs_natCast] at nB) (Nat.pow_le_pow_right (by decide) (by decide)))
 have e:2 * 8000+1+83999=100000:=rfl
 rw [e] at key
 have hd:=Gc.rf (t:=t) (b:=(z:Int)) (by omega)
 have hf:=aD (Zei (t:=t) nB (by omega)) (by decide)
 have ed:Gc.den t (z:Int)=((Nat.gcd t.natAbs z:Nat):Int):=by unfold Gc.den Gc.g7; rw [if_neg (by omega),Int.natAbs_natCast]
 unfold cu Gc.eV Gc.dS
 rw [ed] at hd hf ⊢
 simp_arith only [mO,Zfy,key,nQ hd hf]
theorem mG {z:Int} {k:Nat} (h:nb k z):nb k (cx z 0):=by
 unfold cx nb at *
 split <;> omega
theorem mF {z:Int} {k:Nat} (h:nb k z):nb k (cx (0 - z) 0):=by
 unfold cx nb at *
 split <;> omega
theorem Zl4 {s:Shp} (h:s.Ok) {x:Int} (hx:nb 20 x):mQ [.d s.d,.d (.int x)]=.ret (.d (.int (cK s x))):=by
 have g1:=aD (mG hx) (by decide)
 have g2:=aD (mF hx) (by decide)
 have f1:=aD h.keep (by decide)
 have f2:=aD h.lack (by decide)
 simp_arith only [mQ,f1,f2,g1,g2]
 rfl
theorem Zme {s:Shp} (h:s.Ok) {x:Int} (hx:nb 20 x):mS [.d s.d,.d (.int x)]=.ret (.d (.int (fT s x))):=by
 have g1:=aD (mG hx) (by decide)
 have g2:=aD (mF hx) (by decide)
 have f1:=aD h.late (by decide)
 have f2:=aD h.back (by decide)
 simp_arith only [mS,f1,f2,g1,g2]
 rfl
theorem Zl6 {s:Shp} (h:s.Ok) {p:Int} (hp:nb 20 p):kF [.d s.d,.d (.int p)]=.ret (.d (.int (bC s p))):=by
 have f1:=aD h.piece (by decide)
 have f2:=aD hp (by decide)
 have f3:=aD (c8 h.start (b9 h.piece hp)) (by decide)
 have g1:fit (1:Int)=true:=aD (show nb 20 (1:Int) from bR (by decide) (by decide)) (by decide)
 have g0:fit (0:Int)=true:=aD (show nb 20 (0:Int) from bR (by decide) (by decide)) (by decide)
 unfold bC
 by_cases c:0 < p
 ·simp_arith only [kF,f1,f2,f3,g1,decide_eq_true (show p > 0 from c),if_true,Int.mul_one,if_pos c]
 ·simp_arith only [kF,f1,f2,f3,g0,decide_eq_false (show ¬ p > 0 from c),Bool.false_eq_true,if_false,Int.mul_zero,if_neg c]
theorem ZcR (f:Int->Int) (a:Int):∀ n:Nat,∃ i:Nat,i<=n/\cD f a n=f (a+i)
 | 0=>⟨0,Nat.le_refl _,by rw [cD,show a+((0:Nat):Int)=a by omega]⟩
 | n+1=>by
  obtain ⟨i,h1,h2⟩:=ZcR f a n
  rw [cD]
  split
  ·exact ⟨n+1,Nat.le_refl _,rfl⟩
  ·exact ⟨i,by omega,h2⟩
theorem iR:∀ {l:List Int},(∀ a∈l,0<=a)->0<=l.sum/\∀ a∈l,a<=l.sum
 | [],_=>⟨by simp,λa h=>by cases h⟩
 | b::l,h=>by
  have ih:=iR (l:=l) λv hv=>h v (List.mem_cons_of_mem _ hv)
  have hb:=h b (by simp)
  refine ⟨by rw [List.sum_cons]; omega,λa ha=>?_⟩
  rw [List.sum_cons]
  rcases List.mem_cons.mp ha with rfl | q
  ·omega
  ·have:=ih.2 a q
   omega
theorem Zjm (l:List Int):l.headD 0+(l.drop 1).sum=l.sum:=by
 cases l with
 | nil=>rfl
 | cons a l=>rw [List.sum_cons]; rfl
section
variable (s:Shp) (r:Int->Int)
noncomputable def eR:List (List Int)->Int->List Int->Int
 | day::rest,x,a::l=>ws (λf=>r (x+a - f) * bM rest+eR rest (x+a - f) l) 0 day
 | _,_,_=>0
noncomputable def lE:List (List Int)->Nat->Int->Int
 | [],_,_=>0
 | day::rest,0,z=>ws (λf=>r (z - f) * bM rest) 0 day
 | day::rest,k+1,z=>ws (λf=>lE rest k (z - f)) 0 day
noncomputable def aR (d:Nat):List (List Int)->Int->Int
 | [],c=>fT s c
 | day::rest,c=>cD (λy=>bC s (y - c) * bM (day::rest)+lE r (day::rest) d y+ws (λf=>aR d rest (y - f)) 0 day) c (if d < (day::rest).length then (s.top - c).toNat else 0)
noncomputable def vR (d:Nat):List (List Int)->Int->List Int->Int
 | [],x,way=>fT s (x+way.sum)
 | day::rest,x,way=>cD (λy=>bC s (y - (x+way.sum)) * bM (day::rest)+ws (λf=>r (x+way.headD 0 - f) * bM rest+vR d rest (x+way.headD 0 - f) (way.drop 1++[y - (x+way.sum)])) 0 day) (x+way.sum) (if d < (day::rest).length then (s.top - (x+way.sum)).toNat else 0)
end
theorem rc (r:Int->Int) (fs:List (List Int)) (x:Int):eR r fs x []=0:=by
 cases fs with
 | nil=>rfl
 | cons d fs=>rfl
theorem nR (r:Int->Int):∀ (fs:List (List Int)) (l:List Int) (x p:Int),eR r fs x (l++[p])=eR r fs x l+lE r fs l.length (x+l.sum+p)
 | [],l,x,p=>by cases l <;> rfl
 | day::rest,[],x,p=>by
  rw [rc,Int.zero_add,List.nil_append,eR]
  show _=lE r (day::rest) 0 (x+([]:List Int).sum+p)
  rw [lE]
  refine c7 λf _=>?_
  rw [rc,Int.add_zero,show x+([]:List Int).sum+p=x+p by simp]
 | day::rest,a::l,x,p=>by
  rw [List.cons_append,eR,eR,List.length_cons,lE,<- gI]
  refine c7 λf _=>?_
  rw [nR r rest l (x+a - f) p,List.sum_cons,show x+a - f+l.sum+p=x+(a+l.sum)+p - f by omega]
  omega
theorem ZcS {f g:Int->Int} {e a:Int} (h:∀ y,f y=e+g y):∀ n:Nat,cD f a n=e+cD g a n
 | 0=>h a
 | n+1=>by
  rw [cD,cD,ZcS h n,h]
  by_cases c:g (a+(n+1:Nat)) < cD g a n
  ·rw [if_pos c,if_pos (by omega)]
  ·rw [if_neg c,if_neg (by omega)]
theorem Zas (s:Shp) (r:Int->Int) {d:Nat} (hd:1<=d):∀ (fs:List (List Int)) (x:Int) (way:List Int),way.length=d->vR s r d fs x way=eR r fs x way+aR s r d fs (x+way.sum)
 | [],x,way,_=>by
  rw [vR,aR]
  have:eR r [] x way=0:=by cases way <;> rfl
  omega
 | day::rest,x,[],hw=>by
  have:(0:Nat)=d:=hw
  omega
 | day::rest,x,a::l,hw=>by
  have hw':l.length+1=d:=hw
  rw [vR,aR,eR]
  refine ZcS (λy=>?_) _
  have key:ws (λf=>r (x+(a::l).headD 0 - f) * bM rest+vR s r d rest (x+(a::l).headD 0 - f) ((a::l).drop 1++[y - (x+(a::l).sum)])) 0 day=ws (λf=>r (x+a - f) * bM rest+eR r rest (x+a - f) l) 0 day+(lE r (day::rest) d y+ws (λf=>aR s r d rest (y - f)) 0 day):=by
   have el:lE r (day::rest) d y=ws (λf=>lE r rest l.length (y - f)) 0 day:=by rw [<- hw']; rfl
   rw [el,<- gI,<- gI]
   refine c7 λf _=>?_
   show r (x+a - f) * bM rest+vR s r d rest (x+a - f) (l++[y - (x+(a::l).sum)])=_
   rw [Zas s r hd rest (x+a - f) (l++[y - (x+(a::l).sum)]) (by rw [List.length_append]; exact hw'),nR,List.sum_append,List.sum_cons]
   have e1:x+a - f+l.sum+(y - (x+(a+l.sum)))=y - f:=by omega
   have e2:x+a - f+(l.sum+[y - (x+(a+l.sum))].sum)=y - f:=by
    have:[y - (x+(a+l.sum))].sum=y - (x+(a+l.sum)):=by simp
    rw [this]
    omega
   rw [e1,e2]
   omega
  rw [key]
  omega
theorem jD:∀ fs:List (List Int),bM fs=prd fs
 | []=>rfl
 | d::fs=>by rw [bM,prd,jD fs,Int.mul_comm]
theorem qy (f:Int->Int) (a:Int):∀ (n i:Nat),i<=n->cD f a n<=f (a+i)
 | 0,i,h=>by
  have:i=0:=by omega
  subst this
  rw [cD,show a+((0:Nat):Int)=a by omega]
  exact Int.le_refl _
 | n+1,i,h=>by
  rw [cD]
  by_cases e:i=n+1
  ·subst e
   split
   ·exact Int.le_refl _
   ·omega
  ·have:=qy f a n i (by omega)
   split <;> omega
theorem Zaj (f:Int->Int):ws f 0 (cb [])=f 0:=by
 show ws f 0 [1]=f 0
 rw [ws,ws]
 show 1 * f ((0:Nat):Int)+0=f 0
 have:((0:Nat):Int)=0:=rfl
 rw [this]
 omega
theorem qJ (r:Int->Int):∀ (fs:List (List Int)) (d:Nat) (z:Int),fs.length<=d->lE r fs d z=0
 | [],d,z,_=>by rw [lE]
 | day::rest,0,z,h=>by simp at h
 | day::rest,d+1,z,h=>by
  rw [lE]
  rw [List.length_cons] at h
  have:ws (λf=>lE r rest d (z - f)) 0 day=ws (λ_=>0) 0 day:=c7 λf _=>qJ r rest d _ (by omega)
  rw [this,iN,Int.zero_mul]
theorem ny (s:Shp):∀ (fs:List (List Int)) (d:Nat) (y:Int),(∀ l∈fs,0 < l.length)->d < fs.length->lE (λz=>s.day z 0) fs d y=prd (fs.drop (d+1)) * ws (λf=>s.day y f) 0 (cb (fs.take (d+1)))
 | [],d,y,_,h=>by simp at h
 | day::rest,0,y,hl,_=>by
  have h1:∀ l∈[day],0 < l.length:=λl h=>by
   have e:l=day:=by simpa using h
   rw [e]
   exact hl day (by simp)
  rw [lE,List.take_succ_cons,List.take_zero,List.drop_succ_cons,List.drop_zero,lJ h1,<- oH,jD]
  refine c7 λf _=>?_
  rw [Zaj,Zes,Int.mul_comm]
 | day::rest,d+1,y,hl,h=>by
  rw [List.length_cons] at h
  have hl':∀ l∈rest,0 < l.length:=λl q=>hl l (List.mem_cons_of_mem _ q)
  rw [lE,List.take_succ_cons,List.drop_succ_cons,lJ (λl q=>hl l (by
   rcases List.mem_cons.mp q with rfl | q
   ·simp
   ·exact List.mem_cons_of_mem _ (List.mem_of_mem_take q))),<- oH]
  refine c7 λf _=>?_
  rw [ny s rest d (y - f) hl' (by omega)]
  have:(λw=>s.day (y - f) w)=λw=>s.day y (f+w):=funext λw=>Zes s y f w
  rw [this]
theorem rV {s:Shp} {d:Nat}:∀ (fs:List (List Int)),(∀ l∈fs,0 < l.length)->∀ c,c<=s.top->aR s (λz=>s.day z 0) d fs c=aF s d fs c
 | [],_,c,_=>by
  rw [aR,aF]
  unfold dX fT
  rw [Zaj,ZjJ,Int.sub_zero]
 | day::rest,hl,c,hc=>by
  have hl':∀ l∈rest,0 < l.length:=λl q=>hl l (List.mem_cons_of_mem _ q)
  have ih:∀ y,y<=s.top->ws (λf=>aR s (λz=>s.day z 0) d rest (y - f)) 0 day=ws (λf=>aF s d rest (y - f)) 0 day:=λy hy=>c7 λf hf=>rV rest hl' _ (by omega)
  rw [aR]
  by_cases hd:d < (day::rest).length
  ·have hd':d<=rest.length:=by rw [List.length_cons] at hd; omega
   rw [if_pos hd,rY hd']
   have ef:∀ y,c<=y->y<=s.top->bC s (y - c) * bM (day::rest)+lE (λz=>s.day z 0) (day::rest) d y+ws (λf=>aR s (λz=>s.day z 0) d rest (y - f)) 0 day=csm s d (day::rest) (aF s d rest) y+(if c < y then prd (day::rest) * s.start else 0) - prd (day::rest) * s.piece * c:=λy y1 y2=>by
    rw [ih y y2,ny s _ _ _ hl hd,jD]
    have ec:csm s d (day::rest) (aF s d rest) y=prd (day::rest) * s.piece * y+prd ((day::rest).drop (d+1)) * ws (λf=>s.day y f) 0 (cb ((day::rest).take (d+1)))+ws (λf=>aF s d rest (y - f)) 0 day:=rfl
    rw [ec]
    generalize prd (day::rest)=p
    generalize prd ((day::rest).drop (d+1)) * ws (λf=>s.day y f) 0 (cb ((day::rest).take (d+1)))=A
    generalize ws (λf=>aF s d rest (y - f)) 0 day=B
    unfold bC
    by_cases q:c < y
    ·rw [if_pos q,if_pos (by omega)]; grind
    ·have:y=c:=by omega
     rw [if_neg q,if_neg (by omega),this]; grind
   obtain ⟨m,hm⟩:∃ m:Nat,s.top - c=(m:Int):=⟨(s.top - c).toNat,by omega⟩
   rw [hm,Int.toNat_natCast]
   refine Int.le_antisymm ?_ ?_
   ·obtain ⟨y,y1,y2,hy⟩:=Zm6 (g:=csm s d (day::rest) (aF s d rest)) (K:=prd (day::rest) * s.start) (P:=prd (day::rest) * s.piece) hc
    rw [hy,<- ef y y1 y2]
    have:=qy (λy=>bC s (y - c) * bM (day::rest)+lE (λz=>s.day z 0) (day::rest) d y+ws (λf=>aR s (λz=>s.day z 0) d rest (y - f)) 0 day) c m (y - c).toNat (by omega)
    rw [show c+(((y - c).toNat:Nat):Int)=y by omega] at this
    exact this
   ·obtain ⟨i,i1,i2⟩:=ZcR (λy=>bC s (y - c) * bM (day::rest)+lE (λz=>s.day z 0) (day::rest) d y+ws (λf=>aR s (λz=>s.day z 0) d rest (y - f)) 0 day) c m
    rw [i2]
    show _<=bC s (c+(i:Int) - c) * bM (day::rest)+lE (λz=>s.day z 0) (day::rest) d (c+i)+ws (λf=>aR s (λz=>s.day z 0) d rest (c+i - f)) 0 day
    rw [ef (c+i) (by omega) (by omega)]
    exact Zm4 (by omega) (by omega)
  ·have hd':(day::rest).length<=d:=by omega
   rw [if_neg hd,cD,ll hd',qJ _ _ _ _ hd',ih c hc]
   rw [List.length_cons] at hd'
   have e0:bC s (c - c)=0:=by unfold bC; rw [if_neg (by omega)]
   rw [e0,Int.zero_mul,Int.zero_add,Int.zero_add]
   unfold dX
   rw [lJ hl]
   refine c7 λf _=>?_
   rw [ll (by omega)]
   unfold dX
   have:(λj=>s.fin (c - f - j))=λj=>s.fin (c - (f+j)):=funext λj=>by rw [show c - f - j=c - (f+j) by omega]
   rw [this]
theorem ZcQ {f g:Int->Int} {a:Int} (h:∀ i:Nat,f (a+i)=g (a+i)):∀ n:Nat,cD f a n=cD g a n
 | 0=>by
  have:=h 0
  rw [show a+((0:Nat):Int)=a by omega] at this
  exact this
 | n+1=>by rw [cD,cD,ZcQ h n,h (n+1)]
theorem oI {f g:Int->Int}:∀ {l:List Int} {k:Nat},(∀ (j:Nat) (n:Int),l[j]?=some n->n≠0->f ((k+j:Nat):Int)=g ((k+j:Nat):Int))->ws f k l=ws g k l
 | [],k,_=>rfl
 | n::l,k,h=>by
  have ih:=oI (f:=f) (g:=g) (l:=l) (k:=k+1) λj m e hm=>by
   have:=h (j+1) m (by rw [List.getElem?_cons_succ]; exact e) hm
   rw [show k+(j+1)=k+1+j by omega] at this
   exact this
  rw [ws,ws,ih]
  by_cases e:n=0
  ·rw [e,Int.zero_mul,Int.zero_mul]
  ·have:=h 0 n rfl e
   rw [Nat.add_zero] at this
   rw [this]
theorem ZaQ:∀ {ns:List Int} {k i:Nat} {v:Int},ns[i]?=some v->0 < v->((k+i:Nat):Int)∈bz k ns
 | [],k,i,v,h,_=>by simp at h
 | n::ns,k,0,v,h,hv=>by
  simp at h
  subst h
  rw [bz,if_pos hv]
  exact List.mem_cons_self ..
 | n::ns,k,i+1,v,h,hv=>by
  have ih:=ZaQ (ns:=ns) (k:=k+1) (i:=i) (by simpa using h) hv
  have e:k+1+i=k+(i+1):=by omega
  rw [e] at ih
  rw [bz]
  split
  ·exact List.mem_cons_of_mem _ ih
  ·exact ih
theorem qT {one:List Int} {k:Nat} {v:Int} (h:one[k]?=some v) (hv:0 < v):(k:Int)<=great one:=by
 have hm:=ZaQ (k:=0) h hv
 rw [Nat.zero_add] at hm
 exact (iy (List.ne_nil_of_mem hm)).2 _ hm
theorem me (l:List Int) (fs:List (List Int)):reach (l::fs)=great l+reach fs:=by
 unfold reach
 rw [List.map_cons,List.sum_cons]
theorem fM:∀ {fs:List (List Int)},(∀ l∈fs,∃ n∈l,n > 0)->0<=reach fs
 | [],_=>by unfold reach; simp
 | l::fs,h=>by
  have ih:=fM (fs:=fs) λv hv=>h v (List.mem_cons_of_mem _ hv)
  obtain ⟨n,hn,h0⟩:=h l (by simp)
  obtain ⟨i,hi,e⟩:=List.mem_iff_getElem.mp hn
  have:=qT (one:=l) (k:=i) (v:=n) (by rw [List.getElem?_eq_getElem hi,e]) h0
  rw [me]
  omega
theorem Zbz {s:Shp} {z:Int} (h:-s.depth<=z):cK s z=s.day z 0:=by
 have e:s.nx z 0=z:=by
  rw [<- Zin,Int.sub_zero]
  unfold cx
  split <;> omega
 have:=Zmp s z 0
 rw [e] at this
 unfold cK
 rw [<- this,show z - z+0=0 by omega,Int.mul_zero,Int.add_zero]
theorem Zat {s:Shp} {d:Nat}:∀ (fs:List (List Int)) (x:Int) (way:List Int),(∀ l∈fs,DayB l/\∃ n∈l,n > 0)->(∀ a∈way,0<=a)->reach fs - s.depth<=x->fK s d fs x way=vR s (λz=>s.day z 0) d fs x way
 | [],x,way,_,_,_=>by rw [fK,vR]
 | day::rest,x,way,hf,hw,hx=>by
  have hf':∀ l∈rest,DayB l/\∃ n∈l,n > 0:=λl hl=>hf l (List.mem_cons_of_mem _ hl)
  have r0:=fM (fs:=rest) λl hl=>(hf' l hl).2
  have dd:=(hf day (by simp)).1
  rw [me] at hx
  have hh:0<=way.headD 0:=by
   cases e:way with
   | nil=>exact Int.le_refl 0
   | cons a l=>exact hw a (by rw [e]; simp)
  rw [fK,vR]
  refine ZcQ (λi=>?_) _
  congr 1
  refine oI λj n e hn=>?_
  have n0:=dd.w0 n (List.mem_of_getElem? e)
  have hg:=qT e (by omega)
  rw [Nat.zero_add]
  rw [Zbz (show -s.depth<=x+way.headD 0 - (j:Int) by omega)]
  rw [Zat rest (x+way.headD 0 - (j:Int)) _ hf' (λa ha=>by
   rcases List.mem_append.mp ha with q | q
   ·exact hw a (List.mem_of_mem_drop q)
   ·have:a=x+way.sum+(i:Int) - (x+way.sum):=by simpa using q
    omega) (by omega)]
theorem re (s:Shp) (fs:List (List Int)) (x:Int) (hl:∀ l∈fs,0 < l.length):∀ d:Nat,d<=fs.length->eR (λz=>s.day z 0) fs x (List.replicate d 0)=dk s fs x d
 | 0,_=>by rw [dk]; exact rc _ _ _
 | d+1,h=>by
  have es:(List.replicate d (0:Int)).sum=0:=by
   clear h
   induction d with
   | zero=>rfl
   | succ d ih=>rw [List.replicate_succ,List.sum_cons,ih]; rfl
  rw [List.replicate_succ',nR,re s fs x hl d (by omega),List.length_replicate,es,dk,ny s fs d _ hl (by omega),show x+0+0=x by omega]
theorem Zif {s:Shp} {fs:List (List Int)} (hf:FOk fs) {d:Nat} (d1:1<=d) (d2:d<=fs.length) {x:Int} (x1:reach fs - s.depth<=x) (x2:x<=s.top):fK s d fs x (List.replicate d 0)=ci s d fs x:=by
 have es:∀ d:Nat,(List.replicate d (0:Int)).sum=0:=λd=>by
  induction d with
  | zero=>rfl
  | succ d ih=>rw [List.replicate_succ,List.sum_cons,ih]; rfl
 have hl:∀ l∈fs,0 < l.length:=λl h=>(hf.P l h).2
 rw [Zat fs x _ hf.b (λa ha=>by rw [(List.mem_replicate.mp ha).2]; exact Int.le_refl 0) x1,Zas s _ d1 fs x _ (List.length_replicate ..),re s fs x hl d d2,es,Int.add_zero,rV fs hl x x2]
 unfold ci
 omega
end My
namespace My
open PySem PySem.Spec PyProof.Rows L2 Tw Bar
theorem bE (n:Int):di [.pen,.d (.int n)]=.draw n λr=>.ret (.d (.int r)):=rfl
theorem ZaR:∀ (a:List Int) (k m:Nat),bz k (a++List.replicate m 0)=bz k a
 | [],k,m=>by
  have key:∀ (m k:Nat),bz k (List.replicate m (0:Int))=[]:=by
   intro m
   induction m with
   | zero=>intro k; rfl
   | succ m ih=>intro k; rw [List.replicate_succ,bz,if_neg (by decide),ih]
  exact key m k
 | w::a,k,m=>by
  rw [List.cons_append,bz,bz,ZaR a (k+1) m]
theorem pd:∀ {l:List Int} {k:Nat} {x:Int},x∈bz k l->x < k+l.length
 | [],_,_,h=>by cases h
 | w::l,k,x,h=>by
  rw [List.length_cons]
  rw [bz] at h
  split at h
  ·rcases List.mem_cons.mp h with e | e
   ·omega
   ·have:=pd e; omega
  ·have:=pd h; omega
theorem Zhb:Al (mT [.pen,.d (.int 3)]) 11 λr=>∃ d,r=.d (tI d)/\DayOk 8 d/\great d<=2/\d.length<=6:=by
 simp_arith only [mT,bE]
 refine dL (n:=10) (by decide) (by decide) (by decide) λi i0 i1=>?_
 obtain ⟨be,hbe,be0,be1⟩:=qe (xs:=[PyData.int 0,.int 0,.int 1,.int 3]) (lo:=0) (hi:=3) (by simp [g6]) i0 i1
 simp_arith only [bE,hbe]
 refine dL (n:=9) (by decide) (by decide) (by decide) λj j0 j1=>?_
 obtain ⟨bo,hbo,bo0,bo1⟩:=qe (xs:=[PyData.int 2,.int 4,.int 20,.int 1001]) (lo:=2) (hi:=1001) (by simp [g6]) j0 j1
 simp_arith only [bE,hbo]
 refine dL (n:=8) (by omega) (by omega) (by decide) λc c0 c1=>?_
 have rr:dQ [.int c]=.ret (ba 0 c):=gC (dE (by omega) (by omega))
 have hs:small (ba 0 c).length=true:=ce (by rw [cO]; omega)
 simp_arith only [bE,rr,hs]
 refine gE (n:=7) (n':=1) (n8 (n:=1) (P:=g6 0 1000) (Q:=λys=>∃ ps:List Int,ys=ps.map PyData.int/\ps.length=c.toNat/\∀ p∈ps,0<=p/\p<=1000) (by rw [cO]; omega) (λx hx=>?_) λys hl hys=>?_) (by decide) ?_
 ·simp_arith only [Zcg,bE]
  refine dL (n:=0) (by omega) (by omega) (by decide) λv v0 v1=>?_
  try simp_arith only [bE]
  exact dJ ⟨v,rfl,v0,by omega⟩
 ·obtain ⟨ns,e,hn⟩:=nF hys
  refine ⟨ns,e,?_,hn⟩
  rw [e,List.length_map,cO] at hl
  omega
 ·rintro _ ⟨ps,rfl,hl,hb⟩
  try simp_arith only [bE]
  refine dL (n:=0) (by omega) (by omega) (by decide) λw w0 w1=>?_
  have hmul:aQ bu (.list [.int 0]) (.int be)=.ret (.list ((List.replicate be.toNat (0:Int)).map PyData.int)):=by
   have:be=0\/be=1\/be=2\/be=3:=by omega
   rcases this with rfl | rfl | rfl | rfl <;> rfl
  have e2:aQ aP (.list (ps.map PyData.int)) (.list [.int (1+w)])=.ret (.list (ps.map PyData.int++[.int (1+w)])):=q9 (ce (by rw [List.length_map]; show ps.length+1<=_; omega))
  have e3:aQ aP (.list (ps.map PyData.int++[.int (1+w)])) (.list ((List.replicate be.toNat (0:Int)).map PyData.int))=.ret (.list (ps.map PyData.int++[.int (1+w)]++(List.replicate be.toNat (0:Int)).map PyData.int)):=q9 (ce (by rw [List.length_append,List.length_map,List.length_map,List.length_replicate]; show ps.length+1+_<=_; omega))
  have e4:ps.map PyData.int++[PyData.int (1+w)]++(List.replicate be.toNat (0:Int)).map PyData.int=(ps++[1+w]++List.replicate be.toNat 0).map PyData.int:=by rw [List.map_append,List.map_append]; rfl
  simp_arith only [bE,hmul,e2,e3,e4]
  refine dJ ⟨ps++[1+w]++List.replicate be.toNat 0,rfl,?_,?_,by simp; omega⟩
  ·refine ⟨by simp; omega,⟨1+w,by simp,by omega⟩,λn hn=>?_⟩
   simp only [List.mem_append,List.mem_singleton,List.mem_replicate] at hn
   rcases hn with (hn | rfl) | ⟨-,rfl⟩
   ·have:=hb n hn; omega
   ·omega
   ·omega
  ·have hne:=lQ (k:=0) (ns:=ps++[1+w]++List.replicate be.toNat 0) ⟨1+w,by simp,by omega⟩
   have hm:=(iy hne).1
   have hg:great (ps++[1+w]++List.replicate be.toNat 0)∈bz 0 (ps++[1+w]++List.replicate be.toNat 0):=hm
   rw [ZaR (ps++[1+w]) 0] at hg
   have hlt:=pd hg
   rw [List.length_append] at hlt
   have hlt:great (ps++[1+w]++List.replicate be.toNat 0) < ((0:Nat):Int)+((ps.length+1:Nat):Int):=hlt
   omega
theorem Zha:Al (mR [.pen]) 10 λr=>∃ ps:List Int,r=.d (tI ps)/\ps.length=7/\∀ p∈ps,0<=p/\p<=1000000:=by
 have pw:aQ gm (.int 10) (.int 6)=.ret (.int 1000000):=rfl
 have pa:(1000000:Int)+1=1000001:=rfl
 simp_arith only [mR,bE,pw,pa]
 refine dL (n:=9) (by decide) (by decide) (by decide) λi i0 i1=>?_
 obtain ⟨bo,hbo,bo0,bo1⟩:=qe (xs:=[PyData.int 3,.int 10,.int 60,.int 1000001]) (lo:=3) (hi:=1000001) (by simp [g6]) i0 i1
 have r7:dQ [.int 7]=.ret (ba 0 7):=gC (dE (by decide) (by decide))
 have hs:small (ba 0 7).length=true:=ce (by rw [cO]; decide)
 simp_arith only [bE,hbo,r7,hs]
 refine gE (n:=7) (n':=2) (n8 (n:=1) (P:=g6 0 1000000) (Q:=λys=>∃ ps:List Int,ys=ps.map PyData.int/\ps.length=7/\∀ p∈ps,0<=p/\p<=1000000) (by rw [cO]; decide) (λx hx=>?_) λys hl hys=>?_) (by decide) ?_
 ·simp_arith only [Zcf,bE]
  refine dL (n:=0) (by omega) (by omega) (by decide) λv v0 v1=>?_
  try simp_arith only [bE]
  exact dJ ⟨v,rfl,v0,by omega⟩
 ·obtain ⟨ns,e,hn⟩:=nF hys
  refine ⟨ns,e,?_,hn⟩
  rw [e,List.length_map,cO] at hl
  exact hl
 ·rintro _ ⟨ps,rfl,hl,hb⟩
  obtain ⟨p2,p3,p4,p5,p6,p7,p8,rfl⟩:=ZcZ hl
  have hp5:=hb p5 (by simp)
  have b2:=hb p2 (by simp)
  have b3:=hb p3 (by simp)
  have b4:=hb p4 (by simp)
  have b6:=hb p6 (by simp)
  have b7:=hb p7 (by simp)
  have b8:=hb p8 (by simp)
  have f5:fit p5=true:=aD (k:=40) (bR (by show -1099511627776 < _; omega) (by show _ < 1099511627776; omega)) (by decide)
  have f53:fit (p5 * 3)=true:=aD (k:=40) (bR (by show -1099511627776 < _; omega) (by show _ < 1099511627776; omega)) (by decide)
  have i0:∀ a b c d e f g:PyData,L2.cV [a,b,c,d,e,f,g].length 0=some 0:=λ_ _ _ _ _ _ _=>rfl
  have i3:∀ a b c d e f g:PyData,L2.cV [a,b,c,d,e,f,g].length 3=some 3:=λ_ _ _ _ _ _ _=>rfl
  have hmod:aQ fy (.int (p5 * 3)) (.int 1000001)=.ret (.int (p5 * 3 % 1000001)):=by rw [ju (by decide),Int.fmod_eq_emod_of_nonneg _ (by decide)]
  have m0:=Int.emod_nonneg (p5 * 3) (show (1000001:Int)≠0 by decide)
  have m1:=Int.emod_lt_of_pos (p5 * 3) (show (0:Int) < 1000001 by decide)
  have f3:fit (3:Int)=true:=aD (k:=40) (bR (by show -1099511627776 < (3:Int); omega) (by show (3:Int) < 1099511627776; omega)) (by decide)
  try simp_arith only [bE]
  refine dL (n:=1) (by decide) (by decide) (by decide) λa a0 a1=>?_
  cases ha:(a == 0)
  ·simp_arith only [bE,ha]
   refine dL (n:=0) (by decide) (by decide) (by decide) λc c0 c1=>?_
   cases hc:(c == 0)
   ·simp_arith only [bE,hc]
    exact dJ ⟨[p2,p3,p4,p5,p6,p7,p8],rfl,rfl,λp hp=>by have:=hb p hp; omega⟩
   ·simp_arith only [bE,hc,f5,f3,hmod,nN (i3 _ _ _ _ _ _ _)]
    exact dJ ⟨[p2,p3,p4,p5 * 3 % 1000001,p6,p7,p8],rfl,rfl,λp hp=>by
     clear hb
     simp only [List.mem_cons,List.not_mem_nil,or_false] at hp
     rcases hp with rfl | rfl | rfl | rfl | rfl | rfl | rfl <;> omega⟩
  ·simp_arith only [bE,ha,nN (i0 _ _ _ _ _ _ _)]
   refine dL (n:=0) (by decide) (by decide) (by decide) λc c0 c1=>?_
   cases hc:(c == 0)
   ·simp_arith only [bE,hc]
    exact dJ ⟨[0,p3,p4,p5,p6,p7,p8],rfl,rfl,λp hp=>by
     clear hb
     simp only [List.mem_cons,List.not_mem_nil,or_false] at hp
     rcases hp with rfl | rfl | rfl | rfl | rfl | rfl | rfl <;> omega⟩
   ·simp_arith only [bE,hc,f5,f3,hmod,nN (i3 _ _ _ _ _ _ _)]
    exact dJ ⟨[0,p3,p4,p5 * 3 % 1000001,p6,p7,p8],rfl,rfl,λp hp=>by
     clear hb
     simp only [List.mem_cons,List.not_mem_nil,or_false] at hp
     rcases hp with rfl | rfl | rfl | rfl | rfl | rfl | rfl <;> omega⟩
theorem ZgS (ls:List Int) (hl:ls.length<=100):cL (fB (af 0) kj j8 [.un,.d (tI ls)]) (ba 0 (ls.length:Int))=.ret ((bz 0 ls).map PyData.int):=by
 have hmap:=ZcM (h:=fB (af 0) kj j8 [.un,.d (tI ls)]) (F:=λq=>.int q.1) ls 0 λi v hv=>by
  have e0:((0:Nat):Int)+(i:Int)=i:=by omega
  rw [e0]
  have hat:aQ aO (tI ls) (.int i)=.ret (.int v):=by
   unfold tI
   rw [dW,fW (v:=.int v) (by omega) (by rw [Int.toNat_natCast,List.getElem?_map,hv]; rfl)]
   rfl
  by_cases h:v > 0
  ·simp_arith only [kj,j8,hat,decide_eq_true h,if_pos h]
  ·simp_arith only [kj,j8,hat,decide_eq_false h,if_neg h]
 have z:((0:Nat):Int)+(ls.length:Int)=(ls.length:Int):=by omega
 rw [z] at hmap
 rw [<- lT]
 exact hmap
theorem Zd1 {fs:List (List Int)} (hf:∀ l∈fs,DayOk 8 l) (hl:fs.length<=100):kH [.d (fD fs)]=.ret (.d (.int (reach fs))):=by
 have hq:∀ l∈fs,c9 (af 0) qb [.un] (tI l)=.ret (.int (great l)):=λl hm=>by
  have hlen:=(hf l hm).len
  have hln:bF cP [tI l]=.ret (.int l.length):=by unfold tI; rw [kX,List.length_map]
  have r1:dQ [.int (l.length:Int)]=.ret (ba 0 (l.length:Int)):=gC (dE (by omega) (by omega))
  have hs:small (ba 0 (l.length:Int)).length=true:=ce (by rw [cO]; omega)
  have h1:=ZgS l (by omega)
  have h2:=ZcJ (hf l hm).pos
  rw [qE]
  simp_arith only [qb,hln,r1,hs,h1,h2]
 have hm:=qx hq
 have hs:small (fs.map tI).length=true:=ce (by rw [List.length_map]; omega)
 have er:(List.map great fs).sum=reach fs:=rfl
 simp_arith only [kH,kR,hs,hm,er]
noncomputable def mw (s:Shp):List Int:=[s.start,s.piece,s.keep,s.lack,s.lost,s.back,s.late]
structure Ask (s:Shp) (fs:List (List Int)) (x:Int):Prop where
 days:∀ l∈fs,DayOk 8 l
 l2:2<=fs.length
 l6:fs.length<=6
 t0:0<=s.top
 tr:s.top+reach fs<=50
 dep:reach fs<=s.depth/\s.depth<=reach fs+2
 x1:reach fs - s.depth<=x
 x2:x<=s.top
 ps:∀ p∈mw s,0<=p/\p<=1000000
 t5:s.top<=5
 l4:fs.length<=4
 d6:∀ l∈fs,l.length<=6
theorem ok_of {s:Shp} {k:Int} (k0:0<=k) (k1:k<=10000000000) (t0:0<=s.top) (d0:0<=s.depth) (td:s.top+s.depth<=100) (ps:∀ p∈mw s,0<=p/\p<=k):s.Ok:=by
 have nbp:∀ p∈mw s,nb 45 p:=λp hp=>by
  have:=ps p hp
  exact bR (by show -35184372088832 < _; omega) (by show _ < 35184372088832; omega)
 unfold mw at *
 exact ⟨t0,d0,td,(ps s.start (by simp)).1,nbp _ (by simp),nbp _ (by simp),nbp _ (by simp),nbp _ (by simp),nbp _ (by simp),nbp _ (by simp),nbp _ (by simp)⟩
theorem Ask.f {s:Shp} {fs:List (List Int)} {x:Int} (h:Ask s fs x):FOk fs:=⟨λl hl=>⟨(h.days l hl).B (by decide),(h.days l hl).pos⟩,h.l6⟩
theorem Ask.r {s:Shp} {fs:List (List Int)} {x:Int} (h:Ask s fs x):0<=reach fs:=fM λl hl=>(h.days l hl).pos
theorem Ask.ok {s:Shp} {fs:List (List Int)} {x:Int} (h:Ask s fs x):s.Ok:=by
 have r:=h.r
 have:=h.dep
 have:=h.t0
 have:=h.tr
 exact ok_of (k:=1000000) (by decide) (by decide) h.t0 (by omega) (by omega) h.ps
noncomputable def Zdk (v:PyData):Prop:=∃ d,v=tI d/\DayOk 8 d/\great d<=2/\d.length<=6
theorem Zet:∀ {xs:List PyData},(∀ v∈xs,Zdk v)->∃ fs:List (List Int),xs=fs.map tI/\∀ l∈fs,DayOk 8 l/\great l<=2/\l.length<=6
 | [],_=>⟨[],rfl,λ_ q=>nomatch q⟩
 | v::xs,h=>by
  obtain ⟨d,rfl,hd⟩:=h v (by simp)
  obtain ⟨fs,rfl,hf⟩:=Zet (xs:=xs) λq hq=>h q (List.mem_cons_of_mem _ hq)
  refine ⟨d::fs,rfl,λl hl=>?_⟩
  rcases List.mem_cons.mp hl with rfl | hl
  ·exact hd
  ·exact hf l hl
theorem ZbO {k:Int}:∀ {fs:List (List Int)},(∀ l∈fs,great l<=k)->reach fs<=k * fs.length
 | [],_=>by show (0:Int)<=k * ((0:Nat):Int); rw [Int.natCast_zero,Int.mul_zero]; decide
 | d::fs,h=>by
  have ih:=ZbO (fs:=fs) λl hl=>h l (List.mem_cons_of_mem _ hl)
  have h1:=h d (by simp)
  rw [me,List.length_cons,show ((fs.length+1:Nat):Int)=(fs.length:Int)+1 by omega,Int.mul_add,Int.mul_one]
  omega
theorem Zhc:Al (mU [.pen]) 90 λr=>∃ (s:Shp) (fs:List (List Int)) (x:Int),r=.d (.tuple [s.d,fD fs,.int x])/\Ask s fs x:=by
 simp_arith only [mU,bE]
 refine dL (n:=89) (by decide) (by decide) (by decide) λa a0 a1=>?_
 have rr:dQ [.int (2+a)]=.ret (ba 0 (2+a)):=gC (dE (by omega) (by omega))
 have hs:small (ba 0 (2+a)).length=true:=ce (by rw [cO]; omega)
 simp_arith only [bE,rr,hs]
 refine gE (n:=44) (n':=45) (n8 (n:=11) (P:=Zdk) (Q:=λys=>∃ fs:List (List Int),ys=fs.map tI/\(fs.length:Int)=2+a/\∀ l∈fs,DayOk 8 l/\great l<=2/\l.length<=6) (by rw [cO]; omega) (λx hx=>?_) λys hl hys=>?_) (by decide) ?_
 ·simp_arith only [Zch,bE]
  refine gE (n':=0) Zhb (by decide) ?_
  rintro _ ⟨d,rfl,hd⟩
  simp_arith only [bE]
  exact dJ ⟨d,rfl,hd⟩
 ·obtain ⟨fs,rfl,hf⟩:=Zet hys
  rw [List.length_map,cO] at hl
  exact ⟨fs,rfl,by omega,hf⟩
 ·rintro _ ⟨fs,rfl,hl,hd⟩
  have hfD:PyData.tuple (fs.map tI)=fD fs:=rfl
  have r0:0<=reach fs:=fM λl hl=>(hd l hl).1.pos
  have rm:=ZbO (k:=2) λl hl=>(hd l hl).2.1
  rw [hl] at rm
  simp_arith only [bE,hfD]
  refine dL (n:=19) (by decide) (by decide) (by decide) λmo mo0 mo1=>?_
  try simp_arith only [bE]
  refine dL (n:=18) (by decide) (by decide) (by decide) λtp tp0 tp1=>?_
  have eg:=Zd1 (λl hl=>(hd l hl).1) (by omega)
  simp_arith only [bE,eg]
  refine dL (n:=17) (by omega) (by omega) (by decide) λst st0 st1=>?_
  try simp_arith only [bE]
  refine gE (n:=10) (n':=0) Zha (by decide) ?_
  rintro _ ⟨ps,rfl,hl7,hp⟩
  obtain ⟨p2,p3,p4,p5,p6,p7,p8,rfl⟩:=ZcZ hl7
  simp_arith only [tI,bE]
  refine dJ ⟨⟨tp,reach fs+mo,p2,p3,p4,p5,p6,p7,p8⟩,fs,st - mo,by rw [<- ZgG],⟨λl hl=>(hd l hl).1,by omega,by omega,tp0,?_,⟨?_,?_⟩,?_,?_,hp,?_,by omega,λl hl=>(hd l hl).2.2⟩⟩
  ·show tp+reach fs<=50; omega
  ·show reach fs<=reach fs+mo; omega
  ·show reach fs+mo<=reach fs+2; omega
  ·show reach fs - (reach fs+mo)<=st - mo; omega
  ·show st - mo<=tp; omega
  ·show tp<=5; omega
end My
namespace My
open PySem PySem.Spec PyProof.Rows L2 Tw
section
variable (s:Shp) (W:Nat->Int->List Int->Int) (d:Nat)
noncomputable def bA (n t:Nat) (c:Int) (past:List Int):Int:=if d < n then W t c past else c
noncomputable def cW:List (List Int)->Nat->List Int->Int->List Int->Int
 | [],_,_,x,way=>fT s (x+way.sum)
 | day::rest,t,past,x,way=>bC s (bA W d (day::rest).length t (x+way.sum) past - (x+way.sum)) * bM (day::rest)+ws (λf=>cK s (x+way.headD 0 - f) * bM rest+cW rest (t+1) (past++[f]) (x+way.headD 0 - f) (way.drop 1++[bA W d (day::rest).length t (x+way.sum) past - (x+way.sum)])) 0 day
end
theorem o4 (x f:Int) (way:List Int) (y:Int):x+way.headD 0 - f+(way.drop 1++[y - (x+way.sum)]).sum=y - f:=by
 have:=Zjm way
 rw [List.sum_append,show [y - (x+way.sum)].sum=y - (x+way.sum) by simp]
 omega
theorem ZeV {s:Shp} {W:Nat->Int->List Int->Int} {d:Nat} (hW:∀ t c past,c<=s.top->c<=W t c past/\W t c past<=s.top):∀ (fs:List (List Int)) (t:Nat) (past:List Int) (x:Int) (way:List Int),(∀ l∈fs,∀ w∈l,0<=w)->x+way.sum<=s.top->fK s d fs x way<=cW s W d fs t past x way
 | [],t,past,x,way,_,_=>by rw [fK,cW]; exact Int.le_refl _
 | day::rest,t,past,x,way,hf,hx=>by
  have key:∀ y,x+way.sum<=y->y<=s.top->bC s (y - (x+way.sum)) * bM (day::rest)+ws (λf=>cK s (x+way.headD 0 - f) * bM rest+fK s d rest (x+way.headD 0 - f) (way.drop 1++[y - (x+way.sum)])) 0 day<=bC s (y - (x+way.sum)) * bM (day::rest)+ws (λf=>cK s (x+way.headD 0 - f) * bM rest+cW s W d rest (t+1) (past++[f]) (x+way.headD 0 - f) (way.drop 1++[y - (x+way.sum)])) 0 day:=λy y1 y2=>by
   refine Int.add_le_add_left (Zai (hf day (by simp)) λf f0=>?_) _
   exact Int.add_le_add_left (ZeV hW rest (t+1) (past++[f]) _ _ (λl hl=>hf l (List.mem_cons_of_mem _ hl)) (by rw [o4]; omega)) _
  rw [fK,cW]
  unfold bA
  by_cases hd:d < (day::rest).length
  ·rw [if_pos hd,if_pos hd]
   obtain ⟨y1,y2⟩:=hW t (x+way.sum) past hx
   generalize W t (x+way.sum) past=y at *
   have:=qy (λy=>bC s (y - (x+way.sum)) * bM (day::rest)+ws (λf=>cK s (x+way.headD 0 - f) * bM rest+fK s d rest (x+way.headD 0 - f) (way.drop 1++[y - (x+way.sum)])) 0 day) (x+way.sum) (s.top - (x+way.sum)).toNat (y - (x+way.sum)).toNat (by omega)
   rw [show x+way.sum+(((y - (x+way.sum)).toNat:Nat):Int)=y by omega] at this
   exact Int.le_trans this (key y y1 y2)
  ·rw [if_neg hd,if_neg hd,cD]
   exact key _ (Int.le_refl _) hx
theorem Zm5 {g:Int->Int} {top K P x:Int} (hx:x<=top):cst g top K P x=g (lvl g top K x)+(if x < lvl g top K x then K else 0) - P * x:=by
 obtain ⟨a,b,c⟩:=ip (g:=g) (K:=K) hx
 unfold cst lvl
 rcases c with ⟨c1,c2⟩ | ⟨c1,c2,c3⟩
 ·rw [c2,c1,if_neg (by omega)]
  omega
 ·rw [c2,if_pos c1]
  omega
theorem Zf7 {s:Shp} {d:Nat} {day:List Int} {rest:List (List Int)} (hl:∀ l∈day::rest,0 < l.length) {c:Int} (hc:c<=s.top) :
  bC s (bA (λ_ c _=>aL s d (day::rest) c) d (day::rest).length 0 c [] - c) * bM (day::rest)+(lE (λz=>s.day z 0) (day::rest) d (bA (λ_ c _=>aL s d (day::rest) c) d (day::rest).length 0 c [])+ws (λf=>aF s d rest (bA (λ_ c _=>aL s d (day::rest) c) d (day::rest).length 0 c [] - f)) 0 day)=aF s d (day::rest) c:=by
 unfold bA
 by_cases hd:d < (day::rest).length
 ·have hd':d<=rest.length:=by rw [List.length_cons] at hd; omega
  rw [if_pos hd,rY hd',Zm5 hc]
  show bC s (lvl (csm s d (day::rest) (aF s d rest)) s.top (prd (day::rest) * s.start) c - c) * bM (day::rest)+(lE (λz=>s.day z 0) (day::rest) d (lvl (csm s d (day::rest) (aF s d rest)) s.top (prd (day::rest) * s.start) c)+ws (λf=>aF s d rest (lvl (csm s d (day::rest) (aF s d rest)) s.top (prd (day::rest) * s.start) c - f)) 0 day)=_
  have y1:=(ip (g:=csm s d (day::rest) (aF s d rest)) (K:=prd (day::rest) * s.start) hc).1
  have y1:c<=lvl (csm s d (day::rest) (aF s d rest)) s.top (prd (day::rest) * s.start) c:=y1
  generalize lvl (csm s d (day::rest) (aF s d rest)) s.top (prd (day::rest) * s.start) c=y at *
  rw [ny s _ _ _ hl hd,jD]
  have ec:csm s d (day::rest) (aF s d rest) y=prd (day::rest) * s.piece * y+prd ((day::rest).drop (d+1)) * ws (λf=>s.day y f) 0 (cb ((day::rest).take (d+1)))+ws (λf=>aF s d rest (y - f)) 0 day:=rfl
  rw [ec]
  generalize prd (day::rest)=p
  generalize prd ((day::rest).drop (d+1)) * ws (λf=>s.day y f) 0 (cb ((day::rest).take (d+1)))=A
  generalize ws (λf=>aF s d rest (y - f)) 0 day=B
  unfold bC
  by_cases q:c < y
  ·rw [if_pos q,if_pos (by omega)]; grind
  ·have:y=c:=by omega
   rw [if_neg q,if_neg (by omega),this]; grind
 ·have hd':(day::rest).length<=d:=by omega
  rw [if_neg hd,ll hd',qJ _ _ _ _ hd']
  rw [List.length_cons] at hd'
  have e0:bC s (c - c)=0:=by unfold bC; rw [if_neg (by omega)]
  rw [e0,Int.zero_mul,Int.zero_add,Int.zero_add]
  unfold dX
  rw [lJ hl]
  refine c7 λf _=>?_
  rw [ll (by omega)]
  unfold dX
  have:(λj=>s.fin (c - f - j))=λj=>s.fin (c - (f+j)):=funext λj=>by rw [show c - f - j=c - (f+j) by omega]
  rw [this]
theorem ZeT {s:Shp} {d:Nat} (hd:1<=d) {fs0:List (List Int)}:∀ (fs:List (List Int)) (t:Nat) (past:List Int) (x:Int) (way:List Int),fs0.drop t=fs->(∀ l∈fs,DayB l/\∃ n∈l,n > 0)->(∀ a∈way,0<=a)->way.length=d->reach fs - s.depth<=x->x+way.sum<=s.top ->
  cW s (λt c _=>aL s d (fs0.drop t) c) d fs t past x way=eR (λz=>s.day z 0) fs x way+aF s d fs (x+way.sum)
 | [],t,past,x,way,_,_,_,_,_,hx=>by
  have e:=rV (s:=s) (d:=d) [] (λl q=>by cases q) (x+way.sum) hx
  rw [aR] at e
  rw [cW,e]
  have:eR (λz=>s.day z 0) [] x way=0:=by cases way <;> rfl
  omega
 | day::rest,t,past,x,[],_,_,_,hw,_,_=>by
  have:(0:Nat)=d:=hw
  omega
 | day::rest,t,past,x,a::l,e0,hf,h0,hw,hr,hx=>by
  have hw':l.length+1=d:=hw
  have hf':∀ l∈rest,DayB l/\∃ n∈l,n > 0:=λl hl=>hf l (List.mem_cons_of_mem _ hl)
  have hl:∀ l∈day::rest,0 < l.length:=λl hl=>by
   obtain ⟨n,hn,-⟩:=(hf l hl).2
   exact List.length_pos_of_mem hn
  have dd:=(hf day (by simp)).1
  have a0:0<=a:=h0 a (by simp)
  have e1:fs0.drop (t+1)=rest:=by rw [<- List.tail_drop,e0]; rfl
  rw [me] at hr
  have tl:=Zf7 (s:=s) (d:=d) hl hx
  have ey:bA (λ_ c _=>aL s d (day::rest) c) d (day::rest).length 0 (x+(a::l).sum) []=bA (λt c _=>aL s d (fs0.drop t) c) d (day::rest).length t (x+(a::l).sum) past:=by
   unfold bA
   show (if _ then aL s d (day::rest) _ else _)=if _ then aL s d (fs0.drop t) _ else _
   rw [e0]
  rw [ey] at tl
  have yb:x+(a::l).sum<=bA (λt c _=>aL s d (fs0.drop t) c) d (day::rest).length t (x+(a::l).sum) past/\bA (λt c _=>aL s d (fs0.drop t) c) d (day::rest).length t (x+(a::l).sum) past<=s.top:=by
   unfold bA
   split
   ·show _<=aL s d (fs0.drop t) _/\aL s d (fs0.drop t) _<=_
    rw [e0]
    have:=ip (g:=csm s d (day::rest) (aF s d rest)) (K:=prd (day::rest) * s.start) hx
    exact ⟨this.1,this.2.1⟩
   ·exact ⟨Int.le_refl _,hx⟩
  rw [cW,eR,<- tl]
  generalize bA (λt c _=>aL s d (fs0.drop t) c) d (day::rest).length t (x+(a::l).sum) past=y at *
  have key:ws (λf=>cK s (x+(a::l).headD 0 - f) * bM rest+cW s (λt c _=>aL s d (fs0.drop t) c) d rest (t+1) (past++[f]) (x+(a::l).headD 0 - f) ((a::l).drop 1++[y - (x+(a::l).sum)])) 0 day=ws (λf=>s.day (x+a - f) 0 * bM rest+eR (λz=>s.day z 0) rest (x+a - f) l) 0 day+(lE (λz=>s.day z 0) (day::rest) d y+ws (λf=>aF s d rest (y - f)) 0 day):=by
   have el:lE (λz=>s.day z 0) (day::rest) d y=ws (λf=>lE (λz=>s.day z 0) rest l.length (y - f)) 0 day:=by rw [<- hw']; rfl
   rw [el,<- gI,<- gI]
   refine oI λj n ej hn=>?_
   have n0:=dd.w0 n (List.mem_of_getElem? ej)
   have hg:=qT ej (by omega)
   rw [Nat.zero_add]
   show cK s (x+a - (j:Int)) * bM rest+cW s (λt c _=>aL s d (fs0.drop t) c) d rest (t+1) (past++[(j:Int)]) (x+a - (j:Int)) (l++[y - (x+(a::l).sum)])=_
   have r0:=fM (fs:=rest) λl hl=>(hf' l hl).2
   have es:=o4 x (j:Int) (a::l) y
   have es:x+a - (j:Int)+(l++[y - (x+(a::l).sum)]).sum=y - (j:Int):=es
   rw [Zbz (show -s.depth<=x+a - (j:Int) by omega)]
   rw [ZeT hd rest (t+1) (past++[(j:Int)]) (x+a - (j:Int)) (l++[y - (x+(a::l).sum)]) e1 hf' (λb hb=>by
    rcases List.mem_append.mp hb with q | q
    ·exact h0 b (List.mem_cons_of_mem _ q)
    ·have:b=y - (x+(a::l).sum):=by simpa using q
     omega) (by rw [List.length_append]; exact hw') (by omega) (by rw [es]; omega),es,nR]
   have e2:x+a - (j:Int)+l.sum+(y - (x+(a::l).sum))=y - (j:Int):=by rw [List.sum_cons]; omega
   rw [e2]
   omega
  rw [key]
  omega
theorem Zf6 {s:Shp} {fs:List (List Int)} (hf:FOk fs) {d:Nat} (d1:1<=d) (d2:d<=fs.length) {x:Int} (x1:reach fs - s.depth<=x) (x2:x<=s.top):cW s (λt c _=>aL s d (fs.drop t) c) d fs 0 [] x (List.replicate d 0)=ci s d fs x:=by
 have es:∀ d:Nat,(List.replicate d (0:Int)).sum=0:=λd=>by
  induction d with
  | zero=>rfl
  | succ d ih=>rw [List.replicate_succ,List.sum_cons,ih]; rfl
 have hl:∀ l∈fs,0 < l.length:=λl h=>(hf.P l h).2
 rw [ZeT d1 fs 0 [] x _ rfl hf.b (λa ha=>by rw [(List.mem_replicate.mp ha).2]; exact Int.le_refl 0) (List.length_replicate ..) x1 (by rw [es,Int.add_zero]; exact x2),re s fs x hl d d2,es,Int.add_zero]
 unfold ci
 omega
noncomputable def pf (xs:List PyData) (lo hi:Option Int):Tr PyData:=.ret (.list (dG xs lo hi))
noncomputable def pg (q:c6) (ρ:List Sl) (xs:List PyData) (lo:Option Int):Tr PyData:=(q ρ).bind (pf xs lo)
noncomputable def ZaU (p q:c6) (ρ:List Sl) (xs:List PyData):Tr PyData:=(p ρ).bind (pg q ρ xs)
theorem ZdG {k:Nat} {p q:c6} {ρ:List Sl}:lh k p q ρ=(fw k ρ).bind (ZaU p q ρ):=by
 unfold lh
 rw [<- jc k ρ]
 cases ρ[k]? with
 | none=>rfl
 | some sl=>cases sl <;> rfl
theorem ZdF {p q:c6} {ρ:List Sl} {xs:List PyData}:ZaU p q ρ xs=(p ρ).bind (pg q ρ xs):=rfl
theorem ZdE {q:c6} {ρ:List Sl} {xs:List PyData} {lo:Option Int}:pg q ρ xs lo=(q ρ).bind (pf xs lo):=rfl
theorem ZdD {xs:List PyData} {lo hi:Option Int}:pf xs lo hi=.ret (.list (dG xs lo hi)):=rfl
noncomputable def wy (F:List PyData->Option Int) (xs:List PyData):Tr PyData:=Tr.of ((F xs).map PyData.int)
theorem ZjN {F:List PyData->Option Int} {i:List Sl->Tr (List PyData)} {a b c d:Sl} {ρ:List Sl}:og F 4 i (a::b::c::d::.pen::ρ)=(i (a::b::c::d::.pen::ρ)).bind (wy F):=rfl
theorem ZjO {F:List PyData->Option Int} {xs:List PyData} {n:Int} (h:F xs=some n):wy F xs=.ret (.int n):=by unfold wy; rw [h]; rfl
section
variable (s:Shp) (W:Nat->Int->List Int->Int) (d:Nat)
noncomputable def wk:List Int->Nat->List Int->Int->List Int->Int
 | [],_,_,x,way=>fT s (x+way.sum)
 | f::row,t,past,x,way=>bC s (bA W d (f::row).length t (x+way.sum) past - (x+way.sum))+cK s (x+way.headD 0 - f)+wk row (t+1) (past++[f]) (x+way.headD 0 - f) (way.drop 1++[bA W d (f::row).length t (x+way.sum) past - (x+way.sum)])
end
structure Cg (n d t:Nat) (cs way:List Int):Prop where
 len:cs.length=n+d
 wl:way.length=d
 dr:cs.drop t=way++List.replicate (n - t) 0
 en:cs.drop n=List.replicate d 0
theorem lO (k:Nat):(List.replicate k (0:Int)).sum=0:=by
 induction k with
 | zero=>rfl
 | succ k ih=>rw [List.replicate_succ,List.sum_cons,ih]; rfl
theorem Cg.step0 {n d t:Nat} {cs:List Int} {a:Int} {l:List Int} (h:Cg n d t cs (a::l)) (ht:t < n):Cg n d (t+1) cs (l++[0]):=by
 refine ⟨h.len,?_,?_,h.en⟩
 ·have:=h.wl
  rw [List.length_append]
  exact this
 ·have e:cs.drop (t+1)=(cs.drop t).tail:=by rw [List.tail_drop]
  rw [e,h.dr,List.cons_append,List.tail_cons,List.append_assoc]
  congr 1
  rw [show n - t=(n - (t+1))+1 by omega,List.replicate_succ]
  rfl
theorem Cg.step1 {n d t:Nat} {cs:List Int} {a:Int} {l:List Int} (h:Cg n d t cs (a::l)) (ht:t+d < n) (o:Int):Cg n d (t+1) (cs.set (t+d) o) (l++[o]):=by
 have hw:l.length+1=d:=h.wl
 refine ⟨by rw [List.length_set]; exact h.len,by rw [List.length_append]; exact hw,?_,?_⟩
 ·have e:(cs.set (t+d) o).drop (t+1)=(cs.drop (t+1)).set (d - 1) o:=by
   rw [List.drop_set,if_neg (by omega)]
   congr 1
   omega
  have e2:cs.drop (t+1)=(cs.drop t).tail:=by rw [List.tail_drop]
  rw [e,e2,h.dr,List.cons_append,List.tail_cons,List.set_append_right _ _ (by omega),List.append_assoc]
  congr 1
  rw [show n - t=(n - (t+1))+1 by omega,List.replicate_succ,show d - 1 - l.length=0 by omega]
  rfl
 ·rw [List.drop_set,if_pos (by omega)]
  exact h.en
theorem ZfL {s:Shp} (h:s.Ok) (t5:s.top<=100) {F:List PyData->Option Int} {W:Nat->Int->List Int->Int} {d n:Nat} {row:List Int} (hn:row.length=n) (n9:n<=50) (d9:d<=50) {t:Nat} {f:Int} (hf:row[t]?=some f) (f0:0<=f) (f1:f<=100) {cs:List Int} {a:Int} {l:List Int} (cg:Cg n d t cs (a::l)) {x paid:Int} (xl:-1000<=x) (hx:x+(a::l).sum<=s.top) (w0:∀ b∈a::l,0<=b)
  (hF:t+d < n->F [.int t,.int (x+(a::l).sum),tI (row.take t)]=some (W t (x+(a::l).sum) (row.take t))) (hW:t+d < n->x+(a::l).sum<=W t (x+(a::l).sum) (row.take t)/\W t (x+(a::l).sum) (row.take t)<=s.top) (X2 J9:Sl) :
  ∃ (cs':List Int) (K9:Sl),Cg n d (t+1) cs' (l++[bA W d (n - t) t (x+(a::l).sum) (row.take t) - (x+(a::l).sum)])/\kP F [.d s.d,.d (.int d),X2,.d (tI row),.pen,.own (cs.map PyData.int),.d (.int x),.d (.int paid),.d (.int t),J9]=.ret (.next [.d s.d,.d (.int d),X2,.d (tI row),.pen,.own (cs'.map PyData.int),.d (.int (x+a - f)),.d (.int (paid+(bC s (bA W d (n - t) t (x+(a::l).sum) (row.take t) - (x+(a::l).sum))+cK s (x+a - f)))),.d (.int t),K9]):=by
 have ht:t < n:=by rw [<- hn]; exact (List.getElem?_eq_some_iff.mp hf).1
 have hw:l.length+1=d:=cg.wl
 have hcl:=cg.len
 have a1:bb (cs.map PyData.int) (t:Int)=some (.int a):=by
  refine fW (by omega) ?_
  rw [Int.toNat_natCast,List.getElem?_map]
  have:cs[t]?=some a:=by
   have:=congrArg (λz=>z[0]?) cg.dr
   simpa using this
  rw [this]
  rfl
 have a2:L2.dG (cs.map PyData.int) (some ((t:Int)+1)) none=(l++List.replicate (n - t) 0).map PyData.int:=by
  unfold L2.dG
  have e1:HT.aA (cs.map PyData.int).length 0 (some ((t:Int)+1))=t+1:=by
   unfold HT.aA
   rw [List.length_map]
   simp only
   split <;> omega
  have e2:HT.aA (cs.map PyData.int).length (cs.map PyData.int).length none=cs.length:=by
   unfold HT.aA
   rw [List.length_map]
  rw [e1,e2,<- List.map_drop,<- List.map_take]
  have e3:cs.drop (t+1)=l++List.replicate (n - t) 0:=by
   rw [<- List.tail_drop,cg.dr]
   rfl
  rw [e3,List.take_of_length_le]
  rw [<- e3,List.length_drop]
  omega
 have a3:bF cF [.list ((l++List.replicate (n - t) 0).map PyData.int)]=.ret (.int l.sum):=by
  rw [kW,List.sum_append,lO,Int.add_zero]
 have a4:ft (tI row) none (some (t:Int))=.ret (tI (row.take t)):=by
  unfold tI
  rw [Zey _ _ (by rw [List.length_map]; omega),List.map_take]
 have a5:bb (row.map PyData.int) (t:Int)=some (.int f):=by
  refine fW (by omega) ?_
  rw [Int.toNat_natCast,List.getElem?_map,hf]
  rfl
 have a5':aQ aO (tI row) (.int t)=.ret (.int f):=by
  unfold tI
  simp_arith only [a5]
 have ln:bF cP [tI row]=.ret (.int n):=by
  unfold tI
  simp_arith only [List.length_map,hn]
 obtain ⟨q1,q2⟩:=iR w0
 have a0:=w0 a (by simp)
 have as:=q2 a (by simp)
 have es:x+a+l.sum=x+(a::l).sum:=by rw [List.sum_cons]; omega
 have er:=Zl4 h (x:=x+a - f) (bR (by show -1048576 < _; omega) (by show _ < 1048576; omega))
 have hi:((t:Int)+1)=((t+1:Nat):Int):=by omega
 by_cases c:t+d < n
 ·have c':decide ((t:Int)+(d:Int) < (n:Int))=true:=decide_eq_true (by omega)
  have el:bA W d (n - t) t (x+(a::l).sum) (row.take t)=W t (x+(a::l).sum) (row.take t):=by
   unfold bA
   rw [if_pos (by omega)]
  obtain ⟨y1,y2⟩:=hW c
  have hF:=hF c
  rw [el]
  generalize W t (x+(a::l).sum) (row.take t)=y at *
  have eo:=Zl6 h (p:=y - (x+(a::l).sum)) (bR (by show -1048576 < _; omega) (by show _ < 1048576; omega))
  have b1:cV (cs.map PyData.int).length ((t:Int)+(d:Int))=some (t+d):=by
   unfold cV
   rw [List.length_map]
   rw [if_pos (by omega),if_pos (by omega)]
   congr 1
  have b2:bb ((cs.map PyData.int).set (t+d) (.int (y - (x+(a::l).sum)))) ((t:Int)+(d:Int))=some (.int (y - (x+(a::l).sum))):=by
   refine fW (by omega) ?_
   rw [show ((t:Int)+(d:Int)).toNat=t+d by omega,List.getElem?_set_self (by rw [List.length_map]; omega)]
  refine ⟨cs.set (t+d) (y - (x+(a::l).sum)),.d (.int (x+(a::l).sum)),cg.step1 c _,?_⟩
  simp_arith only [kP,ZdG,ZdF,ZdE,ZdD,ZjN,ZjO hF,a1,a2,a3,a4,a5',ln,es,c',nN b1,b2,eo,er]
  rw [List.map_set]
  rw [show paid+bC s (y - (x+(a::l).sum))+cK s (x+a - f)=paid+(bC s (y - (x+(a::l).sum))+cK s (x+a - f)) by omega]
 ·have c':decide ((t:Int)+(d:Int) < (n:Int))=false:=decide_eq_false (by omega)
  have el:bA W d (n - t) t (x+(a::l).sum) (row.take t)=x+(a::l).sum:=by
   unfold bA
   rw [if_neg (by omega)]
  have e0:bC s (x+(a::l).sum - (x+(a::l).sum))=0:=by unfold bC; rw [if_neg (by omega)]
  rw [el,e0,Int.zero_add,Int.sub_self]
  refine ⟨cs,.d (.int (x+(a::l).sum)),cg.step0 ht,?_⟩
  simp_arith only [kP,ZdG,ZdF,ZdE,ZdD,a1,a2,a3,a5',ln,es,c',er]
theorem Ze6:∀ {fs:List (List Int)} {c c':List Int->Int},(∀ r:List Int,r.length=fs.length->c r=c' r)->av fs c=av fs c'
 | [],c,c',h=>h [] rfl
 | d::fs,c,c',h=>c7 λf _=>Ze6 λr hr=>h (f::r) (by rw [List.length_cons,List.length_cons,hr])
theorem Ze5 {s:Shp} {W:Nat->Int->List Int->Int} {d:Nat}:∀ (fs:List (List Int)) (t:Nat) (past:List Int) (x:Int) (way:List Int),av fs (λr=>wk s W d r t past x way)=cW s W d fs t past x way
 | [],t,past,x,way=>rfl
 | day::rest,t,past,x,way=>by
  rw [cW]
  generalize hy:bA W d (day::rest).length t (x+way.sum) past - (x+way.sum)=o
  have e:∀ f:Int,(av rest λr=>wk s W d (f::r) t past x way)=bC s o * prd rest+(cK s (x+way.headD 0 - f) * bM rest+cW s W d rest (t+1) (past++[f]) (x+way.headD 0 - f) (way.drop 1++[o])):=λf=>by
   have e1:(av rest λr=>wk s W d (f::r) t past x way)=av rest λr=>(bC s o+cK s (x+way.headD 0 - f))+wk s W d r (t+1) (past++[f]) (x+way.headD 0 - f) (way.drop 1++[o]):=Ze6 λr hr=>by
    have el:(f::r).length=(day::rest).length:=by rw [List.length_cons,List.length_cons,hr]
    rw [wk,el,hy]
   rw [e1,Ze7,Ze5 rest,jD,Int.add_mul,Int.add_assoc]
  show ws (λf=>av rest λr=>wk s W d (f::r) t past x way) 0 day=_
  rw [funext e,gI,iN,bM,jD]
  grind
theorem Zh3 {s:Shp} (h:s.Ok) {p:Int} (hp:nb 20 p):nb 68 (bC s p):=by
 unfold bC
 split
 ·exact aT (c8 h.start (b9 h.piece hp)) (by decide)
 ·exact aT (show nb 1 (0:Int) from (show (0:Int).natAbs < 2 ^ 1 by decide)) (by omega)
theorem Zhh {s:Shp} (h:s.Ok) {z:Int} (hz:nb 20 z):nb 68 (cK s z):=by
 unfold cK
 exact aT (c8 (b9 h.keep (mG hz)) (b9 h.lack (mF hz))) (by decide)
theorem Zl0 {s:Shp} (h:s.Ok) {z:Int} (hz:nb 20 z):nb 68 (fT s z):=by
 unfold fT
 exact aT (gu (b9 h.late (mF hz)) (b9 h.back (mG hz))) (by decide)
structure WyOk (s:Shp) (F:List PyData->Option Int) (W:Nat->Int->List Int->Int) (d n:Nat) (low:Nat->Int) (row:List Int):Prop where
 ok:s.Ok
 t5:s.top<=100
 d1:1<=d
 d9:d<=50
 n9:n<=50
 len:row.length=n
 lo:∀ t,t<=n->-1000<=low t
 fal:∀ t f,row[t]?=some f->0<=f/\f<=100/\low (t+1)<=low t - f
 way:∀ t c,t+d < n->low t<=c->c<=s.top->F [.int t,.int c,tI (row.take t)]=some (W t c (row.take t))
 lev:∀ t c past,t < n->c<=s.top->c<=W t c past/\W t c past<=s.top
theorem mD {z:Int} (a:-3000<=z) (b:z<=3000):nb 20 z:=bR (by show -1048576 < _; omega) (by show _ < 1048576; omega)
theorem Zak {s:Shp} {F:List PyData->Option Int} {W:Nat->Int->List Int->Int} {d n:Nat} {low:Nat->Int} {row:List Int} (h:WyOk s F W d n low row) (X2:Sl):∀ (m t:Nat) (cs way:List Int) (x paid:Int) (J8 J9:Sl),t+m=n->Cg n d t cs way->low t<=x->x+way.sum<=s.top->(∀ b∈way,0<=b)->nb (70+t) paid ->
  ∃ (cs':List Int) (x' paid':Int) (K8 K9:Sl),bV (af 8) (kP F) ((aB t m).map PyData.int) [.d s.d,.d (.int d),X2,.d (tI row),.pen,.own (cs.map PyData.int),.d (.int x),.d (.int paid),J8,J9]=.ret (.next [.d s.d,.d (.int d),X2,.d (tI row),.pen,.own (cs'.map PyData.int),.d (.int x'),.d (.int paid'),K8,K9]) /\
   paid'+fT s x'=paid+wk s W d (row.drop t) t (row.take t) x way/\nb 20 x'/\nb (70+n) paid'
 | 0,t,cs,way,x,paid,J8,J9,hm,cg,xl,hx,w0,hp=>by
  have ht:t=n:=by omega
  have lo:=h.lo t (by omega)
  obtain ⟨q1,q2⟩:=iR w0
  have t5:=h.t5
  have ew:way.sum=0:=by
   have e:=cg.dr
   rw [ht,Nat.sub_self,List.replicate_zero,List.append_nil,cg.en] at e
   rw [<- e]
   exact lO d
  refine ⟨cs,x,paid,J8,J9,rfl,?_,mD (by omega) (by omega),aT hp (by omega)⟩
  rw [List.drop_of_length_le (by rw [h.len]; omega),wk,ew,Int.add_zero]
 | m+1,t,cs,[],x,paid,J8,J9,hm,cg,xl,hx,w0,hp=>by
  have:=cg.wl
  have:=h.d1
  simp at *
  omega
 | m+1,t,cs,a::l,x,paid,J8,J9,hm,cg,xl,hx,w0,hp=>by
  have ht:t < row.length:=by rw [h.len]; omega
  obtain ⟨f,hf⟩:∃ f,row[t]?=some f:=⟨_,List.getElem?_eq_getElem ht⟩
  obtain ⟨f0,f1,fl⟩:=h.fal t f hf
  have lo:=h.lo t (by omega)
  obtain ⟨q1,q2⟩:=iR w0
  have a0:=w0 a (by simp)
  have as:=q2 a (by simp)
  have t5:=h.t5
  have lv:=h.lev t (x+(a::l).sum) (row.take t) (by omega) hx
  have yb:x+(a::l).sum<=bA W d (n - t) t (x+(a::l).sum) (row.take t)/\bA W d (n - t) t (x+(a::l).sum) (row.take t)<=s.top:=by
   unfold bA
   split
   ·exact lv
   ·exact ⟨Int.le_refl _,hx⟩
  obtain ⟨cs1,K9,cg1,tn⟩:=ZfL h.ok h.t5 h.len h.n9 h.d9 hf f0 f1 cg (x:=x) (paid:=paid) (by omega) hx w0 (λc=>h.way t _ c (by omega) hx) (λ_=>lv) X2 J9
  have er:row.drop t=f::row.drop (t+1):=by
   rw [List.drop_eq_getElem_cons ht]
   congr 1
   rw [List.getElem?_eq_getElem ht] at hf
   exact Option.some.inj hf
  have et:row.take (t+1)=row.take t++[f]:=by rw [List.take_add_one,hf]; rfl
  have eln:(f::row.drop (t+1)).length=n - t:=by rw [<- er,List.length_drop,h.len]
  have es:=o4 x f (a::l) (bA W d (n - t) t (x+(a::l).sum) (row.take t))
  have es:x+a - f+(l++[bA W d (n - t) t (x+(a::l).sum) (row.take t) - (x+(a::l).sum)]).sum=bA W d (n - t) t (x+(a::l).sum) (row.take t) - f:=es
  have hb:nb (70+(t+1)) (paid+(bC s (bA W d (n - t) t (x+(a::l).sum) (row.take t) - (x+(a::l).sum))+cK s (x+a - f))):=by
   have n1:=Zh3 h.ok (p:=bA W d (n - t) t (x+(a::l).sum) (row.take t) - (x+(a::l).sum)) (mD (by omega) (by omega))
   have n2:=Zhh h.ok (z:=x+a - f) (mD (by omega) (by omega))
   exact aT (c8 (aT hp (show 70+t<=70+t by omega)) (aT (c8 n1 n2) (show 69<=70+t by omega))) (by omega)
  obtain ⟨cs',x',paid',K8,K9',fo,e,b1,b2⟩:=Zak h X2 m (t+1) cs1 (l++[bA W d (n - t) t (x+(a::l).sum) (row.take t) - (x+(a::l).sum)]) (x+a - f) _ (.d (.int t)) K9 (by omega) cg1 (by omega) (by rw [es]; omega) (λb hb=>by
   rcases List.mem_append.mp hb with q | q
   ·exact w0 b (List.mem_cons_of_mem _ q)
   ·have:b=bA W d (n - t) t (x+(a::l).sum) (row.take t) - (x+(a::l).sum):=by simpa using q
    omega) hb
  refine ⟨cs',x',paid',K8,K9',?_,?_,b1,b2⟩
  ·rw [gM,List.map_cons,dU]
   have g:af 8 (.int (t:Int)) [.d s.d,.d (.int d),X2,.d (tI row),.pen,.own (cs.map PyData.int),.d (.int x),.d (.int paid),J8,J9]=some [.d s.d,.d (.int d),X2,.d (tI row),.pen,.own (cs.map PyData.int),.d (.int x),.d (.int paid),.d (.int t),J9]:=rfl
   rw [g,Tr.of_some,Tr.ret_bind]
   unfold fS
   rw [tn,Tr.ret_bind,dF]
   exact fo
  ·rw [e,er,wk,eln,<- et]
   show _=paid+(bC s (bA W d (n - t) t (x+(a::l).sum) (row.take t) - (x+(a::l).sum))+cK s (x+a - f)+wk s W d (row.drop (t+1)) (t+1) (row.take (t+1)) (x+a - f) (l++[bA W d (n - t) t (x+(a::l).sum) (row.take t) - (x+(a::l).sum)]))
   omega
theorem ZdY {s:Shp} {F:List PyData->Option Int} {W:Nat->Int->List Int->Int} {d n:Nat} {low:Nat->Int} {row:List Int} (h:WyOk s F W d n low row) {x:Int} (x1:low 0<=x) (x2:x<=s.top) :
  mM F [.d s.d,.d (.int d),.d (.int x),.d (tI row),.pen]=.ret (.d (.int (wk s W d row 0 [] x (List.replicate d 0))))/\nb (72+n) (wk s W d row 0 [] x (List.replicate d 0)):=by
 have n9:=h.n9
 have d9:=h.d9
 have ln:bF cP [tI row]=.ret (.int n):=by
  unfold tI
  simp_arith only [List.length_map,h.len]
 have rp:=ZbL (n:=n+d) (by omega)
 have e0:br (n+d) (λ_=>0)=(List.replicate (n+d) (0:Int)).map PyData.int:=by
  unfold br
  congr 1
  rw [List.map_const',List.length_range]
 rw [e0] at rp
 have ei:((n:Int)+(d:Int))=((n+d:Nat):Int):=by omega
 have r1:dQ [.int (n:Int)]=.ret (ba 0 n):=gC (dE (by omega) (by omega))
 have er:ba 0 (n:Int)=(aB ((0:Nat):Int) n).map PyData.int:=by
  unfold ba
  rw [show ((n:Int) - 0).toNat=n by omega]
  rfl
 have cg0:Cg n d 0 (List.replicate (n+d) 0) (List.replicate d 0):=by
  refine ⟨List.length_replicate ..,List.length_replicate ..,?_,?_⟩
  ·have:List.replicate d (0:Int)++List.replicate n 0=List.replicate (d+n) 0:=List.replicate_append_replicate
   rw [Nat.sub_zero,this,Nat.add_comm d n]
   rfl
  ·rw [List.drop_replicate,Nat.add_sub_cancel_left]
 obtain ⟨cs',x',paid',K8,K9,fo,e,b1,b2⟩:=Zak h (.d (.int x)) n 0 (List.replicate (n+d) 0) (List.replicate d 0) x 0 .un .un (by omega) cg0 x1 (by rw [lO,Int.add_zero]; exact x2) (λb hb=>by rw [(List.mem_replicate.mp hb).2]; exact Int.le_refl 0) (aT (show nb 1 (0:Int) from (show (0:Int).natAbs < 2 ^ 1 by decide)) (by omega))
 rw [Int.zero_add,List.drop_zero,List.take_zero] at e
 have ee:=Zme h.ok b1
 have hs:small (0+1)=true:=rfl
 refine ⟨?_,?_⟩
 ·simp_arith only [mM,ZdP,ZdO,ln,ei,rp,r1,er,fo,ee]
  rw [e]
 ·rw [<- e]
  exact aT (c8 b2 (aT (Zl0 h.ok b1) (show 68<=70+n by omega))) (by omega)
theorem Zod {xs ys:List PyData} (h:small (xs.length+ys.length)=true):aQ iF (.tuple xs) (.tuple ys)=.ret (.tuple (xs++ys)):=by
 cases xs with
 | nil=>exact ZdR
 | cons x xs=>exact ZdQ h
theorem rwq {r:List Int} (hr:r.length<=10) {w:Int} (hw:fit w=true):∀ (l:List Int) (k:Nat),(∀ v∈l,fit v=true)->cL (fB (bh (aw (af 0) (aw (af 1) bc))) jb i5 [.un,.un,.d (tI r),.d (.int w)]) (enu k l)=.ret ((bU k l).map λq=>cp (r++[q.1],w * q.2))
 | [],k,_=>rfl
 | v::l,k,hv=>by
  have ih:=rwq hr hw l (k+1) λu hu=>hv u (List.mem_cons_of_mem _ hu)
  have hadd:aQ iF (tI r) (.tuple [.int k])=.ret (tI (r++[(k:Int)])):=by
   unfold tI
   rw [Zod (ce (by rw [List.length_map]; show _+1<=_; omega)),List.map_append]
   rfl
  have g2:=hv v (by simp)
  by_cases h:v > 0
  ·have e:fB (bh (aw (af 0) (aw (af 1) bc))) jb i5 [.un,.un,.d (tI r),.d (.int w)] (.tuple [.int k,.int v])=.ret (some (cp (r++[(k:Int)],w * v))):=by
    simp_arith only [jb,i5,hadd,hw,g2,decide_eq_true h]
    rfl
   rw [enu,cL,e,Tr.ret_bind,ih,Tr.ret_bind,bU,if_pos h]
   rfl
  ·have e:fB (bh (aw (af 0) (aw (af 1) bc))) jb i5 [.un,.un,.d (tI r),.d (.int w)] (.tuple [.int k,.int v])=.ret none:=by
    simp_arith only [jb,i5,decide_eq_false h]
   rw [enu,cL,e,Tr.ret_bind,ih,Tr.ret_bind,bU,if_neg h]
   rfl
theorem rw1 {d:List Int} (hd:DayB d) {r:List Int} (hr:r.length<=10) {w:Int} (hw:nb 200 w) {L:List PyData} (hL:L.length<=9000) (F RW:Sl) :
  np [F,RW,.d (tI d),.own L,.d (tI r),.d (.int w)]=.ret (.next [F,RW,.d (tI d),.own (L++(bU 0 d).map λq=>cp (r++[q.1],w * q.2)),.d (tI r),.d (.int w)]):=by
 have hdl:=hd.len
 have e0:cG (d.map PyData.int)=enu 0 d:=iB d
 have hs:small (enu 0 d).length=true:=ce (by rw [jw]; omega)
 have hmap:=rwq hr (aD hw (by decide)) d 0 λv hv=>aD (hd.nb v hv) (by decide)
 have hs2:small (L.length+((bU 0 d).map λq=>cp (r++[q.1],w * q.2)).length)=true:=ce (by rw [List.length_map]; have:=lS d 0; omega)
 simp_arith only [np,nE,e0,hs,hmap,ZdI hs2]
structure SnR (fs:List (List Int)) (p:Rw):Prop where
 len:p.1.length=fs.length
 wt:nb (30 * fs.length+1) p.2
 at':∀ (t:Nat) (f:Int),p.1[t]?=some f->∃ day,fs[t]?=some day/\f∈bz 0 day
theorem Zgz:∀ {l:List Int} {k:Nat} {q:Int×Int},q∈bU k l->q.1∈bz k l:=λ{l k q} h=>by
 have:=lT l k
 have hm:PyData.int q.1∈(bz k l).map PyData.int:=by rw [<- this]; exact List.mem_map.mpr ⟨q,h,rfl⟩
 obtain ⟨z,hz,e⟩:=List.mem_map.mp hm
 cases e
 exact hz
theorem SnR.step {fs:List (List Int)} {p:Rw} (h:SnR fs p) {d:List Int} (hd:DayB d) {q:Int×Int} (hq:q∈bU 0 d):SnR (fs++[d]) (p.1++[q.1],p.2 * q.2):=by
 obtain ⟨z1,z2,z3⟩:=lR hq
 refine ⟨by simp [h.len],?_,λt f e=>?_⟩
 ·rw [List.length_append]
  exact aT (b9 h.wt (hd.nb _ z3)) (by simp only [List.length_cons,List.length_nil]; omega)
 ·have e:(p.1++[q.1])[t]?=some f:=e
  have hl:=h.len
  by_cases ht:t < p.1.length
  ·rw [List.getElem?_append_left ht] at e
   obtain ⟨day,h1,h2⟩:=h.at' t f e
   exact ⟨day,by rw [List.getElem?_append_left (by omega)]; exact h1,h2⟩
  ·rw [List.getElem?_append_right (by omega)] at e
   have h0:t - p.1.length=0:=by
    have:=(List.getElem?_eq_some_iff.mp e).1
    simp at this
    omega
   rw [h0] at e
   have e:q.1=f:=by simpa using e
   subst e
   exact ⟨d,by rw [List.getElem?_append_right (by omega),show t - fs.length=0 by omega]; rfl,Zgz hq⟩
theorem rw2 {d:List Int} (hd:DayB d) (F RW:Sl):∀ (X:List Rw) (L:List PyData) (J4 J5:Sl),(∀ p∈X,p.1.length<=10/\nb 200 p.2)->L.length+X.length * 16<=9000->∃ K4 K5:Sl,bV (bh (aw (af 4) (aw (af 5) bc))) np (X.map cp) [F,RW,.d (tI d),.own L,J4,J5]=.ret (.next [F,RW,.d (tI d),.own (L++(bH X d).map cp),K4,K5])
 | [],L,J4,J5,_,_=>⟨J4,J5,by simp [bH]; rfl⟩
 | p::X,L,J4,J5,hX,hL=>by
  obtain ⟨h1,h2⟩:=hX p (by simp)
  have hdl:=hd.len
  rw [List.length_cons] at hL
  have sl:=lS d 0
  have e1:=rw1 hd h1 h2 (L:=L) (by omega) F RW
  obtain ⟨K4,K5,ih⟩:=rw2 hd F RW X (L++(bU 0 d).map λq=>cp (p.1++[q.1],p.2 * q.2)) (.d (tI p.1)) (.d (.int p.2)) (λq hq=>hX q (List.mem_cons_of_mem _ hq)) (by rw [List.length_append,List.length_map]; omega)
  refine ⟨K4,K5,?_⟩
  rw [List.map_cons,dU]
  have g:bh (aw (af 4) (aw (af 5) bc)) (cp p) [F,RW,.d (tI d),.own L,J4,J5]=some [F,RW,.d (tI d),.own L,.d (tI p.1),.d (.int p.2)]:=rfl
  rw [g,Tr.of_some,Tr.ret_bind]
  unfold fS
  rw [e1,Tr.ret_bind,dF,ih]
  have e:bH (p::X) d=((bU 0 d).map λq=>(p.1++[q.1],p.2 * q.2))++bH X d:=by unfold bH; rw [List.flatMap_cons]
  rw [e,List.map_append,List.map_map,List.append_assoc]
  rfl
theorem rw3 {d:List Int} (hd:DayB d) (F J3 J4 J5:Sl) {X:List Rw} (hX:∀ p∈X,p.1.length<=10/\nb 200 p.2) (hl:X.length<=500):∃ K3 K4 K5:Sl,kQ [F,.d (.list (X.map cp)),.d (tI d),J3,J4,J5]=.ret (.next [F,.d (.list ((bH X d).map cp)),.d (tI d),K3,K4,K5]):=by
 obtain ⟨K4,K5,e⟩:=rw2 hd F (.d (.list (X.map cp))) X [] J4 J5 hX (by simp only [List.length_nil]; omega)
 rw [List.nil_append] at e
 refine ⟨.d (.list ((bH X d).map cp)),K4,K5,?_⟩
 simp_arith only [kQ,e]
theorem Zby (d:List Int) (c:Nat) (hd:(bU 0 d).length<=c):∀ X:List Rw,(bH X d).length<=X.length * c
 | []=>by simp [bH]
 | p::X=>by
  have ih:=Zby d c hd X
  have e:bH (p::X) d=((bU 0 d).map λq=>(p.1++[q.1],p.2 * q.2))++bH X d:=by unfold bH; rw [List.flatMap_cons]
  rw [e,List.length_append,List.length_map,List.length_cons,Nat.succ_mul]
  omega
theorem rw4 {D:Sl}:∀ (fs pre:List (List Int)) (X:List Rw) (J2 J3 J4 J5:Sl),(∀ l∈fs,DayB l/\l.length<=6)->(∀ p∈X,SnR pre p)->X.length<=6 ^ pre.length->pre.length+fs.length<=4 ->
  (∃ K2 K3 K4 K5:Sl,bV (af 2) kQ (fs.map tI) [D,.d (.list (X.map cp)),J2,J3,J4,J5]=.ret (.next [D,.d (.list ((fs.foldl bH X).map cp)),K2,K3,K4,K5]))/\(∀ p∈fs.foldl bH X,SnR (pre++fs) p)/\(fs.foldl bH X).length<=6 ^ (pre.length+fs.length)
 | [],pre,X,J2,J3,J4,J5,_,hX,hl,_=>⟨⟨J2,J3,J4,J5,rfl⟩,by rw [List.append_nil]; exact hX,hl⟩
 | d::fs,pre,X,J2,J3,J4,J5,hf,hX,hl,hn=>by
  obtain ⟨hd,h6⟩:=hf d (by simp)
  rw [List.length_cons] at hn
  have p4:6 ^ pre.length<=216:=Nat.le_trans (Nat.pow_le_pow_right (by decide) (show pre.length<=3 by omega)) (by decide)
  obtain ⟨K3,K4,K5,e⟩:=rw3 hd D J3 J4 J5 (X:=X) (λp hp=>by
   have:=hX p hp
   exact ⟨by rw [this.len]; omega,aT this.wt (by omega)⟩) (by omega)
  have hX':∀ p∈bH X d,SnR (pre++[d]) p:=λp hp=>by
   unfold bH at hp
   obtain ⟨q,hq,hp⟩:=List.mem_flatMap.mp hp
   obtain ⟨z,hz,rfl⟩:=List.mem_map.mp hp
   exact (hX q hq).step hd hz
  have hl':(bH X d).length<=6 ^ (pre++[d]).length:=by
   have:=Zby d 6 (Nat.le_trans (lS d 0) h6) X
   rw [List.length_append]
   show _<=6 ^ (pre.length+1)
   rw [Nat.pow_succ]
   exact Nat.le_trans this (Nat.mul_le_mul_right _ hl)
  obtain ⟨⟨M2,M3,M4,M5,ih⟩,i1,i2⟩:=rw4 (D:=D) fs (pre++[d]) (bH X d) (.d (tI d)) K3 K4 K5 (λl hl=>hf l (List.mem_cons_of_mem _ hl)) hX' hl' (by rw [List.length_append]; simp only [List.length_cons,List.length_nil]; omega)
  refine ⟨⟨M2,M3,M4,M5,?_⟩,?_,?_⟩
  ·rw [List.map_cons,dU]
   have g:af 2 (tI d) [D,.d (.list (X.map cp)),J2,J3,J4,J5]=some [D,.d (.list (X.map cp)),.d (tI d),J3,J4,J5]:=rfl
   rw [g,Tr.of_some,Tr.ret_bind]
   unfold fS
   rw [e,Tr.ret_bind,dF,ih,List.foldl_cons]
  ·rw [List.foldl_cons,show pre++d::fs=pre++[d]++fs by simp]
   exact i1
  ·rw [List.foldl_cons,List.length_cons,show pre.length+(fs.length+1)=(pre++[d]).length+fs.length by rw [List.length_append]; simp only [List.length_cons,List.length_nil]; omega]
   exact i2
theorem Zgx:SnR [] ([],1):=⟨rfl,(show (1:Int).natAbs < 2 ^ (30 * 0+1) by decide),λt f e=>by simp at e⟩
theorem Zl5 {fs:List (List Int)} (hf:∀ l∈fs,DayB l/\l.length<=6) (hl:fs.length<=4):mP [.d (fD fs)]=.ret (.d (.list ((fs.foldl bH [([],1)]).map cp)))/\(∀ p∈fs.foldl bH [([],1)],SnR fs p)/\(fs.foldl bH [([],1)]).length<=1296:=by
 obtain ⟨⟨K2,K3,K4,K5,e⟩,e1,e2⟩:=rw4 (D:=.d (fD fs)) fs [] [([],1)] .un .un .un .un hf (λp hp=>by
  have:p=([],1):=by simpa using hp
  rw [this]
  exact Zgx) (by decide) (by simp only [List.length_nil]; omega)
 refine ⟨?_,by rw [List.nil_append] at e1; exact e1,Nat.le_trans e2 (Nat.le_trans (Nat.pow_le_pow_right (by decide) (show _<=4 by simp only [List.length_nil]; omega)) (by decide))⟩
 have e0:PyData.list [.tuple [.tuple [],.int 1]]=.list [cp ([],1)]:=rfl
 have e:bV (af 2) kQ (fs.map tI) [.d (fD fs),.d (.list [cp ([],1)]),.un,.un,.un,.un]=_:=e
 simp_arith only [mP,kR,e0,e]
theorem ZcK {h:PyData->Tr PyData} {c:List Int->Int}:∀ X:List Rw,(∀ p∈X,h (cp p)=.ret (.int (p.2 * c p.1)))->bB h (X.map cp)=.ret ((X.map λp=>p.2 * c p.1).map PyData.int)
 | [],_=>rfl
 | p::X,hx=>by
  rw [List.map_cons,bB,hx p (by simp),Tr.ret_bind,ZcK X λq hq=>hx q (List.mem_cons_of_mem _ hq),Tr.ret_bind]
  rfl
theorem ZaL {k:Nat}:∀ l:List Int,(∀ v∈l,nb k v)->nb (k+l.length) l.sum
 | [],_=>by
  show (0:Int).natAbs < 2 ^ (k+0)
  exact Nat.pos_of_ne_zero (by simp)
 | v::l,h=>by
  have ih:=ZaL l λu hu=>h u (List.mem_cons_of_mem _ hu)
  rw [List.sum_cons,List.length_cons]
  exact aT (c8 (aT (h v (by simp)) (show k<=k+l.length by omega)) ih) (by omega)
theorem Zd4 {s:Shp} {fs:List (List Int)} (hf:∀ l∈fs,DayB l/\l.length<=6) (hl:fs.length<=4) {F:List PyData->Option Int} {W:Nat->Int->List Int->Int} {d:Nat} {low:Nat->Int} (hw:∀ p:Rw,SnR fs p->WyOk s F W d fs.length low p.1) {x:Int} (x1:low 0<=x) (x2:x<=s.top) :
  gw F [.d s.d,.d (fD fs),.d (.int d),.d (.int x),.pen]=.ret (.d (.int (cW s W d fs 0 [] x (List.replicate d 0))))/\nb 1700 (cW s W d fs 0 [] x (List.replicate d 0)):=by
 obtain ⟨e1,e2,e3⟩:=Zl5 hf hl
 have ht:=Zf5 (fs:=fs) (c:=λr=>wk s W d r 0 [] x (List.replicate d 0)) λl hl=>(hf l hl).1.w0
 rw [Ze5] at ht
 unfold tot at ht
 have hm:bB (c9 (bh (aw (af 0) (aw (af 1) bc))) (j9 F) [.un,.un,.d s.d,.d (.int d),.d (.int x),.pen]) ((fs.foldl bH [([],1)]).map cp)=.ret (((fs.foldl bH [([],1)]).map λp=>p.2 * wk s W d p.1 0 [] x (List.replicate d 0)).map PyData.int):=by
  refine ZcK (h:=c9 (bh (aw (af 0) (aw (af 1) bc))) (j9 F) [.un,.un,.d s.d,.d (.int d),.d (.int x),.pen]) (c:=λr=>wk s W d r 0 [] x (List.replicate d 0)) _ λp hp=>?_
  have sp:=e2 p hp
  obtain ⟨w1,w2⟩:=ZdY (hw p sp) x1 x2
  have f1:=aD sp.wt (by omega)
  have f2:=aD w2 (by omega)
  show c9 (bh (aw (af 0) (aw (af 1) bc))) (j9 F) [.un,.un,.d s.d,.d (.int d),.d (.int x),.pen] (.tuple [tI p.1,.int p.2])=_
  simp_arith only [j9,w1,f1,f2]
 have hs:small ((fs.foldl bH [([],1)]).map cp).length=true:=ce (by rw [List.length_map]; omega)
 have it:gz (.list ((fs.foldl bH [([],1)]).map cp))=.ret ((fs.foldl bH [([],1)]).map cp):=rfl
 refine ⟨?_,?_⟩
 ·simp_arith only [gw,e1,it,hs,hm]
  rw [ht]
 ·rw [<- ht]
  refine aT (ZaL (k:=200) _ λv hv=>?_) (by rw [List.length_map]; omega)
  obtain ⟨p,hp,rfl⟩:=List.mem_map.mp hv
  have sp:=e2 p hp
  exact aT (b9 sp.wt (ZdY (hw p sp) x1 x2).2) (by omega)
theorem ZbD {s:Shp} {d:Nat} {fs:List (List Int)} {x:Int} {o:Nat}:∀ (p t:Nat),t < p->p<=o->(cA s d fs x o p).reverse[t]?=some (fu s d fs x (o - p+t))
 | 0,t,h,_=>by omega
 | p+1,t,h,hp=>by
  rw [cA,List.reverse_append]
  show (fu s d fs x (o - (p+1))::(cA s d fs x o p).reverse)[t]?=_
  cases t with
  | zero=>rfl
  | succ t =>
   rw [List.getElem?_cons_succ,ZbD p t (by omega) (by omega)]
   congr 2
   omega
theorem Zf8 {s:Shp} {d:Nat} {fs:List (List Int)} {x:Int} {t:Nat} (ht:t+d < fs.length):bb (cA s d fs x (fs.length - d) (fs.length - d)).reverse (t:Int)=some (fu s d fs x t):=by
 refine fW (by omega) ?_
 rw [Int.toNat_natCast,ZbD _ _ (by omega) (Nat.le_refl _),Nat.sub_self,Nat.zero_add]
theorem Zhl {s:Shp} {d:Nat} {fs:List (List Int)} {x:Int} {t:Nat} {c:Int} (c1:lw fs x t<=c) (c2:c<=s.top):bb ((aB (lw fs x t) (nn s fs x t)).map λy=>eY (aF s d (fs.drop t) y) (prd (fs.drop t)) (aL s d (fs.drop t) y)) (c - lw fs x t)=some (eY (aF s d (fs.drop t) c) (prd (fs.drop t)) (aL s d (fs.drop t) c)):=by
 refine fW (by omega) ?_
 unfold aB
 rw [List.map_map,List.getElem?_map,List.getElem?_range (by unfold nn; omega)]
 show some (eY (aF s d (fs.drop t) (lw fs x t+((c - lw fs x t).toNat:Int))) _ (aL s d (fs.drop t) (lw fs x t+((c - lw fs x t).toNat:Int))))=_
 rw [show lw fs x t+((c - lw fs x t).toNat:Int)=c by omega]
noncomputable def lows (fs:List (List Int)) (x:Int):List Int:=(List.range fs.length).map (lw fs x)
theorem Ziy {n k j:Nat} {s:List Sl->Tr Ou} {ix:List Nat} {t:List Sl->Tr PyData} {as ρ:List Sl} {caps:List PyData} (e:s (as++List.replicate k .un)=.ret (.next ρ)) (hc:hI ix (fz j ρ)=some caps):jf n k j s ix t as=some (eK n t caps):=by
 unfold jf
 rw [e]
 show (hI ix (fz j ρ)).map _=_
 rw [hc]
 rfl
theorem Zi7 {fs:List (List Int)} (hf:∀ l∈fs,DayOk 8 l) (hl:fs.length<=6) (T:PyData) (x:Int):nz [.d T,.d (.int x),.d (fD fs)]=some (eK 3 h8 [T,lI (lows fs x)]):=by
 have ln:bF cP [fD fs]=.ret (.int fs.length):=by unfold fD; rw [kX,List.length_map]
 have r1:dQ [.int (fs.length:Int)]=.ret (ba 0 fs.length):=gC (dE (by omega) (by omega))
 have hs:small (ba 0 (fs.length:Int)).length=true:=ce (by rw [cO]; omega)
 have hm:bB (c9 (af 0) j7 [.un,.d (.int x),.d (fD fs)]) (ba 0 (fs.length:Int))=.ret ((lows fs x).map PyData.int):=by
  have key:∀ n:Nat,n<=fs.length->∀ k:Nat,k+n=fs.length->bB (c9 (af 0) j7 [.un,.d (.int x),.d (fD fs)]) ((aB k n).map PyData.int)=.ret (((List.range' k n).map (lw fs x)).map PyData.int):=by
   intro n
   induction n with
   | zero=>intro _ k _; rfl
   | succ n ih =>
    intro h k hk
    have c:=nT fs (t:=k) (by omega)
    have g:=Zd1 (fs:=fs.take k) (λl hl=>hf l (List.mem_of_mem_take hl)) (by rw [List.length_take]; omega)
    have e:c9 (af 0) j7 [.un,.d (.int x),.d (fD fs)] (.int (k:Int))=.ret (.int (lw fs x k)):=by
     unfold lw
     simp_arith only [j7,c,g]
    rw [gM,List.map_cons,bB,e,Tr.ret_bind]
    have ih:=ih (by omega) (k+1) (by omega)
    rw [show ((k+1:Nat):Int)=(k:Int)+1 by omega] at ih
    rw [ih,Tr.ret_bind]
    rfl
  have:=key fs.length (Nat.le_refl _) 0 (by omega)
  rw [show ba 0 (fs.length:Int)=(aB ((0:Nat):Int) fs.length).map PyData.int by unfold ba; rw [show ((fs.length:Int) - 0).toNat=fs.length by omega]; rfl,this]
  unfold lows
  rw [List.range_eq_range']
 have e:pe ([.d T,.d (.int x),.d (fD fs)]++List.replicate 1 .un)=.ret (.next [.d T,.d (.int x),.d (fD fs),.d (lI (lows fs x))]):=by
  unfold lI
  simp_arith only [pe,ln,r1,hs,hm]
 exact Ziy e rfl
theorem ZjK {s:Shp} {fs:List (List Int)} {d:Nat} {x:Int} {t:Nat} (ht:t+d < fs.length) {c:Int} (c1:lw fs x t<=c) (c2:c<=s.top) (past:List Int):eK 3 h8 [.tuple (cA s d fs x (fs.length - d) (fs.length - d)).reverse,lI (lows fs x)] [.int t,.int c,tI past]=some (aL s d (fs.drop t) c):=by
 have a1:=Zf8 (s:=s) (d:=d) (x:=x) ht
 have a2:=Zhl (s:=s) (d:=d) (fs:=fs) (x:=x) c1 c2
 simp only [eY] at a2
 have a3:bb ((lows fs x).map PyData.int) (t:Int)=some (.int (lw fs x t)):=by
  refine fW (by omega) ?_
  unfold lows
  rw [Int.toNat_natCast,List.getElem?_map,List.getElem?_map,List.getElem?_range (by omega)]
  rfl
 have a4:bb [cu (aF s d (fs.drop t) c) (prd (fs.drop t)),PyData.int (aL s d (fs.drop t) c)] 1=some (.int (aL s d (fs.drop t) c)):=rfl
 have e:h8 [.d (.int t),.d (.int c),.d (tI past),.d (.tuple (cA s d fs x (fs.length - d) (fs.length - d)).reverse),.d (lI (lows fs x))]=.ret (.int (aL s d (fs.drop t) c)):=by
  unfold lI
  simp_arith only [h8,a1,a3,fu,a2,eY,a4]
 unfold eK
 rw [if_pos (show ([PyData.int t,PyData.int c,tI past]:List PyData).length=3 from rfl)]
 show (match h8 [.d (.int t),.d (.int c),.d (tI past),.d (.tuple (cA s d fs x (fs.length - d) (fs.length - d)).reverse),.d (lI (lows fs x))] with | .ret (.int n)=>some n | _=>none)=_
 rw [e]
theorem ZcG (K T C P:Sl):∀ (l:List Int) (z:Int) (J:Sl),nb 50 z->(∀ f∈l,0<=f/\f<=100)->∃ (z':Int) (K5:Sl),bV (af 5) nq (l.map PyData.int) [K,T,C,P,.d (.int z),J]=.ret (.next [K,T,C,P,.d (.int z'),K5])/\nb 50 z'
 | [],z,J,hz,_=>⟨z,J,rfl,hz⟩
 | f::l,z,J,hz,hl=>by
  have f1:=aD hz (by decide)
  have f2:fit (31:Int)=true:=rfl
  have hb:nb 50 ((z * 31+f+1).fmod 2147483647):=by
   have h1:=Int.fmod_nonneg_of_pos (z * 31+f+1) (show (0:Int) < 2147483647 by decide)
   have h2:=Int.fmod_lt_of_pos (z * 31+f+1) (show (0:Int) < 2147483647 by decide)
   exact bR (by show -1125899906842624 < _; omega) (by show _ < 1125899906842624; omega)
  obtain ⟨z',K5,e,h⟩:=ZcG K T C P l ((z * 31+f+1).fmod 2147483647) (.d (.int f)) hb λg hg=>hl g (List.mem_cons_of_mem _ hg)
  refine ⟨z',K5,?_,h⟩
  rw [List.map_cons,dU]
  have g:af 5 (.int f) [K,T,C,P,.d (.int z),J]=some [K,T,C,P,.d (.int z),.d (.int f)]:=rfl
  have tn:nq [K,T,C,P,.d (.int z),.d (.int f)]=.ret (.next [K,T,C,P,.d (.int ((z * 31+f+1).fmod 2147483647)),.d (.int f)]):=by
   simp_arith only [nq,f1,f2,ju (show (2147483647:Int)≠0 by decide)]
  rw [g,Tr.of_some,Tr.ret_bind]
  unfold fS
  rw [tn,Tr.ret_bind,dF]
  exact e
theorem Zl8 {key:Int} (k0:0<=key) (k1:key < 1000000000) {t:Nat} (ht:t<=50) {c:Int} (c1:-3000<=c) (c2:c<=3000) {past:List Int} (hp:∀ f∈past,0<=f/\f<=100):∃ m,kG [.d (.int key),.d (.int t),.d (.int c),.d (tI past)]=.ret (.d (.int m)):=by
 have f0:fit (7919:Int)=true:=rfl
 have f1:fit (t:Int)=true:=aD (mD (by omega) (by omega)) (by decide)
 have f2:fit (104729:Int)=true:=rfl
 have f3:fit (c+60)=true:=aD (bR (k:=20) (by show -1048576 < _; omega) (by show _ < 1048576; omega)) (by decide)
 obtain ⟨z,K5,e,hz⟩:=ZcG (.d (.int key)) (.d (.int t)) (.d (.int c)) (.d (tI past)) past (key+7919 * (t:Int)+104729 * (c+60)) .un (bR (by show -1125899906842624 < _; omega) (by show _ < 1125899906842624; omega)) hp
 have pw:aQ gm (.int z) (.int 3)=.ret (.int (z ^ 3)):=by
  have hz':z.natAbs < 2 ^ 50:=hz
  have:decide (z.natAbs < 2 ^ 64)=true:=decide_eq_true (Nat.lt_trans hz' (by decide))
  simp [aQ,gm,this]
 refine ⟨((z ^ 3).fmod 2147483629).fdiv 7,?_⟩
 simp_arith only [kG,nE,f0,f1,f2,f3,e,pw,ju (show (2147483629:Int)≠0 by decide),nQ (show (7:Int)≠0 by decide) (show fit 7=true from rfl)]
noncomputable def mxv (key:Int) (t:Nat) (c:Int) (past:List Int):Int:=match kG [.d (.int key),.d (.int t),.d (.int c),.d (tI past)] with
 | .ret (.d (.int m))=>m
 | _=>0
noncomputable def iE (s:Shp) (key:Int) (t:Nat) (c:Int) (past:List Int):Int:=c+(mxv key t c past).fmod (s.top - c+1)
theorem Zfs (s:Shp) (key:Int) (t:Nat) (c:Int) (past:List Int) (hc:c<=s.top):c<=iE s key t c past/\iE s key t c past<=s.top:=by
 unfold iE
 have h1:=Int.fmod_nonneg_of_pos (mxv key t c past) (show 0 < s.top - c+1 by omega)
 have h2:=Int.fmod_lt_of_pos (mxv key t c past) (show 0 < s.top - c+1 by omega)
 omega
theorem Zi8 (s:Shp) (key:Int):nA [.d s.d,.d (.int key)]=some (eK 3 h9 [.int key,s.d]):=rfl
theorem ZjL {s:Shp} {key:Int} (k0:0<=key) (k1:key < 1000000000) {t:Nat} (ht:t<=50) {c:Int} (c1:-3000<=c) (c2:c<=s.top) (t5:s.top<=100) {past:List Int} (hp:∀ f∈past,0<=f/\f<=100):eK 3 h9 [.int key,s.d] [.int t,.int c,tI past]=some (iE s key t c past):=by
 obtain ⟨m,hm⟩:=Zl8 k0 k1 ht c1 (show c<=3000 by omega) hp
 have em:mxv key t c past=m:=by unfold mxv; rw [hm]
 have e:h9 [.d (.int t),.d (.int c),.d (tI past),.d (.int key),.d s.d]=.ret (.int (iE s key t c past)):=by
  unfold iE
  rw [em]
  simp_arith only [h9,hm,ju (show s.top - c+1≠0 by omega)]
 unfold eK
 rw [if_pos (show ([PyData.int t,PyData.int c,tI past]:List PyData).length=3 from rfl)]
 show (match h9 [.d (.int t),.d (.int c),.d (tI past),.d (.int key),.d s.d] with | .ret (.int n)=>some n | _=>none)=_
 rw [e]
end My
namespace My
open PySem PySem.Spec PyProof.Rows L2 Tw Bar
theorem ZiN {c B:Int} (hB:0 < B):Gc.eV c B * B=c * Gc.dS c B/\0 < Gc.dS c B:=by
 obtain ⟨p1,p2,p3,p4⟩:=Gc.ZcU (t:=c) (b:=B) (by omega)
 refine ⟨?_,p3⟩
 generalize Gc.eV c B=T at *
 generalize Gc.dS c B=C at *
 generalize Gc.den c B=d at *
 have e1:T * (d * C)=(d * T) * C:=by grind
 have e2:T * B=T * (d * C):=by rw [<- p2]
 rw [e2,e1,<- p1]
theorem ZgR (t b:Int):aQ aO (cu t b) (.int 0)=.ret (.int (Gc.eV t b)):=by unfold cu; rw [dW]; exact congrArg Tr.of lf
theorem ZgQ (t b:Int):aQ aO (cu t b) (.int 1)=.ret (.int (Gc.dS t b)):=by unfold cu; rw [dW]; exact congrArg Tr.of nW
theorem Zc8 {s:Shp} (h:s.Ok) {fs:List (List Int)} (hf:FOk fs) {x:Int} (hx:nb 20 x):∀ t:Nat,nb (760+t) (dk s fs x t)
 | 0=>Nat.pos_of_ne_zero (by simp)
 | t+1=>by
  obtain ⟨w1,w2⟩:=iM (hf.take (t+1))
  have p2:=dR (hf.drop (t+1)).B
  have q1:(fs.drop (t+1)).length<=6:=(hf.drop (t+1)).len
  have a2:=b9 p2 (h7 (k:=0) (f:=λf=>s.day x f) (a:=280) (b:=100) w1 λz x1 x2=>kZ h hx (bR (by show -1099511627776 < z; omega) (by show z < 1099511627776; omega)))
  rw [dk]
  exact aT (c8 (Zc8 h hf hx t) a2) (by omega)
theorem Zc9 {s:Shp} (h:s.Ok) {fs:List (List Int)} (hf:FOk fs) {d:Nat} (hd:d<=6) {x:Int} (x1:-100<=x) (x2:x<=s.top):nb 1700 (ci s d fs x):=by
 have t0:=h.t0; have d0:=h.d0; have td:=h.td
 have hl:=hf.len
 have hx:nb 20 x:=bR (by show -1048576 < x; omega) (by show x < 1048576; omega)
 have a1:=lj h (d:=d) hf x (by omega) x2
 have a2:=Zc8 h hf hx d
 unfold ci
 exact aT (c8 a1 a2) (by omega)
theorem ZbE (s:Shp) (d:Nat) (fs:List (List Int)) (x:Int) (o:Nat):∀ p,cA s d fs x o p=(List.range p).map λi=>fu s d fs x (o - (i+1))
 | 0=>rfl
 | p+1=>by rw [cA,ZbE s d fs x o p,List.range_succ,List.map_append]; rfl
theorem ZbA {t b:Int} (nt:nb 1900 t) (nB:nb 1900 b) (h0:b≠0):Rp (cu t b) 1 3816:=by
 obtain ⟨l1,l2⟩:=ZcV nt nB h0
 unfold cu
 exact iW (j4 (k:=0) (n:=1901) λx hx=>by
  simp only [List.mem_cons,List.not_mem_nil,or_false] at hx
  rcases hx with rfl | rfl
  ·exact pS l1
  ·exact pS l2) (Nat.le_refl _) (by show 2 * 1901+2 * 2+10<=3816; decide)
theorem Zhk {t b l:Int} (nt:nb 1900 t) (nB:nb 1900 b) (h0:b≠0) (nl:nb 1900 l):Rp (eY t b l) 2 7646:=by
 unfold eY
 exact iW (j4 (k:=1) (n:=3816) λx hx=>by
  simp only [List.mem_cons,List.not_mem_nil,or_false] at hx
  rcases hx with rfl | rfl
  ·exact ZbA nt nB h0
  ·exact iW (pS nl) (by decide) (by decide)) (Nat.le_refl _) (by show 2 * 3816+2 * 2+10<=7646; decide)
theorem Zoi {s:Shp} {d:Nat}:∀ (fs:List (List Int)) {y:Int},-500<=y->y<=s.top->0<=s.top->s.top<=500->nb 1900 (aL s d fs y)
 | [],y,_,_,_,_=>by show (0:Int).natAbs < 2 ^ 1900; exact Nat.pos_of_ne_zero (by simp)
 | day::rest,y,y1,y2,t0,t1=>by
  rw [aL]
  obtain ⟨h1,h2,-⟩:=ip (g:=csm s d (day::rest) (aF s d rest)) (K:=prd (day::rest) * s.start) y2
  unfold lvl
  exact aT (k:=20) (bR (by show -1048576 < _; omega) (by show _ < 1048576; omega)) (by decide)
theorem Zhj {s:Shp} (h:s.Ok) {fs:List (List Int)} (hf:FOk fs) {d:Nat} {x:Int} (x1:reach fs - s.depth<=x) (x2:x<=s.top) (t:Nat):Rp (fu s d fs x t) 3 772458:=by
 have t0:=h.t0; have d0:=h.d0; have td:=h.td
 have l1:=jm hf x1 t
 have l2:=m9 hf x t
 have hF:=hf.drop t
 have hFl:=hF.len
 have p0:=i7 hF.B
 have p1:=aT (dR hF.B) (show _<=1900 by omega)
 unfold fu
 have hl:((aB (lw fs x t) (nn s fs x t)).map λy=>eY (aF s d (fs.drop t) y) (prd (fs.drop t)) (aL s d (fs.drop t) y)).length<=101:=by rw [List.length_map,gh]; unfold nn; omega
 refine iW (j4 (k:=2) (n:=7646) λv hv=>?_) (Nat.le_refl _) (by omega)
 obtain ⟨y,hy,rfl⟩:=List.mem_map.mp hv
 have hy':=ZbS hy
 have y2:y<=s.top:=by unfold nn at hy'; omega
 exact Zhk (aT (lj h hF y (by omega) y2) (by omega)) p1 (Int.ne_of_gt p0) (Zoi _ (by omega) y2 t0 (by omega))
theorem Zhi {s:Shp} (h:s.Ok) {fs:List (List Int)} (hf:FOk fs) {d:Nat} {x:Int} (x1:reach fs - s.depth<=x) (x2:x<=s.top) (o:Nat) {p:Nat} (hp:p<=6):Rp (.tuple (cA s d fs x o p).reverse) 4 4634770:=by
 have hl:(cA s d fs x o p).reverse.length<=6:=by rw [List.length_reverse,pT]; exact hp
 refine iW (j4 (k:=3) (n:=772458) λv hv=>?_) (Nat.le_refl _) (by omega)
 rw [List.mem_reverse,ZbE] at hv
 obtain ⟨i,-,rfl⟩:=List.mem_map.mp hv
 exact Zhj h hf x1 x2 _
noncomputable def jz (nm:Nat) (mk:List Sl->Option (List PyData->Option Int)) (f:(List PyData->Option Int)->List Sl->Tr Re) (xs ys:List PyData):Tr Re:=if ys.length=nm then
  match mk (ys.map Sl.d) with
  | some F=>match f F (xs.map Sl.d++[.pen]) with
   | .ret (.d (.int n))=>.ret (.d (.int n))
   | _=>.fail
  | none=>.fail
  else .fail
noncomputable def cw1 (nm:Nat) (mk:List Sl->Option (List PyData->Option Int)) (f:(List PyData->Option Int)->List Sl->Tr Re) (js2:List Sl->Tr (List PyData)) (ρ:List Sl) (xs:List PyData):Tr Re:=(js2 ρ).bind (jz nm mk f xs)
theorem ZdN {nm:Nat} {mk:List Sl->Option (List PyData->Option Int)} {f:(List PyData->Option Int)->List Sl->Tr Re} {js js2:List Sl->Tr (List PyData)} {ρ:List Sl}:oi nm mk f js js2 ρ=(js ρ).bind (cw1 nm mk f js2 ρ):=rfl
theorem ZdM {nm:Nat} {mk:List Sl->Option (List PyData->Option Int)} {f:(List PyData->Option Int)->List Sl->Tr Re} {js2:List Sl->Tr (List PyData)} {ρ:List Sl} {xs:List PyData}:cw1 nm mk f js2 ρ xs=(js2 ρ).bind (jz nm mk f xs):=rfl
theorem Zeu {nm:Nat} {mk:List Sl->Option (List PyData->Option Int)} {f:(List PyData->Option Int)->List Sl->Tr Re} {xs ys:List PyData} {F:List PyData->Option Int} {n:Int} (h1:ys.length=nm) (h2:mk (ys.map Sl.d)=some F) (h3:f F (xs.map Sl.d++[.pen])=.ret (.d (.int n))):jz nm mk f xs ys=.ret (.d (.int n)):=by
 unfold jz
 rw [if_pos h1,h2]
 show (match f F (xs.map Sl.d++[.pen]) with | .ret (.d (.int n))=>Tr.ret (Re.d (.int n)) | _=>.fail)=_
 rw [h3]
theorem Zgy {l:List Int} {k:Nat} {f:Int} (h:f∈bz k l):∃ q∈bU k l,q.1=f:=by
 have:=lT l k
 have hm:PyData.int f∈(bU k l).map λq=>PyData.int q.1:=by rw [this]; exact List.mem_map.mpr ⟨f,h,rfl⟩
 obtain ⟨z,hz,e⟩:=List.mem_map.mp hm
 cases e
 exact ⟨z,hz,rfl⟩
theorem Zab {s:Shp} {fs:List (List Int)} {x:Int} (h:Ask s fs x) {d:Nat} (d1:1<=d) (d3:d<=3) {F:List PyData->Option Int} {W:Nat->Int->List Int->Int}
  (hF:∀ (t:Nat) (c:Int) (past:List Int),t+d < fs.length->lw fs x t<=c->c<=s.top->(∀ f∈past,0<=f/\f<=100)->F [.int t,.int c,tI past]=some (W t c past)) (lev:∀ t c past,t < fs.length->c<=s.top->c<=W t c past/\W t c past<=s.top) (p:Rw) (hp:SnR fs p):WyOk s F W d fs.length (lw fs x) p.1:=by
 have ok:=h.ok
 have td:=ok.td
 have d0:=ok.d0
 have t0:=ok.t0
 have hf:=h.f
 have fal:∀ (t:Nat) (f:Int),p.1[t]?=some f->0<=f/\f<=100/\lw fs x (t+1)<=lw fs x t - f:=λt f e=>by
  obtain ⟨day,e1,e2⟩:=hp.at' t f e
  obtain ⟨q,hq,rfl⟩:=Zgy e2
  obtain ⟨z1,z2,-⟩:=lR hq
  have hlt:=(List.getElem?_eq_some_iff.mp e1).1
  have h6:=h.d6 day (List.mem_of_getElem? e1)
  have hg:q.1<=great day:=(iy (List.ne_nil_of_mem e2)).2 _ e2
  have er:fs.drop t=day::fs.drop (t+1):=by
   rw [List.drop_eq_getElem_cons hlt]
   congr 1
   rw [List.getElem?_eq_getElem hlt] at e1
   exact Option.some.inj e1
  have:=ZbN er
  refine ⟨by omega,by omega,?_⟩
  unfold lw
  omega
 refine ⟨ok,by omega,d1,by omega,by have:=h.l4; omega,hp.len,λt _=>by have:=jm hf h.x1 t; omega,fal,λt c ht c1 c2=>hF t c _ ht c1 c2 λf hm=>?_,lev⟩
 obtain ⟨i,hi⟩:=List.mem_iff_getElem?.mp (List.mem_of_mem_take hm)
 exact ⟨(fal i f hi).1,(fal i f hi).2.1⟩
structure Dy (s:Shp) (fs:List (List Int)) (x:Int) (d:Nat):Prop where
 a:Ask s fs x
 d1:1<=d
 d3:d<=3
 dl:d < fs.length
theorem Dy.dd {s:Shp} {fs:List (List Int)} {x:Int} {d:Nat} (h:Dy s fs x d):∀ l∈fs,DayB l/\l.length<=6:=λl hl=>⟨(h.a.days l hl).B (by decide),h.a.d6 l hl⟩
theorem lw0 (fs:List (List Int)) (x:Int):lw fs x 0<=x:=by
 unfold lw
 show x - reach []<=x
 have:reach []=0:=rfl
 omega
noncomputable abbrev ia (s:Shp) (fs:List (List Int)) (x:Int) (d:Nat):PyData:=.tuple (cA s d fs x (fs.length - d) (fs.length - d)).reverse
theorem Znt {s:Shp} {fs:List (List Int)} {x:Int} {d:Nat} (h:Dy s fs x d):jz 3 nz (λF=>gw F) [s.d,fD fs,.int d,.int x] [ia s fs x d,.int x,fD fs]=.ret (.d (.int (ci s d fs x))):=by
 have a:=h.a
 have hd1:=h.d1
 have dl:=h.dl
 refine Zeu rfl (Zi7 a.days a.l6 _ x) ?_
 have e:=(Zd4 h.dd a.l4 (F:=eK 3 h8 [ia s fs x d,lI (lows fs x)]) (W:=λt c _=>aL s d (fs.drop t) c) (d:=d) (low:=lw fs x) (Zab a h.d1 h.d3 (λt c past ht c1 c2 _=>ZjK ht c1 c2 past) λt c past ht hc=>by
  obtain ⟨day,er⟩:=Zd7 ht
  show c<=aL s d (fs.drop t) c/\aL s d (fs.drop t) c<=s.top
  rw [er]
  have:=ip (g:=csm s d (day::fs.drop (t+1)) (aF s d (fs.drop (t+1)))) (K:=prd (day::fs.drop (t+1)) * s.start) hc
  exact ⟨this.1,this.2.1⟩) (x:=x) (lw0 fs x) a.x2).1
 rw [Zf6 a.f h.d1 (by omega) a.x1 a.x2] at e
 exact e
theorem ZnH {s:Shp} {fs:List (List Int)} {x:Int} {d:Nat} (h:Dy s fs x d) {key:Int} (k0:0<=key) (k1:key < 1000000000):∃ n,jz 2 nA (λF=>gw F) [s.d,fD fs,.int d,.int x] [s.d,.int key]=.ret (.d (.int n))/\nb 1700 n/\ci s d fs x<=n:=by
 have a:=h.a
 have ok:=a.ok
 have td:=ok.td
 have d0:=ok.d0
 have t0:=ok.t0
 have dl:=h.dl
 have l4:=a.l4
 obtain ⟨e,b⟩:=Zd4 h.dd a.l4 (F:=eK 3 h9 [.int key,s.d]) (W:=iE s key) (d:=d) (low:=lw fs x) (Zab a h.d1 h.d3 (λt c past ht c1 c2 hp=>ZjL k0 k1 (by omega) (by have:=jm a.f a.x1 t; omega) c2 (by omega) hp) λt c past _ hc=>Zfs s key t c past hc) (x:=x) (lw0 fs x) a.x2
 refine ⟨_,Zeu rfl (Zi8 s key) e,b,?_⟩
 rw [<- Zif a.f h.d1 (by omega) a.x1 a.x2]
 exact ZeV (λt c past hc=>Zfs s key t c past hc) fs 0 [] x (List.replicate d 0) (λl hl=>(h.dd l hl).1.w0) (by rw [lO,Int.add_zero]; exact a.x2)
theorem Zf9 {s:Shp} {fs:List (List Int)} {x:Int} {d:Nat} (h:Dy s fs x d) {key:Int} (k0:0<=key) (k1:key < 1000000000) (J2 J8 J10 J11:Sl):nv [.un,.pen,J2,.d s.d,.d (fD fs),.d (.int x),.d (.int (prd fs)),.d (.int d),J8,.d (cu (ci s d fs x) (prd fs)),J10,J11,.d (.int key)]=.ret (.next [.un,.pen,J2,.d s.d,.d (fD fs),.d (.int x),.d (.int (prd fs)),.d (.int d),J8,.d (cu (ci s d fs x) (prd fs)),J10,J11,.d (.int key)]):=by
 obtain ⟨n,e,b,le⟩:=ZnH h k0 k1
 have a:=h.a
 have hf:=a.f
 have hl:=hf.len
 have ok:=a.ok
 have x1:=a.x1
 have dep:=a.dep
 have p0:=i7 hf.B
 have p1:=aT (dR hf.B) (show _<=1900 by omega)
 have d3:=h.d3
 have n1:=Zc9 ok hf (d:=d) (by omega) (x:=x) (by omega) a.x2
 obtain ⟨l1,l2⟩:=ZcV n1 p1 (by omega)
 obtain ⟨q1,q2⟩:=ZiN (c:=ci s d fs x) p0
 have f1:=aD b (by decide)
 have f2:=aD l1 (by decide)
 have f3:=aD l2 (by decide)
 have f4:=aD p1 (by decide)
 have hc:decide (n * Gc.dS (ci s d fs x) (prd fs) < Gc.eV (ci s d fs x) (prd fs) * prd fs)=false:=decide_eq_false (by
  rw [q1]
  have:=Int.mul_le_mul_of_nonneg_right le (Int.le_of_lt q2)
  omega)
 simp_arith only [nv,ZdN,ZdM,e,ZgR,ZgQ,f1,f2,f3,f4,hc]
theorem Zdb {s:Shp} {fs:List (List Int)} {x:Int} {d:Nat} (h:Dy s fs x d) (J2 J8 J10 J11:Sl):∀ (l:List Int) (J:Sl),(∀ k∈l,0<=k/\k < 1000000000)->∃ K:Sl,bV (af 12) nv (l.map PyData.int) [.un,.pen,J2,.d s.d,.d (fD fs),.d (.int x),.d (.int (prd fs)),.d (.int d),J8,.d (cu (ci s d fs x) (prd fs)),J10,J11,J]=.ret (.next [.un,.pen,J2,.d s.d,.d (fD fs),.d (.int x),.d (.int (prd fs)),.d (.int d),J8,.d (cu (ci s d fs x) (prd fs)),J10,J11,K])
 | [],J,_=>⟨J,rfl⟩
 | k::l,J,hk=>by
  obtain ⟨k0,k1⟩:=hk k (by simp)
  obtain ⟨K,ih⟩:=Zdb h J2 J8 J10 J11 l (.d (.int k)) λq hq=>hk q (List.mem_cons_of_mem _ hq)
  refine ⟨K,?_⟩
  rw [List.map_cons,dU]
  have g:af 12 (.int k) [.un,.pen,J2,.d s.d,.d (fD fs),.d (.int x),.d (.int (prd fs)),.d (.int d),J8,.d (cu (ci s d fs x) (prd fs)),J10,J11,J]=some [.un,.pen,J2,.d s.d,.d (fD fs),.d (.int x),.d (.int (prd fs)),.d (.int d),J8,.d (cu (ci s d fs x) (prd fs)),J10,J11,.d (.int k)]:=rfl
  rw [g,Tr.of_some,Tr.ret_bind]
  unfold fS
  rw [Zf9 h k0 k1,Tr.ret_bind,dF]
  exact ih
theorem Zga {s:Shp} {fs:List (List Int)} {x:Int} {d:Nat} (h:Dy s fs x d) {ks:List Int} (hk:∀ k∈ks,0<=k/\k < 1000000000) (J8 J9 J10 J11 J12:Sl):∃ K8 K9 K10 K11 K12:Sl,nu [.un,.pen,.d (lI ks),.d s.d,.d (fD fs),.d (.int x),.d (.int (prd fs)),.d (.int d),J8,J9,J10,J11,J12]=.ret (.next [.un,.pen,.d (lI ks),.d s.d,.d (fD fs),.d (.int x),.d (.int (prd fs)),.d (.int d),K8,K9,K10,K11,K12]):=by
 have a:=h.a
 have ok:=a.ok
 have hf:=a.f
 have hl:=hf.len
 have d3:=h.d3
 have dl:=h.dl
 have x1:=a.x1
 have dep:=a.dep
 have td:=ok.td
 have e1:=Zl3 ok hf (d:=d) (by omega) a.x1 a.x2
 have e2:=Zmb ok hf (d:=d) (by omega) a.x1 a.x2
 have p0:=i7 hf.B
 have p1:=aT (dR hf.B) (show _<=1900 by omega)
 have n1:=Zc9 ok hf (d:=d) (by omega) (x:=x) (by omega) a.x2
 have e3:=Zl9 (t:=ci s d fs x) p0 (aT p1 (by decide))
 have ct:=Znt h
 have R1:=Zhi ok hf (d:=d) a.x1 a.x2 (fs.length - d) (p:=fs.length - d) (by omega)
 have R2:=ZbA (t:=ci s d fs x) (b:=prd fs) (aT n1 (by decide)) p1 (Int.ne_of_gt p0)
 have r2:=ZdH (ZbB R2 (by decide) (by decide))
 have r1:=ZdH (ZbB (j4 (xs:=[ia s fs x d,cu (ci s d fs x) (prd fs)]) (k:=4) (n:=4634770) λv hv=>by
  simp only [List.mem_cons,List.not_mem_nil,or_false] at hv
  rcases hv with rfl | rfl
  ·exact R1
  ·exact iW R2 (by decide) (by decide)) (by decide) (by show 2 * 4634770+2 * 2+10<=10000000; decide))
 have e1:jk [.d s.d,.d (fD fs),.d (.int d),.d (.int x)]=.ret (.d (ia s fs x d)):=e1
 have it:gz (lI ks)=.ret (ks.map PyData.int):=rfl
 obtain ⟨K,kl⟩:=Zdb h (.d (lI ks)) (.d (ia s fs x d)) (.d (.str (PyData.tuple [ia s fs x d,cu (ci s d fs x) (prd fs)]).shown)) (.d (.int (ci s d fs x))) ks J12 hk
 generalize ia s fs x d=T at *
 refine ⟨.d T,.d (cu (ci s d fs x) (prd fs)),.d (.str (PyData.tuple [T,cu (ci s d fs x) (prd fs)]).shown),.d (.int (ci s d fs x)),K,?_⟩
 simp_arith only [nu,ZdN,ZdM,e1,e2,r1,ct,r2,e3,beq_self_eq_true,Bool.not_true,it,kl]
theorem lb1 (W Z:Sl):∀ (fs:List (List Int)) (b:Nat) (D:Int) (J:Sl),nb b D->(∀ l∈fs,DayB l)->b+46 * fs.length<=8000->∃ K:Sl,bV (af 3) nr (fs.map tI) [W,Z,.d (.int D),J]=.ret (.next [W,Z,.d (.int (D * prd fs)),K])
 | [],b,D,J,_,_,_=>⟨J,by rw [prd,Int.mul_one]; rfl⟩
 | d::fs,b,D,J,h,hf,hl=>by
  rw [List.length_cons,Nat.mul_succ] at hl
  have hd:=hf d (by simp)
  have sn:=o5 hd
  obtain ⟨K,e⟩:=lb1 W Z fs (b+46) (D * d.sum) (.d (tI d)) (b9 h sn) (λq hq=>hf q (List.mem_cons_of_mem _ hq)) (by omega)
  refine ⟨K,?_⟩
  have f1:=aD h (by omega)
  have f2:=aD sn (by decide)
  have es:bF cF [tI d]=.ret (.int d.sum):=qY d
  have et:nr [W,Z,.d (.int D),.d (tI d)]=.ret (.next [W,Z,.d (.int (D * d.sum)),.d (tI d)]):=by
   simp_arith only [nr,es,f1,f2]
  have eg:af 3 (tI d) [W,Z,.d (.int D),J]=some [W,Z,.d (.int D),.d (tI d)]:=rfl
  have ep:D * d.sum * prd fs=D * prd (d::fs):=by rw [prd,Int.mul_assoc,Int.mul_comm d.sum]
  rw [List.map_cons,dU,eg,Tr.of_some,Tr.ret_bind,g8,et,Tr.ret_bind,dF,e,ep]
theorem Zma {fs:List (List Int)} (hf:FOk fs) (t:Nat):kI [.d (fD fs),.d (.int t)]=.ret (.d (.int (prd (fs.drop t)))):=by
 obtain ⟨K,e⟩:=lb1 (.d (fD fs)) (.d (.int t)) (fs.drop t) 1 1 .un (by show (1:Int).natAbs < 2 ^ 1; decide) (hf.drop t).B (by have:=(hf.drop t).len; omega)
 rw [Int.one_mul] at e
 simp_arith only [kI,jA,kR,e]
theorem Zer {s:Shp} {fs:List (List Int)} {x:Int} (h:Ask s fs x) {ks:List Int} (hk:∀ k∈ks,0<=k/\k < 1000000000):∀ (m t:Nat) (J7 J8 J9 J10 J11 J12:Sl),1<=t->t+m<=4->t+m<=fs.length->∃ K7 K8 K9 K10 K11 K12:Sl,bV (af 7) nu ((aB t m).map PyData.int) [.un,.pen,.d (lI ks),.d s.d,.d (fD fs),.d (.int x),.d (.int (prd fs)),J7,J8,J9,J10,J11,J12]=.ret (.next [.un,.pen,.d (lI ks),.d s.d,.d (fD fs),.d (.int x),.d (.int (prd fs)),K7,K8,K9,K10,K11,K12])
 | 0,t,J7,J8,J9,J10,J11,J12,_,_,_=>⟨J7,J8,J9,J10,J11,J12,rfl⟩
 | m+1,t,J7,J8,J9,J10,J11,J12,h1,h2,h3=>by
  obtain ⟨K8,K9,K10,K11,K12,e⟩:=Zga (d:=t) ⟨h,h1,by omega,by omega⟩ hk J8 J9 J10 J11 J12
  obtain ⟨M7,M8,M9,M10,M11,M12,ih⟩:=Zer h hk m (t+1) (.d (.int t)) K8 K9 K10 K11 K12 (by omega) (by omega) (by omega)
  refine ⟨M7,M8,M9,M10,M11,M12,?_⟩
  rw [gM,List.map_cons,dU]
  have g:af 7 (.int (t:Int)) [.un,.pen,.d (lI ks),.d s.d,.d (fD fs),.d (.int x),.d (.int (prd fs)),J7,J8,J9,J10,J11,J12]=some [.un,.pen,.d (lI ks),.d s.d,.d (fD fs),.d (.int x),.d (.int (prd fs)),.d (.int t),J8,J9,J10,J11,J12]:=rfl
  rw [g,Tr.of_some,Tr.ret_bind]
  unfold fS
  rw [e,Tr.ret_bind,dF]
  exact ih
theorem law_true:Al (mV qG) 2000 λo=>o=.ret (.d (.bool true)):=by
 have pw:aQ gm (.int 10) (.int 9)=.ret (.int 1000000000):=rfl
 have r4:dQ [.int 4]=.ret (ba 0 4):=gC rfl
 have hs:small (ba 0 4).length=true:=ce (by rw [cO]; decide)
 simp_arith only [mV,qG,bE,r4,hs]
 refine gE (n:=4) (n':=1000) (n8 (n:=1) (P:=g6 0 999999999) (Q:=λys=>∃ ks:List Int,ys=ks.map PyData.int/\∀ k∈ks,0<=k/\k < 1000000000) (by rw [cO]; decide) (λx hx=>?_) λys hl hys=>?_) (by decide) ?_
 ·simp_arith only [Zci,bE,pw]
  refine dL (n:=0) (by decide) (by decide) (by decide) λv v0 v1=>?_
  try simp_arith only [bE]
  exact dJ ⟨v,rfl,v0,by omega⟩
 ·obtain ⟨ns,e,hn⟩:=nF hys
  exact ⟨ns,e,λk hk=>by have:=hn k hk; omega⟩
 ·rintro _ ⟨ks,rfl,hk⟩
  have el:PyData.list (ks.map PyData.int)=lI ks:=rfl
  simp_arith only [bE,el]
  refine gE (n:=90) (n':=0) Zhc (by decide) ?_
  rintro _ ⟨s,fs,x,rfl,h⟩
  have l2:=h.l2
  have l4:=h.l4
  have eb:=Zma h.f 0
  rw [List.drop_zero] at eb
  have eb:kI [.d (fD fs),.d (.int 0)]=.ret (.d (.int (prd fs))):=eb
  have ln:bF cP [fD fs]=.ret (.int fs.length):=by
   unfold fD
   rw [kX,List.length_map]
  have hm:mI 3 ((fs.length:Int) - 1)=((fs.length - 1:Nat):Int):=by
   unfold mI
   split <;> omega
  have hr:iZ [.int 1,.int (((fs.length - 1:Nat):Int)+1)]=.ret ((aB ((1:Nat):Int) (fs.length - 1)).map PyData.int):=by
   rw [nO rfl (dE (by omega) (by omega))]
   unfold ba
   rw [show (((fs.length - 1:Nat):Int)+1 - 1).toNat=fs.length - 1 by omega]
   rfl
  obtain ⟨K7,K8,K9,K10,K11,K12,e⟩:=Zer h hk (fs.length - 1) 1 .un .un .un .un .un .un (by omega) (by omega) (by omega)
  simp_arith only [bE,eb,ln,hm,hr,e]
  exact dJ rfl
end My
open PySem PySem.W PyProof.Rows L2
theorem My.g_mk {K:PySem.W.Frag} {mg:Str->Option Value} {h:Heap} (X:K.In h) (G:h.Ns mainGlobals mg) {n:Str} {v:Int} {t:Tok} (z:PySem.W.nsIn K mainGlobals n=some (some (.int v t))):∃ t,mg n=some (.int v t):=⟨_,PySem.W.mg_of X G z⟩
set_option maxRecDepth 100000 in
set_option maxHeartbeats 0 in
theorem PySem.Challenge.cw_twomarks_k44_whole_orders_under_way_holds : PySem.Challenge.rw_twomarks_k44_whole_orders_under_way.Holds := by
 refine My.hd ?_
 k_fill
 refine L2.ZfN (l:=PySem.Challenge.rw_twomarks_k44_whole_orders_under_way) (k:=7) (x:="_law_script") rfl rfl ⟨rfl,by decide,by decide,rfl⟩ ?F
 case F =>
  intro w mg fa h KX G hmg
  have T:My.Txt (L2.KOf KX) mg:=by
   dsimp only [L2.KOf]
   constructor
   all_goals first
    | (refine PySem.W.mg_none_of KX G ?_; k_is)
    | (refine' My.g_mk KX G ?z; (case z=>k_is))
    | (refine' L2.Zmn KX G ?a ?l ?c ?k ?b; (case a=>k_is); (case l=>k_is); (case c=>k_is); (case k=>k_is); (case b=>intro _ _ _ _ _ _ us hl; first | (obtain ⟨_,rfl⟩:=L2.Zc4 hl; rfl) | (obtain ⟨_,_,rfl⟩:=L2.qB hl; rfl) | (obtain ⟨_,_,_,rfl⟩:=L2.kO hl; rfl) | (obtain ⟨_,_,_,_,rfl⟩:=L2.Zc3 hl; rfl) | (obtain ⟨_,_,_,_,_,rfl⟩:=L2.ZiS hl; rfl)))
  obtain ⟨f,fd,F,hm,_⟩:=T.ZmB.ex
  have e0:=hmg.symm.trans hm
  cases e0
  have hb:∀ (s:Shared) (u:Value),BindsTo s fd ⟨[u],[]⟩ [("_law_script",u)]:=by
   obtain ⟨oc,od,kV,doc,pm,an,cdv,ct,osl,rfl,lk,hcd⟩:=F.ex
   exact λs u=>.of_eq rfl
  refine L2.ZfW (x1:="_law_told") (x2:="_law_any") (st1:=My.ik) (st2:=My.iU) (ps1:=["_law_table","_law_stock","_law_falls"]) (ps2:=["_law_shop","_law_key"]) ?h1 ?h2 hb λc1 P1 c2 P2 D1 D2 base BK=>My.Zih T F D1 D2 BK (L2.Tr.ok_mono (L2.Tr.all_ok My.law_true.out (by decide)) λ_ _ h=>h.2)
  case h1 =>
   refine' L2.Zej KX G ?a ?l ?c ?k ?b ?e ?v ?m ?p
   (case a=>k_is); (case l=>k_is); (case c=>k_is); (case k=>k_is); (case b=>intro _ _ _ _ _ _ us hl; obtain ⟨_,_,_,rfl⟩:=L2.kO hl; rfl); (case e=>k_is); (case v=>exact ⟨_,_,_,_,_,_,_,rfl,rfl,rfl,rfl,rfl⟩); (case m=>rfl); (case p=>kernel_rfl!)
  case h2 =>
   refine' L2.Zej KX G ?a ?l ?c ?k ?b ?e ?v ?m ?p
   (case a=>k_is); (case l=>k_is); (case c=>k_is); (case k=>k_is); (case b=>intro _ _ _ _ _ _ us hl; obtain ⟨_,_,rfl⟩:=L2.qB hl; rfl); (case e=>k_is); (case v=>exact ⟨_,_,_,_,_,_,_,rfl,rfl,rfl,rfl,rfl⟩); (case m=>rfl); (case p=>kernel_rfl!)
